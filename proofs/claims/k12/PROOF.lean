import PyProof.Rows.All
import Wide.All
import OpenK.AllK
import Wide.FinOn
import Lean
import PyProof.EqAt
import PyProof.EqKinds
import PyProof.TupleCall
import PyProof.StrWalks
import PyProof.StrLawsIdx
import KE.KIntText
import PyProof.CompFree
import PyProof.Rows.StrPartPair
import PyProof.Rows.StrNews2
import PyProof.Rows.StrRules
import PyProof.ListTruth
import PyProof.NsDelKeeps
import PyProof.ExcArgsOwn
import PyProof.Rows.RegReprOcc
import KE.IntTextLaws
import PySem.Challenge.RW_headroad_k12_lines_refused
section
set_option Elab.async false
set_option linter.all false
set_option maxRecDepth 100000
/-! THE HAND LAYER, for ints, bools, texts, own classes, LISTS and tuples (index, slices, in, append, pop ..), calls, loops. Paste it whole ahead of your own text; what your proof does not reach may be deleted. -/
namespace L2
open PySem PySem.Spec PyProof.Rows

/-- a key: an int or a str -/
abbrev Key := Sum Int Str
def keyIs : Key → Value → Bool
  | .inl k, v => Value.isInt k v
  | .inr x, v => Value.isStrOf x v
def keyH (w : World) : Key → Int
  | .inl k => hashInt k
  | .inr x => hashStr w x
theorem keyIs_shape : ∀ {k : Key} {v : Value}, keyIs k v = true → (∃ i t, k = Sum.inl i ∧ v = Value.int i t) ∨ (∃ x t, k = Sum.inr x ∧ v = Value.str x t)
  | .inl i, v, h => by
    obtain ⟨t, e⟩ := Value.isInt_shape (k := i) (v := v) h
    exact .inl ⟨i, t, rfl, e⟩
  | .inr x, v, h => by
    obtain ⟨t, e⟩ := Value.isStrOf_shape (x := x) (v := v) h
    exact .inr ⟨x, t, rfl, e⟩
theorem key_ll (a b : Int) : decide ((Sum.inl a : Key) = Sum.inl b) = (a == b) := by
  by_cases e : a = b
  · subst e; simp
  · have h : ¬ (Sum.inl a : Key) = Sum.inl b := fun q => e (Sum.inl.inj q)
    rw [decide_eq_false h]
    exact (beq_eq_false_iff_ne.mpr e).symm
theorem key_rr (a b : Str) : decide ((Sum.inr a : Key) = Sum.inr b) = decide (a = b) := by
  by_cases e : a = b
  · subst e; simp
  · have h : ¬ (Sum.inr a : Key) = Sum.inr b := fun q => e (Sum.inr.inj q)
    rw [decide_eq_false h, decide_eq_false e]
theorem key_lr (a : Int) (b : Str) : decide ((Sum.inl a : Key) = Sum.inr b) = false := decide_eq_false (fun q => nomatch q)
theorem key_rl (a : Str) (b : Int) : decide ((Sum.inr a : Key) = Sum.inl b) = false := decide_eq_false (fun q => nomatch q)

def mixKind (prog : Program) (w : World) : PySem.KeyKind prog w Key where
  is := keyIs
  hash := keyH w
  inj := fun v a b ha hb => by
    rcases keyIs_shape ha with ⟨i, t, rfl, rfl⟩ | ⟨x, t, rfl, rfl⟩
    · rcases keyIs_shape hb with ⟨j, u, rfl, e⟩ | ⟨y, u, rfl, e⟩
      · injection e with e1 _; rw [e1]
      · exact nomatch e
    · rcases keyIs_shape hb with ⟨j, u, rfl, e⟩ | ⟨y, u, rfl, e⟩
      · exact nomatch e
      · injection e with e1 _; rw [e1]
  byValue := fun k v h => by
    rcases keyIs_shape h with ⟨i, t, rfl, rfl⟩ | ⟨x, t, rfl, rfl⟩ <;> rfl
  pyHash := fun hv h => by
    rcases keyIs_shape hv with ⟨i, t, rfl, rfl⟩ | ⟨x, t, rfl, rfl⟩
    · exact wpAny_pyHash_int h
    · exact wpAny_pyHash_str h
  eqBool := fun hu hv h => by
    rcases keyIs_shape hu with ⟨i, t, rfl, rfl⟩ | ⟨x, t, rfl, rfl⟩
    · rcases keyIs_shape hv with ⟨j, u, rfl, rfl⟩ | ⟨y, u, rfl, rfl⟩
      · rw [key_ll] at h; exact wpAny_eqBool_int h
      · rw [key_lr] at h; exact SeqAt.EqAt.int_str i t y u _ _ _ _ h
    · rcases keyIs_shape hv with ⟨j, u, rfl, rfl⟩ | ⟨y, u, rfl, rfl⟩
      · rw [key_rl] at h; exact SeqAt.EqAt.str_int x t j u _ _ _ _ h
      · rw [key_rr] at h; exact wpAny_eqBool_str h
  «strs» := fun k x t v h => by
    rcases keyIs_shape h with ⟨i, u, rfl, e⟩ | ⟨y, u, rfl, e⟩
    · exact nomatch e
    · injection e with e1 _
      subst e1
      cases v <;> rfl

end L2

namespace L2
open PySem PySem.Spec PyProof.Rows

/-- a value, without the heap -/
inductive V where
  | non | bl (b : Bool) | int (i : Int) | str (x : Str) | byt (b : Array UInt8) | flt (b : UInt64) | ref (a : Addr) | ty (n : String)
  deriving DecidableEq

def RelV : V → Value → Prop
  | .non, u => u = Value.none
  | .bl b, u => u = Value.bool b
  | .int i, u => ∃ t, u = Value.int i t
  | .str x, u => ∃ t, u = Value.str x t
  | .byt b, u => ∃ t, u = Value.bytes b t
  | .flt b, u => ∃ t, u = Value.float b t
  | .ref a, u => u = Value.ref a
  | .ty n, u => u = Value.type n

abbrev Vals : List V → List Value → Prop := Paired RelV
theorem Vals.length {xs : List V} {us : List Value} (r : Vals xs us) : xs.length = us.length := Paired.length r
theorem Vals.get : ∀ {xs : List V} {us : List Value} {i : Nat} {x : V}, Vals xs us → xs[i]? = some x → ∃ u, us[i]? = some u ∧ RelV x u
  | _, _, _, _, .nil, e => by simp at e
  | _, _, 0, _, .cons r _, e => by simp at e; subst e; exact ⟨_, rfl, r⟩
  | _, _, i + 1, x, .cons _ t, e => by
    obtain ⟨u, h1, h2⟩ := Vals.get (i := i) (x := x) t (by simpa using e)
    exact ⟨u, by simpa using h1, h2⟩
theorem Vals.set {x : V} {u : Value} (r : RelV x u) : ∀ {xs : List V} {us : List Value} (i : Nat), Vals xs us → Vals (xs.set i x) (us.set i u)
  | _, _, _, .nil => .nil
  | _, _, 0, .cons _ t => .cons r t
  | _, _, i + 1, .cons q t => .cons q (Vals.set r i t)
theorem Vals.append : ∀ {xs ys : List V} {us ws : List Value}, Vals xs us → Vals ys ws → Vals (xs ++ ys) (us ++ ws)
  | _, _, _, _, .nil, s => s
  | _, _, _, _, .cons r t, s => .cons r (Vals.append t s)
theorem Vals.take : ∀ {xs : List V} {us : List Value} (n : Nat), Vals xs us → Vals (xs.take n) (us.take n)
  | _, _, 0, _ => .nil
  | _, _, _ + 1, .nil => .nil
  | _, _, n + 1, .cons r t => .cons r (Vals.take n t)
theorem Vals.drop : ∀ {xs : List V} {us : List Value} (n : Nat), Vals xs us → Vals (xs.drop n) (us.drop n)
  | _, _, 0, r => r
  | _, _, _ + 1, .nil => .nil
  | _, _, n + 1, .cons _ t => Vals.drop n t
def RelO : Option V → Option Value → Prop
  | some v, some u => RelV v u
  | none, none => True
  | _, _ => False
def KV {κ : Type} : List (κ × V) → List (κ × Value) → Prop := Paired fun (p : κ × V) (q : κ × Value) => p.1 = q.1 ∧ RelV p.2 q.2

/-- a key of a dict (00_mix): an int or a text -/
def kV : Key → V
  | .inl i => .int i
  | .inr x => .str x

/-- what stands at a tracked address -/
inductive HO where
  /-- a list -/
  | lst (xs : List V)
  /-- a tuple (never changes) -/
  | tup (xs : List V)
  /-- a dict whose keys are ints and texts; one whose keys are tuples of ints and texts (the empty one is both) -/
  | dK (kvs : List (Key × V)) | dT (kvs : List (List Key × V))
  /-- a set of ints: its members, its size -/
  | set (S : Int → Bool) (n : Nat)
  /-- an instance of the class at C, its dict at dx, its attributes -/
  | ins (C dx : Addr) (fs : List (Str × V))
  /-- the dict of the instance at x -/
  | own (x : Addr)
  /-- the dict of an exception -/
  | xd (fs : List (Str × V))
  /-- a bound method, f of x -/
  | met (f x : Addr)
  /-- a range object lo, lo + 1, .. below hi -/
  | rng (lo hi : Int)
  /-- a thing that is known to the object (the script; a dict while a loop walks it): read, never written while it is so -/
  | frz (o : Obj) (u : HO)
  /-- a code object's table -/
  | tbl (ps : Array Value)
  /-- any other thing, by what is true of its one object (a def of one's own: SetO a S n := HO.ext fun h => ..) -/
  | ext (φ : Heap → Prop)

abbrev Hp := Addr → Option HO
def upd (H : Hp) (a : Addr) (o : HO) : Hp := fun b => if b = a then some o else H b
theorem upd_same {H : Hp} {a : Addr} {o : HO} : upd H a o a = some o := by unfold upd; rw [if_pos rfl]
theorem upd_ne {H : Hp} {a b : Addr} {o : HO} (h : b ≠ a) : upd H a o b = H b := by unfold upd; rw [if_neg h]
theorem upd_upd {H : Hp} {a : Addr} {o u : HO} : upd (upd H a o) a u = upd H a u := by
  funext b; unfold upd; split <;> rfl
theorem ne_of_none {H : Hp} {a b : Addr} {o : HO} (h : H a = some o) (h' : H b = none) : a ≠ b := by
  intro e; subst e; rw [h] at h'; cases h'

section
variable (P : Program) (w : World)
def ObjOk (H : Hp) (h : Heap) (a : Addr) : HO → Prop
  | .lst xs => xs.length ≤ sizeLine ∧ ∃ (its : List Value) (n : Nat), Vals xs its ∧ h.get? a = some { cls := .type "list", data := .seq its.toArray n }
  | .tup xs => xs.length ≤ sizeLine ∧ ∃ its : List Value, Vals xs its ∧ IsTup h a its.toArray
  | .dK kvs => kvs.length ≤ sizeLine ∧ (a == sysModules) = false ∧ ∃ vs, KV kvs vs ∧ h.DictOf (mixKind P w) a vs
  | .dT kvs => kvs.length ≤ sizeLine ∧ (a == sysModules) = false ∧ ∃ xs : List (List Key × Addr × Value),
      Paired (fun (p : List Key × V) (q : List Key × Addr × Value) => p.1 = q.1 ∧ H q.2.1 = some (.tup (p.1.map kV)) ∧ RelV p.2 q.2.2) kvs xs ∧
      ∃ o es ep, h.get? a = some o ∧ o.ExactDict ∧ o.data = .dict es ep ∧ es.toList = xs.map (entryOfKey (tupleKind (mixKind P w))) ∧ (xs.map (·.1)).Nodup
  | .set S n => h.SetOf (intKind P w) a S n
  | .ins C dx fs => H dx = some (.own a) ∧ fs.length ≤ 1000 ∧ dx ≠ a ∧ h.get? a = some (PySem.W.instObj C dx) ∧
      ∃ mA, h.Ns1 dx mA ∧ (∀ f, RelO (fs.lookup f) (mA f)) ∧ PySem.Within mA (fs.map (·.1))
  | .own _ => ∃ o, h.get? a = some o
  | .xd fs => ∃ mA, h.Ns1 a mA ∧ ∀ f, RelO (fs.lookup f) (mA f)
  | .rng lo hi => ∃ t u v, h.get? a = some { cls := .type "range", data := .fields #[.int lo t, .int hi u, .int 1 v] }
  | .frz o u => h.get? a = some o ∧ ObjOk H h a u
  | .tbl ps => h.get? a = some { cls := .none, data := .fields ps }
  | .met f x => h.get? a = some (PySem.W.methodObj (.ref f) (.ref x))
  | .ext φ => φ h ∧ (∃ o, h.get? a = some o) ∧ ∀ h1 h2 : Heap, φ h1 → (∀ o, h1.get? a = some o → h2.get? a = some o) → φ h2
/-- the abstract heap is held -/
def HOk (H : Hp) (h : Heap) : Prop := ∀ a o, H a = some o → ObjOk P w H h a o
end

section
variable {P : Program} {w : World} {H H' : Hp} {h h' : Heap} {a : Addr} {o : HO}
theorem ObjOk.lt (x : ObjOk P w H h a o) : a < h.objs.size := by
  cases o with
  | lst xs => obtain ⟨_, _, _, _, e⟩ := x; exact Heap.lt_size e
  | tup xs => obtain ⟨_, _, _, p⟩ := x; exact p.lt
  | dK kvs => obtain ⟨_, _, _, _, o, _, _, e, _⟩ := x; exact Heap.lt_size e
  | dT kvs => obtain ⟨_, _, _, _, o, _, _, e, _⟩ := x; exact Heap.lt_size e
  | set S n => obtain ⟨o, _, _, _, e, _⟩ := x; exact Heap.lt_size e
  | ins C dx fs => obtain ⟨_, _, _, e, _⟩ := x; exact Heap.lt_size e
  | own y => obtain ⟨_, e⟩ := x; exact Heap.lt_size e
  | xd fs => obtain ⟨_, ⟨_, _, _, e, _⟩, _⟩ := x; exact Heap.lt_size e
  | rng lo hi => obtain ⟨_, _, _, e⟩ := x; exact Heap.lt_size e
  | frz ob u => obtain ⟨e, _⟩ := x; exact Heap.lt_size e
  | tbl ps => exact Heap.lt_size (show h.get? a = some _ from x)
  | met f y => exact Heap.lt_size (show h.get? a = some _ from x)
  | ext φ => obtain ⟨_, ⟨_, e⟩, _⟩ := x; exact Heap.lt_size e
theorem Paired.mapP {α β : Type} {F G : α → β → Prop} : ∀ {l₁ : List α} {l₂ : List β}, Paired F l₁ l₂ → (∀ a b, F a b → G a b) → Paired G l₁ l₂
  | _, _, .nil, _ => .nil
  | _, _, .cons r t, f => .cons (f _ _ r) (Paired.mapP t f)
/-- what an object's description leans on: its own object, its own dict, the tuples -/
theorem ObjOk.stay (x : ObjOk P w H h a o) (k : ∀ b u, (b = a ∨ H b = some (.own a)) → h.get? b = some u → h'.get? b = some u)
    (ho : ∀ b, H b = some (.own a) → H' b = some (.own a)) (ht : ∀ b xs, H b = some (.tup xs) → H' b = some (.tup xs)) : ObjOk P w H' h' a o := by
  induction o with
  | lst xs => obtain ⟨z, its, n, r, e⟩ := x; exact ⟨z, its, n, r, k _ _ (.inl rfl) e⟩
  | tup xs => obtain ⟨z, its, r, ob, e, c⟩ := x; exact ⟨z, its, r, ob, k _ _ (.inl rfl) e, c⟩
  | dK kvs => obtain ⟨z, y, vs, r, ob, es, ep, e, c⟩ := x; exact ⟨z, y, vs, r, ob, es, ep, k _ _ (.inl rfl) e, c⟩
  | dT kvs =>
    obtain ⟨z, y, xs, r, ob, es, ep, e, c⟩ := x
    exact ⟨z, y, xs, Paired.mapP r fun p q z => ⟨z.1, ht _ _ z.2.1, z.2.2⟩, ob, es, ep, k _ _ (.inl rfl) e, c⟩
  | set S n => obtain ⟨ob, es, ep, t, e, c⟩ := x; exact ⟨ob, es, ep, t, k _ _ (.inl rfl) e, c⟩
  | ins C dx fs =>
    obtain ⟨d, z, ne, e, mA, ⟨od, es, ep, e2, c⟩, r⟩ := x
    exact ⟨ho _ d, z, ne, k _ _ (.inl rfl) e, mA, ⟨od, es, ep, k _ _ (.inr d) e2, c⟩, r⟩
  | own y => obtain ⟨ob, e⟩ := x; exact ⟨ob, k _ _ (.inl rfl) e⟩
  | xd fs => obtain ⟨mA, ⟨od, es, ep, e, c⟩, r⟩ := x; exact ⟨mA, ⟨od, es, ep, k _ _ (.inl rfl) e, c⟩, r⟩
  | rng lo hi => obtain ⟨t, u, v, e⟩ := x; exact ⟨t, u, v, k _ _ (.inl rfl) e⟩
  | frz ob u ih => obtain ⟨e, q⟩ := x; exact ⟨k _ _ (.inl rfl) e, ih q⟩
  | tbl ps =>
    have e : h.get? a = some { cls := .none, data := .fields ps } := x
    show h'.get? a = some { cls := .none, data := .fields ps }
    exact k a _ (.inl rfl) e
  | met f y =>
    have e : h.get? a = some (PySem.W.methodObj (.ref f) (.ref y)) := x
    show h'.get? a = some (PySem.W.methodObj (.ref f) (.ref y))
    exact k a _ (.inl rfl) e
  | ext φ => obtain ⟨p, ⟨o, e⟩, st⟩ := x; exact ⟨st _ _ p fun o q => k _ _ (.inl rfl) q, ⟨o, k _ _ (.inl rfl) e⟩, st⟩
theorem HOk.lt (x : HOk P w H h) (e : H a = some o) : a < h.objs.size := (x a o e).lt
theorem HOk.fresh (x : HOk P w H h) (e : h.objs.size ≤ a) : H a = none := by
  cases q : H a with
  | none => rfl
  | some u => exact absurd (Nat.lt_of_lt_of_le (x.lt q) e) (Nat.lt_irrefl _)
/-- every object of the heap is kept -/
theorem HOk.kept (x : HOk P w H h) (k : ∀ b u, h.get? b = some u → h'.get? b = some u) : HOk P w H h' := fun a o e =>
  (x a o e).stay (fun b u _ q => k b u q) (fun _ q => q) fun _ _ q => q
/-- a new object is laid and tracked -/
theorem HOk.laid (x : HOk P w H h) (k : ∀ b u, h.get? b = some u → h'.get? b = some u) (hp : h.objs.size ≤ a) (new : ObjOk P w (upd H a o) h' a o) : HOk P w (upd H a o) h' := fun b u e => by
  have hn := x.fresh hp
  by_cases hb : b = a
  · subst hb; rw [upd_same] at e; cases e; exact new
  · rw [upd_ne hb] at e
    exact (x b u e).stay (fun c v _ q => k c v q) (fun c q => by rw [upd_ne (ne_of_none q hn)]; exact q) fun c xs q => by rw [upd_ne (ne_of_none q hn)]; exact q
end

/-- what may be read as u: it is u, or a known u -/
def Rd (H : Hp) (a : Addr) (u : HO) : Prop := H a = some u ∨ ∃ o, H a = some (.frz o u)
theorem Rd.of {H : Hp} {a : Addr} {u : HO} (h : H a = some u) : Rd H a u := .inl h
theorem Rd.ok {P : Program} {w : World} {H : Hp} {h : Heap} {a : Addr} {u : HO} (r : Rd H a u) (x : HOk P w H h) : ObjOk P w H h a u := by
  rcases r with r | ⟨o, r⟩
  · exact x a u r
  · obtain ⟨_, q⟩ := x a _ r
    exact q
/-- what may be written -/
def Mut : Option HO → Prop
  | some (.lst _) => True
  | some (.dK _) => True
  | some (.dT _) => True
  | some (.set _ _) => True
  | some (.ins _ _ _) => True
  | some (.ext _) => True
  | _ => False
section
variable {P : Program} {w : World} {H : Hp} {h h' : Heap} {x e : Addr} {o' : HO}
/-- the object at e is changed: x itself, or the dict of the instance x -/
theorem HOk.write (ok : HOk P w H h) (mu : Mut (H x)) (he : e = x ∨ H e = some (.own x)) (k : ∀ b u, b ≠ e → h.get? b = some u → h'.get? b = some u) (heo : ∃ u, h'.get? e = some u)
    (new : ObjOk P w (upd H x o') h' x o') : HOk P w (upd H x o') h' := fun b u q => by
  have nown : ∀ c y, H c = some (.own y) → c ≠ x := fun c y r z => by subst z; rw [r] at mu; exact mu
  have ntup : ∀ c xs, H c = some (.tup xs) → c ≠ x := fun c xs r z => by subst z; rw [r] at mu; exact mu
  by_cases hb : b = x
  · subst hb; rw [upd_same] at q; cases q; exact new
  · rw [upd_ne hb] at q
    by_cases hbe : b = e
    · have q' : H b = some (.own x) := by
        rcases he with z | z
        · exact absurd (hbe.trans z) hb
        · rw [hbe]; exact z
      rw [q] at q'; cases q'
      obtain ⟨v, hv⟩ := heo
      exact ⟨v, by rw [hbe]; exact hv⟩
    · refine (ok b u q).stay (fun c v hc r => k c v ?_ r) (fun c r => by rw [upd_ne (nown c b r)]; exact r) fun c xs r => by rw [upd_ne (ntup c xs r)]; exact r
      rcases hc with rfl | hc
      · exact hbe
      · rintro rfl
        rcases he with z | z
        · exact nown c b hc z
        · rw [hc] at z; cases z; exact hb rfl
end

/-! ### kept unless tracked; of the frames at fs (the callers') the slots may change (an exception that passes writes there); of the records at ex (iterators) nothing is said -/
structure Un (fs ex : List Addr) (H H' : Hp) (h h' : Heap) : Prop where
  keep : ∀ b o, h.get? b = some o → H b = none → b ∉ fs → b ∉ ex → h'.get? b = some o
  slot : ∀ b o, h.get? b = some o → H b = none → b ∈ fs → b ∉ ex → ∃ sl, h'.get? b = some { o with slots := sl }
  free : ∀ b o, h.get? b = some o → H b = none → b ∉ ex → H' b = none
  there : ∀ b o, h.get? b = some o → b ∉ ex → ∃ o', h'.get? b = some o'
  tups : ∀ b xs, H b = some (.tup xs) → H' b = some (.tup xs)
  frzs : ∀ b o u, H b = some (.frz o u) → H' b = some (.frz o u)
  tbls : ∀ b ps, H b = some (.tbl ps) → ∃ more, H' b = some (.tbl (ps ++ more))
section
variable {fs fs' ex ex' : List Addr} {H H1 H2 : Hp} {h h1 h2 h' : Heap} {a x e : Addr} {o : HO}
theorem Un.any (u : Un fs ex H H1 h h1) {b : Addr} {ob : Obj} (q : h.get? b = some ob) (n : H b = none) (hx : b ∉ ex) : ∃ sl, h1.get? b = some { ob with slots := sl } := by
  by_cases hb : b ∈ fs
  · exact u.slot b ob q n hb hx
  · exact ⟨ob.slots, u.keep b ob q n hb hx⟩
theorem Un.trans (a : Un fs ex H H1 h h1) (b : Un fs ex H1 H2 h1 h2) : Un fs ex H H2 h h2 where
  keep := fun c ob q n hc hx => b.keep c ob (a.keep c ob q n hc hx) (a.free c ob q n hx) hc hx
  slot := fun c ob q n hc hx => by
    obtain ⟨sl, e1⟩ := a.slot c ob q n hc hx
    obtain ⟨sl', e2⟩ := b.slot c _ e1 (a.free c ob q n hx) hc hx
    exact ⟨sl', e2⟩
  free := fun c ob q n hx => by
    obtain ⟨o', e1⟩ := a.there c ob q hx
    exact b.free c o' e1 (a.free c ob q n hx) hx
  there := fun c ob q hx => by
    obtain ⟨o', e1⟩ := a.there c ob q hx
    exact b.there c o' e1 hx
  tups := fun c xs q => b.tups c xs (a.tups c xs q)
  frzs := fun c ob xs q => b.frzs c ob xs (a.frzs c ob xs q)
  tbls := fun c ps q => by
    obtain ⟨m1, e1⟩ := a.tbls c ps q
    obtain ⟨m2, e2⟩ := b.tbls c _ e1
    exact ⟨m1 ++ m2, by rw [e2, Array.append_assoc]⟩
theorem Un.kept (k : ∀ b u, h.get? b = some u → h'.get? b = some u) : Un fs ex H H h h' :=
  ⟨fun b ob q _ _ _ => k b ob q, fun b ob q _ _ _ => ⟨ob.slots, k b ob q⟩, fun _ _ _ n _ => n, fun b ob q _ => ⟨ob, k b ob q⟩, fun _ _ q => q, fun _ _ _ q => q, fun _ ps q => ⟨#[], by rw [q]; simp⟩⟩
theorem Un.refl : Un fs ex H H h h := Un.kept fun _ _ q => q
theorem Un.laid (k : ∀ b u, h.get? b = some u → h'.get? b = some u) (hp : h.objs.size ≤ a) (hn : H a = none) : Un fs ex H (upd H a o) h h' where
  keep := fun b u q _ _ _ => k b u q
  slot := fun b u q _ _ _ => ⟨u.slots, k b u q⟩
  free := fun b u q n _ => by rw [upd_ne (Nat.ne_of_lt (Nat.lt_of_lt_of_le (Heap.lt_size q) hp))]; exact n
  there := fun b u q _ => ⟨u, k b u q⟩
  tups := fun b xs q => by rw [upd_ne (ne_of_none q hn)]; exact q
  frzs := fun b u xs q => by rw [upd_ne (ne_of_none q hn)]; exact q
  tbls := fun b ps q => ⟨#[], by rw [upd_ne (ne_of_none q hn), q]; simp⟩
theorem Un.write (mu : Mut (H x)) (he : e = x ∨ H e = some (.own x)) (k : ∀ b u, b ≠ e → h.get? b = some u → h'.get? b = some u) (heo : ∃ u, h'.get? e = some u) : Un fs ex H (upd H x o) h h' := by
  have hx : ∀ b, H b = none → b ≠ x := fun b n z => by subst z; rw [n] at mu; exact mu
  have hb : ∀ b, H b = none → b ≠ e := fun b n z => by
    subst z
    rcases he with r | r
    · exact hx b n r
    · rw [n] at r; cases r
  have hm : ∀ b u, H b = some u → ¬ Mut (some u) → b ≠ x := fun b u q nm z => by subst z; rw [q] at mu; exact nm mu
  refine ⟨fun b u q n _ _ => k b u (hb b n) q, fun b u q n _ _ => ⟨u.slots, k b u (hb b n) q⟩, fun b u q n _ => by rw [upd_ne (hx b n)]; exact n, fun b u q _ => ?_,
    fun b xs q => by rw [upd_ne (hm b _ q fun z => z)]; exact q, fun b u xs q => by rw [upd_ne (hm b _ q fun z => z)]; exact q, fun b ps q => ⟨#[], by rw [upd_ne (hm b _ q fun z => z), q]; simp⟩⟩
  by_cases hbe : b = e
  · subst hbe; exact heo
  · exact ⟨u, k b u hbe q⟩
theorem Un.mono (u : Un fs ex H H1 h h1) (hs : ∀ b ∈ fs, b ∈ fs') (hx : ∀ b ∈ ex, b ∈ ex') : Un fs' ex' H H1 h h1 :=
  ⟨fun b ob q n hb he => u.keep b ob q n (fun z => hb (hs b z)) fun z => he (hx b z), fun _ _ q n _ he => u.any q n fun z => he (hx _ z), fun b ob q n he => u.free b ob q n fun z => he (hx b z), fun b ob q he => u.there b ob q fun z => he (hx b z), u.tups, u.frzs, u.tbls⟩
end

/-! ### the heap without what is tracked -/
def trk (h : Heap) (H : Hp) : List Addr := (List.range h.objs.size).filter fun a => (H a).isSome
def hidT (h : Heap) (H : Hp) : Heap := PySem.W.hideAll h (trk h H)
theorem hidT_size (h : Heap) (H : Hp) : (hidT h H).objs.size = h.objs.size := PySem.W.hideAll_size _ _
theorem hidT_get {h : Heap} {H : Hp} {b : Addr} {o : Obj} (e : h.get? b = some o) (n : H b = none) : (hidT h H).get? b = some o :=
  PySem.W.hideAll_get _ e fun hm => by
    have q : (H b).isSome = true := (List.mem_filter.mp hm).2
    rw [n] at q; simp at q
theorem of_hidT {h : Heap} {H : Hp} {b : Addr} {o : Obj} (e : (hidT h H).get? b = some o) : h.get? b = some o ∧ H b = none := by
  have e' : h.get? b = some o := PySem.W.of_hideAll (trk h H) e
  refine ⟨e', ?_⟩
  cases q : H b with
  | none => rfl
  | some x =>
    have hm : b ∈ trk h H := List.mem_filter.mpr ⟨List.mem_range.mpr (Heap.lt_size e'), by simp [q]⟩
    have z : (hidT h H).get? b = none := PySem.W.hideAll_none (trk h H) hm
    rw [z] at e; cases e

/-! ### OpenK's ledger, filled with every new object but one -/
def allNews (g h : Heap) (L : Addr) : List (Addr × Obj) := (List.range h.objs.size).filterMap fun a => if a = L ∨ (g.get? a).isSome = true then none else (h.get? a).map fun o => (a, o)
def rest (g h : Heap) (L d : Addr) : List (Addr × Obj) := (allNews g h L).filter fun p => decide (p.1 ≠ d)
end L2

namespace L2
open PySem PySem.Spec PyProof.Rows

/-- the module's facts, over the base: the heap at the law's entry without what is tracked there -/
structure Mod (K : PySem.W.Frag) (mg : Str → Option Value) (base : Heap) : Prop where
  kin : K.In base
  glob : base.Ns mainGlobals mg
  blt : ∃ mb, base.Ns builtinsNs mb ∧ ∀ x : Str, x ≠ "__name__" → mb x = bootBuiltins x
  nolimit : base.NoLimit

/-- the context: a def's body (or a comprehension's block) running. base: fixed through the whole law; s₀, H₀: the entry; outer: the frames whose slots others may change (a def's callers); stack: all frames that run;
   ex: iterators that were made ahead of the entry and are walked here (a comprehension's); fn: the names whose cells were made at the entry (a def: all; a comprehension's block: its own); calm: not within an except suite; pn: pins that every state bears; xe: what is wanted of an exception that leaves the code -/
structure Cx where
  prog : Program
  w : World
  K : PySem.W.Frag
  mg : Str → Option Value
  base : Heap
  A : Around
  N : List Str
  s₀ : Shared
  H₀ : Hp
  env : Env
  outer : List Env
  stack : List Env
  ex : List Addr
  fn : Str → Bool
  calm : Bool
  pn : List (Addr × Obj)
  xe : Value → Shared → Prop
/-- the callers' frames -/
def frs (l : List Env) : List Addr := l.filterMap (·.frame)
abbrev Cx.fs (X : Cx) : List Addr := frs X.outer

def Vis (sc : Scope) (x : Str) : Prop := sc.names.lookup x = some .local ∨ sc.names.lookup x = some .cell ∨ sc.names.lookup x = some .free
def Loc (sc : Scope) (x : Str) : Prop := sc.names.lookup x = some .local ∨ sc.names.lookup x = some .cell
def Look (env : Env) (h : Heap) (m : Str → Option Value) (x : Str) (u : Value) : Prop :=
  (env.kindOf x = some .local ∧ m x = some u) ∨ ((env.kindOf x = some .cell ∨ env.kindOf x = some .free) ∧ ∃ c, env.cells.lookup x = some c ∧ h.IsCell c (some u))

structure Cx.Ok (X : Cx) : Prop where
  mod : Mod X.K X.mg X.base
  kind : X.env.scope.kind = .function
  glob : X.env.globals = mainGlobals
  blt : X.env.builtins = builtinsNs
  above : X.s₀.heap.objs.size ≤ X.env.locals
  inj : ∀ x y c, X.env.cells.lookup x = some c → X.env.cells.lookup y = some c → x = y
  has : ∀ x, (X.env.kindOf x = some .cell ∨ X.env.kindOf x = some .free) → ∃ c, X.env.cells.lookup x = some c
  cab : ∀ x c, X.fn x = true → X.env.cells.lookup x = some c → X.s₀.heap.objs.size ≤ c
  hd : X.calm = true → X.A.handled = none
  frames : X.A.frames = some X.stack
  stk : X.stack = X.outer ∨ (X.stack = X.env :: X.outer ∧ X.env.frame = some X.env.locals)
  exf : ∀ b ∈ X.ex, b ≠ X.env.locals ∧ ∀ x c, X.env.cells.lookup x = some c → c ≠ b
  bs : ∀ b o, X.base.get? b = some o → X.s₀.heap.get? b = some o ∧ X.H₀ b = none
  bsz : X.base.objs.size ≤ X.s₀.heap.objs.size
  noex : ∀ b o, X.base.get? b = some o → b ∉ X.ex
  exfs : ∀ b ∈ X.ex, b ∉ X.fs
  funs : X.s₀.heap.FunFrames X.base X.outer
  frf : ∀ b ∈ X.fs, X.H₀ b = none

structure Inv (X : Cx) (pins : List (Addr × Obj)) (σ : List (Option V)) (H : Hp) (s : Shared) : Prop where
  ok : X.Ok
  os : s.os = X.s₀.os
  bare : AllBare s.gens
  base : Un X.fs X.ex X.H₀ H X.s₀.heap s.heap
  loc : ∃ m, s.heap.Ns X.env.locals m ∧ ∀ (i : Nat) (x : Str) (v : V), X.N[i]? = some x → σ[i]? = some (some v) → Vis X.env.scope x → ∃ u, RelV v u ∧ Look X.env s.heap m x u
  cell : ∀ x c, X.env.cells.lookup x = some c → ∃ v, s.heap.IsCell c v
  free : H X.env.locals = none
  freeC : ∀ x c, X.env.cells.lookup x = some c → H c = none
  pin : ∀ p ∈ X.pn ++ pins, s.heap.get? p.1 = some p.2 ∧ H p.1 = none ∧ p.1 ≠ X.env.locals ∧ p.1 ∉ X.fs ∧ ∀ v, p.2.data ≠ .cell v
  hok : HOk X.prog X.w H s.heap
  len : σ.length = X.N.length

section
variable {X : Cx} {pins : List (Addr × Obj)} {σ : List (Option V)} {H H' : Hp} {s : Shared} {h' : Heap}

theorem Cx.Ok.nofr (ok : X.Ok) {b : Addr} {o : Obj} (e : X.base.get? b = some o) : b ∉ X.fs := fun hb => by
  have := (ok.funs.mem hb).1
  rw [e] at this; cases this
theorem Inv.bs (I : Inv X pins σ H s) : ∀ b o, X.base.get? b = some o → s.heap.get? b = some o ∧ H b = none := fun b o e =>
  ⟨I.base.keep b o (I.ok.bs b o e).1 (I.ok.bs b o e).2 (I.ok.nofr e) (I.ok.noex b o e), I.base.free b o (I.ok.bs b o e).1 (I.ok.bs b o e).2 (I.ok.noex b o e)⟩
theorem Inv.bk (I : Inv X pins σ H s) : ∀ b o, X.base.get? b = some o → s.heap.get? b = some o := fun b o e => (I.bs b o e).1
theorem Inv.mod (I : Inv X pins σ H s) : Mod X.K X.mg X.base := I.ok.mod
theorem Inv.kIn (I : Inv X pins σ H s) : X.K.In s.heap := I.ok.mod.kin.keeps I.bk
theorem Inv.nolimit (I : Inv X pins σ H s) : s.heap.NoLimit := I.ok.mod.nolimit.keeps I.bk
theorem Inv.lt (I : Inv X pins σ H s) : X.env.locals < s.heap.objs.size := let ⟨_, hn, _⟩ := I.loc; hn.lt
theorem Inv.sz (I : Inv X pins σ H s) : X.s₀.heap.objs.size ≤ s.heap.objs.size := Nat.le_trans I.ok.above (Nat.le_of_lt I.lt)
theorem Inv.nofs (I : Inv X pins σ H s) {a : Addr} (h : s.heap.objs.size ≤ a) : a ∉ X.fs := fun hb => by
  obtain ⟨_, o, ho, _⟩ := I.ok.funs.mem hb
  exact absurd (Nat.lt_of_lt_of_le (Heap.lt_size ho) (Nat.le_trans I.sz h)) (Nat.lt_irrefl _)
theorem Inv.cne (I : Inv X pins σ H s) : ∀ x c, X.env.cells.lookup x = some c → c ≠ X.env.locals := fun x c e z => by
  obtain ⟨v, o, ho, hd⟩ := I.cell x c e
  obtain ⟨m, ⟨o', es, ep, ho', hd', _⟩, _⟩ := I.loc
  rw [z, ho'] at ho; cases ho; rw [hd'] at hd; cases hd
theorem Inv.funs (I : Inv X pins σ H s) : s.heap.FunFrames X.base X.outer := by
  have all : ∀ (l : List Env), (∀ b ∈ frs l, b ∈ X.fs) → X.s₀.heap.FunFrames X.base l → s.heap.FunFrames X.base l := by
    intro l
    induction l with
    | nil => intro _ _; trivial
    | cons env r ih =>
      intro hs hl
      obtain ⟨hk, ⟨L, o, hf, hn, ho, hd⟩, hr⟩ := hl
      have hL : L ∈ X.fs := hs L (by unfold frs; rw [List.filterMap_cons, hf]; exact List.mem_cons_self)
      obtain ⟨sl, e⟩ := I.base.slot L o ho (I.ok.frf L hL) hL fun z => I.ok.exfs L z hL
      exact ⟨hk, ⟨L, _, hf, hn, e, hd⟩, ih (fun b hb => hs b (by unfold frs; rw [List.filterMap_cons, hf]; exact List.mem_cons_of_mem _ hb)) hr⟩
  exact all X.outer (fun _ hb => hb) I.ok.funs

/-- the frames that run, for a call -/
theorem Inv.stack (I : Inv X pins σ H s) : s.heap.FunFrames X.base X.stack := by
  rcases I.ok.stk with e | ⟨e, hf⟩
  · rw [e]; exact I.funs
  · rw [e]
    obtain ⟨m, hn, _⟩ := I.loc
    refine .cons (by rw [I.ok.kind]; decide) hf hn ?_ I.funs
    exact Heap.get?_none_of_le (Nat.le_trans I.ok.bsz I.ok.above)
theorem Inv.stkSub (I : Inv X pins σ H s) : ∀ b ∈ frs X.stack, b ∈ X.env.locals :: X.fs := fun b hb => by
  rcases I.ok.stk with e | ⟨e, hf⟩
  · rw [e] at hb; exact List.mem_cons_of_mem _ hb
  · rw [e] at hb
    unfold frs at hb
    rw [List.filterMap_cons, hf] at hb
    exact hb
theorem Inv.stkFree (I : Inv X pins σ H s) : ∀ b ∈ frs X.stack, H b = none := fun b hb => by
  rcases List.mem_cons.mp (I.stkSub b hb) with e | hb
  · rw [e]; exact I.free
  · obtain ⟨_, o, ho, _⟩ := I.ok.funs.mem hb
    exact I.base.free b o ho (I.ok.frf b hb) fun z => I.ok.exfs b z hb

/-- THE STEP: the untracked objects but the frame and the records at ch are kept (the callers' frames up to slots), the frame's map is kept, the new abstract heap is held -/
theorem Inv.step {g' : Array GenState} {t' : Nat} {d' : Drawn} {ch : List Addr} (I : Inv X pins σ H s)
    (hch : ∀ b ∈ ch, (b ∈ X.ex ∨ X.s₀.heap.objs.size ≤ b) ∧ b ≠ X.env.locals ∧ (∀ x c, X.env.cells.lookup x = some c → c ≠ b) ∧ ∀ p ∈ X.pn ++ pins, p.1 ≠ b)
    (keep : ∀ b o, b ≠ X.env.locals → b ∉ X.fs → b ∉ ch → s.heap.get? b = some o → H b = none → h'.get? b = some o)
    (slot : ∀ b o, b ≠ X.env.locals → b ∈ X.fs → b ∉ ch → s.heap.get? b = some o → H b = none → ∃ sl, h'.get? b = some { o with slots := sl }) (free : ∀ b o, b ∉ ch → s.heap.get? b = some o → H b = none → H' b = none)
    (there : ∀ b o, b ∉ ch → s.heap.get? b = some o → ∃ o', h'.get? b = some o')
    (tups : ∀ b xs, H b = some (.tup xs) → H' b = some (.tup xs)) (frzs : ∀ b o u, H b = some (.frz o u) → H' b = some (.frz o u)) (tbls : ∀ b ps, H b = some (.tbl ps) → ∃ more, H' b = some (.tbl (ps ++ more)))
    (ns : ∀ m, s.heap.Ns X.env.locals m → h'.Ns X.env.locals m) (hok : HOk X.prog X.w H' h') (hg : AllBare g') :
    Inv X pins σ H' { s with heap := h', gens := g', drawn := d', toks := t' } := by
  have neL : ∀ b o, X.s₀.heap.get? b = some o → b ≠ X.env.locals := fun b o e => Nat.ne_of_lt (Nat.lt_of_lt_of_le (Heap.lt_size e) I.ok.above)
  have neC : ∀ b o, X.s₀.heap.get? b = some o → b ∉ X.ex → b ∉ ch := fun b o e hx hb => by
    rcases (hch b hb).1 with z | z
    · exact hx z
    · exact absurd (Nat.lt_of_lt_of_le (Heap.lt_size e) z) (Nat.lt_irrefl _)
  have cellK : ∀ x c, X.env.cells.lookup x = some c → ∀ v, s.heap.IsCell c v → h'.IsCell c v := fun x c e v ⟨o, ho, hd⟩ => by
    have nch : c ∉ ch := fun z => (hch c z).2.2.1 x c e rfl
    by_cases hc : c ∈ X.fs
    · obtain ⟨sl, q⟩ := slot c o (I.cne x c e) hc nch ho (I.freeC x c e)
      exact ⟨_, q, hd⟩
    · exact ⟨o, keep c o (I.cne x c e) hc nch ho (I.freeC x c e), hd⟩
  refine ⟨I.ok, I.os, hg, ⟨fun b o e n hb hx => ?_, fun b o e n hb hx => ?_, fun b o e n hx => ?_, fun b o e hx => ?_, fun b xs e => tups b xs (I.base.tups b xs e), fun b o xs e => frzs b o xs (I.base.frzs b o xs e), fun b ps e => ?_⟩, ?_, fun x c e => ?_, ?_, fun x c e => ?_, fun p hp => ?_, hok, I.len⟩
  · exact keep b o (neL b o e) hb (neC b o e hx) (I.base.keep b o e n hb hx) (I.base.free b o e n hx)
  · obtain ⟨sl, e1⟩ := I.base.slot b o e n hb hx
    obtain ⟨sl', e2⟩ := slot b _ (neL b o e) hb (neC b o e hx) e1 (I.base.free b o e n hx)
    exact ⟨sl', e2⟩
  · obtain ⟨o', e1⟩ := I.base.there b o e hx
    exact free b o' (neC b o e hx) e1 (I.base.free b o e n hx)
  · obtain ⟨o', e1⟩ := I.base.there b o e hx
    exact there b o' (neC b o e hx) e1
  · obtain ⟨m1, e1⟩ := I.base.tbls b ps e
    obtain ⟨m2, e2⟩ := tbls b _ e1
    exact ⟨m1 ++ m2, by rw [e2, Array.append_assoc]⟩
  · obtain ⟨m, hn, hl⟩ := I.loc
    refine ⟨m, ns m hn, fun i x v e1 e2 e3 => ?_⟩
    obtain ⟨u, r, l⟩ := hl i x v e1 e2 e3
    refine ⟨u, r, ?_⟩
    rcases l with l | ⟨k, c, e, z⟩
    · exact .inl l
    · exact .inr ⟨k, c, e, cellK x c e _ z⟩
  · obtain ⟨v, z⟩ := I.cell x c e
    exact ⟨v, cellK x c e v z⟩
  · obtain ⟨m, ⟨o, _, _, ho, _⟩, _⟩ := I.loc
    exact free _ o (fun z => (hch _ z).2.1 rfl) ho I.free
  · obtain ⟨v, o, ho, hd⟩ := I.cell x c e
    exact free c o (fun z => (hch c z).2.2.1 x c e rfl) ho (I.freeC x c e)
  · obtain ⟨e, n, ne, nf, d⟩ := I.pin p hp
    have nch : p.1 ∉ ch := fun z => (hch p.1 z).2.2.2 p hp rfl
    exact ⟨keep p.1 p.2 ne nf nch e n, free p.1 p.2 nch e n, ne, nf, d⟩
/-- .. where the frame's own object is kept too -/
theorem Inv.un {t' : Nat} (I : Inv X pins σ H s) (u : Un X.fs [] H H' s.heap h') (hok : HOk X.prog X.w H' h') : Inv X pins σ H' { s with heap := h', toks := t' } := by
  obtain ⟨m, ⟨o, es, ep, ho, r⟩, _⟩ := id I.loc
  obtain ⟨sl, hL⟩ := u.any ho I.free (by simp)
  exact I.step (g' := s.gens) (d' := s.drawn) (ch := []) (fun _ z => nomatch z) (fun b o _ hb _ e n => u.keep b o e n hb (by simp)) (fun b o _ hb _ e n => u.slot b o e n hb (by simp)) (fun b o _ e n => u.free b o e n (by simp)) (fun b o _ e => u.there b o e (by simp)) u.tups u.frzs u.tbls (fun m' hm => by
    obtain ⟨o', es', ep', ho', r'⟩ := hm
    rw [ho] at ho'; cases ho'
    exact ⟨_, es', ep', hL, r'⟩) hok I.bare
/-- behind a call (or a comprehension's block): the slots of this frame may have changed too, the records at ch may have turned -/
theorem Inv.call {g' : Array GenState} {t' : Nat} {d' : Drawn} {ch : List Addr} (I : Inv X pins σ H s) (u : Un (frs X.stack) ch H H' s.heap h') (hok : HOk X.prog X.w H' h') (hg : AllBare g')
    (hch : ∀ b ∈ ch, (b ∈ X.ex ∨ X.s₀.heap.objs.size ≤ b) ∧ b ≠ X.env.locals ∧ (∀ x c, X.env.cells.lookup x = some c → c ≠ b) ∧ ∀ p ∈ X.pn ++ pins, p.1 ≠ b) :
    Inv X pins σ H' { s with heap := h', gens := g', drawn := d', toks := t' } := by
  obtain ⟨m, ⟨o, es, ep, ho, r⟩, _⟩ := id I.loc
  obtain ⟨sl, hL⟩ := u.any ho I.free fun z => (hch _ z).2.1 rfl
  exact I.step (ch := ch) hch (fun b o hL hb hc e n => u.keep b o e n (fun z => (List.mem_cons.mp (I.stkSub b z)).elim hL hb) hc) (fun b o _ _ hc e n => u.any e n hc) (fun b o hc e n => u.free b o e n hc) (fun b o hc e => u.there b o e hc) u.tups u.frzs u.tbls (fun m' hm => by
    obtain ⟨o', es', ep', ho', r'⟩ := hm
    rw [ho] at ho'; cases ho'
    exact ⟨_, es', ep', hL, r'⟩) hok hg
/-- an untracked record of ours (an iterator) has turned -/
theorem Inv.turned {t' : Nat} {it : Addr} (I : Inv X pins σ H s) (k : ∀ b o, b ≠ it → s.heap.get? b = some o → h'.get? b = some o) (hn : H it = none) (hL : it ≠ X.env.locals)
    (h1 : it ∈ X.ex ∨ X.s₀.heap.objs.size ≤ it) (h2 : ∀ x c, X.env.cells.lookup x = some c → c ≠ it) (h3 : ∀ p ∈ X.pn ++ pins, p.1 ≠ it) : Inv X pins σ H { s with heap := h', toks := t' } := by
  have nit : ∀ b u, H b = some u → b ≠ it := fun b u e z => by rw [z, hn] at e; cases e
  refine I.step (g' := s.gens) (d' := s.drawn) (ch := [it]) (fun b hb => ?_) (fun b o _ _ hc e _ => k b o (fun z => hc (by simp [z])) e) (fun b o _ _ hc e _ => ⟨o.slots, k b o (fun z => hc (by simp [z])) e⟩) (fun _ _ _ _ n => n)
    (fun b o hc e => ⟨o, k b o (fun z => hc (by simp [z])) e⟩) (fun _ _ e => e) (fun _ _ _ e => e) (fun b ps e => ⟨#[], by rw [e]; simp⟩) (fun m hm => ?_) (fun b u e => ?_) I.bare
  · have e : b = it := by simpa using hb
    subst e
    exact ⟨h1, hL, h2, h3⟩
  · obtain ⟨o, es, ep, ho, r⟩ := hm
    exact ⟨o, es, ep, k _ o (Ne.symm hL) ho, r⟩
  · refine (I.hok b u e).stay (fun c v hc q => k c v ?_ q) (fun _ q => q) fun _ _ q => q
    rcases hc with z | z
    · rw [z]; exact nit b u e
    · exact nit c _ z
theorem Inv.tok (I : Inv X pins σ H s) (t : Nat) : Inv X pins σ H { s with toks := t } := I.un (h' := s.heap) (t' := t) Un.refl I.hok
/-- all objects kept -/
theorem Inv.kept {t' : Nat} (I : Inv X pins σ H s) (k : ∀ b u, s.heap.get? b = some u → h'.get? b = some u) : Inv X pins σ H { s with heap := h', toks := t' } := I.un (Un.kept k) (I.hok.kept k)
/-- a new object laid and tracked -/
theorem Inv.laid {a : Addr} {o : HO} {t' : Nat} (I : Inv X pins σ H s) (k : ∀ b u, s.heap.get? b = some u → h'.get? b = some u) (hp : s.heap.objs.size ≤ a) (new : ObjOk X.prog X.w (upd H a o) h' a o) :
    Inv X pins σ (upd H a o) { s with heap := h', toks := t' } := I.un (Un.laid k hp (I.hok.fresh hp)) (I.hok.laid k hp new)
/-- an object written -/
theorem Inv.write {x e : Addr} {o : HO} {t' : Nat} (I : Inv X pins σ H s) (mu : Mut (H x)) (he : e = x ∨ H e = some (.own x)) (k : ∀ b u, b ≠ e → s.heap.get? b = some u → h'.get? b = some u) (heo : ∃ u, h'.get? e = some u)
    (new : ObjOk X.prog X.w (upd H x o) h' x o) : Inv X pins σ (upd H x o) { s with heap := h', toks := t' } := I.un (Un.write mu he k heo) (I.hok.write mu he k heo new)
theorem Inv.pins_of {pins' : List (Addr × Obj)} (I : Inv X pins σ H s) (h : ∀ p ∈ pins', s.heap.get? p.1 = some p.2 ∧ H p.1 = none ∧ p.1 ≠ X.env.locals ∧ p.1 ∉ X.fs ∧ ∀ v, p.2.data ≠ .cell v) : Inv X pins' σ H s :=
  ⟨I.ok, I.os, I.bare, I.base, I.loc, I.cell, I.free, I.freeC, fun p hp => (List.mem_append.mp hp).elim (fun z => I.pin p (List.mem_append_left _ z)) (h p), I.hok, I.len⟩

theorem nodup_ix {N : List Str} (hN : N.Nodup) {i j : Nat} {x : Str} (a : N[i]? = some x) (b : N[j]? = some x) : i = j := by
  obtain ⟨h1, e1⟩ := List.getElem?_eq_some_iff.mp a
  obtain ⟨h2, e2⟩ := List.getElem?_eq_some_iff.mp b
  exact (List.getElem_inj hN).mp (e1.trans e2.symm)

/-- a name is stored; what changed -/
theorem store_ok2 {M : Model} {A : Around} {E : Value → Shared → Prop} {i : Nat} {x : Str} {v : V} {u : Value} {Q : Unit → Shared → Prop} (I : Inv X pins σ H s) (hN : X.N.Nodup) (hi : X.N[i]? = some x) (hx : Loc X.env.scope x) (r : RelV v u)
    (h : ∀ s', Inv X pins (σ.set i (some v)) H s' → (∃ a, Heap.SameBut a s.heap s'.heap ∧ (a = X.env.locals ∨ X.env.cells.lookup x = some a)) → Q () s') (hf : X.fn x = true ∨ X.env.scope.names.lookup x = some .local := by first | exact .inl rfl | exact .inr rfl | assumption) : wpAny M A (storeName X.env x u) Q E s := by
  obtain ⟨m, hn, hl⟩ := id I.loc
  have hcls : (X.env.scope.kind == .class || (X.env.scope.kind == .module && X.env.locals != X.env.globals)) = false := by rw [I.ok.kind]; rfl
  have hiσ : i < σ.length := by rw [I.len]; exact (List.getElem?_eq_some_iff.mp hi).1
  have cne := I.cne
  have tracked : ∀ {a : Addr} {h' : Heap}, (∃ o, s.heap.get? a = some o ∧ H a = none) → Heap.SameBut a s.heap h' → HOk X.prog X.w H h' := fun {a h'} ha hs b ob e => by
    obtain ⟨_, _, hfree⟩ := ha
    refine (I.hok b ob e).stay (fun c w' hc q => (hs.2 c ?_).trans q) (fun _ q => q) fun _ _ q => q
    rintro rfl
    rcases hc with rfl | hc
    · rw [hfree] at e; cases e
    · rw [hfree] at hc; cases hc
  rcases hx with hk | hk
  · refine wpAny_storeName_local hk hn (fun h' hn' hs => ?_) hcls
    obtain ⟨oL, _, _, hoL, _⟩ := id hn
    refine h _ ⟨I.ok, I.os, I.bare, ⟨fun b o e n hb hx => ?_, fun b o e n hb hx => ?_, I.base.free, fun b o e hx => ?_, I.base.tups, I.base.frzs, I.base.tbls⟩, ⟨_, hn', fun j y v' e1 e2 e3 => ?_⟩, fun y c e => ?_, I.free, I.freeC, fun p hp => ?_, tracked ⟨oL, hoL, I.free⟩ hs, by simpa using I.len⟩ ⟨_, hs, .inl rfl⟩
    · exact (hs.2 b (Nat.ne_of_lt (Nat.lt_of_lt_of_le (Heap.lt_size e) I.ok.above))).trans (I.base.keep b o e n hb hx)
    · obtain ⟨sl, e1⟩ := I.base.slot b o e n hb hx
      exact ⟨sl, (hs.2 b (Nat.ne_of_lt (Nat.lt_of_lt_of_le (Heap.lt_size e) I.ok.above))).trans e1⟩
    · obtain ⟨o', e1⟩ := I.base.there b o e hx
      exact ⟨o', (hs.2 b (Nat.ne_of_lt (Nat.lt_of_lt_of_le (Heap.lt_size e) I.ok.above))).trans e1⟩
    · by_cases hj : j = i
      · subst hj
        rw [hi] at e1; cases e1
        rw [List.getElem?_set_self hiσ] at e2
        cases e2
        exact ⟨u, r, .inl ⟨hk, by simp⟩⟩
      · rw [List.getElem?_set_ne (Ne.symm hj)] at e2
        obtain ⟨u', r', q⟩ := hl j y v' e1 e2 e3
        refine ⟨u', r', ?_⟩
        rcases q with ⟨k, e⟩ | ⟨k, c, e, z⟩
        · refine .inl ⟨k, ?_⟩
          have : y ≠ x := fun e => hj (nodup_ix hN e1 (e ▸ hi))
          simp [this, e]
        · exact .inr ⟨k, c, e, z.sameBut hs (cne y c e)⟩
    · obtain ⟨w', z⟩ := I.cell y c e
      exact ⟨w', z.sameBut hs (cne y c e)⟩
    · obtain ⟨e, n, ne, nf, d⟩ := I.pin p hp
      exact ⟨(hs.2 p.1 ne).trans e, n, ne, nf, d⟩
  · have hfn : X.fn x = true := by
      rcases hf with z | z
      · exact z
      · rw [z] at hk; cases hk
    obtain ⟨c, hc⟩ := I.ok.has x (.inl hk)
    obtain ⟨w', z⟩ := I.cell x c hc
    refine wpAny_storeName_cell I.ok.kind hk hc z (fun h' hc' hs => ?_)
    obtain ⟨oc, hoc, hocd⟩ := id z
    refine h { s with heap := h' } ⟨I.ok, I.os, I.bare, ⟨fun b o e n hb hx => ?_, fun b o e n hb hx => ?_, I.base.free, fun b o e hx => ?_, I.base.tups, I.base.frzs, I.base.tbls⟩, ⟨m, hn.sameBut hs (Ne.symm (cne x c hc)), fun j y v' e1 e2 e3 => ?_⟩, fun y c' e => ?_, I.free, I.freeC, fun p hp => ?_, tracked ⟨oc, hoc, I.freeC x c hc⟩ hs, by simpa using I.len⟩ ⟨c, hs, .inr hc⟩
    · exact (hs.2 b (Nat.ne_of_lt (Nat.lt_of_lt_of_le (Heap.lt_size e) (I.ok.cab x c hfn hc)))).trans (I.base.keep b o e n hb hx)
    · obtain ⟨sl, e1⟩ := I.base.slot b o e n hb hx
      exact ⟨sl, (hs.2 b (Nat.ne_of_lt (Nat.lt_of_lt_of_le (Heap.lt_size e) (I.ok.cab x c hfn hc)))).trans e1⟩
    · obtain ⟨o', e1⟩ := I.base.there b o e hx
      exact ⟨o', (hs.2 b (Nat.ne_of_lt (Nat.lt_of_lt_of_le (Heap.lt_size e) (I.ok.cab x c hfn hc)))).trans e1⟩
    · by_cases hj : j = i
      · subst hj
        rw [hi] at e1; cases e1
        rw [List.getElem?_set_self hiσ] at e2
        cases e2
        exact ⟨u, r, .inr ⟨.inl hk, c, hc, hc'⟩⟩
      · rw [List.getElem?_set_ne (Ne.symm hj)] at e2
        obtain ⟨u', r', q⟩ := hl j y v' e1 e2 e3
        refine ⟨u', r', ?_⟩
        rcases q with q | ⟨k, c', e, z'⟩
        · exact .inl q
        · refine .inr ⟨k, c', e, z'.sameBut hs ?_⟩
          rintro rfl
          exact hj (nodup_ix hN e1 (I.ok.inj _ _ _ e hc ▸ hi))
    · by_cases hcc : c' = c
      · subst hcc; exact ⟨_, hc'⟩
      · obtain ⟨w2, z2⟩ := I.cell y c' e
        exact ⟨w2, z2.sameBut hs hcc⟩
    · obtain ⟨e, n, ne, nf, d⟩ := I.pin p hp
      refine ⟨(hs.2 p.1 ?_).trans e, n, ne, nf, d⟩
      intro q
      rw [q, hoc] at e
      have q' : oc = p.2 := Option.some.inj e
      exact d w' (by rw [← q']; exact hocd)
theorem store_ok {M : Model} {A : Around} {E : Value → Shared → Prop} {i : Nat} {x : Str} {v : V} {u : Value} {Q : Unit → Shared → Prop} (I : Inv X pins σ H s) (hN : X.N.Nodup) (hi : X.N[i]? = some x) (hx : Loc X.env.scope x) (r : RelV v u)
    (h : ∀ s', Inv X pins (σ.set i (some v)) H s' → Q () s') (hf : X.fn x = true ∨ X.env.scope.names.lookup x = some .local := by first | exact .inl rfl | exact .inr rfl | assumption) : wpAny M A (storeName X.env x u) Q E s :=
  store_ok2 I hN hi hx r (fun s' I' _ => h s' I') hf
/-- behind a call or a block, the state as it is -/
theorem Inv.call' {s' : Shared} {ch : List Addr} (I : Inv X pins σ H s) (ho : s'.os = s.os) (u : Un (frs X.stack) ch H H' s.heap s'.heap) (hok : HOk X.prog X.w H' s'.heap) (hg : AllBare s'.gens)
    (hch : ∀ b ∈ ch, (b ∈ X.ex ∨ X.s₀.heap.objs.size ≤ b) ∧ b ≠ X.env.locals ∧ (∀ x c, X.env.cells.lookup x = some c → c ≠ b) ∧ ∀ p ∈ X.pn ++ pins, p.1 ≠ b) : Inv X pins σ H' s' := by
  obtain ⟨h', g', d', t', o'⟩ := s'
  have e : o' = s.os := ho
  subst e
  exact I.call (g' := g') (t' := t') (d' := d') u hok hg hch
end

/-! ### the judgements -/
/-- an exception: its class, its own dict's address (where it has one), the abstract heap behind it -/
abbrev XK := Value → Option Addr → Hp → Prop
abbrev St := List (Option V)
abbrev VK := V → Hp → Prop
/-- an expression's reading; a test's; an argument list's -/
abbrev TE := St → Hp → VK → Prop
abbrev TT := St → Hp → (Bool → Hp → Prop) → Prop
abbrev TA := St → Hp → (List V → Hp → Prop) → Prop
/-- what is wanted behind a statement -/
structure Ends where
  nx : St → Hp → Prop
  rt : VK
  bk : St → Hp → Prop := fun _ _ => False
  ct : St → Hp → Prop := fun _ _ => False
abbrev TS := Ends → St → Hp → Prop

def EP (X : Cx) (pins : List (Addr × Obj)) (σ : St) (Q : VK) (u : Value) (s' : Shared) : Prop := ∃ v H', Inv X pins σ H' s' ∧ RelV v u ∧ Q v H'
def TP (X : Cx) (pins : List (Addr × Obj)) (σ : St) (Q : Bool → Hp → Prop) (b : Bool) (s' : Shared) : Prop := ∃ H', Inv X pins σ H' s' ∧ Q b H'
def AP (X : Cx) (pins : List (Addr × Obj)) (σ : St) (Q : List V → Hp → Prop) (us : List Value) (s' : Shared) : Prop := ∃ vs H', Inv X pins σ H' s' ∧ Vals vs us ∧ Q vs H'
def SP (X : Cx) (pins : List (Addr × Obj)) (D : Ends) (f : Flow) (s' : Shared) : Prop :=
  match f with
  | .next => ∃ σ' H', Inv X pins σ' H' s' ∧ D.nx σ' H'
  | .brk => ∃ σ' H', Inv X pins σ' H' s' ∧ D.bk σ' H'
  | .cont => ∃ σ' H', Inv X pins σ' H' s' ∧ D.ct σ' H'
  | .ret u => ∃ v σ' H', Inv X pins σ' H' s' ∧ RelV v u ∧ D.rt v H'

def PE (X : Cx) (e : Expr) (t : TE) : Prop :=
  ∀ (pins : List (Addr × Obj)) (s : Shared) (σ : St) (H : Hp) (Q : VK), Inv X pins σ H s → t σ H Q → wpAny (model X.prog X.w) X.A (eval e X.env) (EP X pins σ Q) X.xe s
def PT (X : Cx) (e : Expr) (t : TT) : Prop :=
  ∀ (pins : List (Addr × Obj)) (s : Shared) (σ : St) (H : Hp) (Q : Bool → Hp → Prop), Inv X pins σ H s → t σ H Q → wpAny (model X.prog X.w) X.A (isTrue e X.env (eval e X.env)) (TP X pins σ Q) X.xe s
/-- a test whatever its 'whole' is (and, or) -/
def PW (X : Cx) (e : Expr) (t : TT) : Prop :=
  ∀ (whole : Sem Value) (pins : List (Addr × Obj)) (s : Shared) (σ : St) (H : Hp) (Q : Bool → Hp → Prop), Inv X pins σ H s → t σ H Q → wpAny (model X.prog X.w) X.A (isTrue e X.env whole) (TP X pins σ Q) X.xe s
theorem PW.pt {X : Cx} {e : Expr} {t : TT} (h : PW X e t) : PT X e t := h _
/-- an argument list (no star), from the left -/
def PA (X : Cx) (es : List Expr) (t : TA) : Prop :=
  ∀ (pos : Pos) (pins : List (Addr × Obj)) (s : Shared) (σ : St) (H : Hp) (Q : List V → Hp → Prop), Inv X pins σ H s → t σ H Q → wpAny (model X.prog X.w) X.A (spliced (backTo pos (starEach es X.env))) (AP X pins σ Q) X.xe s
def PS (X : Cx) (st : Stmt) (t : TS) : Prop :=
  ∀ (pins : List (Addr × Obj)) (s : Shared) (σ : St) (H : Hp) (D : Ends), Inv X pins σ H s → t D σ H → wpAny (model X.prog X.w) X.A (exec st X.env) (SP X pins D) X.xe s
def PSs (X : Cx) (st : List Stmt) (t : TS) : Prop :=
  ∀ (pins : List (Addr × Obj)) (s : Shared) (σ : St) (H : Hp) (D : Ends), Inv X pins σ H s → t D σ H → wpAny (model X.prog X.w) X.A (execs st X.env) (SP X pins D) X.xe s
/-- weaken the end -/
theorem thn {α : Type} {t : Sem α} {Q Q' : α → Shared → Prop} {M : Model} {A : Around} {E : Value → Shared → Prop} {s : Shared} (h : wpAny M A t Q E s) (hQ : ∀ a s, Q a s → Q' a s) : wpAny M A t Q' E s := wpAny_mono h hQ fun _ _ x => x
end L2

namespace L2
open PySem PySem.Spec PyProof.Rows
section
variable {X : Cx}

/-! ### names and constants -/
def tVar (i : Nat) : TE := fun σ H Q => ∃ v, σ[i]? = some (some v) ∧ Q v H
def tC (v : V) : TE := fun _ H Q => Q v H
theorem pe_var {i : Nat} {x : Str} {pos : Pos} (hN : X.N[i]? = some x) (hv : Vis X.env.scope x) (hd : (x == ("__debug__" : Str)) = false := by decide) (hcd : (x == ("__classdict__" : Str)) = false := by decide) : PE X (.Name x pos) (tVar i) := by
  intro pins s σ H Q I h
  obtain ⟨v, e, h⟩ := h
  obtain ⟨m, hn, hl⟩ := I.loc
  obtain ⟨u, r, l⟩ := hl i x v hN e hv
  have fin : EP X pins σ Q u s := ⟨v, H, I, r, h⟩
  rcases l with ⟨hk, hm⟩ | ⟨hk, c, hc, hcell⟩
  · exact wpAny_Name (wpAny_loadName_local I.ok.kind hk hn hm fin) hd
  · rcases hk with hk | hk
    · exact wpAny_Name (wpAny_loadName_cell I.ok.kind hk hc hcell fin) hd
    · exact wpAny_Name (wpAny_loadName_free I.ok.kind hk hc hcell fin hcd) hd
theorem pe_int {i j pos} : PE X (.Constant (.int i) j pos) (tC (.int i)) := fun _ _ _ H _ I h => wpAny_Constant_int ⟨.int i, H, I.tok _, ⟨_, rfl⟩, h⟩
theorem pe_bl {b j pos} : PE X (.Constant (.bool b) j pos) (tC (.bl b)) := fun _ _ _ H _ I h => Constant_bool ⟨.bl b, H, I, rfl, h⟩
theorem pe_non {j pos} : PE X (.Constant .none j pos) (tC .non) := fun _ _ _ H _ I h => Constant_none ⟨.non, H, I, rfl, h⟩
theorem pe_str {x j pos} : PE X (.Constant (.str x) j pos) (tC (.str x)) := fun _ _ _ H _ I h => Calls.Constant_str ⟨.str x, H, I.tok _, ⟨_, rfl⟩, h⟩

/-- a global name of the def -/
def Gl (X : Cx) (x : Str) : Prop := X.env.kindOf x = some .globalImplicit
theorem ld_glob {E : Value → Shared → Prop} {pins : List (Addr × Obj)} {s : Shared} {σ : St} {H : Hp} {x : Str} {u : Value} {pos : Pos} {Q : Value → Shared → Prop} (I : Inv X pins σ H s) (hg : Gl X x) (hm : X.mg x = some u) (h : Q u s)
    (hd : (x == ("__debug__" : Str)) = false := by decide) : wpAny (model X.prog X.w) X.A (eval (.Name x pos) X.env) Q E s :=
  Calls.Name_function_global I.ok.kind hg (Calls.loadGlobal_global (by rw [I.ok.glob]; exact I.mod.glob.keeps I.bk) hm h) hd
theorem ld_blt {E : Value → Shared → Prop} {pins : List (Addr × Obj)} {s : Shared} {σ : St} {H : Hp} {x : Str} {u : Value} {pos : Pos} {Q : Value → Shared → Prop} (I : Inv X pins σ H s) (hg : Gl X x) (hm : X.mg x = none) (hv : bootBuiltins x = some u) (h : Q u s)
    (hn : x ≠ "__name__" := by decide) (hd : (x == ("__debug__" : Str)) = false := by decide) : wpAny (model X.prog X.w) X.A (eval (.Name x pos) X.env) Q E s := by
  obtain ⟨mb, h1, h2⟩ := I.mod.blt
  exact Calls.Name_function_global I.ok.kind hg (Calls.loadGlobal_builtin (by rw [I.ok.glob]; exact I.mod.glob.keeps I.bk) hm (by rw [I.ok.blt]; exact h1.keeps I.bk) ((h2 x hn).trans hv) h) hd
/-- a module's constant, a class, a function, as a value -/
theorem pe_glob {x : Str} {v : V} {u : Value} {pos : Pos} (hg : Gl X x) (hm : X.mg x = some u) (r : RelV v u) (hd : (x == ("__debug__" : Str)) = false := by decide) : PE X (.Name x pos) (tC v) :=
  fun _ _ _ H _ I h => ld_glob I hg hm ⟨v, H, I, r, h⟩ hd
theorem pe_bltn {x : Str} {v : V} {u : Value} {pos : Pos} (hg : Gl X x) (hm : X.mg x = none) (hv : bootBuiltins x = some u) (r : RelV v u) (hn : x ≠ "__name__" := by decide) (hd : (x == ("__debug__" : Str)) = false := by decide) : PE X (.Name x pos) (tC v) :=
  fun _ _ _ H _ I h => ld_blt I hg hm hv ⟨v, H, I, r, h⟩ hn hd

/-! ### arithmetic -/
/-- two ints -/
def t2I (ta tb : TE) (k : Int → Int → Hp → Prop) : St → Hp → Prop := fun σ H => ta σ H fun x H1 => tb σ H1 fun y H2 => ∃ i j, x = .int i ∧ y = .int j ∧ k i j H2
def tAdd (ta tb : TE) : TE := fun σ H Q => t2I ta tb (fun i j H2 => Q (.int (i + j)) H2) σ H
def tSub (ta tb : TE) : TE := fun σ H Q => t2I ta tb (fun i j H2 => Q (.int (i - j)) H2) σ H
/-- the left factor below 2^64 -/
def tMul (ta tb : TE) : TE := fun σ H Q => t2I ta tb (fun i j H2 => (-(2 ^ 64) < i ∧ i < 2 ^ 64) ∧ Q (.int (i * j)) H2) σ H
variable {a b : Expr} {ta tb : TE} {pos : Pos}
/-! ### comparisons -/
def PC (X : Cx) (op : CmpOp) (a b : Expr) (t : TE) : Prop :=
  ∀ (pins : List (Addr × Obj)) (s : Shared) (σ : St) (H : Hp) (Q : VK), Inv X pins σ H s → t σ H Q →
    wpAny (model X.prog X.w) X.A (eval a X.env) (fun v s₁ => wpAny (model X.prog X.w) X.A (eval b X.env) (fun u s₂ => wpAny (model X.prog X.w) X.A (compareOp op v u) (EP X pins σ Q) X.xe s₂) X.xe s₁) X.xe s
def tCmp (p : Int → Int → Bool) (ta tb : TE) : TE := fun σ H Q => t2I ta tb (fun i j H2 => Q (.bl (p i j)) H2) σ H
abbrev tLt : TE → TE → TE := tCmp fun i j => decide (i < j)
abbrev tLe : TE → TE → TE := tCmp fun i j => decide (i ≤ j)
abbrev tGt : TE → TE → TE := tCmp fun i j => decide (j < i)
abbrev tGe : TE → TE → TE := tCmp fun i j => decide (j ≤ i)
abbrev tEqI : TE → TE → TE := tCmp fun i j => decide (i = j)
abbrev tNeI : TE → TE → TE := tCmp fun i j => !decide (i = j)
/-- is None -/
def tIsN (ta : TE) : TE := fun σ H Q => ta σ H fun x H1 => Q (.bl (decide (x = .non))) H1
def tNotN (ta : TE) : TE := fun σ H Q => ta σ H fun x H1 => Q (.bl (!decide (x = .non))) H1
/-- a comparison as a value, as a test -/
def tB (t : TE) : TT := fun σ H Q => t σ H fun x H1 => ∃ c, x = .bl c ∧ Q c H1
/-- an expression whose value is a bool, as a test -/
theorem pt_val {e : Expr} {t : TE} (h : PE X e t) (he : ∀ whole, isTrue e X.env whole = (do let v ← whole; standAt e.pos; holding [v] (truthy v)) := by intro _; rfl) : PT X e (tB t) := by
  intro pins s σ H Q I hw
  refine isTrue_plain (thn (h pins s σ H _ I hw) fun v s1 ⟨x, H1, I1, r1, q1⟩ => ?_) (he _)
  obtain ⟨d, rfl, q⟩ := q1
  cases r1
  exact wpAny_truthy_bool ⟨H1, I1, q⟩

/-! ### and, or, not -/
variable {tA tB' : TT} {rest : List Expr}
def tAnd (t u : TT) : TT := fun σ H Q => t σ H fun c H1 => if c = true then u σ H1 Q else Q false H1
def tOr (t u : TT) : TT := fun σ H Q => t σ H fun c H1 => if c = true then Q true H1 else u σ H1 Q
def tNot (t : TT) : TT := fun σ H Q => t σ H fun c H1 => Q (!c) H1
theorem pw_and1 (ha : PT X a tA) : PW X (.BoolOp .And [a] pos) tA := by
  intro wh pins s σ H Q I h
  refine isTrue_and (thn (ha pins s σ H Q I h) fun c s1 e => ?_)
  cases c with
  | true => exact isTrue_and_nil e
  | false => exact e
theorem pw_or1 (ha : PT X a tA) : PW X (.BoolOp .Or [a] pos) tA := by
  intro wh pins s σ H Q I h
  refine isTrue_or (thn (ha pins s σ H Q I h) fun c s1 e => ?_)
  cases c with
  | false => exact isTrue_or_nil e
  | true => exact e
theorem pw_and (ha : PT X a tA) (hb : PW X (.BoolOp .And (b :: rest) pos) tB') : PW X (.BoolOp .And (a :: b :: rest) pos) (tAnd tA tB') := by
  intro wh pins s σ H Q I h
  refine isTrue_and (thn (ha pins s σ H _ I h) fun c s1 ⟨H1, I1, q1⟩ => ?_)
  cases c with
  | true => exact hb wh pins s1 σ H1 Q I1 q1
  | false => exact ⟨H1, I1, q1⟩
theorem pw_or (ha : PT X a tA) (hb : PW X (.BoolOp .Or (b :: rest) pos) tB') : PW X (.BoolOp .Or (a :: b :: rest) pos) (tOr tA tB') := by
  intro wh pins s σ H Q I h
  refine isTrue_or (thn (ha pins s σ H _ I h) fun c s1 ⟨H1, I1, q1⟩ => ?_)
  cases c with
  | true => exact ⟨H1, I1, q1⟩
  | false => exact hb wh pins s1 σ H1 Q I1 q1
theorem pt_not (ha : PT X a tA) : PT X (.UnaryOp .Not a pos) (tNot tA) := by
  intro pins s σ H Q I h
  exact isTrue_not (ha pins s σ H (fun c H1 => Q (!c) H1) I h)
/-- .. as values (bools) -/
def tAndV (ta tb : TE) : TE := fun σ H Q => ta σ H fun x H1 => ∃ c, x = .bl c ∧ if c = true then tb σ H1 Q else Q (.bl false) H1
def tOrV (ta tb : TE) : TE := fun σ H Q => ta σ H fun x H1 => ∃ c, x = .bl c ∧ if c = true then Q (.bl true) H1 else tb σ H1 Q
def tNotV (ta : TE) : TE := fun σ H Q => ta σ H fun x H1 => ∃ c, x = .bl c ∧ Q (.bl (!c)) H1
theorem pe_one {op} {t : TE} (h : PE X a t) : PE X (.BoolOp op [a] pos) t := fun pins s σ H Q I hw => BoolOp_one (h pins s σ H Q I hw)
theorem pe_and (ha : PE X a ta) (hb : PE X (.BoolOp .And (b :: rest) pos) tb) : PE X (.BoolOp .And (a :: b :: rest) pos) (tAndV ta tb) := by
  intro pins s σ H Q I h
  refine BoolOp_and (thn (ha pins s σ H _ I h) fun v s1 ⟨x, H1, I1, r1, q1⟩ => ?_)
  obtain ⟨c, rfl, q1⟩ := q1
  cases r1
  refine wpAny_truthy_bool ?_
  cases c with
  | true => exact hb pins s1 σ H1 Q I1 q1
  | false => exact ⟨.bl false, H1, I1, rfl, q1⟩
theorem pe_or (ha : PE X a ta) (hb : PE X (.BoolOp .Or (b :: rest) pos) tb) : PE X (.BoolOp .Or (a :: b :: rest) pos) (tOrV ta tb) := by
  intro pins s σ H Q I h
  refine BoolOp_or (thn (ha pins s σ H _ I h) fun v s1 ⟨x, H1, I1, r1, q1⟩ => ?_)
  obtain ⟨c, rfl, q1⟩ := q1
  cases r1
  refine wpAny_truthy_bool ?_
  cases c with
  | false => exact hb pins s1 σ H1 Q I1 q1
  | true => exact ⟨.bl true, H1, I1, rfl, q1⟩
theorem pe_not (ha : PE X a ta) : PE X (.UnaryOp .Not a pos) (tNotV ta) := by
  intro pins s σ H Q I h
  refine UnaryOp_ (thn (ha pins s σ H _ I h) fun v s1 ⟨x, H1, I1, r1, q1⟩ => ?_)
  obtain ⟨c, rfl, q1⟩ := q1
  cases r1
  exact not_of (wpAny_truthy_bool ⟨.bl (!c), H1, I1, rfl, q1⟩)
/-- a if t else b -/
def tIf (t : TT) (ta tb : TE) : TE := fun σ H Q => t σ H fun c H1 => if c = true then ta σ H1 Q else tb σ H1 Q
end
end L2

namespace L2
open PySem PySem.Spec PyProof.Rows

/-! ### a list, a tuple that is read: tracked, frozen, or an object of the module -/
def SqL (K : PySem.W.Frag) (H : Hp) (a : Addr) (xs : List V) : Prop :=
  Rd H a (.lst xs) ∨
    ∃ (o : Obj) (its : Array Value) (n : Nat), K.lookup a = some o ∧ o.cls = .type "list" ∧ o.dict = none ∧ o.data = .seq its n ∧ its.size ≤ sizeLine ∧ Vals xs its.toList
def SqT (K : PySem.W.Frag) (H : Hp) (a : Addr) (xs : List V) : Prop :=
  Rd H a (.tup xs) ∨
    ∃ (o : Obj) (its : Array Value) (n : Nat), K.lookup a = some o ∧ o.cls = .type "tuple" ∧ o.data = .seq its n ∧ its.size ≤ sizeLine ∧ Vals xs its.toList
def absV : Value → Option V
  | .none => some .non
  | .bool b => some (.bl b)
  | .int i _ => some (.int i)
  | .str x _ => some (.str x)
  | .bytes b _ => some (.byt b)
  | .float b _ => some (.flt b)
  | .ref a => some (.ref a)
  | .type n => some (.ty n)
  | _ => none
theorem RelV.abs {x : V} {u : Value} (r : RelV x u) : absV u = some x := by
  cases x with
  | non => cases r; rfl
  | bl _ => cases r; rfl
  | int _ => obtain ⟨t, rfl⟩ := r; rfl
  | str _ => obtain ⟨t, rfl⟩ := r; rfl
  | byt _ => obtain ⟨t, rfl⟩ := r; rfl
  | flt _ => obtain ⟨t, rfl⟩ := r; rfl
  | ref _ => cases r; rfl
  | ty _ => cases r; rfl
theorem RelV.inj {x y : V} {u : Value} (r : RelV x u) (q : RelV y u) : x = y := Option.some.inj (r.abs.symm.trans q.abs)
theorem Vals.inj : ∀ {xs ys : List V} {us : List Value}, Vals xs us → Vals ys us → xs = ys
  | _, _, _, .nil, .nil => rfl
  | _, _, _, .cons r t, .cons r' t' => by rw [r.inj r', Vals.inj t t']
section
variable {X : Cx} {pins : List (Addr × Obj)} {σ : St} {H : Hp} {s : Shared} {a : Addr} {xs ys : List V}
theorem SqL.of {K : PySem.W.Frag} (h : H a = some (.lst xs)) : SqL K H a xs := .inl (.inl h)
theorem SqT.of {K : PySem.W.Frag} (h : H a = some (.tup xs)) : SqT K H a xs := .inl (.inl h)
theorem Inv.list (I : Inv X pins σ H s) (h : SqL X.K H a xs) : ∃ its : List Value, Vals xs its ∧ PlainL s.heap a its.toArray ∧ xs.length ≤ sizeLine := by
  rcases h with h | ⟨o, its, n, hk, hc, hd, hs, hz, r⟩
  · obtain ⟨z, its, n, r, e⟩ := h.ok I.hok
    exact ⟨its, r, ⟨_, n, e, rfl, rfl, rfl⟩, z⟩
  · refine ⟨its.toList, r, ⟨o, n, I.kIn a o hk, hc, hd, by simpa using hs⟩, ?_⟩
    have e := r.length
    simp only [Array.length_toList] at e
    omega
theorem Inv.tuple (I : Inv X pins σ H s) (h : SqT X.K H a xs) : ∃ its : List Value, Vals xs its ∧ IsTup s.heap a its.toArray ∧ xs.length ≤ sizeLine := by
  rcases h with h | ⟨o, its, n, hk, hc, hs, hz, r⟩
  · obtain ⟨z, its, r, p⟩ := h.ok I.hok
    exact ⟨its, r, p, z⟩
  · refine ⟨its.toList, r, ⟨o, I.kIn a o hk, hc, n, by simpa using hs⟩, ?_⟩
    have e := r.length
    simp only [Array.length_toList] at e
    omega
end

/-! ### another wish about exceptions -/
abbrev Cx.wish (X : Cx) (E : Value → Shared → Prop) : Cx := { X with xe := E }
/-- no exception leaves -/
abbrev Cx.nox (X : Cx) : Cx := X.wish fun _ _ => False
theorem Cx.Ok.wish {X : Cx} (ok : X.Ok) (E : Value → Shared → Prop) : (X.wish E).Ok :=
  ⟨ok.mod, ok.kind, ok.glob, ok.blt, ok.above, ok.inj, ok.has, ok.cab, ok.hd, ok.frames, ok.stk, ok.exf, ok.bs, ok.bsz, ok.noex, ok.exfs, ok.funs, ok.frf⟩
theorem Cx.Ok.unwish {X : Cx} {E : Value → Shared → Prop} (ok : (X.wish E).Ok) : X.Ok :=
  ⟨ok.mod, ok.kind, ok.glob, ok.blt, ok.above, ok.inj, ok.has, ok.cab, ok.hd, ok.frames, ok.stk, ok.exf, ok.bs, ok.bsz, ok.noex, ok.exfs, ok.funs, ok.frf⟩
section
variable {X : Cx} {pins : List (Addr × Obj)} {σ : St} {H : Hp} {s : Shared} {E : Value → Shared → Prop}
theorem Inv.wish (I : Inv X pins σ H s) (E : Value → Shared → Prop) : Inv (X.wish E) pins σ H s := ⟨I.ok.wish E, I.os, I.bare, I.base, I.loc, I.cell, I.free, I.freeC, I.pin, I.hok, I.len⟩
theorem Inv.unwish (I : Inv (X.wish E) pins σ H s) : Inv X pins σ H s := ⟨I.ok.unwish, I.os, I.bare, I.base, I.loc, I.cell, I.free, I.freeC, I.pin, I.hok, I.len⟩
theorem SP.unwish {D : Ends} {f : Flow} {s' : Shared} (h : SP (X.wish E) pins D f s') : SP X pins D f s' := by
  cases f with
  | next => obtain ⟨σ', H', I, q⟩ := h; exact ⟨σ', H', I.unwish, q⟩
  | brk => obtain ⟨σ', H', I, q⟩ := h; exact ⟨σ', H', I.unwish, q⟩
  | cont => obtain ⟨σ', H', I, q⟩ := h; exact ⟨σ', H', I.unwish, q⟩
  | ret u => obtain ⟨v, σ', H', I, r, q⟩ := h; exact ⟨v, σ', H', I.unwish, r, q⟩
theorem PE.nox {e : Expr} {t : TE} (h : PE X.nox e t) : PE X e t := fun pins s σ H Q I hw =>
  wpAny_mono (h pins s σ H Q (I.wish _) hw) (fun _ _ ⟨v, H', I', r, q⟩ => ⟨v, H', I'.unwish, r, q⟩) fun _ _ z => False.elim z
theorem PT.nox {e : Expr} {t : TT} (h : PT X.nox e t) : PT X e t := fun pins s σ H Q I hw =>
  wpAny_mono (h pins s σ H Q (I.wish _) hw) (fun _ _ ⟨H', I', q⟩ => ⟨H', I'.unwish, q⟩) fun _ _ z => False.elim z
theorem PSs.nox {st : List Stmt} {t : TS} (h : PSs X.nox st t) : PSs X st t := fun pins s σ H D I hw =>
  wpAny_mono (h pins s σ H D (I.wish _) hw) (fun _ _ q => q.unwish) fun _ _ z => False.elim z
end

/-! ### blocks and small statements -/
section
variable {X : Cx} {st : Stmt} {rest : List Stmt} {t u : TS} {e : Expr} {te : TE} {pos : Pos}
def tNext : TS := fun D σ H => D.nx σ H
def tSeq (t u : TS) : TS := fun D σ H => t { D with nx := u D } σ H
theorem pss_nil : PSs X [] tNext := fun _ _ σ H _ I h => wpAny_execs_nil ⟨σ, H, I, h⟩
theorem pss_cons (h1 : PS X st t) (h2 : PSs X rest u) : PSs X (st :: rest) (tSeq t u) := by
  intro pins s σ H D I h
  refine wpAny_execs_cons (thn (h1 pins s σ H { D with nx := u D } I h) fun f s1 q => ?_)
  cases f with
  | next =>
    obtain ⟨σ', H', I', q⟩ := q
    exact h2 pins s1 σ' H' D I' q
  | ret v => exact q
  | brk => exact q
  | cont => exact q
theorem pss_one (h1 : PS X st t) : PSs X [st] t := by
  intro pins s σ H D I h
  refine wpAny_execs_cons (thn (h1 pins s σ H D I h) fun f s1 q => ?_)
  cases f with
  | next => exact wpAny_execs_nil q
  | ret v => exact q
  | brk => exact q
  | cont => exact q
def tBreak : TS := fun D σ H => D.bk σ H
def tCont : TS := fun D σ H => D.ct σ H
/-- an expression whose value is dropped -/
def tDrop (te : TE) : TS := fun D σ H => te σ H fun _ H1 => D.nx σ H1
def tRet (te : TE) : TS := fun D σ H => te σ H D.rt
theorem ps_ret (he : PE X e te) : PS X (.Return (some e) pos) (tRet te) := by
  intro pins s σ H D I h
  exact wpAny_Return_some (thn (he pins s σ H _ I h) fun v s1 ⟨x, H1, I1, r1, q1⟩ => ⟨x, σ, H1, I1, r1, q1⟩)
def tRetN : TS := fun D _ H => D.rt .non H
def tIfS (c : TT) (t u : TS) : TS := fun D σ H => c σ H fun b H1 => if b = true then t D σ H1 else u D σ H1
theorem ps_if {c : Expr} {a b : List Stmt} {tc : TT} (hc : PT X c tc) (ha : PSs X a t) (hb : PSs X b u) : PS X (.If c a b pos) (tIfS tc t u) := by
  intro pins s σ H D I h
  refine wpAny_If (thn (hc pins s σ H _ I h) fun d s1 ⟨H1, I1, q1⟩ => ?_)
  cases d with
  | true => exact ha pins s1 σ H1 D I1 q1
  | false => exact hb pins s1 σ H1 D I1 q1
/-- code that the proof never comes to -/
def tNever : TS := fun _ _ _ => False
end

/-! ### targets -/
abbrev TG := V → St → Hp → (St → Hp → Prop) → Prop
abbrev TGs := List V → St → Hp → (St → Hp → Prop) → Prop
def PG (X : Cx) (target : Expr) (t : TG) : Prop :=
  ∀ (pins : List (Addr × Obj)) (s : Shared) (σ : St) (H : Hp) (v : V) (u : Value) (Q : St → Hp → Prop), Inv X pins σ H s → RelV v u → t v σ H Q →
    wpAny (model X.prog X.w) X.A (assign target X.env u) (fun _ s' => ∃ σ' H', Inv X pins σ' H' s' ∧ Q σ' H') X.xe s
/-- several targets, one after another -/
def PGs (X : Cx) (ts : List Expr) (t : TGs) : Prop :=
  ∀ (pins : List (Addr × Obj)) (s : Shared) (σ : St) (H : Hp) (vs : List V) (us : List Value) (Q : St → Hp → Prop), Inv X pins σ H s → Vals vs us → t vs σ H Q →
    wpAny (model X.prog X.w) X.A (assignInOrder ((assignEach ts X.env).map (·.2)) us) (fun _ s' => ∃ σ' H', Inv X pins σ' H' s' ∧ Q σ' H') X.xe s
/-- o[i] = v, by values -/
abbrev TSet := V → V → V → Hp → (Hp → Prop) → Prop
def PSet (X : Cx) (t : TSet) : Prop :=
  ∀ (pins : List (Addr × Obj)) (s : Shared) (σ : St) (H : Hp) (o i v : V) (ov iv u : Value) (Q : Hp → Prop), Inv X pins σ H s → RelV o ov → RelV i iv → RelV v u → t o i v H Q →
    wpAny (model X.prog X.w) X.A (setItem ov iv u) (fun _ s' => ∃ H', Inv X pins σ H' s' ∧ Q H') X.xe s
/-- a op= b, by values -/
abbrev TIp := V → V → Hp → VK → Prop
def PIp (X : Cx) (op : Operator) (t : TIp) : Prop :=
  ∀ (pins : List (Addr × Obj)) (s : Shared) (σ : St) (H : Hp) (x y : V) (v u : Value) (Q : VK), Inv X pins σ H s → RelV x v → RelV y u → t x y H Q →
    wpAny (model X.prog X.w) X.A (inplaceOp op v u) (EP X pins σ Q) X.xe s
section
variable {X : Cx} {pos : Pos}
def gName (i : Nat) : TG := fun v σ H Q => Q (σ.set i (some v)) H
theorem pg_name {i : Nat} {x : Str} (hN : X.N.Nodup) (hi : X.N[i]? = some x) (hx : Loc X.env.scope x) (hf : X.fn x = true ∨ X.env.scope.names.lookup x = some .local := by first | exact .inl rfl | exact .inr rfl | assumption) : PG X (.Name x pos) (gName i) := by
  intro pins s σ H v u Q I r h
  exact wpAny_assign_Name (store_ok I hN hi hx r (fun s' I' => ⟨_, H, I', h⟩) hf)
def gNil : TGs := fun vs σ H Q => vs = [] ∧ Q σ H
def gCons (t : TG) (u : TGs) : TGs := fun vs σ H Q => ∃ v r, vs = v :: r ∧ t v σ H fun σ' H' => u r σ' H' Q
/-- (a, b, ..) = a tuple of that length -/
def gTup (K : PySem.W.Frag) (n : Nat) (t : TGs) : TG := fun v σ H Q => ∃ a xs, v = .ref a ∧ SqT K H a xs ∧ xs.length = n ∧ t xs σ H Q
/-- o[i] = .. -/
def gSub (to ti : TE) (t : TSet) : TG := fun v σ H Q => to σ H fun o H1 => ti σ H1 fun i H2 => t o i v H2 fun H3 => Q σ H3
/-- target = value -/
def tAsg (te : TE) (g : TG) : TS := fun D σ H => te σ H fun x H1 => g x σ H1 D.nx
/-- name = value -/
theorem ps_set {i : Nat} {x : Str} {e : Expr} {te : TE} {pos' : Pos} (hN : X.N.Nodup) (hi : X.N[i]? = some x) (hx : Loc X.env.scope x) (he : PE X e te) (hs : swapsWith e (some (.Name x pos')) pos.line X.env = pure false := by rfl) (hf : X.fn x = true ∨ X.env.scope.names.lookup x = some .local := by first | exact .inl rfl | exact .inr rfl | assumption) :
    PS X (.Assign [.Name x pos'] e pos) (tAsg te (gName i)) := by
  intro pins s σ H D I h
  refine wpAny_Assign_Name (thn (he pins s σ H _ I h) fun v s1 ⟨y, H1, I1, r1, q1⟩ => ?_) hs
  exact store_ok I1 hN hi hx r1 (fun s2 I2 => ⟨_, H1, I2, q1⟩) hf
/-- a, b = x, y with plain local names: stored from the right; the pair itself is not tracked (the opening rows as in PyProof/Rows/TupAssign.lean:23) -/
def tPar (i j : Nat) (ta : TA) : TS := fun D σ H => ta σ H fun vs H1 => ∃ v w, vs = [v, w] ∧ D.nx ((σ.set i (some v)).set j (some w)) H1
/-- name op= e -/
def tAug (i : Nat) (te : TE) (ti : TIp) : TS := fun D σ H => ∃ x, σ[i]? = some (some x) ∧ te σ H fun y H1 => ti x y H1 fun z H2 => D.nx (σ.set i (some z)) H2
/-- o[i] op= e -/
def tAugS (to ti te : TE) (tget : V → V → Hp → VK → Prop) (tip : TIp) (tset : TSet) : TS := fun D σ H => to σ H fun o H1 => ti σ H1 fun i H2 => tget o i H2 fun x H3 => te σ H3 fun y H4 => tip x y H4 fun z H5 => tset o i z H5 fun H6 => D.nx σ H6
/-- o[i], by values -/
def PGet (X : Cx) (t : V → V → Hp → VK → Prop) : Prop :=
  ∀ (pins : List (Addr × Obj)) (s : Shared) (σ : St) (H : Hp) (o i : V) (ov iv : Value) (Q : VK), Inv X pins σ H s → RelV o ov → RelV i iv → t o i H Q →
    wpAny (model X.prog X.w) X.A (getItem ov iv) (EP X pins σ Q) X.xe s
/-- ints -/
def ipI (f : Int → Int → Int) : TIp := fun x y H Q => ∃ i j, x = .int i ∧ y = .int j ∧ Q (.int (f i j)) H
end

/-! ### while -/
section
variable {X : Cx} {pos : Pos}
/-- the invariant W with its measure -/
def tWhile (c : TT) (tb : TS) : TS := fun D σ H => ∃ W : Nat → St → Hp → Prop, (∃ m, W m σ H) ∧ ∀ m σ H, W m σ H →
  c σ H fun b H1 => if b = true then ∃ N : St → Hp → Prop, (∀ σ' H', N σ' H' → ∃ m', m' < m ∧ W m' σ' H') ∧ tb { D with nx := N, ct := N, bk := D.nx } σ H1 else D.nx σ H1
theorem ps_while {c : Expr} {body : List Stmt} {tc : TT} {tb : TS} (hp : PassesOwn (model X.prog X.w) X.A X.env X.xe) (hc : PT X c tc) (hb : PSs X body tb) : PS X (.While c body [] pos) (tWhile tc tb) := by
  intro pins s σ H D I h
  obtain ⟨W, ⟨m0, w0⟩, turn⟩ := h
  refine wpAny_While (codeAny_whileLoop (fun n s' => ∃ σ' H', Inv X pins σ' H' s' ∧ W n σ' H') ?_ m0 ⟨σ, H, I, w0⟩)
  rintro n s1 ⟨σ1, H1, I1, w1⟩
  refine wpAny_passesOwn hp (thn (hc pins s1 σ1 H1 _ I1 (turn n σ1 H1 w1)) fun b s2 ⟨H2, I2, q2⟩ => ?_)
  cases b with
  | true =>
    obtain ⟨N, hN, q2⟩ := q2
    rw [if_pos rfl]
    refine wpAny_passesOwn hp (thn (hb pins s2 σ1 H2 _ I2 q2) fun f s3 q3 => ?_)
    cases f with
    | next =>
      obtain ⟨σ3, H3, I3, n3⟩ := q3
      obtain ⟨m', hm, w3⟩ := hN σ3 H3 n3
      exact ⟨m', hm, σ3, H3, I3, w3⟩
    | cont =>
      obtain ⟨σ3, H3, I3, n3⟩ := q3
      obtain ⟨m', hm, w3⟩ := hN σ3 H3 n3
      exact ⟨m', hm, σ3, H3, I3, w3⟩
    | brk => exact q3
    | ret v => exact q3
  | false =>
    rw [if_neg Bool.false_ne_true]
    exact wpAny_execs_nil ⟨σ1, H2, I2, q2⟩
end

/-! ### what a loop or a comprehension walks -/
/-- at turn i: it yields x (the heap may grow), or it stops -/
structure It where
  go : Nat → Hp → Prop
  yld : Nat → Hp → V → Hp → Prop
  stop : Nat → Hp → Prop
/-- the iterator's own objects may turn: they are not the frame's, not pinned, younger than the entry (or a comprehension's own) -/
def FpOk (X : Cx) (pins : List (Addr × Obj)) (H : Hp) (b : Addr) : Prop :=
  H b = none ∧ b ≠ X.env.locals ∧ b ∉ X.fs ∧ (b ∈ X.ex ∨ X.s₀.heap.objs.size ≤ b) ∧ (∀ x c, X.env.cells.lookup x = some c → c ≠ b) ∧ ∀ p ∈ X.pn ++ pins, p.1 ≠ b
theorem Inv.fpOk {X : Cx} {pins : List (Addr × Obj)} {σ : St} {H H' : Hp} {s : Shared} {b : Addr} (I : Inv X pins σ H s) (hb : s.heap.objs.size ≤ b) (hn : H' b = none) : FpOk X pins H' b := by
  refine ⟨hn, Nat.ne_of_gt (Nat.lt_of_lt_of_le I.lt hb), I.nofs hb, .inr (Nat.le_trans I.sz hb), fun x c e z => ?_, fun p hp z => ?_⟩
  · obtain ⟨v, q⟩ := I.cell x c e
    exact absurd (Nat.lt_of_lt_of_le q.lt (by rw [z]; exact hb)) (Nat.lt_irrefl _)
  · exact absurd (Nat.lt_of_lt_of_le (Heap.lt_size (I.pin p hp).1) (by rw [z]; exact hb)) (Nat.lt_irrefl _)
structure Turn (P : Program) (w : World) (K : PySem.W.Frag) (tg : Expr) (J : It) (fp : List Addr) (it : Addr) (tn : Nat → Heap → Prop) : Prop where
  mem : it ∈ fp
  obj : ∀ i h, tn i h → ∀ b ∈ fp, ∃ o, h.get? b = some o ∧ ∀ v, o.data ≠ .cell v
  keep : ∀ i h h', tn i h → (∀ b ∈ fp, ∀ o, h.get? b = some o → h'.get? b = some o) → tn i h'
  item : ∀ (X : Cx), X.prog = P → X.w = w → X.K = K → X.calm = true → ∀ (i : Nat) (pins : List (Addr × Obj)) (s : Shared) (σ : St) (H : Hp) (E : Value → Shared → Prop), Inv X pins σ H s → (∀ b ∈ fp, FpOk X pins H b) → tn i s.heap → J.go i H →
    wpAny (model P w) X.A (pyNext (.ref it)) (fun r s1 => ∃ u, r = some u ∧
      wpAny (model P w) X.A (letOwnedTupleGo tg (.ref it) u) (fun _ s2 => ∃ x H', Inv X pins σ H' s2 ∧ RelV x u ∧ J.yld i H x H' ∧ tn (i + 1) s2.heap ∧ ∀ b ∈ fp, H' b = none) E s1) E s
  done : ∀ (X : Cx), X.prog = P → X.w = w → X.K = K → X.calm = true → ∀ (i : Nat) (pins : List (Addr × Obj)) (s : Shared) (σ : St) (H : Hp) (E : Value → Shared → Prop), Inv X pins σ H s → (∀ b ∈ fp, FpOk X pins H b) → tn i s.heap → J.stop i H →
    wpAny (model P w) X.A (pyNext (.ref it)) (fun r s1 => r = none ∧ Inv X pins σ H s1) E s
  self : ∀ (A : Around) (i : Nat) (s : Shared) (Q : Value → Shared → Prop) (E : Value → Shared → Prop), tn i s.heap → Q (.ref it) s → wpAny (model P w) A (pyIter (.ref it)) Q E s
abbrev TI := St → Hp → (It → Hp → Prop) → Prop
/-- an iterator has come -/
def PIE (X : Cx) (pins : List (Addr × Obj)) (σ : St) (tg : Expr) (R : It → Hp → Prop) (itv : Value) (s2 : Shared) : Prop :=
  ∃ (it : Addr) (fp : List Addr) (tn : Nat → Heap → Prop) (J : It) (H' : Hp), itv = .ref it ∧ Inv X pins σ H' s2 ∧ Turn X.prog X.w X.K tg J fp it tn ∧ tn 0 s2.heap ∧ (∀ b ∈ fp, FpOk X pins H' b) ∧ R J H'
def PI (X : Cx) (tg iter : Expr) (wi : TI) : Prop :=
  ∀ (pins : List (Addr × Obj)) (s : Shared) (σ : St) (H : Hp) (R : It → Hp → Prop), Inv X pins σ H s → wi σ H R →
    wpAny (model X.prog X.w) X.A (eval iter X.env) (fun v s1 => wpAny (model X.prog X.w) X.A (pyIter v) (PIE X pins σ tg R) X.xe s1) X.xe s

/-- the step ahead of the store is nothing for an iterator that keeps no tuple -/
theorem go_of {M : Model} {A : Around} {E : Value → Shared → Prop} {s : Shared} {tg : Expr} {it : Addr} {u : Value} {o : Obj} {n : String} {vs : Array Value} {Q : Unit → Shared → Prop} (ho : s.heap.get? it = some o) (hc : o.cls = .type n) (hd : o.data = .fields vs)
    (hn : ["enumerate", "zip", "dict_itemiterator", "dict_reverseitemiterator", "odict_iterator", "itertools.zip_longest", "itertools.pairwise"].contains n = false) (hQ : Q () s) : wpAny M A (letOwnedTupleGo tg (.ref it) u) Q E s := by
  unfold letOwnedTupleGo
  cases tg <;> first
    | exact wpAny_pure hQ
    | (cases u <;> first
        | exact wpAny_pure hQ
        | (refine wpAny_bind (wpAny_load ho ?_)
           rw [hc, hd]
           show wpAny M A (if (["enumerate", "zip", "dict_itemiterator", "dict_reverseitemiterator", "odict_iterator", "itertools.zip_longest", "itertools.pairwise"].contains n && vs[0]? == some (rawInt _)) = true then _ else _) Q E s
           rw [if_neg (by intro h; rw [hn, Bool.false_and] at h; cases h)]
           exact wpAny_pure hQ))

/-- the list at a, as it stands at each turn (a loop may append to it) -/
def Itl (K : PySem.W.Frag) (a : Addr) : It :=
  ⟨fun i H => ∃ xs x, SqL K H a xs ∧ xs[i]? = some x, fun i H x H' => H' = H ∧ ∀ xs, SqL K H a xs → xs[i]? = some x, fun i H => ∃ xs, SqL K H a xs ∧ xs.length ≤ i⟩
def Itt (K : PySem.W.Frag) (a : Addr) : It :=
  ⟨fun i H => ∃ xs x, SqT K H a xs ∧ xs[i]? = some x, fun i H x H' => H' = H ∧ ∀ xs, SqT K H a xs → xs[i]? = some x, fun i H => ∃ xs, SqT K H a xs ∧ xs.length ≤ i⟩
/-- lo, lo + 1, .. (n of them) -/
def Itr (lo : Int) (n : Nat) : It := ⟨fun i _ => i < n, fun i H x H' => H' = H ∧ x = .int (lo + i), fun i _ => n ≤ i⟩
theorem turn_range {P : Program} {w : World} {K : PySem.W.Frag} {tg : Expr} (it : Addr) (lo : Int) (n : Nat) : Turn P w K tg (Itr lo n) [it] it (fun i h => IsRangeIter h it (lo + (i : Nat) * 1) ((n : Int) - (i : Nat)) 1) where
  mem := by simp
  obj := fun i h st b hb => by
    have e : b = it := by simpa using hb
    subst e
    exact ⟨_, st, fun v z => by
      have z' : Data.fields _ = Data.cell v := z
      cases z'⟩
  keep := fun i h h' st k => k it (by simp) _ st
  item := by
    intro X hP hw hK hc i pins s σ H E I hf st hg
    subst hP hw hK
    obtain ⟨f0, f1, f2, f3, f4, f5⟩ := hf it (by simp)
    have W := Walks.range (prog := X.prog) (w := X.w) (I.ok.hd hc) it lo 1 n
    refine W.item i s _ _ hg st fun v h' tk hv st' kk => ?_
    obtain ⟨t, rfl⟩ := hv
    have I1 : Inv X pins σ H { s with heap := h', toks := tk } := I.turned (fun b o hb e => kk b o (by simpa using hb) e) f0 f1 f3 f4 f5
    refine ⟨_, rfl, go_of (s := { s with heap := h', toks := tk }) (n := "range_iterator") st' rfl rfl (by decide) ⟨.int (lo + i), H, I1, ⟨t, ?_⟩, ⟨rfl, rfl⟩, st', fun b hb => (hf b hb).1⟩⟩
    rw [Int.mul_one]
  done := by
    intro X hP hw hK hc i pins s σ H E I hf st hg
    subst hP hw hK
    obtain ⟨f0, f1, f2, f3, f4, f5⟩ := hf it (by simp)
    exact wpAny_pyNext_range_end (I.ok.hd hc) st (by have : n ≤ i := hg; omega) fun h' eb => ⟨rfl, I.turned (t' := s.toks) (fun b o hb e => eb b o hb e) f0 f1 f3 f4 f5⟩
  self := fun _ _ _ _ _ st h => wpAny_pyIter_rangeiter st h
end L2

namespace L2
open PySem PySem.Spec PyProof.Rows
section
variable {X : Cx} {tg : Expr}
def iList (K : PySem.W.Frag) (tl : TE) : TI := fun σ H R => tl σ H fun x H1 => ∃ a, x = .ref a ∧ (∃ xs, SqL K H1 a xs) ∧ R (Itl K a) H1
def iTup (K : PySem.W.Frag) (tl : TE) : TI := fun σ H R => tl σ H fun x H1 => ∃ a, x = .ref a ∧ (∃ xs, SqT K H1 a xs) ∧ R (Itt K a) H1
/-- a range object just made, walked -/
theorem range_it {pins : List (Addr × Obj)} {σ : St} {H : Hp} {s : Shared} {R : It → Hp → Prop} {E : Value → Shared → Prop} {lo hi : Int} {t u v : Tok} {tk : Nat} (I : Inv X pins σ H s) (h1 : -(2 ^ 62) ≤ lo) (h2 : lo < 2 ^ 62) (h3 : -(2 ^ 62) ≤ hi) (h4 : hi < 2 ^ 62)
    (q : R (Itr lo (hi - lo).toNat) H) : wpAny (model X.prog X.w) X.A (pyIter (.ref s.heap.objs.size)) (PIE X pins σ tg R) E { s with heap := s.heap.push { cls := .type "range", data := .fields #[.int lo t, .int hi u, .int 1 v] }, toks := tk } := by
  refine wpAny_pyIter_range (IsRange.new ..) (small_one h1 h2 h3 h4) ?_
  have I1 : Inv X pins σ H { s with heap := s.heap.push { cls := .type "range", data := .fields #[.int lo t, .int hi u, .int 1 v] }, toks := tk } := I.kept fun b o e => Heap.get?_push_of_some _ e
  refine ⟨(s.heap.push { cls := .type "range", data := .fields #[.int lo t, .int hi u, .int 1 v] }).objs.size, [(s.heap.push { cls := .type "range", data := .fields #[.int lo t, .int hi u, .int 1 v] }).objs.size], _, _, H, rfl,
    I1.kept (t' := tk) fun b o e => Heap.get?_push_of_some _ e, turn_range _ lo (hi - lo).toNat, ?_, fun b hb => ?_, q⟩
  · have e1 : lo + ((0 : Nat) : Int) * 1 = lo := by simp
    have e2 : (((hi - lo).toNat : Nat) : Int) - ((0 : Nat) : Int) = Builtin.Range.rangeSize lo hi 1 := by rw [rangeSize_one]; split <;> omega
    show IsRangeIter _ _ (lo + ((0 : Nat) : Int) * 1) ((((hi - lo).toNat : Nat) : Int) - ((0 : Nat) : Int)) 1
    rw [e1, e2]
    exact Heap.get?_push_size _ rfl
  · have e : b = (s.heap.push { cls := .type "range", data := .fields #[.int lo t, .int hi u, .int 1 v] }).objs.size := by simpa using hb
    subst e
    exact I1.fpOk (Nat.le_refl _) (I1.hok.fresh (Nat.le_refl _))
def iRng1 (ta : TA) : TI := fun σ H R => ta σ H fun vs H1 => ∃ j : Int, vs = [.int j] ∧ -(2 ^ 62) ≤ j ∧ j < 2 ^ 62 ∧ R (Itr 0 j.toNat) H1
def iRng2 (ta : TA) : TI := fun σ H R => ta σ H fun vs H1 => ∃ i j : Int, vs = [.int i, .int j] ∧ (-(2 ^ 62) ≤ i ∧ i < 2 ^ 62 ∧ -(2 ^ 62) ≤ j ∧ j < 2 ^ 62) ∧ R (Itr i (j - i).toNat) H1
theorem pi_range1 {a : Expr} {ta : TA} {p pos : Pos} (hg : Gl X "range") (hm : X.mg "range" = none) (ha : PA X [a] ta) (hs : starEach [a] X.env = [(false, eval a X.env)] := by rfl) : PI X tg (.Call (.Name "range" p) [a] [] pos) (iRng1 ta) := by
  intro pins s σ H R I h
  refine Call_ (ld_blt I hg hm boot_range (PyProof.Rows.callWith_type1 (thn (ha pos pins s σ H _ I h) fun us s1 ⟨vs, H1, I1, r1, q1⟩ => ?_) hs rfl))
  obtain ⟨j, e, q1, q2, q⟩ := q1
  subst e
  cases r1 with
  | cons r rr =>
    cases rr
    obtain ⟨t, rfl⟩ := r
    exact call_range_1 (range_it I1 (by omega) (by omega) q1 q2 (by simpa using q))
/-! ### for -/
/-- W: the invariant by the turn and a measure; N: what the body is to reach -/
def tFor (wi : TI) (g : TG) (tb : TS) : TS := fun D σ H => wi σ H fun J H1 => ∃ W : Nat → Nat → St → Hp → Prop, (∃ m, W 0 m σ H1) ∧ ∀ i m σ H, W i m σ H →
  (J.stop i H ∧ D.nx σ H) ∨ (J.go i H ∧ ∃ N : St → Hp → Prop, (∀ σ' H', N σ' H' → ∃ m', m' < m ∧ W (i + 1) m' σ' H') ∧ ∀ x H', J.yld i H x H' → g x σ H' fun σ2 H2 => tb { D with nx := N, ct := N, bk := D.nx } σ2 H2)
/-- the records at fp as they stand -/
def pinsAt (fp : List Addr) (h : Heap) : List (Addr × Obj) := fp.filterMap fun b => (h.get? b).map fun o => (b, o)
theorem mem_pinsAt {fp : List Addr} {h : Heap} {b : Addr} {o : Obj} (hb : b ∈ fp) (e : h.get? b = some o) : (b, o) ∈ pinsAt fp h := List.mem_filterMap.mpr ⟨b, hb, by rw [e]; rfl⟩
theorem of_pinsAt {fp : List Addr} {h : Heap} {p : Addr × Obj} (hp : p ∈ pinsAt fp h) : p.1 ∈ fp ∧ h.get? p.1 = some p.2 := by
  obtain ⟨b, hb, e⟩ := List.mem_filterMap.mp hp
  cases q : h.get? b with
  | none => rw [q] at e; cases e
  | some o =>
    rw [q] at e
    have e' : (b, o) = p := Option.some.inj e
    subst e'
    exact ⟨hb, q⟩
theorem Inv.pinned {pins : List (Addr × Obj)} {σ : St} {H : Hp} {s : Shared} {fp : List Addr} (I : Inv X pins σ H s) (hf : ∀ b ∈ fp, FpOk X pins H b) (ho : ∀ b ∈ fp, ∃ o, s.heap.get? b = some o ∧ ∀ v, o.data ≠ .cell v) : Inv X (pins ++ pinsAt fp s.heap) σ H s :=
  I.pins_of fun p hp => (List.mem_append.mp hp).elim (fun z => I.pin p (List.mem_append_right _ z)) fun z => by
    obtain ⟨hb, e⟩ := of_pinsAt z
    obtain ⟨f0, f1, f2, _⟩ := hf p.1 hb
    obtain ⟨o, e', d⟩ := ho p.1 hb
    rw [e] at e'; cases e'
    exact ⟨e, f0, f1, f2, d⟩
theorem Inv.unpinned {pins pl : List (Addr × Obj)} {σ : St} {H : Hp} {s : Shared} (I : Inv X (pins ++ pl) σ H s) : Inv X pins σ H s := I.pins_of fun p hp => I.pin p (List.mem_append_right _ (List.mem_append_left _ hp))
theorem ps_for {iter : Expr} {body : List Stmt} {wi : TI} {g : TG} {tb : TS} {pos : Pos} (hp : PassesOwn (model X.prog X.w) X.A X.env X.xe) (hc : X.calm = true) (hi : PI X tg iter wi) (hg : PG X tg g) (hb : PSs X body tb)
    (hs : ∀ x, foldedSetIterable iter X.env x = pure x := by intro _; rfl) : PS X (.For tg iter body [] pos) (tFor wi g tb) := by
  intro pins s σ H D I h
  refine wpAny_For (thn (hi pins s σ H _ I h) fun v s1 h1 => thn h1 fun itv s2 h2 => ?_) hs
  obtain ⟨it, fp, tn, J, H2, e, I2, T, st2, f2, W, ⟨m0, w0⟩, turn⟩ := h2
  subst e
  -- what stays true of the iterator's objects through the loop
  have stat : ∀ {H' : Hp}, (∀ b ∈ fp, H' b = none) → ∀ b ∈ fp, FpOk X pins H' b := fun hn b hb => ⟨hn b hb, (f2 b hb).2⟩
  refine codeAny_forLoop_any (fun n s' => ∃ i σ' H', Inv X pins σ' H' s' ∧ tn i s'.heap ∧ (∀ b ∈ fp, H' b = none) ∧ W i n σ' H') ?_ m0 ⟨0, σ, H2, I2, st2, fun b hb => (f2 b hb).1, w0⟩
  rintro n s3 ⟨i, σ3, H3, I3, st3, fr3, w3⟩
  rcases turn i n σ3 H3 w3 with ⟨stop, qn⟩ | ⟨go, N, hN, step⟩
  · refine wpAny_passesOwn hp (thn (T.done X rfl rfl rfl hc i pins s3 σ3 H3 X.xe I3 (stat fr3) st3 stop) fun r s4 ⟨hr, I4⟩ => ?_)
    subst hr
    exact wpAny_execs_nil ⟨σ3, H3, I4, qn⟩
  · refine wpAny_passesOwn hp (thn (T.item X rfl rfl rfl hc i pins s3 σ3 H3 X.xe I3 (stat fr3) st3 go) fun r s4 ⟨u, hr, h4⟩ => ?_)
    subst hr
    refine wpAny_passesOwn hp (thn h4 fun _ s5 ⟨x, H5, I5, r5, y5, st5, fr5⟩ => ?_)
    have I5' := I5.pinned (stat fr5) (T.obj _ _ st5)
    refine wpAny_passesOwn hp (thn (hg _ s5 σ3 H5 x u _ I5' r5 (step x H5 y5)) fun _ s6 ⟨σ6, H6, I6, q6⟩ => ?_)
    refine wpAny_passesOwn hp (thn (hb _ s6 σ6 H6 _ I6 q6) fun f s7 q7 => ?_)
    have again : ∀ {σ7 : St} {H7 : Hp}, Inv X (pins ++ pinsAt fp s5.heap) σ7 H7 s7 → N σ7 H7 → ∃ m, m < n ∧ ∃ i σ' H', Inv X pins σ' H' s7 ∧ tn i s7.heap ∧ (∀ b ∈ fp, H' b = none) ∧ W i m σ' H' := fun {σ7 H7} I7 n7 => by
      obtain ⟨m', hm, w7⟩ := hN σ7 H7 n7
      refine ⟨m', hm, i + 1, σ7, H7, I7.unpinned, T.keep _ _ _ st5 fun b hb o e => (I7.pin (b, o) (List.mem_append_right _ (List.mem_append_right _ (mem_pinsAt hb e)))).1, fun b hb => ?_, w7⟩
      obtain ⟨o, e, d⟩ := T.obj _ _ st5 b hb
      exact (I7.pin (b, o) (List.mem_append_right _ (List.mem_append_right _ (mem_pinsAt hb e)))).2.1
    cases f with
    | next => obtain ⟨σ7, H7, I7, n7⟩ := q7; exact again I7 n7
    | cont => obtain ⟨σ7, H7, I7, n7⟩ := q7; exact again I7 n7
    | brk => obtain ⟨σ7, H7, I7, q7⟩ := q7; exact ⟨σ7, H7, I7.unpinned, q7⟩
    | ret v => obtain ⟨x7, σ7, H7, I7, r7, q7⟩ := q7; exact ⟨x7, σ7, H7, I7.unpinned, r7, q7⟩
end

/-! ### the forms one uses -/
theorem for_range {lo : Int} {n : Nat} {g : TG} {tb : TS} {D : Ends} {σ : St} {H : Hp} (Pv : Nat → St → Hp → Prop) (h0 : Pv 0 σ H)
    (hs : ∀ i σ H, i < n → Pv i σ H → g (.int (lo + i)) σ H fun σ2 H2 => tb { D with nx := Pv (i + 1), ct := Pv (i + 1), bk := D.nx } σ2 H2) (hd : ∀ σ H, Pv n σ H → D.nx σ H) :
    ∃ W : Nat → Nat → St → Hp → Prop, (∃ m, W 0 m σ H) ∧ ∀ i m σ H, W i m σ H →
      ((Itr lo n).stop i H ∧ D.nx σ H) ∨ ((Itr lo n).go i H ∧ ∃ N : St → Hp → Prop, (∀ σ' H', N σ' H' → ∃ m', m' < m ∧ W (i + 1) m' σ' H') ∧ ∀ x H', (Itr lo n).yld i H x H' → g x σ H' fun σ2 H2 => tb { D with nx := N, ct := N, bk := D.nx } σ2 H2) := by
  refine ⟨fun i m σ H => m = n - i ∧ i ≤ n ∧ Pv i σ H, ⟨n, by simp, Nat.zero_le _, h0⟩, ?_⟩
  rintro i m σ H ⟨rfl, hi, p⟩
  by_cases hlt : i < n
  · refine .inr ⟨hlt, Pv (i + 1), fun σ' H' p' => ⟨n - (i + 1), by omega, rfl, hlt, p'⟩, fun x H' y => ?_⟩
    obtain ⟨e, y⟩ := y
    subst e y
    exact hs i σ _ hlt p
  · have e : i = n := by omega
    subst e
    exact .inl ⟨Nat.le_refl _, hd σ H p⟩
end L2

namespace L2
open PySem PySem.Spec PyProof.Rows

abbrev R2 := V → V → Hp → VK → Prop
/-- a two-place operation on values: f is binaryOp op, inplaceOp op or compareOp op -/
def OpR (X : Cx) (f : Value → Value → Sem Value) (r : R2) : Prop :=
  ∀ (pins : List (Addr × Obj)) (s : Shared) (σ : St) (H : Hp) (x y : V) (v u : Value) (Q : VK), Inv X pins σ H s → RelV x v → RelV y u → r x y H Q →
    wpAny (model X.prog X.w) X.A (f v u) (EP X pins σ Q) X.xe s
/-- a one-place operation -/
def UnR (X : Cx) (f : Value → Sem Value) (r : V → Hp → VK → Prop) : Prop :=
  ∀ (pins : List (Addr × Obj)) (s : Shared) (σ : St) (H : Hp) (x : V) (v : Value) (Q : VK), Inv X pins σ H s → RelV x v → r x H Q →
    wpAny (model X.prog X.w) X.A (f v) (EP X pins σ Q) X.xe s
/-- a call of a value that is known (a builtin, a type) with values -/
def CallR (X : Cx) (f : Value) (r : List V → Hp → VK → Prop) : Prop :=
  ∀ (pins : List (Addr × Obj)) (s : Shared) (σ : St) (H : Hp) (xs : List V) (us : List Value) (Q : VK), Inv X pins σ H s → Vals xs us → r xs H Q →
    wpAny (model X.prog X.w) X.A (call f us) (EP X pins σ Q) X.xe s
/-- a value's truth -/
def TruR (X : Cx) (r : V → Hp → (Bool → Hp → Prop) → Prop) : Prop :=
  ∀ (pins : List (Addr × Obj)) (s : Shared) (σ : St) (H : Hp) (x : V) (v : Value) (Q : Bool → Hp → Prop), Inv X pins σ H s → RelV x v → r x H Q →
    wpAny (model X.prog X.w) X.A (truthy v) (TP X pins σ Q) X.xe s

def tOp (r : R2) (ta tb : TE) : TE := fun σ H Q => ta σ H fun x H1 => tb σ H1 fun y H2 => r x y H2 Q
def tUn (r : V → Hp → VK → Prop) (ta : TE) : TE := fun σ H Q => ta σ H fun x H1 => r x H1 Q
/-- ints in, under C, and a value out -/
def rI (C : Int → Int → Prop) (g : Int → Int → V) : R2 := fun x y H Q => ∃ i j, x = .int i ∧ y = .int j ∧ C i j ∧ Q (g i j) H
def rI0 (g : Int → Int → V) : R2 := fun x y H Q => ∃ i j, x = .int i ∧ y = .int j ∧ Q (g i j) H
def rU (g : Int → V) : V → Hp → VK → Prop := fun x H Q => ∃ i, x = .int i ∧ Q (g i) H

section
variable {X : Cx} {a b c : Expr} {ta tb tc : TE} {pos : Pos}

theorem binT (ha : PE X a ta) (hb : PE X b tb) {pins : List (Addr × Obj)} {s : Shared} {σ : St} {H : Hp} {R : V → V → Hp → Prop} (I : Inv X pins σ H s)
    (h : ta σ H fun x H1 => tb σ H1 fun y H2 => R x y H2) {Q : Value → Shared → Prop} {f : Value → Value → Sem Value}
    (hf : ∀ v u s2 x y H2, Inv X pins σ H2 s2 → RelV x v → RelV y u → R x y H2 → wpAny (model X.prog X.w) X.A (f v u) Q X.xe s2) :
    wpAny (model X.prog X.w) X.A (eval a X.env) (fun v s₁ => wpAny (model X.prog X.w) X.A (eval b X.env) (fun u s₂ => wpAny (model X.prog X.w) X.A (f v u) Q X.xe s₂) X.xe s₁) X.xe s := by
  refine thn (ha pins s σ H _ I h) fun v s1 ⟨x, H1, I1, r1, q1⟩ => ?_
  refine thn (hb pins s1 σ H1 _ I1 q1) fun u s2 ⟨y, H2, I2, r2, q2⟩ => ?_
  exact hf v u s2 x y H2 I2 r1 r2 q2

theorem pe_op {op : Operator} {r : R2} (ho : OpR X (binaryOp op) r) (ha : PE X a ta) (hb : PE X b tb) : PE X (.BinOp a op b pos) (tOp r ta tb) := by
  intro pins s σ H Q I h
  exact wpAny_BinOp (binT ha hb I h fun v u s2 x y H2 I2 rx ry q => ho pins s2 σ H2 x y v u Q I2 rx ry q)
/-! ### ints -/
theorem opI {f : Value → Value → Sem Value} {C : Int → Int → Prop} {g : Int → Int → Int}
    (rule : ∀ (i j : Int) (t u : Tok) (s : Shared) (Q : Value → Shared → Prop) (E : Value → Shared → Prop), C i j → Q (.int (g i j) s.toks) { s with toks := s.toks + 1 } → wpAny (model X.prog X.w) X.A (f (.int i t) (.int j u)) Q E s) :
    OpR X f (rI C fun i j => .int (g i j)) := by
  intro pins s σ H x y v u Q I rx ry h
  obtain ⟨i, j, rfl, rfl, hc, q⟩ := h
  obtain ⟨t, rfl⟩ := rx
  obtain ⟨t', rfl⟩ := ry
  exact rule i j t t' s _ _ hc ⟨.int (g i j), H, I.tok _, ⟨_, rfl⟩, q⟩
theorem opI0 {f : Value → Value → Sem Value} {g : Int → Int → Int}
    (rule : ∀ (i j : Int) (t u : Tok) (s : Shared) (Q : Value → Shared → Prop) (E : Value → Shared → Prop), Q (.int (g i j) s.toks) { s with toks := s.toks + 1 } → wpAny (model X.prog X.w) X.A (f (.int i t) (.int j u)) Q E s) :
    OpR X f (rI0 fun i j => .int (g i j)) := by
  intro pins s σ H x y v u Q I rx ry h
  obtain ⟨i, j, rfl, rfl, q⟩ := h
  obtain ⟨t, rfl⟩ := rx
  obtain ⟨t', rfl⟩ := ry
  exact rule i j t t' s _ _ ⟨.int (g i j), H, I.tok _, ⟨_, rfl⟩, q⟩
theorem opB0 {f : Value → Value → Sem Value} {g : Int → Int → Bool}
    (rule : ∀ (i j : Int) (t u : Tok) (s : Shared) (Q : Value → Shared → Prop) (E : Value → Shared → Prop), Q (.bool (g i j)) s → wpAny (model X.prog X.w) X.A (f (.int i t) (.int j u)) Q E s) :
    OpR X f (rI0 fun i j => .bl (g i j)) := by
  intro pins s σ H x y v u Q I rx ry h
  obtain ⟨i, j, rfl, rfl, q⟩ := h
  obtain ⟨t, rfl⟩ := rx
  obtain ⟨t', rfl⟩ := ry
  exact rule i j t t' s _ _ ⟨.bl (g i j), H, I, rfl, q⟩

def CDiv (i j : Int) : Prop := 0 < j ∧ j < 1073741824
def CDivN (i j : Int) : Prop := j ≠ 0 ∧ j.natAbs < 1073741824
def CPow (i j : Int) : Prop := 0 ≤ j ∧ j ≤ 1000000 ∧ i.natAbs < 2 ^ 64
def CMul (i j : Int) : Prop := (-(2 ^ 64) < i ∧ i < 2 ^ 64) ∨ (-(2 ^ 64) < j ∧ j < 2 ^ 64)
theorem CMul.ok {i j : Int} (h : CMul i j) : IntMulOk i j := by
  rcases h with ⟨h1, h2⟩ | ⟨h1, h2⟩
  · exact .of_left (intBits_le_64 h1 h2)
  · exact .of_right (intBits_le_64 h1 h2)
theorem op_add : OpR X (binaryOp .Add) (rI0 fun i j => .int (i + j)) := opI0 fun _ _ _ _ _ _ _ q => add_int q
theorem op_mul : OpR X (binaryOp .Mult) (rI CMul fun i j => .int (i * j)) := opI fun _ _ _ _ _ _ _ hc q => mul_int q hc.ok
/-- // by a positive divisor -/
theorem op_fdiv : OpR X (binaryOp .FloorDiv) (rI CDiv fun i j => .int (i / j)) := opI fun i j _ _ _ _ _ hc q => by
  have h1 : (0 : Int) < j := hc.1
  have h2 : j < 1073741824 := hc.2
  exact floordiv_int (by omega) (by rw [Int.fdiv_eq_ediv_of_nonneg i (by omega)]; exact q) (.inl (PyProof.noPylong_small (by omega)))
/-- % by a positive divisor of any size -/
theorem op_mod : OpR X (binaryOp .Mod) (rI (fun _ j => 0 < j) fun i j => .int (i % j)) := opI fun i j _ _ _ _ _ hc q => by
  have h1 : (0 : Int) < j := hc
  exact mod_int' (by omega) (by rw [Int.fmod_eq_emod_of_nonneg i (by omega)]; exact q)
theorem op_pow : OpR X (binaryOp .Pow) (rI CPow fun i j => .int (i ^ j.toNat)) := opI fun _ _ _ _ _ _ _ hc q => pow_int_small hc.1 hc.2.1 hc.2.2 q
/-! ### bools among ints: n += (a < b) -/
end

/-! ### comparisons -/
/-- the scalars that == tells apart as data does -/
def scal : V → V → Bool
  | .non, .non => true | .non, .int _ => true | .int _, .non => true | .non, .bl _ => true | .bl _, .non => true | .non, .str _ => true | .str _, .non => true
  | .int _, .int _ => true | .bl _, .bl _ => true | .str _, .str _ => true | .byt _, .byt _ => true
  | .int _, .str _ => true | .str _, .int _ => true | .bl _, .str _ => true | .str _, .bl _ => true
  | _, _ => false
def rEq : R2 := fun x y H Q => scal x y = true ∧ Q (.bl (decide (x = y))) H
def rNe : R2 := fun x y H Q => scal x y = true ∧ Q (.bl (!decide (x = y))) H

theorem dec_int {i j : Int} : decide (V.int i = V.int j) = (i == j) := by
  rw [Bool.eq_iff_iff]
  simp
theorem dec_bl {i j : Bool} : decide (V.bl i = V.bl j) = (i == j) := by
  rw [Bool.eq_iff_iff]
  simp
theorem dec_str {i j : Str} : decide (V.str i = V.str j) = (i == j) := by
  rw [Bool.eq_iff_iff]
  simp
theorem dec_byt {i j : Array UInt8} : decide (V.byt i = V.byt j) = (i.toList == j.toList) := by
  rw [Bool.eq_iff_iff]
  cases i
  cases j
  simp

section
variable {X : Cx} {a b c : Expr} {ta tb tc : TE} {pos : Pos}
theorem fin_bl {pins : List (Addr × Obj)} {σ : St} {H : Hp} {s : Shared} {Q : VK} {k k' : Bool} (I : Inv X pins σ H s) (q : Q (.bl k) H) (e : k = k') : EP X pins σ Q (.bool k') s := by
  subst e
  exact ⟨.bl k, H, I, rfl, q⟩
theorem op_eq : OpR X (compareOp .Eq) rEq := by
  intro pins s σ H x y v u Q I rx ry h
  obtain ⟨hs, q⟩ := h
  cases x with
  | non =>
    cases rx
    cases y with
    | non => cases ry; exact PySem.EqNone.eq_none_none (fin_bl I q (by simp))
    | bl j => cases ry; exact PySem.EqNone.eq_none_bool (fin_bl I q (by simp))
    | int j => obtain ⟨t', rfl⟩ := ry; exact PySem.EqNone.eq_none_int (fin_bl I q (by simp))
    | str j => obtain ⟨t', rfl⟩ := ry; exact PySem.EqNone.eq_none_str (fin_bl I q (by simp))
    | _ => exact absurd (show false = true from hs) Bool.false_ne_true
  | bl i =>
    cases rx
    cases y with
    | non => cases ry; exact PySem.EqNone.eq_bool_none (fin_bl I q (by simp))
    | bl j => cases ry; exact eq_bool (fin_bl I q dec_bl)
    | str j => obtain ⟨t', rfl⟩ := ry; exact PySem.EqMixed.eq_bool_str (fin_bl I q (by simp))
    | _ => exact absurd (show false = true from hs) Bool.false_ne_true
  | int i =>
    obtain ⟨t, rfl⟩ := rx
    cases y with
    | non => cases ry; exact PySem.EqNone.eq_int_none (fin_bl I q (by simp))
    | int j => obtain ⟨t', rfl⟩ := ry; exact eq_int (fin_bl I q dec_int)
    | str j => obtain ⟨t', rfl⟩ := ry; exact PySem.EqMixed.eq_int_str (fin_bl I q (by simp))
    | _ => exact absurd (show false = true from hs) Bool.false_ne_true
  | str i =>
    obtain ⟨t, rfl⟩ := rx
    cases y with
    | non => cases ry; exact PySem.EqNone.eq_str_none (fin_bl I q (by simp))
    | bl j => cases ry; exact PySem.EqMixed.eq_str_bool (fin_bl I q (by simp))
    | int j => obtain ⟨t', rfl⟩ := ry; exact PySem.EqMixed.eq_str_int (fin_bl I q (by simp))
    | str j => obtain ⟨t', rfl⟩ := ry; exact eq_str (fin_bl I q dec_str)
    | _ => exact absurd (show false = true from hs) Bool.false_ne_true
  | byt i =>
    obtain ⟨t, rfl⟩ := rx
    cases y with
    | byt j => obtain ⟨t', rfl⟩ := ry; exact PySem.W.eq_bytes (fin_bl I q dec_byt)
    | _ => exact absurd (show false = true from hs) Bool.false_ne_true
  | _ => cases y <;> exact absurd (show false = true from hs) Bool.false_ne_true
theorem op_ne : OpR X (compareOp .NotEq) rNe := by
  intro pins s σ H x y v u Q I rx ry h
  obtain ⟨hs, q⟩ := h
  cases x with
  | non =>
    cases rx
    cases y with
    | non => cases ry; exact PySem.EqNone.ne_none_none (fin_bl I q (by simp))
    | bl j => cases ry; exact PySem.EqNone.ne_none_bool (fin_bl I q (by simp))
    | int j => obtain ⟨t', rfl⟩ := ry; exact PySem.EqNone.ne_none_int (fin_bl I q (by simp))
    | str j => obtain ⟨t', rfl⟩ := ry; exact PySem.EqNone.ne_none_str (fin_bl I q (by simp))
    | _ => exact absurd (show false = true from hs) Bool.false_ne_true
  | bl i =>
    cases rx
    cases y with
    | non => cases ry; exact PySem.EqNone.ne_bool_none (fin_bl I q (by simp))
    | bl j => cases ry; exact ne_bool (fin_bl I q (congrArg not dec_bl))
    | str j => obtain ⟨t', rfl⟩ := ry; exact PySem.EqMixed.ne_bool_str (fin_bl I q (by simp))
    | _ => exact absurd (show false = true from hs) Bool.false_ne_true
  | int i =>
    obtain ⟨t, rfl⟩ := rx
    cases y with
    | non => cases ry; exact PySem.EqNone.ne_int_none (fin_bl I q (by simp))
    | int j => obtain ⟨t', rfl⟩ := ry; exact ne_int (fin_bl I q (congrArg not dec_int))
    | str j => obtain ⟨t', rfl⟩ := ry; exact PySem.EqMixed.ne_int_str (fin_bl I q (by simp))
    | _ => exact absurd (show false = true from hs) Bool.false_ne_true
  | str i =>
    obtain ⟨t, rfl⟩ := rx
    cases y with
    | non => cases ry; exact PySem.EqNone.ne_str_none (fin_bl I q (by simp))
    | bl j => cases ry; exact PySem.EqMixed.ne_str_bool (fin_bl I q (by simp))
    | int j => obtain ⟨t', rfl⟩ := ry; exact PySem.EqMixed.ne_str_int (fin_bl I q (by simp))
    | str j => obtain ⟨t', rfl⟩ := ry; exact ne_str (fin_bl I q (congrArg not dec_str))
    | _ => exact absurd (show false = true from hs) Bool.false_ne_true
  | byt i =>
    obtain ⟨t, rfl⟩ := rx
    cases y with
    | byt j => obtain ⟨t', rfl⟩ := ry; exact PySem.W.ne_bytes (fin_bl I q (congrArg not dec_byt))
    | _ => exact absurd (show false = true from hs) Bool.false_ne_true
  | _ => cases y <;> exact absurd (show false = true from hs) Bool.false_ne_true

theorem op_lt : OpR X (compareOp .Lt) (rI0 fun i j => .bl (decide (i < j))) := opB0 fun _ _ _ _ _ _ _ q => lt_int q
theorem op_le : OpR X (compareOp .LtE) (rI0 fun i j => .bl (decide (i ≤ j))) := opB0 fun _ _ _ _ _ _ _ q => le_int q
theorem op_gt : OpR X (compareOp .Gt) (rI0 fun i j => .bl (decide (j < i))) := opB0 fun _ _ _ _ _ _ _ q => gt_int q
/-- is None, is not None: the right side a value none -/
theorem op_isN : OpR X (compareOp .Is) (fun x y H Q => y = .non ∧ Q (.bl (decide (x = .non))) H) := by
  intro pins s σ H x y v u Q I rx ry h
  obtain ⟨rfl, q⟩ := h
  cases ry
  refine is_none_gen (fin_bl I q ?_)
  cases x <;> first
    | (cases rx; rfl)
    | (obtain ⟨t, rfl⟩ := rx; rfl)
/-- is, is not of two objects that are tracked lists or instances -/
def isObj : HO → Bool
  | .lst _ => true
  | .ins _ _ _ => true
  | _ => false
/-- two rules for one operation: by cases -/
theorem OpR.or {f : Value → Value → Sem Value} {r r' : R2} (h : OpR X f r) (h' : OpR X f r') : OpR X f (fun x y H Q => r x y H Q ∨ r' x y H Q) := by
  intro pins s σ H x y v u Q I rx ry q
  rcases q with q | q
  · exact h pins s σ H x y v u Q I rx ry q
  · exact h' pins s σ H x y v u Q I rx ry q

theorem nomark (b : Expr) {op : CmpOp} (h : op ≠ .In := by decide) (h2 : op ≠ .NotIn := by decide) : behindInMarks op b = false := by
  have e1 : (op == CmpOp.In) = false := by cases op <;> first | rfl | exact absurd rfl h
  have e2 : (op == CmpOp.NotIn) = false := by cases op <;> first | rfl | exact absurd rfl h2
  cases b <;> simp [behindInMarks, e1, e2]
/-- a comparison as a value; hm: nomark b, or (for in, not in) by with_unfolding_all rfl -/
theorem pe_cmpR {op : CmpOp} {r : R2} (ho : OpR X (compareOp op) r) (ha : PE X a ta) (hb : PE X b tb) (hm : behindInMarks op b = false) : PE X (.Compare a [op] [b] pos) (tOp r ta tb) := by
  intro pins s σ H Q I h
  exact wpAny_Compare1 (binT ha hb I h fun v u s2 x y H2 I2 rx ry q => ho pins s2 σ H2 x y v u Q I2 rx ry q) hm
/-- a reading of a value as a test -/
def tTest (t : TE) : TT := fun σ H Q => t σ H fun x H' => ∃ k, x = .bl k ∧ Q k H'
theorem pt_cmpR {op : CmpOp} {r : R2} (ho : OpR X (compareOp op) r) (ha : PE X a ta) (hb : PE X b tb) (hm : behindInMarks op b = false) : PT X (.Compare a [op] [b] pos) (tTest (tOp r ta tb)) := by
  intro pins s σ H Q I h
  refine wpAny_isTrue_Compare1 (thn (ha pins s σ H _ I h) fun v s1 ⟨x, H1, I1, r1, q1⟩ => thn (hb pins s1 σ H1 _ I1 q1) fun u s2 ⟨y, H2, I2, r2, q2⟩ =>
    thn (ho pins s2 σ H2 x y v u _ I2 r1 r2 q2) fun c s3 ⟨z, H3, I3, r3, k, e, q3⟩ => ?_) hm
  subst e
  cases r3
  exact wpAny_truthy_bool ⟨H3, I3, q3⟩
/-- a op1 b op2 c -/
def tChain (r r' : R2) (ta tb tc : TE) : TE := fun σ H Q => ta σ H fun x H1 => tb σ H1 fun y H2 => r x y H2 fun z H3 => ∃ k, z = .bl k ∧
  (if k = true then tc σ H3 fun w' H4 => r' y w' H4 Q else Q (.bl false) H3)
/-! ### truth -/
/-- a value's truth by the abstract heap -/
def TruV (K : PySem.W.Frag) (x : V) (H : Hp) (k : Bool) : Prop :=
  match x with
  | .non => k = false
  | .bl b => k = b
  | .int i => k = (i != 0)
  | .str y => y.length ≤ sizeLine ∧ k = ((y.length : Int) != 0)
  | .byt y => y.size ≤ sizeLine ∧ k = ((y.size : Int) != 0)
  | .ref p => (∃ xs, SqL K H p xs ∧ k = !xs.isEmpty) ∨ (∃ xs, SqT K H p xs ∧ k = !xs.isEmpty) ∨ ∃ kvs, H p = some (.dK kvs) ∧ k = !kvs.isEmpty
  | _ => False
theorem line63 : (sizeLine : Nat) < 2 ^ 63 := by rw [sizeLine_eq]; decide
/-! ### strs and bytes -/
theorem op_add_str : OpR X (binaryOp .Add) (fun x y H Q => ∃ i j, x = .str i ∧ y = .str j ∧ i.length + j.length ≤ sizeLine ∧ Q (.str (i ++ j)) H) := by
  intro pins s σ H x y v u Q I rx ry h
  obtain ⟨i, j, rfl, rfl, hz, q⟩ := h
  obtain ⟨t, rfl⟩ := rx
  obtain ⟨t', rfl⟩ := ry
  exact add_str (fun t' tk => ⟨.str (i ++ j), H, I.tok _, ⟨_, rfl⟩, q⟩) hz
def PlainIxT (b : Expr) : Prop := ∀ o i, subscripted b false o i = operate [o, i] (getItem o i)
/-! ### scalar builtins, by CallR -/
theorem vals1 {x : V} {us : List Value} (r : Vals [x] us) : ∃ u, us = [u] ∧ RelV x u := by
  cases r with
  | cons r1 r2 => cases r2; exact ⟨_, rfl, r1⟩
theorem vals2 {x y : V} {us : List Value} (r : Vals [x, y] us) : ∃ u w', us = [u, w'] ∧ RelV x u ∧ RelV y w' := by
  cases r with
  | cons r1 r2 =>
    cases r2 with
    | cons r3 r4 => cases r4; exact ⟨_, _, rfl, r1, r3⟩
theorem call_int1 : CallR X (.type "int") (fun xs H Q => (∃ i, xs = [.int i] ∧ Q (.int i) H) ∨ ∃ k, xs = [.bl k] ∧ Q (.int (if k then 1 else 0)) H) := by
  intro pins s σ H xs us Q I r h
  rcases h with ⟨i, rfl, q⟩ | ⟨k, rfl, q⟩
  · obtain ⟨u, rfl, t, rfl⟩ := vals1 r
    exact call_int_int ⟨.int i, H, I, ⟨_, rfl⟩, q⟩
  · obtain ⟨u, rfl, r1⟩ := vals1 r
    cases r1
    exact call_int_bool ⟨.int (if k then 1 else 0), H, I.tok _, ⟨_, rfl⟩, q⟩
theorem call_str_int : CallR X (.type "str") (fun xs H Q => ∃ i, xs = [.int i] ∧ i.natAbs.log2 < 1920 ∧ Q (.str (toString i)) H) := by
  intro pins s σ H xs us Q I r h
  obtain ⟨i, rfl, hz, q⟩ := h
  obtain ⟨u, rfl, t, rfl⟩ := vals1 r
  exact PySem.P.str_of_int hz ⟨.str _, H, I.tok _, ⟨_, rfl⟩, q⟩
/-- len of a str, a bytes, a list, a tuple -/
def LenV (K : PySem.W.Frag) (x : V) (H : Hp) (n : Nat) : Prop :=
  match x with
  | .str y => y.length ≤ sizeLine ∧ n = y.length
  | .byt y => y.size ≤ sizeLine ∧ n = y.size
  | .ref p => (∃ xs, SqL K H p xs ∧ n = xs.length) ∨ ∃ xs, SqT K H p xs ∧ n = xs.length
  | _ => False
end
end L2

namespace L2
open PySem PySem.Spec PyProof.Rows

/-! ### an instance, its attributes a map -/
structure ObjM (h : Heap) (x dx C : Addr) (mA : Str → Option Value) : Prop where
  obj : h.get? x = some (PySem.W.instObj C dx)
  ns : h.Ns1 dx mA
  ne : dx ≠ x

theorem lookIn_ns {h : Heap} {dx : Addr} {mA : Str → Option Value} (n : h.Ns1 dx mA) : ∃ od, h.get? dx = some od ∧ ∀ name, PySem.W.lookIn name od = some (mA name) := by
  obtain ⟨o, es, ep, ho, hd, hk, _, hm⟩ := n
  refine ⟨o, ho, fun name => ?_⟩
  have e := hm name
  unfold nsFind findBy at e
  rw [← Array.find?_toList] at e
  unfold PySem.W.lookIn
  rw [hd]
  dsimp only
  split
  · rename_i y q
    rw [q] at e
    exact congrArg some e
  · rename_i q
    rw [q] at e
    have a : es.toList.any (·.refKey) = false := by
      rw [List.any_eq_false]
      intro y hy
      obtain ⟨z, t, hkey⟩ := hk y (Array.mem_toList_iff.mp hy)
      simp [DictEntry.refKey, hkey]
    have a' : ¬ es.toList.any (·.refKey) = true := by rw [a]; exact Bool.false_ne_true
    rw [if_neg a']
    exact congrArg some e

theorem ObjM.look {h : Heap} {x dx C : Addr} {mA : Str → Option Value} (I : ObjM h x dx C mA) : ∃ od, PySem.W.InstAt h x (PySem.W.instObj C dx) C (some od) ∧ ∀ name, PySem.W.lookIn name od = some (mA name) :=
  let ⟨od, ho, hl⟩ := lookIn_ns I.ns
  ⟨od, ⟨I.obj, rfl, rfl, ho⟩, hl⟩

section
variable {prog : Program} {w : World} {A : Around} {E : Value → Shared → Prop} {s : Shared} {K : PySem.W.Frag} {x dx C f : Addr} {mA : Str → Option Value} {name : Str} {v : Value}

end

/-! ### the attributes as a list of pairs -/
def putF (f : Str) (v : V) : List (Str × V) → List (Str × V)
  | [] => [(f, v)]
  | (g, x) :: r => if g = f then (g, v) :: r else (g, x) :: putF f v r
section
variable {P : Program} {w : World} {H H' : Hp} {h h' : Heap} {a C dx : Addr} {fs fs' : List (Str × V)}
theorem ins_get (hok : HOk P w H h) (e : H a = some (.ins C dx fs)) : ∃ mA, ObjM h a dx C mA ∧ (∀ f, RelO (fs.lookup f) (mA f)) ∧ PySem.Within mA (fs.map (·.1)) ∧ fs.length ≤ 1000 ∧ H dx = some (.own a) := by
  obtain ⟨d, z, ne, ob, mA, n, r, q⟩ := (show ObjOk P w H h a (.ins C dx fs) from hok a _ e)
  exact ⟨mA, ⟨ob, n, ne⟩, r, q, z, d⟩
end

/-! ### what of the text a class must have -/
structure Cls (K : PySem.W.Frag) (C : Addr) : Prop where
  pg : PySem.W.plainGet K C Str.empty = true
  hd : PySem.W.hasDictIn K C = true
  po : PySem.W.plainOver K C = true
  sa : PySem.W.findIn K (.ref C) "__setattr__" = some (some (.builtin "object.__setattr__"))
theorem Cls.get {K : PySem.W.Frag} {C : Addr} (c : Cls K C) (f : Str) : PySem.W.plainGet K C f = true := c.pg
/-- no class of it has the name -/
def NoAttr (K : PySem.W.Frag) (C : Addr) (f : Str) : Prop := PySem.W.findIn K (.ref C) f = some none
/-- a constant of the class -/
structure Con (K : PySem.W.Frag) (C : Addr) (f : Str) (v : V) (u : Value) : Prop where
  at_ : PySem.W.findIn K (.ref C) f = some (some u)
  rel : RelV v u
  get : PySem.W.specialIn K u "__get__" = some none
  cp : PySem.W.copiedNames.contains f = false
/-- a method: a plain def of the class or of one above it -/
structure Meth (K : PySem.W.Frag) (C : Addr) (m : Str) (f : Addr) : Prop where
  at_ : PySem.W.findIn K (.ref C) m = some (some (.ref f))
  fn : PySem.W.isFn K (.ref f) = true
  kp : PySem.W.keepIn K (.ref f) = true

section
variable {X : Cx} {pins : List (Addr × Obj)} {σ : St} {H : Hp} {s : Shared} {a C dx : Addr} {fs : List (Str × V)} {f : Str} {v : V} {A : Around} {E : Value → Shared → Prop}

/-- a new instance, tracked, without attributes -/
theorem Inv.made (I : Inv X pins σ H s) : Inv X pins σ (upd (upd H s.heap.objs.size (.own (s.heap.objs.size + 1))) (s.heap.objs.size + 1) (.ins C s.heap.objs.size []))
    { s with heap := (s.heap.push PySem.W.emptyDict).push (PySem.W.instObj C s.heap.objs.size) } := by
  have e1 : (s.heap.push PySem.W.emptyDict).get? s.heap.objs.size = some PySem.W.emptyDict := Heap.get?_push_size s.heap rfl
  have e2 : ((s.heap.push PySem.W.emptyDict).push (PySem.W.instObj C s.heap.objs.size)).get? (s.heap.objs.size + 1) = some (PySem.W.instObj C s.heap.objs.size) := by
    have := Heap.get?_push_size (s.heap.push PySem.W.emptyDict) (o := PySem.W.instObj C s.heap.objs.size) rfl
    rwa [Heap.size_push] at this
  have e3 : (s.heap.push PySem.W.emptyDict).Ns s.heap.objs.size (fun _ => none) := ⟨PySem.W.emptyDict, #[], _, e1, rfl, (fun e he => absurd he (by simp)), fun _ => rfl⟩
  have I1 := I.laid (a := s.heap.objs.size) (o := .own (s.heap.objs.size + 1)) (h' := s.heap.push PySem.W.emptyDict) (t' := s.toks) (fun b u q => Heap.get?_push_of_some _ q) (Nat.le_refl _) ⟨_, e1⟩
  refine I1.laid (a := s.heap.objs.size + 1) (o := .ins C s.heap.objs.size []) (t' := s.toks) (fun b u q => Heap.get?_push_of_some _ q) (Nat.le_of_eq (Heap.size_push _ _)) ?_
  have ne : s.heap.objs.size ≠ s.heap.objs.size + 1 := Nat.ne_of_lt (Nat.lt_succ_self _)
  refine ⟨by rw [upd_ne ne, upd_same], Nat.zero_le _, ne, e2, fun _ => none, (Heap.Ns1.of_empty e3).at fun o q => Heap.get?_push_of_some _ q, fun _ => True.intro, fun y hy => absurd rfl hy⟩

end

/-! ### readings and rules -/
/-- e.f, an attribute of the instance -/
def tFld (K : PySem.W.Frag) (ta : TE) (f : Str) : TE := fun σ H Q => ta σ H fun x H1 => ∃ a C dx fs v, x = .ref a ∧ H1 a = some (.ins C dx fs) ∧ Cls K C ∧ NoAttr K C f ∧ fs.lookup f = some v ∧ Q v H1
/-- e.f, a constant of the class -/
def tCon (K : PySem.W.Frag) (ta : TE) (f : Str) : TE := fun σ H Q => ta σ H fun x H1 => ∃ a C dx fs v u, x = .ref a ∧ H1 a = some (.ins C dx fs) ∧ Cls K C ∧ Con K C f v u ∧ fs.lookup f = none ∧ Q v H1
/-- e.f = value -/
def sFld (K : PySem.W.Frag) (ta tv : TE) (f : Str) : TS := fun D σ H => tv σ H fun y H1 => ta σ H1 fun x H2 => ∃ a C dx fs, x = .ref a ∧ H2 a = some (.ins C dx fs) ∧ Cls K C ∧ NoAttr K C f ∧ fs.length < 1000 ∧
  D.nx σ (upd H2 a (.ins C dx (putF f y fs)))
/-- an augmented operator on two values -/
def InOp (X : Cx) (op : Operator) (rd : V → V → Hp → VK → Prop) : Prop :=
  ∀ (pins : List (Addr × Obj)) (s : Shared) (σ : St) (H : Hp) (x y : V) (u v : Value) (Q : VK), Inv X pins σ H s → RelV x u → RelV y v → rd x y H Q → wpAny (model X.prog X.w) X.A (inplaceOp op u v) (EP X pins σ Q) X.xe s
/-- e.f op= value -/
def sFldAug (K : PySem.W.Frag) (ta tv : TE) (rd : V → V → Hp → VK → Prop) (f : Str) : TS := fun D σ H => ta σ H fun x H1 => ∃ a C dx fs v, x = .ref a ∧ H1 a = some (.ins C dx fs) ∧ Cls K C ∧ NoAttr K C f ∧ fs.lookup f = some v ∧
  tv σ H1 fun y H2 => rd v y H2 fun z H3 => ∃ dx' fs', H3 a = some (.ins C dx' fs') ∧ fs'.length < 1000 ∧ D.nx σ (upd H3 a (.ins C dx' (putF f z fs')))

section
variable {X : Cx} {o e value : Expr} {f : Str} {pos pos' tpos : Pos} {ta tv : TE}
def rAdd : V → V → Hp → VK → Prop := fun x y H Q => ∃ i j, x = .int i ∧ y = .int j ∧ Q (.int (i + j)) H
def rSub : V → V → Hp → VK → Prop := fun x y H Q => ∃ i j, x = .int i ∧ y = .int j ∧ Q (.int (i - j)) H
end

/-! ### isinstance -/
section
variable {X : Cx} {pins : List (Addr × Obj)} {σ : St} {H : Hp} {s : Shared} {A : Around} {E : Value → Shared → Prop} {Q : Value → Shared → Prop} {c : Value} {b : Bool}
/-- the type of a value, as the fragment's deciders take it; for an instance its class -/
inductive TyOf (K : PySem.W.Frag) (H : Hp) : V → Value → Prop where
  | non : TyOf K H .non (.type "NoneType")
  | bl (x : Bool) : TyOf K H (.bl x) (.type "bool")
  | int (i : Int) : TyOf K H (.int i) (.type "int")
  | str (x : Str) : TyOf K H (.str x) (.type "str")
  | flt (x : UInt64) : TyOf K H (.flt x) (.type "float")
  | lst {a : Addr} {xs : List V} (e : H a = some (.lst xs)) : TyOf K H (.ref a) (.type "list")
  | frz {a : Addr} {o : Obj} {xs : List V} (e : H a = some (.frz o (.lst xs))) : TyOf K H (.ref a) (.type "list")
  | tup {a : Addr} {xs : List V} (e : H a = some (.tup xs)) : TyOf K H (.ref a) (.type "tuple")
  | dK {a : Addr} {kvs : List (Key × V)} (e : H a = some (.dK kvs)) : TyOf K H (.ref a) (.type "dict")
  | dT {a : Addr} {kvs : List (List Key × V)} (e : H a = some (.dT kvs)) : TyOf K H (.ref a) (.type "dict")
  | ins {a C dx : Addr} {fs : List (Str × V)} (e : H a = some (.ins C dx fs)) (cl : Cls K C) (ha : PySem.W.findIn K (.ref C) "__class__" = some (some (.builtin "object.__class__")))
      (hn : PySem.W.specialIn K (.builtin "object.__class__") "__get__" = some (some (.builtin "getset_descriptor.__get__"))) (htk : PySem.W.takesIn K (.builtin "object.__class__") = some true)
      (hm : PySem.W.mroIn K C (.type "object") = some true) : TyOf K H (.ref a) (.ref C)
/-- isinstance(x, c) for one class c, a built-in or an own one: kitOne's answer -/
theorem isinst_ok {x : V} {u t : Value} (I : Inv X pins σ H s) (rx : RelV x u) (ty : TyOf X.K H x t) (e : PySem.W.kitOne X.K t c = some b) (h : ∀ tk, Q (.bool b) { s with toks := tk }) :
    wpAny (model X.prog X.w) A (call (.builtin "isinstance") [u, c]) Q E s := by
  cases ty with
  | non => cases (show u = Value.none from rx); exact PySem.W.kia_one PySem.W.kitx_none I.kIn True.intro e (fun z => nomatch z) h
  | bl y => cases (show u = Value.bool y from rx); exact PySem.W.kia_one PySem.W.kitx_bool I.kIn True.intro e (fun z => nomatch z) h
  | int i => obtain ⟨t, q⟩ := (show ∃ t, u = Value.int i t from rx); cases q; exact PySem.W.kia_one PySem.W.kitx_int I.kIn True.intro e (fun z => nomatch z) h
  | str y => obtain ⟨t, q⟩ := (show ∃ t, u = Value.str y t from rx); cases q; exact PySem.W.kia_one PySem.W.kitx_str I.kIn True.intro e (fun z => nomatch z) h
  | flt y => obtain ⟨t, q⟩ := (show ∃ t, u = Value.float y t from rx); cases q; exact PySem.W.kia_one PySem.W.kitx_float I.kIn True.intro e (fun z => nomatch z) h
  | @lst a xs ea =>
    cases (show u = Value.ref a from rx)
    obtain ⟨_, _, n, _, h1⟩ := (show ObjOk X.prog X.w H s.heap a (.lst xs) from I.hok a _ ea)
    exact PySem.W.kia_one PySem.W.kitx_list I.kIn ⟨_, h1, rfl⟩ e (fun z => nomatch z) h
  | @frz a ob xs ea =>
    cases (show u = Value.ref a from rx)
    obtain ⟨_, _, _, n, _, h1⟩ := (show ObjOk X.prog X.w H s.heap a (.frz ob (.lst xs)) from I.hok a _ ea)
    exact PySem.W.kia_one PySem.W.kitx_list I.kIn ⟨_, h1, rfl⟩ e (fun z => nomatch z) h
  | @tup a xs ea =>
    cases (show u = Value.ref a from rx)
    obtain ⟨_, _, _, p⟩ := (show ObjOk X.prog X.w H s.heap a (.tup xs) from I.hok a _ ea)
    obtain ⟨o, h1, h2, _⟩ := p
    exact PySem.W.kia_one PySem.W.kitx_tuple I.kIn ⟨o, h1, h2⟩ e (fun z => nomatch z) h
  | @dK a kvs ea =>
    cases (show u = Value.ref a from rx)
    obtain ⟨_, _, vs, _, p⟩ := (show ObjOk X.prog X.w H s.heap a (.dK kvs) from I.hok a _ ea)
    obtain ⟨o, es, ep, h1, h2, _⟩ := p
    exact PySem.W.kia_one PySem.W.kitx_dict I.kIn ⟨o, h1, h2.1⟩ e (fun z => nomatch z) h
  | @dT a kvs ea =>
    cases (show u = Value.ref a from rx)
    obtain ⟨_, _, xs, _, o, es, ep, h1, h2, _⟩ := (show ObjOk X.prog X.w H s.heap a (.dT kvs) from I.hok a _ ea)
    exact PySem.W.kia_one PySem.W.kitx_dict I.kIn ⟨o, h1, h2.1⟩ e (fun z => nomatch z) h
  | @ins a C dx fs ea cl ha hn htk hm =>
    cases (show u = Value.ref a from rx)
    obtain ⟨mA, O, _⟩ := ins_get I.hok ea
    obtain ⟨od, J, _⟩ := O.look
    exact PySem.W.kia_one (PySem.W.kitx_own (cl.get _) cl.hd ha hn htk hm) I.kIn J e (fun z => nomatch z) h
end
end L2

namespace L2
open PySem PySem.Spec PyProof.Rows

/-! ### room -/
structure Room (k : Nat) (A : Around) : Prop where
  hd : A.handled = none
  dp : A.depth + 3 * k + 5 < recursionLimit
  un : A.units + 16 * k + 200 < cLine
theorem Room.mono {j k : Nat} {A : Around} (r : Room k A) (h : j ≤ k) : Room j A := ⟨r.hd, by have := r.dp; omega, by have := r.un; omega⟩
theorem Room.deeper {k : Nat} {A : Around} (r : Room (k + 1) A) (env : Env) : Room k (A.deeper env) :=
  ⟨r.hd, by have := r.dp; show A.depth + 1 + 3 * k + 5 < _; omega, by have := r.un; show A.units + 3 + 16 * k + 200 < _; omega⟩
theorem Room.depth {k : Nat} {A : Around} (r : Room k A) : A.depth < recursionLimit := by have := r.dp; omega
theorem Room.units {k : Nat} {A : Around} (r : Room k A) : A.units + 64 < cLine := by have := r.un; omega
/-! ### argument lists and displays -/
def tNil : TA := fun _ H Q => Q [] H
def tCons (ta : TE) (tr : TA) : TA := fun σ H Q => ta σ H fun x H1 => tr σ H1 fun xs H2 => Q (x :: xs) H2
section
variable {X : Cx} {e : Expr} {es : List Expr} {te : TE} {t : TA} {pos : Pos}
theorem pa_nil : PA X [] tNil := fun _ _ _ _ H Q I h => Calls.spliced_nil ⟨[], H, I, .nil, h⟩
theorem pa_cons (ha : PE X e te) (hr : PA X es t) (hs : starEach (e :: es) X.env = (false, eval e X.env) :: starEach es X.env := by rfl) : PA X (e :: es) (tCons te t) := by
  intro pos pins s σ H Q I h
  rw [hs]
  show wpAny _ _ (spliced ((false, eval e X.env) :: backTo pos (starEach es X.env))) _ _ s
  refine Calls.spliced_cons (thn (ha pins s σ H _ I h) fun u s1 ⟨x, H1, I1, r1, q1⟩ => ?_)
  exact thn (hr pos pins s1 σ H1 _ I1 q1) fun us s2 ⟨xs, H2, I2, r2, q2⟩ => ⟨x :: xs, H2, I2, .cons r1 r2, q2⟩

/-- a tuple, a list of written items -/
def tTup (t : TA) : TE := fun σ H Q => t σ H fun xs H1 => xs.length ≤ sizeLine ∧ ∀ p, H1 p = none → Q (.ref p) (upd H1 p (.tup xs))
def tLst (t : TA) : TE := fun σ H Q => t σ H fun xs H1 => xs.length ≤ sizeLine ∧ ∀ p, H1 p = none → Q (.ref p) (upd H1 p (.lst xs))
theorem pe_tup {x1} (h : PA X es t) : PE X (.Tuple es x1 pos) (tTup t) := by
  intro pins s σ H Q I hq
  refine wpAny_Tuple_spliced (thn (h pos pins s σ H _ I hq) fun us s1 ⟨xs, H1, I1, r, z, q⟩ => ⟨by rw [← r.length]; exact z, ?_⟩)
  have hf : H1 s1.heap.objs.size = none := I1.hok.fresh (Nat.le_refl _)
  refine ⟨.ref s1.heap.objs.size, upd H1 s1.heap.objs.size (.tup xs), I1.laid (t' := s1.toks) (fun b u e => Heap.get?_push_of_some _ e) (Nat.le_refl _) ?_, rfl, q _ hf⟩
  exact ⟨z, us, r, ⟨_, Heap.get?_push_size _ rfl, rfl, _, rfl⟩⟩
theorem pe_lst (h : PA X es t) : PE X (.List es pos) (tLst t) := by
  intro pins s σ H Q I hq
  refine wpAny_List_spliced (thn (h pos pins s σ H _ I hq) fun us s1 ⟨xs, H1, I1, r, z, q⟩ => ⟨by rw [← r.length]; exact z, ?_⟩)
  have hf : H1 s1.heap.objs.size = none := I1.hok.fresh (Nat.le_refl _)
  refine ⟨.ref s1.heap.objs.size, upd H1 s1.heap.objs.size (.lst xs), I1.laid (t' := s1.toks) (fun b u e => Heap.get?_push_of_some _ e) (Nat.le_refl _) ?_, rfl, q _ hf⟩
  exact ⟨z, us, 0, r, Heap.get?_push_size _ rfl⟩
end

/-! ### what a def promises -/
/-- a def's promise: the bound arguments in the parameters' order, the heap, the wanted end, the wanted exception -/
abbrev Sp := List V → Hp → VK → XK → Prop
/-- how an exception lies behind a call (file 08 gives it): the callers' frames, abstract heap and state ahead of the call, the wish, the exception, the state -/
abbrev CXT := List Env → Hp → Shared → XK → Value → Shared → Prop

/-- the state at a call -/
structure Env0 (P : Program) (w : World) (K : PySem.W.Frag) (mg : Str → Option Value) (base : Heap) (A : Around) (outer : List Env) (s : Shared) (H : Hp) : Prop where
  frames : A.frames = some outer
  mod : Mod K mg base
  bs : ∀ b o, base.get? b = some o → s.heap.get? b = some o ∧ H b = none
  bsz : base.objs.size ≤ s.heap.objs.size
  funs : s.heap.FunFrames base outer
  frf : ∀ b ∈ frs outer, H b = none
  hok : HOk P w H s.heap
  bare : AllBare s.gens
/-- a call's end -/
def CE (outer : List Env) (P : Program) (w : World) (H : Hp) (s : Shared) (Q : VK) (u : Value) (s' : Shared) : Prop :=
  ∃ v H', s'.os = s.os ∧ AllBare s'.gens ∧ Un (frs outer) [] H H' s.heap s'.heap ∧ HOk P w H' s'.heap ∧ RelV v u ∧ Q v H'
def CR (CX : CXT) (outer : List Env) (P : Program) (w : World) (H : Hp) (s : Shared) (Q : VK) (E : XK) (r : Result) (s' : Shared) : Prop :=
  match r with
  | .ok (.ret u) => CE outer P w H s Q u s'
  | .ok _ => False
  | .error e => CX outer H s E e s'
structure FnOk (P : Program) (w : World) (K : PySem.W.Frag) (mg : Str → Option Value) (base : Heap) (CX : CXT) (k : Nat) (f : Addr) (fd : FuncData) (ps : List Str) (sp : Sp) : Prop where
  len : ∀ vs H Q E, sp vs H Q E → vs.length = ps.length
  run : ∀ (A : Around) (outer : List Env) (s : Shared) (H : Hp) (args : Args) (us : List Value) (vs : List V) (Q : VK) (E : XK), Room k A → Env0 P w K mg base A outer s H → BindsTo s fd args (ps.zip us) → Vals vs us → sp vs H Q E →
    codeAny (model P w) A (.call (.ref f) args) (CR CX outer P w H s Q E) s
theorem FnOk.mono {P : Program} {w : World} {K : PySem.W.Frag} {mg : Str → Option Value} {base : Heap} {CX : CXT} {j k : Nat} {f : Addr} {fd : FuncData} {ps : List Str} {sp : Sp} (F : FnOk P w K mg base CX j f fd ps sp) (h : j ≤ k) :
    FnOk P w K mg base CX k f fd ps sp := ⟨F.len, fun A outer s H args us vs Q E hr => F.run A outer s H args us vs Q E (hr.mono h)⟩
/-- a weaker promise -/
theorem FnOk.imp {P : Program} {w : World} {K : PySem.W.Frag} {mg : Str → Option Value} {base : Heap} {CX : CXT} {k : Nat} {f : Addr} {fd : FuncData} {ps : List Str} {sp sp' : Sp} (F : FnOk P w K mg base CX k f fd ps sp)
    (h : ∀ vs H Q E, sp' vs H Q E → sp vs H Q E) : FnOk P w K mg base CX k f fd ps sp' :=
  ⟨fun vs H Q E q => F.len vs H Q E (h _ _ _ _ q), fun A outer s H args us vs Q E hr he hb hv hs => F.run A outer s H args us vs Q E hr he hb hv (h _ _ _ _ hs)⟩

section
variable {X : Cx} {pins : List (Addr × Obj)} {σ : St} {H : Hp} {s s' : Shared}
/-- from a body: what a callee wants -/
theorem Inv.env0 (I : Inv X pins σ H s) : Env0 X.prog X.w X.K X.mg X.base X.A X.stack s H :=
  ⟨I.ok.frames, I.ok.mod, I.bs, Nat.le_trans I.ok.bsz I.sz, I.stack, I.stkFree, I.hok, I.bare⟩
/-- behind a call -/
theorem Inv.after {Q : VK} {u : Value} (I : Inv X pins σ H s) (h : CE X.stack X.prog X.w H s Q u s') : EP X pins σ Q u s' := by
  obtain ⟨v, H', os, bare, un, hok, r, q⟩ := h
  obtain ⟨hh, g, d, t, os'⟩ := s'
  obtain rfl : os' = s.os := os
  exact ⟨v, H', I.call (h' := hh) (g' := g) (d' := d) (t' := t) (ch := []) un hok bare (fun b z => absurd z (by simp)), r, q⟩
end

/-! ### calls -/
/-- f(..): the written arguments, then the defaults dvs; E: what is wanted of an exception -/
def tCall (sp : Sp) (dvs : List V) (E : XK) (t : TA) : TE := fun σ H Q => t σ H fun vs H1 => sp (vs ++ dvs) H1 Q E
/-- o.m(..) of an instance of the class at C -/
def tMeth (C : Addr) (m : Str) (sp : Sp) (dvs : List V) (E : XK) (ta : TE) (t : TA) : TE := fun σ H Q => ta σ H fun x H1 => ∃ a dx fs, x = .ref a ∧ H1 a = some (.ins C dx fs) ∧ fs.lookup m = none ∧
  t σ H1 fun vs H2 => sp (x :: (vs ++ dvs)) H2 Q E
/-- C(..): a new instance and its dict, then __init__ -/
def tMake (C : Addr) (sp : Sp) (dvs : List V) (E : XK) (t : TA) : TE := fun σ H Q => t σ H fun vs H1 => ∀ x dx, H1 x = none → H1 dx = none → dx ≠ x →
  sp (.ref x :: (vs ++ dvs)) (upd (upd H1 dx (.own x)) x (.ins C dx [])) (fun v H2 => v = .non ∧ Q (.ref x) H2) E

/-- how the parameters are bound: us the positional arguments, kw the keywords' values by name, ds the defaults that fill up -/
def Binds (K : PySem.W.Frag) (fd : FuncData) (ps : List Str) (ds : List Value) : Prop :=
  ∀ (s : Shared) (us : List Value), K.In s.heap → (us ++ ds).length = ps.length → BindsTo s fd ⟨us, []⟩ (ps.zip (us ++ ds))
/-- every parameter is given -/
theorem Binds.all {K : PySem.W.Frag} {fd : FuncData} {ps : List Str} (h : ∀ us : List Value, us.length = ps.length → bindArgs fd ⟨us, []⟩ = pure (ps.zip us)) : Binds K fd ps [] := fun s us _ hl => by
  rw [List.append_nil] at hl ⊢
  exact .of_eq (h us hl)

/-- an exception of a callee reaches what this body wants of exceptions -/
def Passes (CX : CXT) (X : Cx) (E : XK) : Prop := ∀ (pins : List (Addr × Obj)) (σ : St) (H : Hp) (s : Shared) (e : Value) (s' : Shared), Inv X pins σ H s → CX X.stack H s E e s' → X.xe e s'

section
variable {X : Cx} {CX : CXT} {k : Nat} {f C : Addr} {fd : FuncData} {ps : List Str} {sp : Sp} {dvs : List V} {ds : List Value} {E : XK} {x m : Str} {p pos apos : Pos} {e o : Expr} {es : List Expr} {ta : TE} {t : TA}

/-- the callee runs -/
theorem run_fn {pins : List (Addr × Obj)} {σ : St} {H : Hp} {s : Shared} {Q : VK} {us : List Value} {vs : List V} (F : FnOk X.prog X.w X.K X.mg X.base CX k f fd ps sp) (hr : Room k X.A) (hb : Binds X.K fd ps ds) (hd : Vals dvs ds) (hx : Passes CX X E)
    (I : Inv X pins σ H s) (r : Vals vs us) (h : sp (vs ++ dvs) H Q E) : wpAny (model X.prog X.w) X.A (call (.ref f) us) (EP X pins σ Q) X.xe s := by
  have r2 : Vals (vs ++ dvs) (us ++ ds) := r.append hd
  have hl : (us ++ ds).length = ps.length := by rw [← r2.length]; exact F.len _ _ _ _ h
  refine wpAny_call (codeAny_mono (F.run X.A X.stack s H ⟨us, []⟩ (us ++ ds) (vs ++ dvs) Q E hr I.env0 (hb s us I.kIn hl) r2 h) fun r s' hq => ?_)
  cases r with
  | error e => exact hx pins σ H s e s' I hq
  | ok fl =>
    cases fl with
    | ret u => exact I.after hq
    | next => exact False.elim hq
    | brk => exact False.elim hq
    | cont => exact False.elim hq

theorem pe_call (F : FnOk X.prog X.w X.K X.mg X.base CX k f fd ps sp) (hr : Room k X.A) (hg : Gl X x) (hm : X.mg x = some (.ref f)) (hk : PySem.W.keepIn X.K (.ref f) = true) (hb : Binds X.K fd ps ds) (hd : Vals dvs ds) (hx : Passes CX X E)
    (ha : PA X (e :: es) t) (hdb : (x == ("__debug__" : Str)) = false := by decide) (he : starEach (e :: es) X.env = (false, eval e X.env) :: starEach es X.env := by rfl) (hpl : (backTo pos (starEach es X.env)).any (·.1) = false := by rfl) :
    PE X (.Call (.Name x p) (e :: es) [] pos) (tCall sp dvs E t) := by
  intro pins s σ H Q I h
  refine wpAny_Call_Name_kw (ld_glob I hg hm ?_ hdb)
  refine PySem.W.callWith_K (h₀ := X.base) I.ok.mod.kin hk (thn (ha pos pins s σ H _ I h) fun us s1 ⟨vs, H1, I1, r, q⟩ => ⟨I1.kIn, ?_⟩) he hpl
  exact run_fn F hr hb hd hx I1 r q
/-- what a class must have to be made -/
structure Mk (K : PySem.W.Frag) (C f : Addr) : Prop where
  makes : PySem.W.makesIn K C = true
  init : PySem.W.findIn K (.ref C) "__init__" = some (some (.ref f))
  fn : PySem.W.isFn K (.ref f) = true
  kp : PySem.W.keepIn K (.ref C) = true

end

/-! ### keywords -/
/-- the values of the keywords, from the left -/
def PK (X : Cx) (kws : List Keyword) (t : TA) : Prop :=
  ∀ (pos : Pos) (pins : List (Addr × Obj)) (s : Shared) (σ : St) (H : Hp) (Q : List V → Hp → Prop), Inv X pins σ H s → t σ H Q → wpAny (model X.prog X.w) X.A (evalAll ((backToKw pos (keywordEach kws X.env)).map (·.2))) (AP X pins σ Q) X.xe s
section
variable {X : Cx} {CX : CXT} {k : Nat} {f C : Addr} {fd : FuncData} {ps ks : List Str} {sp : Sp} {E : XK} {x m : Str} {p pos apos kpos : Pos} {e o : Expr} {es : List Expr} {kws : List Keyword} {te ta : TE} {t tk : TA} {nm : Option Str}
/-- how a call with keywords binds: g puts the positional values us and the keywords' values ws (names ks) in the parameters' order, defaults among them -/
structure KBinds (K : PySem.W.Frag) (fd : FuncData) (ps ks : List Str) (g : List Value → List Value → List Value) (gV : List V → List V → List V) : Prop where
  to : ∀ (s : Shared) (us ws : List Value), K.In s.heap → (g us ws).length = ps.length → BindsTo s fd ⟨us, ks.zip ws⟩ (ps.zip (g us ws))
  rel : ∀ {vs : List V} {us : List Value} {zs : List V} {ws : List Value}, Vals vs us → Vals zs ws → Vals (gV vs zs) (g us ws)
def tCallK (sp : Sp) (gV : List V → List V → List V) (E : XK) (t tk : TA) : TE := fun σ H Q => t σ H fun vs H1 => tk σ H1 fun zs H2 => sp (gV vs zs) H2 Q E
variable {g : List Value → List Value → List Value} {gV : List V → List V → List V}
end

/-! ### a def's body keeps its promise -/
/-- names: the parameters first -/
structure FnScope (N P : List Str) (sc : Scope) : Prop where
  kind : sc.kind = .function
  co : sc.isCoroutine = false
  gen : sc.isGenerator = false
  nd : N.Nodup
  pre : N.take P.length = P
  par : ∀ x ∈ P, sc.names.lookup x = some .local ∨ sc.names.lookup x = some .cell
  nofree : ∀ y ∈ sc.names, y.2 ≠ .free

theorem bindL_out {kindOf : Str → Option NameKind} {x : Str} : ∀ {binds : List (Str × Value)} {m : Str → Option Value}, (∀ v, (x, v) ∉ binds) → bindL kindOf binds m x = m x
  | [], _, _ => rfl
  | (n, v) :: r, m, h => by
    unfold bindL
    rw [bindL_out fun w hw => h w (List.mem_cons_of_mem _ hw)]
    split
    · have : x ≠ n := by rintro rfl; exact h v List.mem_cons_self
      simp [this]
    · rfl
theorem bindC_out {kindOf : Str → Option NameKind} {x : Str} : ∀ {binds : List (Str × Value)} {m : Str → Option Value}, (∀ v, (x, v) ∉ binds) → bindC kindOf binds m x = m x
  | [], _, _ => rfl
  | (n, v) :: r, m, h => by
    unfold bindC
    rw [bindC_out fun w hw => h w (List.mem_cons_of_mem _ hw)]
    split
    · rfl
    · have : x ≠ n := by rintro rfl; exact h v List.mem_cons_self
      simp [this]
theorem bindL_get {kindOf : Str → Option NameKind} {x : Str} {v : Value} : ∀ {P : List Str} {vs : List Value} {i : Nat} {m : Str → Option Value}, P.Nodup → P[i]? = some x → vs[i]? = some v → kindOf x = some .local →
    bindL kindOf (P.zip vs) m x = some v
  | [], _, _, _, _, h, _, _ => by simp at h
  | _ :: _, [], _, _, _, _, h, _ => by simp at h
  | p :: P, w :: vs, 0, m, nd, h1, h2, hk => by
    simp at h1 h2; subst h1; subst h2
    show bindL kindOf ((p, w) :: P.zip vs) m p = _
    unfold bindL
    rw [bindL_out fun v hv => (List.nodup_cons.mp nd).1 (List.of_mem_zip hv).1, if_pos hk]
    simp
  | p :: P, w :: vs, i + 1, m, nd, h1, h2, hk => by
    show bindL kindOf ((p, w) :: P.zip vs) m x = _
    unfold bindL
    exact bindL_get (i := i) (List.nodup_cons.mp nd).2 (by simpa using h1) (by simpa using h2) hk
theorem bindC_get {kindOf : Str → Option NameKind} {x : Str} {v : Value} : ∀ {P : List Str} {vs : List Value} {i : Nat} {m : Str → Option Value}, P.Nodup → P[i]? = some x → vs[i]? = some v → kindOf x ≠ some .local →
    bindC kindOf (P.zip vs) m x = some v
  | [], _, _, _, _, h, _, _ => by simp at h
  | _ :: _, [], _, _, _, _, h, _ => by simp at h
  | p :: P, w :: vs, 0, m, nd, h1, h2, hk => by
    simp at h1 h2; subst h1; subst h2
    show bindC kindOf ((p, w) :: P.zip vs) m p = _
    unfold bindC
    rw [bindC_out fun v hv => (List.nodup_cons.mp nd).1 (List.of_mem_zip hv).1, if_neg hk]
    simp
  | p :: P, w :: vs, i + 1, m, nd, h1, h2, hk => by
    show bindC kindOf ((p, w) :: P.zip vs) m x = _
    unfold bindC
    exact bindC_get (i := i) (List.nodup_cons.mp nd).2 (by simpa using h1) (by simpa using h2) hk

/-- the names' values at the entry -/
def start (N : List Str) (vs : List V) : St := vs.map some ++ List.replicate (N.length - vs.length) none

/-- the context of a def's body, at its entry; an exception leaves the frame, then lies as CX says -/
def cxOf (CX : CXT) (P : Program) (w : World) (K : PySem.W.Frag) (mg : Str → Option Value) (base : Heap) (N : List Str) (qual : Str) (scope : Scope) (f : Addr) (cd : Value) (A : Around) (outer : List Env) (s : Shared) (H : Hp) (E : XK) : Cx where
  prog := P
  w := w
  K := K
  mg := mg
  base := base
  A := A.deeper (envOfC qual scope s.heap.objs.size f cd)
  N := N
  s₀ := s
  H₀ := H
  env := envOfC qual scope s.heap.objs.size f cd
  outer := outer
  stack := envOfC qual scope s.heap.objs.size f cd :: outer
  ex := []
  calm := true
  fn := fun _ => true
  pn := []
  xe := fun e s' => wpAny (model P w) (A.deeper (envOfC qual scope s.heap.objs.size f cd)) (leaving (envOfC qual scope s.heap.objs.size f cd) e) (fun _ s'' => CX outer H s E e s'') (fun e' s'' => CX outer H s E e' s'') s'

theorem cell_has {sc : Scope} {n : Nat} {x : Str} (h : sc.names.lookup x = some .cell) : ∃ c, (cellsFrom n sc.names []).lookup x = some c := by
  have q := PySem.W.cellsFrom_some sc.names n [] (.inl h)
  exact Option.isSome_iff_exists.mp q

theorem inv_start {CX : CXT} {P : Program} {w : World} {K : PySem.W.Frag} {mg : Str → Option Value} {base : Heap} {N ps : List Str} {qual : Str} {scope : Scope} {f : Addr} {cd : Value} {A : Around} {outer : List Env} {s s1 : Shared} {H : Hp} {E : XK} {us : List Value} {vs : List V}
    (S : FnScope N ps scope) (hd : A.handled = none) (e0 : Env0 P w K mg base A outer s H) (hl : vs.length = ps.length) (r : Vals vs us)
    (x : InCallC s s.heap.objs.size (bindL (envOfC qual scope s.heap.objs.size f cd).kindOf (ps.zip us) fun _ => none) (cellsFrom (s.heap.objs.size + 1) scope.names []) (bindC (envOfC qual scope s.heap.objs.size f cd).kindOf (ps.zip us) fun _ => none) s1) :
    Inv (cxOf CX P w K mg base N qual scope f cd A outer s H E) [] (start N vs) H s1 := by
  have hpl : ps.length ≤ N.length := by have := congrArg List.length S.pre; rw [List.length_take] at this; omega
  obtain ⟨h1, tk, rfl, hk⟩ := x.done
  have noA : ∀ b : Addr, b ∉ (cxOf CX P w K mg base N qual scope f cd A outer s H E).ex := fun b z => absurd (show b ∈ ([] : List Addr) from z) (by simp)
  refine ⟨⟨e0.mod, S.kind, rfl, rfl, Nat.le_refl _, fun y z c h1 h2 => ?_, fun y hy => ?_, fun y c _ h => ?_, fun _ => hd, Around.frames_deeper e0.frames, .inr ⟨rfl, rfl⟩, fun b z => absurd z (noA b), e0.bs, e0.bsz, fun b _ _ => noA b, fun b z => absurd z (noA b), e0.funs, e0.frf⟩,
    rfl, e0.bare, Un.kept hk, ⟨_, x.toInCall.ns, fun i y v h1 h2 h3 => ?_⟩, fun y c h => ⟨_, x.cell y c h⟩, e0.hok.fresh (Nat.le_refl _), fun y c h => ?_, fun p hp => absurd (show p ∈ ([] : List (Addr × Obj)) from hp) (by simp), e0.hok.kept hk, ?_⟩
  · exact name_of_addr x.apart (PySem.mem_of_lookup h1) (PySem.mem_of_lookup h2)
  · have hy : scope.names.lookup y = some .cell ∨ scope.names.lookup y = some .free := hy
    rcases hy with hy | hy
    · exact cell_has hy
    · exact absurd rfl (S.nofree _ (PySem.mem_of_lookup hy))
  · exact Nat.le_of_lt (x.above y c (PySem.mem_of_lookup h))
  · have hi : i < vs.length := by
      unfold start at h2
      by_cases hi : i < vs.length
      · exact hi
      · rw [List.getElem?_append_right (by simpa using hi)] at h2
        rw [List.getElem?_replicate] at h2
        split at h2 <;> cases h2
    have ha : vs[i]? = some v := by
      unfold start at h2
      rw [List.getElem?_append_left (by simpa using hi), List.getElem?_map] at h2
      cases e : vs[i]? with
      | none => rw [e] at h2; cases h2
      | some a => rw [e] at h2; cases h2; rfl
    obtain ⟨u, hu, rv⟩ := r.get ha
    have hp : ps[i]? = some y := by
      rw [← S.pre, List.getElem?_take_of_lt (by omega)]; exact h1
    have ndP : ps.Nodup := by rw [← S.pre]; exact S.nd.sublist (List.take_sublist _ _)
    refine ⟨u, rv, ?_⟩
    rcases S.par y (List.mem_of_getElem? hp) with k | k
    · exact .inl ⟨k, bindL_get ndP hp hu k⟩
    · obtain ⟨c, e⟩ := cell_has (n := s.heap.objs.size + 1) k
      refine .inr ⟨.inl k, c, e, ?_⟩
      have q := x.cell y c e
      rw [bindC_get ndP hp hu (by show scope.names.lookup y ≠ _; rw [k]; decide)] at q
      exact q
  · exact e0.hok.fresh (Nat.le_of_lt (x.above y c (PySem.mem_of_lookup h)))
  · unfold start
    show _ = N.length
    rw [List.length_append, List.length_map, List.length_replicate]
    omega

/-- THE RULE: a def (or a method) of the text, by its body. The body's reading t is chosen for each entry; it is run at the parameters' values -/
theorem fn_of {CX : CXT} {P : Program} {w : World} {K : PySem.W.Frag} {mg : Str → Option Value} {base : Heap} {k : Nat} {f : Addr} {name qual : Str} {params : Arguments} {body : List Stmt} {scope : Scope} {dV kV doc pm cdv ct oc : Value} {an od : Option Addr}
    {osl : Array (Option Value)} {N ps : List Str} {sp : Sp} (lk : K.lookup f = some ⟨oc, od, .func (PySem.W.fnOf name qual params body scope dV kV doc pm an cdv ct), osl⟩) (hcd : PySem.W.codeIn K cdv qual = true) (S : FnScope N ps scope)
    (len : ∀ vs H Q E, sp vs H Q E → vs.length = ps.length)
    (hbody : ∀ (A : Around) (outer : List Env) (s : Shared) (H : Hp) (vs : List V) (Q : VK) (E : XK), Room k (A.deeper (envOfC qual scope s.heap.objs.size f cdv)) → sp vs H Q E →
      ∃ t, PSs (cxOf CX P w K mg base N qual scope f cdv A outer s H E) body t ∧ t { nx := fun _ H' => Q .non H', rt := Q } (start N vs) H) :
    FnOk P w K mg base CX (k + 1) f (PySem.W.fnOf name qual params body scope dV kV doc pm an cdv ct) ps sp := by
  refine ⟨len, fun A outer s H args us vs Q E hr e0 hb r hsp => ?_⟩
  have hl := len _ _ _ _ hsp
  have KX : K.In s.heap := e0.mod.kin.keeps fun b o e => (e0.bs b o e).1
  have lim : s.heap.NoLimit := e0.mod.nolimit.keeps fun b o e => (e0.bs b o e).1
  have hkind : ∀ y ∈ ps.zip us, scope.names.lookup y.1 = some .local ∨ (scope.names.lookup y.1 = some .cell ∧ ((cellsFrom (s.heap.objs.size + 1) scope.names []).lookup y.1).isSome = true) := fun ⟨n, v⟩ hy => by
    rcases S.par n (List.of_mem_zip hy).1 with q | q
    · exact .inl q
    · exact .inr ⟨q, PySem.W.cellsFrom_some _ _ _ (.inl q)⟩
  refine codeAny_call_function hr.depth (KX _ _ lk) rfl S.co S.gen rfl (PySem.W.codeRec_of KX hcd) (hb _ _ _ _ ?_)
  refine wpAny_newFunctionEnv_cells S.kind hkind fun env he s1 x => ?_
  subst he
  refine ⟨lim.keeps x.toInCall.keep, codeAny_func ?_⟩
  obtain ⟨t, ht, hq⟩ := hbody A outer s H vs Q E (hr.deeper _) hsp
  have I : Inv (cxOf CX P w K mg base N qual scope f cdv A outer s H E) [] (start N vs) H s1 := inv_start S hr.hd e0 hl r x
  refine wpAny_mono (ht [] s1 (start N vs) H _ I hq) (fun fl s' hs => ?_) fun e s' hs => hs
  have fin : ∀ {σ' : St} {H' : Hp} {v : V} {u : Value}, Inv (cxOf CX P w K mg base N qual scope f cdv A outer s H E) [] σ' H' s' → RelV v u → Q v H' → CE outer P w H s Q u s' :=
    fun {σ' H' v u} J rv q => ⟨v, H', J.os, J.bare, J.base, J.hok, rv, q⟩
  cases fl with
  | ret u =>
    obtain ⟨v, σ', H', J, rv, q⟩ := hs
    exact fin J rv q
  | next =>
    obtain ⟨σ', H', J, q⟩ := hs
    exact fin (v := V.non) (u := Value.none) J rfl q
  | brk =>
    obtain ⟨_, _, _, q⟩ := hs
    exact False.elim q
  | cont =>
    obtain ⟨_, _, _, q⟩ := hs
    exact False.elim q
end L2

namespace L2
open PySem PySem.Spec PyProof.Rows
section
variable {X : Cx} {x : Str} {p pos : Pos} {e : Expr} {es : List Expr} {t : TA} {id T : String} {r : List V → Hp → VK → Prop}

def tCB (r : List V → Hp → VK → Prop) (t : TA) : TE := fun σ H Q => t σ H fun vs H1 => r vs H1 Q
/-- f(e, ..), f a built-in function -/
theorem pe_callB (hc : CallR X (.builtin id) r) (hg : Gl X x) (hm : X.mg x = none) (hv : bootBuiltins x = some (.builtin id)) (ha : PA X (e :: es) t) (hn : x ≠ "__name__" := by decide) (hdb : (x == ("__debug__" : Str)) = false := by decide)
    (he : starEach (e :: es) X.env = (false, eval e X.env) :: starEach es X.env := by rfl) (hpl : (backTo pos (starEach es X.env)).any (·.1) = false := by rfl) : PE X (.Call (.Name x p) (e :: es) [] pos) (tCB r t) := by
  intro pins s σ H Q I h
  refine wpAny_Call_Name_kw (ld_blt I hg hm hv ?_ hn hdb)
  exact PyProof.Rows.callWith_builtin1 (thn (ha pos pins s σ H _ I h) fun us s1 ⟨vs, H1, I1, r1, q1⟩ => hc pins s1 σ H1 vs us Q I1 r1 q1) he hpl
/-- T(e, ..), T a built-in type -/
theorem pe_callTy (hc : CallR X (.type T) r) (hg : Gl X x) (hm : X.mg x = none) (hv : bootBuiltins x = some (.type T)) (ha : PA X (e :: es) t) (hn : x ≠ "__name__" := by decide) (hdb : (x == ("__debug__" : Str)) = false := by decide)
    (he : starEach (e :: es) X.env = (false, eval e X.env) :: starEach es X.env := by rfl) (hpl : (backTo pos (starEach es X.env)).any (·.1) = false := by rfl) : PE X (.Call (.Name x p) (e :: es) [] pos) (tCB r t) := by
  intro pins s σ H Q I h
  refine wpAny_Call_Name_kw (ld_blt I hg hm hv ?_ hn hdb)
  exact PyProof.Rows.callWith_type1 (thn (ha pos pins s σ H _ I h) fun us s1 ⟨vs, H1, I1, r1, q1⟩ => hc pins s1 σ H1 vs us Q I1 r1 q1) he hpl
end
end L2

namespace HT
open PySem PyProof.Rows

/-- t < u of tuples of ints -/
def lexLt : List Int → List Int → Bool
  | [], [] => false
  | [], _ :: _ => true
  | _ :: _, [] => false
  | x :: xs, y :: ys => if x = y then lexLt xs ys else decide (x < y)
section
open PySem.SeqAt
open PySem.AutoSeq1 (wpAny_loadPart')
open PySem.MeetsSeq PySem.MeetsSeq2 PySem.MeetsSeq3

end

section
variable {prog : Program} {w : World} {A : Around} {E : Value → Shared → Prop} {s : Shared}

/-! ### t[a:b], not the whole -/
/-- a slice's bound as a place among n (d where it is left out) -/
def sIx (n d : Nat) : Option Int → Nat
  | none => d
  | some v => if v < 0 then (v + (n : Int)).toNat else min v.toNat n
theorem sIx_none (n d : Nat) : sIx n d none = d := rfl
theorem sIx_nat (n d k : Nat) : sIx n d (some (k : Int)) = min k n := by
  show (if (k : Int) < 0 then ((k : Int) + (n : Int)).toNat else min (k : Int).toNat n) = min k n
  rw [if_neg (by omega), Int.toNat_natCast]
theorem sIx_le (n d : Nat) (hd : d ≤ n) (o : Option Int) : sIx n d o ≤ n := by
  cases o with
  | none => exact hd
  | some v =>
    show (if v < 0 then (v + (n : Int)).toNat else min v.toNat n) ≤ n
    by_cases hv : v < 0
    · rw [if_pos hv]; omega
    · rw [if_neg hv]; exact Nat.min_le_right _ _
end
end HT

namespace L2
open PySem PySem.Spec PyProof.Rows

/-! ### the parts of a slice -/
abbrev TO := St → Hp → (Option Int → Hp → Prop) → Prop
/-- a slice's part (left out, or an int) -/
def PO (X : Cx) (e : Option Expr) (t : TO) : Prop :=
  ∀ (pins : List (Addr × Obj)) (s : Shared) (σ : St) (H : Hp) (Q : Option Int → Hp → Prop), Inv X pins σ H s → t σ H Q →
    wpAny (model X.prog X.w) X.A (evalPart e X.env) (fun u s' => ∃ o H', Inv X pins σ H' s' ∧ IsPart u o ∧ Q o H') X.xe s
def tNoPart : TO := fun _ H Q => Q none H
def tPart (t : TE) : TO := fun σ H Q => t σ H fun x H1 => ∃ i, x = .int i ∧ Q (some i) H1

section
variable {X : Cx} {e : Expr} {te : TE} {lo hi : Option Expr} {tl th : TO} {pos p2 : Pos}

theorem po_none : PO X none tNoPart := by
  intro pins s σ H Q I h
  rw [evalPart_none]
  exact wpAny_pure ⟨none, H, I, .none, h⟩
theorem po_some (h : PE X e te) : PO X (some e) (tPart te) := by
  intro pins s σ H Q I hw
  rw [evalPart_some]
  refine thn (h pins s σ H _ I hw) fun u s1 ⟨x, H1, I1, r1, q1⟩ => ?_
  obtain ⟨i, rfl, q⟩ := q1
  obtain ⟨t, rfl⟩ := r1
  exact ⟨some i, H1, I1, .int i t, q⟩

/-- what a slice of a value is, by values: the slice object stands at sl -/
def SlR (X : Cx) (r : V → Option Int → Option Int → Hp → VK → Prop) : Prop :=
  ∀ (pins : List (Addr × Obj)) (s : Shared) (σ : St) (H : Hp) (x : V) (v vl vu : Value) (lo hi : Option Int) (sl : Addr) (Q : VK), Inv X pins σ H s → RelV x v → s.heap.IsSliceOf sl vl vu .none → IsPart vl lo → IsPart vu hi → r x lo hi H Q →
    ∃ T id, typeLookup (.type T) "__getitem__" = pure (some (.builtin id)) ∧ s.TypeIs v T ∧ wpAny (model X.prog X.w) X.A (getItem v (.ref sl)) (EP X pins σ Q) X.xe s
theorem SlR.or {r r' : V → Option Int → Option Int → Hp → VK → Prop} (h : SlR X r) (h' : SlR X r') : SlR X (fun x lo hi H Q => r x lo hi H Q ∨ r' x lo hi H Q) := by
  intro pins s σ H x v vl vu lo hi sl Q I rx hs pl pu q
  rcases q with q | q
  · exact h pins s σ H x v vl vu lo hi sl Q I rx hs pl pu q
  · exact h' pins s σ H x v vl vu lo hi sl Q I rx hs pl pu q
def tSl (r : V → Option Int → Option Int → Hp → VK → Prop) (te : TE) (tl th : TO) : TE := fun σ H Q => te σ H fun x H1 => tl σ H1 fun l H2 => th σ H2 fun u H3 => r x l u H3 Q
/-- a[lo:hi], any a -/
theorem pe_slice {r : V → Option Int → Option Int → Hp → VK → Prop} (hr : SlR X r) (he : PE X e te) (hl : PO X lo tl) (hu : PO X hi th) : PE X (.Subscript e (.Slice lo hi none p2) pos) (tSl r te tl th) := by
  intro pins s σ H Q I h
  refine Subscript_ (thn (he pins s σ H _ I h) fun v s1 ⟨x, H1, I1, r1, q1⟩ => ?_)
  refine wpAny_Slice (thn (hl pins s1 σ H1 _ I1 q1) fun vl s2 ⟨l, H2, I2, pl, q2⟩ => thn (hu pins s2 σ H2 _ I2 q2) fun vu s3 ⟨u, H3, I3, pu, q3⟩ => ?_)
  rw [evalPart_none]
  refine wpAny_pure ?_
  have I4 : Inv X pins σ H3 { s3 with heap := s3.heap.push { cls := .type "slice", data := .fields #[vl, vu, .none] } } := I3.kept (t' := s3.toks) fun b ob q => Heap.get?_push_of_some _ q
  obtain ⟨T, id, hT, ht, hg⟩ := hr pins { s3 with heap := s3.heap.push { cls := .type "slice", data := .fields #[vl, vu, .none] } } σ H3 x v vl vu l u s3.heap.objs.size Q I4 r1 (Heap.IsSliceOf.new ..) pl pu q3
  show wpAny (model X.prog X.w) X.A (subscriptTail e (.Slice lo hi none p2) v (.ref s3.heap.objs.size)) (EP X pins σ Q) X.xe { s3 with heap := s3.heap.push { cls := .type "slice", data := .fields #[vl, vu, .none] } }
  exact tail_any (ops := [.ref s3.heap.objs.size, v]) ht hT hg (by with_unfolding_all rfl)

/-- the items of xs[lo:hi] -/
def cutV (xs : List V) (lo hi : Option Int) : List V := (xs.drop (HT.sIx xs.length 0 lo)).take (HT.sIx xs.length xs.length hi - HT.sIx xs.length 0 lo)
theorem cutV_length (xs : List V) (lo hi : Option Int) : (cutV xs lo hi).length ≤ xs.length := by
  unfold cutV
  rw [List.length_take, List.length_drop]
  omega
/-- t[lo:hi], not the whole of it (the whole would be t itself) -/
def rSlT (K : PySem.W.Frag) : V → Option Int → Option Int → Hp → VK → Prop := fun x lo hi H Q => ∃ a xs, x = .ref a ∧ SqT K H a xs ∧
  ¬ (HT.sIx xs.length 0 lo = 0 ∧ HT.sIx xs.length xs.length hi = xs.length) ∧ ∀ p, H p = none → Q (.ref p) (upd H p (.tup (cutV xs lo hi)))
/-! ### t < u, t + u -/
def rLtT (K : PySem.W.Frag) : R2 := fun x y H Q => ∃ a b ns ms, x = .ref a ∧ y = .ref b ∧ SqT K H a (ns.map V.int) ∧ SqT K H b (ms.map V.int) ∧ Q (.bl (HT.lexLt ns ms)) H
/-- t + u, t not empty: u empty gives t itself -/
def rCatT (K : PySem.W.Frag) : R2 := fun x y H Q => ∃ a b xs ys, x = .ref a ∧ y = .ref b ∧ SqT K H a xs ∧ SqT K H b ys ∧ xs ≠ [] ∧ xs.length + ys.length ≤ sizeLine ∧
  (ys = [] → Q (.ref a) H) ∧ (ys ≠ [] → ∀ p, H p = none → Q (.ref p) (upd H p (.tup (xs ++ ys))))
end
end L2

namespace L2
open PySem PySem.Spec PyProof.Rows

/-! ### places -/
/-- the place that an index of any sign means -/
def ixN (n : Nat) (i : Int) : Option Nat := if 0 ≤ i then (if i < n then some i.toNat else none) else if -(n : Int) ≤ i then some (i + n).toNat else none
def atI {α : Type} (xs : List α) (i : Int) : Option α := (ixN xs.length i).bind fun j => xs[j]?
theorem ixN_seq {n : Nat} {i : Int} {j : Nat} (h : ixN n i = some j) : seqIndex? i n = some j ∧ j < n ∧ -(n : Int) ≤ i ∧ i < n := by
  unfold ixN at h
  by_cases h0 : 0 ≤ i
  · rw [if_pos h0] at h
    by_cases h1 : i < n
    · rw [if_pos h1] at h
      have e : i.toNat = j := Option.some.inj h
      exact ⟨by rw [seqIndex_of h0 h1, e], by omega, by omega, h1⟩
    · rw [if_neg h1] at h; cases h
  · rw [if_neg h0] at h
    by_cases h1 : -(n : Int) ≤ i
    · rw [if_pos h1] at h
      have e : (i + n).toNat = j := Option.some.inj h
      exact ⟨by rw [seqIndex_neg (by omega) h1, e], by omega, h1, by omega⟩
    · rw [if_neg h1] at h; cases h
theorem atI_get {α : Type} {xs : List α} {i : Int} {v : α} (h : atI xs i = some v) : ∃ j, seqIndex? i xs.length = some j ∧ xs[j]? = some v ∧ j < xs.length ∧ -(xs.length : Int) ≤ i ∧ i < xs.length := by
  unfold atI at h
  cases e : ixN xs.length i with
  | none => rw [e] at h; cases h
  | some j =>
    rw [e] at h
    obtain ⟨h1, h2, h3, h4⟩ := ixN_seq e
    exact ⟨j, h1, h, h2, h3, h4⟩
theorem atI_nat {α : Type} {xs : List α} {j : Nat} {v : α} (h : xs[j]? = some v) : atI xs (j : Int) = some v := by
  have hj : j < xs.length := (List.getElem?_eq_some_iff.mp h).1
  have e : ixN xs.length (j : Int) = some j := by
    unfold ixN
    rw [if_pos (by omega), if_pos (by omega)]; simp
  unfold atI; rw [e]; exact h
/-! ### what may be subscripted -/
/-- what stands as an index of a plain subscript -/
def PlainIx (b : Expr) : Prop := ∀ o i, subscripted b false o i = operate [o, i] (getItem o i)
/-- a subscript by values -/
def IxR (X : Cx) (r : R2) : Prop :=
  ∀ (value slice : Expr) (pins : List (Addr × Obj)) (s : Shared) (σ : St) (H : Hp) (x y : V) (v u : Value) (Q : VK), Inv X pins σ H s → RelV x v → RelV y u → r x y H Q →
    subscripted slice false v u = operate [v, u] (getItem v u) → wpAny (model X.prog X.w) X.A (subscriptTail value slice v u) (EP X pins σ Q) X.xe s
/-- a call of a builtin's method by values: the receiver, the arguments -/
def MtR (X : Cx) (id : String) (r : V → List V → Hp → VK → Prop) : Prop :=
  ∀ (pins : List (Addr × Obj)) (s : Shared) (σ : St) (H : Hp) (x : V) (xs : List V) (v : Value) (us : List Value) (Q : VK), Inv X pins σ H s → RelV x v → Vals xs us → r x xs H Q →
    wpAny (model X.prog X.w) X.A (call (.builtin id) (v :: us)) (EP X pins σ Q) X.xe s
section
variable {X : Cx} {a b : Expr} {ta tb : TE} {pos : Pos}
theorem IxR.or {r r' : R2} (h : IxR X r) (h' : IxR X r') : IxR X (fun x y H Q => r x y H Q ∨ r' x y H Q) := by
  intro value slice pins s σ H x y v u Q I rx ry q hs
  rcases q with q | q
  · exact h value slice pins s σ H x y v u Q I rx ry q hs
  · exact h' value slice pins s σ H x y v u Q I rx ry q hs
theorem MtR.or {id : String} {r r' : V → List V → Hp → VK → Prop} (h : MtR X id r) (h' : MtR X id r') : MtR X id (fun x xs H Q => r x xs H Q ∨ r' x xs H Q) := by
  intro pins s σ H x xs v us Q I rx rs q
  rcases q with q | q
  · exact h pins s σ H x xs v us Q I rx rs q
  · exact h' pins s σ H x xs v us Q I rx rs q
/-- a[b] -/
theorem pe_ix {r : R2} (hr : IxR X r) (ha : PE X a ta) (hb : PE X b tb) (hs : PlainIx b) : PE X (.Subscript a b pos) (tOp r ta tb) := by
  intro pins s σ H Q I h
  exact Subscript_ (binT ha hb I h fun v u s2 x y H2 I2 rx ry q => hr a b pins s2 σ H2 x y v u Q I2 rx ry q (hs _ _))

def rIxL (K : PySem.W.Frag) : R2 := fun x y H Q => ∃ p xs i v, x = .ref p ∧ y = .int i ∧ SqL K H p xs ∧ atI xs i = some v ∧ Q v H
def rIxT (K : PySem.W.Frag) : R2 := fun x y H Q => ∃ p xs i v, x = .ref p ∧ y = .int i ∧ SqT K H p xs ∧ atI xs i = some v ∧ Q v H
def rIxS : R2 := fun x y H Q => ∃ z i c, x = .str z ∧ y = .int i ∧ z.length ≤ sizeLine ∧ atI z.cps.toList i = some c ∧ Q (.str ⟨#[c]⟩) H
theorem ix_list : IxR X (rIxL X.K) := by
  intro value slice pins s σ H x y v u Q I rx ry h hs
  obtain ⟨p, xs, i, z, rfl, rfl, hq, he, q⟩ := h
  cases rx
  obtain ⟨t, rfl⟩ := ry
  obtain ⟨its, r, pl, hz⟩ := I.list hq
  obtain ⟨j, h1, h2, h3, h4, h5⟩ := atI_get he
  obtain ⟨w, ew, rw'⟩ := r.get h2
  have hl := r.length
  have hn := line63
  have fin : EP X pins σ Q w s := ⟨z, H, I, rw', q⟩
  by_cases h0 : 0 ≤ i
  · have hj : i.toNat = j := by
      rw [seqIndex_of h0 h5] at h1
      exact Option.some.inj h1
    exact item_listR pl.isList h0 (by omega) (by rw [hj]; simpa using ew) fin hs
  · have hj : (i + (its.toArray.size : Int)).toNat = j := by
      rw [seqIndex_neg (by omega) h4] at h1
      rw [List.size_toArray, ← hl]
      exact Option.some.inj h1
    exact subscriptTail_builtinR (x := w) pl.isList.typeIs slot_list_getitem.lookup
      (wpAny_getItem_list_neg (Q := fun r s' => r = w ∧ EP X pins σ Q r s') pl.isList (by omega) (by rw [List.size_toArray] <;> omega) (by omega) (by rw [hj]; simpa using ew) ⟨rfl, fin⟩) hs
theorem ix_tup : IxR X (rIxT X.K) := by
  intro value slice pins s σ H x y v u Q I rx ry h hs
  obtain ⟨p, xs, i, z, rfl, rfl, hq, he, q⟩ := h
  cases rx
  obtain ⟨t, rfl⟩ := ry
  obtain ⟨its, r, pl, hz⟩ := I.tuple hq
  obtain ⟨j, h1, h2, h3, h4, h5⟩ := atI_get he
  obtain ⟨w, ew, rw'⟩ := r.get h2
  have hl := r.length
  have hn := line63
  have fin : EP X pins σ Q w s := ⟨z, H, I, rw', q⟩
  exact subscriptTail_builtinR (x := w) pl.typeIs slot_tuple_getitem.lookup
    (getItem_tuple (j := j) (Q := fun r s' => r = w ∧ EP X pins σ Q r s') pl (by omega) (by omega) (by rw [List.size_toArray, ← hl]; exact h1) (by simpa using ew) ⟨rfl, fin⟩) hs
theorem ix_str : IxR X rIxS := by
  intro value slice pins s σ H x y v u Q I rx ry h hs
  obtain ⟨z, i, c, rfl, rfl, hz, he, q⟩ := h
  obtain ⟨t, rfl⟩ := rx
  obtain ⟨t', rfl⟩ := ry
  obtain ⟨j, h1, h2, h3, h4, h5⟩ := atI_get he
  have hl : z.cps.toList.length = z.length := by simp [Str.length]
  rw [hl] at h1 h4 h5
  have hn := line63
  exact tail_any (typeIs_str s z t) slot_str_getitem.lookup (getItem_str (c := c) (by
    have e1 : decide (i < -(2 ^ 63 : Int)) = false := decide_eq_false (by omega)
    have e2 : decide (i ≥ 2 ^ 63) = false := decide_eq_false (by omega)
    rw [e1, e2, Bool.or_false]) (by rw [h1]; simpa using h2) ⟨.str ⟨#[c]⟩, H, I.tok _, ⟨_, rfl⟩, q⟩) hs
/-- list, tuple or str -/
def rIx (K : PySem.W.Frag) : R2 := fun x y H Q => rIxL K x y H Q ∨ rIxT K x y H Q ∨ rIxS x y H Q
theorem ix_seq : IxR X (rIx X.K) := ix_list.or (ix_tup.or ix_str)

/-! ### xs[i] = v, any sign -/
theorem Inv.lst {pins : List (Addr × Obj)} {σ : St} {H : Hp} {s : Shared} {p : Addr} {xs : List V} (I : Inv X pins σ H s) (h : H p = some (.lst xs)) :
    ∃ (its : List Value) (n : Nat), Vals xs its ∧ s.heap.get? p = some { cls := .type "list", data := .seq its.toArray n } ∧ xs.length ≤ sizeLine := by
  obtain ⟨z, its, n, r, e⟩ := I.hok p _ h
  exact ⟨its, n, r, e, z⟩
def rSetL : V → V → V → Hp → (Hp → Prop) → Prop := fun o i v H Q => ∃ p xs k j, o = .ref p ∧ i = .int k ∧ H p = some (.lst xs) ∧ ixN xs.length k = some j ∧ Q (upd H p (.lst (xs.set j v)))
/-! ### slices -/
theorem slice_bounds (lo hi : Option Int) (n : Nat) : (sliceBounds lo hi none n).1 = ((HT.sIx n 0 lo : Nat) : Int) ∧ (sliceBounds lo hi none n).2.1 = ((HT.sIx n n hi : Nat) : Int) ∧ (sliceBounds lo hi none n).2.2 = 1 := by
  refine ⟨?_, ?_, rfl⟩
  · cases lo with
    | none => simp [sliceBounds, HT.sIx]
    | some i =>
      simp only [sliceBounds, HT.sIx, Option.getD_none, show (1 : Int) > 0 by decide, if_true]
      by_cases h : i < 0
      · simp only [h, if_true] <;> omega
      · simp only [h, if_false] <;> omega
  · cases hi with
    | none => simp [sliceBounds, HT.sIx]
    | some i =>
      simp only [sliceBounds, HT.sIx, Option.getD_none, show (1 : Int) > 0 by decide, if_true]
      by_cases h : i < 0
      · simp only [h, if_true] <;> omega
      · simp only [h, if_false] <;> omega
theorem slicePick_cut (its : List Value) (lo hi : Option Int) : slicePick its.toArray lo hi none = ((its.drop (HT.sIx its.length 0 lo)).take (HT.sIx its.length its.length hi - HT.sIx its.length 0 lo)).toArray := by
  obtain ⟨h1, h2, h3⟩ := slice_bounds lo hi its.toArray.size
  unfold slicePick
  rw [h1, h2, h3]
  simp only [sliceRange_one, pick_run, List.size_toArray] <;> rfl
/-- xs[lo:hi] of a list: a new list -/
def rSlL (K : PySem.W.Frag) : V → Option Int → Option Int → Hp → VK → Prop := fun x lo hi H Q => ∃ a xs, x = .ref a ∧ SqL K H a xs ∧ ∀ p, H p = none → Q (.ref p) (upd H p (.lst (cutV xs lo hi)))
theorem sl_list : SlR X (rSlL X.K) := by
  intro pins s σ H x v vl vu lo hi sl Q I rx hs pl pu h
  obtain ⟨a, xs, rfl, hx, q⟩ := h
  cases rx
  obtain ⟨its, r, ht, hz⟩ := I.list hx
  have hlen := r.length
  refine ⟨"list", _, slot_list_getitem.lookup, ht.isList.typeIs, ?_⟩
  refine wpAny_getItem_list_slice ht.isList hs pl pu .none (by simp) ?_ (by rw [List.size_toArray] <;> omega)
  rw [slicePick_cut, ← hlen]
  refine ⟨.ref s.heap.objs.size, _, I.laid (t' := s.toks) (o := .lst (cutV xs lo hi)) (fun b ob q => Heap.get?_push_of_some _ q) (Nat.le_refl _) ?_, rfl, q _ (I.hok.fresh (Nat.le_refl _))⟩
  exact ⟨Nat.le_trans (cutV_length xs lo hi) hz, _, 0, (r.drop (HT.sIx xs.length 0 lo)).take (HT.sIx xs.length xs.length hi - HT.sIx xs.length 0 lo), Heap.get?_push_size _ rfl⟩

/-! ### in, not in: flat items -/
def flatV : V → Bool
  | .non => true
  | .bl _ => true
  | .int _ => true
  | .str _ => true
  | _ => false
/-- == of flat values -/
def eqV : V → V → Bool
  | .non, .non => true
  | .bl a, .bl b => a == b
  | .bl a, .int b => (if a then 1 else 0) == b
  | .int a, .bl b => a == (if b then 1 else 0)
  | .int a, .int b => a == b
  | .str a, .str b => a == b
  | _, _ => false
/-- the items' answers, read off the values (a value's own answer does not lean on its token) -/
def eqU (x : V) (u : Value) : Bool := match u with
  | .none => eqV .non x
  | .bool b => eqV (.bl b) x
  | .int i _ => eqV (.int i) x
  | .str z _ => eqV (.str z) x
  | _ => false
def inV (x : V) (xs : List V) : Bool := xs.any fun y => eqV y x
/-- x in a list or tuple of flat items -/
def rIn (K : PySem.W.Frag) (neg : Bool) : R2 := fun x y H Q => ∃ p xs, y = .ref p ∧ (SqL K H p xs ∨ SqT K H p xs) ∧ flatV x = true ∧ xs.all flatV = true ∧ Q (.bl (if neg then !inV x xs else inV x xs)) H
/-! ### len, list(x), tuple(x) of any list or tuple that is read -/
theorem call_len_seq : CallR X (.builtin "len") (fun xs H Q => ∃ p ys, xs = [.ref p] ∧ (SqL X.K H p ys ∨ SqT X.K H p ys) ∧ Q (.int ys.length) H) := by
  intro pins s σ H xs us Q I r h
  obtain ⟨p, ys, rfl, hq, q⟩ := h
  obtain ⟨u, rfl, rx⟩ := vals1 r
  cases rx
  have hn := line63
  rcases hq with hq | hq
  · obtain ⟨its, r', pl, hz⟩ := I.list hq
    have hlen := r'.length
    exact Calls.call_len_list pl.isList (by simp only [List.size_toArray] <;> omega) ⟨.int ys.length, H, I.tok _, ⟨s.toks + 1, by rw [List.size_toArray, hlen]⟩, q⟩
  · obtain ⟨its, r', pl, hz⟩ := I.tuple hq
    have hlen := r'.length
    exact len_tuple pl (by simp only [List.size_toArray] <;> omega) ⟨.int ys.length, H, I.tok _, ⟨s.toks + 1, by rw [List.size_toArray, hlen]⟩, q⟩
theorem call_len_str : CallR X (.builtin "len") (fun xs H Q => ∃ z, xs = [.str z] ∧ z.length ≤ sizeLine ∧ Q (.int z.length) H) := by
  intro pins s σ H xs us Q I r h
  obtain ⟨z, rfl, hz, q⟩ := h
  obtain ⟨u, rfl, t, rfl⟩ := vals1 r
  have hn := line63
  exact len_str (by omega) ⟨.int z.length, H, I.tok _, ⟨_, rfl⟩, q⟩
theorem CallR.or {f : Value} {r r' : List V → Hp → VK → Prop} (h : CallR X f r) (h' : CallR X f r') : CallR X f (fun xs H Q => r xs H Q ∨ r' xs H Q) := by
  intro pins s σ H xs us Q I rs q
  rcases q with q | q
  · exact h pins s σ H xs us Q I rs q
  · exact h' pins s σ H xs us Q I rs q
/-! ### the call of a builtin's method: o.m(..) -/
/-- the value is of that builtin type -/
def tyV (K : PySem.W.Frag) (T : String) (x : V) (H : Hp) : Prop := match x with
  | .str _ => T = "str"
  | .int _ => T = "int"
  | .ref p => (T = "list" ∧ ∃ xs, SqL K H p xs) ∨ (T = "tuple" ∧ ∃ o, K.lookup p = some o ∧ o.cls = .type "tuple" ∧ o.dict = none) ∨
      (T = "dict" ∧ ((∃ kvs, H p = some (.dK kvs)) ∨ ∃ kvs, H p = some (.dT kvs))) ∨ (T = "set" ∧ ∃ S n, H p = some (.set S n))
  | _ => False
theorem tyV_is {pins : List (Addr × Obj)} {σ : St} {H : Hp} {s : Shared} {T : String} {x : V} {v : Value} (I : Inv X pins σ H s) (r : RelV x v) (ty : tyV X.K T x H) :
    s.TypeIs v T ∧ ∀ a, v = .ref a → ∃ ob, s.heap.get? a = some ob ∧ ob.dict = none := by
  cases x with
  | str z =>
    obtain ⟨t, rfl⟩ := r
    cases (show T = "str" from ty)
    exact ⟨typeIs_str s z t, fun _ e => nomatch e⟩
  | int i =>
    obtain ⟨t, rfl⟩ := r
    cases (show T = "int" from ty)
    exact ⟨typeIs_int s i t, fun _ e => nomatch e⟩
  | ref p =>
    cases r
    rcases ty with ⟨rfl, xs, hq⟩ | ⟨rfl, o, hk, hc, hd⟩ | ⟨rfl, hk⟩ | ⟨rfl, S, n, hk⟩
    · obtain ⟨its, _, pl, _⟩ := I.list hq
      refine ⟨pl.isList.typeIs, fun a e => ?_⟩
      cases e
      obtain ⟨o, n, e, c, hd, _⟩ := pl
      exact ⟨o, e, hd⟩
    · refine ⟨⟨o, I.kIn p o hk, hc⟩, fun a e => ?_⟩
      cases e
      exact ⟨o, I.kIn _ o hk, hd⟩
    · have z : ∃ o, s.heap.get? p = some o ∧ o.ExactDict := by
        rcases hk with ⟨kvs, hk⟩ | ⟨kvs, hk⟩
        · obtain ⟨_, _, _, _, o, _, _, e, ex, _⟩ := I.hok p _ hk
          exact ⟨o, e, ex⟩
        · obtain ⟨_, _, _, _, o, _, _, e, ex, _⟩ := I.hok p _ hk
          exact ⟨o, e, ex⟩
      obtain ⟨o, e, ex⟩ := z
      refine ⟨⟨o, e, ex.1⟩, fun a e2 => ?_⟩
      cases e2
      exact ⟨o, e, ex.2.1⟩
    · obtain ⟨o, _, _, _, e, ex, _⟩ := I.hok p _ hk
      refine ⟨⟨o, e, ex.1⟩, fun a e2 => ?_⟩
      cases e2
      exact ⟨o, e, ex.2.1⟩
  | _ => exact False.elim ty
def tBM0 (K : PySem.W.Frag) (T : String) (r : V → List V → Hp → VK → Prop) (to : TE) : TE := fun σ H Q => to σ H fun x H1 => tyV K T x H1 ∧ r x [] H1 Q
def tBM (K : PySem.W.Frag) (T : String) (r : V → List V → Hp → VK → Prop) (to : TE) (t : TA) : TE := fun σ H Q => to σ H fun x H1 => tyV K T x H1 ∧ t σ H1 fun xs H2 => r x xs H2 Q
variable {o e : Expr} {es : List Expr} {to : TE} {t : TA} {name : Str} {apos cpos : Pos} {T id : String} {r : V → List V → Hp → VK → Prop}
theorem pe_bm (pa : PlainAttrs T) (slot : Slot T name id) (hty : typeOf (.builtin id) = pure (.type "method_descriptor")) (hm : MtR X id r) (ho : PE X o to) (ha : PA X (e :: es) t)
    (hbase : attributeBase o name X.env (eval o X.env) = eval o X.env := by rfl)
    (hfew : ((backTo cpos (starEach (e :: es) X.env)).all (fun x => !x.1) && (backToKw cpos (keywordEach [] X.env)).all (fun x => x.1.isSome)
      && decide ((e :: es).length + ([] : List Keyword).length + (if ([] : List Keyword).isEmpty then 0 else 1) < 30)) = true := by rfl)
    (hline : (apos.endLine == cpos.line) = true := by rfl) (hs : starEach (e :: es) X.env = (false, eval e X.env) :: starEach es X.env := by rfl) (hplain : (backTo cpos (starEach es X.env)).any (·.1) = false := by rfl) :
    PE X (.Call (.Attribute o name apos) (e :: es) [] cpos) (tBM X.K T r to t) := by
  intro pins s σ H Q I h
  refine wpAny_Call_method_late hbase hfew hline rfl (thn (ho pins s σ H _ I h) fun v s1 ⟨x, H1, I1, r1, ty, q1⟩ => ?_)
  obtain ⟨h1, h2⟩ := tyV_is I1 r1 ty
  refine ⟨T, id, pa, slot, hty, h1, h2, ?_⟩
  have hA := ha cpos pins s1 σ H1 _ I1 q1
  rw [hs] at hA ⊢
  refine Calls.callWith_builtin (by show (false || (backTo cpos (starEach es X.env)).any (·.1)) = false; rw [hplain] <;> rfl) (Calls.evalArgs_plain ?_)
  exact thn hA fun us s2 ⟨vs, H2, I2, r2, q2⟩ => hm pins s2 σ H2 x vs v us Q I2 r1 r2 q2
/- xs.append(e), list.index on a module's tuple .. are MtR facts of 06m -/
end
end L2

namespace L2
open PySem PySem.Spec PyProof.Rows

def MtM (X : Cx) (id : String) (r : V → List V → Hp → VK → Prop) : Prop :=
  ∀ (pins : List (Addr × Obj)) (s : Shared) (σ : St) (H : Hp) (x : V) (xs : List V) (v : Value) (us : List Value) (Q : VK), Inv X pins σ H s → RelV x v → Vals xs us → r x xs H Q →
    wpAny (model X.prog X.w) X.A (call (.builtin id) (v :: us)) (EP X pins σ Q) X.xe s

/-! ### lists of values -/
theorem Vals.one : ∀ {x : V} {us : List Value}, Vals [x] us → ∃ u, us = [u] ∧ RelV x u
  | _, _, .cons r .nil => ⟨_, rfl, r⟩
theorem Vals.two : ∀ {x y : V} {us : List Value}, Vals [x, y] us → ∃ u v, us = [u, v] ∧ RelV x u ∧ RelV y v
  | _, _, _, .cons r (.cons q .nil) => ⟨_, _, rfl, r, q⟩
theorem Vals.zero : ∀ {us : List Value}, Vals [] us → us = []
  | _, .nil => rfl
theorem Vals.dropLast {xs : List V} {us : List Value} (h : Vals xs us) : Vals xs.dropLast us.dropLast := by
  induction h with
  | nil => exact .nil
  | cons r t ih =>
    cases t with
    | nil => exact .nil
    | cons q t' => exact .cons r ih
theorem Vals.eraseIdx : ∀ {xs : List V} {us : List Value} (i : Nat), Vals xs us → Vals (xs.eraseIdx i) (us.eraseIdx i)
  | _, _, _, .nil => .nil
  | _, _, 0, .cons _ t => t
  | _, _, i + 1, .cons r t => .cons r (Vals.eraseIdx i t)
theorem Vals.reverse {xs : List V} {us : List Value} (h : Vals xs us) : Vals xs.reverse us.reverse := by
  induction h with
  | nil => exact .nil
  | cons r t ih => rw [List.reverse_cons, List.reverse_cons]; exact Vals.append ih (.cons r .nil)
theorem Vals.rep {xs : List V} {us : List Value} (h : Vals xs us) : ∀ k : Nat, Vals (List.replicate k xs).flatten (List.replicate k us).flatten
  | 0 => .nil
  | k + 1 => by
    rw [List.replicate_succ, List.replicate_succ, List.flatten_cons, List.flatten_cons]
    exact Vals.append h (Vals.rep h k)
theorem foldl_rep (its : List Value) : ∀ (k : Nat) (acc : List Value),
    List.foldl (fun x1 x2 => x1 ++ x2) acc.toArray (List.replicate k its.toArray) = (acc ++ (List.replicate k its).flatten).toArray
  | 0, acc => by simp
  | k + 1, acc => by
    have e : acc.toArray ++ its.toArray = (acc ++ its).toArray := by simp
    have e2 : (acc ++ its) ++ (List.replicate k its).flatten = acc ++ (List.replicate (k + 1) its).flatten := by
      rw [List.replicate_succ, List.flatten_cons, List.append_assoc]
    rw [← e2, ← foldl_rep its k (acc ++ its), ← e, List.replicate_succ, List.foldl_cons]

section
variable {X : Cx} {pins : List (Addr × Obj)} {σ : St} {H : Hp} {s : Shared} {l b : Addr} {xs ys zs : List V}

/-! ### the two steps: a tracked list is rewritten, a new list is laid -/
theorem Inv.lset {its its' : List Value} {n : Nat} {f : Array Value → Array Value} {t' : Nat} (I : Inv X pins σ H s) (hH : H l = some (.lst xs))
    (e : s.heap.get? l = some { cls := .type "list", data := .seq its.toArray n }) (hf : f its.toArray = its'.toArray) (hv : Vals ys its') (hz : ys.length ≤ sizeLine) :
    Inv X pins σ (upd H l (.lst ys)) { s with heap := s.heap.update l (Obj.mapSeq f), toks := t' } := by
  have q := PySem.IsL.update e f
  rw [hf] at q
  refine I.write (x := l) (e := l) (by rw [hH]; exact trivial) (.inl rfl) (fun b' u hb hu => (Heap.get?_update_other s.heap (Obj.mapSeq f) (Ne.symm hb)).trans hu) ⟨_, q⟩ ?_
  exact ⟨hz, its', _, hv, q⟩
theorem Inv.lnew {its : List Value} {t' : Nat} (I : Inv X pins σ H s) (hv : Vals ys its) (hz : ys.length ≤ sizeLine) :
    Inv X pins σ (upd H s.heap.objs.size (.lst ys)) { s with heap := s.heap.push { cls := .type "list", data := .seq its.toArray }, toks := t' } :=
  I.laid (fun _ _ q => Heap.get?_push_of_some _ q) (Nat.le_refl _) ⟨hz, its, 0, hv, Heap.get?_push_size _ rfl⟩
theorem Inv.fresh (I : Inv X pins σ H s) : H s.heap.objs.size = none := I.hok.fresh (Nat.le_refl _)
theorem Inv.lstM (I : Inv X pins σ H s) (hH : H l = some (.lst xs)) : xs.length ≤ sizeLine ∧ ∃ (its : List Value) (n : Nat), Vals xs its ∧ xs.length = its.length ∧ s.heap.get? l = some { cls := .type "list", data := .seq its.toArray n } := by
  obtain ⟨z, its, n, r, e⟩ := I.hok l _ hH
  exact ⟨z, its, n, r, r.length, e⟩

theorem notLongL {n : Nat} (h : n ≤ sizeLine) : Builtin.List.listTooLong n = false := by
  unfold Builtin.List.listTooLong
  exact decide_eq_false (by omega)
end

section
variable {X : Cx}

/-! ### methods -/
def rAppend : V → List V → Hp → VK → Prop := fun x vs H Q => ∃ l xs y, x = .ref l ∧ vs = [y] ∧ H l = some (.lst xs) ∧ xs.length < sizeLine ∧ Q .non (upd H l (.lst (xs ++ [y])))
theorem mt_append : MtM X "list.append" rAppend := by
  intro pins s σ H x vs v us Q I rx rv h
  obtain ⟨l, xs, y, rfl, rfl, hH, hz, q⟩ := h
  cases rx
  obtain ⟨u, rfl, ru⟩ := rv.one
  obtain ⟨z, its, n, r, hl, e⟩ := I.lstM hH
  refine call_meets F.slot_list_append ⟨_, e, rfl⟩ F.entry_list_append (F.args_list_append_2 _ _) (PySem.list_append l its.toArray n u (by rw [List.size_toArray]; omega)) ⟨e, ?_⟩
  refine ⟨.non, _, I.lset (its' := its ++ [u]) hH e (by simp) (r.append (.cons ru .nil)) ?_, rfl, q⟩
  rw [List.length_append, List.length_singleton]
  omega

def rExtend : V → List V → Hp → VK → Prop := fun x vs H Q => ∃ l b xs zs, x = .ref l ∧ vs = [.ref b] ∧ H l = some (.lst xs) ∧ H b = some (.lst zs) ∧ xs.length + zs.length ≤ sizeLine ∧ Q .non (upd H l (.lst (xs ++ zs)))
def rPop : V → List V → Hp → VK → Prop := fun x vs H Q => ∃ l xs y, x = .ref l ∧ vs = [] ∧ H l = some (.lst xs) ∧ xs[xs.length - 1]? = some y ∧ Q y (upd H l (.lst xs.dropLast))
def rPopAt : V → List V → Hp → VK → Prop := fun x vs H Q => ∃ l xs i k y, x = .ref l ∧ vs = [.int i] ∧ H l = some (.lst xs) ∧ -(2 ^ 63) ≤ i ∧ i < 2 ^ 63 ∧ seqIndex? i xs.length = some k ∧ xs[k]? = some y ∧ Q y (upd H l (.lst (xs.eraseIdx k)))
def rReverse : V → List V → Hp → VK → Prop := fun x vs H Q => ∃ l xs, x = .ref l ∧ vs = [] ∧ H l = some (.lst xs) ∧ Q .non (upd H l (.lst xs.reverse))
def rClear : V → List V → Hp → VK → Prop := fun x vs H Q => ∃ l xs, x = .ref l ∧ vs = [] ∧ H l = some (.lst xs) ∧ Q .non (upd H l (.lst []))
/-! ### list + list, list += list, list * int -/
def rCat : R2 := fun x y H Q => ∃ l b xs zs, x = .ref l ∧ y = .ref b ∧ H l = some (.lst xs) ∧ H b = some (.lst zs) ∧ xs.length + zs.length ≤ sizeLine ∧ ∀ p, H p = none → Q (.ref p) (upd H p (.lst (xs ++ zs)))
theorem op_cat : OpR X (binaryOp .Add) rCat := by
  intro pins s σ H x y v u Q I rx ry h
  obtain ⟨l, b, xs, zs, rfl, rfl, hH, hB, hz, q⟩ := h
  cases rx
  cases ry
  obtain ⟨z, its, n, r, hl, e⟩ := I.lstM hH
  obtain ⟨z2, its2, n2, r2, hl2, e2⟩ := I.lstM hB
  refine PySem.P.add_list e e2 ?_ (by rw [List.size_toArray, List.size_toArray]; omega)
  have ea : its.toArray ++ its2.toArray = (its ++ its2).toArray := by simp
  rw [ea]
  exact ⟨.ref _, _, I.lnew (t' := s.toks) (r.append r2) (by rw [List.length_append]; omega), rfl, q _ I.fresh⟩
/-- a list times an int (a negative one is nothing) -/
def rRep : R2 := fun x y H Q => ∃ l k xs, x = .ref l ∧ y = .int k ∧ H l = some (.lst xs) ∧ -(2 ^ 63) ≤ k ∧ k < 2 ^ 63 ∧ xs.length * k.toNat ≤ sizeLine ∧
  ∀ p, H p = none → Q (.ref p) (upd H p (.lst (List.replicate k.toNat xs).flatten))
theorem len_rep {α : Type} (xs : List α) (k : Nat) : (List.replicate k xs).flatten.length = k * xs.length := by
  induction k with
  | zero => simp
  | succ k ih => rw [List.replicate_succ, List.flatten_cons, List.length_append, ih, Nat.succ_mul, Nat.add_comm]
theorem op_rep : OpR X (binaryOp .Mult) rRep := by
  intro pins s σ H x y v u Q I rx ry h
  obtain ⟨l, k, xs, rfl, rfl, hH, h1, h2, hz, q⟩ := h
  cases rx
  obtain ⟨t, rfl⟩ := ry
  obtain ⟨z, its, n, r, hl, e⟩ := I.lstM hH
  have hlen : its.toArray.size * k.toNat ≤ sizeLine := by rw [List.size_toArray, ← hl]; exact hz
  have hcap : ¬ its.toArray.size * k.toNat > (2 ^ 63 - 1) / 8 := by
    have : (sizeLine : Nat) ≤ (2 ^ 63 - 1) / 8 := by decide
    omega
  have hfit : ¬ (!Builtin.List.listFitsIndex k) = true := by
    rw [fitsIndex_both h1 h2]
    exact Bool.false_ne_true
  have hlong : ¬ Builtin.List.listTooLong (its.toArray.size * k.toNat) = true := by
    rw [notLongL hlen]
    exact Bool.false_ne_true
  have hnew : List.foldl (fun x1 x2 => x1 ++ x2) #[] (List.replicate (if its.toArray.isEmpty = true then 0 else k.toNat) its.toArray) = (List.replicate k.toNat its).flatten.toArray := by
    have f0 : ∀ m : Nat, List.foldl (fun x1 x2 => x1 ++ x2) #[] (List.replicate m its.toArray) = (List.replicate m its).flatten.toArray := fun m => by
      have := foldl_rep its m []
      rw [List.nil_append] at this
      exact this
    rw [f0]
    cases its with
    | nil => simp
    | cons a r' => rw [if_neg (by simp)]
  refine wpAny_binaryOp_repeat_ref (T := "list") (U := "int") (by decide) ⟨_, e, rfl⟩ (fun s' => typeIs_int s' k t) noFill_list_mul F.fills_int_mul F.slot_int_rmul repeat_list F.slot_int_index.lookup
    (call_meets F.slot_int_rmul (typeIs_int s k t) F.entry_int_rmul (F.args_int_rmul_2 _ _) (int___rmul___int_list k t l its.toArray n)
      ⟨e, rfl, ⟨_, e, rfl⟩, call_meets F.slot_list_mul ⟨_, e, rfl⟩ F.entry_list_mul (F.args_list_mul_2 _ _) (AutoListH.list___mul___list_int_3 l its.toArray n k t hfit hcap hlong) ⟨e, ?_⟩⟩)
  rw [hnew]
  exact ⟨.ref _, _, I.lnew (t' := s.toks) (r.rep k.toNat) (by rw [len_rep, Nat.mul_comm]; exact hz), rfl, q _ I.fresh⟩

/-! ### del xs[i] -/
end

/-! ### xs[a:b] = ys -/
section
variable {prog : Program} {w : World} {A : Around} {E : Value → Shared → Prop} {s : Shared}
end

section
variable {X : Cx}
end
end L2

namespace Att
open PySem PySem.W PySem.Calls PyProof.Rows

/-! ### the script -/
theorem ints_of_wellAll {P : Params} {h : Heap} : ∀ (ns : List Int) (vs : List Value), WellAll P h vs (ns.map WData.int) → IntsAre vs ns := by
  intro ns
  induction ns with
  | nil =>
    intro vs w
    rw [List.map_nil] at w
    cases w
    exact .nil
  | cons n ns ih =>
    intro vs w
    rw [List.map_cons] at w
    cases w with
    | cons a b =>
      cases a
      exact .cons _ _ (ih _ b)

theorem script_of {l : OpenLaw} {n : Nat} (hn : l.most = some n) {P : Params} {h : Heap} {args : List WData} {vals : List Value}
    (hpre : l.row.toRowW.claim.pre args = true) (hwl : WellAll P h vals args) :
    ∃ a vs ns, vals = [Value.ref a] ∧ args = [WData.list (ns.map WData.int)] ∧ h.get? a = some { cls := .type "list", data := .seq vs.toArray } ∧ IntsAre vs ns ∧ ns.length ≤ n := by
  have hsh : WShape.hasAll [] args [.list .int] = true := (pre_splitW hpre).1
  have hc : l.pre.holds [] { args := args } = true := (pre_splitW hpre).2
  obtain ⟨d, r, rfl, h1, h2⟩ := hasAllW_cons hsh
  obtain rfl := hasAllW_nil h2
  obtain ⟨xs, rfl, h3⟩ := hasW_list h1
  obtain ⟨ns, rfl⟩ := items_int h3
  have hlen : ns.length ≤ n := by
    unfold OpenLaw.pre at hc
    have h4 : (WTm.not (.lt (.lit (.int (n : Int))) (.len (.arg 0)))).holds [] { args := [.list (ns.map .int)] } = true := by
      have h4 := (holds_andW hc).1
      rw [hn] at h4
      exact h4
    have h5 := condW_of h4 (w_not (w_lt w_lit (w_len_list (w_arg rfl))))
    rw [List.length_map] at h5
    refine Nat.le_of_not_lt fun q => ?_
    have q' : (n : Int) < ((ns.length : Nat) : Int) := by omega
    first
      | (rw [decide_eq_true q'] at h5; exact absurd h5 (by decide))
      | (simp at h5; omega)
  cases hwl with
  | cons w1 w2 =>
    cases w2
    cases w1 with
    | list ho hall => exact ⟨_, _, ns, rfl, rfl, ho, ints_of_wellAll ns _ hall, hlen⟩

theorem post_true (l : OpenLaw) (args : List WData) : l.row.toRowW.claim.post args (.bool true) args = true :=
  postW_of (r := l.row.toRowW) (X := (true == true))
    (show WShape.has [] (.bool true) .bool = true by first | rfl | decide | simp [WShape.has, WShape.arms, WShape.armsAll])
    (show (WTm.eq .res (.lit (.bool true))).value [] { args := args, res := some (.bool true), after := args } = some (.bool (true == true)) from w_eq_bool (w_res rfl) w_lit) rfl

/-! ### the attachment: holds_open's last premise (the goal 'hc' behind k_head) from a wpAny of the law's body -/
/-- the same from a codeAny of the CALL (for a layer whose function contracts speak of calls) -/
theorem attach_call {l : OpenLaw} {n : Nat} {q : Program} {loose : List Str} {XP : (Str → Option Value) → Heap → Prop} {YP : World → Heap → Prop} {d : DefRec}
    (hn : l.most = some n) (hdf : d.params.defaults = [])
    (call : ∀ (w : World) (s₀ s₁ : Shared) (mg mb : Str → Option Value) (fa : Addr) (o : Obj) (pm cd doc : Value) (a : Addr) (vs : List Value) (ns : List Int),
      Ground q loose [] XP w s₀ mg mb s₁.heap → YP w s₁.heap →
      s₁.heap.get? fa = some o → o.data = .func (docDef d.name d.params d.body d.scope pm cd doc) → s₁.heap.CodeRec cd d.name → mg d.name = some (.ref fa) →
      s₁.heap.get? a = some { cls := .type "list", data := .seq vs.toArray } → IntsAre vs ns → ns.length ≤ n → s₁.gens = #[] →
      codeAny (model l.prog w) callerA (.call (.ref fa) ⟨[.ref a], []⟩) (fun r s' => r = .ok (.ret (.bool true)) ∧ OldK s₁.heap s'.heap ∧ s'.os = s₁.os ∧ AllBare s'.gens) s₁) :
    WalkO q loose XP YP l.row.toRowW d [] (fun f vs => PySem.call f vs) := by
  intro w s₀ s₁ mg mb G Y fa o pm cd doc dV kV ho hd hcd hD hmg hg args vals as hpre hlay hrd hwl hlo
  obtain rfl : dV = .none := Dflts.none hD hdf
  obtain rfl : kV = .none := Dflts.noKw hD
  obtain ⟨a, vs, ns, rfl, rfl, hobj, hints, hlen⟩ := script_of hn hpre hwl
  refine enter_call (codeAny_mono (call w s₀ s₁ mg mb fa o pm cd doc a vs ns G Y ho (fd_plain hd) hcd hmg hobj hints hlen hg) fun r s' hq => ?_)
  obtain ⟨rfl, h2, h3, h4⟩ := hq
  exact ⟨.inl ⟨.bool true, .bool true, [], rfl, fun _ => rfl, .bool true, post_true l _, fun _ => ⟨List.Pairwise.nil, fun _ hm => (nomatch hm)⟩⟩, h2, h3, h4⟩

/-! ### rules over ANY heap (no ledger) from facts about the written part K: the library's own take a ledger (News) for what they write -/
section
variable {prog : Program} {w : World} {A : Around} {E : Value → Shared → Prop} {s : Shared} {K : Frag}

/-! the whole heap as the ledger: makes every rule that writes through a ledger a rule over any heap -/
def noObjs (h : Heap) : Heap := { h with objs := #[] }
def ledger (h : Heap) (L d : Addr) : List (Addr × Obj) := (List.range h.objs.size).filterMap fun a => if a = L ∨ a = d then none else (h.get? a).map fun o => (a, o)
end
end Att

namespace L2
open PySem PySem.Spec PyProof.Rows

theorem vals_ints : ∀ {vs : List Value} {ns : List Int}, IntsAre vs ns → Vals (ns.map V.int) vs
  | _, _, .nil => .nil
  | _, _, .cons n t h => .cons ⟨t, rfl⟩ (vals_ints h)

/-- nothing is tracked but the script, known to the object (or it is an object of the module) -/
def Only (H : Hp) : Prop := ∀ b, H b = none ∨ ∃ o xs, H b = some (.frz o (.lst xs))

/-- THE HEAD: the law's promise, at the heap behind the top. F, the promise of the law's def, may use that base is part of the heap (so K.In base, base.Ns mainGlobals mg stand in Mod) -/
theorem law_call {P : Program} {w : World} {K : PySem.W.Frag} {mg mb : Str → Option Value} {CX : CXT} {k : Nat} {fa a : Addr} {fd : FuncData} {x : Str} {sp : Sp} {s₁ : Shared} {vs : List Value} {ns : List Int}
    (KX : K.In s₁.heap) (hns : s₁.heap.Ns mainGlobals mg) (hb : s₁.heap.Ns builtinsNs mb) (hbb : ∀ x : Str, x ≠ "__name__" → mb x = bootBuiltins x) (hlim : s₁.heap.NoLimit) (hg : s₁.gens = #[])
    (ha : s₁.heap.get? a = some { cls := .type "list", data := .seq vs.toArray }) (hi : IntsAre vs ns) (hl : ns.length ≤ sizeLine) (hr : Room k callerA)
    (F : ∀ base : Heap, K.In base → base.Ns mainGlobals mg → FnOk P w K mg base CX k fa fd [x] sp) (hbind : ∀ (s : Shared) (u : Value), BindsTo s fd ⟨[u], []⟩ [(x, u)])
    (hsp : ∀ H : Hp, Only H → SqL K H a (ns.map V.int) → sp [.ref a] H (fun v _ => v = .bl true) fun _ _ _ => False)
    (hCX : ∀ H e s', CX [] H s₁ (fun _ _ _ => False) e s' → False) :
    codeAny (model P w) callerA (.call (.ref fa) ⟨[.ref a], []⟩) (fun r s' => r = .ok (.ret (.bool true)) ∧ OldK s₁.heap s'.heap ∧ s'.os = s₁.os ∧ AllBare s'.gens) s₁ := by
  have rv := vals_ints hi
  have lenV := hi.length
  -- from an abstract heap in which nothing but the script may be tracked
  have core : ∀ H : Hp, Only H → SqL K H a (ns.map V.int) → HOk P w H s₁.heap → (∀ b, H b ≠ none → b = a) → (H a ≠ none → K.lookup a = none) →
      codeAny (model P w) callerA (.call (.ref fa) ⟨[.ref a], []⟩) (fun r s' => r = .ok (.ret (.bool true)) ∧ OldK s₁.heap s'.heap ∧ s'.os = s₁.os ∧ AllBare s'.gens) s₁ := by
    intro H hO hS hok hA hK
    have base_of : ∀ {b : Addr} {o : Obj}, s₁.heap.get? b = some o → H b = none → (hidT s₁.heap H).get? b = some o := fun e n => hidT_get e n
    have noA : ∀ {b : Addr} {o : Obj} {es : Array DictEntry} {ep : Nat}, s₁.heap.get? b = some o → o.data = .dict es ep → H b = none := fun {b o es ep} e d => by
      cases q : H b with
      | none => rfl
      | some u =>
        have e' : b = a := hA b (by rw [q]; simp)
        subst e'
        rw [ha] at e; cases e
        have d' : Data.seq vs.toArray _ = Data.dict es ep := d
        cases d'
    have nsK : ∀ {b : Addr} {m : Str → Option Value}, s₁.heap.Ns b m → (hidT s₁.heap H).Ns b m := fun {b m} ⟨o, es, ep, e, d, r⟩ => ⟨o, es, ep, base_of e (noA e d), d, r⟩
    have hKb : K.In (hidT s₁.heap H) := fun b o e => base_of (KX b o e) (by
      cases q : H b with
      | none => rfl
      | some u =>
        have e' : b = a := hA b (by rw [q]; simp)
        subst e'
        rw [hK (by rw [q]; simp)] at e; cases e)
    have hM : Mod K mg (hidT s₁.heap H) := ⟨hKb, nsK hns, ⟨mb, nsK hb, hbb⟩, let ⟨mc, h1, h2⟩ := hlim; ⟨mc, nsK h1, h2⟩⟩
    have e0 : Env0 P w K mg (hidT s₁.heap H) callerA [] s₁ H := ⟨rfl, hM, fun b o e => of_hidT e, Nat.le_of_eq (hidT_size _ _), trivial, fun b hb => absurd (show b ∈ ([] : List Addr) from hb) (by simp), hok, .of_eq hg⟩
    refine codeAny_mono ((F _ hKb (nsK hns)).run callerA [] s₁ H ⟨[.ref a], []⟩ [.ref a] [.ref a] _ _ hr e0 (hbind s₁ (.ref a)) (.cons rfl .nil) (hsp H hO hS)) fun r s' h => ?_
    cases r with
    | error e => exact (hCX H e s' h).elim
    | ok fl =>
      cases fl with
      | next => exact False.elim h
      | brk => exact False.elim h
      | cont => exact False.elim h
      | ret u =>
        obtain ⟨v, H', os, bare, un, hok', r', q⟩ := h
        have q' : v = .bl true := q
        subst q'
        obtain rfl : u = Value.bool true := r'
        refine ⟨rfl, OldK.of_keep fun b o e => ?_, os, bare⟩
        cases q : H b with
        | none => exact un.keep b o e q (by intro z; exact absurd (show b ∈ ([] : List Addr) from z) (by simp)) (by simp)
        | some u =>
          rcases hO b with z | ⟨ob, xs, z⟩
          · rw [q] at z; cases z
          · have z2 := un.frzs b ob _ z
            obtain ⟨e1, _⟩ := hok b _ z
            obtain ⟨e2, _⟩ := hok' b _ z2
            rw [e] at e1; cases e1
            exact e2
  cases hk : K.lookup a with
  | some o =>
    -- the script is one of the module's own objects
    have e := KX a o hk
    rw [ha] at e
    cases e
    refine core (fun _ => none) (fun _ => .inl rfl) (.inr ⟨_, vs.toArray, _, hk, rfl, rfl, rfl, by rw [List.size_toArray, lenV]; exact hl, by simpa using rv⟩) (fun b u z => by have z' : (none : Option HO) = some u := z; cases z') (fun b z => absurd rfl z) fun z => absurd rfl z
  | none =>
    refine core (fun b => if b = a then some (.frz { cls := .type "list", data := .seq vs.toArray } (.lst (ns.map V.int))) else none) (fun b => ?_) (.inl (.inr ⟨{ cls := .type "list", data := .seq vs.toArray }, if_pos rfl⟩)) (fun b u z => ?_) (fun b z => ?_) fun _ => hk
    · by_cases hb : b = a
      · exact .inr ⟨_, _, if_pos hb⟩
      · exact .inl (if_neg hb)
    · by_cases hb : b = a
      · have z' := (if_pos hb).symm.trans z
        cases z'
        subst hb
        exact ⟨ha, by rw [List.length_map]; exact hl, vs, _, rv, ha⟩
      · have z' := (if_neg hb).symm.trans z
        cases z'
    · by_cases hb : b = a
      · exact hb
      · exact absurd (if_neg hb) z
end L2

namespace L2
open PySem PySem.Spec PyProof.Rows

abbrev KOf {K : PySem.W.Frag} {h : Heap} (_ : K.In h) : PySem.W.Frag := K

/-- the goal that k_head leaves (case hc), from the law's promise. F gives the function object fd (K's own) once, then the promise over every base -/
theorem walk_of {l : PySem.W.OpenLaw} {n k : Nat} {q : Program} {loose : List Str} {XP : (Str → Option Value) → Heap → Prop} {YP : World → Heap → Prop} {d : DefRec} {K : Params → PySem.W.Frag} {CX : World → CXT} {sp : World → Sp} {x : Str}
    (hn : l.most = some n) (hn2 : n ≤ sizeLine) (hdf : d.params.defaults = []) (hr : Room k callerA)
    (hY : ∀ (w : World) (h : Heap), YP w h → (K w.params).In h)
    (F : ∀ (w : World) (mg : Str → Option Value) (fa : Addr) (h : Heap), (K w.params).In h → h.Ns mainGlobals mg → mg d.name = some (.ref fa) →
      ∃ fd : FuncData, (∀ (s : Shared) (u : Value), BindsTo s fd ⟨[u], []⟩ [(x, u)]) ∧
        ∀ base : Heap, (K w.params).In base → base.Ns mainGlobals mg → FnOk l.prog w (K w.params) mg base (CX w) k fa fd [x] (sp w))
    (hsp : ∀ (w : World) (H : Hp) (a : Addr) (ns : List Int), ns.length ≤ n → Only H → SqL (K w.params) H a (ns.map V.int) → sp w [.ref a] H (fun v _ => v = .bl true) fun _ _ _ => False)
    (hCX : ∀ (w : World) (H : Hp) (s : Shared) (e : Value) (s' : Shared), CX w [] H s (fun _ _ _ => False) e s' → False) :
    PySem.W.WalkO q loose XP YP l.row.toRowW d [] (fun f vs => PySem.call f vs) := by
  refine Att.attach_call hn hdf fun w s₀ s₁ mg mb fa o pm cd doc a vs ns G Y ho hd hcd hmg hobj hints hlen hg => ?_
  have KX := hY w _ Y
  obtain ⟨fd, hb, hF⟩ := F w mg fa _ KX G.T.g hmg
  exact law_call KX G.T.g G.T.b G.T.builtins G.T.nolimit hg hobj hints (Nat.le_trans hlen hn2) hr hF hb (fun H hO hS => hsp w H a ns hlen hO hS) fun H e s' => hCX w H s₁ e s'
end L2

/- THE LAST THEOREM (shape; LID, My.* are yours):
   My.Adr: a structure of the addresses that your layer names (classes, functions); My.Txt K t: a structure (Prop) of the equations over K;
   My.txt_mk : {K} {implicit addresses ..} (e1 : nsIn K mainGlobals "law" = some (some (.ref f))) (e2 : K.lookup f = some ⟨oc, od, .func (fnOf "law" "law" params body scope dV kV doc pm an cdv ct), sl⟩) (e3 : codeIn K cdv "law" = true) .. : ∃ t, My.Txt K t

set_option maxRecDepth 100000 in
set_option maxHeartbeats 0 in
theorem PySem.Challenge.cw_LID_holds : PySem.Challenge.rw_LID.Holds := by
  w_on; o_law; k_head; (case hw => w_witness2)
  k_fill
  refine L2.walk_of (l := PySem.Challenge.rw_LID) (n := 63) (k := 40) (x := "script") (CX := fun w => ..) (sp := fun _ => My.sp_law) rfl (by decide) rfl ⟨rfl, by decide, by decide⟩ (fun w h Y => PySem.W.kIn_of Y) ?F ?S ?C
  case F =>
    intro w mg fa h KX G hmg
    have T : ∃ t, My.Txt (L2.KOf KX) t := by
      dsimp only [L2.KOf]                          -- K must stand as «<heap const> w.params» for k_is
      refine' My.txt_mk ?e1 ?e2 ?e3 ..
      (case e1 => PySem.W.k_is)                    -- in the order: a name -> its address -> its object -> its parts
      (case e2 => PySem.W.k_is)
      ..
    obtain ⟨t, T⟩ := T
    have e0 := hmg.symm.trans (PySem.W.mg_of KX G T.law)
    cases e0                                       -- fa is the law's own address
    exact ⟨_, fun s u => .of_eq rfl, fun base kb nb => My.law_fn T kb nb⟩     -- if «.of_eq rfl» comes too early: refine' ⟨_, ?b, fun base kb nb => My.law_fn T kb nb⟩; exact fun s u => .of_eq rfl
  case S => exact fun w H a ns hl hO hS => ..
  case C => exact ..
(the tactic k_is has no namespace: write k_is) -/

/-! SHORT WORDS over the layer: a def of the text, its body, what a loop and a test want. -/
namespace L2
open PySem PySem.Spec PyProof.Rows

/-! ### the text by places -/
/-- the j-th statement of a class's body -/
def inClass (s : Stmt) (j : Nat) : Stmt := match s with
  | .ClassDef _ _ _ body _ _ _ _ _ _ _ => body.getD j (.Pass ⟨0, 0, 0, 0⟩)
  | _ => .Pass ⟨0, 0, 0, 0⟩
def defArgs (s : Stmt) : Arguments := match s with
  | .FunctionDef _ a _ _ _ _ _ _ _ _ => a
  | _ => { posonlyargs := [], args := [], vararg := none, kwonlyargs := [], kw_defaults := [], kwarg := none, defaults := [] }
def defBody (s : Stmt) : List Stmt := match s with
  | .FunctionDef _ _ b _ _ _ _ _ _ _ => b
  | _ => []
def defScope (s : Stmt) : Scope := match s with
  | .FunctionDef _ _ _ _ _ _ sc _ _ _ => sc
  | _ => { kind := .function, names := [], isGenerator := false, isCoroutine := false }

/-! ### no exception leaves a def -/
abbrev CX0 : CXT := fun _ _ _ _ _ _ => False
abbrev E0 : XK := fun _ _ _ => False
theorem pass0 {X : Cx} : Passes CX0 X E0 := fun _ _ _ _ _ _ _ h => h.elim

/-! ### a def (or method) of the text as it stands behind the top -/
structure Fun (K : PySem.W.Frag) (x qual : Str) (st : Stmt) (f : Addr) (fd : FuncData) : Prop where
  ex : ∃ (oc : Value) (od : Option Addr) (kV doc pm : Value) (an : Option Addr) (cdv ct : Value) (osl : Array (Option Value)),
    fd = PySem.W.fnOf x qual (defArgs st) (defBody st) (defScope st) .none kV doc pm an cdv ct ∧ K.lookup f = some ⟨oc, od, .func fd, osl⟩ ∧ PySem.W.codeIn K cdv qual = true
  kp : PySem.W.keepIn K (.ref f) = true
section
variable {P : Program} {w : World} {K : PySem.W.Frag} {mg : Str → Option Value} {base : Heap}
/-- THE RULE for a def: its body as a term of rules, and the reading of that term -/
theorem Fun.ok {x qual : Str} {st : Stmt} {f : Addr} {fd : FuncData} {N ps : List Str} {k : Nat} {sp : Sp} (F : Fun K x qual st f fd) (S : FnScope N ps (defScope st)) (len : ∀ vs H Q E, sp vs H Q E → vs.length = ps.length)
    (hbody : ∀ (cdv : Value) (A : Around) (outer : List Env) (s : Shared) (H : Hp) (vs : List V) (Q : VK) (E : XK), Room k (A.deeper (envOfC qual (defScope st) s.heap.objs.size f cdv)) → sp vs H Q E →
      ∃ t, PSs (cxOf CX0 P w K mg base N qual (defScope st) f cdv A outer s H E).nox (defBody st) t ∧ t { nx := fun _ H' => Q .non H', rt := Q } (start N vs) H) : FnOk P w K mg base CX0 (k + 1) f fd ps sp := by
  obtain ⟨oc, od, kV, doc, pm, an, cdv, ct, osl, rfl, lk, hcd⟩ := F.ex
  refine fn_of lk hcd S len fun A outer s H vs Q E hr hsp => ?_
  obtain ⟨t, h, q⟩ := hbody cdv A outer s H vs Q E hr hsp
  exact ⟨t, h.nox, q⟩
/-- how its arguments bind (no defaults): h is «fun _ _ _ _ _ _ us hl => match us, hl with | [_, _], _ => rfl», one _ a parameter -/
theorem Fun.binds {x qual : Str} {st : Stmt} {f : Addr} {fd : FuncData} {ps : List Str} (F : Fun K x qual st f fd)
    (h : ∀ (kV doc pm : Value) (an : Option Addr) (cdv ct : Value) (us : List Value), us.length = ps.length → bindArgs (PySem.W.fnOf x qual (defArgs st) (defBody st) (defScope st) .none kV doc pm an cdv ct) ⟨us, []⟩ = pure (ps.zip us)) : Binds K fd ps [] := by
  obtain ⟨oc, od, kV, doc, pm, an, cdv, ct, osl, rfl, lk, hcd⟩ := F.ex
  exact .all (h kV doc pm an cdv ct)
theorem fun_mk {x qual : Str} {st : Stmt} {f : Addr} {oc : Value} {od an : Option Addr} {osl : Array (Option Value)} {kV doc pm cdv ct : Value} (l : K.lookup f = some ⟨oc, od, .func (PySem.W.fnOf x qual (defArgs st) (defBody st) (defScope st) .none kV doc pm an cdv ct), osl⟩)
    (c : PySem.W.codeIn K cdv qual = true) (k : PySem.W.keepIn K (.ref f) = true) : Fun K x qual st f (PySem.W.fnOf x qual (defArgs st) (defBody st) (defScope st) .none kV doc pm an cdv ct) := ⟨⟨oc, od, kV, doc, pm, an, cdv, ct, osl, rfl, l, c⟩, k⟩
end
/-! ### expressions in short: the name that stands in the i-th slot -/
section
variable {X : Cx}
theorem pv (i : Nat) {x : Str} {pos : Pos} (hN : X.N[i]? = some x := by rfl) (hv : Vis X.env.scope x := by first | exact Or.inl rfl | exact Or.inr (Or.inl rfl) | exact Or.inr (Or.inr rfl)) (hd : (x == ("__debug__" : Str)) = false := by decide)
    (hcd : (x == ("__classdict__" : Str)) = false := by decide) : PE X (.Name x pos) (tVar i) := pe_var hN hv hd hcd
end

/-! ### tests -/
/-! ### heaps -/
/-- all that was tracked is as it was -/
def Same (H H' : Hp) : Prop := ∀ b o, H b = some o → H' b = some o
theorem Same.refl (H : Hp) : Same H H := fun _ _ h => h
theorem Same.trans {H H1 H2 : Hp} (a : Same H H1) (b : Same H1 H2) : Same H H2 := fun c o h => b c o (a c o h)
theorem Same.free {H H' : Hp} (e : Same H H') {l : Addr} (h : H' l = Option.none) : H l = Option.none := by
  cases q : H l with
  | none => rfl
  | some o =>
    rw [e l o q] at h
    cases h
theorem Same.seq {K : PySem.W.Frag} {H H' : Hp} {a : Addr} {xs : List V} (e : Same H H') (h : SqL K H a xs) : SqL K H' a xs := by
  rcases h with (h | ⟨o, h⟩) | h
  · exact .inl (.inl (e _ _ h))
  · exact .inl (.inr ⟨o, e _ _ h⟩)
  · exact .inr h

end L2

end
section
set_option Elab.async false
set_option linter.all false
set_option maxRecDepth 100000
namespace L2
open PySem PySem.Spec PyProof.Rows

/-! ### a text walked sign by sign -/
def Its (x : Str) : It := ⟨fun i _ => i < x.cps.size, fun i H v H' => H' = H ∧ ∃ c, x.cps[i]? = some c ∧ v = .str ⟨#[c]⟩, fun i _ => i = x.cps.size⟩
theorem turn_str {P : Program} {w : World} {K : PySem.W.Frag} {tg : Expr} {it : Addr} {x : Str} {t : Tok} {T : String}
    (hT : ["enumerate", "zip", "dict_itemiterator", "dict_reverseitemiterator", "odict_iterator", "itertools.zip_longest", "itertools.pairwise"].contains T = false)
    (W : ∀ A : Around, A.handled = none → Walks P w A it [it] [it] x.cps.size (SignAt x) (fun i h => h.IsStrIter it T x t i))
    (self : ∀ (A : Around) (i : Nat) (s : Shared) (Q : Value → Shared → Prop) (E : Value → Shared → Prop), s.heap.IsStrIter it T x t i → Q (.ref it) s → wpAny (model P w) A (pyIter (.ref it)) Q E s) :
    Turn P w K tg (Its x) [it] it (fun i h => h.IsStrIter it T x t i) where
  mem := by simp
  obj := fun i h st b hb => by
    have e : b = it := by simpa using hb
    subst e
    obtain ⟨o, e, c, d⟩ := st
    exact ⟨o, e, fun v z => by rw [d] at z; cases z⟩
  keep := fun i h h' st k => let ⟨o, ho, r⟩ := st; ⟨o, k it (by simp) o ho, r⟩
  item := by
    intro X hP hw hK hc i pins s σ H E I hf st hg
    subst hP hw hK
    obtain ⟨f0, f1, f2, f3, f4, f5⟩ := hf it (by simp)
    refine (W X.A (I.ok.hd hc)).item i s _ _ hg st fun v h' tk hv st' kk => ?_
    obtain ⟨c, u, hcu, rfl⟩ := hv
    have I1 : Inv X pins σ H { s with heap := h', toks := tk } := I.turned (fun b o hb e => kk b o (by simpa using hb) e) f0 f1 f3 f4 f5
    obtain ⟨o, e, c', d⟩ := id st'
    exact ⟨_, rfl, go_of (s := { s with heap := h', toks := tk }) e c' d hT ⟨.str ⟨#[c]⟩, H, I1, ⟨u, rfl⟩, ⟨rfl, c, hcu, rfl⟩, st', fun b hb => (hf b hb).1⟩⟩
  done := by
    intro X hP hw hK hc i pins s σ H E I hf st hg
    subst hP hw hK
    obtain ⟨f0, f1, f2, f3, f4, f5⟩ := hf it (by simp)
    have hg : i = x.cps.size := hg
    subst hg
    exact (W X.A (I.ok.hd hc)).done s _ _ st fun h' tk eb => ⟨rfl, I.turned (fun b o hb e => eb b o (by simpa using hb) e) f0 f1 f3 f4 f5⟩
  self := self
section
variable {X : Cx} {tg : Expr}
def iStr (tl : TE) : TI := fun σ H R => tl σ H fun x H1 => ∃ z, x = .str z ∧ R (Its z) H1
theorem pi_str {l : Expr} {tl : TE} (hl : PE X l tl) : PI X tg l (iStr tl) := by
  intro pins s σ H R I h
  refine thn (hl pins s σ H _ I h) fun v s1 ⟨x, H1, I1, r1, q1⟩ => ?_
  obtain ⟨z, e, q⟩ := q1
  subst e
  obtain ⟨t, rfl⟩ := r1
  have fin : ∀ (T : String) (o : Obj), Turn X.prog X.w X.K tg (Its z) [s1.heap.objs.size] s1.heap.objs.size (fun i h => h.IsStrIter s1.heap.objs.size T z t i) → (s1.heap.push o).IsStrIter s1.heap.objs.size T z t 0 →
      PIE X pins σ tg R (.ref s1.heap.objs.size) { s1 with heap := s1.heap.push o } := fun T o tn h0 => by
    refine ⟨s1.heap.objs.size, [s1.heap.objs.size], _, _, H1, rfl, I1.kept (t' := s1.toks) fun b o e => Heap.get?_push_of_some _ e, tn, h0, fun b hb => ?_, q⟩
    have e : b = s1.heap.objs.size := by simpa using hb
    subst e
    exact I1.fpOk (Nat.le_refl _) (I1.hok.fresh (Nat.le_refl _))
  cases ha : z.cps.all (· < 128)
  · exact wpAny_pyIter_wide ha (fin "str_iterator" _ (turn_str (by decide) (fun A hA => Walks.strWide hA _ z t) fun _ _ _ _ _ st hQ => wpAny_pyIter_striter_wide st hQ) ⟨_, Heap.get?_push_size _ rfl, rfl, rfl⟩)
  · exact wpAny_pyIter_ascii ha (fin "str_ascii_iterator" _ (turn_str (by decide) (fun A hA => Walks.strAscii hA _ z t) fun _ _ _ _ _ st hQ => wpAny_pyIter_striter_ascii st hQ) ⟨_, Heap.get?_push_size _ rfl, rfl, rfl⟩)
end
/-- over a text, by the part that was walked -/
theorem for_str {x : Str} {g : TG} {tb : TS} {D : Ends} {σ : St} {H : Hp} (Pv : List Nat → St → Hp → Prop) (h0 : Pv [] σ H)
    (hs : ∀ pre c post σ H, x.cps.toList = pre ++ c :: post → Pv pre σ H → g (.str ⟨#[c]⟩) σ H fun σ2 H2 => tb { D with nx := Pv (pre ++ [c]), ct := Pv (pre ++ [c]), bk := D.nx } σ2 H2) (hd : ∀ σ H, Pv x.cps.toList σ H → D.nx σ H) :
    ∃ W : Nat → Nat → St → Hp → Prop, (∃ m, W 0 m σ H) ∧ ∀ i m σ H, W i m σ H →
      ((Its x).stop i H ∧ D.nx σ H) ∨ ((Its x).go i H ∧ ∃ N : St → Hp → Prop, (∀ σ' H', N σ' H' → ∃ m', m' < m ∧ W (i + 1) m' σ' H') ∧ ∀ v H', (Its x).yld i H v H' → g v σ H' fun σ2 H2 => tb { D with nx := N, ct := N, bk := D.nx } σ2 H2) := by
  have hlen : x.cps.toList.length = x.cps.size := by simp
  refine ⟨fun i m σ H => m = x.cps.size - i ∧ i ≤ x.cps.size ∧ Pv (x.cps.toList.take i) σ H, ⟨x.cps.size, by simp, Nat.zero_le _, by simpa using h0⟩, ?_⟩
  rintro i m σ H ⟨rfl, hi, p⟩
  by_cases hlt : i < x.cps.size
  · refine .inr ⟨hlt, Pv (x.cps.toList.take (i + 1)), fun σ' H' p' => ⟨x.cps.size - (i + 1), by omega, rfl, hlt, p'⟩, fun v H' y => ?_⟩
    obtain ⟨e, c, hc, rfl⟩ := y
    subst e
    have hc' : x.cps.toList[i]? = some c := by simpa using hc
    have hl : i < x.cps.toList.length := by omega
    have hg : x.cps.toList[i] = c := by rw [List.getElem?_eq_getElem hl] at hc'; exact Option.some.inj hc'
    have e1 : x.cps.toList = x.cps.toList.take i ++ c :: x.cps.toList.drop (i + 1) := by
      rw [← hg, ← List.drop_eq_getElem_cons hl, List.take_append_drop]
    have e2 : x.cps.toList.take (i + 1) = x.cps.toList.take i ++ [c] := by rw [List.take_succ_eq_append_getElem hl, hg]
    rw [e2]
    exact hs _ c _ σ H' e1 p
  · have e : i = x.cps.size := by omega
    subst e
    refine .inl ⟨rfl, hd σ H ?_⟩
    rw [List.take_of_length_le (by omega)] at p
    exact p
section
variable {X : Cx}
/-! ### text * int -/
def repS (x : Str) (n : Nat) : Str := ⟨(List.replicate n x.cps.toList).flatten.toArray⟩
theorem Txt_mul_eq (x : Str) (n : Int) : Txt.mul x n = repS x n.toNat := by
  have aux : ∀ (k : Nat) (acc : Array Nat), (List.replicate k x.cps).foldl (· ++ ·) acc = (acc.toList ++ (List.replicate k x.cps.toList).flatten).toArray := by
    intro k
    induction k with
    | zero => intro acc; simp
    | succ k ih => intro acc; rw [List.replicate_succ, List.foldl_cons, ih]; simp [List.replicate_succ]
  unfold Txt.mul repS
  split
  · rename_i h
    have : n.toNat = 0 := by omega
    rw [this]; rfl
  · rename_i h
    split
    · rename_i h2
      rcases Bool.or_eq_true_iff.mp h2 with h3 | h3
      · have : n.toNat = 1 := by have := beq_iff_eq.mp h3; omega
        rw [this]
        cases x; simp
      · have h4 : x.cps.toList = [] := by
          have h5 : x.cps.size = 0 := by simpa [PySem.Str.length] using h3
          exact List.eq_nil_of_length_eq_zero (by simpa using h5)
        cases x with
        | mk c =>
          simp only at h4
          have : c = #[] := by simpa using h4
          subst this; simp
    · rw [aux]; simp
theorem op_mul_str : OpR X (binaryOp .Mult) (fun x y H Q => ∃ a k, x = .str a ∧ y = .int k ∧ (-(2 ^ 62) ≤ k ∧ k < 2 ^ 62) ∧ a.length * k.toNat ≤ sizeLine ∧ Q (.str (repS a k.toNat)) H) := by
  intro pins s σ H x y v u Q I rx ry h
  obtain ⟨a, k, rfl, rfl, ⟨h1, h2⟩, hz, q⟩ := h
  obtain ⟨t, rfl⟩ := rx
  obtain ⟨t', rfl⟩ := ry
  refine SB.mul ⟨?_, ?_, ?_⟩ fun t'' k' => ⟨.str (repS a k.toNat), H, I.tok _, ⟨t'', by rw [Txt_mul_eq]⟩, q⟩
  · simp; omega
  · intro hk _ hgt
    have hz' : a.length * k.toNat ≤ 2 ^ 40 := Nat.le_trans hz (by rw [sizeLine_eq]; decide)
    have e : ((a.length * k.toNat : Nat) : Int) ≤ 2 ^ 40 := by exact_mod_cast hz'
    have hk' : (k.toNat : Int) = k := by omega
    rw [Int.natCast_mul, hk'] at e
    have h3 := Int.lt_of_lt_of_le hgt (Int.le_refl _)
    have h4 : (2 ^ 63 - 1 : Int) < (a.length : Int) * k := by
      have := (Int.ediv_lt_iff_lt_mul (by omega : (0 : Int) < k)).mp hgt
      exact this
    omega
  · intro _ _
    simp only [Builtin.Str.tooLong, decide_eq_false_iff_not]
    omega
end
end L2

end
section
set_option Elab.async false
set_option linter.all false
set_option maxRecDepth 100000
namespace L2
open PySem PySem.Spec PyProof.Rows

/-! ### text[lo:hi] -/
def cutS (x : Str) (lo hi : Option Int) : Str := ⟨((x.cps.toList.drop (HT.sIx x.length 0 lo)).take (HT.sIx x.length x.length hi - HT.sIx x.length 0 lo)).toArray⟩
theorem sliceIdx_key (l u : Option Int) (n : Nat) : Builtin.Str.strSliceIndices l u 1 n = sliceRange ((HT.sIx n 0 l : Nat) : Int) ((HT.sIx n n u : Nat) : Int) 1 := by
  have c1 : ∀ (v : Int), max 0 (min (if v < 0 then v + (n : Int) else v) (n : Int)) = ((HT.sIx n 0 (some v) : Nat) : Int) := fun v => by
    unfold HT.sIx; dsimp only; split <;> omega
  have c2 : ∀ (v : Int), max 0 (min (if v < 0 then v + (n : Int) else v) (n : Int)) = ((HT.sIx n n (some v) : Nat) : Int) := fun v => by
    unfold HT.sIx; dsimp only; split <;> omega
  unfold Builtin.Str.strSliceIndices
  have e1 : ((1 : Int) > 0) := by decide
  cases l with
  | none =>
    cases u with
    | none => simp only [e1, if_true]; rfl
    | some v => simp only [e1, if_true]; rw [c2]; rfl
  | some z =>
    cases u with
    | none => simp only [e1, if_true]; rw [c1]; rfl
    | some v => simp only [e1, if_true]; rw [c1, c2]
theorem sIx_idem (n d d' : Nat) (o : Option Int) (hd : d ≤ n) : HT.sIx n d' (some ((HT.sIx n d o : Nat) : Int)) = HT.sIx n d o := by
  have := HT.sIx_le n d hd o
  rw [HT.sIx_nat]; omega
theorem sliceIdx_eq (l u : Option Int) (n : Nat) : Builtin.Str.strSliceIndices l u 1 n = Builtin.Str.strSliceIndices (some ((HT.sIx n 0 l : Nat) : Int)) (some ((HT.sIx n n u : Nat) : Int)) 1 n := by
  rw [sliceIdx_key, sliceIdx_key (some _), sIx_idem n 0 0 l (Nat.zero_le _), sIx_idem n n n u (Nat.le_refl _)]
theorem Txt_slice_eq (x : Str) (l u : Option Int) : Txt.slice x l u = cutS x l u := by
  have h0 : HT.sIx x.length 0 l ≤ x.length := HT.sIx_le _ _ (Nat.zero_le _) _
  have hn : HT.sIx x.length x.length u ≤ x.length := HT.sIx_le _ _ (Nat.le_refl _) _
  unfold Txt.slice
  rw [sliceIdx_eq]
  by_cases hab : HT.sIx x.length 0 l ≤ HT.sIx x.length x.length u
  · exact PySem.StrLaws.sliceText_nat x hab hn
  · have e : Builtin.Str.strSliceIndices (some ((HT.sIx x.length 0 l : Nat) : Int)) (some ((HT.sIx x.length x.length u : Nat) : Int)) 1 x.length = [] := by
      rw [← sliceIdx_eq, sliceIdx_key]
      unfold sliceRange
      have : ¬ (((HT.sIx x.length 0 l : Nat) : Int) < ((HT.sIx x.length x.length u : Nat) : Int)) := by omega
      simp [this]
    rw [e]
    have hx : ¬ (0 = x.length) := by omega
    have hz : HT.sIx x.length x.length u - HT.sIx x.length 0 l = 0 := by omega
    unfold cutS
    rw [hz]
    simp [hx]
section
variable {X : Cx}
def rSlS : V → Option Int → Option Int → Hp → VK → Prop := fun x lo hi H Q => ∃ z, x = .str z ∧ z.length ≤ sizeLine ∧ Q (.str (cutS z lo hi)) H
theorem sl_str : SlR X rSlS := by
  intro pins s σ H x v vl vu lo hi sl Q I rx hs pl pu h
  obtain ⟨z, rfl, hz, q⟩ := h
  obtain ⟨t, rfl⟩ := rx
  refine ⟨"str", _, F.slot_str_getitem.lookup, typeIs_str _ _ _, ?_⟩
  have fin : ∀ (l u : Option (Int × Tok)), l.map (·.1) = lo → u.map (·.1) = hi → s.heap.IsSlice sl l u none → wpAny (model X.prog X.w) X.A (getItem (.str z t) (.ref sl)) (EP X pins σ Q) X.xe s := fun l u e1 e2 hsl => by
    refine wpAny_getItem_str_slice (st := none) hsl rfl ?_
    have e : Txt.slice z (l.map (·.1)) (u.map (·.1)) = cutS z lo hi := by rw [e1, e2, Txt_slice_eq]
    refine post_val_or_str ⟨Nat.le_trans (Txt.slice_le z _ _) hz, fun t' k => ⟨.str (cutS z lo hi), H, I.tok _, ⟨t', ?_⟩, q⟩⟩
    rw [← e]; rfl
  cases pl with
  | none =>
    cases pu with
    | none => exact fin none none rfl rfl hs
    | int j tj => exact fin none (some (j, tj)) rfl rfl hs
  | int i ti =>
    cases pu with
    | none => exact fin (some (i, ti)) none rfl rfl hs
    | int j tj => exact fin (some (i, ti)) (some (j, tj)) rfl rfl hs
/-! ### startswith, endswith -/
def rStarts : V → List V → Hp → VK → Prop := fun x vs H Q => ∃ a b, x = .str a ∧ vs = [.str b] ∧ Q (.bl (b.cps.toList.isPrefixOf a.cps.toList)) H
def rEnds : V → List V → Hp → VK → Prop := fun x vs H Q => ∃ a b, x = .str a ∧ vs = [.str b] ∧ Q (.bl (b.cps.toList.isSuffixOf a.cps.toList)) H
theorem beq_toList (a b : Array Nat) : (a == b) = (a.toList == b.toList) := by
  by_cases h : a = b
  · subst h; simp
  · have h' : a.toList ≠ b.toList := fun e => h (by simpa using e)
    rw [beq_eq_false_iff_ne.mpr h, beq_eq_false_iff_ne.mpr h']
theorem subAt_eq (a b : Str) (i : Nat) : Builtin.Str.subAt a b i = (((a.cps.toList.drop i).take b.length) == b.cps.toList) := by
  unfold Builtin.Str.subAt
  rw [beq_toList]
  congr 1
  simp [Array.toList_extract, List.extract_eq_take_drop]
theorem starts_eq (a b : Str) : Txt.startswith a b = b.cps.toList.isPrefixOf a.cps.toList := by
  unfold Txt.startswith
  rw [subAt_eq, List.drop_zero]
  rw [Bool.eq_iff_iff, Bool.and_eq_true, decide_eq_true_iff, beq_iff_eq, List.isPrefixOf_iff_prefix, List.prefix_iff_eq_take]
  have hl : b.length = b.cps.toList.length := by simp [PySem.Str.length]
  have hl' : a.length = a.cps.toList.length := by simp [PySem.Str.length]
  rw [hl, hl']
  constructor
  · rintro ⟨_, h⟩; exact h.symm
  · intro h
    refine ⟨?_, h.symm⟩
    have := congrArg List.length h
    rw [List.length_take] at this
    omega
theorem mt_starts : MtM X "str.startswith" rStarts := by
  intro pins s σ H x vs v us Q I rx rv h
  obtain ⟨a, b, rfl, rfl, q⟩ := h
  obtain ⟨t, rfl⟩ := rx
  obtain ⟨u, rfl, t', rfl⟩ := rv.one
  exact SC.startswith ⟨.bl _, H, I, rfl, by rw [starts_eq]; exact q⟩
/-! ### isinstance(x, T) -/
def rIsi (K : PySem.W.Frag) : List V → Hp → VK → Prop := fun vs H Q => ∃ x c t b, vs = [x, .ty c] ∧ TyOf K H x t ∧ PySem.W.kitOne K t (.type c) = some b ∧ Q (.bl b) H
theorem call_isi : CallR X (.builtin "isinstance") (rIsi X.K) := by
  intro pins s σ H xs us Q I rv h
  obtain ⟨x, c, t, b, rfl, ty, e, q⟩ := h
  obtain ⟨u, w', rfl, r1, r2⟩ := vals2 rv
  have r2 : w' = Value.type c := r2
  subst r2
  exact isinst_ok I r1 ty e fun tk => ⟨.bl b, H, I.tok _, rfl, q⟩
/-! ### int(text) -/
theorem call_intS : CallR X (.type "int") (fun xs H Q => ∃ z n, xs = [.str z] ∧ PySem.intText? z = some n ∧ z.length ≤ 640 ∧ Q (.int n) H) := by
  intro pins s σ H xs us Q I rv h
  obtain ⟨z, n, rfl, e, hz, q⟩ := h
  obtain ⟨u, rfl, t, rfl⟩ := vals1 rv
  exact PySem.W.KIN.call_text e hz ⟨.int n, H, I.tok _, ⟨_, rfl⟩, q⟩
end
end L2

end
section
set_option Elab.async false
set_option linter.all false
set_option maxRecDepth 100000
namespace L2
open PySem PySem.Spec PyProof.Rows

/-! ### data that is read whole -/
mutual
inductive Rep (K : PySem.W.Frag) (H : Hp) : V → PyData → Prop
  | non : Rep K H .non .none
  | bl (b) : Rep K H (.bl b) (.bool b)
  | int (i) : Rep K H (.int i) (.int i)
  | str (x) : Rep K H (.str x) (.str x)
  | lst {a xs ds} : SqL K H a xs → Reps K H xs ds → Rep K H (.ref a) (.list ds)
  | tup {a xs ds} : SqT K H a xs → Reps K H xs ds → Rep K H (.ref a) (.tuple ds)
inductive Reps (K : PySem.W.Frag) (H : Hp) : List V → List PyData → Prop
  | nil : Reps K H [] []
  | cons {x xs d ds} : Rep K H x d → Reps K H xs ds → Reps K H (x :: xs) (d :: ds)
end
section
variable {X : Cx} {pins : List (Addr × Obj)} {σ : St} {H : Hp} {s : Shared}
mutual
theorem Rep.reads (I : Inv X pins σ H s) : ∀ {x : V} {d : PyData}, Rep X.K H x d → ∀ u, RelV x u → ∃ as, Reads s.heap u d as
  | _, _, .non, u, r => by cases r; exact ⟨_, .none⟩
  | _, _, .bl b, u, r => by cases r; exact ⟨_, .bool b⟩
  | _, _, .int i, u, r => by obtain ⟨t, rfl⟩ := r; exact ⟨_, .int i t⟩
  | _, _, .str x, u, r => by obtain ⟨t, rfl⟩ := r; exact ⟨_, .str x t⟩
  | _, _, .lst hq hs, u, r => by
    cases r
    obtain ⟨its, rv, ⟨o, n, e, hc, hd, hdat⟩, _⟩ := I.list hq
    obtain ⟨as, ra⟩ := Reps.reads I hs its rv
    exact ⟨_, .list e hc hdat (by simpa using ra)⟩
  | _, _, .tup hq hs, u, r => by
    cases r
    obtain ⟨its, rv, ⟨o, e, hc, n, hdat⟩, _⟩ := I.tuple hq
    obtain ⟨as, ra⟩ := Reps.reads I hs its rv
    exact ⟨_, .tuple e hc hdat (by simpa using ra)⟩
theorem Reps.reads (I : Inv X pins σ H s) : ∀ {xs : List V} {ds : List PyData}, Reps X.K H xs ds → ∀ us, Vals xs us → ∃ as, ReadsAll s.heap us ds as
  | _, _, .nil, us, r => by cases r; exact ⟨_, .nil⟩
  | _, _, .cons h t, us, r => by
    cases r with
    | cons r1 r2 =>
      obtain ⟨as, ra⟩ := Rep.reads I h _ r1
      obtain ⟨bs, rb⟩ := Reps.reads I t _ r2
      exact ⟨_, .cons ra rb⟩
end
end
section
variable {X : Cx}
def rEqD (K : PySem.W.Frag) : R2 := fun x y H Q => ∃ d e, Rep K H x d ∧ Rep K H y e ∧ SeqAt.shaped d = true ∧ SeqAt.shaped e = true ∧ Q (.bl (PyData.eqv d e)) H
def rNeD (K : PySem.W.Frag) : R2 := fun x y H Q => ∃ d e, Rep K H x d ∧ Rep K H y e ∧ SeqAt.shaped d = true ∧ SeqAt.shaped e = true ∧ Q (.bl (!PyData.eqv d e)) H
theorem op_eqD (hu : X.A.units + 64 < cLine) : OpR X (compareOp .Eq) (rEqD X.K) := by
  intro pins s σ H x y v u Q I rx ry h
  obtain ⟨d, e, hd, he, sd, se, q⟩ := h
  obtain ⟨as, ra⟩ := hd.reads I v rx
  obtain ⟨bs, rb⟩ := he.reads I u ry
  exact eq_dataH ra rb sd se hu ⟨.bl _, H, I, rfl, q⟩
/-! ### a def of the text, called by its name -/
structure Own (P : Program) (w : World) (K : PySem.W.Frag) (mg : Str → Option Value) (base : Heap) (k : Nat) (x : Str) (ps : List Str) (sp : Sp) : Prop where
  ex : ∃ f fd, FnOk P w K mg base CX0 k f fd ps sp ∧ mg x = some (.ref f) ∧ PySem.W.keepIn K (.ref f) = true ∧ Binds K fd ps []
variable {k : Nat} {x : Str} {ps : List Str} {sp : Sp} {p pos : Pos} {e : Expr} {es : List Expr} {t : TA}
theorem pe_own (F : Own X.prog X.w X.K X.mg X.base k x ps sp) (hr : Room k X.A) (ha : PA X (e :: es) t) (hg : Gl X x := by rfl)
    (hdb : (x == ("__debug__" : Str)) = false := by decide) (he : starEach (e :: es) X.env = (false, eval e X.env) :: starEach es X.env := by rfl) (hpl : (backTo pos (starEach es X.env)).any (·.1) = false := by rfl) :
    PE X (.Call (.Name x p) (e :: es) [] pos) (tCall sp [] E0 t) := by
  obtain ⟨f, fd, G, hm, hk, hb⟩ := F.ex
  exact pe_call G hr hg hm hk hb .nil pass0 ha hdb he hpl
/-! ### what is walked: a list or a text -/
theorem PI.or {tg iter : Expr} {a b : TI} (h : PI X tg iter a) (h' : PI X tg iter b) : PI X tg iter (fun σ H R => a σ H R ∨ b σ H R) := by
  intro pins s σ H R I q
  rcases q with q | q
  · exact h pins s σ H R I q
  · exact h' pins s σ H R I q
/-! ### both kinds of an operation -/
theorem op_addA : OpR X (binaryOp .Add) (fun x y H Q => rI0 (fun i j => .int (i + j)) x y H Q ∨ (∃ i j, x = .str i ∧ y = .str j ∧ i.length + j.length ≤ sizeLine ∧ Q (.str (i ++ j)) H) ∨ rCat x y H Q) := op_add.or (op_add_str.or op_cat)
theorem op_mulA : OpR X (binaryOp .Mult) (fun x y H Q => rI CMul (fun i j => .int (i * j)) x y H Q ∨ (∃ a k, x = .str a ∧ y = .int k ∧ (-(2 ^ 62) ≤ k ∧ k < 2 ^ 62) ∧ a.length * k.toNat ≤ sizeLine ∧ Q (.str (repS a k.toNat)) H) ∨ rRep x y H Q) := op_mul.or (op_mul_str.or op_rep)
theorem call_intA : CallR X (.type "int") (fun xs H Q => ((∃ i, xs = [.int i] ∧ Q (.int i) H) ∨ ∃ k, xs = [.bl k] ∧ Q (.int (if k then 1 else 0)) H) ∨ ∃ z n, xs = [.str z] ∧ PySem.intText? z = some n ∧ z.length ≤ 640 ∧ Q (.int n) H) := call_int1.or call_intS
theorem sl_any : SlR X (fun x lo hi H Q => rSlS x lo hi H Q ∨ rSlL X.K x lo hi H Q) := sl_str.or sl_list
end
/-! ### from a def to its name -/
theorem Own.mk' {P : Program} {w : World} {K : PySem.W.Frag} {mg : Str → Option Value} {base : Heap} {k : Nat} {x : Str} {ps : List Str} {sp : Sp} {f : Addr} {fd : FuncData} (G : FnOk P w K mg base CX0 k f fd ps sp) (hm : mg x = some (.ref f)) (hk : PySem.W.keepIn K (.ref f) = true) (hb : Binds K fd ps []) : Own P w K mg base k x ps sp := ⟨f, fd, G, hm, hk, hb⟩
end L2

end
section
set_option Elab.async false
set_option linter.all false
set_option maxRecDepth 100000
namespace L2
open PySem PySem.Spec PyProof.Rows
/-! ### isinstance, by cases -/
def isiF : V → String → Option Bool
  | .int _, c => if c = "int" then some true else if c = "bool" ∨ c = "str" ∨ c = "tuple" ∨ c = "list" then some false else none
  | .bl _, c => if c = "int" ∨ c = "bool" then some true else if c = "str" ∨ c = "tuple" ∨ c = "list" then some false else none
  | .str _, c => if c = "str" then some true else if c = "bool" ∨ c = "int" ∨ c = "tuple" ∨ c = "list" then some false else none
  | .non, c => if c = "str" ∨ c = "bool" ∨ c = "int" ∨ c = "tuple" ∨ c = "list" then some false else none
  | _, _ => none
def rIsiA : List V → Hp → VK → Prop := fun vs H Q => ∃ x c, vs = [x, .ty c] ∧
  ((∃ b, isiF x c = some b ∧ Q (.bl b) H) ∨ (∃ a xs, x = .ref a ∧ H a = some (.tup xs) ∧ (c = "tuple" ∧ Q (.bl true) H ∨ (c = "list" ∨ c = "str" ∨ c = "int") ∧ Q (.bl false) H)) ∨ (∃ a xs, x = .ref a ∧ H a = some (.lst xs) ∧ (c = "list" ∧ Q (.bl true) H ∨ (c = "tuple" ∨ c = "str" ∨ c = "int") ∧ Q (.bl false) H)))
theorem call_isiA {X : Cx} : CallR X (.builtin "isinstance") rIsiA := by
  intro pins s σ H xs us Q I rv h
  obtain ⟨x, c, rfl, h⟩ := h
  refine call_isi pins s σ H _ us Q I rv ?_
  rcases h with ⟨b, e, q⟩ | ⟨a, xs, rfl, ha, q⟩ | ⟨a, xs, rfl, ha, q⟩
  · cases x with
    | int i =>
      dsimp only [isiF] at e
      split at e
      · rename_i hc; subst hc; cases e; exact ⟨_, _, _, _, rfl, .int i, by rfl, q⟩
      · split at e
        · rename_i hc; cases e
          rcases hc with rfl | rfl | rfl | rfl <;> exact ⟨_, _, _, _, rfl, .int i, by rfl, q⟩
        · cases e
    | bl i =>
      dsimp only [isiF] at e
      split at e
      · rename_i hc; cases e; rcases hc with rfl | rfl <;> exact ⟨_, _, _, _, rfl, .bl i, by rfl, q⟩
      · split at e
        · rename_i hc; cases e
          rcases hc with rfl | rfl | rfl <;> exact ⟨_, _, _, _, rfl, .bl i, by rfl, q⟩
        · cases e
    | str i =>
      dsimp only [isiF] at e
      split at e
      · rename_i hc; subst hc; cases e; exact ⟨_, _, _, _, rfl, .str i, by rfl, q⟩
      · split at e
        · rename_i hc; cases e
          rcases hc with rfl | rfl | rfl | rfl <;> exact ⟨_, _, _, _, rfl, .str i, by rfl, q⟩
        · cases e
    | non =>
      dsimp only [isiF] at e
      split at e
      · rename_i hc; cases e
        rcases hc with rfl | rfl | rfl | rfl | rfl <;> exact ⟨_, _, _, _, rfl, .non, by rfl, q⟩
      · cases e
    | _ => cases e
  · rcases q with ⟨rfl, q⟩ | ⟨rfl | rfl | rfl, q⟩ <;> exact ⟨_, _, _, _, rfl, .tup ha, by rfl, q⟩
  · rcases q with ⟨rfl, q⟩ | ⟨rfl | rfl | rfl, q⟩ <;> exact ⟨_, _, _, _, rfl, .lst ha, by rfl, q⟩

/-! ### texts of 0 and 1 -/
def sg (b : Bool) : Nat := if b then 49 else 48
def enc (bs : List Bool) : Str := ⟨(bs.map sg).toArray⟩
theorem enc_len (bs : List Bool) : (enc bs).length = bs.length := by
  show ((bs.map sg).toArray).size = bs.length
  simp
theorem enc_append (a b : List Bool) : enc a ++ enc b = enc (a ++ b) := by
  show (⟨(a.map sg).toArray ++ (b.map sg).toArray⟩ : Str) = ⟨((a ++ b).map sg).toArray⟩
  simp
theorem sg_inj {a b : Bool} (h : sg a = sg b) : a = b := by
  revert h; cases a <;> cases b <;> decide
theorem enc_inj {a b : List Bool} (h : enc a = enc b) : a = b := by
  have h1 : a.map sg = b.map sg := by
    have := congrArg (fun z => z.cps.toList) h
    simpa [enc] using this
  clear h
  induction a generalizing b with
  | nil => cases b with
    | nil => rfl
    | cons y ys => simp at h1
  | cons x xs ih =>
    cases b with
    | nil => simp at h1
    | cons y ys =>
      simp only [List.map_cons, List.cons.injEq] at h1
      rw [sg_inj h1.1, ih h1.2]
theorem enc_eq {a b : List Bool} : (enc a = enc b) = (a = b) := propext ⟨enc_inj, fun h => by rw [h]⟩
theorem enc_nil : (Str.ofString "" : Str) = enc [] := by decide +kernel
theorem enc_0 : (Str.ofString "0" : Str) = enc [false] := by decide +kernel
theorem enc_1 : (Str.ofString "1" : Str) = enc [true] := by decide +kernel
theorem enc_01 : (Str.ofString "01" : Str) = enc [false, true] := by decide +kernel
theorem sign_enc (b : Bool) : (⟨#[sg b]⟩ : Str) = enc [b] := rfl
/-- what a text writes to the base two -/
def val (bs : List Bool) : Int := bs.foldl (fun n b => n * 2 + (if b then 1 else 0)) 0
theorem val_foldl (bs : List Bool) : ∀ a : Int, bs.foldl (fun n b => n * 2 + (if b then 1 else 0)) a = a * 2 ^ bs.length + val bs := by
  unfold val
  induction bs with
  | nil => intro a; simp
  | cons b bs ih =>
    intro a
    rw [List.foldl_cons, List.foldl_cons, ih, ih (0 * 2 + _), List.length_cons, Int.pow_succ]
    rw [Int.add_mul, Int.zero_mul, Int.zero_add, Int.mul_assoc, Int.mul_comm 2 (2 ^ bs.length)]
    omega
theorem val_append (a b : List Bool) : val (a ++ b) = val a * 2 ^ b.length + val b := by
  show (a ++ b).foldl _ 0 = _
  rw [List.foldl_append, val_foldl]
  rfl
theorem val_snoc (a : List Bool) (b : Bool) : val (a ++ [b]) = val a * 2 + (if b then 1 else 0) := by
  rw [val_append]
  cases b <;> simp [val]
theorem pow_pos' (n : Nat) : (0 : Int) < 2 ^ n := by
  induction n with
  | zero => decide
  | succ n ih => rw [Int.pow_succ]; omega
/-- the last k signs of a number's writing -/
def addr : Nat → Int → List Bool
  | 0, _ => []
  | k + 1, n => addr k (n / 2) ++ [decide (n % 2 = 1)]
theorem addr_len : ∀ (k : Nat) (n : Int), (addr k n).length = k
  | 0, _ => rfl
  | k + 1, n => by rw [addr, List.length_append, addr_len]; rfl
/-- the first k signs of a number, the least one first -/
def bitsBy : Nat → Int → List Bool
  | 0, _ => []
  | k + 1, c => decide (c % 2 = 1) :: bitsBy k (c / 2)
theorem bitsBy_len : ∀ (k : Nat) (n : Int), (bitsBy k n).length = k
  | 0, _ => rfl
  | k + 1, n => by rw [bitsBy, List.length_cons, bitsBy_len]
theorem bitsBy_snoc : ∀ (k : Nat) (n : Int), bitsBy (k + 1) n = bitsBy k n ++ [decide (n / 2 ^ k % 2 = 1)]
  | 0, n => by simp [bitsBy]
  | k + 1, n => by
    rw [bitsBy, bitsBy_snoc k (n / 2)]
    show decide (n % 2 = 1) :: (bitsBy k (n / 2) ++ [decide (n / 2 / 2 ^ k % 2 = 1)]) = (decide (n % 2 = 1) :: bitsBy k (n / 2)) ++ [decide (n / 2 ^ (k + 1) % 2 = 1)]
    rw [Int.ediv_ediv_of_nonneg (by omega), Int.pow_succ, Int.mul_comm (2 ^ k) 2]
    rfl
theorem item_01 (n : Int) : atI (enc [false, true]).cps.toList (n % 2) = some (sg (decide (n % 2 = 1))) := by
  have : n % 2 = 0 ∨ n % 2 = 1 := by omega
  rcases this with h | h <;> rw [h] <;> decide
theorem line_ge : 1000000 ≤ sizeLine := by decide
end L2

end
section
set_option Elab.async false
set_option linter.all false
set_option maxRecDepth 100000
namespace L2
open PySem PySem.Spec PyProof.Rows
/-! ### the built-ins names -/
theorem bt_len : bootBuiltins "len" = some (.builtin "len") := by decide +kernel
theorem bt_isinstance : bootBuiltins "isinstance" = some (.builtin "isinstance") := by decide +kernel
theorem bt_int : bootBuiltins "int" = some (.type "int") := by decide +kernel
theorem bt_str : bootBuiltins "str" = some (.type "str") := by decide +kernel
theorem bt_tuple : bootBuiltins "tuple" = some (.type "tuple") := by decide +kernel
theorem bt_bool : bootBuiltins "bool" = some (.type "bool") := by decide +kernel
theorem bt_ValueError : bootBuiltins "ValueError" = some (.type "ValueError") := by decide +kernel
/-! ### the operations' readings, by the values' kinds -/
def rAddA : R2 := fun x y H Q => match x, y with
  | .int i, .int j => Q (.int (i + j)) H
  | .str a, .str b => a.length + b.length ≤ sizeLine ∧ Q (.str (a ++ b)) H
  | .ref l, .ref b => ∃ xs zs, H l = some (.lst xs) ∧ H b = some (.lst zs) ∧ xs.length + zs.length ≤ sizeLine ∧ ∀ p, H p = none → Q (.ref p) (upd H p (.lst (xs ++ zs)))
  | _, _ => False
def rMulA : R2 := fun x y H Q => match x, y with
  | .int i, .int j => CMul i j ∧ Q (.int (i * j)) H
  | .str a, .int k => (-(2 ^ 62) ≤ k ∧ k < 2 ^ 62) ∧ a.length * k.toNat ≤ sizeLine ∧ Q (.str (repS a k.toNat)) H
  | .ref l, .int k => ∃ xs, H l = some (.lst xs) ∧ -(2 ^ 63) ≤ k ∧ k < 2 ^ 63 ∧ xs.length * k.toNat ≤ sizeLine ∧ ∀ p, H p = none → Q (.ref p) (upd H p (.lst (List.replicate k.toNat xs).flatten))
  | _, _ => False
def rI2 (C : Int → Int → Prop) (g : Int → Int → V) : R2 := fun x y H Q => match x, y with
  | .int i, .int j => C i j ∧ Q (g i j) H
  | _, _ => False
def rI3 (g : Int → Int → V) : R2 := fun x y H Q => match x, y with
  | .int i, .int j => Q (g i j) H
  | _, _ => False
def rSubI : R2 := rI3 fun i j => .int (i - j)
def rDivI : R2 := rI2 CDiv fun i j => .int (i / j)
def rModI : R2 := rI2 (fun _ j => 0 < j) fun i j => .int (i % j)
def rPowI : R2 := rI2 CPow fun i j => .int (i ^ j.toNat)
def rLt : R2 := rI3 fun i j => .bl (decide (i < j))
def rLe : R2 := rI3 fun i j => .bl (decide (i ≤ j))
def rGt : R2 := rI3 fun i j => .bl (decide (j < i))
def rGe : R2 := rI3 fun i j => .bl (decide (j ≤ i))
def rNegI : V → Hp → VK → Prop := fun x H Q => match x with
  | .int i => Q (.int (-i)) H
  | _ => False
def rIsN : R2 := fun x y H Q => y = .non ∧ Q (.bl (decide (x = .non))) H
def rNotN : R2 := fun x y H Q => y = .non ∧ Q (.bl (!decide (x = .non))) H
def rEqS : R2 := fun x y H Q => match x, y with
  | .int i, .int j => Q (.bl (decide (i = j))) H
  | .str a, .str b => Q (.bl (decide (a = b))) H
  | .bl a, .bl b => Q (.bl (decide (a = b))) H
  | .non, .non => Q (.bl true) H
  | .non, .int _ => Q (.bl false) H
  | .int _, .non => Q (.bl false) H
  | _, _ => False
def rNeS : R2 := fun x y H Q => match x, y with
  | .int i, .int j => Q (.bl (!decide (i = j))) H
  | .str a, .str b => Q (.bl (!decide (a = b))) H
  | .bl a, .bl b => Q (.bl (!decide (a = b))) H
  | .non, .non => Q (.bl false) H
  | .non, .int _ => Q (.bl true) H
  | .int _, .non => Q (.bl true) H
  | _, _ => False
def rLen (K : PySem.W.Frag) : List V → Hp → VK → Prop := fun vs H Q => match vs with
  | [.str z] => z.length ≤ sizeLine ∧ Q (.int z.length) H
  | [.ref p] => ∃ ys, (SqL K H p ys ∨ SqT K H p ys) ∧ Q (.int ys.length) H
  | _ => False
def rIxA (K : PySem.W.Frag) : R2 := fun x y H Q => match x, y with
  | .str z, .int i => z.length ≤ sizeLine ∧ ∃ c, atI z.cps.toList i = some c ∧ Q (.str ⟨#[c]⟩) H
  | .ref p, .int i => ∃ xs v, (SqL K H p xs ∨ SqT K H p xs) ∧ atI xs i = some v ∧ Q v H
  | _, _ => False
def rIntA : List V → Hp → VK → Prop := fun vs H Q => match vs with
  | [.int i] => Q (.int i) H
  | [.bl k] => Q (.int (if k then 1 else 0)) H
  | [.str z] => ∃ n, PySem.intText? z = some n ∧ z.length ≤ 640 ∧ Q (.int n) H
  | _ => False
def rMax2 : List V → Hp → VK → Prop := fun vs H Q => match vs with
  | [.int i, .int j] => Q (.int (if j > i then j else i)) H
  | _ => False
def rMin2 : List V → Hp → VK → Prop := fun vs H Q => match vs with
  | [.int i, .int j] => Q (.int (if j < i then j else i)) H
  | _ => False
def rStrI : List V → Hp → VK → Prop := fun vs H Q => match vs with
  | [.int i] => i.natAbs.log2 < 1920 ∧ Q (.str (toString i)) H
  | _ => False
def rListOf (K : PySem.W.Frag) : List V → Hp → VK → Prop := fun vs H Q => match vs with
  | [.ref p] => ∃ ys, (SqL K H p ys ∨ SqT K H p ys) ∧ ∀ l, H l = none → Q (.ref l) (upd H l (.lst ys))
  | _ => False
def isiO : HO → String → Option Bool
  | .tup _, c => if c = "tuple" then some true else if c = "list" ∨ c = "str" ∨ c = "int" then some false else none
  | .lst _, c => if c = "list" then some true else if c = "tuple" ∨ c = "str" ∨ c = "int" then some false else none
  | _, _ => none
def rIsi2 : List V → Hp → VK → Prop := fun vs H Q => match vs with
  | [.ref a, .ty c] => ∃ o b, H a = some o ∧ isiO o c = some b ∧ Q (.bl b) H
  | [x, .ty c] => ∃ b, isiF x c = some b ∧ Q (.bl b) H
  | _ => False
def rSlA (K : PySem.W.Frag) : V → Option Int → Option Int → Hp → VK → Prop := fun x lo hi H Q => match x with
  | .str z => z.length ≤ sizeLine ∧ Q (.str (cutS z lo hi)) H
  | .ref a => ∃ xs, SqL K H a xs ∧ ∀ p, H p = none → Q (.ref p) (upd H p (.lst (cutV xs lo hi)))
  | _ => False
def rStarts2 : V → List V → Hp → VK → Prop := fun x vs H Q => match x, vs with
  | .str a, [.str b] => Q (.bl (b.cps.toList.isPrefixOf a.cps.toList)) H
  | _, _ => False
def rEnds2 : V → List V → Hp → VK → Prop := fun x vs H Q => match x, vs with
  | .str a, [.str b] => Q (.bl (b.cps.toList.isSuffixOf a.cps.toList)) H
  | _, _ => False
section
variable {X : Cx}
theorem OpR.imp {f : Value → Value → Sem Value} {r r' : R2} (h : OpR X f r) (hi : ∀ x y H Q, r' x y H Q → r x y H Q) : OpR X f r' := fun pins s σ H x y v u Q I rx ry q => h pins s σ H x y v u Q I rx ry (hi x y H Q q)
theorem CallR.imp {f : Value} {r r' : List V → Hp → VK → Prop} (h : CallR X f r) (hi : ∀ vs H Q, r' vs H Q → r vs H Q) : CallR X f r' := fun pins s σ H vs us Q I rv q => h pins s σ H vs us Q I rv (hi vs H Q q)
theorem op_addB : OpR X (binaryOp .Add) rAddA := op_addA.imp fun x y H Q h => by
  unfold rAddA at h; split at h
  · exact .inl ⟨_, _, rfl, rfl, h⟩
  · exact .inr (.inl ⟨_, _, rfl, rfl, h⟩)
  · obtain ⟨xs, zs, h⟩ := h; exact .inr (.inr ⟨_, _, xs, zs, rfl, rfl, h⟩)
  · exact h.elim
theorem op_mulB : OpR X (binaryOp .Mult) rMulA := op_mulA.imp fun x y H Q h => by
  unfold rMulA at h; split at h
  · exact .inl ⟨_, _, rfl, rfl, h⟩
  · exact .inr (.inl ⟨_, _, rfl, rfl, h⟩)
  · obtain ⟨xs, h⟩ := h; exact .inr (.inr ⟨_, _, xs, rfl, rfl, h⟩)
  · exact h.elim
theorem rI2_imp {C : Int → Int → Prop} {g : Int → Int → V} (x y : V) (H : Hp) (Q : VK) (h : rI2 C g x y H Q) : rI C g x y H Q := by
  unfold rI2 at h; split at h
  · exact ⟨_, _, rfl, rfl, h⟩
  · exact h.elim
theorem rI3_imp {g : Int → Int → V} (x y : V) (H : Hp) (Q : VK) (h : rI3 g x y H Q) : rI0 g x y H Q := by
  unfold rI3 at h; split at h
  · exact ⟨_, _, rfl, rfl, h⟩
  · exact h.elim
theorem op_divB : OpR X (binaryOp .FloorDiv) rDivI := op_fdiv.imp rI2_imp
theorem op_modB : OpR X (binaryOp .Mod) rModI := op_mod.imp rI2_imp
theorem op_powB : OpR X (binaryOp .Pow) rPowI := op_pow.imp rI2_imp
theorem op_ltB : OpR X (compareOp .Lt) rLt := op_lt.imp rI3_imp
theorem op_leB : OpR X (compareOp .LtE) rLe := op_le.imp rI3_imp
theorem op_gtB : OpR X (compareOp .Gt) rGt := op_gt.imp rI3_imp
theorem op_isNB : OpR X (compareOp .Is) rIsN := op_isN
theorem op_eqB : OpR X (compareOp .Eq) rEqS := op_eq.imp fun x y H Q h => by
  unfold rEqS at h; split at h
  · exact ⟨rfl, by simpa using h⟩
  · exact ⟨rfl, by simpa using h⟩
  · exact ⟨rfl, by simpa using h⟩
  · exact ⟨rfl, by simpa using h⟩
  · exact ⟨rfl, by simpa using h⟩
  · exact ⟨rfl, by simpa using h⟩
  · exact h.elim
theorem op_neB : OpR X (compareOp .NotEq) rNeS := op_ne.imp fun x y H Q h => by
  unfold rNeS at h; split at h
  · exact ⟨rfl, by simpa using h⟩
  · exact ⟨rfl, by simpa using h⟩
  · exact ⟨rfl, by simpa using h⟩
  · exact ⟨rfl, by simpa using h⟩
  · exact ⟨rfl, by simpa using h⟩
  · exact ⟨rfl, by simpa using h⟩
  · exact h.elim
theorem call_lenB : CallR X (.builtin "len") (rLen X.K) := (call_len_seq.or call_len_str).imp fun vs H Q h => by
  unfold rLen at h; split at h
  · exact .inr ⟨_, rfl, h⟩
  · obtain ⟨ys, h⟩ := h; exact .inl ⟨_, ys, rfl, h⟩
  · exact h.elim
theorem ix_B : IxR X (rIxA X.K) := fun a b pins s σ H x y v u Q I rx ry h hs => by
  refine ix_seq a b pins s σ H x y v u Q I rx ry ?_ hs
  unfold rIxA at h; split at h
  · obtain ⟨h1, c, h2, h3⟩ := h; exact .inr (.inr ⟨_, _, c, rfl, rfl, h1, h2, h3⟩)
  · obtain ⟨xs, v, h1 | h1, h2, h3⟩ := h
    · exact .inl ⟨_, xs, _, v, rfl, rfl, h1, h2, h3⟩
    · exact .inr (.inl ⟨_, xs, _, v, rfl, rfl, h1, h2, h3⟩)
  · exact h.elim
theorem call_intB : CallR X (.type "int") rIntA := call_intA.imp fun vs H Q h => by
  unfold rIntA at h; split at h
  · exact .inl (.inl ⟨_, rfl, h⟩)
  · exact .inl (.inr ⟨_, rfl, h⟩)
  · obtain ⟨n, h⟩ := h; exact .inr ⟨_, n, rfl, h⟩
  · exact h.elim
theorem call_strB : CallR X (.type "str") rStrI := call_str_int.imp fun vs H Q h => by
  unfold rStrI at h; split at h
  · exact ⟨_, rfl, h⟩
  · exact h.elim
theorem call_isiB : CallR X (.builtin "isinstance") rIsi2 := call_isiA.imp fun vs H Q h => by
  unfold rIsi2 at h; split at h
  · rename_i a c
    obtain ⟨o, b, e, hi, q⟩ := h
    refine ⟨_, c, rfl, ?_⟩
    cases o with
    | tup xs =>
      dsimp only [isiO] at hi
      split at hi
      · rename_i hc; cases hi; exact .inr (.inl ⟨a, xs, rfl, e, .inl ⟨hc, q⟩⟩)
      · split at hi
        · rename_i hc; cases hi; exact .inr (.inl ⟨a, xs, rfl, e, .inr ⟨hc, q⟩⟩)
        · cases hi
    | lst xs =>
      dsimp only [isiO] at hi
      split at hi
      · rename_i hc; cases hi; exact .inr (.inr ⟨a, xs, rfl, e, .inl ⟨hc, q⟩⟩)
      · split at hi
        · rename_i hc; cases hi; exact .inr (.inr ⟨a, xs, rfl, e, .inr ⟨hc, q⟩⟩)
        · cases hi
    | _ => cases hi
  · obtain ⟨b, e, q⟩ := h; exact ⟨_, _, rfl, .inl ⟨b, e, q⟩⟩
  · exact h.elim
theorem sl_B : SlR X (rSlA X.K) := fun pins s σ H x v vl vu lo hi sl Q I rx hs pl pu h => by
  refine sl_any pins s σ H x v vl vu lo hi sl Q I rx hs pl pu ?_
  unfold rSlA at h; split at h
  · exact .inl ⟨_, rfl, h⟩
  · obtain ⟨xs, h⟩ := h; exact .inr ⟨_, xs, rfl, h⟩
  · exact h.elim
theorem mt_startsB : MtM X "str.startswith" rStarts2 := fun pins s σ H x vs v us Q I rx rv h => by
  refine mt_starts pins s σ H x vs v us Q I rx rv ?_
  unfold rStarts2 at h; split at h
  · exact ⟨_, _, rfl, rfl, h⟩
  · exact h.elim
end
/-! ### loops, from their reading -/
section
variable {D : Ends} {σ : St} {H : Hp} {g : TG} {tb : TS} {K : PySem.W.Frag}
/-- over range(n) -/
theorem tFor_rng1 {ta : TA} (n : Nat) (hn : n < 2 ^ 62) (Pv : Nat → St → Hp → Prop) (ht : ∀ R : List V → Hp → Prop, R [.int n] H → ta σ H R) (h0 : Pv 0 σ H)
    (hs : ∀ i σ H, i < n → Pv i σ H → g (.int i) σ H fun σ2 H2 => tb { D with nx := Pv (i + 1), ct := Pv (i + 1), bk := D.nx } σ2 H2) (hd : ∀ σ H, Pv n σ H → D.nx σ H) : tFor (iRng1 ta) g tb D σ H := by
  refine ht _ ⟨(n : Int), rfl, by omega, by omega, ?_⟩
  refine for_range (lo := 0) (n := (n : Int).toNat) Pv h0 (fun i σ H hi p => ?_) (by simpa using hd)
  rw [Int.zero_add]
  exact hs i σ H (by simpa using hi) p
/-- while -/
theorem tWhile_by {c : TT} (Pv : St → Hp → Prop) (μ : St → Hp → Nat) (h0 : Pv σ H)
    (hs : ∀ σ H, Pv σ H → ∃ b, (∀ R : Bool → Hp → Prop, R b H → c σ H R) ∧ if b = true then tb { D with nx := fun σ' H' => Pv σ' H' ∧ μ σ' H' < μ σ H, ct := fun σ' H' => Pv σ' H' ∧ μ σ' H' < μ σ H, bk := D.nx } σ H else D.nx σ H) : tWhile c tb D σ H := by
  refine ⟨fun m σ H => m = μ σ H ∧ Pv σ H, ⟨_, rfl, h0⟩, ?_⟩
  rintro m σ H ⟨rfl, p⟩
  obtain ⟨b, hc, h⟩ := hs σ H p
  refine hc _ ?_
  cases b with
  | true => exact ⟨_, fun σ' H' ⟨p', l⟩ => ⟨_, l, rfl, p'⟩, h⟩
  | false => exact h
end
end L2

end
section
set_option Elab.async false
set_option linter.all false
set_option maxRecDepth 100000
set_option maxHeartbeats 4000000
namespace L2
open PySem PySem.Spec
local macro_rules | `(tactic| walk_at "rd") => `(tactic| try simp only [tVar, tC, tOp, tUn, tSeq, tAsg, gName, tRet, tRetN, tIfS, tDrop, tNext, tCons, tNil, tCall, tCB, tTest, tB, tAnd, tOr, tNot, tAndV, tOrV, tNotV, tIf, tTup, tLst, tSl, tPart, tNoPart, tBM, tBM0, L2.start, rI2, rI3, rAddA, rMulA, rSubI, rDivI, rModI, rPowI, rNegI, rLt, rLe, rGt, rGe, rIsN, rNotN, rEqS, rNeS, rLen, rIxA, rIntA, rMax2, rMin2, rStrI, rListOf, rIsi2, isiF, isiO, rSlA, rStarts2, rEnds2, CDiv,
  List.map_cons, List.map_nil, List.length_cons, List.length_nil, List.replicate_succ, List.replicate_zero, List.cons_append, List.nil_append, List.append_nil, List.getElem?_cons_zero, List.getElem?_cons_succ, List.set_cons_zero, List.set_cons_succ, Option.some.injEq, V.int.injEq, V.str.injEq, V.bl.injEq, V.ref.injEq, V.ty.injEq, reduceCtorEq, exists_eq_left', exists_eq_left, exists_eq_right, exists_eq_right', exists_eq', exists_eq, exists_and_left, exists_and_right, false_and, and_false, true_and, and_true, exists_const, exists_false, false_or, or_false, List.cons.injEq, and_assoc, decide_eq_true_eq, decide_true, decide_false, Int.reduceLT, Int.reduceLE, Nat.reduceLT, Nat.reduceLeDiff, Nat.reduceSub, Nat.reduceAdd, Nat.sub_self, Nat.sub_zero, enc_eq, enc_nil, enc_0, enc_1, enc_01, enc_append, enc_len, Bool.not_true, Bool.not_false, Bool.false_eq_true, if_true, if_false, ↓reduceIte, String.reduceEq, or_true, true_or, Nat.one_mul, addr_len, bitsBy_len, List.length_append, List.length_replicate, List.length_map])
local macro_rules | `(tactic| walk_at "sz") => `(tactic| (have hline := line_ge; first | omega | (simp; omega)))
theorem tSeq_gen {t u : TS} {D : Ends} {σ : St} {H : Hp} (h : ∀ U : TS, U = u → t { D with nx := U D } σ H) : tSeq t u D σ H := h u rfl
def rb_number_of_1 (K : PySem.W.Frag) : TS :=
  (tAsg (tOp rAddA (tOp rMulA (tVar 1) (tC (.int 2))) (tCB rIntA (tCons (tVar 2) tNil))) (gName 1))
def rd_number_of (K : PySem.W.Frag) : TS :=
  (tSeq (tAsg (tC (.int 0)) (gName 1))
  (tSeq (tFor (iStr (tVar 0)) (gName 2) (rb_number_of_1 K))
  (tRet (tVar 1))))
def nm_number_of : List Str := ["text", "number", "sign"]
def sp_number_of (K : PySem.W.Frag) : Sp := fun vs H Q _ => ∃ bs, vs = [.str (enc bs)] ∧ bs.length ≤ 100 ∧ Q (.int (val bs)) H
def rb_address_of_1 (K : PySem.W.Frag) : TS :=
  (tSeq (tAsg (tOp rAddA (tCB rStrI (tCons (tOp rModI (tVar 3) (tC (.int 2))) tNil)) (tVar 2)) (gName 2))
  (tAsg (tOp rDivI (tVar 3) (tC (.int 2))) (gName 3)))
def rd_address_of (K : PySem.W.Frag) : TS :=
  (tSeq (tAsg (tC (.str (Str.ofString ""))) (gName 2))
  (tSeq (tAsg (tVar 0) (gName 3))
  (tSeq (tWhile (tTest (tOp rLt (tCB (rLen K) (tCons (tVar 2) tNil)) (tVar 1))) (rb_address_of_1 K))
  (tRet (tVar 2)))))
def nm_address_of : List Str := ["number", "size", "address", "rest"]
def sp_address_of (K : PySem.W.Frag) : Sp := fun vs H Q _ => ∃ (n k : Int), vs = [.int n, .int k] ∧ 0 ≤ n ∧ 0 ≤ k ∧ k ≤ 100 ∧ Q (.str (enc (addr k.toNat n))) H
def rd_span_of (K : PySem.W.Frag) : TS :=
  (tSeq (tAsg (tOp rSubI (tVar 1) (tCB (rLen K) (tCons (tVar 0) tNil))) (gName 2))
  (tRet (tTup (tCons (tCall (sp_number_of K) [] E0 (tCons (tOp rAddA (tVar 0) (tOp rMulA (tC (.str (Str.ofString "0"))) (tVar 2))) tNil)) (tCons (tCall (sp_number_of K) [] E0 (tCons (tOp rAddA (tVar 0) (tOp rMulA (tC (.str (Str.ofString "1"))) (tVar 2))) tNil)) tNil)))))
def nm_span_of : List Str := ["head", "size", "missing"]
def sp_span_of (K : PySem.W.Frag) : Sp := fun vs H Q _ => ∃ (bs : List Bool) (k : Int), vs = [.str (enc bs), .int k] ∧ bs.length ≤ k ∧ k ≤ 100 ∧ ∀ p, H p = none → Q (.ref p) (upd H p (.tup [.int (val bs * 2 ^ (k.toNat - bs.length)), .int (val bs * 2 ^ (k.toNat - bs.length) + 2 ^ (k.toNat - bs.length) - 1)]))
def rd_law_cell_at (K : PySem.W.Frag) : TS :=
  (tSeq (tIfS (tTest (tOp rLt (tVar 1) (tCB (rLen K) (tCons (tVar 0) tNil)))) (tRet (tOp (rIxA K) (tVar 0) (tVar 1))) tNext)
  (tRet (tC (.int 0))))
def nm_law_cell_at : List Str := ["script", "k"]
def cell (ns : List Int) (k : Int) : Int := ns.getD k.toNat 0
def sp_law_cell_at (K : PySem.W.Frag) : Sp := fun vs H Q _ => ∃ (a : Addr) (ns : List Int) (k : Int), vs = [.ref a, .int k] ∧ 0 ≤ k ∧ SqL K H a (ns.map V.int) ∧ Q (.int (cell ns k)) H
theorem len_law_cell_at {K vs H Q E} (h : sp_law_cell_at K vs H Q E) : vs.length = 2 := by obtain ⟨_, _, _, rfl, _⟩ := h; rfl
theorem rdok_law_cell_at {K vs H Q E} (h : sp_law_cell_at K vs H Q E) : rd_law_cell_at K { nx := fun _ H' => Q .non H', rt := Q } (start nm_law_cell_at vs) H := by
  obtain ⟨a, ns, k', rfl, hk0, hs, q⟩ := h
  obtain ⟨k, rfl⟩ := Int.eq_ofNat_of_zero_le hk0
  simp only [rd_law_cell_at, nm_law_cell_at]
  walk_at "rd"
  refine ⟨_, .inl hs, ?_⟩
  rw [List.length_map]
  split
  · rename_i h
    have hk : k < ns.length := by omega
    refine ⟨_, .inl hs, .int (cell ns k), atI_nat ?_, q⟩
    unfold cell
    simp [hk]
  · rename_i h
    have hk : ns.length ≤ k := by omega
    have : cell ns (k : Int) = 0 := by unfold cell; simp [hk]
    rw [this] at q
    exact q
theorem cell_app {K H Q E} {a : Addr} {ns : List Int} (hs : SqL K H a (ns.map V.int)) {k : Int} (hk : 0 ≤ k) (q : Q (.int (cell ns k)) H) : sp_law_cell_at K [.ref a, .int k] H Q E := ⟨a, ns, k, rfl, hk, hs, q⟩
def rd_law_whole (K : PySem.W.Frag) : TS :=
  (tRet (tAndV (tCB rIsi2 (tCons (tVar 0) (tCons (tC (.ty "int")) tNil))) (tNotV (tCB rIsi2 (tCons (tVar 0) (tCons (tC (.ty "bool")) tNil))))))
def nm_law_whole : List Str := ["found"]
def sp_law_whole (K : PySem.W.Frag) : Sp := fun vs H Q _ => match vs with
  | [.int _] => Q (.bl true) H
  | [.bl _] => Q (.bl false) H
  | [.non] => Q (.bl false) H
  | [.str _] => Q (.bl false) H
  | _ => False
theorem len_law_whole {K vs H Q E} (h : sp_law_whole K vs H Q E) : vs.length = 1 := by unfold sp_law_whole at h; split at h <;> first | rfl | exact h.elim
theorem rdok_law_whole {K vs H Q E} (h : sp_law_whole K vs H Q E) : rd_law_whole K { nx := fun _ H' => Q .non H', rt := Q } (start nm_law_whole vs) H := by
  unfold sp_law_whole at h
  simp only [rd_law_whole, nm_law_whole]
  split at h
  · walk_at "rd"; exact h
  · walk_at "rd"; exact h
  · walk_at "rd"; exact h
  · walk_at "rd"; exact h
  · exact h.elim
def rb_law_bits_by_1 (K : PySem.W.Frag) : TS :=
  (tSeq (tAsg (tOp rAddA (tVar 2) (tOp (rIxA K) (tC (.str (Str.ofString "01"))) (tOp rModI (tVar 0) (tC (.int 2))))) (gName 2))
  (tAsg (tOp rDivI (tVar 0) (tC (.int 2))) (gName 0)))
def rd_law_bits_by (K : PySem.W.Frag) : TS :=
  (tSeq (tAsg (tC (.str (Str.ofString ""))) (gName 2))
  (tSeq (tFor (iRng1 (tCons (tVar 1) tNil)) (gName 3) (rb_law_bits_by_1 K))
  (tRet (tVar 2))))
def nm_law_bits_by : List Str := ["cell", "size", "text", "k"]
def sp_law_bits_by (K : PySem.W.Frag) : Sp := fun vs H Q _ => ∃ (c k : Int), vs = [.int c, .int k] ∧ 0 ≤ k ∧ k ≤ 100 ∧ Q (.str (enc (bitsBy k.toNat c))) H
theorem len_law_bits_by {K vs H Q E} (h : sp_law_bits_by K vs H Q E) : vs.length = 2 := by obtain ⟨_, _, rfl, _⟩ := h; rfl
theorem rdok_law_bits_by {K vs H Q E} (h : sp_law_bits_by K vs H Q E) : rd_law_bits_by K { nx := fun _ H' => Q .non H', rt := Q } (start nm_law_bits_by vs) H := by
  obtain ⟨c, k', rfl, hk0, hk, q⟩ := h
  obtain ⟨k, rfl⟩ := Int.eq_ofNat_of_zero_le hk0
  rw [Int.toNat_natCast] at q
  simp only [rd_law_bits_by, nm_law_bits_by]
  walk_at "rd"
  refine tFor_rng1 k (by omega) (fun i σ H' => H' = H ∧ ∃ o, σ = [some (.int (c / 2 ^ i)), some (.int k), some (.str (enc (bitsBy i c))), o]) ?_ ⟨rfl, none, by simp [bitsBy]⟩ ?_ ?_
  · intro R h; walk_at "rd"; exact h
  · rintro i σ H' hi ⟨rfl, o, rfl⟩
    simp only [rb_law_bits_by_1]
    walk_at "rd"
    refine ⟨by walk_at "sz", _, item_01 _, ?_⟩
    rw [sign_enc]
    walk_at "rd"
    refine ⟨by walk_at "sz", ?_, ?_⟩
    · rw [Int.ediv_ediv_of_nonneg (Int.le_of_lt (pow_pos' i)), ← Int.pow_succ]
    · rw [bitsBy_snoc]
  · rintro σ H' ⟨rfl, o, rfl⟩
    walk_at "rd"
    exact q
def rb_law_text_1 (K : PySem.W.Frag) : TS :=
  (tSeq (tAsg (tOp rAddA (tOp (rIxA K) (tC (.str (Str.ofString "01"))) (tOp rModI (tVar 0) (tC (.int 2)))) (tVar 2)) (gName 2))
  (tAsg (tOp rDivI (tVar 0) (tC (.int 2))) (gName 0)))
def rd_law_text (K : PySem.W.Frag) : TS :=
  (tSeq (tAsg (tC (.str (Str.ofString ""))) (gName 2))
  (tSeq (tFor (iRng1 (tCons (tVar 1) tNil)) (gName 3) (rb_law_text_1 K))
  (tRet (tVar 2))))
def nm_law_text : List Str := ["number", "size", "text", "k"]
def sp_law_text (K : PySem.W.Frag) : Sp := fun vs H Q _ => ∃ (n k : Int), vs = [.int n, .int k] ∧ 0 ≤ k ∧ k ≤ 100 ∧ Q (.str (enc (addr k.toNat n))) H
def rb_law_many_1 (K : PySem.W.Frag) : TS :=
  (tAsg (tOp rAddA (tVar 1) (tVar 1)) (gName 1))
def rd_law_many (K : PySem.W.Frag) : TS :=
  (tSeq (tAsg (tC (.int 1)) (gName 1))
  (tSeq (tFor (iRng1 (tCons (tVar 0) tNil)) (gName 2) (rb_law_many_1 K))
  (tRet (tVar 1))))
def nm_law_many : List Str := ["size", "total", "k"]
def sp_law_many (K : PySem.W.Frag) : Sp := fun vs H Q _ => ∃ (k : Int), vs = [.int k] ∧ 0 ≤ k ∧ k ≤ 100 ∧ Q (.int (2 ^ k.toNat)) H
def rb_law_number_1 (K : PySem.W.Frag) : TS :=
  (tAsg (tOp rAddA (tOp rAddA (tVar 1) (tVar 1)) (tCB rIntA (tCons (tOp rEqS (tVar 2) (tC (.str (Str.ofString "1")))) tNil))) (gName 1))
def rd_law_number (K : PySem.W.Frag) : TS :=
  (tSeq (tAsg (tC (.int 0)) (gName 1))
  (tSeq (tFor (iStr (tVar 0)) (gName 2) (rb_law_number_1 K))
  (tRet (tVar 1))))
def nm_law_number : List Str := ["text", "total", "sign"]
def sp_law_number (K : PySem.W.Frag) : Sp := fun vs H Q _ => ∃ bs, vs = [.str (enc bs)] ∧ Q (.int (val bs)) H
end L2

end
section
set_option Elab.async false
set_option linter.all false
set_option maxRecDepth 100000
namespace L2
open PySem PySem.Spec PyProof.Rows

/-! ### a comprehension's block -/
def cxComp (X : Cx) (x : Str) (js : List (Nat × Str)) (scope : Scope) (cl : List (Str × Addr)) (C : Addr) (s2 : Shared) (H2 : Hp) (fp : List Addr) : Cx where
  prog := X.prog
  w := X.w
  K := X.K
  mg := X.mg
  base := X.base
  A := X.A
  N := x :: js.map (·.2)
  s₀ := s2
  H₀ := H2
  env := compEnvC scope cl C X.env
  outer := X.stack
  stack := X.stack
  ex := fp
  fn := fun _ => false
  calm := X.calm
  pn := []
  xe := fun _ _ => False
/-- what the block's scope is to be like -/
structure CompSc (X : Cx) (x : Str) (js : List (Nat × Str)) (scope : Scope) (cl : List (Str × Addr)) : Prop where
  clos : closureFor scope X.env = pure cl
  nocell : ∀ y ∈ scope.names, y.2 ≠ .cell
  kind : scope.kind = .function
  names : ∀ y ∈ scope.names, y.2 = .local → scope.names.lookup y.1 = some .local
  own : scope.names.lookup x = some .local
  cells : ∀ y c, cl.lookup y = some c → X.env.cells.lookup y = some c
  has : ∀ y, ((relabel scope X.env).names.lookup y = some .cell ∨ (relabel scope X.env).names.lookup y = some .free) → ∃ c, cl.lookup y = some c
  nd : (x :: js.map (·.2)).Nodup
  js : ∀ p ∈ js, X.N[p.1]? = some p.2 ∧ X.env.kindOf p.2 = some .cell ∧ (relabel scope X.env).names.lookup p.2 = some .cell ∧ ∃ c, cl.lookup p.2 = some c
/-- a block that captures nothing -/
theorem CompSc.plain {X : Cx} {x : Str} {scope : Scope} (hl : ∀ y ∈ scope.names, y.2 = .local ∨ y.2 = .globalImplicit) (hk : scope.kind = .function) (hn : ∀ y ∈ scope.names, y.2 = .local → scope.names.lookup y.1 = some .local) (own : scope.names.lookup x = some .local) : CompSc X x [] scope [] := by
  have nf : ∀ y ∈ scope.names, y.2 ≠ .free := fun y hy e => by rcases hl y hy with h | h <;> rw [h] at e <;> cases e
  have mem : ∀ (l : List (Str × NameKind)) (y : Str) (k : NameKind), l.lookup y = some k → ∃ z ∈ l, z.2 = k := by
    intro l
    induction l with
    | nil => intro y k h; simp at h
    | cons z r ih =>
      intro y k h
      rw [List.lookup_cons] at h
      cases e : y == z.1 with
      | true => rw [e] at h; exact ⟨z, List.mem_cons_self, Option.some.inj h⟩
      | false =>
        rw [e] at h
        obtain ⟨q, hq, e'⟩ := ih y k h
        exact ⟨q, List.mem_cons_of_mem _ hq, e'⟩
  have er : (relabel scope X.env).names = scope.names := by
    unfold relabel
    exact map_eq_self fun y hy => by
      have : (y.2 == NameKind.free) = false := by simpa using nf y hy
      simp [this]
  refine ⟨closureFor_none nf, fun y hy e => ?_, hk, hn, own, fun y c h => by simp at h, fun y h => ?_, by simp, fun p hp => by simp at hp⟩
  · rcases hl y hy with h | h <;> rw [h] at e <;> cases e
  · rw [er] at h
    rcases h with h | h
    · obtain ⟨z, hz, e⟩ := mem _ _ _ h
      rcases hl z hz with h | h <;> rw [h] at e <;> cases e
    · obtain ⟨z, hz, e⟩ := mem _ _ _ h
      exact absurd e (nf z hz)
/-- the values of the captured names -/
def capt (js : List (Nat × Str)) (σ : St) : St := js.map fun p => (σ[p.1]?).getD none
section
variable {X : Cx} {pins : List (Addr × Obj)} {σ : St} {H2 : Hp} {s2 : Shared} {x : Str} {js : List (Nat × Str)} {scope : Scope} {cl : List (Str × Addr)} {fp : List Addr} {J : It} {it : Addr} {tn : Nat → Heap → Prop} {tg : Expr}
theorem comp_ok {C : Addr} (I : Inv X pins σ H2 s2) (S : CompSc X x js scope cl) (T : Turn X.prog X.w X.K tg J fp it tn) (h0 : tn 0 s2.heap) (hf : ∀ b ∈ fp, FpOk X pins H2 b) (hC : s2.heap.objs.size ≤ C) : (cxComp X x js scope cl C s2 H2 fp).Ok where
  mod := I.ok.mod
  kind := S.kind
  glob := I.ok.glob
  blt := I.ok.blt
  above := hC
  inj := fun y z c h1 h2 => I.ok.inj y z c (S.cells y c h1) (S.cells z c h2)
  has := fun y hy => S.has y hy
  cab := fun y c h _ => absurd h (by simp [cxComp])
  hd := I.ok.hd
  frames := I.ok.frames
  stk := .inl rfl
  exf := fun b hb => ⟨fun e => by
    obtain ⟨o, ho, _⟩ := T.obj 0 _ h0 b hb
    have h2 : b = C := e
    exact absurd (Heap.lt_size ho) (Nat.not_lt.mpr (h2 ▸ hC)), fun y c h => (hf b hb).2.2.2.2.1 y c (S.cells y c h)⟩
  bs := I.bs
  bsz := Nat.le_trans I.ok.bsz I.sz
  noex := fun b o e hb => by
    rcases (hf b hb).2.2.2.1 with h | h
    · exact I.ok.noex b o e h
    · exact absurd (Heap.lt_size (I.ok.bs b o e).1) (Nat.not_lt.mpr h)
  exfs := fun b hb hs => (List.mem_cons.mp (I.stkSub b hs)).elim (hf b hb).2.1 (hf b hb).2.2.1
  funs := I.stack
  frf := I.stkFree
/-- at the block's entry -/
theorem comp_start {h1 : Heap} {tk : Nat} (I : Inv X pins σ H2 s2) (S : CompSc X x js scope cl) (T : Turn X.prog X.w X.K tg J fp it tn) (h0 : tn 0 s2.heap) (hf : ∀ b ∈ fp, FpOk X pins H2 b)
    (hl : h1.get? s2.heap.objs.size = some { cls := .type "list", data := .seq #[] 0 }) (hns : h1.Ns (s2.heap.objs.size + 1) (fun _ => none)) (hk : ∀ b o, s2.heap.get? b = some o → h1.get? b = some o) :
    Inv (cxComp X x js scope cl (s2.heap.objs.size + 1) s2 H2 fp) [] (none :: capt js σ) (upd H2 s2.heap.objs.size (.lst [])) { s2 with heap := h1, toks := tk } := by
  have hfr : ∀ a, s2.heap.objs.size ≤ a → H2 a = none := fun a ha => I.hok.fresh ha
  refine ⟨comp_ok I S T h0 hf (Nat.le_succ _), rfl, I.bare, Un.laid hk (Nat.le_refl _) (hfr _ (Nat.le_refl _)), ⟨_, hns, fun i y v e1 e2 e3 => ?_⟩, fun y c h => ?_, ?_, fun y c h => ?_, fun p hp => absurd hp (by simp [cxComp]), ?_, ?_⟩
  · -- a captured name
    cases i with
    | zero => simp at e2
    | succ i =>
      have e1 : (js.map (·.2))[i]? = some y := by simpa [cxComp] using e1
      have e2 : (capt js σ)[i]? = some (some v) := by simpa using e2
      rw [List.getElem?_map] at e1
      unfold capt at e2
      rw [List.getElem?_map] at e2
      cases ej : js[i]? with
      | none => rw [ej] at e1; cases e1
      | some p =>
        rw [ej] at e1 e2
        have e1 : p.2 = y := Option.some.inj e1
        have e2 : (σ[p.1]?).getD none = some v := Option.some.inj e2
        obtain ⟨q1, q2, q3, c, q4⟩ := S.js p (List.mem_of_getElem? ej)
        have e4 : σ[p.1]? = some (some v) := by
          cases es : σ[p.1]? with
          | none => rw [es] at e2; cases e2
          | some o => rw [es] at e2; exact congrArg some e2
        obtain ⟨m, _, hloc⟩ := I.loc
        subst e1
        obtain ⟨u, ru, lk⟩ := hloc p.1 p.2 v q1 e4 (.inr (.inl q2))
        rcases lk with ⟨k1, _⟩ | ⟨_, c', k2, k3⟩
        · rw [q2] at k1; cases k1
        · have : c' = c := by rw [S.cells _ _ q4] at k2; exact (Option.some.inj k2).symm
          subst this
          obtain ⟨o, ho, hd⟩ := k3
          exact ⟨u, ru, .inr ⟨.inl q3, c', q4, o, hk _ o ho, hd⟩⟩
  · obtain ⟨v, o, ho, hd⟩ := I.cell y c (S.cells y c h)
    exact ⟨v, o, hk _ o ho, hd⟩
  · show upd H2 s2.heap.objs.size (.lst []) (s2.heap.objs.size + 1) = none
    rw [upd_ne (Nat.succ_ne_self _)]; exact hfr _ (Nat.le_succ _)
  · obtain ⟨v, o, ho, hd⟩ := I.cell y c (S.cells y c h)
    rw [upd_ne (Nat.ne_of_lt (Heap.lt_size ho))]
    exact I.freeC y c (S.cells y c h)
  · exact I.hok.laid hk (Nat.le_refl _) ⟨Nat.zero_le _, [], 0, .nil, hl⟩
  · simp [cxComp, capt]
end
/-- the tests of a comprehension (none or one) -/
def tAlways : TT := fun _ H Q => Q true H
inductive PIfs (Y : Cx) : List Expr → TT → Prop
  | nil : PIfs Y [] tAlways
  | one {c : Expr} {t : TT} : PT Y c t → PIfs Y [c] t
/-- the loop of a comprehension with one clause, by an invariant with a measure -/
theorem comp_loop {prog : Program} {w : World} {A : Around} {R : Result → Shared → Prop} {s : Shared} {elt tg iter : Expr} {ifs : List Expr} {scope : Scope} {pos : Pos} {it acc : Value} {cenv : Env} (Z : Nat → Shared → Prop)
    (turn : ∀ k s1, Z k s1 → wpAny (model prog w) A (pyNext it) (fun r s2 => match r with
      | none => R (.ok .next) s2
      | some v => wpAny (model prog w) A (letOwnedTupleGo tg it v) (fun _ s3 => wpAny (model prog w) A (assign tg cenv v) (fun _ s4 =>
          wpAny (model prog w) A (forIn ifs true fun c r => if r = true then do let ok ← isTrue c cenv (eval c cenv); pure (ForInStep.yield ok) else pure (ForInStep.yield r)) (fun ok s5 =>
            if ok = true then wpAny (model prog w) A (eval elt cenv) (fun y s6 =>
              wpAny (model prog w) A (call (.builtin "list.append") [acc, y]) (fun _ s7 => ∃ j, j < k ∧ Z j s7) (notedBy (model prog w) A cenv fun e s' => R (.error e) s') s6) (notedBy (model prog w) A cenv fun e s' => R (.error e) s') s5
            else ∃ j, j < k ∧ Z j s5) (notedBy (model prog w) A cenv fun e s' => R (.error e) s') s4) (notedBy (model prog w) A cenv fun e s' => R (.error e) s') s3) (notedBy (model prog w) A cenv fun e s' => R (.error e) s') s2)
        (notedBy (model prog w) A cenv fun e s' => R (.error e) s') s1) (k0 : Nat) (z0 : Z k0 s) :
    codeAny (model prog w) A (.compLoop (.ListComp elt [⟨tg, iter, ifs, 0⟩] scope pos) 0 it acc cenv) R s := by
  refine codeAny_loop (by rfl) Z (fun k s1 z1 => ?_) k0 z0
  show wpAny _ A ((compTurn (.ListComp elt [⟨tg, iter, ifs, 0⟩] scope pos) 0 it acc cenv).onRaise (fun y => do noteFrame y cenv; theTreesLotGoes y)) _ _ s1
  refine wpAny_noted ?_
  rw [compTurn_list]
  refine wpAny_bind (wpAny_standAt (wpAny_bind (thn (turn k s1 z1) fun r s2 h2 => ?_)))
  cases r with
  | none => exact wpAny_pure h2
  | some v =>
    refine wpAny_bind (thn h2 fun _ s3 h3 => wpAny_bind (thn h3 fun _ s4 h4 => wpAny_bind (thn h4 fun ok s5 h5 => ?_)))
    cases ok with
    | false => exact wpAny_pure ⟨rfl, h5⟩
    | true => exact wpAny_bind (wpAny_bind (thn h5 fun y s6 h6 => wpAny_bind (thn h6 fun _ s7 h7 => wpAny_pure (wpAny_pure ⟨rfl, h7⟩))))
/-- a list by a comprehension -/
def tComp (js : List (Nat × Str)) (wi : TI) (ti : TT) (te : TE) : TE := fun σ H Q => wi σ H fun J H1 => ∀ l, H1 l = none → ∃ W : Nat → Nat → List V → Hp → Prop, (∃ m, W 0 m [] (upd H1 l (.lst []))) ∧
  ∀ i m ys H, W i m ys H → (J.stop i H ∧ Q (.ref l) H) ∨ (J.go i H ∧ ∀ v H', J.yld i H v H' → ti (some v :: capt js σ) H' fun b H2 =>
    if b = true then te (some v :: capt js σ) H2 fun y H3 => ∃ m', m' < m ∧ H3 l = some (.lst ys) ∧ ys.length < sizeLine ∧ W (i + 1) m' (ys ++ [y]) (upd H3 l (.lst (ys ++ [y]))) else ∃ m', m' < m ∧ W (i + 1) m' ys H2)
section
variable {X : Cx} {pins : List (Addr × Obj)} {σ : St} {H2 : Hp} {s2 : Shared} {x : Str} {px : Pos} {js : List (Nat × Str)} {scope : Scope} {cl : List (Str × Addr)} {fp : List Addr} {J : It} {it : Addr} {tn : Nat → Heap → Prop} {elt iter : Expr} {ifs : List Expr} {pos : Pos}
theorem comp_block {ti : TT} {te : TE} {Q : VK} {E : Value → Shared → Prop} {RR : Value → Addr → Result → Shared → Prop} (I : Inv X pins σ H2 s2) (hc : X.calm = true) (S : CompSc X x js scope cl) (T : Turn X.prog X.w X.K (.Name x px) J fp it tn) (h0 : tn 0 s2.heap) (hf : ∀ b ∈ fp, FpOk X pins H2 b)
    (he : ∀ Y, Y = cxComp X x js scope cl (s2.heap.objs.size + 1) s2 H2 fp → PE Y elt te) (hi : ∀ Y, Y = cxComp X x js scope cl (s2.heap.objs.size + 1) s2 H2 fp → PIfs Y ifs ti)
    (W : Nat → Nat → List V → Hp → Prop) (w0 : ∃ m, W 0 m [] (upd H2 s2.heap.objs.size (.lst [])))
    (turn : ∀ i m ys H, W i m ys H → (J.stop i H ∧ Q (.ref s2.heap.objs.size) H) ∨ (J.go i H ∧ ∀ v H', J.yld i H v H' → ti (some v :: capt js σ) H' fun b H2 =>
      if b = true then te (some v :: capt js σ) H2 fun y H3 => ∃ m', m' < m ∧ H3 s2.heap.objs.size = some (.lst ys) ∧ ys.length < sizeLine ∧ W (i + 1) m' (ys ++ [y]) (upd H3 s2.heap.objs.size (.lst (ys ++ [y]))) else ∃ m', m' < m ∧ W (i + 1) m' ys H2))
    (hRR : ∀ C H' s', Inv X pins σ H' s' → FpOk X pins H' C → (∃ m, s'.heap.Ns C m) → Q (.ref s2.heap.objs.size) H' → RR (.ref s2.heap.objs.size) C (.ok .next) s') :
    wpAny (model X.prog X.w) X.A (newList []) (fun acc s₃ => wpAny (model X.prog X.w) X.A (newFunctionEnv scope X.env.globals cl [] X.env.qual none .none (some X.env)) (fun cenv s₄ =>
      codeAny (model X.prog X.w) X.A (.compStart (.ListComp elt [⟨.Name x px, iter, ifs, 0⟩] scope pos) 0 (.ref it) acc { cenv with scope := relabel scope X.env }) (RR acc cenv.locals) s₄) E s₃) E s2 := by
  refine wpAny_newObj_type (wpAny_newFunctionEnv S.nocell (by intro y hy; simp at hy) (fun h1 hns hsb => ?_) S.kind)
  have hsz : (s2.heap.push { cls := .type "list", data := .seq ([] : List Value).toArray }).objs.size = s2.heap.objs.size + 1 := Heap.size_push ..
  dsimp only at hns hsb ⊢
  rw [hsz] at hns hsb
  have keep : ∀ b o, s2.heap.get? b = some o → h1.get? b = some o := fun b o e => by
    exact hsb.extBut b o (Nat.ne_of_lt (Nat.lt_succ_of_lt (Heap.lt_size e))) (Heap.get?_push_of_some _ (Heap.get?_push_of_some _ e))
  have hl : h1.get? s2.heap.objs.size = some { cls := .type "list", data := .seq #[] 0 } :=
    hsb.extBut _ _ (Nat.ne_of_lt (Nat.lt_succ_self _)) (Heap.get?_push_of_some _ (Heap.get?_push_size _ rfl))
  have IY := comp_start (tk := s2.toks + ([] : List (Str × Value)).length) I S T h0 hf hl hns keep
  have hsz2 : (s2.heap.push { cls := .type "list", data := .seq ([] : List Value).toArray }).objs.size = s2.heap.objs.size + 1 := hsz
  generalize hY : cxComp X x js scope cl (s2.heap.objs.size + 1) s2 H2 fp = Y at IY
  have PEe := he Y hY.symm
  have PIi := hi Y hY.symm
  have fpY : ∀ {H' : Hp}, (∀ b ∈ fp, H' b = none) → ∀ b ∈ fp, FpOk Y [] H' b := fun hn b hb => by
    subst hY
    exact ⟨hn b hb, (IY.ok.exf b hb).1, IY.ok.exfs b hb, .inl hb, fun y c h => (IY.ok.exf b hb).2 y c h, fun p hp => absurd hp (by simp [cxComp])⟩
  have eP : Y.prog = X.prog := by rw [← hY]; rfl
  have eW : Y.w = X.w := by rw [← hY]; rfl
  have eK : Y.K = X.K := by rw [← hY]; rfl
  have eA : Y.A = X.A := by rw [← hY]; rfl
  have eC : Y.calm = true := by rw [← hY]; exact hc
  have eE : Y.env = compEnvC scope cl (s2.heap.objs.size + 1) X.env := by rw [← hY]; rfl
  have eX : Y.xe = fun _ _ => False := by rw [← hY]; rfl
  obtain ⟨m0, w0⟩ := w0
  -- the end of the block
  have fin : ∀ {σY : St} {H' : Hp} {s' : Shared}, Inv Y [] σY H' s' → Q (.ref s2.heap.objs.size) H' → RR (.ref s2.heap.objs.size) (s2.heap.objs.size + 1) (.ok .next) s' := fun {σY H' s'} J' q => by
    have hu : Un (frs X.stack) fp H2 H' s2.heap s'.heap := by have := J'.base; rw [← hY] at this; exact this
    have ho : s'.os = s2.os := by have := J'.os; rw [← hY] at this; exact this
    have hk : HOk X.prog X.w H' s'.heap := by have := J'.hok; rw [eP, eW] at this; exact this
    have I' : Inv X pins σ H' s' := I.call' ho hu hk J'.bare fun b hb => ⟨(hf b hb).2.2.2.1, (hf b hb).2.1, (hf b hb).2.2.2.2.1, (hf b hb).2.2.2.2.2⟩
    have hfree : H' (s2.heap.objs.size + 1) = none := by have := J'.free; rw [eE] at this; exact this
    have hns' : ∃ m, s'.heap.Ns (s2.heap.objs.size + 1) m := by obtain ⟨m, hm, _⟩ := J'.loc; rw [eE] at hm; exact ⟨m, hm⟩
    exact hRR _ H' s' I' (I.fpOk (Nat.le_succ _) hfree) hns' q
  have loop : codeAny (model X.prog X.w) X.A (.compLoop (.ListComp elt [⟨.Name x px, iter, ifs, 0⟩] scope pos) 0 (.ref it) (.ref s2.heap.objs.size) (compEnvC scope cl (s2.heap.objs.size + 1) X.env)) (RR (.ref s2.heap.objs.size) (s2.heap.objs.size + 1)) { s2 with heap := h1, toks := s2.toks + ([] : List (Str × Value)).length } := by
    refine comp_loop (fun n s => ∃ i ys o H', Inv Y [] (o :: capt js σ) H' s ∧ tn i s.heap ∧ (∀ b ∈ fp, H' b = none) ∧ W i n ys H') ?_ m0 ⟨0, [], none, _, IY, T.keep 0 _ _ h0 fun b _ o e => keep b o e, fun b hb => ?_, w0⟩
    · rintro n s3 ⟨i, ys, o3, H3, I3, st3, fr3, w3⟩
      rcases turn i n ys H3 w3 with ⟨stop, q⟩ | ⟨go, step⟩
      · have hd := T.done Y eP eW eK eC i [] s3 (o3 :: capt js σ) H3 (notedBy (model X.prog X.w) X.A (compEnvC scope cl (s2.heap.objs.size + 1) X.env) fun e s' => RR (.ref s2.heap.objs.size) (s2.heap.objs.size + 1) (.error e) s') I3 (fpY fr3) st3 stop
        rw [eA] at hd
        refine thn hd fun r s4 ⟨hr, I4⟩ => ?_
        subst hr
        exact fin I4 q
      · have hd := T.item Y eP eW eK eC i [] s3 (o3 :: capt js σ) H3 (notedBy (model X.prog X.w) X.A (compEnvC scope cl (s2.heap.objs.size + 1) X.env) fun e s' => RR (.ref s2.heap.objs.size) (s2.heap.objs.size + 1) (.error e) s') I3 (fpY fr3) st3 go
        rw [eA] at hd
        refine thn hd fun r s4 ⟨u, hr, h4⟩ => ?_
        subst hr
        refine thn h4 fun _ s5 ⟨v, H5, I5, r5, y5, st5, fr5⟩ => ?_
        have I5' := I5.pinned (fpY fr5) (T.obj _ _ st5)
        have gY : PG Y (.Name x px) (gName 0) := by
          refine pg_name (by rw [← hY]; exact S.nd) (by rw [← hY]; rfl) ?_ ?_
          · rw [eE]; exact .inl (lookup_relabel_local S.own)
          · rw [eE]; exact .inr (lookup_relabel_local S.own)
        have ga := gY _ s5 (o3 :: capt js σ) H5 v u (fun σ' H' => σ' = some v :: capt js σ ∧ H' = H5) I5' r5 ⟨rfl, rfl⟩
        rw [eP, eW, eA, eE, eX] at ga
        refine wpAny_mono ga (fun _ s6 ⟨σ6, H6, I6, e6, e6'⟩ => ?_) fun _ _ z => z.elim
        subst e6 e6'
        have back : ∀ {s7 : Shared} {H7 : Hp} {j : Nat} {zs : List V}, Inv Y (([] : List (Addr × Obj)) ++ pinsAt fp s5.heap) (some v :: capt js σ) H7 s7 → W (i + 1) j zs H7 → j < n → ∃ m, m < n ∧ ∃ i ys o H', Inv Y [] (o :: capt js σ) H' s7 ∧ tn i s7.heap ∧ (∀ b ∈ fp, H' b = none) ∧ W i m ys H' := fun {s7 H7 j zs} I7 w7 hj =>
          ⟨j, hj, i + 1, zs, some v, H7, I7.unpinned, T.keep _ _ _ st5 fun b hb o e => (I7.pin (b, o) (List.mem_append_right _ (List.mem_append_right _ (mem_pinsAt hb e)))).1, fun b hb => by
            obtain ⟨o, e, _⟩ := T.obj _ _ st5 b hb
            exact (I7.pin (b, o) (List.mem_append_right _ (List.mem_append_right _ (mem_pinsAt hb e)))).2.1, w7⟩
        have hq := step v _ y5
        have tests : wpAny (model X.prog X.w) X.A (forIn ifs true fun c r => if r = true then do let ok ← isTrue c (compEnvC scope cl (s2.heap.objs.size + 1) X.env) (eval c (compEnvC scope cl (s2.heap.objs.size + 1) X.env)); pure (ForInStep.yield ok) else pure (ForInStep.yield r))
            (TP Y (([] : List (Addr × Obj)) ++ pinsAt fp s5.heap) (some v :: capt js σ) (fun b H2 => if b = true then te (some v :: capt js σ) H2 fun y H3 => ∃ m', m' < n ∧ H3 s2.heap.objs.size = some (.lst ys) ∧ ys.length < sizeLine ∧ W (i + 1) m' (ys ++ [y]) (upd H3 s2.heap.objs.size (.lst (ys ++ [y]))) else ∃ m', m' < n ∧ W (i + 1) m' ys H2))
            (notedBy (model X.prog X.w) X.A (compEnvC scope cl (s2.heap.objs.size + 1) X.env) fun e s' => RR (.ref s2.heap.objs.size) (s2.heap.objs.size + 1) (.error e) s') s6 := by
          cases PIi with
          | nil => exact wpAny_tests_nil ⟨_, I6, hq⟩
          | one ht =>
            have := ht _ s6 (some v :: capt js σ) _ _ I6 hq
            rw [eP, eW, eA, eE, eX] at this
            exact wpAny_tests_one (wpAny_mono this (fun _ _ z => z) fun _ _ z => z.elim)
        refine thn tests fun ok s7 ⟨H7, I7, q7⟩ => ?_
        cases ok with
        | false =>
          rw [if_neg (by decide)] at q7 ⊢
          obtain ⟨m', hm, w7⟩ := q7
          exact back I7 w7 hm
        | true =>
          rw [if_pos rfl] at q7 ⊢
          have hE := PEe _ s7 (some v :: capt js σ) H7 _ I7 q7
          rw [eP, eW, eA, eE, eX] at hE
          refine wpAny_mono hE (fun y s8 ⟨yv, H8, I8, r8, m', hm, hl8, hz8, w8⟩ => ?_) fun _ _ z => z.elim
          have ap := mt_append (X := Y) _ s8 _ H8 (.ref s2.heap.objs.size) [yv] (.ref s2.heap.objs.size) [y] (fun _ H' => H' = upd H8 s2.heap.objs.size (.lst (ys ++ [yv]))) I8 rfl (.cons r8 .nil) ⟨_, ys, yv, rfl, rfl, hl8, hz8, rfl⟩
          rw [eP, eW, eA, eX] at ap
          refine wpAny_mono ap (fun _ s9 ⟨_, H9, I9, _, e9⟩ => ?_) fun _ _ z => z.elim
          subst e9
          exact back I9 w8 hm
    · obtain ⟨o, ho, _⟩ := T.obj 0 _ h0 b hb
      rw [upd_ne (Nat.ne_of_lt (Heap.lt_size ho))]
      exact (hf b hb).1
  refine codeAny_compStart_list ?_ (T.self X.A 0 _ _ _ (T.keep 0 _ _ h0 fun b _ o e => keep b o e) ?_)
  · rw [hsz]; exact loop
  · rw [hsz]; exact loop

theorem pe_comp {wi : TI} {ti : TT} {te : TE} (S : CompSc X x js scope cl) (hi : PI X (.Name x px) iter wi) (he : ∀ C s2 H2 fp, PE (cxComp X x js scope cl C s2 H2 fp) elt te) (ht : ∀ C s2 H2 fp, PIfs (cxComp X x js scope cl C s2 H2 fp) ifs ti) (hc : X.calm = true := by rfl)
    (hs : ∀ v, foldedSetIterable iter X.env v = pure v := by intro _; rfl) : PE X (.ListComp elt [⟨.Name x px, iter, ifs, 0⟩] scope pos) (tComp js wi ti te) := by
  intro pins s σ H Q I h
  rw [eval_ListComp]
  refine wpAny_comprehension_free (use := none) rfl hs S.clos S.kind S.names (thn (hi pins s σ H _ I h) fun v s1 h1 => thn h1 fun itv s2 h2 => ?_)
  obtain ⟨it, fp, tn, J, H2, rfl, I2, T, st, hf, q⟩ := h2
  obtain ⟨W, w0, turn⟩ := q s2.heap.objs.size (I2.hok.fresh (Nat.le_refl _))
  refine comp_block (RR := fun acc C => compPost (model X.prog X.w) X.A X.xe none (EP X pins σ Q) acc C) I2 hc S T st hf (by rintro _ rfl; exact he _ _ _ _) (by rintro _ rfl; exact ht _ _ _ _) W w0 turn ?_
  rintro C H' s' I' fC ⟨m, hn⟩ q'
  exact ⟨m, hn, fun h' sb => ⟨.ref s2.heap.objs.size, H', I'.turned (t' := s'.toks) (fun b o hb e => sb.extBut b o hb e) fC.1 fC.2.1 fC.2.2.2.1 fC.2.2.2.2.1 fC.2.2.2.2.2, rfl, q'⟩⟩
end
/-! ### a comprehension without a test whose element is read off the heap; with a test -/
section
variable {K : PySem.W.Frag} {σ : St} {H : Hp} {Q : VK} {te : TE} {ti : TT} {tl : TE} {js : List (Nat × Str)}
end
end L2

end
section
set_option Elab.async false
set_option linter.all false
set_option maxRecDepth 100000
namespace L2
open PySem PySem.Spec PyProof.Rows
/-! ### more of texts of 0 and 1 -/
/-! ### rows and tables -/
abbrev Row := List Bool × Option Int
def wayV : Option Int → V
  | none => .non
  | some i => .int i
def RowIs (H : Hp) (v : V) (r : Row) : Prop := ∃ p, v = .ref p ∧ H p = some (.tup [.str (enc r.1), wayV r.2])
abbrev RowsAre (H : Hp) : List V → List Row → Prop := Paired (RowIs H)
/-- the tuples stay -/
def Tp (H H' : Hp) : Prop := ∀ b xs, H b = some (.tup xs) → H' b = some (.tup xs)
theorem Tp.refl (H : Hp) : Tp H H := fun _ _ h => h
theorem Tp.trans {H H1 H2 : Hp} (a : Tp H H1) (b : Tp H1 H2) : Tp H H2 := fun c o h => b c o (a c o h)
theorem Same.tp {H H' : Hp} (h : Same H H') : Tp H H' := fun b xs e => h b _ e
theorem Tp.upd {H : Hp} {l : Addr} {o : HO} (h : ∀ xs, H l ≠ some (.tup xs)) : Tp H (upd H l o) := fun b xs e => by
  by_cases hb : b = l
  · subst hb; exact absurd e (h xs)
  · rw [upd_ne hb]; exact e
theorem Same.upd {H : Hp} {l : Addr} {o : HO} (h : H l = none) : Same H (upd H l o) := fun b u e => by rw [upd_ne (ne_of_none e h)]; exact e
theorem RowIs.mono {H H' : Hp} {v : V} {r : Row} (h : RowIs H v r) (t : Tp H H') : RowIs H' v r := let ⟨p, e, q⟩ := h; ⟨p, e, t _ _ q⟩
theorem Paired.mono {α β : Type} {F G : α → β → Prop} : ∀ {l : List α} {m : List β}, Paired F l m → (∀ a b, F a b → G a b) → Paired G l m
  | _, _, .nil, _ => .nil
  | _, _, .cons h t, f => .cons (f _ _ h) (Paired.mono t f)
theorem RowsAre.mono {H H' : Hp} {vs : List V} {rs : List Row} (h : RowsAre H vs rs) (t : Tp H H') : RowsAre H' vs rs := Paired.mono h fun _ _ q => q.mono t
theorem Paired.split {α β : Type} {F : α → β → Prop} : ∀ {l1 l2 : List α} {m : List β}, Paired F (l1 ++ l2) m → ∃ m1 m2, m = m1 ++ m2 ∧ Paired F l1 m1 ∧ Paired F l2 m2
  | [], l2, m, h => ⟨[], m, rfl, .nil, h⟩
  | a :: l1, l2, _, .cons h t => let ⟨m1, m2, e, h1, h2⟩ := Paired.split t; ⟨_ :: m1, m2, by rw [e]; rfl, .cons h h1, h2⟩
theorem Paired.append {α β : Type} {F : α → β → Prop} : ∀ {l1 l2 : List α} {m1 m2 : List β}, Paired F l1 m1 → Paired F l2 m2 → Paired F (l1 ++ l2) (m1 ++ m2)
  | _, _, _, _, .nil, h => h
  | _, _, _, _, .cons h t, k => .cons h (Paired.append t k)
theorem Paired.inj_left {α β : Type} {F : α → β → Prop} (hF : ∀ a b c, F a b → F a c → b = c) : ∀ {l : List α} {m n : List β}, Paired F l m → Paired F l n → m = n
  | _, _, _, .nil, .nil => rfl
  | _, _, _, .cons h t, .cons h' t' => by rw [hF _ _ _ h h', Paired.inj_left hF t t']
theorem wayV_inj {a b : Option Int} (h : wayV a = wayV b) : a = b := by
  cases a <;> cases b <;> simp [wayV] at h
  · rfl
  · rw [h]
theorem RowIs.inj {H : Hp} {v : V} {r r' : Row} (h : RowIs H v r) (h' : RowIs H v r') : r = r' := by
  obtain ⟨p, e, q⟩ := h
  obtain ⟨p', e', q'⟩ := h'
  subst e
  cases e'
  rw [q] at q'
  simp only [Option.some.injEq, HO.tup.injEq, List.cons.injEq, V.str.injEq, and_true] at q'
  exact Prod.ext (enc_inj q'.1) (wayV_inj q'.2)
theorem RowsAre.inj {H : Hp} {vs : List V} {rs rs' : List Row} (h : RowsAre H vs rs) (h' : RowsAre H vs rs') : rs = rs' := Paired.inj_left (F := RowIs H) (fun _ _ _ a b => RowIs.inj a b) h h'
theorem Paired.get {α β : Type} {F : α → β → Prop} : ∀ {l : List α} {m : List β} (i : Nat) (a : α), Paired F l m → l[i]? = some a → ∃ b, m[i]? = some b ∧ F a b
  | _, _, _, _, .nil, h => by simp at h
  | _, _, 0, a, .cons h _, e => by simp at e; subst e; exact ⟨_, rfl, h⟩
  | _, _, i + 1, a, .cons _ t, e => by
    obtain ⟨b, h1, h2⟩ := Paired.get i a t (by simpa using e)
    exact ⟨b, by simpa using h1, h2⟩
/-- the first part of a row, by values -/
def fstOf (H : Hp) (v : V) : V := match v with
  | .ref p => match H p with
    | some (.tup (x :: _)) => x
    | _ => .non
  | _ => .non
/-! ### the ways and tables as they are drawn -/
def wayBy (c few : Int) : Option Int := if c % 5 = 4 then none else if c / 5 % 4 = 3 then some (c / 20 % 10000) else some (c / 20 % few)
def addRow (rs : List Row) (h : List Bool) (w : Option Int) : List Row := if rs.any (fun r => r.1 == h) then rs else rs ++ [(h, w)]
def tableBy (ns : List Int) (start size few : Int) : Nat → List Row
  | 0 => []
  | k + 1 => addRow (tableBy ns start size few k) (bitsBy (cell ns (start + k) % (size + 1)).toNat (cell ns (start + k) / (size + 1))) (wayBy ((cell ns (start + k) * 48271 + 11) % 2147483647) few)
def mixed : Int → Nat → Int
  | c, 0 => c
  | c, k + 1 => (mixed c k * 48271 + 11) % 2147483647
def farTable (c size few : Int) : Nat → List Row
  | 0 => []
  | k + 1 => addRow (farTable c size few k) (bitsBy (mixed c (k + 1) % (size + 1)).toNat (mixed c (k + 1) / 97)) (wayBy (mixed c (k + 1) / 1009) few)
/-- what holds of a drawn table -/
structure TabOk (rs : List Row) (size : Int) (n : Nat) : Prop where
  nd : (rs.map (·.1)).Nodup
  len : ∀ r ∈ rs, (r.1.length : Int) ≤ size
  way : ∀ r ∈ rs, ∀ i, r.2 = some i → 0 ≤ i ∧ i ≤ 9999
  few : rs.length ≤ n
theorem TabOk.nil (size : Int) : TabOk [] size 0 := ⟨by simp, by simp, by simp, by simp⟩
/-! ### leading -/
def leadStep (a : List Bool) (acc : Option Row) (r : Row) : Option Row :=
  if r.1.isPrefixOf a && (match acc with | none => true | some q => decide (q.1.length < r.1.length)) then some r else acc
def lead (rs : List Row) (a : List Bool) : Option Row := rs.foldl (leadStep a) none
def led (rs : List Row) (a : List Bool) : Option Int := (lead rs a).bind (·.2)
def OptRow (H : Hp) (v : V) : Option Row → Prop
  | none => v = .non
  | some r => RowIs H v r
theorem OptRow.mono {H H' : Hp} {v : V} {o : Option Row} (h : OptRow H v o) (t : Tp H H') : OptRow H' v o := by
  cases o with
  | none => exact h
  | some r => exact RowIs.mono h t
end L2

end
section
set_option Elab.async false
set_option linter.all false
set_option maxRecDepth 100000
set_option maxHeartbeats 4000000
namespace L2
open PySem PySem.Spec
local macro_rules | `(tactic| walk_at "rd") => `(tactic| try simp only [tVar, tC, tOp, tUn, tSeq, tAsg, gName, tRet, tRetN, tIfS, tDrop, tNext, tCons, tNil, tCall, tCB, tTest, tB, tAnd, tOr, tNot, tAndV, tOrV, tNotV, tIf, tTup, tLst, tSl, tPart, tNoPart, tBM, tBM0, L2.start, rI2, rI3, rAddA, rMulA, rSubI, rDivI, rModI, rPowI, rNegI, rLt, rLe, rGt, rGe, rIsN, rNotN, rEqS, rNeS, rLen, rIxA, rIntA, rMax2, rMin2, rStrI, rListOf, rIsi2, isiF, isiO, rSlA, rStarts2, rEnds2, CDiv,
  List.map_cons, List.map_nil, List.length_cons, List.length_nil, List.replicate_succ, List.replicate_zero, List.cons_append, List.nil_append, List.append_nil, List.getElem?_cons_zero, List.getElem?_cons_succ, List.set_cons_zero, List.set_cons_succ, Option.some.injEq, V.int.injEq, V.str.injEq, V.bl.injEq, V.ref.injEq, V.ty.injEq, reduceCtorEq, exists_eq_left', exists_eq_left, exists_eq_right, exists_eq_right', exists_eq', exists_eq, exists_and_left, exists_and_right, false_and, and_false, true_and, and_true, exists_const, exists_false, false_or, or_false, List.cons.injEq, and_assoc, decide_eq_true_eq, decide_true, decide_false, Int.reduceLT, Int.reduceLE, Nat.reduceLT, Nat.reduceLeDiff, Nat.reduceSub, Nat.reduceAdd, Nat.sub_self, Nat.sub_zero, enc_eq, enc_nil, enc_0, enc_1, enc_01, enc_append, enc_len, Bool.not_true, Bool.not_false, Bool.false_eq_true, if_true, if_false, ↓reduceIte, String.reduceEq, or_true, true_or, Nat.one_mul, addr_len, bitsBy_len, List.length_append, List.length_replicate, List.length_map])
local macro_rules | `(tactic| walk_at "sz") => `(tactic| (have hline := line_ge; first | omega | (simp; omega)))
def rd_begins (K : PySem.W.Frag) : TS :=
  (tRet (tBM K "str" rStarts2 (tVar 1) (tCons (tVar 0) tNil)))
def nm_begins : List Str := ["head", "address"]
def sp_begins (K : PySem.W.Frag) : Sp := fun vs H Q _ => ∃ h a, vs = [.str (enc h), .str (enc a)] ∧ Q (.bl (h.isPrefixOf a)) H
def rd_law_way_by (K : PySem.W.Frag) : TS :=
  (tSeq (tIfS (tTest (tOp rEqS (tOp rModI (tVar 0) (tC (.int 5))) (tC (.int 4)))) (tRet (tC .non)) tNext)
  (tSeq (tIfS (tTest (tOp rEqS (tOp rModI (tOp rDivI (tVar 0) (tC (.int 5))) (tC (.int 4))) (tC (.int 3)))) (tRet (tOp rModI (tOp rDivI (tVar 0) (tC (.int 20))) (tC (.int 10000)))) tNext)
  (tRet (tOp rModI (tOp rDivI (tVar 0) (tC (.int 20))) (tVar 1)))))
def nm_law_way_by : List Str := ["cell", "few"]
def sp_law_way_by (K : PySem.W.Frag) : Sp := fun vs H Q _ => ∃ c f, vs = [.int c, .int f] ∧ 0 < f ∧ Q (wayV (wayBy c f)) H
def rb_leading_row_1 (K : PySem.W.Frag) : TS :=
  (tIfS (tAnd (tB (tCall (sp_begins K) [] E0 (tCons (tOp (rIxA K) (tVar 3) (tC (.int 0))) (tCons (tVar 1) tNil)))) (tOr (tTest (tOp rIsN (tVar 2) (tC .non))) (tTest (tOp rGt (tCB (rLen K) (tCons (tOp (rIxA K) (tVar 3) (tC (.int 0))) tNil)) (tCB (rLen K) (tCons (tOp (rIxA K) (tVar 2) (tC (.int 0))) tNil)))))) (tAsg (tVar 3) (gName 2)) tNext)
def rd_leading_row (K : PySem.W.Frag) : TS :=
  (tSeq (tAsg (tC .non) (gName 2))
  (tSeq (tFor (iList K (tVar 0)) (gName 3) (rb_leading_row_1 K))
  (tRet (tVar 2))))
def nm_leading_row : List Str := ["rows", "address", "leading", "row"]
def sp_leading_row (K : PySem.W.Frag) : Sp := fun vs H Q _ => ∃ a xs rs ad, vs = [.ref a, .str (enc ad)] ∧ H a = some (.lst xs) ∧ RowsAre H xs rs ∧ (∀ r ∈ rs, r.1.length ≤ 1000) ∧ ∀ v, OptRow H v (lead rs ad) → Q v H
def rd_head_for (K : PySem.W.Frag) : TS :=
  (tSeq (tAsg (tCall (sp_leading_row K) [] E0 (tCons (tVar 0) (tCons (tVar 1) tNil))) (gName 2))
  (tRet (tIf (tTest (tOp rIsN (tVar 2) (tC .non))) (tC .non) (tOp (rIxA K) (tVar 2) (tC (.int 0))))))
def nm_head_for : List Str := ["rows", "address", "row"]
def headV : Option Row → V
  | none => .non
  | some r => .str (enc r.1)
def sp_head_for (K : PySem.W.Frag) : Sp := fun vs H Q _ => ∃ a xs rs ad, vs = [.ref a, .str (enc ad)] ∧ H a = some (.lst xs) ∧ RowsAre H xs rs ∧ (∀ r ∈ rs, r.1.length ≤ 1000) ∧ Q (headV (lead rs ad)) H
def rd_way_for (K : PySem.W.Frag) : TS :=
  (tSeq (tAsg (tCall (sp_leading_row K) [] E0 (tCons (tVar 0) (tCons (tVar 1) tNil))) (gName 2))
  (tRet (tIf (tTest (tOp rIsN (tVar 2) (tC .non))) (tC .non) (tOp (rIxA K) (tVar 2) (tC (.int 1))))))
def nm_way_for : List Str := ["rows", "address", "row"]
def sp_way_for (K : PySem.W.Frag) : Sp := fun vs H Q _ => ∃ a xs rs ad, vs = [.ref a, .str (enc ad)] ∧ H a = some (.lst xs) ∧ RowsAre H xs rs ∧ (∀ r ∈ rs, r.1.length ≤ 1000) ∧ Q (wayV (led rs ad)) H
def rb_law_head_for_1 (K : PySem.W.Frag) : TS :=
  (tIfS (tTest (tOp rEqS (tSl (rSlA K) (tVar 1) tNoPart (tPart (tCB (rLen K) (tCons (tOp (rIxA K) (tVar 3) (tC (.int 0))) tNil)))) (tOp (rIxA K) (tVar 3) (tC (.int 0))))) (tIfS (tOr (tTest (tOp rIsN (tVar 2) (tC .non))) (tTest (tOp rGt (tCB (rLen K) (tCons (tOp (rIxA K) (tVar 3) (tC (.int 0))) tNil)) (tCB (rLen K) (tCons (tOp (rIxA K) (tVar 2) (tC (.int 0))) tNil))))) (tAsg (tVar 3) (gName 2)) tNext) tNext)
def rd_law_head_for (K : PySem.W.Frag) : TS :=
  (tSeq (tAsg (tC .non) (gName 2))
  (tSeq (tFor (iList K (tVar 0)) (gName 3) (rb_law_head_for_1 K))
  (tRet (tVar 2))))
def nm_law_head_for : List Str := ["rows", "address", "found", "row"]
def sp_law_head_for (K : PySem.W.Frag) : Sp := fun vs H Q _ => ∃ a xs rs ad, vs = [.ref a, .str (enc ad)] ∧ H a = some (.lst xs) ∧ RowsAre H xs rs ∧ (∀ r ∈ rs, r.1.length ≤ 1000) ∧ ad.length ≤ 1000 ∧ ∀ v, OptRow H v (lead rs ad) → Q v H
def rd_law_way_is (K : PySem.W.Frag) : TS :=
  (tSeq (tIfS (tTest (tOp rIsN (tVar 1) (tC .non))) (tRet (tOp rIsN (tVar 0) (tC .non))) tNext)
  (tRet (tAndV (tCall (sp_law_whole K) [] E0 (tCons (tVar 0) tNil)) (tOp rEqS (tVar 0) (tVar 1)))))
def nm_law_way_is : List Str := ["found", "due"]
/-- a way found, a way due -/
def sp_law_way_is (K : PySem.W.Frag) : Sp := fun vs H Q _ => ∃ f d, vs = [wayV f, wayV d] ∧ Q (.bl (decide (f = d))) H
theorem len_law_way_is {K vs H Q E} (h : sp_law_way_is K vs H Q E) : vs.length = 2 := by obtain ⟨_, _, rfl, _⟩ := h; rfl
theorem rdok_law_way_is {K vs H Q E} (h : sp_law_way_is K vs H Q E) : rd_law_way_is K { nx := fun _ H' => Q .non H', rt := Q } (start nm_law_way_is vs) H := by
  obtain ⟨f, d, rfl, q⟩ := h
  simp only [rd_law_way_is, nm_law_way_is]
  cases d with
  | none =>
    cases f with
    | none => simp only [wayV]; walk_at "rd"; exact q
    | some i => simp only [wayV]; walk_at "rd"; exact q
  | some j =>
    cases f with
    | none =>
      simp only [wayV]; walk_at "rd"
      simp only [sp_law_whole]; walk_at "rd"
      exact q
    | some i =>
      simp only [wayV]; walk_at "rd"
      simp only [sp_law_whole]; walk_at "rd"
      simpa using q
def rb_law_far_table_1 (K : PySem.W.Frag) : TS :=
  (tSeq (tAsg (tOp rModI (tOp rAddA (tOp rMulA (tVar 0) (tC (.int 48271))) (tC (.int 11))) (tC (.int 2147483647))) (gName 0))
  (tSeq (tAsg (tCall (sp_law_bits_by K) [] E0 (tCons (tOp rDivI (tVar 0) (tC (.int 97))) (tCons (tOp rModI (tVar 0) (tOp rAddA (tVar 2) (tC (.int 1)))) tNil))) (gName 7))
  (tIfS (tTest (tOp (rIn K true) (tVar 7) (tVar 5))) (tSeq (tDrop (tBM K "list" rAppend (tVar 5) (tCons (tVar 7) tNil)))
  (tDrop (tBM K "list" rAppend (tVar 4) (tCons (tTup (tCons (tVar 7) (tCons (tCall (sp_law_way_by K) [] E0 (tCons (tOp rDivI (tVar 0) (tC (.int 1009))) (tCons (tVar 3) tNil))) tNil))) tNil)))) tNext)))
def rd_law_far_table (K : PySem.W.Frag) : TS :=
  (tSeq (tAsg (tLst tNil) (gName 4))
  (tSeq (tAsg (tLst tNil) (gName 5))
  (tSeq (tFor (iRng1 (tCons (tVar 1) tNil)) (gName 6) (rb_law_far_table_1 K))
  (tRet (tVar 4)))))
def nm_law_far_table : List Str := ["cell", "count", "size", "few", "rows", "heads", "k", "head"]
def sp_law_far_table (K : PySem.W.Frag) : Sp := fun vs H Q _ => ∃ (c n size few : Int), vs = [.int c, .int n, .int size, .int few] ∧ 0 ≤ n ∧ n ≤ 100 ∧ 0 ≤ size ∧ size ≤ 16 ∧ 0 < few ∧ few ≤ 9999 ∧
  ∀ l H' xs, H l = none → Same H H' → H' l = some (.lst xs) → RowsAre H' xs (farTable c size few n.toNat) → Q (.ref l) H'
def rb_law_table_by_1 (K : PySem.W.Frag) : TS :=
  (tSeq (tAsg (tCall (sp_law_cell_at K) [] E0 (tCons (tVar 0) (tCons (tOp rAddA (tVar 1) (tVar 6)) tNil))) (gName 7))
  (tSeq (tAsg (tCall (sp_law_bits_by K) [] E0 (tCons (tOp rDivI (tVar 7) (tOp rAddA (tVar 3) (tC (.int 1)))) (tCons (tOp rModI (tVar 7) (tOp rAddA (tVar 3) (tC (.int 1)))) tNil))) (gName 8))
  (tIfS (tTest (tOp (rIn K true) (tVar 8) (tComp [] (iList K (tVar 5)) tAlways (tOp (rIxA K) (tVar 0) (tC (.int 0)))))) (tDrop (tBM K "list" rAppend (tVar 5) (tCons (tTup (tCons (tVar 8) (tCons (tCall (sp_law_way_by K) [] E0 (tCons (tOp rModI (tOp rAddA (tOp rMulA (tVar 7) (tC (.int 48271))) (tC (.int 11))) (tC (.int 2147483647))) (tCons (tVar 4) tNil))) tNil))) tNil))) tNext)))
def rd_law_table_by (K : PySem.W.Frag) : TS :=
  (tSeq (tAsg (tLst tNil) (gName 5))
  (tSeq (tFor (iRng1 (tCons (tVar 2) tNil)) (gName 6) (rb_law_table_by_1 K))
  (tRet (tVar 5))))
def nm_law_table_by : List Str := ["script", "start", "count", "size", "few", "rows", "k", "cell", "head"]
def sp_law_table_by (K : PySem.W.Frag) : Sp := fun vs H Q _ => ∃ (a : Addr) (ns : List Int) (st n size few : Int), vs = [.ref a, .int st, .int n, .int size, .int few] ∧ SqL K H a (ns.map V.int) ∧ 0 ≤ st ∧ 0 ≤ n ∧ n ≤ 100 ∧ 0 ≤ size ∧ size ≤ 16 ∧ 0 < few ∧ few ≤ 9999 ∧
  ∀ l H' xs, H l = none → Same H H' → H' l = some (.lst xs) → RowsAre H' xs (tableBy ns st size few n.toNat) → Q (.ref l) H'
end L2

end
section
set_option Elab.async false
set_option linter.all false
set_option maxRecDepth 100000
set_option maxHeartbeats 4000000
namespace L2
open PySem PySem.Spec PyProof.Rows
/-! ### more of texts: in, count, partition, index; a list's truth; a module's constants -/
def hasS (x y : Str) : Bool := !(Builtin.Str.occurrences x y 0 x.length 1).isEmpty
def rInS (neg : Bool) : R2 := fun x y H Q => match x, y with
  | .str a, .str b => Q (.bl (if neg then !hasS b a else hasS b a)) H
  | _, _ => False
def rCount : V → List V → Hp → VK → Prop := fun x vs H Q => match x, vs with
  | .str a, [.str b] => Q (.int (Txt.count a b)) H
  | _, _ => False
def rPartT : V → List V → Hp → VK → Prop := fun x vs H Q => match x, vs with
  | .str a, [.str b] => (b.length == 0) = false ∧ a.length ≤ sizeLine ∧ ∀ p, H p = none → Q (.ref p) (upd H p (.tup [.str (Txt.partition a b).1, .str (Txt.partition a b).2.1, .str (Txt.partition a b).2.2]))
  | _, _ => False
def rIndexT : V → List V → Hp → VK → Prop := fun x vs H Q => match x, vs with
  | .str a, [.str b] => ∃ i rest, Builtin.Str.occurrences a b 0 a.length 1 = i :: rest ∧ Q (.int (i : Nat)) H
  | _, _ => False
section
variable {X : Cx}
theorem op_inS : OpR X (compareOp .In) (rInS false) := by
  intro pins s σ H x y v u Q I rx ry h
  unfold rInS at h
  split at h
  · obtain ⟨t, rfl⟩ := rx
    obtain ⟨t', rfl⟩ := ry
    exact in_str ⟨.bl _, H, I, rfl, h⟩
  · exact h.elim
theorem op_notInS : OpR X (compareOp .NotIn) (rInS true) := by
  intro pins s σ H x y v u Q I rx ry h
  unfold rInS at h
  split at h
  · obtain ⟨t, rfl⟩ := rx
    obtain ⟨t', rfl⟩ := ry
    exact notIn_str ⟨.bl _, H, I, rfl, h⟩
  · exact h.elim
theorem mt_count : MtM X "str.count" rCount := by
  intro pins s σ H x vs v us Q I rx rv h
  unfold rCount at h
  split at h
  · obtain ⟨t, rfl⟩ := rx
    obtain ⟨u, rfl, t', rfl⟩ := rv.one
    exact SC.count ⟨.int _, H, I.tok _, ⟨_, rfl⟩, h⟩
  · exact h.elim
theorem mt_partT : MtM X "str.partition" rPartT := by
  intro pins s σ H x vs v us Q I rx rv h
  unfold rPartT at h
  split at h
  · obtain ⟨t, rfl⟩ := rx
    obtain ⟨u, rfl, t', rfl⟩ := rv.one
    rename_i a b
    obtain ⟨h1, h2, h⟩ := h
    refine call_meets F.slot_str_partition (typeIs_str _ _ _) F.entry_str_partition (F.args_str_partition_2 _ _) (meets_str_partition _ _ t t' h1 h2) ?_
    have hf : H s.heap.objs.size = none := I.hok.fresh (Nat.le_refl _)
    have h' := h _ hf
    revert h'
    unfold Txt.partition
    cases Builtin.Str.occurrences a b 0 a.length 1 with
    | nil =>
      intro h'
      refine ⟨.ref s.heap.objs.size, _, I.laid (t' := s.toks + 1) (fun b u e => Heap.get?_push_of_some _ e) (Nat.le_refl _) ?_, rfl, h'⟩
      exact ⟨by show 3 ≤ sizeLine; decide, _, .cons ⟨_, rfl⟩ (.cons ⟨_, rfl⟩ (.cons ⟨_, rfl⟩ .nil)), ⟨_, Heap.get?_push_size _ rfl, rfl, _, rfl⟩⟩
    | cons i r =>
      intro h'
      refine ⟨.ref s.heap.objs.size, _, I.laid (t' := s.toks + 1 + 1) (fun b u e => Heap.get?_push_of_some _ e) (Nat.le_refl _) ?_, rfl, h'⟩
      exact ⟨by show 3 ≤ sizeLine; decide, _, .cons ⟨_, rfl⟩ (.cons ⟨_, rfl⟩ (.cons ⟨_, rfl⟩ .nil)), ⟨_, Heap.get?_push_size _ rfl, rfl, _, rfl⟩⟩
  · exact h.elim
theorem mt_indexT : MtM X "str.index" rIndexT := by
  intro pins s σ H x vs v us Q I rx rv h
  unfold rIndexT at h
  split at h
  · obtain ⟨t, rfl⟩ := rx
    obtain ⟨u, rfl, t', rfl⟩ := rv.one
    obtain ⟨i, rest, e, h⟩ := h
    exact call_gives F.slot_str_index (typeIs_str _ _ _) F.entry_str_index (F.args_str_index_2 _ _) (gives_str_index _ _ t t' i rest e) ⟨.int _, H, I.tok _, ⟨_, rfl⟩, h⟩
  · exact h.elim
/-- a list's truth -/
def tTruL (K : PySem.W.Frag) (t : TE) : TT := fun σ H Q => t σ H fun x H1 => ∃ a xs, x = .ref a ∧ SqL K H1 a xs ∧ Q (!xs.isEmpty) H1
theorem pt_lst {e : Expr} {t : TE} (h : PE X e t) (he : ∀ whole, isTrue e X.env whole = (do let v ← whole; standAt e.pos; holding [v] (truthy v)) := by intro _; rfl) : PT X e (tTruL X.K t) := by
  intro pins s σ H Q I hq
  refine isTrue_plain (thn (h pins s σ H _ I hq) fun u s1 ⟨x, H1, I1, rx, a, xs, ex, ql, q⟩ => ?_) (he _)
  subst ex
  obtain rfl : u = Value.ref a := rx
  obtain ⟨its, rv, ⟨o, n, ho, hc, _, hd⟩, hz⟩ := I1.list ql
  have lits : its.length = xs.length := (Vals.length rv).symm
  refine wpAny_truthy_list (items := its.toArray) ⟨o, ho, hc, n, hd⟩ (by rw [List.size_toArray, lits]; rw [sizeLine_eq] at hz; omega) ?_
  have e : its.toArray.isEmpty = xs.isEmpty := by
    rw [List.isEmpty_toArray]
    cases rv <;> rfl
  rw [e]
  exact ⟨H1, I1.tok _, q⟩
theorem pe_globS {x : Str} {z : Str} {pos : Pos} (hm : ∃ t, X.mg x = some (.str z t)) (hg : Gl X x := by rfl) (hd : (x == ("__debug__" : Str)) = false := by decide) : PE X (.Name x pos) (tC (.str z)) := by
  obtain ⟨t, hm⟩ := hm
  exact pe_glob hg hm ⟨t, rfl⟩ hd
theorem pe_globI {x : Str} {z : Int} {pos : Pos} (hm : ∃ t, X.mg x = some (.int z t)) (hg : Gl X x := by rfl) (hd : (x == ("__debug__" : Str)) = false := by decide) : PE X (.Name x pos) (tC (.int z)) := by
  obtain ⟨t, hm⟩ := hm
  exact pe_glob hg hm ⟨t, rfl⟩ hd
end
/-- a written text ahead of more items (said once: no unfolding of the rest) -/
theorem pa_str {X : Cx} {x : Str} {j : Nat} {pos : Pos} {es : List Expr} {t : TA} (h : PA X es t) : PA X (.Constant (.str x) j pos :: es) (tCons (tC (.str x)) t) := pa_cons pe_str h rfl
/-- a comprehension over a text: p the test, the element is the sign -/
theorem tComp_str {σ : St} {H : Hp} {Q : VK} {te : TE} {ti : TT} {tl : TE} {js : List (Nat × Str)} (z : Str) (p : Nat → Bool) (ht : ∀ R : V → Hp → Prop, R (.str z) H → tl σ H R) (hz : z.cps.size ≤ sizeLine)
    (hp : ∀ c ∈ z.cps.toList, ∀ H' R, Same H H' → R (p c) H' → ti (some (.str ⟨#[c]⟩) :: capt js σ) H' R) (hf : ∀ c ∈ z.cps.toList, ∀ H' (R : VK), Same H H' → R (.str ⟨#[c]⟩) H' → te (some (.str ⟨#[c]⟩) :: capt js σ) H' R)
    (hQ : ∀ l, H l = none → Q (.ref l) (upd H l (.lst ((z.cps.toList.filter p).map fun c => .str ⟨#[c]⟩)))) : tComp js (iStr tl) ti te σ H Q := by
  refine ht _ ⟨z, rfl, fun l hl0 => ?_⟩
  have same : ∀ ys, Same H (upd H l (.lst ys)) := fun ys b o e => by rw [upd_ne (ne_of_none e hl0)]; exact e
  have esz : z.cps.toList.length = z.cps.size := by simp
  refine ⟨fun i m ys H' => m = z.cps.size - i ∧ i ≤ z.cps.size ∧ ys = ((z.cps.toList.take i).filter p).map (fun c => V.str ⟨#[c]⟩) ∧ H' = upd H l (.lst ys), ⟨z.cps.size, by simp⟩, ?_⟩
  rintro i m ys H' ⟨rfl, hi, rfl, rfl⟩
  by_cases hlt : i < z.cps.size
  · refine .inr ⟨hlt, fun v H'' y => ?_⟩
    obtain ⟨e, c, hc, rfl⟩ := y
    subst e
    have hc' : z.cps.toList[i]? = some c := by rw [Array.getElem?_toList]; exact hc
    have hcm : c ∈ z.cps.toList := List.mem_of_getElem? hc'
    refine hp c hcm _ _ (same _) ?_
    have tk : z.cps.toList.take (i + 1) = z.cps.toList.take i ++ [c] := by rw [List.take_add_one, hc']; rfl
    cases hpv : p c with
    | true =>
      rw [if_pos rfl]
      refine hf c hcm _ _ (same _) ⟨z.cps.size - (i + 1), by omega, upd_same, ?_, rfl, hlt, ?_, ?_⟩
      · have h1 := List.length_filter_le p (z.cps.toList.take i)
        have h2 : (z.cps.toList.take i).length ≤ i := by rw [List.length_take]; omega
        rw [List.length_map]
        omega
      · rw [tk, List.filter_append, List.map_append]
        simp [hpv]
      · rw [upd_upd]
    | false =>
      rw [if_neg (by decide)]
      refine ⟨z.cps.size - (i + 1), by omega, rfl, hlt, ?_, rfl⟩
      rw [tk, List.filter_append, List.map_append]
      simp [hpv]
  · have e : i = z.cps.size := by omega
    subst e
    refine .inl ⟨rfl, ?_⟩
    rw [List.take_of_length_le (by rw [esz]; exact Nat.le_refl _)]
    exact hQ l hl0
end L2

end
section
set_option Elab.async false
set_option linter.all false
set_option maxRecDepth 100000
set_option maxHeartbeats 2000000
namespace L2
open PySem PySem.Spec PyProof.Rows
/-! ### exceptions: how one flies -/
section
variable {P : Program} {w : World} {H H' : Hp} {h : Heap} {a : Addr} {o : HO}
theorem ObjOk.isThere (x : ObjOk P w H h a o) : ∃ u, h.get? a = some u := by
  cases o with
  | lst xs => obtain ⟨_, _, _, _, e⟩ := x; exact ⟨_, e⟩
  | tup xs => obtain ⟨_, _, _, ob, e, _⟩ := x; exact ⟨_, e⟩
  | dK kvs => obtain ⟨_, _, _, _, ob, _, _, e, _⟩ := x; exact ⟨_, e⟩
  | dT kvs => obtain ⟨_, _, _, _, ob, _, _, e, _⟩ := x; exact ⟨_, e⟩
  | set S n => obtain ⟨ob, _, _, _, e, _⟩ := x; exact ⟨_, e⟩
  | ins C dx fs => obtain ⟨_, _, _, e, _⟩ := x; exact ⟨_, e⟩
  | own y => exact x
  | xd fs => obtain ⟨_, ⟨_, _, _, e, _⟩, _⟩ := x; exact ⟨_, e⟩
  | rng lo hi => obtain ⟨_, _, _, e⟩ := x; exact ⟨_, e⟩
  | frz ob u => obtain ⟨e, _⟩ := x; exact ⟨_, e⟩
  | tbl ps => exact ⟨_, (show h.get? a = some _ from x)⟩
  | met f y => exact ⟨_, (show h.get? a = some _ from x)⟩
  | ext φ => exact x.2.1
end
/-- behind a call that an exception has left: B holds all that the exception's records don't touch -/
structure Over (P : Program) (w : World) (outer : List Env) (H : Hp) (s : Shared) (H' : Hp) (s' : Shared) (B : Heap) : Prop where
  os : s'.os = s.os
  bare : AllBare s'.gens
  un : Un (frs outer) [] H H' s.heap s'.heap
  hok : HOk P w H' s'.heap
  stays : B.StaysIn s'.heap
  trk : ∀ b o, H' b = some o → ∃ u, B.get? b = some u
  old : ∀ b o, s.heap.get? b = some o → b ∉ frs outer → ∃ u, B.get? b = some u
/-- the exception at e, of the own class at C -/
def CX1 (P : Program) (w : World) : CXT := fun outer H s E e s' => ∃ a C t H' B, e = .ref a ∧ Over P w outer H s H' s' B ∧ Heap.FlyingW B outer a (.ref C) (.ref t) s'.heap ∧ E (.ref C) none H'
section
variable {X : Cx} {pins : List (Addr × Obj)} {σ : St} {H H' : Hp} {s s' : Shared} {B h'' : Heap}
theorem Over.hok' {P : Program} {w : World} {outer : List Env} (O : Over P w outer H s H' s' B) (hB : B.StaysIn h'') : HOk P w H' h'' := fun b o e =>
  (O.hok b o e).stay (fun c v hc q => by
    have hx : ∃ x, H' c = some x := by
      rcases hc with z | z
      · exact ⟨o, by rw [z]; exact e⟩
      · exact ⟨_, z⟩
    obtain ⟨x, hx⟩ := hx
    obtain ⟨u, hu⟩ := O.trk c x hx
    have e2 := O.stays c u hu
    rw [q] at e2
    cases e2
    exact hB c v hu) (fun _ q => q) fun _ _ q => q
theorem Over.inv (O : Over X.prog X.w X.stack H s H' s' B) (I : Inv X pins σ H s) (hB : B.StaysIn h'') (up : s'.heap.UpToSlots h'') : Inv X pins σ H' { s' with heap := h'' } := by
  obtain ⟨hp', g', d', t', os'⟩ := s'
  have eos : os' = s.os := O.os
  subst eos
  have un := O.un
  have keepB : ∀ b ob, s.heap.get? b = some ob → H b = none → b ∉ frs X.stack → h''.get? b = some ob := fun b ob q n hb => by
    obtain ⟨u, hu⟩ := O.old b ob q hb
    have e1 := O.stays b u hu
    have e2 := un.keep b ob q n hb (by simp)
    rw [e1] at e2
    cases e2
    exact hB b ob hu
  have frame : ∀ b ob, b ∈ frs X.stack → s.heap.get? b = some ob → ∃ sl, h''.get? b = some { ob with slots := sl } := fun b ob hb q => by
    obtain ⟨_, o1, q1, nf⟩ := I.stack.mem hb
    rw [q] at q1
    cases q1
    obtain ⟨sl, e1⟩ := un.any q (I.stkFree b hb) (by simp)
    obtain ⟨sl', e2⟩ := up b _ e1 nf
    exact ⟨sl', e2⟩
  have nstk : ∀ b, b ≠ X.env.locals → b ∉ X.fs → b ∉ frs X.stack := fun b h1 h2 z => (List.mem_cons.mp (I.stkSub b z)).elim h1 h2
  show Inv X pins σ H' { s with heap := h'', gens := g', drawn := d', toks := t' }
  refine I.step (g' := g') (d' := d') (t' := t') (ch := []) (fun _ z => nomatch z) (fun b ob h1 h2 _ q n => keepB b ob q n (nstk b h1 h2)) (fun b ob h1 h2 _ q n => ?_) (fun b ob _ q n => un.free b ob q n (by simp)) (fun b ob _ q => ?_) un.tups un.frzs un.tbls (fun m hm => ?_) (O.hok' hB) O.bare
  · by_cases hb : b ∈ frs X.stack
    · exact frame b ob hb q
    · exact ⟨ob.slots, keepB b ob q n hb⟩
  · by_cases hb : b ∈ frs X.stack
    · obtain ⟨sl, e⟩ := frame b ob hb q
      exact ⟨_, e⟩
    · obtain ⟨u, hu⟩ := O.old b ob q hb
      exact ⟨u, hB b u hu⟩
  · obtain ⟨ob, es, ep, q, hd, r⟩ := hm
    by_cases hb : X.env.locals ∈ frs X.stack
    · obtain ⟨sl, e⟩ := frame _ ob hb q
      exact ⟨_, es, ep, e, hd, r⟩
    · exact ⟨ob, es, ep, keepB _ ob q I.free hb, hd, r⟩
theorem Over.leave (O : Over X.prog X.w X.stack H s H' s' B) (I : Inv X pins σ H s) (hB : B.StaysIn h'') (up : s'.heap.UpToSlots h'') (hx : X.ex = []) : Over X.prog X.w X.outer X.H₀ X.s₀ H' { s' with heap := h'' } B := by
  have J := O.inv I hB up
  have un := J.base
  rw [hx] at un
  refine ⟨J.os, J.bare, un, J.hok, hB, O.trk, fun b o q hb => ?_⟩
  obtain ⟨o1, q1⟩ := I.base.there b o q (by rw [hx]; simp)
  refine O.old b o1 q1 fun z => ?_
  rcases List.mem_cons.mp (I.stkSub b z) with e | e
  · exact absurd (Nat.lt_of_lt_of_le (Heap.lt_size q) I.ok.above) (by rw [e]; exact Nat.lt_irrefl _)
  · exact hb e
/-- what was made here -/
theorem Inv.over {e : Addr} {cls : Value} {vs : List Value} {h1 : Heap} (I : Inv X pins σ H s) (hx : Heap.MadeExcOf s.heap h1 e cls vs) : Over X.prog X.w X.stack H s H { s with heap := h1 } (PySem.W.hideAll s.heap (frs X.stack)) where
  os := rfl
  bare := I.bare
  un := Un.kept hx.keeps
  hok := I.hok.kept hx.keeps
  stays := fun b o q => hx.keeps b o (PySem.W.of_hideAll _ q)
  trk := fun b o q => by
    obtain ⟨u, hu⟩ := (I.hok b o q).isThere
    exact ⟨u, PySem.W.hideAll_get _ hu fun z => by rw [I.stkFree b z] at q; cases q⟩
  old := fun b o q hb => ⟨o, PySem.W.hideAll_get _ q hb⟩
end
/-! ### an exception passes a def's body -/
section
variable {P : Program} {w : World} {K : PySem.W.Frag} {mg : Str → Option Value} {base : Heap} {N : List Str} {qual : Str} {scope : Scope} {f : Addr} {cd : Value} {A : Around} {outer : List Env} {s : Shared} {H : Hp} {E : XK}
theorem passX : Passes (CX1 P w) (cxOf (CX1 P w) P w K mg base N qual scope f cd A outer s H E) E := by
  intro pins σ H1 s1 e s' I h
  obtain ⟨a, C, t, H', B, rfl, O, fl, hE⟩ := h
  exact wpAny_leaves_onW (L := s.heap.objs.size) I.ok.frames rfl fl fun h'' fl'' up => ⟨a, C, t, H', B, rfl, O.leave I fl''.1 up rfl, fl'', hE⟩
end
/-! ### own error classes under ValueError -/
abbrev bmV : List Value := [.type "ValueError", .type "Exception", .type "BaseException", .type "object"]
theorem exc_obj {K : PySem.W.Frag} {h : Heap} {C : Addr} {bmB : List Value} {newId : String} (X : K.In h) (q : PySem.W.excIn K C bmB newId = true) :
    ∃ bm N nm qn bs hdct sn sub ab col dd k0 k1 k2 k3 k5 mN,
      h.get? C = some (excClassObj nm qn C N bs bm hdct sn sub ab col dd k0 k1 k2 k3 k5 newId) ∧
      h.Ns N mN ∧ mN "__init__" = none ∧ OwnTail h bmB bm := by
  unfold PySem.W.excIn at q
  split at q
  · rename_i od cdt slt lk
    split at q
    · rename_i D bt j0 j1 j2 j3 nw j5 em es
      simp only [Bool.and_eq_true, beq_iff_eq, Bool.not_eq_true'] at q
      obtain ⟨⟨⟨⟨⟨z1, z2⟩, z3⟩, z4⟩, z5⟩, z6⟩ := q
      subst z1 z2
      cases cdt
      dsimp only at em z3 z5 z6
      subst em z3
      have esl : slt = #[j0, j1, j2, j3, some (.builtin nw), j5] := by
        cases slt
        dsimp only at es
        rw [es]
      subst esl
      refine ⟨bt, _, _, _, _, _, _, _, _, _, od, j0, j1, j2, j3, j5, _, X _ _ lk, .of_isNs (PySem.W.isNs_of_in X z5), ?_, PySem.W.tail_of_in X z4⟩
      exact PySem.W.nsMap_none_of_in X z5 z6
    · cases q
  · cases q
def tRaise (C : Addr) (E : XK) (t : TA) : TS := fun _ σ H => t σ H fun vs H1 => vs.length ≤ sizeLine ∧ E (.ref C) none H1
section
variable {P : Program} {w : World} {K : PySem.W.Frag} {mg : Str → Option Value} {base : Heap} {N : List Str} {qual : Str} {scope : Scope} {f : Addr} {cd : Value} {A : Around} {outer : List Env} {s : Shared} {H : Hp} {E : XK}
theorem ps_raise {x : Str} {C : Addr} {np cpos pos : Pos} {e : Expr} {es : List Expr} {t : TA}
    (hh : (A.deeper (envOfC qual scope s.heap.objs.size f cd)).handled = none) (hm : mg x = some (.ref C)) (hc : PySem.W.excIn K C bmV "ValueError.__new__" = true)
    (ha : PA (cxOf (CX1 P w) P w K mg base N qual scope f cd A outer s H E) (e :: es) t) (hg : Gl (cxOf (CX1 P w) P w K mg base N qual scope f cd A outer s H E) x := by rfl)
    (he : starEach (e :: es) (envOfC qual scope s.heap.objs.size f cd) = (false, eval e (envOfC qual scope s.heap.objs.size f cd)) :: starEach es (envOfC qual scope s.heap.objs.size f cd) := by rfl)
    (hpl : (backTo cpos (starEach es (envOfC qual scope s.heap.objs.size f cd))).any (·.1) = false := by rfl) (hdb : (x == ("__debug__" : Str)) = false := by decide) :
    PS (cxOf (CX1 P w) P w K mg base N qual scope f cd A outer s H E) (.Raise (some (.Call (.Name x np) (e :: es) [] cpos)) none pos) (tRaise C E t) := by
  intro pins s1 σ H1 D I h
  obtain ⟨bm, NN, nm, qn, bs, hdct, sn, sub, ab, col, dd, k0, k1, k2, k3, k5, mN, hC, hN, hni, T⟩ := exc_obj I.mod.kin hc
  refine wpAny_Raise_call_subT (C := C) (N := NN) (bm := bm) (mN := mN) (nm := nm) (q := qn) (bs := bs) (hdct := hdct) (sn := sn) (sub := sub) (ab := ab) (col := col) (dd := dd) (k0 := k0) (k1 := k1) (k2 := k2) (k3 := k3) (k5 := k5)
    PySem.F.excBase_ValueError (T.hasType PySem.F.excBase_ValueError.hasBase) hh ?pl hni (ld_glob I hg hm ⟨rfl, ?_⟩ hdb)
  case pl =>
    show (backTo cpos (starEach (e :: es) (envOfC qual scope s.heap.objs.size f cd))).any (·.1) = false
    rw [he]
    show (false || (backTo cpos (starEach es (envOfC qual scope s.heap.objs.size f cd))).any (·.1)) = false
    rw [hpl]; rfl
  show wpAny _ _ (evalArgs (.ref C) true (backTo cpos (starEach (e :: es) (envOfC qual scope s.heap.objs.size f cd))) []) _ _ _
  have hq := ha cpos pins s1 σ H1 _ I h
  have hq' : wpAny (model P w) (A.deeper (envOfC qual scope s.heap.objs.size f cd)) (spliced (backTo cpos (starEach (e :: es) (envOfC qual scope s.heap.objs.size f cd)))) _ _ s1 := hq
  rw [he] at hq' ⊢
  refine Calls.evalArgs_plain (thn hq' fun us s2 ⟨vs, H2, I2, r, hl, hE⟩ => ?_)
  refine ⟨rfl, by rw [← r.length]; exact hl, I2.bk _ _ hC, hN.keeps I2.bk, T.keeps I2.bk, fun h1 ex hx => ?_⟩
  have hin : ∀ env ∈ (cxOf (CX1 P w) P w K mg base N qual scope f cd A outer s H E).stack, ∀ b, env.frame = some b → b ∈ frs (cxOf (CX1 P w) P w K mg base N qual scope f cd A outer s H E).stack := fun env he b hb => List.mem_filterMap.mpr ⟨env, he, hb⟩
  exact wpAny_leaves_madeW (L := s.heap.objs.size) (base := PySem.W.hideAll s2.heap (frs (cxOf (CX1 P w) P w K mg base N qual scope f cd A outer s H E).stack)) I2.ok.frames rfl (fun b o q => PySem.W.of_hideAll _ q) (PySem.W.funFrames_hide I2.stack hin) hx
    fun h'' t'' fl _ _ up => ⟨ex, C, t'', H2, _, rfl, (I2.over hx).leave I2 fl.1 up rfl, fl, hE⟩
end
end L2
namespace L2
open PySem PySem.Spec PyProof.Rows
theorem PS.nox {X : Cx} {st : Stmt} {t : TS} (h : PS X.nox st t) : PS X st t := fun pins s σ H D I hw =>
  wpAny_mono (h pins s σ H D (I.wish _) hw) (fun _ _ q => q.unwish) fun _ _ z => False.elim z
/-- the address of a class of the text -/
def clsAt (K : PySem.W.Frag) (x : Str) : Addr := match PySem.W.nsIn K mainGlobals x with
  | some (some (.ref C)) => C
  | _ => 0
theorem clsAt_of {K : PySem.W.Frag} {x : Str} {C : Addr} (h : PySem.W.nsIn K mainGlobals x = some (some (.ref C))) : clsAt K x = C := by unfold clsAt; rw [h]
end L2

end
section
set_option Elab.async false
set_option linter.all false
set_option maxRecDepth 100000
set_option maxHeartbeats 2000000
namespace L2
open PySem PySem.Spec PyProof.Rows
/-! ### an exception that was caught, as a thing -/
def isExc (a C : Addr) (h : Heap) : Prop := ∃ o vs, h.get? a = some o ∧ o.cls = .ref C ∧ o.data = .fields vs
def excO (a C : Addr) : HO := .ext (isExc a C)
section
variable {X : Cx} {pins : List (Addr × Obj)} {σ : St} {H : Hp} {s : Shared}
/-- an untracked object is tracked from here on -/
theorem Inv.track {a : Addr} {o : HO} (I : Inv X pins σ H s) (hn : H a = none) (h0 : X.s₀.heap.get? a = none) (hL : a ≠ X.env.locals) (hC : ∀ x c, X.env.cells.lookup x = some c → c ≠ a) (hP : ∀ p ∈ X.pn ++ pins, p.1 ≠ a)
    (new : ObjOk X.prog X.w (upd H a o) s.heap a o) : Inv X pins σ (upd H a o) s where
  ok := I.ok
  os := I.os
  bare := I.bare
  base := by
    have ne : ∀ b u, X.s₀.heap.get? b = some u → b ≠ a := fun b u q z => by rw [z, h0] at q; cases q
    have nt : ∀ b u, H b = some u → b ≠ a := fun b u q z => by rw [z, hn] at q; cases q
    have u := I.base
    refine ⟨u.keep, u.slot, fun b ob q n hx => ?_, u.there, fun b xs q => ?_, fun b ob xs q => ?_, fun b ps q => ?_⟩
    · rw [upd_ne (ne b ob q)]; exact u.free b ob q n hx
    · have q1 := u.tups b xs q
      rw [upd_ne (nt b _ q1)]; exact q1
    · have q1 := u.frzs b ob xs q
      rw [upd_ne (nt b _ q1)]; exact q1
    · obtain ⟨m, q1⟩ := u.tbls b ps q
      exact ⟨m, by rw [upd_ne (nt b _ q1)]; exact q1⟩
  loc := I.loc
  cell := I.cell
  free := by rw [upd_ne (Ne.symm hL)]; exact I.free
  freeC := fun x c e => by rw [upd_ne (hC x c e)]; exact I.freeC x c e
  pin := fun p hp => by
    obtain ⟨q1, q2, q3⟩ := I.pin p hp
    exact ⟨q1, by rw [upd_ne (hP p hp)]; exact q2, q3⟩
  hok := fun b u q => by
    by_cases hb : b = a
    · subst hb
      rw [upd_same] at q
      cases q
      exact new
    · rw [upd_ne hb] at q
      have nt : ∀ c v, H c = some v → c ≠ a := fun c v q z => by rw [z, hn] at q; cases q
      exact (I.hok b u q).stay (fun _ _ _ e => e) (fun c e => by rw [upd_ne (nt c _ e)]; exact e) fun c xs e => by rw [upd_ne (nt c _ e)]; exact e
  len := I.len
/-- a local name is gone -/
theorem Inv.unbound {n : Str} {i : Nat} {h' : Heap} {v : Option Value} {m : Str → Option Value} {t' : Nat} (I : Inv X pins σ H s) (hN : X.N.Nodup) (hi : X.N[i]? = some n)
    (hm : s.heap.Ns X.env.locals m) (hl : ∀ (j : Nat) (x : Str) (v : V), X.N[j]? = some x → σ[j]? = some (some v) → Vis X.env.scope x → ∃ u, RelV v u ∧ Look X.env s.heap m x u)
    (hn : h'.Ns X.env.locals (fun x => if x = n then v else m x)) (hs : Heap.SameBut X.env.locals s.heap h') : Inv X pins (σ.set i none) H { s with heap := h', toks := t' } := by
  have ne0 : ∀ b o, X.s₀.heap.get? b = some o → h'.get? b = s.heap.get? b := fun b o e => hs.2 b (Nat.ne_of_lt (Nat.lt_of_lt_of_le (Heap.lt_size e) I.ok.above))
  have hiσ : i < σ.length := by rw [I.len]; exact (List.getElem?_eq_some_iff.mp hi).1
  refine ⟨I.ok, I.os, I.bare, ⟨fun b o e nn hb hx => ?_, fun b o e nn hb hx => ?_, I.base.free, fun b o e hx => ?_, I.base.tups, I.base.frzs, I.base.tbls⟩, ⟨_, hn, fun j y v' e1 e2 e3 => ?_⟩, fun y c e => ?_, I.free, I.freeC, fun p hp => ?_, fun b ob e => ?_, by simpa using I.len⟩
  · exact (ne0 b o e).trans (I.base.keep b o e nn hb hx)
  · obtain ⟨sl, e1⟩ := I.base.slot b o e nn hb hx
    exact ⟨sl, (ne0 b o e).trans e1⟩
  · obtain ⟨o', e1⟩ := I.base.there b o e hx
    exact ⟨o', (ne0 b o e).trans e1⟩
  · by_cases hj : j = i
    · subst hj
      rw [List.getElem?_set_self hiσ] at e2
      cases e2
    · rw [List.getElem?_set_ne (Ne.symm hj)] at e2
      obtain ⟨u', r', q⟩ := hl j y v' e1 e2 e3
      refine ⟨u', r', ?_⟩
      rcases q with ⟨k, e⟩ | ⟨k, c, e, z⟩
      · have : y ≠ n := fun e => hj (nodup_ix hN e1 (e ▸ hi))
        exact .inl ⟨k, by simp [this, e]⟩
      · exact .inr ⟨k, c, e, z.sameBut hs (I.cne y c e)⟩
  · obtain ⟨w', z⟩ := I.cell y c e
    exact ⟨w', z.sameBut hs (I.cne y c e)⟩
  · obtain ⟨e, nn, ne, nf, d⟩ := I.pin p hp
    exact ⟨(hs.2 p.1 ne).trans e, nn, ne, nf, d⟩
  · obtain ⟨oL, _, _, hoL, _⟩ := id hm
    refine (I.hok b ob e).stay (fun c w' hc q => (hs.2 c ?_).trans q) (fun _ q => q) fun _ _ q => q
    rintro rfl
    rcases hc with z | z
    · subst z; rw [I.free] at e; cases e
    · rw [I.free] at z; cases z
/-- within an except suite -/
def Cx.held (X : Cx) (e : Value) : Cx := { X with A := X.A.mark (some e), calm := false }
theorem Inv.held (I : Inv X pins σ H s) (e : Value) : Inv (X.held e) pins σ H s :=
  ⟨⟨I.ok.mod, I.ok.kind, I.ok.glob, I.ok.blt, I.ok.above, I.ok.inj, I.ok.has, I.ok.cab, (fun z => nomatch z), I.ok.frames, I.ok.stk, I.ok.exf, I.ok.bs, I.ok.bsz, I.ok.noex, I.ok.exfs, I.ok.funs, I.ok.frf⟩, I.os, I.bare, I.base, I.loc, I.cell, I.free, I.freeC, I.pin, I.hok, I.len⟩
theorem Inv.unheld {e : Value} (ok : X.Ok) (I : Inv (X.held e) pins σ H s) : Inv X pins σ H s := ⟨ok, I.os, I.bare, I.base, I.loc, I.cell, I.free, I.freeC, I.pin, I.hok, I.len⟩
end
/-! ### except R: -/
theorem excMatches_own {M : Model} {K : PySem.W.Frag} {A : Around} {E : Value → Shared → Prop} {s : Shared} {a C R : Addr} {Q : Bool → Shared → Prop} (X : K.In s.heap) (ha : isExc a C s.heap)
    (hR : PySem.W.excIn K R bmV "ValueError.__new__" = true) (hm : PySem.W.mroIn K C (.ref R) = some true) (h : Q true s) : wpAny M A (excMatches (.ref a) (.ref R)) Q E s := by
  obtain ⟨bm, NN, nm, qn, bs, hdct, sn, sub, ab, col, dd, k0, k1, k2, k3, k5, mN, hC, hN, hni, T⟩ := exc_obj X hR
  obtain ⟨o, vs, ho, hcls, _⟩ := ha
  have hcB : (Value.ref R :: bm).contains (.type "BaseException") = true := by rw [List.contains_cons, T.hasType PySem.F.excBase_ValueError.hasBase, Bool.or_true]
  have f := tc_notTuple
  have L := PySem.W.looks_mroIn (M := M) X hm
  obtain ⟨hp, g, d, tk, os⟩ := s
  unfold excMatches
  repeat (first | (with_reducible refine wpAny_loadPart_at ho ?_; rw [hcls]) | with_reducible refine wpAny_loadPart_at hC ?_ | (with_reducible refine wpAny_isSubtype_exc hC ?_; rw [hcB]) | (with_reducible refine L.at ?_) | wp_step)
  exact h
end L2

end
section
set_option Elab.async false
set_option linter.all false
set_option maxRecDepth 100000
set_option maxHeartbeats 2000000
namespace L2
open PySem PySem.Spec PyProof.Rows
/-! ### a def that may raise, by its name -/
structure OwnX (P : Program) (w : World) (K : PySem.W.Frag) (mg : Str → Option Value) (base : Heap) (k : Nat) (x : Str) (ps : List Str) (sp : Sp) : Prop where
  ex : ∃ f fd, FnOk P w K mg base (CX1 P w) k f fd ps sp ∧ mg x = some (.ref f) ∧ PySem.W.keepIn K (.ref f) = true ∧ Binds K fd ps []
theorem OwnX.mk' {P : Program} {w : World} {K : PySem.W.Frag} {mg : Str → Option Value} {base : Heap} {k : Nat} {x : Str} {ps : List Str} {sp : Sp} {f : Addr} {fd : FuncData} (G : FnOk P w K mg base (CX1 P w) k f fd ps sp) (hm : mg x = some (.ref f)) (hk : PySem.W.keepIn K (.ref f) = true) (hb : Binds K fd ps []) : OwnX P w K mg base k x ps sp := ⟨f, fd, G, hm, hk, hb⟩
section
variable {P : Program} {w : World} {K : PySem.W.Frag} {mg : Str → Option Value} {base : Heap}
theorem Fun.okX {x qual : Str} {st : Stmt} {f : Addr} {fd : FuncData} {N ps : List Str} {k : Nat} {sp : Sp} (F : Fun K x qual st f fd) (S : FnScope N ps (defScope st)) (len : ∀ vs H Q E, sp vs H Q E → vs.length = ps.length)
    (hbody : ∀ (cdv : Value) (A : Around) (outer : List Env) (s : Shared) (H : Hp) (vs : List V) (Q : VK) (E : XK), Room k (A.deeper (envOfC qual (defScope st) s.heap.objs.size f cdv)) → sp vs H Q E →
      ∃ t, PSs (cxOf (CX1 P w) P w K mg base N qual (defScope st) f cdv A outer s H E) (defBody st) t ∧ t { nx := fun _ H' => Q .non H', rt := Q } (start N vs) H) : FnOk P w K mg base (CX1 P w) (k + 1) f fd ps sp := by
  obtain ⟨oc, od, kV, doc, pm, an, cdv, ct, osl, rfl, lk, hcd⟩ := F.ex
  exact fn_of lk hcd S len fun A outer s H vs Q E hr hsp => hbody cdv A outer s H vs Q E hr hsp
end
section
variable {X : Cx} {k : Nat} {x : Str} {ps : List Str} {sp : Sp} {p pos : Pos} {e : Expr} {es : List Expr} {t : TA} {E : XK}
theorem pe_ownX (F : OwnX X.prog X.w X.K X.mg X.base k x ps sp) (hr : Room k X.A) (hx : Passes (CX1 X.prog X.w) X E) (ha : PA X (e :: es) t) (hg : Gl X x := by rfl)
    (hdb : (x == ("__debug__" : Str)) = false := by decide) (he : starEach (e :: es) X.env = (false, eval e X.env) :: starEach es X.env := by rfl) (hpl : (backTo pos (starEach es X.env)).any (·.1) = false := by rfl) :
    PE X (.Call (.Name x p) (e :: es) [] pos) (tCall sp [] E t) := by
  obtain ⟨f, fd, G, hm, hk, hb⟩ := F.ex
  exact pe_call G hr hg hm hk hb .nil hx ha hdb he hpl
/-! ### at one frame: what may raise -/
/-- an expression, the names' values fixed -/
def PXE (X : Cx) (e : Expr) (t : XK → TE) : Prop := ∀ (pins : List (Addr × Obj)) (s : Shared) (σ : St) (H : Hp) (Q : VK) (E : XK) (xe : Value → Shared → Prop), Inv X pins σ H s →
  (∀ H1 s1 e s', Inv X pins σ H1 s1 → CX1 X.prog X.w X.stack H1 s1 E e s' → xe e s') → t E σ H Q → wpAny (model X.prog X.w) X.A (eval e X.env) (EP X pins σ Q) xe s
def SPK (X : Cx) (pins : List (Addr × Obj)) (σ : St) (D : Ends) (f : Flow) (s' : Shared) : Prop :=
  match f with
  | .next => ∃ H', Inv X pins σ H' s' ∧ D.nx σ H'
  | _ => False
/-- a statement that stores no name -/
def PXK (X : Cx) (st : Stmt) (t : XK → TS) : Prop := ∀ (pins : List (Addr × Obj)) (s : Shared) (σ : St) (H : Hp) (D : Ends) (E : XK) (xe : Value → Shared → Prop), Inv X pins σ H s →
  (∀ H1 s1 e s', Inv X pins σ H1 s1 → CX1 X.prog X.w X.stack H1 s1 E e s' → xe e s') → t E D σ H → wpAny (model X.prog X.w) X.A (exec st X.env) (SPK X pins σ D) xe s
def PXKs (X : Cx) (st : List Stmt) (t : XK → TS) : Prop := ∀ (pins : List (Addr × Obj)) (s : Shared) (σ : St) (H : Hp) (D : Ends) (E : XK) (xe : Value → Shared → Prop), Inv X pins σ H s →
  (∀ H1 s1 e s', Inv X pins σ H1 s1 → CX1 X.prog X.w X.stack H1 s1 E e s' → xe e s') → t E D σ H → wpAny (model X.prog X.w) X.A (execs st X.env) (SPK X pins σ D) xe s
/-- a block -/
def PXs (X : Cx) (st : List Stmt) (t : XK → TS) : Prop := ∀ (pins : List (Addr × Obj)) (s : Shared) (σ : St) (H : Hp) (D : Ends) (E : XK) (xe : Value → Shared → Prop), Inv X pins σ H s →
  (∀ H1 s1 e s', Inv X pins σ H1 s1 → CX1 X.prog X.w X.stack H1 s1 E e s' → xe e s') → t E D σ H → wpAny (model X.prog X.w) X.A (execs st X.env) (SP X pins D) xe s
theorem px_call (F : OwnX X.prog X.w X.K X.mg X.base k x ps sp) (hr : Room k X.A) (ha : PA X.nox (e :: es) t) (hg : Gl X x := by rfl)
    (hdb : (x == ("__debug__" : Str)) = false := by decide) (he : starEach (e :: es) X.env = (false, eval e X.env) :: starEach es X.env := by rfl) (hpl : (backTo pos (starEach es X.env)).any (·.1) = false := by rfl) :
    PXE X (.Call (.Name x p) (e :: es) [] pos) (fun E => tCall sp [] E t) := by
  intro pins s σ H Q E xe I hp h
  obtain ⟨f, fd, G, hm, hk, hb⟩ := F.ex
  refine wpAny_Call_Name_kw (ld_glob I hg hm ?_ hdb)
  refine PySem.W.callWith_K (h₀ := X.base) I.ok.mod.kin hk (wpAny_mono (ha pos pins s σ H _ (I.wish _) h) (fun us s1 ⟨vs, H1, I1, r, q⟩ => ⟨I1.kIn, ?_⟩) fun _ _ z => z.elim) he hpl
  have I1' : Inv X pins σ H1 s1 := I1.unwish
  have hl : us.length = ps.length := by rw [← r.length]; have := G.len _ _ _ _ q; simpa using this
  refine wpAny_call (codeAny_mono (G.run X.A X.stack s1 H1 ⟨us, []⟩ us vs Q E hr I1'.env0 (by have := hb s1 us I1'.kIn (by simpa using hl); simpa using this) r (by simpa using q)) fun res s' hq => ?_)
  cases res with
  | error er => exact hp H1 s1 er s' I1' hq
  | ok fl =>
    cases fl with
    | ret u => exact I1'.after hq
    | next => exact False.elim hq
    | brk => exact False.elim hq
    | cont => exact False.elim hq
/-- name = value, alone -/
theorem pxs_set {i : Nat} {y : Str} {te : XK → TE} {pos' : Pos} (hN : X.N.Nodup) (hi : X.N[i]? = some y) (hy : Loc X.env.scope y) (he : PXE X e te) (hs : swapsWith e (some (.Name y pos')) pos.line X.env = pure false := by rfl) (hf : X.fn y = true ∨ X.env.scope.names.lookup y = some .local := by first | exact .inl rfl | exact .inr rfl | assumption) :
    PXs X [.Assign [.Name y pos'] e pos] (fun E => tAsg (te E) (gName i)) := by
  intro pins s σ H D E xe I hp h
  refine wpAny_execs_cons (wpAny_Assign_Name (thn (he pins s σ H _ E xe I hp h) fun v s1 ⟨z, H1, I1, r1, q1⟩ => ?_) hs)
  exact store_ok I1 hN hi hy r1 (fun s2 I2 => wpAny_execs_nil ⟨_, H1, I2, q1⟩) hf
end
/-! ### try: .. except R as n: .. -/
/-- behind the suite the name in slot i is gone -/
def goneAt (D : Ends) (i : Nat) : Ends := { nx := fun σ H => D.nx (σ.set i none) H, rt := D.rt, bk := fun σ H => D.bk (σ.set i none) H, ct := fun σ H => D.ct (σ.set i none) H }
def tTry (K : PySem.W.Frag) (R : Addr) (i : Nat) (tb : XK → TS) (th : TS) : TS := fun D σ H =>
  tb (fun cls _ H1 => ∃ C, cls = .ref C ∧ PySem.W.mroIn K C (.ref R) = some true ∧ ∀ a, H1 a = none → th (goneAt D i) (σ.set i (some (.ref a))) (upd H1 a (excO a C))) D σ H
section
variable {X : Cx} {body : List Stmt} {b0 : Stmt} {suite : List Stmt} {x n : Str} {R : Addr} {i : Nat} {np hpos pos : Pos} {tb : XK → TS} {th : TS}
theorem SP.gone {e : Value} {pins : List (Addr × Obj)} {D : Ends} {f : Flow} {s' : Shared} {E : Value → Shared → Prop} (ok : X.Ok) (hN : X.N.Nodup) (hi : X.N[i]? = some n) (hl : X.env.scope.names.lookup n = some .local) (h : SP (X.held e).nox pins (goneAt D i) f s') :
    wpAny (model X.prog X.w) X.A (do bindName X.env n .none; unbindBehindTheSuite X.env n hpos) (fun _ s'' => SP X pins D f s'') E s' := by
  have key : ∀ {σ' : St} {H' : Hp} (Q : Unit → Shared → Prop), Inv (X.held e).nox pins σ' H' s' → (∀ s'', Inv X pins (σ'.set i none) H' s'' → Q () s'') →
      wpAny (model X.prog X.w) X.A (do bindName X.env n .none; unbindBehindTheSuite X.env n hpos) Q E s' := fun {σ' H'} Q I q => by
    have I' : Inv X pins σ' H' s' := (Inv.unwish I).unheld ok
    obtain ⟨m, hm, hl'⟩ := id I'.loc
    exact wpAny_nameGoes_keeps hl hm (by rw [I'.ok.kind]; rfl) fun h'' v hn hs => q _ (I'.unbound hN hi hm hl' hn hs)
  cases f with
  | next => obtain ⟨σ', H', I, q⟩ := h; exact key _ I fun s'' J => ⟨_, H', J, q⟩
  | brk => obtain ⟨σ', H', I, q⟩ := h; exact key _ I fun s'' J => ⟨_, H', J, q⟩
  | cont => obtain ⟨σ', H', I, q⟩ := h; exact key _ I fun s'' J => ⟨_, H', J, q⟩
  | ret u => obtain ⟨v, σ', H', I, r, q⟩ := h; exact key _ I fun s'' J => ⟨v, _, H', J, r, q⟩
theorem ps_try (hb : PXs X body tb) (hs : ∀ a, PSs (X.held (.ref a)).nox (b0 :: suite) th) (hm : X.mg x = some (.ref R)) (hR : PySem.W.excIn X.K R bmV "ValueError.__new__" = true)
    (hN : X.N.Nodup) (hi : X.N[i]? = some n) (hl : X.env.scope.names.lookup n = some .local) (hg : Gl X x := by rfl) (hex : X.ex = [] := by rfl) (hst : X.stack = X.env :: X.outer := by rfl) (hfr : X.env.frame = some X.env.locals := by rfl) (hdb : (x == ("__debug__" : Str)) = false := by decide) :
    PS X (.Try body [.ExceptHandler (some (.Name x np)) (some n) (b0 :: suite) hpos] [] [] pos) (tTry X.K R i tb th) := by
  intro pins s σ H D I h
  refine wpAny_Try_except (thn (hb pins s σ H D _ _ I ?pass h) fun f s1 q => ?_)
  case pass =>
    intro H1 s1 e s' I1 hx
    obtain ⟨a, C, t, H', B, rfl, O, fl, C', eC, hsub, q⟩ := hx
    cases eC
    rw [hst] at fl
    refine wpAny_looks_onW (by rw [← hst]; exact I1.ok.frames) hfr fl fun h₄ held up4 => ?_
    refine wpAny_landsW held fun h₅ fl5 up5 => ?_
    have I5 := O.inv I1 fl5.1 (up4.trans up5)
    have ex5 : isExc a C h₅ := by obtain ⟨oe, vs, he, hc, hd, _⟩ := fl5.first; exact ⟨oe, vs, he, hc, hd⟩
    refine wpAny_handleBy_cons (codeAny_handlers_test (ld_glob (X := X.held (.ref a)) (I5.held (.ref a)) hg hm ?_ hdb)) (by intro q; cases q)
    refine excMatches_own I5.kIn ex5 hR hsub ?_
    rw [if_pos rfl]
    refine codeAny_handlers_suite_as (lands_againW fl5 fun h₆ fl6 up6 => ?_)
    have I6 := O.inv I1 fl6.1 ((up4.trans up5).trans up6)
    have ex6 : isExc a C h₆ := by obtain ⟨oe, vs, he, hc, hd, _⟩ := fl6.first; exact ⟨oe, vs, he, hc, hd⟩
    have nB : B.get? a = none := fl6.2.1
    have hn : H' a = none := by
      cases z : H' a with
      | none => rfl
      | some u => obtain ⟨v, hv⟩ := O.trk a u z; rw [nB] at hv; cases hv
    have nst : ∀ b, s1.heap.get? b ≠ none → b ∉ frs X.stack → b ≠ a := fun b h1 h2 z => by
      subst z
      cases z : s1.heap.get? b with
      | none => exact h1 z
      | some u => obtain ⟨v, hv⟩ := O.old b u z h2; rw [nB] at hv; cases hv
    have nfr : a ∉ frs X.stack := fun z => by
      rw [hst] at z
      obtain ⟨_, o1, e1, nf⟩ := fl6.2.2.1.mem z
      obtain ⟨o2, vs, e2, _, hd⟩ := ex6
      rw [e1] at e2; cases e2; exact nf vs hd
    have J := I6.track (a := a) (o := excO a C) hn ?h0 ?hL ?hC ?hP ?new
    case h0 =>
      cases z : X.s₀.heap.get? a with
      | none => rfl
      | some u =>
        obtain ⟨o1, q1⟩ := I1.base.there a u z (by rw [hex]; simp)
        exact absurd rfl (nst a (by rw [q1]; simp) nfr)
    case hL =>
      intro z
      obtain ⟨m, ⟨oL, es, ep, hoL, hd, _⟩, _⟩ := I6.loc
      obtain ⟨o2, vs, e2, _, hd2⟩ := ex6
      rw [← z] at hoL
      have e3 : some o2 = some oL := e2.symm.trans hoL
      cases e3; rw [hd] at hd2; cases hd2
    case hC =>
      intro y c e z
      obtain ⟨v, o3, e3, hd⟩ := I6.cell y c e
      obtain ⟨o2, vs, e2, _, hd2⟩ := ex6
      rw [z] at e3
      have e4 : some o2 = some o3 := e2.symm.trans e3
      cases e4; rw [hd] at hd2; cases hd2
    case hP =>
      intro p hp
      obtain ⟨q1, _, q3, q4, _⟩ := I1.pin p hp
      exact nst p.1 (by rw [q1]; simp) fun z => (List.mem_cons.mp (I1.stkSub _ z)).elim q3 q4
    case new => exact ⟨ex6, (let ⟨o, _, e, _⟩ := ex6; ⟨o, e⟩), fun h1 h2 ⟨o, vs, e, c⟩ k => ⟨o, vs, k o e, c⟩⟩
    refine store_ok J hN hi (.inl hl) (v := .ref a) rfl (fun s7 I7 => ?_) (.inr hl)
    refine wpAny_mono (hs a pins s7 _ _ (goneAt D i) ((I7.held (.ref a)).wish _) (q a hn)) (fun f s8 q8 => ?_) fun _ _ z => z.elim
    exact SP.gone I.ok hN hi hl q8
  · cases f with
    | next => exact wpAny_execs_nil q
    | ret v => exact q
    | brk => exact q
    | cont => exact q
end
end L2

end
section
set_option Elab.async false
set_option linter.all false
set_option maxRecDepth 100000
set_option maxHeartbeats 2000000
namespace L2
open PySem PySem.Spec PyProof.Rows Builtin Builtin.ObjectAttr Builtin.Getset_descriptor
/-! ### isinstance(e, C), e an exception of an own class -/
structure ExcK (K : PySem.W.Frag) (C : Addr) : Prop where
  ga : PySem.W.findIn K (.ref C) "__getattribute__" = some (some (.builtin "BaseException.__getattribute__"))
  gn : PySem.W.findIn K (.ref C) "__getattr__" = some none
  cl : PySem.W.findIn K (.ref C) "__class__" = some (some (.builtin "object.__class__"))
  sg : PySem.W.specialIn K (.builtin "object.__class__") "__get__" = some (some (.builtin "getset_descriptor.__get__"))
  tk : PySem.W.takesIn K (.builtin "object.__class__") = some true
  mo : PySem.W.mroIn K C (.type "object") = some true
  mb : PySem.W.mroIn K C (.type "BaseException") = some true
section
variable {K : PySem.W.Frag} {a C : Addr}
theorem isExc.ty {M : Model} {h : Heap} (p : isExc a C h) : PySem.W.Looks M h (typeOf (.ref a)) (.ref C) := by
  obtain ⟨o, vs, h1, h2, _⟩ := p
  exact h2 ▸ (PySem.W.Looks.ld h1).andThen .now
theorem ExcK.cls (F : ExcK K C) : ∃ c d cd sl, K.lookup C = some ⟨c, d, .cls cd, sl⟩ := by
  have e := F.mo
  unfold PySem.W.mroIn at e
  obtain ⟨cd, h, _⟩ := Option.bind_eq_some_iff.mp e
  unfold PySem.W.clsIn at h
  split at h
  · rename_i lk; exact ⟨_, _, _, _, lk⟩
  · cases h
theorem exc_get {prog : Program} {w : World} {A : Around} {R : Result → Shared → Prop} {s : Shared} {tp : Value} (L0 : PySem.W.Looks (model prog w) s.heap (typeOf (.ref a)) (.ref C))
    (L1 : PySem.W.Looks (model prog w) s.heap (isSubtype (.ref C) (.type "object")) true) (h : R (.ok (.ret (.ref C))) s) :
    codeAny (model prog w) A (.call (.builtin "getset_descriptor.__get__") ⟨[.builtin "object.__class__", .ref a, tp], []⟩) R s := by
  obtain ⟨h0, g0, d0, t0, o0⟩ := s
  refine codeAny_call_builtin PySem.W.KF.slot_gs.plain PySem.W.KF.entry_gs
    (PySem.W.KF.slot_gs.check _ _ _ _ _ _ _ _ PySem.W.KF.type_class (PySem.W.KF.args_gs _ _ _) ?_)
  unfold Builtin.«getset_descriptor.__get__»; unfold descrGet
  rw [PySem.W.dga_obj]; refine wpAny_bind (wpAny_pure ?_)
  unfold descrGetter; unfold descrCheckInstance descrNameAndClass; unfold isInstance
  simp only [PySem.W.KF.owner_class]; repeat lk
  refine ⟨Code.quiet_builtin _ (by decide +kernel),
    codeAny_builtin PySem.W.KF.entry_class ?_⟩
  unfold Builtin.«object.__class__»; unfold shownTypeOf; repeat lk
  exact h
theorem exc_check {M : Model} {A : Around} {E : Value → Shared → Prop} {s : Shared} {nv : Value} {Q : Unit → Shared → Prop} (L0 : PySem.W.Looks M s.heap (typeOf (.ref a)) (.ref C))
    (L1 : PySem.W.Looks M s.heap (isSubtype (.ref C) (.type "BaseException")) true) (h : Q () s) : wpAny M A (checkBuiltinCall "BaseException.__getattribute__" ⟨[.ref a, nv], []⟩) Q E s := by
  have kd : builtinKind "BaseException.__getattribute__" = some .slot := by decide +kernel
  have sp : splitId "BaseException.__getattribute__" = some ("BaseException", "__getattribute__") := by decide +kernel
  have ao := PySem.F.args_bexc_ga (.ref a) nv
  have LI : PySem.W.Looks M s.heap (isInstance (.ref a) (.type "BaseException")) true := L0.andThen L1
  simp only [checkBuiltinCall, kd, sp]
  refine wpAny_bind (LI.at ?_)
  obtain ⟨h0, g0, d0, t0, o0⟩ := s
  repeat wp_step
  exact h
theorem exc_class {prog : Program} {w : World} {A : Around} {E : Value → Shared → Prop} {Q : Option Value → Shared → Prop} {s : Shared} (F : ExcK K C) (X : K.In s.heap) (p : isExc a C s.heap) (h : Q (some (.ref C)) { s with toks := s.toks + 1 }) :
    wpAny (model prog w) A (getAttr? (.ref a) "__class__") Q E s := by
  obtain ⟨hp, g, d, t, os⟩ := s
  have L0 := p.ty (M := model prog w)
  have L1 := PySem.W.looks_findIn (M := model prog w) X F.ga
  have L2 := PySem.W.looks_findIn (M := model prog w) X F.gn
  have L3 := PySem.W.looks_findIn (M := model prog w) X F.cl
  have L4 := PySem.W.looks_specialIn (M := model prog w) X F.sg
  have L5 := PySem.W.looks_takesIn (M := model prog w) X F.tk
  have L6 := PySem.W.looks_mroIn (M := model prog w) X F.mo
  have L7 := PySem.W.looks_mroIn (M := model prog w) X F.mb
  have hG := PySem.F.excAttr_ValueError.ga
  have LF : PySem.W.Looks (model prog w) hp (Builtin.ObjectAttr.find (.ref a) (.ref C) "__class__") (.bind (.builtin "getset_descriptor.__get__") (.builtin "object.__class__")) :=
    L3.andThen (L4.andThen ((show PySem.W.Looks (model prog w) hp (Builtin.ObjectAttr.dataDescriptor? (some (.builtin "object.__class__")) (some (.builtin "getset_descriptor.__get__"))) _ from L5.andThen .now).andThen (PySem.W.Looks.tag .now)))
  unfold getAttr? getAttrBy? getAttrBy
  refine wpAny_bind (wpAny_mkText (wpAny_bind (wpAny_attempt (wpAny_holding (wpAny_bind (L0.at (wpAny_bind (L1.at ?_))))))))
  simp only [show (onTheHeap (Value.ref C) && (Value.builtin "BaseException.__getattribute__" == Value.builtin "object.__getattribute__")) = false by rfl]
  rw [if_neg (by decide)]
  unfold getAttrByItsOwn hookBefore
  rw [if_pos (show onTheHeap (Value.ref C) = true by rfl)]
  refine wpAny_bind (L2.at (wpAny_bind (wpAny_attempt (wpAny_holding ?_))))
  unfold callGetattribute
  simp only [Bool.false_and]
  rw [if_neg (by decide)]
  unfold boundAndCalled
  refine wpAny_bind (wpAny_of_eq (hG.bind (.ref a)) ?_)
  refine wpAny_call (codeAny_call_builtin hG.plain PySem.F.entry_bexc_ga (exc_check L0 L7 ?_))
  unfold Builtin.«object.__getattribute__»
  refine wpAny_bind (wpAny_pure ?_)
  dsimp only
  refine wpAny_bind (wpAny_pure (wpAny_bind (L0.at (wpAny_bind (LF.at ?_)))))
  dsimp only
  unfold bindTo
  dsimp only
  refine wpAny_bind (wpAny_holding (wpAny_call (exc_get L0 L6 ?_)))
  exact wpAny_pure (wpAny_pure (wpAny_pure h))
theorem kitx_exc (F : ExcK K C) : PySem.W.KitX K (.ref a) (.ref C) (isExc a C) where
  ty := fun _ _ _ p => p.ty
  it := fun _ _ X _ => by
    obtain ⟨c, d, cd, sl, lk⟩ := F.cls
    intro A' Q' E' s' k q
    unfold isType loadHead
    exact wpAny_bind (wpAny_loadPart (k _ _ (X _ _ lk)) (wpAny_pure q))
  ne := fun h tp dd its n sl X htp => by
    obtain ⟨c, d, cd, sl', lk⟩ := F.cls
    refine Bool.eq_false_iff.mpr fun q => ?_
    have e : C = tp := Value.ref.inj (beq_iff_eq.mp q)
    subst e
    have z := (X _ _ lk).symm.trans htp
    cases z
  ca := fun X p k => exc_class F X p k
end
/-- isinstance(e, R) of a caught exception e -/
def rIsiX (K : PySem.W.Frag) : List V → Hp → VK → Prop := fun vs H Q => match vs with
  | [.ref a, .ref R] => ∃ C b, H a = some (excO a C) ∧ ExcK K C ∧ PySem.W.kitOne K (.ref C) (.ref R) = some b ∧ Q (.bl b) H
  | [.ref a, .ty T] => ∃ C b, H a = some (excO a C) ∧ ExcK K C ∧ PySem.W.kitOne K (.ref C) (.type T) = some b ∧ Q (.bl b) H
  | _ => False
theorem call_isiX {X : Cx} : CallR X (.builtin "isinstance") (rIsiX X.K) := by
  intro pins s σ H xs us Q I rv h
  have go : ∀ (a C : Addr) (c : Value) (b : Bool), H a = some (excO a C) → ExcK X.K C → PySem.W.kitOne X.K (.ref C) c = some b → Q (.bl b) H → wpAny (model X.prog X.w) X.A (call (.builtin "isinstance") [.ref a, c]) (EP X pins σ Q) X.xe s := fun a C c b ha F e q => by
    have hx : isExc a C s.heap := (I.hok a _ ha).1
    exact PySem.W.kia_one (kitx_exc F) I.kIn hx e (fun z => nomatch z) fun tk => ⟨.bl b, H, I.tok tk, rfl, q⟩
  unfold rIsiX at h
  split at h
  · obtain ⟨C, b, ha, F, e, q⟩ := h
    obtain ⟨u, w', rfl, r1, r2⟩ := vals2 rv
    cases r1; cases r2
    exact go _ C _ b ha F e q
  · obtain ⟨C, b, ha, F, e, q⟩ := h
    obtain ⟨u, w', rfl, r1, r2⟩ := vals2 rv
    cases r1; cases r2
    exact go _ C _ b ha F e q
  · exact h.elim
end L2

end
section
set_option Elab.async false
set_option linter.all false
set_option maxRecDepth 100000
namespace L2
open PySem PySem.Spec PyProof.Rows
/-! ### lines: what they write -/
def isBit (c : Nat) : Bool := c == 48 || c == 49
def bitsL (l : List Nat) : List Bool := l.map (· == 49)
def isFig (c : Nat) : Bool := decide (48 ≤ c) && decide (c ≤ 57)
def numOk (w : List Nat) : Bool := !w.isEmpty && decide (w.length ≤ 4) && w.all isFig && (w == [48] || !([48].isPrefixOf w))
def nowL : List Nat := [110, 111, 119, 104, 101, 114, 101]
def wayS (w : List Nat) : Option (Option Int) := if w = nowL then some none else if numOk w then some (some ((NumText.digitsVal w : Nat) : Int)) else none
def readS (l : List Nat) : Option (List Bool × Option Int) :=
  let n := (l.takeWhile isBit).length
  if n ≤ 16 ∧ (l.drop n).take 2 = [42, 32] then (wayS (l.drop (n + 2))).map fun w => (bitsL (l.take n), w) else none
theorem enc_bitsL : ∀ {l : List Nat}, l.all isBit = true → (bitsL l).map sg = l
  | [], _ => rfl
  | c :: l, h => by
    rw [List.all_cons, Bool.and_eq_true] at h
    obtain ⟨h1, h2⟩ := h
    show sg (c == 49) :: (bitsL l).map sg = _
    rw [enc_bitsL h2]
    unfold isBit at h1
    rw [Bool.or_eq_true, beq_iff_eq, beq_iff_eq] at h1
    rcases h1 with rfl | rfl <;> rfl
theorem enc_of {z : Str} (h : z.cps.toList.all isBit = true) : enc (bitsL z.cps.toList) = z := by
  unfold enc
  rw [enc_bitsL h]
theorem cnt_bits : ∀ (l : List Nat), cnt 48 l + cnt 49 l ≤ l.length ∧ ((cnt 48 l + cnt 49 l = (l.length : Int)) ↔ l.all isBit = true)
  | [] => by simp [cnt_nil]
  | c :: l => by
    obtain ⟨h1, h2⟩ := cnt_bits l
    have hb : isBit c = true ↔ (c = 48 ∨ c = 49) := by unfold isBit; rw [Bool.or_eq_true, beq_iff_eq, beq_iff_eq]
    rw [cnt_cons, cnt_cons, List.all_cons, Bool.and_eq_true, List.length_cons, hb]
    by_cases e0 : c = 48
    · subst e0
      rw [if_pos rfl, if_neg (by decide)]
      refine ⟨by omega, ?_⟩
      rw [← h2]
      constructor
      · intro h; exact ⟨.inl rfl, by omega⟩
      · intro h; omega
    · by_cases e1 : c = 49
      · subst e1
        rw [if_neg (by decide), if_pos rfl]
        refine ⟨by omega, ?_⟩
        rw [← h2]
        constructor
        · intro h; exact ⟨.inr rfl, by omega⟩
        · intro h; omega
      · rw [if_neg e0, if_neg e1]
        refine ⟨by omega, ⟨fun h => by omega, fun h => ?_⟩⟩
        rcases h.1 with z | z
        · exact absurd z e0
        · exact absurd z e1
def starS : Str := ⟨#[42, 32]⟩
theorem star_at (x : Str) (i : Nat) : StrLaws.At x starS x.length i ↔ (x.cps.toList.drop i).take 2 = [42, 32] := by
  unfold StrLaws.At Builtin.Str.subAt
  have e2 : starS.length = 2 := rfl
  rw [e2, StrLaws.beq_toList]
  have e3 : starS.cps.toList = [42, 32] := rfl
  rw [e3, beq_iff_eq, Array.toList_extract]
  have e4 : x.length = x.cps.toList.length := by simp [Str.length]
  rw [e4]
  have e5 : List.extract x.cps.toList i (i + 2) = (x.cps.toList.drop i).take 2 := by
    rw [List.extract_eq_drop_take]; congr 1; omega
  rw [e5]
  constructor
  · exact fun h => h.2
  · intro h
    refine ⟨?_, h⟩
    have := congrArg List.length h
    rw [List.length_take, List.length_drop, show ([42, 32] : List Nat).length = 2 from rfl] at this
    omega
theorem takeWhile_take : ∀ {l : List Nat} {i : Nat}, (l.take i).all isBit = true → i ≤ l.length → i ≤ (l.takeWhile isBit).length
  | _, 0, _, _ => Nat.zero_le _
  | [], i + 1, _, h => by simp at h
  | c :: l, i + 1, h, hl => by
    rw [List.take_succ_cons, List.all_cons, Bool.and_eq_true] at h
    rw [List.takeWhile_cons, if_pos h.1, List.length_cons]
    have := takeWhile_take (l := l) (i := i) h.2 (by simpa using hl)
    omega
theorem all_takeWhile : ∀ (l : List Nat), (l.take (l.takeWhile isBit).length).all isBit = true
  | [] => rfl
  | c :: l => by
    rw [List.takeWhile_cons]
    by_cases h : isBit c = true
    · rw [if_pos h, List.length_cons, List.take_succ_cons, List.all_cons, h, all_takeWhile l]; rfl
    · rw [if_neg h]; rfl
theorem not_past : ∀ {l : List Nat} {i : Nat}, (l.drop i).take 2 = [42, 32] → (l.takeWhile isBit).length ≤ i
  | [], _, _ => Nat.zero_le _
  | c :: l, 0, h => by
    rw [List.drop_zero] at h
    have : c = 42 := by cases l <;> simp at h; exact h.1
    subst this
    rw [List.takeWhile_cons, if_neg (by decide)]
    exact Nat.le_refl _
  | c :: l, i + 1, h => by
    rw [List.takeWhile_cons]
    by_cases hb : isBit c = true
    · rw [if_pos hb, List.length_cons]
      have := not_past (l := l) (i := i) h
      omega
    · rw [if_neg hb]; exact Nat.zero_le _
/-- by the first place of the star and the blank -/
theorem readS_part (x : Str) : (Txt.partition x starS = (x, Str.empty, Str.empty) ∧ readS x.cps.toList = none) ∨
    ∃ i, Txt.partition x starS = (⟨(x.cps.toList.take i).toArray⟩, starS, ⟨(x.cps.toList.drop (i + 2)).toArray⟩) ∧ i ≤ x.length ∧
      readS x.cps.toList = if i ≤ 16 ∧ (x.cps.toList.take i).all isBit = true then (wayS (x.cps.toList.drop (i + 2))).map fun w => (bitsL (x.cps.toList.take i), w) else none := by
  have elen : x.length = x.cps.toList.length := by simp [Str.length]
  rcases partition_whole x starS with ⟨h1, h2⟩ | ⟨i, h1, h2, h3⟩
  · refine .inl ⟨h1, ?_⟩
    unfold readS
    rw [if_neg fun z => h2 _ ((star_at x _).mpr z.2)]
  · have hi := (star_at x i).mp h2
    have hil : i ≤ x.length := Nat.le_trans (Nat.le_add_right _ _) h2.1
    refine .inr ⟨i, ?_, hil, ?_⟩
    · rw [h1]
      congr 1
      · refine Str.ext' (Array.toList_inj.mp ?_)
        rw [StrLaws.strSub_toList]; simp
      · congr 1
        refine Str.ext' (Array.toList_inj.mp ?_)
        rw [StrLaws.strSub_toList, List.toList_toArray]
        refine List.take_of_length_le ?_
        rw [List.length_drop, ← elen]; exact Nat.le_refl _
    · unfold readS
      have hle := not_past hi
      by_cases hb : (x.cps.toList.take i).all isBit = true
      · have en : (x.cps.toList.takeWhile isBit).length = i := Nat.le_antisymm hle (takeWhile_take hb (by rw [← elen]; exact hil))
        rw [en]
        by_cases h16 : i ≤ 16
        · rw [if_pos ⟨h16, hi⟩, if_pos ⟨h16, hb⟩]
        · rw [if_neg fun z => h16 z.1, if_neg fun z => h16 z.1]
      · refine (if_neg ?_).trans (if_neg fun z => hb z.2).symm
        rintro ⟨_, z⟩
        have hn : ¬ (x.cps.toList.takeWhile isBit).length < i := fun w => h3 _ w ((star_at x _).mpr z)
        have en : (x.cps.toList.takeWhile isBit).length = i := by omega
        rw [← en] at hb
        exact hb (all_takeWhile _)
end L2

end
section
set_option Elab.async false
set_option linter.all false
set_option maxRecDepth 100000
namespace L2
open PySem PySem.Spec PyProof.Rows
def figs (m : Nat) : List Nat := (Nat.toDigits 10 m).map Char.toNat
end L2

end
section
set_option Elab.async false
set_option linter.all false
set_option maxRecDepth 100000
set_option maxHeartbeats 4000000
namespace L2
open PySem PySem.Spec PyProof.Rows
local macro_rules | `(tactic| walk_at "rd") => `(tactic| try simp only [tVar, tC, tOp, tUn, tSeq, tAsg, gName, tRet, tRetN, tIfS, tDrop, tNext, tCons, tNil, tCall, tCB, tTest, tB, tAnd, tOr, tNot, tAndV, tOrV, tNotV, tIf, tTup, tLst, tSl, tPart, tNoPart, tBM, tBM0, L2.start, rI2, rI3, rAddA, rMulA, rSubI, rDivI, rModI, rPowI, rNegI, rLt, rLe, rGt, rGe, rIsN, rNotN, rEqS, rNeS, rLen, rIxA, rIntA, rMax2, rMin2, rStrI, rListOf, rIsi2, isiF, isiO, rSlA, rStarts2, rEnds2, CDiv,
  List.map_cons, List.map_nil, List.length_cons, List.length_nil, List.replicate_succ, List.replicate_zero, List.cons_append, List.nil_append, List.append_nil, List.getElem?_cons_zero, List.getElem?_cons_succ, List.set_cons_zero, List.set_cons_succ, Option.some.injEq, V.int.injEq, V.str.injEq, V.bl.injEq, V.ref.injEq, V.ty.injEq, reduceCtorEq, exists_eq_left', exists_eq_left, exists_eq_right, exists_eq_right', exists_eq', exists_eq, exists_and_left, exists_and_right, false_and, and_false, true_and, and_true, exists_const, exists_false, false_or, or_false, List.cons.injEq, and_assoc, decide_eq_true_eq, decide_true, decide_false, Int.reduceLT, Int.reduceLE, Nat.reduceLT, Nat.reduceLeDiff, Nat.reduceSub, Nat.reduceAdd, Nat.sub_self, Nat.sub_zero, enc_eq, enc_nil, enc_0, enc_1, enc_01, enc_append, enc_len, Bool.not_true, Bool.not_false, Bool.false_eq_true, if_true, if_false, ↓reduceIte, String.reduceEq, or_true, true_or, Nat.one_mul, addr_len, bitsBy_len, List.length_append, List.length_replicate, List.length_map])
local macro_rules | `(tactic| walk_at "sz") => `(tactic| (have hline := line_ge; first | omega | (simp; omega)))
def rd_is_head (K : PySem.W.Frag) : TS :=
  (tRet (tAndV (tOp rLe (tCB (rLen K) (tCons (tVar 0) tNil)) (tVar 1)) (tOp rEqS (tOp rAddA (tBM K "str" rCount (tVar 0) (tCons (tC (.str (Str.ofString "0"))) tNil)) (tBM K "str" rCount (tVar 0) (tCons (tC (.str (Str.ofString "1"))) tNil))) (tCB (rLen K) (tCons (tVar 0) tNil)))))
def nm_is_head : List Str := ["text", "size"]
def sp_is_head (K : PySem.W.Frag) : Sp := fun vs H Q _ => ∃ (z : Str) (n : Int), vs = [.str z, .int n] ∧ z.length ≤ 1000 ∧ Q (.bl (decide ((z.length : Int) ≤ n) && z.cps.toList.all isBit)) H
theorem len_is_head {K vs H Q E} (h : sp_is_head K vs H Q E) : vs.length = 2 := by obtain ⟨_, _, rfl, _⟩ := h; rfl
theorem rdok_is_head {K vs H Q E} (h : sp_is_head K vs H Q E) : rd_is_head K { nx := fun _ H' => Q .non H', rt := Q } (start nm_is_head vs) H := by
  obtain ⟨z, n, rfl, hz, q⟩ := h
  simp only [rd_is_head, nm_is_head, L2.start]
  walk_at "rd"
  refine ⟨by walk_at "sz", ?_⟩
  have e0 : enc [false] = ⟨#[48]⟩ := rfl
  have e1 : enc [true] = ⟨#[49]⟩ := rfl
  have el : z.length = z.cps.toList.length := by simp [Str.length]
  split
  · rename_i h
    refine ⟨rfl, ?_⟩
    show tyV K "str" (.str z) H ∧ _
    refine ⟨rfl, ?_⟩
    rw [decide_eq_true h, Bool.true_and] at q
    refine ⟨by walk_at "sz", ?_⟩
    rw [e0, e1, count_cnt, count_cnt, el]
    have e2 : decide (cnt 48 z.cps.toList + cnt 49 z.cps.toList = (z.cps.toList.length : Int)) = z.cps.toList.all isBit := Bool.eq_iff_iff.mpr (by rw [decide_eq_true_iff]; exact (cnt_bits z.cps.toList).2)
    rw [e2]
    exact q
  · rename_i h
    rw [decide_eq_false h, Bool.false_and] at q
    exact q
def rd_is_number (K : PySem.W.Frag) : TS :=
  (tSeq (tIfS (tOr (tTest (tOp rEqS (tVar 0) (tC (.str (Str.ofString ""))))) (tTest (tOp rGt (tCB (rLen K) (tCons (tVar 0) tNil)) (tC (.int 4))))) (tRet (tC (.bl false))) tNext)
  (tSeq (tIfS (tTruL K (tComp [] (iStr (tVar 0)) (tTest (tOp (rInS true) (tVar 0) (tC (.str (Str.ofString "0123456789"))))) (tVar 0))) (tRet (tC (.bl false))) tNext)
  (tRet (tOrV (tOp rEqS (tVar 0) (tC (.str (Str.ofString "0")))) (tNotV (tBM K "str" rStarts2 (tVar 0) (tCons (tC (.str (Str.ofString "0"))) tNil)))))))
def nm_is_number : List Str := ["text"]
def sp_is_number (K : PySem.W.Frag) : Sp := fun vs H Q _ => ∃ (z : Str), vs = [.str z] ∧ z.length ≤ 1000 ∧ ∀ H', Same H H' → Q (.bl (numOk z.cps.toList)) H'
theorem len_is_number {K vs H Q E} (h : sp_is_number K vs H Q E) : vs.length = 1 := by obtain ⟨_, rfl, _⟩ := h; rfl
theorem rdok_is_number {K vs H Q E} (h : sp_is_number K vs H Q E) : rd_is_number K { nx := fun _ H' => Q .non H', rt := Q } (start nm_is_number vs) H := by
  obtain ⟨z, rfl, hz, q⟩ := h
  simp only [rd_is_number, nm_is_number, L2.start]
  refine tSeq_gen fun U hU => ?_
  walk_at "rd"
  have el : z.length = z.cps.toList.length := by simp [Str.length]
  have en : (z = enc []) ↔ z.cps.toList = [] := by
    constructor
    · intro h; rw [h]; rfl
    · intro h; cases z with | mk cps => have : cps = #[] := by simpa using h
                                        rw [this]; rfl
  split
  · rename_i h
    have q := q H (Same.refl _)
    have : numOk z.cps.toList = false := by rw [en.mp h]; rfl
    rw [this] at q; exact q
  rename_i hne
  refine ⟨by walk_at "sz", ?_⟩
  split
  · rename_i h
    have q := q H (Same.refl _)
    have : numOk z.cps.toList = false := by
      unfold numOk
      have : decide (z.cps.toList.length ≤ 4) = false := decide_eq_false (by omega)
      rw [this, Bool.and_false, Bool.false_and, Bool.false_and]
    rw [this] at q; exact q
  rename_i h4
  subst hU
  have key : numOk z.cps.toList = (z.cps.toList.all isFig && (z.cps.toList == [48] || !([48].isPrefixOf z.cps.toList))) := by
    unfold numOk
    have h1 : z.cps.toList.isEmpty = false := by rw [Bool.eq_false_iff]; intro h; exact hne (en.mpr (List.isEmpty_iff.mp h))
    have h2 : decide (z.cps.toList.length ≤ 4) = true := decide_eq_true (by omega)
    rw [h1, h2, Bool.not_false, Bool.true_and, Bool.true_and]
  rw [key] at q
  refine tSeq_gen fun U hU => ?_
  simp only [tIfS, tTruL]
  refine tComp_str z (fun c => !isFig c) (fun R h => by walk_at "rd"; exact h) (by show z.length ≤ sizeLine; walk_at "sz") (fun c hc H' R sm h => ?_) (fun c hc H' R sm h => by walk_at "rd"; exact h) (fun l hl => ?_)
  · walk_at "rd"
    have e : hasS (Str.ofString "0123456789") ⟨#[c]⟩ = isFig c := by
      unfold hasS
      rw [StrLaws.found_one]
      have : (Str.ofString "0123456789").cps.toList = [48, 49, 50, 51, 52, 53, 54, 55, 56, 57] := by decide +kernel
      rw [this]
      unfold isFig
      rw [Bool.eq_iff_iff]
      simp only [decide_eq_true_eq, Bool.and_eq_true, List.mem_cons, List.not_mem_nil, or_false]
      omega
    refine ⟨_, rfl, ?_⟩
    show R (!hasS (Str.ofString "0123456789") ⟨#[c]⟩) H'
    rw [e]; exact h
  · refine ⟨l, _, rfl, SqL.of upd_same, ?_⟩
    have sm : Same H (upd H l (.lst ((z.cps.toList.filter fun c => !isFig c).map fun c => V.str ⟨#[c]⟩))) := Same.upd hl
    have q := q _ sm
    generalize upd H l (.lst ((z.cps.toList.filter fun c => !isFig c).map fun c => V.str ⟨#[c]⟩)) = H1 at q ⊢
    have ee : (!((z.cps.toList.filter fun c => !isFig c).map fun c => V.str ⟨#[c]⟩).isEmpty) = !z.cps.toList.all isFig := by
      rw [List.isEmpty_map]
      congr 1
      rw [Bool.eq_iff_iff, List.isEmpty_iff, List.filter_eq_nil_iff, List.all_eq_true]
      simp
    rw [ee]
    cases ha : z.cps.toList.all isFig with
    | false =>
      rw [ha, Bool.false_and] at q
      simp only [Bool.not_false, if_true]
      exact q
    | true =>
      rw [ha, Bool.true_and] at q
      simp only [Bool.not_true, Bool.false_eq_true, if_false]
      subst hU
      have e0 : (z = enc [false]) ↔ z.cps.toList = [48] := by
        constructor
        · intro h; rw [h]; rfl
        · intro h; cases z with | mk cps => have : cps = #[48] := Array.toList_inj.mp h
                                            rw [this]; rfl
      walk_at "rd"
      split
      · rename_i h
        rw [e0.mp h] at q
        exact q
      · rename_i h
        have : (z.cps.toList == [48]) = false := by rw [Bool.eq_false_iff]; intro w; exact h (e0.mpr (beq_iff_eq.mp w))
        rw [this, Bool.false_or] at q
        exact ⟨rfl, q⟩
def rd_read_way (K : PySem.W.Frag) (E : XK) : TS :=
  (tSeq (tIfS (tTest (tOp rEqS (tVar 0) (tC (.str (Str.ofString "nowhere"))))) (tRet (tC .non)) tNext)
  (tSeq (tIfS (tNot (tB (tCall (sp_is_number K) [] E0 (tCons (tVar 0) tNil)))) (tRaise (clsAt K "BadLine") E (tCons (tC (.str (Str.ofString "no way behind the head"))) tNil)) tNext)
  (tRet (tCB rIntA (tCons (tVar 0) tNil)))))
def nm_read_way : List Str := ["text"]
def sp_read_way (K : PySem.W.Frag) : Sp := fun vs H Q E => ∃ (z : Str), vs = [.str z] ∧ z.length ≤ 600 ∧ match wayS z.cps.toList with
  | some w => ∀ H', Same H H' → Q (wayV w) H'
  | none => ∀ H', Same H H' → E (.ref (clsAt K "BadLine")) none H'
theorem len_read_way {K vs H Q E} (h : sp_read_way K vs H Q E) : vs.length = 1 := by obtain ⟨_, rfl, _⟩ := h; rfl
theorem rdok_read_way {K vs H Q E} (h : sp_read_way K vs H Q E) : rd_read_way K E { nx := fun _ H' => Q .non H', rt := Q } (start nm_read_way vs) H := by
  obtain ⟨z, rfl, hz, q⟩ := h
  simp only [rd_read_way, nm_read_way, L2.start]
  refine tSeq_gen fun U hU => ?_
  walk_at "rd"
  have el : z.length = z.cps.toList.length := by simp [Str.length]
  have en : (z = Str.ofString "nowhere") ↔ z.cps.toList = nowL := by
    have e : (Str.ofString "nowhere").cps.toList = nowL := by decide +kernel
    constructor
    · intro h; rw [h]; exact e
    · intro h; exact Str.ext' (Array.toList_inj.mp (h.trans e.symm))
  unfold wayS at q
  split
  · rename_i h
    rw [if_pos (en.mp h)] at q
    exact q H (Same.refl _)
  · rename_i h
    rw [if_neg (fun z => h (en.mpr z))] at q
    subst hU
    refine tSeq_gen fun U hU => ?_
    walk_at "rd"
    refine ⟨z, rfl, by omega, fun H' sm => ?_⟩
    cases hn : numOk z.cps.toList with
    | false =>
      rw [hn] at q
      refine ⟨false, rfl, ?_⟩
      simp only [Bool.not_false, if_true, tRaise]
      walk_at "rd"
      exact ⟨by walk_at "sz", q H' sm⟩
    | true =>
      rw [hn] at q
      refine ⟨true, rfl, ?_⟩
      subst hU
      walk_at "rd"
      unfold numOk at hn
      simp only [Bool.and_eq_true, Bool.not_eq_true', decide_eq_true_eq] at hn
      obtain ⟨⟨⟨n1, n2⟩, n3⟩, n4⟩ := hn
      refine ⟨_, PySem.intText_digits (fun c hc => ?_) (fun e => by rw [e] at n1; cases n1) (by omega), by omega, q H' sm⟩
      have := List.all_eq_true.mp n3 c hc
      unfold isFig at this
      simpa using this
theorem star_of : (Str.ofString "* " : Str) = starS := by decide +kernel
def rd_read (K : PySem.W.Frag) (E : XK) : TS :=
  (tSeq (tAsg (tBM K "str" rPartT (tVar 0) (tCons (tC (.str (Str.ofString "* "))) tNil)) (gName 1))
  (tSeq (tIfS (tOr (tTest (tOp rEqS (tOp (rIxA K) (tVar 1) (tC (.int 1))) (tC (.str (Str.ofString ""))))) (tNot (tB (tCall (sp_is_head K) [] E0 (tCons (tOp (rIxA K) (tVar 1) (tC (.int 0))) (tCons (tC (.int 16)) tNil)))))) (tRaise (clsAt K "BadLine") E (tCons (tC (.str (Str.ofString "no head with a sign * and a blank behind it"))) tNil)) tNext)
  (tRet (tTup (tCons (tOp (rIxA K) (tVar 1) (tC (.int 0))) (tCons (tCall (sp_read_way K) [] E (tCons (tOp (rIxA K) (tVar 1) (tC (.int 2))) tNil)) tNil))))))
def nm_read : List Str := ["line", "parts"]
def sp_read (K : PySem.W.Frag) : Sp := fun vs H Q E => ∃ (z : Str), vs = [.str z] ∧ z.length ≤ 500 ∧ match readS z.cps.toList with
  | some r => ∀ p H', H p = none → Same H H' → H' p = some (.tup [.str (enc r.1), wayV r.2]) → Q (.ref p) H'
  | none => ∀ H', Same H H' → E (.ref (clsAt K "BadLine")) none H'
theorem len_read {K vs H Q E} (h : sp_read K vs H Q E) : vs.length = 1 := by obtain ⟨_, rfl, _⟩ := h; rfl
theorem rdok_read {K vs H Q E} (h : sp_read K vs H Q E) : rd_read K E { nx := fun _ H' => Q .non H', rt := Q } (start nm_read vs) H := by
  obtain ⟨z, rfl, hz, q⟩ := h
  have el : z.length = z.cps.toList.length := by simp [Str.length]
  simp only [rd_read, nm_read, L2.start, star_of]
  refine tSeq_gen fun U hU => ?_
  walk_at "rd"
  refine ⟨rfl, rfl, by walk_at "sz", fun p hp => ?_⟩
  have sm : Same H (upd H p (.tup [.str (Txt.partition z starS).1, .str (Txt.partition z starS).2.1, .str (Txt.partition z starS).2.2])) := Same.upd hp
  have h1 : upd H p (.tup [.str (Txt.partition z starS).1, .str (Txt.partition z starS).2.1, .str (Txt.partition z starS).2.2]) p = some (.tup [.str (Txt.partition z starS).1, .str (Txt.partition z starS).2.1, .str (Txt.partition z starS).2.2]) := upd_same
  generalize upd H p (.tup [.str (Txt.partition z starS).1, .str (Txt.partition z starS).2.1, .str (Txt.partition z starS).2.2]) = H1 at sm h1 ⊢
  subst hU
  refine tSeq_gen fun U hU => ?_
  walk_at "rd"
  refine ⟨_, .inr (SqT.of h1), _, atI_nat (j := 1) rfl, ?_⟩
  rcases readS_part z with ⟨e1, e2⟩ | ⟨i, e1, hi, e2⟩
  · rw [e2] at q
    rw [e1] at h1 ⊢
    dsimp only at h1 ⊢
    have e3 : Str.empty = enc [] := rfl
    simp only [e3, decide_true, if_true, tRaise]
    walk_at "rd"
    exact ⟨by walk_at "sz", q H1 sm⟩
  · rw [e1] at h1 ⊢
    dsimp only at h1 ⊢
    have e3 : ¬ starS = enc [] := by decide
    walk_at "rd"
    rw [if_neg e3]
    refine ⟨_, .inr (SqT.of h1), _, atI_nat (j := 0) rfl, ?_⟩
    have ell : (⟨(z.cps.toList.take i).toArray⟩ : Str).length = i := by
      show (z.cps.toList.take i).toArray.size = i
      rw [List.size_toArray, List.length_take]; omega
    refine ⟨_, 16, rfl, by omega, ?_⟩
    have e4 : (decide (((⟨(z.cps.toList.take i).toArray⟩ : Str).length : Int) ≤ 16) && (z.cps.toList.take i).all isBit) = decide (i ≤ 16 ∧ (z.cps.toList.take i).all isBit = true) := by
      rw [ell, Bool.eq_iff_iff]
      simp only [Bool.and_eq_true, decide_eq_true_eq]
      exact ⟨fun ⟨x, y⟩ => ⟨by omega, y⟩, fun ⟨x, y⟩ => ⟨by omega, y⟩⟩
    refine ⟨_, rfl, ?_⟩
    show if (!(decide (((⟨(z.cps.toList.take i).toArray⟩ : Str).length : Int) ≤ 16) && (z.cps.toList.take i).all isBit)) = true then _ else _
    rw [e4]
    rw [e2] at q
    by_cases hg : i ≤ 16 ∧ (z.cps.toList.take i).all isBit = true
    · rw [if_pos hg] at q
      simp only [hg, decide_true, and_self, Bool.not_true, Bool.false_eq_true, if_false]
      subst hU
      walk_at "rd"
      refine ⟨_, .inr (SqT.of h1), _, atI_nat (j := 0) rfl, ?_⟩
      refine ⟨_, .inr (SqT.of h1), _, atI_nat (j := 2) rfl, ?_⟩
      refine ⟨_, rfl, ?_, ?_⟩
      · show (z.cps.toList.drop (i + 2)).toArray.size ≤ 600
        rw [List.size_toArray, List.length_drop]; omega
      · show match wayS (z.cps.toList.drop (i + 2)) with | some w => _ | none => _
        cases hw : wayS (z.cps.toList.drop (i + 2)) with
        | none =>
          rw [hw] at q
          exact fun H' s2 => q H' (sm.trans s2)
        | some w =>
          rw [hw] at q
          intro H' s2
          refine ⟨by walk_at "sz", fun p2 hp2 => ?_⟩
          have s3 := sm.trans s2
          refine q p2 _ (s3.free hp2) (s3.trans (Same.upd hp2)) ?_
          have e5 : enc (bitsL (z.cps.toList.take i)) = ⟨(z.cps.toList.take i).toArray⟩ := enc_of (z := ⟨(z.cps.toList.take i).toArray⟩) hg.2
          dsimp only
          rw [e5]
          exact upd_same
    · rw [if_neg hg] at q
      simp only [hg, decide_false, Bool.not_false, if_true, tRaise]
      walk_at "rd"
      exact ⟨by walk_at "sz", q H1 sm⟩
/-! ### a row shown -/
def nowS : Str := Str.ofString "nowhere"
def wayT : Option Int → Str
  | none => nowS
  | some i => Str.ofString (toString i)
def lineT (r : Row) : Str := enc r.1 ++ starS ++ wayT r.2
def rd_shown (K : PySem.W.Frag) : TS :=
  (tSeq (tAsg (tIf (tTest (tOp rIsN (tOp (rIxA K) (tVar 0) (tC (.int 1))) (tC .non))) (tC (.str (Str.ofString "nowhere"))) (tCB rStrI (tCons (tOp (rIxA K) (tVar 0) (tC (.int 1))) tNil))) (gName 1))
  (tRet (tOp rAddA (tOp rAddA (tOp (rIxA K) (tVar 0) (tC (.int 0))) (tC (.str (Str.ofString "* ")))) (tVar 1))))
def nm_shown : List Str := ["row", "way"]
def sp_shown (K : PySem.W.Frag) : Sp := fun vs H Q _ => ∃ (p : Addr) (r : Row), vs = [.ref p] ∧ H p = some (.tup [.str (enc r.1), wayV r.2]) ∧ r.1.length ≤ 100 ∧ (∀ i, r.2 = some i → 0 ≤ i ∧ i ≤ 9999) ∧ Q (.str (lineT r)) H
end L2

end
section
set_option Elab.async false
set_option linter.all false
set_option maxRecDepth 100000
set_option maxHeartbeats 4000000
namespace K12
open PySem L2
local macro_rules | `(tactic| walk_at "rd") => `(tactic| try simp only [tVar, tC, tOp, tUn, tSeq, tAsg, gName, tRet, tRetN, tIfS, tDrop, tNext, tCons, tNil, tCall, tCB, tTest, tB, tAnd, tOr, tNot, tAndV, tOrV, tNotV, tIf, tTup, tLst, tSl, tPart, tNoPart, tBM, tBM0, L2.start, rI2, rI3, rAddA, rMulA, rSubI, rDivI, rModI, rPowI, rNegI, rLt, rLe, rGt, rGe, rIsN, rNotN, rEqS, rNeS, rLen, rIxA, rIntA, rMax2, rMin2, rStrI, rListOf, rIsi2, isiF, isiO, rSlA, rStarts2, rEnds2, CDiv,
  List.map_cons, List.map_nil, List.length_cons, List.length_nil, List.replicate_succ, List.replicate_zero, List.cons_append, List.nil_append, List.append_nil, List.getElem?_cons_zero, List.getElem?_cons_succ, List.set_cons_zero, List.set_cons_succ, Option.some.injEq, V.int.injEq, V.str.injEq, V.bl.injEq, V.ref.injEq, V.ty.injEq, reduceCtorEq, exists_eq_left', exists_eq_left, exists_eq_right, exists_eq_right', exists_eq', exists_eq, exists_and_left, exists_and_right, false_and, and_false, true_and, and_true, exists_const, exists_false, false_or, or_false, List.cons.injEq, and_assoc, decide_eq_true_eq, decide_true, decide_false, Int.reduceLT, Int.reduceLE, Nat.reduceLT, Nat.reduceLeDiff, Nat.reduceSub, Nat.reduceAdd, Nat.sub_self, Nat.sub_zero, enc_eq, enc_nil, enc_0, enc_1, enc_01, enc_append, enc_len, Bool.not_true, Bool.not_false, Bool.false_eq_true, if_true, if_false, ↓reduceIte, String.reduceEq, or_true, true_or, Nat.one_mul, addr_len, bitsBy_len, List.length_append, List.length_replicate, List.length_map])
local macro_rules | `(tactic| walk_at "sz") => `(tactic| (have hline := line_ge; first | omega | (simp; omega)))
structure Err (K : PySem.W.Frag) : Prop where
  sub : PySem.W.mroIn K (clsAt K "BadLine") (.ref (clsAt K "RoadError")) = some true
  ga : PySem.W.findIn K (.ref (clsAt K "BadLine")) "__getattribute__" = some (some (.builtin "BaseException.__getattribute__"))
  gn : PySem.W.findIn K (.ref (clsAt K "BadLine")) "__getattr__" = some none
  cl : PySem.W.findIn K (.ref (clsAt K "BadLine")) "__class__" = some (some (.builtin "object.__class__"))
  sg : PySem.W.specialIn K (.builtin "object.__class__") "__get__" = some (some (.builtin "getset_descriptor.__get__"))
  tk : PySem.W.takesIn K (.builtin "object.__class__") = some true
  mo : PySem.W.mroIn K (clsAt K "BadLine") (.type "object") = some true
  mb : PySem.W.mroIn K (clsAt K "BadLine") (.type "BaseException") = some true
  i1 : PySem.W.kitOne K (.ref (clsAt K "BadLine")) (.ref (clsAt K "BadHead")) = some false
  i2 : PySem.W.kitOne K (.ref (clsAt K "BadLine")) (.ref (clsAt K "BadAddress")) = some false
  i3 : PySem.W.kitOne K (.ref (clsAt K "BadLine")) (.ref (clsAt K "BadSpan")) = some false
  i4 : PySem.W.kitOne K (.ref (clsAt K "BadLine")) (.ref (clsAt K "FullBoard")) = some false
  i5 : PySem.W.kitOne K (.ref (clsAt K "BadLine")) (.ref (clsAt K "BadLine")) = some true
  i6 : PySem.W.kitOne K (.ref (clsAt K "BadLine")) (.type "ValueError") = some true
  i7 : PySem.W.kitOne K (.ref (clsAt K "BadLine")) (.ref (clsAt K "NoHead")) = some false
theorem Err.k {K : PySem.W.Frag} (T : Err K) : ExcK K (clsAt K "BadLine") := ⟨T.ga, T.gn, T.cl, T.sg, T.tk, T.mo, T.mb⟩
theorem slen (z : Str) : z.length = z.cps.toList.length := by simp [Str.length]
theorem at_mod {α : Type} {l : List α} {c : Int} {n : Nat} (hn : l.length = n) (h0 : 0 < n) : ∃ v ∈ l, atI l (c % (n : Int)) = some v := by
  have z0 := Int.emod_nonneg c (show (n : Int) ≠ 0 by omega)
  have z1 := Int.emod_lt_of_pos c (show (0 : Int) < n by omega)
  obtain ⟨j, hj⟩ := Int.eq_ofNat_of_zero_le z0
  have hjl : j < l.length := by omega
  rw [hj]
  exact ⟨l[j], List.getElem_mem hjl, atI_nat (by simp [hjl])⟩
def rd_law_sign_by (K : PySem.W.Frag) : TS :=
  (tSeq (tIfS (tTest (tOp rEqS (tOp rModI (tVar 0) (tC (.int 2))) (tC (.int 1)))) (tRet (tOp (rIxA K) (tC (.str (Str.ofString "01* 0123456789"))) (tOp rModI (tOp rDivI (tVar 0) (tC (.int 2))) (tC (.int 14))))) tNext)
  (tSeq (tAsg (tC (.str (Str.ofString " !\"#$&'()*+,-./0123456789:;<=>?@ABCDEFGHIJKLMNOPQRSTUVWXYZ[\\]^_`"))) (gName 1))
  (tSeq (tAsg (tOp rAddA (tVar 1) (tC (.str (Str.ofString "abcdefghijklmnopqrstuvwxyz{|}~")))) (gName 1))
  (tRet (tOp (rIxA K) (tVar 1) (tOp rModI (tOp rDivI (tVar 0) (tC (.int 2))) (tC (.int 94))))))))
def nm_law_sign_by : List Str := ["cell", "signs"]
def sp_law_sign_by (K : PySem.W.Frag) : Sp := fun vs H Q _ => ∃ (c : Int), vs = [.int c] ∧ ∀ x : Str, x.length = 1 → Q (.str x) H
theorem len_law_sign_by {K vs H Q E} (h : sp_law_sign_by K vs H Q E) : vs.length = 1 := by obtain ⟨_, rfl, _⟩ := h; rfl
theorem rdok_law_sign_by {K vs H Q E} (h : sp_law_sign_by K vs H Q E) : rd_law_sign_by K { nx := fun _ H' => Q .non H', rt := Q } (start nm_law_sign_by vs) H := by
  obtain ⟨c, rfl, q⟩ := h
  simp only [rd_law_sign_by, nm_law_sign_by, L2.start]
  refine tSeq_gen fun U hU => ?_
  walk_at "rd"
  split
  · have e : (Str.ofString "01* 0123456789").cps.toList.length = 14 := by decide +kernel
    obtain ⟨v, _, hv⟩ := at_mod (c := c / 2) e (by decide)
    exact ⟨by rw [slen, e]; walk_at "sz", v, hv, q _ rfl⟩
  · subst hU
    have e1 : (Str.ofString " !\"#$&'()*+,-./0123456789:;<=>?@ABCDEFGHIJKLMNOPQRSTUVWXYZ[\\]^_`").cps.toList.length = 64 := by decide +kernel
    have e2 : (Str.ofString "abcdefghijklmnopqrstuvwxyz{|}~").cps.toList.length = 30 := by decide +kernel
    walk_at "rd"
    generalize Str.ofString " !\"#$&'()*+,-./0123456789:;<=>?@ABCDEFGHIJKLMNOPQRSTUVWXYZ[\\]^_`" = s1 at e1 ⊢
    generalize Str.ofString "abcdefghijklmnopqrstuvwxyz{|}~" = s2 at e2 ⊢
    have e3 : (s1 ++ s2).cps.toList.length = 94 := by
      show (s1.cps ++ s2.cps).toList.length = 94
      rw [Array.toList_append, List.length_append]; omega
    obtain ⟨v, _, hv⟩ := at_mod (c := c / 2) e3 (by decide)
    refine ⟨by rw [slen, slen]; walk_at "sz", ?_⟩
    exact ⟨by rw [slen, e3]; walk_at "sz", v, hv, q _ rfl⟩
def rd_law_odd (K : PySem.W.Frag) : TS :=
  (tSeq (tAsg (tLst (tCons (tC (.str (Str.ofString ""))) (tCons (tC (.str (Str.ofString "*"))) (tCons (tC (.str (Str.ofString "* "))) (tCons (tC (.str (Str.ofString "* 01"))) (tCons (tC (.str (Str.ofString "* 00"))) (tCons (tC (.str (Str.ofString "0*1"))) (tCons (tC (.str (Str.ofString "0 * 1"))) (tCons (tC (.str (Str.ofString "0*  1"))) (tCons (tC (.str (Str.ofString "0* 1 "))) (tCons (tC (.str (Str.ofString " 0* 1"))) (tCons (tC (.str (Str.ofString "0** 1"))) (tCons (tC (.str (Str.ofString "0* -1"))) (tCons (tC (.str (Str.ofString "0* +1"))) tNil)))))))))))))) (gName 1))
  (tSeq (tAsg (tOp rAddA (tVar 1) (tLst (tCons (tC (.str (Str.ofString "0* 1.0"))) (tCons (tC (.str (Str.ofString "2* 1"))) (tCons (tC (.str (Str.ofString "0* Nowhere"))) (tCons (tC (.str (Str.ofString "0* None"))) (tCons (tC (.str (Str.ofString "0* nowhere "))) (tCons (tC (.str (Str.ofString "nowhere"))) (tCons (tC (.str (Str.ofString "0* 1* 2"))) (tCons (tC (.str (Str.ofString "0* 1_0"))) (tCons (tC (.str (Str.ofString "* 0"))) tNil))))))))))) (gName 1))
  (tRet (tOp (rIxA K) (tVar 1) (tOp rModI (tVar 0) (tC (.int 22)))))))
def nm_law_odd : List Str := ["cell", "some"]
def oddT : List Str := [Str.ofString "", Str.ofString "*", Str.ofString "* ", Str.ofString "* 01", Str.ofString "* 00", Str.ofString "0*1", Str.ofString "0 * 1", Str.ofString "0*  1", Str.ofString "0* 1 ", Str.ofString " 0* 1", Str.ofString "0** 1", Str.ofString "0* -1", Str.ofString "0* +1"] ++
  [Str.ofString "0* 1.0", Str.ofString "2* 1", Str.ofString "0* Nowhere", Str.ofString "0* None", Str.ofString "0* nowhere ", Str.ofString "nowhere", Str.ofString "0* 1* 2", Str.ofString "0* 1_0", Str.ofString "* 0"]
theorem odd_len : ∀ x ∈ oddT, x.length ≤ 20 := by
  have : oddT.all (fun x => decide (x.length ≤ 20)) = true := by decide +kernel
  intro x hx
  simpa using List.all_eq_true.mp this x hx
def sp_law_odd (K : PySem.W.Frag) : Sp := fun vs H Q _ => ∃ (c : Int), vs = [.int c] ∧ ∀ (x : Str) H', Same H H' → x.length ≤ 20 → Q (.str x) H'
theorem len_law_odd {K vs H Q E} (h : sp_law_odd K vs H Q E) : vs.length = 1 := by obtain ⟨_, rfl, _⟩ := h; rfl
theorem rdok_law_odd {K vs H Q E} (h : sp_law_odd K vs H Q E) : rd_law_odd K { nx := fun _ H' => Q .non H', rt := Q } (start nm_law_odd vs) H := by
  obtain ⟨c, rfl, q⟩ := h
  simp only [rd_law_odd, nm_law_odd, L2.start]
  refine tSeq_gen fun U hU => ?_
  walk_at "rd"
  refine ⟨by walk_at "sz", fun l hl => ?_⟩
  subst hU
  refine tSeq_gen fun U hU => ?_
  walk_at "rd"
  refine ⟨by walk_at "sz", fun l2 hl2 => ?_⟩
  refine ⟨_, by rw [upd_ne (fun z => by rw [← z, upd_same] at hl2; cases hl2)]; exact upd_same, _, upd_same, by walk_at "sz", fun l3 hl3 => ?_⟩
  subst hU
  walk_at "rd"
  have e : (oddT.map V.str).length = 22 := by decide
  obtain ⟨v, hv, hat⟩ := at_mod (c := c) e (by decide)
  obtain ⟨x, hx, rfl⟩ := List.mem_map.mp hv
  refine ⟨_, .inl (SqL.of upd_same), _, hat, q x _ ?_ (odd_len x hx)⟩
  exact (Same.upd hl).trans ((Same.upd hl2).trans (Same.upd hl3))
def rd_law_spoiled (K : PySem.W.Frag) : TS :=
  (tSeq (tAsg (tOp rModI (tVar 1) (tC (.int 3))) (gName 3))
  (tSeq (tAsg (tOp rModI (tOp rDivI (tVar 1) (tC (.int 3))) (tOp rAddA (tCB (rLen K) (tCons (tVar 0) tNil)) (tC (.int 1)))) (gName 4))
  (tSeq (tIfS (tTest (tOp rEqS (tVar 3) (tC (.int 0)))) (tRet (tOp rAddA (tSl (rSlA K) (tVar 0) tNoPart (tPart (tVar 4))) (tSl (rSlA K) (tVar 0) (tPart (tOp rAddA (tVar 4) (tC (.int 1)))) tNoPart))) tNext)
  (tSeq (tIfS (tTest (tOp rEqS (tVar 3) (tC (.int 1)))) (tRet (tOp rAddA (tOp rAddA (tSl (rSlA K) (tVar 0) tNoPart (tPart (tVar 4))) (tCall (sp_law_sign_by K) [] E0 (tCons (tVar 2) tNil))) (tSl (rSlA K) (tVar 0) (tPart (tOp rAddA (tVar 4) (tC (.int 1)))) tNoPart))) tNext)
  (tRet (tOp rAddA (tOp rAddA (tSl (rSlA K) (tVar 0) tNoPart (tPart (tVar 4))) (tCall (sp_law_sign_by K) [] E0 (tCons (tVar 2) tNil))) (tSl (rSlA K) (tVar 0) (tPart (tVar 4)) tNoPart)))))))
def nm_law_spoiled : List Str := ["line", "cell", "other", "way", "at"]
def sp_law_spoiled (K : PySem.W.Frag) : Sp := fun vs H Q _ => ∃ (z : Str) (c d : Int), vs = [.str z, .int c, .int d] ∧ z.length ≤ 100 ∧ ∀ x : Str, x.length ≤ 300 → Q (.str x) H
theorem len_law_spoiled {K vs H Q E} (h : sp_law_spoiled K vs H Q E) : vs.length = 3 := by obtain ⟨_, _, _, rfl, _⟩ := h; rfl
theorem cut_len (z : Str) (a b : Option Int) : (cutS z a b).length ≤ z.length := by
  show (List.toArray _).size ≤ _
  rw [List.size_toArray, List.length_take, List.length_drop, slen]; omega
theorem rdok_law_spoiled {K vs H Q E} (h : sp_law_spoiled K vs H Q E) : rd_law_spoiled K { nx := fun _ H' => Q .non H', rt := Q } (start nm_law_spoiled vs) H := by
  obtain ⟨z, c, d, rfl, hz, q⟩ := h
  simp only [rd_law_spoiled, nm_law_spoiled, L2.start]
  refine tSeq_gen fun U hU => ?_
  walk_at "rd"
  subst hU
  refine tSeq_gen fun U hU => ?_
  walk_at "rd"
  refine ⟨by walk_at "sz", by omega, ?_⟩
  subst hU
  generalize c / 3 % ((z.length : Int) + 1) = a
  have k1 := cut_len z none (some a)
  have k2 := cut_len z (some (a + 1)) none
  have k3 := cut_len z (some a) none
  refine tSeq_gen fun U hU => ?_
  walk_at "rd"
  split
  · refine ⟨by walk_at "sz", by walk_at "sz", by walk_at "sz", q _ ?_⟩
    rw [Str.length_append]; omega
  · subst hU
    refine tSeq_gen fun U hU => ?_
    walk_at "rd"
    split
    · refine ⟨by walk_at "sz", ?_⟩
      refine ⟨d, rfl, fun x hx => ?_⟩
      refine ⟨by walk_at "sz", by walk_at "sz", by rw [Str.length_append]; walk_at "sz", q _ ?_⟩
      rw [Str.length_append, Str.length_append]; omega
    · subst hU
      walk_at "rd"
      refine ⟨by walk_at "sz", ?_⟩
      refine ⟨d, rfl, fun x hx => ?_⟩
      refine ⟨by walk_at "sz", by walk_at "sz", by rw [Str.length_append]; walk_at "sz", q _ ?_⟩
      rw [Str.length_append, Str.length_append]; omega
/-! ### what the law itself reads -/
theorem tw_get : ∀ (l : List Nat) (i : Nat), i ≤ (l.takeWhile isBit).length → ((i < (l.takeWhile isBit).length) ↔ ∃ c, l[i]? = some c ∧ isBit c = true)
  | [], i, h => by simp
  | c :: l, i, h => by
    rw [List.takeWhile_cons] at h ⊢
    by_cases hb : isBit c = true
    · rw [if_pos hb] at h ⊢
      cases i with
      | zero => simp [hb]
      | succ i =>
        rw [List.length_cons] at h ⊢
        rw [List.getElem?_cons_succ, ← tw_get l i (by omega)]
        omega
    · rw [if_neg hb] at h ⊢
      have : i = 0 := by simpa using h
      subst this
      simp [hb]
theorem cut_mid (z : Str) (a : Nat) : cutS z (some (a : Int)) (some ((a : Int) + 2)) = ⟨((z.cps.toList.drop a).take 2).toArray⟩ := by
  have e : ((a : Int) + 2) = ((a + 2 : Nat) : Int) := by omega
  unfold cutS
  rw [e, HT.sIx_nat, HT.sIx_nat, slen]
  congr 2
  by_cases h : a ≤ z.cps.toList.length
  · rw [Nat.min_eq_left h, List.take_eq_take_iff, List.length_drop]
    omega
  · rw [List.drop_of_length_le (i := min a _) (by omega), List.drop_of_length_le (i := a) (by omega)]
    simp
theorem cut_fromS (z : Str) (a : Nat) : cutS z (some (a : Int)) none = ⟨(z.cps.toList.drop a).toArray⟩ := by
  unfold cutS
  rw [HT.sIx_nat, HT.sIx_none, slen]
  congr 2
  by_cases h : a ≤ z.cps.toList.length
  · rw [Nat.min_eq_left h, List.take_of_length_le (by rw [List.length_drop]; exact Nat.le_refl _)]
  · rw [Nat.min_eq_right (by omega), List.drop_of_length_le (Nat.le_refl _), List.drop_of_length_le (by omega)]
    simp
theorem cut_toS (z : Str) (a : Nat) : cutS z none (some (a : Int)) = ⟨(z.cps.toList.take a).toArray⟩ := by
  unfold cutS
  rw [HT.sIx_nat, HT.sIx_none, slen, List.drop_zero, Nat.sub_zero]
  congr 2
  rw [List.take_eq_take_iff]
  omega
theorem str_is {l : List Nat} {t : Str} {m : List Nat} (e : t.cps.toList = m) : ((⟨l.toArray⟩ : Str) = t) ↔ l = m := by
  constructor
  · intro h; rw [← e, ← h]
  · intro h; exact Str.ext' (Array.toList_inj.mp (by rw [e, ← h]))
theorem fig_index {c : Nat} (h : isFig c = true) : Builtin.Str.occurrences (Str.ofString "0123456789") ⟨#[c]⟩ 0 (Str.ofString "0123456789").length 1 = [c - 48] := by
  unfold isFig at h
  simp only [Bool.and_eq_true, decide_eq_true_eq] at h
  have key : ∀ d < 10, Builtin.Str.occurrences (Str.ofString "0123456789") ⟨#[48 + d]⟩ 0 (Str.ofString "0123456789").length 1 = [d] := by decide +kernel
  have := key (c - 48) (by omega)
  rw [show 48 + (c - 48) = c by omega] at this
  exact this
theorem has_fig (c : Nat) : hasS (Str.ofString "0123456789") ⟨#[c]⟩ = isFig c := by
  unfold hasS
  rw [StrLaws.found_one]
  have : (Str.ofString "0123456789").cps.toList = [48, 49, 50, 51, 52, 53, 54, 55, 56, 57] := by decide +kernel
  rw [this]
  unfold isFig
  rw [Bool.eq_iff_iff]
  simp only [decide_eq_true_eq, Bool.and_eq_true, List.mem_cons, List.not_mem_nil, or_false]
  omega
theorem has_bit (c : Nat) : hasS (enc [false, true]) ⟨#[c]⟩ = isBit c := by
  unfold hasS
  rw [StrLaws.found_one]
  have : (enc [false, true]).cps.toList = [48, 49] := rfl
  rw [this]
  unfold isBit
  rw [Bool.eq_iff_iff]
  simp
theorem val_snoc (l : List Nat) (c : Nat) : NumText.digitsVal (l ++ [c]) = NumText.digitsVal l * 10 + (c - 48) := by
  unfold NumText.digitsVal
  rw [List.foldl_append]; rfl
theorem tFor_str {tl : TE} {g : TG} {tb : TS} {D : Ends} {σ : St} {H : Hp} (z : Str) (Pv : List Nat → St → Hp → Prop) (ht : ∀ R : V → Hp → Prop, R (.str z) H → tl σ H R) (h0 : Pv [] σ H)
    (hs : ∀ pre c post σ H, z.cps.toList = pre ++ c :: post → Pv pre σ H → g (.str ⟨#[c]⟩) σ H fun σ2 H2 => tb { D with nx := Pv (pre ++ [c]), ct := Pv (pre ++ [c]), bk := D.nx } σ2 H2) (hd : ∀ σ H, Pv z.cps.toList σ H → D.nx σ H) : tFor (iStr tl) g tb D σ H :=
  ht _ ⟨z, rfl, for_str (x := z) Pv h0 hs hd⟩
def rb_law_due12_1 (K : PySem.W.Frag) : TS :=
  (tSeq (tIfS (tTest (tOp (rInS true) (tVar 4) (tC (.str (Str.ofString "0123456789"))))) (tRet (tC .non)) tNext)
  (tAsg (tOp rAddA (tOp rMulA (tC (.int 10)) (tVar 3)) (tBM K "str" rIndexT (tC (.str (Str.ofString "0123456789"))) (tCons (tVar 4) tNil))) (gName 3)))
def rb_law_due12_2 (K : PySem.W.Frag) : TS :=
  (tAsg (tOp rAddA (tVar 1) (tC (.int 1))) (gName 1))
def rd_law_due12 (K : PySem.W.Frag) : TS :=
  (tSeq (tAsg (tC (.int 0)) (gName 1))
  (tSeq (tWhile (tAnd (tTest (tOp rLt (tVar 1) (tCB (rLen K) (tCons (tVar 0) tNil)))) (tAnd (tTest (tOp rLt (tVar 1) (tC (.int 17)))) (tTest (tOp (rInS false) (tOp (rIxA K) (tVar 0) (tVar 1)) (tC (.str (Str.ofString "01"))))))) (rb_law_due12_2 K))
  (tSeq (tIfS (tOr (tTest (tOp rGt (tVar 1) (tC (.int 16)))) (tTest (tOp rNeS (tSl (rSlA K) (tVar 0) (tPart (tVar 1)) (tPart (tOp rAddA (tVar 1) (tC (.int 2))))) (tC (.str (Str.ofString "* ")))))) (tRet (tC .non)) tNext)
  (tSeq (tAsg (tSl (rSlA K) (tVar 0) (tPart (tOp rAddA (tVar 1) (tC (.int 2)))) tNoPart) (gName 2))
  (tSeq (tIfS (tTest (tOp rEqS (tVar 2) (tC (.str (Str.ofString "nowhere"))))) (tRet (tTup (tCons (tSl (rSlA K) (tVar 0) tNoPart (tPart (tVar 1))) (tCons (tC .non) tNil)))) tNext)
  (tSeq (tIfS (tOr (tTest (tOp rEqS (tVar 2) (tC (.str (Str.ofString ""))))) (tOr (tTest (tOp rGt (tCB (rLen K) (tCons (tVar 2) tNil)) (tC (.int 4)))) (tAnd (tTest (tOp rNeS (tVar 2) (tC (.str (Str.ofString "0"))))) (tTest (tOp rEqS (tOp (rIxA K) (tVar 2) (tC (.int 0))) (tC (.str (Str.ofString "0")))))))) (tRet (tC .non)) tNext)
  (tSeq (tAsg (tC (.int 0)) (gName 3))
  (tSeq (tFor (iStr (tVar 2)) (gName 4) (rb_law_due12_1 K))
  (tRet (tTup (tCons (tSl (rSlA K) (tVar 0) tNoPart (tPart (tVar 1))) (tCons (tVar 3) tNil))))))))))))
def nm_law_due12 : List Str := ["line", "at", "word", "number", "sign"]
def sp_law_due12 (K : PySem.W.Frag) : Sp := fun vs H Q _ => ∃ (z : Str), vs = [.str z] ∧ z.length ≤ 500 ∧ match readS z.cps.toList with
  | some r => ∀ p, H p = none → Q (.ref p) (upd H p (.tup [.str (enc r.1), wayV r.2]))
  | none => Q .non H
theorem len_law_due12 {K vs H Q E} (h : sp_law_due12 K vs H Q E) : vs.length = 1 := by obtain ⟨_, rfl, _⟩ := h; rfl
theorem rdok_law_due12 {K vs H Q E} (h : sp_law_due12 K vs H Q E) : rd_law_due12 K { nx := fun _ H' => Q .non H', rt := Q } (start nm_law_due12 vs) H := by
  obtain ⟨z, rfl, hz, q⟩ := h
  have el := slen z
  simp only [rd_law_due12, nm_law_due12, L2.start, star_of]
  refine tSeq_gen fun U hU => ?_
  walk_at "rd"
  subst hU
  refine tSeq_gen fun U hU => ?_
  refine tWhile_by (fun σ H' => H' = H ∧ ∃ i : Nat, i ≤ (z.cps.toList.takeWhile isBit).length ∧ i ≤ 17 ∧ σ = [some (.str z), some (.int i), none, none, none]) (fun σ _ => match σ with | [_, some (.int i), _, _, _] => (17 - i).toNat | _ => 0) ⟨rfl, 0, by omega, by omega, rfl⟩ ?_
  rintro σ H' ⟨rfl, i, hi, hi2, rfl⟩
  have key := tw_get _ i hi
  refine ⟨decide (i < (z.cps.toList.takeWhile isBit).length ∧ i < 17), fun R h => ?_, ?_⟩
  · walk_at "rd"
    refine ⟨by walk_at "sz", ?_⟩
    split
    · rename_i h1
      split
      · rename_i h2
        have hil : i < z.cps.toList.length := by omega
        refine ⟨by walk_at "sz", _, atI_nat (List.getElem?_eq_getElem hil), ?_⟩
        refine ⟨_, rfl, ?_⟩
        show R (hasS (enc [false, true]) ⟨#[z.cps.toList[i]]⟩) H'
        rw [has_bit]
        have e : isBit z.cps.toList[i] = decide (i < (z.cps.toList.takeWhile isBit).length ∧ i < 17) := by
          rw [Bool.eq_iff_iff, decide_eq_true_iff, key]
          constructor
          · intro hb; exact ⟨⟨_, List.getElem?_eq_getElem hil, hb⟩, by omega⟩
          · rintro ⟨⟨c, hc, hb⟩, _⟩
            rw [List.getElem?_eq_getElem hil] at hc; cases hc; exact hb
        rw [e]; exact h
      · rename_i h2
        rw [decide_eq_false (fun z => h2 (by omega))] at h
        exact h
    · rename_i h1
      rw [decide_eq_false (fun w => ?_)] at h
      · exact h
      · obtain ⟨c, hc, _⟩ := key.mp w.1
        have := (List.getElem?_eq_some_iff.mp hc).1
        omega
  · by_cases hb : i < (z.cps.toList.takeWhile isBit).length ∧ i < 17
    · rw [decide_eq_true hb, if_pos rfl]
      simp only [rb_law_due12_2]
      walk_at "rd"
      refine ⟨⟨i + 1, by omega, by omega, ?_⟩, ?_⟩
      · congr 1
      · omega
    · rw [decide_eq_false hb, if_neg Bool.false_ne_true]
      dsimp only
      subst hU
      refine tSeq_gen fun U hU => ?_
      walk_at "rd"
      have hn : (z.cps.toList.takeWhile isBit).length ≤ 16 → i = (z.cps.toList.takeWhile isBit).length := fun w => by omega
      unfold readS at q
      dsimp only at q
      by_cases h16 : (z.cps.toList.takeWhile isBit).length ≤ 16
      · have ei := hn h16
        rw [← ei] at q
        rw [if_neg (by omega)]
        refine ⟨by walk_at "sz", ?_⟩
        rw [cut_mid]
        have es : ((⟨((z.cps.toList.drop i).take 2).toArray⟩ : Str) = starS) ↔ (z.cps.toList.drop i).take 2 = [42, 32] := str_is rfl
        by_cases hst : (z.cps.toList.drop i).take 2 = [42, 32]
        · rw [decide_eq_true (es.mpr hst)]
          simp only [Bool.not_true, Bool.false_eq_true, if_false]
          rw [if_pos ⟨by omega, hst⟩] at q
          subst hU
          refine tSeq_gen fun U hU => ?_
          have e2 : (i : Int) + 2 = ((i + 2 : Nat) : Int) := by omega
          walk_at "rd"
          refine ⟨by walk_at "sz", ?_⟩
          rw [e2, cut_fromS]
          subst hU
          have ebit : enc (bitsL (z.cps.toList.take i)) = ⟨(z.cps.toList.take i).toArray⟩ := enc_of (z := ⟨(z.cps.toList.take i).toArray⟩) (by rw [ei]; exact all_takeWhile _)
          have lw : (z.cps.toList.drop (i + 2)).length ≤ 500 := by rw [List.length_drop]; omega
          generalize z.cps.toList.drop (i + 2) = W at q lw ⊢
          have eW : (⟨W.toArray⟩ : Str).cps.toList = W := rfl
          have lW : (⟨W.toArray⟩ : Str).length = W.length := by show W.toArray.size = _; rw [List.size_toArray]
          unfold wayS at q
          refine tSeq_gen fun U hU => ?_
          walk_at "rd"
          have eN : ((⟨W.toArray⟩ : Str) = Str.ofString "nowhere") ↔ W = nowL := str_is (by decide +kernel)
          by_cases hN : W = nowL
          · rw [if_pos (eN.mpr hN)]
            rw [if_pos hN] at q
            refine ⟨by walk_at "sz", by walk_at "sz", fun p hp => ?_⟩
            rw [cut_toS, ← ebit]
            exact q p hp
          · rw [if_neg (fun w => hN (eN.mp w))]
            rw [if_neg hN] at q
            subst hU
            refine tSeq_gen fun U hU => ?_
            walk_at "rd"
            have e0 : ((⟨W.toArray⟩ : Str) = enc []) ↔ W = [] := str_is rfl
            have e1 : ((⟨W.toArray⟩ : Str) = enc [false]) ↔ W = [48] := str_is rfl
            cases W with
            | nil =>
              rw [if_pos (e0.mpr rfl)]
              exact q
            | cons c cs =>
              rw [if_neg (fun w => by cases e0.mp w)]
              refine ⟨by rw [lW]; walk_at "sz", ?_⟩
              by_cases h4 : (c :: cs).length ≤ 4
              · rw [if_neg (by rw [lW]; omega)]
                have more : ([48].isPrefixOf (c :: cs)) = (48 == c) := by
                  show ((48 == c) && [].isPrefixOf cs) = _
                  simp
                have go : ((c :: cs) == [48] || !([48].isPrefixOf (c :: cs))) = true → U { nx := fun x H' => Q V.non H', rt := Q } [some (V.str z), some (V.int i), some (V.str ⟨(c :: cs).toArray⟩), none, none] H' := by
                  intro hz0
                  have ok : numOk (c :: cs) = (c :: cs).all isFig := by
                    unfold numOk
                    rw [hz0, decide_eq_true h4]
                    simp
                  rw [ok] at q
                  subst hU
                  refine tSeq_gen fun U hU => ?_
                  walk_at "rd"
                  subst hU
                  refine tSeq_gen fun U hU => ?_
                  refine tFor_str ⟨(c :: cs).toArray⟩ (fun pre σ H2 => H2 = H' ∧ pre.all isFig = true ∧ ∃ o, σ = [some (.str z), some (.int i), some (.str ⟨(c :: cs).toArray⟩), some (.int ((NumText.digitsVal pre : Nat) : Int)), o]) (fun R h => by walk_at "rd"; exact h) ⟨rfl, rfl, none, rfl⟩ ?_ ?_
                  · rintro pre d post σ H2 e ⟨rfl, hpre, o, rfl⟩
                    have e : c :: cs = pre ++ d :: post := e
                    simp only [rb_law_due12_1, gName, List.set_cons_succ, List.set_cons_zero]
                    refine tSeq_gen fun U hU => ?_
                    walk_at "rd"
                    refine ⟨_, rfl, ?_⟩
                    show if (!hasS (Str.ofString "0123456789") ⟨#[d]⟩) = true then _ else _
                    rw [has_fig]
                    cases hd : isFig d with
                    | false =>
                      have : (c :: cs).all isFig = false := by rw [e, List.all_append, List.all_cons, hd, Bool.false_and, Bool.and_false]
                      rw [this] at q
                      exact q
                    | true =>
                      simp only [Bool.not_true, Bool.false_eq_true, if_false]
                      subst hU
                      walk_at "rd"
                      refine ⟨.inl ⟨by decide, by decide⟩, rfl, _, _, fig_index hd, ?_⟩
                      refine ⟨rfl, by rw [List.all_append, hpre, List.all_cons, hd]; rfl, ?_⟩
                      rw [val_snoc]
                      omega
                  · rintro σ H2 ⟨rfl, hall, o, rfl⟩
                    have hall : (c :: cs).all isFig = true := hall
                    rw [hall] at q
                    subst hU
                    dsimp only
                    walk_at "rd"
                    refine ⟨by walk_at "sz", by walk_at "sz", fun p hp => ?_⟩
                    rw [cut_toS, ← ebit]
                    exact q p hp
                by_cases h1 : (c :: cs) = [48]
                · rw [decide_eq_true (e1.mpr h1)]
                  simp only [Bool.not_true, Bool.false_eq_true, if_false]
                  exact go (by rw [h1]; rfl)
                · rw [decide_eq_false (fun w => h1 (e1.mp w))]
                  simp only [Bool.not_false, if_true]
                  refine ⟨by rw [lW]; walk_at "sz", c, atI_nat (j := 0) rfl, ?_⟩
                  have ec : ((⟨#[c]⟩ : Str) = enc [false]) ↔ c = 48 := by
                    constructor
                    · intro h; have := congrArg (fun x : Str => x.cps.toList) h; simpa [enc, sg] using this
                    · intro h; rw [h]; rfl
                  by_cases hc : c = 48
                  · have : numOk (c :: cs) = false := by
                      unfold numOk
                      have : ((c :: cs) == [48]) = false := by rw [beq_eq_false_iff_ne]; exact h1
                      rw [this, more, hc]
                      simp
                    rw [this] at q
                    rw [if_pos (ec.mpr hc)]
                    exact q
                  · rw [if_neg (fun w => hc (ec.mp w))]
                    exact go (by rw [more]; have : (48 == c) = false := by rw [beq_eq_false_iff_ne]; omega
                                 rw [this]; simp)
              · rw [if_pos (by rw [lW]; omega)]
                have : numOk (c :: cs) = false := by
                  unfold numOk
                  rw [decide_eq_false h4]
                  simp
                rw [this] at q
                exact q
        · rw [decide_eq_false (fun w => hst (es.mp w))]
          simp only [Bool.not_false, if_true]
          rw [if_neg (fun w => hst w.2)] at q
          exact q
      · rw [if_pos (by omega)]
        rw [if_neg (fun w => h16 w.1)] at q
        exact q
/-! ### what the program tells -/
def rd_law_told (K : PySem.W.Frag) : TS :=
  (tSeq (tTry K (clsAt K "RoadError") 2 (fun E => (tAsg (tCall (sp_read K) [] E (tCons (tVar 0) tNil)) (gName 1))) (tSeq (tAsg (tLst (tCons (tCB (rIsiX K) (tCons (tVar 2) (tCons (tC (.ref (clsAt K "BadHead"))) tNil))) (tCons (tCB (rIsiX K) (tCons (tVar 2) (tCons (tC (.ref (clsAt K "BadAddress"))) tNil))) (tCons (tCB (rIsiX K) (tCons (tVar 2) (tCons (tC (.ref (clsAt K "BadSpan"))) tNil))) (tCons (tCB (rIsiX K) (tCons (tVar 2) (tCons (tC (.ref (clsAt K "FullBoard"))) tNil))) tNil))))) (gName 3))
  (tSeq (tAsg (tOp rAddA (tVar 3) (tLst (tCons (tCB (rIsiX K) (tCons (tVar 2) (tCons (tC (.ref (clsAt K "NoHead"))) tNil))) tNil))) (gName 3))
  (tRet (tTup (tCons (tC (.bl false)) (tCons (tAndV (tCB (rIsiX K) (tCons (tVar 2) (tCons (tC (.ref (clsAt K "BadLine"))) tNil))) (tAndV (tCB (rIsiX K) (tCons (tVar 2) (tCons (tC (.ty "ValueError")) tNil))) (tOp (rEqD K) (tVar 3) (tOp rMulA (tLst (tCons (tC (.bl false)) tNil)) (tC (.int 5)))))) tNil)))))))
  (tRet (tTup (tCons (tC (.bl true)) (tCons (tVar 1) tNil)))))
def nm_law_told : List Str := ["line", "found", "e", "some"]
/-- what was told: a row, or that the line was refused as it should be -/
def ToldIs (H : Hp) (v : V) : Option Row → Prop
  | some r => ∃ t p, v = .ref t ∧ H t = some (.tup [.bl true, .ref p]) ∧ H p = some (.tup [.str (enc r.1), wayV r.2])
  | none => ∃ t, v = .ref t ∧ H t = some (.tup [.bl false, .bl true])
theorem ToldIs.mono {H H' : Hp} {v : V} {o : Option Row} (h : ToldIs H v o) (s : Tp H H') : ToldIs H' v o := by
  cases o with
  | none => obtain ⟨t, e, h⟩ := h; exact ⟨t, e, s _ _ h⟩
  | some r => obtain ⟨t, p, e, h1, h2⟩ := h; exact ⟨t, p, e, s _ _ h1, s _ _ h2⟩
def sp_law_told (K : PySem.W.Frag) : Sp := fun vs H Q _ => ∃ (z : Str), vs = [.str z] ∧ z.length ≤ 500 ∧ ∀ v H', Tp H H' → ToldIs H' v (readS z.cps.toList) → Q v H'
theorem len_law_told {K vs H Q E} (h : sp_law_told K vs H Q E) : vs.length = 1 := by obtain ⟨_, rfl, _⟩ := h; rfl
theorem rdok_law_told {K vs H Q E} (T : Err K) (h : sp_law_told K vs H Q E) : rd_law_told K { nx := fun _ H' => Q .non H', rt := Q } (start nm_law_told vs) H := by
  obtain ⟨z, rfl, hz, q⟩ := h
  simp only [rd_law_told, nm_law_told, L2.start]
  refine tSeq_gen fun U hU => ?_
  simp only [tTry]
  walk_at "rd"
  refine ⟨z, rfl, hz, ?_⟩
  cases hr : readS z.cps.toList with
  | some r =>
    rw [hr] at q
    intro p H' hp sm h1
    subst hU
    walk_at "rd"
    refine ⟨by walk_at "sz", fun t ht => ?_⟩
    have s2 : Same H' (upd H' t (.tup [.bl true, .ref p])) := Same.upd ht
    exact q _ _ (sm.trans s2).tp ⟨t, p, rfl, upd_same, s2 _ _ h1⟩
  | none =>
    rw [hr] at q
    intro H' sm
    refine ⟨_, rfl, T.sub, fun a ha => ?_⟩
    have s1 : Same H' (upd H' a (excO a (clsAt K "BadLine"))) := Same.upd ha
    have hx : upd H' a (excO a (clsAt K "BadLine")) a = some (excO a (clsAt K "BadLine")) := upd_same
    generalize upd H' a (excO a (clsAt K "BadLine")) = H1 at s1 hx ⊢
    refine ⟨_, _, hx, T.k, T.i1, _, _, hx, T.k, T.i2, _, _, hx, T.k, T.i3, _, _, hx, T.k, T.i4, by walk_at "sz", fun l hl => ?_⟩
    have s2 : Same H1 (upd H1 l (.lst [.bl false, .bl false, .bl false, .bl false])) := Same.upd hl
    have h2 : upd H1 l (.lst [.bl false, .bl false, .bl false, .bl false]) l = some (.lst [.bl false, .bl false, .bl false, .bl false]) := upd_same
    generalize upd H1 l (.lst [.bl false, .bl false, .bl false, .bl false]) = H2 at s2 h2 ⊢
    refine ⟨_, _, s2 _ _ hx, T.k, T.i7, by walk_at "sz", fun l3 hl3 => ?_⟩
    have s3 : Same H2 (upd H2 l3 (.lst [.bl false])) := Same.upd hl3
    have h3 : upd H2 l3 (.lst [.bl false]) l3 = some (.lst [.bl false]) := upd_same
    generalize upd H2 l3 (.lst [.bl false]) = H3 at s3 h3 ⊢
    refine ⟨_, s3 _ _ h2, _, h3, by walk_at "sz", fun l4 hl4 => ?_⟩
    have s4 : Same H3 (upd H3 l4 (.lst ([V.bl false, .bl false, .bl false, .bl false] ++ [.bl false]))) := Same.upd hl4
    have h4 : upd H3 l4 (.lst ([V.bl false, .bl false, .bl false, .bl false] ++ [.bl false])) l4 = some (.lst [.bl false, .bl false, .bl false, .bl false, .bl false]) := upd_same
    generalize upd H3 l4 (.lst ([V.bl false, .bl false, .bl false, .bl false] ++ [.bl false])) = H4 at s4 h4 ⊢
    have hx4 := s4 _ _ (s3 _ _ (s2 _ _ hx))
    refine ⟨_, _, hx4, T.k, T.i5, true, rfl, ?_⟩
    rw [if_pos rfl]
    refine ⟨_, _, hx4, T.k, T.i6, true, rfl, ?_⟩
    rw [if_pos rfl]
    refine ⟨by walk_at "sz", fun l5 hl5 => ?_⟩
    have s5 : Same H4 (upd H4 l5 (.lst [.bl false])) := Same.upd hl5
    have h5 : upd H4 l5 (.lst [.bl false]) l5 = some (.lst [.bl false]) := upd_same
    generalize upd H4 l5 (.lst [.bl false]) = H5 at s5 h5 ⊢
    refine ⟨_, h5, by omega, by omega, by walk_at "sz", fun l6 hl6 => ?_⟩
    refine ⟨.list [.bool false, .bool false, .bool false, .bool false, .bool false], .list [.bool false, .bool false, .bool false, .bool false, .bool false],
      .lst (SqL.of (by rw [upd_ne (ne_of_none (s5 _ _ h4) hl6)]; exact s5 _ _ h4)) (.cons (.bl _) (.cons (.bl _) (.cons (.bl _) (.cons (.bl _) (.cons (.bl _) .nil))))), .lst (SqL.of upd_same) (.cons (.bl _) (.cons (.bl _) (.cons (.bl _) (.cons (.bl _) (.cons (.bl _) .nil))))), rfl, rfl, ?_⟩
    refine ⟨by walk_at "sz", fun t ht => ?_⟩
    refine q _ _ (sm.trans (s1.trans (s2.trans (s3.trans (s4.trans (s5.trans ((Same.upd hl6).trans (Same.upd ht)))))))).tp ⟨t, rfl, ?_⟩
    exact upd_same
def rd_law_right (K : PySem.W.Frag) : TS :=
  (tSeq (tIfS (tTest (tOp rIsN (tVar 1) (tC .non))) (tRet (tOp (rEqD K) (tVar 0) (tTup (tCons (tC (.bl false)) (tCons (tC (.bl true)) tNil))))) tNext)
  (tSeq (tIfS (tOr (tNot (tB (tOp (rIxA K) (tVar 0) (tC (.int 0))))) (tOr (tNot (tB (tCB rIsi2 (tCons (tOp (rIxA K) (tVar 0) (tC (.int 1))) (tCons (tC (.ty "tuple")) tNil))))) (tOr (tTest (tOp rNeS (tCB (rLen K) (tCons (tOp (rIxA K) (tVar 0) (tC (.int 1))) tNil)) (tC (.int 2)))) (tNot (tB (tCB rIsi2 (tCons (tOp (rIxA K) (tOp (rIxA K) (tVar 0) (tC (.int 1))) (tC (.int 0))) (tCons (tC (.ty "str")) tNil)))))))) (tRet (tC (.bl false))) tNext)
  (tRet (tAndV (tOp rEqS (tOp (rIxA K) (tOp (rIxA K) (tVar 0) (tC (.int 1))) (tC (.int 0))) (tOp (rIxA K) (tVar 1) (tC (.int 0)))) (tCall (sp_law_way_is K) [] E0 (tCons (tOp (rIxA K) (tOp (rIxA K) (tVar 0) (tC (.int 1))) (tC (.int 1))) (tCons (tOp (rIxA K) (tVar 1) (tC (.int 1))) tNil)))))))
def nm_law_right : List Str := ["got", "due"]
def DueIs (H : Hp) (v : V) : Option Row → Prop
  | some r => ∃ p, v = .ref p ∧ H p = some (.tup [.str (enc r.1), wayV r.2])
  | none => v = .non
def sp_law_right (K : PySem.W.Frag) : Sp := fun vs H Q _ => ∃ (g d : V) (o : Option Row), vs = [g, d] ∧ ToldIs H g o ∧ DueIs H d o ∧ ∀ H', Same H H' → Q (.bl true) H'
theorem len_law_right {K vs H Q E} (h : sp_law_right K vs H Q E) : vs.length = 2 := by obtain ⟨_, _, _, rfl, _⟩ := h; rfl
theorem rdok_law_right {K vs H Q E} (h : sp_law_right K vs H Q E) : rd_law_right K { nx := fun _ H' => Q .non H', rt := Q } (start nm_law_right vs) H := by
  obtain ⟨g, d, o, rfl, hg, hd, q⟩ := h
  simp only [rd_law_right, nm_law_right, L2.start]
  refine tSeq_gen fun U hU => ?_
  cases o with
  | none =>
    obtain ⟨t, rfl, ht⟩ := hg
    obtain rfl := hd
    walk_at "rd"
    refine ⟨by walk_at "sz", fun t2 ht2 => ?_⟩
    have s2 : Same H (upd H t2 (.tup [.bl false, .bl true])) := Same.upd ht2
    exact ⟨.tuple [.bool false, .bool true], .tuple [.bool false, .bool true], .tup (SqT.of (s2 _ _ ht)) (.cons (.bl _) (.cons (.bl _) .nil)), .tup (SqT.of upd_same) (.cons (.bl _) (.cons (.bl _) .nil)), rfl, rfl, q _ s2⟩
  | some r =>
    obtain ⟨t, p, rfl, ht, hp⟩ := hg
    obtain ⟨p2, rfl, hp2⟩ := hd
    walk_at "rd"
    subst hU
    refine tSeq_gen fun U hU => ?_
    walk_at "rd"
    refine ⟨_, .inr (SqT.of ht), _, rfl, true, rfl, ?_⟩
    walk_at "rd"
    refine ⟨_, .inr (SqT.of ht), _, atI_nat (j := 1) rfl, ?_⟩
    refine ⟨_, hp, true, rfl, ?_⟩
    walk_at "rd"
    refine ⟨_, .inr (SqT.of ht), _, atI_nat (j := 1) rfl, ?_⟩
    refine ⟨_, .inr (SqT.of hp), ?_⟩
    walk_at "rd"
    refine ⟨_, .inr (SqT.of ht), _, atI_nat (j := 1) rfl, ?_⟩
    refine ⟨_, .inr (SqT.of hp), _, rfl, ?_⟩
    walk_at "rd"
    subst hU
    walk_at "rd"
    refine ⟨_, .inr (SqT.of ht), _, atI_nat (j := 1) rfl, ?_⟩
    refine ⟨_, .inr (SqT.of hp), _, rfl, ?_⟩
    refine ⟨_, .inr (SqT.of hp2), _, rfl, ?_⟩
    walk_at "rd"
    refine ⟨_, .inr (SqT.of ht), _, atI_nat (j := 1) rfl, ?_⟩
    refine ⟨_, .inr (SqT.of hp), _, atI_nat (j := 1) rfl, ?_⟩
    refine ⟨_, .inr (SqT.of hp2), _, atI_nat (j := 1) rfl, ?_⟩
    refine ⟨r.2, r.2, rfl, ?_⟩
    simp only [decide_true]
    exact q _ (Same.refl _)
def rd_law12 (K : PySem.W.Frag) : TS :=
  (tSeq (tAsg (tCall (sp_law_bits_by K) [] E0 (tCons (tCall (sp_law_cell_at K) [] E0 (tCons (tVar 0) (tCons (tC (.int 1)) tNil))) (tCons (tOp rModI (tCall (sp_law_cell_at K) [] E0 (tCons (tVar 0) (tCons (tC (.int 0)) tNil))) (tC (.int 18))) tNil))) (gName 1))
  (tSeq (tAsg (tOp rAddA (tOp rAddA (tVar 1) (tC (.str (Str.ofString "* ")))) (tCB rStrI (tCons (tOp rModI (tCall (sp_law_cell_at K) [] E0 (tCons (tVar 0) (tCons (tC (.int 2)) tNil))) (tOp rPowI (tC (.int 10)) (tC (.int 5)))) tNil))) (gName 2))
  (tSeq (tIfS (tTest (tOp rEqS (tOp rModI (tOp rDivI (tCall (sp_law_cell_at K) [] E0 (tCons (tVar 0) (tCons (tC (.int 2)) tNil))) (tOp rPowI (tC (.int 10)) (tC (.int 5)))) (tC (.int 4))) (tC (.int 1)))) (tAsg (tOp rAddA (tVar 1) (tC (.str (Str.ofString "* nowhere")))) (gName 2)) tNext)
  (tSeq (tIfS (tTest (tOp rGt (tOp rModI (tCall (sp_law_cell_at K) [] E0 (tCons (tVar 0) (tCons (tC (.int 3)) tNil))) (tC (.int 3))) (tC (.int 0)))) (tAsg (tCall (sp_law_spoiled K) [] E0 (tCons (tVar 2) (tCons (tOp rDivI (tCall (sp_law_cell_at K) [] E0 (tCons (tVar 0) (tCons (tC (.int 3)) tNil))) (tC (.int 3))) (tCons (tCall (sp_law_cell_at K) [] E0 (tCons (tVar 0) (tCons (tC (.int 4)) tNil))) tNil)))) (gName 2)) tNext)
  (tSeq (tIfS (tTest (tOp rEqS (tOp rModI (tCall (sp_law_cell_at K) [] E0 (tCons (tVar 0) (tCons (tC (.int 5)) tNil))) (tC (.int 6))) (tC (.int 1)))) (tAsg (tCall (sp_law_odd K) [] E0 (tCons (tOp rDivI (tCall (sp_law_cell_at K) [] E0 (tCons (tVar 0) (tCons (tC (.int 5)) tNil))) (tC (.int 6))) tNil)) (gName 2)) tNext)
  (tSeq (tAsg (tCall (sp_law_due12 K) [] E0 (tCons (tVar 2) tNil)) (gName 3))
  (tRet (tAndV (tCall (sp_law_right K) [] E0 (tCons (tCall (sp_law_told K) [] E0 (tCons (tVar 2) tNil)) (tCons (tVar 3) tNil))) (tCall (sp_law_right K) [] E0 (tCons (tCall (sp_law_told K) [] E0 (tCons (tVar 2) tNil)) (tCons (tVar 3) tNil)))))))))))
def nm_law12 : List Str := ["script", "head", "line", "due"]
def sp_law12 (K : PySem.W.Frag) : Sp := fun vs H Q _ => ∃ (a : Addr) (ns : List Int), vs = [.ref a] ∧ SqL K H a (ns.map V.int) ∧ ns.length ≤ 63 ∧ ∀ H', Q (.bl true) H'
theorem len_law12 {K vs H Q E} (h : sp_law12 K vs H Q E) : vs.length = 1 := by obtain ⟨_, _, rfl, _⟩ := h; rfl
theorem rdok_law12 {K vs H Q E} (h : sp_law12 K vs H Q E) : rd_law12 K { nx := fun _ H' => Q .non H', rt := Q } (start nm_law12 vs) H := by
  obtain ⟨a, ns, rfl, hs, _, q⟩ := h
  simp only [rd_law12, nm_law12, L2.start, star_of]
  refine tSeq_gen fun U hU => ?_
  walk_at "rd"
  refine cell_app hs (by decide) ?_
  walk_at "rd"
  refine cell_app hs (by decide) ?_
  simp only [sp_law_bits_by]
  walk_at "rd"
  refine ⟨by omega, by omega, ?_⟩
  subst hU
  have hl := bitsBy_len (cell ns 0 % 18).toNat (cell ns 1)
  generalize bitsBy (cell ns 0 % 18).toNat (cell ns 1) = h at hl ⊢
  have hl : h.length ≤ 17 := by omega
  refine tSeq_gen fun U hU => ?_
  walk_at "rd"
  have es : starS.length = 2 := rfl
  refine ⟨by walk_at "sz", ?_⟩
  refine cell_app hs (by decide) ?_
  walk_at "rd"
  refine ⟨by constructor <;> decide, by decide, ?_⟩
  have i0 := Int.emod_nonneg (cell ns 2) (show (10 : Int) ^ Int.toNat 5 ≠ 0 by decide)
  have i1 := Int.emod_lt_of_pos (cell ns 2) (show (0 : Int) < 10 ^ Int.toNat 5 by decide)
  obtain ⟨m, hm⟩ := Int.eq_ofNat_of_zero_le i0
  rw [hm] at i1 ⊢
  have i1 : m < 100000 := by have : (10 : Int) ^ Int.toNat 5 = 100000 := by decide
                             omega
  have lm : (Str.ofString (toString (m : Int))).length ≤ 10 := PySem.W.KT.len_num (by omega) (by omega)
  refine ⟨?_, by rw [Str.length_append, enc_len]; walk_at "sz", ?_⟩
  · show (m : Int).natAbs.log2 < 1920
    have e : (m : Int).natAbs = m := rfl
    rw [e]
    by_cases hm : m = 0
    · subst hm; decide
    · exact Nat.lt_of_lt_of_le ((Nat.log2_lt hm).mpr (show m < 2 ^ 17 by omega)) (by decide)
  subst hU
  have lz : (enc h ++ starS ++ Str.ofString (toString (m : Int))).length ≤ 100 := by rw [Str.length_append, Str.length_append, enc_len]; omega
  generalize enc h ++ starS ++ Str.ofString (toString (m : Int)) = z at lz ⊢
  clear lm i1 hm i0
  refine tSeq_gen fun U1 hU1 => ?_
  have cont1 : ∀ z : Str, z.length ≤ 100 → U1 { nx := fun x H' => Q V.non H', rt := Q } [some (V.ref a), some (V.str (enc h)), some (V.str z), none] H := by
    intro z lz
    subst hU1
    refine tSeq_gen fun U2 hU2 => ?_
    have cont2 : ∀ z : Str, z.length ≤ 300 → U2 { nx := fun x H' => Q V.non H', rt := Q } [some (V.ref a), some (V.str (enc h)), some (V.str z), none] H := by
      intro z lz
      subst hU2
      refine tSeq_gen fun U3 hU3 => ?_
      have cont3 : ∀ (z : Str) (H : Hp), z.length ≤ 300 → U3 { nx := fun x H' => Q V.non H', rt := Q } [some (V.ref a), some (V.str (enc h)), some (V.str z), none] H := by
        clear lz hs
        intro z H lz
        subst hU3
        refine tSeq_gen fun U hU => ?_
        walk_at "rd"
        refine ⟨z, rfl, by omega, ?_⟩
        have fin : ∀ (d : V) (H1 : Hp), DueIs H1 d (readS z.cps.toList) → U { nx := fun x H' => Q V.non H', rt := Q } [some (V.ref a), some (V.str (enc h)), some (V.str z), some d] H1 := by
          intro d H1 hd
          subst hU
          walk_at "rd"
          refine ⟨z, rfl, by omega, fun v H2 t2 hv => ?_⟩
          have mono : ∀ {H H' : Hp}, Tp H H' → DueIs H d (readS z.cps.toList) → DueIs H' d (readS z.cps.toList) := fun t w => by
            cases hr : readS z.cps.toList with
            | none => rw [hr] at w; exact w
            | some r => rw [hr] at w; obtain ⟨p, e, w⟩ := w; exact ⟨p, e, t _ _ w⟩
          refine ⟨v, d, _, rfl, hv, mono t2 hd, fun H3 s3 => ?_⟩
          walk_at "rd"
          refine ⟨z, rfl, by omega, fun v' H4 t4 hv' => ?_⟩
          exact ⟨v', d, _, rfl, hv', mono (t2.trans (s3.tp.trans t4)) hd, fun H5 s5 => q _⟩
        cases hr : readS z.cps.toList with
        | none =>
          rw [hr] at fin
          exact fin .non H rfl
        | some r =>
          rw [hr] at fin
          exact fun p hp => fin (.ref p) _ ⟨p, rfl, upd_same⟩
      walk_at "rd"
      refine cell_app hs (by decide) ?_
      walk_at "rd"
      split
      · refine cell_app hs (by decide) ?_
        walk_at "rd"
        exact ⟨_, rfl, fun x H' _ lx => cont3 x H' (by omega)⟩
      · exact cont3 z H lz
    walk_at "rd"
    refine cell_app hs (by decide) ?_
    walk_at "rd"
    split
    · refine cell_app hs (by decide) ?_
      walk_at "rd"
      refine cell_app hs (by decide) ?_
      exact ⟨z, _, _, rfl, by omega, fun x lx => cont2 x lx⟩
    · exact cont2 z (by omega)
  walk_at "rd"
  refine cell_app hs (by decide) ?_
  walk_at "rd"
  refine ⟨by constructor <;> decide, by decide, by decide, ?_⟩
  split
  · have en : (Str.ofString "* nowhere").length = 9 := rfl
    exact ⟨by walk_at "sz", cont1 _ (by rw [Str.length_append, enc_len]; omega)⟩
  · exact cont1 z lz
def top (i : Nat) : Stmt := PySem.Challenge.pw_headroad_k12_lines_refused.main.body.getD i (.Pass ⟨0, 0, 0, 0⟩)
abbrev s_is_head : Stmt := top 9
theorem sc_is_head : FnScope ["text", "size"] ["text", "size"] (defScope s_is_head) := ⟨rfl, rfl, rfl, by decide +kernel, rfl, by decide +kernel, by decide +kernel⟩
abbrev s_is_number : Stmt := top 15
theorem sc_is_number : FnScope ["text"] ["text"] (defScope s_is_number) := ⟨rfl, rfl, rfl, by decide +kernel, rfl, by decide +kernel, by decide +kernel⟩
abbrev s_read_way : Stmt := top 16
theorem sc_read_way : FnScope ["text"] ["text"] (defScope s_read_way) := ⟨rfl, rfl, rfl, by decide +kernel, rfl, by decide +kernel, by decide +kernel⟩
abbrev s_read : Stmt := top 17
theorem sc_read : FnScope ["line", "parts"] ["line"] (defScope s_read) := ⟨rfl, rfl, rfl, by decide +kernel, rfl, by decide +kernel, by decide +kernel⟩
abbrev s__law_cell_at : Stmt := top 19
theorem sc__law_cell_at : FnScope ["script", "k"] ["script", "k"] (defScope s__law_cell_at) := ⟨rfl, rfl, rfl, by decide +kernel, rfl, by decide +kernel, by decide +kernel⟩
abbrev s__law_whole : Stmt := top 20
theorem sc__law_whole : FnScope ["found"] ["found"] (defScope s__law_whole) := ⟨rfl, rfl, rfl, by decide +kernel, rfl, by decide +kernel, by decide +kernel⟩
abbrev s__law_bits_by : Stmt := top 21
theorem sc__law_bits_by : FnScope ["cell", "size", "text", "k"] ["cell", "size"] (defScope s__law_bits_by) := ⟨rfl, rfl, rfl, by decide +kernel, rfl, by decide +kernel, by decide +kernel⟩
abbrev s__law_way_is : Stmt := top 22
theorem sc__law_way_is : FnScope ["found", "due"] ["found", "due"] (defScope s__law_way_is) := ⟨rfl, rfl, rfl, by decide +kernel, rfl, by decide +kernel, by decide +kernel⟩
abbrev s__law_sign_by : Stmt := top 23
theorem sc__law_sign_by : FnScope ["cell", "signs"] ["cell"] (defScope s__law_sign_by) := ⟨rfl, rfl, rfl, by decide +kernel, rfl, by decide +kernel, by decide +kernel⟩
abbrev s__law_odd : Stmt := top 24
theorem sc__law_odd : FnScope ["cell", "some"] ["cell"] (defScope s__law_odd) := ⟨rfl, rfl, rfl, by decide +kernel, rfl, by decide +kernel, by decide +kernel⟩
abbrev s__law_due : Stmt := top 25
theorem sc__law_due : FnScope ["line", "at", "word", "number", "sign"] ["line"] (defScope s__law_due) := ⟨rfl, rfl, rfl, by decide +kernel, rfl, by decide +kernel, by decide +kernel⟩
abbrev s__law_told : Stmt := top 26
theorem sc__law_told : FnScope ["line", "found", "e", "some"] ["line"] (defScope s__law_told) := ⟨rfl, rfl, rfl, by decide +kernel, rfl, by decide +kernel, by decide +kernel⟩
abbrev s__law_right : Stmt := top 27
theorem sc__law_right : FnScope ["got", "due"] ["got", "due"] (defScope s__law_right) := ⟨rfl, rfl, rfl, by decide +kernel, rfl, by decide +kernel, by decide +kernel⟩
abbrev s__law_spoiled : Stmt := top 28
theorem sc__law_spoiled : FnScope ["line", "cell", "other", "way", "at"] ["line", "cell", "other"] (defScope s__law_spoiled) := ⟨rfl, rfl, rfl, by decide +kernel, rfl, by decide +kernel, by decide +kernel⟩
abbrev s_law : Stmt := top 29
theorem sc_law : FnScope ["script", "head", "line", "due"] ["script"] (defScope s_law) := ⟨rfl, rfl, rfl, by decide +kernel, rfl, by decide +kernel, by decide +kernel⟩
structure Txt (K : PySem.W.Frag) (mg : Str → Option Value) : Prop where
  b_ValueError : mg "ValueError" = none
  b_bool : mg "bool" = none
  b_int : mg "int" = none
  b_isinstance : mg "isinstance" = none
  b_len : mg "len" = none
  b_range : mg "range" = none
  b_str : mg "str" = none
  b_tuple : mg "tuple" = none
  c_BadAddress : mg "BadAddress" = some (.ref (clsAt K "BadAddress"))
  e_BadAddress : PySem.W.excIn K (clsAt K "BadAddress") bmV "ValueError.__new__" = true
  c_BadHead : mg "BadHead" = some (.ref (clsAt K "BadHead"))
  e_BadHead : PySem.W.excIn K (clsAt K "BadHead") bmV "ValueError.__new__" = true
  c_BadLine : mg "BadLine" = some (.ref (clsAt K "BadLine"))
  e_BadLine : PySem.W.excIn K (clsAt K "BadLine") bmV "ValueError.__new__" = true
  c_BadSpan : mg "BadSpan" = some (.ref (clsAt K "BadSpan"))
  e_BadSpan : PySem.W.excIn K (clsAt K "BadSpan") bmV "ValueError.__new__" = true
  c_FullBoard : mg "FullBoard" = some (.ref (clsAt K "FullBoard"))
  e_FullBoard : PySem.W.excIn K (clsAt K "FullBoard") bmV "ValueError.__new__" = true
  c_NoHead : mg "NoHead" = some (.ref (clsAt K "NoHead"))
  e_NoHead : PySem.W.excIn K (clsAt K "NoHead") bmV "ValueError.__new__" = true
  c_RoadError : mg "RoadError" = some (.ref (clsAt K "RoadError"))
  e_RoadError : PySem.W.excIn K (clsAt K "RoadError") bmV "ValueError.__new__" = true
  g_FIGURES : ∃ t, mg "FIGURES" = some (.str (Str.ofString "0123456789") t)
  g_LONGEST_HEAD : ∃ t, mg "LONGEST_HEAD" = some (.int 16 t)
  g_MOST_FIGURES : ∃ t, mg "MOST_FIGURES" = some (.int 4 t)
  g_NOWHERE : ∃ t, mg "NOWHERE" = some (.str (Str.ofString "nowhere") t)
  err : K12.Err K
seal L2.PS L2.PE L2.PA L2.PSs L2.PT in
theorem tm_is_head {P : Program} {w : World} {K : PySem.W.Frag} {mg : Str → Option Value} {base : Heap} {f : Addr} {cdv : Value} {A : Around} {outer : List Env} {s : Shared} {H : Hp} {E : XK} (T : Txt K mg)  (hr : Room 0 (A.deeper (PyProof.Rows.envOfC "is_head" (defScope s_is_head) s.heap.objs.size f cdv))) :
    PSs (cxOf CX0 P w K mg base ["text", "size"] "is_head" (defScope s_is_head) f cdv A outer s H E).nox (defBody s_is_head) (rd_is_head K) :=
  (pss_one (ps_ret (pe_and (pe_cmpR op_leB (pe_callB call_lenB rfl T.b_len bt_len (pa_cons (pv 0) pa_nil)) (pv 1) (nomark _)) (pe_one (pe_cmpR op_eqB (pe_op op_addB (pe_bm PySem.F.plainAttrs_str PySem.F.slot_str_count PySem.F.type_str_count mt_count (pv 0) (pa_cons pe_str pa_nil)) (pe_bm PySem.F.plainAttrs_str PySem.F.slot_str_count PySem.F.type_str_count mt_count (pv 0) (pa_cons pe_str pa_nil))) (pe_callB call_lenB rfl T.b_len bt_len (pa_cons (pv 0) pa_nil)) (nomark _))))))
seal L2.PS L2.PE L2.PA L2.PSs L2.PT in
theorem ok_is_head {P : Program} {w : World} {K : PySem.W.Frag} {mg : Str → Option Value} {base : Heap} {f : Addr} {fd : FuncData} (F : Fun K "is_head" "is_head" s_is_head f fd) (T : Txt K mg)  : FnOk P w K mg base CX0 1 f fd ["text", "size"] (sp_is_head K) :=
  F.ok sc_is_head (k := 0) (fun vs H Q E h => len_is_head h) (fun cdv A outer s H vs Q E hr h => ⟨_, tm_is_head T  hr, rdok_is_head h⟩)

seal L2.PS L2.PE L2.PA L2.PSs L2.PT in
theorem tm_is_number {P : Program} {w : World} {K : PySem.W.Frag} {mg : Str → Option Value} {base : Heap} {f : Addr} {cdv : Value} {A : Around} {outer : List Env} {s : Shared} {H : Hp} {E : XK} (T : Txt K mg)  (hr : Room 0 (A.deeper (PyProof.Rows.envOfC "is_number" (defScope s_is_number) s.heap.objs.size f cdv))) :
    PSs (cxOf CX0 P w K mg base ["text"] "is_number" (defScope s_is_number) f cdv A outer s H E).nox (defBody s_is_number) (rd_is_number K) :=
  (pss_cons (ps_if (PW.pt (pw_or (pt_cmpR op_eqB (pv 0) pe_str (nomark _)) (pw_or1 (pt_cmpR op_gtB (pe_callB call_lenB rfl T.b_len bt_len (pa_cons (pv 0) pa_nil)) (pe_globI T.g_MOST_FIGURES) (nomark _))))) (pss_one (ps_ret pe_bl)) pss_nil)
      (pss_cons (ps_if (pt_lst (pe_comp (CompSc.plain (by decide +kernel) rfl (by decide +kernel) rfl) (pi_str (pv 0)) (fun _ _ _ _ => (pv 0)) (fun _ _ _ _ => (.one (pt_cmpR op_notInS (pv 0) (pe_globS T.g_FIGURES) (by with_unfolding_all rfl)))))) (pss_one (ps_ret pe_bl)) pss_nil)
      (pss_one (ps_ret (pe_or (pe_cmpR op_eqB (pv 0) pe_str (nomark _)) (pe_one (pe_not (pe_bm PySem.F.plainAttrs_str PySem.F.slot_str_startswith PySem.F.type_str_startswith mt_startsB (pv 0) (pa_cons pe_str pa_nil)))))))))
seal L2.PS L2.PE L2.PA L2.PSs L2.PT in
theorem ok_is_number {P : Program} {w : World} {K : PySem.W.Frag} {mg : Str → Option Value} {base : Heap} {f : Addr} {fd : FuncData} (F : Fun K "is_number" "is_number" s_is_number f fd) (T : Txt K mg)  : FnOk P w K mg base CX0 1 f fd ["text"] (sp_is_number K) :=
  F.ok sc_is_number (k := 0) (fun vs H Q E h => len_is_number h) (fun cdv A outer s H vs Q E hr h => ⟨_, tm_is_number T  hr, rdok_is_number h⟩)

seal L2.PS L2.PE L2.PA L2.PSs L2.PT in
theorem tm__law_cell_at {P : Program} {w : World} {K : PySem.W.Frag} {mg : Str → Option Value} {base : Heap} {f : Addr} {cdv : Value} {A : Around} {outer : List Env} {s : Shared} {H : Hp} {E : XK} (T : Txt K mg)  (hr : Room 0 (A.deeper (PyProof.Rows.envOfC "_law_cell_at" (defScope s__law_cell_at) s.heap.objs.size f cdv))) :
    PSs (cxOf CX0 P w K mg base ["script", "k"] "_law_cell_at" (defScope s__law_cell_at) f cdv A outer s H E).nox (defBody s__law_cell_at) (rd_law_cell_at K) :=
  (pss_cons (ps_if (pt_cmpR op_ltB (pv 1) (pe_callB call_lenB rfl T.b_len bt_len (pa_cons (pv 0) pa_nil)) (nomark _)) (pss_one (ps_ret (pe_ix ix_B (pv 0) (pv 1) (fun _ _ => rfl)))) pss_nil)
      (pss_one (ps_ret pe_int)))
seal L2.PS L2.PE L2.PA L2.PSs L2.PT in
theorem ok__law_cell_at {P : Program} {w : World} {K : PySem.W.Frag} {mg : Str → Option Value} {base : Heap} {f : Addr} {fd : FuncData} (F : Fun K "_law_cell_at" "_law_cell_at" s__law_cell_at f fd) (T : Txt K mg)  : FnOk P w K mg base CX0 1 f fd ["script", "k"] (sp_law_cell_at K) :=
  F.ok sc__law_cell_at (k := 0) (fun vs H Q E h => len_law_cell_at h) (fun cdv A outer s H vs Q E hr h => ⟨_, tm__law_cell_at T  hr, rdok_law_cell_at h⟩)

seal L2.PS L2.PE L2.PA L2.PSs L2.PT in
theorem tm__law_whole {P : Program} {w : World} {K : PySem.W.Frag} {mg : Str → Option Value} {base : Heap} {f : Addr} {cdv : Value} {A : Around} {outer : List Env} {s : Shared} {H : Hp} {E : XK} (T : Txt K mg)  (hr : Room 0 (A.deeper (PyProof.Rows.envOfC "_law_whole" (defScope s__law_whole) s.heap.objs.size f cdv))) :
    PSs (cxOf CX0 P w K mg base ["found"] "_law_whole" (defScope s__law_whole) f cdv A outer s H E).nox (defBody s__law_whole) (rd_law_whole K) :=
  (pss_one (ps_ret (pe_and (pe_callB call_isiB rfl T.b_isinstance bt_isinstance (pa_cons (pv 0) (pa_cons (pe_bltn rfl T.b_int bt_int rfl) pa_nil))) (pe_one (pe_not (pe_callB call_isiB rfl T.b_isinstance bt_isinstance (pa_cons (pv 0) (pa_cons (pe_bltn rfl T.b_bool bt_bool rfl) pa_nil))))))))
seal L2.PS L2.PE L2.PA L2.PSs L2.PT in
theorem ok__law_whole {P : Program} {w : World} {K : PySem.W.Frag} {mg : Str → Option Value} {base : Heap} {f : Addr} {fd : FuncData} (F : Fun K "_law_whole" "_law_whole" s__law_whole f fd) (T : Txt K mg)  : FnOk P w K mg base CX0 1 f fd ["found"] (sp_law_whole K) :=
  F.ok sc__law_whole (k := 0) (fun vs H Q E h => len_law_whole h) (fun cdv A outer s H vs Q E hr h => ⟨_, tm__law_whole T  hr, rdok_law_whole h⟩)

seal L2.PS L2.PE L2.PA L2.PSs L2.PT in
theorem tm__law_bits_by {P : Program} {w : World} {K : PySem.W.Frag} {mg : Str → Option Value} {base : Heap} {f : Addr} {cdv : Value} {A : Around} {outer : List Env} {s : Shared} {H : Hp} {E : XK} (T : Txt K mg)  (hr : Room 0 (A.deeper (PyProof.Rows.envOfC "_law_bits_by" (defScope s__law_bits_by) s.heap.objs.size f cdv))) :
    PSs (cxOf CX0 P w K mg base ["cell", "size", "text", "k"] "_law_bits_by" (defScope s__law_bits_by) f cdv A outer s H E).nox (defBody s__law_bits_by) (rd_law_bits_by K) :=
  (pss_cons (ps_set (i := 2) sc__law_bits_by.nd rfl (Or.inl rfl) pe_str)
      (pss_cons (ps_for PassesOwn.never rfl (pi_range1 rfl T.b_range (pa_cons (pv 1) pa_nil)) (pg_name (i := 3) sc__law_bits_by.nd rfl (Or.inl rfl))
      (pss_cons (ps_set (i := 2) sc__law_bits_by.nd rfl (Or.inl rfl) (pe_op op_addB (pv 2) (pe_ix ix_B pe_str (pe_op op_modB (pv 0) pe_int) (fun _ _ => rfl))))
      (pss_one (ps_set (i := 0) sc__law_bits_by.nd rfl (Or.inl rfl) (pe_op op_divB (pv 0) pe_int)))))
      (pss_one (ps_ret (pv 2)))))
seal L2.PS L2.PE L2.PA L2.PSs L2.PT in
theorem ok__law_bits_by {P : Program} {w : World} {K : PySem.W.Frag} {mg : Str → Option Value} {base : Heap} {f : Addr} {fd : FuncData} (F : Fun K "_law_bits_by" "_law_bits_by" s__law_bits_by f fd) (T : Txt K mg)  : FnOk P w K mg base CX0 1 f fd ["cell", "size"] (sp_law_bits_by K) :=
  F.ok sc__law_bits_by (k := 0) (fun vs H Q E h => len_law_bits_by h) (fun cdv A outer s H vs Q E hr h => ⟨_, tm__law_bits_by T  hr, rdok_law_bits_by h⟩)

seal L2.PS L2.PE L2.PA L2.PSs L2.PT in
theorem tm__law_sign_by {P : Program} {w : World} {K : PySem.W.Frag} {mg : Str → Option Value} {base : Heap} {f : Addr} {cdv : Value} {A : Around} {outer : List Env} {s : Shared} {H : Hp} {E : XK} (T : Txt K mg)  (hr : Room 0 (A.deeper (PyProof.Rows.envOfC "_law_sign_by" (defScope s__law_sign_by) s.heap.objs.size f cdv))) :
    PSs (cxOf CX0 P w K mg base ["cell", "signs"] "_law_sign_by" (defScope s__law_sign_by) f cdv A outer s H E).nox (defBody s__law_sign_by) (rd_law_sign_by K) :=
  (pss_cons (ps_if (pt_cmpR op_eqB (pe_op op_modB (pv 0) pe_int) pe_int (nomark _)) (pss_one (ps_ret (pe_ix ix_B pe_str (pe_op op_modB (pe_op op_divB (pv 0) pe_int) pe_int) (fun _ _ => rfl)))) pss_nil)
      (pss_cons (ps_set (i := 1) sc__law_sign_by.nd rfl (Or.inl rfl) pe_str)
      (pss_cons (ps_set (i := 1) sc__law_sign_by.nd rfl (Or.inl rfl) (pe_op op_addB (pv 1) pe_str))
      (pss_one (ps_ret (pe_ix ix_B (pv 1) (pe_op op_modB (pe_op op_divB (pv 0) pe_int) pe_int) (fun _ _ => rfl)))))))
seal L2.PS L2.PE L2.PA L2.PSs L2.PT in
theorem ok__law_sign_by {P : Program} {w : World} {K : PySem.W.Frag} {mg : Str → Option Value} {base : Heap} {f : Addr} {fd : FuncData} (F : Fun K "_law_sign_by" "_law_sign_by" s__law_sign_by f fd) (T : Txt K mg)  : FnOk P w K mg base CX0 1 f fd ["cell"] (sp_law_sign_by K) :=
  F.ok sc__law_sign_by (k := 0) (fun vs H Q E h => len_law_sign_by h) (fun cdv A outer s H vs Q E hr h => ⟨_, tm__law_sign_by T  hr, rdok_law_sign_by h⟩)

seal L2.PS L2.PE L2.PA L2.PSs L2.PT in
theorem tm__law_odd {P : Program} {w : World} {K : PySem.W.Frag} {mg : Str → Option Value} {base : Heap} {f : Addr} {cdv : Value} {A : Around} {outer : List Env} {s : Shared} {H : Hp} {E : XK} (T : Txt K mg)  (hr : Room 0 (A.deeper (PyProof.Rows.envOfC "_law_odd" (defScope s__law_odd) s.heap.objs.size f cdv))) :
    PSs (cxOf CX0 P w K mg base ["cell", "some"] "_law_odd" (defScope s__law_odd) f cdv A outer s H E).nox (defBody s__law_odd) (rd_law_odd K) :=
  (pss_cons (ps_set (i := 1) sc__law_odd.nd rfl (Or.inl rfl) (pe_lst (by repeat (first | exact pa_nil | refine pa_str ?_))))
      (pss_cons (ps_set (i := 1) sc__law_odd.nd rfl (Or.inl rfl) (pe_op op_addB (pv 1) (pe_lst (by repeat (first | exact pa_nil | refine pa_str ?_)))))
      (pss_one (ps_ret (pe_ix ix_B (pv 1) (pe_op op_modB (pv 0) pe_int) (fun _ _ => rfl))))))
seal L2.PS L2.PE L2.PA L2.PSs L2.PT in
theorem ok__law_odd {P : Program} {w : World} {K : PySem.W.Frag} {mg : Str → Option Value} {base : Heap} {f : Addr} {fd : FuncData} (F : Fun K "_law_odd" "_law_odd" s__law_odd f fd) (T : Txt K mg)  : FnOk P w K mg base CX0 1 f fd ["cell"] (sp_law_odd K) :=
  F.ok sc__law_odd (k := 0) (fun vs H Q E h => len_law_odd h) (fun cdv A outer s H vs Q E hr h => ⟨_, tm__law_odd T  hr, rdok_law_odd h⟩)

seal L2.PS L2.PE L2.PA L2.PSs L2.PT in
theorem tm__law_due {P : Program} {w : World} {K : PySem.W.Frag} {mg : Str → Option Value} {base : Heap} {f : Addr} {cdv : Value} {A : Around} {outer : List Env} {s : Shared} {H : Hp} {E : XK} (T : Txt K mg)  (hr : Room 0 (A.deeper (PyProof.Rows.envOfC "_law_due" (defScope s__law_due) s.heap.objs.size f cdv))) :
    PSs (cxOf CX0 P w K mg base ["line", "at", "word", "number", "sign"] "_law_due" (defScope s__law_due) f cdv A outer s H E).nox (defBody s__law_due) (rd_law_due12 K) :=
  (pss_cons (ps_set (i := 1) sc__law_due.nd rfl (Or.inl rfl) pe_int)
      (pss_cons (ps_while PassesOwn.never (PW.pt (pw_and (pt_cmpR op_ltB (pv 1) (pe_callB call_lenB rfl T.b_len bt_len (pa_cons (pv 0) pa_nil)) (nomark _)) (pw_and (pt_cmpR op_ltB (pv 1) pe_int (nomark _)) (pw_and1 (pt_cmpR op_inS (pe_ix ix_B (pv 0) (pv 1) (fun _ _ => rfl)) pe_str (by with_unfolding_all rfl)))))) (pss_one (ps_set (i := 1) sc__law_due.nd rfl (Or.inl rfl) (pe_op op_addB (pv 1) pe_int))))
      (pss_cons (ps_if (PW.pt (pw_or (pt_cmpR op_gtB (pv 1) pe_int (nomark _)) (pw_or1 (pt_cmpR op_neB (pe_slice sl_B (pv 0) (po_some (pv 1)) (po_some (pe_op op_addB (pv 1) pe_int))) pe_str (nomark _))))) (pss_one (ps_ret pe_non)) pss_nil)
      (pss_cons (ps_set (i := 2) sc__law_due.nd rfl (Or.inl rfl) (pe_slice sl_B (pv 0) (po_some (pe_op op_addB (pv 1) pe_int)) po_none))
      (pss_cons (ps_if (pt_cmpR op_eqB (pv 2) pe_str (nomark _)) (pss_one (ps_ret (pe_tup (pa_cons (pe_slice sl_B (pv 0) po_none (po_some (pv 1))) (pa_cons pe_non pa_nil))))) pss_nil)
      (pss_cons (ps_if (PW.pt (pw_or (pt_cmpR op_eqB (pv 2) pe_str (nomark _)) (pw_or (pt_cmpR op_gtB (pe_callB call_lenB rfl T.b_len bt_len (pa_cons (pv 2) pa_nil)) pe_int (nomark _)) (pw_or1 (PW.pt (pw_and (pt_cmpR op_neB (pv 2) pe_str (nomark _)) (pw_and1 (pt_cmpR op_eqB (pe_ix ix_B (pv 2) pe_int (fun _ _ => rfl)) pe_str (nomark _))))))))) (pss_one (ps_ret pe_non)) pss_nil)
      (pss_cons (ps_set (i := 3) sc__law_due.nd rfl (Or.inl rfl) pe_int)
      (pss_cons (ps_for PassesOwn.never rfl (pi_str (pv 2)) (pg_name (i := 4) sc__law_due.nd rfl (Or.inl rfl))
      (pss_cons (ps_if (pt_cmpR op_notInS (pv 4) pe_str (by with_unfolding_all rfl)) (pss_one (ps_ret pe_non)) pss_nil)
      (pss_one (ps_set (i := 3) sc__law_due.nd rfl (Or.inl rfl) (pe_op op_addB (pe_op op_mulB pe_int (pv 3)) (pe_bm PySem.F.plainAttrs_str PySem.F.slot_str_index PySem.F.type_str_index mt_indexT pe_str (pa_cons (pv 4) pa_nil)))))))
      (pss_one (ps_ret (pe_tup (pa_cons (pe_slice sl_B (pv 0) po_none (po_some (pv 1))) (pa_cons (pv 3) pa_nil)))))))))))))
seal L2.PS L2.PE L2.PA L2.PSs L2.PT in
theorem ok__law_due {P : Program} {w : World} {K : PySem.W.Frag} {mg : Str → Option Value} {base : Heap} {f : Addr} {fd : FuncData} (F : Fun K "_law_due" "_law_due" s__law_due f fd) (T : Txt K mg)  : FnOk P w K mg base CX0 1 f fd ["line"] (sp_law_due12 K) :=
  F.ok sc__law_due (k := 0) (fun vs H Q E h => len_law_due12 h) (fun cdv A outer s H vs Q E hr h => ⟨_, tm__law_due T  hr, rdok_law_due12 h⟩)

seal L2.PS L2.PE L2.PA L2.PSs L2.PT in
theorem tm_read_way {P : Program} {w : World} {K : PySem.W.Frag} {mg : Str → Option Value} {base : Heap} {f : Addr} {cdv : Value} {A : Around} {outer : List Env} {s : Shared} {H : Hp} {E : XK} (T : Txt K mg) (O_is_number : Own P w K mg base 1 "is_number" ["text"] (sp_is_number K)) (hr : Room 1 (A.deeper (PyProof.Rows.envOfC "read_way" (defScope s_read_way) s.heap.objs.size f cdv))) :
    PSs (cxOf (CX1 P w) P w K mg base ["text"] "read_way" (defScope s_read_way) f cdv A outer s H E) (defBody s_read_way) (rd_read_way K E) :=
  (pss_cons (ps_if (pt_cmpR op_eqB (pv 0) (pe_globS T.g_NOWHERE) (nomark _)) (pss_one (ps_ret pe_non)) pss_nil)
      (pss_cons (ps_if (pt_not (pt_val (pe_own O_is_number (hr.mono (by decide)) (pa_cons (pv 0) pa_nil)))) (pss_one (ps_raise hr.hd T.c_BadLine T.e_BadLine (pa_cons pe_str pa_nil))) pss_nil)
      (pss_one (ps_ret (pe_callTy call_intB rfl T.b_int bt_int (pa_cons (pv 0) pa_nil))))))
seal L2.PS L2.PE L2.PA L2.PSs L2.PT in
theorem ok_read_way {P : Program} {w : World} {K : PySem.W.Frag} {mg : Str → Option Value} {base : Heap} {f : Addr} {fd : FuncData} (F : Fun K "read_way" "read_way" s_read_way f fd) (T : Txt K mg) (O_is_number : Own P w K mg base 1 "is_number" ["text"] (sp_is_number K)) : FnOk P w K mg base (CX1 P w) 2 f fd ["text"] (sp_read_way K) :=
  F.okX sc_read_way (k := 1) (fun vs H Q E h => len_read_way h) (fun cdv A outer s H vs Q E hr h => ⟨_, tm_read_way T O_is_number hr, rdok_read_way h⟩)

seal L2.PS L2.PE L2.PA L2.PSs L2.PT in
theorem tm__law_way_is {P : Program} {w : World} {K : PySem.W.Frag} {mg : Str → Option Value} {base : Heap} {f : Addr} {cdv : Value} {A : Around} {outer : List Env} {s : Shared} {H : Hp} {E : XK} (T : Txt K mg) (O__law_whole : Own P w K mg base 1 "_law_whole" ["found"] (sp_law_whole K)) (hr : Room 1 (A.deeper (PyProof.Rows.envOfC "_law_way_is" (defScope s__law_way_is) s.heap.objs.size f cdv))) :
    PSs (cxOf CX0 P w K mg base ["found", "due"] "_law_way_is" (defScope s__law_way_is) f cdv A outer s H E).nox (defBody s__law_way_is) (rd_law_way_is K) :=
  (pss_cons (ps_if (pt_cmpR op_isNB (pv 1) pe_non (nomark _)) (pss_one (ps_ret (pe_cmpR op_isNB (pv 0) pe_non (nomark _)))) pss_nil)
      (pss_one (ps_ret (pe_and (pe_own O__law_whole (hr.mono (by decide)) (pa_cons (pv 0) pa_nil)) (pe_one (pe_cmpR op_eqB (pv 0) (pv 1) (nomark _)))))))
seal L2.PS L2.PE L2.PA L2.PSs L2.PT in
theorem ok__law_way_is {P : Program} {w : World} {K : PySem.W.Frag} {mg : Str → Option Value} {base : Heap} {f : Addr} {fd : FuncData} (F : Fun K "_law_way_is" "_law_way_is" s__law_way_is f fd) (T : Txt K mg) (O__law_whole : Own P w K mg base 1 "_law_whole" ["found"] (sp_law_whole K)) : FnOk P w K mg base CX0 2 f fd ["found", "due"] (sp_law_way_is K) :=
  F.ok sc__law_way_is (k := 1) (fun vs H Q E h => len_law_way_is h) (fun cdv A outer s H vs Q E hr h => ⟨_, tm__law_way_is T O__law_whole hr, rdok_law_way_is h⟩)

seal L2.PS L2.PE L2.PA L2.PSs L2.PT in
theorem tm__law_spoiled {P : Program} {w : World} {K : PySem.W.Frag} {mg : Str → Option Value} {base : Heap} {f : Addr} {cdv : Value} {A : Around} {outer : List Env} {s : Shared} {H : Hp} {E : XK} (T : Txt K mg) (O__law_sign_by : Own P w K mg base 1 "_law_sign_by" ["cell"] (sp_law_sign_by K)) (hr : Room 1 (A.deeper (PyProof.Rows.envOfC "_law_spoiled" (defScope s__law_spoiled) s.heap.objs.size f cdv))) :
    PSs (cxOf CX0 P w K mg base ["line", "cell", "other", "way", "at"] "_law_spoiled" (defScope s__law_spoiled) f cdv A outer s H E).nox (defBody s__law_spoiled) (rd_law_spoiled K) :=
  (pss_cons (ps_set (i := 3) sc__law_spoiled.nd rfl (Or.inl rfl) (pe_op op_modB (pv 1) pe_int))
      (pss_cons (ps_set (i := 4) sc__law_spoiled.nd rfl (Or.inl rfl) (pe_op op_modB (pe_op op_divB (pv 1) pe_int) (pe_op op_addB (pe_callB call_lenB rfl T.b_len bt_len (pa_cons (pv 0) pa_nil)) pe_int)))
      (pss_cons (ps_if (pt_cmpR op_eqB (pv 3) pe_int (nomark _)) (pss_one (ps_ret (pe_op op_addB (pe_slice sl_B (pv 0) po_none (po_some (pv 4))) (pe_slice sl_B (pv 0) (po_some (pe_op op_addB (pv 4) pe_int)) po_none)))) pss_nil)
      (pss_cons (ps_if (pt_cmpR op_eqB (pv 3) pe_int (nomark _)) (pss_one (ps_ret (pe_op op_addB (pe_op op_addB (pe_slice sl_B (pv 0) po_none (po_some (pv 4))) (pe_own O__law_sign_by (hr.mono (by decide)) (pa_cons (pv 2) pa_nil))) (pe_slice sl_B (pv 0) (po_some (pe_op op_addB (pv 4) pe_int)) po_none)))) pss_nil)
      (pss_one (ps_ret (pe_op op_addB (pe_op op_addB (pe_slice sl_B (pv 0) po_none (po_some (pv 4))) (pe_own O__law_sign_by (hr.mono (by decide)) (pa_cons (pv 2) pa_nil))) (pe_slice sl_B (pv 0) (po_some (pv 4)) po_none))))))))
seal L2.PS L2.PE L2.PA L2.PSs L2.PT in
theorem ok__law_spoiled {P : Program} {w : World} {K : PySem.W.Frag} {mg : Str → Option Value} {base : Heap} {f : Addr} {fd : FuncData} (F : Fun K "_law_spoiled" "_law_spoiled" s__law_spoiled f fd) (T : Txt K mg) (O__law_sign_by : Own P w K mg base 1 "_law_sign_by" ["cell"] (sp_law_sign_by K)) : FnOk P w K mg base CX0 2 f fd ["line", "cell", "other"] (sp_law_spoiled K) :=
  F.ok sc__law_spoiled (k := 1) (fun vs H Q E h => len_law_spoiled h) (fun cdv A outer s H vs Q E hr h => ⟨_, tm__law_spoiled T O__law_sign_by hr, rdok_law_spoiled h⟩)

seal L2.PS L2.PE L2.PA L2.PSs L2.PT in
theorem tm_read {P : Program} {w : World} {K : PySem.W.Frag} {mg : Str → Option Value} {base : Heap} {f : Addr} {cdv : Value} {A : Around} {outer : List Env} {s : Shared} {H : Hp} {E : XK} (T : Txt K mg) (O_is_head : Own P w K mg base 1 "is_head" ["text", "size"] (sp_is_head K)) (O_read_way : OwnX P w K mg base 2 "read_way" ["text"] (sp_read_way K)) (hr : Room 2 (A.deeper (PyProof.Rows.envOfC "read" (defScope s_read) s.heap.objs.size f cdv))) :
    PSs (cxOf (CX1 P w) P w K mg base ["line", "parts"] "read" (defScope s_read) f cdv A outer s H E) (defBody s_read) (rd_read K E) :=
  (pss_cons (ps_set (i := 1) sc_read.nd rfl (Or.inl rfl) (pe_bm PySem.F.plainAttrs_str PySem.F.slot_str_partition PySem.F.type_str_partition mt_partT (pv 0) (pa_cons pe_str pa_nil)))
      (pss_cons (ps_if (PW.pt (pw_or (pt_cmpR op_eqB (pe_ix ix_B (pv 1) pe_int (fun _ _ => rfl)) pe_str (nomark _)) (pw_or1 (pt_not (pt_val (pe_own O_is_head (hr.mono (by decide)) (pa_cons (pe_ix ix_B (pv 1) pe_int (fun _ _ => rfl)) (pa_cons (pe_globI T.g_LONGEST_HEAD) pa_nil)))))))) (pss_one (ps_raise hr.hd T.c_BadLine T.e_BadLine (pa_cons pe_str pa_nil))) pss_nil)
      (pss_one (ps_ret (pe_tup (pa_cons (pe_ix ix_B (pv 1) pe_int (fun _ _ => rfl)) (pa_cons (pe_ownX O_read_way (hr.mono (by decide)) passX (pa_cons (pe_ix ix_B (pv 1) pe_int (fun _ _ => rfl)) pa_nil)) pa_nil)))))))
seal L2.PS L2.PE L2.PA L2.PSs L2.PT in
theorem ok_read {P : Program} {w : World} {K : PySem.W.Frag} {mg : Str → Option Value} {base : Heap} {f : Addr} {fd : FuncData} (F : Fun K "read" "read" s_read f fd) (T : Txt K mg) (O_is_head : Own P w K mg base 1 "is_head" ["text", "size"] (sp_is_head K)) (O_read_way : OwnX P w K mg base 2 "read_way" ["text"] (sp_read_way K)) : FnOk P w K mg base (CX1 P w) 3 f fd ["line"] (sp_read K) :=
  F.okX sc_read (k := 2) (fun vs H Q E h => len_read h) (fun cdv A outer s H vs Q E hr h => ⟨_, tm_read T O_is_head O_read_way hr, rdok_read h⟩)

seal L2.PS L2.PE L2.PA L2.PSs L2.PT in
theorem tm__law_right {P : Program} {w : World} {K : PySem.W.Frag} {mg : Str → Option Value} {base : Heap} {f : Addr} {cdv : Value} {A : Around} {outer : List Env} {s : Shared} {H : Hp} {E : XK} (T : Txt K mg) (O__law_way_is : Own P w K mg base 2 "_law_way_is" ["found", "due"] (sp_law_way_is K)) (hr : Room 2 (A.deeper (PyProof.Rows.envOfC "_law_right" (defScope s__law_right) s.heap.objs.size f cdv))) :
    PSs (cxOf CX0 P w K mg base ["got", "due"] "_law_right" (defScope s__law_right) f cdv A outer s H E).nox (defBody s__law_right) (rd_law_right K) :=
  (pss_cons (ps_if (pt_cmpR op_isNB (pv 1) pe_non (nomark _)) (pss_one (ps_ret (pe_cmpR (op_eqD hr.units) (pv 0) (pe_tup (pa_cons pe_bl (pa_cons pe_bl pa_nil))) (nomark _)))) pss_nil)
      (pss_cons (ps_if (PW.pt (pw_or (pt_not (pt_val (pe_ix ix_B (pv 0) pe_int (fun _ _ => rfl)))) (pw_or (pt_not (pt_val (pe_callB call_isiB rfl T.b_isinstance bt_isinstance (pa_cons (pe_ix ix_B (pv 0) pe_int (fun _ _ => rfl)) (pa_cons (pe_bltn rfl T.b_tuple bt_tuple rfl) pa_nil))))) (pw_or (pt_cmpR op_neB (pe_callB call_lenB rfl T.b_len bt_len (pa_cons (pe_ix ix_B (pv 0) pe_int (fun _ _ => rfl)) pa_nil)) pe_int (nomark _)) (pw_or1 (pt_not (pt_val (pe_callB call_isiB rfl T.b_isinstance bt_isinstance (pa_cons (pe_ix ix_B (pe_ix ix_B (pv 0) pe_int (fun _ _ => rfl)) pe_int (fun _ _ => rfl)) (pa_cons (pe_bltn rfl T.b_str bt_str rfl) pa_nil)))))))))) (pss_one (ps_ret pe_bl)) pss_nil)
      (pss_one (ps_ret (pe_and (pe_cmpR op_eqB (pe_ix ix_B (pe_ix ix_B (pv 0) pe_int (fun _ _ => rfl)) pe_int (fun _ _ => rfl)) (pe_ix ix_B (pv 1) pe_int (fun _ _ => rfl)) (nomark _)) (pe_one (pe_own O__law_way_is (hr.mono (by decide)) (pa_cons (pe_ix ix_B (pe_ix ix_B (pv 0) pe_int (fun _ _ => rfl)) pe_int (fun _ _ => rfl)) (pa_cons (pe_ix ix_B (pv 1) pe_int (fun _ _ => rfl)) pa_nil)))))))))
seal L2.PS L2.PE L2.PA L2.PSs L2.PT in
theorem ok__law_right {P : Program} {w : World} {K : PySem.W.Frag} {mg : Str → Option Value} {base : Heap} {f : Addr} {fd : FuncData} (F : Fun K "_law_right" "_law_right" s__law_right f fd) (T : Txt K mg) (O__law_way_is : Own P w K mg base 2 "_law_way_is" ["found", "due"] (sp_law_way_is K)) : FnOk P w K mg base CX0 3 f fd ["got", "due"] (sp_law_right K) :=
  F.ok sc__law_right (k := 2) (fun vs H Q E h => len_law_right h) (fun cdv A outer s H vs Q E hr h => ⟨_, tm__law_right T O__law_way_is hr, rdok_law_right h⟩)

seal L2.PS L2.PE L2.PA L2.PSs L2.PT in
theorem tm__law_told {P : Program} {w : World} {K : PySem.W.Frag} {mg : Str → Option Value} {base : Heap} {f : Addr} {cdv : Value} {A : Around} {outer : List Env} {s : Shared} {H : Hp} {E : XK} (T : Txt K mg) (O_read : OwnX P w K mg base 3 "read" ["line"] (sp_read K)) (hr : Room 3 (A.deeper (PyProof.Rows.envOfC "_law_told" (defScope s__law_told) s.heap.objs.size f cdv))) :
    PSs (cxOf CX0 P w K mg base ["line", "found", "e", "some"] "_law_told" (defScope s__law_told) f cdv A outer s H E).nox (defBody s__law_told) (rd_law_told K) :=
  (pss_cons (ps_try (pxs_set (i := 1) sc__law_told.nd rfl (Or.inl rfl) (px_call O_read (hr.mono (by decide)) (pa_cons (pv 0) pa_nil))) (fun _ => (pss_cons (ps_set (i := 3) sc__law_told.nd rfl (Or.inl rfl) (pe_lst (pa_cons (pe_callB call_isiX rfl T.b_isinstance bt_isinstance (pa_cons (pv 2) (pa_cons (pe_glob rfl T.c_BadHead rfl) pa_nil))) (pa_cons (pe_callB call_isiX rfl T.b_isinstance bt_isinstance (pa_cons (pv 2) (pa_cons (pe_glob rfl T.c_BadAddress rfl) pa_nil))) (pa_cons (pe_callB call_isiX rfl T.b_isinstance bt_isinstance (pa_cons (pv 2) (pa_cons (pe_glob rfl T.c_BadSpan rfl) pa_nil))) (pa_cons (pe_callB call_isiX rfl T.b_isinstance bt_isinstance (pa_cons (pv 2) (pa_cons (pe_glob rfl T.c_FullBoard rfl) pa_nil))) pa_nil))))))
      (pss_cons (ps_set (i := 3) sc__law_told.nd rfl (Or.inl rfl) (pe_op op_addB (pv 3) (pe_lst (pa_cons (pe_callB call_isiX rfl T.b_isinstance bt_isinstance (pa_cons (pv 2) (pa_cons (pe_glob rfl T.c_NoHead rfl) pa_nil))) pa_nil))))
      (pss_one (ps_ret (pe_tup (pa_cons pe_bl (pa_cons (pe_and (pe_callB call_isiX rfl T.b_isinstance bt_isinstance (pa_cons (pv 2) (pa_cons (pe_glob rfl T.c_BadLine rfl) pa_nil))) (pe_and (pe_callB call_isiX rfl T.b_isinstance bt_isinstance (pa_cons (pv 2) (pa_cons (pe_bltn rfl T.b_ValueError bt_ValueError rfl) pa_nil))) (pe_one (pe_cmpR (op_eqD hr.units) (pv 3) (pe_op op_mulB (pe_lst (pa_cons pe_bl pa_nil)) pe_int) (nomark _))))) pa_nil)))))))) T.c_RoadError T.e_RoadError (i := 2) sc__law_told.nd rfl rfl)
      (pss_one (ps_ret (pe_tup (pa_cons pe_bl (pa_cons (pv 1) pa_nil))))))
seal L2.PS L2.PE L2.PA L2.PSs L2.PT in
theorem ok__law_told {P : Program} {w : World} {K : PySem.W.Frag} {mg : Str → Option Value} {base : Heap} {f : Addr} {fd : FuncData} (F : Fun K "_law_told" "_law_told" s__law_told f fd) (T : Txt K mg) (O_read : OwnX P w K mg base 3 "read" ["line"] (sp_read K)) : FnOk P w K mg base CX0 4 f fd ["line"] (sp_law_told K) :=
  F.ok sc__law_told (k := 3) (fun vs H Q E h => len_law_told h) (fun cdv A outer s H vs Q E hr h => ⟨_, tm__law_told T O_read hr, rdok_law_told T.err h⟩)

seal L2.PS L2.PE L2.PA L2.PSs L2.PT in
theorem tm_law {P : Program} {w : World} {K : PySem.W.Frag} {mg : Str → Option Value} {base : Heap} {f : Addr} {cdv : Value} {A : Around} {outer : List Env} {s : Shared} {H : Hp} {E : XK} (T : Txt K mg) (O__law_bits_by : Own P w K mg base 1 "_law_bits_by" ["cell", "size"] (sp_law_bits_by K)) (O__law_cell_at : Own P w K mg base 1 "_law_cell_at" ["script", "k"] (sp_law_cell_at K)) (O__law_due : Own P w K mg base 1 "_law_due" ["line"] (sp_law_due12 K)) (O__law_odd : Own P w K mg base 1 "_law_odd" ["cell"] (sp_law_odd K)) (O__law_right : Own P w K mg base 3 "_law_right" ["got", "due"] (sp_law_right K)) (O__law_spoiled : Own P w K mg base 2 "_law_spoiled" ["line", "cell", "other"] (sp_law_spoiled K)) (O__law_told : Own P w K mg base 4 "_law_told" ["line"] (sp_law_told K)) (hr : Room 4 (A.deeper (PyProof.Rows.envOfC "law" (defScope s_law) s.heap.objs.size f cdv))) :
    PSs (cxOf CX0 P w K mg base ["script", "head", "line", "due"] "law" (defScope s_law) f cdv A outer s H E).nox (defBody s_law) (rd_law12 K) :=
  (pss_cons (ps_set (i := 1) sc_law.nd rfl (Or.inl rfl) (pe_own O__law_bits_by (hr.mono (by decide)) (pa_cons (pe_own O__law_cell_at (hr.mono (by decide)) (pa_cons (pv 0) (pa_cons pe_int pa_nil))) (pa_cons (pe_op op_modB (pe_own O__law_cell_at (hr.mono (by decide)) (pa_cons (pv 0) (pa_cons pe_int pa_nil))) pe_int) pa_nil))))
      (pss_cons (ps_set (i := 2) sc_law.nd rfl (Or.inl rfl) (pe_op op_addB (pe_op op_addB (pv 1) pe_str) (pe_callTy call_strB rfl T.b_str bt_str (pa_cons (pe_op op_modB (pe_own O__law_cell_at (hr.mono (by decide)) (pa_cons (pv 0) (pa_cons pe_int pa_nil))) (pe_op op_powB pe_int pe_int)) pa_nil))))
      (pss_cons (ps_if (pt_cmpR op_eqB (pe_op op_modB (pe_op op_divB (pe_own O__law_cell_at (hr.mono (by decide)) (pa_cons (pv 0) (pa_cons pe_int pa_nil))) (pe_op op_powB pe_int pe_int)) pe_int) pe_int (nomark _)) (pss_one (ps_set (i := 2) sc_law.nd rfl (Or.inl rfl) (pe_op op_addB (pv 1) pe_str))) pss_nil)
      (pss_cons (ps_if (pt_cmpR op_gtB (pe_op op_modB (pe_own O__law_cell_at (hr.mono (by decide)) (pa_cons (pv 0) (pa_cons pe_int pa_nil))) pe_int) pe_int (nomark _)) (pss_one (ps_set (i := 2) sc_law.nd rfl (Or.inl rfl) (pe_own O__law_spoiled (hr.mono (by decide)) (pa_cons (pv 2) (pa_cons (pe_op op_divB (pe_own O__law_cell_at (hr.mono (by decide)) (pa_cons (pv 0) (pa_cons pe_int pa_nil))) pe_int) (pa_cons (pe_own O__law_cell_at (hr.mono (by decide)) (pa_cons (pv 0) (pa_cons pe_int pa_nil))) pa_nil)))))) pss_nil)
      (pss_cons (ps_if (pt_cmpR op_eqB (pe_op op_modB (pe_own O__law_cell_at (hr.mono (by decide)) (pa_cons (pv 0) (pa_cons pe_int pa_nil))) pe_int) pe_int (nomark _)) (pss_one (ps_set (i := 2) sc_law.nd rfl (Or.inl rfl) (pe_own O__law_odd (hr.mono (by decide)) (pa_cons (pe_op op_divB (pe_own O__law_cell_at (hr.mono (by decide)) (pa_cons (pv 0) (pa_cons pe_int pa_nil))) pe_int) pa_nil)))) pss_nil)
      (pss_cons (ps_set (i := 3) sc_law.nd rfl (Or.inl rfl) (pe_own O__law_due (hr.mono (by decide)) (pa_cons (pv 2) pa_nil)))
      (pss_one (ps_ret (pe_and (pe_own O__law_right (hr.mono (by decide)) (pa_cons (pe_own O__law_told (hr.mono (by decide)) (pa_cons (pv 2) pa_nil)) (pa_cons (pv 3) pa_nil))) (pe_one (pe_own O__law_right (hr.mono (by decide)) (pa_cons (pe_own O__law_told (hr.mono (by decide)) (pa_cons (pv 2) pa_nil)) (pa_cons (pv 3) pa_nil)))))))))))))
seal L2.PS L2.PE L2.PA L2.PSs L2.PT in
theorem ok_law {P : Program} {w : World} {K : PySem.W.Frag} {mg : Str → Option Value} {base : Heap} {f : Addr} {fd : FuncData} (F : Fun K "law" "law" s_law f fd) (T : Txt K mg) (O__law_bits_by : Own P w K mg base 1 "_law_bits_by" ["cell", "size"] (sp_law_bits_by K)) (O__law_cell_at : Own P w K mg base 1 "_law_cell_at" ["script", "k"] (sp_law_cell_at K)) (O__law_due : Own P w K mg base 1 "_law_due" ["line"] (sp_law_due12 K)) (O__law_odd : Own P w K mg base 1 "_law_odd" ["cell"] (sp_law_odd K)) (O__law_right : Own P w K mg base 3 "_law_right" ["got", "due"] (sp_law_right K)) (O__law_spoiled : Own P w K mg base 2 "_law_spoiled" ["line", "cell", "other"] (sp_law_spoiled K)) (O__law_told : Own P w K mg base 4 "_law_told" ["line"] (sp_law_told K)) : FnOk P w K mg base CX0 5 f fd ["script"] (sp_law12 K) :=
  F.ok sc_law (k := 4) (fun vs H Q E h => len_law12 h) (fun cdv A outer s H vs Q E hr h => ⟨_, tm_law T O__law_bits_by O__law_cell_at O__law_due O__law_odd O__law_right O__law_spoiled O__law_told hr, rdok_law12 h⟩)

theorem all_mk {l : PySem.W.OpenLaw} {w : World} {K : PySem.W.Frag} {h : Heap} {mg : Str → Option Value} {fa f0 f1 f2 f3 f4 f5 f6 f7 f8 f9 f10 f11 f12 f13 f14 : Addr} (X : K.In h) (G : h.Ns mainGlobals mg) (hfa : mg "law" = some (.ref fa))
    {od0 an0 od1 an1 od2 an2 od3 an3 od4 an4 od5 an5 od6 an6 od7 an7 od8 an8 od9 an9 od10 an10 od11 an11 od12 an12 od13 an13 od14 an14 : Option Addr} {sl0 sl1 sl2 sl3 sl4 sl5 sl6 sl7 sl8 sl9 sl10 sl11 sl12 sl13 sl14 : Array (Option Value)} {oc0 kV0 dc0 pm0 cd0 ct0 oc1 kV1 dc1 pm1 cd1 ct1 oc2 kV2 dc2 pm2 cd2 ct2 oc3 kV3 dc3 pm3 cd3 ct3 oc4 kV4 dc4 pm4 cd4 ct4 oc5 kV5 dc5 pm5 cd5 ct5 oc6 kV6 dc6 pm6 cd6 ct6 oc7 kV7 dc7 pm7 cd7 ct7 oc8 kV8 dc8 pm8 cd8 ct8 oc9 kV9 dc9 pm9 cd9 ct9 oc10 kV10 dc10 pm10 cd10 ct10 oc11 kV11 dc11 pm11 cd11 ct11 oc12 kV12 dc12 pm12 cd12 ct12 oc13 kV13 dc13 pm13 cd13 ct13 oc14 kV14 dc14 pm14 cd14 ct14 : Value}
    (a0 : PySem.W.nsIn K mainGlobals "is_head" = some (some (.ref f0))) (l0 : K.lookup f0 = some ⟨oc0, od0, .func (PySem.W.fnOf "is_head" "is_head" (defArgs s_is_head) (defBody s_is_head) (defScope s_is_head) .none kV0 dc0 pm0 an0 cd0 ct0), sl0⟩) (c0 : PySem.W.codeIn K cd0 "is_head" = true) (k0 : PySem.W.keepIn K (.ref f0) = true)
    (a1 : PySem.W.nsIn K mainGlobals "is_number" = some (some (.ref f1))) (l1 : K.lookup f1 = some ⟨oc1, od1, .func (PySem.W.fnOf "is_number" "is_number" (defArgs s_is_number) (defBody s_is_number) (defScope s_is_number) .none kV1 dc1 pm1 an1 cd1 ct1), sl1⟩) (c1 : PySem.W.codeIn K cd1 "is_number" = true) (k1 : PySem.W.keepIn K (.ref f1) = true)
    (a2 : PySem.W.nsIn K mainGlobals "read_way" = some (some (.ref f2))) (l2 : K.lookup f2 = some ⟨oc2, od2, .func (PySem.W.fnOf "read_way" "read_way" (defArgs s_read_way) (defBody s_read_way) (defScope s_read_way) .none kV2 dc2 pm2 an2 cd2 ct2), sl2⟩) (c2 : PySem.W.codeIn K cd2 "read_way" = true) (k2 : PySem.W.keepIn K (.ref f2) = true)
    (a3 : PySem.W.nsIn K mainGlobals "read" = some (some (.ref f3))) (l3 : K.lookup f3 = some ⟨oc3, od3, .func (PySem.W.fnOf "read" "read" (defArgs s_read) (defBody s_read) (defScope s_read) .none kV3 dc3 pm3 an3 cd3 ct3), sl3⟩) (c3 : PySem.W.codeIn K cd3 "read" = true) (k3 : PySem.W.keepIn K (.ref f3) = true)
    (a4 : PySem.W.nsIn K mainGlobals "_law_cell_at" = some (some (.ref f4))) (l4 : K.lookup f4 = some ⟨oc4, od4, .func (PySem.W.fnOf "_law_cell_at" "_law_cell_at" (defArgs s__law_cell_at) (defBody s__law_cell_at) (defScope s__law_cell_at) .none kV4 dc4 pm4 an4 cd4 ct4), sl4⟩) (c4 : PySem.W.codeIn K cd4 "_law_cell_at" = true) (k4 : PySem.W.keepIn K (.ref f4) = true)
    (a5 : PySem.W.nsIn K mainGlobals "_law_whole" = some (some (.ref f5))) (l5 : K.lookup f5 = some ⟨oc5, od5, .func (PySem.W.fnOf "_law_whole" "_law_whole" (defArgs s__law_whole) (defBody s__law_whole) (defScope s__law_whole) .none kV5 dc5 pm5 an5 cd5 ct5), sl5⟩) (c5 : PySem.W.codeIn K cd5 "_law_whole" = true) (k5 : PySem.W.keepIn K (.ref f5) = true)
    (a6 : PySem.W.nsIn K mainGlobals "_law_bits_by" = some (some (.ref f6))) (l6 : K.lookup f6 = some ⟨oc6, od6, .func (PySem.W.fnOf "_law_bits_by" "_law_bits_by" (defArgs s__law_bits_by) (defBody s__law_bits_by) (defScope s__law_bits_by) .none kV6 dc6 pm6 an6 cd6 ct6), sl6⟩) (c6 : PySem.W.codeIn K cd6 "_law_bits_by" = true) (k6 : PySem.W.keepIn K (.ref f6) = true)
    (a7 : PySem.W.nsIn K mainGlobals "_law_way_is" = some (some (.ref f7))) (l7 : K.lookup f7 = some ⟨oc7, od7, .func (PySem.W.fnOf "_law_way_is" "_law_way_is" (defArgs s__law_way_is) (defBody s__law_way_is) (defScope s__law_way_is) .none kV7 dc7 pm7 an7 cd7 ct7), sl7⟩) (c7 : PySem.W.codeIn K cd7 "_law_way_is" = true) (k7 : PySem.W.keepIn K (.ref f7) = true)
    (a8 : PySem.W.nsIn K mainGlobals "_law_sign_by" = some (some (.ref f8))) (l8 : K.lookup f8 = some ⟨oc8, od8, .func (PySem.W.fnOf "_law_sign_by" "_law_sign_by" (defArgs s__law_sign_by) (defBody s__law_sign_by) (defScope s__law_sign_by) .none kV8 dc8 pm8 an8 cd8 ct8), sl8⟩) (c8 : PySem.W.codeIn K cd8 "_law_sign_by" = true) (k8 : PySem.W.keepIn K (.ref f8) = true)
    (a9 : PySem.W.nsIn K mainGlobals "_law_odd" = some (some (.ref f9))) (l9 : K.lookup f9 = some ⟨oc9, od9, .func (PySem.W.fnOf "_law_odd" "_law_odd" (defArgs s__law_odd) (defBody s__law_odd) (defScope s__law_odd) .none kV9 dc9 pm9 an9 cd9 ct9), sl9⟩) (c9 : PySem.W.codeIn K cd9 "_law_odd" = true) (k9 : PySem.W.keepIn K (.ref f9) = true)
    (a10 : PySem.W.nsIn K mainGlobals "_law_due" = some (some (.ref f10))) (l10 : K.lookup f10 = some ⟨oc10, od10, .func (PySem.W.fnOf "_law_due" "_law_due" (defArgs s__law_due) (defBody s__law_due) (defScope s__law_due) .none kV10 dc10 pm10 an10 cd10 ct10), sl10⟩) (c10 : PySem.W.codeIn K cd10 "_law_due" = true) (k10 : PySem.W.keepIn K (.ref f10) = true)
    (a11 : PySem.W.nsIn K mainGlobals "_law_told" = some (some (.ref f11))) (l11 : K.lookup f11 = some ⟨oc11, od11, .func (PySem.W.fnOf "_law_told" "_law_told" (defArgs s__law_told) (defBody s__law_told) (defScope s__law_told) .none kV11 dc11 pm11 an11 cd11 ct11), sl11⟩) (c11 : PySem.W.codeIn K cd11 "_law_told" = true) (k11 : PySem.W.keepIn K (.ref f11) = true)
    (a12 : PySem.W.nsIn K mainGlobals "_law_right" = some (some (.ref f12))) (l12 : K.lookup f12 = some ⟨oc12, od12, .func (PySem.W.fnOf "_law_right" "_law_right" (defArgs s__law_right) (defBody s__law_right) (defScope s__law_right) .none kV12 dc12 pm12 an12 cd12 ct12), sl12⟩) (c12 : PySem.W.codeIn K cd12 "_law_right" = true) (k12 : PySem.W.keepIn K (.ref f12) = true)
    (a13 : PySem.W.nsIn K mainGlobals "_law_spoiled" = some (some (.ref f13))) (l13 : K.lookup f13 = some ⟨oc13, od13, .func (PySem.W.fnOf "_law_spoiled" "_law_spoiled" (defArgs s__law_spoiled) (defBody s__law_spoiled) (defScope s__law_spoiled) .none kV13 dc13 pm13 an13 cd13 ct13), sl13⟩) (c13 : PySem.W.codeIn K cd13 "_law_spoiled" = true) (k13 : PySem.W.keepIn K (.ref f13) = true)
    (a14 : PySem.W.nsIn K mainGlobals "law" = some (some (.ref f14))) (l14 : K.lookup f14 = some ⟨oc14, od14, .func (PySem.W.fnOf "law" "law" (defArgs s_law) (defBody s_law) (defScope s_law) .none kV14 dc14 pm14 an14 cd14 ct14), sl14⟩) (c14 : PySem.W.codeIn K cd14 "law" = true) (k14 : PySem.W.keepIn K (.ref f14) = true)
    (z_ValueError : PySem.W.nsIn K mainGlobals "ValueError" = some none)
    (z_bool : PySem.W.nsIn K mainGlobals "bool" = some none)
    (z_int : PySem.W.nsIn K mainGlobals "int" = some none)
    (z_isinstance : PySem.W.nsIn K mainGlobals "isinstance" = some none)
    (z_len : PySem.W.nsIn K mainGlobals "len" = some none)
    (z_range : PySem.W.nsIn K mainGlobals "range" = some none)
    (z_str : PySem.W.nsIn K mainGlobals "str" = some none)
    (z_tuple : PySem.W.nsIn K mainGlobals "tuple" = some none)
    {c_BadAddress c_BadHead c_BadLine c_BadSpan c_FullBoard c_NoHead c_RoadError : Addr}
    (n_BadAddress : PySem.W.nsIn K mainGlobals "BadAddress" = some (some (.ref c_BadAddress))) (x_BadAddress : PySem.W.excIn K c_BadAddress bmV "ValueError.__new__" = true)
    (n_BadHead : PySem.W.nsIn K mainGlobals "BadHead" = some (some (.ref c_BadHead))) (x_BadHead : PySem.W.excIn K c_BadHead bmV "ValueError.__new__" = true)
    (n_BadLine : PySem.W.nsIn K mainGlobals "BadLine" = some (some (.ref c_BadLine))) (x_BadLine : PySem.W.excIn K c_BadLine bmV "ValueError.__new__" = true)
    (n_BadSpan : PySem.W.nsIn K mainGlobals "BadSpan" = some (some (.ref c_BadSpan))) (x_BadSpan : PySem.W.excIn K c_BadSpan bmV "ValueError.__new__" = true)
    (n_FullBoard : PySem.W.nsIn K mainGlobals "FullBoard" = some (some (.ref c_FullBoard))) (x_FullBoard : PySem.W.excIn K c_FullBoard bmV "ValueError.__new__" = true)
    (n_NoHead : PySem.W.nsIn K mainGlobals "NoHead" = some (some (.ref c_NoHead))) (x_NoHead : PySem.W.excIn K c_NoHead bmV "ValueError.__new__" = true)
    (n_RoadError : PySem.W.nsIn K mainGlobals "RoadError" = some (some (.ref c_RoadError))) (x_RoadError : PySem.W.excIn K c_RoadError bmV "ValueError.__new__" = true)
    (r_sub : PySem.W.mroIn K c_BadLine (.ref c_RoadError) = some true)
    (r_ga : PySem.W.findIn K (.ref c_BadLine) "__getattribute__" = some (some (.builtin "BaseException.__getattribute__")))
    (r_gn : PySem.W.findIn K (.ref c_BadLine) "__getattr__" = some none)
    (r_cl : PySem.W.findIn K (.ref c_BadLine) "__class__" = some (some (.builtin "object.__class__")))
    (r_sg : PySem.W.specialIn K (.builtin "object.__class__") "__get__" = some (some (.builtin "getset_descriptor.__get__")))
    (r_tk : PySem.W.takesIn K (.builtin "object.__class__") = some true)
    (r_mo : PySem.W.mroIn K c_BadLine (.type "object") = some true)
    (r_mb : PySem.W.mroIn K c_BadLine (.type "BaseException") = some true)
    (r_i1 : PySem.W.kitOne K (.ref c_BadLine) (.ref c_BadHead) = some false)
    (r_i2 : PySem.W.kitOne K (.ref c_BadLine) (.ref c_BadAddress) = some false)
    (r_i3 : PySem.W.kitOne K (.ref c_BadLine) (.ref c_BadSpan) = some false)
    (r_i4 : PySem.W.kitOne K (.ref c_BadLine) (.ref c_FullBoard) = some false)
    (r_i5 : PySem.W.kitOne K (.ref c_BadLine) (.ref c_BadLine) = some true)
    (r_i6 : PySem.W.kitOne K (.ref c_BadLine) (.type "ValueError") = some true)
    (r_i7 : PySem.W.kitOne K (.ref c_BadLine) (.ref c_NoHead) = some false)
    {t_FIGURES : Tok} (g_FIGURES : PySem.W.nsIn K mainGlobals "FIGURES" = some (some (.str (Str.ofString "0123456789") t_FIGURES)))
    {t_LONGEST_HEAD : Tok} (g_LONGEST_HEAD : PySem.W.nsIn K mainGlobals "LONGEST_HEAD" = some (some (.int 16 t_LONGEST_HEAD)))
    {t_MOST_FIGURES : Tok} (g_MOST_FIGURES : PySem.W.nsIn K mainGlobals "MOST_FIGURES" = some (some (.int 4 t_MOST_FIGURES)))
    {t_NOWHERE : Tok} (g_NOWHERE : PySem.W.nsIn K mainGlobals "NOWHERE" = some (some (.str (Str.ofString "nowhere") t_NOWHERE)))
    : ∃ fd : FuncData, (∀ (s : Shared) (v : Value), BindsTo s fd ⟨[v], []⟩ [("script", v)]) ∧ ∀ base : Heap, K.In base → base.Ns mainGlobals mg → FnOk l.prog w K mg base CX0 5 fa fd ["script"] (sp_law12 K) := by
  have e := hfa.symm.trans (PySem.W.mg_of X G a14)
  cases e
  have k_BadAddress := clsAt_of n_BadAddress
  have k_BadHead := clsAt_of n_BadHead
  have k_BadLine := clsAt_of n_BadLine
  have k_BadSpan := clsAt_of n_BadSpan
  have k_FullBoard := clsAt_of n_FullBoard
  have k_NoHead := clsAt_of n_NoHead
  have k_RoadError := clsAt_of n_RoadError
  have T : Txt K mg := ⟨PySem.W.mg_none_of X G z_ValueError, PySem.W.mg_none_of X G z_bool, PySem.W.mg_none_of X G z_int, PySem.W.mg_none_of X G z_isinstance, PySem.W.mg_none_of X G z_len, PySem.W.mg_none_of X G z_range, PySem.W.mg_none_of X G z_str, PySem.W.mg_none_of X G z_tuple, by rw [k_BadAddress]; exact PySem.W.mg_of X G n_BadAddress, by rw [k_BadAddress]; exact x_BadAddress, by rw [k_BadHead]; exact PySem.W.mg_of X G n_BadHead, by rw [k_BadHead]; exact x_BadHead, by rw [k_BadLine]; exact PySem.W.mg_of X G n_BadLine, by rw [k_BadLine]; exact x_BadLine, by rw [k_BadSpan]; exact PySem.W.mg_of X G n_BadSpan, by rw [k_BadSpan]; exact x_BadSpan, by rw [k_FullBoard]; exact PySem.W.mg_of X G n_FullBoard, by rw [k_FullBoard]; exact x_FullBoard, by rw [k_NoHead]; exact PySem.W.mg_of X G n_NoHead, by rw [k_NoHead]; exact x_NoHead, by rw [k_RoadError]; exact PySem.W.mg_of X G n_RoadError, by rw [k_RoadError]; exact x_RoadError, ⟨_, PySem.W.mg_of X G g_FIGURES⟩, ⟨_, PySem.W.mg_of X G g_LONGEST_HEAD⟩, ⟨_, PySem.W.mg_of X G g_MOST_FIGURES⟩, ⟨_, PySem.W.mg_of X G g_NOWHERE⟩, ⟨by (try simp only [k_BadAddress, k_BadHead, k_BadLine, k_BadSpan, k_FullBoard, k_NoHead, k_RoadError]); exact r_sub, by (try simp only [k_BadAddress, k_BadHead, k_BadLine, k_BadSpan, k_FullBoard, k_NoHead, k_RoadError]); exact r_ga, by (try simp only [k_BadAddress, k_BadHead, k_BadLine, k_BadSpan, k_FullBoard, k_NoHead, k_RoadError]); exact r_gn, by (try simp only [k_BadAddress, k_BadHead, k_BadLine, k_BadSpan, k_FullBoard, k_NoHead, k_RoadError]); exact r_cl, by (try simp only [k_BadAddress, k_BadHead, k_BadLine, k_BadSpan, k_FullBoard, k_NoHead, k_RoadError]); exact r_sg, by (try simp only [k_BadAddress, k_BadHead, k_BadLine, k_BadSpan, k_FullBoard, k_NoHead, k_RoadError]); exact r_tk, by (try simp only [k_BadAddress, k_BadHead, k_BadLine, k_BadSpan, k_FullBoard, k_NoHead, k_RoadError]); exact r_mo, by (try simp only [k_BadAddress, k_BadHead, k_BadLine, k_BadSpan, k_FullBoard, k_NoHead, k_RoadError]); exact r_mb, by (try simp only [k_BadAddress, k_BadHead, k_BadLine, k_BadSpan, k_FullBoard, k_NoHead, k_RoadError]); exact r_i1, by (try simp only [k_BadAddress, k_BadHead, k_BadLine, k_BadSpan, k_FullBoard, k_NoHead, k_RoadError]); exact r_i2, by (try simp only [k_BadAddress, k_BadHead, k_BadLine, k_BadSpan, k_FullBoard, k_NoHead, k_RoadError]); exact r_i3, by (try simp only [k_BadAddress, k_BadHead, k_BadLine, k_BadSpan, k_FullBoard, k_NoHead, k_RoadError]); exact r_i4, by (try simp only [k_BadAddress, k_BadHead, k_BadLine, k_BadSpan, k_FullBoard, k_NoHead, k_RoadError]); exact r_i5, by (try simp only [k_BadAddress, k_BadHead, k_BadLine, k_BadSpan, k_FullBoard, k_NoHead, k_RoadError]); exact r_i6, by (try simp only [k_BadAddress, k_BadHead, k_BadLine, k_BadSpan, k_FullBoard, k_NoHead, k_RoadError]); exact r_i7⟩⟩
  have F0 := fun_mk (st := s_is_head) l0 c0 k0
  have b0 := F0.binds (ps := ["text", "size"]) fun _ _ _ _ _ _ us hl => match us, hl with | [_, _], _ => rfl
  have F1 := fun_mk (st := s_is_number) l1 c1 k1
  have b1 := F1.binds (ps := ["text"]) fun _ _ _ _ _ _ us hl => match us, hl with | [_], _ => rfl
  have F4 := fun_mk (st := s__law_cell_at) l4 c4 k4
  have b4 := F4.binds (ps := ["script", "k"]) fun _ _ _ _ _ _ us hl => match us, hl with | [_, _], _ => rfl
  have F5 := fun_mk (st := s__law_whole) l5 c5 k5
  have b5 := F5.binds (ps := ["found"]) fun _ _ _ _ _ _ us hl => match us, hl with | [_], _ => rfl
  have F6 := fun_mk (st := s__law_bits_by) l6 c6 k6
  have b6 := F6.binds (ps := ["cell", "size"]) fun _ _ _ _ _ _ us hl => match us, hl with | [_, _], _ => rfl
  have F8 := fun_mk (st := s__law_sign_by) l8 c8 k8
  have b8 := F8.binds (ps := ["cell"]) fun _ _ _ _ _ _ us hl => match us, hl with | [_], _ => rfl
  have F9 := fun_mk (st := s__law_odd) l9 c9 k9
  have b9 := F9.binds (ps := ["cell"]) fun _ _ _ _ _ _ us hl => match us, hl with | [_], _ => rfl
  have F10 := fun_mk (st := s__law_due) l10 c10 k10
  have b10 := F10.binds (ps := ["line"]) fun _ _ _ _ _ _ us hl => match us, hl with | [_], _ => rfl
  have F2 := fun_mk (st := s_read_way) l2 c2 k2
  have b2 := F2.binds (ps := ["text"]) fun _ _ _ _ _ _ us hl => match us, hl with | [_], _ => rfl
  have F7 := fun_mk (st := s__law_way_is) l7 c7 k7
  have b7 := F7.binds (ps := ["found", "due"]) fun _ _ _ _ _ _ us hl => match us, hl with | [_, _], _ => rfl
  have F13 := fun_mk (st := s__law_spoiled) l13 c13 k13
  have b13 := F13.binds (ps := ["line", "cell", "other"]) fun _ _ _ _ _ _ us hl => match us, hl with | [_, _, _], _ => rfl
  have F3 := fun_mk (st := s_read) l3 c3 k3
  have b3 := F3.binds (ps := ["line"]) fun _ _ _ _ _ _ us hl => match us, hl with | [_], _ => rfl
  have F12 := fun_mk (st := s__law_right) l12 c12 k12
  have b12 := F12.binds (ps := ["got", "due"]) fun _ _ _ _ _ _ us hl => match us, hl with | [_, _], _ => rfl
  have F11 := fun_mk (st := s__law_told) l11 c11 k11
  have b11 := F11.binds (ps := ["line"]) fun _ _ _ _ _ _ us hl => match us, hl with | [_], _ => rfl
  have F14 := fun_mk (st := s_law) l14 c14 k14
  refine ⟨PySem.W.fnOf "law" "law" (defArgs s_law) (defBody s_law) (defScope s_law) .none kV14 dc14 pm14 an14 cd14 ct14, fun s v => .of_eq rfl, fun base _ _ => ?_⟩
  have O_is_head : Own l.prog w K mg base 1 "is_head" ["text", "size"] (sp_is_head K) := .mk' (ok_is_head F0 T ) (PySem.W.mg_of X G a0) k0 b0
  have O_is_number : Own l.prog w K mg base 1 "is_number" ["text"] (sp_is_number K) := .mk' (ok_is_number F1 T ) (PySem.W.mg_of X G a1) k1 b1
  have O__law_cell_at : Own l.prog w K mg base 1 "_law_cell_at" ["script", "k"] (sp_law_cell_at K) := .mk' (ok__law_cell_at F4 T ) (PySem.W.mg_of X G a4) k4 b4
  have O__law_whole : Own l.prog w K mg base 1 "_law_whole" ["found"] (sp_law_whole K) := .mk' (ok__law_whole F5 T ) (PySem.W.mg_of X G a5) k5 b5
  have O__law_bits_by : Own l.prog w K mg base 1 "_law_bits_by" ["cell", "size"] (sp_law_bits_by K) := .mk' (ok__law_bits_by F6 T ) (PySem.W.mg_of X G a6) k6 b6
  have O__law_sign_by : Own l.prog w K mg base 1 "_law_sign_by" ["cell"] (sp_law_sign_by K) := .mk' (ok__law_sign_by F8 T ) (PySem.W.mg_of X G a8) k8 b8
  have O__law_odd : Own l.prog w K mg base 1 "_law_odd" ["cell"] (sp_law_odd K) := .mk' (ok__law_odd F9 T ) (PySem.W.mg_of X G a9) k9 b9
  have O__law_due : Own l.prog w K mg base 1 "_law_due" ["line"] (sp_law_due12 K) := .mk' (ok__law_due F10 T ) (PySem.W.mg_of X G a10) k10 b10
  have O_read_way : OwnX l.prog w K mg base 2 "read_way" ["text"] (sp_read_way K) := .mk' (ok_read_way F2 T O_is_number) (PySem.W.mg_of X G a2) k2 b2
  have O__law_way_is : Own l.prog w K mg base 2 "_law_way_is" ["found", "due"] (sp_law_way_is K) := .mk' (ok__law_way_is F7 T O__law_whole) (PySem.W.mg_of X G a7) k7 b7
  have O__law_spoiled : Own l.prog w K mg base 2 "_law_spoiled" ["line", "cell", "other"] (sp_law_spoiled K) := .mk' (ok__law_spoiled F13 T O__law_sign_by) (PySem.W.mg_of X G a13) k13 b13
  have O_read : OwnX l.prog w K mg base 3 "read" ["line"] (sp_read K) := .mk' (ok_read F3 T O_is_head O_read_way) (PySem.W.mg_of X G a3) k3 b3
  have O__law_right : Own l.prog w K mg base 3 "_law_right" ["got", "due"] (sp_law_right K) := .mk' (ok__law_right F12 T O__law_way_is) (PySem.W.mg_of X G a12) k12 b12
  have O__law_told : Own l.prog w K mg base 4 "_law_told" ["line"] (sp_law_told K) := .mk' (ok__law_told F11 T O_read) (PySem.W.mg_of X G a11) k11 b11
  exact ok_law F14 T O__law_bits_by O__law_cell_at O__law_due O__law_odd O__law_right O__law_spoiled O__law_told
theorem walk {l : PySem.W.OpenLaw} {q : Program} {loose : List Str} {XP : (Str → Option Value) → Heap → Prop} {YP : World → Heap → Prop} {d : DefRec} {K : Params → PySem.W.Frag} (hn : l.most = some 63) (hdf : d.params.defaults = [])
    (hY : ∀ (w : World) (h : Heap), YP w h → (K w.params).In h)
    (F : ∀ (w : World) (mg : Str → Option Value) (fa : Addr) (h : Heap), (K w.params).In h → h.Ns mainGlobals mg → mg d.name = some (.ref fa) →
      ∃ fd : FuncData, (∀ (s : Shared) (u : Value), BindsTo s fd ⟨[u], []⟩ [("script", u)]) ∧ ∀ base : Heap, (K w.params).In base → base.Ns mainGlobals mg → FnOk l.prog w (K w.params) mg base CX0 5 fa fd ["script"] (sp_law12 (K w.params))) :
    PySem.W.WalkO q loose XP YP l.row.toRowW d [] (fun f vs => PySem.call f vs) :=
  L2.walk_of (n := 63) (k := 5) (x := "script") (CX := fun _ => CX0) (sp := fun w => sp_law12 (K w.params)) hn (by decide) hdf ⟨rfl, by decide, by decide⟩ hY F (fun _ _ a ns hl _ hS => ⟨a, ns, rfl, hS, hl, fun _ => rfl⟩) fun _ _ _ _ _ z => z
end K12
open PySem PySem.W PyProof.Rows
set_option maxRecDepth 100000 in
set_option maxHeartbeats 0 in
theorem PySem.Challenge.cw_headroad_k12_lines_refused_holds : PySem.Challenge.rw_headroad_k12_lines_refused.Holds := by
  w_on; o_law; k_head; (case hw => w_witness2)
  k_fill
  refine K12.walk (l := PySem.Challenge.rw_headroad_k12_lines_refused) rfl rfl (fun w h Y => PySem.W.kIn_of Y) ?F
  case F =>
    intro w mg fa h KX G hmg
    refine' K12.all_mk KX G hmg ?a0 ?l0 ?c0 ?k0 ?a1 ?l1 ?c1 ?k1 ?a2 ?l2 ?c2 ?k2 ?a3 ?l3 ?c3 ?k3 ?a4 ?l4 ?c4 ?k4 ?a5 ?l5 ?c5 ?k5 ?a6 ?l6 ?c6 ?k6 ?a7 ?l7 ?c7 ?k7 ?a8 ?l8 ?c8 ?k8 ?a9 ?l9 ?c9 ?k9 ?a10 ?l10 ?c10 ?k10 ?a11 ?l11 ?c11 ?k11 ?a12 ?l12 ?c12 ?k12 ?a13 ?l13 ?c13 ?k13 ?a14 ?l14 ?c14 ?k14 ?z_ValueError ?z_bool ?z_int ?z_isinstance ?z_len ?z_range ?z_str ?z_tuple ?n_BadAddress ?x_BadAddress ?n_BadHead ?x_BadHead ?n_BadLine ?x_BadLine ?n_BadSpan ?x_BadSpan ?n_FullBoard ?x_FullBoard ?n_NoHead ?x_NoHead ?n_RoadError ?x_RoadError ?r_sub ?r_ga ?r_gn ?r_cl ?r_sg ?r_tk ?r_mo ?r_mb ?r_i1 ?r_i2 ?r_i3 ?r_i4 ?r_i5 ?r_i6 ?r_i7 ?g_FIGURES ?g_LONGEST_HEAD ?g_MOST_FIGURES ?g_NOWHERE
    (case a0 => first | k_is | kit_is)
    (case l0 => first | k_is | kit_is)
    (case c0 => first | k_is | kit_is)
    (case k0 => first | k_is | kit_is)
    (case a1 => first | k_is | kit_is)
    (case l1 => first | k_is | kit_is)
    (case c1 => first | k_is | kit_is)
    (case k1 => first | k_is | kit_is)
    (case a2 => first | k_is | kit_is)
    (case l2 => first | k_is | kit_is)
    (case c2 => first | k_is | kit_is)
    (case k2 => first | k_is | kit_is)
    (case a3 => first | k_is | kit_is)
    (case l3 => first | k_is | kit_is)
    (case c3 => first | k_is | kit_is)
    (case k3 => first | k_is | kit_is)
    (case a4 => first | k_is | kit_is)
    (case l4 => first | k_is | kit_is)
    (case c4 => first | k_is | kit_is)
    (case k4 => first | k_is | kit_is)
    (case a5 => first | k_is | kit_is)
    (case l5 => first | k_is | kit_is)
    (case c5 => first | k_is | kit_is)
    (case k5 => first | k_is | kit_is)
    (case a6 => first | k_is | kit_is)
    (case l6 => first | k_is | kit_is)
    (case c6 => first | k_is | kit_is)
    (case k6 => first | k_is | kit_is)
    (case a7 => first | k_is | kit_is)
    (case l7 => first | k_is | kit_is)
    (case c7 => first | k_is | kit_is)
    (case k7 => first | k_is | kit_is)
    (case a8 => first | k_is | kit_is)
    (case l8 => first | k_is | kit_is)
    (case c8 => first | k_is | kit_is)
    (case k8 => first | k_is | kit_is)
    (case a9 => first | k_is | kit_is)
    (case l9 => first | k_is | kit_is)
    (case c9 => first | k_is | kit_is)
    (case k9 => first | k_is | kit_is)
    (case a10 => first | k_is | kit_is)
    (case l10 => first | k_is | kit_is)
    (case c10 => first | k_is | kit_is)
    (case k10 => first | k_is | kit_is)
    (case a11 => first | k_is | kit_is)
    (case l11 => first | k_is | kit_is)
    (case c11 => first | k_is | kit_is)
    (case k11 => first | k_is | kit_is)
    (case a12 => first | k_is | kit_is)
    (case l12 => first | k_is | kit_is)
    (case c12 => first | k_is | kit_is)
    (case k12 => first | k_is | kit_is)
    (case a13 => first | k_is | kit_is)
    (case l13 => first | k_is | kit_is)
    (case c13 => first | k_is | kit_is)
    (case k13 => first | k_is | kit_is)
    (case a14 => first | k_is | kit_is)
    (case l14 => first | k_is | kit_is)
    (case c14 => first | k_is | kit_is)
    (case k14 => first | k_is | kit_is)
    (case z_ValueError => first | k_is | kit_is)
    (case z_bool => first | k_is | kit_is)
    (case z_int => first | k_is | kit_is)
    (case z_isinstance => first | k_is | kit_is)
    (case z_len => first | k_is | kit_is)
    (case z_range => first | k_is | kit_is)
    (case z_str => first | k_is | kit_is)
    (case z_tuple => first | k_is | kit_is)
    (case n_BadAddress => first | k_is | kit_is)
    (case x_BadAddress => k_exc)
    (case n_BadHead => first | k_is | kit_is)
    (case x_BadHead => k_exc)
    (case n_BadLine => first | k_is | kit_is)
    (case x_BadLine => k_exc)
    (case n_BadSpan => first | k_is | kit_is)
    (case x_BadSpan => k_exc)
    (case n_FullBoard => first | k_is | kit_is)
    (case x_FullBoard => k_exc)
    (case n_NoHead => first | k_is | kit_is)
    (case x_NoHead => k_exc)
    (case n_RoadError => first | k_is | kit_is)
    (case x_RoadError => k_exc)
    (case r_sub => first | k_is | kit_is)
    (case r_ga => first | k_is | kit_is)
    (case r_gn => first | k_is | kit_is)
    (case r_cl => first | k_is | kit_is)
    (case r_sg => first | k_is | kit_is)
    (case r_tk => first | k_is | kit_is)
    (case r_mo => first | k_is | kit_is)
    (case r_mb => first | k_is | kit_is)
    (case r_i1 => first | k_is | kit_is)
    (case r_i2 => first | k_is | kit_is)
    (case r_i3 => first | k_is | kit_is)
    (case r_i4 => first | k_is | kit_is)
    (case r_i5 => first | k_is | kit_is)
    (case r_i6 => first | k_is | kit_is)
    (case r_i7 => first | k_is | kit_is)
    (case g_FIGURES => first | k_is | kit_is)
    (case g_LONGEST_HEAD => first | k_is | kit_is)
    (case g_MOST_FIGURES => first | k_is | kit_is)
    (case g_NOWHERE => first | k_is | kit_is)
#print axioms PySem.Challenge.cw_headroad_k12_lines_refused_holds


end
