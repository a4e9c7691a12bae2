import PyProof.Rows.All
import Wide.All
import OpenK.AllK
import Wide.FinOn
import Lean
import PyProof.EqAt
import PyProof.EqKinds
import PyProof.TupleCall
import PyProof.StrWalks
import PyProof.StrLawsIdx
import KE.KIntText
import PyProof.CompFree
import PyProof.NsDelKeeps
import PyProof.ExcArgsOwn
import KE.KSortKey
import PyProof.Rows.SortStr
import KE.KLam
import KE.KNestM
import PyProof.AttrMiss
import PyProof.IsiH_list
import KE.KDictSum
import KE.KDictOf
import PyProof.Walks
import PyProof.Rows.StrPartPair
import PyProof.Rows.StrNews2
import PyProof.Rows.StrRules
import PyProof.ListTruth
import PyProof.Rows.RegReprOcc
import KE.IntTextLaws
import PyProof.P3In
import PyProof.P3Eq
import PySem.Challenge.RW_headroad_k13_whole_board
section
set_option Elab.async false
set_option linter.all false
set_option maxRecDepth 100000
/-! THE HAND LAYER, for ints, bools, texts, own classes, LISTS and tuples (index, slices, in, append, pop ..), calls, loops. Paste it whole ahead of your own text; what your proof does not reach may be deleted. -/
namespace L2
open PySem PySem.Spec PyProof.Rows

/-- a key: an int or a str -/
abbrev Key := Sum Int Str
def keyIs : Key → Value → Bool
  | .inl k, v => Value.isInt k v
  | .inr x, v => Value.isStrOf x v
def keyH (w : World) : Key → Int
  | .inl k => hashInt k
  | .inr x => hashStr w x
theorem keyIs_shape : ∀ {k : Key} {v : Value}, keyIs k v = true → (∃ i t, k = Sum.inl i ∧ v = Value.int i t) ∨ (∃ x t, k = Sum.inr x ∧ v = Value.str x t)
  | .inl i, v, h => by
    obtain ⟨t, e⟩ := Value.isInt_shape (k := i) (v := v) h
    exact .inl ⟨i, t, rfl, e⟩
  | .inr x, v, h => by
    obtain ⟨t, e⟩ := Value.isStrOf_shape (x := x) (v := v) h
    exact .inr ⟨x, t, rfl, e⟩
theorem keyIs_int (i : Int) (t : Tok) : keyIs (.inl i) (.int i t) = true := by simp [keyIs, Value.isInt]
theorem keyIs_str (x : Str) (t : Tok) : keyIs (.inr x) (.str x t) = true := by simp [keyIs, Value.isStrOf]
theorem key_ll (a b : Int) : decide ((Sum.inl a : Key) = Sum.inl b) = (a == b) := by
  by_cases e : a = b
  · subst e; simp
  · have h : ¬ (Sum.inl a : Key) = Sum.inl b := fun q => e (Sum.inl.inj q)
    rw [decide_eq_false h]
    exact (beq_eq_false_iff_ne.mpr e).symm
theorem key_rr (a b : Str) : decide ((Sum.inr a : Key) = Sum.inr b) = decide (a = b) := by
  by_cases e : a = b
  · subst e; simp
  · have h : ¬ (Sum.inr a : Key) = Sum.inr b := fun q => e (Sum.inr.inj q)
    rw [decide_eq_false h, decide_eq_false e]
theorem key_lr (a : Int) (b : Str) : decide ((Sum.inl a : Key) = Sum.inr b) = false := decide_eq_false (fun q => nomatch q)
theorem key_rl (a : Str) (b : Int) : decide ((Sum.inr a : Key) = Sum.inl b) = false := decide_eq_false (fun q => nomatch q)

def mixKind (prog : Program) (w : World) : PySem.KeyKind prog w Key where
  is := keyIs
  hash := keyH w
  inj := fun v a b ha hb => by
    rcases keyIs_shape ha with ⟨i, t, rfl, rfl⟩ | ⟨x, t, rfl, rfl⟩
    · rcases keyIs_shape hb with ⟨j, u, rfl, e⟩ | ⟨y, u, rfl, e⟩
      · injection e with e1 _; rw [e1]
      · exact nomatch e
    · rcases keyIs_shape hb with ⟨j, u, rfl, e⟩ | ⟨y, u, rfl, e⟩
      · exact nomatch e
      · injection e with e1 _; rw [e1]
  byValue := fun k v h => by
    rcases keyIs_shape h with ⟨i, t, rfl, rfl⟩ | ⟨x, t, rfl, rfl⟩ <;> rfl
  pyHash := fun hv h => by
    rcases keyIs_shape hv with ⟨i, t, rfl, rfl⟩ | ⟨x, t, rfl, rfl⟩
    · exact wpAny_pyHash_int h
    · exact wpAny_pyHash_str h
  eqBool := fun hu hv h => by
    rcases keyIs_shape hu with ⟨i, t, rfl, rfl⟩ | ⟨x, t, rfl, rfl⟩
    · rcases keyIs_shape hv with ⟨j, u, rfl, rfl⟩ | ⟨y, u, rfl, rfl⟩
      · rw [key_ll] at h; exact wpAny_eqBool_int h
      · rw [key_lr] at h; exact SeqAt.EqAt.int_str i t y u _ _ _ _ h
    · rcases keyIs_shape hv with ⟨j, u, rfl, rfl⟩ | ⟨y, u, rfl, rfl⟩
      · rw [key_rl] at h; exact SeqAt.EqAt.str_int x t j u _ _ _ _ h
      · rw [key_rr] at h; exact wpAny_eqBool_str h
  «strs» := fun k x t v h => by
    rcases keyIs_shape h with ⟨i, u, rfl, e⟩ | ⟨y, u, rfl, e⟩
    · exact nomatch e
    · injection e with e1 _
      subst e1
      cases v <;> rfl

theorem mixKind_is (prog : Program) (w : World) (k : Key) (v : Value) : (mixKind prog w).is k v = keyIs k v := rfl
theorem mixKind_int (prog : Program) (w : World) (i : Int) (t : Tok) : (mixKind prog w).is (.inl i) (.int i t) = true := keyIs_int i t
theorem mixKind_str (prog : Program) (w : World) (x : Str) (t : Tok) : (mixKind prog w).is (.inr x) (.str x t) = true := keyIs_str x t
end L2

namespace L2
open PySem PySem.Spec PyProof.Rows

/-- a value, without the heap -/
inductive V where
  | non | bl (b : Bool) | int (i : Int) | str (x : Str) | byt (b : Array UInt8) | flt (b : UInt64) | ref (a : Addr) | ty (n : String)
  deriving DecidableEq

def RelV : V → Value → Prop
  | .non, u => u = Value.none
  | .bl b, u => u = Value.bool b
  | .int i, u => ∃ t, u = Value.int i t
  | .str x, u => ∃ t, u = Value.str x t
  | .byt b, u => ∃ t, u = Value.bytes b t
  | .flt b, u => ∃ t, u = Value.float b t
  | .ref a, u => u = Value.ref a
  | .ty n, u => u = Value.type n

abbrev Vals : List V → List Value → Prop := Paired RelV
theorem Vals.length {xs : List V} {us : List Value} (r : Vals xs us) : xs.length = us.length := Paired.length r
theorem Vals.get : ∀ {xs : List V} {us : List Value} {i : Nat} {x : V}, Vals xs us → xs[i]? = some x → ∃ u, us[i]? = some u ∧ RelV x u
  | _, _, _, _, .nil, e => by simp at e
  | _, _, 0, _, .cons r _, e => by simp at e; subst e; exact ⟨_, rfl, r⟩
  | _, _, i + 1, x, .cons _ t, e => by
    obtain ⟨u, h1, h2⟩ := Vals.get (i := i) (x := x) t (by simpa using e)
    exact ⟨u, by simpa using h1, h2⟩
theorem Vals.append : ∀ {xs ys : List V} {us ws : List Value}, Vals xs us → Vals ys ws → Vals (xs ++ ys) (us ++ ws)
  | _, _, _, _, .nil, s => s
  | _, _, _, _, .cons r t, s => .cons r (Vals.append t s)
theorem Vals.take : ∀ {xs : List V} {us : List Value} (n : Nat), Vals xs us → Vals (xs.take n) (us.take n)
  | _, _, 0, _ => .nil
  | _, _, _ + 1, .nil => .nil
  | _, _, n + 1, .cons r t => .cons r (Vals.take n t)
theorem Vals.drop : ∀ {xs : List V} {us : List Value} (n : Nat), Vals xs us → Vals (xs.drop n) (us.drop n)
  | _, _, 0, r => r
  | _, _, _ + 1, .nil => .nil
  | _, _, n + 1, .cons _ t => Vals.drop n t
def RelO : Option V → Option Value → Prop
  | some v, some u => RelV v u
  | none, none => True
  | _, _ => False
def KV {κ : Type} : List (κ × V) → List (κ × Value) → Prop := Paired fun (p : κ × V) (q : κ × Value) => p.1 = q.1 ∧ RelV p.2 q.2

/-- a key of a dict (00_mix): an int or a text -/
def kV : Key → V
  | .inl i => .int i
  | .inr x => .str x

/-- what stands at a tracked address -/
inductive HO where
  /-- a list -/
  | lst (xs : List V)
  /-- a tuple (never changes) -/
  | tup (xs : List V)
  /-- a dict whose keys are ints and texts; one whose keys are tuples of ints and texts (the empty one is both) -/
  | dK (kvs : List (Key × V)) | dT (kvs : List (List Key × V))
  /-- a set of ints: its members, its size -/
  | set (S : Int → Bool) (n : Nat)
  /-- an instance of the class at C, its dict at dx, its attributes -/
  | ins (C dx : Addr) (fs : List (Str × V))
  /-- the dict of the instance at x -/
  | own (x : Addr)
  /-- the dict of an exception -/
  | xd (fs : List (Str × V))
  /-- a bound method, f of x -/
  | met (f x : Addr)
  /-- a range object lo, lo + 1, .. below hi -/
  | rng (lo hi : Int)
  /-- a thing that is known to the object (the script; a dict while a loop walks it): read, never written while it is so -/
  | frz (o : Obj) (u : HO)
  /-- a code object's table -/
  | tbl (ps : Array Value)
  /-- any other thing, by what is true of its one object (a def of one's own: SetO a S n := HO.ext fun h => ..) -/
  | ext (φ : Heap → Prop)

abbrev Hp := Addr → Option HO
def upd (H : Hp) (a : Addr) (o : HO) : Hp := fun b => if b = a then some o else H b
theorem upd_same {H : Hp} {a : Addr} {o : HO} : upd H a o a = some o := by unfold upd; rw [if_pos rfl]
theorem upd_ne {H : Hp} {a b : Addr} {o : HO} (h : b ≠ a) : upd H a o b = H b := by unfold upd; rw [if_neg h]
theorem upd_upd {H : Hp} {a : Addr} {o u : HO} : upd (upd H a o) a u = upd H a u := by
  funext b; unfold upd; split <;> rfl
/-- two objects of different content stand apart -/
theorem ne_of {H : Hp} {a b : Addr} {o u : HO} (h : H a = some o) (h' : H b = some u) (d : o ≠ u) : a ≠ b := by
  intro e; subst e; rw [h] at h'; exact d (Option.some.inj h')
theorem ne_of_none {H : Hp} {a b : Addr} {o : HO} (h : H a = some o) (h' : H b = none) : a ≠ b := by
  intro e; subst e; rw [h] at h'; cases h'

section
variable (P : Program) (w : World)
def ObjOk (H : Hp) (h : Heap) (a : Addr) : HO → Prop
  | .lst xs => xs.length ≤ sizeLine ∧ ∃ (its : List Value) (n : Nat), Vals xs its ∧ h.get? a = some { cls := .type "list", data := .seq its.toArray n }
  | .tup xs => xs.length ≤ sizeLine ∧ ∃ its : List Value, Vals xs its ∧ IsTup h a its.toArray
  | .dK kvs => kvs.length ≤ sizeLine ∧ (a == sysModules) = false ∧ ∃ vs, KV kvs vs ∧ h.DictOf (mixKind P w) a vs
  | .dT kvs => kvs.length ≤ sizeLine ∧ (a == sysModules) = false ∧ ∃ xs : List (List Key × Addr × Value),
      Paired (fun (p : List Key × V) (q : List Key × Addr × Value) => p.1 = q.1 ∧ H q.2.1 = some (.tup (p.1.map kV)) ∧ RelV p.2 q.2.2) kvs xs ∧
      ∃ o es ep, h.get? a = some o ∧ o.ExactDict ∧ o.data = .dict es ep ∧ es.toList = xs.map (entryOfKey (tupleKind (mixKind P w))) ∧ (xs.map (·.1)).Nodup
  | .set S n => h.SetOf (intKind P w) a S n
  | .ins C dx fs => H dx = some (.own a) ∧ fs.length ≤ 1000 ∧ dx ≠ a ∧ h.get? a = some (PySem.W.instObj C dx) ∧
      ∃ mA, h.Ns1 dx mA ∧ (∀ f, RelO (fs.lookup f) (mA f)) ∧ PySem.Within mA (fs.map (·.1))
  | .own _ => ∃ o, h.get? a = some o
  | .xd fs => ∃ mA, h.Ns1 a mA ∧ ∀ f, RelO (fs.lookup f) (mA f)
  | .rng lo hi => ∃ t u v, h.get? a = some { cls := .type "range", data := .fields #[.int lo t, .int hi u, .int 1 v] }
  | .frz o u => h.get? a = some o ∧ ObjOk H h a u
  | .tbl ps => h.get? a = some { cls := .none, data := .fields ps }
  | .met f x => h.get? a = some (PySem.W.methodObj (.ref f) (.ref x))
  | .ext φ => φ h ∧ (∃ o, h.get? a = some o) ∧ ∀ h1 h2 : Heap, φ h1 → (∀ o, h1.get? a = some o → h2.get? a = some o) → φ h2
/-- the abstract heap is held -/
def HOk (H : Hp) (h : Heap) : Prop := ∀ a o, H a = some o → ObjOk P w H h a o
end

section
variable {P : Program} {w : World} {H H' : Hp} {h h' : Heap} {a : Addr} {o : HO}
theorem ObjOk.lt (x : ObjOk P w H h a o) : a < h.objs.size := by
  cases o with
  | lst xs => obtain ⟨_, _, _, _, e⟩ := x; exact Heap.lt_size e
  | tup xs => obtain ⟨_, _, _, p⟩ := x; exact p.lt
  | dK kvs => obtain ⟨_, _, _, _, o, _, _, e, _⟩ := x; exact Heap.lt_size e
  | dT kvs => obtain ⟨_, _, _, _, o, _, _, e, _⟩ := x; exact Heap.lt_size e
  | set S n => obtain ⟨o, _, _, _, e, _⟩ := x; exact Heap.lt_size e
  | ins C dx fs => obtain ⟨_, _, _, e, _⟩ := x; exact Heap.lt_size e
  | own y => obtain ⟨_, e⟩ := x; exact Heap.lt_size e
  | xd fs => obtain ⟨_, ⟨_, _, _, e, _⟩, _⟩ := x; exact Heap.lt_size e
  | rng lo hi => obtain ⟨_, _, _, e⟩ := x; exact Heap.lt_size e
  | frz ob u => obtain ⟨e, _⟩ := x; exact Heap.lt_size e
  | tbl ps => exact Heap.lt_size (show h.get? a = some _ from x)
  | met f y => exact Heap.lt_size (show h.get? a = some _ from x)
  | ext φ => obtain ⟨_, ⟨_, e⟩, _⟩ := x; exact Heap.lt_size e
theorem Paired.mapP {α β : Type} {F G : α → β → Prop} : ∀ {l₁ : List α} {l₂ : List β}, Paired F l₁ l₂ → (∀ a b, F a b → G a b) → Paired G l₁ l₂
  | _, _, .nil, _ => .nil
  | _, _, .cons r t, f => .cons (f _ _ r) (Paired.mapP t f)
/-- what an object's description leans on: its own object, its own dict, the tuples -/
theorem ObjOk.stay (x : ObjOk P w H h a o) (k : ∀ b u, (b = a ∨ H b = some (.own a)) → h.get? b = some u → h'.get? b = some u)
    (ho : ∀ b, H b = some (.own a) → H' b = some (.own a)) (ht : ∀ b xs, H b = some (.tup xs) → H' b = some (.tup xs)) : ObjOk P w H' h' a o := by
  induction o with
  | lst xs => obtain ⟨z, its, n, r, e⟩ := x; exact ⟨z, its, n, r, k _ _ (.inl rfl) e⟩
  | tup xs => obtain ⟨z, its, r, ob, e, c⟩ := x; exact ⟨z, its, r, ob, k _ _ (.inl rfl) e, c⟩
  | dK kvs => obtain ⟨z, y, vs, r, ob, es, ep, e, c⟩ := x; exact ⟨z, y, vs, r, ob, es, ep, k _ _ (.inl rfl) e, c⟩
  | dT kvs =>
    obtain ⟨z, y, xs, r, ob, es, ep, e, c⟩ := x
    exact ⟨z, y, xs, Paired.mapP r fun p q z => ⟨z.1, ht _ _ z.2.1, z.2.2⟩, ob, es, ep, k _ _ (.inl rfl) e, c⟩
  | set S n => obtain ⟨ob, es, ep, t, e, c⟩ := x; exact ⟨ob, es, ep, t, k _ _ (.inl rfl) e, c⟩
  | ins C dx fs =>
    obtain ⟨d, z, ne, e, mA, ⟨od, es, ep, e2, c⟩, r⟩ := x
    exact ⟨ho _ d, z, ne, k _ _ (.inl rfl) e, mA, ⟨od, es, ep, k _ _ (.inr d) e2, c⟩, r⟩
  | own y => obtain ⟨ob, e⟩ := x; exact ⟨ob, k _ _ (.inl rfl) e⟩
  | xd fs => obtain ⟨mA, ⟨od, es, ep, e, c⟩, r⟩ := x; exact ⟨mA, ⟨od, es, ep, k _ _ (.inl rfl) e, c⟩, r⟩
  | rng lo hi => obtain ⟨t, u, v, e⟩ := x; exact ⟨t, u, v, k _ _ (.inl rfl) e⟩
  | frz ob u ih => obtain ⟨e, q⟩ := x; exact ⟨k _ _ (.inl rfl) e, ih q⟩
  | tbl ps =>
    have e : h.get? a = some { cls := .none, data := .fields ps } := x
    show h'.get? a = some { cls := .none, data := .fields ps }
    exact k a _ (.inl rfl) e
  | met f y =>
    have e : h.get? a = some (PySem.W.methodObj (.ref f) (.ref y)) := x
    show h'.get? a = some (PySem.W.methodObj (.ref f) (.ref y))
    exact k a _ (.inl rfl) e
  | ext φ => obtain ⟨p, ⟨o, e⟩, st⟩ := x; exact ⟨st _ _ p fun o q => k _ _ (.inl rfl) q, ⟨o, k _ _ (.inl rfl) e⟩, st⟩
theorem HOk.lt (x : HOk P w H h) (e : H a = some o) : a < h.objs.size := (x a o e).lt
theorem HOk.fresh (x : HOk P w H h) (e : h.objs.size ≤ a) : H a = none := by
  cases q : H a with
  | none => rfl
  | some u => exact absurd (Nat.lt_of_lt_of_le (x.lt q) e) (Nat.lt_irrefl _)
/-- every object of the heap is kept -/
theorem HOk.kept (x : HOk P w H h) (k : ∀ b u, h.get? b = some u → h'.get? b = some u) : HOk P w H h' := fun a o e =>
  (x a o e).stay (fun b u _ q => k b u q) (fun _ q => q) fun _ _ q => q
/-- a new object is laid and tracked -/
theorem HOk.laid (x : HOk P w H h) (k : ∀ b u, h.get? b = some u → h'.get? b = some u) (hp : h.objs.size ≤ a) (new : ObjOk P w (upd H a o) h' a o) : HOk P w (upd H a o) h' := fun b u e => by
  have hn := x.fresh hp
  by_cases hb : b = a
  · subst hb; rw [upd_same] at e; cases e; exact new
  · rw [upd_ne hb] at e
    exact (x b u e).stay (fun c v _ q => k c v q) (fun c q => by rw [upd_ne (ne_of_none q hn)]; exact q) fun c xs q => by rw [upd_ne (ne_of_none q hn)]; exact q
end

/-- what may be read as u: it is u, or a known u -/
def Rd (H : Hp) (a : Addr) (u : HO) : Prop := H a = some u ∨ ∃ o, H a = some (.frz o u)
theorem Rd.ok {P : Program} {w : World} {H : Hp} {h : Heap} {a : Addr} {u : HO} (r : Rd H a u) (x : HOk P w H h) : ObjOk P w H h a u := by
  rcases r with r | ⟨o, r⟩
  · exact x a u r
  · obtain ⟨_, q⟩ := x a _ r
    exact q
/-- what may be written -/
def Mut : Option HO → Prop
  | some (.lst _) => True
  | some (.dK _) => True
  | some (.dT _) => True
  | some (.set _ _) => True
  | some (.ins _ _ _) => True
  | some (.ext _) => True
  | _ => False
section
variable {P : Program} {w : World} {H : Hp} {h h' : Heap} {x e : Addr} {o' : HO}
/-- the object at e is changed: x itself, or the dict of the instance x -/
theorem HOk.write (ok : HOk P w H h) (mu : Mut (H x)) (he : e = x ∨ H e = some (.own x)) (k : ∀ b u, b ≠ e → h.get? b = some u → h'.get? b = some u) (heo : ∃ u, h'.get? e = some u)
    (new : ObjOk P w (upd H x o') h' x o') : HOk P w (upd H x o') h' := fun b u q => by
  have nown : ∀ c y, H c = some (.own y) → c ≠ x := fun c y r z => by subst z; rw [r] at mu; exact mu
  have ntup : ∀ c xs, H c = some (.tup xs) → c ≠ x := fun c xs r z => by subst z; rw [r] at mu; exact mu
  by_cases hb : b = x
  · subst hb; rw [upd_same] at q; cases q; exact new
  · rw [upd_ne hb] at q
    by_cases hbe : b = e
    · have q' : H b = some (.own x) := by
        rcases he with z | z
        · exact absurd (hbe.trans z) hb
        · rw [hbe]; exact z
      rw [q] at q'; cases q'
      obtain ⟨v, hv⟩ := heo
      exact ⟨v, by rw [hbe]; exact hv⟩
    · refine (ok b u q).stay (fun c v hc r => k c v ?_ r) (fun c r => by rw [upd_ne (nown c b r)]; exact r) fun c xs r => by rw [upd_ne (ntup c xs r)]; exact r
      rcases hc with rfl | hc
      · exact hbe
      · rintro rfl
        rcases he with z | z
        · exact nown c b hc z
        · rw [hc] at z; cases z; exact hb rfl
end

/-! ### kept unless tracked; of the frames at fs (the callers') the slots may change (an exception that passes writes there); of the records at ex (iterators) nothing is said -/
structure Un (fs ex : List Addr) (H H' : Hp) (h h' : Heap) : Prop where
  keep : ∀ b o, h.get? b = some o → H b = none → b ∉ fs → b ∉ ex → h'.get? b = some o
  slot : ∀ b o, h.get? b = some o → H b = none → b ∈ fs → b ∉ ex → ∃ sl, h'.get? b = some { o with slots := sl }
  free : ∀ b o, h.get? b = some o → H b = none → b ∉ ex → H' b = none
  there : ∀ b o, h.get? b = some o → b ∉ ex → ∃ o', h'.get? b = some o'
  tups : ∀ b xs, H b = some (.tup xs) → H' b = some (.tup xs)
  frzs : ∀ b o u, H b = some (.frz o u) → H' b = some (.frz o u)
  tbls : ∀ b ps, H b = some (.tbl ps) → ∃ more, H' b = some (.tbl (ps ++ more))
section
variable {fs fs' ex ex' : List Addr} {H H1 H2 : Hp} {h h1 h2 h' : Heap} {a x e : Addr} {o : HO}
theorem Un.any (u : Un fs ex H H1 h h1) {b : Addr} {ob : Obj} (q : h.get? b = some ob) (n : H b = none) (hx : b ∉ ex) : ∃ sl, h1.get? b = some { ob with slots := sl } := by
  by_cases hb : b ∈ fs
  · exact u.slot b ob q n hb hx
  · exact ⟨ob.slots, u.keep b ob q n hb hx⟩
theorem Un.kept (k : ∀ b u, h.get? b = some u → h'.get? b = some u) : Un fs ex H H h h' :=
  ⟨fun b ob q _ _ _ => k b ob q, fun b ob q _ _ _ => ⟨ob.slots, k b ob q⟩, fun _ _ _ n _ => n, fun b ob q _ => ⟨ob, k b ob q⟩, fun _ _ q => q, fun _ _ _ q => q, fun _ ps q => ⟨#[], by rw [q]; simp⟩⟩
theorem Un.refl : Un fs ex H H h h := Un.kept fun _ _ q => q
theorem Un.laid (k : ∀ b u, h.get? b = some u → h'.get? b = some u) (hp : h.objs.size ≤ a) (hn : H a = none) : Un fs ex H (upd H a o) h h' where
  keep := fun b u q _ _ _ => k b u q
  slot := fun b u q _ _ _ => ⟨u.slots, k b u q⟩
  free := fun b u q n _ => by rw [upd_ne (Nat.ne_of_lt (Nat.lt_of_lt_of_le (Heap.lt_size q) hp))]; exact n
  there := fun b u q _ => ⟨u, k b u q⟩
  tups := fun b xs q => by rw [upd_ne (ne_of_none q hn)]; exact q
  frzs := fun b u xs q => by rw [upd_ne (ne_of_none q hn)]; exact q
  tbls := fun b ps q => ⟨#[], by rw [upd_ne (ne_of_none q hn), q]; simp⟩
theorem Un.write (mu : Mut (H x)) (he : e = x ∨ H e = some (.own x)) (k : ∀ b u, b ≠ e → h.get? b = some u → h'.get? b = some u) (heo : ∃ u, h'.get? e = some u) : Un fs ex H (upd H x o) h h' := by
  have hx : ∀ b, H b = none → b ≠ x := fun b n z => by subst z; rw [n] at mu; exact mu
  have hb : ∀ b, H b = none → b ≠ e := fun b n z => by
    subst z
    rcases he with r | r
    · exact hx b n r
    · rw [n] at r; cases r
  have hm : ∀ b u, H b = some u → ¬ Mut (some u) → b ≠ x := fun b u q nm z => by subst z; rw [q] at mu; exact nm mu
  refine ⟨fun b u q n _ _ => k b u (hb b n) q, fun b u q n _ _ => ⟨u.slots, k b u (hb b n) q⟩, fun b u q n _ => by rw [upd_ne (hx b n)]; exact n, fun b u q _ => ?_,
    fun b xs q => by rw [upd_ne (hm b _ q fun z => z)]; exact q, fun b u xs q => by rw [upd_ne (hm b _ q fun z => z)]; exact q, fun b ps q => ⟨#[], by rw [upd_ne (hm b _ q fun z => z), q]; simp⟩⟩
  by_cases hbe : b = e
  · subst hbe; exact heo
  · exact ⟨u, k b u hbe q⟩
end

/-! ### the heap without what is tracked -/
def trk (h : Heap) (H : Hp) : List Addr := (List.range h.objs.size).filter fun a => (H a).isSome
def hidT (h : Heap) (H : Hp) : Heap := PySem.W.hideAll h (trk h H)
theorem hidT_size (h : Heap) (H : Hp) : (hidT h H).objs.size = h.objs.size := PySem.W.hideAll_size _ _
theorem hidT_get {h : Heap} {H : Hp} {b : Addr} {o : Obj} (e : h.get? b = some o) (n : H b = none) : (hidT h H).get? b = some o :=
  PySem.W.hideAll_get _ e fun hm => by
    have q : (H b).isSome = true := (List.mem_filter.mp hm).2
    rw [n] at q; simp at q
theorem of_hidT {h : Heap} {H : Hp} {b : Addr} {o : Obj} (e : (hidT h H).get? b = some o) : h.get? b = some o ∧ H b = none := by
  have e' : h.get? b = some o := PySem.W.of_hideAll (trk h H) e
  refine ⟨e', ?_⟩
  cases q : H b with
  | none => rfl
  | some x =>
    have hm : b ∈ trk h H := List.mem_filter.mpr ⟨List.mem_range.mpr (Heap.lt_size e'), by simp [q]⟩
    have z : (hidT h H).get? b = none := PySem.W.hideAll_none (trk h H) hm
    rw [z] at e; cases e

/-! ### OpenK's ledger, filled with every new object but one -/
def allNews (g h : Heap) (L : Addr) : List (Addr × Obj) := (List.range h.objs.size).filterMap fun a => if a = L ∨ (g.get? a).isSome = true then none else (h.get? a).map fun o => (a, o)
def rest (g h : Heap) (L d : Addr) : List (Addr × Obj) := (allNews g h L).filter fun p => decide (p.1 ≠ d)
end L2

namespace L2
open PySem PySem.Spec PyProof.Rows

/-- the module's facts, over the base: the heap at the law's entry without what is tracked there -/
structure Mod (K : PySem.W.Frag) (mg : Str → Option Value) (base : Heap) : Prop where
  kin : K.In base
  glob : base.Ns mainGlobals mg
  blt : ∃ mb, base.Ns builtinsNs mb ∧ ∀ x : Str, x ≠ "__name__" → mb x = bootBuiltins x
  nolimit : base.NoLimit

/-- the context: a def's body (or a comprehension's block) running. base: fixed through the whole law; s₀, H₀: the entry; outer: the frames whose slots others may change (a def's callers); stack: all frames that run;
   ex: iterators that were made ahead of the entry and are walked here (a comprehension's); fn: the names whose cells were made at the entry (a def: all; a comprehension's block: its own); calm: not within an except suite; pn: pins that every state bears; xe: what is wanted of an exception that leaves the code -/
structure Cx where
  prog : Program
  w : World
  K : PySem.W.Frag
  mg : Str → Option Value
  base : Heap
  A : Around
  N : List Str
  s₀ : Shared
  H₀ : Hp
  env : Env
  outer : List Env
  stack : List Env
  ex : List Addr
  fn : Str → Bool
  calm : Bool
  pn : List (Addr × Obj)
  xe : Value → Shared → Prop
/-- the callers' frames -/
def frs (l : List Env) : List Addr := l.filterMap (·.frame)
abbrev Cx.fs (X : Cx) : List Addr := frs X.outer

def Vis (sc : Scope) (x : Str) : Prop := sc.names.lookup x = some .local ∨ sc.names.lookup x = some .cell ∨ sc.names.lookup x = some .free
def Loc (sc : Scope) (x : Str) : Prop := sc.names.lookup x = some .local ∨ sc.names.lookup x = some .cell
def Look (env : Env) (h : Heap) (m : Str → Option Value) (x : Str) (u : Value) : Prop :=
  (env.kindOf x = some .local ∧ m x = some u) ∨ ((env.kindOf x = some .cell ∨ env.kindOf x = some .free) ∧ ∃ c, env.cells.lookup x = some c ∧ h.IsCell c (some u))

structure Cx.Ok (X : Cx) : Prop where
  mod : Mod X.K X.mg X.base
  kind : X.env.scope.kind = .function
  glob : X.env.globals = mainGlobals
  blt : X.env.builtins = builtinsNs
  above : X.s₀.heap.objs.size ≤ X.env.locals
  inj : ∀ x y c, X.env.cells.lookup x = some c → X.env.cells.lookup y = some c → x = y
  has : ∀ x, (X.env.kindOf x = some .cell ∨ X.env.kindOf x = some .free) → ∃ c, X.env.cells.lookup x = some c
  cab : ∀ x c, X.fn x = true → X.env.cells.lookup x = some c → X.s₀.heap.objs.size ≤ c
  hd : X.calm = true → X.A.handled = none
  frames : X.A.frames = some X.stack
  stk : X.stack = X.outer ∨ (X.stack = X.env :: X.outer ∧ X.env.frame = some X.env.locals)
  exf : ∀ b ∈ X.ex, b ≠ X.env.locals ∧ ∀ x c, X.env.cells.lookup x = some c → c ≠ b
  bs : ∀ b o, X.base.get? b = some o → X.s₀.heap.get? b = some o ∧ X.H₀ b = none
  bsz : X.base.objs.size ≤ X.s₀.heap.objs.size
  noex : ∀ b o, X.base.get? b = some o → b ∉ X.ex
  exfs : ∀ b ∈ X.ex, b ∉ X.fs
  funs : X.s₀.heap.FunFrames X.base X.outer
  frf : ∀ b ∈ X.fs, X.H₀ b = none

structure Inv (X : Cx) (pins : List (Addr × Obj)) (σ : List (Option V)) (H : Hp) (s : Shared) : Prop where
  ok : X.Ok
  os : s.os = X.s₀.os
  bare : AllBare s.gens
  base : Un X.fs X.ex X.H₀ H X.s₀.heap s.heap
  loc : ∃ m, s.heap.Ns X.env.locals m ∧ ∀ (i : Nat) (x : Str) (v : V), X.N[i]? = some x → σ[i]? = some (some v) → Vis X.env.scope x → ∃ u, RelV v u ∧ Look X.env s.heap m x u
  cell : ∀ x c, X.env.cells.lookup x = some c → ∃ v, s.heap.IsCell c v
  free : H X.env.locals = none
  freeC : ∀ x c, X.env.cells.lookup x = some c → H c = none
  pin : ∀ p ∈ X.pn ++ pins, s.heap.get? p.1 = some p.2 ∧ H p.1 = none ∧ p.1 ≠ X.env.locals ∧ p.1 ∉ X.fs ∧ ∀ v, p.2.data ≠ .cell v
  hok : HOk X.prog X.w H s.heap
  len : σ.length = X.N.length

section
variable {X : Cx} {pins : List (Addr × Obj)} {σ : List (Option V)} {H H' : Hp} {s : Shared} {h' : Heap}

theorem Cx.Ok.nofr (ok : X.Ok) {b : Addr} {o : Obj} (e : X.base.get? b = some o) : b ∉ X.fs := fun hb => by
  have := (ok.funs.mem hb).1
  rw [e] at this; cases this
theorem Inv.bs (I : Inv X pins σ H s) : ∀ b o, X.base.get? b = some o → s.heap.get? b = some o ∧ H b = none := fun b o e =>
  ⟨I.base.keep b o (I.ok.bs b o e).1 (I.ok.bs b o e).2 (I.ok.nofr e) (I.ok.noex b o e), I.base.free b o (I.ok.bs b o e).1 (I.ok.bs b o e).2 (I.ok.noex b o e)⟩
theorem Inv.bk (I : Inv X pins σ H s) : ∀ b o, X.base.get? b = some o → s.heap.get? b = some o := fun b o e => (I.bs b o e).1
theorem Inv.mod (I : Inv X pins σ H s) : Mod X.K X.mg X.base := I.ok.mod
theorem Inv.kIn (I : Inv X pins σ H s) : X.K.In s.heap := I.ok.mod.kin.keeps I.bk
theorem Inv.lt (I : Inv X pins σ H s) : X.env.locals < s.heap.objs.size := let ⟨_, hn, _⟩ := I.loc; hn.lt
theorem Inv.sz (I : Inv X pins σ H s) : X.s₀.heap.objs.size ≤ s.heap.objs.size := Nat.le_trans I.ok.above (Nat.le_of_lt I.lt)
theorem Inv.nofs (I : Inv X pins σ H s) {a : Addr} (h : s.heap.objs.size ≤ a) : a ∉ X.fs := fun hb => by
  obtain ⟨_, o, ho, _⟩ := I.ok.funs.mem hb
  exact absurd (Nat.lt_of_lt_of_le (Heap.lt_size ho) (Nat.le_trans I.sz h)) (Nat.lt_irrefl _)
theorem Inv.cne (I : Inv X pins σ H s) : ∀ x c, X.env.cells.lookup x = some c → c ≠ X.env.locals := fun x c e z => by
  obtain ⟨v, o, ho, hd⟩ := I.cell x c e
  obtain ⟨m, ⟨o', es, ep, ho', hd', _⟩, _⟩ := I.loc
  rw [z, ho'] at ho; cases ho; rw [hd'] at hd; cases hd
theorem Inv.funs (I : Inv X pins σ H s) : s.heap.FunFrames X.base X.outer := by
  have all : ∀ (l : List Env), (∀ b ∈ frs l, b ∈ X.fs) → X.s₀.heap.FunFrames X.base l → s.heap.FunFrames X.base l := by
    intro l
    induction l with
    | nil => intro _ _; trivial
    | cons env r ih =>
      intro hs hl
      obtain ⟨hk, ⟨L, o, hf, hn, ho, hd⟩, hr⟩ := hl
      have hL : L ∈ X.fs := hs L (by unfold frs; rw [List.filterMap_cons, hf]; exact List.mem_cons_self)
      obtain ⟨sl, e⟩ := I.base.slot L o ho (I.ok.frf L hL) hL fun z => I.ok.exfs L z hL
      exact ⟨hk, ⟨L, _, hf, hn, e, hd⟩, ih (fun b hb => hs b (by unfold frs; rw [List.filterMap_cons, hf]; exact List.mem_cons_of_mem _ hb)) hr⟩
  exact all X.outer (fun _ hb => hb) I.ok.funs

/-- the frames that run, for a call -/
theorem Inv.stack (I : Inv X pins σ H s) : s.heap.FunFrames X.base X.stack := by
  rcases I.ok.stk with e | ⟨e, hf⟩
  · rw [e]; exact I.funs
  · rw [e]
    obtain ⟨m, hn, _⟩ := I.loc
    refine .cons (by rw [I.ok.kind]; decide) hf hn ?_ I.funs
    exact Heap.get?_none_of_le (Nat.le_trans I.ok.bsz I.ok.above)
theorem Inv.stkSub (I : Inv X pins σ H s) : ∀ b ∈ frs X.stack, b ∈ X.env.locals :: X.fs := fun b hb => by
  rcases I.ok.stk with e | ⟨e, hf⟩
  · rw [e] at hb; exact List.mem_cons_of_mem _ hb
  · rw [e] at hb
    unfold frs at hb
    rw [List.filterMap_cons, hf] at hb
    exact hb
theorem Inv.stkFree (I : Inv X pins σ H s) : ∀ b ∈ frs X.stack, H b = none := fun b hb => by
  rcases List.mem_cons.mp (I.stkSub b hb) with e | hb
  · rw [e]; exact I.free
  · obtain ⟨_, o, ho, _⟩ := I.ok.funs.mem hb
    exact I.base.free b o ho (I.ok.frf b hb) fun z => I.ok.exfs b z hb

/-- THE STEP: the untracked objects but the frame and the records at ch are kept (the callers' frames up to slots), the frame's map is kept, the new abstract heap is held -/
theorem Inv.step {g' : Array GenState} {t' : Nat} {d' : Drawn} {ch : List Addr} (I : Inv X pins σ H s)
    (hch : ∀ b ∈ ch, (b ∈ X.ex ∨ X.s₀.heap.objs.size ≤ b) ∧ b ≠ X.env.locals ∧ (∀ x c, X.env.cells.lookup x = some c → c ≠ b) ∧ ∀ p ∈ X.pn ++ pins, p.1 ≠ b)
    (keep : ∀ b o, b ≠ X.env.locals → b ∉ X.fs → b ∉ ch → s.heap.get? b = some o → H b = none → h'.get? b = some o)
    (slot : ∀ b o, b ≠ X.env.locals → b ∈ X.fs → b ∉ ch → s.heap.get? b = some o → H b = none → ∃ sl, h'.get? b = some { o with slots := sl }) (free : ∀ b o, b ∉ ch → s.heap.get? b = some o → H b = none → H' b = none)
    (there : ∀ b o, b ∉ ch → s.heap.get? b = some o → ∃ o', h'.get? b = some o')
    (tups : ∀ b xs, H b = some (.tup xs) → H' b = some (.tup xs)) (frzs : ∀ b o u, H b = some (.frz o u) → H' b = some (.frz o u)) (tbls : ∀ b ps, H b = some (.tbl ps) → ∃ more, H' b = some (.tbl (ps ++ more)))
    (ns : ∀ m, s.heap.Ns X.env.locals m → h'.Ns X.env.locals m) (hok : HOk X.prog X.w H' h') (hg : AllBare g') :
    Inv X pins σ H' { s with heap := h', gens := g', drawn := d', toks := t' } := by
  have neL : ∀ b o, X.s₀.heap.get? b = some o → b ≠ X.env.locals := fun b o e => Nat.ne_of_lt (Nat.lt_of_lt_of_le (Heap.lt_size e) I.ok.above)
  have neC : ∀ b o, X.s₀.heap.get? b = some o → b ∉ X.ex → b ∉ ch := fun b o e hx hb => by
    rcases (hch b hb).1 with z | z
    · exact hx z
    · exact absurd (Nat.lt_of_lt_of_le (Heap.lt_size e) z) (Nat.lt_irrefl _)
  have cellK : ∀ x c, X.env.cells.lookup x = some c → ∀ v, s.heap.IsCell c v → h'.IsCell c v := fun x c e v ⟨o, ho, hd⟩ => by
    have nch : c ∉ ch := fun z => (hch c z).2.2.1 x c e rfl
    by_cases hc : c ∈ X.fs
    · obtain ⟨sl, q⟩ := slot c o (I.cne x c e) hc nch ho (I.freeC x c e)
      exact ⟨_, q, hd⟩
    · exact ⟨o, keep c o (I.cne x c e) hc nch ho (I.freeC x c e), hd⟩
  refine ⟨I.ok, I.os, hg, ⟨fun b o e n hb hx => ?_, fun b o e n hb hx => ?_, fun b o e n hx => ?_, fun b o e hx => ?_, fun b xs e => tups b xs (I.base.tups b xs e), fun b o xs e => frzs b o xs (I.base.frzs b o xs e), fun b ps e => ?_⟩, ?_, fun x c e => ?_, ?_, fun x c e => ?_, fun p hp => ?_, hok, I.len⟩
  · exact keep b o (neL b o e) hb (neC b o e hx) (I.base.keep b o e n hb hx) (I.base.free b o e n hx)
  · obtain ⟨sl, e1⟩ := I.base.slot b o e n hb hx
    obtain ⟨sl', e2⟩ := slot b _ (neL b o e) hb (neC b o e hx) e1 (I.base.free b o e n hx)
    exact ⟨sl', e2⟩
  · obtain ⟨o', e1⟩ := I.base.there b o e hx
    exact free b o' (neC b o e hx) e1 (I.base.free b o e n hx)
  · obtain ⟨o', e1⟩ := I.base.there b o e hx
    exact there b o' (neC b o e hx) e1
  · obtain ⟨m1, e1⟩ := I.base.tbls b ps e
    obtain ⟨m2, e2⟩ := tbls b _ e1
    exact ⟨m1 ++ m2, by rw [e2, Array.append_assoc]⟩
  · obtain ⟨m, hn, hl⟩ := I.loc
    refine ⟨m, ns m hn, fun i x v e1 e2 e3 => ?_⟩
    obtain ⟨u, r, l⟩ := hl i x v e1 e2 e3
    refine ⟨u, r, ?_⟩
    rcases l with l | ⟨k, c, e, z⟩
    · exact .inl l
    · exact .inr ⟨k, c, e, cellK x c e _ z⟩
  · obtain ⟨v, z⟩ := I.cell x c e
    exact ⟨v, cellK x c e v z⟩
  · obtain ⟨m, ⟨o, _, _, ho, _⟩, _⟩ := I.loc
    exact free _ o (fun z => (hch _ z).2.1 rfl) ho I.free
  · obtain ⟨v, o, ho, hd⟩ := I.cell x c e
    exact free c o (fun z => (hch c z).2.2.1 x c e rfl) ho (I.freeC x c e)
  · obtain ⟨e, n, ne, nf, d⟩ := I.pin p hp
    have nch : p.1 ∉ ch := fun z => (hch p.1 z).2.2.2 p hp rfl
    exact ⟨keep p.1 p.2 ne nf nch e n, free p.1 p.2 nch e n, ne, nf, d⟩
/-- .. where the frame's own object is kept too -/
theorem Inv.un {t' : Nat} (I : Inv X pins σ H s) (u : Un X.fs [] H H' s.heap h') (hok : HOk X.prog X.w H' h') : Inv X pins σ H' { s with heap := h', toks := t' } := by
  obtain ⟨m, ⟨o, es, ep, ho, r⟩, _⟩ := id I.loc
  obtain ⟨sl, hL⟩ := u.any ho I.free (by simp)
  exact I.step (g' := s.gens) (d' := s.drawn) (ch := []) (fun _ z => nomatch z) (fun b o _ hb _ e n => u.keep b o e n hb (by simp)) (fun b o _ hb _ e n => u.slot b o e n hb (by simp)) (fun b o _ e n => u.free b o e n (by simp)) (fun b o _ e => u.there b o e (by simp)) u.tups u.frzs u.tbls (fun m' hm => by
    obtain ⟨o', es', ep', ho', r'⟩ := hm
    rw [ho] at ho'; cases ho'
    exact ⟨_, es', ep', hL, r'⟩) hok I.bare
/-- behind a call (or a comprehension's block): the slots of this frame may have changed too, the records at ch may have turned -/
theorem Inv.call {g' : Array GenState} {t' : Nat} {d' : Drawn} {ch : List Addr} (I : Inv X pins σ H s) (u : Un (frs X.stack) ch H H' s.heap h') (hok : HOk X.prog X.w H' h') (hg : AllBare g')
    (hch : ∀ b ∈ ch, (b ∈ X.ex ∨ X.s₀.heap.objs.size ≤ b) ∧ b ≠ X.env.locals ∧ (∀ x c, X.env.cells.lookup x = some c → c ≠ b) ∧ ∀ p ∈ X.pn ++ pins, p.1 ≠ b) :
    Inv X pins σ H' { s with heap := h', gens := g', drawn := d', toks := t' } := by
  obtain ⟨m, ⟨o, es, ep, ho, r⟩, _⟩ := id I.loc
  obtain ⟨sl, hL⟩ := u.any ho I.free fun z => (hch _ z).2.1 rfl
  exact I.step (ch := ch) hch (fun b o hL hb hc e n => u.keep b o e n (fun z => (List.mem_cons.mp (I.stkSub b z)).elim hL hb) hc) (fun b o _ _ hc e n => u.any e n hc) (fun b o hc e n => u.free b o e n hc) (fun b o hc e => u.there b o e hc) u.tups u.frzs u.tbls (fun m' hm => by
    obtain ⟨o', es', ep', ho', r'⟩ := hm
    rw [ho] at ho'; cases ho'
    exact ⟨_, es', ep', hL, r'⟩) hok hg
/-- an untracked record of ours (an iterator) has turned -/
theorem Inv.turned {t' : Nat} {it : Addr} (I : Inv X pins σ H s) (k : ∀ b o, b ≠ it → s.heap.get? b = some o → h'.get? b = some o) (hn : H it = none) (hL : it ≠ X.env.locals)
    (h1 : it ∈ X.ex ∨ X.s₀.heap.objs.size ≤ it) (h2 : ∀ x c, X.env.cells.lookup x = some c → c ≠ it) (h3 : ∀ p ∈ X.pn ++ pins, p.1 ≠ it) : Inv X pins σ H { s with heap := h', toks := t' } := by
  have nit : ∀ b u, H b = some u → b ≠ it := fun b u e z => by rw [z, hn] at e; cases e
  refine I.step (g' := s.gens) (d' := s.drawn) (ch := [it]) (fun b hb => ?_) (fun b o _ _ hc e _ => k b o (fun z => hc (by simp [z])) e) (fun b o _ _ hc e _ => ⟨o.slots, k b o (fun z => hc (by simp [z])) e⟩) (fun _ _ _ _ n => n)
    (fun b o hc e => ⟨o, k b o (fun z => hc (by simp [z])) e⟩) (fun _ _ e => e) (fun _ _ _ e => e) (fun b ps e => ⟨#[], by rw [e]; simp⟩) (fun m hm => ?_) (fun b u e => ?_) I.bare
  · have e : b = it := by simpa using hb
    subst e
    exact ⟨h1, hL, h2, h3⟩
  · obtain ⟨o, es, ep, ho, r⟩ := hm
    exact ⟨o, es, ep, k _ o (Ne.symm hL) ho, r⟩
  · refine (I.hok b u e).stay (fun c v hc q => k c v ?_ q) (fun _ q => q) fun _ _ q => q
    rcases hc with z | z
    · rw [z]; exact nit b u e
    · exact nit c _ z
theorem Inv.tok (I : Inv X pins σ H s) (t : Nat) : Inv X pins σ H { s with toks := t } := I.un (h' := s.heap) (t' := t) Un.refl I.hok
/-- all objects kept -/
theorem Inv.kept {t' : Nat} (I : Inv X pins σ H s) (k : ∀ b u, s.heap.get? b = some u → h'.get? b = some u) : Inv X pins σ H { s with heap := h', toks := t' } := I.un (Un.kept k) (I.hok.kept k)
/-- a new object laid and tracked -/
theorem Inv.laid {a : Addr} {o : HO} {t' : Nat} (I : Inv X pins σ H s) (k : ∀ b u, s.heap.get? b = some u → h'.get? b = some u) (hp : s.heap.objs.size ≤ a) (new : ObjOk X.prog X.w (upd H a o) h' a o) :
    Inv X pins σ (upd H a o) { s with heap := h', toks := t' } := I.un (Un.laid k hp (I.hok.fresh hp)) (I.hok.laid k hp new)
/-- an object written -/
theorem Inv.write {x e : Addr} {o : HO} {t' : Nat} (I : Inv X pins σ H s) (mu : Mut (H x)) (he : e = x ∨ H e = some (.own x)) (k : ∀ b u, b ≠ e → s.heap.get? b = some u → h'.get? b = some u) (heo : ∃ u, h'.get? e = some u)
    (new : ObjOk X.prog X.w (upd H x o) h' x o) : Inv X pins σ (upd H x o) { s with heap := h', toks := t' } := I.un (Un.write mu he k heo) (I.hok.write mu he k heo new)
theorem Inv.pins_of {pins' : List (Addr × Obj)} (I : Inv X pins σ H s) (h : ∀ p ∈ pins', s.heap.get? p.1 = some p.2 ∧ H p.1 = none ∧ p.1 ≠ X.env.locals ∧ p.1 ∉ X.fs ∧ ∀ v, p.2.data ≠ .cell v) : Inv X pins' σ H s :=
  ⟨I.ok, I.os, I.bare, I.base, I.loc, I.cell, I.free, I.freeC, fun p hp => (List.mem_append.mp hp).elim (fun z => I.pin p (List.mem_append_left _ z)) (h p), I.hok, I.len⟩

theorem nodup_ix {N : List Str} (hN : N.Nodup) {i j : Nat} {x : Str} (a : N[i]? = some x) (b : N[j]? = some x) : i = j := by
  obtain ⟨h1, e1⟩ := List.getElem?_eq_some_iff.mp a
  obtain ⟨h2, e2⟩ := List.getElem?_eq_some_iff.mp b
  exact (List.getElem_inj hN).mp (e1.trans e2.symm)

/-- a name is stored; what changed -/
theorem store_ok2 {M : Model} {A : Around} {E : Value → Shared → Prop} {i : Nat} {x : Str} {v : V} {u : Value} {Q : Unit → Shared → Prop} (I : Inv X pins σ H s) (hN : X.N.Nodup) (hi : X.N[i]? = some x) (hx : Loc X.env.scope x) (r : RelV v u)
    (h : ∀ s', Inv X pins (σ.set i (some v)) H s' → (∃ a, Heap.SameBut a s.heap s'.heap ∧ (a = X.env.locals ∨ X.env.cells.lookup x = some a)) → Q () s') (hf : X.fn x = true ∨ X.env.scope.names.lookup x = some .local := by first | exact .inl rfl | exact .inr rfl | assumption) : wpAny M A (storeName X.env x u) Q E s := by
  obtain ⟨m, hn, hl⟩ := id I.loc
  have hcls : (X.env.scope.kind == .class || (X.env.scope.kind == .module && X.env.locals != X.env.globals)) = false := by rw [I.ok.kind]; rfl
  have hiσ : i < σ.length := by rw [I.len]; exact (List.getElem?_eq_some_iff.mp hi).1
  have cne := I.cne
  have tracked : ∀ {a : Addr} {h' : Heap}, (∃ o, s.heap.get? a = some o ∧ H a = none) → Heap.SameBut a s.heap h' → HOk X.prog X.w H h' := fun {a h'} ha hs b ob e => by
    obtain ⟨_, _, hfree⟩ := ha
    refine (I.hok b ob e).stay (fun c w' hc q => (hs.2 c ?_).trans q) (fun _ q => q) fun _ _ q => q
    rintro rfl
    rcases hc with rfl | hc
    · rw [hfree] at e; cases e
    · rw [hfree] at hc; cases hc
  rcases hx with hk | hk
  · refine wpAny_storeName_local hk hn (fun h' hn' hs => ?_) hcls
    obtain ⟨oL, _, _, hoL, _⟩ := id hn
    refine h _ ⟨I.ok, I.os, I.bare, ⟨fun b o e n hb hx => ?_, fun b o e n hb hx => ?_, I.base.free, fun b o e hx => ?_, I.base.tups, I.base.frzs, I.base.tbls⟩, ⟨_, hn', fun j y v' e1 e2 e3 => ?_⟩, fun y c e => ?_, I.free, I.freeC, fun p hp => ?_, tracked ⟨oL, hoL, I.free⟩ hs, by simpa using I.len⟩ ⟨_, hs, .inl rfl⟩
    · exact (hs.2 b (Nat.ne_of_lt (Nat.lt_of_lt_of_le (Heap.lt_size e) I.ok.above))).trans (I.base.keep b o e n hb hx)
    · obtain ⟨sl, e1⟩ := I.base.slot b o e n hb hx
      exact ⟨sl, (hs.2 b (Nat.ne_of_lt (Nat.lt_of_lt_of_le (Heap.lt_size e) I.ok.above))).trans e1⟩
    · obtain ⟨o', e1⟩ := I.base.there b o e hx
      exact ⟨o', (hs.2 b (Nat.ne_of_lt (Nat.lt_of_lt_of_le (Heap.lt_size e) I.ok.above))).trans e1⟩
    · by_cases hj : j = i
      · subst hj
        rw [hi] at e1; cases e1
        rw [List.getElem?_set_self hiσ] at e2
        cases e2
        exact ⟨u, r, .inl ⟨hk, by simp⟩⟩
      · rw [List.getElem?_set_ne (Ne.symm hj)] at e2
        obtain ⟨u', r', q⟩ := hl j y v' e1 e2 e3
        refine ⟨u', r', ?_⟩
        rcases q with ⟨k, e⟩ | ⟨k, c, e, z⟩
        · refine .inl ⟨k, ?_⟩
          have : y ≠ x := fun e => hj (nodup_ix hN e1 (e ▸ hi))
          simp [this, e]
        · exact .inr ⟨k, c, e, z.sameBut hs (cne y c e)⟩
    · obtain ⟨w', z⟩ := I.cell y c e
      exact ⟨w', z.sameBut hs (cne y c e)⟩
    · obtain ⟨e, n, ne, nf, d⟩ := I.pin p hp
      exact ⟨(hs.2 p.1 ne).trans e, n, ne, nf, d⟩
  · have hfn : X.fn x = true := by
      rcases hf with z | z
      · exact z
      · rw [z] at hk; cases hk
    obtain ⟨c, hc⟩ := I.ok.has x (.inl hk)
    obtain ⟨w', z⟩ := I.cell x c hc
    refine wpAny_storeName_cell I.ok.kind hk hc z (fun h' hc' hs => ?_)
    obtain ⟨oc, hoc, hocd⟩ := id z
    refine h { s with heap := h' } ⟨I.ok, I.os, I.bare, ⟨fun b o e n hb hx => ?_, fun b o e n hb hx => ?_, I.base.free, fun b o e hx => ?_, I.base.tups, I.base.frzs, I.base.tbls⟩, ⟨m, hn.sameBut hs (Ne.symm (cne x c hc)), fun j y v' e1 e2 e3 => ?_⟩, fun y c' e => ?_, I.free, I.freeC, fun p hp => ?_, tracked ⟨oc, hoc, I.freeC x c hc⟩ hs, by simpa using I.len⟩ ⟨c, hs, .inr hc⟩
    · exact (hs.2 b (Nat.ne_of_lt (Nat.lt_of_lt_of_le (Heap.lt_size e) (I.ok.cab x c hfn hc)))).trans (I.base.keep b o e n hb hx)
    · obtain ⟨sl, e1⟩ := I.base.slot b o e n hb hx
      exact ⟨sl, (hs.2 b (Nat.ne_of_lt (Nat.lt_of_lt_of_le (Heap.lt_size e) (I.ok.cab x c hfn hc)))).trans e1⟩
    · obtain ⟨o', e1⟩ := I.base.there b o e hx
      exact ⟨o', (hs.2 b (Nat.ne_of_lt (Nat.lt_of_lt_of_le (Heap.lt_size e) (I.ok.cab x c hfn hc)))).trans e1⟩
    · by_cases hj : j = i
      · subst hj
        rw [hi] at e1; cases e1
        rw [List.getElem?_set_self hiσ] at e2
        cases e2
        exact ⟨u, r, .inr ⟨.inl hk, c, hc, hc'⟩⟩
      · rw [List.getElem?_set_ne (Ne.symm hj)] at e2
        obtain ⟨u', r', q⟩ := hl j y v' e1 e2 e3
        refine ⟨u', r', ?_⟩
        rcases q with q | ⟨k, c', e, z'⟩
        · exact .inl q
        · refine .inr ⟨k, c', e, z'.sameBut hs ?_⟩
          rintro rfl
          exact hj (nodup_ix hN e1 (I.ok.inj _ _ _ e hc ▸ hi))
    · by_cases hcc : c' = c
      · subst hcc; exact ⟨_, hc'⟩
      · obtain ⟨w2, z2⟩ := I.cell y c' e
        exact ⟨w2, z2.sameBut hs hcc⟩
    · obtain ⟨e, n, ne, nf, d⟩ := I.pin p hp
      refine ⟨(hs.2 p.1 ?_).trans e, n, ne, nf, d⟩
      intro q
      rw [q, hoc] at e
      have q' : oc = p.2 := Option.some.inj e
      exact d w' (by rw [← q']; exact hocd)
theorem store_ok {M : Model} {A : Around} {E : Value → Shared → Prop} {i : Nat} {x : Str} {v : V} {u : Value} {Q : Unit → Shared → Prop} (I : Inv X pins σ H s) (hN : X.N.Nodup) (hi : X.N[i]? = some x) (hx : Loc X.env.scope x) (r : RelV v u)
    (h : ∀ s', Inv X pins (σ.set i (some v)) H s' → Q () s') (hf : X.fn x = true ∨ X.env.scope.names.lookup x = some .local := by first | exact .inl rfl | exact .inr rfl | assumption) : wpAny M A (storeName X.env x u) Q E s :=
  store_ok2 I hN hi hx r (fun s' I' _ => h s' I') hf
/-- behind a call or a block, the state as it is -/
theorem Inv.call' {s' : Shared} {ch : List Addr} (I : Inv X pins σ H s) (ho : s'.os = s.os) (u : Un (frs X.stack) ch H H' s.heap s'.heap) (hok : HOk X.prog X.w H' s'.heap) (hg : AllBare s'.gens)
    (hch : ∀ b ∈ ch, (b ∈ X.ex ∨ X.s₀.heap.objs.size ≤ b) ∧ b ≠ X.env.locals ∧ (∀ x c, X.env.cells.lookup x = some c → c ≠ b) ∧ ∀ p ∈ X.pn ++ pins, p.1 ≠ b) : Inv X pins σ H' s' := by
  obtain ⟨h', g', d', t', o'⟩ := s'
  have e : o' = s.os := ho
  subst e
  exact I.call (g' := g') (t' := t') (d' := d') u hok hg hch
end

/-! ### the judgements -/
/-- an exception: its class, its own dict's address (where it has one), the abstract heap behind it -/
abbrev XK := Value → Option Addr → Hp → Prop
abbrev St := List (Option V)
abbrev VK := V → Hp → Prop
/-- an expression's reading; a test's; an argument list's -/
abbrev TE := St → Hp → VK → Prop
abbrev TT := St → Hp → (Bool → Hp → Prop) → Prop
abbrev TA := St → Hp → (List V → Hp → Prop) → Prop
/-- what is wanted behind a statement -/
structure Ends where
  nx : St → Hp → Prop
  rt : VK
  bk : St → Hp → Prop := fun _ _ => False
  ct : St → Hp → Prop := fun _ _ => False
abbrev TS := Ends → St → Hp → Prop

def EP (X : Cx) (pins : List (Addr × Obj)) (σ : St) (Q : VK) (u : Value) (s' : Shared) : Prop := ∃ v H', Inv X pins σ H' s' ∧ RelV v u ∧ Q v H'
def TP (X : Cx) (pins : List (Addr × Obj)) (σ : St) (Q : Bool → Hp → Prop) (b : Bool) (s' : Shared) : Prop := ∃ H', Inv X pins σ H' s' ∧ Q b H'
def AP (X : Cx) (pins : List (Addr × Obj)) (σ : St) (Q : List V → Hp → Prop) (us : List Value) (s' : Shared) : Prop := ∃ vs H', Inv X pins σ H' s' ∧ Vals vs us ∧ Q vs H'
def SP (X : Cx) (pins : List (Addr × Obj)) (D : Ends) (f : Flow) (s' : Shared) : Prop :=
  match f with
  | .next => ∃ σ' H', Inv X pins σ' H' s' ∧ D.nx σ' H'
  | .brk => ∃ σ' H', Inv X pins σ' H' s' ∧ D.bk σ' H'
  | .cont => ∃ σ' H', Inv X pins σ' H' s' ∧ D.ct σ' H'
  | .ret u => ∃ v σ' H', Inv X pins σ' H' s' ∧ RelV v u ∧ D.rt v H'

def PE (X : Cx) (e : Expr) (t : TE) : Prop :=
  ∀ (pins : List (Addr × Obj)) (s : Shared) (σ : St) (H : Hp) (Q : VK), Inv X pins σ H s → t σ H Q → wpAny (model X.prog X.w) X.A (eval e X.env) (EP X pins σ Q) X.xe s
def PT (X : Cx) (e : Expr) (t : TT) : Prop :=
  ∀ (pins : List (Addr × Obj)) (s : Shared) (σ : St) (H : Hp) (Q : Bool → Hp → Prop), Inv X pins σ H s → t σ H Q → wpAny (model X.prog X.w) X.A (isTrue e X.env (eval e X.env)) (TP X pins σ Q) X.xe s
/-- a test whatever its 'whole' is (and, or) -/
def PW (X : Cx) (e : Expr) (t : TT) : Prop :=
  ∀ (whole : Sem Value) (pins : List (Addr × Obj)) (s : Shared) (σ : St) (H : Hp) (Q : Bool → Hp → Prop), Inv X pins σ H s → t σ H Q → wpAny (model X.prog X.w) X.A (isTrue e X.env whole) (TP X pins σ Q) X.xe s
theorem PW.pt {X : Cx} {e : Expr} {t : TT} (h : PW X e t) : PT X e t := h _
/-- an argument list (no star), from the left -/
def PA (X : Cx) (es : List Expr) (t : TA) : Prop :=
  ∀ (pos : Pos) (pins : List (Addr × Obj)) (s : Shared) (σ : St) (H : Hp) (Q : List V → Hp → Prop), Inv X pins σ H s → t σ H Q → wpAny (model X.prog X.w) X.A (spliced (backTo pos (starEach es X.env))) (AP X pins σ Q) X.xe s
def PS (X : Cx) (st : Stmt) (t : TS) : Prop :=
  ∀ (pins : List (Addr × Obj)) (s : Shared) (σ : St) (H : Hp) (D : Ends), Inv X pins σ H s → t D σ H → wpAny (model X.prog X.w) X.A (exec st X.env) (SP X pins D) X.xe s
def PSs (X : Cx) (st : List Stmt) (t : TS) : Prop :=
  ∀ (pins : List (Addr × Obj)) (s : Shared) (σ : St) (H : Hp) (D : Ends), Inv X pins σ H s → t D σ H → wpAny (model X.prog X.w) X.A (execs st X.env) (SP X pins D) X.xe s
/-- weaken the end -/
theorem thn {α : Type} {t : Sem α} {Q Q' : α → Shared → Prop} {M : Model} {A : Around} {E : Value → Shared → Prop} {s : Shared} (h : wpAny M A t Q E s) (hQ : ∀ a s, Q a s → Q' a s) : wpAny M A t Q' E s := wpAny_mono h hQ fun _ _ x => x
end L2

namespace L2
open PySem PySem.Spec PyProof.Rows
section
variable {X : Cx}

/-! ### names and constants -/
def tVar (i : Nat) : TE := fun σ H Q => ∃ v, σ[i]? = some (some v) ∧ Q v H
def tC (v : V) : TE := fun _ H Q => Q v H
theorem pe_var {i : Nat} {x : Str} {pos : Pos} (hN : X.N[i]? = some x) (hv : Vis X.env.scope x) (hd : (x == ("__debug__" : Str)) = false := by decide) (hcd : (x == ("__classdict__" : Str)) = false := by decide) : PE X (.Name x pos) (tVar i) := by
  intro pins s σ H Q I h
  obtain ⟨v, e, h⟩ := h
  obtain ⟨m, hn, hl⟩ := I.loc
  obtain ⟨u, r, l⟩ := hl i x v hN e hv
  have fin : EP X pins σ Q u s := ⟨v, H, I, r, h⟩
  rcases l with ⟨hk, hm⟩ | ⟨hk, c, hc, hcell⟩
  · exact wpAny_Name (wpAny_loadName_local I.ok.kind hk hn hm fin) hd
  · rcases hk with hk | hk
    · exact wpAny_Name (wpAny_loadName_cell I.ok.kind hk hc hcell fin) hd
    · exact wpAny_Name (wpAny_loadName_free I.ok.kind hk hc hcell fin hcd) hd
theorem pe_int {i j pos} : PE X (.Constant (.int i) j pos) (tC (.int i)) := fun _ _ _ H _ I h => wpAny_Constant_int ⟨.int i, H, I.tok _, ⟨_, rfl⟩, h⟩
theorem pe_bl {b j pos} : PE X (.Constant (.bool b) j pos) (tC (.bl b)) := fun _ _ _ H _ I h => Constant_bool ⟨.bl b, H, I, rfl, h⟩
theorem pe_non {j pos} : PE X (.Constant .none j pos) (tC .non) := fun _ _ _ H _ I h => Constant_none ⟨.non, H, I, rfl, h⟩
theorem pe_str {x j pos} : PE X (.Constant (.str x) j pos) (tC (.str x)) := fun _ _ _ H _ I h => Calls.Constant_str ⟨.str x, H, I.tok _, ⟨_, rfl⟩, h⟩

/-- a global name of the def -/
def Gl (X : Cx) (x : Str) : Prop := X.env.kindOf x = some .globalImplicit
theorem ld_glob {E : Value → Shared → Prop} {pins : List (Addr × Obj)} {s : Shared} {σ : St} {H : Hp} {x : Str} {u : Value} {pos : Pos} {Q : Value → Shared → Prop} (I : Inv X pins σ H s) (hg : Gl X x) (hm : X.mg x = some u) (h : Q u s)
    (hd : (x == ("__debug__" : Str)) = false := by decide) : wpAny (model X.prog X.w) X.A (eval (.Name x pos) X.env) Q E s :=
  Calls.Name_function_global I.ok.kind hg (Calls.loadGlobal_global (by rw [I.ok.glob]; exact I.mod.glob.keeps I.bk) hm h) hd
theorem ld_blt {E : Value → Shared → Prop} {pins : List (Addr × Obj)} {s : Shared} {σ : St} {H : Hp} {x : Str} {u : Value} {pos : Pos} {Q : Value → Shared → Prop} (I : Inv X pins σ H s) (hg : Gl X x) (hm : X.mg x = none) (hv : bootBuiltins x = some u) (h : Q u s)
    (hn : x ≠ "__name__" := by decide) (hd : (x == ("__debug__" : Str)) = false := by decide) : wpAny (model X.prog X.w) X.A (eval (.Name x pos) X.env) Q E s := by
  obtain ⟨mb, h1, h2⟩ := I.mod.blt
  exact Calls.Name_function_global I.ok.kind hg (Calls.loadGlobal_builtin (by rw [I.ok.glob]; exact I.mod.glob.keeps I.bk) hm (by rw [I.ok.blt]; exact h1.keeps I.bk) ((h2 x hn).trans hv) h) hd
/-- a module's constant, a class, a function, as a value -/
theorem pe_glob {x : Str} {v : V} {u : Value} {pos : Pos} (hg : Gl X x) (hm : X.mg x = some u) (r : RelV v u) (hd : (x == ("__debug__" : Str)) = false := by decide) : PE X (.Name x pos) (tC v) :=
  fun _ _ _ H _ I h => ld_glob I hg hm ⟨v, H, I, r, h⟩ hd
theorem pe_bltn {x : Str} {v : V} {u : Value} {pos : Pos} (hg : Gl X x) (hm : X.mg x = none) (hv : bootBuiltins x = some u) (r : RelV v u) (hn : x ≠ "__name__" := by decide) (hd : (x == ("__debug__" : Str)) = false := by decide) : PE X (.Name x pos) (tC v) :=
  fun _ _ _ H _ I h => ld_blt I hg hm hv ⟨v, H, I, r, h⟩ hn hd

/-! ### arithmetic -/
variable {a b : Expr} {ta tb : TE} {pos : Pos}
/-! ### comparisons -/
/-- a comparison as a value, as a test -/
def tB (t : TE) : TT := fun σ H Q => t σ H fun x H1 => ∃ c, x = .bl c ∧ Q c H1
/-- an expression whose value is a bool, as a test -/
theorem pt_val {e : Expr} {t : TE} (h : PE X e t) (he : ∀ whole, isTrue e X.env whole = (do let v ← whole; standAt e.pos; holding [v] (truthy v)) := by intro _; rfl) : PT X e (tB t) := by
  intro pins s σ H Q I hw
  refine isTrue_plain (thn (h pins s σ H _ I hw) fun v s1 ⟨x, H1, I1, r1, q1⟩ => ?_) (he _)
  obtain ⟨d, rfl, q⟩ := q1
  cases r1
  exact wpAny_truthy_bool ⟨H1, I1, q⟩

/-! ### and, or, not -/
variable {tA tB' : TT} {rest : List Expr}
def tAnd (t u : TT) : TT := fun σ H Q => t σ H fun c H1 => if c = true then u σ H1 Q else Q false H1
def tOr (t u : TT) : TT := fun σ H Q => t σ H fun c H1 => if c = true then Q true H1 else u σ H1 Q
def tNot (t : TT) : TT := fun σ H Q => t σ H fun c H1 => Q (!c) H1
theorem pw_and1 (ha : PT X a tA) : PW X (.BoolOp .And [a] pos) tA := by
  intro wh pins s σ H Q I h
  refine isTrue_and (thn (ha pins s σ H Q I h) fun c s1 e => ?_)
  cases c with
  | true => exact isTrue_and_nil e
  | false => exact e
theorem pw_or1 (ha : PT X a tA) : PW X (.BoolOp .Or [a] pos) tA := by
  intro wh pins s σ H Q I h
  refine isTrue_or (thn (ha pins s σ H Q I h) fun c s1 e => ?_)
  cases c with
  | false => exact isTrue_or_nil e
  | true => exact e
theorem pw_and (ha : PT X a tA) (hb : PW X (.BoolOp .And (b :: rest) pos) tB') : PW X (.BoolOp .And (a :: b :: rest) pos) (tAnd tA tB') := by
  intro wh pins s σ H Q I h
  refine isTrue_and (thn (ha pins s σ H _ I h) fun c s1 ⟨H1, I1, q1⟩ => ?_)
  cases c with
  | true => exact hb wh pins s1 σ H1 Q I1 q1
  | false => exact ⟨H1, I1, q1⟩
theorem pw_or (ha : PT X a tA) (hb : PW X (.BoolOp .Or (b :: rest) pos) tB') : PW X (.BoolOp .Or (a :: b :: rest) pos) (tOr tA tB') := by
  intro wh pins s σ H Q I h
  refine isTrue_or (thn (ha pins s σ H _ I h) fun c s1 ⟨H1, I1, q1⟩ => ?_)
  cases c with
  | true => exact ⟨H1, I1, q1⟩
  | false => exact hb wh pins s1 σ H1 Q I1 q1
theorem pt_not (ha : PT X a tA) : PT X (.UnaryOp .Not a pos) (tNot tA) := by
  intro pins s σ H Q I h
  exact isTrue_not (ha pins s σ H (fun c H1 => Q (!c) H1) I h)
/-- .. as values (bools) -/
def tAndV (ta tb : TE) : TE := fun σ H Q => ta σ H fun x H1 => ∃ c, x = .bl c ∧ if c = true then tb σ H1 Q else Q (.bl false) H1
def tOrV (ta tb : TE) : TE := fun σ H Q => ta σ H fun x H1 => ∃ c, x = .bl c ∧ if c = true then Q (.bl true) H1 else tb σ H1 Q
def tNotV (ta : TE) : TE := fun σ H Q => ta σ H fun x H1 => ∃ c, x = .bl c ∧ Q (.bl (!c)) H1
theorem pe_one {op} {t : TE} (h : PE X a t) : PE X (.BoolOp op [a] pos) t := fun pins s σ H Q I hw => BoolOp_one (h pins s σ H Q I hw)
theorem pe_and (ha : PE X a ta) (hb : PE X (.BoolOp .And (b :: rest) pos) tb) : PE X (.BoolOp .And (a :: b :: rest) pos) (tAndV ta tb) := by
  intro pins s σ H Q I h
  refine BoolOp_and (thn (ha pins s σ H _ I h) fun v s1 ⟨x, H1, I1, r1, q1⟩ => ?_)
  obtain ⟨c, rfl, q1⟩ := q1
  cases r1
  refine wpAny_truthy_bool ?_
  cases c with
  | true => exact hb pins s1 σ H1 Q I1 q1
  | false => exact ⟨.bl false, H1, I1, rfl, q1⟩
theorem pe_not (ha : PE X a ta) : PE X (.UnaryOp .Not a pos) (tNotV ta) := by
  intro pins s σ H Q I h
  refine UnaryOp_ (thn (ha pins s σ H _ I h) fun v s1 ⟨x, H1, I1, r1, q1⟩ => ?_)
  obtain ⟨c, rfl, q1⟩ := q1
  cases r1
  exact not_of (wpAny_truthy_bool ⟨.bl (!c), H1, I1, rfl, q1⟩)
/-- a if t else b -/
def tIf (t : TT) (ta tb : TE) : TE := fun σ H Q => t σ H fun c H1 => if c = true then ta σ H1 Q else tb σ H1 Q
theorem pe_ifExp {c : Expr} (hc : PT X c tA) (ha : PE X a ta) (hb : PE X b tb) : PE X (.IfExp c a b pos) (tIf tA ta tb) := by
  intro pins s σ H Q I h
  refine wpAny_IfExp (thn (hc pins s σ H _ I h) fun d s1 ⟨H1, I1, q1⟩ => ?_)
  cases d with
  | true => exact ha pins s1 σ H1 Q I1 q1
  | false => exact hb pins s1 σ H1 Q I1 q1
end
end L2

namespace L2
open PySem PySem.Spec PyProof.Rows

/-! ### a list, a tuple that is read: tracked, frozen, or an object of the module -/
def SqL (K : PySem.W.Frag) (H : Hp) (a : Addr) (xs : List V) : Prop :=
  Rd H a (.lst xs) ∨
    ∃ (o : Obj) (its : Array Value) (n : Nat), K.lookup a = some o ∧ o.cls = .type "list" ∧ o.dict = none ∧ o.data = .seq its n ∧ its.size ≤ sizeLine ∧ Vals xs its.toList
def SqT (K : PySem.W.Frag) (H : Hp) (a : Addr) (xs : List V) : Prop :=
  Rd H a (.tup xs) ∨
    ∃ (o : Obj) (its : Array Value) (n : Nat), K.lookup a = some o ∧ o.cls = .type "tuple" ∧ o.data = .seq its n ∧ its.size ≤ sizeLine ∧ Vals xs its.toList
def absV : Value → Option V
  | .none => some .non
  | .bool b => some (.bl b)
  | .int i _ => some (.int i)
  | .str x _ => some (.str x)
  | .bytes b _ => some (.byt b)
  | .float b _ => some (.flt b)
  | .ref a => some (.ref a)
  | .type n => some (.ty n)
  | _ => none
theorem RelV.abs {x : V} {u : Value} (r : RelV x u) : absV u = some x := by
  cases x with
  | non => cases r; rfl
  | bl _ => cases r; rfl
  | int _ => obtain ⟨t, rfl⟩ := r; rfl
  | str _ => obtain ⟨t, rfl⟩ := r; rfl
  | byt _ => obtain ⟨t, rfl⟩ := r; rfl
  | flt _ => obtain ⟨t, rfl⟩ := r; rfl
  | ref _ => cases r; rfl
  | ty _ => cases r; rfl
theorem RelV.inj {x y : V} {u : Value} (r : RelV x u) (q : RelV y u) : x = y := Option.some.inj (r.abs.symm.trans q.abs)
theorem Vals.inj : ∀ {xs ys : List V} {us : List Value}, Vals xs us → Vals ys us → xs = ys
  | _, _, _, .nil, .nil => rfl
  | _, _, _, .cons r t, .cons r' t' => by rw [r.inj r', Vals.inj t t']
section
variable {X : Cx} {pins : List (Addr × Obj)} {σ : St} {H : Hp} {s : Shared} {a : Addr} {xs ys : List V}
theorem SqL.of {K : PySem.W.Frag} (h : H a = some (.lst xs)) : SqL K H a xs := .inl (.inl h)
theorem SqT.of {K : PySem.W.Frag} (h : H a = some (.tup xs)) : SqT K H a xs := .inl (.inl h)
theorem Inv.list (I : Inv X pins σ H s) (h : SqL X.K H a xs) : ∃ its : List Value, Vals xs its ∧ PlainL s.heap a its.toArray ∧ xs.length ≤ sizeLine := by
  rcases h with h | ⟨o, its, n, hk, hc, hd, hs, hz, r⟩
  · obtain ⟨z, its, n, r, e⟩ := h.ok I.hok
    exact ⟨its, r, ⟨_, n, e, rfl, rfl, rfl⟩, z⟩
  · refine ⟨its.toList, r, ⟨o, n, I.kIn a o hk, hc, hd, by simpa using hs⟩, ?_⟩
    have e := r.length
    simp only [Array.length_toList] at e
    omega
theorem Inv.tuple (I : Inv X pins σ H s) (h : SqT X.K H a xs) : ∃ its : List Value, Vals xs its ∧ IsTup s.heap a its.toArray ∧ xs.length ≤ sizeLine := by
  rcases h with h | ⟨o, its, n, hk, hc, hs, hz, r⟩
  · obtain ⟨z, its, r, p⟩ := h.ok I.hok
    exact ⟨its, r, p, z⟩
  · refine ⟨its.toList, r, ⟨o, I.kIn a o hk, hc, n, by simpa using hs⟩, ?_⟩
    have e := r.length
    simp only [Array.length_toList] at e
    omega
theorem Inv.list_inj (I : Inv X pins σ H s) (h : SqL X.K H a xs) (h' : SqL X.K H a ys) : xs = ys := by
  obtain ⟨its, r, ⟨o, n, e, _, _, d⟩, _⟩ := I.list h
  obtain ⟨its', r', ⟨o', n', e', _, _, d'⟩, _⟩ := I.list h'
  rw [e] at e'; cases e'
  rw [d] at d'
  injection d' with d1 _
  have : its = its' := by simpa using congrArg Array.toList d1
  subst this
  exact r.inj r'
end

/-! ### another wish about exceptions -/
abbrev Cx.wish (X : Cx) (E : Value → Shared → Prop) : Cx := { X with xe := E }
/-- no exception leaves -/
abbrev Cx.nox (X : Cx) : Cx := X.wish fun _ _ => False
theorem Cx.Ok.wish {X : Cx} (ok : X.Ok) (E : Value → Shared → Prop) : (X.wish E).Ok :=
  ⟨ok.mod, ok.kind, ok.glob, ok.blt, ok.above, ok.inj, ok.has, ok.cab, ok.hd, ok.frames, ok.stk, ok.exf, ok.bs, ok.bsz, ok.noex, ok.exfs, ok.funs, ok.frf⟩
theorem Cx.Ok.unwish {X : Cx} {E : Value → Shared → Prop} (ok : (X.wish E).Ok) : X.Ok :=
  ⟨ok.mod, ok.kind, ok.glob, ok.blt, ok.above, ok.inj, ok.has, ok.cab, ok.hd, ok.frames, ok.stk, ok.exf, ok.bs, ok.bsz, ok.noex, ok.exfs, ok.funs, ok.frf⟩
section
variable {X : Cx} {pins : List (Addr × Obj)} {σ : St} {H : Hp} {s : Shared} {E : Value → Shared → Prop}
theorem Inv.wish (I : Inv X pins σ H s) (E : Value → Shared → Prop) : Inv (X.wish E) pins σ H s := ⟨I.ok.wish E, I.os, I.bare, I.base, I.loc, I.cell, I.free, I.freeC, I.pin, I.hok, I.len⟩
theorem Inv.unwish (I : Inv (X.wish E) pins σ H s) : Inv X pins σ H s := ⟨I.ok.unwish, I.os, I.bare, I.base, I.loc, I.cell, I.free, I.freeC, I.pin, I.hok, I.len⟩
theorem SP.unwish {D : Ends} {f : Flow} {s' : Shared} (h : SP (X.wish E) pins D f s') : SP X pins D f s' := by
  cases f with
  | next => obtain ⟨σ', H', I, q⟩ := h; exact ⟨σ', H', I.unwish, q⟩
  | brk => obtain ⟨σ', H', I, q⟩ := h; exact ⟨σ', H', I.unwish, q⟩
  | cont => obtain ⟨σ', H', I, q⟩ := h; exact ⟨σ', H', I.unwish, q⟩
  | ret u => obtain ⟨v, σ', H', I, r, q⟩ := h; exact ⟨v, σ', H', I.unwish, r, q⟩
theorem PSs.nox {st : List Stmt} {t : TS} (h : PSs X.nox st t) : PSs X st t := fun pins s σ H D I hw =>
  wpAny_mono (h pins s σ H D (I.wish _) hw) (fun _ _ q => q.unwish) fun _ _ z => False.elim z
end

/-! ### blocks and small statements -/
section
variable {X : Cx} {st : Stmt} {rest : List Stmt} {t u : TS} {e : Expr} {te : TE} {pos : Pos}
def tNext : TS := fun D σ H => D.nx σ H
def tSeq (t u : TS) : TS := fun D σ H => t { D with nx := u D } σ H
theorem pss_nil : PSs X [] tNext := fun _ _ σ H _ I h => wpAny_execs_nil ⟨σ, H, I, h⟩
theorem pss_cons (h1 : PS X st t) (h2 : PSs X rest u) : PSs X (st :: rest) (tSeq t u) := by
  intro pins s σ H D I h
  refine wpAny_execs_cons (thn (h1 pins s σ H { D with nx := u D } I h) fun f s1 q => ?_)
  cases f with
  | next =>
    obtain ⟨σ', H', I', q⟩ := q
    exact h2 pins s1 σ' H' D I' q
  | ret v => exact q
  | brk => exact q
  | cont => exact q
theorem pss_one (h1 : PS X st t) : PSs X [st] t := by
  intro pins s σ H D I h
  refine wpAny_execs_cons (thn (h1 pins s σ H D I h) fun f s1 q => ?_)
  cases f with
  | next => exact wpAny_execs_nil q
  | ret v => exact q
  | brk => exact q
  | cont => exact q
/-- in a def's body nothing is shown -/
theorem Inv.quiet {pins : List (Addr × Obj)} {σ : St} {H : Hp} {s : Shared} (I : Inv X pins σ H s) : interactive X.env = false := by simp [interactive, I.ok.kind]
/-- an expression whose value is dropped -/
def tDrop (te : TE) : TS := fun D σ H => te σ H fun _ H1 => D.nx σ H1
theorem ps_expr (he : PE X e te) (hs : swapsWith e none pos.line X.env = pure false := by rfl) : PS X (.Expr e pos) (tDrop te) := by
  intro pins s σ H D I h
  exact wpAny_Expr_any (thn (he pins s σ H _ I h) fun v s1 ⟨x, H1, I1, r1, q1⟩ => ⟨σ, H1, I1, q1⟩) I.quiet hs
def tRet (te : TE) : TS := fun D σ H => te σ H D.rt
theorem ps_ret (he : PE X e te) : PS X (.Return (some e) pos) (tRet te) := by
  intro pins s σ H D I h
  exact wpAny_Return_some (thn (he pins s σ H _ I h) fun v s1 ⟨x, H1, I1, r1, q1⟩ => ⟨x, σ, H1, I1, r1, q1⟩)
def tRetN : TS := fun D _ H => D.rt .non H
def tIfS (c : TT) (t u : TS) : TS := fun D σ H => c σ H fun b H1 => if b = true then t D σ H1 else u D σ H1
theorem ps_if {c : Expr} {a b : List Stmt} {tc : TT} (hc : PT X c tc) (ha : PSs X a t) (hb : PSs X b u) : PS X (.If c a b pos) (tIfS tc t u) := by
  intro pins s σ H D I h
  refine wpAny_If (thn (hc pins s σ H _ I h) fun d s1 ⟨H1, I1, q1⟩ => ?_)
  cases d with
  | true => exact ha pins s1 σ H1 D I1 q1
  | false => exact hb pins s1 σ H1 D I1 q1
end

/-! ### targets -/
abbrev TG := V → St → Hp → (St → Hp → Prop) → Prop
def PG (X : Cx) (target : Expr) (t : TG) : Prop :=
  ∀ (pins : List (Addr × Obj)) (s : Shared) (σ : St) (H : Hp) (v : V) (u : Value) (Q : St → Hp → Prop), Inv X pins σ H s → RelV v u → t v σ H Q →
    wpAny (model X.prog X.w) X.A (assign target X.env u) (fun _ s' => ∃ σ' H', Inv X pins σ' H' s' ∧ Q σ' H') X.xe s
section
variable {X : Cx} {pos : Pos}
def gName (i : Nat) : TG := fun v σ H Q => Q (σ.set i (some v)) H
theorem pg_name {i : Nat} {x : Str} (hN : X.N.Nodup) (hi : X.N[i]? = some x) (hx : Loc X.env.scope x) (hf : X.fn x = true ∨ X.env.scope.names.lookup x = some .local := by first | exact .inl rfl | exact .inr rfl | assumption) : PG X (.Name x pos) (gName i) := by
  intro pins s σ H v u Q I r h
  exact wpAny_assign_Name (store_ok I hN hi hx r (fun s' I' => ⟨_, H, I', h⟩) hf)
/-- target = value -/
def tAsg (te : TE) (g : TG) : TS := fun D σ H => te σ H fun x H1 => g x σ H1 D.nx
/-- name = value -/
theorem ps_set {i : Nat} {x : Str} {e : Expr} {te : TE} {pos' : Pos} (hN : X.N.Nodup) (hi : X.N[i]? = some x) (hx : Loc X.env.scope x) (he : PE X e te) (hs : swapsWith e (some (.Name x pos')) pos.line X.env = pure false := by rfl) (hf : X.fn x = true ∨ X.env.scope.names.lookup x = some .local := by first | exact .inl rfl | exact .inr rfl | assumption) :
    PS X (.Assign [.Name x pos'] e pos) (tAsg te (gName i)) := by
  intro pins s σ H D I h
  refine wpAny_Assign_Name (thn (he pins s σ H _ I h) fun v s1 ⟨y, H1, I1, r1, q1⟩ => ?_) hs
  exact store_ok I1 hN hi hx r1 (fun s2 I2 => ⟨_, H1, I2, q1⟩) hf
end

/-! ### while -/
section
variable {X : Cx} {pos : Pos}
end

/-! ### what a loop or a comprehension walks -/
/-- at turn i: it yields x (the heap may grow), or it stops -/
structure It where
  go : Nat → Hp → Prop
  yld : Nat → Hp → V → Hp → Prop
  stop : Nat → Hp → Prop
/-- the iterator's own objects may turn: they are not the frame's, not pinned, younger than the entry (or a comprehension's own) -/
def FpOk (X : Cx) (pins : List (Addr × Obj)) (H : Hp) (b : Addr) : Prop :=
  H b = none ∧ b ≠ X.env.locals ∧ b ∉ X.fs ∧ (b ∈ X.ex ∨ X.s₀.heap.objs.size ≤ b) ∧ (∀ x c, X.env.cells.lookup x = some c → c ≠ b) ∧ ∀ p ∈ X.pn ++ pins, p.1 ≠ b
theorem Inv.fpOk {X : Cx} {pins : List (Addr × Obj)} {σ : St} {H H' : Hp} {s : Shared} {b : Addr} (I : Inv X pins σ H s) (hb : s.heap.objs.size ≤ b) (hn : H' b = none) : FpOk X pins H' b := by
  refine ⟨hn, Nat.ne_of_gt (Nat.lt_of_lt_of_le I.lt hb), I.nofs hb, .inr (Nat.le_trans I.sz hb), fun x c e z => ?_, fun p hp z => ?_⟩
  · obtain ⟨v, q⟩ := I.cell x c e
    exact absurd (Nat.lt_of_lt_of_le q.lt (by rw [z]; exact hb)) (Nat.lt_irrefl _)
  · exact absurd (Nat.lt_of_lt_of_le (Heap.lt_size (I.pin p hp).1) (by rw [z]; exact hb)) (Nat.lt_irrefl _)
structure Turn (P : Program) (w : World) (K : PySem.W.Frag) (tg : Expr) (J : It) (fp : List Addr) (it : Addr) (tn : Nat → Heap → Prop) : Prop where
  mem : it ∈ fp
  obj : ∀ i h, tn i h → ∀ b ∈ fp, ∃ o, h.get? b = some o ∧ ∀ v, o.data ≠ .cell v
  keep : ∀ i h h', tn i h → (∀ b ∈ fp, ∀ o, h.get? b = some o → h'.get? b = some o) → tn i h'
  item : ∀ (X : Cx), X.prog = P → X.w = w → X.K = K → X.calm = true → ∀ (i : Nat) (pins : List (Addr × Obj)) (s : Shared) (σ : St) (H : Hp) (E : Value → Shared → Prop), Inv X pins σ H s → (∀ b ∈ fp, FpOk X pins H b) → tn i s.heap → J.go i H →
    wpAny (model P w) X.A (pyNext (.ref it)) (fun r s1 => ∃ u, r = some u ∧
      wpAny (model P w) X.A (letOwnedTupleGo tg (.ref it) u) (fun _ s2 => ∃ x H', Inv X pins σ H' s2 ∧ RelV x u ∧ J.yld i H x H' ∧ tn (i + 1) s2.heap ∧ ∀ b ∈ fp, H' b = none) E s1) E s
  done : ∀ (X : Cx), X.prog = P → X.w = w → X.K = K → X.calm = true → ∀ (i : Nat) (pins : List (Addr × Obj)) (s : Shared) (σ : St) (H : Hp) (E : Value → Shared → Prop), Inv X pins σ H s → (∀ b ∈ fp, FpOk X pins H b) → tn i s.heap → J.stop i H →
    wpAny (model P w) X.A (pyNext (.ref it)) (fun r s1 => r = none ∧ Inv X pins σ H s1) E s
  self : ∀ (A : Around) (i : Nat) (s : Shared) (Q : Value → Shared → Prop) (E : Value → Shared → Prop), tn i s.heap → Q (.ref it) s → wpAny (model P w) A (pyIter (.ref it)) Q E s
abbrev TI := St → Hp → (It → Hp → Prop) → Prop
/-- an iterator has come -/
def PIE (X : Cx) (pins : List (Addr × Obj)) (σ : St) (tg : Expr) (R : It → Hp → Prop) (itv : Value) (s2 : Shared) : Prop :=
  ∃ (it : Addr) (fp : List Addr) (tn : Nat → Heap → Prop) (J : It) (H' : Hp), itv = .ref it ∧ Inv X pins σ H' s2 ∧ Turn X.prog X.w X.K tg J fp it tn ∧ tn 0 s2.heap ∧ (∀ b ∈ fp, FpOk X pins H' b) ∧ R J H'
def PI (X : Cx) (tg iter : Expr) (wi : TI) : Prop :=
  ∀ (pins : List (Addr × Obj)) (s : Shared) (σ : St) (H : Hp) (R : It → Hp → Prop), Inv X pins σ H s → wi σ H R →
    wpAny (model X.prog X.w) X.A (eval iter X.env) (fun v s1 => wpAny (model X.prog X.w) X.A (pyIter v) (PIE X pins σ tg R) X.xe s1) X.xe s

/-- the step ahead of the store is nothing for an iterator that keeps no tuple -/
theorem go_of {M : Model} {A : Around} {E : Value → Shared → Prop} {s : Shared} {tg : Expr} {it : Addr} {u : Value} {o : Obj} {n : String} {vs : Array Value} {Q : Unit → Shared → Prop} (ho : s.heap.get? it = some o) (hc : o.cls = .type n) (hd : o.data = .fields vs)
    (hn : ["enumerate", "zip", "dict_itemiterator", "dict_reverseitemiterator", "odict_iterator", "itertools.zip_longest", "itertools.pairwise"].contains n = false) (hQ : Q () s) : wpAny M A (letOwnedTupleGo tg (.ref it) u) Q E s := by
  unfold letOwnedTupleGo
  cases tg <;> first
    | exact wpAny_pure hQ
    | (cases u <;> first
        | exact wpAny_pure hQ
        | (refine wpAny_bind (wpAny_load ho ?_)
           rw [hc, hd]
           show wpAny M A (if (["enumerate", "zip", "dict_itemiterator", "dict_reverseitemiterator", "odict_iterator", "itertools.zip_longest", "itertools.pairwise"].contains n && vs[0]? == some (rawInt _)) = true then _ else _) Q E s
           rw [if_neg (by intro h; rw [hn, Bool.false_and] at h; cases h)]
           exact wpAny_pure hQ))

/-- the list at a, as it stands at each turn (a loop may append to it) -/
def Itl (K : PySem.W.Frag) (a : Addr) : It :=
  ⟨fun i H => ∃ xs x, SqL K H a xs ∧ xs[i]? = some x, fun i H x H' => H' = H ∧ ∀ xs, SqL K H a xs → xs[i]? = some x, fun i H => ∃ xs, SqL K H a xs ∧ xs.length ≤ i⟩
/-- lo, lo + 1, .. (n of them) -/
def Itr (lo : Int) (n : Nat) : It := ⟨fun i _ => i < n, fun i H x H' => H' = H ∧ x = .int (lo + i), fun i _ => n ≤ i⟩
theorem turn_list {P : Program} {w : World} {K : PySem.W.Frag} {tg : Expr} (a it : Addr) : Turn P w K tg (Itl K a) [it] it (fun i h => h.IsListIter it a i) where
  mem := by simp
  obj := fun i h st b hb => by
    have e : b = it := by simpa using hb
    subst e
    obtain ⟨o, e, c, d⟩ := st
    exact ⟨o, e, fun v z => by rw [d] at z; cases z⟩
  keep := fun i h h' st k => st.at fun o e => k it (by simp) o e
  item := by
    intro X hP hw hK hc i pins s σ H E I hf st hg
    subst hP hw hK
    obtain ⟨xs, x, hq, hx⟩ := hg
    obtain ⟨its, rv, p, hz⟩ := I.list hq
    obtain ⟨u, hu, ru⟩ := rv.get hx
    obtain ⟨f0, f1, f2, f3, f4, f5⟩ := hf it (by simp)
    refine wpAny_pyNext_list_item st p.isList (x := u) (by simpa using hu) fun h' st' sb => ?_
    have I1 : Inv X pins σ H { s with heap := h' } := I.turned (t' := s.toks) (fun b o hb e => (sb.2 b hb).trans e) f0 f1 f3 f4 f5
    obtain ⟨o, e, c, d⟩ := id st'
    exact ⟨u, rfl, go_of (s := { s with heap := h' }) e c d (by decide) ⟨x, H, I1, ru, ⟨rfl, fun ys hy => by rw [I.list_inj hy hq]; exact hx⟩, st', fun b hb => (hf b hb).1⟩⟩
  done := by
    intro X hP hw hK hc i pins s σ H E I hf st hg
    subst hP hw hK
    obtain ⟨xs, hq, hx⟩ := hg
    obtain ⟨its, rv, p, hz⟩ := I.list hq
    obtain ⟨f0, f1, f2, f3, f4, f5⟩ := hf it (by simp)
    have hl := rv.length
    exact wpAny_pyNext_list_end (I.ok.hd hc) st p.isList (by simp; omega) fun h' eb => ⟨rfl, I.turned (t' := s.toks) (fun b o hb e => eb b o hb e) f0 f1 f3 f4 f5⟩
  self := fun _ _ _ _ _ st h => wpAny_pyIter_listiter st h
theorem turn_range {P : Program} {w : World} {K : PySem.W.Frag} {tg : Expr} (it : Addr) (lo : Int) (n : Nat) : Turn P w K tg (Itr lo n) [it] it (fun i h => IsRangeIter h it (lo + (i : Nat) * 1) ((n : Int) - (i : Nat)) 1) where
  mem := by simp
  obj := fun i h st b hb => by
    have e : b = it := by simpa using hb
    subst e
    exact ⟨_, st, fun v z => by
      have z' : Data.fields _ = Data.cell v := z
      cases z'⟩
  keep := fun i h h' st k => k it (by simp) _ st
  item := by
    intro X hP hw hK hc i pins s σ H E I hf st hg
    subst hP hw hK
    obtain ⟨f0, f1, f2, f3, f4, f5⟩ := hf it (by simp)
    have W := Walks.range (prog := X.prog) (w := X.w) (I.ok.hd hc) it lo 1 n
    refine W.item i s _ _ hg st fun v h' tk hv st' kk => ?_
    obtain ⟨t, rfl⟩ := hv
    have I1 : Inv X pins σ H { s with heap := h', toks := tk } := I.turned (fun b o hb e => kk b o (by simpa using hb) e) f0 f1 f3 f4 f5
    refine ⟨_, rfl, go_of (s := { s with heap := h', toks := tk }) (n := "range_iterator") st' rfl rfl (by decide) ⟨.int (lo + i), H, I1, ⟨t, ?_⟩, ⟨rfl, rfl⟩, st', fun b hb => (hf b hb).1⟩⟩
    rw [Int.mul_one]
  done := by
    intro X hP hw hK hc i pins s σ H E I hf st hg
    subst hP hw hK
    obtain ⟨f0, f1, f2, f3, f4, f5⟩ := hf it (by simp)
    exact wpAny_pyNext_range_end (I.ok.hd hc) st (by have : n ≤ i := hg; omega) fun h' eb => ⟨rfl, I.turned (t' := s.toks) (fun b o hb e => eb b o hb e) f0 f1 f3 f4 f5⟩
  self := fun _ _ _ _ _ st h => wpAny_pyIter_rangeiter st h
end L2

namespace L2
open PySem PySem.Spec PyProof.Rows
section
variable {X : Cx} {tg : Expr}
def iList (K : PySem.W.Frag) (tl : TE) : TI := fun σ H R => tl σ H fun x H1 => ∃ a, x = .ref a ∧ (∃ xs, SqL K H1 a xs) ∧ R (Itl K a) H1
theorem pi_list {l : Expr} {tl : TE} (hl : PE X l tl) : PI X tg l (iList X.K tl) := by
  intro pins s σ H R I h
  refine thn (hl pins s σ H _ I h) fun v s1 ⟨x, H1, I1, r1, q1⟩ => ?_
  obtain ⟨a, e, ⟨xs, hq⟩, q⟩ := q1
  subst e
  cases r1
  obtain ⟨its, rv, p, hz⟩ := I1.list hq
  refine wpAny_pyIter_list p.isList ?_
  refine ⟨s1.heap.objs.size, [s1.heap.objs.size], _, _, H1, rfl, I1.kept (t' := s1.toks) fun b o e => Heap.get?_push_of_some _ e, turn_list a _, ⟨_, Heap.get?_push_size _ rfl, rfl, rfl⟩, fun b hb => ?_, q⟩
  have e : b = s1.heap.objs.size := by simpa using hb
  subst e
  exact I1.fpOk (Nat.le_refl _) (I1.hok.fresh (Nat.le_refl _))
/-- a range object just made, walked -/
theorem range_it {pins : List (Addr × Obj)} {σ : St} {H : Hp} {s : Shared} {R : It → Hp → Prop} {E : Value → Shared → Prop} {lo hi : Int} {t u v : Tok} {tk : Nat} (I : Inv X pins σ H s) (h1 : -(2 ^ 62) ≤ lo) (h2 : lo < 2 ^ 62) (h3 : -(2 ^ 62) ≤ hi) (h4 : hi < 2 ^ 62)
    (q : R (Itr lo (hi - lo).toNat) H) : wpAny (model X.prog X.w) X.A (pyIter (.ref s.heap.objs.size)) (PIE X pins σ tg R) E { s with heap := s.heap.push { cls := .type "range", data := .fields #[.int lo t, .int hi u, .int 1 v] }, toks := tk } := by
  refine wpAny_pyIter_range (IsRange.new ..) (small_one h1 h2 h3 h4) ?_
  have I1 : Inv X pins σ H { s with heap := s.heap.push { cls := .type "range", data := .fields #[.int lo t, .int hi u, .int 1 v] }, toks := tk } := I.kept fun b o e => Heap.get?_push_of_some _ e
  refine ⟨(s.heap.push { cls := .type "range", data := .fields #[.int lo t, .int hi u, .int 1 v] }).objs.size, [(s.heap.push { cls := .type "range", data := .fields #[.int lo t, .int hi u, .int 1 v] }).objs.size], _, _, H, rfl,
    I1.kept (t' := tk) fun b o e => Heap.get?_push_of_some _ e, turn_range _ lo (hi - lo).toNat, ?_, fun b hb => ?_, q⟩
  · have e1 : lo + ((0 : Nat) : Int) * 1 = lo := by simp
    have e2 : (((hi - lo).toNat : Nat) : Int) - ((0 : Nat) : Int) = Builtin.Range.rangeSize lo hi 1 := by rw [rangeSize_one]; split <;> omega
    show IsRangeIter _ _ (lo + ((0 : Nat) : Int) * 1) ((((hi - lo).toNat : Nat) : Int) - ((0 : Nat) : Int)) 1
    rw [e1, e2]
    exact Heap.get?_push_size _ rfl
  · have e : b = (s.heap.push { cls := .type "range", data := .fields #[.int lo t, .int hi u, .int 1 v] }).objs.size := by simpa using hb
    subst e
    exact I1.fpOk (Nat.le_refl _) (I1.hok.fresh (Nat.le_refl _))
def iRng1 (ta : TA) : TI := fun σ H R => ta σ H fun vs H1 => ∃ j : Int, vs = [.int j] ∧ -(2 ^ 62) ≤ j ∧ j < 2 ^ 62 ∧ R (Itr 0 j.toNat) H1
theorem pi_range1 {a : Expr} {ta : TA} {p pos : Pos} (hg : Gl X "range") (hm : X.mg "range" = none) (ha : PA X [a] ta) (hs : starEach [a] X.env = [(false, eval a X.env)] := by rfl) : PI X tg (.Call (.Name "range" p) [a] [] pos) (iRng1 ta) := by
  intro pins s σ H R I h
  refine Call_ (ld_blt I hg hm boot_range (PyProof.Rows.callWith_type1 (thn (ha pos pins s σ H _ I h) fun us s1 ⟨vs, H1, I1, r1, q1⟩ => ?_) hs rfl))
  obtain ⟨j, e, q1, q2, q⟩ := q1
  subst e
  cases r1 with
  | cons r rr =>
    cases rr
    obtain ⟨t, rfl⟩ := r
    exact call_range_1 (range_it I1 (by omega) (by omega) q1 q2 (by simpa using q))
/-! ### for -/
/-- W: the invariant by the turn and a measure; N: what the body is to reach -/
def tFor (wi : TI) (g : TG) (tb : TS) : TS := fun D σ H => wi σ H fun J H1 => ∃ W : Nat → Nat → St → Hp → Prop, (∃ m, W 0 m σ H1) ∧ ∀ i m σ H, W i m σ H →
  (J.stop i H ∧ D.nx σ H) ∨ (J.go i H ∧ ∃ N : St → Hp → Prop, (∀ σ' H', N σ' H' → ∃ m', m' < m ∧ W (i + 1) m' σ' H') ∧ ∀ x H', J.yld i H x H' → g x σ H' fun σ2 H2 => tb { D with nx := N, ct := N, bk := D.nx } σ2 H2)
/-- the records at fp as they stand -/
def pinsAt (fp : List Addr) (h : Heap) : List (Addr × Obj) := fp.filterMap fun b => (h.get? b).map fun o => (b, o)
theorem mem_pinsAt {fp : List Addr} {h : Heap} {b : Addr} {o : Obj} (hb : b ∈ fp) (e : h.get? b = some o) : (b, o) ∈ pinsAt fp h := List.mem_filterMap.mpr ⟨b, hb, by rw [e]; rfl⟩
theorem of_pinsAt {fp : List Addr} {h : Heap} {p : Addr × Obj} (hp : p ∈ pinsAt fp h) : p.1 ∈ fp ∧ h.get? p.1 = some p.2 := by
  obtain ⟨b, hb, e⟩ := List.mem_filterMap.mp hp
  cases q : h.get? b with
  | none => rw [q] at e; cases e
  | some o =>
    rw [q] at e
    have e' : (b, o) = p := Option.some.inj e
    subst e'
    exact ⟨hb, q⟩
theorem Inv.pinned {pins : List (Addr × Obj)} {σ : St} {H : Hp} {s : Shared} {fp : List Addr} (I : Inv X pins σ H s) (hf : ∀ b ∈ fp, FpOk X pins H b) (ho : ∀ b ∈ fp, ∃ o, s.heap.get? b = some o ∧ ∀ v, o.data ≠ .cell v) : Inv X (pins ++ pinsAt fp s.heap) σ H s :=
  I.pins_of fun p hp => (List.mem_append.mp hp).elim (fun z => I.pin p (List.mem_append_right _ z)) fun z => by
    obtain ⟨hb, e⟩ := of_pinsAt z
    obtain ⟨f0, f1, f2, _⟩ := hf p.1 hb
    obtain ⟨o, e', d⟩ := ho p.1 hb
    rw [e] at e'; cases e'
    exact ⟨e, f0, f1, f2, d⟩
theorem Inv.unpinned {pins pl : List (Addr × Obj)} {σ : St} {H : Hp} {s : Shared} (I : Inv X (pins ++ pl) σ H s) : Inv X pins σ H s := I.pins_of fun p hp => I.pin p (List.mem_append_right _ (List.mem_append_left _ hp))
theorem ps_for {iter : Expr} {body : List Stmt} {wi : TI} {g : TG} {tb : TS} {pos : Pos} (hp : PassesOwn (model X.prog X.w) X.A X.env X.xe) (hc : X.calm = true) (hi : PI X tg iter wi) (hg : PG X tg g) (hb : PSs X body tb)
    (hs : ∀ x, foldedSetIterable iter X.env x = pure x := by intro _; rfl) : PS X (.For tg iter body [] pos) (tFor wi g tb) := by
  intro pins s σ H D I h
  refine wpAny_For (thn (hi pins s σ H _ I h) fun v s1 h1 => thn h1 fun itv s2 h2 => ?_) hs
  obtain ⟨it, fp, tn, J, H2, e, I2, T, st2, f2, W, ⟨m0, w0⟩, turn⟩ := h2
  subst e
  -- what stays true of the iterator's objects through the loop
  have stat : ∀ {H' : Hp}, (∀ b ∈ fp, H' b = none) → ∀ b ∈ fp, FpOk X pins H' b := fun hn b hb => ⟨hn b hb, (f2 b hb).2⟩
  refine codeAny_forLoop_any (fun n s' => ∃ i σ' H', Inv X pins σ' H' s' ∧ tn i s'.heap ∧ (∀ b ∈ fp, H' b = none) ∧ W i n σ' H') ?_ m0 ⟨0, σ, H2, I2, st2, fun b hb => (f2 b hb).1, w0⟩
  rintro n s3 ⟨i, σ3, H3, I3, st3, fr3, w3⟩
  rcases turn i n σ3 H3 w3 with ⟨stop, qn⟩ | ⟨go, N, hN, step⟩
  · refine wpAny_passesOwn hp (thn (T.done X rfl rfl rfl hc i pins s3 σ3 H3 X.xe I3 (stat fr3) st3 stop) fun r s4 ⟨hr, I4⟩ => ?_)
    subst hr
    exact wpAny_execs_nil ⟨σ3, H3, I4, qn⟩
  · refine wpAny_passesOwn hp (thn (T.item X rfl rfl rfl hc i pins s3 σ3 H3 X.xe I3 (stat fr3) st3 go) fun r s4 ⟨u, hr, h4⟩ => ?_)
    subst hr
    refine wpAny_passesOwn hp (thn h4 fun _ s5 ⟨x, H5, I5, r5, y5, st5, fr5⟩ => ?_)
    have I5' := I5.pinned (stat fr5) (T.obj _ _ st5)
    refine wpAny_passesOwn hp (thn (hg _ s5 σ3 H5 x u _ I5' r5 (step x H5 y5)) fun _ s6 ⟨σ6, H6, I6, q6⟩ => ?_)
    refine wpAny_passesOwn hp (thn (hb _ s6 σ6 H6 _ I6 q6) fun f s7 q7 => ?_)
    have again : ∀ {σ7 : St} {H7 : Hp}, Inv X (pins ++ pinsAt fp s5.heap) σ7 H7 s7 → N σ7 H7 → ∃ m, m < n ∧ ∃ i σ' H', Inv X pins σ' H' s7 ∧ tn i s7.heap ∧ (∀ b ∈ fp, H' b = none) ∧ W i m σ' H' := fun {σ7 H7} I7 n7 => by
      obtain ⟨m', hm, w7⟩ := hN σ7 H7 n7
      refine ⟨m', hm, i + 1, σ7, H7, I7.unpinned, T.keep _ _ _ st5 fun b hb o e => (I7.pin (b, o) (List.mem_append_right _ (List.mem_append_right _ (mem_pinsAt hb e)))).1, fun b hb => ?_, w7⟩
      obtain ⟨o, e, d⟩ := T.obj _ _ st5 b hb
      exact (I7.pin (b, o) (List.mem_append_right _ (List.mem_append_right _ (mem_pinsAt hb e)))).2.1
    cases f with
    | next => obtain ⟨σ7, H7, I7, n7⟩ := q7; exact again I7 n7
    | cont => obtain ⟨σ7, H7, I7, n7⟩ := q7; exact again I7 n7
    | brk => obtain ⟨σ7, H7, I7, q7⟩ := q7; exact ⟨σ7, H7, I7.unpinned, q7⟩
    | ret v => obtain ⟨x7, σ7, H7, I7, r7, q7⟩ := q7; exact ⟨x7, σ7, H7, I7.unpinned, r7, q7⟩
end

/-! ### the forms one uses -/
/-- over a list that the body leaves as it is -/
theorem for_list {K : PySem.W.Frag} {a : Addr} {xs : List V} {g : TG} {tb : TS} {D : Ends} {σ : St} {H : Hp} (Pv : Nat → St → Hp → Prop) (h0 : Pv 0 σ H) (hl : ∀ i σ H, i ≤ xs.length → Pv i σ H → SqL K H a xs)
    (hs : ∀ i x σ H, xs[i]? = some x → Pv i σ H → g x σ H fun σ2 H2 => tb { D with nx := Pv (i + 1), ct := Pv (i + 1), bk := D.nx } σ2 H2) (hd : ∀ σ H, Pv xs.length σ H → D.nx σ H) :
    ∃ W : Nat → Nat → St → Hp → Prop, (∃ m, W 0 m σ H) ∧ ∀ i m σ H, W i m σ H →
      ((Itl K a).stop i H ∧ D.nx σ H) ∨ ((Itl K a).go i H ∧ ∃ N : St → Hp → Prop, (∀ σ' H', N σ' H' → ∃ m', m' < m ∧ W (i + 1) m' σ' H') ∧ ∀ x H', (Itl K a).yld i H x H' → g x σ H' fun σ2 H2 => tb { D with nx := N, ct := N, bk := D.nx } σ2 H2) := by
  refine ⟨fun i m σ H => m = xs.length - i ∧ i ≤ xs.length ∧ Pv i σ H, ⟨xs.length, by simp, Nat.zero_le _, h0⟩, ?_⟩
  rintro i m σ H ⟨rfl, hi, p⟩
  have q := hl i σ H hi p
  by_cases hlt : i < xs.length
  · refine .inr ⟨⟨xs, xs[i], q, by simp [hlt]⟩, Pv (i + 1), fun σ' H' p' => ⟨xs.length - (i + 1), by omega, rfl, hlt, p'⟩, fun x H' y => ?_⟩
    obtain ⟨e, y⟩ := y
    subst e
    exact hs i x σ _ (y xs q) p
  · have e : i = xs.length := by omega
    subst e
    exact .inl ⟨⟨xs, q, Nat.le_refl _⟩, hd σ H p⟩
theorem for_range {lo : Int} {n : Nat} {g : TG} {tb : TS} {D : Ends} {σ : St} {H : Hp} (Pv : Nat → St → Hp → Prop) (h0 : Pv 0 σ H)
    (hs : ∀ i σ H, i < n → Pv i σ H → g (.int (lo + i)) σ H fun σ2 H2 => tb { D with nx := Pv (i + 1), ct := Pv (i + 1), bk := D.nx } σ2 H2) (hd : ∀ σ H, Pv n σ H → D.nx σ H) :
    ∃ W : Nat → Nat → St → Hp → Prop, (∃ m, W 0 m σ H) ∧ ∀ i m σ H, W i m σ H →
      ((Itr lo n).stop i H ∧ D.nx σ H) ∨ ((Itr lo n).go i H ∧ ∃ N : St → Hp → Prop, (∀ σ' H', N σ' H' → ∃ m', m' < m ∧ W (i + 1) m' σ' H') ∧ ∀ x H', (Itr lo n).yld i H x H' → g x σ H' fun σ2 H2 => tb { D with nx := N, ct := N, bk := D.nx } σ2 H2) := by
  refine ⟨fun i m σ H => m = n - i ∧ i ≤ n ∧ Pv i σ H, ⟨n, by simp, Nat.zero_le _, h0⟩, ?_⟩
  rintro i m σ H ⟨rfl, hi, p⟩
  by_cases hlt : i < n
  · refine .inr ⟨hlt, Pv (i + 1), fun σ' H' p' => ⟨n - (i + 1), by omega, rfl, hlt, p'⟩, fun x H' y => ?_⟩
    obtain ⟨e, y⟩ := y
    subst e y
    exact hs i σ _ hlt p
  · have e : i = n := by omega
    subst e
    exact .inl ⟨Nat.le_refl _, hd σ H p⟩
end L2

namespace L2
open PySem PySem.Spec PyProof.Rows

abbrev R2 := V → V → Hp → VK → Prop
/-- a two-place operation on values: f is binaryOp op, inplaceOp op or compareOp op -/
def OpR (X : Cx) (f : Value → Value → Sem Value) (r : R2) : Prop :=
  ∀ (pins : List (Addr × Obj)) (s : Shared) (σ : St) (H : Hp) (x y : V) (v u : Value) (Q : VK), Inv X pins σ H s → RelV x v → RelV y u → r x y H Q →
    wpAny (model X.prog X.w) X.A (f v u) (EP X pins σ Q) X.xe s
/-- a call of a value that is known (a builtin, a type) with values -/
def CallR (X : Cx) (f : Value) (r : List V → Hp → VK → Prop) : Prop :=
  ∀ (pins : List (Addr × Obj)) (s : Shared) (σ : St) (H : Hp) (xs : List V) (us : List Value) (Q : VK), Inv X pins σ H s → Vals xs us → r xs H Q →
    wpAny (model X.prog X.w) X.A (call f us) (EP X pins σ Q) X.xe s
def tOp (r : R2) (ta tb : TE) : TE := fun σ H Q => ta σ H fun x H1 => tb σ H1 fun y H2 => r x y H2 Q
def tUn (r : V → Hp → VK → Prop) (ta : TE) : TE := fun σ H Q => ta σ H fun x H1 => r x H1 Q
/-- ints in, under C, and a value out -/
def rI (C : Int → Int → Prop) (g : Int → Int → V) : R2 := fun x y H Q => ∃ i j, x = .int i ∧ y = .int j ∧ C i j ∧ Q (g i j) H
def rI0 (g : Int → Int → V) : R2 := fun x y H Q => ∃ i j, x = .int i ∧ y = .int j ∧ Q (g i j) H
section
variable {X : Cx} {a b c : Expr} {ta tb tc : TE} {pos : Pos}

theorem binT (ha : PE X a ta) (hb : PE X b tb) {pins : List (Addr × Obj)} {s : Shared} {σ : St} {H : Hp} {R : V → V → Hp → Prop} (I : Inv X pins σ H s)
    (h : ta σ H fun x H1 => tb σ H1 fun y H2 => R x y H2) {Q : Value → Shared → Prop} {f : Value → Value → Sem Value}
    (hf : ∀ v u s2 x y H2, Inv X pins σ H2 s2 → RelV x v → RelV y u → R x y H2 → wpAny (model X.prog X.w) X.A (f v u) Q X.xe s2) :
    wpAny (model X.prog X.w) X.A (eval a X.env) (fun v s₁ => wpAny (model X.prog X.w) X.A (eval b X.env) (fun u s₂ => wpAny (model X.prog X.w) X.A (f v u) Q X.xe s₂) X.xe s₁) X.xe s := by
  refine thn (ha pins s σ H _ I h) fun v s1 ⟨x, H1, I1, r1, q1⟩ => ?_
  refine thn (hb pins s1 σ H1 _ I1 q1) fun u s2 ⟨y, H2, I2, r2, q2⟩ => ?_
  exact hf v u s2 x y H2 I2 r1 r2 q2

theorem pe_op {op : Operator} {r : R2} (ho : OpR X (binaryOp op) r) (ha : PE X a ta) (hb : PE X b tb) : PE X (.BinOp a op b pos) (tOp r ta tb) := by
  intro pins s σ H Q I h
  exact wpAny_BinOp (binT ha hb I h fun v u s2 x y H2 I2 rx ry q => ho pins s2 σ H2 x y v u Q I2 rx ry q)
/-! ### ints -/
theorem opI {f : Value → Value → Sem Value} {C : Int → Int → Prop} {g : Int → Int → Int}
    (rule : ∀ (i j : Int) (t u : Tok) (s : Shared) (Q : Value → Shared → Prop) (E : Value → Shared → Prop), C i j → Q (.int (g i j) s.toks) { s with toks := s.toks + 1 } → wpAny (model X.prog X.w) X.A (f (.int i t) (.int j u)) Q E s) :
    OpR X f (rI C fun i j => .int (g i j)) := by
  intro pins s σ H x y v u Q I rx ry h
  obtain ⟨i, j, rfl, rfl, hc, q⟩ := h
  obtain ⟨t, rfl⟩ := rx
  obtain ⟨t', rfl⟩ := ry
  exact rule i j t t' s _ _ hc ⟨.int (g i j), H, I.tok _, ⟨_, rfl⟩, q⟩
theorem opI0 {f : Value → Value → Sem Value} {g : Int → Int → Int}
    (rule : ∀ (i j : Int) (t u : Tok) (s : Shared) (Q : Value → Shared → Prop) (E : Value → Shared → Prop), Q (.int (g i j) s.toks) { s with toks := s.toks + 1 } → wpAny (model X.prog X.w) X.A (f (.int i t) (.int j u)) Q E s) :
    OpR X f (rI0 fun i j => .int (g i j)) := by
  intro pins s σ H x y v u Q I rx ry h
  obtain ⟨i, j, rfl, rfl, q⟩ := h
  obtain ⟨t, rfl⟩ := rx
  obtain ⟨t', rfl⟩ := ry
  exact rule i j t t' s _ _ ⟨.int (g i j), H, I.tok _, ⟨_, rfl⟩, q⟩
theorem opB0 {f : Value → Value → Sem Value} {g : Int → Int → Bool}
    (rule : ∀ (i j : Int) (t u : Tok) (s : Shared) (Q : Value → Shared → Prop) (E : Value → Shared → Prop), Q (.bool (g i j)) s → wpAny (model X.prog X.w) X.A (f (.int i t) (.int j u)) Q E s) :
    OpR X f (rI0 fun i j => .bl (g i j)) := by
  intro pins s σ H x y v u Q I rx ry h
  obtain ⟨i, j, rfl, rfl, q⟩ := h
  obtain ⟨t, rfl⟩ := rx
  obtain ⟨t', rfl⟩ := ry
  exact rule i j t t' s _ _ ⟨.bl (g i j), H, I, rfl, q⟩

def CDiv (i j : Int) : Prop := 0 < j ∧ j < 1073741824
def CPow (i j : Int) : Prop := 0 ≤ j ∧ j ≤ 1000000 ∧ i.natAbs < 2 ^ 64
def CMul (i j : Int) : Prop := (-(2 ^ 64) < i ∧ i < 2 ^ 64) ∨ (-(2 ^ 64) < j ∧ j < 2 ^ 64)
theorem CMul.ok {i j : Int} (h : CMul i j) : IntMulOk i j := by
  rcases h with ⟨h1, h2⟩ | ⟨h1, h2⟩
  · exact .of_left (intBits_le_64 h1 h2)
  · exact .of_right (intBits_le_64 h1 h2)
theorem op_add : OpR X (binaryOp .Add) (rI0 fun i j => .int (i + j)) := opI0 fun _ _ _ _ _ _ _ q => add_int q
theorem op_sub : OpR X (binaryOp .Sub) (rI0 fun i j => .int (i - j)) := opI0 fun _ _ _ _ _ _ _ q => sub_int q
theorem op_mul : OpR X (binaryOp .Mult) (rI CMul fun i j => .int (i * j)) := opI fun _ _ _ _ _ _ _ hc q => mul_int q hc.ok
/-- // by a positive divisor -/
theorem op_fdiv : OpR X (binaryOp .FloorDiv) (rI CDiv fun i j => .int (i / j)) := opI fun i j _ _ _ _ _ hc q => by
  have h1 : (0 : Int) < j := hc.1
  have h2 : j < 1073741824 := hc.2
  exact floordiv_int (by omega) (by rw [Int.fdiv_eq_ediv_of_nonneg i (by omega)]; exact q) (.inl (PyProof.noPylong_small (by omega)))
/-- % by a positive divisor of any size -/
theorem op_mod : OpR X (binaryOp .Mod) (rI (fun _ j => 0 < j) fun i j => .int (i % j)) := opI fun i j _ _ _ _ _ hc q => by
  have h1 : (0 : Int) < j := hc
  exact mod_int' (by omega) (by rw [Int.fmod_eq_emod_of_nonneg i (by omega)]; exact q)
theorem op_pow : OpR X (binaryOp .Pow) (rI CPow fun i j => .int (i ^ j.toNat)) := opI fun _ _ _ _ _ _ _ hc q => pow_int_small hc.1 hc.2.1 hc.2.2 q
/-! ### bools among ints: n += (a < b) -/
end

/-! ### comparisons -/
/-- the scalars that == tells apart as data does -/
def scal : V → V → Bool
  | .non, .non => true | .non, .int _ => true | .int _, .non => true | .non, .bl _ => true | .bl _, .non => true | .non, .str _ => true | .str _, .non => true
  | .int _, .int _ => true | .bl _, .bl _ => true | .str _, .str _ => true | .byt _, .byt _ => true
  | .int _, .str _ => true | .str _, .int _ => true | .bl _, .str _ => true | .str _, .bl _ => true
  | _, _ => false
def rEq : R2 := fun x y H Q => scal x y = true ∧ Q (.bl (decide (x = y))) H
def rNe : R2 := fun x y H Q => scal x y = true ∧ Q (.bl (!decide (x = y))) H

theorem dec_int {i j : Int} : decide (V.int i = V.int j) = (i == j) := by
  rw [Bool.eq_iff_iff]
  simp
theorem dec_bl {i j : Bool} : decide (V.bl i = V.bl j) = (i == j) := by
  rw [Bool.eq_iff_iff]
  simp
theorem dec_str {i j : Str} : decide (V.str i = V.str j) = (i == j) := by
  rw [Bool.eq_iff_iff]
  simp
theorem dec_byt {i j : Array UInt8} : decide (V.byt i = V.byt j) = (i.toList == j.toList) := by
  rw [Bool.eq_iff_iff]
  cases i
  cases j
  simp

section
variable {X : Cx} {a b c : Expr} {ta tb tc : TE} {pos : Pos}
theorem fin_bl {pins : List (Addr × Obj)} {σ : St} {H : Hp} {s : Shared} {Q : VK} {k k' : Bool} (I : Inv X pins σ H s) (q : Q (.bl k) H) (e : k = k') : EP X pins σ Q (.bool k') s := by
  subst e
  exact ⟨.bl k, H, I, rfl, q⟩
theorem op_eq : OpR X (compareOp .Eq) rEq := by
  intro pins s σ H x y v u Q I rx ry h
  obtain ⟨hs, q⟩ := h
  cases x with
  | non =>
    cases rx
    cases y with
    | non => cases ry; exact PySem.EqNone.eq_none_none (fin_bl I q (by simp))
    | bl j => cases ry; exact PySem.EqNone.eq_none_bool (fin_bl I q (by simp))
    | int j => obtain ⟨t', rfl⟩ := ry; exact PySem.EqNone.eq_none_int (fin_bl I q (by simp))
    | str j => obtain ⟨t', rfl⟩ := ry; exact PySem.EqNone.eq_none_str (fin_bl I q (by simp))
    | _ => exact absurd (show false = true from hs) Bool.false_ne_true
  | bl i =>
    cases rx
    cases y with
    | non => cases ry; exact PySem.EqNone.eq_bool_none (fin_bl I q (by simp))
    | bl j => cases ry; exact eq_bool (fin_bl I q dec_bl)
    | str j => obtain ⟨t', rfl⟩ := ry; exact PySem.EqMixed.eq_bool_str (fin_bl I q (by simp))
    | _ => exact absurd (show false = true from hs) Bool.false_ne_true
  | int i =>
    obtain ⟨t, rfl⟩ := rx
    cases y with
    | non => cases ry; exact PySem.EqNone.eq_int_none (fin_bl I q (by simp))
    | int j => obtain ⟨t', rfl⟩ := ry; exact eq_int (fin_bl I q dec_int)
    | str j => obtain ⟨t', rfl⟩ := ry; exact PySem.EqMixed.eq_int_str (fin_bl I q (by simp))
    | _ => exact absurd (show false = true from hs) Bool.false_ne_true
  | str i =>
    obtain ⟨t, rfl⟩ := rx
    cases y with
    | non => cases ry; exact PySem.EqNone.eq_str_none (fin_bl I q (by simp))
    | bl j => cases ry; exact PySem.EqMixed.eq_str_bool (fin_bl I q (by simp))
    | int j => obtain ⟨t', rfl⟩ := ry; exact PySem.EqMixed.eq_str_int (fin_bl I q (by simp))
    | str j => obtain ⟨t', rfl⟩ := ry; exact eq_str (fin_bl I q dec_str)
    | _ => exact absurd (show false = true from hs) Bool.false_ne_true
  | byt i =>
    obtain ⟨t, rfl⟩ := rx
    cases y with
    | byt j => obtain ⟨t', rfl⟩ := ry; exact PySem.W.eq_bytes (fin_bl I q dec_byt)
    | _ => exact absurd (show false = true from hs) Bool.false_ne_true
  | _ => cases y <;> exact absurd (show false = true from hs) Bool.false_ne_true
theorem op_ne : OpR X (compareOp .NotEq) rNe := by
  intro pins s σ H x y v u Q I rx ry h
  obtain ⟨hs, q⟩ := h
  cases x with
  | non =>
    cases rx
    cases y with
    | non => cases ry; exact PySem.EqNone.ne_none_none (fin_bl I q (by simp))
    | bl j => cases ry; exact PySem.EqNone.ne_none_bool (fin_bl I q (by simp))
    | int j => obtain ⟨t', rfl⟩ := ry; exact PySem.EqNone.ne_none_int (fin_bl I q (by simp))
    | str j => obtain ⟨t', rfl⟩ := ry; exact PySem.EqNone.ne_none_str (fin_bl I q (by simp))
    | _ => exact absurd (show false = true from hs) Bool.false_ne_true
  | bl i =>
    cases rx
    cases y with
    | non => cases ry; exact PySem.EqNone.ne_bool_none (fin_bl I q (by simp))
    | bl j => cases ry; exact ne_bool (fin_bl I q (congrArg not dec_bl))
    | str j => obtain ⟨t', rfl⟩ := ry; exact PySem.EqMixed.ne_bool_str (fin_bl I q (by simp))
    | _ => exact absurd (show false = true from hs) Bool.false_ne_true
  | int i =>
    obtain ⟨t, rfl⟩ := rx
    cases y with
    | non => cases ry; exact PySem.EqNone.ne_int_none (fin_bl I q (by simp))
    | int j => obtain ⟨t', rfl⟩ := ry; exact ne_int (fin_bl I q (congrArg not dec_int))
    | str j => obtain ⟨t', rfl⟩ := ry; exact PySem.EqMixed.ne_int_str (fin_bl I q (by simp))
    | _ => exact absurd (show false = true from hs) Bool.false_ne_true
  | str i =>
    obtain ⟨t, rfl⟩ := rx
    cases y with
    | non => cases ry; exact PySem.EqNone.ne_str_none (fin_bl I q (by simp))
    | bl j => cases ry; exact PySem.EqMixed.ne_str_bool (fin_bl I q (by simp))
    | int j => obtain ⟨t', rfl⟩ := ry; exact PySem.EqMixed.ne_str_int (fin_bl I q (by simp))
    | str j => obtain ⟨t', rfl⟩ := ry; exact ne_str (fin_bl I q (congrArg not dec_str))
    | _ => exact absurd (show false = true from hs) Bool.false_ne_true
  | byt i =>
    obtain ⟨t, rfl⟩ := rx
    cases y with
    | byt j => obtain ⟨t', rfl⟩ := ry; exact PySem.W.ne_bytes (fin_bl I q (congrArg not dec_byt))
    | _ => exact absurd (show false = true from hs) Bool.false_ne_true
  | _ => cases y <;> exact absurd (show false = true from hs) Bool.false_ne_true

theorem op_lt : OpR X (compareOp .Lt) (rI0 fun i j => .bl (decide (i < j))) := opB0 fun _ _ _ _ _ _ _ q => lt_int q
theorem op_le : OpR X (compareOp .LtE) (rI0 fun i j => .bl (decide (i ≤ j))) := opB0 fun _ _ _ _ _ _ _ q => le_int q
theorem op_gt : OpR X (compareOp .Gt) (rI0 fun i j => .bl (decide (j < i))) := opB0 fun _ _ _ _ _ _ _ q => gt_int q
theorem op_ge : OpR X (compareOp .GtE) (rI0 fun i j => .bl (decide (j ≤ i))) := opB0 fun _ _ _ _ _ _ _ q => ge_int q
/-- is None, is not None: the right side a value none -/
theorem op_isN : OpR X (compareOp .Is) (fun x y H Q => y = .non ∧ Q (.bl (decide (x = .non))) H) := by
  intro pins s σ H x y v u Q I rx ry h
  obtain ⟨rfl, q⟩ := h
  cases ry
  refine is_none_gen (fin_bl I q ?_)
  cases x <;> first
    | (cases rx; rfl)
    | (obtain ⟨t, rfl⟩ := rx; rfl)
/-- two rules for one operation: by cases -/
theorem OpR.or {f : Value → Value → Sem Value} {r r' : R2} (h : OpR X f r) (h' : OpR X f r') : OpR X f (fun x y H Q => r x y H Q ∨ r' x y H Q) := by
  intro pins s σ H x y v u Q I rx ry q
  rcases q with q | q
  · exact h pins s σ H x y v u Q I rx ry q
  · exact h' pins s σ H x y v u Q I rx ry q

theorem nomark (b : Expr) {op : CmpOp} (h : op ≠ .In := by decide) (h2 : op ≠ .NotIn := by decide) : behindInMarks op b = false := by
  have e1 : (op == CmpOp.In) = false := by cases op <;> first | rfl | exact absurd rfl h
  have e2 : (op == CmpOp.NotIn) = false := by cases op <;> first | rfl | exact absurd rfl h2
  cases b <;> simp [behindInMarks, e1, e2]
/-- a comparison as a value; hm: nomark b, or (for in, not in) by with_unfolding_all rfl -/
theorem pe_cmpR {op : CmpOp} {r : R2} (ho : OpR X (compareOp op) r) (ha : PE X a ta) (hb : PE X b tb) (hm : behindInMarks op b = false) : PE X (.Compare a [op] [b] pos) (tOp r ta tb) := by
  intro pins s σ H Q I h
  exact wpAny_Compare1 (binT ha hb I h fun v u s2 x y H2 I2 rx ry q => ho pins s2 σ H2 x y v u Q I2 rx ry q) hm
/-- a reading of a value as a test -/
def tTest (t : TE) : TT := fun σ H Q => t σ H fun x H' => ∃ k, x = .bl k ∧ Q k H'
theorem pt_cmpR {op : CmpOp} {r : R2} (ho : OpR X (compareOp op) r) (ha : PE X a ta) (hb : PE X b tb) (hm : behindInMarks op b = false) : PT X (.Compare a [op] [b] pos) (tTest (tOp r ta tb)) := by
  intro pins s σ H Q I h
  refine wpAny_isTrue_Compare1 (thn (ha pins s σ H _ I h) fun v s1 ⟨x, H1, I1, r1, q1⟩ => thn (hb pins s1 σ H1 _ I1 q1) fun u s2 ⟨y, H2, I2, r2, q2⟩ =>
    thn (ho pins s2 σ H2 x y v u _ I2 r1 r2 q2) fun c s3 ⟨z, H3, I3, r3, k, e, q3⟩ => ?_) hm
  subst e
  cases r3
  exact wpAny_truthy_bool ⟨H3, I3, q3⟩
/-! ### truth -/
theorem line63 : (sizeLine : Nat) < 2 ^ 63 := by rw [sizeLine_eq]; decide
/-! ### strs and bytes -/
theorem op_add_str : OpR X (binaryOp .Add) (fun x y H Q => ∃ i j, x = .str i ∧ y = .str j ∧ i.length + j.length ≤ sizeLine ∧ Q (.str (i ++ j)) H) := by
  intro pins s σ H x y v u Q I rx ry h
  obtain ⟨i, j, rfl, rfl, hz, q⟩ := h
  obtain ⟨t, rfl⟩ := rx
  obtain ⟨t', rfl⟩ := ry
  exact add_str (fun t' tk => ⟨.str (i ++ j), H, I.tok _, ⟨_, rfl⟩, q⟩) hz
/-! ### scalar builtins, by CallR -/
theorem vals1 {x : V} {us : List Value} (r : Vals [x] us) : ∃ u, us = [u] ∧ RelV x u := by
  cases r with
  | cons r1 r2 => cases r2; exact ⟨_, rfl, r1⟩
theorem vals2 {x y : V} {us : List Value} (r : Vals [x, y] us) : ∃ u w', us = [u, w'] ∧ RelV x u ∧ RelV y w' := by
  cases r with
  | cons r1 r2 =>
    cases r2 with
    | cons r3 r4 => cases r4; exact ⟨_, _, rfl, r1, r3⟩
theorem call_min2 (hc : X.calm = true) : CallR X (.builtin "min") (fun xs H Q => ∃ i j, xs = [.int i, .int j] ∧ Q (.int (if j < i then j else i)) H) := by
  intro pins s σ H xs us Q I r h
  obtain ⟨i, j, rfl, q⟩ := h
  obtain ⟨u, w', rfl, ⟨t, rfl⟩, ⟨t', rfl⟩⟩ := vals2 r
  refine min_two_ints (I.ok.hd hc) fun h' tk k => ⟨_, H, I.kept k, ?_, q⟩
  by_cases hj : j < i
  · rw [if_pos hj, if_pos hj]; exact ⟨_, rfl⟩
  · rw [if_neg hj, if_neg hj]; exact ⟨_, rfl⟩
end
end L2

namespace L2
open PySem PySem.Spec PyProof.Rows

/-! ### an instance, its attributes a map -/
structure ObjM (h : Heap) (x dx C : Addr) (mA : Str → Option Value) : Prop where
  obj : h.get? x = some (PySem.W.instObj C dx)
  ns : h.Ns1 dx mA
  ne : dx ≠ x

theorem lookIn_ns {h : Heap} {dx : Addr} {mA : Str → Option Value} (n : h.Ns1 dx mA) : ∃ od, h.get? dx = some od ∧ ∀ name, PySem.W.lookIn name od = some (mA name) := by
  obtain ⟨o, es, ep, ho, hd, hk, _, hm⟩ := n
  refine ⟨o, ho, fun name => ?_⟩
  have e := hm name
  unfold nsFind findBy at e
  rw [← Array.find?_toList] at e
  unfold PySem.W.lookIn
  rw [hd]
  dsimp only
  split
  · rename_i y q
    rw [q] at e
    exact congrArg some e
  · rename_i q
    rw [q] at e
    have a : es.toList.any (·.refKey) = false := by
      rw [List.any_eq_false]
      intro y hy
      obtain ⟨z, t, hkey⟩ := hk y (Array.mem_toList_iff.mp hy)
      simp [DictEntry.refKey, hkey]
    have a' : ¬ es.toList.any (·.refKey) = true := by rw [a]; exact Bool.false_ne_true
    rw [if_neg a']
    exact congrArg some e

theorem ObjM.look {h : Heap} {x dx C : Addr} {mA : Str → Option Value} (I : ObjM h x dx C mA) : ∃ od, PySem.W.InstAt h x (PySem.W.instObj C dx) C (some od) ∧ ∀ name, PySem.W.lookIn name od = some (mA name) :=
  let ⟨od, ho, hl⟩ := lookIn_ns I.ns
  ⟨od, ⟨I.obj, rfl, rfl, ho⟩, hl⟩

section
variable {prog : Program} {w : World} {A : Around} {E : Value → Shared → Prop} {s : Shared} {K : PySem.W.Frag} {x dx C f : Addr} {mA : Str → Option Value} {name : Str} {v : Value}

theorem get_map {expr : Bool} {Q : Value → Shared → Prop} (X : K.In s.heap) (I : ObjM s.heap x dx C mA) (hg : PySem.W.plainGet K C name = true) (hh : PySem.W.hasDictIn K C = true)
    (ha : PySem.W.findIn K (.ref C) name = some none) (hv : mA name = some v) (hv' : PySem.W.handedIn v = true) (h : Q v { s with toks := s.toks + 1 }) :
    wpAny (model prog w) A (getAttr (.ref x) name expr) Q E s := by
  obtain ⟨od, J, hl⟩ := I.look
  exact PySem.W.get_value X J (PySem.W.plainGet_of hg).1 (PySem.W.findObj_own hh ha rfl (by rw [hl, hv])) hv' h

theorem get_meth {pl : Sem Bool} {Q : Value × List Value → Shared → Prop} (X : K.In s.heap) (I : ObjM s.heap x dx C mA) (hg : PySem.W.plainGet K C name = true)
    (hf : PySem.W.findIn K (.ref C) name = some (some (.ref f))) (ht : PySem.W.isFn K (.ref f) = true) (hv : mA name = none) (h : Q (.ref f, [.ref x]) s) :
    wpAny (model prog w) A (getMethod (.ref x) name pl) Q E s := by
  obtain ⟨od, J, hl⟩ := I.look
  exact PySem.W.method_fn X J (PySem.W.plainGet_of hg).1 (PySem.W.plainGet_of hg).2 hf (beq_iff_eq.mp ht) (by show (PySem.W.lookIn name od).map (·.isSome) = some false; rw [hl, hv]; rfl) h

theorem set_map {ns : List Str} {Q : Unit → Shared → Prop} (X : K.In s.heap) (I : ObjM s.heap x dx C mA)
    (hs : PySem.W.findIn K (.ref C) "__setattr__" = some (some (.builtin "object.__setattr__"))) (hp : PySem.W.plainOver K C = true) (ht : PySem.W.takerIn K C name = some none) (hh : PySem.W.hasDictIn K C = true)
    (hw : PySem.Within mA ns) (hsz : ns.length ≤ sizeLine)
    (h : ∀ h', ObjM h' x dx C (fun y => if y = name then some v else mA y) → Heap.SameBut dx s.heap h' → Q () { s with heap := h', toks := s.toks + 2 }) :
    wpAny (model prog w) A (setAttr (.ref x) name v) Q E s := by
  obtain ⟨od, J, hl⟩ := I.look
  refine PySem.W.set_plain X J hs (PySem.W.osa_open (s := { s with toks := s.toks + 1 }) (r := none) X J hp ht fun b => ?_)
  obtain ⟨cd, hc, hd'⟩ := PySem.W.any_some hh
  have hx : s.heap.get? x = some ⟨.ref C, some dx, .plain, #[]⟩ := I.obj
  refine wpAny_bind (wpAny_pure (wpAny_bind (wpAny_bind (wpAny_loadPart hx (wpAny_bind (PySem.W.Looks.here (s := { s with toks := s.toks + 1 }) (PySem.W.looks_clsIn X hc) ?_))))))
  rw [hd']
  refine wpAny_pure (a := some dx) (wpAny_bind (wpAny_pure (wpAny_bind ?_)))
  refine wpAny_nsSet1 (s := { s with toks := s.toks + 1 }) I.ns fun h' hn2 hs2 => ?_
  obtain ⟨oD, esD, epD, hoD, hdD, hcD⟩ := hn2.count (PySem.Within.cons name v hw)
  refine wpAny_bind (wpAny_lookBehind hoD (by rw [hdD]; exact pastItsLine_dict (Nat.le_trans hcD (by rw [List.length_cons]; omega))) ?_)
  exact wpAny_pure (h _ ⟨(hs2.2 _ (Ne.symm I.ne)).trans I.obj, hn2, I.ne⟩ hs2)

/-- C(..): the dict at the heap's end, the instance behind it; then its __init__ -/
theorem make_map {R : Result → Shared → Prop} {vs : List Value} {kw : List (Str × Value)} (X : K.In s.heap) (hm : PySem.W.makesIn K C = true)
    (hi : PySem.W.findIn K (.ref C) "__init__" = some (some (.ref f))) (hf : PySem.W.typeIn K (.ref f) = some (.type "function"))
    (h : codeAny (model prog w) (A.under (.builtin "type.__call__" ⟨.ref C :: vs, kw⟩)) (.call (.ref f) ⟨.ref (s.heap.objs.size + 1) :: vs, kw⟩) (PySem.W.InitBack (s.heap.objs.size + 1) R)
      { s with heap := (s.heap.push PySem.W.emptyDict).push (PySem.W.instObj C s.heap.objs.size) }) :
    codeAny (model prog w) A (.call (.ref C) ⟨vs, kw⟩) R s := by
  obtain ⟨hh, g, d, t, os⟩ := s
  exact PySem.W.make_core (PySem.W.makes_of X hm) (PySem.W.looks_findIn X hi) (fun self => PySem.W.bind_fn X self hf) (.inl rfl) h
end

/-! ### the attributes as a list of pairs -/
def putF (f : Str) (v : V) : List (Str × V) → List (Str × V)
  | [] => [(f, v)]
  | (g, x) :: r => if g = f then (g, v) :: r else (g, x) :: putF f v r
theorem lookup_putF (f g : Str) (v : V) : ∀ fs : List (Str × V), (putF f v fs).lookup g = if g = f then some v else fs.lookup g
  | [] => by
    show List.lookup g [(f, v)] = _
    by_cases h : g = f
    · have hb : (g == f) = true := beq_iff_eq.mpr h
      simp only [List.lookup, hb, if_pos h]
    · have hb : (g == f) = false := beq_eq_false_iff_ne.mpr h
      simp only [List.lookup, hb, if_neg h]
  | (k, x) :: r => by
    have ih := lookup_putF f g v r
    rw [show putF f v ((k, x) :: r) = (if k = f then (k, v) :: r else (k, x) :: putF f v r) from rfl]
    by_cases hk : k = f
    · rw [if_pos hk]
      by_cases h : g = k
      · have hb : (g == k) = true := beq_iff_eq.mpr h
        simp only [List.lookup, hb, if_pos (h.trans hk)]
      · have hb : (g == k) = false := beq_eq_false_iff_ne.mpr h
        simp only [List.lookup, hb, if_neg (fun e : g = f => h (e.trans hk.symm))]
    · rw [if_neg hk]
      by_cases h : g = k
      · have hb : (g == k) = true := beq_iff_eq.mpr h
        simp only [List.lookup, hb, if_neg (fun e : g = f => hk (h.symm.trans e))]
      · have hb : (g == k) = false := beq_eq_false_iff_ne.mpr h
        simp only [List.lookup, hb]
        exact ih
theorem keys_putF (f : Str) (v : V) : ∀ fs : List (Str × V), f ∈ (putF f v fs).map (·.1) ∧ ∀ g, g ∈ fs.map (·.1) → g ∈ (putF f v fs).map (·.1)
  | [] => ⟨by simp [putF], fun g h => by simp at h⟩
  | (k, x) :: r => by
    obtain ⟨i1, i2⟩ := keys_putF f v r
    rw [show putF f v ((k, x) :: r) = (if k = f then (k, v) :: r else (k, x) :: putF f v r) from rfl]
    by_cases hk : k = f
    · rw [if_pos hk]
      subst hk
      exact ⟨by simp, fun g h => by simpa using h⟩
    · rw [if_neg hk]
      refine ⟨?_, fun g h => ?_⟩
      · rw [List.map_cons]
        exact List.mem_cons_of_mem _ i1
      · rw [List.map_cons] at h ⊢
        rcases List.mem_cons.mp h with e | e
        · exact List.mem_cons.mpr (.inl e)
        · exact List.mem_cons_of_mem _ (i2 g e)
theorem length_putF (f : Str) (v : V) : ∀ fs : List (Str × V), (putF f v fs).length ≤ fs.length + 1
  | [] => by simp [putF]
  | (k, x) :: r => by
    have ih := length_putF f v r
    rw [show putF f v ((k, x) :: r) = (if k = f then (k, v) :: r else (k, x) :: putF f v r) from rfl]
    by_cases hk : k = f
    · rw [if_pos hk, List.length_cons, List.length_cons]; omega
    · rw [if_neg hk, List.length_cons, List.length_cons]; omega

theorem RelO.some_of {v : V} {o : Option Value} (r : RelO (some v) o) : ∃ u, o = some u ∧ RelV v u := by
  cases o with
  | none => exact (show False from r).elim
  | some u => exact ⟨u, rfl, r⟩
theorem RelO.none_of {o : Option Value} (r : RelO none o) : o = none := by
  cases o with
  | none => rfl
  | some u => exact (show False from r).elim
theorem handed_of {v : V} {u : Value} (r : RelV v u) : PySem.W.handedIn u = true := by
  cases v with
  | non => cases (show u = Value.none from r); rfl
  | bl b => cases (show u = Value.bool b from r); rfl
  | int i => obtain ⟨t, e⟩ := (show ∃ t, u = Value.int i t from r); cases e; rfl
  | str x => obtain ⟨t, e⟩ := (show ∃ t, u = Value.str x t from r); cases e; rfl
  | byt b => obtain ⟨t, e⟩ := (show ∃ t, u = Value.bytes b t from r); cases e; rfl
  | flt b => obtain ⟨t, e⟩ := (show ∃ t, u = Value.float b t from r); cases e; rfl
  | ref a => cases (show u = Value.ref a from r); rfl
  | ty n => cases (show u = Value.type n from r); rfl

section
variable {P : Program} {w : World} {H H' : Hp} {h h' : Heap} {a C dx : Addr} {fs fs' : List (Str × V)}
theorem ins_get (hok : HOk P w H h) (e : H a = some (.ins C dx fs)) : ∃ mA, ObjM h a dx C mA ∧ (∀ f, RelO (fs.lookup f) (mA f)) ∧ PySem.Within mA (fs.map (·.1)) ∧ fs.length ≤ 1000 ∧ H dx = some (.own a) := by
  obtain ⟨d, z, ne, ob, mA, n, r, q⟩ := (show ObjOk P w H h a (.ins C dx fs) from hok a _ e)
  exact ⟨mA, ⟨ob, n, ne⟩, r, q, z, d⟩
end

/-! ### what of the text a class must have -/
structure Cls (K : PySem.W.Frag) (C : Addr) : Prop where
  pg : PySem.W.plainGet K C Str.empty = true
  hd : PySem.W.hasDictIn K C = true
  po : PySem.W.plainOver K C = true
  sa : PySem.W.findIn K (.ref C) "__setattr__" = some (some (.builtin "object.__setattr__"))
theorem Cls.get {K : PySem.W.Frag} {C : Addr} (c : Cls K C) (f : Str) : PySem.W.plainGet K C f = true := c.pg
/-- no class of it has the name -/
def NoAttr (K : PySem.W.Frag) (C : Addr) (f : Str) : Prop := PySem.W.findIn K (.ref C) f = some none
theorem NoAttr.taker {K : PySem.W.Frag} {C : Addr} {f : Str} (n : NoAttr K C f) : PySem.W.takerIn K C f = some none := by
  unfold PySem.W.takerIn
  rw [show PySem.W.findIn K (.ref C) f = some none from n]
  rfl
/-- a method: a plain def of the class or of one above it -/
structure Meth (K : PySem.W.Frag) (C : Addr) (m : Str) (f : Addr) : Prop where
  at_ : PySem.W.findIn K (.ref C) m = some (some (.ref f))
  fn : PySem.W.isFn K (.ref f) = true
  kp : PySem.W.keepIn K (.ref f) = true

section
variable {X : Cx} {pins : List (Addr × Obj)} {σ : St} {H : Hp} {s : Shared} {a C dx : Addr} {fs : List (Str × V)} {f : Str} {v : V} {A : Around} {E : Value → Shared → Prop}

theorem getattr_ok {b : Bool} {Q : Value → Shared → Prop} (I : Inv X pins σ H s) (e : H a = some (.ins C dx fs)) (c : Cls X.K C) (n : NoAttr X.K C f) (l : fs.lookup f = some v)
    (h : ∀ u s', Inv X pins σ H s' → RelV v u → Q u s') : wpAny (model X.prog X.w) A (getAttr (.ref a) f b) Q E s := by
  obtain ⟨mA, O, r, _, _, _⟩ := ins_get I.hok e
  obtain ⟨u, hu, ru⟩ := RelO.some_of (v := v) (o := mA f) (by rw [← l]; exact r f)
  exact get_map I.kIn O (c.get f) c.hd n hu (handed_of ru) (h u _ (I.tok _) ru)

theorem getmeth_ok {m : Str} {g : Addr} {pl : Sem Bool} {Q : Value × List Value → Shared → Prop} (I : Inv X pins σ H s) (e : H a = some (.ins C dx fs)) (c : Cls X.K C) (k : Meth X.K C m g) (l : fs.lookup m = none)
    (h : Q (.ref g, [.ref a]) s) : wpAny (model X.prog X.w) A (getMethod (.ref a) m pl) Q E s := by
  obtain ⟨mA, O, r, _, _, _⟩ := ins_get I.hok e
  have hn : mA m = none := RelO.none_of (by rw [← l]; exact r m)
  exact get_meth I.kIn O (c.get m) k.at_ k.fn hn h

theorem setattr_ok {y : V} {u : Value} {Q : Unit → Shared → Prop} (I : Inv X pins σ H s) (e : H a = some (.ins C dx fs)) (c : Cls X.K C) (n : NoAttr X.K C f) (hl : fs.length < 1000) (ry : RelV y u)
    (h : ∀ s', Inv X pins σ (upd H a (.ins C dx (putF f y fs))) s' → Q () s') : wpAny (model X.prog X.w) A (setAttr (.ref a) f u) Q E s := by
  obtain ⟨mA, O, r, wi, _, ho⟩ := ins_get I.hok e
  have hz : (fs.map (·.1)).length ≤ sizeLine := by rw [List.length_map, sizeLine_eq]; omega
  refine set_map I.kIn O c.sa c.po n.taker c.hd wi hz fun h' O' sb => h _ ?_
  have hd : ∃ o, h'.get? dx = some o := let ⟨o, _, _, e', _⟩ := O'.ns; ⟨o, e'⟩
  refine I.write (x := a) (e := dx) (by rw [e]; exact True.intro) (.inr ho) (fun b q hb z => (sb.2 b hb).trans z) hd ?_
  refine ⟨by rw [upd_ne O.ne]; exact ho, ?_, O.ne, O'.obj, _, O'.ns, fun g => ?_, fun g hg => ?_⟩
  · have := length_putF f y fs; omega
  · show RelO ((putF f y fs).lookup g) (if g = f then some u else mA g)
    rw [lookup_putF]
    by_cases q : g = f
    · rw [if_pos q, if_pos q]; exact ry
    · rw [if_neg q, if_neg q]; exact r g
  · by_cases q : g = f
    · rw [q]; exact (keys_putF f y fs).1
    · refine (keys_putF f y fs).2 g (wi g fun z => hg ?_)
      show (if g = f then some u else mA g) = none
      rw [if_neg q]; exact z

/-- a new instance, tracked, without attributes -/
theorem Inv.made (I : Inv X pins σ H s) : Inv X pins σ (upd (upd H s.heap.objs.size (.own (s.heap.objs.size + 1))) (s.heap.objs.size + 1) (.ins C s.heap.objs.size []))
    { s with heap := (s.heap.push PySem.W.emptyDict).push (PySem.W.instObj C s.heap.objs.size) } := by
  have e1 : (s.heap.push PySem.W.emptyDict).get? s.heap.objs.size = some PySem.W.emptyDict := Heap.get?_push_size s.heap rfl
  have e2 : ((s.heap.push PySem.W.emptyDict).push (PySem.W.instObj C s.heap.objs.size)).get? (s.heap.objs.size + 1) = some (PySem.W.instObj C s.heap.objs.size) := by
    have := Heap.get?_push_size (s.heap.push PySem.W.emptyDict) (o := PySem.W.instObj C s.heap.objs.size) rfl
    rwa [Heap.size_push] at this
  have e3 : (s.heap.push PySem.W.emptyDict).Ns s.heap.objs.size (fun _ => none) := ⟨PySem.W.emptyDict, #[], _, e1, rfl, (fun e he => absurd he (by simp)), fun _ => rfl⟩
  have I1 := I.laid (a := s.heap.objs.size) (o := .own (s.heap.objs.size + 1)) (h' := s.heap.push PySem.W.emptyDict) (t' := s.toks) (fun b u q => Heap.get?_push_of_some _ q) (Nat.le_refl _) ⟨_, e1⟩
  refine I1.laid (a := s.heap.objs.size + 1) (o := .ins C s.heap.objs.size []) (t' := s.toks) (fun b u q => Heap.get?_push_of_some _ q) (Nat.le_of_eq (Heap.size_push _ _)) ?_
  have ne : s.heap.objs.size ≠ s.heap.objs.size + 1 := Nat.ne_of_lt (Nat.lt_succ_self _)
  refine ⟨by rw [upd_ne ne, upd_same], Nat.zero_le _, ne, e2, fun _ => none, (Heap.Ns1.of_empty e3).at fun o q => Heap.get?_push_of_some _ q, fun _ => True.intro, fun y hy => absurd rfl hy⟩

/-- e.f where nothing but the object is asked: through attributeBase (super) and the last hold -/
theorem attr_of {prog : Program} {w : World} {env : Env} {e : Expr} {f : Str} {pos : Pos} {s : Shared} {Q : Value → Shared → Prop} (hb : attributeBase e f env (eval e env) = eval e env)
    (h : wpAny (model prog w) A (eval e env) (fun o s₁ => wpAny (model prog w) A (getAttr o f true) Q E s₁) E s) : wpAny (model prog w) A (eval (.Attribute e f pos) env) Q E s :=
  Attribute_any_ h (by rw [arm_eval_Attribute, hb])
end

/-! ### readings and rules -/
section
variable {X : Cx} {o e value : Expr} {f : Str} {pos pos' tpos : Pos} {ta tv : TE}
end

/-! ### isinstance -/
section
variable {X : Cx} {pins : List (Addr × Obj)} {σ : St} {H : Hp} {s : Shared} {A : Around} {E : Value → Shared → Prop} {Q : Value → Shared → Prop} {c : Value} {b : Bool}
/-- the type of a value, as the fragment's deciders take it; for an instance its class -/
inductive TyOf (K : PySem.W.Frag) (H : Hp) : V → Value → Prop where
  | non : TyOf K H .non (.type "NoneType")
  | bl (x : Bool) : TyOf K H (.bl x) (.type "bool")
  | int (i : Int) : TyOf K H (.int i) (.type "int")
  | str (x : Str) : TyOf K H (.str x) (.type "str")
  | flt (x : UInt64) : TyOf K H (.flt x) (.type "float")
  | lst {a : Addr} {xs : List V} (e : H a = some (.lst xs)) : TyOf K H (.ref a) (.type "list")
  | frz {a : Addr} {o : Obj} {xs : List V} (e : H a = some (.frz o (.lst xs))) : TyOf K H (.ref a) (.type "list")
  | tup {a : Addr} {xs : List V} (e : H a = some (.tup xs)) : TyOf K H (.ref a) (.type "tuple")
  | dK {a : Addr} {kvs : List (Key × V)} (e : H a = some (.dK kvs)) : TyOf K H (.ref a) (.type "dict")
  | dT {a : Addr} {kvs : List (List Key × V)} (e : H a = some (.dT kvs)) : TyOf K H (.ref a) (.type "dict")
  | ins {a C dx : Addr} {fs : List (Str × V)} (e : H a = some (.ins C dx fs)) (cl : Cls K C) (ha : PySem.W.findIn K (.ref C) "__class__" = some (some (.builtin "object.__class__")))
      (hn : PySem.W.specialIn K (.builtin "object.__class__") "__get__" = some (some (.builtin "getset_descriptor.__get__"))) (htk : PySem.W.takesIn K (.builtin "object.__class__") = some true)
      (hm : PySem.W.mroIn K C (.type "object") = some true) : TyOf K H (.ref a) (.ref C)
/-- isinstance(x, c) for one class c, a built-in or an own one: kitOne's answer -/
theorem isinst_ok {x : V} {u t : Value} (I : Inv X pins σ H s) (rx : RelV x u) (ty : TyOf X.K H x t) (e : PySem.W.kitOne X.K t c = some b) (h : ∀ tk, Q (.bool b) { s with toks := tk }) :
    wpAny (model X.prog X.w) A (call (.builtin "isinstance") [u, c]) Q E s := by
  cases ty with
  | non => cases (show u = Value.none from rx); exact PySem.W.kia_one PySem.W.kitx_none I.kIn True.intro e (fun z => nomatch z) h
  | bl y => cases (show u = Value.bool y from rx); exact PySem.W.kia_one PySem.W.kitx_bool I.kIn True.intro e (fun z => nomatch z) h
  | int i => obtain ⟨t, q⟩ := (show ∃ t, u = Value.int i t from rx); cases q; exact PySem.W.kia_one PySem.W.kitx_int I.kIn True.intro e (fun z => nomatch z) h
  | str y => obtain ⟨t, q⟩ := (show ∃ t, u = Value.str y t from rx); cases q; exact PySem.W.kia_one PySem.W.kitx_str I.kIn True.intro e (fun z => nomatch z) h
  | flt y => obtain ⟨t, q⟩ := (show ∃ t, u = Value.float y t from rx); cases q; exact PySem.W.kia_one PySem.W.kitx_float I.kIn True.intro e (fun z => nomatch z) h
  | @lst a xs ea =>
    cases (show u = Value.ref a from rx)
    obtain ⟨_, _, n, _, h1⟩ := (show ObjOk X.prog X.w H s.heap a (.lst xs) from I.hok a _ ea)
    exact PySem.W.kia_one PySem.W.kitx_list I.kIn ⟨_, h1, rfl⟩ e (fun z => nomatch z) h
  | @frz a ob xs ea =>
    cases (show u = Value.ref a from rx)
    obtain ⟨_, _, _, n, _, h1⟩ := (show ObjOk X.prog X.w H s.heap a (.frz ob (.lst xs)) from I.hok a _ ea)
    exact PySem.W.kia_one PySem.W.kitx_list I.kIn ⟨_, h1, rfl⟩ e (fun z => nomatch z) h
  | @tup a xs ea =>
    cases (show u = Value.ref a from rx)
    obtain ⟨_, _, _, p⟩ := (show ObjOk X.prog X.w H s.heap a (.tup xs) from I.hok a _ ea)
    obtain ⟨o, h1, h2, _⟩ := p
    exact PySem.W.kia_one PySem.W.kitx_tuple I.kIn ⟨o, h1, h2⟩ e (fun z => nomatch z) h
  | @dK a kvs ea =>
    cases (show u = Value.ref a from rx)
    obtain ⟨_, _, vs, _, p⟩ := (show ObjOk X.prog X.w H s.heap a (.dK kvs) from I.hok a _ ea)
    obtain ⟨o, es, ep, h1, h2, _⟩ := p
    exact PySem.W.kia_one PySem.W.kitx_dict I.kIn ⟨o, h1, h2.1⟩ e (fun z => nomatch z) h
  | @dT a kvs ea =>
    cases (show u = Value.ref a from rx)
    obtain ⟨_, _, xs, _, o, es, ep, h1, h2, _⟩ := (show ObjOk X.prog X.w H s.heap a (.dT kvs) from I.hok a _ ea)
    exact PySem.W.kia_one PySem.W.kitx_dict I.kIn ⟨o, h1, h2.1⟩ e (fun z => nomatch z) h
  | @ins a C dx fs ea cl ha hn htk hm =>
    cases (show u = Value.ref a from rx)
    obtain ⟨mA, O, _⟩ := ins_get I.hok ea
    obtain ⟨od, J, _⟩ := O.look
    exact PySem.W.kia_one (PySem.W.kitx_own (cl.get _) cl.hd ha hn htk hm) I.kIn J e (fun z => nomatch z) h
end
end L2

namespace L2
open PySem PySem.Spec PyProof.Rows

/-! ### room -/
structure Room (k : Nat) (A : Around) : Prop where
  hd : A.handled = none
  dp : A.depth + 3 * k + 5 < recursionLimit
  un : A.units + 16 * k + 200 < cLine
theorem Room.mono {j k : Nat} {A : Around} (r : Room k A) (h : j ≤ k) : Room j A := ⟨r.hd, by have := r.dp; omega, by have := r.un; omega⟩
theorem Room.deeper {k : Nat} {A : Around} (r : Room (k + 1) A) (env : Env) : Room k (A.deeper env) :=
  ⟨r.hd, by have := r.dp; show A.depth + 1 + 3 * k + 5 < _; omega, by have := r.un; show A.units + 3 + 16 * k + 200 < _; omega⟩
theorem Room.in1 {k : Nat} {A : Around} (r : Room (k + 1) A) : Room k A.in1 :=
  ⟨r.hd, by have := r.dp; show A.depth + 3 * k + 5 < _; omega, by have := r.un; show A.units + 1 + 16 * k + 200 < _; omega⟩
theorem make_depth {A : Around} {C : Addr} {us : List Value} {kw : List (Str × Value)} : (A.under (.builtin "type.__call__" ⟨.ref C :: us, kw⟩)).depth = A.depth + 1 := by
  first | rfl | simp [Around.under, Code.weight, Code.isCreation, Code.isGuard, Code.isCaller, Code.frames, Code.isFrame, guardIds]
theorem make_units {A : Around} {C : Addr} {us : List Value} {kw : List (Str × Value)} : (A.under (.builtin "type.__call__" ⟨.ref C :: us, kw⟩)).units = A.units + 1 := by
  first | rfl | simp [Around.under, Code.cUnits, Code.frames, Code.isFrame]
theorem Room.make {k : Nat} {A : Around} (r : Room (k + 1) A) (C : Addr) (us : List Value) (kw : List (Str × Value)) : Room k (A.under (.builtin "type.__call__" ⟨.ref C :: us, kw⟩)) :=
  ⟨r.hd, by have := r.dp; rw [make_depth]; omega, by have := r.un; rw [make_units]; omega⟩
theorem Room.depth {k : Nat} {A : Around} (r : Room k A) : A.depth < recursionLimit := by have := r.dp; omega
theorem Room.units {k : Nat} {A : Around} (r : Room k A) : A.units + 64 < cLine := by have := r.un; omega
/-! ### argument lists and displays -/
def tNil : TA := fun _ H Q => Q [] H
def tCons (ta : TE) (tr : TA) : TA := fun σ H Q => ta σ H fun x H1 => tr σ H1 fun xs H2 => Q (x :: xs) H2
section
variable {X : Cx} {e : Expr} {es : List Expr} {te : TE} {t : TA} {pos : Pos}
theorem pa_nil : PA X [] tNil := fun _ _ _ _ H Q I h => Calls.spliced_nil ⟨[], H, I, .nil, h⟩
theorem pa_cons (ha : PE X e te) (hr : PA X es t) (hs : starEach (e :: es) X.env = (false, eval e X.env) :: starEach es X.env := by rfl) : PA X (e :: es) (tCons te t) := by
  intro pos pins s σ H Q I h
  rw [hs]
  show wpAny _ _ (spliced ((false, eval e X.env) :: backTo pos (starEach es X.env))) _ _ s
  refine Calls.spliced_cons (thn (ha pins s σ H _ I h) fun u s1 ⟨x, H1, I1, r1, q1⟩ => ?_)
  exact thn (hr pos pins s1 σ H1 _ I1 q1) fun us s2 ⟨xs, H2, I2, r2, q2⟩ => ⟨x :: xs, H2, I2, .cons r1 r2, q2⟩

/-- a tuple, a list of written items -/
def tTup (t : TA) : TE := fun σ H Q => t σ H fun xs H1 => xs.length ≤ sizeLine ∧ ∀ p, H1 p = none → Q (.ref p) (upd H1 p (.tup xs))
def tLst (t : TA) : TE := fun σ H Q => t σ H fun xs H1 => xs.length ≤ sizeLine ∧ ∀ p, H1 p = none → Q (.ref p) (upd H1 p (.lst xs))
theorem pe_tup {x1} (h : PA X es t) : PE X (.Tuple es x1 pos) (tTup t) := by
  intro pins s σ H Q I hq
  refine wpAny_Tuple_spliced (thn (h pos pins s σ H _ I hq) fun us s1 ⟨xs, H1, I1, r, z, q⟩ => ⟨by rw [← r.length]; exact z, ?_⟩)
  have hf : H1 s1.heap.objs.size = none := I1.hok.fresh (Nat.le_refl _)
  refine ⟨.ref s1.heap.objs.size, upd H1 s1.heap.objs.size (.tup xs), I1.laid (t' := s1.toks) (fun b u e => Heap.get?_push_of_some _ e) (Nat.le_refl _) ?_, rfl, q _ hf⟩
  exact ⟨z, us, r, ⟨_, Heap.get?_push_size _ rfl, rfl, _, rfl⟩⟩
theorem pe_lst (h : PA X es t) : PE X (.List es pos) (tLst t) := by
  intro pins s σ H Q I hq
  refine wpAny_List_spliced (thn (h pos pins s σ H _ I hq) fun us s1 ⟨xs, H1, I1, r, z, q⟩ => ⟨by rw [← r.length]; exact z, ?_⟩)
  have hf : H1 s1.heap.objs.size = none := I1.hok.fresh (Nat.le_refl _)
  refine ⟨.ref s1.heap.objs.size, upd H1 s1.heap.objs.size (.lst xs), I1.laid (t' := s1.toks) (fun b u e => Heap.get?_push_of_some _ e) (Nat.le_refl _) ?_, rfl, q _ hf⟩
  exact ⟨z, us, 0, r, Heap.get?_push_size _ rfl⟩
end

/-! ### what a def promises -/
/-- a def's promise: the bound arguments in the parameters' order, the heap, the wanted end, the wanted exception -/
abbrev Sp := List V → Hp → VK → XK → Prop
/-- how an exception lies behind a call (file 08 gives it): the callers' frames, abstract heap and state ahead of the call, the wish, the exception, the state -/
abbrev CXT := List Env → Hp → Shared → XK → Value → Shared → Prop

/-- the state at a call -/
structure Env0 (P : Program) (w : World) (K : PySem.W.Frag) (mg : Str → Option Value) (base : Heap) (A : Around) (outer : List Env) (s : Shared) (H : Hp) : Prop where
  frames : A.frames = some outer
  mod : Mod K mg base
  bs : ∀ b o, base.get? b = some o → s.heap.get? b = some o ∧ H b = none
  bsz : base.objs.size ≤ s.heap.objs.size
  funs : s.heap.FunFrames base outer
  frf : ∀ b ∈ frs outer, H b = none
  hok : HOk P w H s.heap
  bare : AllBare s.gens
/-- a call's end -/
def CE (outer : List Env) (P : Program) (w : World) (H : Hp) (s : Shared) (Q : VK) (u : Value) (s' : Shared) : Prop :=
  ∃ v H', s'.os = s.os ∧ AllBare s'.gens ∧ Un (frs outer) [] H H' s.heap s'.heap ∧ HOk P w H' s'.heap ∧ RelV v u ∧ Q v H'
def CR (CX : CXT) (outer : List Env) (P : Program) (w : World) (H : Hp) (s : Shared) (Q : VK) (E : XK) (r : Result) (s' : Shared) : Prop :=
  match r with
  | .ok (.ret u) => CE outer P w H s Q u s'
  | .ok _ => False
  | .error e => CX outer H s E e s'
structure FnOk (P : Program) (w : World) (K : PySem.W.Frag) (mg : Str → Option Value) (base : Heap) (CX : CXT) (k : Nat) (f : Addr) (fd : FuncData) (ps : List Str) (sp : Sp) : Prop where
  len : ∀ vs H Q E, sp vs H Q E → vs.length = ps.length
  run : ∀ (A : Around) (outer : List Env) (s : Shared) (H : Hp) (args : Args) (us : List Value) (vs : List V) (Q : VK) (E : XK), Room k A → Env0 P w K mg base A outer s H → BindsTo s fd args (ps.zip us) → Vals vs us → sp vs H Q E →
    codeAny (model P w) A (.call (.ref f) args) (CR CX outer P w H s Q E) s
theorem Env0.make {P : Program} {w : World} {K : PySem.W.Frag} {mg : Str → Option Value} {base : Heap} {A : Around} {outer : List Env} {s : Shared} {H : Hp} (e : Env0 P w K mg base A outer s H) (C : Addr) (us : List Value) (kw : List (Str × Value)) :
    Env0 P w K mg base (A.under (.builtin "type.__call__" ⟨.ref C :: us, kw⟩)) outer s H := ⟨by first | exact e.frames | (simpa [Around.under, Code.envs, Code.isFrame, pushEnvs] using e.frames), e.mod, e.bs, e.bsz, e.funs, e.frf, e.hok, e.bare⟩
section
variable {X : Cx} {pins : List (Addr × Obj)} {σ : St} {H : Hp} {s s' : Shared}
/-- from a body: what a callee wants -/
theorem Inv.env0 (I : Inv X pins σ H s) : Env0 X.prog X.w X.K X.mg X.base X.A X.stack s H :=
  ⟨I.ok.frames, I.ok.mod, I.bs, Nat.le_trans I.ok.bsz I.sz, I.stack, I.stkFree, I.hok, I.bare⟩
/-- behind a call -/
theorem Inv.after {Q : VK} {u : Value} (I : Inv X pins σ H s) (h : CE X.stack X.prog X.w H s Q u s') : EP X pins σ Q u s' := by
  obtain ⟨v, H', os, bare, un, hok, r, q⟩ := h
  obtain ⟨hh, g, d, t, os'⟩ := s'
  obtain rfl : os' = s.os := os
  exact ⟨v, H', I.call (h' := hh) (g' := g) (d' := d) (t' := t) (ch := []) un hok bare (fun b z => absurd z (by simp)), r, q⟩
end

/-! ### calls -/
/-- f(..): the written arguments, then the defaults dvs; E: what is wanted of an exception -/
def tCall (sp : Sp) (dvs : List V) (E : XK) (t : TA) : TE := fun σ H Q => t σ H fun vs H1 => sp (vs ++ dvs) H1 Q E
/-- o.m(..) of an instance of the class at C -/
def tMeth (C : Addr) (m : Str) (sp : Sp) (dvs : List V) (E : XK) (ta : TE) (t : TA) : TE := fun σ H Q => ta σ H fun x H1 => ∃ a dx fs, x = .ref a ∧ H1 a = some (.ins C dx fs) ∧ fs.lookup m = none ∧
  t σ H1 fun vs H2 => sp (x :: (vs ++ dvs)) H2 Q E
/-- C(..): a new instance and its dict, then __init__ -/
def tMake (C : Addr) (sp : Sp) (dvs : List V) (E : XK) (t : TA) : TE := fun σ H Q => t σ H fun vs H1 => ∀ x dx, H1 x = none → H1 dx = none → dx ≠ x →
  sp (.ref x :: (vs ++ dvs)) (upd (upd H1 dx (.own x)) x (.ins C dx [])) (fun v H2 => v = .non ∧ Q (.ref x) H2) E

/-- how the parameters are bound: us the positional arguments, kw the keywords' values by name, ds the defaults that fill up -/
def Binds (K : PySem.W.Frag) (fd : FuncData) (ps : List Str) (ds : List Value) : Prop :=
  ∀ (s : Shared) (us : List Value), K.In s.heap → (us ++ ds).length = ps.length → BindsTo s fd ⟨us, []⟩ (ps.zip (us ++ ds))
/-- every parameter is given -/
theorem Binds.all {K : PySem.W.Frag} {fd : FuncData} {ps : List Str} (h : ∀ us : List Value, us.length = ps.length → bindArgs fd ⟨us, []⟩ = pure (ps.zip us)) : Binds K fd ps [] := fun s us _ hl => by
  rw [List.append_nil] at hl ⊢
  exact .of_eq (h us hl)

/-- an exception of a callee reaches what this body wants of exceptions -/
def Passes (CX : CXT) (X : Cx) (E : XK) : Prop := ∀ (pins : List (Addr × Obj)) (σ : St) (H : Hp) (s : Shared) (e : Value) (s' : Shared), Inv X pins σ H s → CX X.stack H s E e s' → X.xe e s'

section
variable {X : Cx} {CX : CXT} {k : Nat} {f C : Addr} {fd : FuncData} {ps : List Str} {sp : Sp} {dvs : List V} {ds : List Value} {E : XK} {x m : Str} {p pos apos : Pos} {e o : Expr} {es : List Expr} {ta : TE} {t : TA}

/-- the callee runs -/
theorem run_fn {pins : List (Addr × Obj)} {σ : St} {H : Hp} {s : Shared} {Q : VK} {us : List Value} {vs : List V} (F : FnOk X.prog X.w X.K X.mg X.base CX k f fd ps sp) (hr : Room k X.A) (hb : Binds X.K fd ps ds) (hd : Vals dvs ds) (hx : Passes CX X E)
    (I : Inv X pins σ H s) (r : Vals vs us) (h : sp (vs ++ dvs) H Q E) : wpAny (model X.prog X.w) X.A (call (.ref f) us) (EP X pins σ Q) X.xe s := by
  have r2 : Vals (vs ++ dvs) (us ++ ds) := r.append hd
  have hl : (us ++ ds).length = ps.length := by rw [← r2.length]; exact F.len _ _ _ _ h
  refine wpAny_call (codeAny_mono (F.run X.A X.stack s H ⟨us, []⟩ (us ++ ds) (vs ++ dvs) Q E hr I.env0 (hb s us I.kIn hl) r2 h) fun r s' hq => ?_)
  cases r with
  | error e => exact hx pins σ H s e s' I hq
  | ok fl =>
    cases fl with
    | ret u => exact I.after hq
    | next => exact False.elim hq
    | brk => exact False.elim hq
    | cont => exact False.elim hq

theorem pe_call (F : FnOk X.prog X.w X.K X.mg X.base CX k f fd ps sp) (hr : Room k X.A) (hg : Gl X x) (hm : X.mg x = some (.ref f)) (hk : PySem.W.keepIn X.K (.ref f) = true) (hb : Binds X.K fd ps ds) (hd : Vals dvs ds) (hx : Passes CX X E)
    (ha : PA X (e :: es) t) (hdb : (x == ("__debug__" : Str)) = false := by decide) (he : starEach (e :: es) X.env = (false, eval e X.env) :: starEach es X.env := by rfl) (hpl : (backTo pos (starEach es X.env)).any (·.1) = false := by rfl) :
    PE X (.Call (.Name x p) (e :: es) [] pos) (tCall sp dvs E t) := by
  intro pins s σ H Q I h
  refine wpAny_Call_Name_kw (ld_glob I hg hm ?_ hdb)
  refine PySem.W.callWith_K (h₀ := X.base) I.ok.mod.kin hk (thn (ha pos pins s σ H _ I h) fun us s1 ⟨vs, H1, I1, r, q⟩ => ⟨I1.kIn, ?_⟩) he hpl
  exact run_fn F hr hb hd hx I1 r q
/-- o.m(e, ..) -/
theorem pe_meth {pl : Sem Bool} (he : PE X o ta) (c : Cls X.K C) (hm : Meth X.K C m f) (F : FnOk X.prog X.w X.K X.mg X.base CX k f fd ps sp) (hr : Room k X.A) (hb : Binds X.K fd ps ds) (hd : Vals dvs ds) (hx : Passes CX X E) (ha : PA X (e :: es) t)
    (hst : starEach (e :: es) X.env = (false, eval e X.env) :: starEach es X.env := by rfl) (hpl : (backTo pos (starEach es X.env)).any (·.1) = false := by rfl)
    (ht : eval (.Call (.Attribute o m apos) (e :: es) [] pos) X.env = (do
      let ov ← eval o X.env
      standAt apos.atName
      let (f, first) ← holding [ov] (getMethod ov m pl)
      callWith pos f first (backTo pos (starEach (e :: es) X.env)) (backToKw pos (keywordEach [] X.env))) := by rfl) :
    PE X (.Call (.Attribute o m apos) (e :: es) [] pos) (tMeth C m sp dvs E ta t) := by
  intro pins s σ H Q I h
  refine PySem.W.methodCall_KW (pl := pl) (thn (he pins s σ H _ I h) fun u s1 ⟨x, H1, I1, rx, a, dx, fs, ex, ea, l, q⟩ => ?_) ht
  subst ex
  obtain rfl : u = Value.ref a := rx
  refine getmeth_ok I1 ea c hm l ?_
  refine PySem.W.callWith_K (first := [.ref a]) (h₀ := X.base) I.ok.mod.kin hm.kp (thn (ha pos pins s1 σ H1 _ I1 q) fun us s2 ⟨vs, H2, I2, r, q2⟩ => ⟨I2.kIn, ?_⟩) hst hpl
  exact run_fn (us := .ref a :: us) (vs := .ref a :: vs) F hr hb hd hx I2 (.cons rfl r) q2
/-- o.m() -/
theorem pe_meth0 {pl : Sem Bool} (he : PE X o ta) (c : Cls X.K C) (hm : Meth X.K C m f) (F : FnOk X.prog X.w X.K X.mg X.base CX k f fd ps sp) (hr : Room k X.A) (hb : Binds X.K fd ps ds) (hd : Vals dvs ds) (hx : Passes CX X E)
    (ht : eval (.Call (.Attribute o m apos) [] [] pos) X.env = (do
      let ov ← eval o X.env
      standAt apos.atName
      let (f, first) ← holding [ov] (getMethod ov m pl)
      callWith pos f first (backTo pos (starEach [] X.env)) (backToKw pos (keywordEach [] X.env))) := by rfl) :
    PE X (.Call (.Attribute o m apos) [] [] pos) (tMeth C m sp dvs E ta tNil) := by
  intro pins s σ H Q I h
  refine PySem.W.methodCall_KW (pl := pl) (thn (he pins s σ H _ I h) fun u s1 ⟨x, H1, I1, rx, a, dx, fs, ex, ea, l, q⟩ => ?_) ht
  subst ex
  obtain rfl : u = Value.ref a := rx
  refine getmeth_ok I1 ea c hm l ?_
  exact PySem.W.callWith_K0 (first := [.ref a]) I1.kIn hm.kp (run_fn (us := [.ref a]) (vs := [.ref a]) F hr hb hd hx I1 (.cons rfl .nil) q)

/-- what a class must have to be made -/
structure Mk (K : PySem.W.Frag) (C f : Addr) : Prop where
  makes : PySem.W.makesIn K C = true
  init : PySem.W.findIn K (.ref C) "__init__" = some (some (.ref f))
  fn : PySem.W.isFn K (.ref f) = true
  kp : PySem.W.keepIn K (.ref C) = true

theorem run_make {pins : List (Addr × Obj)} {σ : St} {H : Hp} {s : Shared} {Q : VK} {us : List Value} {vs : List V} (M : Mk X.K C f) (F : FnOk X.prog X.w X.K X.mg X.base CX k f fd ps sp) (hr : Room (k + 1) X.A) (hb : Binds X.K fd ps ds) (hd : Vals dvs ds)
    (hx : Passes CX X E) (I : Inv X pins σ H s) (r : Vals vs us)
    (h : ∀ x dx, H x = none → H dx = none → dx ≠ x → sp (.ref x :: (vs ++ dvs)) (upd (upd H dx (.own x)) x (.ins C dx [])) (fun v H2 => v = .non ∧ Q (.ref x) H2) E) :
    wpAny (model X.prog X.w) X.A (call (.ref C) us) (EP X pins σ Q) X.xe s := by
  have hq := h (s.heap.objs.size + 1) s.heap.objs.size (I.hok.fresh (Nat.le_succ _)) (I.hok.fresh (Nat.le_refl _)) (Nat.ne_of_lt (Nat.lt_succ_self _))
  have I2 := Inv.made (C := C) I
  have r2 : Vals (V.ref (s.heap.objs.size + 1) :: (vs ++ dvs)) (Value.ref (s.heap.objs.size + 1) :: (us ++ ds)) := .cons rfl (r.append hd)
  have hl : (Value.ref (s.heap.objs.size + 1) :: us ++ ds).length = ps.length := by
    have e := r2.length
    rw [F.len _ _ _ _ hq] at e
    exact e.symm
  refine wpAny_call (make_map (f := f) I.kIn M.makes M.init (beq_iff_eq.mp M.fn) (codeAny_mono (F.run _ X.stack _ _ ⟨Value.ref (s.heap.objs.size + 1) :: us, []⟩ (Value.ref (s.heap.objs.size + 1) :: (us ++ ds)) _ _ E (hr.make C us [])
    (I2.env0.make C us []) (hb _ (Value.ref (s.heap.objs.size + 1) :: us) I2.kIn hl) r2 hq) fun r s' hq' => ?_))
  cases r with
  | error e => exact hx pins σ _ _ e s' I2 hq'
  | ok fl =>
    cases fl with
    | ret u =>
      obtain ⟨v, H', I3, rv, ev, q3⟩ := I2.after hq'
      subst ev
      exact ⟨rv, ⟨V.ref (s.heap.objs.size + 1), H', I3, rfl, q3⟩⟩
    | next => exact False.elim hq'
    | brk => exact False.elim hq'
    | cont => exact False.elim hq'
theorem pe_make (M : Mk X.K C f) (F : FnOk X.prog X.w X.K X.mg X.base CX k f fd ps sp) (hr : Room (k + 1) X.A) (hg : Gl X x) (hm : X.mg x = some (.ref C)) (hb : Binds X.K fd ps ds) (hd : Vals dvs ds) (hx : Passes CX X E)
    (ha : PA X (e :: es) t) (hdb : (x == ("__debug__" : Str)) = false := by decide) (he : starEach (e :: es) X.env = (false, eval e X.env) :: starEach es X.env := by rfl) (hpl : (backTo pos (starEach es X.env)).any (·.1) = false := by rfl) :
    PE X (.Call (.Name x p) (e :: es) [] pos) (tMake C sp dvs E t) := by
  intro pins s σ H Q I h
  refine wpAny_Call_Name_kw (ld_glob I hg hm ?_ hdb)
  refine PySem.W.callWith_K (h₀ := X.base) I.ok.mod.kin M.kp (thn (ha pos pins s σ H _ I h) fun us s1 ⟨vs, H1, I1, r, q⟩ => ⟨I1.kIn, ?_⟩) he hpl
  exact run_make M F hr hb hd hx I1 r q
end

/-! ### keywords -/
section
variable {X : Cx} {CX : CXT} {k : Nat} {f C : Addr} {fd : FuncData} {ps ks : List Str} {sp : Sp} {E : XK} {x m : Str} {p pos apos kpos : Pos} {e o : Expr} {es : List Expr} {kws : List Keyword} {te ta : TE} {t tk : TA} {nm : Option Str}
variable {g : List Value → List Value → List Value} {gV : List V → List V → List V}
end

/-! ### a def's body keeps its promise -/
/-- names: the parameters first -/
structure FnScope (N P : List Str) (sc : Scope) : Prop where
  kind : sc.kind = .function
  co : sc.isCoroutine = false
  gen : sc.isGenerator = false
  nd : N.Nodup
  pre : N.take P.length = P
  par : ∀ x ∈ P, sc.names.lookup x = some .local ∨ sc.names.lookup x = some .cell
  nofree : ∀ y ∈ sc.names, y.2 ≠ .free

theorem bindL_out {kindOf : Str → Option NameKind} {x : Str} : ∀ {binds : List (Str × Value)} {m : Str → Option Value}, (∀ v, (x, v) ∉ binds) → bindL kindOf binds m x = m x
  | [], _, _ => rfl
  | (n, v) :: r, m, h => by
    unfold bindL
    rw [bindL_out fun w hw => h w (List.mem_cons_of_mem _ hw)]
    split
    · have : x ≠ n := by rintro rfl; exact h v List.mem_cons_self
      simp [this]
    · rfl
theorem bindC_out {kindOf : Str → Option NameKind} {x : Str} : ∀ {binds : List (Str × Value)} {m : Str → Option Value}, (∀ v, (x, v) ∉ binds) → bindC kindOf binds m x = m x
  | [], _, _ => rfl
  | (n, v) :: r, m, h => by
    unfold bindC
    rw [bindC_out fun w hw => h w (List.mem_cons_of_mem _ hw)]
    split
    · rfl
    · have : x ≠ n := by rintro rfl; exact h v List.mem_cons_self
      simp [this]
theorem bindL_get {kindOf : Str → Option NameKind} {x : Str} {v : Value} : ∀ {P : List Str} {vs : List Value} {i : Nat} {m : Str → Option Value}, P.Nodup → P[i]? = some x → vs[i]? = some v → kindOf x = some .local →
    bindL kindOf (P.zip vs) m x = some v
  | [], _, _, _, _, h, _, _ => by simp at h
  | _ :: _, [], _, _, _, _, h, _ => by simp at h
  | p :: P, w :: vs, 0, m, nd, h1, h2, hk => by
    simp at h1 h2; subst h1; subst h2
    show bindL kindOf ((p, w) :: P.zip vs) m p = _
    unfold bindL
    rw [bindL_out fun v hv => (List.nodup_cons.mp nd).1 (List.of_mem_zip hv).1, if_pos hk]
    simp
  | p :: P, w :: vs, i + 1, m, nd, h1, h2, hk => by
    show bindL kindOf ((p, w) :: P.zip vs) m x = _
    unfold bindL
    exact bindL_get (i := i) (List.nodup_cons.mp nd).2 (by simpa using h1) (by simpa using h2) hk
theorem bindC_get {kindOf : Str → Option NameKind} {x : Str} {v : Value} : ∀ {P : List Str} {vs : List Value} {i : Nat} {m : Str → Option Value}, P.Nodup → P[i]? = some x → vs[i]? = some v → kindOf x ≠ some .local →
    bindC kindOf (P.zip vs) m x = some v
  | [], _, _, _, _, h, _, _ => by simp at h
  | _ :: _, [], _, _, _, _, h, _ => by simp at h
  | p :: P, w :: vs, 0, m, nd, h1, h2, hk => by
    simp at h1 h2; subst h1; subst h2
    show bindC kindOf ((p, w) :: P.zip vs) m p = _
    unfold bindC
    rw [bindC_out fun v hv => (List.nodup_cons.mp nd).1 (List.of_mem_zip hv).1, if_neg hk]
    simp
  | p :: P, w :: vs, i + 1, m, nd, h1, h2, hk => by
    show bindC kindOf ((p, w) :: P.zip vs) m x = _
    unfold bindC
    exact bindC_get (i := i) (List.nodup_cons.mp nd).2 (by simpa using h1) (by simpa using h2) hk

/-- the names' values at the entry -/
def start (N : List Str) (vs : List V) : St := vs.map some ++ List.replicate (N.length - vs.length) none

/-- the context of a def's body, at its entry; an exception leaves the frame, then lies as CX says -/
def cxOf (CX : CXT) (P : Program) (w : World) (K : PySem.W.Frag) (mg : Str → Option Value) (base : Heap) (N : List Str) (qual : Str) (scope : Scope) (f : Addr) (cd : Value) (A : Around) (outer : List Env) (s : Shared) (H : Hp) (E : XK) : Cx where
  prog := P
  w := w
  K := K
  mg := mg
  base := base
  A := A.deeper (envOfC qual scope s.heap.objs.size f cd)
  N := N
  s₀ := s
  H₀ := H
  env := envOfC qual scope s.heap.objs.size f cd
  outer := outer
  stack := envOfC qual scope s.heap.objs.size f cd :: outer
  ex := []
  calm := true
  fn := fun _ => true
  pn := []
  xe := fun e s' => wpAny (model P w) (A.deeper (envOfC qual scope s.heap.objs.size f cd)) (leaving (envOfC qual scope s.heap.objs.size f cd) e) (fun _ s'' => CX outer H s E e s'') (fun e' s'' => CX outer H s E e' s'') s'

theorem cell_has {sc : Scope} {n : Nat} {x : Str} (h : sc.names.lookup x = some .cell) : ∃ c, (cellsFrom n sc.names []).lookup x = some c := by
  have q := PySem.W.cellsFrom_some sc.names n [] (.inl h)
  exact Option.isSome_iff_exists.mp q

theorem inv_start {CX : CXT} {P : Program} {w : World} {K : PySem.W.Frag} {mg : Str → Option Value} {base : Heap} {N ps : List Str} {qual : Str} {scope : Scope} {f : Addr} {cd : Value} {A : Around} {outer : List Env} {s s1 : Shared} {H : Hp} {E : XK} {us : List Value} {vs : List V}
    (S : FnScope N ps scope) (hd : A.handled = none) (e0 : Env0 P w K mg base A outer s H) (hl : vs.length = ps.length) (r : Vals vs us)
    (x : InCallC s s.heap.objs.size (bindL (envOfC qual scope s.heap.objs.size f cd).kindOf (ps.zip us) fun _ => none) (cellsFrom (s.heap.objs.size + 1) scope.names []) (bindC (envOfC qual scope s.heap.objs.size f cd).kindOf (ps.zip us) fun _ => none) s1) :
    Inv (cxOf CX P w K mg base N qual scope f cd A outer s H E) [] (start N vs) H s1 := by
  have hpl : ps.length ≤ N.length := by have := congrArg List.length S.pre; rw [List.length_take] at this; omega
  obtain ⟨h1, tk, rfl, hk⟩ := x.done
  have noA : ∀ b : Addr, b ∉ (cxOf CX P w K mg base N qual scope f cd A outer s H E).ex := fun b z => absurd (show b ∈ ([] : List Addr) from z) (by simp)
  refine ⟨⟨e0.mod, S.kind, rfl, rfl, Nat.le_refl _, fun y z c h1 h2 => ?_, fun y hy => ?_, fun y c _ h => ?_, fun _ => hd, Around.frames_deeper e0.frames, .inr ⟨rfl, rfl⟩, fun b z => absurd z (noA b), e0.bs, e0.bsz, fun b _ _ => noA b, fun b z => absurd z (noA b), e0.funs, e0.frf⟩,
    rfl, e0.bare, Un.kept hk, ⟨_, x.toInCall.ns, fun i y v h1 h2 h3 => ?_⟩, fun y c h => ⟨_, x.cell y c h⟩, e0.hok.fresh (Nat.le_refl _), fun y c h => ?_, fun p hp => absurd (show p ∈ ([] : List (Addr × Obj)) from hp) (by simp), e0.hok.kept hk, ?_⟩
  · exact name_of_addr x.apart (PySem.mem_of_lookup h1) (PySem.mem_of_lookup h2)
  · have hy : scope.names.lookup y = some .cell ∨ scope.names.lookup y = some .free := hy
    rcases hy with hy | hy
    · exact cell_has hy
    · exact absurd rfl (S.nofree _ (PySem.mem_of_lookup hy))
  · exact Nat.le_of_lt (x.above y c (PySem.mem_of_lookup h))
  · have hi : i < vs.length := by
      unfold start at h2
      by_cases hi : i < vs.length
      · exact hi
      · rw [List.getElem?_append_right (by simpa using hi)] at h2
        rw [List.getElem?_replicate] at h2
        split at h2 <;> cases h2
    have ha : vs[i]? = some v := by
      unfold start at h2
      rw [List.getElem?_append_left (by simpa using hi), List.getElem?_map] at h2
      cases e : vs[i]? with
      | none => rw [e] at h2; cases h2
      | some a => rw [e] at h2; cases h2; rfl
    obtain ⟨u, hu, rv⟩ := r.get ha
    have hp : ps[i]? = some y := by
      rw [← S.pre, List.getElem?_take_of_lt (by omega)]; exact h1
    have ndP : ps.Nodup := by rw [← S.pre]; exact S.nd.sublist (List.take_sublist _ _)
    refine ⟨u, rv, ?_⟩
    rcases S.par y (List.mem_of_getElem? hp) with k | k
    · exact .inl ⟨k, bindL_get ndP hp hu k⟩
    · obtain ⟨c, e⟩ := cell_has (n := s.heap.objs.size + 1) k
      refine .inr ⟨.inl k, c, e, ?_⟩
      have q := x.cell y c e
      rw [bindC_get ndP hp hu (by show scope.names.lookup y ≠ _; rw [k]; decide)] at q
      exact q
  · exact e0.hok.fresh (Nat.le_of_lt (x.above y c (PySem.mem_of_lookup h)))
  · unfold start
    show _ = N.length
    rw [List.length_append, List.length_map, List.length_replicate]
    omega

/-- THE RULE: a def (or a method) of the text, by its body. The body's reading t is chosen for each entry; it is run at the parameters' values -/
theorem fn_of {CX : CXT} {P : Program} {w : World} {K : PySem.W.Frag} {mg : Str → Option Value} {base : Heap} {k : Nat} {f : Addr} {name qual : Str} {params : Arguments} {body : List Stmt} {scope : Scope} {dV kV doc pm cdv ct oc : Value} {an od : Option Addr}
    {osl : Array (Option Value)} {N ps : List Str} {sp : Sp} (lk : K.lookup f = some ⟨oc, od, .func (PySem.W.fnOf name qual params body scope dV kV doc pm an cdv ct), osl⟩) (hcd : PySem.W.codeIn K cdv qual = true) (S : FnScope N ps scope)
    (len : ∀ vs H Q E, sp vs H Q E → vs.length = ps.length)
    (hbody : ∀ (A : Around) (outer : List Env) (s : Shared) (H : Hp) (vs : List V) (Q : VK) (E : XK), Room k (A.deeper (envOfC qual scope s.heap.objs.size f cdv)) → sp vs H Q E →
      ∃ t, PSs (cxOf CX P w K mg base N qual scope f cdv A outer s H E) body t ∧ t { nx := fun _ H' => Q .non H', rt := Q } (start N vs) H) :
    FnOk P w K mg base CX (k + 1) f (PySem.W.fnOf name qual params body scope dV kV doc pm an cdv ct) ps sp := by
  refine ⟨len, fun A outer s H args us vs Q E hr e0 hb r hsp => ?_⟩
  have hl := len _ _ _ _ hsp
  have KX : K.In s.heap := e0.mod.kin.keeps fun b o e => (e0.bs b o e).1
  have lim : s.heap.NoLimit := e0.mod.nolimit.keeps fun b o e => (e0.bs b o e).1
  have hkind : ∀ y ∈ ps.zip us, scope.names.lookup y.1 = some .local ∨ (scope.names.lookup y.1 = some .cell ∧ ((cellsFrom (s.heap.objs.size + 1) scope.names []).lookup y.1).isSome = true) := fun ⟨n, v⟩ hy => by
    rcases S.par n (List.of_mem_zip hy).1 with q | q
    · exact .inl q
    · exact .inr ⟨q, PySem.W.cellsFrom_some _ _ _ (.inl q)⟩
  refine codeAny_call_function hr.depth (KX _ _ lk) rfl S.co S.gen rfl (PySem.W.codeRec_of KX hcd) (hb _ _ _ _ ?_)
  refine wpAny_newFunctionEnv_cells S.kind hkind fun env he s1 x => ?_
  subst he
  refine ⟨lim.keeps x.toInCall.keep, codeAny_func ?_⟩
  obtain ⟨t, ht, hq⟩ := hbody A outer s H vs Q E (hr.deeper _) hsp
  have I : Inv (cxOf CX P w K mg base N qual scope f cdv A outer s H E) [] (start N vs) H s1 := inv_start S hr.hd e0 hl r x
  refine wpAny_mono (ht [] s1 (start N vs) H _ I hq) (fun fl s' hs => ?_) fun e s' hs => hs
  have fin : ∀ {σ' : St} {H' : Hp} {v : V} {u : Value}, Inv (cxOf CX P w K mg base N qual scope f cdv A outer s H E) [] σ' H' s' → RelV v u → Q v H' → CE outer P w H s Q u s' :=
    fun {σ' H' v u} J rv q => ⟨v, H', J.os, J.bare, J.base, J.hok, rv, q⟩
  cases fl with
  | ret u =>
    obtain ⟨v, σ', H', J, rv, q⟩ := hs
    exact fin J rv q
  | next =>
    obtain ⟨σ', H', J, q⟩ := hs
    exact fin (v := V.non) (u := Value.none) J rfl q
  | brk =>
    obtain ⟨_, _, _, q⟩ := hs
    exact False.elim q
  | cont =>
    obtain ⟨_, _, _, q⟩ := hs
    exact False.elim q
end L2

namespace L2
open PySem PySem.Spec PyProof.Rows
section
variable {X : Cx} {x : Str} {p pos : Pos} {e : Expr} {es : List Expr} {t : TA} {id T : String} {r : List V → Hp → VK → Prop}

def tCB (r : List V → Hp → VK → Prop) (t : TA) : TE := fun σ H Q => t σ H fun vs H1 => r vs H1 Q
/-- f(e, ..), f a built-in function -/
theorem pe_callB (hc : CallR X (.builtin id) r) (hg : Gl X x) (hm : X.mg x = none) (hv : bootBuiltins x = some (.builtin id)) (ha : PA X (e :: es) t) (hn : x ≠ "__name__" := by decide) (hdb : (x == ("__debug__" : Str)) = false := by decide)
    (he : starEach (e :: es) X.env = (false, eval e X.env) :: starEach es X.env := by rfl) (hpl : (backTo pos (starEach es X.env)).any (·.1) = false := by rfl) : PE X (.Call (.Name x p) (e :: es) [] pos) (tCB r t) := by
  intro pins s σ H Q I h
  refine wpAny_Call_Name_kw (ld_blt I hg hm hv ?_ hn hdb)
  exact PyProof.Rows.callWith_builtin1 (thn (ha pos pins s σ H _ I h) fun us s1 ⟨vs, H1, I1, r1, q1⟩ => hc pins s1 σ H1 vs us Q I1 r1 q1) he hpl
end
end L2

namespace HT
open PySem PyProof.Rows

section
open PySem.SeqAt
open PySem.AutoSeq1 (wpAny_loadPart')
open PySem.MeetsSeq PySem.MeetsSeq2 PySem.MeetsSeq3

end

section
variable {prog : Program} {w : World} {A : Around} {E : Value → Shared → Prop} {s : Shared}

/-! ### t[a:b], not the whole -/
/-- a slice's bound as a place among n (d where it is left out) -/
def sIx (n d : Nat) : Option Int → Nat
  | none => d
  | some v => if v < 0 then (v + (n : Int)).toNat else min v.toNat n
theorem sIx_none (n d : Nat) : sIx n d none = d := rfl
theorem sIx_nat (n d k : Nat) : sIx n d (some (k : Int)) = min k n := by
  show (if (k : Int) < 0 then ((k : Int) + (n : Int)).toNat else min (k : Int).toNat n) = min k n
  rw [if_neg (by omega), Int.toNat_natCast]
theorem sIx_le (n d : Nat) (hd : d ≤ n) (o : Option Int) : sIx n d o ≤ n := by
  cases o with
  | none => exact hd
  | some v =>
    show (if v < 0 then (v + (n : Int)).toNat else min v.toNat n) ≤ n
    by_cases hv : v < 0
    · rw [if_pos hv]; omega
    · rw [if_neg hv]; exact Nat.min_le_right _ _
end
end HT

namespace L2
open PySem PySem.Spec PyProof.Rows

/-! ### the parts of a slice -/
abbrev TO := St → Hp → (Option Int → Hp → Prop) → Prop
/-- a slice's part (left out, or an int) -/
def PO (X : Cx) (e : Option Expr) (t : TO) : Prop :=
  ∀ (pins : List (Addr × Obj)) (s : Shared) (σ : St) (H : Hp) (Q : Option Int → Hp → Prop), Inv X pins σ H s → t σ H Q →
    wpAny (model X.prog X.w) X.A (evalPart e X.env) (fun u s' => ∃ o H', Inv X pins σ H' s' ∧ IsPart u o ∧ Q o H') X.xe s
def tNoPart : TO := fun _ H Q => Q none H
def tPart (t : TE) : TO := fun σ H Q => t σ H fun x H1 => ∃ i, x = .int i ∧ Q (some i) H1

section
variable {X : Cx} {e : Expr} {te : TE} {lo hi : Option Expr} {tl th : TO} {pos p2 : Pos}

theorem po_none : PO X none tNoPart := by
  intro pins s σ H Q I h
  rw [evalPart_none]
  exact wpAny_pure ⟨none, H, I, .none, h⟩
theorem po_some (h : PE X e te) : PO X (some e) (tPart te) := by
  intro pins s σ H Q I hw
  rw [evalPart_some]
  refine thn (h pins s σ H _ I hw) fun u s1 ⟨x, H1, I1, r1, q1⟩ => ?_
  obtain ⟨i, rfl, q⟩ := q1
  obtain ⟨t, rfl⟩ := r1
  exact ⟨some i, H1, I1, .int i t, q⟩

/-- what a slice of a value is, by values: the slice object stands at sl -/
def SlR (X : Cx) (r : V → Option Int → Option Int → Hp → VK → Prop) : Prop :=
  ∀ (pins : List (Addr × Obj)) (s : Shared) (σ : St) (H : Hp) (x : V) (v vl vu : Value) (lo hi : Option Int) (sl : Addr) (Q : VK), Inv X pins σ H s → RelV x v → s.heap.IsSliceOf sl vl vu .none → IsPart vl lo → IsPart vu hi → r x lo hi H Q →
    ∃ T id, typeLookup (.type T) "__getitem__" = pure (some (.builtin id)) ∧ s.TypeIs v T ∧ wpAny (model X.prog X.w) X.A (getItem v (.ref sl)) (EP X pins σ Q) X.xe s
theorem SlR.or {r r' : V → Option Int → Option Int → Hp → VK → Prop} (h : SlR X r) (h' : SlR X r') : SlR X (fun x lo hi H Q => r x lo hi H Q ∨ r' x lo hi H Q) := by
  intro pins s σ H x v vl vu lo hi sl Q I rx hs pl pu q
  rcases q with q | q
  · exact h pins s σ H x v vl vu lo hi sl Q I rx hs pl pu q
  · exact h' pins s σ H x v vl vu lo hi sl Q I rx hs pl pu q
def tSl (r : V → Option Int → Option Int → Hp → VK → Prop) (te : TE) (tl th : TO) : TE := fun σ H Q => te σ H fun x H1 => tl σ H1 fun l H2 => th σ H2 fun u H3 => r x l u H3 Q
/-- a[lo:hi], any a -/
theorem pe_slice {r : V → Option Int → Option Int → Hp → VK → Prop} (hr : SlR X r) (he : PE X e te) (hl : PO X lo tl) (hu : PO X hi th) : PE X (.Subscript e (.Slice lo hi none p2) pos) (tSl r te tl th) := by
  intro pins s σ H Q I h
  refine Subscript_ (thn (he pins s σ H _ I h) fun v s1 ⟨x, H1, I1, r1, q1⟩ => ?_)
  refine wpAny_Slice (thn (hl pins s1 σ H1 _ I1 q1) fun vl s2 ⟨l, H2, I2, pl, q2⟩ => thn (hu pins s2 σ H2 _ I2 q2) fun vu s3 ⟨u, H3, I3, pu, q3⟩ => ?_)
  rw [evalPart_none]
  refine wpAny_pure ?_
  have I4 : Inv X pins σ H3 { s3 with heap := s3.heap.push { cls := .type "slice", data := .fields #[vl, vu, .none] } } := I3.kept (t' := s3.toks) fun b ob q => Heap.get?_push_of_some _ q
  obtain ⟨T, id, hT, ht, hg⟩ := hr pins { s3 with heap := s3.heap.push { cls := .type "slice", data := .fields #[vl, vu, .none] } } σ H3 x v vl vu l u s3.heap.objs.size Q I4 r1 (Heap.IsSliceOf.new ..) pl pu q3
  show wpAny (model X.prog X.w) X.A (subscriptTail e (.Slice lo hi none p2) v (.ref s3.heap.objs.size)) (EP X pins σ Q) X.xe { s3 with heap := s3.heap.push { cls := .type "slice", data := .fields #[vl, vu, .none] } }
  exact tail_any (ops := [.ref s3.heap.objs.size, v]) ht hT hg (by with_unfolding_all rfl)

/-- the items of xs[lo:hi] -/
def cutV (xs : List V) (lo hi : Option Int) : List V := (xs.drop (HT.sIx xs.length 0 lo)).take (HT.sIx xs.length xs.length hi - HT.sIx xs.length 0 lo)
theorem cutV_length (xs : List V) (lo hi : Option Int) : (cutV xs lo hi).length ≤ xs.length := by
  unfold cutV
  rw [List.length_take, List.length_drop]
  omega
/-! ### t < u, t + u -/
end
end L2

namespace L2
open PySem PySem.Spec PyProof.Rows

/-! ### places -/
/-- the place that an index of any sign means -/
def ixN (n : Nat) (i : Int) : Option Nat := if 0 ≤ i then (if i < n then some i.toNat else none) else if -(n : Int) ≤ i then some (i + n).toNat else none
def atI {α : Type} (xs : List α) (i : Int) : Option α := (ixN xs.length i).bind fun j => xs[j]?
theorem ixN_seq {n : Nat} {i : Int} {j : Nat} (h : ixN n i = some j) : seqIndex? i n = some j ∧ j < n ∧ -(n : Int) ≤ i ∧ i < n := by
  unfold ixN at h
  by_cases h0 : 0 ≤ i
  · rw [if_pos h0] at h
    by_cases h1 : i < n
    · rw [if_pos h1] at h
      have e : i.toNat = j := Option.some.inj h
      exact ⟨by rw [seqIndex_of h0 h1, e], by omega, by omega, h1⟩
    · rw [if_neg h1] at h; cases h
  · rw [if_neg h0] at h
    by_cases h1 : -(n : Int) ≤ i
    · rw [if_pos h1] at h
      have e : (i + n).toNat = j := Option.some.inj h
      exact ⟨by rw [seqIndex_neg (by omega) h1, e], by omega, h1, by omega⟩
    · rw [if_neg h1] at h; cases h
theorem atI_get {α : Type} {xs : List α} {i : Int} {v : α} (h : atI xs i = some v) : ∃ j, seqIndex? i xs.length = some j ∧ xs[j]? = some v ∧ j < xs.length ∧ -(xs.length : Int) ≤ i ∧ i < xs.length := by
  unfold atI at h
  cases e : ixN xs.length i with
  | none => rw [e] at h; cases h
  | some j =>
    rw [e] at h
    obtain ⟨h1, h2, h3, h4⟩ := ixN_seq e
    exact ⟨j, h1, h, h2, h3, h4⟩
theorem atI_nat {α : Type} {xs : List α} {j : Nat} {v : α} (h : xs[j]? = some v) : atI xs (j : Int) = some v := by
  have hj : j < xs.length := (List.getElem?_eq_some_iff.mp h).1
  have e : ixN xs.length (j : Int) = some j := by
    unfold ixN
    rw [if_pos (by omega), if_pos (by omega)]; simp
  unfold atI; rw [e]; exact h
/-! ### what may be subscripted -/
/-- what stands as an index of a plain subscript -/
def PlainIx (b : Expr) : Prop := ∀ o i, subscripted b false o i = operate [o, i] (getItem o i)
/-- a subscript by values -/
def IxR (X : Cx) (r : R2) : Prop :=
  ∀ (value slice : Expr) (pins : List (Addr × Obj)) (s : Shared) (σ : St) (H : Hp) (x y : V) (v u : Value) (Q : VK), Inv X pins σ H s → RelV x v → RelV y u → r x y H Q →
    subscripted slice false v u = operate [v, u] (getItem v u) → wpAny (model X.prog X.w) X.A (subscriptTail value slice v u) (EP X pins σ Q) X.xe s
/-- a call of a builtin's method by values: the receiver, the arguments -/
def MtR (X : Cx) (id : String) (r : V → List V → Hp → VK → Prop) : Prop :=
  ∀ (pins : List (Addr × Obj)) (s : Shared) (σ : St) (H : Hp) (x : V) (xs : List V) (v : Value) (us : List Value) (Q : VK), Inv X pins σ H s → RelV x v → Vals xs us → r x xs H Q →
    wpAny (model X.prog X.w) X.A (call (.builtin id) (v :: us)) (EP X pins σ Q) X.xe s
section
variable {X : Cx} {a b : Expr} {ta tb : TE} {pos : Pos}
theorem IxR.or {r r' : R2} (h : IxR X r) (h' : IxR X r') : IxR X (fun x y H Q => r x y H Q ∨ r' x y H Q) := by
  intro value slice pins s σ H x y v u Q I rx ry q hs
  rcases q with q | q
  · exact h value slice pins s σ H x y v u Q I rx ry q hs
  · exact h' value slice pins s σ H x y v u Q I rx ry q hs
/-- a[b] -/
theorem pe_ix {r : R2} (hr : IxR X r) (ha : PE X a ta) (hb : PE X b tb) (hs : PlainIx b) : PE X (.Subscript a b pos) (tOp r ta tb) := by
  intro pins s σ H Q I h
  exact Subscript_ (binT ha hb I h fun v u s2 x y H2 I2 rx ry q => hr a b pins s2 σ H2 x y v u Q I2 rx ry q (hs _ _))

def rIxL (K : PySem.W.Frag) : R2 := fun x y H Q => ∃ p xs i v, x = .ref p ∧ y = .int i ∧ SqL K H p xs ∧ atI xs i = some v ∧ Q v H
def rIxT (K : PySem.W.Frag) : R2 := fun x y H Q => ∃ p xs i v, x = .ref p ∧ y = .int i ∧ SqT K H p xs ∧ atI xs i = some v ∧ Q v H
def rIxS : R2 := fun x y H Q => ∃ z i c, x = .str z ∧ y = .int i ∧ z.length ≤ sizeLine ∧ atI z.cps.toList i = some c ∧ Q (.str ⟨#[c]⟩) H
theorem ix_list : IxR X (rIxL X.K) := by
  intro value slice pins s σ H x y v u Q I rx ry h hs
  obtain ⟨p, xs, i, z, rfl, rfl, hq, he, q⟩ := h
  cases rx
  obtain ⟨t, rfl⟩ := ry
  obtain ⟨its, r, pl, hz⟩ := I.list hq
  obtain ⟨j, h1, h2, h3, h4, h5⟩ := atI_get he
  obtain ⟨w, ew, rw'⟩ := r.get h2
  have hl := r.length
  have hn := line63
  have fin : EP X pins σ Q w s := ⟨z, H, I, rw', q⟩
  by_cases h0 : 0 ≤ i
  · have hj : i.toNat = j := by
      rw [seqIndex_of h0 h5] at h1
      exact Option.some.inj h1
    exact item_listR pl.isList h0 (by omega) (by rw [hj]; simpa using ew) fin hs
  · have hj : (i + (its.toArray.size : Int)).toNat = j := by
      rw [seqIndex_neg (by omega) h4] at h1
      rw [List.size_toArray, ← hl]
      exact Option.some.inj h1
    exact subscriptTail_builtinR (x := w) pl.isList.typeIs slot_list_getitem.lookup
      (wpAny_getItem_list_neg (Q := fun r s' => r = w ∧ EP X pins σ Q r s') pl.isList (by omega) (by rw [List.size_toArray] <;> omega) (by omega) (by rw [hj]; simpa using ew) ⟨rfl, fin⟩) hs
theorem ix_tup : IxR X (rIxT X.K) := by
  intro value slice pins s σ H x y v u Q I rx ry h hs
  obtain ⟨p, xs, i, z, rfl, rfl, hq, he, q⟩ := h
  cases rx
  obtain ⟨t, rfl⟩ := ry
  obtain ⟨its, r, pl, hz⟩ := I.tuple hq
  obtain ⟨j, h1, h2, h3, h4, h5⟩ := atI_get he
  obtain ⟨w, ew, rw'⟩ := r.get h2
  have hl := r.length
  have hn := line63
  have fin : EP X pins σ Q w s := ⟨z, H, I, rw', q⟩
  exact subscriptTail_builtinR (x := w) pl.typeIs slot_tuple_getitem.lookup
    (getItem_tuple (j := j) (Q := fun r s' => r = w ∧ EP X pins σ Q r s') pl (by omega) (by omega) (by rw [List.size_toArray, ← hl]; exact h1) (by simpa using ew) ⟨rfl, fin⟩) hs
theorem ix_str : IxR X rIxS := by
  intro value slice pins s σ H x y v u Q I rx ry h hs
  obtain ⟨z, i, c, rfl, rfl, hz, he, q⟩ := h
  obtain ⟨t, rfl⟩ := rx
  obtain ⟨t', rfl⟩ := ry
  obtain ⟨j, h1, h2, h3, h4, h5⟩ := atI_get he
  have hl : z.cps.toList.length = z.length := by simp [Str.length]
  rw [hl] at h1 h4 h5
  have hn := line63
  exact tail_any (typeIs_str s z t) slot_str_getitem.lookup (getItem_str (c := c) (by
    have e1 : decide (i < -(2 ^ 63 : Int)) = false := decide_eq_false (by omega)
    have e2 : decide (i ≥ 2 ^ 63) = false := decide_eq_false (by omega)
    rw [e1, e2, Bool.or_false]) (by rw [h1]; simpa using h2) ⟨.str ⟨#[c]⟩, H, I.tok _, ⟨_, rfl⟩, q⟩) hs
/-- list, tuple or str -/
def rIx (K : PySem.W.Frag) : R2 := fun x y H Q => rIxL K x y H Q ∨ rIxT K x y H Q ∨ rIxS x y H Q
theorem ix_seq : IxR X (rIx X.K) := ix_list.or (ix_tup.or ix_str)

/-! ### xs[i] = v, any sign -/
/-! ### slices -/
theorem slice_bounds (lo hi : Option Int) (n : Nat) : (sliceBounds lo hi none n).1 = ((HT.sIx n 0 lo : Nat) : Int) ∧ (sliceBounds lo hi none n).2.1 = ((HT.sIx n n hi : Nat) : Int) ∧ (sliceBounds lo hi none n).2.2 = 1 := by
  refine ⟨?_, ?_, rfl⟩
  · cases lo with
    | none => simp [sliceBounds, HT.sIx]
    | some i =>
      simp only [sliceBounds, HT.sIx, Option.getD_none, show (1 : Int) > 0 by decide, if_true]
      by_cases h : i < 0
      · simp only [h, if_true] <;> omega
      · simp only [h, if_false] <;> omega
  · cases hi with
    | none => simp [sliceBounds, HT.sIx]
    | some i =>
      simp only [sliceBounds, HT.sIx, Option.getD_none, show (1 : Int) > 0 by decide, if_true]
      by_cases h : i < 0
      · simp only [h, if_true] <;> omega
      · simp only [h, if_false] <;> omega
theorem slicePick_cut (its : List Value) (lo hi : Option Int) : slicePick its.toArray lo hi none = ((its.drop (HT.sIx its.length 0 lo)).take (HT.sIx its.length its.length hi - HT.sIx its.length 0 lo)).toArray := by
  obtain ⟨h1, h2, h3⟩ := slice_bounds lo hi its.toArray.size
  unfold slicePick
  rw [h1, h2, h3]
  simp only [sliceRange_one, pick_run, List.size_toArray] <;> rfl
/-- xs[lo:hi] of a list: a new list -/
def rSlL (K : PySem.W.Frag) : V → Option Int → Option Int → Hp → VK → Prop := fun x lo hi H Q => ∃ a xs, x = .ref a ∧ SqL K H a xs ∧ ∀ p, H p = none → Q (.ref p) (upd H p (.lst (cutV xs lo hi)))
theorem sl_list : SlR X (rSlL X.K) := by
  intro pins s σ H x v vl vu lo hi sl Q I rx hs pl pu h
  obtain ⟨a, xs, rfl, hx, q⟩ := h
  cases rx
  obtain ⟨its, r, ht, hz⟩ := I.list hx
  have hlen := r.length
  refine ⟨"list", _, slot_list_getitem.lookup, ht.isList.typeIs, ?_⟩
  refine wpAny_getItem_list_slice ht.isList hs pl pu .none (by simp) ?_ (by rw [List.size_toArray] <;> omega)
  rw [slicePick_cut, ← hlen]
  refine ⟨.ref s.heap.objs.size, _, I.laid (t' := s.toks) (o := .lst (cutV xs lo hi)) (fun b ob q => Heap.get?_push_of_some _ q) (Nat.le_refl _) ?_, rfl, q _ (I.hok.fresh (Nat.le_refl _))⟩
  exact ⟨Nat.le_trans (cutV_length xs lo hi) hz, _, 0, (r.drop (HT.sIx xs.length 0 lo)).take (HT.sIx xs.length xs.length hi - HT.sIx xs.length 0 lo), Heap.get?_push_size _ rfl⟩

/-! ### in, not in: flat items -/
def flatV : V → Bool
  | .non => true
  | .bl _ => true
  | .int _ => true
  | .str _ => true
  | _ => false
/-- == of flat values -/
def eqV : V → V → Bool
  | .non, .non => true
  | .bl a, .bl b => a == b
  | .bl a, .int b => (if a then 1 else 0) == b
  | .int a, .bl b => a == (if b then 1 else 0)
  | .int a, .int b => a == b
  | .str a, .str b => a == b
  | _, _ => false
theorem eqAt_V {A : Around} {s : Shared} {y x : V} {u v : Value} (ry : RelV y u) (rx : RelV x v) (fy : flatV y = true) (fx : flatV x = true) : SeqAt.EqAt A s u v (eqV y x) := by
  cases y with
  | non =>
    cases ry
    cases x with
    | non => cases rx; exact SeqAt.EqAt.same _
    | bl b => cases rx; exact SeqAt.EqAt.none_bool b
    | int b => obtain ⟨t, rfl⟩ := rx; exact SeqAt.EqAt.none_int b t
    | str b => obtain ⟨t, rfl⟩ := rx; exact SeqAt.EqAt.none_str b t
    | _ => exact absurd (show false = true from fx) Bool.false_ne_true
  | bl a =>
    cases ry
    cases x with
    | non => cases rx; exact SeqAt.EqAt.bool_none a
    | bl b => cases rx; exact SeqAt.EqAt.bool_bool a b
    | int b => obtain ⟨t, rfl⟩ := rx; exact SeqAt.EqAt.bool_int a b t
    | str b => obtain ⟨t, rfl⟩ := rx; exact SeqAt.EqAt.bool_str a b t
    | _ => exact absurd (show false = true from fx) Bool.false_ne_true
  | int a =>
    obtain ⟨t', rfl⟩ := ry
    cases x with
    | non => cases rx; exact SeqAt.EqAt.int_none a t'
    | bl b => cases rx; exact SeqAt.EqAt.int_bool a t' b
    | int b => obtain ⟨t, rfl⟩ := rx; exact SeqAt.EqAt.int_int a t' b t
    | str b => obtain ⟨t, rfl⟩ := rx; exact SeqAt.EqAt.int_str a t' b t
    | _ => exact absurd (show false = true from fx) Bool.false_ne_true
  | str a =>
    obtain ⟨t', rfl⟩ := ry
    cases x with
    | non => cases rx; exact SeqAt.EqAt.str_none a t'
    | bl b => cases rx; exact SeqAt.EqAt.str_bool a t' b
    | int b => obtain ⟨t, rfl⟩ := rx; exact SeqAt.EqAt.str_int a t' b t
    | str b => obtain ⟨t, rfl⟩ := rx; exact SeqAt.EqAt.str_str a t' b t
    | _ => exact absurd (show false = true from fx) Bool.false_ne_true
  | _ => exact absurd (show false = true from fy) Bool.false_ne_true
/-- the items' answers, read off the values (a value's own answer does not lean on its token) -/
def eqU (x : V) (u : Value) : Bool := match u with
  | .none => eqV .non x
  | .bool b => eqV (.bl b) x
  | .int i _ => eqV (.int i) x
  | .str z _ => eqV (.str z) x
  | _ => false
theorem eqU_of {x y : V} {u : Value} (r : RelV y u) (f : flatV y = true) : eqU x u = eqV y x := by
  cases y with
  | non => cases r; rfl
  | bl b => cases r; rfl
  | int i => obtain ⟨t, rfl⟩ := r; rfl
  | str z => obtain ⟨t, rfl⟩ := r; rfl
  | _ => exact absurd (show false = true from f) Bool.false_ne_true
theorem any_eqU {x : V} : ∀ {xs : List V} {us : List Value}, Vals xs us → xs.all flatV = true → us.any (eqU x) = xs.any fun y => eqV y x
  | _, _, .nil, _ => rfl
  | y :: xs, u :: us, .cons r t, f => by
    rw [List.all_cons, Bool.and_eq_true] at f
    rw [List.any_cons, List.any_cons, eqU_of r f.1, any_eqU t f.2]
theorem mem_eqAt {A : Around} {s : Shared} {x : V} {v : Value} (rx : RelV x v) (fx : flatV x = true) : ∀ {xs : List V} {us : List Value}, Vals xs us → xs.all flatV = true → ∀ u ∈ us, SeqAt.EqAt A s u v (eqU x u)
  | _, _, .nil, _ => fun u hu => by cases hu
  | y :: xs, u :: us, .cons r t, f => fun u' hu => by
    rw [List.all_cons, Bool.and_eq_true] at f
    rcases List.mem_cons.mp hu with rfl | hu
    · rw [eqU_of r f.1]; exact eqAt_V r rx f.1 fx
    · exact mem_eqAt rx fx t f.2 u' hu
def inV (x : V) (xs : List V) : Bool := xs.any fun y => eqV y x
/-- x in a list or tuple of flat items -/
def rIn (K : PySem.W.Frag) (neg : Bool) : R2 := fun x y H Q => ∃ p xs, y = .ref p ∧ (SqL K H p xs ∨ SqT K H p xs) ∧ flatV x = true ∧ xs.all flatV = true ∧ Q (.bl (if neg then !inV x xs else inV x xs)) H
theorem op_in_seq : OpR X (compareOp .In) (rIn X.K false) := by
  intro pins s σ H x y v u Q I rx ry h
  obtain ⟨p, xs, rfl, hq, fx, fs, q⟩ := h
  cases ry
  rcases hq with hq | hq
  · obtain ⟨its, r, pl, hz⟩ := I.list hq
    refine SeqAt.in_listAt (eqU x) pl.isList (fun w hw => mem_eqAt rx fx r fs w (by simpa using hw)) ⟨.bl _, H, I, rfl, ?_⟩
    rw [show its.toArray.any (eqU x) = its.any (eqU x) by simp, any_eqU r fs]
    exact q
  · obtain ⟨its, r, pl, hz⟩ := I.tuple hq
    refine SeqAt.in_tupleAt (eqU x) pl (fun w hw => mem_eqAt rx fx r fs w (by simpa using hw)) ⟨.bl _, H, I, rfl, ?_⟩
    rw [show its.toArray.any (eqU x) = its.any (eqU x) by simp, any_eqU r fs]
    exact q
/-! ### len, list(x), tuple(x) of any list or tuple that is read -/
theorem call_len_seq : CallR X (.builtin "len") (fun xs H Q => ∃ p ys, xs = [.ref p] ∧ (SqL X.K H p ys ∨ SqT X.K H p ys) ∧ Q (.int ys.length) H) := by
  intro pins s σ H xs us Q I r h
  obtain ⟨p, ys, rfl, hq, q⟩ := h
  obtain ⟨u, rfl, rx⟩ := vals1 r
  cases rx
  have hn := line63
  rcases hq with hq | hq
  · obtain ⟨its, r', pl, hz⟩ := I.list hq
    have hlen := r'.length
    exact Calls.call_len_list pl.isList (by simp only [List.size_toArray] <;> omega) ⟨.int ys.length, H, I.tok _, ⟨s.toks + 1, by rw [List.size_toArray, hlen]⟩, q⟩
  · obtain ⟨its, r', pl, hz⟩ := I.tuple hq
    have hlen := r'.length
    exact len_tuple pl (by simp only [List.size_toArray] <;> omega) ⟨.int ys.length, H, I.tok _, ⟨s.toks + 1, by rw [List.size_toArray, hlen]⟩, q⟩
theorem call_len_str : CallR X (.builtin "len") (fun xs H Q => ∃ z, xs = [.str z] ∧ z.length ≤ sizeLine ∧ Q (.int z.length) H) := by
  intro pins s σ H xs us Q I r h
  obtain ⟨z, rfl, hz, q⟩ := h
  obtain ⟨u, rfl, t, rfl⟩ := vals1 r
  have hn := line63
  exact len_str (by omega) ⟨.int z.length, H, I.tok _, ⟨_, rfl⟩, q⟩
theorem CallR.or {f : Value} {r r' : List V → Hp → VK → Prop} (h : CallR X f r) (h' : CallR X f r') : CallR X f (fun xs H Q => r xs H Q ∨ r' xs H Q) := by
  intro pins s σ H xs us Q I rs q
  rcases q with q | q
  · exact h pins s σ H xs us Q I rs q
  · exact h' pins s σ H xs us Q I rs q
/-! ### the call of a builtin's method: o.m(..) -/
/-- the value is of that builtin type -/
def tyV (K : PySem.W.Frag) (T : String) (x : V) (H : Hp) : Prop := match x with
  | .str _ => T = "str"
  | .int _ => T = "int"
  | .ref p => (T = "list" ∧ ∃ xs, SqL K H p xs) ∨ (T = "tuple" ∧ ∃ o, K.lookup p = some o ∧ o.cls = .type "tuple" ∧ o.dict = none) ∨
      (T = "dict" ∧ ((∃ kvs, H p = some (.dK kvs)) ∨ ∃ kvs, H p = some (.dT kvs))) ∨ (T = "set" ∧ ∃ S n, H p = some (.set S n))
  | _ => False
theorem tyV_is {pins : List (Addr × Obj)} {σ : St} {H : Hp} {s : Shared} {T : String} {x : V} {v : Value} (I : Inv X pins σ H s) (r : RelV x v) (ty : tyV X.K T x H) :
    s.TypeIs v T ∧ ∀ a, v = .ref a → ∃ ob, s.heap.get? a = some ob ∧ ob.dict = none := by
  cases x with
  | str z =>
    obtain ⟨t, rfl⟩ := r
    cases (show T = "str" from ty)
    exact ⟨typeIs_str s z t, fun _ e => nomatch e⟩
  | int i =>
    obtain ⟨t, rfl⟩ := r
    cases (show T = "int" from ty)
    exact ⟨typeIs_int s i t, fun _ e => nomatch e⟩
  | ref p =>
    cases r
    rcases ty with ⟨rfl, xs, hq⟩ | ⟨rfl, o, hk, hc, hd⟩ | ⟨rfl, hk⟩ | ⟨rfl, S, n, hk⟩
    · obtain ⟨its, _, pl, _⟩ := I.list hq
      refine ⟨pl.isList.typeIs, fun a e => ?_⟩
      cases e
      obtain ⟨o, n, e, c, hd, _⟩ := pl
      exact ⟨o, e, hd⟩
    · refine ⟨⟨o, I.kIn p o hk, hc⟩, fun a e => ?_⟩
      cases e
      exact ⟨o, I.kIn _ o hk, hd⟩
    · have z : ∃ o, s.heap.get? p = some o ∧ o.ExactDict := by
        rcases hk with ⟨kvs, hk⟩ | ⟨kvs, hk⟩
        · obtain ⟨_, _, _, _, o, _, _, e, ex, _⟩ := I.hok p _ hk
          exact ⟨o, e, ex⟩
        · obtain ⟨_, _, _, _, o, _, _, e, ex, _⟩ := I.hok p _ hk
          exact ⟨o, e, ex⟩
      obtain ⟨o, e, ex⟩ := z
      refine ⟨⟨o, e, ex.1⟩, fun a e2 => ?_⟩
      cases e2
      exact ⟨o, e, ex.2.1⟩
    · obtain ⟨o, _, _, _, e, ex, _⟩ := I.hok p _ hk
      refine ⟨⟨o, e, ex.1⟩, fun a e2 => ?_⟩
      cases e2
      exact ⟨o, e, ex.2.1⟩
  | _ => exact False.elim ty
def tBM0 (K : PySem.W.Frag) (T : String) (r : V → List V → Hp → VK → Prop) (to : TE) : TE := fun σ H Q => to σ H fun x H1 => tyV K T x H1 ∧ r x [] H1 Q
def tBM (K : PySem.W.Frag) (T : String) (r : V → List V → Hp → VK → Prop) (to : TE) (t : TA) : TE := fun σ H Q => to σ H fun x H1 => tyV K T x H1 ∧ t σ H1 fun xs H2 => r x xs H2 Q
variable {o e : Expr} {es : List Expr} {to : TE} {t : TA} {name : Str} {apos cpos : Pos} {T id : String} {r : V → List V → Hp → VK → Prop}
theorem pe_bm0 (pa : PlainAttrs T) (slot : Slot T name id) (hty : typeOf (.builtin id) = pure (.type "method_descriptor")) (hm : MtR X id r) (ho : PE X o to)
    (hbase : attributeBase o name X.env (eval o X.env) = eval o X.env := by rfl) (hline : (apos.endLine == cpos.line) = true := by rfl) : PE X (.Call (.Attribute o name apos) [] [] cpos) (tBM0 X.K T r to) := by
  intro pins s σ H Q I h
  refine wpAny_Call_method0_late hbase hline (thn (ho pins s σ H _ I h) fun v s1 ⟨x, H1, I1, r1, ty, q1⟩ => ?_)
  obtain ⟨h1, h2⟩ := tyV_is I1 r1 ty
  exact ⟨T, id, pa, slot, hty, h1, h2, Calls.callWith_builtin rfl (PySem.evalArgs_none (hm pins s1 σ H1 x [] v [] Q I1 r1 .nil q1))⟩
theorem pe_bm (pa : PlainAttrs T) (slot : Slot T name id) (hty : typeOf (.builtin id) = pure (.type "method_descriptor")) (hm : MtR X id r) (ho : PE X o to) (ha : PA X (e :: es) t)
    (hbase : attributeBase o name X.env (eval o X.env) = eval o X.env := by rfl)
    (hfew : ((backTo cpos (starEach (e :: es) X.env)).all (fun x => !x.1) && (backToKw cpos (keywordEach [] X.env)).all (fun x => x.1.isSome)
      && decide ((e :: es).length + ([] : List Keyword).length + (if ([] : List Keyword).isEmpty then 0 else 1) < 30)) = true := by rfl)
    (hline : (apos.endLine == cpos.line) = true := by rfl) (hs : starEach (e :: es) X.env = (false, eval e X.env) :: starEach es X.env := by rfl) (hplain : (backTo cpos (starEach es X.env)).any (·.1) = false := by rfl) :
    PE X (.Call (.Attribute o name apos) (e :: es) [] cpos) (tBM X.K T r to t) := by
  intro pins s σ H Q I h
  refine wpAny_Call_method_late hbase hfew hline rfl (thn (ho pins s σ H _ I h) fun v s1 ⟨x, H1, I1, r1, ty, q1⟩ => ?_)
  obtain ⟨h1, h2⟩ := tyV_is I1 r1 ty
  refine ⟨T, id, pa, slot, hty, h1, h2, ?_⟩
  have hA := ha cpos pins s1 σ H1 _ I1 q1
  rw [hs] at hA ⊢
  refine Calls.callWith_builtin (by show (false || (backTo cpos (starEach es X.env)).any (·.1)) = false; rw [hplain] <;> rfl) (Calls.evalArgs_plain ?_)
  exact thn hA fun us s2 ⟨vs, H2, I2, r2, q2⟩ => hm pins s2 σ H2 x vs v us Q I2 r1 r2 q2
/- xs.append(e), list.index on a module's tuple .. are MtR facts of 06m -/
end
end L2

namespace L2
open PySem PySem.Spec PyProof.Rows

def MtM (X : Cx) (id : String) (r : V → List V → Hp → VK → Prop) : Prop :=
  ∀ (pins : List (Addr × Obj)) (s : Shared) (σ : St) (H : Hp) (x : V) (xs : List V) (v : Value) (us : List Value) (Q : VK), Inv X pins σ H s → RelV x v → Vals xs us → r x xs H Q →
    wpAny (model X.prog X.w) X.A (call (.builtin id) (v :: us)) (EP X pins σ Q) X.xe s

/-! ### lists of values -/
theorem Vals.one : ∀ {x : V} {us : List Value}, Vals [x] us → ∃ u, us = [u] ∧ RelV x u
  | _, _, .cons r .nil => ⟨_, rfl, r⟩
theorem Vals.zero : ∀ {us : List Value}, Vals [] us → us = []
  | _, .nil => rfl
theorem Vals.eraseIdx : ∀ {xs : List V} {us : List Value} (i : Nat), Vals xs us → Vals (xs.eraseIdx i) (us.eraseIdx i)
  | _, _, _, .nil => .nil
  | _, _, 0, .cons _ t => t
  | _, _, i + 1, .cons r t => .cons r (Vals.eraseIdx i t)
theorem Vals.rep {xs : List V} {us : List Value} (h : Vals xs us) : ∀ k : Nat, Vals (List.replicate k xs).flatten (List.replicate k us).flatten
  | 0 => .nil
  | k + 1 => by
    rw [List.replicate_succ, List.replicate_succ, List.flatten_cons, List.flatten_cons]
    exact Vals.append h (Vals.rep h k)
theorem len_erase {α : Type} : ∀ (l : List α) (i : Nat), (l.eraseIdx i).length ≤ l.length
  | [], _ => Nat.le_refl _
  | _ :: _, 0 => Nat.le_succ _
  | _ :: r, i + 1 => Nat.succ_le_succ (len_erase r i)
theorem foldl_rep (its : List Value) : ∀ (k : Nat) (acc : List Value),
    List.foldl (fun x1 x2 => x1 ++ x2) acc.toArray (List.replicate k its.toArray) = (acc ++ (List.replicate k its).flatten).toArray
  | 0, acc => by simp
  | k + 1, acc => by
    have e : acc.toArray ++ its.toArray = (acc ++ its).toArray := by simp
    have e2 : (acc ++ its) ++ (List.replicate k its).flatten = acc ++ (List.replicate (k + 1) its).flatten := by
      rw [List.replicate_succ, List.flatten_cons, List.append_assoc]
    rw [← e2, ← foldl_rep its k (acc ++ its), ← e, List.replicate_succ, List.foldl_cons]

section
variable {X : Cx} {pins : List (Addr × Obj)} {σ : St} {H : Hp} {s : Shared} {l b : Addr} {xs ys zs : List V}

/-! ### the two steps: a tracked list is rewritten, a new list is laid -/
theorem Inv.lset {its its' : List Value} {n : Nat} {f : Array Value → Array Value} {t' : Nat} (I : Inv X pins σ H s) (hH : H l = some (.lst xs))
    (e : s.heap.get? l = some { cls := .type "list", data := .seq its.toArray n }) (hf : f its.toArray = its'.toArray) (hv : Vals ys its') (hz : ys.length ≤ sizeLine) :
    Inv X pins σ (upd H l (.lst ys)) { s with heap := s.heap.update l (Obj.mapSeq f), toks := t' } := by
  have q := PySem.IsL.update e f
  rw [hf] at q
  refine I.write (x := l) (e := l) (by rw [hH]; exact trivial) (.inl rfl) (fun b' u hb hu => (Heap.get?_update_other s.heap (Obj.mapSeq f) (Ne.symm hb)).trans hu) ⟨_, q⟩ ?_
  exact ⟨hz, its', _, hv, q⟩
theorem Inv.lnew {its : List Value} {t' : Nat} (I : Inv X pins σ H s) (hv : Vals ys its) (hz : ys.length ≤ sizeLine) :
    Inv X pins σ (upd H s.heap.objs.size (.lst ys)) { s with heap := s.heap.push { cls := .type "list", data := .seq its.toArray }, toks := t' } :=
  I.laid (fun _ _ q => Heap.get?_push_of_some _ q) (Nat.le_refl _) ⟨hz, its, 0, hv, Heap.get?_push_size _ rfl⟩
theorem Inv.fresh (I : Inv X pins σ H s) : H s.heap.objs.size = none := I.hok.fresh (Nat.le_refl _)
theorem Inv.lstM (I : Inv X pins σ H s) (hH : H l = some (.lst xs)) : xs.length ≤ sizeLine ∧ ∃ (its : List Value) (n : Nat), Vals xs its ∧ xs.length = its.length ∧ s.heap.get? l = some { cls := .type "list", data := .seq its.toArray n } := by
  obtain ⟨z, its, n, r, e⟩ := I.hok l _ hH
  exact ⟨z, its, n, r, r.length, e⟩

theorem notLongL {n : Nat} (h : n ≤ sizeLine) : Builtin.List.listTooLong n = false := by
  unfold Builtin.List.listTooLong
  exact decide_eq_false (by omega)
end

section
variable {X : Cx}

/-! ### methods -/
def rAppend : V → List V → Hp → VK → Prop := fun x vs H Q => ∃ l xs y, x = .ref l ∧ vs = [y] ∧ H l = some (.lst xs) ∧ xs.length < sizeLine ∧ Q .non (upd H l (.lst (xs ++ [y])))
theorem mt_append : MtM X "list.append" rAppend := by
  intro pins s σ H x vs v us Q I rx rv h
  obtain ⟨l, xs, y, rfl, rfl, hH, hz, q⟩ := h
  cases rx
  obtain ⟨u, rfl, ru⟩ := rv.one
  obtain ⟨z, its, n, r, hl, e⟩ := I.lstM hH
  refine call_meets F.slot_list_append ⟨_, e, rfl⟩ F.entry_list_append (F.args_list_append_2 _ _) (PySem.list_append l its.toArray n u (by rw [List.size_toArray]; omega)) ⟨e, ?_⟩
  refine ⟨.non, _, I.lset (its' := its ++ [u]) hH e (by simp) (r.append (.cons ru .nil)) ?_, rfl, q⟩
  rw [List.length_append, List.length_singleton]
  omega

def rExtend : V → List V → Hp → VK → Prop := fun x vs H Q => ∃ l b xs zs, x = .ref l ∧ vs = [.ref b] ∧ H l = some (.lst xs) ∧ H b = some (.lst zs) ∧ xs.length + zs.length ≤ sizeLine ∧ Q .non (upd H l (.lst (xs ++ zs)))
theorem mt_extend : MtM X "list.extend" rExtend := by
  intro pins s σ H x vs v us Q I rx rv h
  obtain ⟨l, b, xs, zs, rfl, rfl, hH, hB, hz, q⟩ := h
  cases rx
  obtain ⟨u, rfl, ru⟩ := rv.one
  cases ru
  obtain ⟨z, its, n, r, hl, e⟩ := I.lstM hH
  obtain ⟨z2, its2, n2, r2, hl2, e2⟩ := I.lstM hB
  have hsz : its.toArray.size + its2.toArray.size ≤ sizeLine := by rw [List.size_toArray, List.size_toArray]; omega
  have hlong : ¬ (!its.toArray.isEmpty && Builtin.List.listTooLong (its.toArray.size + its2.toArray.size)) = true := by
    rw [notLongL hsz, Bool.and_false]
    exact Bool.false_ne_true
  refine call_meets F.slot_list_extend ⟨_, e, rfl⟩ F.entry_list_extend (F.args_list_extend_2 _ _)
    (AutoSeq1.list_extend_list_list_0 l its.toArray n b its2.toArray n2 hlong (by rw [List.size_toArray]; omega) (by omega)) ⟨e, e2, ?_⟩
  refine ⟨.non, _, I.lset (its' := its ++ its2) hH e (by simp) (r.append r2) ?_, rfl, q⟩
  rw [List.length_append]
  omega

def rClear : V → List V → Hp → VK → Prop := fun x vs H Q => ∃ l xs, x = .ref l ∧ vs = [] ∧ H l = some (.lst xs) ∧ Q .non (upd H l (.lst []))
theorem mt_clear : MtM X "list.clear" rClear := by
  intro pins s σ H x vs v us Q I rx rv h
  obtain ⟨l, xs, rfl, rfl, hH, q⟩ := h
  cases rx
  have hus := rv.zero
  subst hus
  obtain ⟨z, its, n, r, hl, e⟩ := I.lstM hH
  refine call_meets F.slot_list_clear ⟨_, e, rfl⟩ F.entry_list_clear (F.args_list_clear_1 _) (AutoSeq1.list_clear_list_0 l its.toArray n (by rw [List.size_toArray]; omega)) ⟨e, ?_⟩
  exact ⟨.non, _, I.lset (its' := []) (ys := []) hH e rfl .nil (Nat.zero_le _), rfl, q⟩

/-! ### list + list, list += list, list * int -/
def rCat : R2 := fun x y H Q => ∃ l b xs zs, x = .ref l ∧ y = .ref b ∧ H l = some (.lst xs) ∧ H b = some (.lst zs) ∧ xs.length + zs.length ≤ sizeLine ∧ ∀ p, H p = none → Q (.ref p) (upd H p (.lst (xs ++ zs)))
theorem op_cat : OpR X (binaryOp .Add) rCat := by
  intro pins s σ H x y v u Q I rx ry h
  obtain ⟨l, b, xs, zs, rfl, rfl, hH, hB, hz, q⟩ := h
  cases rx
  cases ry
  obtain ⟨z, its, n, r, hl, e⟩ := I.lstM hH
  obtain ⟨z2, its2, n2, r2, hl2, e2⟩ := I.lstM hB
  refine PySem.P.add_list e e2 ?_ (by rw [List.size_toArray, List.size_toArray]; omega)
  have ea : its.toArray ++ its2.toArray = (its ++ its2).toArray := by simp
  rw [ea]
  exact ⟨.ref _, _, I.lnew (t' := s.toks) (r.append r2) (by rw [List.length_append]; omega), rfl, q _ I.fresh⟩
/-- a list times an int (a negative one is nothing) -/
def rRep : R2 := fun x y H Q => ∃ l k xs, x = .ref l ∧ y = .int k ∧ H l = some (.lst xs) ∧ -(2 ^ 63) ≤ k ∧ k < 2 ^ 63 ∧ xs.length * k.toNat ≤ sizeLine ∧
  ∀ p, H p = none → Q (.ref p) (upd H p (.lst (List.replicate k.toNat xs).flatten))
theorem len_rep {α : Type} (xs : List α) (k : Nat) : (List.replicate k xs).flatten.length = k * xs.length := by
  induction k with
  | zero => simp
  | succ k ih => rw [List.replicate_succ, List.flatten_cons, List.length_append, ih, Nat.succ_mul, Nat.add_comm]
theorem op_rep : OpR X (binaryOp .Mult) rRep := by
  intro pins s σ H x y v u Q I rx ry h
  obtain ⟨l, k, xs, rfl, rfl, hH, h1, h2, hz, q⟩ := h
  cases rx
  obtain ⟨t, rfl⟩ := ry
  obtain ⟨z, its, n, r, hl, e⟩ := I.lstM hH
  have hlen : its.toArray.size * k.toNat ≤ sizeLine := by rw [List.size_toArray, ← hl]; exact hz
  have hcap : ¬ its.toArray.size * k.toNat > (2 ^ 63 - 1) / 8 := by
    have : (sizeLine : Nat) ≤ (2 ^ 63 - 1) / 8 := by decide
    omega
  have hfit : ¬ (!Builtin.List.listFitsIndex k) = true := by
    rw [fitsIndex_both h1 h2]
    exact Bool.false_ne_true
  have hlong : ¬ Builtin.List.listTooLong (its.toArray.size * k.toNat) = true := by
    rw [notLongL hlen]
    exact Bool.false_ne_true
  have hnew : List.foldl (fun x1 x2 => x1 ++ x2) #[] (List.replicate (if its.toArray.isEmpty = true then 0 else k.toNat) its.toArray) = (List.replicate k.toNat its).flatten.toArray := by
    have f0 : ∀ m : Nat, List.foldl (fun x1 x2 => x1 ++ x2) #[] (List.replicate m its.toArray) = (List.replicate m its).flatten.toArray := fun m => by
      have := foldl_rep its m []
      rw [List.nil_append] at this
      exact this
    rw [f0]
    cases its with
    | nil => simp
    | cons a r' => rw [if_neg (by simp)]
  refine wpAny_binaryOp_repeat_ref (T := "list") (U := "int") (by decide) ⟨_, e, rfl⟩ (fun s' => typeIs_int s' k t) noFill_list_mul F.fills_int_mul F.slot_int_rmul repeat_list F.slot_int_index.lookup
    (call_meets F.slot_int_rmul (typeIs_int s k t) F.entry_int_rmul (F.args_int_rmul_2 _ _) (int___rmul___int_list k t l its.toArray n)
      ⟨e, rfl, ⟨_, e, rfl⟩, call_meets F.slot_list_mul ⟨_, e, rfl⟩ F.entry_list_mul (F.args_list_mul_2 _ _) (AutoListH.list___mul___list_int_3 l its.toArray n k t hfit hcap hlong) ⟨e, ?_⟩⟩)
  rw [hnew]
  exact ⟨.ref _, _, I.lnew (t' := s.toks) (r.rep k.toNat) (by rw [len_rep, Nat.mul_comm]; exact hz), rfl, q _ I.fresh⟩

/-! ### del xs[i] -/
end

/-! ### xs[a:b] = ys -/
section
variable {prog : Program} {w : World} {A : Around} {E : Value → Shared → Prop} {s : Shared}
end

section
variable {X : Cx}
end
end L2

namespace Att
open PySem PySem.W PySem.Calls PyProof.Rows

/-! ### the script -/
theorem ints_of_wellAll {P : Params} {h : Heap} : ∀ (ns : List Int) (vs : List Value), WellAll P h vs (ns.map WData.int) → IntsAre vs ns := by
  intro ns
  induction ns with
  | nil =>
    intro vs w
    rw [List.map_nil] at w
    cases w
    exact .nil
  | cons n ns ih =>
    intro vs w
    rw [List.map_cons] at w
    cases w with
    | cons a b =>
      cases a
      exact .cons _ _ (ih _ b)

theorem script_of {l : OpenLaw} {n : Nat} (hn : l.most = some n) {P : Params} {h : Heap} {args : List WData} {vals : List Value}
    (hpre : l.row.toRowW.claim.pre args = true) (hwl : WellAll P h vals args) :
    ∃ a vs ns, vals = [Value.ref a] ∧ args = [WData.list (ns.map WData.int)] ∧ h.get? a = some { cls := .type "list", data := .seq vs.toArray } ∧ IntsAre vs ns ∧ ns.length ≤ n := by
  have hsh : WShape.hasAll [] args [.list .int] = true := (pre_splitW hpre).1
  have hc : l.pre.holds [] { args := args } = true := (pre_splitW hpre).2
  obtain ⟨d, r, rfl, h1, h2⟩ := hasAllW_cons hsh
  obtain rfl := hasAllW_nil h2
  obtain ⟨xs, rfl, h3⟩ := hasW_list h1
  obtain ⟨ns, rfl⟩ := items_int h3
  have hlen : ns.length ≤ n := by
    unfold OpenLaw.pre at hc
    have h4 : (WTm.not (.lt (.lit (.int (n : Int))) (.len (.arg 0)))).holds [] { args := [.list (ns.map .int)] } = true := by
      have h4 := (holds_andW hc).1
      rw [hn] at h4
      exact h4
    have h5 := condW_of h4 (w_not (w_lt w_lit (w_len_list (w_arg rfl))))
    rw [List.length_map] at h5
    refine Nat.le_of_not_lt fun q => ?_
    have q' : (n : Int) < ((ns.length : Nat) : Int) := by omega
    first
      | (rw [decide_eq_true q'] at h5; exact absurd h5 (by decide))
      | (simp at h5; omega)
  cases hwl with
  | cons w1 w2 =>
    cases w2
    cases w1 with
    | list ho hall => exact ⟨_, _, ns, rfl, rfl, ho, ints_of_wellAll ns _ hall, hlen⟩

theorem post_true (l : OpenLaw) (args : List WData) : l.row.toRowW.claim.post args (.bool true) args = true :=
  postW_of (r := l.row.toRowW) (X := (true == true))
    (show WShape.has [] (.bool true) .bool = true by first | rfl | decide | simp [WShape.has, WShape.arms, WShape.armsAll])
    (show (WTm.eq .res (.lit (.bool true))).value [] { args := args, res := some (.bool true), after := args } = some (.bool (true == true)) from w_eq_bool (w_res rfl) w_lit) rfl

/-! ### the attachment: holds_open's last premise (the goal 'hc' behind k_head) from a wpAny of the law's body -/
/-- the same from a codeAny of the CALL (for a layer whose function contracts speak of calls) -/
theorem attach_call {l : OpenLaw} {n : Nat} {q : Program} {loose : List Str} {XP : (Str → Option Value) → Heap → Prop} {YP : World → Heap → Prop} {d : DefRec}
    (hn : l.most = some n) (hdf : d.params.defaults = [])
    (call : ∀ (w : World) (s₀ s₁ : Shared) (mg mb : Str → Option Value) (fa : Addr) (o : Obj) (pm cd doc : Value) (a : Addr) (vs : List Value) (ns : List Int),
      Ground q loose [] XP w s₀ mg mb s₁.heap → YP w s₁.heap →
      s₁.heap.get? fa = some o → o.data = .func (docDef d.name d.params d.body d.scope pm cd doc) → s₁.heap.CodeRec cd d.name → mg d.name = some (.ref fa) →
      s₁.heap.get? a = some { cls := .type "list", data := .seq vs.toArray } → IntsAre vs ns → ns.length ≤ n → s₁.gens = #[] →
      codeAny (model l.prog w) callerA (.call (.ref fa) ⟨[.ref a], []⟩) (fun r s' => r = .ok (.ret (.bool true)) ∧ OldK s₁.heap s'.heap ∧ s'.os = s₁.os ∧ AllBare s'.gens) s₁) :
    WalkO q loose XP YP l.row.toRowW d [] (fun f vs => PySem.call f vs) := by
  intro w s₀ s₁ mg mb G Y fa o pm cd doc dV kV ho hd hcd hD hmg hg args vals as hpre hlay hrd hwl hlo
  obtain rfl : dV = .none := Dflts.none hD hdf
  obtain rfl : kV = .none := Dflts.noKw hD
  obtain ⟨a, vs, ns, rfl, rfl, hobj, hints, hlen⟩ := script_of hn hpre hwl
  refine enter_call (codeAny_mono (call w s₀ s₁ mg mb fa o pm cd doc a vs ns G Y ho (fd_plain hd) hcd hmg hobj hints hlen hg) fun r s' hq => ?_)
  obtain ⟨rfl, h2, h3, h4⟩ := hq
  exact ⟨.inl ⟨.bool true, .bool true, [], rfl, fun _ => rfl, .bool true, post_true l _, fun _ => ⟨List.Pairwise.nil, fun _ hm => (nomatch hm)⟩⟩, h2, h3, h4⟩

/-! ### rules over ANY heap (no ledger) from facts about the written part K: the library's own take a ledger (News) for what they write -/
section
variable {prog : Program} {w : World} {A : Around} {E : Value → Shared → Prop} {s : Shared} {K : Frag}

/-! the whole heap as the ledger: makes every rule that writes through a ledger a rule over any heap -/
end
end Att

namespace L2
open PySem PySem.Spec PyProof.Rows

theorem vals_ints : ∀ {vs : List Value} {ns : List Int}, IntsAre vs ns → Vals (ns.map V.int) vs
  | _, _, .nil => .nil
  | _, _, .cons n t h => .cons ⟨t, rfl⟩ (vals_ints h)

/-- nothing is tracked but the script, known to the object (or it is an object of the module) -/
def Only (H : Hp) : Prop := ∀ b, H b = none ∨ ∃ o xs, H b = some (.frz o (.lst xs))

/-- THE HEAD: the law's promise, at the heap behind the top. F, the promise of the law's def, may use that base is part of the heap (so K.In base, base.Ns mainGlobals mg stand in Mod) -/
theorem law_call {P : Program} {w : World} {K : PySem.W.Frag} {mg mb : Str → Option Value} {CX : CXT} {k : Nat} {fa a : Addr} {fd : FuncData} {x : Str} {sp : Sp} {s₁ : Shared} {vs : List Value} {ns : List Int}
    (KX : K.In s₁.heap) (hns : s₁.heap.Ns mainGlobals mg) (hb : s₁.heap.Ns builtinsNs mb) (hbb : ∀ x : Str, x ≠ "__name__" → mb x = bootBuiltins x) (hlim : s₁.heap.NoLimit) (hg : s₁.gens = #[])
    (ha : s₁.heap.get? a = some { cls := .type "list", data := .seq vs.toArray }) (hi : IntsAre vs ns) (hl : ns.length ≤ sizeLine) (hr : Room k callerA)
    (F : ∀ base : Heap, K.In base → base.Ns mainGlobals mg → FnOk P w K mg base CX k fa fd [x] sp) (hbind : ∀ (s : Shared) (u : Value), BindsTo s fd ⟨[u], []⟩ [(x, u)])
    (hsp : ∀ H : Hp, Only H → SqL K H a (ns.map V.int) → sp [.ref a] H (fun v _ => v = .bl true) fun _ _ _ => False)
    (hCX : ∀ H e s', CX [] H s₁ (fun _ _ _ => False) e s' → False) :
    codeAny (model P w) callerA (.call (.ref fa) ⟨[.ref a], []⟩) (fun r s' => r = .ok (.ret (.bool true)) ∧ OldK s₁.heap s'.heap ∧ s'.os = s₁.os ∧ AllBare s'.gens) s₁ := by
  have rv := vals_ints hi
  have lenV := hi.length
  -- from an abstract heap in which nothing but the script may be tracked
  have core : ∀ H : Hp, Only H → SqL K H a (ns.map V.int) → HOk P w H s₁.heap → (∀ b, H b ≠ none → b = a) → (H a ≠ none → K.lookup a = none) →
      codeAny (model P w) callerA (.call (.ref fa) ⟨[.ref a], []⟩) (fun r s' => r = .ok (.ret (.bool true)) ∧ OldK s₁.heap s'.heap ∧ s'.os = s₁.os ∧ AllBare s'.gens) s₁ := by
    intro H hO hS hok hA hK
    have base_of : ∀ {b : Addr} {o : Obj}, s₁.heap.get? b = some o → H b = none → (hidT s₁.heap H).get? b = some o := fun e n => hidT_get e n
    have noA : ∀ {b : Addr} {o : Obj} {es : Array DictEntry} {ep : Nat}, s₁.heap.get? b = some o → o.data = .dict es ep → H b = none := fun {b o es ep} e d => by
      cases q : H b with
      | none => rfl
      | some u =>
        have e' : b = a := hA b (by rw [q]; simp)
        subst e'
        rw [ha] at e; cases e
        have d' : Data.seq vs.toArray _ = Data.dict es ep := d
        cases d'
    have nsK : ∀ {b : Addr} {m : Str → Option Value}, s₁.heap.Ns b m → (hidT s₁.heap H).Ns b m := fun {b m} ⟨o, es, ep, e, d, r⟩ => ⟨o, es, ep, base_of e (noA e d), d, r⟩
    have hKb : K.In (hidT s₁.heap H) := fun b o e => base_of (KX b o e) (by
      cases q : H b with
      | none => rfl
      | some u =>
        have e' : b = a := hA b (by rw [q]; simp)
        subst e'
        rw [hK (by rw [q]; simp)] at e; cases e)
    have hM : Mod K mg (hidT s₁.heap H) := ⟨hKb, nsK hns, ⟨mb, nsK hb, hbb⟩, let ⟨mc, h1, h2⟩ := hlim; ⟨mc, nsK h1, h2⟩⟩
    have e0 : Env0 P w K mg (hidT s₁.heap H) callerA [] s₁ H := ⟨rfl, hM, fun b o e => of_hidT e, Nat.le_of_eq (hidT_size _ _), trivial, fun b hb => absurd (show b ∈ ([] : List Addr) from hb) (by simp), hok, .of_eq hg⟩
    refine codeAny_mono ((F _ hKb (nsK hns)).run callerA [] s₁ H ⟨[.ref a], []⟩ [.ref a] [.ref a] _ _ hr e0 (hbind s₁ (.ref a)) (.cons rfl .nil) (hsp H hO hS)) fun r s' h => ?_
    cases r with
    | error e => exact (hCX H e s' h).elim
    | ok fl =>
      cases fl with
      | next => exact False.elim h
      | brk => exact False.elim h
      | cont => exact False.elim h
      | ret u =>
        obtain ⟨v, H', os, bare, un, hok', r', q⟩ := h
        have q' : v = .bl true := q
        subst q'
        obtain rfl : u = Value.bool true := r'
        refine ⟨rfl, OldK.of_keep fun b o e => ?_, os, bare⟩
        cases q : H b with
        | none => exact un.keep b o e q (by intro z; exact absurd (show b ∈ ([] : List Addr) from z) (by simp)) (by simp)
        | some u =>
          rcases hO b with z | ⟨ob, xs, z⟩
          · rw [q] at z; cases z
          · have z2 := un.frzs b ob _ z
            obtain ⟨e1, _⟩ := hok b _ z
            obtain ⟨e2, _⟩ := hok' b _ z2
            rw [e] at e1; cases e1
            exact e2
  cases hk : K.lookup a with
  | some o =>
    -- the script is one of the module's own objects
    have e := KX a o hk
    rw [ha] at e
    cases e
    refine core (fun _ => none) (fun _ => .inl rfl) (.inr ⟨_, vs.toArray, _, hk, rfl, rfl, rfl, by rw [List.size_toArray, lenV]; exact hl, by simpa using rv⟩) (fun b u z => by have z' : (none : Option HO) = some u := z; cases z') (fun b z => absurd rfl z) fun z => absurd rfl z
  | none =>
    refine core (fun b => if b = a then some (.frz { cls := .type "list", data := .seq vs.toArray } (.lst (ns.map V.int))) else none) (fun b => ?_) (.inl (.inr ⟨{ cls := .type "list", data := .seq vs.toArray }, if_pos rfl⟩)) (fun b u z => ?_) (fun b z => ?_) fun _ => hk
    · by_cases hb : b = a
      · exact .inr ⟨_, _, if_pos hb⟩
      · exact .inl (if_neg hb)
    · by_cases hb : b = a
      · have z' := (if_pos hb).symm.trans z
        cases z'
        subst hb
        exact ⟨ha, by rw [List.length_map]; exact hl, vs, _, rv, ha⟩
      · have z' := (if_neg hb).symm.trans z
        cases z'
    · by_cases hb : b = a
      · exact hb
      · exact absurd (if_neg hb) z
end L2

namespace L2
open PySem PySem.Spec PyProof.Rows

/-- the goal that k_head leaves (case hc), from the law's promise. F gives the function object fd (K's own) once, then the promise over every base -/
theorem walk_of {l : PySem.W.OpenLaw} {n k : Nat} {q : Program} {loose : List Str} {XP : (Str → Option Value) → Heap → Prop} {YP : World → Heap → Prop} {d : DefRec} {K : Params → PySem.W.Frag} {CX : World → CXT} {sp : World → Sp} {x : Str}
    (hn : l.most = some n) (hn2 : n ≤ sizeLine) (hdf : d.params.defaults = []) (hr : Room k callerA)
    (hY : ∀ (w : World) (h : Heap), YP w h → (K w.params).In h)
    (F : ∀ (w : World) (mg : Str → Option Value) (fa : Addr) (h : Heap), (K w.params).In h → h.Ns mainGlobals mg → mg d.name = some (.ref fa) →
      ∃ fd : FuncData, (∀ (s : Shared) (u : Value), BindsTo s fd ⟨[u], []⟩ [(x, u)]) ∧
        ∀ base : Heap, (K w.params).In base → base.Ns mainGlobals mg → FnOk l.prog w (K w.params) mg base (CX w) k fa fd [x] (sp w))
    (hsp : ∀ (w : World) (H : Hp) (a : Addr) (ns : List Int), ns.length ≤ n → Only H → SqL (K w.params) H a (ns.map V.int) → sp w [.ref a] H (fun v _ => v = .bl true) fun _ _ _ => False)
    (hCX : ∀ (w : World) (H : Hp) (s : Shared) (e : Value) (s' : Shared), CX w [] H s (fun _ _ _ => False) e s' → False) :
    PySem.W.WalkO q loose XP YP l.row.toRowW d [] (fun f vs => PySem.call f vs) := by
  refine Att.attach_call hn hdf fun w s₀ s₁ mg mb fa o pm cd doc a vs ns G Y ho hd hcd hmg hobj hints hlen hg => ?_
  have KX := hY w _ Y
  obtain ⟨fd, hb, hF⟩ := F w mg fa _ KX G.T.g hmg
  exact law_call KX G.T.g G.T.b G.T.builtins G.T.nolimit hg hobj hints (Nat.le_trans hlen hn2) hr hF hb (fun H hO hS => hsp w H a ns hlen hO hS) fun H e s' => hCX w H s₁ e s'
end L2

/- THE LAST THEOREM (shape; LID, My.* are yours):
   My.Adr: a structure of the addresses that your layer names (classes, functions); My.Txt K t: a structure (Prop) of the equations over K;
   My.txt_mk : {K} {implicit addresses ..} (e1 : nsIn K mainGlobals "law" = some (some (.ref f))) (e2 : K.lookup f = some ⟨oc, od, .func (fnOf "law" "law" params body scope dV kV doc pm an cdv ct), sl⟩) (e3 : codeIn K cdv "law" = true) .. : ∃ t, My.Txt K t

set_option maxRecDepth 100000 in
set_option maxHeartbeats 0 in
theorem PySem.Challenge.cw_LID_holds : PySem.Challenge.rw_LID.Holds := by
  w_on; o_law; k_head; (case hw => w_witness2)
  k_fill
  refine L2.walk_of (l := PySem.Challenge.rw_LID) (n := 63) (k := 40) (x := "script") (CX := fun w => ..) (sp := fun _ => My.sp_law) rfl (by decide) rfl ⟨rfl, by decide, by decide⟩ (fun w h Y => PySem.W.kIn_of Y) ?F ?S ?C
  case F =>
    intro w mg fa h KX G hmg
    have T : ∃ t, My.Txt (L2.KOf KX) t := by
      dsimp only [L2.KOf]                          -- K must stand as «<heap const> w.params» for k_is
      refine' My.txt_mk ?e1 ?e2 ?e3 ..
      (case e1 => PySem.W.k_is)                    -- in the order: a name -> its address -> its object -> its parts
      (case e2 => PySem.W.k_is)
      ..
    obtain ⟨t, T⟩ := T
    have e0 := hmg.symm.trans (PySem.W.mg_of KX G T.law)
    cases e0                                       -- fa is the law's own address
    exact ⟨_, fun s u => .of_eq rfl, fun base kb nb => My.law_fn T kb nb⟩     -- if «.of_eq rfl» comes too early: refine' ⟨_, ?b, fun base kb nb => My.law_fn T kb nb⟩; exact fun s u => .of_eq rfl
  case S => exact fun w H a ns hl hO hS => ..
  case C => exact ..
(the tactic k_is has no namespace: write k_is) -/

/-! SHORT WORDS over the layer: a def of the text, its body, what a loop and a test want. -/
namespace L2
open PySem PySem.Spec PyProof.Rows

/-! ### the text by places -/
/-- the j-th statement of a class's body -/
def inClass (s : Stmt) (j : Nat) : Stmt := match s with
  | .ClassDef _ _ _ body _ _ _ _ _ _ _ => body.getD j (.Pass ⟨0, 0, 0, 0⟩)
  | _ => .Pass ⟨0, 0, 0, 0⟩
def defArgs (s : Stmt) : Arguments := match s with
  | .FunctionDef _ a _ _ _ _ _ _ _ _ => a
  | _ => { posonlyargs := [], args := [], vararg := none, kwonlyargs := [], kw_defaults := [], kwarg := none, defaults := [] }
def defBody (s : Stmt) : List Stmt := match s with
  | .FunctionDef _ _ b _ _ _ _ _ _ _ => b
  | _ => []
def defScope (s : Stmt) : Scope := match s with
  | .FunctionDef _ _ _ _ _ _ sc _ _ _ => sc
  | _ => { kind := .function, names := [], isGenerator := false, isCoroutine := false }

/-! ### no exception leaves a def -/
abbrev CX0 : CXT := fun _ _ _ _ _ _ => False
abbrev E0 : XK := fun _ _ _ => False
theorem pass0 {X : Cx} : Passes CX0 X E0 := fun _ _ _ _ _ _ _ h => h.elim

/-! ### a def (or method) of the text as it stands behind the top -/
structure Fun (K : PySem.W.Frag) (x qual : Str) (st : Stmt) (f : Addr) (fd : FuncData) : Prop where
  ex : ∃ (oc : Value) (od : Option Addr) (kV doc pm : Value) (an : Option Addr) (cdv ct : Value) (osl : Array (Option Value)),
    fd = PySem.W.fnOf x qual (defArgs st) (defBody st) (defScope st) .none kV doc pm an cdv ct ∧ K.lookup f = some ⟨oc, od, .func fd, osl⟩ ∧ PySem.W.codeIn K cdv qual = true
  kp : PySem.W.keepIn K (.ref f) = true
section
variable {P : Program} {w : World} {K : PySem.W.Frag} {mg : Str → Option Value} {base : Heap}
/-- THE RULE for a def: its body as a term of rules, and the reading of that term -/
theorem Fun.ok {x qual : Str} {st : Stmt} {f : Addr} {fd : FuncData} {N ps : List Str} {k : Nat} {sp : Sp} (F : Fun K x qual st f fd) (S : FnScope N ps (defScope st)) (len : ∀ vs H Q E, sp vs H Q E → vs.length = ps.length)
    (hbody : ∀ (cdv : Value) (A : Around) (outer : List Env) (s : Shared) (H : Hp) (vs : List V) (Q : VK) (E : XK), Room k (A.deeper (envOfC qual (defScope st) s.heap.objs.size f cdv)) → sp vs H Q E →
      ∃ t, PSs (cxOf CX0 P w K mg base N qual (defScope st) f cdv A outer s H E).nox (defBody st) t ∧ t { nx := fun _ H' => Q .non H', rt := Q } (start N vs) H) : FnOk P w K mg base CX0 (k + 1) f fd ps sp := by
  obtain ⟨oc, od, kV, doc, pm, an, cdv, ct, osl, rfl, lk, hcd⟩ := F.ex
  refine fn_of lk hcd S len fun A outer s H vs Q E hr hsp => ?_
  obtain ⟨t, h, q⟩ := hbody cdv A outer s H vs Q E hr hsp
  exact ⟨t, h.nox, q⟩
/-- how its arguments bind (no defaults): h is «fun _ _ _ _ _ _ us hl => match us, hl with | [_, _], _ => rfl», one _ a parameter -/
theorem Fun.binds {x qual : Str} {st : Stmt} {f : Addr} {fd : FuncData} {ps : List Str} (F : Fun K x qual st f fd)
    (h : ∀ (kV doc pm : Value) (an : Option Addr) (cdv ct : Value) (us : List Value), us.length = ps.length → bindArgs (PySem.W.fnOf x qual (defArgs st) (defBody st) (defScope st) .none kV doc pm an cdv ct) ⟨us, []⟩ = pure (ps.zip us)) : Binds K fd ps [] := by
  obtain ⟨oc, od, kV, doc, pm, an, cdv, ct, osl, rfl, lk, hcd⟩ := F.ex
  exact .all (h kV doc pm an cdv ct)
theorem fun_mk {x qual : Str} {st : Stmt} {f : Addr} {oc : Value} {od an : Option Addr} {osl : Array (Option Value)} {kV doc pm cdv ct : Value} (l : K.lookup f = some ⟨oc, od, .func (PySem.W.fnOf x qual (defArgs st) (defBody st) (defScope st) .none kV doc pm an cdv ct), osl⟩)
    (c : PySem.W.codeIn K cdv qual = true) (k : PySem.W.keepIn K (.ref f) = true) : Fun K x qual st f (PySem.W.fnOf x qual (defArgs st) (defBody st) (defScope st) .none kV doc pm an cdv ct) := ⟨⟨oc, od, kV, doc, pm, an, cdv, ct, osl, rfl, l, c⟩, k⟩
end
theorem hu_of {A : Around} {k : Nat} (hr : Room k A) : A.units + 1 < cLine := Nat.lt_of_le_of_lt (Nat.add_le_add_left (by decide : 1 ≤ 64) _) hr.units
/-! ### expressions in short: the name that stands in the i-th slot -/
section
variable {X : Cx}
theorem pv (i : Nat) {x : Str} {pos : Pos} (hN : X.N[i]? = some x := by rfl) (hv : Vis X.env.scope x := by first | exact Or.inl rfl | exact Or.inr (Or.inl rfl) | exact Or.inr (Or.inr rfl)) (hd : (x == ("__debug__" : Str)) = false := by decide)
    (hcd : (x == ("__classdict__" : Str)) = false := by decide) : PE X (.Name x pos) (tVar i) := pe_var hN hv hd hcd
end

/-! ### tests -/
/-! ### heaps -/
/-- all that was tracked is as it was -/
def Same (H H' : Hp) : Prop := ∀ b o, H b = some o → H' b = some o
theorem Same.refl (H : Hp) : Same H H := fun _ _ h => h
theorem Same.trans {H H1 H2 : Hp} (a : Same H H1) (b : Same H1 H2) : Same H H2 := fun c o h => b c o (a c o h)
theorem Same.free {H H' : Hp} (e : Same H H') {l : Addr} (h : H' l = Option.none) : H l = Option.none := by
  cases q : H l with
  | none => rfl
  | some o =>
    rw [e l o q] at h
    cases h
theorem Same.seq {K : PySem.W.Frag} {H H' : Hp} {a : Addr} {xs : List V} (e : Same H H') (h : SqL K H a xs) : SqL K H' a xs := by
  rcases h with (h | ⟨o, h⟩) | h
  · exact .inl (.inl (e _ _ h))
  · exact .inl (.inr ⟨o, e _ _ h⟩)
  · exact .inr h

end L2

end
section
set_option Elab.async false
set_option linter.all false
set_option maxRecDepth 100000
namespace L2
open PySem PySem.Spec PyProof.Rows

/-! ### a text walked sign by sign -/
section
variable {X : Cx} {tg : Expr}
end
/-- over a list, by the part that was walked -/
theorem for_listP {K : PySem.W.Frag} {a : Addr} {xs : List V} {g : TG} {tb : TS} {D : Ends} {σ : St} {H : Hp} (Pv : List V → St → Hp → Prop) (h0 : Pv [] σ H) (hl : ∀ pre post σ H, xs = pre ++ post → Pv pre σ H → SqL K H a xs)
    (hs : ∀ pre x post σ H, xs = pre ++ x :: post → Pv pre σ H → g x σ H fun σ2 H2 => tb { D with nx := Pv (pre ++ [x]), ct := Pv (pre ++ [x]), bk := D.nx } σ2 H2) (hd : ∀ σ H, Pv xs σ H → D.nx σ H) :
    ∃ W : Nat → Nat → St → Hp → Prop, (∃ m, W 0 m σ H) ∧ ∀ i m σ H, W i m σ H →
      ((Itl K a).stop i H ∧ D.nx σ H) ∨ ((Itl K a).go i H ∧ ∃ N : St → Hp → Prop, (∀ σ' H', N σ' H' → ∃ m', m' < m ∧ W (i + 1) m' σ' H') ∧ ∀ x H', (Itl K a).yld i H x H' → g x σ H' fun σ2 H2 => tb { D with nx := N, ct := N, bk := D.nx } σ2 H2) := by
  refine for_list (xs := xs) (fun i => Pv (xs.take i)) (by simpa using h0) (fun i σ H hi p => hl _ (xs.drop i) σ H (List.take_append_drop i xs).symm p) (fun i x σ H hx p => ?_) (fun σ H p => hd σ H (by simpa using p))
  have hlt : i < xs.length := (List.getElem?_eq_some_iff.mp hx).1
  have hg : xs[i] = x := (List.getElem?_eq_some_iff.mp hx).2
  have e1 : xs = xs.take i ++ x :: xs.drop (i + 1) := by
    rw [← hg, ← List.drop_eq_getElem_cons hlt, List.take_append_drop]
  have e2 : xs.take (i + 1) = xs.take i ++ [x] := by rw [List.take_succ_eq_append_getElem hlt, hg]
  show g x σ H fun σ2 H2 => tb { D with nx := Pv (xs.take (i + 1)), ct := Pv (xs.take (i + 1)), bk := D.nx } σ2 H2
  rw [e2]
  exact hs _ x _ σ H e1 p

section
variable {X : Cx}
/-! ### text * int -/
def repS (x : Str) (n : Nat) : Str := ⟨(List.replicate n x.cps.toList).flatten.toArray⟩
theorem Txt_mul_eq (x : Str) (n : Int) : Txt.mul x n = repS x n.toNat := by
  have aux : ∀ (k : Nat) (acc : Array Nat), (List.replicate k x.cps).foldl (· ++ ·) acc = (acc.toList ++ (List.replicate k x.cps.toList).flatten).toArray := by
    intro k
    induction k with
    | zero => intro acc; simp
    | succ k ih => intro acc; rw [List.replicate_succ, List.foldl_cons, ih]; simp [List.replicate_succ]
  unfold Txt.mul repS
  split
  · rename_i h
    have : n.toNat = 0 := by omega
    rw [this]; rfl
  · rename_i h
    split
    · rename_i h2
      rcases Bool.or_eq_true_iff.mp h2 with h3 | h3
      · have : n.toNat = 1 := by have := beq_iff_eq.mp h3; omega
        rw [this]
        cases x; simp
      · have h4 : x.cps.toList = [] := by
          have h5 : x.cps.size = 0 := by simpa [PySem.Str.length] using h3
          exact List.eq_nil_of_length_eq_zero (by simpa using h5)
        cases x with
        | mk c =>
          simp only at h4
          have : c = #[] := by simpa using h4
          subst this; simp
    · rw [aux]; simp
theorem op_mul_str : OpR X (binaryOp .Mult) (fun x y H Q => ∃ a k, x = .str a ∧ y = .int k ∧ (-(2 ^ 62) ≤ k ∧ k < 2 ^ 62) ∧ a.length * k.toNat ≤ sizeLine ∧ Q (.str (repS a k.toNat)) H) := by
  intro pins s σ H x y v u Q I rx ry h
  obtain ⟨a, k, rfl, rfl, ⟨h1, h2⟩, hz, q⟩ := h
  obtain ⟨t, rfl⟩ := rx
  obtain ⟨t', rfl⟩ := ry
  refine SB.mul ⟨?_, ?_, ?_⟩ fun t'' k' => ⟨.str (repS a k.toNat), H, I.tok _, ⟨t'', by rw [Txt_mul_eq]⟩, q⟩
  · simp; omega
  · intro hk _ hgt
    have hz' : a.length * k.toNat ≤ 2 ^ 40 := Nat.le_trans hz (by rw [sizeLine_eq]; decide)
    have e : ((a.length * k.toNat : Nat) : Int) ≤ 2 ^ 40 := by exact_mod_cast hz'
    have hk' : (k.toNat : Int) = k := by omega
    rw [Int.natCast_mul, hk'] at e
    have h3 := Int.lt_of_lt_of_le hgt (Int.le_refl _)
    have h4 : (2 ^ 63 - 1 : Int) < (a.length : Int) * k := by
      have := (Int.ediv_lt_iff_lt_mul (by omega : (0 : Int) < k)).mp hgt
      exact this
    omega
  · intro _ _
    simp only [Builtin.Str.tooLong, decide_eq_false_iff_not]
    omega
end
end L2

end
section
set_option Elab.async false
set_option linter.all false
set_option maxRecDepth 100000
namespace L2
open PySem PySem.Spec PyProof.Rows

/-! ### text[lo:hi] -/
def cutS (x : Str) (lo hi : Option Int) : Str := ⟨((x.cps.toList.drop (HT.sIx x.length 0 lo)).take (HT.sIx x.length x.length hi - HT.sIx x.length 0 lo)).toArray⟩
theorem sliceIdx_key (l u : Option Int) (n : Nat) : Builtin.Str.strSliceIndices l u 1 n = sliceRange ((HT.sIx n 0 l : Nat) : Int) ((HT.sIx n n u : Nat) : Int) 1 := by
  have c1 : ∀ (v : Int), max 0 (min (if v < 0 then v + (n : Int) else v) (n : Int)) = ((HT.sIx n 0 (some v) : Nat) : Int) := fun v => by
    unfold HT.sIx; dsimp only; split <;> omega
  have c2 : ∀ (v : Int), max 0 (min (if v < 0 then v + (n : Int) else v) (n : Int)) = ((HT.sIx n n (some v) : Nat) : Int) := fun v => by
    unfold HT.sIx; dsimp only; split <;> omega
  unfold Builtin.Str.strSliceIndices
  have e1 : ((1 : Int) > 0) := by decide
  cases l with
  | none =>
    cases u with
    | none => simp only [e1, if_true]; rfl
    | some v => simp only [e1, if_true]; rw [c2]; rfl
  | some z =>
    cases u with
    | none => simp only [e1, if_true]; rw [c1]; rfl
    | some v => simp only [e1, if_true]; rw [c1, c2]
theorem sIx_idem (n d d' : Nat) (o : Option Int) (hd : d ≤ n) : HT.sIx n d' (some ((HT.sIx n d o : Nat) : Int)) = HT.sIx n d o := by
  have := HT.sIx_le n d hd o
  rw [HT.sIx_nat]; omega
theorem sliceIdx_eq (l u : Option Int) (n : Nat) : Builtin.Str.strSliceIndices l u 1 n = Builtin.Str.strSliceIndices (some ((HT.sIx n 0 l : Nat) : Int)) (some ((HT.sIx n n u : Nat) : Int)) 1 n := by
  rw [sliceIdx_key, sliceIdx_key (some _), sIx_idem n 0 0 l (Nat.zero_le _), sIx_idem n n n u (Nat.le_refl _)]
theorem Txt_slice_eq (x : Str) (l u : Option Int) : Txt.slice x l u = cutS x l u := by
  have h0 : HT.sIx x.length 0 l ≤ x.length := HT.sIx_le _ _ (Nat.zero_le _) _
  have hn : HT.sIx x.length x.length u ≤ x.length := HT.sIx_le _ _ (Nat.le_refl _) _
  unfold Txt.slice
  rw [sliceIdx_eq]
  by_cases hab : HT.sIx x.length 0 l ≤ HT.sIx x.length x.length u
  · exact PySem.StrLaws.sliceText_nat x hab hn
  · have e : Builtin.Str.strSliceIndices (some ((HT.sIx x.length 0 l : Nat) : Int)) (some ((HT.sIx x.length x.length u : Nat) : Int)) 1 x.length = [] := by
      rw [← sliceIdx_eq, sliceIdx_key]
      unfold sliceRange
      have : ¬ (((HT.sIx x.length 0 l : Nat) : Int) < ((HT.sIx x.length x.length u : Nat) : Int)) := by omega
      simp [this]
    rw [e]
    have hx : ¬ (0 = x.length) := by omega
    have hz : HT.sIx x.length x.length u - HT.sIx x.length 0 l = 0 := by omega
    unfold cutS
    rw [hz]
    simp [hx]
section
variable {X : Cx}
def rSlS : V → Option Int → Option Int → Hp → VK → Prop := fun x lo hi H Q => ∃ z, x = .str z ∧ z.length ≤ sizeLine ∧ Q (.str (cutS z lo hi)) H
theorem sl_str : SlR X rSlS := by
  intro pins s σ H x v vl vu lo hi sl Q I rx hs pl pu h
  obtain ⟨z, rfl, hz, q⟩ := h
  obtain ⟨t, rfl⟩ := rx
  refine ⟨"str", _, F.slot_str_getitem.lookup, typeIs_str _ _ _, ?_⟩
  have fin : ∀ (l u : Option (Int × Tok)), l.map (·.1) = lo → u.map (·.1) = hi → s.heap.IsSlice sl l u none → wpAny (model X.prog X.w) X.A (getItem (.str z t) (.ref sl)) (EP X pins σ Q) X.xe s := fun l u e1 e2 hsl => by
    refine wpAny_getItem_str_slice (st := none) hsl rfl ?_
    have e : Txt.slice z (l.map (·.1)) (u.map (·.1)) = cutS z lo hi := by rw [e1, e2, Txt_slice_eq]
    refine post_val_or_str ⟨Nat.le_trans (Txt.slice_le z _ _) hz, fun t' k => ⟨.str (cutS z lo hi), H, I.tok _, ⟨t', ?_⟩, q⟩⟩
    rw [← e]; rfl
  cases pl with
  | none =>
    cases pu with
    | none => exact fin none none rfl rfl hs
    | int j tj => exact fin none (some (j, tj)) rfl rfl hs
  | int i ti =>
    cases pu with
    | none => exact fin (some (i, ti)) none rfl rfl hs
    | int j tj => exact fin (some (i, ti)) (some (j, tj)) rfl rfl hs
/-! ### startswith, endswith -/
def rStarts : V → List V → Hp → VK → Prop := fun x vs H Q => ∃ a b, x = .str a ∧ vs = [.str b] ∧ Q (.bl (b.cps.toList.isPrefixOf a.cps.toList)) H
theorem beq_toList (a b : Array Nat) : (a == b) = (a.toList == b.toList) := by
  by_cases h : a = b
  · subst h; simp
  · have h' : a.toList ≠ b.toList := fun e => h (by simpa using e)
    rw [beq_eq_false_iff_ne.mpr h, beq_eq_false_iff_ne.mpr h']
theorem subAt_eq (a b : Str) (i : Nat) : Builtin.Str.subAt a b i = (((a.cps.toList.drop i).take b.length) == b.cps.toList) := by
  unfold Builtin.Str.subAt
  rw [beq_toList]
  congr 1
  simp [Array.toList_extract, List.extract_eq_take_drop]
theorem starts_eq (a b : Str) : Txt.startswith a b = b.cps.toList.isPrefixOf a.cps.toList := by
  unfold Txt.startswith
  rw [subAt_eq, List.drop_zero]
  rw [Bool.eq_iff_iff, Bool.and_eq_true, decide_eq_true_iff, beq_iff_eq, List.isPrefixOf_iff_prefix, List.prefix_iff_eq_take]
  have hl : b.length = b.cps.toList.length := by simp [PySem.Str.length]
  have hl' : a.length = a.cps.toList.length := by simp [PySem.Str.length]
  rw [hl, hl']
  constructor
  · rintro ⟨_, h⟩; exact h.symm
  · intro h
    refine ⟨?_, h.symm⟩
    have := congrArg List.length h
    rw [List.length_take] at this
    omega
theorem mt_starts : MtM X "str.startswith" rStarts := by
  intro pins s σ H x vs v us Q I rx rv h
  obtain ⟨a, b, rfl, rfl, q⟩ := h
  obtain ⟨t, rfl⟩ := rx
  obtain ⟨u, rfl, t', rfl⟩ := rv.one
  exact SC.startswith ⟨.bl _, H, I, rfl, by rw [starts_eq]; exact q⟩
/-! ### isinstance(x, T) -/
def rIsi (K : PySem.W.Frag) : List V → Hp → VK → Prop := fun vs H Q => ∃ x c t b, vs = [x, .ty c] ∧ TyOf K H x t ∧ PySem.W.kitOne K t (.type c) = some b ∧ Q (.bl b) H
theorem call_isi : CallR X (.builtin "isinstance") (rIsi X.K) := by
  intro pins s σ H xs us Q I rv h
  obtain ⟨x, c, t, b, rfl, ty, e, q⟩ := h
  obtain ⟨u, w', rfl, r1, r2⟩ := vals2 rv
  have r2 : w' = Value.type c := r2
  subst r2
  exact isinst_ok I r1 ty e fun tk => ⟨.bl b, H, I.tok _, rfl, q⟩
/-! ### int(text) -/
end
end L2

end
section
set_option Elab.async false
set_option linter.all false
set_option maxRecDepth 100000
namespace L2
open PySem PySem.Spec PyProof.Rows

/-! ### data that is read whole -/
mutual
inductive Rep (K : PySem.W.Frag) (H : Hp) : V → PyData → Prop
  | non : Rep K H .non .none
  | bl (b) : Rep K H (.bl b) (.bool b)
  | int (i) : Rep K H (.int i) (.int i)
  | str (x) : Rep K H (.str x) (.str x)
  | lst {a xs ds} : SqL K H a xs → Reps K H xs ds → Rep K H (.ref a) (.list ds)
  | tup {a xs ds} : SqT K H a xs → Reps K H xs ds → Rep K H (.ref a) (.tuple ds)
inductive Reps (K : PySem.W.Frag) (H : Hp) : List V → List PyData → Prop
  | nil : Reps K H [] []
  | cons {x xs d ds} : Rep K H x d → Reps K H xs ds → Reps K H (x :: xs) (d :: ds)
end
section
variable {X : Cx} {pins : List (Addr × Obj)} {σ : St} {H : Hp} {s : Shared}
mutual
theorem Rep.reads (I : Inv X pins σ H s) : ∀ {x : V} {d : PyData}, Rep X.K H x d → ∀ u, RelV x u → ∃ as, Reads s.heap u d as
  | _, _, .non, u, r => by cases r; exact ⟨_, .none⟩
  | _, _, .bl b, u, r => by cases r; exact ⟨_, .bool b⟩
  | _, _, .int i, u, r => by obtain ⟨t, rfl⟩ := r; exact ⟨_, .int i t⟩
  | _, _, .str x, u, r => by obtain ⟨t, rfl⟩ := r; exact ⟨_, .str x t⟩
  | _, _, .lst hq hs, u, r => by
    cases r
    obtain ⟨its, rv, ⟨o, n, e, hc, hd, hdat⟩, _⟩ := I.list hq
    obtain ⟨as, ra⟩ := Reps.reads I hs its rv
    exact ⟨_, .list e hc hdat (by simpa using ra)⟩
  | _, _, .tup hq hs, u, r => by
    cases r
    obtain ⟨its, rv, ⟨o, e, hc, n, hdat⟩, _⟩ := I.tuple hq
    obtain ⟨as, ra⟩ := Reps.reads I hs its rv
    exact ⟨_, .tuple e hc hdat (by simpa using ra)⟩
theorem Reps.reads (I : Inv X pins σ H s) : ∀ {xs : List V} {ds : List PyData}, Reps X.K H xs ds → ∀ us, Vals xs us → ∃ as, ReadsAll s.heap us ds as
  | _, _, .nil, us, r => by cases r; exact ⟨_, .nil⟩
  | _, _, .cons h t, us, r => by
    cases r with
    | cons r1 r2 =>
      obtain ⟨as, ra⟩ := Rep.reads I h _ r1
      obtain ⟨bs, rb⟩ := Reps.reads I t _ r2
      exact ⟨_, .cons ra rb⟩
end
end
section
variable {X : Cx}
def rEqD (K : PySem.W.Frag) : R2 := fun x y H Q => ∃ d e, Rep K H x d ∧ Rep K H y e ∧ SeqAt.shaped d = true ∧ SeqAt.shaped e = true ∧ Q (.bl (PyData.eqv d e)) H
def rNeD (K : PySem.W.Frag) : R2 := fun x y H Q => ∃ d e, Rep K H x d ∧ Rep K H y e ∧ SeqAt.shaped d = true ∧ SeqAt.shaped e = true ∧ Q (.bl (!PyData.eqv d e)) H
theorem op_eqD (hu : X.A.units + 64 < cLine) : OpR X (compareOp .Eq) (rEqD X.K) := by
  intro pins s σ H x y v u Q I rx ry h
  obtain ⟨d, e, hd, he, sd, se, q⟩ := h
  obtain ⟨as, ra⟩ := hd.reads I v rx
  obtain ⟨bs, rb⟩ := he.reads I u ry
  exact eq_dataH ra rb sd se hu ⟨.bl _, H, I, rfl, q⟩
theorem op_neD (hu : X.A.units + 64 < cLine) : OpR X (compareOp .NotEq) (rNeD X.K) := by
  intro pins s σ H x y v u Q I rx ry h
  obtain ⟨d, e, hd, he, sd, se, q⟩ := h
  obtain ⟨as, ra⟩ := hd.reads I v rx
  obtain ⟨bs, rb⟩ := he.reads I u ry
  exact ne_dataH ra rb sd se hu ⟨.bl _, H, I, rfl, q⟩
/-! ### a def of the text, called by its name -/
structure Own (P : Program) (w : World) (K : PySem.W.Frag) (mg : Str → Option Value) (base : Heap) (k : Nat) (x : Str) (ps : List Str) (sp : Sp) : Prop where
  ex : ∃ f fd, FnOk P w K mg base CX0 k f fd ps sp ∧ mg x = some (.ref f) ∧ PySem.W.keepIn K (.ref f) = true ∧ Binds K fd ps []
variable {k : Nat} {x : Str} {ps : List Str} {sp : Sp} {p pos : Pos} {e : Expr} {es : List Expr} {t : TA}
theorem pe_own (F : Own X.prog X.w X.K X.mg X.base k x ps sp) (hr : Room k X.A) (ha : PA X (e :: es) t) (hg : Gl X x := by rfl)
    (hdb : (x == ("__debug__" : Str)) = false := by decide) (he : starEach (e :: es) X.env = (false, eval e X.env) :: starEach es X.env := by rfl) (hpl : (backTo pos (starEach es X.env)).any (·.1) = false := by rfl) :
    PE X (.Call (.Name x p) (e :: es) [] pos) (tCall sp [] E0 t) := by
  obtain ⟨f, fd, G, hm, hk, hb⟩ := F.ex
  exact pe_call G hr hg hm hk hb .nil pass0 ha hdb he hpl
/-! ### what is walked: a list or a text -/
/-! ### both kinds of an operation -/
theorem op_addA : OpR X (binaryOp .Add) (fun x y H Q => rI0 (fun i j => .int (i + j)) x y H Q ∨ (∃ i j, x = .str i ∧ y = .str j ∧ i.length + j.length ≤ sizeLine ∧ Q (.str (i ++ j)) H) ∨ rCat x y H Q) := op_add.or (op_add_str.or op_cat)
theorem op_mulA : OpR X (binaryOp .Mult) (fun x y H Q => rI CMul (fun i j => .int (i * j)) x y H Q ∨ (∃ a k, x = .str a ∧ y = .int k ∧ (-(2 ^ 62) ≤ k ∧ k < 2 ^ 62) ∧ a.length * k.toNat ≤ sizeLine ∧ Q (.str (repS a k.toNat)) H) ∨ rRep x y H Q) := op_mul.or (op_mul_str.or op_rep)
theorem sl_any : SlR X (fun x lo hi H Q => rSlS x lo hi H Q ∨ rSlL X.K x lo hi H Q) := sl_str.or sl_list
end
/-! ### from a def to its name -/
theorem Own.mk' {P : Program} {w : World} {K : PySem.W.Frag} {mg : Str → Option Value} {base : Heap} {k : Nat} {x : Str} {ps : List Str} {sp : Sp} {f : Addr} {fd : FuncData} (G : FnOk P w K mg base CX0 k f fd ps sp) (hm : mg x = some (.ref f)) (hk : PySem.W.keepIn K (.ref f) = true) (hb : Binds K fd ps []) : Own P w K mg base k x ps sp := ⟨f, fd, G, hm, hk, hb⟩
end L2

end
section
set_option Elab.async false
set_option linter.all false
set_option maxRecDepth 100000
namespace L2
open PySem PySem.Spec PyProof.Rows
/-! ### isinstance, by cases -/
def isiF : V → String → Option Bool
  | .int _, c => if c = "int" then some true else if c = "bool" ∨ c = "str" ∨ c = "tuple" ∨ c = "list" then some false else none
  | .bl _, c => if c = "int" ∨ c = "bool" then some true else if c = "str" ∨ c = "tuple" ∨ c = "list" then some false else none
  | .str _, c => if c = "str" then some true else if c = "bool" ∨ c = "int" ∨ c = "tuple" ∨ c = "list" then some false else none
  | .non, c => if c = "str" ∨ c = "bool" ∨ c = "int" ∨ c = "tuple" ∨ c = "list" then some false else none
  | _, _ => none
def rIsiA : List V → Hp → VK → Prop := fun vs H Q => ∃ x c, vs = [x, .ty c] ∧
  ((∃ b, isiF x c = some b ∧ Q (.bl b) H) ∨ (∃ a xs, x = .ref a ∧ H a = some (.tup xs) ∧ (c = "tuple" ∧ Q (.bl true) H ∨ (c = "list" ∨ c = "str" ∨ c = "int") ∧ Q (.bl false) H)) ∨ (∃ a xs, x = .ref a ∧ H a = some (.lst xs) ∧ (c = "list" ∧ Q (.bl true) H ∨ (c = "tuple" ∨ c = "str" ∨ c = "int") ∧ Q (.bl false) H)))
theorem call_isiA {X : Cx} : CallR X (.builtin "isinstance") rIsiA := by
  intro pins s σ H xs us Q I rv h
  obtain ⟨x, c, rfl, h⟩ := h
  refine call_isi pins s σ H _ us Q I rv ?_
  rcases h with ⟨b, e, q⟩ | ⟨a, xs, rfl, ha, q⟩ | ⟨a, xs, rfl, ha, q⟩
  · cases x with
    | int i =>
      dsimp only [isiF] at e
      split at e
      · rename_i hc; subst hc; cases e; exact ⟨_, _, _, _, rfl, .int i, by rfl, q⟩
      · split at e
        · rename_i hc; cases e
          rcases hc with rfl | rfl | rfl | rfl <;> exact ⟨_, _, _, _, rfl, .int i, by rfl, q⟩
        · cases e
    | bl i =>
      dsimp only [isiF] at e
      split at e
      · rename_i hc; cases e; rcases hc with rfl | rfl <;> exact ⟨_, _, _, _, rfl, .bl i, by rfl, q⟩
      · split at e
        · rename_i hc; cases e
          rcases hc with rfl | rfl | rfl <;> exact ⟨_, _, _, _, rfl, .bl i, by rfl, q⟩
        · cases e
    | str i =>
      dsimp only [isiF] at e
      split at e
      · rename_i hc; subst hc; cases e; exact ⟨_, _, _, _, rfl, .str i, by rfl, q⟩
      · split at e
        · rename_i hc; cases e
          rcases hc with rfl | rfl | rfl | rfl <;> exact ⟨_, _, _, _, rfl, .str i, by rfl, q⟩
        · cases e
    | non =>
      dsimp only [isiF] at e
      split at e
      · rename_i hc; cases e
        rcases hc with rfl | rfl | rfl | rfl | rfl <;> exact ⟨_, _, _, _, rfl, .non, by rfl, q⟩
      · cases e
    | _ => cases e
  · rcases q with ⟨rfl, q⟩ | ⟨rfl | rfl | rfl, q⟩ <;> exact ⟨_, _, _, _, rfl, .tup ha, by rfl, q⟩
  · rcases q with ⟨rfl, q⟩ | ⟨rfl | rfl | rfl, q⟩ <;> exact ⟨_, _, _, _, rfl, .lst ha, by rfl, q⟩

/-! ### texts of 0 and 1 -/
def sg (b : Bool) : Nat := if b then 49 else 48
def enc (bs : List Bool) : Str := ⟨(bs.map sg).toArray⟩
theorem enc_cps (bs : List Bool) : (enc bs).cps.toList = bs.map sg := rfl
theorem enc_len (bs : List Bool) : (enc bs).length = bs.length := by
  show ((bs.map sg).toArray).size = bs.length
  simp
theorem enc_append (a b : List Bool) : enc a ++ enc b = enc (a ++ b) := by
  show (⟨(a.map sg).toArray ++ (b.map sg).toArray⟩ : Str) = ⟨((a ++ b).map sg).toArray⟩
  simp
theorem sg_inj {a b : Bool} (h : sg a = sg b) : a = b := by
  revert h; cases a <;> cases b <;> decide
theorem enc_inj {a b : List Bool} (h : enc a = enc b) : a = b := by
  have h1 : a.map sg = b.map sg := by
    have := congrArg (fun z => z.cps.toList) h
    simpa [enc] using this
  clear h
  induction a generalizing b with
  | nil => cases b with
    | nil => rfl
    | cons y ys => simp at h1
  | cons x xs ih =>
    cases b with
    | nil => simp at h1
    | cons y ys =>
      simp only [List.map_cons, List.cons.injEq] at h1
      rw [sg_inj h1.1, ih h1.2]
theorem enc_eq {a b : List Bool} : (enc a = enc b) = (a = b) := propext ⟨enc_inj, fun h => by rw [h]⟩
theorem enc_nil : (Str.ofString "" : Str) = enc [] := by decide +kernel
theorem enc_0 : (Str.ofString "0" : Str) = enc [false] := by decide +kernel
theorem enc_1 : (Str.ofString "1" : Str) = enc [true] := by decide +kernel
theorem enc_01 : (Str.ofString "01" : Str) = enc [false, true] := by decide +kernel
theorem sign_enc (b : Bool) : (⟨#[sg b]⟩ : Str) = enc [b] := rfl
theorem repS_enc (b : Bool) (n : Nat) : repS (enc [b]) n = enc (List.replicate n b) := by
  unfold repS enc
  congr 2
  induction n with
  | zero => rfl
  | succ n ih => simp only [List.replicate_succ, List.flatten_cons, List.map_cons] at ih ⊢; rw [ih]; rfl
/-- what a text writes to the base two -/
def val (bs : List Bool) : Int := bs.foldl (fun n b => n * 2 + (if b then 1 else 0)) 0
theorem pow_pos' (n : Nat) : (0 : Int) < 2 ^ n := by
  induction n with
  | zero => decide
  | succ n ih => rw [Int.pow_succ]; omega
/-- the last k signs of a number's writing -/
def addr : Nat → Int → List Bool
  | 0, _ => []
  | k + 1, n => addr k (n / 2) ++ [decide (n % 2 = 1)]
theorem addr_len : ∀ (k : Nat) (n : Int), (addr k n).length = k
  | 0, _ => rfl
  | k + 1, n => by rw [addr, List.length_append, addr_len]; rfl
/-- the first k signs of a number, the least one first -/
def bitsBy : Nat → Int → List Bool
  | 0, _ => []
  | k + 1, c => decide (c % 2 = 1) :: bitsBy k (c / 2)
theorem bitsBy_len : ∀ (k : Nat) (n : Int), (bitsBy k n).length = k
  | 0, _ => rfl
  | k + 1, n => by rw [bitsBy, List.length_cons, bitsBy_len]
theorem bitsBy_snoc : ∀ (k : Nat) (n : Int), bitsBy (k + 1) n = bitsBy k n ++ [decide (n / 2 ^ k % 2 = 1)]
  | 0, n => by simp [bitsBy]
  | k + 1, n => by
    rw [bitsBy, bitsBy_snoc k (n / 2)]
    show decide (n % 2 = 1) :: (bitsBy k (n / 2) ++ [decide (n / 2 / 2 ^ k % 2 = 1)]) = (decide (n % 2 = 1) :: bitsBy k (n / 2)) ++ [decide (n / 2 ^ (k + 1) % 2 = 1)]
    rw [Int.ediv_ediv_of_nonneg (by omega), Int.pow_succ, Int.mul_comm (2 ^ k) 2]
    rfl
theorem item_01 (n : Int) : atI (enc [false, true]).cps.toList (n % 2) = some (sg (decide (n % 2 = 1))) := by
  have : n % 2 = 0 ∨ n % 2 = 1 := by omega
  rcases this with h | h <;> rw [h] <;> decide
theorem line_ge : 1000000 ≤ sizeLine := by decide
end L2

end
section
set_option Elab.async false
set_option linter.all false
set_option maxRecDepth 100000
namespace L2
open PySem PySem.Spec PyProof.Rows
/-! ### the built-ins names -/
theorem bt_len : bootBuiltins "len" = some (.builtin "len") := by decide +kernel
theorem bt_isinstance : bootBuiltins "isinstance" = some (.builtin "isinstance") := by decide +kernel
theorem bt_min : bootBuiltins "min" = some (.builtin "min") := by decide +kernel
theorem bt_int : bootBuiltins "int" = some (.type "int") := by decide +kernel
theorem bt_str : bootBuiltins "str" = some (.type "str") := by decide +kernel
theorem bt_list : bootBuiltins "list" = some (.type "list") := by decide +kernel
theorem bt_tuple : bootBuiltins "tuple" = some (.type "tuple") := by decide +kernel
theorem bt_sorted : bootBuiltins "sorted" = some (.builtin "sorted") := by decide +kernel
theorem bt_bool : bootBuiltins "bool" = some (.type "bool") := by decide +kernel
/-! ### the operations' readings, by the values' kinds -/
def rAddA : R2 := fun x y H Q => match x, y with
  | .int i, .int j => Q (.int (i + j)) H
  | .str a, .str b => a.length + b.length ≤ sizeLine ∧ Q (.str (a ++ b)) H
  | .ref l, .ref b => ∃ xs zs, H l = some (.lst xs) ∧ H b = some (.lst zs) ∧ xs.length + zs.length ≤ sizeLine ∧ ∀ p, H p = none → Q (.ref p) (upd H p (.lst (xs ++ zs)))
  | _, _ => False
def rMulA : R2 := fun x y H Q => match x, y with
  | .int i, .int j => CMul i j ∧ Q (.int (i * j)) H
  | .str a, .int k => (-(2 ^ 62) ≤ k ∧ k < 2 ^ 62) ∧ a.length * k.toNat ≤ sizeLine ∧ Q (.str (repS a k.toNat)) H
  | .ref l, .int k => ∃ xs, H l = some (.lst xs) ∧ -(2 ^ 63) ≤ k ∧ k < 2 ^ 63 ∧ xs.length * k.toNat ≤ sizeLine ∧ ∀ p, H p = none → Q (.ref p) (upd H p (.lst (List.replicate k.toNat xs).flatten))
  | _, _ => False
def rI2 (C : Int → Int → Prop) (g : Int → Int → V) : R2 := fun x y H Q => match x, y with
  | .int i, .int j => C i j ∧ Q (g i j) H
  | _, _ => False
def rI3 (g : Int → Int → V) : R2 := fun x y H Q => match x, y with
  | .int i, .int j => Q (g i j) H
  | _, _ => False
def rSubI : R2 := rI3 fun i j => .int (i - j)
def rDivI : R2 := rI2 CDiv fun i j => .int (i / j)
def rModI : R2 := rI2 (fun _ j => 0 < j) fun i j => .int (i % j)
def rPowI : R2 := rI2 CPow fun i j => .int (i ^ j.toNat)
def rLt : R2 := rI3 fun i j => .bl (decide (i < j))
def rLe : R2 := rI3 fun i j => .bl (decide (i ≤ j))
def rGt : R2 := rI3 fun i j => .bl (decide (j < i))
def rGe : R2 := rI3 fun i j => .bl (decide (j ≤ i))
def rNegI : V → Hp → VK → Prop := fun x H Q => match x with
  | .int i => Q (.int (-i)) H
  | _ => False
def rIsN : R2 := fun x y H Q => y = .non ∧ Q (.bl (decide (x = .non))) H
def rNotN : R2 := fun x y H Q => y = .non ∧ Q (.bl (!decide (x = .non))) H
def rEqS : R2 := fun x y H Q => match x, y with
  | .int i, .int j => Q (.bl (decide (i = j))) H
  | .str a, .str b => Q (.bl (decide (a = b))) H
  | .bl a, .bl b => Q (.bl (decide (a = b))) H
  | .non, .non => Q (.bl true) H
  | .non, .int _ => Q (.bl false) H
  | .int _, .non => Q (.bl false) H
  | _, _ => False
def rNeS : R2 := fun x y H Q => match x, y with
  | .int i, .int j => Q (.bl (!decide (i = j))) H
  | .str a, .str b => Q (.bl (!decide (a = b))) H
  | .bl a, .bl b => Q (.bl (!decide (a = b))) H
  | .non, .non => Q (.bl false) H
  | .non, .int _ => Q (.bl true) H
  | .int _, .non => Q (.bl true) H
  | _, _ => False
def rLen (K : PySem.W.Frag) : List V → Hp → VK → Prop := fun vs H Q => match vs with
  | [.str z] => z.length ≤ sizeLine ∧ Q (.int z.length) H
  | [.ref p] => ∃ ys, (SqL K H p ys ∨ SqT K H p ys) ∧ Q (.int ys.length) H
  | _ => False
def rIxA (K : PySem.W.Frag) : R2 := fun x y H Q => match x, y with
  | .str z, .int i => z.length ≤ sizeLine ∧ ∃ c, atI z.cps.toList i = some c ∧ Q (.str ⟨#[c]⟩) H
  | .ref p, .int i => ∃ xs v, (SqL K H p xs ∨ SqT K H p xs) ∧ atI xs i = some v ∧ Q v H
  | _, _ => False
def rIntA : List V → Hp → VK → Prop := fun vs H Q => match vs with
  | [.int i] => Q (.int i) H
  | [.bl k] => Q (.int (if k then 1 else 0)) H
  | [.str z] => ∃ n, PySem.intText? z = some n ∧ z.length ≤ 640 ∧ Q (.int n) H
  | _ => False
def rMax2 : List V → Hp → VK → Prop := fun vs H Q => match vs with
  | [.int i, .int j] => Q (.int (if j > i then j else i)) H
  | _ => False
def rMin2 : List V → Hp → VK → Prop := fun vs H Q => match vs with
  | [.int i, .int j] => Q (.int (if j < i then j else i)) H
  | _ => False
def rStrI : List V → Hp → VK → Prop := fun vs H Q => match vs with
  | [.int i] => i.natAbs.log2 < 1920 ∧ Q (.str (toString i)) H
  | _ => False
def rListOf (K : PySem.W.Frag) : List V → Hp → VK → Prop := fun vs H Q => match vs with
  | [.ref p] => ∃ ys, (SqL K H p ys ∨ SqT K H p ys) ∧ ∀ l, H l = none → Q (.ref l) (upd H l (.lst ys))
  | _ => False
def isiO : HO → String → Option Bool
  | .tup _, c => if c = "tuple" then some true else if c = "list" ∨ c = "str" ∨ c = "int" then some false else none
  | .lst _, c => if c = "list" then some true else if c = "tuple" ∨ c = "str" ∨ c = "int" then some false else none
  | _, _ => none
def rIsi2 : List V → Hp → VK → Prop := fun vs H Q => match vs with
  | [.ref a, .ty c] => ∃ o b, H a = some o ∧ isiO o c = some b ∧ Q (.bl b) H
  | [x, .ty c] => ∃ b, isiF x c = some b ∧ Q (.bl b) H
  | _ => False
def rSlA (K : PySem.W.Frag) : V → Option Int → Option Int → Hp → VK → Prop := fun x lo hi H Q => match x with
  | .str z => z.length ≤ sizeLine ∧ Q (.str (cutS z lo hi)) H
  | .ref a => ∃ xs, SqL K H a xs ∧ ∀ p, H p = none → Q (.ref p) (upd H p (.lst (cutV xs lo hi)))
  | _ => False
def rStarts2 : V → List V → Hp → VK → Prop := fun x vs H Q => match x, vs with
  | .str a, [.str b] => Q (.bl (b.cps.toList.isPrefixOf a.cps.toList)) H
  | _, _ => False
def rEnds2 : V → List V → Hp → VK → Prop := fun x vs H Q => match x, vs with
  | .str a, [.str b] => Q (.bl (b.cps.toList.isSuffixOf a.cps.toList)) H
  | _, _ => False
section
variable {X : Cx}
theorem OpR.imp {f : Value → Value → Sem Value} {r r' : R2} (h : OpR X f r) (hi : ∀ x y H Q, r' x y H Q → r x y H Q) : OpR X f r' := fun pins s σ H x y v u Q I rx ry q => h pins s σ H x y v u Q I rx ry (hi x y H Q q)
theorem CallR.imp {f : Value} {r r' : List V → Hp → VK → Prop} (h : CallR X f r) (hi : ∀ vs H Q, r' vs H Q → r vs H Q) : CallR X f r' := fun pins s σ H vs us Q I rv q => h pins s σ H vs us Q I rv (hi vs H Q q)
theorem op_addB : OpR X (binaryOp .Add) rAddA := op_addA.imp fun x y H Q h => by
  unfold rAddA at h; split at h
  · exact .inl ⟨_, _, rfl, rfl, h⟩
  · exact .inr (.inl ⟨_, _, rfl, rfl, h⟩)
  · obtain ⟨xs, zs, h⟩ := h; exact .inr (.inr ⟨_, _, xs, zs, rfl, rfl, h⟩)
  · exact h.elim
theorem op_mulB : OpR X (binaryOp .Mult) rMulA := op_mulA.imp fun x y H Q h => by
  unfold rMulA at h; split at h
  · exact .inl ⟨_, _, rfl, rfl, h⟩
  · exact .inr (.inl ⟨_, _, rfl, rfl, h⟩)
  · obtain ⟨xs, h⟩ := h; exact .inr (.inr ⟨_, _, xs, rfl, rfl, h⟩)
  · exact h.elim
theorem rI2_imp {C : Int → Int → Prop} {g : Int → Int → V} (x y : V) (H : Hp) (Q : VK) (h : rI2 C g x y H Q) : rI C g x y H Q := by
  unfold rI2 at h; split at h
  · exact ⟨_, _, rfl, rfl, h⟩
  · exact h.elim
theorem rI3_imp {g : Int → Int → V} (x y : V) (H : Hp) (Q : VK) (h : rI3 g x y H Q) : rI0 g x y H Q := by
  unfold rI3 at h; split at h
  · exact ⟨_, _, rfl, rfl, h⟩
  · exact h.elim
theorem op_subB : OpR X (binaryOp .Sub) rSubI := op_sub.imp rI3_imp
theorem op_divB : OpR X (binaryOp .FloorDiv) rDivI := op_fdiv.imp rI2_imp
theorem op_modB : OpR X (binaryOp .Mod) rModI := op_mod.imp rI2_imp
theorem op_powB : OpR X (binaryOp .Pow) rPowI := op_pow.imp rI2_imp
theorem op_ltB : OpR X (compareOp .Lt) rLt := op_lt.imp rI3_imp
theorem op_leB : OpR X (compareOp .LtE) rLe := op_le.imp rI3_imp
theorem op_gtB : OpR X (compareOp .Gt) rGt := op_gt.imp rI3_imp
theorem op_geB : OpR X (compareOp .GtE) rGe := op_ge.imp rI3_imp
theorem op_isNB : OpR X (compareOp .Is) rIsN := op_isN
theorem op_eqB : OpR X (compareOp .Eq) rEqS := op_eq.imp fun x y H Q h => by
  unfold rEqS at h; split at h
  · exact ⟨rfl, by simpa using h⟩
  · exact ⟨rfl, by simpa using h⟩
  · exact ⟨rfl, by simpa using h⟩
  · exact ⟨rfl, by simpa using h⟩
  · exact ⟨rfl, by simpa using h⟩
  · exact ⟨rfl, by simpa using h⟩
  · exact h.elim
theorem op_neB : OpR X (compareOp .NotEq) rNeS := op_ne.imp fun x y H Q h => by
  unfold rNeS at h; split at h
  · exact ⟨rfl, by simpa using h⟩
  · exact ⟨rfl, by simpa using h⟩
  · exact ⟨rfl, by simpa using h⟩
  · exact ⟨rfl, by simpa using h⟩
  · exact ⟨rfl, by simpa using h⟩
  · exact ⟨rfl, by simpa using h⟩
  · exact h.elim
theorem call_lenB : CallR X (.builtin "len") (rLen X.K) := (call_len_seq.or call_len_str).imp fun vs H Q h => by
  unfold rLen at h; split at h
  · exact .inr ⟨_, rfl, h⟩
  · obtain ⟨ys, h⟩ := h; exact .inl ⟨_, ys, rfl, h⟩
  · exact h.elim
theorem ix_B : IxR X (rIxA X.K) := fun a b pins s σ H x y v u Q I rx ry h hs => by
  refine ix_seq a b pins s σ H x y v u Q I rx ry ?_ hs
  unfold rIxA at h; split at h
  · obtain ⟨h1, c, h2, h3⟩ := h; exact .inr (.inr ⟨_, _, c, rfl, rfl, h1, h2, h3⟩)
  · obtain ⟨xs, v, h1 | h1, h2, h3⟩ := h
    · exact .inl ⟨_, xs, _, v, rfl, rfl, h1, h2, h3⟩
    · exact .inr (.inl ⟨_, xs, _, v, rfl, rfl, h1, h2, h3⟩)
  · exact h.elim
theorem call_minB (hc : X.calm = true) : CallR X (.builtin "min") rMin2 := (call_min2 hc).imp fun vs H Q h => by
  unfold rMin2 at h; split at h
  · exact ⟨_, _, rfl, h⟩
  · exact h.elim
theorem call_isiB : CallR X (.builtin "isinstance") rIsi2 := call_isiA.imp fun vs H Q h => by
  unfold rIsi2 at h; split at h
  · rename_i a c
    obtain ⟨o, b, e, hi, q⟩ := h
    refine ⟨_, c, rfl, ?_⟩
    cases o with
    | tup xs =>
      dsimp only [isiO] at hi
      split at hi
      · rename_i hc; cases hi; exact .inr (.inl ⟨a, xs, rfl, e, .inl ⟨hc, q⟩⟩)
      · split at hi
        · rename_i hc; cases hi; exact .inr (.inl ⟨a, xs, rfl, e, .inr ⟨hc, q⟩⟩)
        · cases hi
    | lst xs =>
      dsimp only [isiO] at hi
      split at hi
      · rename_i hc; cases hi; exact .inr (.inr ⟨a, xs, rfl, e, .inl ⟨hc, q⟩⟩)
      · split at hi
        · rename_i hc; cases hi; exact .inr (.inr ⟨a, xs, rfl, e, .inr ⟨hc, q⟩⟩)
        · cases hi
    | _ => cases hi
  · obtain ⟨b, e, q⟩ := h; exact ⟨_, _, rfl, .inl ⟨b, e, q⟩⟩
  · exact h.elim
theorem sl_B : SlR X (rSlA X.K) := fun pins s σ H x v vl vu lo hi sl Q I rx hs pl pu h => by
  refine sl_any pins s σ H x v vl vu lo hi sl Q I rx hs pl pu ?_
  unfold rSlA at h; split at h
  · exact .inl ⟨_, rfl, h⟩
  · obtain ⟨xs, h⟩ := h; exact .inr ⟨_, xs, rfl, h⟩
  · exact h.elim
theorem mt_startsB : MtM X "str.startswith" rStarts2 := fun pins s σ H x vs v us Q I rx rv h => by
  refine mt_starts pins s σ H x vs v us Q I rx rv ?_
  unfold rStarts2 at h; split at h
  · exact ⟨_, _, rfl, rfl, h⟩
  · exact h.elim
end
/-! ### loops, from their reading -/
section
variable {D : Ends} {σ : St} {H : Hp} {g : TG} {tb : TS} {K : PySem.W.Frag}
/-- over range(n) -/
theorem tFor_rng1 {ta : TA} (n : Nat) (hn : n < 2 ^ 62) (Pv : Nat → St → Hp → Prop) (ht : ∀ R : List V → Hp → Prop, R [.int n] H → ta σ H R) (h0 : Pv 0 σ H)
    (hs : ∀ i σ H, i < n → Pv i σ H → g (.int i) σ H fun σ2 H2 => tb { D with nx := Pv (i + 1), ct := Pv (i + 1), bk := D.nx } σ2 H2) (hd : ∀ σ H, Pv n σ H → D.nx σ H) : tFor (iRng1 ta) g tb D σ H := by
  refine ht _ ⟨(n : Int), rfl, by omega, by omega, ?_⟩
  refine for_range (lo := 0) (n := (n : Int).toNat) Pv h0 (fun i σ H hi p => ?_) (by simpa using hd)
  rw [Int.zero_add]
  exact hs i σ H (by simpa using hi) p
/-- over a list -/
theorem tFor_lst {tl : TE} (a : Addr) (xs : List V) (Pv : List V → St → Hp → Prop) (ht : ∀ R : V → Hp → Prop, R (.ref a) H → tl σ H R) (h0 : Pv [] σ H) (hl : ∀ pre post σ H, xs = pre ++ post → Pv pre σ H → SqL K H a xs)
    (hs : ∀ pre x post σ H, xs = pre ++ x :: post → Pv pre σ H → g x σ H fun σ2 H2 => tb { D with nx := Pv (pre ++ [x]), ct := Pv (pre ++ [x]), bk := D.nx } σ2 H2) (hd : ∀ σ H, Pv xs σ H → D.nx σ H) : tFor (iList K tl) g tb D σ H := by
  exact ht _ ⟨a, rfl, ⟨xs, hl [] xs σ H rfl h0⟩, for_listP (xs := xs) Pv h0 hl hs hd⟩
end
end L2

end
section
set_option Elab.async false
set_option linter.all false
set_option maxRecDepth 100000
set_option maxHeartbeats 4000000
namespace L2
open PySem PySem.Spec
local macro_rules | `(tactic| walk_at "rd") => `(tactic| try simp only [tVar, tC, tOp, tUn, tSeq, tAsg, gName, tRet, tRetN, tIfS, tDrop, tNext, tCons, tNil, tCall, tCB, tTest, tB, tAnd, tOr, tNot, tAndV, tOrV, tNotV, tIf, tTup, tLst, tSl, tPart, tNoPart, tBM, tBM0, L2.start, rI2, rI3, rAddA, rMulA, rSubI, rDivI, rModI, rPowI, rNegI, rLt, rLe, rGt, rGe, rIsN, rNotN, rEqS, rNeS, rLen, rIxA, rIntA, rMax2, rMin2, rStrI, rListOf, rIsi2, isiF, isiO, rSlA, rStarts2, rEnds2, CDiv,
  List.map_cons, List.map_nil, List.length_cons, List.length_nil, List.replicate_succ, List.replicate_zero, List.cons_append, List.nil_append, List.append_nil, List.getElem?_cons_zero, List.getElem?_cons_succ, List.set_cons_zero, List.set_cons_succ, Option.some.injEq, V.int.injEq, V.str.injEq, V.bl.injEq, V.ref.injEq, V.ty.injEq, reduceCtorEq, exists_eq_left', exists_eq_left, exists_eq_right, exists_eq_right', exists_eq', exists_eq, exists_and_left, exists_and_right, false_and, and_false, true_and, and_true, exists_const, exists_false, false_or, or_false, List.cons.injEq, and_assoc, decide_eq_true_eq, decide_true, decide_false, Int.reduceLT, Int.reduceLE, Nat.reduceLT, Nat.reduceLeDiff, Nat.reduceSub, Nat.reduceAdd, Nat.sub_self, Nat.sub_zero, enc_eq, enc_nil, enc_0, enc_1, enc_01, enc_append, enc_len, Bool.not_true, Bool.not_false, Bool.false_eq_true, if_true, if_false, ↓reduceIte, String.reduceEq, or_true, true_or, Nat.one_mul, addr_len, bitsBy_len, List.length_append, List.length_replicate, List.length_map])
local macro_rules | `(tactic| walk_at "sz") => `(tactic| (have hline := line_ge; first | omega | (simp; omega)))
theorem tSeq_gen {t u : TS} {D : Ends} {σ : St} {H : Hp} (h : ∀ U : TS, U = u → t { D with nx := U D } σ H) : tSeq t u D σ H := h u rfl
def rd_law_cell_at (K : PySem.W.Frag) : TS :=
  (tSeq (tIfS (tTest (tOp rLt (tVar 1) (tCB (rLen K) (tCons (tVar 0) tNil)))) (tRet (tOp (rIxA K) (tVar 0) (tVar 1))) tNext)
  (tRet (tC (.int 0))))
def nm_law_cell_at : List Str := ["script", "k"]
def cell (ns : List Int) (k : Int) : Int := ns.getD k.toNat 0
def sp_law_cell_at (K : PySem.W.Frag) : Sp := fun vs H Q _ => ∃ (a : Addr) (ns : List Int) (k : Int), vs = [.ref a, .int k] ∧ 0 ≤ k ∧ SqL K H a (ns.map V.int) ∧ Q (.int (cell ns k)) H
theorem len_law_cell_at {K vs H Q E} (h : sp_law_cell_at K vs H Q E) : vs.length = 2 := by obtain ⟨_, _, _, rfl, _⟩ := h; rfl
theorem rdok_law_cell_at {K vs H Q E} (h : sp_law_cell_at K vs H Q E) : rd_law_cell_at K { nx := fun _ H' => Q .non H', rt := Q } (start nm_law_cell_at vs) H := by
  obtain ⟨a, ns, k', rfl, hk0, hs, q⟩ := h
  obtain ⟨k, rfl⟩ := Int.eq_ofNat_of_zero_le hk0
  simp only [rd_law_cell_at, nm_law_cell_at]
  walk_at "rd"
  refine ⟨_, .inl hs, ?_⟩
  rw [List.length_map]
  split
  · rename_i h
    have hk : k < ns.length := by omega
    refine ⟨_, .inl hs, .int (cell ns k), atI_nat ?_, q⟩
    unfold cell
    simp [hk]
  · rename_i h
    have hk : ns.length ≤ k := by omega
    have : cell ns (k : Int) = 0 := by unfold cell; simp [hk]
    rw [this] at q
    exact q
theorem cell_app {K H Q E} {a : Addr} {ns : List Int} (hs : SqL K H a (ns.map V.int)) {k : Int} (hk : 0 ≤ k) (q : Q (.int (cell ns k)) H) : sp_law_cell_at K [.ref a, .int k] H Q E := ⟨a, ns, k, rfl, hk, hs, q⟩
def rd_law_whole (K : PySem.W.Frag) : TS :=
  (tRet (tAndV (tCB rIsi2 (tCons (tVar 0) (tCons (tC (.ty "int")) tNil))) (tNotV (tCB rIsi2 (tCons (tVar 0) (tCons (tC (.ty "bool")) tNil))))))
def nm_law_whole : List Str := ["found"]
def sp_law_whole (K : PySem.W.Frag) : Sp := fun vs H Q _ => match vs with
  | [.int _] => Q (.bl true) H
  | [.bl _] => Q (.bl false) H
  | [.non] => Q (.bl false) H
  | [.str _] => Q (.bl false) H
  | _ => False
theorem len_law_whole {K vs H Q E} (h : sp_law_whole K vs H Q E) : vs.length = 1 := by unfold sp_law_whole at h; split at h <;> first | rfl | exact h.elim
theorem rdok_law_whole {K vs H Q E} (h : sp_law_whole K vs H Q E) : rd_law_whole K { nx := fun _ H' => Q .non H', rt := Q } (start nm_law_whole vs) H := by
  unfold sp_law_whole at h
  simp only [rd_law_whole, nm_law_whole]
  split at h
  · walk_at "rd"; exact h
  · walk_at "rd"; exact h
  · walk_at "rd"; exact h
  · walk_at "rd"; exact h
  · exact h.elim
def rb_law_bits_by_1 (K : PySem.W.Frag) : TS :=
  (tSeq (tAsg (tOp rAddA (tVar 2) (tOp (rIxA K) (tC (.str (Str.ofString "01"))) (tOp rModI (tVar 0) (tC (.int 2))))) (gName 2))
  (tAsg (tOp rDivI (tVar 0) (tC (.int 2))) (gName 0)))
def rd_law_bits_by (K : PySem.W.Frag) : TS :=
  (tSeq (tAsg (tC (.str (Str.ofString ""))) (gName 2))
  (tSeq (tFor (iRng1 (tCons (tVar 1) tNil)) (gName 3) (rb_law_bits_by_1 K))
  (tRet (tVar 2))))
def nm_law_bits_by : List Str := ["cell", "size", "text", "k"]
def sp_law_bits_by (K : PySem.W.Frag) : Sp := fun vs H Q _ => ∃ (c k : Int), vs = [.int c, .int k] ∧ 0 ≤ k ∧ k ≤ 100 ∧ Q (.str (enc (bitsBy k.toNat c))) H
theorem len_law_bits_by {K vs H Q E} (h : sp_law_bits_by K vs H Q E) : vs.length = 2 := by obtain ⟨_, _, rfl, _⟩ := h; rfl
theorem rdok_law_bits_by {K vs H Q E} (h : sp_law_bits_by K vs H Q E) : rd_law_bits_by K { nx := fun _ H' => Q .non H', rt := Q } (start nm_law_bits_by vs) H := by
  obtain ⟨c, k', rfl, hk0, hk, q⟩ := h
  obtain ⟨k, rfl⟩ := Int.eq_ofNat_of_zero_le hk0
  rw [Int.toNat_natCast] at q
  simp only [rd_law_bits_by, nm_law_bits_by]
  walk_at "rd"
  refine tFor_rng1 k (by omega) (fun i σ H' => H' = H ∧ ∃ o, σ = [some (.int (c / 2 ^ i)), some (.int k), some (.str (enc (bitsBy i c))), o]) ?_ ⟨rfl, none, by simp [bitsBy]⟩ ?_ ?_
  · intro R h; walk_at "rd"; exact h
  · rintro i σ H' hi ⟨rfl, o, rfl⟩
    simp only [rb_law_bits_by_1]
    walk_at "rd"
    refine ⟨by walk_at "sz", _, item_01 _, ?_⟩
    rw [sign_enc]
    walk_at "rd"
    refine ⟨by walk_at "sz", ?_, ?_⟩
    · rw [Int.ediv_ediv_of_nonneg (Int.le_of_lt (pow_pos' i)), ← Int.pow_succ]
    · rw [bitsBy_snoc]
  · rintro σ H' ⟨rfl, o, rfl⟩
    walk_at "rd"
    exact q
end L2

end
section
set_option Elab.async false
set_option linter.all false
set_option maxRecDepth 100000
namespace L2
open PySem PySem.Spec PyProof.Rows

/-! ### a comprehension's block -/
def cxComp (X : Cx) (x : Str) (js : List (Nat × Str)) (scope : Scope) (cl : List (Str × Addr)) (C : Addr) (s2 : Shared) (H2 : Hp) (fp : List Addr) : Cx where
  prog := X.prog
  w := X.w
  K := X.K
  mg := X.mg
  base := X.base
  A := X.A
  N := x :: js.map (·.2)
  s₀ := s2
  H₀ := H2
  env := compEnvC scope cl C X.env
  outer := X.stack
  stack := X.stack
  ex := fp
  fn := fun _ => false
  calm := X.calm
  pn := []
  xe := fun _ _ => False
/-- what the block's scope is to be like -/
structure CompSc (X : Cx) (x : Str) (js : List (Nat × Str)) (scope : Scope) (cl : List (Str × Addr)) : Prop where
  clos : closureFor scope X.env = pure cl
  nocell : ∀ y ∈ scope.names, y.2 ≠ .cell
  kind : scope.kind = .function
  names : ∀ y ∈ scope.names, y.2 = .local → scope.names.lookup y.1 = some .local
  own : scope.names.lookup x = some .local
  cells : ∀ y c, cl.lookup y = some c → X.env.cells.lookup y = some c
  has : ∀ y, ((relabel scope X.env).names.lookup y = some .cell ∨ (relabel scope X.env).names.lookup y = some .free) → ∃ c, cl.lookup y = some c
  nd : (x :: js.map (·.2)).Nodup
  js : ∀ p ∈ js, X.N[p.1]? = some p.2 ∧ X.env.kindOf p.2 = some .cell ∧ (relabel scope X.env).names.lookup p.2 = some .cell ∧ ∃ c, cl.lookup p.2 = some c
/-- a block that captures nothing -/
theorem CompSc.plain {X : Cx} {x : Str} {scope : Scope} (hl : ∀ y ∈ scope.names, y.2 = .local ∨ y.2 = .globalImplicit) (hk : scope.kind = .function) (hn : ∀ y ∈ scope.names, y.2 = .local → scope.names.lookup y.1 = some .local) (own : scope.names.lookup x = some .local) : CompSc X x [] scope [] := by
  have nf : ∀ y ∈ scope.names, y.2 ≠ .free := fun y hy e => by rcases hl y hy with h | h <;> rw [h] at e <;> cases e
  have mem : ∀ (l : List (Str × NameKind)) (y : Str) (k : NameKind), l.lookup y = some k → ∃ z ∈ l, z.2 = k := by
    intro l
    induction l with
    | nil => intro y k h; simp at h
    | cons z r ih =>
      intro y k h
      rw [List.lookup_cons] at h
      cases e : y == z.1 with
      | true => rw [e] at h; exact ⟨z, List.mem_cons_self, Option.some.inj h⟩
      | false =>
        rw [e] at h
        obtain ⟨q, hq, e'⟩ := ih y k h
        exact ⟨q, List.mem_cons_of_mem _ hq, e'⟩
  have er : (relabel scope X.env).names = scope.names := by
    unfold relabel
    exact map_eq_self fun y hy => by
      have : (y.2 == NameKind.free) = false := by simpa using nf y hy
      simp [this]
  refine ⟨closureFor_none nf, fun y hy e => ?_, hk, hn, own, fun y c h => by simp at h, fun y h => ?_, by simp, fun p hp => by simp at hp⟩
  · rcases hl y hy with h | h <;> rw [h] at e <;> cases e
  · rw [er] at h
    rcases h with h | h
    · obtain ⟨z, hz, e⟩ := mem _ _ _ h
      rcases hl z hz with h | h <;> rw [h] at e <;> cases e
    · obtain ⟨z, hz, e⟩ := mem _ _ _ h
      exact absurd e (nf z hz)
/-- the values of the captured names -/
def capt (js : List (Nat × Str)) (σ : St) : St := js.map fun p => (σ[p.1]?).getD none
section
variable {X : Cx} {pins : List (Addr × Obj)} {σ : St} {H2 : Hp} {s2 : Shared} {x : Str} {js : List (Nat × Str)} {scope : Scope} {cl : List (Str × Addr)} {fp : List Addr} {J : It} {it : Addr} {tn : Nat → Heap → Prop} {tg : Expr}
theorem comp_ok {C : Addr} (I : Inv X pins σ H2 s2) (S : CompSc X x js scope cl) (T : Turn X.prog X.w X.K tg J fp it tn) (h0 : tn 0 s2.heap) (hf : ∀ b ∈ fp, FpOk X pins H2 b) (hC : s2.heap.objs.size ≤ C) : (cxComp X x js scope cl C s2 H2 fp).Ok where
  mod := I.ok.mod
  kind := S.kind
  glob := I.ok.glob
  blt := I.ok.blt
  above := hC
  inj := fun y z c h1 h2 => I.ok.inj y z c (S.cells y c h1) (S.cells z c h2)
  has := fun y hy => S.has y hy
  cab := fun y c h _ => absurd h (by simp [cxComp])
  hd := I.ok.hd
  frames := I.ok.frames
  stk := .inl rfl
  exf := fun b hb => ⟨fun e => by
    obtain ⟨o, ho, _⟩ := T.obj 0 _ h0 b hb
    have h2 : b = C := e
    exact absurd (Heap.lt_size ho) (Nat.not_lt.mpr (h2 ▸ hC)), fun y c h => (hf b hb).2.2.2.2.1 y c (S.cells y c h)⟩
  bs := I.bs
  bsz := Nat.le_trans I.ok.bsz I.sz
  noex := fun b o e hb => by
    rcases (hf b hb).2.2.2.1 with h | h
    · exact I.ok.noex b o e h
    · exact absurd (Heap.lt_size (I.ok.bs b o e).1) (Nat.not_lt.mpr h)
  exfs := fun b hb hs => (List.mem_cons.mp (I.stkSub b hs)).elim (hf b hb).2.1 (hf b hb).2.2.1
  funs := I.stack
  frf := I.stkFree
/-- at the block's entry -/
theorem comp_start {h1 : Heap} {tk : Nat} (I : Inv X pins σ H2 s2) (S : CompSc X x js scope cl) (T : Turn X.prog X.w X.K tg J fp it tn) (h0 : tn 0 s2.heap) (hf : ∀ b ∈ fp, FpOk X pins H2 b)
    (hl : h1.get? s2.heap.objs.size = some { cls := .type "list", data := .seq #[] 0 }) (hns : h1.Ns (s2.heap.objs.size + 1) (fun _ => none)) (hk : ∀ b o, s2.heap.get? b = some o → h1.get? b = some o) :
    Inv (cxComp X x js scope cl (s2.heap.objs.size + 1) s2 H2 fp) [] (none :: capt js σ) (upd H2 s2.heap.objs.size (.lst [])) { s2 with heap := h1, toks := tk } := by
  have hfr : ∀ a, s2.heap.objs.size ≤ a → H2 a = none := fun a ha => I.hok.fresh ha
  refine ⟨comp_ok I S T h0 hf (Nat.le_succ _), rfl, I.bare, Un.laid hk (Nat.le_refl _) (hfr _ (Nat.le_refl _)), ⟨_, hns, fun i y v e1 e2 e3 => ?_⟩, fun y c h => ?_, ?_, fun y c h => ?_, fun p hp => absurd hp (by simp [cxComp]), ?_, ?_⟩
  · -- a captured name
    cases i with
    | zero => simp at e2
    | succ i =>
      have e1 : (js.map (·.2))[i]? = some y := by simpa [cxComp] using e1
      have e2 : (capt js σ)[i]? = some (some v) := by simpa using e2
      rw [List.getElem?_map] at e1
      unfold capt at e2
      rw [List.getElem?_map] at e2
      cases ej : js[i]? with
      | none => rw [ej] at e1; cases e1
      | some p =>
        rw [ej] at e1 e2
        have e1 : p.2 = y := Option.some.inj e1
        have e2 : (σ[p.1]?).getD none = some v := Option.some.inj e2
        obtain ⟨q1, q2, q3, c, q4⟩ := S.js p (List.mem_of_getElem? ej)
        have e4 : σ[p.1]? = some (some v) := by
          cases es : σ[p.1]? with
          | none => rw [es] at e2; cases e2
          | some o => rw [es] at e2; exact congrArg some e2
        obtain ⟨m, _, hloc⟩ := I.loc
        subst e1
        obtain ⟨u, ru, lk⟩ := hloc p.1 p.2 v q1 e4 (.inr (.inl q2))
        rcases lk with ⟨k1, _⟩ | ⟨_, c', k2, k3⟩
        · rw [q2] at k1; cases k1
        · have : c' = c := by rw [S.cells _ _ q4] at k2; exact (Option.some.inj k2).symm
          subst this
          obtain ⟨o, ho, hd⟩ := k3
          exact ⟨u, ru, .inr ⟨.inl q3, c', q4, o, hk _ o ho, hd⟩⟩
  · obtain ⟨v, o, ho, hd⟩ := I.cell y c (S.cells y c h)
    exact ⟨v, o, hk _ o ho, hd⟩
  · show upd H2 s2.heap.objs.size (.lst []) (s2.heap.objs.size + 1) = none
    rw [upd_ne (Nat.succ_ne_self _)]; exact hfr _ (Nat.le_succ _)
  · obtain ⟨v, o, ho, hd⟩ := I.cell y c (S.cells y c h)
    rw [upd_ne (Nat.ne_of_lt (Heap.lt_size ho))]
    exact I.freeC y c (S.cells y c h)
  · exact I.hok.laid hk (Nat.le_refl _) ⟨Nat.zero_le _, [], 0, .nil, hl⟩
  · simp [cxComp, capt]
end
/-- the tests of a comprehension (none or one) -/
def tAlways : TT := fun _ H Q => Q true H
inductive PIfs (Y : Cx) : List Expr → TT → Prop
  | nil : PIfs Y [] tAlways
  | one {c : Expr} {t : TT} : PT Y c t → PIfs Y [c] t
/-- the loop of a comprehension with one clause, by an invariant with a measure -/
theorem comp_loop {prog : Program} {w : World} {A : Around} {R : Result → Shared → Prop} {s : Shared} {elt tg iter : Expr} {ifs : List Expr} {scope : Scope} {pos : Pos} {it acc : Value} {cenv : Env} (Z : Nat → Shared → Prop)
    (turn : ∀ k s1, Z k s1 → wpAny (model prog w) A (pyNext it) (fun r s2 => match r with
      | none => R (.ok .next) s2
      | some v => wpAny (model prog w) A (letOwnedTupleGo tg it v) (fun _ s3 => wpAny (model prog w) A (assign tg cenv v) (fun _ s4 =>
          wpAny (model prog w) A (forIn ifs true fun c r => if r = true then do let ok ← isTrue c cenv (eval c cenv); pure (ForInStep.yield ok) else pure (ForInStep.yield r)) (fun ok s5 =>
            if ok = true then wpAny (model prog w) A (eval elt cenv) (fun y s6 =>
              wpAny (model prog w) A (call (.builtin "list.append") [acc, y]) (fun _ s7 => ∃ j, j < k ∧ Z j s7) (notedBy (model prog w) A cenv fun e s' => R (.error e) s') s6) (notedBy (model prog w) A cenv fun e s' => R (.error e) s') s5
            else ∃ j, j < k ∧ Z j s5) (notedBy (model prog w) A cenv fun e s' => R (.error e) s') s4) (notedBy (model prog w) A cenv fun e s' => R (.error e) s') s3) (notedBy (model prog w) A cenv fun e s' => R (.error e) s') s2)
        (notedBy (model prog w) A cenv fun e s' => R (.error e) s') s1) (k0 : Nat) (z0 : Z k0 s) :
    codeAny (model prog w) A (.compLoop (.ListComp elt [⟨tg, iter, ifs, 0⟩] scope pos) 0 it acc cenv) R s := by
  refine codeAny_loop (by rfl) Z (fun k s1 z1 => ?_) k0 z0
  show wpAny _ A ((compTurn (.ListComp elt [⟨tg, iter, ifs, 0⟩] scope pos) 0 it acc cenv).onRaise (fun y => do noteFrame y cenv; theTreesLotGoes y)) _ _ s1
  refine wpAny_noted ?_
  rw [compTurn_list]
  refine wpAny_bind (wpAny_standAt (wpAny_bind (thn (turn k s1 z1) fun r s2 h2 => ?_)))
  cases r with
  | none => exact wpAny_pure h2
  | some v =>
    refine wpAny_bind (thn h2 fun _ s3 h3 => wpAny_bind (thn h3 fun _ s4 h4 => wpAny_bind (thn h4 fun ok s5 h5 => ?_)))
    cases ok with
    | false => exact wpAny_pure ⟨rfl, h5⟩
    | true => exact wpAny_bind (wpAny_bind (thn h5 fun y s6 h6 => wpAny_bind (thn h6 fun _ s7 h7 => wpAny_pure (wpAny_pure ⟨rfl, h7⟩))))
/-- a list by a comprehension -/
def tComp (js : List (Nat × Str)) (wi : TI) (ti : TT) (te : TE) : TE := fun σ H Q => wi σ H fun J H1 => ∀ l, H1 l = none → ∃ W : Nat → Nat → List V → Hp → Prop, (∃ m, W 0 m [] (upd H1 l (.lst []))) ∧
  ∀ i m ys H, W i m ys H → (J.stop i H ∧ Q (.ref l) H) ∨ (J.go i H ∧ ∀ v H', J.yld i H v H' → ti (some v :: capt js σ) H' fun b H2 =>
    if b = true then te (some v :: capt js σ) H2 fun y H3 => ∃ m', m' < m ∧ H3 l = some (.lst ys) ∧ ys.length < sizeLine ∧ W (i + 1) m' (ys ++ [y]) (upd H3 l (.lst (ys ++ [y]))) else ∃ m', m' < m ∧ W (i + 1) m' ys H2)
section
variable {X : Cx} {pins : List (Addr × Obj)} {σ : St} {H2 : Hp} {s2 : Shared} {x : Str} {px : Pos} {js : List (Nat × Str)} {scope : Scope} {cl : List (Str × Addr)} {fp : List Addr} {J : It} {it : Addr} {tn : Nat → Heap → Prop} {elt iter : Expr} {ifs : List Expr} {pos : Pos}
theorem comp_block {ti : TT} {te : TE} {Q : VK} {E : Value → Shared → Prop} {RR : Value → Addr → Result → Shared → Prop} (I : Inv X pins σ H2 s2) (hc : X.calm = true) (S : CompSc X x js scope cl) (T : Turn X.prog X.w X.K (.Name x px) J fp it tn) (h0 : tn 0 s2.heap) (hf : ∀ b ∈ fp, FpOk X pins H2 b)
    (he : ∀ Y, Y = cxComp X x js scope cl (s2.heap.objs.size + 1) s2 H2 fp → PE Y elt te) (hi : ∀ Y, Y = cxComp X x js scope cl (s2.heap.objs.size + 1) s2 H2 fp → PIfs Y ifs ti)
    (W : Nat → Nat → List V → Hp → Prop) (w0 : ∃ m, W 0 m [] (upd H2 s2.heap.objs.size (.lst [])))
    (turn : ∀ i m ys H, W i m ys H → (J.stop i H ∧ Q (.ref s2.heap.objs.size) H) ∨ (J.go i H ∧ ∀ v H', J.yld i H v H' → ti (some v :: capt js σ) H' fun b H2 =>
      if b = true then te (some v :: capt js σ) H2 fun y H3 => ∃ m', m' < m ∧ H3 s2.heap.objs.size = some (.lst ys) ∧ ys.length < sizeLine ∧ W (i + 1) m' (ys ++ [y]) (upd H3 s2.heap.objs.size (.lst (ys ++ [y]))) else ∃ m', m' < m ∧ W (i + 1) m' ys H2))
    (hRR : ∀ C H' s', Inv X pins σ H' s' → FpOk X pins H' C → (∃ m, s'.heap.Ns C m) → Q (.ref s2.heap.objs.size) H' → RR (.ref s2.heap.objs.size) C (.ok .next) s') :
    wpAny (model X.prog X.w) X.A (newList []) (fun acc s₃ => wpAny (model X.prog X.w) X.A (newFunctionEnv scope X.env.globals cl [] X.env.qual none .none (some X.env)) (fun cenv s₄ =>
      codeAny (model X.prog X.w) X.A (.compStart (.ListComp elt [⟨.Name x px, iter, ifs, 0⟩] scope pos) 0 (.ref it) acc { cenv with scope := relabel scope X.env }) (RR acc cenv.locals) s₄) E s₃) E s2 := by
  refine wpAny_newObj_type (wpAny_newFunctionEnv S.nocell (by intro y hy; simp at hy) (fun h1 hns hsb => ?_) S.kind)
  have hsz : (s2.heap.push { cls := .type "list", data := .seq ([] : List Value).toArray }).objs.size = s2.heap.objs.size + 1 := Heap.size_push ..
  dsimp only at hns hsb ⊢
  rw [hsz] at hns hsb
  have keep : ∀ b o, s2.heap.get? b = some o → h1.get? b = some o := fun b o e => by
    exact hsb.extBut b o (Nat.ne_of_lt (Nat.lt_succ_of_lt (Heap.lt_size e))) (Heap.get?_push_of_some _ (Heap.get?_push_of_some _ e))
  have hl : h1.get? s2.heap.objs.size = some { cls := .type "list", data := .seq #[] 0 } :=
    hsb.extBut _ _ (Nat.ne_of_lt (Nat.lt_succ_self _)) (Heap.get?_push_of_some _ (Heap.get?_push_size _ rfl))
  have IY := comp_start (tk := s2.toks + ([] : List (Str × Value)).length) I S T h0 hf hl hns keep
  have hsz2 : (s2.heap.push { cls := .type "list", data := .seq ([] : List Value).toArray }).objs.size = s2.heap.objs.size + 1 := hsz
  generalize hY : cxComp X x js scope cl (s2.heap.objs.size + 1) s2 H2 fp = Y at IY
  have PEe := he Y hY.symm
  have PIi := hi Y hY.symm
  have fpY : ∀ {H' : Hp}, (∀ b ∈ fp, H' b = none) → ∀ b ∈ fp, FpOk Y [] H' b := fun hn b hb => by
    subst hY
    exact ⟨hn b hb, (IY.ok.exf b hb).1, IY.ok.exfs b hb, .inl hb, fun y c h => (IY.ok.exf b hb).2 y c h, fun p hp => absurd hp (by simp [cxComp])⟩
  have eP : Y.prog = X.prog := by rw [← hY]; rfl
  have eW : Y.w = X.w := by rw [← hY]; rfl
  have eK : Y.K = X.K := by rw [← hY]; rfl
  have eA : Y.A = X.A := by rw [← hY]; rfl
  have eC : Y.calm = true := by rw [← hY]; exact hc
  have eE : Y.env = compEnvC scope cl (s2.heap.objs.size + 1) X.env := by rw [← hY]; rfl
  have eX : Y.xe = fun _ _ => False := by rw [← hY]; rfl
  obtain ⟨m0, w0⟩ := w0
  -- the end of the block
  have fin : ∀ {σY : St} {H' : Hp} {s' : Shared}, Inv Y [] σY H' s' → Q (.ref s2.heap.objs.size) H' → RR (.ref s2.heap.objs.size) (s2.heap.objs.size + 1) (.ok .next) s' := fun {σY H' s'} J' q => by
    have hu : Un (frs X.stack) fp H2 H' s2.heap s'.heap := by have := J'.base; rw [← hY] at this; exact this
    have ho : s'.os = s2.os := by have := J'.os; rw [← hY] at this; exact this
    have hk : HOk X.prog X.w H' s'.heap := by have := J'.hok; rw [eP, eW] at this; exact this
    have I' : Inv X pins σ H' s' := I.call' ho hu hk J'.bare fun b hb => ⟨(hf b hb).2.2.2.1, (hf b hb).2.1, (hf b hb).2.2.2.2.1, (hf b hb).2.2.2.2.2⟩
    have hfree : H' (s2.heap.objs.size + 1) = none := by have := J'.free; rw [eE] at this; exact this
    have hns' : ∃ m, s'.heap.Ns (s2.heap.objs.size + 1) m := by obtain ⟨m, hm, _⟩ := J'.loc; rw [eE] at hm; exact ⟨m, hm⟩
    exact hRR _ H' s' I' (I.fpOk (Nat.le_succ _) hfree) hns' q
  have loop : codeAny (model X.prog X.w) X.A (.compLoop (.ListComp elt [⟨.Name x px, iter, ifs, 0⟩] scope pos) 0 (.ref it) (.ref s2.heap.objs.size) (compEnvC scope cl (s2.heap.objs.size + 1) X.env)) (RR (.ref s2.heap.objs.size) (s2.heap.objs.size + 1)) { s2 with heap := h1, toks := s2.toks + ([] : List (Str × Value)).length } := by
    refine comp_loop (fun n s => ∃ i ys o H', Inv Y [] (o :: capt js σ) H' s ∧ tn i s.heap ∧ (∀ b ∈ fp, H' b = none) ∧ W i n ys H') ?_ m0 ⟨0, [], none, _, IY, T.keep 0 _ _ h0 fun b _ o e => keep b o e, fun b hb => ?_, w0⟩
    · rintro n s3 ⟨i, ys, o3, H3, I3, st3, fr3, w3⟩
      rcases turn i n ys H3 w3 with ⟨stop, q⟩ | ⟨go, step⟩
      · have hd := T.done Y eP eW eK eC i [] s3 (o3 :: capt js σ) H3 (notedBy (model X.prog X.w) X.A (compEnvC scope cl (s2.heap.objs.size + 1) X.env) fun e s' => RR (.ref s2.heap.objs.size) (s2.heap.objs.size + 1) (.error e) s') I3 (fpY fr3) st3 stop
        rw [eA] at hd
        refine thn hd fun r s4 ⟨hr, I4⟩ => ?_
        subst hr
        exact fin I4 q
      · have hd := T.item Y eP eW eK eC i [] s3 (o3 :: capt js σ) H3 (notedBy (model X.prog X.w) X.A (compEnvC scope cl (s2.heap.objs.size + 1) X.env) fun e s' => RR (.ref s2.heap.objs.size) (s2.heap.objs.size + 1) (.error e) s') I3 (fpY fr3) st3 go
        rw [eA] at hd
        refine thn hd fun r s4 ⟨u, hr, h4⟩ => ?_
        subst hr
        refine thn h4 fun _ s5 ⟨v, H5, I5, r5, y5, st5, fr5⟩ => ?_
        have I5' := I5.pinned (fpY fr5) (T.obj _ _ st5)
        have gY : PG Y (.Name x px) (gName 0) := by
          refine pg_name (by rw [← hY]; exact S.nd) (by rw [← hY]; rfl) ?_ ?_
          · rw [eE]; exact .inl (lookup_relabel_local S.own)
          · rw [eE]; exact .inr (lookup_relabel_local S.own)
        have ga := gY _ s5 (o3 :: capt js σ) H5 v u (fun σ' H' => σ' = some v :: capt js σ ∧ H' = H5) I5' r5 ⟨rfl, rfl⟩
        rw [eP, eW, eA, eE, eX] at ga
        refine wpAny_mono ga (fun _ s6 ⟨σ6, H6, I6, e6, e6'⟩ => ?_) fun _ _ z => z.elim
        subst e6 e6'
        have back : ∀ {s7 : Shared} {H7 : Hp} {j : Nat} {zs : List V}, Inv Y (([] : List (Addr × Obj)) ++ pinsAt fp s5.heap) (some v :: capt js σ) H7 s7 → W (i + 1) j zs H7 → j < n → ∃ m, m < n ∧ ∃ i ys o H', Inv Y [] (o :: capt js σ) H' s7 ∧ tn i s7.heap ∧ (∀ b ∈ fp, H' b = none) ∧ W i m ys H' := fun {s7 H7 j zs} I7 w7 hj =>
          ⟨j, hj, i + 1, zs, some v, H7, I7.unpinned, T.keep _ _ _ st5 fun b hb o e => (I7.pin (b, o) (List.mem_append_right _ (List.mem_append_right _ (mem_pinsAt hb e)))).1, fun b hb => by
            obtain ⟨o, e, _⟩ := T.obj _ _ st5 b hb
            exact (I7.pin (b, o) (List.mem_append_right _ (List.mem_append_right _ (mem_pinsAt hb e)))).2.1, w7⟩
        have hq := step v _ y5
        have tests : wpAny (model X.prog X.w) X.A (forIn ifs true fun c r => if r = true then do let ok ← isTrue c (compEnvC scope cl (s2.heap.objs.size + 1) X.env) (eval c (compEnvC scope cl (s2.heap.objs.size + 1) X.env)); pure (ForInStep.yield ok) else pure (ForInStep.yield r))
            (TP Y (([] : List (Addr × Obj)) ++ pinsAt fp s5.heap) (some v :: capt js σ) (fun b H2 => if b = true then te (some v :: capt js σ) H2 fun y H3 => ∃ m', m' < n ∧ H3 s2.heap.objs.size = some (.lst ys) ∧ ys.length < sizeLine ∧ W (i + 1) m' (ys ++ [y]) (upd H3 s2.heap.objs.size (.lst (ys ++ [y]))) else ∃ m', m' < n ∧ W (i + 1) m' ys H2))
            (notedBy (model X.prog X.w) X.A (compEnvC scope cl (s2.heap.objs.size + 1) X.env) fun e s' => RR (.ref s2.heap.objs.size) (s2.heap.objs.size + 1) (.error e) s') s6 := by
          cases PIi with
          | nil => exact wpAny_tests_nil ⟨_, I6, hq⟩
          | one ht =>
            have := ht _ s6 (some v :: capt js σ) _ _ I6 hq
            rw [eP, eW, eA, eE, eX] at this
            exact wpAny_tests_one (wpAny_mono this (fun _ _ z => z) fun _ _ z => z.elim)
        refine thn tests fun ok s7 ⟨H7, I7, q7⟩ => ?_
        cases ok with
        | false =>
          rw [if_neg (by decide)] at q7 ⊢
          obtain ⟨m', hm, w7⟩ := q7
          exact back I7 w7 hm
        | true =>
          rw [if_pos rfl] at q7 ⊢
          have hE := PEe _ s7 (some v :: capt js σ) H7 _ I7 q7
          rw [eP, eW, eA, eE, eX] at hE
          refine wpAny_mono hE (fun y s8 ⟨yv, H8, I8, r8, m', hm, hl8, hz8, w8⟩ => ?_) fun _ _ z => z.elim
          have ap := mt_append (X := Y) _ s8 _ H8 (.ref s2.heap.objs.size) [yv] (.ref s2.heap.objs.size) [y] (fun _ H' => H' = upd H8 s2.heap.objs.size (.lst (ys ++ [yv]))) I8 rfl (.cons r8 .nil) ⟨_, ys, yv, rfl, rfl, hl8, hz8, rfl⟩
          rw [eP, eW, eA, eX] at ap
          refine wpAny_mono ap (fun _ s9 ⟨_, H9, I9, _, e9⟩ => ?_) fun _ _ z => z.elim
          subst e9
          exact back I9 w8 hm
    · obtain ⟨o, ho, _⟩ := T.obj 0 _ h0 b hb
      rw [upd_ne (Nat.ne_of_lt (Heap.lt_size ho))]
      exact (hf b hb).1
  refine codeAny_compStart_list ?_ (T.self X.A 0 _ _ _ (T.keep 0 _ _ h0 fun b _ o e => keep b o e) ?_)
  · rw [hsz]; exact loop
  · rw [hsz]; exact loop

theorem pe_comp {wi : TI} {ti : TT} {te : TE} (S : CompSc X x js scope cl) (hi : PI X (.Name x px) iter wi) (he : ∀ C s2 H2 fp, PE (cxComp X x js scope cl C s2 H2 fp) elt te) (ht : ∀ C s2 H2 fp, PIfs (cxComp X x js scope cl C s2 H2 fp) ifs ti) (hc : X.calm = true := by rfl)
    (hs : ∀ v, foldedSetIterable iter X.env v = pure v := by intro _; rfl) : PE X (.ListComp elt [⟨.Name x px, iter, ifs, 0⟩] scope pos) (tComp js wi ti te) := by
  intro pins s σ H Q I h
  rw [eval_ListComp]
  refine wpAny_comprehension_free (use := none) rfl hs S.clos S.kind S.names (thn (hi pins s σ H _ I h) fun v s1 h1 => thn h1 fun itv s2 h2 => ?_)
  obtain ⟨it, fp, tn, J, H2, rfl, I2, T, st, hf, q⟩ := h2
  obtain ⟨W, w0, turn⟩ := q s2.heap.objs.size (I2.hok.fresh (Nat.le_refl _))
  refine comp_block (RR := fun acc C => compPost (model X.prog X.w) X.A X.xe none (EP X pins σ Q) acc C) I2 hc S T st hf (by rintro _ rfl; exact he _ _ _ _) (by rintro _ rfl; exact ht _ _ _ _) W w0 turn ?_
  rintro C H' s' I' fC ⟨m, hn⟩ q'
  exact ⟨m, hn, fun h' sb => ⟨.ref s2.heap.objs.size, H', I'.turned (t' := s'.toks) (fun b o hb e => sb.extBut b o hb e) fC.1 fC.2.1 fC.2.2.2.1 fC.2.2.2.2.1 fC.2.2.2.2.2, rfl, q'⟩⟩
/-- y = [..] -/
theorem ps_setComp {wi : TI} {ti : TT} {te : TE} {i : Nat} {y : Str} {py spos : Pos} (hN : X.N.Nodup) (hy : X.N[i]? = some y) (hyl : Loc X.env.scope y) (S : CompSc X x js scope cl) (hi : PI X (.Name x px) iter wi) (he : ∀ C s2 H2 fp, PE (cxComp X x js scope cl C s2 H2 fp) elt te) (ht : ∀ C s2 H2 fp, PIfs (cxComp X x js scope cl C s2 H2 fp) ifs ti) (hc : X.calm = true := by rfl)
    (hs : ∀ v, foldedSetIterable iter X.env v = pure v := by intro _; rfl) (hsw : swapsWith (.ListComp elt [⟨.Name x px, iter, ifs, 0⟩] scope pos) (some (.Name y py)) spos.line X.env = pure true := by rfl)
    (hf : X.fn y = true ∨ X.env.scope.names.lookup y = some .local := by first | exact .inl rfl | exact .inr rfl | assumption) :
    PS X (.Assign [.Name y py] (.ListComp elt [⟨.Name x px, iter, ifs, 0⟩] scope pos) spos) (tAsg (tComp js wi ti te) (gName i)) := by
  intro pins s σ H D I h
  rw [exec_Assign_Name_used _ _ _ _ hsw]
  refine wpAny_bind (wpAny_standAt (wpAny_bind ?_))
  show wpAny _ _ (do let _ ← comprehension (.ListComp elt [⟨.Name x px, iter, ifs, 0⟩] scope pos) scope X.env (firstIterPos [⟨.Name x px, iter, ifs, 0⟩] pos) (newList []) false (eval iter X.env) (some (assign (.Name y py) X.env))) _ _ s
  refine wpAny_bind (thn (wpAny_comprehension_free (use := some (assign (.Name y py) X.env)) (Q := fun _ s' => SP X pins D .next s') rfl hs S.clos S.kind S.names (thn (hi pins s σ H _ I h) fun v s1 h1 => thn h1 fun itv s2 h2 => ?_)) fun _ s' z => wpAny_pure (wpAny_pure z))
  obtain ⟨it, fp, tn, J, H2, rfl, I2, T, st, hfp, q⟩ := h2
  obtain ⟨W, w0, turn⟩ := q s2.heap.objs.size (I2.hok.fresh (Nat.le_refl _))
  refine comp_block (Q := fun v H1 => gName i v σ H1 D.nx) (RR := fun acc C => compPost (model X.prog X.w) X.A X.xe (some (assign (.Name y py) X.env)) (fun _ s' => SP X pins D .next s') acc C) I2 hc S T st hfp (by rintro _ rfl; exact he _ _ _ _) (by rintro _ rfl; exact ht _ _ _ _) W w0 turn ?_
  rintro C H' s' I' fC ⟨m, hn⟩ q'
  obtain ⟨oC, es, ep, hoC, hdC, hr⟩ := id hn
  have Ip := I'.pinned (fp := [C]) (fun b hb => by have e : b = C := by simpa using hb
                                                   subst e; exact fC) (fun b hb => by have e : b = C := by simpa using hb
                                                                                      subst e; exact ⟨oC, hoC, fun v z => by rw [hdC] at z; cases z⟩)
  have gY : PG X (.Name y py) (gName i) := pg_name hN hy hyl hf
  refine thn (gY _ s' σ H' (.ref s2.heap.objs.size) (.ref s2.heap.objs.size) (fun σ' H1 => D.nx σ' H1 ∧ H1 = H') Ip rfl ⟨q', rfl⟩) fun _ s7 ⟨σ7, H7, I7, q7, e7⟩ => ?_
  subst e7
  have pC := I7.pin (C, oC) (List.mem_append_right _ (List.mem_append_right _ (mem_pinsAt (by simp) hoC)))
  refine ⟨m, ⟨oC, es, ep, pC.1, hdC, hr⟩, fun h' sb => ⟨σ7, H7, ?_, q7⟩⟩
  exact I7.unpinned.turned (t' := s7.toks) (fun b o hb e => sb.extBut b o hb e) fC.1 fC.2.1 fC.2.2.2.1 fC.2.2.2.2.1 fC.2.2.2.2.2
end
/-! ### a comprehension without a test whose element is read off the heap; with a test -/
section
variable {K : PySem.W.Frag} {σ : St} {H : Hp} {Q : VK} {te : TE} {ti : TT} {tl : TE} {js : List (Nat × Str)}
/-- over a list: p the test, f the element, both by values, nothing is changed -/
theorem tComp_lst (a : Addr) (xs : List V) (p : V → Bool) (f : V → V) (ht : ∀ R : V → Hp → Prop, R (.ref a) H → tl σ H R) (hl : SqL K H a xs) (hz : xs.length ≤ sizeLine)
    (hp : ∀ v ∈ xs, ∀ H' R, Same H H' → R (p v) H' → ti (some v :: capt js σ) H' R) (hf : ∀ v ∈ xs, p v = true → ∀ H' R, Same H H' → R (f v) H' → te (some v :: capt js σ) H' R)
    (hQ : ∀ l, H l = none → Q (.ref l) (upd H l (.lst ((xs.filter p).map f)))) : tComp js (iList K tl) ti te σ H Q := by
  refine ht _ ⟨a, rfl, ⟨xs, hl⟩, fun l hl0 => ?_⟩
  have same : ∀ ys, Same H (upd H l (.lst ys)) := fun ys b o e => by rw [upd_ne (ne_of_none e hl0)]; exact e
  refine ⟨fun i m ys H' => m = xs.length - i ∧ i ≤ xs.length ∧ ys = ((xs.take i).filter p).map f ∧ H' = upd H l (.lst ys), ⟨xs.length, by simp⟩, ?_⟩
  rintro i m ys H' ⟨rfl, hi, rfl, rfl⟩
  have q := (same (((xs.take i).filter p).map f)).seq hl
  by_cases hlt : i < xs.length
  · refine .inr ⟨⟨xs, xs[i], q, by simp [hlt]⟩, fun v H'' y => ?_⟩
    obtain ⟨e, y⟩ := y
    subst e
    have hv := y xs q
    have hvm : v ∈ xs := List.mem_of_getElem? hv
    refine hp v hvm _ _ (same _) ?_
    have tk : xs.take (i + 1) = xs.take i ++ [v] := by rw [List.take_add_one, hv]; rfl
    cases hpv : p v with
    | true =>
      rw [if_pos rfl]
      refine hf v hvm hpv _ _ (same _) ⟨xs.length - (i + 1), by omega, upd_same, ?_, rfl, hlt, ?_, ?_⟩
      · have h1 := List.length_filter_le p (xs.take i)
        have h2 : (xs.take i).length ≤ i := by rw [List.length_take]; omega
        rw [List.length_map]
        omega
      · rw [tk, List.filter_append, List.map_append]
        simp [hpv]
      · rw [upd_upd]
    | false =>
      rw [if_neg (by decide)]
      refine ⟨xs.length - (i + 1), by omega, rfl, hlt, ?_, rfl⟩
      rw [tk, List.filter_append, List.map_append]
      simp [hpv]
  · have e : i = xs.length := by omega
    subst e
    refine .inl ⟨⟨xs, q, Nat.le_refl _⟩, ?_⟩
    rw [List.take_length]
    exact hQ l hl0
end
end L2

end
section
set_option Elab.async false
set_option linter.all false
set_option maxRecDepth 100000
namespace L2
open PySem PySem.Spec PyProof.Rows
/-! ### more of texts of 0 and 1 -/
theorem cut_to (a : List Bool) (k : Nat) : cutS (enc a) none (some (k : Int)) = enc (a.take k) := by
  unfold cutS
  rw [enc_cps, enc_len, HT.sIx_nat, HT.sIx_none, List.drop_zero, Nat.sub_zero, ← List.map_take]
  unfold enc
  congr 3
  rw [List.take_eq_take_iff]
  omega
theorem cut_from (a : List Bool) (k : Nat) : cutS (enc a) (some (k : Int)) none = enc (a.drop k) := by
  unfold cutS
  rw [enc_cps, enc_len, HT.sIx_nat, HT.sIx_none, ← List.map_drop]
  unfold enc
  congr 1
  rw [List.take_of_length_le (by rw [List.length_map, List.length_drop]; omega)]
  by_cases h : k ≤ a.length
  · rw [Nat.min_eq_left h]
  · rw [Nat.min_eq_right (by omega), List.drop_of_length_le (Nat.le_refl _), List.drop_of_length_le (by omega)]
theorem pre_enc (h a : List Bool) : (enc h).cps.toList.isPrefixOf (enc a).cps.toList = h.isPrefixOf a := by
  rw [enc_cps, enc_cps]
  induction h generalizing a with
  | nil => rfl
  | cons x xs ih =>
    cases a with
    | nil => rfl
    | cons y ys =>
      simp only [List.map_cons, List.isPrefixOf_cons_cons]
      rw [ih]
      cases x <;> cases y <;> rfl
theorem pre_take (h a : List Bool) : decide (a.take h.length = h) = h.isPrefixOf a := by
  rw [Bool.eq_iff_iff, decide_eq_true_iff, List.isPrefixOf_iff_prefix, List.prefix_iff_eq_take]
  exact eq_comm
/-! ### rows and tables -/
abbrev Row := List Bool × Option Int
def wayV : Option Int → V
  | none => .non
  | some i => .int i
def RowIs (H : Hp) (v : V) (r : Row) : Prop := ∃ p, v = .ref p ∧ H p = some (.tup [.str (enc r.1), wayV r.2])
abbrev RowsAre (H : Hp) : List V → List Row → Prop := Paired (RowIs H)
/-- the tuples stay -/
def Tp (H H' : Hp) : Prop := ∀ b xs, H b = some (.tup xs) → H' b = some (.tup xs)
theorem Tp.trans {H H1 H2 : Hp} (a : Tp H H1) (b : Tp H1 H2) : Tp H H2 := fun c o h => b c o (a c o h)
theorem Same.tp {H H' : Hp} (h : Same H H') : Tp H H' := fun b xs e => h b _ e
theorem Same.upd {H : Hp} {l : Addr} {o : HO} (h : H l = none) : Same H (upd H l o) := fun b u e => by rw [upd_ne (ne_of_none e h)]; exact e
theorem RowIs.mono {H H' : Hp} {v : V} {r : Row} (h : RowIs H v r) (t : Tp H H') : RowIs H' v r := let ⟨p, e, q⟩ := h; ⟨p, e, t _ _ q⟩
theorem Paired.mono {α β : Type} {F G : α → β → Prop} : ∀ {l : List α} {m : List β}, Paired F l m → (∀ a b, F a b → G a b) → Paired G l m
  | _, _, .nil, _ => .nil
  | _, _, .cons h t, f => .cons (f _ _ h) (Paired.mono t f)
theorem RowsAre.mono {H H' : Hp} {vs : List V} {rs : List Row} (h : RowsAre H vs rs) (t : Tp H H') : RowsAre H' vs rs := Paired.mono h fun _ _ q => q.mono t
theorem Paired.split {α β : Type} {F : α → β → Prop} : ∀ {l1 l2 : List α} {m : List β}, Paired F (l1 ++ l2) m → ∃ m1 m2, m = m1 ++ m2 ∧ Paired F l1 m1 ∧ Paired F l2 m2
  | [], l2, m, h => ⟨[], m, rfl, .nil, h⟩
  | a :: l1, l2, _, .cons h t => let ⟨m1, m2, e, h1, h2⟩ := Paired.split t; ⟨_ :: m1, m2, by rw [e]; rfl, .cons h h1, h2⟩
theorem Paired.split1 {α β : Type} {F : α → β → Prop} {l1 : List α} {a : α} {l2 : List α} {m : List β} (h : Paired F (l1 ++ a :: l2) m) : ∃ m1 b m2, m = m1 ++ b :: m2 ∧ Paired F l1 m1 ∧ F a b ∧ Paired F l2 m2 := by
  obtain ⟨m1, m2, e, h1, h2⟩ := Paired.split h
  cases h2 with
  | cons h3 h4 => exact ⟨m1, _, _, e, h1, h3, h4⟩
theorem Paired.append {α β : Type} {F : α → β → Prop} : ∀ {l1 l2 : List α} {m1 m2 : List β}, Paired F l1 m1 → Paired F l2 m2 → Paired F (l1 ++ l2) (m1 ++ m2)
  | _, _, _, _, .nil, h => h
  | _, _, _, _, .cons h t, k => .cons h (Paired.append t k)
theorem Paired.inj_left {α β : Type} {F : α → β → Prop} (hF : ∀ a b c, F a b → F a c → b = c) : ∀ {l : List α} {m n : List β}, Paired F l m → Paired F l n → m = n
  | _, _, _, .nil, .nil => rfl
  | _, _, _, .cons h t, .cons h' t' => by rw [hF _ _ _ h h', Paired.inj_left hF t t']
theorem wayV_inj {a b : Option Int} (h : wayV a = wayV b) : a = b := by
  cases a <;> cases b <;> simp [wayV] at h
  · rfl
  · rw [h]
theorem RowIs.inj {H : Hp} {v : V} {r r' : Row} (h : RowIs H v r) (h' : RowIs H v r') : r = r' := by
  obtain ⟨p, e, q⟩ := h
  obtain ⟨p', e', q'⟩ := h'
  subst e
  cases e'
  rw [q] at q'
  simp only [Option.some.injEq, HO.tup.injEq, List.cons.injEq, V.str.injEq, and_true] at q'
  exact Prod.ext (enc_inj q'.1) (wayV_inj q'.2)
theorem RowsAre.inj {H : Hp} {vs : List V} {rs rs' : List Row} (h : RowsAre H vs rs) (h' : RowsAre H vs rs') : rs = rs' := Paired.inj_left (F := RowIs H) (fun _ _ _ a b => RowIs.inj a b) h h'
theorem tyV_lst {K : PySem.W.Frag} {H : Hp} {p : Addr} {xs : List V} (h : H p = some (.lst xs)) : tyV K "list" (.ref p) H := .inl ⟨rfl, xs, SqL.of h⟩
theorem Paired.get {α β : Type} {F : α → β → Prop} : ∀ {l : List α} {m : List β} (i : Nat) (a : α), Paired F l m → l[i]? = some a → ∃ b, m[i]? = some b ∧ F a b
  | _, _, _, _, .nil, h => by simp at h
  | _, _, 0, a, .cons h _, e => by simp at e; subst e; exact ⟨_, rfl, h⟩
  | _, _, i + 1, a, .cons _ t, e => by
    obtain ⟨b, h1, h2⟩ := Paired.get i a t (by simpa using e)
    exact ⟨b, by simpa using h1, h2⟩
theorem Paired.get' {α β : Type} {F : α → β → Prop} : ∀ {l : List α} {m : List β} (i : Nat) (b : β), Paired F l m → m[i]? = some b → ∃ a, l[i]? = some a ∧ F a b
  | _, _, _, _, .nil, h => by simp at h
  | _, _, 0, a, .cons h _, e => by simp at e; subst e; exact ⟨_, rfl, h⟩
  | _, _, i + 1, a, .cons _ t, e => by
    obtain ⟨b, h1, h2⟩ := Paired.get' i a t (by simpa using e)
    exact ⟨b, by simpa using h1, h2⟩
/-- the heads' values -/
theorem heads_flat (rs : List Row) : (rs.map fun r => V.str (enc r.1)).all flatV = true := by
  induction rs with
  | nil => rfl
  | cons r rs ih => simp only [List.map_cons, List.all_cons, ih, flatV, Bool.and_true]
theorem inV_heads (h : List Bool) (rs : List Row) : inV (.str (enc h)) (rs.map fun r => V.str (enc r.1)) = rs.any fun r => r.1 == h := by
  unfold inV
  rw [List.any_map]
  congr 1
  funext r
  show (enc r.1 == enc h) = (r.1 == h)
  rw [Bool.eq_iff_iff, beq_iff_eq, beq_iff_eq, enc_eq]
/-- the first part of a row, by values -/
def fstOf (H : Hp) (v : V) : V := match v with
  | .ref p => match H p with
    | some (.tup (x :: _)) => x
    | _ => .non
  | _ => .non
theorem fstOf_row {H : Hp} {v : V} {r : Row} (h : RowIs H v r) : fstOf H v = .str (enc r.1) := by
  obtain ⟨p, rfl, q⟩ := h
  simp only [fstOf, q]
theorem map_fstOf {H : Hp} {vs : List V} {rs : List Row} (h : RowsAre H vs rs) : vs.map (fstOf H) = rs.map fun r => V.str (enc r.1) := by
  induction h with
  | nil => rfl
  | cons h _ ih => rw [List.map_cons, List.map_cons, fstOf_row h, ih]
/-! ### the ways and tables as they are drawn -/
def wayBy (c few : Int) : Option Int := if c % 5 = 4 then none else if c / 5 % 4 = 3 then some (c / 20 % 10000) else some (c / 20 % few)
/-! ### leading -/
def leadStep (a : List Bool) (acc : Option Row) (r : Row) : Option Row :=
  if r.1.isPrefixOf a && (match acc with | none => true | some q => decide (q.1.length < r.1.length)) then some r else acc
def lead (rs : List Row) (a : List Bool) : Option Row := rs.foldl (leadStep a) none
def led (rs : List Row) (a : List Bool) : Option Int := (lead rs a).bind (·.2)
def OptRow (H : Hp) (v : V) : Option Row → Prop
  | none => v = .non
  | some r => RowIs H v r
theorem lead_mem {rs : List Row} {a : List Bool} {r : Row} (h : lead rs a = some r) : r ∈ rs ∧ r.1.isPrefixOf a = true := by
  have : ∀ (l : List Row) (acc : Option Row), l.foldl (leadStep a) acc = some r → acc = some r ∨ (r ∈ l ∧ r.1.isPrefixOf a = true) := by
    intro l
    induction l with
    | nil => intro acc h; exact .inl h
    | cons q l ih =>
      intro acc h
      rcases ih _ h with h | ⟨h1, h2⟩
      · unfold leadStep at h
        generalize hb : (match acc with | none => true | some z => decide (z.1.length < q.1.length)) = b at h
        by_cases hc : (q.1.isPrefixOf a && b) = true
        · rw [if_pos hc] at h
          cases h
          exact .inr ⟨List.mem_cons_self, (Bool.and_eq_true_iff.mp hc).1⟩
        · rw [if_neg hc] at h
          exact .inl h
      · exact .inr ⟨List.mem_cons_of_mem _ h1, h2⟩
  rcases this rs none h with h | h
  · cases h
  · exact h
end L2

end
section
set_option Elab.async false
set_option linter.all false
set_option maxRecDepth 100000
set_option maxHeartbeats 4000000
namespace L2
open PySem PySem.Spec
local macro_rules | `(tactic| walk_at "rd") => `(tactic| try simp only [tVar, tC, tOp, tUn, tSeq, tAsg, gName, tRet, tRetN, tIfS, tDrop, tNext, tCons, tNil, tCall, tCB, tTest, tB, tAnd, tOr, tNot, tAndV, tOrV, tNotV, tIf, tTup, tLst, tSl, tPart, tNoPart, tBM, tBM0, L2.start, rI2, rI3, rAddA, rMulA, rSubI, rDivI, rModI, rPowI, rNegI, rLt, rLe, rGt, rGe, rIsN, rNotN, rEqS, rNeS, rLen, rIxA, rIntA, rMax2, rMin2, rStrI, rListOf, rIsi2, isiF, isiO, rSlA, rStarts2, rEnds2, CDiv,
  List.map_cons, List.map_nil, List.length_cons, List.length_nil, List.replicate_succ, List.replicate_zero, List.cons_append, List.nil_append, List.append_nil, List.getElem?_cons_zero, List.getElem?_cons_succ, List.set_cons_zero, List.set_cons_succ, Option.some.injEq, V.int.injEq, V.str.injEq, V.bl.injEq, V.ref.injEq, V.ty.injEq, reduceCtorEq, exists_eq_left', exists_eq_left, exists_eq_right, exists_eq_right', exists_eq', exists_eq, exists_and_left, exists_and_right, false_and, and_false, true_and, and_true, exists_const, exists_false, false_or, or_false, List.cons.injEq, and_assoc, decide_eq_true_eq, decide_true, decide_false, Int.reduceLT, Int.reduceLE, Nat.reduceLT, Nat.reduceLeDiff, Nat.reduceSub, Nat.reduceAdd, Nat.sub_self, Nat.sub_zero, enc_eq, enc_nil, enc_0, enc_1, enc_01, enc_append, enc_len, Bool.not_true, Bool.not_false, Bool.false_eq_true, if_true, if_false, ↓reduceIte, String.reduceEq, or_true, true_or, Nat.one_mul, addr_len, bitsBy_len, List.length_append, List.length_replicate, List.length_map])
local macro_rules | `(tactic| walk_at "sz") => `(tactic| (have hline := line_ge; first | omega | (simp; omega)))
def rd_begins (K : PySem.W.Frag) : TS :=
  (tRet (tBM K "str" rStarts2 (tVar 1) (tCons (tVar 0) tNil)))
def nm_begins : List Str := ["head", "address"]
def sp_begins (K : PySem.W.Frag) : Sp := fun vs H Q _ => ∃ h a, vs = [.str (enc h), .str (enc a)] ∧ Q (.bl (h.isPrefixOf a)) H
theorem len_begins {K vs H Q E} (h : sp_begins K vs H Q E) : vs.length = 2 := by obtain ⟨_, _, rfl, _⟩ := h; rfl
theorem rdok_begins {K vs H Q E} (h : sp_begins K vs H Q E) : rd_begins K { nx := fun _ H' => Q .non H', rt := Q } (start nm_begins vs) H := by
  obtain ⟨h, a, rfl, q⟩ := h
  simp only [rd_begins, nm_begins]
  walk_at "rd"
  simp only [tyV, pre_enc]
  exact ⟨trivial, q⟩
def rd_law_way_by (K : PySem.W.Frag) : TS :=
  (tSeq (tIfS (tTest (tOp rEqS (tOp rModI (tVar 0) (tC (.int 5))) (tC (.int 4)))) (tRet (tC .non)) tNext)
  (tSeq (tIfS (tTest (tOp rEqS (tOp rModI (tOp rDivI (tVar 0) (tC (.int 5))) (tC (.int 4))) (tC (.int 3)))) (tRet (tOp rModI (tOp rDivI (tVar 0) (tC (.int 20))) (tC (.int 10000)))) tNext)
  (tRet (tOp rModI (tOp rDivI (tVar 0) (tC (.int 20))) (tVar 1)))))
def nm_law_way_by : List Str := ["cell", "few"]
def sp_law_way_by (K : PySem.W.Frag) : Sp := fun vs H Q _ => ∃ c f, vs = [.int c, .int f] ∧ 0 < f ∧ Q (wayV (wayBy c f)) H
theorem len_law_way_by {K vs H Q E} (h : sp_law_way_by K vs H Q E) : vs.length = 2 := by obtain ⟨_, _, rfl, _⟩ := h; rfl
theorem rdok_law_way_by {K vs H Q E} (h : sp_law_way_by K vs H Q E) : rd_law_way_by K { nx := fun _ H' => Q .non H', rt := Q } (start nm_law_way_by vs) H := by
  obtain ⟨c, f, rfl, hf, q⟩ := h
  simp only [rd_law_way_by, nm_law_way_by]
  walk_at "rd"
  unfold wayBy at q
  split
  · rename_i h
    rw [if_pos h] at q
    exact q
  · rename_i h
    rw [if_neg h] at q
    split
    · rename_i h2
      rw [if_pos h2] at q
      exact q
    · rename_i h2
      rw [if_neg h2] at q
      exact ⟨hf, q⟩
def rb_leading_row_1 (K : PySem.W.Frag) : TS :=
  (tIfS (tAnd (tB (tCall (sp_begins K) [] E0 (tCons (tOp (rIxA K) (tVar 3) (tC (.int 0))) (tCons (tVar 1) tNil)))) (tOr (tTest (tOp rIsN (tVar 2) (tC .non))) (tTest (tOp rGt (tCB (rLen K) (tCons (tOp (rIxA K) (tVar 3) (tC (.int 0))) tNil)) (tCB (rLen K) (tCons (tOp (rIxA K) (tVar 2) (tC (.int 0))) tNil)))))) (tAsg (tVar 3) (gName 2)) tNext)
def rd_leading_row (K : PySem.W.Frag) : TS :=
  (tSeq (tAsg (tC .non) (gName 2))
  (tSeq (tFor (iList K (tVar 0)) (gName 3) (rb_leading_row_1 K))
  (tRet (tVar 2))))
def nm_leading_row : List Str := ["rows", "address", "leading", "row"]
def sp_leading_row (K : PySem.W.Frag) : Sp := fun vs H Q _ => ∃ a xs rs ad, vs = [.ref a, .str (enc ad)] ∧ H a = some (.lst xs) ∧ RowsAre H xs rs ∧ (∀ r ∈ rs, r.1.length ≤ 1000) ∧ ∀ v, OptRow H v (lead rs ad) → Q v H
theorem len_leading_row {K vs H Q E} (h : sp_leading_row K vs H Q E) : vs.length = 2 := by obtain ⟨_, _, _, _, rfl, _⟩ := h; rfl
theorem rdok_leading_row {K vs H Q E} (h : sp_leading_row K vs H Q E) : rd_leading_row K { nx := fun _ H' => Q .non H', rt := Q } (start nm_leading_row vs) H := by
  obtain ⟨a, xs, rs, ad, rfl, ha, hr, hlen, q⟩ := h
  simp only [rd_leading_row, nm_leading_row]
  walk_at "rd"
  refine tFor_lst a xs (fun pre σ H' => H' = H ∧ ∃ o v pr, Paired (RowIs H) pre pr ∧ OptRow H v (lead pr ad) ∧ σ = [some (.ref a), some (.str (enc ad)), some v, o]) ?_ ⟨rfl, none, .non, [], .nil, rfl, rfl⟩ ?_ ?_ ?_
  · intro R h; walk_at "rd"; exact h
  · rintro pre post σ H' _ ⟨rfl, _⟩; exact SqL.of ha
  · rintro pre x post σ H' e ⟨rfl, o, v, pr, hp, ho, rfl⟩
    rw [e] at hr
    obtain ⟨r1, r, r2, er, hr1, hrx, _⟩ := Paired.split1 hr
    have epr : r1 = pr := RowsAre.inj hr1 hp
    subst epr
    have hrl : r.1.length ≤ 1000 := hlen r (by rw [er]; simp)
    obtain ⟨p, rfl, hp0⟩ := id hrx
    have hsn : lead (r1 ++ [r]) ad = leadStep ad (lead r1 ad) r := by unfold lead; rw [List.foldl_append]; rfl
    have fin : ∀ v', OptRow H' v' (lead (r1 ++ [r]) ad) → ∃ o v pr, Paired (RowIs H') (pre ++ [V.ref p]) pr ∧ OptRow H' v (lead pr ad) ∧ v' = v ∧ some (V.ref p) = o := fun v' h => ⟨_, v', r1 ++ [r], Paired.snoc hr1 hrx, h, rfl, rfl⟩
    rw [hsn] at fin
    simp only [rb_leading_row_1]
    cases hl : lead r1 ad with
    | none =>
      rw [hl] at ho fin
      cases ho
      walk_at "rd"
      refine ⟨_, .inr (SqT.of hp0), _, rfl, ?_⟩
      simp only [sp_begins]
      walk_at "rd"
      split
      · rename_i hb
        exact fin _ (by simp only [leadStep, hb, Bool.and_true, if_true]; exact hrx)
      · rename_i hb
        exact fin _ (by rw [Bool.not_eq_true] at hb; simp only [leadStep, hb, Bool.false_and]; exact rfl)
    | some q =>
      rw [hl] at ho fin
      have hql : q.1.length ≤ 1000 := hlen q (by rw [er]; exact List.mem_append_left _ (lead_mem hl).1)
      obtain ⟨p2, rfl, hp2⟩ := id ho
      walk_at "rd"
      refine ⟨_, .inr (SqT.of hp0), _, rfl, ?_⟩
      simp only [sp_begins]
      walk_at "rd"
      split
      · rename_i hb
        refine ⟨_, .inr (SqT.of hp0), _, rfl, ?_⟩
        walk_at "rd"
        refine ⟨by walk_at "sz", _, .inr (SqT.of hp2), _, rfl, ?_⟩
        walk_at "rd"
        refine ⟨by walk_at "sz", ?_⟩
        split
        · rename_i h2
          have h2 : q.1.length < r.1.length := by omega
          exact fin _ (by simp only [leadStep, hb, h2, Bool.true_and, decide_true, if_true]; exact hrx)
        · rename_i h2
          have h2 : ¬ q.1.length < r.1.length := by omega
          exact fin _ (by simp only [leadStep, hb, h2, Bool.true_and, decide_false]; exact ho)
      · rename_i hb
        exact fin _ (by rw [Bool.not_eq_true] at hb; simp only [leadStep, hb, Bool.false_and]; exact ho)
  · rintro σ H' ⟨rfl, o, v, pr, hp, ho, rfl⟩
    walk_at "rd"
    have epr : rs = pr := RowsAre.inj hr hp
    subst epr
    exact q v ho
def rd_head_for (K : PySem.W.Frag) : TS :=
  (tSeq (tAsg (tCall (sp_leading_row K) [] E0 (tCons (tVar 0) (tCons (tVar 1) tNil))) (gName 2))
  (tRet (tIf (tTest (tOp rIsN (tVar 2) (tC .non))) (tC .non) (tOp (rIxA K) (tVar 2) (tC (.int 0))))))
def nm_head_for : List Str := ["rows", "address", "row"]
def headV : Option Row → V
  | none => .non
  | some r => .str (enc r.1)
def sp_head_for (K : PySem.W.Frag) : Sp := fun vs H Q _ => ∃ a xs rs ad, vs = [.ref a, .str (enc ad)] ∧ H a = some (.lst xs) ∧ RowsAre H xs rs ∧ (∀ r ∈ rs, r.1.length ≤ 1000) ∧ Q (headV (lead rs ad)) H
theorem len_head_for {K vs H Q E} (h : sp_head_for K vs H Q E) : vs.length = 2 := by obtain ⟨_, _, _, _, rfl, _⟩ := h; rfl
theorem rdok_head_for {K vs H Q E} (h : sp_head_for K vs H Q E) : rd_head_for K { nx := fun _ H' => Q .non H', rt := Q } (start nm_head_for vs) H := by
  obtain ⟨a, xs, rs, ad, rfl, ha, hr, hlen, q⟩ := h
  simp only [rd_head_for, nm_head_for]
  walk_at "rd"
  refine ⟨a, xs, rs, ad, rfl, ha, hr, hlen, fun v hv => ?_⟩
  cases hl : lead rs ad with
  | none =>
    rw [hl] at hv q
    cases hv
    walk_at "rd"
    exact q
  | some r =>
    rw [hl] at hv q
    obtain ⟨p, rfl, hp⟩ := hv
    walk_at "rd"
    exact ⟨_, .inr (SqT.of hp), _, rfl, q⟩
def rd_way_for (K : PySem.W.Frag) : TS :=
  (tSeq (tAsg (tCall (sp_leading_row K) [] E0 (tCons (tVar 0) (tCons (tVar 1) tNil))) (gName 2))
  (tRet (tIf (tTest (tOp rIsN (tVar 2) (tC .non))) (tC .non) (tOp (rIxA K) (tVar 2) (tC (.int 1))))))
def nm_way_for : List Str := ["rows", "address", "row"]
def sp_way_for (K : PySem.W.Frag) : Sp := fun vs H Q _ => ∃ a xs rs ad, vs = [.ref a, .str (enc ad)] ∧ H a = some (.lst xs) ∧ RowsAre H xs rs ∧ (∀ r ∈ rs, r.1.length ≤ 1000) ∧ Q (wayV (led rs ad)) H
theorem len_way_for {K vs H Q E} (h : sp_way_for K vs H Q E) : vs.length = 2 := by obtain ⟨_, _, _, _, rfl, _⟩ := h; rfl
theorem rdok_way_for {K vs H Q E} (h : sp_way_for K vs H Q E) : rd_way_for K { nx := fun _ H' => Q .non H', rt := Q } (start nm_way_for vs) H := by
  obtain ⟨a, xs, rs, ad, rfl, ha, hr, hlen, q⟩ := h
  simp only [rd_way_for, nm_way_for]
  walk_at "rd"
  refine ⟨a, xs, rs, ad, rfl, ha, hr, hlen, fun v hv => ?_⟩
  unfold led at q
  cases hl : lead rs ad with
  | none =>
    rw [hl] at hv q
    cases hv
    walk_at "rd"
    exact q
  | some r =>
    rw [hl] at hv q
    obtain ⟨p, rfl, hp⟩ := hv
    walk_at "rd"
    exact ⟨_, .inr (SqT.of hp), _, rfl, q⟩
def rb_law_head_for_1 (K : PySem.W.Frag) : TS :=
  (tIfS (tTest (tOp rEqS (tSl (rSlA K) (tVar 1) tNoPart (tPart (tCB (rLen K) (tCons (tOp (rIxA K) (tVar 3) (tC (.int 0))) tNil)))) (tOp (rIxA K) (tVar 3) (tC (.int 0))))) (tIfS (tOr (tTest (tOp rIsN (tVar 2) (tC .non))) (tTest (tOp rGt (tCB (rLen K) (tCons (tOp (rIxA K) (tVar 3) (tC (.int 0))) tNil)) (tCB (rLen K) (tCons (tOp (rIxA K) (tVar 2) (tC (.int 0))) tNil))))) (tAsg (tVar 3) (gName 2)) tNext) tNext)
def rd_law_head_for (K : PySem.W.Frag) : TS :=
  (tSeq (tAsg (tC .non) (gName 2))
  (tSeq (tFor (iList K (tVar 0)) (gName 3) (rb_law_head_for_1 K))
  (tRet (tVar 2))))
def nm_law_head_for : List Str := ["rows", "address", "found", "row"]
def sp_law_head_for (K : PySem.W.Frag) : Sp := fun vs H Q _ => ∃ a xs rs ad, vs = [.ref a, .str (enc ad)] ∧ H a = some (.lst xs) ∧ RowsAre H xs rs ∧ (∀ r ∈ rs, r.1.length ≤ 1000) ∧ ad.length ≤ 1000 ∧ ∀ v, OptRow H v (lead rs ad) → Q v H
theorem len_law_head_for {K vs H Q E} (h : sp_law_head_for K vs H Q E) : vs.length = 2 := by obtain ⟨_, _, _, _, rfl, _⟩ := h; rfl
theorem rdok_law_head_for {K vs H Q E} (h : sp_law_head_for K vs H Q E) : rd_law_head_for K { nx := fun _ H' => Q .non H', rt := Q } (start nm_law_head_for vs) H := by
  obtain ⟨a, xs, rs, ad, rfl, ha, hr, hlen, had, q⟩ := h
  simp only [rd_law_head_for, nm_law_head_for]
  walk_at "rd"
  refine tFor_lst a xs (fun pre σ H' => H' = H ∧ ∃ o v pr, Paired (RowIs H) pre pr ∧ OptRow H v (lead pr ad) ∧ σ = [some (.ref a), some (.str (enc ad)), some v, o]) ?_ ⟨rfl, none, .non, [], .nil, rfl, rfl⟩ ?_ ?_ ?_
  · intro R h; walk_at "rd"; exact h
  · rintro pre post σ H' _ ⟨rfl, _⟩; exact SqL.of ha
  · rintro pre x post σ H' e ⟨rfl, o, v, pr, hp, ho, rfl⟩
    rw [e] at hr
    obtain ⟨r1, r, r2, er, hr1, hrx, _⟩ := Paired.split1 hr
    have epr : r1 = pr := RowsAre.inj hr1 hp
    subst epr
    have hrl : r.1.length ≤ 1000 := hlen r (by rw [er]; simp)
    obtain ⟨p, rfl, hp0⟩ := id hrx
    have hsn : lead (r1 ++ [r]) ad = leadStep ad (lead r1 ad) r := by unfold lead; rw [List.foldl_append]; rfl
    have fin : ∀ v', OptRow H' v' (lead (r1 ++ [r]) ad) → ∃ o v pr, Paired (RowIs H') (pre ++ [V.ref p]) pr ∧ OptRow H' v (lead pr ad) ∧ v' = v ∧ some (V.ref p) = o := fun v' h => ⟨_, v', r1 ++ [r], Paired.snoc hr1 hrx, h, rfl, rfl⟩
    rw [hsn] at fin
    simp only [rb_law_head_for_1]
    have hpt := pre_take r.1 ad
    walk_at "rd"
    refine ⟨_, .inr (SqT.of hp0), _, rfl, ?_⟩
    walk_at "rd"
    refine ⟨by walk_at "sz", by walk_at "sz", _, .inr (SqT.of hp0), _, rfl, ?_⟩
    walk_at "rd"
    rw [cut_to]
    walk_at "rd"
    have hb' : (ad.take r.1.length = r.1) ↔ r.1.isPrefixOf ad = true := by rw [← hpt, decide_eq_true_iff]
    split
    · rename_i hb
      rw [hb'] at hb
      cases hl : lead r1 ad with
      | none =>
        rw [hl] at ho fin
        cases ho
        walk_at "rd"
        exact fin _ (by simp only [leadStep, hb, Bool.and_true, if_true]; exact hrx)
      | some q =>
        rw [hl] at ho fin
        have hql : q.1.length ≤ 1000 := hlen q (by rw [er]; exact List.mem_append_left _ (lead_mem hl).1)
        obtain ⟨p2, rfl, hp2⟩ := id ho
        walk_at "rd"
        refine ⟨_, .inr (SqT.of hp0), _, rfl, ?_⟩
        walk_at "rd"
        refine ⟨by walk_at "sz", _, .inr (SqT.of hp2), _, rfl, ?_⟩
        walk_at "rd"
        refine ⟨by walk_at "sz", ?_⟩
        split
        · rename_i h2
          have h2 : q.1.length < r.1.length := by omega
          exact fin _ (by simp only [leadStep, hb, h2, Bool.true_and, decide_true, if_true]; exact hrx)
        · rename_i h2
          have h2 : ¬ q.1.length < r.1.length := by omega
          exact fin _ (by simp only [leadStep, hb, h2, Bool.true_and, decide_false]; exact ho)
    · rename_i hb
      rw [hb', Bool.not_eq_true] at hb
      exact fin _ (by simp only [leadStep, hb, Bool.false_and]; exact ho)
  · rintro σ H' ⟨rfl, o, v, pr, hp, ho, rfl⟩
    walk_at "rd"
    have epr : rs = pr := RowsAre.inj hr hp
    subst epr
    exact q v ho
def rd_law_way_is (K : PySem.W.Frag) : TS :=
  (tSeq (tIfS (tTest (tOp rIsN (tVar 1) (tC .non))) (tRet (tOp rIsN (tVar 0) (tC .non))) tNext)
  (tRet (tAndV (tCall (sp_law_whole K) [] E0 (tCons (tVar 0) tNil)) (tOp rEqS (tVar 0) (tVar 1)))))
def nm_law_way_is : List Str := ["found", "due"]
/-- a way found, a way due -/
def sp_law_way_is (K : PySem.W.Frag) : Sp := fun vs H Q _ => ∃ f d, vs = [wayV f, wayV d] ∧ Q (.bl (decide (f = d))) H
theorem len_law_way_is {K vs H Q E} (h : sp_law_way_is K vs H Q E) : vs.length = 2 := by obtain ⟨_, _, rfl, _⟩ := h; rfl
theorem rdok_law_way_is {K vs H Q E} (h : sp_law_way_is K vs H Q E) : rd_law_way_is K { nx := fun _ H' => Q .non H', rt := Q } (start nm_law_way_is vs) H := by
  obtain ⟨f, d, rfl, q⟩ := h
  simp only [rd_law_way_is, nm_law_way_is]
  cases d with
  | none =>
    cases f with
    | none => simp only [wayV]; walk_at "rd"; exact q
    | some i => simp only [wayV]; walk_at "rd"; exact q
  | some j =>
    cases f with
    | none =>
      simp only [wayV]; walk_at "rd"
      simp only [sp_law_whole]; walk_at "rd"
      exact q
    | some i =>
      simp only [wayV]; walk_at "rd"
      simp only [sp_law_whole]; walk_at "rd"
      simpa using q
end L2

end
section
set_option Elab.async false
set_option linter.all false
set_option maxRecDepth 100000
set_option maxHeartbeats 2000000
namespace L2
open PySem PySem.Spec PyProof.Rows
/-! ### exceptions: how one flies -/
section
variable {P : Program} {w : World} {H H' : Hp} {h : Heap} {a : Addr} {o : HO}
theorem ObjOk.isThere (x : ObjOk P w H h a o) : ∃ u, h.get? a = some u := by
  cases o with
  | lst xs => obtain ⟨_, _, _, _, e⟩ := x; exact ⟨_, e⟩
  | tup xs => obtain ⟨_, _, _, ob, e, _⟩ := x; exact ⟨_, e⟩
  | dK kvs => obtain ⟨_, _, _, _, ob, _, _, e, _⟩ := x; exact ⟨_, e⟩
  | dT kvs => obtain ⟨_, _, _, _, ob, _, _, e, _⟩ := x; exact ⟨_, e⟩
  | set S n => obtain ⟨ob, _, _, _, e, _⟩ := x; exact ⟨_, e⟩
  | ins C dx fs => obtain ⟨_, _, _, e, _⟩ := x; exact ⟨_, e⟩
  | own y => exact x
  | xd fs => obtain ⟨_, ⟨_, _, _, e, _⟩, _⟩ := x; exact ⟨_, e⟩
  | rng lo hi => obtain ⟨_, _, _, e⟩ := x; exact ⟨_, e⟩
  | frz ob u => obtain ⟨e, _⟩ := x; exact ⟨_, e⟩
  | tbl ps => exact ⟨_, (show h.get? a = some _ from x)⟩
  | met f y => exact ⟨_, (show h.get? a = some _ from x)⟩
  | ext φ => exact x.2.1
end
/-- behind a call that an exception has left: B holds all that the exception's records don't touch -/
structure Over (P : Program) (w : World) (outer : List Env) (H : Hp) (s : Shared) (H' : Hp) (s' : Shared) (B : Heap) : Prop where
  os : s'.os = s.os
  bare : AllBare s'.gens
  un : Un (frs outer) [] H H' s.heap s'.heap
  hok : HOk P w H' s'.heap
  stays : B.StaysIn s'.heap
  trk : ∀ b o, H' b = some o → ∃ u, B.get? b = some u
  old : ∀ b o, s.heap.get? b = some o → b ∉ frs outer → ∃ u, B.get? b = some u
/-- the exception at e, of the own class at C -/
def CX1 (P : Program) (w : World) : CXT := fun outer H s E e s' => ∃ a C t H' B, e = .ref a ∧ Over P w outer H s H' s' B ∧ Heap.FlyingW B outer a (.ref C) (.ref t) s'.heap ∧ E (.ref C) none H'
section
variable {X : Cx} {pins : List (Addr × Obj)} {σ : St} {H H' : Hp} {s s' : Shared} {B h'' : Heap}
theorem Over.hok' {P : Program} {w : World} {outer : List Env} (O : Over P w outer H s H' s' B) (hB : B.StaysIn h'') : HOk P w H' h'' := fun b o e =>
  (O.hok b o e).stay (fun c v hc q => by
    have hx : ∃ x, H' c = some x := by
      rcases hc with z | z
      · exact ⟨o, by rw [z]; exact e⟩
      · exact ⟨_, z⟩
    obtain ⟨x, hx⟩ := hx
    obtain ⟨u, hu⟩ := O.trk c x hx
    have e2 := O.stays c u hu
    rw [q] at e2
    cases e2
    exact hB c v hu) (fun _ q => q) fun _ _ q => q
theorem Over.inv (O : Over X.prog X.w X.stack H s H' s' B) (I : Inv X pins σ H s) (hB : B.StaysIn h'') (up : s'.heap.UpToSlots h'') : Inv X pins σ H' { s' with heap := h'' } := by
  obtain ⟨hp', g', d', t', os'⟩ := s'
  have eos : os' = s.os := O.os
  subst eos
  have un := O.un
  have keepB : ∀ b ob, s.heap.get? b = some ob → H b = none → b ∉ frs X.stack → h''.get? b = some ob := fun b ob q n hb => by
    obtain ⟨u, hu⟩ := O.old b ob q hb
    have e1 := O.stays b u hu
    have e2 := un.keep b ob q n hb (by simp)
    rw [e1] at e2
    cases e2
    exact hB b ob hu
  have frame : ∀ b ob, b ∈ frs X.stack → s.heap.get? b = some ob → ∃ sl, h''.get? b = some { ob with slots := sl } := fun b ob hb q => by
    obtain ⟨_, o1, q1, nf⟩ := I.stack.mem hb
    rw [q] at q1
    cases q1
    obtain ⟨sl, e1⟩ := un.any q (I.stkFree b hb) (by simp)
    obtain ⟨sl', e2⟩ := up b _ e1 nf
    exact ⟨sl', e2⟩
  have nstk : ∀ b, b ≠ X.env.locals → b ∉ X.fs → b ∉ frs X.stack := fun b h1 h2 z => (List.mem_cons.mp (I.stkSub b z)).elim h1 h2
  show Inv X pins σ H' { s with heap := h'', gens := g', drawn := d', toks := t' }
  refine I.step (g' := g') (d' := d') (t' := t') (ch := []) (fun _ z => nomatch z) (fun b ob h1 h2 _ q n => keepB b ob q n (nstk b h1 h2)) (fun b ob h1 h2 _ q n => ?_) (fun b ob _ q n => un.free b ob q n (by simp)) (fun b ob _ q => ?_) un.tups un.frzs un.tbls (fun m hm => ?_) (O.hok' hB) O.bare
  · by_cases hb : b ∈ frs X.stack
    · exact frame b ob hb q
    · exact ⟨ob.slots, keepB b ob q n hb⟩
  · by_cases hb : b ∈ frs X.stack
    · obtain ⟨sl, e⟩ := frame b ob hb q
      exact ⟨_, e⟩
    · obtain ⟨u, hu⟩ := O.old b ob q hb
      exact ⟨u, hB b u hu⟩
  · obtain ⟨ob, es, ep, q, hd, r⟩ := hm
    by_cases hb : X.env.locals ∈ frs X.stack
    · obtain ⟨sl, e⟩ := frame _ ob hb q
      exact ⟨_, es, ep, e, hd, r⟩
    · exact ⟨ob, es, ep, keepB _ ob q I.free hb, hd, r⟩
theorem Over.leave (O : Over X.prog X.w X.stack H s H' s' B) (I : Inv X pins σ H s) (hB : B.StaysIn h'') (up : s'.heap.UpToSlots h'') (hx : X.ex = []) : Over X.prog X.w X.outer X.H₀ X.s₀ H' { s' with heap := h'' } B := by
  have J := O.inv I hB up
  have un := J.base
  rw [hx] at un
  refine ⟨J.os, J.bare, un, J.hok, hB, O.trk, fun b o q hb => ?_⟩
  obtain ⟨o1, q1⟩ := I.base.there b o q (by rw [hx]; simp)
  refine O.old b o1 q1 fun z => ?_
  rcases List.mem_cons.mp (I.stkSub b z) with e | e
  · exact absurd (Nat.lt_of_lt_of_le (Heap.lt_size q) I.ok.above) (by rw [e]; exact Nat.lt_irrefl _)
  · exact hb e
/-- what was made here -/
theorem Inv.over {e : Addr} {cls : Value} {vs : List Value} {h1 : Heap} (I : Inv X pins σ H s) (hx : Heap.MadeExcOf s.heap h1 e cls vs) : Over X.prog X.w X.stack H s H { s with heap := h1 } (PySem.W.hideAll s.heap (frs X.stack)) where
  os := rfl
  bare := I.bare
  un := Un.kept hx.keeps
  hok := I.hok.kept hx.keeps
  stays := fun b o q => hx.keeps b o (PySem.W.of_hideAll _ q)
  trk := fun b o q => by
    obtain ⟨u, hu⟩ := (I.hok b o q).isThere
    exact ⟨u, PySem.W.hideAll_get _ hu fun z => by rw [I.stkFree b z] at q; cases q⟩
  old := fun b o q hb => ⟨o, PySem.W.hideAll_get _ q hb⟩
end
/-! ### an exception passes a def's body -/
section
variable {P : Program} {w : World} {K : PySem.W.Frag} {mg : Str → Option Value} {base : Heap} {N : List Str} {qual : Str} {scope : Scope} {f : Addr} {cd : Value} {A : Around} {outer : List Env} {s : Shared} {H : Hp} {E : XK}
theorem passX : Passes (CX1 P w) (cxOf (CX1 P w) P w K mg base N qual scope f cd A outer s H E) E := by
  intro pins σ H1 s1 e s' I h
  obtain ⟨a, C, t, H', B, rfl, O, fl, hE⟩ := h
  exact wpAny_leaves_onW (L := s.heap.objs.size) I.ok.frames rfl fl fun h'' fl'' up => ⟨a, C, t, H', B, rfl, O.leave I fl''.1 up rfl, fl'', hE⟩
theorem passX0 {X : Cx} : Passes (CX1 X.prog X.w) X E0 := fun _ _ _ _ _ _ _ ⟨_, _, _, _, _, _, _, _, h⟩ => h.elim
end
/-! ### own error classes under ValueError -/
abbrev bmV : List Value := [.type "ValueError", .type "Exception", .type "BaseException", .type "object"]
theorem exc_obj {K : PySem.W.Frag} {h : Heap} {C : Addr} {bmB : List Value} {newId : String} (X : K.In h) (q : PySem.W.excIn K C bmB newId = true) :
    ∃ bm N nm qn bs hdct sn sub ab col dd k0 k1 k2 k3 k5 mN,
      h.get? C = some (excClassObj nm qn C N bs bm hdct sn sub ab col dd k0 k1 k2 k3 k5 newId) ∧
      h.Ns N mN ∧ mN "__init__" = none ∧ OwnTail h bmB bm := by
  unfold PySem.W.excIn at q
  split at q
  · rename_i od cdt slt lk
    split at q
    · rename_i D bt j0 j1 j2 j3 nw j5 em es
      simp only [Bool.and_eq_true, beq_iff_eq, Bool.not_eq_true'] at q
      obtain ⟨⟨⟨⟨⟨z1, z2⟩, z3⟩, z4⟩, z5⟩, z6⟩ := q
      subst z1 z2
      cases cdt
      dsimp only at em z3 z5 z6
      subst em z3
      have esl : slt = #[j0, j1, j2, j3, some (.builtin nw), j5] := by
        cases slt
        dsimp only at es
        rw [es]
      subst esl
      refine ⟨bt, _, _, _, _, _, _, _, _, _, od, j0, j1, j2, j3, j5, _, X _ _ lk, .of_isNs (PySem.W.isNs_of_in X z5), ?_, PySem.W.tail_of_in X z4⟩
      exact PySem.W.nsMap_none_of_in X z5 z6
    · cases q
  · cases q
def tRaise (C : Addr) (E : XK) (t : TA) : TS := fun _ σ H => t σ H fun vs H1 => vs.length ≤ sizeLine ∧ E (.ref C) none H1
section
variable {P : Program} {w : World} {K : PySem.W.Frag} {mg : Str → Option Value} {base : Heap} {N : List Str} {qual : Str} {scope : Scope} {f : Addr} {cd : Value} {A : Around} {outer : List Env} {s : Shared} {H : Hp} {E : XK}
theorem ps_raise {x : Str} {C : Addr} {np cpos pos : Pos} {e : Expr} {es : List Expr} {t : TA}
    (hh : (A.deeper (envOfC qual scope s.heap.objs.size f cd)).handled = none) (hm : mg x = some (.ref C)) (hc : PySem.W.excIn K C bmV "ValueError.__new__" = true)
    (ha : PA (cxOf (CX1 P w) P w K mg base N qual scope f cd A outer s H E) (e :: es) t) (hg : Gl (cxOf (CX1 P w) P w K mg base N qual scope f cd A outer s H E) x := by rfl)
    (he : starEach (e :: es) (envOfC qual scope s.heap.objs.size f cd) = (false, eval e (envOfC qual scope s.heap.objs.size f cd)) :: starEach es (envOfC qual scope s.heap.objs.size f cd) := by rfl)
    (hpl : (backTo cpos (starEach es (envOfC qual scope s.heap.objs.size f cd))).any (·.1) = false := by rfl) (hdb : (x == ("__debug__" : Str)) = false := by decide) :
    PS (cxOf (CX1 P w) P w K mg base N qual scope f cd A outer s H E) (.Raise (some (.Call (.Name x np) (e :: es) [] cpos)) none pos) (tRaise C E t) := by
  intro pins s1 σ H1 D I h
  obtain ⟨bm, NN, nm, qn, bs, hdct, sn, sub, ab, col, dd, k0, k1, k2, k3, k5, mN, hC, hN, hni, T⟩ := exc_obj I.mod.kin hc
  refine wpAny_Raise_call_subT (C := C) (N := NN) (bm := bm) (mN := mN) (nm := nm) (q := qn) (bs := bs) (hdct := hdct) (sn := sn) (sub := sub) (ab := ab) (col := col) (dd := dd) (k0 := k0) (k1 := k1) (k2 := k2) (k3 := k3) (k5 := k5)
    PySem.F.excBase_ValueError (T.hasType PySem.F.excBase_ValueError.hasBase) hh ?pl hni (ld_glob I hg hm ⟨rfl, ?_⟩ hdb)
  case pl =>
    show (backTo cpos (starEach (e :: es) (envOfC qual scope s.heap.objs.size f cd))).any (·.1) = false
    rw [he]
    show (false || (backTo cpos (starEach es (envOfC qual scope s.heap.objs.size f cd))).any (·.1)) = false
    rw [hpl]; rfl
  show wpAny _ _ (evalArgs (.ref C) true (backTo cpos (starEach (e :: es) (envOfC qual scope s.heap.objs.size f cd))) []) _ _ _
  have hq := ha cpos pins s1 σ H1 _ I h
  have hq' : wpAny (model P w) (A.deeper (envOfC qual scope s.heap.objs.size f cd)) (spliced (backTo cpos (starEach (e :: es) (envOfC qual scope s.heap.objs.size f cd)))) _ _ s1 := hq
  rw [he] at hq' ⊢
  refine Calls.evalArgs_plain (thn hq' fun us s2 ⟨vs, H2, I2, r, hl, hE⟩ => ?_)
  refine ⟨rfl, by rw [← r.length]; exact hl, I2.bk _ _ hC, hN.keeps I2.bk, T.keeps I2.bk, fun h1 ex hx => ?_⟩
  have hin : ∀ env ∈ (cxOf (CX1 P w) P w K mg base N qual scope f cd A outer s H E).stack, ∀ b, env.frame = some b → b ∈ frs (cxOf (CX1 P w) P w K mg base N qual scope f cd A outer s H E).stack := fun env he b hb => List.mem_filterMap.mpr ⟨env, he, hb⟩
  exact wpAny_leaves_madeW (L := s.heap.objs.size) (base := PySem.W.hideAll s2.heap (frs (cxOf (CX1 P w) P w K mg base N qual scope f cd A outer s H E).stack)) I2.ok.frames rfl (fun b o q => PySem.W.of_hideAll _ q) (PySem.W.funFrames_hide I2.stack hin) hx
    fun h'' t'' fl _ _ up => ⟨ex, C, t'', H2, _, rfl, (I2.over hx).leave I2 fl.1 up rfl, fl, hE⟩
end
end L2
namespace L2
open PySem PySem.Spec PyProof.Rows
/-- the address of a class of the text -/
def clsAt (K : PySem.W.Frag) (x : Str) : Addr := match PySem.W.nsIn K mainGlobals x with
  | some (some (.ref C)) => C
  | _ => 0
theorem clsAt_of {K : PySem.W.Frag} {x : Str} {C : Addr} (h : PySem.W.nsIn K mainGlobals x = some (some (.ref C))) : clsAt K x = C := by unfold clsAt; rw [h]
end L2

end
section
set_option Elab.async false
set_option linter.all false
set_option maxRecDepth 100000
set_option maxHeartbeats 2000000
namespace L2
open PySem PySem.Spec PyProof.Rows
/-! ### an exception that was caught, as a thing -/
def isExc (a C : Addr) (h : Heap) : Prop := ∃ o vs, h.get? a = some o ∧ o.cls = .ref C ∧ o.data = .fields vs
def excO (a C : Addr) : HO := .ext (isExc a C)
section
variable {X : Cx} {pins : List (Addr × Obj)} {σ : St} {H : Hp} {s : Shared}
/-- an untracked object is tracked from here on -/
theorem Inv.track {a : Addr} {o : HO} (I : Inv X pins σ H s) (hn : H a = none) (h0 : X.s₀.heap.get? a = none) (hL : a ≠ X.env.locals) (hC : ∀ x c, X.env.cells.lookup x = some c → c ≠ a) (hP : ∀ p ∈ X.pn ++ pins, p.1 ≠ a)
    (new : ObjOk X.prog X.w (upd H a o) s.heap a o) : Inv X pins σ (upd H a o) s where
  ok := I.ok
  os := I.os
  bare := I.bare
  base := by
    have ne : ∀ b u, X.s₀.heap.get? b = some u → b ≠ a := fun b u q z => by rw [z, h0] at q; cases q
    have nt : ∀ b u, H b = some u → b ≠ a := fun b u q z => by rw [z, hn] at q; cases q
    have u := I.base
    refine ⟨u.keep, u.slot, fun b ob q n hx => ?_, u.there, fun b xs q => ?_, fun b ob xs q => ?_, fun b ps q => ?_⟩
    · rw [upd_ne (ne b ob q)]; exact u.free b ob q n hx
    · have q1 := u.tups b xs q
      rw [upd_ne (nt b _ q1)]; exact q1
    · have q1 := u.frzs b ob xs q
      rw [upd_ne (nt b _ q1)]; exact q1
    · obtain ⟨m, q1⟩ := u.tbls b ps q
      exact ⟨m, by rw [upd_ne (nt b _ q1)]; exact q1⟩
  loc := I.loc
  cell := I.cell
  free := by rw [upd_ne (Ne.symm hL)]; exact I.free
  freeC := fun x c e => by rw [upd_ne (hC x c e)]; exact I.freeC x c e
  pin := fun p hp => by
    obtain ⟨q1, q2, q3⟩ := I.pin p hp
    exact ⟨q1, by rw [upd_ne (hP p hp)]; exact q2, q3⟩
  hok := fun b u q => by
    by_cases hb : b = a
    · subst hb
      rw [upd_same] at q
      cases q
      exact new
    · rw [upd_ne hb] at q
      have nt : ∀ c v, H c = some v → c ≠ a := fun c v q z => by rw [z, hn] at q; cases q
      exact (I.hok b u q).stay (fun _ _ _ e => e) (fun c e => by rw [upd_ne (nt c _ e)]; exact e) fun c xs e => by rw [upd_ne (nt c _ e)]; exact e
  len := I.len
/-- a local name is gone -/
theorem Inv.unbound {n : Str} {i : Nat} {h' : Heap} {v : Option Value} {m : Str → Option Value} {t' : Nat} (I : Inv X pins σ H s) (hN : X.N.Nodup) (hi : X.N[i]? = some n)
    (hm : s.heap.Ns X.env.locals m) (hl : ∀ (j : Nat) (x : Str) (v : V), X.N[j]? = some x → σ[j]? = some (some v) → Vis X.env.scope x → ∃ u, RelV v u ∧ Look X.env s.heap m x u)
    (hn : h'.Ns X.env.locals (fun x => if x = n then v else m x)) (hs : Heap.SameBut X.env.locals s.heap h') : Inv X pins (σ.set i none) H { s with heap := h', toks := t' } := by
  have ne0 : ∀ b o, X.s₀.heap.get? b = some o → h'.get? b = s.heap.get? b := fun b o e => hs.2 b (Nat.ne_of_lt (Nat.lt_of_lt_of_le (Heap.lt_size e) I.ok.above))
  have hiσ : i < σ.length := by rw [I.len]; exact (List.getElem?_eq_some_iff.mp hi).1
  refine ⟨I.ok, I.os, I.bare, ⟨fun b o e nn hb hx => ?_, fun b o e nn hb hx => ?_, I.base.free, fun b o e hx => ?_, I.base.tups, I.base.frzs, I.base.tbls⟩, ⟨_, hn, fun j y v' e1 e2 e3 => ?_⟩, fun y c e => ?_, I.free, I.freeC, fun p hp => ?_, fun b ob e => ?_, by simpa using I.len⟩
  · exact (ne0 b o e).trans (I.base.keep b o e nn hb hx)
  · obtain ⟨sl, e1⟩ := I.base.slot b o e nn hb hx
    exact ⟨sl, (ne0 b o e).trans e1⟩
  · obtain ⟨o', e1⟩ := I.base.there b o e hx
    exact ⟨o', (ne0 b o e).trans e1⟩
  · by_cases hj : j = i
    · subst hj
      rw [List.getElem?_set_self hiσ] at e2
      cases e2
    · rw [List.getElem?_set_ne (Ne.symm hj)] at e2
      obtain ⟨u', r', q⟩ := hl j y v' e1 e2 e3
      refine ⟨u', r', ?_⟩
      rcases q with ⟨k, e⟩ | ⟨k, c, e, z⟩
      · have : y ≠ n := fun e => hj (nodup_ix hN e1 (e ▸ hi))
        exact .inl ⟨k, by simp [this, e]⟩
      · exact .inr ⟨k, c, e, z.sameBut hs (I.cne y c e)⟩
  · obtain ⟨w', z⟩ := I.cell y c e
    exact ⟨w', z.sameBut hs (I.cne y c e)⟩
  · obtain ⟨e, nn, ne, nf, d⟩ := I.pin p hp
    exact ⟨(hs.2 p.1 ne).trans e, nn, ne, nf, d⟩
  · obtain ⟨oL, _, _, hoL, _⟩ := id hm
    refine (I.hok b ob e).stay (fun c w' hc q => (hs.2 c ?_).trans q) (fun _ q => q) fun _ _ q => q
    rintro rfl
    rcases hc with z | z
    · subst z; rw [I.free] at e; cases e
    · rw [I.free] at z; cases z
/-- within an except suite -/
def Cx.held (X : Cx) (e : Value) : Cx := { X with A := X.A.mark (some e), calm := false }
theorem Inv.held (I : Inv X pins σ H s) (e : Value) : Inv (X.held e) pins σ H s :=
  ⟨⟨I.ok.mod, I.ok.kind, I.ok.glob, I.ok.blt, I.ok.above, I.ok.inj, I.ok.has, I.ok.cab, (fun z => nomatch z), I.ok.frames, I.ok.stk, I.ok.exf, I.ok.bs, I.ok.bsz, I.ok.noex, I.ok.exfs, I.ok.funs, I.ok.frf⟩, I.os, I.bare, I.base, I.loc, I.cell, I.free, I.freeC, I.pin, I.hok, I.len⟩
theorem Inv.unheld {e : Value} (ok : X.Ok) (I : Inv (X.held e) pins σ H s) : Inv X pins σ H s := ⟨ok, I.os, I.bare, I.base, I.loc, I.cell, I.free, I.freeC, I.pin, I.hok, I.len⟩
end
/-! ### except R: -/
theorem excMatches_own {M : Model} {K : PySem.W.Frag} {A : Around} {E : Value → Shared → Prop} {s : Shared} {a C R : Addr} {Q : Bool → Shared → Prop} (X : K.In s.heap) (ha : isExc a C s.heap)
    (hR : PySem.W.excIn K R bmV "ValueError.__new__" = true) (hm : PySem.W.mroIn K C (.ref R) = some true) (h : Q true s) : wpAny M A (excMatches (.ref a) (.ref R)) Q E s := by
  obtain ⟨bm, NN, nm, qn, bs, hdct, sn, sub, ab, col, dd, k0, k1, k2, k3, k5, mN, hC, hN, hni, T⟩ := exc_obj X hR
  obtain ⟨o, vs, ho, hcls, _⟩ := ha
  have hcB : (Value.ref R :: bm).contains (.type "BaseException") = true := by rw [List.contains_cons, T.hasType PySem.F.excBase_ValueError.hasBase, Bool.or_true]
  have f := tc_notTuple
  have L := PySem.W.looks_mroIn (M := M) X hm
  obtain ⟨hp, g, d, tk, os⟩ := s
  unfold excMatches
  repeat (first | (with_reducible refine wpAny_loadPart_at ho ?_; rw [hcls]) | with_reducible refine wpAny_loadPart_at hC ?_ | (with_reducible refine wpAny_isSubtype_exc hC ?_; rw [hcB]) | (with_reducible refine L.at ?_) | wp_step)
  exact h
end L2

end
section
set_option Elab.async false
set_option linter.all false
set_option maxRecDepth 100000
set_option maxHeartbeats 4000000
namespace L2
open PySem PySem.Spec PyProof.Rows
/-! ### sorted(xs, key=f): f a def of the text whose answers are texts -/
def SortedBy (ks : List Str) (xs ys : List V) : Prop :=
  ∃ ps : List (Str × V), ps.Perm (ks.zip xs) ∧ ys = ps.map Prod.snd ∧ ps.Pairwise (fun p q => ¬ q.1.cps.toList < p.1.cps.toList)
theorem Paired.permL {α β : Type} {R : α → β → Prop} {l a : List α} (h : l.Perm a) : ∀ {b : List β}, Paired R a b → ∃ m, m.Perm b ∧ Paired R l m := by
  induction h with
  | nil => intro b p; cases p; exact ⟨[], .nil, .nil⟩
  | cons x _ ih =>
    intro b p
    cases p with
    | cons r t => obtain ⟨m, h1, h2⟩ := ih t; exact ⟨_ :: m, h1.cons _, .cons r h2⟩
  | swap x y l =>
    intro b p
    cases p with
    | cons r t =>
      cases t with
      | cons r2 t2 => exact ⟨_, .swap _ _ _, .cons r2 (.cons r t2)⟩
  | trans _ _ ih1 ih2 =>
    intro b p
    obtain ⟨m, h1, h2⟩ := ih2 p
    obtain ⟨m2, h3, h4⟩ := ih1 h2
    exact ⟨m2, h3.trans h1, h4⟩
/-- a key and its item, on the heap and without it -/
def KeyIt (p : Value × Value) (q : Str × V) : Prop := (∃ t, p.1 = .str q.1 t) ∧ RelV q.2 p.2
theorem keyIt_zip : ∀ {keys : List Value} {ks : List Str} {vs : List Value} {xs : List V}, StrsAre keys ks → Vals xs vs → Paired KeyIt (keys.zip vs) (ks.zip xs)
  | _, _, _, _, .nil, _ => .nil
  | _, _, _, _, .cons x t h, .nil => .nil
  | _, _, _, _, .cons x t h, .cons r v => .cons ⟨⟨t, rfl⟩, r⟩ (keyIt_zip h v)
theorem keyIt_snd : ∀ {l : List (Value × Value)} {m : List (Str × V)}, Paired KeyIt l m → Vals (m.map Prod.snd) (l.map Prod.snd)
  | _, _, .nil => .nil
  | _, _, .cons h t => .cons h.2 (keyIt_snd t)
theorem keyIt_sorted {arr : Array Keyed} {ps : List (Str × V)} (hp : Paired KeyIt arr.toList ps) (hs : SortedToK strKind arr arr.size) : ps.Pairwise (fun p q => ¬ q.1.cps.toList < p.1.cps.toList) := by
  have hl : arr.toList.length = ps.length := Paired.length hp
  rw [List.pairwise_iff_getElem]
  intro i j hi hj hij
  have key : ∀ (n : Nat) (hn : n < ps.length), KK strKind arr n = ps[n].1.cps.toList := fun n hn => by
    have hn' : n < arr.size := by rw [← Array.length_toList, hl]; exact hn
    obtain ⟨b, e1, ⟨t, e2⟩, _⟩ := Paired.get n arr[n] hp (by rw [Array.getElem?_toList, getElem?_pos arr n hn'])
    rw [List.getElem?_eq_getElem hn] at e1
    cases e1
    unfold KK
    rw [getElem?_pos arr n hn']
    show (strKind.keyOf arr[n].1).getD _ = _
    rw [e2]; rfl
  have hq := hs i j (Nat.le_of_lt hij) (by rw [← Array.length_toList, hl]; exact hj)
  rw [key i hi, key j hj] at hq
  intro z
  have : decide (ps[j].1.cps.toList < ps[i].1.cps.toList) = false := hq
  rw [decide_eq_true z] at this
  cases this
section
variable {X : Cx} {pins : List (Addr × Obj)} {σ : St} {H : Hp} {s : Shared} {A : Around} {E : Value → Shared → Prop} {L KS : Addr} {vs : List Value} {xs : List V} {ks : List Str} {keys : Array Value} {c e1 : Nat} {Pf : PySem.Fin → Shared → Prop}
/-- an untracked thing of ours is written -/
theorem Inv.scratch {b : Addr} {g : Obj → Obj} (I : Inv X pins σ H s) (f : FpOk X pins H b) : Inv X pins σ H { s with heap := s.heap.update b g } :=
  I.turned (t' := s.toks) (it := b) (fun d o hd e => by rw [Heap.get?_update_other _ _ (Ne.symm hd)]; exact e) f.1 f.2.1 f.2.2.2.1 f.2.2.2.2.1 f.2.2.2.2.2
theorem sk_tail {st : SortSt} (I : Inv X pins σ H s) (hex : X.ex = []) (fL : FpOk X pins H L) (fK : FpOk X pins H KS) (hne : KS ≠ L) (oL : s.heap.get? L = some (seqObj "list" #[] e1)) (oK : s.heap.get? KS = some (seqObj "list" keys c))
    (hk : StrsAre keys.toList ks) (hv : Vals xs vs) (hkl : ks.length = xs.length) (h64 : xs.length < 64) (hp : (arrOf st).Perm (keys.zip vs.toArray)) (hs : SortedToK strKind (arrOf st) (arrOf st).size) (hfl : failedOf st = none)
    (h : ∀ ys s2, Inv X pins σ (upd H L (.lst ys)) s2 → SortedBy ks xs ys → Pf (.done (.ret .none)) s2) : wpAny (model X.prog X.w) A (ksk_tail L false e1 (.ref KS) st) Pf E s := by
  have lv : vs.length = xs.length := (Vals.length hv).symm
  have lk : keys.size = xs.length := by have := hk.length; rw [Array.length_toList] at this; omega
  have la : (arrOf st).size = xs.length := by rw [hp.size_eq, Array.size_zip, lk, List.size_toArray, lv, Nat.min_self]
  have line : 64 ≤ sizeLine := Nat.le_trans (by decide) line_ge
  obtain ⟨ps, q1, q2⟩ := Paired.permL (R := KeyIt) (l := (arrOf st).toList) (by rw [← ksk_zip]; exact Array.perm_iff_toList_perm.mp hp) (keyIt_zip hk hv)
  have oL1 : (s.heap.update KS (Obj.mapSeq fun _ => (#[] : Array Value))).get? L = some (seqObj "list" #[] e1) := by rw [Heap.get?_update_other _ _ hne]; exact oL
  have I1 := I.scratch (g := Obj.mapSeq fun _ => (#[] : Array Value)) fK
  have I2 := I1.scratch (g := Obj.mapSeq fun _ => (arrOf st).map (·.2)) fL
  unfold ksk_tail
  dsimp only
  refine wpAny_bind (listUpdate_at oK rfl (wpAny_bind (wpAny_letGo (wpAny_bind (seqEpoch_at oL1 rfl (wpAny_bind
    (listUpdate_at oL1 rfl ?_ (Nat.zero_le _) (by show ((arrOf st).map (·.2)).size ≤ _; rw [Array.size_map, la]; omega))))))) (by rw [lk]; omega) (Nat.zero_le _))
  rw [hfl]
  simp only [bne_self_eq_false, Bool.false_eq_true, if_false]
  have h0 : X.s₀.heap.get? L = none := by
    rcases fL.2.2.2.1 with z | z
    · rw [hex] at z; cases z
    · exact Heap.get?_none_of_le z
  refine wpAny_pure (h (ps.map Prod.snd) _ (I2.track (o := .lst (ps.map Prod.snd)) fL.1 h0 fL.2.1 fL.2.2.2.2.1 fL.2.2.2.2.2 ?_) ⟨ps, q1, rfl, keyIt_sorted q2 hs⟩)
  obtain ⟨n2, o2⟩ : ∃ n2, ((s.heap.update KS (Obj.mapSeq fun _ => (#[] : Array Value))).update L (Obj.mapSeq fun _ => (arrOf st).map (·.2))).get? L = some (seqObj "list" ((arrOf st).map (·.2)) n2) := ⟨_, get?_update_seq oL1 (fun _ => (arrOf st).map (·.2))⟩
  refine ⟨?_, ((arrOf st).map (·.2)).toList, n2, ?_, ?_⟩
  · rw [List.length_map, q1.length_eq, List.length_zip, hkl, Nat.min_self]; omega
  · rw [Array.toList_map]; exact keyIt_snd q2
  · rw [Array.toArray_toList]; exact o2
theorem sk_end (I : Inv X pins σ H s) (hex : X.ex = []) (fL : FpOk X pins H L) (fK : FpOk X pins H KS) (hne : KS ≠ L) (oL : s.heap.get? L = some (seqObj "list" #[] e1)) (oK : s.heap.get? KS = some (seqObj "list" keys c))
    (hk : StrsAre keys.toList ks) (hv : Vals xs vs) (hkl : ks.length = xs.length) (h64 : xs.length < 64)
    (h : ∀ ys s2, Inv X pins σ (upd H L (.lst ys)) s2 → SortedBy ks xs ys → Pf (.done (.ret .none)) s2) : wpAny (model X.prog X.w) A (ksk_end L false vs.toArray e1 (.ref KS) keys) Pf E s := by
  have lv : vs.length = xs.length := (Vals.length hv).symm
  have lk : keys.size = xs.length := by have := hk.length; rw [Array.length_toList] at this; omega
  have lz : (keys.zip vs.toArray).size = xs.length := by rw [Array.size_zip, lk, List.size_toArray, lv, Nat.min_self]
  have k0 : KeysOf strKind (keys.zip vs.toArray) := fun p hp => by
    rw [ksk_zip] at hp
    obtain ⟨x, t, e⟩ := hk.all _ (List.of_mem_zip hp).1
    exact ⟨x.cps.toList, by rw [e]⟩
  unfold ksk_end
  dsimp only
  rw [if_neg (by decide)]
  by_cases h2 : vs.toArray.size < 2
  · rw [if_pos h2, if_pos h2]
    refine wpAny_bind (wpAny_pure ?_)
    rw [StateT.run_pure]
    refine wpAny_bind (wpAny_pure ?_)
    refine sk_tail (st := SortSt.mk' general' (keys.zip vs.toArray) #[] 7 none) I hex fL fK hne oL oK hk hv hkl h64 (Array.Perm.refl _) (fun i j hij hj => ?_) rfl h
    have hj2 : j < (keys.zip vs.toArray).size := hj
    rw [List.size_toArray] at h2
    have : i = j := by omega
    subst this
    exact KeyOrd.kle_refl _
  · rw [if_neg h2, if_neg h2]
    rw [List.size_toArray] at h2
    have kk : keyKind' keys = pure oneType' := by
      obtain ⟨kl⟩ := keys
      match kl, hk, lk with
      | [], _, lk => simp at lk; omega
      | [_], _, lk => simp at lk; omega
      | v1 :: v2 :: r, hk, _ => exact keyKind_strs hk
    rw [kk]
    refine wpAny_bind (wpAny_pure (wpAny_bind (wpAny_mono (wpS_sortRunsK strKind_oneLt (a₀ := keys.zip vs.toArray) (st := SortSt.mk' oneType' (keys.zip vs.toArray) #[] 7 none)
      (Q := fun _ st' => (arrOf st').Perm (keys.zip vs.toArray) ∧ failedOf st' = none ∧ SortedToK strKind (arrOf st') (keys.zip vs.toArray).size)
      k0 ⟨Array.Perm.refl _, rfl, rfl, rfl⟩ (by rw [lz]; omega) (by rw [lz]; exact h64) fun st' a1 a2 a3 => ⟨a1, a2, a3⟩) ?_ fun _ _ e => e)))
    rintro ⟨⟨⟩, st'⟩ s' ⟨rfl, p1, p2, p3⟩
    exact sk_tail I hex fL fK hne oL oK hk hv hkl h64 p1 (by rw [p1.size_eq]; exact p3) p2 h
/-- what a call of the key's function is wanted to do -/
def KeyRun (X : Cx) (pins : List (Addr × Obj)) (σ : St) (H : Hp) (A : Around) (f : Addr) (xs : List V) (ks : List Str) : Prop :=
  ∀ (s' : Shared) (pins' : List (Addr × Obj)) (i : Nat) (v : Value) (x : V) (y : Str), Inv X (pins ++ pins') σ H s' → xs[i]? = some x → ks[i]? = some y → RelV x v →
    codeAny (model X.prog X.w) A (.call (.ref f) ⟨[v], []⟩) (CR CX0 X.stack X.prog X.w H s' (fun v H' => v = .str y ∧ H' = H) E0) s'
/-- the keys are asked for one behind the other -/
theorem sk_rest {f : Addr} (one : KeyRun X pins σ H A f xs ks)
    (I : Inv X pins σ H s) (hex : X.ex = []) (fL : FpOk X pins H L) (fK : FpOk X pins H KS) (hne : KS ≠ L) (oL : s.heap.get? L = some (seqObj "list" #[] e1)) (oK : s.heap.get? KS = some (seqObj "list" #[] c))
    (hv : Vals xs vs) (hkl : ks.length = xs.length) (h64 : xs.length < 64)
    (h : ∀ ys s2, Inv X pins σ (upd H L (.lst ys)) s2 → SortedBy ks xs ys → Pf (.done (.ret .none)) s2) : wpAny (model X.prog X.w) A (ksk_rest L (.ref f) false vs.toArray e1 (.ref KS)) Pf E s := by
  have lv : vs.length = xs.length := (Vals.length hv).symm
  have line : 64 ≤ sizeLine := Nat.le_trans (by decide) line_ge
  unfold ksk_rest
  refine wpAny_bind (wpAny_rule ?_)
  rw [List.forIn_toArray]
  refine wpAny_bind (ksk_fold (fun i s' => Inv X pins σ H s' ∧ s'.heap.get? L = some (seqObj "list" #[] e1) ∧ ∃ kA c, s'.heap.get? KS = some (seqObj "list" kA c) ∧ StrsAre kA.toList (ks.take i)) vs 0 s ⟨I, oL, #[], c, oK, by simpa using StrsAre.nil⟩ ?step ?done)
  case step =>
    rintro j v s' hj ⟨I1, oL1, kA, c1, oK1, hkA⟩
    simp only [Nat.zero_add] at hkA ⊢
    have hjl : j < xs.length := by have := (List.getElem?_eq_some_iff.mp hj).1; omega
    obtain ⟨x, hx, rx⟩ : ∃ x, xs[j]? = some x ∧ RelV x v := by
      obtain ⟨u, hu, r⟩ := Vals.get hv (List.getElem?_eq_getElem hjl)
      rw [hj] at hu; cases hu
      exact ⟨_, List.getElem?_eq_getElem hjl, r⟩
    obtain ⟨y, hy⟩ : ∃ y, ks[j]? = some y := ⟨_, List.getElem?_eq_getElem (by omega)⟩
    have Ip := I1.pinned (fp := [L, KS]) (fun b hb => by
      rcases List.mem_cons.mp hb with rfl | hb
      · exact fL
      · rw [List.mem_singleton.mp hb]; exact fK) (fun b hb => by
      rcases List.mem_cons.mp hb with rfl | hb
      · exact ⟨_, oL1, fun v z => nomatch z⟩
      · rw [List.mem_singleton.mp hb]; exact ⟨_, oK1, fun v z => nomatch z⟩)
    refine wpAny_bind (wpAny_attempt (wpAny_call (codeAny_mono (one s' _ j v x y Ip hx hy rx) fun res s2 hq => ?_)))
    cases res with
    | error e => exact hq.elim
    | ok fl =>
      cases fl with
      | next => exact False.elim hq
      | brk => exact False.elim hq
      | cont => exact False.elim hq
      | ret u =>
        obtain ⟨w', H2, I2, r2, ew, eH⟩ := Ip.after hq
        subst ew eH
        obtain ⟨t2, rfl⟩ := r2
        have pL := (I2.pin (L, _) (List.mem_append_right _ (List.mem_append_right _ (mem_pinsAt (by simp) oL1)))).1
        have pK := (I2.pin (KS, _) (List.mem_append_right _ (List.mem_append_right _ (mem_pinsAt (by simp) oK1)))).1
        have I3 := I2.unpinned
        have lkA : kA.size ≤ xs.length := by have := hkA.length; rw [Array.length_toList, List.length_take] at this; omega
        dsimp only
        refine wpAny_bind (listUpdate_at pK rfl ?_ (by omega) (by rw [Array.size_push]; omega))
        obtain ⟨c2, o2⟩ : ∃ c2, (s2.heap.update KS (Obj.mapSeq (·.push (.str y t2)))).get? KS = some (seqObj "list" (kA.push (.str y t2)) c2) := ⟨_, get?_update_seq pK (·.push (.str y t2))⟩
        refine wpAny_pure ⟨rfl, I3.scratch fK, by rw [Heap.get?_update_other _ _ hne]; exact pL, _, c2, o2, ?_⟩
        have ek : ks.take (j + 1) = ks.take j ++ [y] := by rw [List.take_add_one, hy]; rfl
        rw [ek, Array.toList_push]
        have snoc : ∀ {a : List Value} {b : List Str}, StrsAre a b → StrsAre (a ++ [.str y t2]) (b ++ [y]) := by
          intro a b z
          induction z with
          | nil => exact .cons y t2 .nil
          | cons p q _ ih => exact .cons p q ih
        exact snoc hkA
  case done =>
    rintro s' ⟨I1, oL1, kA, c1, oK1, hkA⟩
    have e3 : ks.take (0 + vs.length) = ks := List.take_of_length_le (by omega)
    rw [e3] at hkA
    exact wpAny_bind (listItems_at oK1 rfl (sk_end I1 hex fL fK hne oL1 oK1 hkA hv hkl h64 h))
end
/-- sorted(xs, key=f) -/
def tSortKey (K : PySem.W.Frag) (sp : Sp) (t : TA) : TE := fun σ H Q => t σ H fun as H1 => ∃ a xs ks, as = [.ref a] ∧ SqL K H1 a xs ∧ xs.length < 64 ∧ ks.length = xs.length ∧
  (∀ (i : Nat) (x : V) (y : Str) (H2 : Hp), Same H1 H2 → xs[i]? = some x → ks[i]? = some y → sp [x] H2 (fun v H' => v = .str y ∧ H' = H2) E0) ∧ ∀ l ys, H1 l = none → SortedBy ks xs ys → Q (.ref l) (upd H1 l (.lst ys))
section
variable {X : Cx}
/-- sorted(xs, key=f), f's calls known -/
theorem sorted_key {pins : List (Addr × Obj)} {σ : St} {H1 : Hp} {s1 : Shared} {a f : Addr} {xs : List V} {ks : List Str} {Q : VK} (I1 : Inv X pins σ H1 s1) (hex : X.ex = []) (ql : SqL X.K H1 a xs) (h64 : xs.length < 64) (hkl : ks.length = xs.length)
    (one : KeyRun X pins σ H1 X.A.in1.in1 f xs ks) (q : ∀ l ys, H1 l = none → SortedBy ks xs ys → Q (.ref l) (upd H1 l (.lst ys))) :
    wpAny (model X.prog X.w) X.A (call (.builtin "sorted") [.ref a] [(Str.ofString "key", .ref f)]) (EP X pins σ Q) X.xe s1 := by
  have line : 64 ≤ sizeLine := Nat.le_trans (by decide) line_ge
  obtain ⟨its, rv, ⟨o, n, ho, hc, _, hd⟩, _⟩ := I1.list ql
  have lits : its.length = xs.length := (Vals.length rv).symm
  refine call_function_entry_kw kind_sorted plain_sorted entry_sorted (ksk_s1 _ _) ?_
  unfold Builtin.«sorted»
  refine wpAny_bind (m := checkCount "sorted" 1 1 _) (wpAny_pure (wpAny_bind (collect_list (vs := its) ⟨o, ho, hc, n, hd⟩ (wpAny_bind (wpAny_newList ?_ (by omega))) (by omega))))
  have hsz : ((s1.heap.push (seqObj "list" #[] 0)).update s1.heap.objs.size (Obj.mapSeq (· ++ its.toArray))).objs.size = s1.heap.objs.size + 1 := by rw [Heap.size_update, size_push']
  have keep : ∀ b ob, s1.heap.get? b = some ob → (((s1.heap.push (seqObj "list" #[] 0)).update s1.heap.objs.size (Obj.mapSeq (· ++ its.toArray))).push (seqObj "list" its.toArray 0)).get? b = some ob := fun b ob z => by
    have lt : b < s1.heap.objs.size := Heap.lt_size z
    refine Heap.get?_push_of_some _ ?_
    rw [Heap.get?_update_other _ _ (Ne.symm (Nat.ne_of_lt lt))]
    exact Heap.get?_push_of_some _ z
  have I2 := I1.kept (t' := s1.toks) keep
  have oL : (((s1.heap.push (seqObj "list" #[] 0)).update s1.heap.objs.size (Obj.mapSeq (· ++ its.toArray))).push (seqObj "list" its.toArray 0)).get? (s1.heap.objs.size + 1) = some (seqObj "list" its.toArray 0) := by
    rw [← hsz]; exact Heap.get?_push_size _ rfl
  have fL : FpOk X pins H1 (s1.heap.objs.size + 1) := I1.fpOk (Nat.le_succ _) (I1.hok.fresh (Nat.le_succ _))
  have sL : (((s1.heap.push (seqObj "list" #[] 0)).update s1.heap.objs.size (Obj.mapSeq (· ++ its.toArray))).push (seqObj "list" its.toArray 0)).objs.size = s1.heap.objs.size + 2 := by rw [size_push', hsz]
  rw [hsz]
  generalize ((s1.heap.push (seqObj "list" #[] 0)).update s1.heap.objs.size (Obj.mapSeq (· ++ its.toArray))).push (seqObj "list" its.toArray 0) = hA at *
  refine wpAny_bind (wpAny_holding (wpAny_call_entry_kw slot_list_sort ⟨_, oL, rfl⟩ entry_list_sort ?body (ksk_l1 _ _)))
  case body =>
    rw [ksk_t1]
    unfold ksk_tree
    obtain ⟨e1, oL1⟩ : ∃ e1, (hA.update (s1.heap.objs.size + 1) (Obj.mapSeq fun _ => (#[] : Array Value))).get? (s1.heap.objs.size + 1) = some (seqObj "list" #[] e1) := ⟨_, get?_update_seq oL fun _ => #[]⟩
    refine wpAny_bind (listItems_at oL rfl (wpAny_bind (listUpdate_at oL rfl (wpAny_bind (seqEpoch_at oL1 rfl (wpAny_bind (wpAny_newTuple (wpAny_bind (wpAny_newList (wpAny_holding ?_) (Nat.zero_le _)))
      (by show its.length ≤ _; omega))))) (by rw [List.size_toArray]; omega) (Nat.zero_le _))))
    have I3 := I2.scratch (g := Obj.mapSeq fun _ => (#[] : Array Value)) fL
    have I4 := I3.kept (t' := s1.toks) (h' := ((hA.update (s1.heap.objs.size + 1) (Obj.mapSeq fun _ => (#[] : Array Value))).push (seqObj "tuple" its.toArray 0)).push (seqObj "list" #[] 0)) fun b ob z => Heap.get?_push_of_some _ (Heap.get?_push_of_some _ z)
    have sK : ((hA.update (s1.heap.objs.size + 1) (Obj.mapSeq fun _ => (#[] : Array Value))).push (seqObj "tuple" its.toArray 0)).objs.size = s1.heap.objs.size + 3 := by rw [size_push', Heap.size_update, sL]
    have fK : FpOk X pins H1 (s1.heap.objs.size + 3) := I1.fpOk (Nat.le_add_right _ 3) (I1.hok.fresh (Nat.le_add_right _ 3))
    refine sk_rest (KS := ((hA.update (s1.heap.objs.size + 1) (Obj.mapSeq fun _ => (#[] : Array Value))).push (seqObj "tuple" its.toArray 0)).objs.size) (xs := xs) (ks := ks) one I4 hex fL (by rw [sK]; exact fK) (by rw [sK]; exact Nat.ne_of_gt (Nat.add_lt_add_left (by decide) _))
      (Heap.get?_push_of_some _ (Heap.get?_push_of_some _ oL1)) (Heap.get?_push_size _ rfl) rv hkl h64 fun ys s5 I5 so => ⟨_, rfl, ?_⟩
    exact wpAny_pure ⟨_, rfl, .ref (s1.heap.objs.size + 1), _, I5, rfl, q _ ys fL.1 so⟩
end
section
variable {X : Cx} {k : Nat} {x : Str} {pn : Str} {sp : Sp} {p pk kp pos : Pos} {e : Expr} {t : TA}
theorem pe_sortKey (F : Own X.prog X.w X.K X.mg X.base k x [pn] sp) (hr : Room (k + 2) X.A) (hs : X.mg "sorted" = none) (ha : PA X [e] t) (hex : X.ex = [] := by rfl) (hg : Gl X x := by rfl) (hg2 : Gl X "sorted" := by rfl) (hdb : (x == ("__debug__" : Str)) = false := by decide)
    (he : backTo pos (starEach [e] X.env) = (false, eval e X.env) :: backTo pos (starEach [] X.env) := by rfl) (hpl : (backTo pos (starEach [e] X.env)).any (·.1) = false := by rfl)
    (hall : (backToKw pos (keywordEach [⟨some "key", .Name x pk, kp⟩] X.env)).all (·.1.isSome) = true := by rfl) (hkw : (backToKw pos (keywordEach [⟨some "key", .Name x pk, kp⟩] X.env)).any (·.1.isNone) = false := by rfl)
    (hnm : (backToKw pos (keywordEach [⟨some "key", .Name x pk, kp⟩] X.env)).filterMap (·.1) = [(Str.ofString "key")] := by rfl) :
    PE X (.Call (.Name "sorted" p) [e] [⟨some "key", .Name x pk, kp⟩] pos) (tSortKey X.K sp t) := by
  intro pins s σ H Q I h
  obtain ⟨f, fd, G, hm, hk, hb⟩ := F.ex
  refine wpAny_Call_Name_kw (ld_blt I hg2 hs bt_sorted ?_)
  refine callWith_kw (thn (ha pos pins s σ H _ I h) fun us s1 ⟨as, H1, I1, r, a, xs, ks, ea, ql, h64, hkl, turn, q⟩ => ?_) he hpl hall hkw
  subst ea
  obtain ⟨u, rfl, ru⟩ := vals1 r
  cases ru
  refine kws_cons (ld_glob I1 hg hm (kws_nil ?_) hdb)
  rw [hnm]
  show wpAny _ _ (call (.builtin "sorted") [.ref a] [(Str.ofString "key", .ref f)]) _ _ s1
  refine sorted_key I1 hex ql h64 hkl (fun s' pins' i v x y Ip hx hy rx => ?_) q
  have e0 : Env0 X.prog X.w X.K X.mg X.base X.A.in1.in1 X.stack s' H1 := ⟨Ip.ok.frames, Ip.env0.mod, Ip.env0.bs, Ip.env0.bsz, Ip.env0.funs, Ip.env0.frf, Ip.env0.hok, Ip.env0.bare⟩
  exact G.run X.A.in1.in1 X.stack s' H1 ⟨[v], []⟩ [v] [x] _ E0 (hr.in1).in1 e0 (by have := hb s' [v] Ip.kIn rfl; simpa using this) (.cons rx .nil) (turn i x y H1 (Same.refl _) hx hy)
end
end L2

end
section
set_option Elab.async false
set_option linter.all false
set_option maxRecDepth 100000
namespace L2
open PySem PySem.Spec PyProof.Rows

/-! ### a comprehension that captures names of the def around it -/
def capCl (cells : List (Str × Addr)) : List (Str × NameKind) → List (Str × Addr) → List (Str × Addr)
  | [], cs => cs
  | y :: r, cs => capCl cells r (if (y.2 == NameKind.free) = true then (y.1, (cells.lookup y.1).getD 0) :: cs else cs)
def capOk (fn ns : List (Str × NameKind)) : Bool := ns.all fun y => y.2 == .local || y.2 == .globalImplicit || (y.2 == .free && fn.lookup y.1 == some .cell)
theorem closureFor_cap {scope : Scope} {env : Env} (h : ∀ y ∈ scope.names, y.2 = .free → ∃ c, env.cells.lookup y.1 = some c) : closureFor scope env = pure (capCl env.cells scope.names []) := by
  unfold closureFor
  generalize scope.names = ns at h
  generalize ([] : List (Str × Addr)) = cs
  induction ns generalizing cs with
  | nil => simp [capCl]
  | cons y r ih =>
    have ih := fun cs => ih (fun z hz => h z (List.mem_cons_of_mem _ hz)) cs
    simp only [List.forIn_cons, bind_assoc, pure_bind]
    unfold capCl
    cases e : y.2 == NameKind.free with
    | true =>
      obtain ⟨c, hc⟩ := h y List.mem_cons_self (by simpa using e)
      have ec : cellOf env y.1 = pure c := by unfold cellOf; rw [hc]
      simp only [if_true, ec, hc, Option.getD_some, pure_bind, bind_assoc]
      exact ih _
    | false => simp only [pure_bind, Bool.false_eq_true, if_false]; exact ih _
theorem capCl_lookup {cells : List (Str × Addr)} : ∀ {ns : List (Str × NameKind)} {cs : List (Str × Addr)} {y : Str} {c : Addr}, (∀ z ∈ ns, z.2 = .free → ∃ c, cells.lookup z.1 = some c) → (∀ y c, cs.lookup y = some c → cells.lookup y = some c) → (capCl cells ns cs).lookup y = some c → cells.lookup y = some c
  | [], cs, y, c, _, hc, h => hc y c h
  | z :: r, cs, y, c, hz, hc, h => by
    unfold capCl at h
    refine capCl_lookup (fun q hq => hz q (List.mem_cons_of_mem _ hq)) ?_ h
    intro y c h
    split at h
    · rename_i e
      obtain ⟨d, hd⟩ := hz z List.mem_cons_self (by simpa using e)
      rw [List.lookup_cons, hd] at h
      cases e2 : y == z.1 with
      | true => rw [e2] at h; have := eq_of_beq e2; subst this; simpa [hd] using h
      | false => rw [e2] at h; exact hc y c h
    · exact hc y c h
theorem capCl_has {cells : List (Str × Addr)} : ∀ {ns : List (Str × NameKind)} {cs : List (Str × Addr)} {y : Str}, ((y, NameKind.free) ∈ ns ∨ (cs.lookup y).isSome) → ∃ c, (capCl cells ns cs).lookup y = some c
  | [], cs, y, h => by
    rcases h with h | h
    · simp at h
    · exact Option.isSome_iff_exists.mp h
  | z :: r, cs, y, h => by
    unfold capCl
    refine capCl_has ?_
    rcases h with h | h
    · rcases List.mem_cons.mp h with rfl | h
      · right; simp
      · exact .inl h
    · right
      split
      · rw [List.lookup_cons]
        cases y == z.1 with
        | true => rfl
        | false => exact h
      · exact h
theorem CompSc.cap {X : Cx} {x : Str} {js : List (Nat × Str)} {scope fs : Scope} (hfs : X.env.scope = fs) (hX : X.env.scope.kind = .function) (hc : X.env.cells = cellsFrom (X.env.locals + 1) X.env.scope.names []) (hk : scope.kind = .function)
    (ho : capOk fs.names scope.names = true) (hn : ∀ y ∈ scope.names, y.2 = .local → scope.names.lookup y.1 = some .local) (own : scope.names.lookup x = some .local) (nd : (x :: js.map (·.2)).Nodup)
    (hj : js.map (fun p => X.N[p.1]?) = js.map (fun p => some p.2)) (hf : (js.all fun p => scope.names.lookup p.2 == some .free) = true) : CompSc X x js scope (capCl X.env.cells scope.names []) := by
  subst hfs
  have ho' : ∀ y ∈ scope.names, y.2 = .local ∨ y.2 = .globalImplicit ∨ (y.2 = .free ∧ X.env.scope.names.lookup y.1 = some .cell) := fun y hy => by
    have := List.all_eq_true.mp ho y hy
    simpa [or_assoc] using this
  have cell : ∀ y ∈ scope.names, y.2 = .free → X.env.scope.names.lookup y.1 = some .cell := fun y hy e => by
    rcases ho' y hy with h | h | h
    · rw [h] at e; cases e
    · rw [h] at e; cases e
    · exact h.2
  have has : ∀ y ∈ scope.names, y.2 = .free → ∃ c, X.env.cells.lookup y.1 = some c := fun y hy e => by rw [hc]; exact cell_has (cell y hy e)
  refine ⟨closureFor_cap has, fun y hy e => ?_, hk, hn, own, fun y c h => capCl_lookup has (by simp) h, fun y h => ?_, nd, fun p hp => ?_⟩
  · rcases ho' y hy with h | h | h
    · rw [h] at e; cases e
    · rw [h] at e; cases e
    · rw [h.1] at e; cases e
  · refine capCl_has (.inl ?_)
    have key : ∀ k, (relabel scope X.env).names.lookup y = some k → (k = .cell ∨ k = .free) → (y, NameKind.free) ∈ scope.names := fun k h hk => by
      have hm := PySem.mem_of_lookup h
      unfold relabel at hm
      obtain ⟨⟨n, k'⟩, hz, e⟩ := List.mem_map.mp hm
      have h3 := ho' _ hz
      by_cases hcnd : (k' == NameKind.free && X.env.scope.kind == .function && X.env.kindOf n == some .cell) = true
      · simp only [hcnd, if_true] at e
        have h4 : n = y := (Prod.mk.inj e).1
        subst h4
        have h5 : k' = .free := by simp only [Bool.and_eq_true, beq_iff_eq] at hcnd; exact hcnd.1.1
        subst h5; exact hz
      · simp only [hcnd] at e
        have e := Prod.mk.inj e
        have h4 : n = y := e.1
        have h5 : k' = k := e.2
        subst h4 h5
        rcases h3 with h | h | h
        · rw [show k' = _ from h] at hk; rcases hk with hk | hk <;> cases hk
        · rw [show k' = _ from h] at hk; rcases hk with hk | hk <;> cases hk
        · rw [show k' = _ from h.1] at hz; exact hz
    rcases h with h | h
    · exact key _ h (.inl rfl)
    · exact key _ h (.inr rfl)
  · have e1 := List.map_inj_left.mp hj p hp
    have e2 : scope.names.lookup p.2 = some .free := by simpa using List.all_eq_true.mp hf p hp
    have hm := PySem.mem_of_lookup e2
    have e3 := cell _ hm rfl
    have hkd : X.env.kindOf p.2 = some .cell := e3
    refine ⟨e1, hkd, ?_, capCl_has (.inl hm)⟩
    have q : ∀ (ns : List (Str × NameKind)), ns.lookup p.2 = some .free → (ns.map fun (n, k) => if (k == NameKind.free && X.env.scope.kind == .function && X.env.kindOf n == some .cell) then (n, NameKind.cell) else (n, k)).lookup p.2 = some .cell := by
      intro ns
      induction ns with
      | nil => intro h; simp at h
      | cons z r ih =>
        intro h
        obtain ⟨n, k⟩ := z
        show List.lookup p.2 ((if (k == NameKind.free && X.env.scope.kind == .function && X.env.kindOf n == some .cell) = true then (n, NameKind.cell) else (n, k)) :: _) = _
        cases hx : p.2 == n with
        | true =>
          simp only [List.lookup_cons, hx] at h
          cases h
          have := eq_of_beq hx
          subst this
          rw [if_pos (by simp [hX, hkd])]
          simp [List.lookup_cons]
        | false =>
          simp only [List.lookup_cons, hx] at h
          by_cases hcd : (k == NameKind.free && X.env.scope.kind == .function && X.env.kindOf n == some .cell) = true
          · rw [if_pos hcd]; simp only [List.lookup_cons, hx]; exact ih h
          · rw [if_neg hcd]; simp only [List.lookup_cons, hx]; exact ih h
    exact q _ e2
end L2

end
section
set_option Elab.async false
set_option linter.all false
set_option maxRecDepth 100000
set_option maxHeartbeats 4000000
namespace L2
open PySem PySem.Spec PyProof.Rows
local macro_rules | `(tactic| walk_at "rd") => `(tactic| try simp only [tVar, tC, tOp, tUn, tSeq, tAsg, gName, tRet, tRetN, tIfS, tDrop, tNext, tCons, tNil, tCall, tCB, tTest, tB, tAnd, tOr, tNot, tAndV, tOrV, tNotV, tIf, tTup, tLst, tSl, tPart, tNoPart, tBM, tBM0, L2.start, rI2, rI3, rAddA, rMulA, rSubI, rDivI, rModI, rPowI, rNegI, rLt, rLe, rGt, rGe, rIsN, rNotN, rEqS, rNeS, rLen, rIxA, rIntA, rMax2, rMin2, rStrI, rListOf, rIsi2, isiF, isiO, rSlA, rStarts2, rEnds2, CDiv,
  List.map_cons, List.map_nil, List.length_cons, List.length_nil, List.replicate_succ, List.replicate_zero, List.cons_append, List.nil_append, List.append_nil, List.getElem?_cons_zero, List.getElem?_cons_succ, List.set_cons_zero, List.set_cons_succ, Option.some.injEq, V.int.injEq, V.str.injEq, V.bl.injEq, V.ref.injEq, V.ty.injEq, reduceCtorEq, exists_eq_left', exists_eq_left, exists_eq_right, exists_eq_right', exists_eq', exists_eq, exists_and_left, exists_and_right, false_and, and_false, true_and, and_true, exists_const, exists_false, false_or, or_false, List.cons.injEq, and_assoc, decide_eq_true_eq, decide_true, decide_false, Int.reduceLT, Int.reduceLE, Nat.reduceLT, Nat.reduceLeDiff, Nat.reduceSub, Nat.reduceAdd, Nat.sub_self, Nat.sub_zero, enc_eq, enc_nil, enc_0, enc_1, enc_01, enc_append, enc_len, Bool.not_true, Bool.not_false, Bool.false_eq_true, if_true, if_false, ↓reduceIte, String.reduceEq, or_true, true_or, Nat.one_mul, addr_len, bitsBy_len, List.length_append, List.length_replicate, List.length_map])
local macro_rules | `(tactic| walk_at "sz") => `(tactic| (have hline := line_ge; first | omega | (simp; omega)))
/-! ### rows by their heads -/
def hcp (r : Row) : List Nat := (enc r.1).cps.toList
theorem hcp_inj {a b : Row} (h : hcp a = hcp b) : a.1 = b.1 := by
  unfold hcp at h
  refine enc_inj ?_
  cases ha : enc a.1
  cases hb : enc b.1
  rw [ha, hb] at h
  congr 1
  exact Array.toList_inj.mp h
theorem nodup_heads : ∀ {rs : List Row} {a b : Row}, (rs.map (·.1)).Nodup → a ∈ rs → b ∈ rs → a.1 = b.1 → a = b
  | [], _, _, _, h, _, _ => by cases h
  | r :: rs, a, b, hn, ha, hb, e => by
    rw [List.map_cons, List.nodup_cons] at hn
    rcases List.mem_cons.mp ha with rfl | ha'
    · rcases List.mem_cons.mp hb with rfl | hb
      · rfl
      · have : a.1 ∈ rs.map (·.1) := List.mem_map.mpr ⟨b, hb, e.symm⟩
        exact absurd this hn.1
    · rcases List.mem_cons.mp hb with rfl | hb
      · have : b.1 ∈ rs.map (·.1) := List.mem_map.mpr ⟨a, ha', e⟩
        exact absurd this hn.1
      · exact nodup_heads hn.2 ha' hb e
structure SortR (rs ss : List Row) : Prop where
  perm : ss.Perm rs
  up : ss.Pairwise fun a b => ¬ hcp b < hcp a
theorem SortR.unique {rs ts ss us : List Row} (h : SortR rs ss) (g : SortR ts us) (p : rs.Perm ts) (hn : (rs.map (·.1)).Nodup) : ss = us := by
  refine List.Perm.eq_of_pairwise (le := fun a b => ¬ hcp b < hcp a) (fun a b ha hb h1 h2 => ?_) h.up g.up (h.perm.trans (p.trans g.perm.symm))
  have e : hcp a = hcp b := List.le_antisymm h1 h2
  have e1 := hcp_inj e
  have ma : a ∈ rs := h.perm.mem_iff.mp ha
  have mb : b ∈ rs := p.mem_iff.mpr (g.perm.mem_iff.mp hb)
  exact nodup_heads hn ma mb e1
/-- what sorted by the heads gives -/
theorem sortedBy_rows {H : Hp} {xs ys : List V} {rs : List Row} (hr : RowsAre H xs rs) (h : SortedBy (rs.map fun r => enc r.1) xs ys) : ∃ ss, RowsAre H ys ss ∧ SortR rs ss := by
  obtain ⟨ps, hp, rfl, hu⟩ := h
  have hz : Paired (fun (p : Str × V) (r : Row) => p.1 = enc r.1 ∧ RowIs H p.2 r) ((rs.map fun r => enc r.1).zip xs) rs := by
    clear hp hu
    induction hr with
    | nil => exact .nil
    | cons h _ ih => exact .cons ⟨rfl, h⟩ ih
  obtain ⟨ss, hs, hq⟩ := Paired.permL hp hz
  refine ⟨ss, ?_, hs, ?_⟩
  · clear hs hu hp hz
    induction hq with
    | nil => exact .nil
    | cons h _ ih => exact .cons h.2 ih
  · clear hs hp hz
    induction hq with
    | nil => exact .nil
    | cons h t ih =>
      rw [List.pairwise_cons] at hu ⊢
      refine ⟨fun r hr => ?_, ih hu.2⟩
      obtain ⟨i, hi⟩ := List.getElem?_of_mem hr
      obtain ⟨p, hp, e⟩ := Paired.get' i r t hi
      have := hu.1 p (List.mem_of_getElem? hp)
      unfold hcp
      rw [← e.1, ← h.1]
      exact this
def rd_law_head (K : PySem.W.Frag) : TS :=
  (tRet (tOp (rIxA K) (tVar 0) (tC (.int 0))))
def nm_law_head : List Str := ["row"]
def sp_law_head (K : PySem.W.Frag) : Sp := fun vs H Q _ => ∃ p v ws, vs = [.ref p] ∧ H p = some (.tup (v :: ws)) ∧ Q v H
theorem len_law_head {K vs H Q E} (h : sp_law_head K vs H Q E) : vs.length = 1 := by obtain ⟨_, _, _, rfl, _⟩ := h; rfl
theorem rdok_law_head {K vs H Q E} (h : sp_law_head K vs H Q E) : rd_law_head K { nx := fun _ H' => Q .non H', rt := Q } (start nm_law_head vs) H := by
  obtain ⟨p, v, ws, rfl, hp, q⟩ := h
  simp only [rd_law_head, nm_law_head]
  walk_at "rd"
  exact ⟨_, .inr (SqT.of hp), v, atI_nat (j := 0) rfl, q⟩
/-- sorted(rows, key=f), f a def that tells a row's head -/
theorem tSort_rows {K : PySem.W.Frag} {sp : Sp} {t : TA} {σ : St} {H : Hp} {Q : VK} {a : Addr} {xs : List V} {rs : List Row} (hsp : ∀ p v ws H2, H2 p = some (.tup (v :: ws)) → sp [.ref p] H2 (fun u H' => u = v ∧ H' = H2) E0)
    (ht : ∀ R : List V → Hp → Prop, R [.ref a] H → t σ H R) (ha : H a = some (.lst xs)) (hr : RowsAre H xs rs) (hf : rs.length < 64) (q : ∀ l ys ss, H l = none → RowsAre H ys ss → SortR rs ss → Q (.ref l) (upd H l (.lst ys))) : tSortKey K sp t σ H Q := by
  have hx := Paired.length hr
  refine ht _ ⟨a, xs, rs.map fun r => enc r.1, rfl, SqL.of ha, by omega, by rw [List.length_map]; omega, fun i x y H2 sm hxi hyi => ?_, fun l ys hl hs => ?_⟩
  · obtain ⟨r, hri, p, rfl, hp⟩ := Paired.get i x hr hxi
    rw [List.getElem?_map, hri] at hyi
    cases hyi
    exact hsp p _ _ H2 (sm _ _ hp)
  · obtain ⟨ss, h1, h2⟩ := sortedBy_rows hr hs
    exact q l ys ss hl h1 h2
def rb_law_same_rows_1 (K : PySem.W.Frag) : TS :=
  (tSeq (tIfS (tOr (tNot (tB (tCB rIsi2 (tCons (tOp (rIxA K) (tVar 0) (tVar 2)) (tCons (tC (.ty "tuple")) tNil))))) (tOr (tTest (tOp rNeS (tCB (rLen K) (tCons (tOp (rIxA K) (tVar 0) (tVar 2)) tNil)) (tC (.int 2)))) (tNot (tB (tCB rIsi2 (tCons (tOp (rIxA K) (tOp (rIxA K) (tVar 0) (tVar 2)) (tC (.int 0))) (tCons (tC (.ty "str")) tNil))))))) (tRet (tC (.bl false))) tNext)
  (tIfS (tOr (tTest (tOp rNeS (tOp (rIxA K) (tOp (rIxA K) (tVar 0) (tVar 2)) (tC (.int 0))) (tOp (rIxA K) (tOp (rIxA K) (tVar 1) (tVar 2)) (tC (.int 0))))) (tNot (tB (tCall (sp_law_way_is K) [] E0 (tCons (tOp (rIxA K) (tOp (rIxA K) (tVar 0) (tVar 2)) (tC (.int 1))) (tCons (tOp (rIxA K) (tOp (rIxA K) (tVar 1) (tVar 2)) (tC (.int 1))) tNil)))))) (tRet (tC (.bl false))) tNext))
def rd_law_same_rows (K : PySem.W.Frag) : TS :=
  (tSeq (tIfS (tOr (tNot (tB (tCB rIsi2 (tCons (tVar 0) (tCons (tC (.ty "list")) tNil))))) (tTest (tOp rNeS (tCB (rLen K) (tCons (tVar 0) tNil)) (tCB (rLen K) (tCons (tVar 1) tNil))))) (tRet (tC (.bl false))) tNext)
  (tSeq (tFor (iRng1 (tCons (tCB (rLen K) (tCons (tVar 1) tNil)) tNil)) (gName 2) (rb_law_same_rows_1 K))
  (tRet (tC (.bl true)))))
def nm_law_same_rows : List Str := ["found", "due", "k"]
def sp_law_same_rows (K : PySem.W.Frag) : Sp := fun vs H Q _ => ∃ (a b : Addr) (xs ys : List V) (rs : List Row), vs = [.ref a, .ref b] ∧ H a = some (.lst xs) ∧ H b = some (.lst ys) ∧ RowsAre H xs rs ∧ RowsAre H ys rs ∧ rs.length ≤ 1000 ∧ Q (.bl true) H
theorem len_law_same_rows {K vs H Q E} (h : sp_law_same_rows K vs H Q E) : vs.length = 2 := by obtain ⟨_, _, _, _, _, rfl, _⟩ := h; rfl
theorem rdok_law_same_rows {K vs H Q E} (h : sp_law_same_rows K vs H Q E) : rd_law_same_rows K { nx := fun _ H' => Q .non H', rt := Q } (start nm_law_same_rows vs) H := by
  obtain ⟨a, b, xs, ys, rs, rfl, ha, hb, hx, hy, hf, q⟩ := h
  have lx := Paired.length hx
  have ly := Paired.length hy
  simp only [rd_law_same_rows, nm_law_same_rows, L2.start]
  refine tSeq_gen fun U hU => ?_
  walk_at "rd"
  refine ⟨_, ha, ?_⟩
  walk_at "rd"
  refine ⟨xs, .inl (SqL.of ha), ys, .inl (SqL.of hb), ?_⟩
  have ell : (xs.length : Int) = ys.length := by omega
  rw [ell]
  walk_at "rd"
  subst hU
  refine tSeq_gen fun U hU => ?_
  refine tFor_rng1 ys.length (by omega) (fun i σ H' => H' = H ∧ ∃ o, σ = [some (.ref a), some (.ref b), o]) ?_ ⟨rfl, none, rfl⟩ ?_ ?_
  · intro R h; walk_at "rd"; exact ⟨ys, .inl (SqL.of hb), h⟩
  · rintro i σ H' hi ⟨rfl, o, rfl⟩
    obtain ⟨r, hri, p2, e2, hp2⟩ := Paired.get i ys[i] hy (by simp [hi])
    obtain ⟨v, hv, p1, rfl, hp1⟩ := Paired.get' i r hx hri
    have hv2 : ys[i]? = some (.ref p2) := by rw [← e2]; simp [hi]
    simp only [rb_law_same_rows_1]
    refine tSeq_gen fun U hU => ?_
    walk_at "rd"
    refine ⟨xs, .inl (SqL.of ha), _, atI_nat hv, ?_⟩
    refine ⟨_, hp1, true, rfl, ?_⟩
    walk_at "rd"
    refine ⟨xs, .inl (SqL.of ha), _, atI_nat hv, ?_⟩
    refine ⟨_, .inr (SqT.of hp1), ?_⟩
    walk_at "rd"
    refine ⟨xs, .inl (SqL.of ha), _, atI_nat hv, ?_⟩
    refine ⟨_, .inr (SqT.of hp1), _, rfl, ?_⟩
    walk_at "rd"
    subst hU
    walk_at "rd"
    refine ⟨xs, .inl (SqL.of ha), _, atI_nat hv, ?_⟩
    refine ⟨_, .inr (SqT.of hp1), _, rfl, ?_⟩
    refine ⟨ys, .inl (SqL.of hb), _, atI_nat hv2, ?_⟩
    refine ⟨_, .inr (SqT.of hp2), _, rfl, ?_⟩
    walk_at "rd"
    refine ⟨xs, .inl (SqL.of ha), _, atI_nat hv, ?_⟩
    refine ⟨_, .inr (SqT.of hp1), _, rfl, ?_⟩
    refine ⟨ys, .inl (SqL.of hb), _, atI_nat hv2, ?_⟩
    refine ⟨_, .inr (SqT.of hp2), _, rfl, ?_⟩
    refine ⟨r.2, r.2, rfl, ?_⟩
    simp only [decide_true]
    walk_at "rd"
  · rintro σ H' ⟨rfl, o, rfl⟩
    subst hU
    dsimp only
    walk_at "rd"
    exact q
end L2

end
section
set_option Elab.async false
set_option linter.all false
set_option maxRecDepth 100000
set_option maxHeartbeats 4000000
namespace L2
open PySem PySem.Spec PyProof.Rows
/-! ### a lambda that captures nothing, as the key of sorted -/
section
variable {X : Cx} {k : Nat} {c P : Addr} {args : Arguments} {body e : Expr} {scope : Scope} {lp kp p pos : Pos} {pn : Str} {t : TA} {tb : TE}
end
end L2

end
section
set_option Elab.async false
set_option linter.all false
set_option maxRecDepth 100000
set_option maxHeartbeats 4000000
namespace L2
open PySem PySem.Spec PyProof.Rows
/-! ### a law whose program has one def with a lambda: that def's code table is tracked from the start -/
section
variable {X : Cx} {k : Nat} {c Pt : Addr} {args : Arguments} {body e : Expr} {scope : Scope} {lp lp' kp p pos : Pos} {pn : Str} {t : TA} {tb : TE}
end
end L2

end
section
set_option Elab.async false
set_option linter.all false
set_option maxRecDepth 100000
set_option maxHeartbeats 4000000
namespace L2
open PySem PySem.Spec PyProof.Rows
local macro_rules | `(tactic| walk_at "rd") => `(tactic| try simp only [tVar, tC, tOp, tUn, tSeq, tAsg, gName, tRet, tRetN, tIfS, tDrop, tNext, tCons, tNil, tCall, tCB, tTest, tB, tAnd, tOr, tNot, tAndV, tOrV, tNotV, tIf, tTup, tLst, tSl, tPart, tNoPart, tBM, tBM0, L2.start, rI2, rI3, rAddA, rMulA, rSubI, rDivI, rModI, rPowI, rNegI, rLt, rLe, rGt, rGe, rIsN, rNotN, rEqS, rNeS, rLen, rIxA, rIntA, rMax2, rMin2, rStrI, rListOf, rIsi2, isiF, isiO, rSlA, rStarts2, rEnds2, CDiv,
  List.map_cons, List.map_nil, List.length_cons, List.length_nil, List.replicate_succ, List.replicate_zero, List.cons_append, List.nil_append, List.append_nil, List.getElem?_cons_zero, List.getElem?_cons_succ, List.set_cons_zero, List.set_cons_succ, Option.some.injEq, V.int.injEq, V.str.injEq, V.bl.injEq, V.ref.injEq, V.ty.injEq, reduceCtorEq, exists_eq_left', exists_eq_left, exists_eq_right, exists_eq_right', exists_eq', exists_eq, exists_and_left, exists_and_right, false_and, and_false, true_and, and_true, exists_const, exists_false, false_or, or_false, List.cons.injEq, and_assoc, decide_eq_true_eq, decide_true, decide_false, Int.reduceLT, Int.reduceLE, Nat.reduceLT, Nat.reduceLeDiff, Nat.reduceSub, Nat.reduceAdd, Nat.sub_self, Nat.sub_zero, enc_eq, enc_nil, enc_0, enc_1, enc_01, enc_append, enc_len, Bool.not_true, Bool.not_false, Bool.false_eq_true, if_true, if_false, ↓reduceIte, String.reduceEq, or_true, true_or, Nat.one_mul, addr_len, bitsBy_len, List.length_append, List.length_replicate, List.length_map])
local macro_rules | `(tactic| walk_at "sz") => `(tactic| (have hline := line_ge; first | omega | (simp; omega)))
/-! ### a deed done -/
inductive Deed where
  | drop (h : List Bool)
  | put (h : List Bool) (w : Option Int)
def Deed.head : Deed → List Bool
  | .drop h => h
  | .put h _ => h
def woHead (rs : List Row) (h : List Bool) : List Row := rs.filter fun r => r.1 != h
def doneR (rs : List Row) : Deed → List Row
  | .drop h => woHead rs h
  | .put h w => woHead rs h ++ [(h, w)]
theorem woHead_le (rs : List Row) (h : List Bool) : (woHead rs h).length ≤ rs.length := List.length_filter_le _ _
theorem ne_head (a b : List Bool) : (a != b) = !decide (enc a = enc b) := by
  by_cases e : a = b
  · simp [e]
  · have : enc a ≠ enc b := fun z => e (enc_inj z)
    simp [e, this]
theorem woHead_nodup {rs : List Row} (h : List Bool) (n : (rs.map (·.1)).Nodup) : ((woHead rs h).map (·.1)).Nodup := n.sublist (List.filter_sublist.map _)
theorem doneR_nodup {rs : List Row} (d : Deed) (n : (rs.map (·.1)).Nodup) : ((doneR rs d).map (·.1)).Nodup := by
  cases d with
  | drop h => exact woHead_nodup h n
  | put h w =>
    show ((woHead rs h ++ [(h, w)]).map (·.1)).Nodup
    rw [List.map_append, List.nodup_append]
    refine ⟨woHead_nodup h n, by simp, fun a ha b hb e => ?_⟩
    have hb : b = h := by simpa using hb
    subst hb e
    obtain ⟨r, hr, e⟩ := List.mem_map.mp ha
    have := (List.mem_filter.mp hr).2
    rw [e] at this
    simp at this
/-- the rows with another head -/
noncomputable def otherHead (H : Hp) (h : List Bool) (v : V) : Bool := @decide (fstOf H v ≠ .str (enc h)) (Classical.propDecidable _)
theorem otherHead_row {H : Hp} {h : List Bool} {v : V} {r : Row} (q : RowIs H v r) : otherHead H h v = (r.1 != h) := by
  unfold otherHead
  rw [fstOf_row q]
  by_cases e : r.1 = h
  · simp [e]
  · have : enc r.1 ≠ enc h := fun z => e (enc_inj z)
    simp [this, e]
theorem rows_woHead {H : Hp} {xs : List V} {rs : List Row} (h : List Bool) (q : RowsAre H xs rs) : RowsAre H (xs.filter (otherHead H h)) (woHead rs h) := by
  unfold woHead
  induction q with
  | nil => exact .nil
  | @cons x r xs rs hx _ ih =>
    rw [List.filter_cons, List.filter_cons, otherHead_row hx]
    cases (r.1 != h) with
    | true => exact .cons hx ih
    | false => exact ih
/-- [row for row in rows if row[0] != head] -/
theorem tComp_woHead {K : PySem.W.Frag} {js : List (Nat × Str)} {tl te : TE} {ti : TT} {σ : St} {H : Hp} {Q : VK} {a : Addr} {xs : List V} {rs : List Row} {h : List Bool} (ht : ∀ R : V → Hp → Prop, R (.ref a) H → tl σ H R) (ha : H a = some (.lst xs)) (hr : RowsAre H xs rs) (hz : xs.length ≤ 1000)
    (hp : ∀ (p : Addr) (r : Row) (H' : Hp) (R : Bool → Hp → Prop), H' p = some (.tup [.str (enc r.1), wayV r.2]) → R (r.1 != h) H' → ti (some (.ref p) :: capt js σ) H' R) (hf : ∀ (v : V) (H' : Hp) (R : VK), R v H' → te (some v :: capt js σ) H' R)
    (hQ : ∀ l ys, H l = none → RowsAre H ys (woHead rs h) → Q (.ref l) (upd H l (.lst ys))) : tComp js (iList K tl) ti te σ H Q := by
  refine tComp_lst (K := K) a xs (otherHead H h) id ht (SqL.of ha) (by walk_at "sz") (fun v hv H' R s2 q => ?_) (fun v hv _ H' R s2 q => hf v H' R q) (fun l hl => ?_)
  · obtain ⟨i, hi⟩ := List.getElem?_of_mem hv
    obtain ⟨r, _, hrow⟩ := Paired.get i v hr hi
    rw [otherHead_row hrow] at q
    obtain ⟨p, rfl, hp'⟩ := hrow
    exact hp p r H' R (s2 _ _ hp') q
  · rw [List.map_id]
    exact hQ l _ hl (rows_woHead h hr)
/-! ### rows picked by a test -/
noncomputable def pickV (H : Hp) (p : Row → Bool) (v : V) : Bool := @decide (∃ r, RowIs H v r ∧ p r = true) (Classical.propDecidable _)
theorem pickV_row {H : Hp} {p : Row → Bool} {v : V} {r : Row} (q : RowIs H v r) : pickV H p v = p r := by
  unfold pickV
  by_cases e : p r = true
  · rw [e]; simpa using ⟨r.1, r.2, q, e⟩
  · have n : ¬ ∃ r, RowIs H v r ∧ p r = true := fun ⟨r', h1, h2⟩ => e (by rw [RowIs.inj q h1]; exact h2)
    simp only [Bool.not_eq_true] at e
    rw [e]
    exact @decide_eq_false _ (Classical.propDecidable _) n
theorem rows_pick {H : Hp} {xs : List V} {rs : List Row} (p : Row → Bool) (q : RowsAre H xs rs) : RowsAre H (xs.filter (pickV H p)) (rs.filter p) := by
  induction q with
  | nil => exact .nil
  | @cons x r xs rs hx _ ih =>
    rw [List.filter_cons, List.filter_cons, pickV_row hx]
    cases p r with
    | true => exact .cons hx ih
    | false => exact ih
/-- [row for row in rows if ..] -/
theorem tComp_rows {K : PySem.W.Frag} {js : List (Nat × Str)} {tl te : TE} {ti : TT} {σ : St} {H : Hp} {Q : VK} {a : Addr} {xs : List V} {rs : List Row} (p : Row → Bool) (ht : ∀ R : V → Hp → Prop, R (.ref a) H → tl σ H R) (ha : H a = some (.lst xs)) (hr : RowsAre H xs rs) (hz : xs.length ≤ 1000)
    (hp : ∀ (t : Addr) (r : Row) (H' : Hp) (R : Bool → Hp → Prop), r ∈ rs → Same H H' → H' t = some (.tup [.str (enc r.1), wayV r.2]) → R (p r) H' → ti (some (.ref t) :: capt js σ) H' R) (hf : ∀ (v : V) (H' : Hp) (R : VK), R v H' → te (some v :: capt js σ) H' R)
    (hQ : ∀ l ys, H l = none → RowsAre H ys (rs.filter p) → Q (.ref l) (upd H l (.lst ys))) : tComp js (iList K tl) ti te σ H Q := by
  refine tComp_lst (K := K) a xs (pickV H p) id ht (SqL.of ha) (by walk_at "sz") (fun v hv H' R s2 q => ?_) (fun v hv _ H' R s2 q => hf v H' R q) (fun l hl => ?_)
  · obtain ⟨i, hi⟩ := List.getElem?_of_mem hv
    obtain ⟨r, hri, hrow⟩ := Paired.get i v hr hi
    rw [pickV_row hrow] at q
    obtain ⟨t, rfl, hp'⟩ := hrow
    exact hp t r H' R (List.mem_of_getElem? hri) s2 (s2 _ _ hp') q
  · rw [List.map_id]
    exact hQ l _ hl (rows_pick p hr)
end L2

end
section
set_option Elab.async false
set_option linter.all false
set_option maxRecDepth 100000
set_option maxHeartbeats 4000000
namespace L2
open PySem PySem.Spec PyProof.Rows
/-! ### a list has no attribute keys -/
section
variable {prog : Program} {w : World} {A : Around} {E : Value → Shared → Prop} {h : Heap} {g : Array GenState} {d : Drawn} {t : Nat} {os : OsState} {a : Addr} {o : Obj}
end
end L2

end
section
set_option Elab.async false
set_option linter.all false
set_option maxRecDepth 100000
namespace L2
open PySem PySem.Spec PyProof.Rows

/-! ### lists of pairs as tables -/
section
variable {κ : Type} [DecidableEq κ]
def valV (kvs : List (κ × V)) (k : κ) : Option V := (kvs.find? fun kv => decide (kv.1 = k)).map (·.2)
/-- in its place, or at the end -/
def putK (kvs : List (κ × V)) (k : κ) (v : V) : List (κ × V) :=
  if (kvs.any fun kv => decide (kv.1 = k)) = true then kvs.map (fun kv => if kv.1 = k then (kv.1, v) else kv) else kvs ++ [(k, v)]
def dropK (kvs : List (κ × V)) (k : κ) : List (κ × V) := kvs.filter fun kv => decide (kv.1 ≠ k)

theorem valV_pos {p : κ × V} {r : List (κ × V)} {k : κ} (e : p.1 = k) : valV (p :: r) k = some p.2 := by simp [valV, List.find?_cons, e]
theorem valV_neg {p : κ × V} {r : List (κ × V)} {k : κ} (e : ¬ p.1 = k) : valV (p :: r) k = valV r k := by simp [valV, List.find?_cons, e]
theorem valV_any (k : κ) : ∀ kvs : List (κ × V), (kvs.any fun kv => decide (kv.1 = k)) = (valV kvs k).isSome
  | [] => rfl
  | p :: r => by
    rw [List.any_cons]
    by_cases e : p.1 = k
    · simp only [valV_pos e, decide_eq_true e, Bool.true_or, Option.isSome_some]
    · rw [valV_neg e, decide_eq_false e, Bool.false_or]; exact valV_any k r
theorem length_putK (kvs : List (κ × V)) (k : κ) (v : V) : (putK kvs k v).length ≤ kvs.length + 1 := by
  unfold putK
  split
  · rw [List.length_map]; omega
  · rw [List.length_append, List.length_cons, List.length_nil]; omega
theorem RelO.isSome_eq {o : Option V} {u : Option Value} (r : RelO o u) : o.isSome = u.isSome := by
  cases o with
  | none => cases u with
    | none => rfl
    | some _ => exact (show False from r).elim
  | some _ => cases u with
    | none => exact (show False from r).elim
    | some _ => rfl
/-- raw tables of the same keys -/
theorem KV.val {kvs : List (κ × V)} {vs : List (κ × Value)} (r : KV kvs vs) (k : κ) : RelO (valV kvs k) (valueAt vs k) := by
  unfold KV at r
  induction r with
  | nil => exact True.intro
  | @cons p q ps qs h t ih =>
    obtain ⟨h1, h2⟩ := h
    by_cases e : p.1 = k
    · have e' : q.1 = k := h1.symm.trans e
      have b : valueAt (q :: qs) k = some q.2 := by simp [valueAt, List.find?_cons, e']
      rw [valV_pos e, b]; exact h2
    · have e' : ¬ q.1 = k := fun z => e (h1.trans z)
      have b : valueAt (q :: qs) k = valueAt qs k := by simp [valueAt, List.find?_cons, e']
      rw [valV_neg e, b]; exact ih
theorem KV.any {kvs : List (κ × V)} {vs : List (κ × Value)} (r : KV kvs vs) (k : κ) : (kvs.any fun kv => decide (kv.1 = k)) = vs.any fun kv => decide (kv.1 = k) := by
  unfold KV at r
  induction r with
  | nil => rfl
  | cons h t ih => rw [List.any_cons, List.any_cons, ih, h.1]
theorem KV.repl {kvs : List (κ × V)} {vs : List (κ × Value)} (r : KV kvs vs) (k : κ) {y : V} {u : Value} (ry : RelV y u) :
    KV (kvs.map fun kv => if kv.1 = k then (kv.1, y) else kv) (vs.map fun kv => if kv.1 = k then (kv.1, u) else kv) := by
  unfold KV at r ⊢
  induction r with
  | nil => exact .nil
  | @cons p q ps qs h t ih =>
    rw [List.map_cons, List.map_cons]
    refine .cons ?_ ih
    obtain ⟨h1, h2⟩ := h
    by_cases e : p.1 = k
    · rw [if_pos e, if_pos (h1.symm.trans e)]; exact ⟨h1, ry⟩
    · rw [if_neg e, if_neg (fun z => e (h1.trans z))]; exact ⟨h1, h2⟩
theorem KV.put {kvs : List (κ × V)} {vs : List (κ × Value)} (r : KV kvs vs) (k : κ) {y : V} {u : Value} (ry : RelV y u) : KV (putK kvs k y) (stored vs k u) := by
  unfold putK stored
  rw [r.any k]
  by_cases e : (vs.any fun kv => decide (kv.1 = k)) = true
  · rw [if_pos e, if_pos e]; exact r.repl k ry
  · rw [if_neg e, if_neg e]; exact Paired.snoc r ⟨rfl, ry⟩
theorem KV.drop {kvs : List (κ × V)} {vs : List (κ × Value)} (r : KV kvs vs) (k : κ) : KV (dropK kvs k) (without vs k) := by
  unfold KV at r ⊢
  unfold dropK without
  induction r with
  | nil => exact .nil
  | @cons p q ps qs h t ih =>
    obtain ⟨h1, h2⟩ := h
    rw [List.filter_cons, List.filter_cons]
    by_cases e : p.1 = k
    · have a : ¬ decide (p.1 ≠ k) = true := by simp [e]
      have b : ¬ decide (q.1 ≠ k) = true := by simp [h1.symm.trans e]
      rw [if_neg a, if_neg b]; exact ih
    · have e' : ¬ q.1 = k := fun z => e (h1.trans z)
      have a : decide (p.1 ≠ k) = true := by simp [e]
      have b : decide (q.1 ≠ k) = true := by simp [e']
      rw [if_pos a, if_pos b]; exact .cons ⟨h1, h2⟩ ih
theorem KV.keys {kvs : List (κ × V)} {vs : List (κ × Value)} (r : KV kvs vs) : kvs.map (·.1) = vs.map (·.1) := by
  unfold KV at r
  induction r with
  | nil => rfl
  | cons h t ih => rw [List.map_cons, List.map_cons, ih, h.1]
theorem KV.length {kvs : List (κ × V)} {vs : List (κ × Value)} (r : KV kvs vs) : kvs.length = vs.length := Paired.length r
theorem dropK_le (kvs : List (κ × V)) (k : κ) : (dropK kvs k).length ≤ kvs.length := List.length_filter_le _ _
end


/-! ### a tracked dict, its keys ints and texts or tuples of these -/
theorem kV_is {P : Program} {w : World} {k : Key} {u : Value} (r : RelV (kV k) u) : (mixKind P w).is k u = true := by
  cases k with
  | inl i => obtain ⟨t, e⟩ := (show ∃ t, u = Value.int i t from r); subst e; exact mixKind_int P w i t
  | inr x => obtain ⟨t, e⟩ := (show ∃ t, u = Value.str x t from r); subst e; exact mixKind_str P w x t
theorem items_are {P : Program} {w : World} : ∀ {ks : List Key} {us : List Value}, Vals (ks.map kV) us → ItemsAre (mixKind P w) ks us
  | [], _, r => by rw [List.map_nil] at r; cases r; exact .nil
  | k :: ks, _, r => by
    rw [List.map_cons] at r
    cases r with
    | cons h t => exact .cons (kV_is h) (items_are t)

/-- raw entries of a dict with tuple keys -/
abbrev KT (H : Hp) : List (List Key × V) → List (List Key × Addr × Value) → Prop := Paired fun p q => p.1 = q.1 ∧ H q.2.1 = some (.tup (p.1.map kV)) ∧ RelV p.2 q.2.2
theorem KT.val {H : Hp} {kvs : List (List Key × V)} {xs : List (List Key × Addr × Value)} (r : KT H kvs xs) (k : List Key) : RelO (valV kvs k) ((atKey xs k).map (·.2)) := by
  induction r with
  | nil => exact True.intro
  | @cons p q ps qs h t ih =>
    obtain ⟨h1, _, h2⟩ := h
    by_cases e : p.1 = k
    · have e' : q.1 = k := h1.symm.trans e
      have b : atKey (q :: qs) k = some q.2 := by simp [atKey, List.find?_cons, e']
      rw [valV_pos e, b]; exact h2
    · have e' : ¬ q.1 = k := fun z => e (h1.trans z)
      have b : atKey (q :: qs) k = atKey qs k := by simp [atKey, List.find?_cons, e']
      rw [valV_neg e, b]; exact ih
theorem KT.repl {H : Hp} {kvs : List (List Key × V)} {xs : List (List Key × Addr × Value)} (r : KT H kvs xs) (k : List Key) {y : V} {u : Value} (ry : RelV y u) :
    KT H (kvs.map fun kv => if kv.1 = k then (kv.1, y) else kv) (xs.map (putAt k u)) := by
  induction r with
  | nil => exact .nil
  | @cons p q ps qs h t ih =>
    rw [List.map_cons, List.map_cons]
    refine .cons ?_ ih
    obtain ⟨h1, h2, h3⟩ := h
    unfold putAt
    by_cases e : p.1 = k
    · rw [if_pos e, if_pos (h1.symm.trans e)]; exact ⟨h1, h2, ry⟩
    · rw [if_neg e, if_neg (fun z => e (h1.trans z))]; exact ⟨h1, h2, h3⟩
theorem KT.put {H : Hp} {kvs : List (List Key × V)} {xs : List (List Key × Addr × Value)} (r : KT H kvs xs) (k : List Key) {b : Addr} {y : V} {u : Value} (hb : H b = some (.tup (k.map kV))) (ry : RelV y u) :
    KT H (putK kvs k y) (storedH xs k b u) := by
  have e : (kvs.any fun kv => decide (kv.1 = k)) = (atKey xs k).isSome := by
    rw [valV_any, (r.val k).isSome_eq, Option.isSome_map]
  unfold putK storedH
  rw [e]
  by_cases q : (atKey xs k).isSome = true
  · rw [if_pos q, if_pos q]; exact r.repl k ry
  · rw [if_neg q, if_neg q]; exact Paired.snoc r ⟨rfl, hb, ry⟩
theorem KT.keeps {H H' : Hp} {kvs : List (List Key × V)} {xs : List (List Key × Addr × Value)} (r : KT H kvs xs) (ht : ∀ b ys, H b = some (.tup ys) → H' b = some (.tup ys)) : KT H' kvs xs :=
  Paired.mapP r fun _ _ z => ⟨z.1, ht _ _ z.2.1, z.2.2⟩

section
variable {P : Program} {w : World} {H : Hp} {h : Heap} {a : Addr}
theorem rd_of {u : HO} (ok : HOk P w H h) (e : Rd H a u) : ObjOk P w H h a u := e.ok ok
theorem dk_rd {kvs : List (Key × V)} (ok : HOk P w H h) (e : Rd H a (.dK kvs)) : kvs.length ≤ sizeLine ∧ (a == sysModules) = false ∧ ∃ vs, KV kvs vs ∧ h.DictOf (mixKind P w) a vs :=
  show ObjOk P w H h a (.dK kvs) from rd_of ok e
theorem dk_of {kvs : List (Key × V)} (ok : HOk P w H h) (e : H a = some (.dK kvs)) : kvs.length ≤ sizeLine ∧ (a == sysModules) = false ∧ ∃ vs, KV kvs vs ∧ h.DictOf (mixKind P w) a vs := dk_rd ok (.inl e)
/-- a tracked tuple of ints and texts is a key -/
theorem key_of {ks : List Key} (ok : HOk P w H h) (e : H a = some (.tup (ks.map kV))) : (tupleKind (mixKind P w)).is h ks a := by
  obtain ⟨_, its, r, o, h1, h2, n, h3⟩ := (show ObjOk P w H h a (.tup (ks.map kV)) from ok a _ e)
  exact ⟨o, its.toArray, n, h1, h2, h3, by simpa using items_are r⟩
theorem dt_rd {kvs : List (List Key × V)} (ok : HOk P w H h) (e : Rd H a (.dT kvs)) : kvs.length ≤ sizeLine ∧ (a == sysModules) = false ∧
    ∃ xs, KT H kvs xs ∧ h.DictOfH (tupleKind (mixKind P w)) a xs := by
  obtain ⟨z, y, xs, r, o, es, ep, h1, h2, h3, h4, h5⟩ := (show ObjOk P w H h a (.dT kvs) from rd_of ok e)
  refine ⟨z, y, xs, r, o, es, ep, h1, h2, h3, h4, fun x hx => ?_, h5⟩
  have all : ∀ {l : List (List Key × V)} {m : List (List Key × Addr × Value)}, KT H l m → ∀ x ∈ m, (tupleKind (mixKind P w)).is h x.1 x.2.1 := by
    intro l m q
    induction q with
    | nil => intro x hx; exact nomatch hx
    | @cons p q ps qs hq t ih =>
      intro x hx
      rcases List.mem_cons.mp hx with e | hx
      · subst e
        exact key_of ok (by rw [← hq.1]; exact hq.2.1)
      · exact ih x hx
  exact all r x hx
theorem dt_of {kvs : List (List Key × V)} (ok : HOk P w H h) (e : H a = some (.dT kvs)) : kvs.length ≤ sizeLine ∧ (a == sysModules) = false ∧
    ∃ xs, KT H kvs xs ∧ h.DictOfH (tupleKind (mixKind P w)) a xs := dt_rd ok (.inl e)
end

/-- what the dict at a holds at the key y -/
def DGet (H : Hp) (a : Addr) (y : V) (r : Option V) : Prop :=
  (∃ kvs k, Rd H a (.dK kvs) ∧ y = kV k ∧ r = valV kvs k) ∨ ∃ kvs k b, Rd H a (.dT kvs) ∧ y = .ref b ∧ H b = some (.tup (k.map kV)) ∧ r = valV kvs k
/-- the heap behind a[y] = v -/
def DPut (H : Hp) (a : Addr) (y v : V) (H' : Hp) : Prop :=
  (∃ kvs k, H a = some (.dK kvs) ∧ y = kV k ∧ kvs.length < sizeLine ∧ H' = upd H a (.dK (putK kvs k v))) ∨
  ∃ kvs k b, H a = some (.dT kvs) ∧ y = .ref b ∧ H b = some (.tup (k.map kV)) ∧ kvs.length < sizeLine ∧ H' = upd H a (.dT (putK kvs k v))
section
variable {X : Cx} {pins : List (Addr × Obj)} {σ : St} {H : Hp} {s : Shared} {a : Addr} {y v : V} {u r : Value} {o : Option V} {A : Around} {E : Value → Shared → Prop}

theorem Inv.big (I : Inv X pins σ H s) : sysModules < s.heap.objs.size := by
  have h : mainGlobals < s.heap.objs.size := (I.mod.glob.keeps I.bk).lt
  exact Nat.lt_trans (by decide) h

/-- d[y], there -/
theorem d_getItem {Q : Value → Shared → Prop} (hu : A.units + 1 < cLine) (I : Inv X pins σ H s) (g : DGet H a y (some v)) (ry : RelV y u) (h : ∀ w' s', Inv X pins σ H s' → RelV v w' → Q w' s') :
    wpAny (model X.prog X.w) A (getItem (.ref a) u) Q E s := by
  rcases g with ⟨kvs, k, e, ey, l⟩ | ⟨kvs, k, b, e, ey, eb, l⟩
  · subst ey
    obtain ⟨z, hd, vs, rel, dd⟩ := dk_rd I.hok e
    obtain ⟨w', hw, rw'⟩ := RelO.some_of (v := v) (o := valueAt vs k) (by rw [l]; exact rel.val k)
    exact wpAny_getItem_of (kV_is ry) dd.mapOf hw (h w' _ (I.tok _) rw')
  · subst ey
    cases (show u = Value.ref b from ry)
    obtain ⟨z, hd, xs, rel, dd⟩ := dt_rd I.hok e
    obtain ⟨w', hw, rw'⟩ := RelO.some_of (v := v) (o := (atKey xs k).map (·.2)) (by rw [l]; exact rel.val k)
    obtain ⟨p, hp, hp2⟩ := Option.map_eq_some_iff.mp hw
    refine wpAny_getItem_heap (tupleKind_room_in1 hu) (key_of I.hok eb) dd hp ?_
    rw [hp2]
    exact h w' _ (I.tok _) rw'
/-- y in d -/
theorem d_in {Q : Value → Shared → Prop} (hu : A.units + 1 < cLine) (I : Inv X pins σ H s) (g : DGet H a y o) (ry : RelV y u) (h : ∀ s', Inv X pins σ H s' → Q (.bool o.isSome) s') :
    wpAny (model X.prog X.w) A (compareOp .In u (.ref a)) Q E s := by
  rcases g with ⟨kvs, k, e, ey, l⟩ | ⟨kvs, k, b, e, ey, eb, l⟩
  · subst ey
    obtain ⟨z, hd, vs, rel, dd⟩ := dk_rd I.hok e
    refine wpAny_in_of (kV_is ry) hd dd.mapOf ?_
    rw [← (rel.val k).isSome_eq, ← l]
    exact h _ (I.tok _)
  · subst ey
    cases (show u = Value.ref b from ry)
    obtain ⟨z, hd, xs, rel, dd⟩ := dt_rd I.hok e
    refine wpAny_in_heap (tupleKind_room_in1 hu) (key_of I.hok eb) hd dd ?_
    have q := (rel.val k).isSome_eq
    rw [Option.isSome_map] at q
    rw [← q, ← l]
    exact h _ (I.tok _)
theorem d_notIn {Q : Value → Shared → Prop} (hu : A.units + 1 < cLine) (I : Inv X pins σ H s) (g : DGet H a y o) (ry : RelV y u) (h : ∀ s', Inv X pins σ H s' → Q (.bool (!o.isSome)) s') :
    wpAny (model X.prog X.w) A (compareOp .NotIn u (.ref a)) Q E s := by
  rcases g with ⟨kvs, k, e, ey, l⟩ | ⟨kvs, k, b, e, ey, eb, l⟩
  · subst ey
    obtain ⟨z, hd, vs, rel, dd⟩ := dk_rd I.hok e
    refine wpAny_notIn_of (kV_is ry) hd dd.mapOf ?_
    rw [← (rel.val k).isSome_eq, ← l]
    exact h _ (I.tok _)
  · subst ey
    cases (show u = Value.ref b from ry)
    obtain ⟨z, hd, xs, rel, dd⟩ := dt_rd I.hok e
    refine wpAny_notIn_heap (tupleKind_room_in1 hu) (key_of I.hok eb) hd dd ?_
    have q := (rel.val k).isSome_eq
    rw [Option.isSome_map] at q
    rw [← q, ← l]
    exact h _ (I.tok _)
/-- a dict's object is replaced -/
theorem d_write {h' : Heap} {t' : Nat} {ob : HO} (I : Inv X pins σ H s) (mu : Mut (H a)) (hs : Heap.SameBut a s.heap h') (he : ∃ q, h'.get? a = some q) (new : ObjOk X.prog X.w (upd H a ob) h' a ob) :
    Inv X pins σ (upd H a ob) { s with heap := h', toks := t' } :=
  I.write (x := a) (e := a) mu (.inl rfl) (fun b q hb z => (hs.2 b hb).trans z) he new
theorem dk_new {P : Program} {w : World} {H' : Hp} {h' : Heap} {kvs : List (Key × V)} {vs : List (Key × Value)} (z : kvs.length ≤ sizeLine) (hd : (a == sysModules) = false) (rel : KV kvs vs) (dd : h'.DictOf (mixKind P w) a vs) :
    ObjOk P w H' h' a (.dK kvs) := ⟨z, hd, vs, rel, dd⟩
/-- d[y] = v -/
theorem d_setItem {H' : Hp} {Q : Unit → Shared → Prop} (hu : A.units + 1 < cLine) (I : Inv X pins σ H s) (g : DPut H a y v H') (ry : RelV y u) (rv : RelV v r) (h : ∀ s', Inv X pins σ H' s' → Q () s') :
    wpAny (model X.prog X.w) A (setItem (.ref a) u r) Q E s := by
  rcases g with ⟨kvs, k, e, ey, l, eH⟩ | ⟨kvs, k, b, e, ey, eb, l, eH⟩
  · subst ey eH
    obtain ⟨z, hd, vs, rel, dd⟩ := dk_of I.hok e
    have hz : vs.length ≤ sizeLine := by rw [← rel.length]; exact z
    have hl : (putK kvs k v).length ≤ sizeLine := by have := length_putK kvs k v; omega
    refine wpAny_setItem_pairs (hsz := hz) (kV_is ry) dd fun h' dd' hs => h _ ?_
    have he : ∃ q, h'.get? a = some q := let ⟨q, _, _, hq, _⟩ := dd'; ⟨q, hq⟩
    exact d_write I (by rw [e]; exact True.intro) hs he (dk_new hl hd (rel.put k rv) dd')
  · subst ey eH
    cases (show u = Value.ref b from ry)
    obtain ⟨z, hd, xs, rel, dd⟩ := dt_of I.hok e
    have hz : xs.length ≤ sizeLine := by rw [← Paired.length rel]; exact z
    have hl : (putK kvs k v).length ≤ sizeLine := by have := length_putK kvs k v; omega
    refine wpAny_setItem_heap (hsz := hz) (tupleKind_room_in1 hu) (key_of I.hok eb) dd fun h' dd' hs => h _ ?_
    obtain ⟨q, es, ep, hq, h2, h3, h4, _, h5⟩ := dd'
    refine d_write I (by rw [e]; exact True.intro) hs ⟨q, hq⟩ ⟨hl, hd, _, (rel.put k eb rv).keeps fun c ys ec => ?_, q, es, ep, hq, h2, h3, h4, h5⟩
    rw [upd_ne (ne_of ec e (fun z => nomatch z))]
    exact ec
end

section
variable {X : Cx} {pins : List (Addr × Obj)} {σ : St} {H : Hp} {s : Shared} {a : Addr} {kvs : List (Key × V)} {k : Key} {u : Value} {A : Around} {E : Value → Shared → Prop}
/-- d.pop(k[, x]), there -/
theorem d_pop {v : V} {more : List Value} {Q : Value → Shared → Prop} (I : Inv X pins σ H s) (e : H a = some (.dK kvs)) (ry : RelV (kV k) u) (l : valV kvs k = some v) (hm : more = [] ∨ ∃ x, more = [x])
    (h : ∀ w' s', Inv X pins σ (upd H a (.dK (dropK kvs k))) s' → RelV v w' → Q w' s') : wpAny (model X.prog X.w) A (call (.builtin "dict.pop") (.ref a :: u :: more)) Q E s := by
  obtain ⟨z, hd, vs, rel, dd⟩ := dk_of I.hok e
  obtain ⟨w', hw, rw'⟩ := RelO.some_of (v := v) (o := valueAt vs k) (by rw [← l]; exact rel.val k)
  have hp : (keyPart u).isSome = true := by
    cases k with
    | inl i => obtain ⟨t, q⟩ := (show ∃ t, u = Value.int i t from ry); subst q; rfl
    | inr x => obtain ⟨t, q⟩ := (show ∃ t, u = Value.str x t from ry); subst q; rfl
  have ha : argsOk "dict.pop" ⟨.ref a :: u :: more, []⟩ := by
    rcases hm with q | ⟨x, q⟩
    · subst q; exact PySem.F.args_dict_pop_2 _ _
    · subst q; exact PySem.F.args_dict_pop_3 _ _ _
  refine call_meetsIn PySem.F.slot_dict_pop dd.typeIs PySem.F.entry_dict_pop ha (meets_dict_pop_there (mixKind X.prog X.w) a (kV_is ry) more hm hp)
    ⟨vs, w', dd, by rw [← rel.length]; exact z, hw, fun h' dd' hs => h w' _ ?_ rw'⟩
  have he : ∃ q, h'.get? a = some q := let ⟨q, _, _, hq, _⟩ := dd'; ⟨q, hq⟩
  exact d_write I (by rw [e]; exact True.intro) hs he (dk_new (Nat.le_trans (dropK_le kvs k) z) hd (rel.drop k) dd')
/-- len(d) -/
theorem d_len {Q : Value → Shared → Prop} (I : Inv X pins σ H s) (e : Rd H a (.dK kvs)) (h : ∀ t s', Inv X pins σ H s' → Q (.int kvs.length t) s') : wpAny (model X.prog X.w) A (call (.builtin "len") [.ref a]) Q E s := by
  obtain ⟨z, hd, vs, rel, dd⟩ := dk_rd I.hok e
  refine call_len_dict hd dd (by rw [← rel.length]; rw [sizeLine_eq] at z; omega) ?_
  rw [← rel.length]
  exact h _ _ (I.tok _)
end


/-! ### readings and rules -/
/-- the element of a subscription, not a slice -/
def NoSl (i : Expr) : Prop := ∀ ov iv, subscripted i false ov iv = operate [ov, iv] (getItem ov iv)
theorem subD_of {prog : Program} {w : World} {A : Around} {E : Value → Shared → Prop} {s : Shared} {env : Env} {value slice : Expr} {pos : Pos} {T id : String} {Q : Value → Shared → Prop}
    (hl : typeLookup (.type T) "__getitem__" = pure (some (.builtin id))) (hs : NoSl slice)
    (h : wpAny (model prog w) A (eval value env) (fun o s₁ => wpAny (model prog w) A (eval slice env) (fun i s₂ => s₂.TypeIs o T ∧ wpAny (model prog w) A (getItem o i) Q E s₂) E s₁) E s) :
    wpAny (model prog w) A (eval (.Subscript value slice pos) env) Q E s := by
  refine Subscript_ (wpAny_mono h (fun o s₁ h₁ => wpAny_mono h₁ (fun i s₂ h₂ => ?_) fun _ _ x => x) fun _ _ x => x)
  obtain ⟨hT, h₂⟩ := h₂
  unfold subscriptTail
  refine wpAny_bind ?_
  rw [getitemInPython_of_ne hT.not_modules]
  refine wpAny_bind (wpAny_specialOf hT hl ?_)
  have fin : wpAny (model prog w) A (subscripted slice false o i) (fun r s₃ => wpAny (model prog w) A (letTemporaryGo value o r >>= fun _ => pure r) Q E s₃) E s₂ := by
    rw [hs o i]
    exact wpAny_operating (wpAny_mono h₂ (fun r s₃ h₃ => wpAny_bind (wpAny_letTemporaryGo (wpAny_pure h₃))) fun _ _ x => x)
  first
    | exact wpAny_pure (wpAny_bind fin)
    | exact wpAny_bind (wpAny_pure (wpAny_bind fin))
    | exact wpAny_bind fin

theorem dict_typeIs {X : Cx} {pins : List (Addr × Obj)} {σ : St} {H : Hp} {s : Shared} {a : Addr} {y : V} {o : Option V} (I : Inv X pins σ H s) (g : DGet H a y o) : s.TypeIs (.ref a) "dict" := by
  rcases g with ⟨kvs, k, e, _, _⟩ | ⟨kvs, k, b, e, _, _, _⟩
  · obtain ⟨_, _, vs, _, dd⟩ := dk_rd I.hok e
    exact dd.typeIs
  · obtain ⟨_, _, xs, _, dd⟩ := dt_rd I.hok e
    exact dd.typeIs
/-- d[y] -/
def tDGet (td ty : TE) : TE := fun σ H Q => td σ H fun x H1 => ty σ H1 fun y H2 => ∃ a v, x = .ref a ∧ DGet H2 a y (some v) ∧ Q v H2
/-- d[y] = v -/
def sDPut (td ty tv : TE) : TS := fun D σ H => tv σ H fun v H1 => td σ H1 fun x H2 => ty σ H2 fun y H3 => ∃ a H4, x = .ref a ∧ DPut H3 a y v H4 ∧ D.nx σ H4
section
variable {X : Cx} {o i e value : Expr} {pos pos' tpos : Pos} {td ty tv : TE}
theorem pe_dget (hu : X.A.units + 1 < cLine) (ho : PE X o td) (hi : PE X i ty) (hs : NoSl i) : PE X (.Subscript o i pos) (tDGet td ty) := by
  intro pins s σ H Q I h
  refine subD_of PySem.F.slot_dict_getitem.lookup hs (thn (ho pins s σ H _ I h) fun u s1 ⟨x, H1, I1, rx, q1⟩ => thn (hi pins s1 σ H1 _ I1 q1) fun iv s2 ⟨y, H2, I2, ry, a, v, ex, g, q2⟩ => ?_)
  subst ex
  obtain rfl : u = Value.ref a := rx
  exact ⟨dict_typeIs I2 g, d_getItem hu I2 g ry fun w' s3 I3 rw' => ⟨v, H2, I3, rw', q2⟩⟩
theorem ps_dput (hu : X.A.units + 1 < cLine) (ho : PE X o td) (hi : PE X i ty) (hv : PE X value tv) (hs : swapsWith value (some (.Subscript o i pos')) pos.line X.env = pure false) :
    PS X (.Assign [.Subscript o i pos'] value pos) (sDPut td ty tv) := by
  intro pins s σ H D I h
  refine wpAny_Assign_Subscript (thn (hv pins s σ H _ I h) fun r s1 ⟨v, H1, I1, rv, q1⟩ => thn (ho pins s1 σ H1 _ I1 q1) fun u s2 ⟨x, H2, I2, rx, q2⟩ => thn (hi pins s2 σ H2 _ I2 q2) fun iv s3 ⟨y, H3, I3, ry, a, H4, ex, g, q3⟩ => ?_) hs
  subst ex
  obtain rfl : u = Value.ref a := rx
  exact d_setItem hu I3 g ry rv fun s4 I4 => ⟨σ, H4, I4, q3⟩
end


/-! ### displays -/
theorem dk_empty {P : Program} {w : World} {H : Hp} (h : Heap) (hb : sysModules < h.objs.size) : ObjOk P w H (h.push { cls := .type "dict", data := .dict #[] }) h.objs.size (.dK []) :=
  ⟨Nat.zero_le _, beq_eq_false_iff_ne.mpr (Ne.symm (Nat.ne_of_lt hb)), [], .nil, Heap.DictOf.new h⟩
/-- {}, to be a dict of the kind that is wanted -/
def tDNewK : TE := fun _ H Q => ∀ p, H p = none → Q (.ref p) (upd H p (.dK []))
section
variable {X : Cx} {pos : Pos}
theorem pe_dnewK : PE X (.Dict [] [] pos) tDNewK := fun pins s σ H Q I h =>
  wpAny_Dict_empty ⟨.ref s.heap.objs.size, _, I.laid (a := s.heap.objs.size) (o := .dK []) (t' := s.toks) (fun _ _ q => Heap.get?_push_of_some _ q) (Nat.le_refl _) (dk_empty s.heap I.big), rfl, h _ (I.hok.fresh (Nat.le_refl _))⟩
end

/-! ### methods -/
/-- a method call o.m(e) of a built-in, with one argument: what must be seen of the text -/
structure M1 (X : Cx) (o : Expr) (m : Str) (apos : Pos) (e : Expr) (cpos : Pos) : Prop where
  base : attributeBase o m X.env (eval o X.env) = eval o X.env
  few : ((backTo cpos (starEach [e] X.env)).all (fun x => !x.1) && (backToKw cpos (keywordEach [] X.env)).all (fun x => x.1.isSome)
    && decide (([e] : List Expr).length + ([] : List Keyword).length + (if ([] : List Keyword).isEmpty then 0 else 1) < 30)) = true
  line : (apos.endLine == cpos.line) = true
  trees : backTo cpos (starEach [e] X.env) = [(false, eval e X.env)]
/-- a is a dict, whatever its keys -/
def IsD (H : Hp) (a : Addr) : Prop := (∃ kvs, Rd H a (.dK kvs)) ∨ ∃ kvs, Rd H a (.dT kvs)
theorem isD_at {X : Cx} {pins : List (Addr × Obj)} {σ : St} {H : Hp} {s : Shared} {a : Addr} (I : Inv X pins σ H s) (d : IsD H a) :
    s.TypeIs (.ref a) "dict" ∧ (∀ b, Value.ref a = .ref b → ∃ ob, s.heap.get? b = some ob ∧ ob.dict = none) ∧ (a == sysModules) = false := by
  rcases d with ⟨kvs, e⟩ | ⟨kvs, e⟩
  · obtain ⟨_, hd, vs, _, dd⟩ := dk_rd I.hok e
    refine ⟨dd.typeIs, fun b q => ?_, hd⟩
    cases q
    obtain ⟨ob, _, _, h1, h2, _⟩ := dd
    exact ⟨ob, h1, h2.2.1⟩
  · obtain ⟨_, hd, xs, _, dd⟩ := dt_rd I.hok e
    refine ⟨dd.typeIs, fun b q => ?_, hd⟩
    cases q
    obtain ⟨ob, _, _, h1, h2, _⟩ := dd
    exact ⟨ob, h1, h2.2.1⟩

section
variable {X : Cx} {pins : List (Addr × Obj)} {σ : St} {H : Hp} {s : Shared} {a : Addr} {y d : V} {u r : Value} {o : Option V} {A : Around} {E : Value → Shared → Prop}
end

/-- d.pop(k): there; d.pop(k, x): there or not -/
def tDPop1 (td ty : TE) : TE := fun σ H Q => td σ H fun x H1 => ∃ a, x = .ref a ∧ IsD H1 a ∧ ty σ H1 fun y H2 => ∃ kvs k v, H2 a = some (.dK kvs) ∧ y = kV k ∧ valV kvs k = some v ∧ Q v (upd H2 a (.dK (dropK kvs k)))
section
variable {X : Cx} {o e f : Expr} {apos cpos : Pos} {td ty tx : TE}
theorem pe_dpop1 (ho : PE X o td) (he : PE X e ty) (m : M1 X o "pop" apos e cpos) : PE X (.Call (.Attribute o "pop" apos) [e] [] cpos) (tDPop1 td ty) := by
  intro pins s σ H Q I h
  refine wpAny_Call_method m.base m.few m.line PySem.F.plainAttrs_dict PySem.F.slot_dict_pop PySem.F.type_dict_pop (thn (ho pins s σ H _ I h) fun u s1 ⟨x, H1, I1, rx, a, ex, d, q1⟩ => ?_)
  subst ex
  obtain rfl : u = Value.ref a := rx
  obtain ⟨t1, t2, _⟩ := isD_at I1 d
  refine ⟨t1, t2, ?_⟩
  rw [m.trees]
  refine Calls.callWith_builtin rfl (Calls.evalArgs_plain (Calls.spliced_cons (thn (he pins s1 σ H1 _ I1 q1) fun iv s2 ⟨y, H2, I2, ry, kvs, k, v, ea, ey, l, q2⟩ => Calls.spliced_nil ?_)))
  subst ey
  exact d_pop I2 ea ry l (.inl rfl) fun w' s3 I3 rw' => ⟨v, _, I3, rw', q2⟩
end

/-! ### dict(d): a copy -/
section
variable {X : Cx} {pins : List (Addr × Obj)} {σ : St} {H : Hp} {s : Shared} {a : Addr} {kvs : List (Key × V)} {A : Around} {E : Value → Shared → Prop}
end


section
variable {X : Cx} {pins : List (Addr × Obj)} {σ : St} {H : Hp} {s : Shared} {a : Addr} {y : V} {u : Value} {A : Around} {E : Value → Shared → Prop}
end
end L2


end
section
set_option Elab.async false
set_option linter.all false
set_option maxRecDepth 100000
set_option maxHeartbeats 4000000
namespace L2
open PySem PySem.Spec PyProof.Rows
/-! ### sorted(d): d's keys are texts, fewer than 64 -/
def strK (x : Str) : Key := Sum.inr x
/-- the keys of a dict, all of them texts -/
def KeysS (kvs : List (Key × V)) (ks : List Str) : Prop := kvs.map (·.1) = ks.map strK
def upS (ss : List Str) : Prop := ss.Pairwise fun a b => ¬ b.cps.toList < a.cps.toList
def rSortedD : List V → Hp → VK → Prop := fun vs H Q => match vs with
  | [.ref a] => ∃ kvs ks, Rd H a (.dK kvs) ∧ KeysS kvs ks ∧ ks.length < 64 ∧ ∀ l ss, H l = none → ss.Perm ks → upS ss → Q (.ref l) (upd H l (.lst (ss.map V.str)))
  | _ => False
theorem vals_strs : ∀ {vs : List Value} {ss : List Str}, StrsAre vs ss → Vals (ss.map V.str) vs
  | _, _, .nil => .nil
  | _, _, .cons x t h => .cons ⟨t, rfl⟩ (vals_strs h)
theorem strsAre_of : ∀ (vs : List Value) (ks : List Str), vs.length = ks.length → (∀ (j : Nat) (v : Value), vs[j]? = some v → ∃ (k : Str) (t : Tok), ks[j]? = some k ∧ v = Value.str k t) → StrsAre vs ks
  | [], [], _, _ => .nil
  | [], _ :: _, h, _ => by simp at h
  | _ :: _, [], h, _ => by simp at h
  | v :: vs, k :: ks, h, f => by
    obtain ⟨k', t, e, rfl⟩ := f 0 v rfl
    cases e
    exact .cons k t (strsAre_of vs ks (by simpa using h) fun j v hv => f (j + 1) v hv)
theorem mix_str {P : Program} {w : World} {k : Str} {v : Value} (h : (mixKind P w).is (Sum.inr k) v = true) : ∃ t, v = Value.str k t := by
  rw [mixKind_is] at h
  obtain ⟨t, e⟩ := Value.isStrOf_shape (x := k) (v := v) h
  exact ⟨t, e⟩
theorem rising_pw : ∀ {l : List Str} {p : Str}, risingS p l = true → (p :: l).Pairwise fun a b => ¬ b.cps.toList < a.cps.toList
  | [], p, _ => by simp
  | x :: l, p, h => by
    unfold risingS at h
    rw [Bool.and_eq_true, ltCps_eq] at h
    have ih := rising_pw h.2
    have h1 : ¬ x.cps.toList < p.cps.toList := by simpa using h.1
    rw [List.pairwise_cons]
    refine ⟨fun y hy => ?_, ih⟩
    rcases List.mem_cons.mp hy with rfl | hy
    · exact h1
    · have h2 := (List.pairwise_cons.mp ih).1 y hy
      exact (List.le_trans (show p.cps.toList ≤ x.cps.toList from h1) (show x.cps.toList ≤ y.cps.toList from h2) : p.cps.toList ≤ y.cps.toList)
theorem sorted_pw {l : List Str} (h : sortedS l = true) : upS l := by
  cases l with
  | nil => exact .nil
  | cons x l => exact rising_pw h
theorem ObjOk.there {P : Program} {w : World} {H : Hp} {h : Heap} {a : Addr} {o : HO} (x : ObjOk P w H h a o) : ∃ ob, h.get? a = some ob := by
  cases o with
  | lst xs => obtain ⟨_, _, _, _, e⟩ := x; exact ⟨_, e⟩
  | tup xs => obtain ⟨_, _, _, ob, e, _⟩ := x; exact ⟨_, e⟩
  | dK kvs => obtain ⟨_, _, _, _, o, _, _, e, _⟩ := x; exact ⟨_, e⟩
  | dT kvs => obtain ⟨_, _, _, _, o, _, _, e, _⟩ := x; exact ⟨_, e⟩
  | set S n => obtain ⟨o, _, _, _, e, _⟩ := x; exact ⟨_, e⟩
  | ins C dx fs => obtain ⟨_, _, _, e, _⟩ := x; exact ⟨_, e⟩
  | own y => obtain ⟨_, e⟩ := x; exact ⟨_, e⟩
  | xd fs => obtain ⟨_, ⟨_, _, _, e, _⟩, _⟩ := x; exact ⟨_, e⟩
  | rng lo hi => obtain ⟨_, _, _, e⟩ := x; exact ⟨_, e⟩
  | frz ob u => obtain ⟨e, _⟩ := x; exact ⟨_, e⟩
  | tbl ps => exact ⟨_, x⟩
  | met f y => exact ⟨_, x⟩
  | ext φ => obtain ⟨_, ⟨_, e⟩, _⟩ := x; exact ⟨_, e⟩
section
variable {X : Cx}
theorem call_sortedD (hd : X.A.handled = none) : CallR X (.builtin "sorted") rSortedD := by
  intro pins s σ H xs us Q I rv h
  unfold rSortedD at h
  split at h
  rotate_left
  · exact h.elim
  rename_i a
  obtain ⟨kvs, ks, e, ek, h64, q⟩ := h
  obtain ⟨u, rfl, ru⟩ := vals1 rv
  cases ru
  obtain ⟨z, lo, vs, rel, dd⟩ := dk_rd I.hok e
  have line : 64 ≤ sizeLine := Nat.le_trans (by decide) line_ge
  have lk : kvs.length = ks.length := by have := congrArg List.length ek; simpa using this
  have lv : vs.length = kvs.length := rel.length.symm
  have keys : vs.map (·.1) = ks.map strK := by rw [← rel.keys]; exact ek
  obtain ⟨ep, da⟩ : ∃ ep, s.heap.DictAt (mixKind X.prog X.w) a vs ep := by obtain ⟨o, es, ep, r⟩ := dd; exact ⟨ep, o, es, r⟩
  refine Calls.call_function_entry kind_sorted plain_sorted entry_sorted (args_sorted1 _) ?_
  unfold Builtin.«sorted»
  refine wpAny_bind (m := checkCount "sorted" 1 1 _) (wpAny_pure ?_)
  refine wpAny_bind (PySem.W.kdu_collect (PySem.W.kdl_dict (knd := mixKind X.prog X.w) lo) (by simp [hd]) da (by omega) fun h' tk acc hk ia => ?_)
  obtain ⟨asz, ait⟩ := ia
  have hS : StrsAre acc.toList ks := by
    refine strsAre_of _ _ (by rw [Array.length_toList, asz, lv, lk]) fun j v hj => ?_
    obtain ⟨k, x, e1, e2⟩ := ait j v (by rw [← Array.getElem?_toList]; exact hj)
    have e3 : (vs.map (·.1))[j]? = some k := by rw [List.getElem?_map, e1]; rfl
    rw [keys, List.getElem?_map] at e3
    cases e4 : ks[j]? with
    | none => rw [e4] at e3; cases e3
    | some y =>
      rw [e4] at e3
      cases e3
      obtain ⟨t, rfl⟩ := mix_str e2
      exact ⟨y, t, rfl, rfl⟩
  have hz : acc.toList.length ≤ sizeLine := by rw [Array.length_toList, asz]; omega
  have hlen : acc.toList.length < 64 := by rw [Array.length_toList, asz]; omega
  refine wpAny_bind (wpAny_newList ?_ hz)
  have hoL : (h'.push (seqObj "list" acc.toList.toArray 0)).get? h'.objs.size = some (seqObj "list" acc.toList.toArray 0) := Heap.get?_push_size _ rfl
  refine wpAny_bind (wpAny_holding (wpAny_call_entry slot_list_sort ⟨_, hoL, rfl⟩ entry_list_sort (list_sort_treeK strKind_oneLt hoL hS.keysOf (fun v₁ v₂ rest e => keyKind_strs (by rw [← e]; exact hS)) hlen fun st' hp hs => ⟨_, rfl, ?_⟩) (args_list_sort _)))
  obtain ⟨ss, b1, b2, b3⟩ := sorted_out_str hS hp hs
  obtain ⟨ec, he⟩ := sortedHeap_at (out := (arrOf st').map (·.2)) hoL
  refine wpAny_pure ⟨_, rfl, ?_⟩
  have hz2 : (ss.map V.str).length ≤ sizeLine := by rw [List.length_map, b2.length_eq]; omega
  have lt' : ∀ b ob, s.heap.get? b = some ob → b < h'.objs.size := fun b ob w => Heap.lt_size (hk b ob w)
  have I2 := I.kept (t' := tk) (h' := sortedHeap (h'.push (seqObj "list" acc.toList.toArray 0)) h'.objs.size acc.toList ((arrOf st').map (·.2))) fun b ob w => by
    have hb := lt' b ob w
    rw [sortedHeap_old (Nat.ne_of_lt hb) (by rw [size_push']; exact Nat.lt_succ_of_lt hb)]
    exact Heap.get?_push_of_some _ (hk b ob w)
  have hloc : X.env.locals < h'.objs.size := by obtain ⟨m, ⟨o, _, _, ho, _⟩, _⟩ := I.loc; exact lt' _ _ ho
  have hn : H h'.objs.size = none := by
    cases w : H h'.objs.size with
    | none => rfl
    | some o =>
      obtain ⟨ob, hob⟩ := ObjOk.there (I.hok _ _ w)
      exact absurd (lt' _ _ hob) (Nat.lt_irrefl _)
  have h0 : X.s₀.heap.get? h'.objs.size = none := Heap.get?_none_of_le (Nat.le_trans I.ok.above (Nat.le_of_lt hloc))
  refine ⟨.ref h'.objs.size, _, I2.track (o := .lst (ss.map V.str)) hn h0 (Nat.ne_of_gt hloc) (fun x c ec => ?_) (fun p hp => ?_) ⟨hz2, _, ec, vals_strs b1, by rw [Array.toArray_toList]; exact he⟩, rfl, q _ ss hn b2 (sorted_pw b3)⟩
  · obtain ⟨v, o, ho, _⟩ := I.cell x c ec
    exact Nat.ne_of_lt (lt' _ _ ho)
  · exact Nat.ne_of_lt (lt' _ _ (I.pin p hp).1)
end
end L2

end
section
set_option Elab.async false
set_option linter.all false
set_option maxRecDepth 100000
set_option maxHeartbeats 4000000
namespace L2
open PySem PySem.Spec PyProof.Rows
/-! ### dict(rows): a list of pairs -/
section
variable {prog : Program} {w : World} {A : Around} {R : Result → Shared → Prop} {E : Value → Shared → Prop}
end
section
variable {X : Cx}
end
/-! ### a key in a dict, d[k] -/
def rInK (neg : Bool) : R2 := fun x y H Q => ∃ a kvs k, y = .ref a ∧ Rd H a (.dK kvs) ∧ x = kV k ∧ Q (.bl (if neg then !(valV kvs k).isSome else (valV kvs k).isSome)) H
section
variable {X : Cx}
theorem op_inK (hu : X.A.units + 1 < cLine) : OpR X (compareOp .In) (rInK false) := by
  intro pins s σ H x y v u Q I rx ry h
  obtain ⟨a, kvs, k, rfl, e, rfl, q⟩ := h
  obtain rfl : u = Value.ref a := ry
  exact d_in hu I (.inl ⟨kvs, k, e, rfl, rfl⟩) rx fun s3 I3 => ⟨.bl _, H, I3, rfl, q⟩
theorem op_notInK (hu : X.A.units + 1 < cLine) : OpR X (compareOp .NotIn) (rInK true) := by
  intro pins s σ H x y v u Q I rx ry h
  obtain ⟨a, kvs, k, rfl, e, rfl, q⟩ := h
  obtain rfl : u = Value.ref a := ry
  exact d_notIn hu I (.inl ⟨kvs, k, e, rfl, rfl⟩) rx fun s3 I3 => ⟨.bl _, H, I3, rfl, q⟩
end
/-! ### a comprehension over a list that may be made for it, whose items may be laid -/
theorem tComp_inv {K : PySem.W.Frag} {σ : St} {H : Hp} {Q : VK} {te : TE} {ti : TT} {tl : TE} {js : List (Nat × Str)}
    (h : ∀ G : V → Hp → Prop, (∀ (a : Addr) (xs : List V) (H1 : Hp) (J : Nat → List V → Hp → Prop), SqL K H1 a xs → xs.length ≤ 1000 → (∀ i ys H2 H3, Tp H2 H3 → J i ys H2 → J i ys H3) → J 0 [] H1 →
      (∀ (i : Nat) (x : V) (ys : List V) (H2 : Hp), xs[i]? = some x → Same H1 H2 → J i ys H2 → ∀ (A : Hp → Prop) (B : V → Hp → Prop), (∀ H3, Same H2 H3 → J (i + 1) ys H3 → A H3) → (∀ y H4, Same H2 H4 → J (i + 1) (ys ++ [y]) H4 → B y H4) →
        ti (some x :: capt js σ) H2 fun b H3 => if b = true then te (some x :: capt js σ) H3 B else A H3) →
      (∀ (l : Addr) (ys : List V) (H2 : Hp), H1 l = none → Same H1 H2 → H2 l = some (.lst ys) → J xs.length ys H2 → Q (.ref l) H2) → G (.ref a) H1) → tl σ H G) : tComp js (iList K tl) ti te σ H Q := by
  refine h _ fun a xs H1 J hl hz mono j0 step fin => ⟨a, rfl, ⟨xs, hl⟩, fun l hl0 => ?_⟩
  have line : 1001 ≤ sizeLine := Nat.le_trans (by decide) line_ge
  have tpl : ∀ (H2 : Hp) (ys zs : List V), H2 l = some (.lst ys) → Tp H2 (upd H2 l (.lst zs)) := fun H2 ys zs e b us eb => by
    rw [upd_ne (fun w => by rw [w, e] at eb; cases eb)]; exact eb
  refine ⟨fun i m ys H2 => m = xs.length - i ∧ i ≤ xs.length ∧ ys.length ≤ i ∧ Same H1 H2 ∧ H2 l = some (.lst ys) ∧ J i ys H2,
    ⟨xs.length, by simp, Nat.zero_le _, Nat.le_refl _, fun b o e => by rw [upd_ne (ne_of_none e hl0)]; exact e, upd_same, mono _ _ _ _ (fun b us e => by rw [upd_ne (ne_of_none e hl0)]; exact e) j0⟩, ?_⟩
  rintro i m ys H2 ⟨rfl, hi, hy, sm, hL, j⟩
  have q := sm.seq hl
  by_cases hlt : i < xs.length
  · refine .inr ⟨⟨xs, xs[i], q, by simp [hlt]⟩, fun v H'' y => ?_⟩
    obtain ⟨e, y⟩ := y
    subst e
    have hv := y xs q
    refine step i v ys _ hv sm j _ _ (fun H3 s3 j3 => ⟨xs.length - (i + 1), by omega, rfl, hlt, by omega, sm.trans s3, s3 _ _ hL, j3⟩) (fun y H4 s4 j4 => ?_)
    have hL4 := s4 _ _ hL
    refine ⟨xs.length - (i + 1), by omega, hL4, by omega, rfl, hlt, by rw [List.length_append]; simp only [List.length_cons, List.length_nil]; omega, ?_, upd_same, mono _ _ _ _ (tpl H4 ys _ hL4) j4⟩
    exact fun b o e => by rw [upd_ne (ne_of_none e hl0)]; exact (sm.trans s4) b o e
  · have e : i = xs.length := by omega
    subst e
    exact .inl ⟨⟨xs, q, Nat.le_refl _⟩, fin l ys H2 hl0 sm hL j⟩
end L2

end
section
set_option Elab.async false
set_option linter.all false
set_option maxRecDepth 100000
set_option maxHeartbeats 4000000
namespace L2
open PySem PySem.Spec PyProof.Rows
local macro_rules | `(tactic| walk_at "rd") => `(tactic| try simp only [tVar, tC, tOp, tUn, tSeq, tAsg, gName, tRet, tRetN, tIfS, tDrop, tNext, tCons, tNil, tCall, tCB, tTest, tB, tAnd, tOr, tNot, tAndV, tOrV, tNotV, tIf, tTup, tLst, tSl, tPart, tNoPart, tBM, tBM0, L2.start, rI2, rI3, rAddA, rMulA, rSubI, rDivI, rModI, rPowI, rNegI, rLt, rLe, rGt, rGe, rIsN, rNotN, rEqS, rNeS, rLen, rIxA, rIntA, rMax2, rMin2, rStrI, rListOf, rIsi2, isiF, isiO, rSlA, rStarts2, rEnds2, CDiv,
  List.map_cons, List.map_nil, List.length_cons, List.length_nil, List.replicate_succ, List.replicate_zero, List.cons_append, List.nil_append, List.append_nil, List.getElem?_cons_zero, List.getElem?_cons_succ, List.set_cons_zero, List.set_cons_succ, Option.some.injEq, V.int.injEq, V.str.injEq, V.bl.injEq, V.ref.injEq, V.ty.injEq, reduceCtorEq, exists_eq_left', exists_eq_left, exists_eq_right, exists_eq_right', exists_eq', exists_eq, exists_and_left, exists_and_right, false_and, and_false, true_and, and_true, exists_const, exists_false, false_or, or_false, List.cons.injEq, and_assoc, decide_eq_true_eq, decide_true, decide_false, Int.reduceLT, Int.reduceLE, Nat.reduceLT, Nat.reduceLeDiff, Nat.reduceSub, Nat.reduceAdd, Nat.sub_self, Nat.sub_zero, enc_eq, enc_nil, enc_0, enc_1, enc_01, enc_append, enc_len, Bool.not_true, Bool.not_false, Bool.false_eq_true, if_true, if_false, ↓reduceIte, String.reduceEq, or_true, true_or, Nat.one_mul, addr_len, bitsBy_len, List.length_append, List.length_replicate, List.length_map])
local macro_rules | `(tactic| walk_at "sz") => `(tactic| (have hline := line_ge; first | omega | (simp; omega)))
/-! ### a table as a dict -/
def tabK (rs : List Row) : List (Key × V) := rs.map fun r => (strK (enc r.1), wayV r.2)
theorem tabK_keys (rs : List Row) : KeysS (tabK rs) (rs.map fun r => enc r.1) := by
  unfold KeysS tabK
  rw [List.map_map, List.map_map]; rfl
theorem strK_inj {a b : Str} (h : strK a = strK b) : a = b := by unfold strK at h; cases h; rfl
/-- what the dict holds at a head -/
def atH (rs : List Row) (h : List Bool) : Option Row := rs.find? fun r => r.1 == h
theorem valV_tabK (rs : List Row) (h : List Bool) : valV (tabK rs) (strK (enc h)) = (atH rs h).map fun r => wayV r.2 := by
  unfold valV tabK atH
  induction rs with
  | nil => rfl
  | cons r rs ih =>
    rw [List.map_cons, List.find?_cons, List.find?_cons]
    by_cases e : r.1 = h
    · have e1 : (decide (strK (enc r.1) = strK (enc h))) = true := by rw [e]; simp
      have e2 : (r.1 == h) = true := by rw [e]; simp
      dsimp only
      rw [e1, e2]; rfl
    · have e1 : (decide (strK (enc r.1) = strK (enc h))) = false := decide_eq_false fun z => e (enc_inj (strK_inj z))
      have e2 : (r.1 == h) = false := by simpa using e
      dsimp only
      rw [e1, e2]; exact ih
theorem atH_none {rs : List Row} {h : List Bool} : atH rs h = none ↔ ∀ r ∈ rs, r.1 ≠ h := by
  unfold atH
  rw [List.find?_eq_none]
  simp
theorem atH_some {rs : List Row} {r : Row} (hn : (rs.map (·.1)).Nodup) (hr : r ∈ rs) : atH rs r.1 = some r := by
  cases e : atH rs r.1 with
  | none => exact absurd rfl (atH_none.mp e r hr)
  | some q =>
    have h1 : q ∈ rs := List.mem_of_find?_eq_some e
    have h2 : (q.1 == r.1) = true := List.find?_some (p := fun q : Row => q.1 == r.1) e
    rw [nodup_heads hn h1 hr (by simpa using h2)]
/-! ### the deeds -/
/-- sorted heads are the heads of the sorted rows -/
theorem sorted_heads {rs ss : List Row} {zs : List Str} (so : SortR rs ss) (hp : zs.Perm (rs.map fun r => enc r.1)) (hu : upS zs) : zs = ss.map fun r => enc r.1 := by
  refine List.Perm.eq_of_pairwise (le := fun a b : Str => ¬ b.cps.toList < a.cps.toList) (fun a b _ _ h1 h2 => ?_) hu ?_ (hp.trans (so.perm.map _).symm)
  · exact Str.ext' (Array.toList_inj.mp (List.le_antisymm h1 h2))
  · exact List.Pairwise.map _ (fun a b h => h) so.up
end L2

end
section
set_option Elab.async false
set_option linter.all false
set_option maxRecDepth 100000
set_option maxHeartbeats 4000000
namespace L2
open PySem PySem.Spec PyProof.Rows
/-! ### more of texts: in, count, partition, index; a list's truth; a module's constants -/
def rCount : V → List V → Hp → VK → Prop := fun x vs H Q => match x, vs with
  | .str a, [.str b] => Q (.int (Txt.count a b)) H
  | _, _ => False
section
variable {X : Cx}
theorem mt_count : MtM X "str.count" rCount := by
  intro pins s σ H x vs v us Q I rx rv h
  unfold rCount at h
  split at h
  · obtain ⟨t, rfl⟩ := rx
    obtain ⟨u, rfl, t', rfl⟩ := rv.one
    exact SC.count ⟨.int _, H, I.tok _, ⟨_, rfl⟩, h⟩
  · exact h.elim
theorem pe_globI {x : Str} {z : Int} {pos : Pos} (hm : ∃ t, X.mg x = some (.int z t)) (hg : Gl X x := by rfl) (hd : (x == ("__debug__" : Str)) = false := by decide) : PE X (.Name x pos) (tC (.int z)) := by
  obtain ⟨t, hm⟩ := hm
  exact pe_glob hg hm ⟨t, rfl⟩ hd
end
end L2

end
section
set_option Elab.async false
set_option linter.all false
set_option maxRecDepth 100000
set_option maxHeartbeats 2000000
namespace L2
open PySem PySem.Spec PyProof.Rows
/-! ### a def that may raise, by its name -/
section
variable {P : Program} {w : World} {K : PySem.W.Frag} {mg : Str → Option Value} {base : Heap}
theorem Fun.okX {x qual : Str} {st : Stmt} {f : Addr} {fd : FuncData} {N ps : List Str} {k : Nat} {sp : Sp} (F : Fun K x qual st f fd) (S : FnScope N ps (defScope st)) (len : ∀ vs H Q E, sp vs H Q E → vs.length = ps.length)
    (hbody : ∀ (cdv : Value) (A : Around) (outer : List Env) (s : Shared) (H : Hp) (vs : List V) (Q : VK) (E : XK), Room k (A.deeper (envOfC qual (defScope st) s.heap.objs.size f cdv)) → sp vs H Q E →
      ∃ t, PSs (cxOf (CX1 P w) P w K mg base N qual (defScope st) f cdv A outer s H E) (defBody st) t ∧ t { nx := fun _ H' => Q .non H', rt := Q } (start N vs) H) : FnOk P w K mg base (CX1 P w) (k + 1) f fd ps sp := by
  obtain ⟨oc, od, kV, doc, pm, an, cdv, ct, osl, rfl, lk, hcd⟩ := F.ex
  exact fn_of lk hcd S len fun A outer s H vs Q E hr hsp => hbody cdv A outer s H vs Q E hr hsp
end
section
variable {X : Cx} {k : Nat} {x : Str} {ps : List Str} {sp : Sp} {p pos : Pos} {e : Expr} {es : List Expr} {t : TA} {E : XK}
/-! ### at one frame: what may raise -/
/-- an expression, the names' values fixed -/
def PXE (X : Cx) (e : Expr) (t : XK → TE) : Prop := ∀ (pins : List (Addr × Obj)) (s : Shared) (σ : St) (H : Hp) (Q : VK) (E : XK) (xe : Value → Shared → Prop), Inv X pins σ H s →
  (∀ H1 s1 e s', Inv X pins σ H1 s1 → CX1 X.prog X.w X.stack H1 s1 E e s' → xe e s') → t E σ H Q → wpAny (model X.prog X.w) X.A (eval e X.env) (EP X pins σ Q) xe s
def SPK (X : Cx) (pins : List (Addr × Obj)) (σ : St) (D : Ends) (f : Flow) (s' : Shared) : Prop :=
  match f with
  | .next => ∃ H', Inv X pins σ H' s' ∧ D.nx σ H'
  | _ => False
/-- a statement that stores no name -/
def PXK (X : Cx) (st : Stmt) (t : XK → TS) : Prop := ∀ (pins : List (Addr × Obj)) (s : Shared) (σ : St) (H : Hp) (D : Ends) (E : XK) (xe : Value → Shared → Prop), Inv X pins σ H s →
  (∀ H1 s1 e s', Inv X pins σ H1 s1 → CX1 X.prog X.w X.stack H1 s1 E e s' → xe e s') → t E D σ H → wpAny (model X.prog X.w) X.A (exec st X.env) (SPK X pins σ D) xe s
def PXKs (X : Cx) (st : List Stmt) (t : XK → TS) : Prop := ∀ (pins : List (Addr × Obj)) (s : Shared) (σ : St) (H : Hp) (D : Ends) (E : XK) (xe : Value → Shared → Prop), Inv X pins σ H s →
  (∀ H1 s1 e s', Inv X pins σ H1 s1 → CX1 X.prog X.w X.stack H1 s1 E e s' → xe e s') → t E D σ H → wpAny (model X.prog X.w) X.A (execs st X.env) (SPK X pins σ D) xe s
/-- a block -/
def PXs (X : Cx) (st : List Stmt) (t : XK → TS) : Prop := ∀ (pins : List (Addr × Obj)) (s : Shared) (σ : St) (H : Hp) (D : Ends) (E : XK) (xe : Value → Shared → Prop), Inv X pins σ H s →
  (∀ H1 s1 e s', Inv X pins σ H1 s1 → CX1 X.prog X.w X.stack H1 s1 E e s' → xe e s') → t E D σ H → wpAny (model X.prog X.w) X.A (execs st X.env) (SP X pins D) xe s
theorem pxk_expr {te : XK → TE} (he : PXE X e te) (hs : swapsWith e none pos.line X.env = pure false := by rfl) : PXK X (.Expr e pos) (fun E => tDrop (te E)) := by
  intro pins s σ H D E xe I hp h
  exact wpAny_Expr_any (thn (he pins s σ H _ E xe I hp h) fun v s1 ⟨x, H1, I1, r1, q1⟩ => ⟨H1, I1, q1⟩) I.quiet hs
theorem pxk_if {c : Expr} {a b : List Stmt} {tc : TT} {ta tb : XK → TS} (hc : PT X.nox c tc) (ha : PXKs X a ta) (hb : PXKs X b tb) : PXK X (.If c a b pos) (fun E => tIfS tc (ta E) (tb E)) := by
  intro pins s σ H D E xe I hp h
  refine wpAny_If (wpAny_mono (hc pins s σ H _ (I.wish _) h) (fun d s1 ⟨H1, I1, q1⟩ => ?_) fun _ _ z => z.elim)
  cases d with
  | true => exact ha pins s1 σ H1 D E xe I1.unwish hp q1
  | false => exact hb pins s1 σ H1 D E xe I1.unwish hp q1
theorem pxks_nil : PXKs X [] (fun _ => tNext) := fun _ _ _ H _ _ _ I _ h => wpAny_execs_nil ⟨H, I, h⟩
theorem pxks_one {st : Stmt} {ts : XK → TS} (h1 : PXK X st ts) : PXKs X [st] ts := by
  intro pins s σ H D E xe I hp h
  refine wpAny_execs_cons (thn (h1 pins s σ H D E xe I hp h) fun f s1 q => ?_)
  cases f with
  | next => exact wpAny_execs_nil q
  | ret v => exact q.elim
  | brk => exact q.elim
  | cont => exact q.elim
theorem pxks_cons {st : Stmt} {rest : List Stmt} {ts us : XK → TS} (h1 : PXK X st ts) (h2 : PXKs X rest us) : PXKs X (st :: rest) (fun E => tSeq (ts E) (us E)) := by
  intro pins s σ H D E xe I hp h
  refine wpAny_execs_cons (thn (h1 pins s σ H { D with nx := us E D } E xe I hp h) fun f s1 q => ?_)
  cases f with
  | next =>
    obtain ⟨H', I', q⟩ := q
    exact h2 pins s1 σ H' D E xe I' hp q
  | ret v => exact q.elim
  | brk => exact q.elim
  | cont => exact q.elim
theorem PXKs.pxs {st : List Stmt} {ts : XK → TS} (h : PXKs X st ts) : PXs X st ts := by
  intro pins s σ H D E xe I hp hq
  refine thn (h pins s σ H D E xe I hp hq) fun f s1 q => ?_
  cases f with
  | next => obtain ⟨H', I', q⟩ := q; exact ⟨σ, H', I', q⟩
  | ret v => exact q.elim
  | brk => exact q.elim
  | cont => exact q.elim
end
/-! ### try: .. except R as n: .. -/
/-- behind the suite the name in slot i is gone -/
def goneAt (D : Ends) (i : Nat) : Ends := { nx := fun σ H => D.nx (σ.set i none) H, rt := D.rt, bk := fun σ H => D.bk (σ.set i none) H, ct := fun σ H => D.ct (σ.set i none) H }
def tTry (K : PySem.W.Frag) (R : Addr) (i : Nat) (tb : XK → TS) (th : TS) : TS := fun D σ H =>
  tb (fun cls _ H1 => ∃ C, cls = .ref C ∧ PySem.W.mroIn K C (.ref R) = some true ∧ ∀ a, H1 a = none → th (goneAt D i) (σ.set i (some (.ref a))) (upd H1 a (excO a C))) D σ H
section
variable {X : Cx} {body : List Stmt} {b0 : Stmt} {suite : List Stmt} {x n : Str} {R : Addr} {i : Nat} {np hpos pos : Pos} {tb : XK → TS} {th : TS}
theorem SP.gone {e : Value} {pins : List (Addr × Obj)} {D : Ends} {f : Flow} {s' : Shared} {E : Value → Shared → Prop} (ok : X.Ok) (hN : X.N.Nodup) (hi : X.N[i]? = some n) (hl : X.env.scope.names.lookup n = some .local) (h : SP (X.held e).nox pins (goneAt D i) f s') :
    wpAny (model X.prog X.w) X.A (do bindName X.env n .none; unbindBehindTheSuite X.env n hpos) (fun _ s'' => SP X pins D f s'') E s' := by
  have key : ∀ {σ' : St} {H' : Hp} (Q : Unit → Shared → Prop), Inv (X.held e).nox pins σ' H' s' → (∀ s'', Inv X pins (σ'.set i none) H' s'' → Q () s'') →
      wpAny (model X.prog X.w) X.A (do bindName X.env n .none; unbindBehindTheSuite X.env n hpos) Q E s' := fun {σ' H'} Q I q => by
    have I' : Inv X pins σ' H' s' := (Inv.unwish I).unheld ok
    obtain ⟨m, hm, hl'⟩ := id I'.loc
    exact wpAny_nameGoes_keeps hl hm (by rw [I'.ok.kind]; rfl) fun h'' v hn hs => q _ (I'.unbound hN hi hm hl' hn hs)
  cases f with
  | next => obtain ⟨σ', H', I, q⟩ := h; exact key _ I fun s'' J => ⟨_, H', J, q⟩
  | brk => obtain ⟨σ', H', I, q⟩ := h; exact key _ I fun s'' J => ⟨_, H', J, q⟩
  | cont => obtain ⟨σ', H', I, q⟩ := h; exact key _ I fun s'' J => ⟨_, H', J, q⟩
  | ret u => obtain ⟨v, σ', H', I, r, q⟩ := h; exact key _ I fun s'' J => ⟨v, _, H', J, r, q⟩
theorem ps_try (hb : PXs X body tb) (hs : ∀ a, PSs (X.held (.ref a)).nox (b0 :: suite) th) (hm : X.mg x = some (.ref R)) (hR : PySem.W.excIn X.K R bmV "ValueError.__new__" = true)
    (hN : X.N.Nodup) (hi : X.N[i]? = some n) (hl : X.env.scope.names.lookup n = some .local) (hg : Gl X x := by rfl) (hex : X.ex = [] := by rfl) (hst : X.stack = X.env :: X.outer := by rfl) (hfr : X.env.frame = some X.env.locals := by rfl) (hdb : (x == ("__debug__" : Str)) = false := by decide) :
    PS X (.Try body [.ExceptHandler (some (.Name x np)) (some n) (b0 :: suite) hpos] [] [] pos) (tTry X.K R i tb th) := by
  intro pins s σ H D I h
  refine wpAny_Try_except (thn (hb pins s σ H D _ _ I ?pass h) fun f s1 q => ?_)
  case pass =>
    intro H1 s1 e s' I1 hx
    obtain ⟨a, C, t, H', B, rfl, O, fl, C', eC, hsub, q⟩ := hx
    cases eC
    rw [hst] at fl
    refine wpAny_looks_onW (by rw [← hst]; exact I1.ok.frames) hfr fl fun h₄ held up4 => ?_
    refine wpAny_landsW held fun h₅ fl5 up5 => ?_
    have I5 := O.inv I1 fl5.1 (up4.trans up5)
    have ex5 : isExc a C h₅ := by obtain ⟨oe, vs, he, hc, hd, _⟩ := fl5.first; exact ⟨oe, vs, he, hc, hd⟩
    refine wpAny_handleBy_cons (codeAny_handlers_test (ld_glob (X := X.held (.ref a)) (I5.held (.ref a)) hg hm ?_ hdb)) (by intro q; cases q)
    refine excMatches_own I5.kIn ex5 hR hsub ?_
    rw [if_pos rfl]
    refine codeAny_handlers_suite_as (lands_againW fl5 fun h₆ fl6 up6 => ?_)
    have I6 := O.inv I1 fl6.1 ((up4.trans up5).trans up6)
    have ex6 : isExc a C h₆ := by obtain ⟨oe, vs, he, hc, hd, _⟩ := fl6.first; exact ⟨oe, vs, he, hc, hd⟩
    have nB : B.get? a = none := fl6.2.1
    have hn : H' a = none := by
      cases z : H' a with
      | none => rfl
      | some u => obtain ⟨v, hv⟩ := O.trk a u z; rw [nB] at hv; cases hv
    have nst : ∀ b, s1.heap.get? b ≠ none → b ∉ frs X.stack → b ≠ a := fun b h1 h2 z => by
      subst z
      cases z : s1.heap.get? b with
      | none => exact h1 z
      | some u => obtain ⟨v, hv⟩ := O.old b u z h2; rw [nB] at hv; cases hv
    have nfr : a ∉ frs X.stack := fun z => by
      rw [hst] at z
      obtain ⟨_, o1, e1, nf⟩ := fl6.2.2.1.mem z
      obtain ⟨o2, vs, e2, _, hd⟩ := ex6
      rw [e1] at e2; cases e2; exact nf vs hd
    have J := I6.track (a := a) (o := excO a C) hn ?h0 ?hL ?hC ?hP ?new
    case h0 =>
      cases z : X.s₀.heap.get? a with
      | none => rfl
      | some u =>
        obtain ⟨o1, q1⟩ := I1.base.there a u z (by rw [hex]; simp)
        exact absurd rfl (nst a (by rw [q1]; simp) nfr)
    case hL =>
      intro z
      obtain ⟨m, ⟨oL, es, ep, hoL, hd, _⟩, _⟩ := I6.loc
      obtain ⟨o2, vs, e2, _, hd2⟩ := ex6
      rw [← z] at hoL
      have e3 : some o2 = some oL := e2.symm.trans hoL
      cases e3; rw [hd] at hd2; cases hd2
    case hC =>
      intro y c e z
      obtain ⟨v, o3, e3, hd⟩ := I6.cell y c e
      obtain ⟨o2, vs, e2, _, hd2⟩ := ex6
      rw [z] at e3
      have e4 : some o2 = some o3 := e2.symm.trans e3
      cases e4; rw [hd] at hd2; cases hd2
    case hP =>
      intro p hp
      obtain ⟨q1, _, q3, q4, _⟩ := I1.pin p hp
      exact nst p.1 (by rw [q1]; simp) fun z => (List.mem_cons.mp (I1.stkSub _ z)).elim q3 q4
    case new => exact ⟨ex6, (let ⟨o, _, e, _⟩ := ex6; ⟨o, e⟩), fun h1 h2 ⟨o, vs, e, c⟩ k => ⟨o, vs, k o e, c⟩⟩
    refine store_ok J hN hi (.inl hl) (v := .ref a) rfl (fun s7 I7 => ?_) (.inr hl)
    refine wpAny_mono (hs a pins s7 _ _ (goneAt D i) ((I7.held (.ref a)).wish _) (q a hn)) (fun f s8 q8 => ?_) fun _ _ z => z.elim
    exact SP.gone I.ok hN hi hl q8
  · cases f with
    | next => exact wpAny_execs_nil q
    | ret v => exact q
    | brk => exact q
    | cont => exact q
end
end L2

end
section
set_option Elab.async false
set_option linter.all false
set_option maxRecDepth 100000
set_option maxHeartbeats 2000000
namespace L2
open PySem PySem.Spec PyProof.Rows Builtin Builtin.ObjectAttr Builtin.Getset_descriptor
/-! ### isinstance(e, C), e an exception of an own class -/
structure ExcK (K : PySem.W.Frag) (C : Addr) : Prop where
  ga : PySem.W.findIn K (.ref C) "__getattribute__" = some (some (.builtin "BaseException.__getattribute__"))
  gn : PySem.W.findIn K (.ref C) "__getattr__" = some none
  cl : PySem.W.findIn K (.ref C) "__class__" = some (some (.builtin "object.__class__"))
  sg : PySem.W.specialIn K (.builtin "object.__class__") "__get__" = some (some (.builtin "getset_descriptor.__get__"))
  tk : PySem.W.takesIn K (.builtin "object.__class__") = some true
  mo : PySem.W.mroIn K C (.type "object") = some true
  mb : PySem.W.mroIn K C (.type "BaseException") = some true
section
variable {K : PySem.W.Frag} {a C : Addr}
theorem isExc.ty {M : Model} {h : Heap} (p : isExc a C h) : PySem.W.Looks M h (typeOf (.ref a)) (.ref C) := by
  obtain ⟨o, vs, h1, h2, _⟩ := p
  exact h2 ▸ (PySem.W.Looks.ld h1).andThen .now
theorem ExcK.cls (F : ExcK K C) : ∃ c d cd sl, K.lookup C = some ⟨c, d, .cls cd, sl⟩ := by
  have e := F.mo
  unfold PySem.W.mroIn at e
  obtain ⟨cd, h, _⟩ := Option.bind_eq_some_iff.mp e
  unfold PySem.W.clsIn at h
  split at h
  · rename_i lk; exact ⟨_, _, _, _, lk⟩
  · cases h
theorem exc_get {prog : Program} {w : World} {A : Around} {R : Result → Shared → Prop} {s : Shared} {tp : Value} (L0 : PySem.W.Looks (model prog w) s.heap (typeOf (.ref a)) (.ref C))
    (L1 : PySem.W.Looks (model prog w) s.heap (isSubtype (.ref C) (.type "object")) true) (h : R (.ok (.ret (.ref C))) s) :
    codeAny (model prog w) A (.call (.builtin "getset_descriptor.__get__") ⟨[.builtin "object.__class__", .ref a, tp], []⟩) R s := by
  obtain ⟨h0, g0, d0, t0, o0⟩ := s
  refine codeAny_call_builtin PySem.W.KF.slot_gs.plain PySem.W.KF.entry_gs
    (PySem.W.KF.slot_gs.check _ _ _ _ _ _ _ _ PySem.W.KF.type_class (PySem.W.KF.args_gs _ _ _) ?_)
  unfold Builtin.«getset_descriptor.__get__»; unfold descrGet
  rw [PySem.W.dga_obj]; refine wpAny_bind (wpAny_pure ?_)
  unfold descrGetter; unfold descrCheckInstance descrNameAndClass; unfold isInstance
  simp only [PySem.W.KF.owner_class]; repeat lk
  refine ⟨Code.quiet_builtin _ (by decide +kernel),
    codeAny_builtin PySem.W.KF.entry_class ?_⟩
  unfold Builtin.«object.__class__»; unfold shownTypeOf; repeat lk
  exact h
theorem exc_check {M : Model} {A : Around} {E : Value → Shared → Prop} {s : Shared} {nv : Value} {Q : Unit → Shared → Prop} (L0 : PySem.W.Looks M s.heap (typeOf (.ref a)) (.ref C))
    (L1 : PySem.W.Looks M s.heap (isSubtype (.ref C) (.type "BaseException")) true) (h : Q () s) : wpAny M A (checkBuiltinCall "BaseException.__getattribute__" ⟨[.ref a, nv], []⟩) Q E s := by
  have kd : builtinKind "BaseException.__getattribute__" = some .slot := by decide +kernel
  have sp : splitId "BaseException.__getattribute__" = some ("BaseException", "__getattribute__") := by decide +kernel
  have ao := PySem.F.args_bexc_ga (.ref a) nv
  have LI : PySem.W.Looks M s.heap (isInstance (.ref a) (.type "BaseException")) true := L0.andThen L1
  simp only [checkBuiltinCall, kd, sp]
  refine wpAny_bind (LI.at ?_)
  obtain ⟨h0, g0, d0, t0, o0⟩ := s
  repeat wp_step
  exact h
theorem exc_class {prog : Program} {w : World} {A : Around} {E : Value → Shared → Prop} {Q : Option Value → Shared → Prop} {s : Shared} (F : ExcK K C) (X : K.In s.heap) (p : isExc a C s.heap) (h : Q (some (.ref C)) { s with toks := s.toks + 1 }) :
    wpAny (model prog w) A (getAttr? (.ref a) "__class__") Q E s := by
  obtain ⟨hp, g, d, t, os⟩ := s
  have L0 := p.ty (M := model prog w)
  have L1 := PySem.W.looks_findIn (M := model prog w) X F.ga
  have L2 := PySem.W.looks_findIn (M := model prog w) X F.gn
  have L3 := PySem.W.looks_findIn (M := model prog w) X F.cl
  have L4 := PySem.W.looks_specialIn (M := model prog w) X F.sg
  have L5 := PySem.W.looks_takesIn (M := model prog w) X F.tk
  have L6 := PySem.W.looks_mroIn (M := model prog w) X F.mo
  have L7 := PySem.W.looks_mroIn (M := model prog w) X F.mb
  have hG := PySem.F.excAttr_ValueError.ga
  have LF : PySem.W.Looks (model prog w) hp (Builtin.ObjectAttr.find (.ref a) (.ref C) "__class__") (.bind (.builtin "getset_descriptor.__get__") (.builtin "object.__class__")) :=
    L3.andThen (L4.andThen ((show PySem.W.Looks (model prog w) hp (Builtin.ObjectAttr.dataDescriptor? (some (.builtin "object.__class__")) (some (.builtin "getset_descriptor.__get__"))) _ from L5.andThen .now).andThen (PySem.W.Looks.tag .now)))
  unfold getAttr? getAttrBy? getAttrBy
  refine wpAny_bind (wpAny_mkText (wpAny_bind (wpAny_attempt (wpAny_holding (wpAny_bind (L0.at (wpAny_bind (L1.at ?_))))))))
  simp only [show (onTheHeap (Value.ref C) && (Value.builtin "BaseException.__getattribute__" == Value.builtin "object.__getattribute__")) = false by rfl]
  rw [if_neg (by decide)]
  unfold getAttrByItsOwn hookBefore
  rw [if_pos (show onTheHeap (Value.ref C) = true by rfl)]
  refine wpAny_bind (L2.at (wpAny_bind (wpAny_attempt (wpAny_holding ?_))))
  unfold callGetattribute
  simp only [Bool.false_and]
  rw [if_neg (by decide)]
  unfold boundAndCalled
  refine wpAny_bind (wpAny_of_eq (hG.bind (.ref a)) ?_)
  refine wpAny_call (codeAny_call_builtin hG.plain PySem.F.entry_bexc_ga (exc_check L0 L7 ?_))
  unfold Builtin.«object.__getattribute__»
  refine wpAny_bind (wpAny_pure ?_)
  dsimp only
  refine wpAny_bind (wpAny_pure (wpAny_bind (L0.at (wpAny_bind (LF.at ?_)))))
  dsimp only
  unfold bindTo
  dsimp only
  refine wpAny_bind (wpAny_holding (wpAny_call (exc_get L0 L6 ?_)))
  exact wpAny_pure (wpAny_pure (wpAny_pure h))
theorem kitx_exc (F : ExcK K C) : PySem.W.KitX K (.ref a) (.ref C) (isExc a C) where
  ty := fun _ _ _ p => p.ty
  it := fun _ _ X _ => by
    obtain ⟨c, d, cd, sl, lk⟩ := F.cls
    intro A' Q' E' s' k q
    unfold isType loadHead
    exact wpAny_bind (wpAny_loadPart (k _ _ (X _ _ lk)) (wpAny_pure q))
  ne := fun h tp dd its n sl X htp => by
    obtain ⟨c, d, cd, sl', lk⟩ := F.cls
    refine Bool.eq_false_iff.mpr fun q => ?_
    have e : C = tp := Value.ref.inj (beq_iff_eq.mp q)
    subst e
    have z := (X _ _ lk).symm.trans htp
    cases z
  ca := fun X p k => exc_class F X p k
end
/-- isinstance(e, R) of a caught exception e -/
def rIsiX (K : PySem.W.Frag) : List V → Hp → VK → Prop := fun vs H Q => match vs with
  | [.ref a, .ref R] => ∃ C b, H a = some (excO a C) ∧ ExcK K C ∧ PySem.W.kitOne K (.ref C) (.ref R) = some b ∧ Q (.bl b) H
  | [.ref a, .ty T] => ∃ C b, H a = some (excO a C) ∧ ExcK K C ∧ PySem.W.kitOne K (.ref C) (.type T) = some b ∧ Q (.bl b) H
  | _ => False
theorem call_isiX {X : Cx} : CallR X (.builtin "isinstance") (rIsiX X.K) := by
  intro pins s σ H xs us Q I rv h
  have go : ∀ (a C : Addr) (c : Value) (b : Bool), H a = some (excO a C) → ExcK X.K C → PySem.W.kitOne X.K (.ref C) c = some b → Q (.bl b) H → wpAny (model X.prog X.w) X.A (call (.builtin "isinstance") [.ref a, c]) (EP X pins σ Q) X.xe s := fun a C c b ha F e q => by
    have hx : isExc a C s.heap := (I.hok a _ ha).1
    exact PySem.W.kia_one (kitx_exc F) I.kIn hx e (fun z => nomatch z) fun tk => ⟨.bl b, H, I.tok tk, rfl, q⟩
  unfold rIsiX at h
  split at h
  · obtain ⟨C, b, ha, F, e, q⟩ := h
    obtain ⟨u, w', rfl, r1, r2⟩ := vals2 rv
    cases r1; cases r2
    exact go _ C _ b ha F e q
  · obtain ⟨C, b, ha, F, e, q⟩ := h
    obtain ⟨u, w', rfl, r1, r2⟩ := vals2 rv
    cases r1; cases r2
    exact go _ C _ b ha F e q
  · exact h.elim
end L2

end
section
set_option Elab.async false
set_option linter.all false
set_option maxRecDepth 100000
namespace L2
open PySem PySem.Spec PyProof.Rows
/-! ### lines: what they write -/
def isBit (c : Nat) : Bool := c == 48 || c == 49
theorem cnt_bits : ∀ (l : List Nat), cnt 48 l + cnt 49 l ≤ l.length ∧ ((cnt 48 l + cnt 49 l = (l.length : Int)) ↔ l.all isBit = true)
  | [] => by simp [cnt_nil]
  | c :: l => by
    obtain ⟨h1, h2⟩ := cnt_bits l
    have hb : isBit c = true ↔ (c = 48 ∨ c = 49) := by unfold isBit; rw [Bool.or_eq_true, beq_iff_eq, beq_iff_eq]
    rw [cnt_cons, cnt_cons, List.all_cons, Bool.and_eq_true, List.length_cons, hb]
    by_cases e0 : c = 48
    · subst e0
      rw [if_pos rfl, if_neg (by decide)]
      refine ⟨by omega, ?_⟩
      rw [← h2]
      constructor
      · intro h; exact ⟨.inl rfl, by omega⟩
      · intro h; omega
    · by_cases e1 : c = 49
      · subst e1
        rw [if_neg (by decide), if_pos rfl]
        refine ⟨by omega, ?_⟩
        rw [← h2]
        constructor
        · intro h; exact ⟨.inr rfl, by omega⟩
        · intro h; omega
      · rw [if_neg e0, if_neg e1]
        refine ⟨by omega, ⟨fun h => by omega, fun h => ?_⟩⟩
        rcases h.1 with z | z
        · exact absurd z e0
        · exact absurd z e1
end L2

end
section
set_option Elab.async false
set_option linter.all false
set_option maxRecDepth 100000
namespace L2
open PySem PySem.Spec PyProof.Rows
end L2

end
section
set_option Elab.async false
set_option linter.all false
set_option maxRecDepth 100000
set_option maxHeartbeats 4000000
namespace L2
open PySem PySem.Spec PyProof.Rows
local macro_rules | `(tactic| walk_at "rd") => `(tactic| try simp only [tVar, tC, tOp, tUn, tSeq, tAsg, gName, tRet, tRetN, tIfS, tDrop, tNext, tCons, tNil, tCall, tCB, tTest, tB, tAnd, tOr, tNot, tAndV, tOrV, tNotV, tIf, tTup, tLst, tSl, tPart, tNoPart, tBM, tBM0, L2.start, rI2, rI3, rAddA, rMulA, rSubI, rDivI, rModI, rPowI, rNegI, rLt, rLe, rGt, rGe, rIsN, rNotN, rEqS, rNeS, rLen, rIxA, rIntA, rMax2, rMin2, rStrI, rListOf, rIsi2, isiF, isiO, rSlA, rStarts2, rEnds2, CDiv,
  List.map_cons, List.map_nil, List.length_cons, List.length_nil, List.replicate_succ, List.replicate_zero, List.cons_append, List.nil_append, List.append_nil, List.getElem?_cons_zero, List.getElem?_cons_succ, List.set_cons_zero, List.set_cons_succ, Option.some.injEq, V.int.injEq, V.str.injEq, V.bl.injEq, V.ref.injEq, V.ty.injEq, reduceCtorEq, exists_eq_left', exists_eq_left, exists_eq_right, exists_eq_right', exists_eq', exists_eq, exists_and_left, exists_and_right, false_and, and_false, true_and, and_true, exists_const, exists_false, false_or, or_false, List.cons.injEq, and_assoc, decide_eq_true_eq, decide_true, decide_false, Int.reduceLT, Int.reduceLE, Nat.reduceLT, Nat.reduceLeDiff, Nat.reduceSub, Nat.reduceAdd, Nat.sub_self, Nat.sub_zero, enc_eq, enc_nil, enc_0, enc_1, enc_01, enc_append, enc_len, Bool.not_true, Bool.not_false, Bool.false_eq_true, if_true, if_false, ↓reduceIte, String.reduceEq, or_true, true_or, Nat.one_mul, addr_len, bitsBy_len, List.length_append, List.length_replicate, List.length_map])
local macro_rules | `(tactic| walk_at "sz") => `(tactic| (have hline := line_ge; first | omega | (simp; omega)))
def rd_is_head (K : PySem.W.Frag) : TS :=
  (tRet (tAndV (tOp rLe (tCB (rLen K) (tCons (tVar 0) tNil)) (tVar 1)) (tOp rEqS (tOp rAddA (tBM K "str" rCount (tVar 0) (tCons (tC (.str (Str.ofString "0"))) tNil)) (tBM K "str" rCount (tVar 0) (tCons (tC (.str (Str.ofString "1"))) tNil))) (tCB (rLen K) (tCons (tVar 0) tNil)))))
def nm_is_head : List Str := ["text", "size"]
def sp_is_head (K : PySem.W.Frag) : Sp := fun vs H Q _ => ∃ (z : Str) (n : Int), vs = [.str z, .int n] ∧ z.length ≤ 1000 ∧ Q (.bl (decide ((z.length : Int) ≤ n) && z.cps.toList.all isBit)) H
theorem len_is_head {K vs H Q E} (h : sp_is_head K vs H Q E) : vs.length = 2 := by obtain ⟨_, _, rfl, _⟩ := h; rfl
theorem rdok_is_head {K vs H Q E} (h : sp_is_head K vs H Q E) : rd_is_head K { nx := fun _ H' => Q .non H', rt := Q } (start nm_is_head vs) H := by
  obtain ⟨z, n, rfl, hz, q⟩ := h
  simp only [rd_is_head, nm_is_head, L2.start]
  walk_at "rd"
  refine ⟨by walk_at "sz", ?_⟩
  have e0 : enc [false] = ⟨#[48]⟩ := rfl
  have e1 : enc [true] = ⟨#[49]⟩ := rfl
  have el : z.length = z.cps.toList.length := by simp [Str.length]
  split
  · rename_i h
    refine ⟨rfl, ?_⟩
    show tyV K "str" (.str z) H ∧ _
    refine ⟨rfl, ?_⟩
    rw [decide_eq_true h, Bool.true_and] at q
    refine ⟨by walk_at "sz", ?_⟩
    rw [e0, e1, count_cnt, count_cnt, el]
    have e2 : decide (cnt 48 z.cps.toList + cnt 49 z.cps.toList = (z.cps.toList.length : Int)) = z.cps.toList.all isBit := Bool.eq_iff_iff.mpr (by rw [decide_eq_true_iff]; exact (cnt_bits z.cps.toList).2)
    rw [e2]
    exact q
  · rename_i h
    rw [decide_eq_false h, Bool.false_and] at q
    exact q
/-! ### a row shown -/
end L2

end
section
set_option Elab.async false
set_option linter.all false
set_option maxRecDepth 100000
set_option maxHeartbeats 4000000
namespace L2
open PySem PySem.Spec PyProof.Rows
/-! ### methods of an own class -/
structure OwnM (P : Program) (w : World) (K : PySem.W.Frag) (mg : Str → Option Value) (base : Heap) (CX : CXT) (k : Nat) (C : Addr) (m : Str) (ps : List Str) (sp : Sp) : Prop where
  ex : ∃ f fd, Meth K C m f ∧ FnOk P w K mg base CX k f fd ps sp ∧ Binds K fd ps []
theorem OwnM.mk' {P : Program} {w : World} {K : PySem.W.Frag} {mg : Str → Option Value} {base : Heap} {CX : CXT} {k : Nat} {C : Addr} {m : Str} {ps : List Str} {sp : Sp} {f : Addr} {fd : FuncData} (M : Meth K C m f) (G : FnOk P w K mg base CX k f fd ps sp) (hb : Binds K fd ps []) : OwnM P w K mg base CX k C m ps sp := ⟨f, fd, M, G, hb⟩
/-- the class, made with __init__ -/
structure OwnC (P : Program) (w : World) (K : PySem.W.Frag) (mg : Str → Option Value) (base : Heap) (k : Nat) (x : Str) (C : Addr) (ps : List Str) (sp : Sp) : Prop where
  ex : ∃ f fd, Mk K C f ∧ FnOk P w K mg base CX0 k f fd ps sp ∧ mg x = some (.ref C) ∧ Binds K fd ps []
theorem OwnC.mk' {P : Program} {w : World} {K : PySem.W.Frag} {mg : Str → Option Value} {base : Heap} {k : Nat} {x : Str} {C : Addr} {ps : List Str} {sp : Sp} {f : Addr} {fd : FuncData} (M : Mk K C f) (G : FnOk P w K mg base CX0 k f fd ps sp) (hm : mg x = some (.ref C)) (hb : Binds K fd ps []) : OwnC P w K mg base k x C ps sp := ⟨f, fd, M, G, hm, hb⟩
section
variable {X : Cx} {CX : CXT} {k : Nat} {x m : Str} {C : Addr} {ps : List Str} {sp : Sp} {p pos apos : Pos} {o e : Expr} {es : List Expr} {ta : TE} {t : TA} {E : XK} {pl : Sem Bool}
theorem pe_ownM (F : OwnM X.prog X.w X.K X.mg X.base CX k C m ps sp) (c : Cls X.K C) (hr : Room k X.A) (hx : Passes CX X E) (he : PE X o ta) (ha : PA X (e :: es) t)
    (hst : starEach (e :: es) X.env = (false, eval e X.env) :: starEach es X.env := by rfl) (hpl : (backTo pos (starEach es X.env)).any (·.1) = false := by rfl)
    (ht : eval (.Call (.Attribute o m apos) (e :: es) [] pos) X.env = (do
      let ov ← eval o X.env
      standAt apos.atName
      let (f, first) ← holding [ov] (getMethod ov m pl)
      callWith pos f first (backTo pos (starEach (e :: es) X.env)) (backToKw pos (keywordEach [] X.env))) := by rfl) : PE X (.Call (.Attribute o m apos) (e :: es) [] pos) (tMeth C m sp [] E ta t) := by
  obtain ⟨f, fd, M, G, hb⟩ := F.ex
  exact pe_meth (pl := pl) he c M G hr hb .nil hx ha hst hpl ht
theorem pe_ownM0 (F : OwnM X.prog X.w X.K X.mg X.base CX k C m ps sp) (c : Cls X.K C) (hr : Room k X.A) (hx : Passes CX X E) (he : PE X o ta)
    (ht : eval (.Call (.Attribute o m apos) [] [] pos) X.env = (do
      let ov ← eval o X.env
      standAt apos.atName
      let (f, first) ← holding [ov] (getMethod ov m pl)
      callWith pos f first (backTo pos (starEach [] X.env)) (backToKw pos (keywordEach [] X.env))) := by rfl) : PE X (.Call (.Attribute o m apos) [] [] pos) (tMeth C m sp [] E ta tNil) := by
  obtain ⟨f, fd, M, G, hb⟩ := F.ex
  exact pe_meth0 (pl := pl) he c M G hr hb .nil hx ht
theorem pe_ownC (F : OwnC X.prog X.w X.K X.mg X.base k x C ps sp) (hr : Room (k + 1) X.A) (ha : PA X (e :: es) t) (hg : Gl X x := by rfl)
    (hdb : (x == ("__debug__" : Str)) = false := by decide) (he : starEach (e :: es) X.env = (false, eval e X.env) :: starEach es X.env := by rfl) (hpl : (backTo pos (starEach es X.env)).any (·.1) = false := by rfl) :
    PE X (.Call (.Name x p) (e :: es) [] pos) (tMake C sp [] E0 t) := by
  obtain ⟨f, fd, M, G, hm, hb⟩ := F.ex
  exact pe_make M G hr hg hm hb .nil pass0 ha hdb he hpl
/-- a method's call in the body of a try -/
theorem px_ownM (F : OwnM X.prog X.w X.K X.mg X.base (CX1 X.prog X.w) k C m ps sp) (c : Cls X.K C) (hr : Room k X.A) (ho : PE X.nox o ta) (ha : PA X.nox (e :: es) t)
    (hst : starEach (e :: es) X.env = (false, eval e X.env) :: starEach es X.env := by rfl) (hpl : (backTo pos (starEach es X.env)).any (·.1) = false := by rfl)
    (ht : eval (.Call (.Attribute o m apos) (e :: es) [] pos) X.env = (do
      let ov ← eval o X.env
      standAt apos.atName
      let (f, first) ← holding [ov] (getMethod ov m pl)
      callWith pos f first (backTo pos (starEach (e :: es) X.env)) (backToKw pos (keywordEach [] X.env))) := by rfl) : PXE X (.Call (.Attribute o m apos) (e :: es) [] pos) (fun E => tMeth C m sp [] E ta t) := by
  intro pins s σ H Q E xe I hp h
  obtain ⟨f, fd, M, G, hb⟩ := F.ex
  refine PySem.W.methodCall_KW (pl := pl) (wpAny_mono (ho pins s σ H _ (I.wish _) h) (fun u s1 ⟨x, H1, I1, rx, a, dx, fs, ex, ea, l, q⟩ => ?_) fun _ _ z => z.elim) ht
  subst ex
  obtain rfl : u = Value.ref a := rx
  have I1' : Inv X pins σ H1 s1 := I1.unwish
  refine getmeth_ok I1' ea c M l ?_
  refine PySem.W.callWith_K (first := [.ref a]) (h₀ := X.base) I.ok.mod.kin M.kp (wpAny_mono (ha pos pins s1 σ H1 _ I1 q) (fun us s2 ⟨vs, H2, I2, r, q2⟩ => ⟨I2.kIn, ?_⟩) fun _ _ z => z.elim) hst hpl
  have I2' : Inv X pins σ H2 s2 := I2.unwish
  have hl : (Value.ref a :: us).length = ps.length := by
    have h1 := G.len _ _ _ _ q2
    have h2 := r.length
    simp only [List.length_cons, List.append_nil] at h1 ⊢
    omega
  refine wpAny_call (codeAny_mono (G.run X.A X.stack s2 H2 ⟨.ref a :: us, []⟩ (.ref a :: us) (.ref a :: vs) Q E hr I2'.env0 (by have := hb s2 (.ref a :: us) I2'.kIn (by simpa using hl); simpa using this) (.cons rfl r) (by simpa using q2)) fun res s' hq => ?_)
  cases res with
  | error er => exact hp H2 s2 er s' I2' hq
  | ok fl =>
    cases fl with
    | ret u => exact I2'.after hq
    | next => exact False.elim hq
    | brk => exact False.elim hq
    | cont => exact False.elim hq
/-- o.f, o of the class C -/
def tFldC (C : Addr) (ta : TE) (f : Str) : TE := fun σ H Q => ta σ H fun x H1 => ∃ a dx fs v, x = .ref a ∧ H1 a = some (.ins C dx fs) ∧ fs.lookup f = some v ∧ Q v H1
def sFldC (C : Addr) (ta tv : TE) (f : Str) : TS := fun D σ H => tv σ H fun y H1 => ta σ H1 fun x H2 => ∃ a dx fs, x = .ref a ∧ H2 a = some (.ins C dx fs) ∧ fs.length < 1000 ∧ D.nx σ (upd H2 a (.ins C dx (putF f y fs)))
theorem pe_fldC {f : Str} (c : Cls X.K C) (n : NoAttr X.K C f) (he : PE X e ta) (hb : attributeBase e f X.env (eval e X.env) = eval e X.env := by rfl) : PE X (.Attribute e f pos) (tFldC C ta f) := by
  intro pins s σ H Q I h
  refine attr_of hb (thn (he pins s σ H _ I h) fun u s1 ⟨x, H1, I1, rx, a, dx, fs, v, ex, ea, l, q⟩ => ?_)
  subst ex
  obtain rfl : u = Value.ref a := rx
  exact getattr_ok I1 ea c n l fun u' s2 I2 ru => ⟨v, H1, I2, ru, q⟩
theorem ps_fldC {f : Str} {value : Expr} {tv : TE} {pos' : Pos} (c : Cls X.K C) (n : NoAttr X.K C f) (ha : PE X o ta) (hv : PE X value tv) (hs : swapsWith value (some (.Attribute o f pos')) pos.line X.env = pure false := by rfl) : PS X (.Assign [.Attribute o f pos'] value pos) (sFldC C ta tv f) := by
  intro pins s σ H D I h
  refine plainObj_wpAny_Assign_Attribute (thn (hv pins s σ H _ I h) fun u s1 ⟨y, H1, I1, ry, q⟩ => thn (ha pins s1 σ H1 _ I1 q) fun ov s2 ⟨x, H2, I2, rx, a, dx, fs, ex, ea, l, q2⟩ => ?_) hs
  subst ex
  obtain rfl : ov = Value.ref a := rx
  exact setattr_ok I2 ea c n l ry fun s3 I3 => ⟨σ, _, I3, q2⟩
/-- len(d) -/
def rLenK : List V → Hp → VK → Prop := fun vs H Q => match vs with
  | [.ref a] => ∃ kvs, Rd H a (.dK kvs) ∧ Q (.int kvs.length) H
  | _ => False
theorem call_lenK : CallR X (.builtin "len") rLenK := by
  intro pins s σ H xs us Q I rv h
  unfold rLenK at h
  split at h
  · obtain ⟨kvs, e, q⟩ := h
    obtain ⟨u, rfl, ru⟩ := vals1 rv
    cases ru
    exact d_len I e fun t s' I' => ⟨.int _, H, I', ⟨t, rfl⟩, q⟩
  · exact h.elim
end
end L2

end
section
set_option Elab.async false
set_option linter.all false
set_option maxRecDepth 100000
namespace L2
/-! ### the addresses of k signs that a head begins: the first one's number, how many -/
def lo (k : Nat) (h : List Bool) : Int := val h * 2 ^ (k - h.length)
end L2

end
section
set_option Elab.async false
set_option linter.all false
set_option maxRecDepth 100000
namespace L2
/-! ### a head begins an address: by numbers -/
end L2

end
section
set_option Elab.async false
set_option linter.all false
namespace L2
open PySem
/-! ### the longest head, and one table laid over another -/
def Leads (rs : List Row) (a : List Bool) : Option Row → Prop
  | none => ∀ r ∈ rs, r.1.isPrefixOf a = false
  | some r => r ∈ rs ∧ r.1.isPrefixOf a = true ∧ ∀ q ∈ rs, q.1.isPrefixOf a = true → q.1.length ≤ r.1.length
theorem leads_step {pre : List Row} {a : List Bool} {acc : Option Row} (r : Row) (h : Leads pre a acc) : Leads (pre ++ [r]) a (leadStep a acc r) := by
  unfold leadStep
  cases hp : r.1.isPrefixOf a with
  | false =>
    rw [Bool.false_and, if_neg Bool.false_ne_true]
    cases acc with
    | none =>
      intro q hq
      rcases List.mem_append.mp hq with hq | hq
      · exact h q hq
      · rw [List.mem_singleton.mp hq]; exact hp
    | some z =>
      obtain ⟨h1, h2, h3⟩ := h
      refine ⟨List.mem_append_left _ h1, h2, fun q hq e => ?_⟩
      rcases List.mem_append.mp hq with hq | hq
      · exact h3 q hq e
      · rw [List.mem_singleton.mp hq, hp] at e; cases e
  | true =>
    rw [Bool.true_and]
    cases acc with
    | none =>
      dsimp only
      rw [if_pos rfl]
      refine ⟨List.mem_append_right _ (List.mem_singleton.mpr rfl), hp, fun q hq e => ?_⟩
      rcases List.mem_append.mp hq with hq | hq
      · rw [h q hq] at e; cases e
      · rw [List.mem_singleton.mp hq]; exact Nat.le_refl _
    | some z =>
      obtain ⟨h1, h2, h3⟩ := h
      dsimp only
      by_cases hl : z.1.length < r.1.length
      · rw [if_pos (decide_eq_true hl)]
        refine ⟨List.mem_append_right _ (List.mem_singleton.mpr rfl), hp, fun q hq e => ?_⟩
        rcases List.mem_append.mp hq with hq | hq
        · have := h3 q hq e; omega
        · rw [List.mem_singleton.mp hq]; exact Nat.le_refl _
      · rw [if_neg (by simp [hl])]
        refine ⟨List.mem_append_left _ h1, h2, fun q hq e => ?_⟩
        rcases List.mem_append.mp hq with hq | hq
        · exact h3 q hq e
        · rw [List.mem_singleton.mp hq]; omega
theorem leads_fold (a : List Bool) : ∀ (l pre : List Row) (acc : Option Row), Leads pre a acc → Leads (pre ++ l) a (l.foldl (leadStep a) acc)
  | [], pre, acc, h => by rw [List.append_nil]; exact h
  | r :: l, pre, acc, h => by
    have := leads_fold a l (pre ++ [r]) (leadStep a acc r) (leads_step r h)
    rw [List.append_assoc] at this
    exact this
theorem lead_leads (rs : List Row) (a : List Bool) : Leads rs a (lead rs a) := leads_fold a rs [] none (fun r hr => by cases hr)
theorem heads_row : ∀ {rs : List Row} {a b : Row}, (rs.map (·.1)).Nodup → a ∈ rs → b ∈ rs → a.1 = b.1 → a = b
  | [], _, _, _, h, _, _ => by cases h
  | r :: rs, a, b, hn, ha, hb, e => by
    rw [List.map_cons, List.nodup_cons] at hn
    rcases List.mem_cons.mp ha with rfl | ha'
    · rcases List.mem_cons.mp hb with rfl | hb
      · rfl
      · exact absurd (List.mem_map.mpr ⟨b, hb, e.symm⟩) hn.1
    · rcases List.mem_cons.mp hb with rfl | hb
      · exact absurd (List.mem_map.mpr ⟨a, ha', e⟩) hn.1
      · exact heads_row hn.2 ha' hb e
theorem pre_pre {x y a : List Bool} (hx : x.isPrefixOf a = true) (hy : y.isPrefixOf a = true) (h : x.length ≤ y.length) : x.isPrefixOf y = true :=
  List.isPrefixOf_iff_prefix.mpr (List.prefix_of_prefix_length_le (List.isPrefixOf_iff_prefix.mp hx) (List.isPrefixOf_iff_prefix.mp hy) h)
theorem pre_eq {x y a : List Bool} (hx : x.isPrefixOf a = true) (hy : y.isPrefixOf a = true) (h : x.length = y.length) : x = y :=
  (List.isPrefixOf_iff_prefix.mp (pre_pre hx hy (Nat.le_of_eq h))).eq_of_length h
theorem Leads.unique {rs : List Row} {a : List Bool} {o o' : Option Row} (hn : (rs.map (·.1)).Nodup) (h : Leads rs a o) (h' : Leads rs a o') : o = o' := by
  cases o with
  | none =>
    cases o' with
    | none => rfl
    | some r => have := h r h'.1; rw [h'.2.1] at this; cases this
  | some q =>
    cases o' with
    | none => have := h' q h.1; rw [h.2.1] at this; cases this
    | some r =>
      obtain ⟨q1, q2, q3⟩ := h
      obtain ⟨r1, r2, r3⟩ := h'
      have e : q.1 = r.1 := pre_eq q2 r2 (Nat.le_antisymm (r3 q q1 q2) (q3 r r1 r2))
      rw [heads_row hn q1 r1 e]
theorem Leads.mem {rs ts : List Row} {a : List Bool} {o : Option Row} (h : Leads rs a o) (e : ∀ r, r ∈ rs ↔ r ∈ ts) : Leads ts a o := by
  cases o with
  | none => exact fun r hr => h r ((e r).mpr hr)
  | some r => exact ⟨(e r).mp h.1, h.2.1, fun q hq z => h.2.2 q ((e q).mpr hq) z⟩
theorem lead_perm {rs ts : List Row} (p : rs.Perm ts) (hn : (rs.map (·.1)).Nodup) (a : List Bool) : lead rs a = lead ts a :=
  Leads.unique hn (lead_leads rs a) ((lead_leads ts a).mem fun r => p.mem_iff.symm)
end L2

end
section
set_option Elab.async false
set_option linter.all false
set_option maxRecDepth 100000
set_option maxHeartbeats 4000000
namespace L2
open PySem PySem.Spec PyProof.Rows
local macro_rules | `(tactic| walk_at "rd") => `(tactic| try simp only [tVar, tC, tOp, tUn, tSeq, tAsg, gName, tRet, tRetN, tIfS, tDrop, tNext, tCons, tNil, tCall, tCB, tTest, tB, tAnd, tOr, tNot, tAndV, tOrV, tNotV, tIf, tTup, tLst, tSl, tPart, tNoPart, tBM, tBM0, L2.start, rI2, rI3, rAddA, rMulA, rSubI, rDivI, rModI, rPowI, rNegI, rLt, rLe, rGt, rGe, rIsN, rNotN, rEqS, rNeS, rLen, rIxA, rIntA, rMax2, rMin2, rStrI, rListOf, rIsi2, isiF, isiO, rSlA, rStarts2, rEnds2, CDiv,
  List.map_cons, List.map_nil, List.length_cons, List.length_nil, List.replicate_succ, List.replicate_zero, List.cons_append, List.nil_append, List.append_nil, List.getElem?_cons_zero, List.getElem?_cons_succ, List.set_cons_zero, List.set_cons_succ, Option.some.injEq, V.int.injEq, V.str.injEq, V.bl.injEq, V.ref.injEq, V.ty.injEq, reduceCtorEq, exists_eq_left', exists_eq_left, exists_eq_right, exists_eq_right', exists_eq', exists_eq, exists_and_left, exists_and_right, false_and, and_false, true_and, and_true, exists_const, exists_false, false_or, or_false, List.cons.injEq, and_assoc, decide_eq_true_eq, decide_true, decide_false, Int.reduceLT, Int.reduceLE, Nat.reduceLT, Nat.reduceLeDiff, Nat.reduceSub, Nat.reduceAdd, Nat.sub_self, Nat.sub_zero, enc_eq, enc_nil, enc_0, enc_1, enc_01, enc_append, enc_len, Bool.not_true, Bool.not_false, Bool.false_eq_true, if_true, if_false, ↓reduceIte, String.reduceEq, or_true, true_or, Nat.one_mul, addr_len, bitsBy_len, List.length_append, List.length_replicate, List.length_map])
local macro_rules | `(tactic| walk_at "sz") => `(tactic| (have hline := line_ge; first | omega | (simp; omega)))
local macro_rules | `(tactic| walk_at "rb") => `(tactic| (walk_at "rd"; (try simp only [tMeth, tMake, tFldC, sFldC, tDGet, tDPop1, sDPut, tDNewK, tRaise]); walk_at "rd"; (try simp only [tMeth, tMake, tFldC, sFldC, tDGet, tDPop1, sDPut, tDNewK, tRaise]); walk_at "rd"))
theorem SortR.ex (rs : List Row) : ∃ ss, SortR rs ss := by
  refine ⟨rs.mergeSort (fun a b => decide (¬ hcp b < hcp a)), List.mergeSort_perm _ _, ?_⟩
  have := List.pairwise_mergeSort (le := fun a b : Row => decide (¬ hcp b < hcp a)) (fun a b c h1 h2 => ?_) (fun a b => ?_) rs
  · exact this.imp fun h => by simpa using h
  · simp only [decide_eq_true_eq] at h1 h2 ⊢
    exact (List.le_trans (show hcp a ≤ hcp b from h1) (show hcp b ≤ hcp c from h2) : hcp a ≤ hcp c)
  · simp only [Bool.or_eq_true, decide_eq_true_eq]
    rcases List.le_total (hcp a) (hcp b) with h | h
    · exact .inl h
    · exact .inr h
/-! ### a board -/
def BoardIs (K : PySem.W.Frag) (H : Hp) (b d : Addr) (S : Int) : Prop := ∃ dx, H b = some (.ins (clsAt K "Board") dx [("size", .int S), ("ways", .ref d)])
theorem BoardIs.same {K : PySem.W.Frag} {H H' : Hp} {b d : Addr} {S : Int} (h : BoardIs K H b d S) (s : Same H H') : BoardIs K H' b d S := let ⟨dx, e⟩ := h; ⟨dx, s _ _ e⟩
def okH (z : Str) (n : Int) : Bool := decide ((z.length : Int) ≤ n) && z.cps.toList.all isBit
def okA (z : Str) (n : Int) : Bool := decide ((z.length : Int) = n) && z.cps.toList.all isBit
theorem enc_bits (h : List Bool) : (enc h).cps.toList.all isBit = true := by
  show (h.map sg).toArray.toList.all isBit = true
  rw [List.all_eq_true]
  intro x hx
  have hx : x ∈ h.map sg := hx
  obtain ⟨b, _, rfl⟩ := List.mem_map.mp hx
  cases b <;> rfl
theorem okH_enc {h : List Bool} {n : Int} (e : (h.length : Int) ≤ n) : okH (enc h) n = true := by unfold okH; rw [enc_bits, enc_len, decide_eq_true e]; rfl
theorem okA_enc {h : List Bool} {n : Int} (e : (h.length : Int) = n) : okA (enc h) n = true := by unfold okA; rw [enc_bits, enc_len, decide_eq_true e]; rfl
def rd_is_address (K : PySem.W.Frag) : TS :=
  (tRet (tAndV (tOp rEqS (tCB (rLen K) (tCons (tVar 0) tNil)) (tVar 1)) (tCall (sp_is_head K) [] E0 (tCons (tVar 0) (tCons (tVar 1) tNil)))))
def nm_is_address : List Str := ["text", "size"]
def sp_is_address (K : PySem.W.Frag) : Sp := fun vs H Q _ => ∃ (z : Str) (n : Int), vs = [.str z, .int n] ∧ z.length ≤ 1000 ∧ Q (.bl (okA z n)) H
theorem len_is_address {K vs H Q E} (h : sp_is_address K vs H Q E) : vs.length = 2 := by obtain ⟨_, _, rfl, _⟩ := h; rfl
theorem rdok_is_address {K vs H Q E} (h : sp_is_address K vs H Q E) : rd_is_address K { nx := fun _ H' => Q .non H', rt := Q } (start nm_is_address vs) H := by
  obtain ⟨z, n, rfl, hz, q⟩ := h
  simp only [rd_is_address, nm_is_address, L2.start]
  walk_at "rd"
  refine ⟨by walk_at "sz", ?_⟩
  unfold okA at q
  split
  · rename_i h
    refine ⟨z, n, rfl, hz, ?_⟩
    rw [decide_eq_true (show (z.length : Int) ≤ n by omega)]
    rw [decide_eq_true h] at q
    exact q
  · rename_i h
    rw [decide_eq_false h, Bool.false_and] at q
    exact q
def rd_Board_init (K : PySem.W.Frag) : TS :=
  (tSeq (sFldC (clsAt K "Board") (tVar 0) (tVar 1) "size")
  (sFldC (clsAt K "Board") (tVar 0) tDNewK "ways"))
def nm_Board_init : List Str := ["self", "size"]
def sp_Board_init (K : PySem.W.Frag) : Sp := fun vs H Q _ => ∃ (b dx : Addr) (S : Int), vs = [.ref b, .int S] ∧ H b = some (.ins (clsAt K "Board") dx []) ∧ ∀ d H', (∀ a o, a ≠ b → H a = some o → H' a = some o) → H d = none → BoardIs K H' b d S → H' d = some (.dK []) → Q .non H'
theorem len_Board_init {K vs H Q E} (h : sp_Board_init K vs H Q E) : vs.length = 2 := by obtain ⟨_, _, _, rfl, _⟩ := h; rfl
theorem rdok_Board_init {K vs H Q E} (h : sp_Board_init K vs H Q E) : rd_Board_init K { nx := fun _ H' => Q .non H', rt := Q } (start nm_Board_init vs) H := by
  obtain ⟨b, dx, S, rfl, hb, q⟩ := h
  simp only [rd_Board_init, nm_Board_init, L2.start]
  refine tSeq_gen fun U hU => ?_
  walk_at "rb"
  refine ⟨dx, [], hb, by decide, ?_⟩
  subst hU
  walk_at "rb"
  intro d hd
  have hdb : d ≠ b := fun e => by rw [e, upd_same] at hd; cases hd
  refine ⟨dx, [("size", .int S)], ?_, by show 1 < 1000; decide, ?_⟩
  · rw [upd_ne (Ne.symm hdb)]; exact upd_same
  · refine q d _ (fun a o ha e => ?_) (by rw [upd_ne hdb] at hd; exact hd) ⟨dx, upd_same⟩ ?_
    · rw [upd_ne ha, upd_ne (fun z => by rw [z] at e; rw [upd_ne hdb] at hd; rw [hd] at e; cases e), upd_ne ha]; exact e
    · rw [upd_ne hdb]; exact upd_same
def rd_Board_check_head (K : PySem.W.Frag) (E : XK) : TS :=
  (tIfS (tNot (tB (tCall (sp_is_head K) [] E0 (tCons (tVar 1) (tCons (tFldC (clsAt K "Board") (tVar 0) "size") tNil))))) (tRaise (clsAt K "BadHead") E (tCons (tC (.str (Str.ofString "no head of the board's size"))) tNil)) tNext)
def nm_Board_check_head : List Str := ["self", "head"]
def sp_Board_check_head (K : PySem.W.Frag) : Sp := fun vs H Q E => ∃ (b d : Addr) (S : Int) (z : Str), vs = [.ref b, .str z] ∧ BoardIs K H b d S ∧ z.length ≤ 1000 ∧ ((okH z S = true ∧ Q .non H) ∨ (okH z S = false ∧ E (.ref (clsAt K "BadHead")) none H))
theorem len_Board_check_head {K vs H Q E} (h : sp_Board_check_head K vs H Q E) : vs.length = 2 := by obtain ⟨_, _, _, _, rfl, _⟩ := h; rfl
theorem rdok_Board_check_head {K vs H Q E} (h : sp_Board_check_head K vs H Q E) : rd_Board_check_head K E { nx := fun _ H' => Q .non H', rt := Q } (start nm_Board_check_head vs) H := by
  obtain ⟨b, d, S, z, rfl, ⟨dx, hb⟩, hz, q⟩ := h
  simp only [rd_Board_check_head, nm_Board_check_head, L2.start]
  walk_at "rb"
  refine ⟨dx, _, hb, _, rfl, z, S, rfl, hz, _, rfl, ?_⟩
  rcases q with ⟨e, q⟩ | ⟨e, q⟩
  · unfold okH at e
    rw [e]
    exact q
  · unfold okH at e
    rw [e]
    exact ⟨by walk_at "sz", q⟩
def rd_Board_check_address (K : PySem.W.Frag) (E : XK) : TS :=
  (tIfS (tNot (tB (tCall (sp_is_address K) [] E0 (tCons (tVar 1) (tCons (tFldC (clsAt K "Board") (tVar 0) "size") tNil))))) (tRaise (clsAt K "BadAddress") E (tCons (tC (.str (Str.ofString "no address of the board's size"))) tNil)) tNext)
def nm_Board_check_address : List Str := ["self", "address"]
def sp_Board_check_address (K : PySem.W.Frag) : Sp := fun vs H Q E => ∃ (b d : Addr) (S : Int) (z : Str), vs = [.ref b, .str z] ∧ BoardIs K H b d S ∧ z.length ≤ 1000 ∧ ((okA z S = true ∧ Q .non H) ∨ (okA z S = false ∧ E (.ref (clsAt K "BadAddress")) none H))
theorem len_Board_check_address {K vs H Q E} (h : sp_Board_check_address K vs H Q E) : vs.length = 2 := by obtain ⟨_, _, _, _, rfl, _⟩ := h; rfl
theorem rdok_Board_check_address {K vs H Q E} (h : sp_Board_check_address K vs H Q E) : rd_Board_check_address K E { nx := fun _ H' => Q .non H', rt := Q } (start nm_Board_check_address vs) H := by
  obtain ⟨b, d, S, z, rfl, ⟨dx, hb⟩, hz, q⟩ := h
  simp only [rd_Board_check_address, nm_Board_check_address, L2.start]
  walk_at "rb"
  refine ⟨dx, _, hb, _, rfl, z, S, rfl, hz, _, rfl, ?_⟩
  rcases q with ⟨e, q⟩ | ⟨e, q⟩
  · rw [e]
    exact q
  · rw [e]
    exact ⟨by walk_at "sz", q⟩
/-! ### a row put -/
def putR (ds : List Row) (h : List Bool) (w : Option Int) : List Row := if (atH ds h).isSome then ds.map (fun r => if r.1 = h then (h, w) else r) else ds ++ [(h, w)]
theorem tabK_put (ds : List Row) (h : List Bool) (w : Option Int) : putK (tabK ds) (strK (enc h)) (wayV w) = tabK (putR ds h w) := by
  unfold putK putR
  rw [valV_any, valV_tabK, Option.isSome_map]
  cases e : (atH ds h).isSome with
  | true =>
    rw [if_pos rfl, if_pos rfl]
    unfold tabK
    rw [List.map_map, List.map_map]
    refine List.map_congr_left fun r _ => ?_
    show (if strK (enc r.1) = strK (enc h) then (strK (enc r.1), wayV w) else (strK (enc r.1), wayV r.2)) = _
    by_cases e : r.1 = h
    · simp [e]
    · rw [if_neg (fun z => e (enc_inj (strK_inj z)))]; simp [e]
  | false =>
    rw [if_neg Bool.false_ne_true, if_neg Bool.false_ne_true]
    unfold tabK
    rw [List.map_append]; rfl
theorem tabK_drop (ds : List Row) (h : List Bool) : dropK (tabK ds) (strK (enc h)) = tabK (woHead ds h) := by
  unfold dropK tabK woHead
  rw [List.filter_map]
  congr 1
  refine List.filter_congr fun r _ => ?_
  show decide (strK (enc r.1) ≠ strK (enc h)) = (r.1 != h)
  by_cases e : r.1 = h
  · simp [e]
  · have : strK (enc r.1) ≠ strK (enc h) := fun z => e (enc_inj (strK_inj z))
    simp [e, this]
def rd_Board_put (K : PySem.W.Frag) (E : XK) : TS :=
  (tSeq (tDrop (tMeth (clsAt K "Board") "check_head" (sp_Board_check_head K) [] E (tVar 0) (tCons (tVar 1) tNil)))
  (tSeq (tAsg (tOp (rInK false) (tVar 1) (tFldC (clsAt K "Board") (tVar 0) "ways")) (gName 3))
  (tSeq (tIfS (tAnd (tNot (tB (tVar 3))) (tTest (tOp rGe (tCB rLenK (tCons (tFldC (clsAt K "Board") (tVar 0) "ways") tNil)) (tC (.int 60))))) (tRaise (clsAt K "FullBoard") E (tCons (tC (.str (Str.ofString "the board holds as many rows as it can"))) tNil)) tNext)
  (tSeq (sDPut (tFldC (clsAt K "Board") (tVar 0) "ways") (tVar 1) (tVar 2))
  (tRet (tVar 3))))))
def nm_Board_put : List Str := ["self", "head", "way", "there"]
def sp_Board_put (K : PySem.W.Frag) : Sp := fun vs H Q E => ∃ (b d : Addr) (S : Int) (z : Str) (w : Option Int) (ds : List Row), vs = [.ref b, .str z, wayV w] ∧ BoardIs K H b d S ∧ z.length ≤ 1000 ∧ H d = some (.dK (tabK ds)) ∧ ds.length ≤ 1000 ∧
  ((okH z S = false ∧ E (.ref (clsAt K "BadHead")) none H) ∨ (∃ h, z = enc h ∧ (h.length : Int) ≤ S ∧ ((atH ds h = none ∧ 60 ≤ ds.length ∧ E (.ref (clsAt K "FullBoard")) none H) ∨ (((atH ds h).isSome = true ∨ ds.length < 60) ∧ Q (.bl (atH ds h).isSome) (upd H d (.dK (tabK (putR ds h w))))))))
theorem len_Board_put {K vs H Q E} (h : sp_Board_put K vs H Q E) : vs.length = 3 := by obtain ⟨_, _, _, _, _, _, rfl, _⟩ := h; rfl
theorem rdok_Board_put {K vs H Q E} (h : sp_Board_put K vs H Q E) : rd_Board_put K E { nx := fun _ H' => Q .non H', rt := Q } (start nm_Board_put vs) H := by
  obtain ⟨b, d, S, z, w, ds, rfl, ⟨dx, hb⟩, hz, hd, hl, q⟩ := h
  simp only [rd_Board_put, nm_Board_put, L2.start]
  refine tSeq_gen fun U hU => ?_
  walk_at "rb"
  refine ⟨dx, _, hb, rfl, b, d, S, z, rfl, ⟨dx, hb⟩, hz, ?_⟩
  rcases q with ⟨e, q⟩ | ⟨h, rfl, hh, q⟩
  · exact .inr ⟨e, q⟩
  refine .inl ⟨okH_enc hh, ?_⟩
  subst hU
  refine tSeq_gen fun U hU => ?_
  walk_at "rb"
  refine ⟨dx, _, hb, _, rfl, d, tabK ds, strK (enc h), rfl, .inl hd, rfl, ?_⟩
  subst hU
  simp only [if_neg Bool.false_ne_true]
  rw [valV_tabK, Option.isSome_map]
  refine tSeq_gen fun U hU => ?_
  have tl : (tabK ds).length = ds.length := by unfold tabK; rw [List.length_map]
  have good : Q (.bl (atH ds h).isSome) (upd H d (.dK (tabK (putR ds h w)))) → U { nx := fun x H' => Q V.non H', rt := Q } [some (.ref b), some (.str (enc h)), some (wayV w), some (.bl (atH ds h).isSome)] H := by
    intro q
    subst hU
    refine tSeq_gen fun U hU => ?_
    walk_at "rb"
    refine ⟨dx, _, hb, _, rfl, d, rfl, upd H d (.dK (tabK (putR ds h w))), .inl ⟨tabK ds, strK (enc h), hd, rfl, by rw [tl]; walk_at "sz", by rw [tabK_put]⟩, ?_⟩
    subst hU
    walk_at "rd"
    exact q
  walk_at "rb"
  rcases q with ⟨e, h60, q⟩ | ⟨e, q⟩
  · rw [e]
    refine ⟨dx, _, hb, _, rfl, tabK ds, .inl hd, ?_⟩
    rw [tl]
    walk_at "rd"
    rw [if_pos (by omega)]
    exact ⟨by walk_at "sz", q⟩
  · cases hs : (atH ds h).isSome with
    | true =>
      rw [hs] at good q
      exact good q
    | false =>
      rw [hs] at good q
      refine ⟨dx, _, hb, _, rfl, tabK ds, .inl hd, ?_⟩
      rw [tl]
      rcases e with e | e
      · rw [hs] at e; cases e
      walk_at "rd"
      rw [if_neg (by omega)]
      exact good q
def rd_Board_drop (K : PySem.W.Frag) (E : XK) : TS :=
  (tSeq (tDrop (tMeth (clsAt K "Board") "check_head" (sp_Board_check_head K) [] E (tVar 0) (tCons (tVar 1) tNil)))
  (tSeq (tIfS (tTest (tOp (rInK true) (tVar 1) (tFldC (clsAt K "Board") (tVar 0) "ways"))) (tRaise (clsAt K "NoHead") E (tCons (tC (.str (Str.ofString "no row with this head"))) tNil)) tNext)
  (tRet (tDPop1 (tFldC (clsAt K "Board") (tVar 0) "ways") (tVar 1)))))
def nm_Board_drop : List Str := ["self", "head"]
def sp_Board_drop (K : PySem.W.Frag) : Sp := fun vs H Q E => ∃ (b d : Addr) (S : Int) (z : Str) (ds : List Row), vs = [.ref b, .str z] ∧ BoardIs K H b d S ∧ z.length ≤ 1000 ∧ H d = some (.dK (tabK ds)) ∧
  ((okH z S = false ∧ E (.ref (clsAt K "BadHead")) none H) ∨ (∃ h, z = enc h ∧ (h.length : Int) ≤ S ∧ ((atH ds h = none ∧ E (.ref (clsAt K "NoHead")) none H) ∨ (∃ r, atH ds h = some r ∧ Q (wayV r.2) (upd H d (.dK (tabK (woHead ds h))))))))
theorem len_Board_drop {K vs H Q E} (h : sp_Board_drop K vs H Q E) : vs.length = 2 := by obtain ⟨_, _, _, _, _, rfl, _⟩ := h; rfl
theorem rdok_Board_drop {K vs H Q E} (h : sp_Board_drop K vs H Q E) : rd_Board_drop K E { nx := fun _ H' => Q .non H', rt := Q } (start nm_Board_drop vs) H := by
  obtain ⟨b, d, S, z, ds, rfl, ⟨dx, hb⟩, hz, hd, q⟩ := h
  simp only [rd_Board_drop, nm_Board_drop, L2.start]
  refine tSeq_gen fun U hU => ?_
  walk_at "rb"
  refine ⟨dx, _, hb, rfl, b, d, S, z, rfl, ⟨dx, hb⟩, hz, ?_⟩
  rcases q with ⟨e, q⟩ | ⟨h, rfl, hh, q⟩
  · exact .inr ⟨e, q⟩
  refine .inl ⟨okH_enc hh, ?_⟩
  subst hU
  refine tSeq_gen fun U hU => ?_
  walk_at "rb"
  refine ⟨dx, _, hb, _, rfl, d, tabK ds, strK (enc h), rfl, .inl hd, rfl, ?_⟩
  have ev := valV_tabK ds h
  rcases q with ⟨e, q⟩ | ⟨r, e, q⟩
  · rw [e] at ev
    rw [ev]
    exact ⟨_, rfl, by walk_at "sz", q⟩
  · rw [e] at ev
    rw [ev]
    refine ⟨_, rfl, ?_⟩
    show U { nx := fun x H' => Q V.non H', rt := Q } [some (.ref b), some (.str (enc h))] H
    subst hU
    walk_at "rb"
    refine ⟨dx, _, hb, _, rfl, d, rfl, .inl ⟨_, .inl hd⟩, tabK ds, hd, strK (enc h), rfl, _, ev, ?_⟩
    rw [tabK_drop]
    exact q
def rd_Board_rows (K : PySem.W.Frag) : TS :=
  (tRet (tComp [(0, "self")] (iList K (tCB rSortedD (tCons (tFldC (clsAt K "Board") (tVar 0) "ways") tNil))) tAlways (tTup (tCons (tVar 0) (tCons (tDGet (tFldC (clsAt K "Board") (tVar 1) "ways") (tVar 0)) tNil)))))
def nm_Board_rows : List Str := ["self"]
def sp_Board_rows (K : PySem.W.Frag) : Sp := fun vs H Q _ => ∃ (b d : Addr) (S : Int) (ds ss : List Row), vs = [.ref b] ∧ BoardIs K H b d S ∧ H d = some (.dK (tabK ds)) ∧ (ds.map (·.1)).Nodup ∧ ds.length < 64 ∧ SortR ds ss ∧
  ∀ l H' ys, Same H H' → H l = none → H' l = some (.lst ys) → RowsAre H' ys ss → Q (.ref l) H'
theorem len_Board_rows {K vs H Q E} (h : sp_Board_rows K vs H Q E) : vs.length = 1 := by obtain ⟨_, _, _, _, _, rfl, _⟩ := h; rfl
theorem rdok_Board_rows {K vs H Q E} (h : sp_Board_rows K vs H Q E) : rd_Board_rows K { nx := fun _ H' => Q .non H', rt := Q } (start nm_Board_rows vs) H := by
  obtain ⟨b, d, S, ds, ss, rfl, ⟨dx, hb⟩, hd, nd, hf, so, q⟩ := h
  simp only [rd_Board_rows, nm_Board_rows, L2.start, tRet]
  refine tComp_inv fun G hG => ?_
  walk_at "rb"
  refine ⟨dx, _, hb, _, rfl, tabK ds, _, .inl hd, tabK_keys ds, by rw [List.length_map]; exact hf, fun l3 us hl3 up uo => ?_⟩
  have eu := sorted_heads so up uo
  subst eu
  have s3 : Same H (upd H l3 (.lst ((ss.map fun r => enc r.1).map V.str))) := Same.upd hl3
  refine hG l3 ((ss.map fun r => enc r.1).map V.str) _ (fun i ys H' => RowsAre H' ys (ss.take i)) (SqL.of upd_same) ?_ (fun i ys H3 H4 t j => j.mono t) .nil ?_ ?_
  · rw [List.length_map, List.length_map, so.perm.length_eq]; omega
  · intro i x ys H3 hx sm j A B hA hB
    rw [List.getElem?_map, List.getElem?_map] at hx
    cases hi : ss[i]? with
    | none => rw [hi] at hx; cases hx
    | some r =>
      rw [hi] at hx
      cases hx
      have tk : ss.take (i + 1) = ss.take i ++ [r] := by rw [List.take_add_one, hi]; rfl
      have hrt : r ∈ ds := so.perm.mem_iff.mp (List.mem_of_getElem? hi)
      have v2 : valV (tabK ds) (strK (enc r.1)) = some (wayV r.2) := by rw [valV_tabK, atH_some nd hrt]; rfl
      simp only [capt, tAlways]
      rw [if_pos trivial]
      refine ⟨_, rfl, _, rfl, b, dx, _, _, rfl, sm _ _ (s3 _ _ hb), rfl, _, rfl, d, wayV r.2, rfl, .inl ⟨tabK ds, strK (enc r.1), .inl (sm _ _ (s3 _ _ hd)), rfl, v2.symm⟩, by walk_at "sz", fun p hp => hB _ _ (Same.upd hp) ?_⟩
      rw [tk]
      exact Paired.append (RowsAre.mono j (Same.upd hp).tp) (.cons ⟨p, rfl, upd_same⟩ .nil)
  · intro l4 ys4 H4 hl4 sm4 h4 j4
    rw [List.length_map, List.length_map, List.take_length] at j4
    exact q l4 H4 ys4 (s3.trans sm4) (s3.free hl4) h4 j4
/-! ### an address asked -/
theorem led_perm {rs ts : List Row} (p : rs.Perm ts) (hn : (rs.map (·.1)).Nodup) (a : List Bool) : led rs a = led ts a := by unfold led; rw [lead_perm p hn]
def rd_Board_led (K : PySem.W.Frag) (E : XK) : TS :=
  (tSeq (tDrop (tMeth (clsAt K "Board") "check_address" (sp_Board_check_address K) [] E (tVar 0) (tCons (tVar 1) tNil)))
  (tRet (tCall (sp_way_for K) [] E0 (tCons (tMeth (clsAt K "Board") "rows" (sp_Board_rows K) [] E0 (tVar 0) tNil) (tCons (tVar 1) tNil)))))
def nm_Board_led : List Str := ["self", "address"]
def sp_Board_led (K : PySem.W.Frag) : Sp := fun vs H Q E => ∃ (b d : Addr) (S : Int) (z : Str) (ds : List Row), vs = [.ref b, .str z] ∧ BoardIs K H b d S ∧ z.length ≤ 1000 ∧ H d = some (.dK (tabK ds)) ∧ (ds.map (·.1)).Nodup ∧ ds.length < 64 ∧ (∀ r ∈ ds, r.1.length ≤ 1000) ∧
  ((okA z S = false ∧ E (.ref (clsAt K "BadAddress")) none H) ∨ (∃ ad, z = enc ad ∧ (ad.length : Int) = S ∧ ∀ H', Same H H' → Q (wayV (led ds ad)) H'))
theorem len_Board_led {K vs H Q E} (h : sp_Board_led K vs H Q E) : vs.length = 2 := by obtain ⟨_, _, _, _, _, rfl, _⟩ := h; rfl
theorem rdok_Board_led {K vs H Q E} (h : sp_Board_led K vs H Q E) : rd_Board_led K E { nx := fun _ H' => Q .non H', rt := Q } (start nm_Board_led vs) H := by
  obtain ⟨b, d, S, z, ds, rfl, ⟨dx, hb⟩, hz, hd, nd, hf, hlen, q⟩ := h
  simp only [rd_Board_led, nm_Board_led, L2.start]
  refine tSeq_gen fun U hU => ?_
  walk_at "rb"
  refine ⟨dx, _, hb, rfl, b, d, S, z, rfl, ⟨dx, hb⟩, hz, ?_⟩
  rcases q with ⟨e, q⟩ | ⟨ad, rfl, hh, q⟩
  · exact .inr ⟨e, q⟩
  refine .inl ⟨okA_enc hh, ?_⟩
  subst hU
  walk_at "rb"
  obtain ⟨ss, so⟩ := SortR.ex ds
  refine ⟨dx, _, hb, rfl, b, d, S, ds, ss, rfl, ⟨dx, hb⟩, hd, nd, hf, so, fun l H' ys sm nl hl hr => ?_⟩
  refine ⟨l, ys, ss, ad, rfl, hl, hr, fun r hr => hlen r (so.perm.mem_iff.mp hr), ?_⟩
  rw [← led_perm so.perm.symm nd]
  exact q H' sm
def rd_Board_by_which (K : PySem.W.Frag) (E : XK) : TS :=
  (tSeq (tDrop (tMeth (clsAt K "Board") "check_address" (sp_Board_check_address K) [] E (tVar 0) (tCons (tVar 1) tNil)))
  (tRet (tCall (sp_head_for K) [] E0 (tCons (tMeth (clsAt K "Board") "rows" (sp_Board_rows K) [] E0 (tVar 0) tNil) (tCons (tVar 1) tNil)))))
def nm_Board_by_which : List Str := ["self", "address"]
def sp_Board_by_which (K : PySem.W.Frag) : Sp := fun vs H Q E => ∃ (b d : Addr) (S : Int) (z : Str) (ds : List Row), vs = [.ref b, .str z] ∧ BoardIs K H b d S ∧ z.length ≤ 1000 ∧ H d = some (.dK (tabK ds)) ∧ (ds.map (·.1)).Nodup ∧ ds.length < 64 ∧ (∀ r ∈ ds, r.1.length ≤ 1000) ∧
  ((okA z S = false ∧ E (.ref (clsAt K "BadAddress")) none H) ∨ (∃ ad, z = enc ad ∧ (ad.length : Int) = S ∧ ∀ H', Same H H' → Q (headV (lead ds ad)) H'))
theorem len_Board_by_which {K vs H Q E} (h : sp_Board_by_which K vs H Q E) : vs.length = 2 := by obtain ⟨_, _, _, _, _, rfl, _⟩ := h; rfl
theorem rdok_Board_by_which {K vs H Q E} (h : sp_Board_by_which K vs H Q E) : rd_Board_by_which K E { nx := fun _ H' => Q .non H', rt := Q } (start nm_Board_by_which vs) H := by
  obtain ⟨b, d, S, z, ds, rfl, ⟨dx, hb⟩, hz, hd, nd, hf, hlen, q⟩ := h
  simp only [rd_Board_by_which, nm_Board_by_which, L2.start]
  refine tSeq_gen fun U hU => ?_
  walk_at "rb"
  refine ⟨dx, _, hb, rfl, b, d, S, z, rfl, ⟨dx, hb⟩, hz, ?_⟩
  rcases q with ⟨e, q⟩ | ⟨ad, rfl, hh, q⟩
  · exact .inr ⟨e, q⟩
  refine .inl ⟨okA_enc hh, ?_⟩
  subst hU
  walk_at "rb"
  obtain ⟨ss, so⟩ := SortR.ex ds
  refine ⟨dx, _, hb, rfl, b, d, S, ds, ss, rfl, ⟨dx, hb⟩, hd, nd, hf, so, fun l H' ys sm nl hl hr => ?_⟩
  refine ⟨l, ys, ss, ad, rfl, hl, hr, fun r hr => hlen r (so.perm.mem_iff.mp hr), ?_⟩
  rw [← lead_perm so.perm.symm nd]
  exact q H' sm
end L2

end
section
set_option Elab.async false
set_option linter.all false
set_option maxRecDepth 100000
namespace L2
open PySem PySem.Spec PyProof.Rows PySem.SeqAt

/-! ### x in xs, x not in xs: by the data -/
section
variable {X : Cx}
end
end L2

end
section
set_option Elab.async false
set_option linter.all false
set_option maxRecDepth 100000
set_option maxHeartbeats 4000000
namespace L2
open PySem PySem.Spec PyProof.Rows PySem.SeqAt PySem.MeetsSeq
open AutoSeq1 (wpAny_loadPart')
/-! ### xs.remove(x): the first one that equals x, by the data -/
theorem remove_loopAt (l : Addr) (items : Array Value) (n : Nat) (x : Value) (e : Value → Bool) (j : Nat) (hj : j < items.size) (hit : e items[j] = true) (k : Nat) (hs1 : items.size ≤ sizeLine) :
    ∀ i : Nat, j - i = k → i ≤ j → (∀ m (hm : m < items.size), i ≤ m → m < j → e items[m] = false) → Meets (Builtin.«list.remove.loop» ⟨[.ref l, x, rawInt i], []⟩)
      (fun A R s => s.heap.get? l = some { cls := .type "list", dict := none, data := .seq items n, slots := #[] } ∧ (∀ y, y ∈ items → EqAt A.in1 s y x (e y)) ∧ R (.ok (.ret .none)) { s with heap := s.heap.update l (Obj.mapSeq fun xs => xs.eraseIdxIfInBounds j) }) := by
  induction k with
  | zero =>
    intro i hk hij hno prog w A R s h
    obtain ⟨hp, g, d, tk, os⟩ := s; obtain ⟨hl, he, h⟩ := h
    have hij' : i = j := by omega
    subst hij'
    wp_walk using wpAny_loadPart' hl
    have hi : items[((i : Nat) : Int).toNat]? = some items[i] := by simp [hj]
    rw [hi]
    refine wpAny_bind (he _ (Array.getElem_mem hj) prog w _ _ ?_)
    rw [hit]
    have hz' : (items.eraseIdxIfInBounds i).size ≤ sizeLine + 1 := Nat.le_trans (size_erased items _) (Nat.le_succ_of_le hs1)
    wp_walk using (wpAny_updateSeq hl rfl (hz := hs1) (_hz' := hz')), wpAny_loadPart' hl
    simpa using h
  | succ k ih =>
    intro i hk hij hno prog w A R s h
    obtain ⟨hp, g, d, tk, os⟩ := s; obtain ⟨hl, he, h⟩ := h
    have hlt : i < items.size := by omega
    wp_walk using wpAny_loadPart' hl
    have hi : items[((i : Nat) : Int).toNat]? = some items[i] := by simp [hlt]
    have hc : ((i : Int) + 1) = ((i + 1 : Nat) : Int) := by push_cast; rfl
    rw [hi]
    refine wpAny_bind (he _ (Array.getElem_mem hlt) prog w _ _ ?_)
    rw [hno i hlt (Nat.le_refl _) (by omega)]
    wp_walk
    rw [hc]
    exact ⟨plainId_quiet plain_remove_loop _, codeAny_builtin entry_remove_loop (by
      rw [Around.under_plainId plain_remove_loop _]
      exact ih (i + 1) (by omega) (by omega) (fun m hm h1 h2 => hno m hm (by omega) h2) prog w A R _ ⟨hl, he, h⟩)⟩
theorem list_removeAt (l : Addr) (items : Array Value) (n : Nat) (x : Value) (e : Value → Bool) (j : Nat) (hj : j < items.size)
    (hit : e items[j] = true) (hno : ∀ m (hm : m < items.size), m < j → e items[m] = false) (hs1 : items.size ≤ sizeLine) :
    Meets (Builtin.«list.remove» ⟨[.ref l, x], []⟩)
      (fun A R s => s.heap.get? l = some { cls := .type "list", dict := none, data := .seq items n, slots := #[] } ∧ (∀ y, y ∈ items → EqAt A.in1 s y x (e y)) ∧ R (.ok (.ret .none)) { s with heap := s.heap.update l (Obj.mapSeq fun xs => xs.eraseIdxIfInBounds j) }) := by
  intro prog w A R s h
  obtain ⟨hp, g, d, tk, os⟩ := s; obtain ⟨hl, he, h⟩ := h
  wp_walk using wpAny_loadPart' hl
  exact ⟨plainId_quiet plain_remove_loop _, codeAny_builtin entry_remove_loop (by
    rw [Around.under_plainId plain_remove_loop _]
    exact remove_loopAt l items n x e j hj hit _ hs1 0 rfl (Nat.zero_le _) (fun m hm _ h2 => hno m hm h2) prog w A R _ ⟨hl, he, h⟩)⟩
section
variable {X : Cx}
def rRemove (K : PySem.W.Frag) : V → List V → Hp → VK → Prop := fun x vs H Q => ∃ l xs v d es j, x = .ref l ∧ vs = [v] ∧ H l = some (.lst xs) ∧ Rep K H v d ∧ Rep K H (.ref l) (.list es) ∧ PyData.canLayAll0 es = true ∧ PyData.canLay0 d = true ∧ PyData.depthAll es ≤ 16 ∧ PyData.depth d ≤ 16 ∧
  j < xs.length ∧ (∃ y, es[j]? = some y ∧ PyData.eqv y d = true) ∧ (∀ i y, i < j → es[i]? = some y → PyData.eqv y d = false) ∧ Q .non (upd H l (.lst (xs.eraseIdx j)))
theorem mt_remove (hu : X.A.units + 64 < cLine) : MtM X "list.remove" (rRemove X.K) := by
  intro pins s σ H x vs v us Q I rx rv h
  obtain ⟨l, xs, v0, d, es, j, rfl, rfl, hH, hd, he, c1, c2, c3, c4, hj, ⟨y, y1, y2⟩, hno, q⟩ := h
  obtain rfl : v = Value.ref l := rx
  obtain ⟨u, rfl, ru⟩ := rv.one
  obtain ⟨z, its, n, r, hl, e⟩ := I.lstM hH
  obtain ⟨as, ra⟩ := hd.reads I u ru
  obtain ⟨bs, rb⟩ := he.reads I (.ref l) rfl
  cases rb with
  | list h1 h2 h3 h4 =>
    rename_i o n' items
    rw [e] at h1
    cases h1
    cases h3
    have em := readsAll_map _ _ _ c1 h4
    have key : ∀ i (hi : i < its.length), ∃ y, es[i]? = some y ∧ readOf s.heap its[i] = y := fun i hi => by
      have := congrArg (fun l => l[i]?) em
      simp only [List.getElem?_map] at this
      have e2 : its.toArray.toList[i]? = some its[i] := by simp [hi]
      rw [e2] at this
      exact ⟨_, this.symm, rfl⟩
    refine call_meets F.slot_list_remove ⟨_, e, rfl⟩ F.entry_list_remove (F.args_list_remove_2 _ _)
      (list_removeAt l its.toArray n u (fun y => PyData.eqv (readOf s.heap y) d) j (by rw [List.size_toArray]; omega) ?_ (fun m hm hlt => ?_) (by rw [List.size_toArray]; omega)) ⟨e, items_eqAt h4 ra c1 c2 (by omega), ?_⟩
    · obtain ⟨y', e1, e2⟩ := key j (by omega)
      rw [y1] at e1
      cases e1
      show PyData.eqv (readOf s.heap its[j]) d = true
      rw [e2]; exact y2
    · rw [List.size_toArray] at hm
      obtain ⟨y', e1, e2⟩ := key m hm
      show PyData.eqv (readOf s.heap its[m]) d = false
      rw [e2]; exact hno m y' hlt e1
    · refine ⟨.non, _, I.lset (its' := its.eraseIdx j) hH e ?_ (r.eraseIdx j) ?_, rfl, q⟩
      · show its.toArray.eraseIdxIfInBounds j = (its.eraseIdx j).toArray
        rw [List.eraseIdxIfInBounds_toArray]
      · have := len_erase xs j
        omega
end
end L2

end
section
set_option Elab.async false
set_option linter.all false
set_option maxRecDepth 100000
namespace L2
open PySem PySem.Spec PyProof.Rows
/-! ### tables as data -/
def wayD : Option Int → PyData
  | none => .none
  | some i => .int i
def rowD (r : Row) : PyData := .tuple [.str (enc r.1), wayD r.2]
theorem enc_ok (bs : List Bool) : PyData.strOk (enc bs) = true := by
  show ((bs.map sg).toArray).all (· < 0x110000) = true
  rw [List.all_toArray, List.all_map, List.all_eq_true]
  intro b _
  cases b <;> decide
theorem rowD_ok (r : Row) : PyData.canLay0 (rowD r) = true ∧ PyData.depth (rowD r) ≤ 1 := by
  obtain ⟨h, w⟩ := r
  cases w <;> exact ⟨by simp [rowD, wayD, PyData.canLay0, PyData.canLayAll0, enc_ok], by simp [rowD, wayD, PyData.depth, PyData.depthAll]⟩
theorem rowsD_ok (rs : List Row) : PyData.canLayAll0 (rs.map rowD) = true ∧ PyData.depthAll (rs.map rowD) ≤ 1 := by
  induction rs with
  | nil => exact ⟨by simp [PyData.canLayAll0], by simp [PyData.depthAll]⟩
  | cons r rs ih =>
    have h := rowD_ok r
    refine ⟨by simp only [List.map_cons, PyData.canLayAll0, h.1, ih.1, Bool.and_true], ?_⟩
    have e : PyData.depthAll ((r :: rs).map rowD) = max (PyData.depth (rowD r)) (PyData.depthAll (rs.map rowD)) := by simp only [List.map_cons, PyData.depthAll]
    rw [e]
    exact Nat.max_le.mpr ⟨h.2, ih.2⟩
theorem wayV_rep {K : PySem.W.Frag} {H : Hp} (w : Option Int) : Rep K H (wayV w) (wayD w) := by
  cases w with
  | none => exact .non
  | some i => exact .int i
theorem RowIs.rep {K : PySem.W.Frag} {H : Hp} {v : V} {r : Row} (h : RowIs H v r) : Rep K H v (rowD r) := by
  obtain ⟨p, rfl, hp⟩ := h
  exact .tup (SqT.of hp) (.cons (.str _) (.cons (wayV_rep _) .nil))
theorem RowsAre.reps {K : PySem.W.Frag} {H : Hp} {vs : List V} {rs : List Row} (h : RowsAre H vs rs) : Reps K H vs (rs.map rowD) := by
  induction h with
  | nil => exact .nil
  | cons h _ ih => exact .cons h.rep ih
theorem tab_rep {K : PySem.W.Frag} {H : Hp} {a : Addr} {vs : List V} {rs : List Row} (ha : H a = some (.lst vs)) (h : RowsAre H vs rs) : Rep K H (.ref a) (.list (rs.map rowD)) := .lst (SqL.of ha) h.reps
end L2

end
section
set_option Elab.async false
set_option linter.all false
set_option maxRecDepth 100000
set_option maxHeartbeats 4000000
namespace K13
open PySem L2
local macro_rules | `(tactic| walk_at "rd") => `(tactic| try simp only [tVar, tC, tOp, tUn, tSeq, tAsg, gName, tRet, tRetN, tIfS, tDrop, tNext, tCons, tNil, tCall, tCB, tTest, tB, tAnd, tOr, tNot, tAndV, tOrV, tNotV, tIf, tTup, tLst, tSl, tPart, tNoPart, tBM, tBM0, L2.start, rI2, rI3, rAddA, rMulA, rSubI, rDivI, rModI, rPowI, rNegI, rLt, rLe, rGt, rGe, rIsN, rNotN, rEqS, rNeS, rLen, rIxA, rIntA, rMax2, rMin2, rStrI, rListOf, rIsi2, isiF, isiO, rSlA, rStarts2, rEnds2, CDiv,
  List.map_cons, List.map_nil, List.length_cons, List.length_nil, List.replicate_succ, List.replicate_zero, List.cons_append, List.nil_append, List.append_nil, List.getElem?_cons_zero, List.getElem?_cons_succ, List.set_cons_zero, List.set_cons_succ, Option.some.injEq, V.int.injEq, V.str.injEq, V.bl.injEq, V.ref.injEq, V.ty.injEq, reduceCtorEq, exists_eq_left', exists_eq_left, exists_eq_right, exists_eq_right', exists_eq', exists_eq, exists_and_left, exists_and_right, false_and, and_false, true_and, and_true, exists_const, exists_false, false_or, or_false, List.cons.injEq, and_assoc, decide_eq_true_eq, decide_true, decide_false, Int.reduceLT, Int.reduceLE, Nat.reduceLT, Nat.reduceLeDiff, Nat.reduceSub, Nat.reduceAdd, Nat.sub_self, Nat.sub_zero, enc_eq, enc_nil, enc_0, enc_1, enc_01, enc_append, enc_len, Bool.not_true, Bool.not_false, Bool.false_eq_true, if_true, if_false, ↓reduceIte, String.reduceEq, or_true, true_or, Nat.one_mul, addr_len, bitsBy_len, List.length_append, List.length_replicate, List.length_map])
local macro_rules | `(tactic| walk_at "sz") => `(tactic| (have hline := line_ge; first | omega | (simp; omega)))
local macro_rules | `(tactic| walk_at "rb") => `(tactic| (walk_at "rd"; (try simp only [tMeth, tMake, tFldC, sFldC, tDGet, tDPop1, sDPut, tDNewK, tRaise]); walk_at "rd"; (try simp only [tMeth, tMake, tFldC, sFldC, tDGet, tDPop1, sDPut, tDNewK, tRaise]); walk_at "rd"))
structure Err (K : PySem.W.Frag) : Prop where
  sub0 : PySem.W.mroIn K (clsAt K "BadHead") (.ref (clsAt K "RoadError")) = some true
  ga0 : PySem.W.findIn K (.ref (clsAt K "BadHead")) "__getattribute__" = some (some (.builtin "BaseException.__getattribute__"))
  gn0 : PySem.W.findIn K (.ref (clsAt K "BadHead")) "__getattr__" = some none
  cl0 : PySem.W.findIn K (.ref (clsAt K "BadHead")) "__class__" = some (some (.builtin "object.__class__"))
  mo0 : PySem.W.mroIn K (clsAt K "BadHead") (.type "object") = some true
  mb0 : PySem.W.mroIn K (clsAt K "BadHead") (.type "BaseException") = some true
  i00 : PySem.W.kitOne K (.ref (clsAt K "BadHead")) (.ref (clsAt K "BadHead")) = some true
  i01 : PySem.W.kitOne K (.ref (clsAt K "BadHead")) (.ref (clsAt K "NoHead")) = some false
  i02 : PySem.W.kitOne K (.ref (clsAt K "BadHead")) (.ref (clsAt K "BadAddress")) = some false
  i03 : PySem.W.kitOne K (.ref (clsAt K "BadHead")) (.ref (clsAt K "FullBoard")) = some false
  i04 : PySem.W.kitOne K (.ref (clsAt K "BadHead")) (.ref (clsAt K "BadLine")) = some false
  i05 : PySem.W.kitOne K (.ref (clsAt K "BadHead")) (.ref (clsAt K "BadSpan")) = some false
  sub1 : PySem.W.mroIn K (clsAt K "NoHead") (.ref (clsAt K "RoadError")) = some true
  ga1 : PySem.W.findIn K (.ref (clsAt K "NoHead")) "__getattribute__" = some (some (.builtin "BaseException.__getattribute__"))
  gn1 : PySem.W.findIn K (.ref (clsAt K "NoHead")) "__getattr__" = some none
  cl1 : PySem.W.findIn K (.ref (clsAt K "NoHead")) "__class__" = some (some (.builtin "object.__class__"))
  mo1 : PySem.W.mroIn K (clsAt K "NoHead") (.type "object") = some true
  mb1 : PySem.W.mroIn K (clsAt K "NoHead") (.type "BaseException") = some true
  i10 : PySem.W.kitOne K (.ref (clsAt K "NoHead")) (.ref (clsAt K "BadHead")) = some false
  i11 : PySem.W.kitOne K (.ref (clsAt K "NoHead")) (.ref (clsAt K "NoHead")) = some true
  i12 : PySem.W.kitOne K (.ref (clsAt K "NoHead")) (.ref (clsAt K "BadAddress")) = some false
  i13 : PySem.W.kitOne K (.ref (clsAt K "NoHead")) (.ref (clsAt K "FullBoard")) = some false
  i14 : PySem.W.kitOne K (.ref (clsAt K "NoHead")) (.ref (clsAt K "BadLine")) = some false
  i15 : PySem.W.kitOne K (.ref (clsAt K "NoHead")) (.ref (clsAt K "BadSpan")) = some false
  sub2 : PySem.W.mroIn K (clsAt K "BadAddress") (.ref (clsAt K "RoadError")) = some true
  ga2 : PySem.W.findIn K (.ref (clsAt K "BadAddress")) "__getattribute__" = some (some (.builtin "BaseException.__getattribute__"))
  gn2 : PySem.W.findIn K (.ref (clsAt K "BadAddress")) "__getattr__" = some none
  cl2 : PySem.W.findIn K (.ref (clsAt K "BadAddress")) "__class__" = some (some (.builtin "object.__class__"))
  mo2 : PySem.W.mroIn K (clsAt K "BadAddress") (.type "object") = some true
  mb2 : PySem.W.mroIn K (clsAt K "BadAddress") (.type "BaseException") = some true
  i20 : PySem.W.kitOne K (.ref (clsAt K "BadAddress")) (.ref (clsAt K "BadHead")) = some false
  i21 : PySem.W.kitOne K (.ref (clsAt K "BadAddress")) (.ref (clsAt K "NoHead")) = some false
  i22 : PySem.W.kitOne K (.ref (clsAt K "BadAddress")) (.ref (clsAt K "BadAddress")) = some true
  i23 : PySem.W.kitOne K (.ref (clsAt K "BadAddress")) (.ref (clsAt K "FullBoard")) = some false
  i24 : PySem.W.kitOne K (.ref (clsAt K "BadAddress")) (.ref (clsAt K "BadLine")) = some false
  i25 : PySem.W.kitOne K (.ref (clsAt K "BadAddress")) (.ref (clsAt K "BadSpan")) = some false
  sg : PySem.W.specialIn K (.builtin "object.__class__") "__get__" = some (some (.builtin "getset_descriptor.__get__"))
  tk : PySem.W.takesIn K (.builtin "object.__class__") = some true
theorem Err.k0 {K : PySem.W.Frag} (T : Err K) : ExcK K (clsAt K "BadHead") := ⟨T.ga0, T.gn0, T.cl0, T.sg, T.tk, T.mo0, T.mb0⟩
theorem Err.k1 {K : PySem.W.Frag} (T : Err K) : ExcK K (clsAt K "NoHead") := ⟨T.ga1, T.gn1, T.cl1, T.sg, T.tk, T.mo1, T.mb1⟩
theorem Err.k2 {K : PySem.W.Frag} (T : Err K) : ExcK K (clsAt K "BadAddress") := ⟨T.ga2, T.gn2, T.cl2, T.sg, T.tk, T.mo2, T.mb2⟩
/-! ### a head or an address that is none -/
theorem slen (z : Str) : z.length = z.cps.toList.length := by simp [Str.length]
theorem at_mod {α : Type} {l : List α} {c : Int} {n : Nat} (hn : l.length = n) (h0 : 0 < n) : ∃ v ∈ l, atI l (c % (n : Int)) = some v := by
  have z0 := Int.emod_nonneg c (show (n : Int) ≠ 0 by omega)
  have z1 := Int.emod_lt_of_pos c (show (0 : Int) < n by omega)
  obtain ⟨j, hj⟩ := Int.eq_ofNat_of_zero_le z0
  have hjl : j < l.length := by omega
  rw [hj]
  exact ⟨l[j], List.getElem_mem hjl, atI_nat (by simp [hjl])⟩
theorem cut_len (z : Str) (a b : Option Int) : (cutS z a b).length ≤ z.length := by
  show (List.toArray _).size ≤ _
  rw [List.size_toArray, List.length_take, List.length_drop, slen]; omega
theorem cps_app (a b : Str) : (a ++ b).cps.toList = a.cps.toList ++ b.cps.toList := by
  show (a.cps ++ b.cps).toList = _
  rw [Array.toList_append]
theorem bad1 {v : Nat} {b : Str} (h : isBit v = false) : ((⟨#[v]⟩ : Str) ++ b).cps.toList.all isBit = false := by
  rw [cps_app, List.all_append]
  show ((isBit v && true) && _) = false
  rw [h]; rfl
theorem bad2 {v : Nat} {a b : Str} (h : isBit v = false) : (a ++ ⟨#[v]⟩ ++ b).cps.toList.all isBit = false := by
  rw [cps_app, cps_app, List.all_append, List.all_append]
  show ((_ && (isBit v && true)) && _) = false
  rw [h]; simp
theorem no_both {z : Str} {n : Int} (h : z.cps.toList.all isBit = false) : okH z n = false ∧ okA z n = false := by
  unfold okH okA
  rw [h, Bool.and_false, Bool.and_false]; exact ⟨rfl, rfl⟩
def rd_law_wrong (K : PySem.W.Frag) : TS :=
  (tSeq (tIfS (tTest (tOp rEqS (tOp rModI (tVar 1) (tC (.int 3))) (tC (.int 0)))) (tRet (tOp rAddA (tVar 0) (tOp rMulA (tC (.str (Str.ofString "0"))) (tOp rSubI (tOp rAddA (tVar 2) (tC (.int 1))) (tCB (rLen K) (tCons (tVar 0) tNil)))))) tNext)
  (tSeq (tAsg (tOp rModI (tOp rDivI (tVar 1) (tC (.int 3))) (tOp rAddA (tCB (rLen K) (tCons (tVar 0) tNil)) (tC (.int 1)))) (gName 3))
  (tSeq (tAsg (tOp (rIxA K) (tC (.str (Str.ofString "2 ao*-O"))) (tOp rModI (tOp rDivI (tVar 1) (tC (.int 60))) (tC (.int 7)))) (gName 4))
  (tSeq (tIfS (tAnd (tTest (tOp rEqS (tOp rModI (tVar 1) (tC (.int 3))) (tC (.int 1)))) (tTest (tOp rLt (tVar 3) (tCB (rLen K) (tCons (tVar 0) tNil))))) (tRet (tOp rAddA (tOp rAddA (tSl (rSlA K) (tVar 0) tNoPart (tPart (tVar 3))) (tVar 4)) (tSl (rSlA K) (tVar 0) (tPart (tOp rAddA (tVar 3) (tC (.int 1)))) tNoPart))) tNext)
  (tSeq (tIfS (tTest (tOp rEqS (tCB (rLen K) (tCons (tVar 0) tNil)) (tVar 2))) (tRet (tOp rAddA (tVar 4) (tSl (rSlA K) (tVar 0) (tPart (tC (.int 1))) tNoPart))) tNext)
  (tRet (tOp rAddA (tOp rAddA (tSl (rSlA K) (tVar 0) tNoPart (tPart (tVar 3))) (tVar 4)) (tSl (rSlA K) (tVar 0) (tPart (tVar 3)) tNoPart))))))))
def nm_law_wrong : List Str := ["text", "cell", "size", "at", "sign"]
def sp_law_wrong (K : PySem.W.Frag) : Sp := fun vs H Q _ => ∃ (h : List Bool) (c S : Int), vs = [.str (enc h), .int c, .int S] ∧ (h.length : Int) ≤ S ∧ S ≤ 16 ∧ ∀ z : Str, z.length ≤ 100 → okH z S = false → okA z S = false → Q (.str z) H
theorem len_law_wrong {K vs H Q E} (h : sp_law_wrong K vs H Q E) : vs.length = 3 := by obtain ⟨_, _, _, rfl, _⟩ := h; rfl
theorem rdok_law_wrong {K vs H Q E} (h : sp_law_wrong K vs H Q E) : rd_law_wrong K { nx := fun _ H' => Q .non H', rt := Q } (start nm_law_wrong vs) H := by
  obtain ⟨h, c, S, rfl, h1, h2, q⟩ := h
  simp only [rd_law_wrong, nm_law_wrong, L2.start]
  refine tSeq_gen fun U hU => ?_
  walk_at "rd"
  split
  · rw [repS_enc, enc_append]
    have e : ((h ++ List.replicate (S + 1 - (h.length : Int)).toNat false).length : Int) = S + 1 := by rw [List.length_append, List.length_replicate]; omega
    refine ⟨by walk_at "sz", by omega, by omega, by walk_at "sz", by rw [enc_len, List.length_replicate]; walk_at "sz", q _ (by rw [enc_len]; omega) ?_ ?_⟩
    · unfold okH; rw [enc_len, e, decide_eq_false (by omega), Bool.false_and]
    · unfold okA; rw [enc_len, e, decide_eq_false (by omega), Bool.false_and]
  · subst hU
    refine tSeq_gen fun U hU => ?_
    walk_at "rd"
    refine ⟨by walk_at "sz", by omega, ?_⟩
    subst hU
    generalize c / 3 % ((h.length : Int) + 1) = at_
    refine tSeq_gen fun U hU => ?_
    walk_at "rd"
    have e : (Str.ofString "2 ao*-O").cps.toList.length = 7 := by decide +kernel
    have ebits : (Str.ofString "2 ao*-O").cps.toList.all (fun v => !isBit v) = true := by decide +kernel
    obtain ⟨v, hv, hat⟩ := at_mod (c := c / 60) e (by decide)
    have hb : isBit v = false := by simpa using List.all_eq_true.mp ebits v hv
    refine ⟨by rw [slen, e]; walk_at "sz", v, hat, ?_⟩
    clear hat hv ebits e
    subst hU
    have k1 := cut_len (enc h) none (some at_)
    have k2 := cut_len (enc h) (some (at_ + 1)) none
    have k3 := cut_len (enc h) (some at_) none
    have k4 := cut_len (enc h) (some 1) none
    rw [enc_len] at k1 k2 k3 k4
    have ev : (⟨#[v]⟩ : Str).length = 1 := rfl
    have fin2 : ∀ a b : Str, a.length ≤ h.length → b.length ≤ h.length → Q (.str (a ++ ⟨#[v]⟩ ++ b)) H := fun a b ha hb' => by
      obtain ⟨n1, n2⟩ := no_both (n := S) (bad2 (a := a) (b := b) hb)
      exact q _ (by rw [Str.length_append, Str.length_append, ev]; omega) n1 n2
    refine tSeq_gen fun U hU => ?_
    have rest : U { nx := fun x H' => Q V.non H', rt := Q } [some (V.str (enc h)), some (V.int c), some (V.int S), some (V.int at_), some (V.str { cps := #[v] })] H := by
      subst hU
      refine tSeq_gen fun U hU => ?_
      walk_at "rd"
      refine ⟨by walk_at "sz", ?_⟩
      split
      · obtain ⟨n1, n2⟩ := no_both (n := S) (bad1 (b := cutS (enc h) (some 1) none) hb)
        refine ⟨by walk_at "sz", by rw [ev]; walk_at "sz", q _ (by rw [Str.length_append, ev]; omega) n1 n2⟩
      · subst hU
        walk_at "rd"
        refine ⟨by walk_at "sz", by rw [ev]; walk_at "sz", by walk_at "sz", by rw [Str.length_append, ev]; walk_at "sz", fin2 _ _ k1 k3⟩
    walk_at "rd"
    split
    · refine ⟨by walk_at "sz", ?_⟩
      split
      · exact ⟨by walk_at "sz", by rw [ev]; walk_at "sz", by walk_at "sz", by rw [Str.length_append, ev]; walk_at "sz", fin2 _ _ k1 k2⟩
      · exact rest
    · exact rest
/-! ### what is refused -/
theorem tTry_gen {K : PySem.W.Frag} {R : Addr} {i : Nat} {tb : XK → TS} {th : TS} {D : Ends} {σ : St} {H : Hp}
    (h : ∀ E : XK, E = (fun cls _ H1 => ∃ C, cls = .ref C ∧ PySem.W.mroIn K C (.ref R) = some true ∧ ∀ a, H1 a = none → th (goneAt D i) (σ.set i (some (.ref a))) (upd H1 a (excO a C))) → tb E D σ H) : tTry K R i tb th D σ H := h _ rfl
def rd_law_refused (K : PySem.W.Frag) : TS :=
  (tSeq (tAsg (tC .non) (gName 3))
  (tSeq (tTry K (clsAt K "RoadError") 4 (fun E => (tSeq (tIfS (tTest (tOp rEqS (tVar 1) (tC (.int 0)))) (tDrop (tMeth (clsAt K "Board") "put" (sp_Board_put K) [] E (tVar 0) (tCons (tVar 2) (tCons (tC (.int 3)) tNil)))) tNext) (tSeq (tIfS (tTest (tOp rEqS (tVar 1) (tC (.int 1)))) (tDrop (tMeth (clsAt K "Board") "drop" (sp_Board_drop K) [] E (tVar 0) (tCons (tVar 2) tNil))) tNext) (tSeq (tIfS (tTest (tOp rEqS (tVar 1) (tC (.int 2)))) (tDrop (tMeth (clsAt K "Board") "led" (sp_Board_led K) [] E (tVar 0) (tCons (tVar 2) tNil))) tNext) (tIfS (tTest (tOp rEqS (tVar 1) (tC (.int 3)))) (tDrop (tMeth (clsAt K "Board") "by_which" (sp_Board_by_which K) [] E (tVar 0) (tCons (tVar 2) tNil))) tNext))))) (tSeq (tAsg (tLst (tCons (tCB (rIsiX K) (tCons (tVar 4) (tCons (tC (.ref (clsAt K "BadHead"))) tNil))) (tCons (tCB (rIsiX K) (tCons (tVar 4) (tCons (tC (.ref (clsAt K "NoHead"))) tNil))) (tCons (tCB (rIsiX K) (tCons (tVar 4) (tCons (tC (.ref (clsAt K "BadAddress"))) tNil))) tNil)))) (gName 3))
  (tIfS (tOr (tB (tCB (rIsiX K) (tCons (tVar 4) (tCons (tC (.ref (clsAt K "FullBoard"))) tNil)))) (tOr (tB (tCB (rIsiX K) (tCons (tVar 4) (tCons (tC (.ref (clsAt K "BadLine"))) tNil)))) (tB (tCB (rIsiX K) (tCons (tVar 4) (tCons (tC (.ref (clsAt K "BadSpan"))) tNil)))))) (tAsg (tC .non) (gName 3)) tNext)))
  (tRet (tVar 3))))
def nm_law_refused : List Str := ["board", "way", "text", "kinds", "e"]
/-- what a refused call asks -/
inductive Why (S : Int) (ds : List Row) (z : Str) : Int → Bool → Bool → Bool → Prop
  | head {way} : way = 0 ∨ way = 1 → okH z S = false → Why S ds z way true false false
  | none {h} : z = enc h → (h.length : Int) ≤ S → atH ds h = none → Why S ds z 1 false true false
  | address {way} : way = 2 ∨ way = 3 → okA z S = false → Why S ds z way false false true
def sp_law_refused (K : PySem.W.Frag) : Sp := fun vs H Q _ => ∃ (b d : Addr) (S way : Int) (z : Str) (ds : List Row) (k1 k2 k3 : Bool), vs = [.ref b, .int way, .str z] ∧ BoardIs K H b d S ∧ z.length ≤ 1000 ∧ H d = some (.dK (tabK ds)) ∧ (ds.map (·.1)).Nodup ∧ ds.length < 60 ∧ (∀ r ∈ ds, r.1.length ≤ 1000) ∧
  Why S ds z way k1 k2 k3 ∧ ∀ l H', Same H H' → H' l = some (.lst [.bl k1, .bl k2, .bl k3]) → Q (.ref l) H'
theorem len_law_refused {K vs H Q E} (h : sp_law_refused K vs H Q E) : vs.length = 3 := by obtain ⟨_, _, _, _, _, _, _, _, _, rfl, _⟩ := h; rfl
theorem rdok_law_refused {K vs H Q E} (T : Err K) (h : sp_law_refused K vs H Q E) : rd_law_refused K { nx := fun _ H' => Q .non H', rt := Q } (start nm_law_refused vs) H := by
  obtain ⟨b, d, S, way, z, ds, k1, k2, k3, rfl, ⟨dx, hb⟩, hz, hd, nd, hf, hlen, why, q⟩ := h
  simp only [rd_law_refused, nm_law_refused, L2.start]
  refine tSeq_gen fun U hU => ?_
  walk_at "rd"
  subst hU
  refine tSeq_gen fun U hU => ?_
  refine tTry_gen fun E hE => ?_
  have ex : ∀ (C : Addr) (b1 b2 b3 : Bool), PySem.W.mroIn K C (.ref (clsAt K "RoadError")) = some true → ExcK K C → PySem.W.kitOne K (.ref C) (.ref (clsAt K "BadHead")) = some b1 → PySem.W.kitOne K (.ref C) (.ref (clsAt K "NoHead")) = some b2 → PySem.W.kitOne K (.ref C) (.ref (clsAt K "BadAddress")) = some b3 →
      PySem.W.kitOne K (.ref C) (.ref (clsAt K "FullBoard")) = some false → PySem.W.kitOne K (.ref C) (.ref (clsAt K "BadLine")) = some false → PySem.W.kitOne K (.ref C) (.ref (clsAt K "BadSpan")) = some false →
      (∀ l H', Same H H' → H' l = some (.lst [.bl b1, .bl b2, .bl b3]) → Q (.ref l) H') → E (.ref C) none H := by
    intro C b1 b2 b3 sub k i1 i2 i3 i4 i5 i6 q
    rw [hE]
    refine ⟨C, rfl, sub, fun a ha => ?_⟩
    have s1 : Same H (upd H a (excO a C)) := Same.upd ha
    have hx : upd H a (excO a C) a = some (excO a C) := upd_same
    generalize upd H a (excO a C) = H1 at s1 hx ⊢
    refine tSeq_gen fun U2 hU2 => ?_
    walk_at "rd"
    refine ⟨_, _, hx, k, i1, _, _, hx, k, i2, _, _, hx, k, i3, by walk_at "sz", fun l hl => ?_⟩
    have s2 : Same H1 (upd H1 l (.lst [.bl b1, .bl b2, .bl b3])) := Same.upd hl
    have h2 : upd H1 l (.lst [.bl b1, .bl b2, .bl b3]) l = some (.lst [.bl b1, .bl b2, .bl b3]) := upd_same
    generalize upd H1 l (.lst [.bl b1, .bl b2, .bl b3]) = H2 at s2 h2 ⊢
    have hx2 := s2 _ _ hx
    subst hU2
    walk_at "rd"
    refine ⟨_, _, hx2, k, i4, false, rfl, _, _, hx2, k, i5, false, rfl, _, _, hx2, k, i6, false, rfl, ?_⟩
    rw [hU]
    simp only [if_neg Bool.false_ne_true]
    exact ⟨_, rfl, q _ _ (s1.trans s2) h2⟩
  clear hE
  cases why with
  | head hw ok =>
    have e0 := ex _ _ _ _ T.sub0 T.k0 T.i00 T.i01 T.i02 T.i03 T.i04 T.i05 q
    clear ex
    rcases hw with rfl | rfl
    · refine tSeq_gen fun U2 hU2 => ?_
      clear hU2
      walk_at "rb"
      exact ⟨dx, _, hb, rfl, b, d, S, z, some 3, ds, rfl, ⟨dx, hb⟩, hz, hd, by omega, .inl ⟨ok, e0⟩⟩
    · refine tSeq_gen fun U2 hU2 => ?_
      walk_at "rd"
      refine Eq.mpr (if_neg (by decide)) ?_
      subst hU2
      refine tSeq_gen fun U2 hU2 => ?_
      clear hU2
      walk_at "rb"
      exact ⟨dx, _, hb, rfl, b, d, S, z, ds, rfl, ⟨dx, hb⟩, hz, hd, .inl ⟨ok, e0⟩⟩
  | none e hh hat =>
    have e0 := ex _ _ _ _ T.sub1 T.k1 T.i10 T.i11 T.i12 T.i13 T.i14 T.i15 q
    clear ex
    refine tSeq_gen fun U2 hU2 => ?_
    walk_at "rd"
    refine Eq.mpr (if_neg (by decide)) ?_
    subst hU2
    refine tSeq_gen fun U2 hU2 => ?_
    clear hU2
    walk_at "rb"
    exact ⟨dx, _, hb, rfl, b, d, S, z, ds, rfl, ⟨dx, hb⟩, hz, hd, .inr ⟨_, e, hh, .inl ⟨hat, e0⟩⟩⟩
  | address hw ok =>
    have e0 := ex _ _ _ _ T.sub2 T.k2 T.i20 T.i21 T.i22 T.i23 T.i24 T.i25 q
    clear ex
    rcases hw with rfl | rfl
    · refine tSeq_gen fun U2 hU2 => ?_
      walk_at "rd"
      refine Eq.mpr (if_neg (by decide)) ?_
      subst hU2
      refine tSeq_gen fun U2 hU2 => ?_
      walk_at "rd"
      refine Eq.mpr (if_neg (by decide)) ?_
      subst hU2
      refine tSeq_gen fun U2 hU2 => ?_
      clear hU2
      walk_at "rb"
      exact ⟨dx, _, hb, rfl, b, d, S, z, ds, rfl, ⟨dx, hb⟩, hz, hd, nd, by omega, hlen, .inl ⟨ok, e0⟩⟩
    · refine tSeq_gen fun U2 hU2 => ?_
      walk_at "rd"
      refine Eq.mpr (if_neg (by decide)) ?_
      subst hU2
      refine tSeq_gen fun U2 hU2 => ?_
      walk_at "rd"
      refine Eq.mpr (if_neg (by decide)) ?_
      subst hU2
      refine tSeq_gen fun U2 hU2 => ?_
      walk_at "rd"
      refine Eq.mpr (if_neg (by decide)) ?_
      subst hU2
      walk_at "rb"
      exact ⟨dx, _, hb, rfl, b, d, S, z, ds, rfl, ⟨dx, hb⟩, hz, hd, nd, by omega, hlen, .inl ⟨ok, e0⟩⟩
/-! ### an address asked -/
/-- the board and the plain list -/
structure Both (K : PySem.W.Frag) (H : Hp) (b d a : Addr) (S : Int) (ds rs : List Row) (xs : List V) : Prop where
  bd : BoardIs K H b d S
  hd : H d = some (.dK (tabK ds))
  ha : H a = some (.lst xs)
  hr : RowsAre H xs rs
  pm : ds.Perm rs
  nd : (ds.map (·.1)).Nodup
  ln : ∀ r ∈ ds, (r.1.length : Int) ≤ S
  s0 : 1 ≤ S
  s1 : S ≤ 16
theorem Both.same {K : PySem.W.Frag} {H H' : Hp} {b d a : Addr} {S : Int} {ds rs : List Row} {xs : List V} (h : Both K H b d a S ds rs xs) (s : Same H H') : Both K H' b d a S ds rs xs :=
  ⟨h.bd.same s, s _ _ h.hd, s _ _ h.ha, RowsAre.mono h.hr s.tp, h.pm, h.nd, h.ln, h.s0, h.s1⟩
theorem Both.len {K : PySem.W.Frag} {H : Hp} {b d a : Addr} {S : Int} {ds rs : List Row} {xs : List V} (h : Both K H b d a S ds rs xs) : ∀ r ∈ ds, r.1.length ≤ 1000 := fun r hr => by have := h.ln r hr; have := h.s1; omega
theorem Both.lenR {K : PySem.W.Frag} {H : Hp} {b d a : Addr} {S : Int} {ds rs : List Row} {xs : List V} (h : Both K H b d a S ds rs xs) : ∀ r ∈ rs, r.1.length ≤ 1000 := fun r hr => h.len r (h.pm.mem_iff.mpr hr)
def rd_law_asked (K : PySem.W.Frag) : TS :=
  (tSeq (tAsg (tCall (sp_law_head_for K) [] E0 (tCons (tVar 1) (tCons (tVar 2) tNil))) (gName 3))
  (tSeq (tAsg (tMeth (clsAt K "Board") "by_which" (sp_Board_by_which K) [] E0 (tVar 0) (tCons (tVar 2) tNil)) (gName 4))
  (tSeq (tAsg (tMeth (clsAt K "Board") "led" (sp_Board_led K) [] E0 (tVar 0) (tCons (tVar 2) tNil)) (gName 5))
  (tSeq (tIfS (tTest (tOp rIsN (tVar 3) (tC .non))) (tRet (tAndV (tOp rIsN (tVar 4) (tC .non)) (tOp rIsN (tVar 5) (tC .non)))) tNext)
  (tRet (tAndV (tCB rIsi2 (tCons (tVar 4) (tCons (tC (.ty "str")) tNil))) (tAndV (tOp rEqS (tVar 4) (tOp (rIxA K) (tVar 3) (tC (.int 0)))) (tCall (sp_law_way_is K) [] E0 (tCons (tVar 5) (tCons (tOp (rIxA K) (tVar 3) (tC (.int 1))) tNil))))))))))
def nm_law_asked : List Str := ["board", "rows", "address", "row", "head", "way"]
def sp_law_asked (K : PySem.W.Frag) : Sp := fun vs H Q _ => ∃ (b d a : Addr) (S : Int) (ds rs : List Row) (xs : List V) (ad : List Bool), vs = [.ref b, .ref a, .str (enc ad)] ∧ Both K H b d a S ds rs xs ∧ ds.length < 60 ∧ (ad.length : Int) = S ∧ ∀ H', Same H H' → Q (.bl true) H'
theorem len_law_asked {K vs H Q E} (h : sp_law_asked K vs H Q E) : vs.length = 3 := by obtain ⟨_, _, _, _, _, _, _, _, rfl, _⟩ := h; rfl
theorem rdok_law_asked {K vs H Q E} (h : sp_law_asked K vs H Q E) : rd_law_asked K { nx := fun _ H' => Q .non H', rt := Q } (start nm_law_asked vs) H := by
  obtain ⟨b, d, a, S, ds, rs, xs, ad, rfl, B, hf, hl, q⟩ := h
  have hS := B.s1
  simp only [rd_law_asked, nm_law_asked, L2.start]
  refine tSeq_gen fun U hU => ?_
  walk_at "rd"
  refine ⟨a, xs, rs, ad, rfl, B.ha, B.hr, B.lenR, by omega, fun v hv => ?_⟩
  subst hU
  refine tSeq_gen fun U hU => ?_
  obtain ⟨dx, hb⟩ := B.bd
  walk_at "rb"
  refine ⟨dx, _, hb, rfl, b, d, S, enc ad, ds, rfl, B.bd, by rw [enc_len]; omega, B.hd, B.nd, by omega, B.len, .inr ⟨ad, rfl, hl, fun H1 s1 => ?_⟩⟩
  subst hU
  refine tSeq_gen fun U hU => ?_
  have B1 := B.same s1
  walk_at "rb"
  refine ⟨dx, _, s1 _ _ hb, rfl, b, d, S, enc ad, ds, rfl, B1.bd, by rw [enc_len]; omega, B1.hd, B1.nd, by omega, B1.len, .inr ⟨ad, rfl, hl, fun H2 s2 => ?_⟩⟩
  subst hU
  refine tSeq_gen fun U hU => ?_
  have s12 := s1.trans s2
  rw [led_perm B.pm B.nd, lead_perm B.pm B.nd]
  unfold led
  cases hld : lead rs ad with
  | none =>
    rw [hld] at hv
    cases hv
    walk_at "rd"
    exact q _ s12
  | some r =>
    rw [hld] at hv
    obtain ⟨p, rfl, hp⟩ := hv
    simp only [headV]
    walk_at "rd"
    subst hU
    walk_at "rd"
    refine ⟨_, .inr (SqT.of (s12 _ _ hp)), _, atI_nat (j := 0) rfl, ?_⟩
    walk_at "rd"
    refine ⟨_, .inr (SqT.of (s12 _ _ hp)), _, atI_nat (j := 1) rfl, r.2, r.2, rfl, ?_⟩
    rw [decide_eq_true rfl]
    exact q _ s12
/-! ### a row put, a head dropped -/
theorem atH_perm {ds rs : List Row} (p : ds.Perm rs) (h : List Bool) : (atH ds h).isSome = rs.any fun r => r.1 == h := by
  rw [Bool.eq_iff_iff, List.any_eq_true]
  unfold atH
  rw [List.find?_isSome]
  constructor
  · rintro ⟨r, hr, e⟩; exact ⟨r, p.mem_iff.mp hr, e⟩
  · rintro ⟨r, hr, e⟩; exact ⟨r, p.mem_iff.mpr hr, e⟩
theorem woHead_perm {ds rs : List Row} (p : ds.Perm rs) (h : List Bool) : (woHead ds h).Perm (woHead rs h) := p.filter _
theorem woHead_none {ds : List Row} {h : List Bool} (e : atH ds h = none) : woHead ds h = ds := by
  unfold woHead
  rw [List.filter_eq_self]
  intro r hr
  have := atH_none.mp e r hr
  simpa using this
theorem map_other {ds : List Row} {h : List Bool} {w : Option Int} (hn : ∀ r ∈ ds, r.1 ≠ h) : ds.map (fun r => if r.1 = h then (h, w) else r) = ds := by
  induction ds with
  | nil => rfl
  | cons r ds ih =>
    rw [List.map_cons, if_neg (hn r List.mem_cons_self), ih fun q hq => hn q (List.mem_cons_of_mem _ hq)]
theorem map_put : ∀ {ds : List Row} {h : List Bool} {w : Option Int}, (ds.map (·.1)).Nodup → (∃ r ∈ ds, r.1 = h) → (ds.map (fun r => if r.1 = h then (h, w) else r)).Perm (woHead ds h ++ [(h, w)])
  | [], _, _, _, ⟨_, hr, _⟩ => by cases hr
  | q :: ds, h, w, hn, ⟨r, hr, e⟩ => by
    rw [List.map_cons, List.nodup_cons] at hn
    rw [List.map_cons]
    by_cases hq : q.1 = h
    · have no : ∀ r ∈ ds, r.1 ≠ h := fun r hr z => hn.1 (List.mem_map.mpr ⟨r, hr, z.trans hq.symm⟩)
      rw [if_pos hq, map_other no]
      have ew : woHead (q :: ds) h = ds := by
        unfold woHead
        rw [List.filter_cons, if_neg (by simp [hq])]
        exact List.filter_eq_self.mpr fun r hr => by simpa using no r hr
      rw [ew]
      exact (List.perm_append_singleton _ _).symm
    · rw [if_neg hq]
      have ew : woHead (q :: ds) h = q :: woHead ds h := by
        unfold woHead
        rw [List.filter_cons, if_pos (by simpa using hq)]
      rw [ew, List.cons_append]
      refine List.Perm.cons q (map_put hn.2 ⟨r, ?_, e⟩)
      rcases List.mem_cons.mp hr with rfl | hr
      · exact absurd e hq
      · exact hr
theorem putR_perm {ds rs : List Row} (p : ds.Perm rs) (nd : (ds.map (·.1)).Nodup) (h : List Bool) (w : Option Int) : (putR ds h w).Perm (woHead rs h ++ [(h, w)]) := by
  refine List.Perm.trans ?_ ((woHead_perm p h).append_right _)
  unfold putR
  cases e : atH ds h with
  | none => rw [woHead_none e]; simp
  | some r =>
    have h1 : r ∈ ds := List.mem_of_find?_eq_some e
    have h2 : (r.1 == h) = true := List.find?_some (p := fun q : Row => q.1 == h) e
    rw [if_pos (by simp)]
    exact map_put nd ⟨r, h1, by simpa using h2⟩
theorem Tp.of_kept {H H' : Hp} {d a : Addr} {kvs : List (Key × V)} {xs : List V} (k : ∀ c o, c ≠ d → c ≠ a → H c = some o → H' c = some o) (hd : H d = some (.dK kvs)) (ha : H a = some (.lst xs)) : Tp H H' := fun c us e =>
  k c _ (fun z => by rw [z, hd] at e; cases e) (fun z => by rw [z, ha] at e; cases e) e
/-- all but the board's dict and the plain list stays -/
def Kept (d a : Addr) (H H' : Hp) : Prop := ∀ c o, c ≠ d → c ≠ a → H c = some o → H' c = some o
theorem Kept.trans {d a : Addr} {H H1 H2 : Hp} (x : Kept d a H H1) (y : Kept d a H1 H2) : Kept d a H H2 := fun c o h1 h2 e => y c o h1 h2 (x c o h1 h2 e)
theorem Kept.of {d a : Addr} {H H1 : Hp} (x : Same H H1) : Kept d a H H1 := fun c o _ _ e => x c o e
theorem Kept.d {d a : Addr} {H : Hp} {o : HO} : Kept d a H (upd H d o) := fun c u h1 _ e => by rw [upd_ne h1]; exact e
theorem Kept.a {d a : Addr} {H : Hp} {o : HO} : Kept d a H (upd H a o) := fun c u _ h2 e => by rw [upd_ne h2]; exact e
theorem Both.ne {K : PySem.W.Frag} {H : Hp} {b d a : Addr} {S : Int} {ds rs : List Row} {xs : List V} (h : Both K H b d a S ds rs xs) : d ≠ a := fun e => by have h1 := h.hd; rw [e, h.ha] at h1; cases h1
theorem Both.bd' {K : PySem.W.Frag} {H H' : Hp} {b d a : Addr} {S : Int} {ds rs : List Row} {xs : List V} (h : Both K H b d a S ds rs xs) (k : Kept d a H H') : BoardIs K H' b d S := by
  obtain ⟨dx, e⟩ := h.bd
  exact ⟨dx, k _ _ (fun z => by rw [z, h.hd] at e; cases e) (fun z => by rw [z, h.ha] at e; cases e) e⟩
def rd_law_put (K : PySem.W.Frag) : TS :=
  (tSeq (tAsg (tMeth (clsAt K "Board") "put" (sp_Board_put K) [] E0 (tVar 0) (tCons (tVar 2) (tCons (tVar 3) tNil))) (gName 4))
  (tSeq (tAsg (tOp (rIn K false) (tVar 2) (tComp [] (iList K (tVar 1)) tAlways (tOp (rIxA K) (tVar 0) (tC (.int 0))))) (gName 5))
  (tSeq (tAsg (tComp [(2, "head")] (iList K (tVar 1)) (tTest (tOp rNeS (tOp (rIxA K) (tVar 0) (tC (.int 0))) (tVar 1))) (tVar 0)) (gName 6))
  (tSeq (tDrop (tBM0 K "list" rClear (tVar 1)))
  (tSeq (tDrop (tBM K "list" rExtend (tVar 1) (tCons (tOp rAddA (tVar 6) (tLst (tCons (tTup (tCons (tVar 2) (tCons (tVar 3) tNil))) tNil))) tNil)))
  (tRet (tAndV (tCB rIsi2 (tCons (tVar 4) (tCons (tC (.ty "bool")) tNil))) (tOp rEqS (tVar 4) (tVar 5)))))))))
def nm_law_put : List Str := ["board", "rows", "head", "way", "found", "there", "kept"]
def sp_law_put (K : PySem.W.Frag) : Sp := fun vs H Q _ => ∃ (b d a : Addr) (S : Int) (ds rs : List Row) (xs : List V) (h : List Bool) (w : Option Int), vs = [.ref b, .ref a, .str (enc h), wayV w] ∧ Both K H b d a S ds rs xs ∧ ds.length < 60 ∧ (h.length : Int) ≤ S ∧
  ∀ H' xs', Kept d a H H' → Both K H' b d a S (putR ds h w) (woHead rs h ++ [(h, w)]) xs' → Q (.bl true) H'
theorem len_law_put {K vs H Q E} (h : sp_law_put K vs H Q E) : vs.length = 4 := by obtain ⟨_, _, _, _, _, _, _, _, _, rfl, _⟩ := h; rfl
theorem rdok_law_put {K vs H Q E} (h : sp_law_put K vs H Q E) : rd_law_put K { nx := fun _ H' => Q .non H', rt := Q } (start nm_law_put vs) H := by
  obtain ⟨b, d, a, S, ds, rs, xs, h, w, rfl, B, hf, hl, q⟩ := h
  have hS := B.s1
  have lr := Paired.length B.hr
  have lp := B.pm.length_eq
  simp only [rd_law_put, nm_law_put, L2.start]
  refine tSeq_gen fun U hU => ?_
  obtain ⟨dx, hb⟩ := B.bd
  walk_at "rb"
  refine ⟨dx, _, hb, rfl, b, d, S, enc h, w, ds, rfl, B.bd, by rw [enc_len]; omega, B.hd, by omega, .inr ⟨h, rfl, hl, .inr ⟨.inr hf, ?_⟩⟩⟩
  have k1 : Kept d a H (upd H d (.dK (tabK (putR ds h w)))) := Kept.d
  have hd1 : upd H d (.dK (tabK (putR ds h w))) d = some (.dK (tabK (putR ds h w))) := upd_same
  have ha1 : upd H d (.dK (tabK (putR ds h w))) a = some (.lst xs) := by rw [upd_ne (Ne.symm B.ne)]; exact B.ha
  have hr1 : RowsAre (upd H d (.dK (tabK (putR ds h w)))) xs rs := RowsAre.mono B.hr (Tp.of_kept k1 B.hd B.ha)
  generalize upd H d (.dK (tabK (putR ds h w))) = H1 at k1 hd1 ha1 hr1 ⊢
  rw [atH_perm B.pm]
  subst hU
  refine tSeq_gen fun U hU => ?_
  walk_at "rd"
  refine tComp_lst (K := K) a xs (fun _ => true) (fstOf H1) (fun R h => by walk_at "rd"; exact h) (SqL.of ha1) (by walk_at "sz") (fun v _ H'' R _ h => h) (fun v hv _ H'' R s2 h => ?_) (fun l3 hl3 => ?_)
  · obtain ⟨i, hi⟩ := List.getElem?_of_mem hv
    obtain ⟨r, _, hr⟩ := Paired.get i v hr1 hi
    rw [fstOf_row hr] at h
    obtain ⟨p, rfl, hp⟩ := hr
    walk_at "rd"
    exact ⟨_, .inr (SqT.of (s2 _ _ hp)), _, rfl, h⟩
  rw [List.filter_eq_self.mpr (fun _ _ => rfl), map_fstOf hr1]
  refine ⟨l3, _, rfl, .inl (SqL.of upd_same), rfl, heads_flat _, ?_⟩
  simp only [if_neg Bool.false_ne_true, inV_heads]
  have s2 : Same H1 (upd H1 l3 (.lst (rs.map fun r => V.str (enc r.1)))) := Same.upd hl3
  generalize upd H1 l3 (.lst (rs.map fun r => V.str (enc r.1))) = H2 at s2 ⊢
  have hr2 := RowsAre.mono hr1 s2.tp
  subst hU
  refine tSeq_gen fun U hU => ?_
  walk_at "rd"
  refine tComp_woHead (h := h) (fun R z => by walk_at "rd"; exact z) (s2 _ _ ha1) hr2 (by omega) (fun p2 r H' R hp2 z => ?_) (fun v H' R z => by walk_at "rd"; exact z) (fun l4 ys hl4 hys => ?_)
  · simp only [capt]
    walk_at "rd"
    refine ⟨_, .inr (SqT.of hp2), _, rfl, ?_⟩
    rw [ne_head] at z
    exact ⟨_, rfl, z⟩
  have s4 : Same H2 (upd H2 l4 (.lst ys)) := Same.upd hl4
  have h4 : upd H2 l4 (.lst ys) l4 = some (.lst ys) := upd_same
  have n4 : l4 ≠ a := fun e => by rw [e, s2 _ _ ha1] at hl4; cases hl4
  generalize upd H2 l4 (.lst ys) = H3 at s4 h4 ⊢
  have hr3 := RowsAre.mono hys s4.tp
  have s13 := s2.trans s4
  have ly := Paired.length hys
  have wl := woHead_le rs h
  subst hU
  refine tSeq_gen fun U hU => ?_
  walk_at "rd"
  refine ⟨tyV_lst (s13 _ _ ha1), a, xs, rfl, rfl, s13 _ _ ha1, ?_⟩
  have k4 : Kept d a H3 (upd H3 a (.lst [])) := Kept.a
  have ha4 : upd H3 a (.lst []) a = some (.lst []) := upd_same
  have hd4 : upd H3 a (.lst []) d = some (.dK (tabK (putR ds h w))) := by rw [upd_ne B.ne]; exact s13 _ _ hd1
  have h44 : upd H3 a (.lst []) l4 = some (.lst ys) := by rw [upd_ne n4]; exact h4
  have hr4 : RowsAre (upd H3 a (.lst [])) ys (woHead rs h) := RowsAre.mono hr3 (Tp.of_kept k4 (s13 _ _ hd1) (s13 _ _ ha1))
  generalize upd H3 a (.lst []) = H4 at k4 ha4 hd4 h44 hr4 ⊢
  subst hU
  refine tSeq_gen fun U hU => ?_
  walk_at "rd"
  refine ⟨tyV_lst ha4, by walk_at "sz", fun p hp => ?_⟩
  have s5 : Same H4 (upd H4 p (.tup [.str (enc h), wayV w])) := Same.upd hp
  have h5 : upd H4 p (.tup [.str (enc h), wayV w]) p = some (.tup [.str (enc h), wayV w]) := upd_same
  generalize upd H4 p (.tup [.str (enc h), wayV w]) = H5 at s5 h5 ⊢
  refine ⟨by walk_at "sz", fun p6 hp6 => ?_⟩
  have s6 : Same H5 (upd H5 p6 (.lst [.ref p])) := Same.upd hp6
  have h6 : upd H5 p6 (.lst [.ref p]) p6 = some (.lst [.ref p]) := upd_same
  generalize upd H5 p6 (.lst [.ref p]) = H6 at s6 h6 ⊢
  have s46 := s5.trans s6
  refine ⟨ys, s46 _ _ h44, _, h6, by walk_at "sz", fun p7 hp7 => ?_⟩
  have s7 : Same H6 (upd H6 p7 (.lst (ys ++ [.ref p]))) := Same.upd hp7
  have h7 : upd H6 p7 (.lst (ys ++ [.ref p])) p7 = some (.lst (ys ++ [.ref p])) := upd_same
  generalize upd H6 p7 (.lst (ys ++ [.ref p])) = H7 at s7 h7 ⊢
  have s47 := s46.trans s7
  refine ⟨a, p7, [], _, rfl, rfl, s47 _ _ ha4, h7, by rw [List.length_append]; walk_at "sz", ?_⟩
  have k8 : Kept d a H7 (upd H7 a (.lst ([] ++ (ys ++ [.ref p])))) := Kept.a
  have ha8 : upd H7 a (.lst ([] ++ (ys ++ [.ref p]))) a = some (.lst (ys ++ [.ref p])) := upd_same
  have hd8 : upd H7 a (.lst ([] ++ (ys ++ [.ref p]))) d = some (.dK (tabK (putR ds h w))) := by rw [upd_ne B.ne]; exact s47 _ _ hd4
  have tp8 : Tp H7 (upd H7 a (.lst ([] ++ (ys ++ [.ref p])))) := Tp.of_kept k8 (s47 _ _ hd4) (s47 _ _ ha4)
  generalize upd H7 a (.lst ([] ++ (ys ++ [.ref p]))) = H8 at k8 ha8 hd8 tp8 ⊢
  have kk : Kept d a H H8 := k1.trans ((Kept.of s13).trans (k4.trans ((Kept.of s47).trans k8)))
  have pm := putR_perm B.pm B.nd h w
  have nd' : ((putR ds h w).map (·.1)).Nodup := ((pm.map (·.1)).nodup_iff).mpr (doneR_nodup (rs := rs) (.put h w) ((B.pm.map (·.1)).nodup_iff.mp B.nd))
  have B8 : Both K H8 b d a S (putR ds h w) (woHead rs h ++ [(h, w)]) (ys ++ [.ref p]) := by
    refine ⟨B.bd' kk, hd8, ha8, RowsAre.mono (Paired.append (RowsAre.mono hr4 s47.tp) (.cons ⟨p, rfl, s7 _ _ (s6 _ _ h5)⟩ .nil)) tp8, pm, nd', fun r hr => ?_, B.s0, B.s1⟩
    have hr := pm.mem_iff.mp hr
    rcases List.mem_append.mp hr with hr | hr
    · exact B.ln r (B.pm.mem_iff.mpr (List.mem_filter.mp hr).1)
    · have : r = (h, w) := by simpa using hr
      rw [this]; exact hl
  subst hU
  walk_at "rd"
  exact q _ _ kk B8
theorem three_eq {K : PySem.W.Frag} {H : Hp} {l p : Addr} {x y z : Bool} {Q : VK} (hl : H l = some (.lst [.bl x, .bl y, .bl z])) (hp : H p = none) (q : Q (.bl true) (upd H p (.lst [.bl x, .bl y, .bl z]))) : rEqD K (.ref l) (.ref p) (upd H p (.lst [.bl x, .bl y, .bl z])) Q := by
  have h1 : upd H p (.lst [.bl x, .bl y, .bl z]) l = some (.lst [.bl x, .bl y, .bl z]) := by rw [upd_ne (ne_of_none hl hp)]; exact hl
  refine ⟨.list [.bool x, .bool y, .bool z], .list [.bool x, .bool y, .bool z], .lst (SqL.of h1) (.cons (.bl _) (.cons (.bl _) (.cons (.bl _) .nil))), .lst (SqL.of upd_same) (.cons (.bl _) (.cons (.bl _) (.cons (.bl _) .nil))), rfl, rfl, ?_⟩
  cases x <;> cases y <;> cases z <;> exact q
theorem erase_at : ∀ {rs : List Row} {h : List Bool}, (rs.map (·.1)).Nodup → (∃ r ∈ rs, r.1 = h) → ∃ j r, rs[j]? = some r ∧ r.1 = h ∧ (∀ i q, i < j → rs[i]? = some q → q.1 ≠ h) ∧ rs.filter (fun r => r.1 == h) = [r] ∧ woHead rs h = rs.eraseIdx j
  | [], _, _, ⟨_, hr, _⟩ => by cases hr
  | q :: rs, h, hn, ⟨r, hr, e⟩ => by
    rw [List.map_cons, List.nodup_cons] at hn
    by_cases hq : q.1 = h
    · have no : ∀ r ∈ rs, r.1 ≠ h := fun r hr z => hn.1 (List.mem_map.mpr ⟨r, hr, z.trans hq.symm⟩)
      refine ⟨0, q, rfl, hq, fun i _ hi => by omega, ?_, ?_⟩
      · rw [List.filter_cons, if_pos (by simpa using hq), List.filter_eq_nil_iff.mpr fun r hr => by simpa using no r hr]
      · unfold woHead
        rw [List.filter_cons, if_neg (by simp [hq])]
        exact List.filter_eq_self.mpr fun r hr => by simpa using no r hr
    · have hr' : r ∈ rs := by
        rcases List.mem_cons.mp hr with rfl | hr
        · exact absurd e hq
        · exact hr
      obtain ⟨j, r', e1, e2, e3, e4, e5⟩ := erase_at hn.2 ⟨r, hr', e⟩
      refine ⟨j + 1, r', e1, e2, fun i q' hi hi' => ?_, ?_, ?_⟩
      · cases i with
        | zero => cases hi'; exact hq
        | succ i => exact e3 i q' (by omega) hi'
      · rw [List.filter_cons, if_neg (by simpa using hq)]; exact e4
      · unfold woHead
        rw [List.filter_cons, if_pos (by simpa using hq), List.eraseIdx_cons_succ, ← e5]; rfl
theorem Paired.erase {α β : Type} {F : α → β → Prop} : ∀ {l : List α} {m : List β} (j : Nat), Paired F l m → Paired F (l.eraseIdx j) (m.eraseIdx j)
  | _, _, _, .nil => .nil
  | _, _, 0, .cons _ r => r
  | _, _, j + 1, .cons h r => .cons h (Paired.erase j r)
theorem wayD_eqv (a b : Option Int) : PyData.eqv (wayD a) (wayD b) = decide (a = b) := by
  cases a with
  | none => cases b with
    | none => simp [wayD, PyData.eqv]
    | some j => simp [wayD, PyData.eqv]
  | some i => cases b with
    | none => simp [wayD, PyData.eqv]
    | some j => simp only [wayD, PyData.eqv]; rw [Bool.eq_iff_iff]; simp
theorem rowD_eqv (q r : Row) : PyData.eqv (rowD q) (rowD r) = decide (q = r) := by
  have e : PyData.eqv (rowD q) (rowD r) = ((enc q.1 == enc r.1) && (PyData.eqv (wayD q.2) (wayD r.2) && true)) := by simp only [rowD, PyData.eqv, PyData.eqvAll]
  rw [e, wayD_eqv, Bool.and_true, Bool.eq_iff_iff]
  simp only [Bool.and_eq_true, beq_iff_eq, decide_eq_true_eq]
  constructor
  · rintro ⟨h1, h2⟩; exact Prod.ext (enc_inj h1) h2
  · rintro rfl; exact ⟨rfl, rfl⟩
theorem eq_head (a b : List Bool) : (a == b) = decide (enc a = enc b) := by
  by_cases e : a = b
  · simp [e]
  · have : enc a ≠ enc b := fun z => e (enc_inj z)
    simp [e, this]
def rd_law_dropped (K : PySem.W.Frag) : TS :=
  (tSeq (tAsg (tComp [(2, "head")] (iList K (tVar 1)) (tTest (tOp rEqS (tOp (rIxA K) (tVar 0) (tC (.int 0))) (tVar 1))) (tVar 0)) (gName 3))
  (tSeq (tIfS (tTest (tOp rEqS (tCB (rLen K) (tCons (tVar 3) tNil)) (tC (.int 0)))) (tRet (tOp (rEqD K) (tCall (sp_law_refused K) [] E0 (tCons (tVar 0) (tCons (tC (.int 1)) (tCons (tVar 2) tNil)))) (tLst (tCons (tC (.bl false)) (tCons (tC (.bl true)) (tCons (tC (.bl false)) tNil)))))) tNext)
  (tSeq (tDrop (tBM K "list" (rRemove K) (tVar 1) (tCons (tOp (rIxA K) (tVar 3) (tC (.int 0))) tNil)))
  (tRet (tCall (sp_law_way_is K) [] E0 (tCons (tMeth (clsAt K "Board") "drop" (sp_Board_drop K) [] E0 (tVar 0) (tCons (tVar 2) tNil)) (tCons (tOp (rIxA K) (tOp (rIxA K) (tVar 3) (tC (.int 0))) (tC (.int 1))) tNil)))))))
def nm_law_dropped : List Str := ["board", "rows", "head", "there"]
def sp_law_dropped (K : PySem.W.Frag) : Sp := fun vs H Q _ => ∃ (b d a : Addr) (S : Int) (ds rs : List Row) (xs : List V) (h : List Bool), vs = [.ref b, .ref a, .str (enc h)] ∧ Both K H b d a S ds rs xs ∧ ds.length < 60 ∧ (h.length : Int) ≤ S ∧
  ∀ H' xs', Kept d a H H' → Both K H' b d a S (woHead ds h) (woHead rs h) xs' → Q (.bl true) H'
theorem len_law_dropped {K vs H Q E} (h : sp_law_dropped K vs H Q E) : vs.length = 3 := by obtain ⟨_, _, _, _, _, _, _, _, rfl, _⟩ := h; rfl
theorem rdok_law_dropped {K vs H Q E} (h : sp_law_dropped K vs H Q E) : rd_law_dropped K { nx := fun _ H' => Q .non H', rt := Q } (start nm_law_dropped vs) H := by
  obtain ⟨b, d, a, S, ds, rs, xs, h, rfl, B, hf, hl, q⟩ := h
  have hS := B.s1
  have lr := Paired.length B.hr
  have lp := B.pm.length_eq
  simp only [rd_law_dropped, nm_law_dropped, L2.start]
  refine tSeq_gen fun U hU => ?_
  walk_at "rd"
  refine tComp_rows (fun r => r.1 == h) (fun R z => by walk_at "rd"; exact z) B.ha B.hr (by omega) (fun p2 r H' R hr s2 hp2 z => ?_) (fun v H' R z => by walk_at "rd"; exact z) (fun l4 ys hl4 hys => ?_)
  · simp only [capt]
    walk_at "rd"
    refine ⟨_, .inr (SqT.of hp2), _, rfl, ?_⟩
    rw [eq_head] at z
    exact ⟨_, rfl, z⟩
  have s4 : Same H (upd H l4 (.lst ys)) := Same.upd hl4
  have h4 : upd H l4 (.lst ys) l4 = some (.lst ys) := upd_same
  have n4 : l4 ≠ a := fun e => by rw [e, B.ha] at hl4; cases hl4
  generalize upd H l4 (.lst ys) = H1 at s4 h4 ⊢
  have hys1 := RowsAre.mono hys s4.tp
  have B1 := B.same s4
  have ly := Paired.length hys
  have hnr : (rs.map (·.1)).Nodup := (B.pm.map (·.1)).nodup_iff.mp B.nd
  obtain ⟨dx, hb⟩ := B1.bd
  subst hU
  refine tSeq_gen fun U hU => ?_
  cases hat : atH ds h with
  | none =>
    have no : ∀ r ∈ rs, r.1 ≠ h := fun r hr => atH_none.mp hat r (B.pm.mem_iff.mpr hr)
    have e0 : rs.filter (fun r => r.1 == h) = [] := List.filter_eq_nil_iff.mpr fun r hr => by simpa using no r hr
    rw [e0] at hys1 ly
    cases hys1
    walk_at "rd"
    refine ⟨[], .inl (SqL.of h4), ?_⟩
    walk_at "rd"
    rw [if_pos (by simp)]
    refine ⟨b, d, S, 1, enc h, ds, _, _, _, rfl, B1.bd, by rw [enc_len]; omega, B1.hd, B1.nd, hf, B1.len, .none rfl hl hat, fun l5 H2 s5 h5 => ⟨by walk_at "sz", fun p hp => three_eq h5 hp ?_⟩⟩
    have ss := s5.trans (Same.upd (o := .lst [.bl false, .bl true, .bl false]) hp)
    have BB := B1.same ss
    refine q _ xs (Kept.of (s4.trans ss)) ?_
    rw [woHead_none hat, show woHead rs h = rs from List.filter_eq_self.mpr fun r hr => by simpa using no r hr]
    exact BB
  | some r0 =>
    have h1 : r0 ∈ ds := List.mem_of_find?_eq_some hat
    have h2 : (r0.1 == h) = true := List.find?_some (p := fun q : Row => q.1 == h) hat
    have h2 : r0.1 = h := by simpa using h2
    obtain ⟨j, r, e1, e2, e3, e4, e5⟩ := erase_at hnr ⟨r0, B.pm.mem_iff.mp h1, h2⟩
    rw [e4] at hys1 ly
    have hjr : j < rs.length := (List.getElem?_eq_some_iff.mp e1).1
    have er : r0 = r := nodup_heads hnr (B.pm.mem_iff.mp h1) (List.mem_of_getElem? e1) (h2.trans e2.symm)
    subst er
    cases hys1 with
    | cons hrow ht =>
    cases ht
    obtain ⟨p, rfl, hp⟩ := hrow
    walk_at "rd"
    refine ⟨_, .inl (SqL.of h4), ?_⟩
    walk_at "rd"
    rw [if_neg (by simp)]
    subst hU
    refine tSeq_gen fun U hU => ?_
    walk_at "rd"
    refine ⟨tyV_lst B1.ha, _, .inl (SqL.of h4), _, atI_nat (j := 0) rfl, ?_⟩
    refine ⟨a, xs, .ref p, rowD r0, rs.map rowD, j, rfl, rfl, B1.ha, RowIs.rep ⟨p, rfl, hp⟩, tab_rep B1.ha B1.hr, (rowsD_ok rs).1, (rowD_ok r0).1, by have := (rowsD_ok rs).2; omega, by have := (rowD_ok r0).2; omega, by omega, ⟨rowD r0, by rw [List.getElem?_map, e1]; rfl, by rw [rowD_eqv]; simp⟩, fun i y hi hy => ?_, ?_⟩
    · rw [List.getElem?_map] at hy
      cases hq : rs[i]? with
      | none => rw [hq] at hy; cases hy
      | some q' =>
        rw [hq] at hy
        cases hy
        rw [rowD_eqv, decide_eq_false]
        intro z
        exact e3 i q' hi hq (by rw [z]; exact h2)
    have k2 : Kept d a H1 (upd H1 a (.lst (xs.eraseIdx j))) := Kept.a
    have ha2 : upd H1 a (.lst (xs.eraseIdx j)) a = some (.lst (xs.eraseIdx j)) := upd_same
    have hd2 : upd H1 a (.lst (xs.eraseIdx j)) d = some (.dK (tabK ds)) := by rw [upd_ne B.ne]; exact B1.hd
    have h42 : upd H1 a (.lst (xs.eraseIdx j)) l4 = some (.lst [.ref p]) := by rw [upd_ne n4]; exact h4
    have tp2 : Tp H1 (upd H1 a (.lst (xs.eraseIdx j))) := Tp.of_kept k2 B1.hd B1.ha
    generalize upd H1 a (.lst (xs.eraseIdx j)) = H2 at k2 ha2 hd2 h42 tp2 ⊢
    obtain ⟨dx2, hb2⟩ := B1.bd' k2
    subst hU
    walk_at "rb"
    refine ⟨dx2, _, hb2, rfl, b, d, S, enc h, ds, rfl, ⟨dx2, hb2⟩, by rw [enc_len]; omega, hd2, .inr ⟨h, rfl, hl, .inr ⟨r0, hat, ?_⟩⟩⟩
    have k3 : Kept d a H2 (upd H2 d (.dK (tabK (woHead ds h)))) := Kept.d
    have ha3 : upd H2 d (.dK (tabK (woHead ds h))) a = some (.lst (xs.eraseIdx j)) := by rw [upd_ne (Ne.symm B.ne)]; exact ha2
    have hd3 : upd H2 d (.dK (tabK (woHead ds h))) d = some (.dK (tabK (woHead ds h))) := upd_same
    have h43 : upd H2 d (.dK (tabK (woHead ds h))) l4 = some (.lst [.ref p]) := by rw [upd_ne (fun z => by rw [z, hd2] at h42; cases h42)]; exact h42
    have tp3 : Tp H2 (upd H2 d (.dK (tabK (woHead ds h)))) := Tp.of_kept k3 hd2 ha2
    generalize upd H2 d (.dK (tabK (woHead ds h))) = H3 at k3 ha3 hd3 h43 tp3 ⊢
    refine ⟨_, .inl (SqL.of h43), _, atI_nat (j := 0) rfl, ?_⟩
    walk_at "rd"
    refine ⟨_, .inr (SqT.of (tp3 _ _ (tp2 _ _ hp))), _, atI_nat (j := 1) rfl, r0.2, r0.2, rfl, ?_⟩
    rw [decide_eq_true rfl]
    have kk : Kept d a H H3 := (Kept.of s4).trans (k2.trans k3)
    refine q _ (xs.eraseIdx j) kk ⟨B.bd' kk, hd3, ha3, ?_, woHead_perm B.pm h, woHead_nodup h B.nd, fun r hr => B.ln r (List.mem_filter.mp hr).1, B.s0, B.s1⟩
    rw [e5]
    exact RowsAre.mono (Paired.erase j B1.hr) (tp2.trans tp3)
def rd_law_deed (K : PySem.W.Frag) : TS :=
  (tSeq (tAsg (tCall (sp_law_bits_by K) [] E0 (tCons (tOp rDivI (tVar 2) (tC (.int 64))) (tCons (tVar 3) tNil))) (gName 4))
  (tSeq (tAsg (tCall (sp_law_bits_by K) [] E0 (tCons (tOp rDivI (tVar 2) (tC (.int 64))) (tCons (tOp rModI (tOp rDivI (tVar 2) (tC (.int 8))) (tOp rAddA (tCB rMin2 (tCons (tVar 3) (tCons (tC (.int 3)) tNil))) (tC (.int 1)))) tNil))) (gName 5))
  (tSeq (tIfS (tTest (tOp rEqS (tOp rModI (tOp rDivI (tVar 2) (tC (.int 32))) (tC (.int 4))) (tC (.int 1)))) (tAsg (tSl (rSlA K) (tVar 4) tNoPart (tPart (tOp rModI (tOp rDivI (tVar 2) (tC (.int 128))) (tOp rAddA (tVar 3) (tC (.int 1)))))) (gName 5)) tNext)
  (tSeq (tAsg (tOp rModI (tVar 2) (tC (.int 8))) (gName 6))
  (tSeq (tIfS (tTest (tOp rLt (tVar 6) (tC (.int 3)))) (tRet (tCall (sp_law_put K) [] E0 (tCons (tVar 0) (tCons (tVar 1) (tCons (tVar 5) (tCons (tCall (sp_law_way_by K) [] E0 (tCons (tOp rModI (tOp rDivI (tVar 2) (tC (.int 64))) (tOp rPowI (tC (.int 10)) (tC (.int 7)))) (tCons (tC (.int 3)) tNil))) tNil)))))) tNext)
  (tSeq (tIfS (tTest (tOp rEqS (tVar 6) (tC (.int 3)))) (tRet (tCall (sp_law_dropped K) [] E0 (tCons (tVar 0) (tCons (tVar 1) (tCons (tVar 5) tNil))))) tNext)
  (tSeq (tIfS (tTest (tOp rEqS (tVar 6) (tC (.int 4)))) (tRet (tOp (rEqD K) (tCall (sp_law_refused K) [] E0 (tCons (tVar 0) (tCons (tOp rModI (tOp rDivI (tVar 2) (tC (.int 8))) (tC (.int 2))) (tCons (tCall (sp_law_wrong K) [] E0 (tCons (tVar 5) (tCons (tOp rDivI (tVar 2) (tC (.int 16))) (tCons (tVar 3) tNil)))) tNil)))) (tLst (tCons (tC (.bl true)) (tCons (tC (.bl false)) (tCons (tC (.bl false)) tNil)))))) tNext)
  (tSeq (tIfS (tTest (tOp rEqS (tVar 6) (tC (.int 5)))) (tRet (tOp (rEqD K) (tCall (sp_law_refused K) [] E0 (tCons (tVar 0) (tCons (tOp rAddA (tC (.int 2)) (tOp rModI (tOp rDivI (tVar 2) (tC (.int 8))) (tC (.int 2)))) (tCons (tCall (sp_law_wrong K) [] E0 (tCons (tVar 4) (tCons (tOp rDivI (tVar 2) (tC (.int 16))) (tCons (tVar 3) tNil)))) tNil)))) (tLst (tCons (tC (.bl false)) (tCons (tC (.bl false)) (tCons (tC (.bl true)) tNil)))))) tNext)
  (tSeq (tIfS (tAnd (tTest (tOp rEqS (tVar 6) (tC (.int 6)))) (tTest (tOp rGt (tVar 3) (tC (.int 1))))) (tRet (tOp (rEqD K) (tCall (sp_law_refused K) [] E0 (tCons (tVar 0) (tCons (tOp rAddA (tC (.int 2)) (tOp rModI (tOp rDivI (tVar 2) (tC (.int 8))) (tC (.int 2)))) (tCons (tSl (rSlA K) (tVar 4) (tPart (tC (.int 1))) tNoPart) tNil)))) (tLst (tCons (tC (.bl false)) (tCons (tC (.bl false)) (tCons (tC (.bl true)) tNil)))))) tNext)
  (tRet (tCall (sp_law_asked K) [] E0 (tCons (tVar 0) (tCons (tVar 1) (tCons (tVar 4) tNil))))))))))))))
def nm_law_deed : List Str := ["board", "rows", "cell", "size", "address", "head", "way"]
def sp_law_deed (K : PySem.W.Frag) : Sp := fun vs H Q _ => ∃ (b d a : Addr) (S c : Int) (ds rs : List Row) (xs : List V), vs = [.ref b, .ref a, .int c, .int S] ∧ Both K H b d a S ds rs xs ∧ ds.length < 59 ∧
  ∀ H' ds' rs' xs', Kept d a H H' → Both K H' b d a S ds' rs' xs' → ds'.length ≤ ds.length + 1 → Q (.bl true) H'
theorem len_law_deed {K vs H Q E} (h : sp_law_deed K vs H Q E) : vs.length = 4 := by obtain ⟨_, _, _, _, _, _, _, _, rfl, _⟩ := h; rfl
theorem putR_len (ds : List Row) (h : List Bool) (w : Option Int) : (putR ds h w).length ≤ ds.length + 1 := by
  unfold putR
  split
  · rw [List.length_map]; omega
  · rw [List.length_append]; exact Nat.le_refl _
theorem rdok_law_deed {K vs H Q E} (h : sp_law_deed K vs H Q E) : rd_law_deed K { nx := fun _ H' => Q .non H', rt := Q } (start nm_law_deed vs) H := by
  obtain ⟨b, d, a, S, c, ds, rs, xs, rfl, B, hf, q⟩ := h
  have hS0 := B.s0
  have hS := B.s1
  simp only [rd_law_deed, nm_law_deed, L2.start]
  refine tSeq_gen fun U hU => ?_
  walk_at "rd"
  simp only [sp_law_bits_by]
  walk_at "rd"
  refine ⟨by omega, by omega, ?_⟩
  have la : ((bitsBy S.toNat (c / 64)).length : Int) = S := by rw [bitsBy_len]; omega
  generalize bitsBy S.toNat (c / 64) = ad at la ⊢
  subst hU
  refine tSeq_gen fun U hU => ?_
  walk_at "rd"
  simp only [sp_law_bits_by]
  walk_at "rd"
  have hm0 : 0 < (if 3 < S then 3 else S) + 1 := by split <;> omega
  have hm3 : (if 3 < S then 3 else S) + 1 ≤ S + 1 := by split <;> omega
  have hm1 := Int.emod_nonneg (c / 8) (Int.ne_of_gt hm0)
  have hm2 := Int.emod_lt_of_pos (c / 8) hm0
  refine ⟨hm0, hm1, by omega, ?_⟩
  have lh : ((bitsBy (c / 8 % ((if 3 < S then 3 else S) + 1)).toNat (c / 64)).length : Int) ≤ S := by rw [bitsBy_len]; omega
  generalize bitsBy (c / 8 % ((if 3 < S then 3 else S) + 1)).toNat (c / 64) = h0 at lh ⊢
  clear hm0 hm1 hm2 hm3
  subst hU
  refine tSeq_gen fun U hU => ?_
  have cont : ∀ h : List Bool, (h.length : Int) ≤ S → U { nx := fun x H' => Q V.non H', rt := Q } [some (V.ref b), some (V.ref a), some (V.int c), some (V.int S), some (V.str (enc ad)), some (V.str (enc h)), none] H := by
    intro h hh
    subst hU
    refine tSeq_gen fun U hU => ?_
    walk_at "rd"
    subst hU
    have w0 := Int.emod_nonneg c (show (8 : Int) ≠ 0 by omega)
    have w1 := Int.emod_lt_of_pos c (show (0 : Int) < 8 by omega)
    generalize c % 8 = way at w0 w1 ⊢
    have e2 : c / 8 % 2 = 0 ∨ c / 8 % 2 = 1 := by omega
    have e3 : 2 + c / 8 % 2 = 2 ∨ 2 + c / 8 % 2 = 3 := by omega
    refine tSeq_gen fun U hU => ?_
    walk_at "rd"
    split
    · refine ⟨by constructor <;> decide, by decide, ?_⟩
      refine ⟨_, 3, rfl, by decide, ?_⟩
      refine ⟨b, d, a, S, ds, rs, xs, h, _, rfl, B, by omega, hh, fun H' xs' k B' => q H' _ _ _ k B' (putR_len _ _ _)⟩
    rename_i n3
    subst hU
    refine tSeq_gen fun U hU => ?_
    walk_at "rd"
    split
    · exact ⟨b, d, a, S, ds, rs, xs, h, rfl, B, by omega, hh, fun H' xs' k B' => q H' _ _ _ k B' (Nat.le_succ_of_le (woHead_le _ _))⟩
    subst hU
    refine tSeq_gen fun U hU => ?_
    walk_at "rd"
    split
    · refine ⟨h, c / 16, S, rfl, hh, hS, fun z hz o1 o2 => ?_⟩
      refine ⟨b, d, S, c / 8 % 2, z, ds, _, _, _, rfl, B.bd, by omega, B.hd, B.nd, by omega, B.len, .head e2 o1, fun l5 H2 s5 h5 => ⟨by walk_at "sz", fun p hp => three_eq h5 hp ?_⟩⟩
      have ss := s5.trans (Same.upd (o := .lst [.bl true, .bl false, .bl false]) hp)
      exact q _ _ _ _ (Kept.of ss) (B.same ss) (Nat.le_succ _)
    subst hU
    refine tSeq_gen fun U hU => ?_
    walk_at "rd"
    split
    · refine ⟨ad, c / 16, S, rfl, by omega, hS, fun z hz o1 o2 => ?_⟩
      refine ⟨b, d, S, 2 + c / 8 % 2, z, ds, _, _, _, rfl, B.bd, by omega, B.hd, B.nd, by omega, B.len, .address e3 o2, fun l5 H2 s5 h5 => ⟨by walk_at "sz", fun p hp => three_eq h5 hp ?_⟩⟩
      have ss := s5.trans (Same.upd (o := .lst [.bl false, .bl false, .bl true]) hp)
      exact q _ _ _ _ (Kept.of ss) (B.same ss) (Nat.le_succ _)
    subst hU
    refine tSeq_gen fun U hU => ?_
    have rest : U { nx := fun x H' => Q V.non H', rt := Q } [some (V.ref b), some (V.ref a), some (V.int c), some (V.int S), some (V.str (enc ad)), some (V.str (enc h)), some (.int way)] H := by
      subst hU
      walk_at "rd"
      exact ⟨b, d, a, S, ds, rs, xs, ad, rfl, B, by omega, la, fun H' s => q _ _ _ _ (Kept.of s) (B.same s) (Nat.le_succ _)⟩
    walk_at "rd"
    split
    · split
      · refine ⟨by walk_at "sz", ?_⟩
        have e1 : cutS (enc ad) (some 1) none = enc (ad.drop 1) := cut_from ad 1
        rw [e1]
        have o2 : okA (enc (ad.drop 1)) S = false := by
          unfold okA
          rw [enc_len, List.length_drop, decide_eq_false (by omega), Bool.false_and]
        refine ⟨b, d, S, 2 + c / 8 % 2, _, ds, _, _, _, rfl, B.bd, by rw [enc_len, List.length_drop]; omega, B.hd, B.nd, by omega, B.len, .address e3 o2, fun l5 H2 s5 h5 => ⟨by walk_at "sz", fun p hp => three_eq h5 hp ?_⟩⟩
        have ss := s5.trans (Same.upd (o := .lst [.bl false, .bl false, .bl true]) hp)
        exact q _ _ _ _ (Kept.of ss) (B.same ss) (Nat.le_succ _)
      · exact rest
    · exact rest
  walk_at "rd"
  split
  · have i0 := Int.emod_nonneg (c / 128) (show S + 1 ≠ 0 by omega)
    have i1 := Int.emod_lt_of_pos (c / 128) (show 0 < S + 1 by omega)
    obtain ⟨i, hi⟩ := Int.eq_ofNat_of_zero_le i0
    refine ⟨by omega, by walk_at "sz", ?_⟩
    rw [hi, cut_to]
    exact cont _ (by rw [List.length_take]; omega)
  · exact cont h0 lh
/-! ### the law -/
theorem Same.kept {d a : Addr} {H0 H H' : Hp} (s : Same H0 H) (k : Kept d a H H') (hd : H0 d = none) (ha : H0 a = none) : Same H0 H' := fun c o e => k c o (fun z => by rw [z, hd] at e; cases e) (fun z => by rw [z, ha] at e; cases e) (s c o e)
theorem tMake_board {K : PySem.W.Frag} {H : Hp} {Q : VK} {S : Int} {t : TA} {σ : St} (ht : ∀ R : List V → Hp → Prop, R [.int S] H → t σ H R) (q : ∀ b d H', Same H H' → H b = none → H d = none → BoardIs K H' b d S → H' d = some (.dK (tabK [])) → Q (.ref b) H') :
    tMake (clsAt K "Board") (sp_Board_init K) [] E0 t σ H Q := by
  refine ht _ fun b dx hb hdx ne => ?_
  refine ⟨b, dx, S, rfl, upd_same, fun d H' kp hd B h0 => ⟨rfl, ?_⟩⟩
  refine q b d H' (fun c o e => kp c o (fun z => by rw [z, hb] at e; cases e) ?_) hb ?_ B h0
  · rw [upd_ne (fun z => by rw [z, hb] at e; cases e), upd_ne (fun z => by rw [z, hdx] at e; cases e)]; exact e
  · have n1 : d ≠ b := fun z => by rw [z, upd_same] at hd; cases hd
    rw [upd_ne n1] at hd
    have n2 : d ≠ dx := fun z => by rw [z, upd_same] at hd; cases hd
    rw [upd_ne n2] at hd
    exact hd
def rb_law13_1 (K : PySem.W.Frag) : TS :=
  (tSeq (tIfS (tNot (tB (tCall (sp_law_deed K) [] E0 (tCons (tVar 2) (tCons (tVar 4) (tCons (tCall (sp_law_cell_at K) [] E0 (tCons (tVar 0) (tCons (tOp rAddA (tC (.int 2)) (tVar 6)) tNil))) (tCons (tVar 1) tNil))))))) (tRet (tC (.bl false))) tNext)
  (tSeq (tIfS (tNot (tB (tCall (sp_law_asked K) [] E0 (tCons (tVar 2) (tCons (tVar 4) (tCons (tVar 5) tNil)))))) (tRet (tC (.bl false))) tNext)
  (tSeq (tAsg (tCall (sp_law_bits_by K) [] E0 (tCons (tOp rDivI (tCall (sp_law_cell_at K) [] E0 (tCons (tVar 0) (tCons (tOp rAddA (tC (.int 2)) (tVar 6)) tNil))) (tC (.int 64))) (tCons (tVar 1) tNil))) (gName 5))
  (tSeq (tIfS (tNot (tB (tCall (sp_law_asked K) [] E0 (tCons (tVar 2) (tCons (tVar 4) (tCons (tVar 5) tNil)))))) (tRet (tC (.bl false))) tNext)
  (tSeq (tAsg (tMeth (clsAt K "Board") "rows" (sp_Board_rows K) [] E0 (tVar 2) tNil) (gName 7))
  (tSeq (tIfS (tOr (tNot (tB (tCall (sp_law_same_rows K) [] E0 (tCons (tVar 7) (tCons (tSortKey K (sp_law_head K) (tCons (tVar 4) tNil)) tNil))))) (tTest (tOp (rNeD K) (tMeth (clsAt K "Board") "rows" (sp_Board_rows K) [] E0 (tVar 3) tNil) (tLst tNil)))) (tRet (tC (.bl false))) tNext)
  (tDrop (tBM K "list" rAppend (tVar 7) (tCons (tTup (tCons (tC (.str (Str.ofString ""))) (tCons (tC (.int 1)) tNil))) tNil)))))))))
def rd_law13 (K : PySem.W.Frag) : TS :=
  (tSeq (tAsg (tOp rAddA (tC (.int 1)) (tOp rModI (tCall (sp_law_cell_at K) [] E0 (tCons (tVar 0) (tCons (tC (.int 0)) tNil))) (tC (.int 16)))) (gName 1))
  (tSeq (tAsg (tMake (clsAt K "Board") (sp_Board_init K) [] E0 (tCons (tVar 1) tNil)) (gName 2))
  (tSeq (tAsg (tMake (clsAt K "Board") (sp_Board_init K) [] E0 (tCons (tVar 1) tNil)) (gName 3))
  (tSeq (tAsg (tLst tNil) (gName 4))
  (tSeq (tAsg (tOp rMulA (tC (.str (Str.ofString "0"))) (tVar 1)) (gName 5))
  (tSeq (tFor (iRng1 (tCons (tOp rModI (tCall (sp_law_cell_at K) [] E0 (tCons (tVar 0) (tCons (tC (.int 1)) tNil))) (tC (.int 16))) tNil)) (gName 6) (rb_law13_1 K))
  (tSeq (tIfS (tOr (tNot (tB (tCall (sp_law_whole K) [] E0 (tCons (tFldC (clsAt K "Board") (tVar 2) "size") tNil)))) (tTest (tOp rNeS (tFldC (clsAt K "Board") (tVar 2) "size") (tVar 1)))) (tRet (tC (.bl false))) tNext)
  (tRet (tAndV (tCall (sp_law_asked K) [] E0 (tCons (tVar 2) (tCons (tVar 4) (tCons (tOp rMulA (tC (.str (Str.ofString "0"))) (tVar 1)) tNil)))) (tOp rIsN (tMeth (clsAt K "Board") "led" (sp_Board_led K) [] E0 (tVar 3) (tCons (tOp rMulA (tC (.str (Str.ofString "1"))) (tVar 1)) tNil)) (tC .non)))))))))))
def nm_law13 : List Str := ["script", "size", "board", "other", "rows", "last", "k", "found"]
def sp_law13 (K : PySem.W.Frag) : Sp := fun vs H Q _ => ∃ (a : Addr) (ns : List Int), vs = [.ref a] ∧ SqL K H a (ns.map V.int) ∧ ns.length ≤ 63 ∧ ∀ H', Q (.bl true) H'
theorem len_law13 {K vs H Q E} (h : sp_law13 K vs H Q E) : vs.length = 1 := by obtain ⟨_, _, rfl, _⟩ := h; rfl
theorem rdok_law13 {K vs H Q E} (h : sp_law13 K vs H Q E) : rd_law13 K { nx := fun _ H' => Q .non H', rt := Q } (start nm_law13 vs) H := by
  obtain ⟨s, ns, rfl, hs, _, q⟩ := h
  simp only [rd_law13, nm_law13, L2.start]
  refine tSeq_gen fun U hU => ?_
  walk_at "rd"
  refine cell_app hs (by decide) ?_
  walk_at "rd"
  subst hU
  have hS0 : 1 ≤ 1 + cell ns 0 % 16 := by omega
  have hS1 : 1 + cell ns 0 % 16 ≤ 16 := by omega
  generalize 1 + cell ns 0 % 16 = S at hS0 hS1 ⊢
  -- the boards
  refine tSeq_gen fun U hU => ?_
  walk_at "rd"
  refine tMake_board (S := S) (fun R z => by walk_at "rd"; exact z) fun b d H1 s1 fb fd B1 hd1 => ?_
  subst hU
  refine tSeq_gen fun U hU => ?_
  walk_at "rd"
  refine tMake_board (S := S) (fun R z => by walk_at "rd"; exact z) fun b2 d2 H2 s2 fb2 fd2 B2 hd2 => ?_
  have nd2 : d2 ≠ d := fun z => by rw [z, hd1] at fd2; cases fd2
  subst hU
  refine tSeq_gen fun U hU => ?_
  walk_at "rd"
  refine ⟨by walk_at "sz", fun a fa => ?_⟩
  have na : d ≠ a := fun z => by rw [← z, s2 _ _ hd1] at fa; cases fa
  have nb2a : b2 ≠ a := fun z => by obtain ⟨dx, e⟩ := B2; rw [z, fa] at e; cases e
  have nd2a : d2 ≠ a := fun z => by rw [z, fa] at hd2; cases hd2
  have nb2d : b2 ≠ d := fun z => by obtain ⟨dx, e⟩ := B2; rw [z, s2 _ _ hd1] at e; cases e
  have s3 : Same H2 (upd H2 a (.lst [])) := Same.upd fa
  have h3 : upd H2 a (.lst []) a = some (.lst []) := upd_same
  have fa0 : H a = none := s1.free (s2.free fa)
  generalize upd H2 a (.lst []) = H3 at s3 h3 ⊢
  have s03 := s1.trans (s2.trans s3)
  have s13 := s2.trans s3
  subst hU
  refine tSeq_gen fun U hU => ?_
  walk_at "rd"
  refine ⟨by omega, by omega, by walk_at "sz", ?_⟩
  rw [repS_enc]
  subst hU
  refine tSeq_gen fun U hU => ?_
  have n0 := Int.emod_nonneg (cell ns 1) (show (16 : Int) ≠ 0 by omega)
  have n1 := Int.emod_lt_of_pos (cell ns 1) (show (0 : Int) < 16 by omega)
  refine tFor_rng1 (cell ns 1 % 16).toNat (by omega) (fun k σ H' => Same H H' ∧ BoardIs K H' b2 d2 S ∧ H' d2 = some (.dK (tabK [])) ∧ ∃ ds rs xs ad o1 o2, σ = [some (V.ref s), some (V.int S), some (V.ref b), some (V.ref b2), some (V.ref a), some (.str (enc ad)), o1, o2] ∧ (ad.length : Int) = S ∧ Both K H' b d a S ds rs xs ∧ ds.length ≤ k) ?_ ?_ ?_ ?_
  · intro R h
    walk_at "rd"
    refine cell_app (s03.seq hs) (by decide) ?_
    walk_at "rd"
    rw [show (((cell ns 1 % 16).toNat : Nat) : Int) = cell ns 1 % 16 by omega] at h
    exact h
  · exact ⟨s03, B2.same s3, s3 _ _ hd2, [], [], [], List.replicate S.toNat false, none, none, rfl, by rw [List.length_replicate]; omega, ⟨B1.same s13, s13 _ _ hd1, h3, .nil, .refl _, .nil, (fun r hr => by cases hr), hS0, hS1⟩, Nat.le_refl _⟩
  · rintro k σ H' hk ⟨sm, Bo, hd2', ds, rs, xs, ad, o1, o2, rfl, la, B, hf⟩
    have hs' := sm.seq hs
    simp only [rb_law13_1, gName, List.set_cons_succ, List.set_cons_zero]
    refine tSeq_gen fun U hU => ?_
    walk_at "rd"
    refine cell_app hs' (by omega) ?_
    refine ⟨b, d, a, S, _, ds, rs, xs, rfl, B, by omega, fun H1 ds1 rs1 xs1 k1 B1 hf1 => ?_⟩
    have sm1 := Same.kept sm k1 fd fa0
    have Bo1 : BoardIs K H1 b2 d2 S := let ⟨dx, e⟩ := Bo; ⟨dx, k1 _ _ nb2d nb2a e⟩
    have hd21 := k1 _ _ nd2 nd2a hd2'
    have hf1 : ds1.length ≤ k + 1 := by omega
    clear k1 hd2' Bo B sm hs' hf
    refine ⟨_, rfl, ?_⟩
    walk_at "rd"
    subst hU
    refine tSeq_gen fun U hU => ?_
    walk_at "rd"
    refine ⟨b, d, a, S, ds1, rs1, xs1, ad, rfl, B1, by omega, la, fun H2 s2 => ⟨_, rfl, ?_⟩⟩
    walk_at "rd"
    subst hU
    refine tSeq_gen fun U hU => ?_
    walk_at "rd"
    have sm2 := sm1.trans s2
    refine cell_app (sm2.seq hs) (by omega) ?_
    walk_at "rd"
    simp only [sp_law_bits_by]
    walk_at "rd"
    refine ⟨by omega, by omega, ?_⟩
    have la2 : ((bitsBy S.toNat (cell ns (2 + k) / 64)).length : Int) = S := by rw [bitsBy_len]; omega
    generalize bitsBy S.toNat (cell ns (2 + k) / 64) = ad2 at la2 ⊢
    have B2 := B1.same s2
    have Bo2 := Bo1.same s2
    have hd22 := s2 _ _ hd21
    clear B1 Bo1 hd21 s2 sm1
    subst hU
    refine tSeq_gen fun U hU => ?_
    walk_at "rd"
    refine ⟨b, d, a, S, ds1, rs1, xs1, ad2, rfl, B2, by omega, la2, fun H3 s3 => ⟨_, rfl, ?_⟩⟩
    walk_at "rd"
    have B3 := B2.same s3
    have Bo3 := Bo2.same s3
    have hd23 := s3 _ _ hd22
    have sm3 := sm2.trans s3
    clear B2 Bo2 hd22 s3 sm2
    subst hU
    refine tSeq_gen fun U hU => ?_
    walk_at "rb"
    obtain ⟨dx, hb3⟩ := B3.bd
    obtain ⟨ss, so⟩ := SortR.ex ds1
    refine ⟨dx, _, hb3, rfl, b, d, S, ds1, ss, rfl, B3.bd, B3.hd, B3.nd, by omega, so, fun l4 H4 ys4 s4 nl4 hl4 hr4 => ?_⟩
    have B4 := B3.same s4
    have Bo4 := Bo3.same s4
    have hd24 := s4 _ _ hd23
    subst hU
    refine tSeq_gen fun U hU => ?_
    walk_at "rd"
    have lp := B3.pm.length_eq
    refine tSort_rows (fun p v ws H2 hp => ⟨p, v, ws, rfl, hp, rfl, rfl⟩) (fun R z => by walk_at "rd"; exact z) B4.ha B4.hr (by omega) (fun l6 y6 ss6 hl6 r6 so6 => ?_)
    have es : ss = ss6 := SortR.unique so so6 B3.pm B3.nd
    subst es
    have s6 : Same H4 (upd H4 l6 (.lst y6)) := Same.upd hl6
    have h6 : upd H4 l6 (.lst y6) l6 = some (.lst y6) := upd_same
    generalize upd H4 l6 (.lst y6) = H6 at s6 h6 ⊢
    refine ⟨l4, l6, ys4, y6, ss, rfl, s6 _ _ hl4, h6, RowsAre.mono hr4 s6.tp, RowsAre.mono r6 s6.tp, by have := so.perm.length_eq; omega, _, rfl, ?_⟩
    walk_at "rb"
    obtain ⟨dx2, hb6⟩ := Bo4.same s6
    refine ⟨dx2, _, hb6, rfl, b2, d2, S, [], [], rfl, ⟨dx2, hb6⟩, s6 _ _ hd24, .nil, by decide, ⟨.refl _, .nil⟩, fun l7 H7 ys7 s7 nl7 hl7 hr7 => ?_⟩
    cases hr7
    refine ⟨by walk_at "sz", fun l8 hl8 => ?_⟩
    have s8 : Same H7 (upd H7 l8 (.lst [])) := Same.upd hl8
    have h8 : upd H7 l8 (.lst []) l8 = some (.lst []) := upd_same
    generalize upd H7 l8 (.lst []) = H8 at s8 h8 ⊢
    refine ⟨.list [], .list [], .lst (SqL.of (s8 _ _ hl7)) .nil, .lst (SqL.of h8) .nil, rfl, rfl, false, rfl, ?_⟩
    rw [if_neg Bool.false_ne_true]
    have s48 : Same H4 H8 := s6.trans (s7.trans s8)
    subst hU
    walk_at "rd"
    have B8 := B4.same s48
    have Bo8 := Bo4.same s48
    have hd28 := s48 _ _ hd24
    have hl48 := s48 _ _ hl4
    refine ⟨tyV_lst hl48, by walk_at "sz", fun p hp => ?_⟩
    have s9 : Same H8 (upd H8 p (.tup [.str (enc []), .int 1])) := Same.upd hp
    generalize upd H8 p (.tup [.str (enc []), .int 1]) = H9 at s9 ⊢
    have ly4 := Paired.length hr4
    have lso := so.perm.length_eq
    refine ⟨l4, ys4, _, rfl, rfl, s9 _ _ hl48, by walk_at "sz", ?_⟩
    have s39 : Same H3 H9 := s4.trans (s48.trans s9)
    have s310 : Same H3 (upd H9 l4 (.lst (ys4 ++ [.ref p]))) := fun c o e => by rw [upd_ne (ne_of_none e nl4)]; exact s39 c o e
    generalize upd H9 l4 (.lst (ys4 ++ [.ref p])) = H10 at s310 ⊢
    exact ⟨sm3.trans s310, Bo3.same s310, s310 _ _ hd23, la2, ds1, ⟨rs1, xs1, B3.same s310⟩, hf1⟩
  · rintro σ H' ⟨sm, Bo, hd2', ds, rs, xs, ad, o1, o2, rfl, la, B, hf⟩
    dsimp only
    subst hU
    refine tSeq_gen fun U hU => ?_
    obtain ⟨dx, hb⟩ := B.bd
    walk_at "rb"
    refine ⟨dx, _, hb, _, rfl, ?_⟩
    show ∃ c, _ = V.bl c ∧ _
    refine ⟨true, rfl, ?_⟩
    simp only [Bool.not_true, if_neg Bool.false_ne_true]
    refine ⟨dx, _, hb, _, rfl, ?_⟩
    dsimp only
    rw [decide_eq_true rfl]
    simp only [Bool.not_true, if_neg Bool.false_ne_true]
    subst hU
    walk_at "rb"
    refine ⟨by omega, by omega, by walk_at "sz", ?_⟩
    rw [repS_enc]
    refine ⟨b, d, a, S, ds, rs, xs, _, rfl, B, by omega, by rw [List.length_replicate]; omega, fun H2 s2 => ⟨_, rfl, ?_⟩⟩
    rw [if_pos rfl]
    obtain ⟨dx2, hb2⟩ := Bo.same s2
    refine ⟨dx2, _, hb2, rfl, by omega, by omega, by walk_at "sz", ?_⟩
    rw [repS_enc]
    refine ⟨b2, d2, S, _, [], rfl, ⟨dx2, hb2⟩, by rw [enc_len, List.length_replicate]; omega, s2 _ _ hd2', .nil, by decide, (fun r hr => by cases hr), .inr ⟨_, rfl, by rw [List.length_replicate]; omega, fun H3 s3 => ?_⟩⟩
    exact q _
def top (i : Nat) : Stmt := PySem.Challenge.pw_headroad_k13_whole_board.main.body.getD i (.Pass ⟨0, 0, 0, 0⟩)
abbrev s_begins : Stmt := top 9
theorem sc_begins : FnScope ["head", "address"] ["head", "address"] (defScope s_begins) := ⟨rfl, rfl, rfl, by decide +kernel, rfl, by decide +kernel, by decide +kernel⟩
abbrev s_is_head : Stmt := top 10
theorem sc_is_head : FnScope ["text", "size"] ["text", "size"] (defScope s_is_head) := ⟨rfl, rfl, rfl, by decide +kernel, rfl, by decide +kernel, by decide +kernel⟩
abbrev s_is_address : Stmt := top 11
theorem sc_is_address : FnScope ["text", "size"] ["text", "size"] (defScope s_is_address) := ⟨rfl, rfl, rfl, by decide +kernel, rfl, by decide +kernel, by decide +kernel⟩
abbrev s_leading_row : Stmt := top 13
theorem sc_leading_row : FnScope ["rows", "address", "leading", "row"] ["rows", "address"] (defScope s_leading_row) := ⟨rfl, rfl, rfl, by decide +kernel, rfl, by decide +kernel, by decide +kernel⟩
abbrev s_head_for : Stmt := top 14
theorem sc_head_for : FnScope ["rows", "address", "row"] ["rows", "address"] (defScope s_head_for) := ⟨rfl, rfl, rfl, by decide +kernel, rfl, by decide +kernel, by decide +kernel⟩
abbrev s_way_for : Stmt := top 15
theorem sc_way_for : FnScope ["rows", "address", "row"] ["rows", "address"] (defScope s_way_for) := ⟨rfl, rfl, rfl, by decide +kernel, rfl, by decide +kernel, by decide +kernel⟩
abbrev s__law_cell_at : Stmt := top 20
theorem sc__law_cell_at : FnScope ["script", "k"] ["script", "k"] (defScope s__law_cell_at) := ⟨rfl, rfl, rfl, by decide +kernel, rfl, by decide +kernel, by decide +kernel⟩
abbrev s__law_whole : Stmt := top 21
theorem sc__law_whole : FnScope ["found"] ["found"] (defScope s__law_whole) := ⟨rfl, rfl, rfl, by decide +kernel, rfl, by decide +kernel, by decide +kernel⟩
abbrev s__law_bits_by : Stmt := top 22
theorem sc__law_bits_by : FnScope ["cell", "size", "text", "k"] ["cell", "size"] (defScope s__law_bits_by) := ⟨rfl, rfl, rfl, by decide +kernel, rfl, by decide +kernel, by decide +kernel⟩
abbrev s__law_way_by : Stmt := top 23
theorem sc__law_way_by : FnScope ["cell", "few"] ["cell", "few"] (defScope s__law_way_by) := ⟨rfl, rfl, rfl, by decide +kernel, rfl, by decide +kernel, by decide +kernel⟩
abbrev s__law_head_for : Stmt := top 24
theorem sc__law_head_for : FnScope ["rows", "address", "found", "row"] ["rows", "address"] (defScope s__law_head_for) := ⟨rfl, rfl, rfl, by decide +kernel, rfl, by decide +kernel, by decide +kernel⟩
abbrev s__law_way_is : Stmt := top 25
theorem sc__law_way_is : FnScope ["found", "due"] ["found", "due"] (defScope s__law_way_is) := ⟨rfl, rfl, rfl, by decide +kernel, rfl, by decide +kernel, by decide +kernel⟩
abbrev s__law_same_rows : Stmt := top 26
theorem sc__law_same_rows : FnScope ["found", "due", "k"] ["found", "due"] (defScope s__law_same_rows) := ⟨rfl, rfl, rfl, by decide +kernel, rfl, by decide +kernel, by decide +kernel⟩
abbrev s__law_head : Stmt := top 27
theorem sc__law_head : FnScope ["row"] ["row"] (defScope s__law_head) := ⟨rfl, rfl, rfl, by decide +kernel, rfl, by decide +kernel, by decide +kernel⟩
abbrev s__law_wrong : Stmt := top 28
theorem sc__law_wrong : FnScope ["text", "cell", "size", "at", "sign"] ["text", "cell", "size"] (defScope s__law_wrong) := ⟨rfl, rfl, rfl, by decide +kernel, rfl, by decide +kernel, by decide +kernel⟩
abbrev s__law_refused : Stmt := top 29
theorem sc__law_refused : FnScope ["board", "way", "text", "kinds", "e"] ["board", "way", "text"] (defScope s__law_refused) := ⟨rfl, rfl, rfl, by decide +kernel, rfl, by decide +kernel, by decide +kernel⟩
abbrev s__law_asked : Stmt := top 30
theorem sc__law_asked : FnScope ["board", "rows", "address", "row", "head", "way"] ["board", "rows", "address"] (defScope s__law_asked) := ⟨rfl, rfl, rfl, by decide +kernel, rfl, by decide +kernel, by decide +kernel⟩
abbrev s__law_put : Stmt := top 31
theorem sc__law_put : FnScope ["board", "rows", "head", "way", "found", "there", "kept"] ["board", "rows", "head", "way"] (defScope s__law_put) := ⟨rfl, rfl, rfl, by decide +kernel, rfl, by decide +kernel, by decide +kernel⟩
abbrev s__law_dropped : Stmt := top 32
theorem sc__law_dropped : FnScope ["board", "rows", "head", "there"] ["board", "rows", "head"] (defScope s__law_dropped) := ⟨rfl, rfl, rfl, by decide +kernel, rfl, by decide +kernel, by decide +kernel⟩
abbrev s__law_deed : Stmt := top 33
theorem sc__law_deed : FnScope ["board", "rows", "cell", "size", "address", "head", "way"] ["board", "rows", "cell", "size"] (defScope s__law_deed) := ⟨rfl, rfl, rfl, by decide +kernel, rfl, by decide +kernel, by decide +kernel⟩
abbrev s_law : Stmt := top 34
theorem sc_law : FnScope ["script", "size", "board", "other", "rows", "last", "k", "found"] ["script"] (defScope s_law) := ⟨rfl, rfl, rfl, by decide +kernel, rfl, by decide +kernel, by decide +kernel⟩
abbrev s_Board_init : Stmt := inClass (top 18) 0
theorem sc_Board_init : FnScope ["self", "size"] ["self", "size"] (defScope s_Board_init) := ⟨rfl, rfl, rfl, by decide +kernel, rfl, by decide +kernel, by decide +kernel⟩
abbrev s_Board_check_head : Stmt := inClass (top 18) 1
theorem sc_Board_check_head : FnScope ["self", "head"] ["self", "head"] (defScope s_Board_check_head) := ⟨rfl, rfl, rfl, by decide +kernel, rfl, by decide +kernel, by decide +kernel⟩
abbrev s_Board_check_address : Stmt := inClass (top 18) 2
theorem sc_Board_check_address : FnScope ["self", "address"] ["self", "address"] (defScope s_Board_check_address) := ⟨rfl, rfl, rfl, by decide +kernel, rfl, by decide +kernel, by decide +kernel⟩
abbrev s_Board_put : Stmt := inClass (top 18) 3
theorem sc_Board_put : FnScope ["self", "head", "way", "there"] ["self", "head", "way"] (defScope s_Board_put) := ⟨rfl, rfl, rfl, by decide +kernel, rfl, by decide +kernel, by decide +kernel⟩
abbrev s_Board_drop : Stmt := inClass (top 18) 4
theorem sc_Board_drop : FnScope ["self", "head"] ["self", "head"] (defScope s_Board_drop) := ⟨rfl, rfl, rfl, by decide +kernel, rfl, by decide +kernel, by decide +kernel⟩
abbrev s_Board_rows : Stmt := inClass (top 18) 5
theorem sc_Board_rows : FnScope ["self"] ["self"] (defScope s_Board_rows) := ⟨rfl, rfl, rfl, by decide +kernel, rfl, by decide +kernel, by decide +kernel⟩
abbrev s_Board_led : Stmt := inClass (top 18) 6
theorem sc_Board_led : FnScope ["self", "address"] ["self", "address"] (defScope s_Board_led) := ⟨rfl, rfl, rfl, by decide +kernel, rfl, by decide +kernel, by decide +kernel⟩
abbrev s_Board_by_which : Stmt := inClass (top 18) 7
theorem sc_Board_by_which : FnScope ["self", "address"] ["self", "address"] (defScope s_Board_by_which) := ⟨rfl, rfl, rfl, by decide +kernel, rfl, by decide +kernel, by decide +kernel⟩
structure Txt (K : PySem.W.Frag) (mg : Str → Option Value) : Prop where
  b_bool : mg "bool" = none
  b_int : mg "int" = none
  b_isinstance : mg "isinstance" = none
  b_len : mg "len" = none
  b_list : mg "list" = none
  b_min : mg "min" = none
  b_range : mg "range" = none
  b_sorted : mg "sorted" = none
  b_str : mg "str" = none
  b_tuple : mg "tuple" = none
  c_BadAddress : mg "BadAddress" = some (.ref (clsAt K "BadAddress"))
  e_BadAddress : PySem.W.excIn K (clsAt K "BadAddress") bmV "ValueError.__new__" = true
  c_BadHead : mg "BadHead" = some (.ref (clsAt K "BadHead"))
  e_BadHead : PySem.W.excIn K (clsAt K "BadHead") bmV "ValueError.__new__" = true
  c_BadLine : mg "BadLine" = some (.ref (clsAt K "BadLine"))
  e_BadLine : PySem.W.excIn K (clsAt K "BadLine") bmV "ValueError.__new__" = true
  c_BadSpan : mg "BadSpan" = some (.ref (clsAt K "BadSpan"))
  e_BadSpan : PySem.W.excIn K (clsAt K "BadSpan") bmV "ValueError.__new__" = true
  c_FullBoard : mg "FullBoard" = some (.ref (clsAt K "FullBoard"))
  e_FullBoard : PySem.W.excIn K (clsAt K "FullBoard") bmV "ValueError.__new__" = true
  c_NoHead : mg "NoHead" = some (.ref (clsAt K "NoHead"))
  e_NoHead : PySem.W.excIn K (clsAt K "NoHead") bmV "ValueError.__new__" = true
  c_RoadError : mg "RoadError" = some (.ref (clsAt K "RoadError"))
  e_RoadError : PySem.W.excIn K (clsAt K "RoadError") bmV "ValueError.__new__" = true
  g_MOST_ROWS : ∃ t, mg "MOST_ROWS" = some (.int 60 t)
  k_Board : Cls K (clsAt K "Board")
  n_Board_size : NoAttr K (clsAt K "Board") "size"
  n_Board_ways : NoAttr K (clsAt K "Board") "ways"
  err : K13.Err K
seal L2.PS L2.PE L2.PA L2.PSs L2.PT in
theorem tm_begins {P : Program} {w : World} {K : PySem.W.Frag} {mg : Str → Option Value} {base : Heap} {f : Addr} {cdv : Value} {A : Around} {outer : List Env} {s : Shared} {H : Hp} {E : XK} (T : Txt K mg)  (hr : Room 0 (A.deeper (PyProof.Rows.envOfC "begins" (defScope s_begins) s.heap.objs.size f cdv))) :
    PSs (cxOf CX0 P w K mg base ["head", "address"] "begins" (defScope s_begins) f cdv A outer s H E).nox (defBody s_begins) (rd_begins K) :=
  (pss_one (ps_ret (pe_bm PySem.F.plainAttrs_str PySem.F.slot_str_startswith PySem.F.type_str_startswith mt_startsB (pv 1) (pa_cons (pv 0) pa_nil))))
seal L2.PS L2.PE L2.PA L2.PSs L2.PT in
theorem ok_begins {P : Program} {w : World} {K : PySem.W.Frag} {mg : Str → Option Value} {base : Heap} {f : Addr} {fd : FuncData} (F : Fun K "begins" "begins" s_begins f fd) (T : Txt K mg)  : FnOk P w K mg base CX0 1 f fd ["head", "address"] (sp_begins K) :=
  F.ok sc_begins (k := 0) (fun vs H Q E h => len_begins h) (fun cdv A outer s H vs Q E hr h => ⟨_, tm_begins T  hr, rdok_begins h⟩)

seal L2.PS L2.PE L2.PA L2.PSs L2.PT in
theorem tm_is_head {P : Program} {w : World} {K : PySem.W.Frag} {mg : Str → Option Value} {base : Heap} {f : Addr} {cdv : Value} {A : Around} {outer : List Env} {s : Shared} {H : Hp} {E : XK} (T : Txt K mg)  (hr : Room 0 (A.deeper (PyProof.Rows.envOfC "is_head" (defScope s_is_head) s.heap.objs.size f cdv))) :
    PSs (cxOf CX0 P w K mg base ["text", "size"] "is_head" (defScope s_is_head) f cdv A outer s H E).nox (defBody s_is_head) (rd_is_head K) :=
  (pss_one (ps_ret (pe_and (pe_cmpR op_leB (pe_callB call_lenB rfl T.b_len bt_len (pa_cons (pv 0) pa_nil)) (pv 1) (nomark _)) (pe_one (pe_cmpR op_eqB (pe_op op_addB (pe_bm PySem.F.plainAttrs_str PySem.F.slot_str_count PySem.F.type_str_count mt_count (pv 0) (pa_cons pe_str pa_nil)) (pe_bm PySem.F.plainAttrs_str PySem.F.slot_str_count PySem.F.type_str_count mt_count (pv 0) (pa_cons pe_str pa_nil))) (pe_callB call_lenB rfl T.b_len bt_len (pa_cons (pv 0) pa_nil)) (nomark _))))))
seal L2.PS L2.PE L2.PA L2.PSs L2.PT in
theorem ok_is_head {P : Program} {w : World} {K : PySem.W.Frag} {mg : Str → Option Value} {base : Heap} {f : Addr} {fd : FuncData} (F : Fun K "is_head" "is_head" s_is_head f fd) (T : Txt K mg)  : FnOk P w K mg base CX0 1 f fd ["text", "size"] (sp_is_head K) :=
  F.ok sc_is_head (k := 0) (fun vs H Q E h => len_is_head h) (fun cdv A outer s H vs Q E hr h => ⟨_, tm_is_head T  hr, rdok_is_head h⟩)

seal L2.PS L2.PE L2.PA L2.PSs L2.PT in
theorem tm__law_cell_at {P : Program} {w : World} {K : PySem.W.Frag} {mg : Str → Option Value} {base : Heap} {f : Addr} {cdv : Value} {A : Around} {outer : List Env} {s : Shared} {H : Hp} {E : XK} (T : Txt K mg)  (hr : Room 0 (A.deeper (PyProof.Rows.envOfC "_law_cell_at" (defScope s__law_cell_at) s.heap.objs.size f cdv))) :
    PSs (cxOf CX0 P w K mg base ["script", "k"] "_law_cell_at" (defScope s__law_cell_at) f cdv A outer s H E).nox (defBody s__law_cell_at) (rd_law_cell_at K) :=
  (pss_cons (ps_if (pt_cmpR op_ltB (pv 1) (pe_callB call_lenB rfl T.b_len bt_len (pa_cons (pv 0) pa_nil)) (nomark _)) (pss_one (ps_ret (pe_ix ix_B (pv 0) (pv 1) (fun _ _ => rfl)))) pss_nil)
      (pss_one (ps_ret pe_int)))
seal L2.PS L2.PE L2.PA L2.PSs L2.PT in
theorem ok__law_cell_at {P : Program} {w : World} {K : PySem.W.Frag} {mg : Str → Option Value} {base : Heap} {f : Addr} {fd : FuncData} (F : Fun K "_law_cell_at" "_law_cell_at" s__law_cell_at f fd) (T : Txt K mg)  : FnOk P w K mg base CX0 1 f fd ["script", "k"] (sp_law_cell_at K) :=
  F.ok sc__law_cell_at (k := 0) (fun vs H Q E h => len_law_cell_at h) (fun cdv A outer s H vs Q E hr h => ⟨_, tm__law_cell_at T  hr, rdok_law_cell_at h⟩)

seal L2.PS L2.PE L2.PA L2.PSs L2.PT in
theorem tm__law_whole {P : Program} {w : World} {K : PySem.W.Frag} {mg : Str → Option Value} {base : Heap} {f : Addr} {cdv : Value} {A : Around} {outer : List Env} {s : Shared} {H : Hp} {E : XK} (T : Txt K mg)  (hr : Room 0 (A.deeper (PyProof.Rows.envOfC "_law_whole" (defScope s__law_whole) s.heap.objs.size f cdv))) :
    PSs (cxOf CX0 P w K mg base ["found"] "_law_whole" (defScope s__law_whole) f cdv A outer s H E).nox (defBody s__law_whole) (rd_law_whole K) :=
  (pss_one (ps_ret (pe_and (pe_callB call_isiB rfl T.b_isinstance bt_isinstance (pa_cons (pv 0) (pa_cons (pe_bltn rfl T.b_int bt_int rfl) pa_nil))) (pe_one (pe_not (pe_callB call_isiB rfl T.b_isinstance bt_isinstance (pa_cons (pv 0) (pa_cons (pe_bltn rfl T.b_bool bt_bool rfl) pa_nil))))))))
seal L2.PS L2.PE L2.PA L2.PSs L2.PT in
theorem ok__law_whole {P : Program} {w : World} {K : PySem.W.Frag} {mg : Str → Option Value} {base : Heap} {f : Addr} {fd : FuncData} (F : Fun K "_law_whole" "_law_whole" s__law_whole f fd) (T : Txt K mg)  : FnOk P w K mg base CX0 1 f fd ["found"] (sp_law_whole K) :=
  F.ok sc__law_whole (k := 0) (fun vs H Q E h => len_law_whole h) (fun cdv A outer s H vs Q E hr h => ⟨_, tm__law_whole T  hr, rdok_law_whole h⟩)

seal L2.PS L2.PE L2.PA L2.PSs L2.PT in
theorem tm__law_bits_by {P : Program} {w : World} {K : PySem.W.Frag} {mg : Str → Option Value} {base : Heap} {f : Addr} {cdv : Value} {A : Around} {outer : List Env} {s : Shared} {H : Hp} {E : XK} (T : Txt K mg)  (hr : Room 0 (A.deeper (PyProof.Rows.envOfC "_law_bits_by" (defScope s__law_bits_by) s.heap.objs.size f cdv))) :
    PSs (cxOf CX0 P w K mg base ["cell", "size", "text", "k"] "_law_bits_by" (defScope s__law_bits_by) f cdv A outer s H E).nox (defBody s__law_bits_by) (rd_law_bits_by K) :=
  (pss_cons (ps_set (i := 2) sc__law_bits_by.nd rfl (Or.inl rfl) pe_str)
      (pss_cons (ps_for PassesOwn.never rfl (pi_range1 rfl T.b_range (pa_cons (pv 1) pa_nil)) (pg_name (i := 3) sc__law_bits_by.nd rfl (Or.inl rfl))
      (pss_cons (ps_set (i := 2) sc__law_bits_by.nd rfl (Or.inl rfl) (pe_op op_addB (pv 2) (pe_ix ix_B pe_str (pe_op op_modB (pv 0) pe_int) (fun _ _ => rfl))))
      (pss_one (ps_set (i := 0) sc__law_bits_by.nd rfl (Or.inl rfl) (pe_op op_divB (pv 0) pe_int)))))
      (pss_one (ps_ret (pv 2)))))
seal L2.PS L2.PE L2.PA L2.PSs L2.PT in
theorem ok__law_bits_by {P : Program} {w : World} {K : PySem.W.Frag} {mg : Str → Option Value} {base : Heap} {f : Addr} {fd : FuncData} (F : Fun K "_law_bits_by" "_law_bits_by" s__law_bits_by f fd) (T : Txt K mg)  : FnOk P w K mg base CX0 1 f fd ["cell", "size"] (sp_law_bits_by K) :=
  F.ok sc__law_bits_by (k := 0) (fun vs H Q E h => len_law_bits_by h) (fun cdv A outer s H vs Q E hr h => ⟨_, tm__law_bits_by T  hr, rdok_law_bits_by h⟩)

seal L2.PS L2.PE L2.PA L2.PSs L2.PT in
theorem tm__law_way_by {P : Program} {w : World} {K : PySem.W.Frag} {mg : Str → Option Value} {base : Heap} {f : Addr} {cdv : Value} {A : Around} {outer : List Env} {s : Shared} {H : Hp} {E : XK} (T : Txt K mg)  (hr : Room 0 (A.deeper (PyProof.Rows.envOfC "_law_way_by" (defScope s__law_way_by) s.heap.objs.size f cdv))) :
    PSs (cxOf CX0 P w K mg base ["cell", "few"] "_law_way_by" (defScope s__law_way_by) f cdv A outer s H E).nox (defBody s__law_way_by) (rd_law_way_by K) :=
  (pss_cons (ps_if (pt_cmpR op_eqB (pe_op op_modB (pv 0) pe_int) pe_int (nomark _)) (pss_one (ps_ret pe_non)) pss_nil)
      (pss_cons (ps_if (pt_cmpR op_eqB (pe_op op_modB (pe_op op_divB (pv 0) pe_int) pe_int) pe_int (nomark _)) (pss_one (ps_ret (pe_op op_modB (pe_op op_divB (pv 0) pe_int) pe_int))) pss_nil)
      (pss_one (ps_ret (pe_op op_modB (pe_op op_divB (pv 0) pe_int) (pv 1))))))
seal L2.PS L2.PE L2.PA L2.PSs L2.PT in
theorem ok__law_way_by {P : Program} {w : World} {K : PySem.W.Frag} {mg : Str → Option Value} {base : Heap} {f : Addr} {fd : FuncData} (F : Fun K "_law_way_by" "_law_way_by" s__law_way_by f fd) (T : Txt K mg)  : FnOk P w K mg base CX0 1 f fd ["cell", "few"] (sp_law_way_by K) :=
  F.ok sc__law_way_by (k := 0) (fun vs H Q E h => len_law_way_by h) (fun cdv A outer s H vs Q E hr h => ⟨_, tm__law_way_by T  hr, rdok_law_way_by h⟩)

seal L2.PS L2.PE L2.PA L2.PSs L2.PT in
theorem tm__law_head_for {P : Program} {w : World} {K : PySem.W.Frag} {mg : Str → Option Value} {base : Heap} {f : Addr} {cdv : Value} {A : Around} {outer : List Env} {s : Shared} {H : Hp} {E : XK} (T : Txt K mg)  (hr : Room 0 (A.deeper (PyProof.Rows.envOfC "_law_head_for" (defScope s__law_head_for) s.heap.objs.size f cdv))) :
    PSs (cxOf CX0 P w K mg base ["rows", "address", "found", "row"] "_law_head_for" (defScope s__law_head_for) f cdv A outer s H E).nox (defBody s__law_head_for) (rd_law_head_for K) :=
  (pss_cons (ps_set (i := 2) sc__law_head_for.nd rfl (Or.inl rfl) pe_non)
      (pss_cons (ps_for PassesOwn.never rfl (pi_list (pv 0)) (pg_name (i := 3) sc__law_head_for.nd rfl (Or.inl rfl))
      (pss_one (ps_if (pt_cmpR op_eqB (pe_slice sl_B (pv 1) po_none (po_some (pe_callB call_lenB rfl T.b_len bt_len (pa_cons (pe_ix ix_B (pv 3) pe_int (fun _ _ => rfl)) pa_nil)))) (pe_ix ix_B (pv 3) pe_int (fun _ _ => rfl)) (nomark _)) (pss_one (ps_if (PW.pt (pw_or (pt_cmpR op_isNB (pv 2) pe_non (nomark _)) (pw_or1 (pt_cmpR op_gtB (pe_callB call_lenB rfl T.b_len bt_len (pa_cons (pe_ix ix_B (pv 3) pe_int (fun _ _ => rfl)) pa_nil)) (pe_callB call_lenB rfl T.b_len bt_len (pa_cons (pe_ix ix_B (pv 2) pe_int (fun _ _ => rfl)) pa_nil)) (nomark _))))) (pss_one (ps_set (i := 2) sc__law_head_for.nd rfl (Or.inl rfl) (pv 3))) pss_nil)) pss_nil)))
      (pss_one (ps_ret (pv 2)))))
seal L2.PS L2.PE L2.PA L2.PSs L2.PT in
theorem ok__law_head_for {P : Program} {w : World} {K : PySem.W.Frag} {mg : Str → Option Value} {base : Heap} {f : Addr} {fd : FuncData} (F : Fun K "_law_head_for" "_law_head_for" s__law_head_for f fd) (T : Txt K mg)  : FnOk P w K mg base CX0 1 f fd ["rows", "address"] (sp_law_head_for K) :=
  F.ok sc__law_head_for (k := 0) (fun vs H Q E h => len_law_head_for h) (fun cdv A outer s H vs Q E hr h => ⟨_, tm__law_head_for T  hr, rdok_law_head_for h⟩)

seal L2.PS L2.PE L2.PA L2.PSs L2.PT in
theorem tm__law_head {P : Program} {w : World} {K : PySem.W.Frag} {mg : Str → Option Value} {base : Heap} {f : Addr} {cdv : Value} {A : Around} {outer : List Env} {s : Shared} {H : Hp} {E : XK} (T : Txt K mg)  (hr : Room 0 (A.deeper (PyProof.Rows.envOfC "_law_head" (defScope s__law_head) s.heap.objs.size f cdv))) :
    PSs (cxOf CX0 P w K mg base ["row"] "_law_head" (defScope s__law_head) f cdv A outer s H E).nox (defBody s__law_head) (rd_law_head K) :=
  (pss_one (ps_ret (pe_ix ix_B (pv 0) pe_int (fun _ _ => rfl))))
seal L2.PS L2.PE L2.PA L2.PSs L2.PT in
theorem ok__law_head {P : Program} {w : World} {K : PySem.W.Frag} {mg : Str → Option Value} {base : Heap} {f : Addr} {fd : FuncData} (F : Fun K "_law_head" "_law_head" s__law_head f fd) (T : Txt K mg)  : FnOk P w K mg base CX0 1 f fd ["row"] (sp_law_head K) :=
  F.ok sc__law_head (k := 0) (fun vs H Q E h => len_law_head h) (fun cdv A outer s H vs Q E hr h => ⟨_, tm__law_head T  hr, rdok_law_head h⟩)

seal L2.PS L2.PE L2.PA L2.PSs L2.PT in
theorem tm__law_wrong {P : Program} {w : World} {K : PySem.W.Frag} {mg : Str → Option Value} {base : Heap} {f : Addr} {cdv : Value} {A : Around} {outer : List Env} {s : Shared} {H : Hp} {E : XK} (T : Txt K mg)  (hr : Room 0 (A.deeper (PyProof.Rows.envOfC "_law_wrong" (defScope s__law_wrong) s.heap.objs.size f cdv))) :
    PSs (cxOf CX0 P w K mg base ["text", "cell", "size", "at", "sign"] "_law_wrong" (defScope s__law_wrong) f cdv A outer s H E).nox (defBody s__law_wrong) (rd_law_wrong K) :=
  (pss_cons (ps_if (pt_cmpR op_eqB (pe_op op_modB (pv 1) pe_int) pe_int (nomark _)) (pss_one (ps_ret (pe_op op_addB (pv 0) (pe_op op_mulB pe_str (pe_op op_subB (pe_op op_addB (pv 2) pe_int) (pe_callB call_lenB rfl T.b_len bt_len (pa_cons (pv 0) pa_nil))))))) pss_nil)
      (pss_cons (ps_set (i := 3) sc__law_wrong.nd rfl (Or.inl rfl) (pe_op op_modB (pe_op op_divB (pv 1) pe_int) (pe_op op_addB (pe_callB call_lenB rfl T.b_len bt_len (pa_cons (pv 0) pa_nil)) pe_int)))
      (pss_cons (ps_set (i := 4) sc__law_wrong.nd rfl (Or.inl rfl) (pe_ix ix_B pe_str (pe_op op_modB (pe_op op_divB (pv 1) pe_int) pe_int) (fun _ _ => rfl)))
      (pss_cons (ps_if (PW.pt (pw_and (pt_cmpR op_eqB (pe_op op_modB (pv 1) pe_int) pe_int (nomark _)) (pw_and1 (pt_cmpR op_ltB (pv 3) (pe_callB call_lenB rfl T.b_len bt_len (pa_cons (pv 0) pa_nil)) (nomark _))))) (pss_one (ps_ret (pe_op op_addB (pe_op op_addB (pe_slice sl_B (pv 0) po_none (po_some (pv 3))) (pv 4)) (pe_slice sl_B (pv 0) (po_some (pe_op op_addB (pv 3) pe_int)) po_none)))) pss_nil)
      (pss_cons (ps_if (pt_cmpR op_eqB (pe_callB call_lenB rfl T.b_len bt_len (pa_cons (pv 0) pa_nil)) (pv 2) (nomark _)) (pss_one (ps_ret (pe_op op_addB (pv 4) (pe_slice sl_B (pv 0) (po_some pe_int) po_none)))) pss_nil)
      (pss_one (ps_ret (pe_op op_addB (pe_op op_addB (pe_slice sl_B (pv 0) po_none (po_some (pv 3))) (pv 4)) (pe_slice sl_B (pv 0) (po_some (pv 3)) po_none)))))))))
seal L2.PS L2.PE L2.PA L2.PSs L2.PT in
theorem ok__law_wrong {P : Program} {w : World} {K : PySem.W.Frag} {mg : Str → Option Value} {base : Heap} {f : Addr} {fd : FuncData} (F : Fun K "_law_wrong" "_law_wrong" s__law_wrong f fd) (T : Txt K mg)  : FnOk P w K mg base CX0 1 f fd ["text", "cell", "size"] (sp_law_wrong K) :=
  F.ok sc__law_wrong (k := 0) (fun vs H Q E h => len_law_wrong h) (fun cdv A outer s H vs Q E hr h => ⟨_, tm__law_wrong T  hr, rdok_law_wrong h⟩)

seal L2.PS L2.PE L2.PA L2.PSs L2.PT in
theorem tm_Board_init {P : Program} {w : World} {K : PySem.W.Frag} {mg : Str → Option Value} {base : Heap} {f : Addr} {cdv : Value} {A : Around} {outer : List Env} {s : Shared} {H : Hp} {E : XK} (T : Txt K mg)  (hr : Room 0 (A.deeper (PyProof.Rows.envOfC "Board.__init__" (defScope s_Board_init) s.heap.objs.size f cdv))) :
    PSs (cxOf CX0 P w K mg base ["self", "size"] "Board.__init__" (defScope s_Board_init) f cdv A outer s H E).nox (defBody s_Board_init) (rd_Board_init K) :=
  (pss_cons (ps_fldC T.k_Board T.n_Board_size (pv 0) (pv 1))
      (pss_one (ps_fldC T.k_Board T.n_Board_ways (pv 0) pe_dnewK)))
seal L2.PS L2.PE L2.PA L2.PSs L2.PT in
theorem ok_Board_init {P : Program} {w : World} {K : PySem.W.Frag} {mg : Str → Option Value} {base : Heap} {f : Addr} {fd : FuncData} (F : Fun K "__init__" "Board.__init__" s_Board_init f fd) (T : Txt K mg)  : FnOk P w K mg base CX0 1 f fd ["self", "size"] (sp_Board_init K) :=
  F.ok sc_Board_init (k := 0) (fun vs H Q E h => len_Board_init h) (fun cdv A outer s H vs Q E hr h => ⟨_, tm_Board_init T  hr, rdok_Board_init h⟩)

seal L2.PS L2.PE L2.PA L2.PSs L2.PT in
theorem tm_Board_rows {P : Program} {w : World} {K : PySem.W.Frag} {mg : Str → Option Value} {base : Heap} {f : Addr} {cdv : Value} {A : Around} {outer : List Env} {s : Shared} {H : Hp} {E : XK} (T : Txt K mg)  (hr : Room 0 (A.deeper (PyProof.Rows.envOfC "Board.rows" (defScope s_Board_rows) s.heap.objs.size f cdv))) :
    PSs (cxOf CX0 P w K mg base ["self"] "Board.rows" (defScope s_Board_rows) f cdv A outer s H E).nox (defBody s_Board_rows) (rd_Board_rows K) :=
  (pss_one (ps_ret (pe_comp (CompSc.cap (js := [(0, "self")]) (fs := defScope s_Board_rows) rfl rfl rfl rfl (by decide +kernel) (by decide +kernel) rfl (by decide) rfl rfl) (pi_list (pe_callB (call_sortedD hr.hd) rfl T.b_sorted bt_sorted (pa_cons (pe_fldC T.k_Board T.n_Board_ways (pv 0)) pa_nil))) (fun _ _ _ _ => (pe_tup (pa_cons (pv 0) (pa_cons (pe_dget (hu_of hr) (pe_fldC T.k_Board T.n_Board_ways (pv 1)) (pv 0) (fun _ _ => rfl)) pa_nil)))) (fun _ _ _ _ => .nil))))
seal L2.PS L2.PE L2.PA L2.PSs L2.PT in
theorem ok_Board_rows {P : Program} {w : World} {K : PySem.W.Frag} {mg : Str → Option Value} {base : Heap} {f : Addr} {fd : FuncData} (F : Fun K "rows" "Board.rows" s_Board_rows f fd) (T : Txt K mg)  : FnOk P w K mg base CX0 1 f fd ["self"] (sp_Board_rows K) :=
  F.ok sc_Board_rows (k := 0) (fun vs H Q E h => len_Board_rows h) (fun cdv A outer s H vs Q E hr h => ⟨_, tm_Board_rows T  hr, rdok_Board_rows h⟩)

seal L2.PS L2.PE L2.PA L2.PSs L2.PT in
theorem tm_is_address {P : Program} {w : World} {K : PySem.W.Frag} {mg : Str → Option Value} {base : Heap} {f : Addr} {cdv : Value} {A : Around} {outer : List Env} {s : Shared} {H : Hp} {E : XK} (T : Txt K mg) (O_is_head : Own P w K mg base 1 "is_head" ["text", "size"] (sp_is_head K)) (hr : Room 1 (A.deeper (PyProof.Rows.envOfC "is_address" (defScope s_is_address) s.heap.objs.size f cdv))) :
    PSs (cxOf CX0 P w K mg base ["text", "size"] "is_address" (defScope s_is_address) f cdv A outer s H E).nox (defBody s_is_address) (rd_is_address K) :=
  (pss_one (ps_ret (pe_and (pe_cmpR op_eqB (pe_callB call_lenB rfl T.b_len bt_len (pa_cons (pv 0) pa_nil)) (pv 1) (nomark _)) (pe_one (pe_own O_is_head (hr.mono (by decide)) (pa_cons (pv 0) (pa_cons (pv 1) pa_nil)))))))
seal L2.PS L2.PE L2.PA L2.PSs L2.PT in
theorem ok_is_address {P : Program} {w : World} {K : PySem.W.Frag} {mg : Str → Option Value} {base : Heap} {f : Addr} {fd : FuncData} (F : Fun K "is_address" "is_address" s_is_address f fd) (T : Txt K mg) (O_is_head : Own P w K mg base 1 "is_head" ["text", "size"] (sp_is_head K)) : FnOk P w K mg base CX0 2 f fd ["text", "size"] (sp_is_address K) :=
  F.ok sc_is_address (k := 1) (fun vs H Q E h => len_is_address h) (fun cdv A outer s H vs Q E hr h => ⟨_, tm_is_address T O_is_head hr, rdok_is_address h⟩)

seal L2.PS L2.PE L2.PA L2.PSs L2.PT in
theorem tm_leading_row {P : Program} {w : World} {K : PySem.W.Frag} {mg : Str → Option Value} {base : Heap} {f : Addr} {cdv : Value} {A : Around} {outer : List Env} {s : Shared} {H : Hp} {E : XK} (T : Txt K mg) (O_begins : Own P w K mg base 1 "begins" ["head", "address"] (sp_begins K)) (hr : Room 1 (A.deeper (PyProof.Rows.envOfC "leading_row" (defScope s_leading_row) s.heap.objs.size f cdv))) :
    PSs (cxOf CX0 P w K mg base ["rows", "address", "leading", "row"] "leading_row" (defScope s_leading_row) f cdv A outer s H E).nox (defBody s_leading_row) (rd_leading_row K) :=
  (pss_cons (ps_set (i := 2) sc_leading_row.nd rfl (Or.inl rfl) pe_non)
      (pss_cons (ps_for PassesOwn.never rfl (pi_list (pv 0)) (pg_name (i := 3) sc_leading_row.nd rfl (Or.inl rfl))
      (pss_one (ps_if (PW.pt (pw_and (pt_val (pe_own O_begins (hr.mono (by decide)) (pa_cons (pe_ix ix_B (pv 3) pe_int (fun _ _ => rfl)) (pa_cons (pv 1) pa_nil)))) (pw_and1 (PW.pt (pw_or (pt_cmpR op_isNB (pv 2) pe_non (nomark _)) (pw_or1 (pt_cmpR op_gtB (pe_callB call_lenB rfl T.b_len bt_len (pa_cons (pe_ix ix_B (pv 3) pe_int (fun _ _ => rfl)) pa_nil)) (pe_callB call_lenB rfl T.b_len bt_len (pa_cons (pe_ix ix_B (pv 2) pe_int (fun _ _ => rfl)) pa_nil)) (nomark _)))))))) (pss_one (ps_set (i := 2) sc_leading_row.nd rfl (Or.inl rfl) (pv 3))) pss_nil)))
      (pss_one (ps_ret (pv 2)))))
seal L2.PS L2.PE L2.PA L2.PSs L2.PT in
theorem ok_leading_row {P : Program} {w : World} {K : PySem.W.Frag} {mg : Str → Option Value} {base : Heap} {f : Addr} {fd : FuncData} (F : Fun K "leading_row" "leading_row" s_leading_row f fd) (T : Txt K mg) (O_begins : Own P w K mg base 1 "begins" ["head", "address"] (sp_begins K)) : FnOk P w K mg base CX0 2 f fd ["rows", "address"] (sp_leading_row K) :=
  F.ok sc_leading_row (k := 1) (fun vs H Q E h => len_leading_row h) (fun cdv A outer s H vs Q E hr h => ⟨_, tm_leading_row T O_begins hr, rdok_leading_row h⟩)

seal L2.PS L2.PE L2.PA L2.PSs L2.PT in
theorem tm__law_way_is {P : Program} {w : World} {K : PySem.W.Frag} {mg : Str → Option Value} {base : Heap} {f : Addr} {cdv : Value} {A : Around} {outer : List Env} {s : Shared} {H : Hp} {E : XK} (T : Txt K mg) (O__law_whole : Own P w K mg base 1 "_law_whole" ["found"] (sp_law_whole K)) (hr : Room 1 (A.deeper (PyProof.Rows.envOfC "_law_way_is" (defScope s__law_way_is) s.heap.objs.size f cdv))) :
    PSs (cxOf CX0 P w K mg base ["found", "due"] "_law_way_is" (defScope s__law_way_is) f cdv A outer s H E).nox (defBody s__law_way_is) (rd_law_way_is K) :=
  (pss_cons (ps_if (pt_cmpR op_isNB (pv 1) pe_non (nomark _)) (pss_one (ps_ret (pe_cmpR op_isNB (pv 0) pe_non (nomark _)))) pss_nil)
      (pss_one (ps_ret (pe_and (pe_own O__law_whole (hr.mono (by decide)) (pa_cons (pv 0) pa_nil)) (pe_one (pe_cmpR op_eqB (pv 0) (pv 1) (nomark _)))))))
seal L2.PS L2.PE L2.PA L2.PSs L2.PT in
theorem ok__law_way_is {P : Program} {w : World} {K : PySem.W.Frag} {mg : Str → Option Value} {base : Heap} {f : Addr} {fd : FuncData} (F : Fun K "_law_way_is" "_law_way_is" s__law_way_is f fd) (T : Txt K mg) (O__law_whole : Own P w K mg base 1 "_law_whole" ["found"] (sp_law_whole K)) : FnOk P w K mg base CX0 2 f fd ["found", "due"] (sp_law_way_is K) :=
  F.ok sc__law_way_is (k := 1) (fun vs H Q E h => len_law_way_is h) (fun cdv A outer s H vs Q E hr h => ⟨_, tm__law_way_is T O__law_whole hr, rdok_law_way_is h⟩)

seal L2.PS L2.PE L2.PA L2.PSs L2.PT in
theorem tm_Board_check_head {P : Program} {w : World} {K : PySem.W.Frag} {mg : Str → Option Value} {base : Heap} {f : Addr} {cdv : Value} {A : Around} {outer : List Env} {s : Shared} {H : Hp} {E : XK} (T : Txt K mg) (O_is_head : Own P w K mg base 1 "is_head" ["text", "size"] (sp_is_head K)) (hr : Room 1 (A.deeper (PyProof.Rows.envOfC "Board.check_head" (defScope s_Board_check_head) s.heap.objs.size f cdv))) :
    PSs (cxOf (CX1 P w) P w K mg base ["self", "head"] "Board.check_head" (defScope s_Board_check_head) f cdv A outer s H E) (defBody s_Board_check_head) (rd_Board_check_head K E) :=
  (pss_one (ps_if (pt_not (pt_val (pe_own O_is_head (hr.mono (by decide)) (pa_cons (pv 1) (pa_cons (pe_fldC T.k_Board T.n_Board_size (pv 0)) pa_nil))))) (pss_one (ps_raise hr.hd T.c_BadHead T.e_BadHead (pa_cons pe_str pa_nil))) pss_nil))
seal L2.PS L2.PE L2.PA L2.PSs L2.PT in
theorem ok_Board_check_head {P : Program} {w : World} {K : PySem.W.Frag} {mg : Str → Option Value} {base : Heap} {f : Addr} {fd : FuncData} (F : Fun K "check_head" "Board.check_head" s_Board_check_head f fd) (T : Txt K mg) (O_is_head : Own P w K mg base 1 "is_head" ["text", "size"] (sp_is_head K)) : FnOk P w K mg base (CX1 P w) 2 f fd ["self", "head"] (sp_Board_check_head K) :=
  F.okX sc_Board_check_head (k := 1) (fun vs H Q E h => len_Board_check_head h) (fun cdv A outer s H vs Q E hr h => ⟨_, tm_Board_check_head T O_is_head hr, rdok_Board_check_head h⟩)

seal L2.PS L2.PE L2.PA L2.PSs L2.PT in
theorem tm_head_for {P : Program} {w : World} {K : PySem.W.Frag} {mg : Str → Option Value} {base : Heap} {f : Addr} {cdv : Value} {A : Around} {outer : List Env} {s : Shared} {H : Hp} {E : XK} (T : Txt K mg) (O_leading_row : Own P w K mg base 2 "leading_row" ["rows", "address"] (sp_leading_row K)) (hr : Room 2 (A.deeper (PyProof.Rows.envOfC "head_for" (defScope s_head_for) s.heap.objs.size f cdv))) :
    PSs (cxOf CX0 P w K mg base ["rows", "address", "row"] "head_for" (defScope s_head_for) f cdv A outer s H E).nox (defBody s_head_for) (rd_head_for K) :=
  (pss_cons (ps_set (i := 2) sc_head_for.nd rfl (Or.inl rfl) (pe_own O_leading_row (hr.mono (by decide)) (pa_cons (pv 0) (pa_cons (pv 1) pa_nil))))
      (pss_one (ps_ret (pe_ifExp (pt_cmpR op_isNB (pv 2) pe_non (nomark _)) pe_non (pe_ix ix_B (pv 2) pe_int (fun _ _ => rfl))))))
seal L2.PS L2.PE L2.PA L2.PSs L2.PT in
theorem ok_head_for {P : Program} {w : World} {K : PySem.W.Frag} {mg : Str → Option Value} {base : Heap} {f : Addr} {fd : FuncData} (F : Fun K "head_for" "head_for" s_head_for f fd) (T : Txt K mg) (O_leading_row : Own P w K mg base 2 "leading_row" ["rows", "address"] (sp_leading_row K)) : FnOk P w K mg base CX0 3 f fd ["rows", "address"] (sp_head_for K) :=
  F.ok sc_head_for (k := 2) (fun vs H Q E h => len_head_for h) (fun cdv A outer s H vs Q E hr h => ⟨_, tm_head_for T O_leading_row hr, rdok_head_for h⟩)

seal L2.PS L2.PE L2.PA L2.PSs L2.PT in
theorem tm_way_for {P : Program} {w : World} {K : PySem.W.Frag} {mg : Str → Option Value} {base : Heap} {f : Addr} {cdv : Value} {A : Around} {outer : List Env} {s : Shared} {H : Hp} {E : XK} (T : Txt K mg) (O_leading_row : Own P w K mg base 2 "leading_row" ["rows", "address"] (sp_leading_row K)) (hr : Room 2 (A.deeper (PyProof.Rows.envOfC "way_for" (defScope s_way_for) s.heap.objs.size f cdv))) :
    PSs (cxOf CX0 P w K mg base ["rows", "address", "row"] "way_for" (defScope s_way_for) f cdv A outer s H E).nox (defBody s_way_for) (rd_way_for K) :=
  (pss_cons (ps_set (i := 2) sc_way_for.nd rfl (Or.inl rfl) (pe_own O_leading_row (hr.mono (by decide)) (pa_cons (pv 0) (pa_cons (pv 1) pa_nil))))
      (pss_one (ps_ret (pe_ifExp (pt_cmpR op_isNB (pv 2) pe_non (nomark _)) pe_non (pe_ix ix_B (pv 2) pe_int (fun _ _ => rfl))))))
seal L2.PS L2.PE L2.PA L2.PSs L2.PT in
theorem ok_way_for {P : Program} {w : World} {K : PySem.W.Frag} {mg : Str → Option Value} {base : Heap} {f : Addr} {fd : FuncData} (F : Fun K "way_for" "way_for" s_way_for f fd) (T : Txt K mg) (O_leading_row : Own P w K mg base 2 "leading_row" ["rows", "address"] (sp_leading_row K)) : FnOk P w K mg base CX0 3 f fd ["rows", "address"] (sp_way_for K) :=
  F.ok sc_way_for (k := 2) (fun vs H Q E h => len_way_for h) (fun cdv A outer s H vs Q E hr h => ⟨_, tm_way_for T O_leading_row hr, rdok_way_for h⟩)

seal L2.PS L2.PE L2.PA L2.PSs L2.PT in
theorem tm__law_same_rows {P : Program} {w : World} {K : PySem.W.Frag} {mg : Str → Option Value} {base : Heap} {f : Addr} {cdv : Value} {A : Around} {outer : List Env} {s : Shared} {H : Hp} {E : XK} (T : Txt K mg) (O__law_way_is : Own P w K mg base 2 "_law_way_is" ["found", "due"] (sp_law_way_is K)) (hr : Room 2 (A.deeper (PyProof.Rows.envOfC "_law_same_rows" (defScope s__law_same_rows) s.heap.objs.size f cdv))) :
    PSs (cxOf CX0 P w K mg base ["found", "due", "k"] "_law_same_rows" (defScope s__law_same_rows) f cdv A outer s H E).nox (defBody s__law_same_rows) (rd_law_same_rows K) :=
  (pss_cons (ps_if (PW.pt (pw_or (pt_not (pt_val (pe_callB call_isiB rfl T.b_isinstance bt_isinstance (pa_cons (pv 0) (pa_cons (pe_bltn rfl T.b_list bt_list rfl) pa_nil))))) (pw_or1 (pt_cmpR op_neB (pe_callB call_lenB rfl T.b_len bt_len (pa_cons (pv 0) pa_nil)) (pe_callB call_lenB rfl T.b_len bt_len (pa_cons (pv 1) pa_nil)) (nomark _))))) (pss_one (ps_ret pe_bl)) pss_nil)
      (pss_cons (ps_for PassesOwn.never rfl (pi_range1 rfl T.b_range (pa_cons (pe_callB call_lenB rfl T.b_len bt_len (pa_cons (pv 1) pa_nil)) pa_nil)) (pg_name (i := 2) sc__law_same_rows.nd rfl (Or.inl rfl))
      (pss_cons (ps_if (PW.pt (pw_or (pt_not (pt_val (pe_callB call_isiB rfl T.b_isinstance bt_isinstance (pa_cons (pe_ix ix_B (pv 0) (pv 2) (fun _ _ => rfl)) (pa_cons (pe_bltn rfl T.b_tuple bt_tuple rfl) pa_nil))))) (pw_or (pt_cmpR op_neB (pe_callB call_lenB rfl T.b_len bt_len (pa_cons (pe_ix ix_B (pv 0) (pv 2) (fun _ _ => rfl)) pa_nil)) pe_int (nomark _)) (pw_or1 (pt_not (pt_val (pe_callB call_isiB rfl T.b_isinstance bt_isinstance (pa_cons (pe_ix ix_B (pe_ix ix_B (pv 0) (pv 2) (fun _ _ => rfl)) pe_int (fun _ _ => rfl)) (pa_cons (pe_bltn rfl T.b_str bt_str rfl) pa_nil))))))))) (pss_one (ps_ret pe_bl)) pss_nil)
      (pss_one (ps_if (PW.pt (pw_or (pt_cmpR op_neB (pe_ix ix_B (pe_ix ix_B (pv 0) (pv 2) (fun _ _ => rfl)) pe_int (fun _ _ => rfl)) (pe_ix ix_B (pe_ix ix_B (pv 1) (pv 2) (fun _ _ => rfl)) pe_int (fun _ _ => rfl)) (nomark _)) (pw_or1 (pt_not (pt_val (pe_own O__law_way_is (hr.mono (by decide)) (pa_cons (pe_ix ix_B (pe_ix ix_B (pv 0) (pv 2) (fun _ _ => rfl)) pe_int (fun _ _ => rfl)) (pa_cons (pe_ix ix_B (pe_ix ix_B (pv 1) (pv 2) (fun _ _ => rfl)) pe_int (fun _ _ => rfl)) pa_nil)))))))) (pss_one (ps_ret pe_bl)) pss_nil))))
      (pss_one (ps_ret pe_bl))))
seal L2.PS L2.PE L2.PA L2.PSs L2.PT in
theorem ok__law_same_rows {P : Program} {w : World} {K : PySem.W.Frag} {mg : Str → Option Value} {base : Heap} {f : Addr} {fd : FuncData} (F : Fun K "_law_same_rows" "_law_same_rows" s__law_same_rows f fd) (T : Txt K mg) (O__law_way_is : Own P w K mg base 2 "_law_way_is" ["found", "due"] (sp_law_way_is K)) : FnOk P w K mg base CX0 3 f fd ["found", "due"] (sp_law_same_rows K) :=
  F.ok sc__law_same_rows (k := 2) (fun vs H Q E h => len_law_same_rows h) (fun cdv A outer s H vs Q E hr h => ⟨_, tm__law_same_rows T O__law_way_is hr, rdok_law_same_rows h⟩)

seal L2.PS L2.PE L2.PA L2.PSs L2.PT in
theorem tm_Board_check_address {P : Program} {w : World} {K : PySem.W.Frag} {mg : Str → Option Value} {base : Heap} {f : Addr} {cdv : Value} {A : Around} {outer : List Env} {s : Shared} {H : Hp} {E : XK} (T : Txt K mg) (O_is_address : Own P w K mg base 2 "is_address" ["text", "size"] (sp_is_address K)) (hr : Room 2 (A.deeper (PyProof.Rows.envOfC "Board.check_address" (defScope s_Board_check_address) s.heap.objs.size f cdv))) :
    PSs (cxOf (CX1 P w) P w K mg base ["self", "address"] "Board.check_address" (defScope s_Board_check_address) f cdv A outer s H E) (defBody s_Board_check_address) (rd_Board_check_address K E) :=
  (pss_one (ps_if (pt_not (pt_val (pe_own O_is_address (hr.mono (by decide)) (pa_cons (pv 1) (pa_cons (pe_fldC T.k_Board T.n_Board_size (pv 0)) pa_nil))))) (pss_one (ps_raise hr.hd T.c_BadAddress T.e_BadAddress (pa_cons pe_str pa_nil))) pss_nil))
seal L2.PS L2.PE L2.PA L2.PSs L2.PT in
theorem ok_Board_check_address {P : Program} {w : World} {K : PySem.W.Frag} {mg : Str → Option Value} {base : Heap} {f : Addr} {fd : FuncData} (F : Fun K "check_address" "Board.check_address" s_Board_check_address f fd) (T : Txt K mg) (O_is_address : Own P w K mg base 2 "is_address" ["text", "size"] (sp_is_address K)) : FnOk P w K mg base (CX1 P w) 3 f fd ["self", "address"] (sp_Board_check_address K) :=
  F.okX sc_Board_check_address (k := 2) (fun vs H Q E h => len_Board_check_address h) (fun cdv A outer s H vs Q E hr h => ⟨_, tm_Board_check_address T O_is_address hr, rdok_Board_check_address h⟩)

seal L2.PS L2.PE L2.PA L2.PSs L2.PT in
theorem tm_Board_put {P : Program} {w : World} {K : PySem.W.Frag} {mg : Str → Option Value} {base : Heap} {f : Addr} {cdv : Value} {A : Around} {outer : List Env} {s : Shared} {H : Hp} {E : XK} (T : Txt K mg) (O_Board_check_head : OwnM P w K mg base (CX1 P w) 2 (clsAt K "Board") "check_head" ["self", "head"] (sp_Board_check_head K)) (hr : Room 2 (A.deeper (PyProof.Rows.envOfC "Board.put" (defScope s_Board_put) s.heap.objs.size f cdv))) :
    PSs (cxOf (CX1 P w) P w K mg base ["self", "head", "way", "there"] "Board.put" (defScope s_Board_put) f cdv A outer s H E) (defBody s_Board_put) (rd_Board_put K E) :=
  (pss_cons (ps_expr (pe_ownM O_Board_check_head T.k_Board (hr.mono (by decide)) passX (pv 0) (pa_cons (pv 1) pa_nil)))
      (pss_cons (ps_set (i := 3) sc_Board_put.nd rfl (Or.inl rfl) (pe_cmpR (op_inK (hu_of hr)) (pv 1) (pe_fldC T.k_Board T.n_Board_ways (pv 0)) (by with_unfolding_all rfl)))
      (pss_cons (ps_if (PW.pt (pw_and (pt_not (pt_val (pv 3))) (pw_and1 (pt_cmpR op_geB (pe_callB call_lenK rfl T.b_len bt_len (pa_cons (pe_fldC T.k_Board T.n_Board_ways (pv 0)) pa_nil)) (pe_globI T.g_MOST_ROWS) (nomark _))))) (pss_one (ps_raise hr.hd T.c_FullBoard T.e_FullBoard (pa_cons pe_str pa_nil))) pss_nil)
      (pss_cons (ps_dput (hu_of hr) (pe_fldC T.k_Board T.n_Board_ways (pv 0)) (pv 1) (pv 2) rfl)
      (pss_one (ps_ret (pv 3)))))))
seal L2.PS L2.PE L2.PA L2.PSs L2.PT in
theorem ok_Board_put {P : Program} {w : World} {K : PySem.W.Frag} {mg : Str → Option Value} {base : Heap} {f : Addr} {fd : FuncData} (F : Fun K "put" "Board.put" s_Board_put f fd) (T : Txt K mg) (O_Board_check_head : OwnM P w K mg base (CX1 P w) 2 (clsAt K "Board") "check_head" ["self", "head"] (sp_Board_check_head K)) : FnOk P w K mg base (CX1 P w) 3 f fd ["self", "head", "way"] (sp_Board_put K) :=
  F.okX sc_Board_put (k := 2) (fun vs H Q E h => len_Board_put h) (fun cdv A outer s H vs Q E hr h => ⟨_, tm_Board_put T O_Board_check_head hr, rdok_Board_put h⟩)

seal L2.PS L2.PE L2.PA L2.PSs L2.PT in
theorem tm_Board_drop {P : Program} {w : World} {K : PySem.W.Frag} {mg : Str → Option Value} {base : Heap} {f : Addr} {cdv : Value} {A : Around} {outer : List Env} {s : Shared} {H : Hp} {E : XK} (T : Txt K mg) (O_Board_check_head : OwnM P w K mg base (CX1 P w) 2 (clsAt K "Board") "check_head" ["self", "head"] (sp_Board_check_head K)) (hr : Room 2 (A.deeper (PyProof.Rows.envOfC "Board.drop" (defScope s_Board_drop) s.heap.objs.size f cdv))) :
    PSs (cxOf (CX1 P w) P w K mg base ["self", "head"] "Board.drop" (defScope s_Board_drop) f cdv A outer s H E) (defBody s_Board_drop) (rd_Board_drop K E) :=
  (pss_cons (ps_expr (pe_ownM O_Board_check_head T.k_Board (hr.mono (by decide)) passX (pv 0) (pa_cons (pv 1) pa_nil)))
      (pss_cons (ps_if (pt_cmpR (op_notInK (hu_of hr)) (pv 1) (pe_fldC T.k_Board T.n_Board_ways (pv 0)) (by with_unfolding_all rfl)) (pss_one (ps_raise hr.hd T.c_NoHead T.e_NoHead (pa_cons pe_str pa_nil))) pss_nil)
      (pss_one (ps_ret (pe_dpop1 (pe_fldC T.k_Board T.n_Board_ways (pv 0)) (pv 1) ⟨rfl, rfl, rfl, rfl⟩)))))
seal L2.PS L2.PE L2.PA L2.PSs L2.PT in
theorem ok_Board_drop {P : Program} {w : World} {K : PySem.W.Frag} {mg : Str → Option Value} {base : Heap} {f : Addr} {fd : FuncData} (F : Fun K "drop" "Board.drop" s_Board_drop f fd) (T : Txt K mg) (O_Board_check_head : OwnM P w K mg base (CX1 P w) 2 (clsAt K "Board") "check_head" ["self", "head"] (sp_Board_check_head K)) : FnOk P w K mg base (CX1 P w) 3 f fd ["self", "head"] (sp_Board_drop K) :=
  F.okX sc_Board_drop (k := 2) (fun vs H Q E h => len_Board_drop h) (fun cdv A outer s H vs Q E hr h => ⟨_, tm_Board_drop T O_Board_check_head hr, rdok_Board_drop h⟩)

seal L2.PS L2.PE L2.PA L2.PSs L2.PT in
theorem tm__law_put {P : Program} {w : World} {K : PySem.W.Frag} {mg : Str → Option Value} {base : Heap} {f : Addr} {cdv : Value} {A : Around} {outer : List Env} {s : Shared} {H : Hp} {E : XK} (T : Txt K mg) (O_Board_put : OwnM P w K mg base (CX1 P w) 3 (clsAt K "Board") "put" ["self", "head", "way"] (sp_Board_put K)) (hr : Room 3 (A.deeper (PyProof.Rows.envOfC "_law_put" (defScope s__law_put) s.heap.objs.size f cdv))) :
    PSs (cxOf CX0 P w K mg base ["board", "rows", "head", "way", "found", "there", "kept"] "_law_put" (defScope s__law_put) f cdv A outer s H E).nox (defBody s__law_put) (rd_law_put K) :=
  (pss_cons (ps_set (i := 4) sc__law_put.nd rfl (Or.inl rfl) (pe_ownM O_Board_put T.k_Board (hr.mono (by decide)) passX0 (pv 0) (pa_cons (pv 2) (pa_cons (pv 3) pa_nil))))
      (pss_cons (ps_set (i := 5) sc__law_put.nd rfl (Or.inl rfl) (pe_cmpR op_in_seq (pv 2) (pe_comp (CompSc.plain (by decide +kernel) rfl (by decide +kernel) rfl) (pi_list (pv 1)) (fun _ _ _ _ => (pe_ix ix_B (pv 0) pe_int (fun _ _ => rfl))) (fun _ _ _ _ => .nil)) (by with_unfolding_all rfl)))
      (pss_cons (ps_setComp (i := 6) sc__law_put.nd rfl (Or.inl rfl) (CompSc.cap (js := [(2, "head")]) (fs := defScope s__law_put) rfl rfl rfl rfl (by decide +kernel) (by decide +kernel) rfl (by decide) rfl rfl) (pi_list (pv 1)) (fun _ _ _ _ => (pv 0)) (fun _ _ _ _ => (.one (pt_cmpR op_neB (pe_ix ix_B (pv 0) pe_int (fun _ _ => rfl)) (pv 1) (nomark _)))))
      (pss_cons (ps_expr (pe_bm0 PySem.F.plainAttrs_list PySem.F.slot_list_clear PySem.F.type_list_clear mt_clear (pv 1)))
      (pss_cons (ps_expr (pe_bm PySem.F.plainAttrs_list PySem.F.slot_list_extend PySem.F.type_list_extend mt_extend (pv 1) (pa_cons (pe_op op_addB (pv 6) (pe_lst (pa_cons (pe_tup (pa_cons (pv 2) (pa_cons (pv 3) pa_nil))) pa_nil))) pa_nil)))
      (pss_one (ps_ret (pe_and (pe_callB call_isiB rfl T.b_isinstance bt_isinstance (pa_cons (pv 4) (pa_cons (pe_bltn rfl T.b_bool bt_bool rfl) pa_nil))) (pe_one (pe_cmpR op_eqB (pv 4) (pv 5) (nomark _)))))))))))
seal L2.PS L2.PE L2.PA L2.PSs L2.PT in
theorem ok__law_put {P : Program} {w : World} {K : PySem.W.Frag} {mg : Str → Option Value} {base : Heap} {f : Addr} {fd : FuncData} (F : Fun K "_law_put" "_law_put" s__law_put f fd) (T : Txt K mg) (O_Board_put : OwnM P w K mg base (CX1 P w) 3 (clsAt K "Board") "put" ["self", "head", "way"] (sp_Board_put K)) : FnOk P w K mg base CX0 4 f fd ["board", "rows", "head", "way"] (sp_law_put K) :=
  F.ok sc__law_put (k := 3) (fun vs H Q E h => len_law_put h) (fun cdv A outer s H vs Q E hr h => ⟨_, tm__law_put T O_Board_put hr, rdok_law_put h⟩)

seal L2.PS L2.PE L2.PA L2.PSs L2.PT in
theorem tm_Board_led {P : Program} {w : World} {K : PySem.W.Frag} {mg : Str → Option Value} {base : Heap} {f : Addr} {cdv : Value} {A : Around} {outer : List Env} {s : Shared} {H : Hp} {E : XK} (T : Txt K mg) (O_Board_check_address : OwnM P w K mg base (CX1 P w) 3 (clsAt K "Board") "check_address" ["self", "address"] (sp_Board_check_address K)) (O_Board_rows : OwnM P w K mg base CX0 1 (clsAt K "Board") "rows" ["self"] (sp_Board_rows K)) (O_way_for : Own P w K mg base 3 "way_for" ["rows", "address"] (sp_way_for K)) (hr : Room 3 (A.deeper (PyProof.Rows.envOfC "Board.led" (defScope s_Board_led) s.heap.objs.size f cdv))) :
    PSs (cxOf (CX1 P w) P w K mg base ["self", "address"] "Board.led" (defScope s_Board_led) f cdv A outer s H E) (defBody s_Board_led) (rd_Board_led K E) :=
  (pss_cons (ps_expr (pe_ownM O_Board_check_address T.k_Board (hr.mono (by decide)) passX (pv 0) (pa_cons (pv 1) pa_nil)))
      (pss_one (ps_ret (pe_own O_way_for (hr.mono (by decide)) (pa_cons (pe_ownM0 O_Board_rows T.k_Board (hr.mono (by decide)) pass0 (pv 0)) (pa_cons (pv 1) pa_nil))))))
seal L2.PS L2.PE L2.PA L2.PSs L2.PT in
theorem ok_Board_led {P : Program} {w : World} {K : PySem.W.Frag} {mg : Str → Option Value} {base : Heap} {f : Addr} {fd : FuncData} (F : Fun K "led" "Board.led" s_Board_led f fd) (T : Txt K mg) (O_Board_check_address : OwnM P w K mg base (CX1 P w) 3 (clsAt K "Board") "check_address" ["self", "address"] (sp_Board_check_address K)) (O_Board_rows : OwnM P w K mg base CX0 1 (clsAt K "Board") "rows" ["self"] (sp_Board_rows K)) (O_way_for : Own P w K mg base 3 "way_for" ["rows", "address"] (sp_way_for K)) : FnOk P w K mg base (CX1 P w) 4 f fd ["self", "address"] (sp_Board_led K) :=
  F.okX sc_Board_led (k := 3) (fun vs H Q E h => len_Board_led h) (fun cdv A outer s H vs Q E hr h => ⟨_, tm_Board_led T O_Board_check_address O_Board_rows O_way_for hr, rdok_Board_led h⟩)

seal L2.PS L2.PE L2.PA L2.PSs L2.PT in
theorem tm_Board_by_which {P : Program} {w : World} {K : PySem.W.Frag} {mg : Str → Option Value} {base : Heap} {f : Addr} {cdv : Value} {A : Around} {outer : List Env} {s : Shared} {H : Hp} {E : XK} (T : Txt K mg) (O_Board_check_address : OwnM P w K mg base (CX1 P w) 3 (clsAt K "Board") "check_address" ["self", "address"] (sp_Board_check_address K)) (O_Board_rows : OwnM P w K mg base CX0 1 (clsAt K "Board") "rows" ["self"] (sp_Board_rows K)) (O_head_for : Own P w K mg base 3 "head_for" ["rows", "address"] (sp_head_for K)) (hr : Room 3 (A.deeper (PyProof.Rows.envOfC "Board.by_which" (defScope s_Board_by_which) s.heap.objs.size f cdv))) :
    PSs (cxOf (CX1 P w) P w K mg base ["self", "address"] "Board.by_which" (defScope s_Board_by_which) f cdv A outer s H E) (defBody s_Board_by_which) (rd_Board_by_which K E) :=
  (pss_cons (ps_expr (pe_ownM O_Board_check_address T.k_Board (hr.mono (by decide)) passX (pv 0) (pa_cons (pv 1) pa_nil)))
      (pss_one (ps_ret (pe_own O_head_for (hr.mono (by decide)) (pa_cons (pe_ownM0 O_Board_rows T.k_Board (hr.mono (by decide)) pass0 (pv 0)) (pa_cons (pv 1) pa_nil))))))
seal L2.PS L2.PE L2.PA L2.PSs L2.PT in
theorem ok_Board_by_which {P : Program} {w : World} {K : PySem.W.Frag} {mg : Str → Option Value} {base : Heap} {f : Addr} {fd : FuncData} (F : Fun K "by_which" "Board.by_which" s_Board_by_which f fd) (T : Txt K mg) (O_Board_check_address : OwnM P w K mg base (CX1 P w) 3 (clsAt K "Board") "check_address" ["self", "address"] (sp_Board_check_address K)) (O_Board_rows : OwnM P w K mg base CX0 1 (clsAt K "Board") "rows" ["self"] (sp_Board_rows K)) (O_head_for : Own P w K mg base 3 "head_for" ["rows", "address"] (sp_head_for K)) : FnOk P w K mg base (CX1 P w) 4 f fd ["self", "address"] (sp_Board_by_which K) :=
  F.okX sc_Board_by_which (k := 3) (fun vs H Q E h => len_Board_by_which h) (fun cdv A outer s H vs Q E hr h => ⟨_, tm_Board_by_which T O_Board_check_address O_Board_rows O_head_for hr, rdok_Board_by_which h⟩)

seal L2.PS L2.PE L2.PA L2.PSs L2.PT in
theorem tm__law_refused {P : Program} {w : World} {K : PySem.W.Frag} {mg : Str → Option Value} {base : Heap} {f : Addr} {cdv : Value} {A : Around} {outer : List Env} {s : Shared} {H : Hp} {E : XK} (T : Txt K mg) (O_Board_by_which : OwnM P w K mg base (CX1 P w) 4 (clsAt K "Board") "by_which" ["self", "address"] (sp_Board_by_which K)) (O_Board_drop : OwnM P w K mg base (CX1 P w) 3 (clsAt K "Board") "drop" ["self", "head"] (sp_Board_drop K)) (O_Board_led : OwnM P w K mg base (CX1 P w) 4 (clsAt K "Board") "led" ["self", "address"] (sp_Board_led K)) (O_Board_put : OwnM P w K mg base (CX1 P w) 3 (clsAt K "Board") "put" ["self", "head", "way"] (sp_Board_put K)) (hr : Room 4 (A.deeper (PyProof.Rows.envOfC "_law_refused" (defScope s__law_refused) s.heap.objs.size f cdv))) :
    PSs (cxOf CX0 P w K mg base ["board", "way", "text", "kinds", "e"] "_law_refused" (defScope s__law_refused) f cdv A outer s H E).nox (defBody s__law_refused) (rd_law_refused K) :=
  (pss_cons (ps_set (i := 3) sc__law_refused.nd rfl (Or.inl rfl) pe_non)
      (pss_cons (ps_try ((pxks_cons (pxk_if (pt_cmpR op_eqB (pv 1) pe_int (nomark _)) (pxks_one (pxk_expr (px_ownM O_Board_put T.k_Board (hr.mono (by decide)) (pv 0) (pa_cons (pv 2) (pa_cons pe_int pa_nil))))) pxks_nil) (pxks_cons (pxk_if (pt_cmpR op_eqB (pv 1) pe_int (nomark _)) (pxks_one (pxk_expr (px_ownM O_Board_drop T.k_Board (hr.mono (by decide)) (pv 0) (pa_cons (pv 2) pa_nil)))) pxks_nil) (pxks_cons (pxk_if (pt_cmpR op_eqB (pv 1) pe_int (nomark _)) (pxks_one (pxk_expr (px_ownM O_Board_led T.k_Board (hr.mono (by decide)) (pv 0) (pa_cons (pv 2) pa_nil)))) pxks_nil) (pxks_one (pxk_if (pt_cmpR op_eqB (pv 1) pe_int (nomark _)) (pxks_one (pxk_expr (px_ownM O_Board_by_which T.k_Board (hr.mono (by decide)) (pv 0) (pa_cons (pv 2) pa_nil)))) pxks_nil)))))).pxs (fun _ => (pss_cons (ps_set (i := 3) sc__law_refused.nd rfl (Or.inl rfl) (pe_lst (pa_cons (pe_callB call_isiX rfl T.b_isinstance bt_isinstance (pa_cons (pv 4) (pa_cons (pe_glob rfl T.c_BadHead rfl) pa_nil))) (pa_cons (pe_callB call_isiX rfl T.b_isinstance bt_isinstance (pa_cons (pv 4) (pa_cons (pe_glob rfl T.c_NoHead rfl) pa_nil))) (pa_cons (pe_callB call_isiX rfl T.b_isinstance bt_isinstance (pa_cons (pv 4) (pa_cons (pe_glob rfl T.c_BadAddress rfl) pa_nil))) pa_nil)))))
      (pss_one (ps_if (PW.pt (pw_or (pt_val (pe_callB call_isiX rfl T.b_isinstance bt_isinstance (pa_cons (pv 4) (pa_cons (pe_glob rfl T.c_FullBoard rfl) pa_nil)))) (pw_or (pt_val (pe_callB call_isiX rfl T.b_isinstance bt_isinstance (pa_cons (pv 4) (pa_cons (pe_glob rfl T.c_BadLine rfl) pa_nil)))) (pw_or1 (pt_val (pe_callB call_isiX rfl T.b_isinstance bt_isinstance (pa_cons (pv 4) (pa_cons (pe_glob rfl T.c_BadSpan rfl) pa_nil)))))))) (pss_one (ps_set (i := 3) sc__law_refused.nd rfl (Or.inl rfl) pe_non)) pss_nil)))) T.c_RoadError T.e_RoadError (i := 4) sc__law_refused.nd rfl rfl)
      (pss_one (ps_ret (pv 3)))))
seal L2.PS L2.PE L2.PA L2.PSs L2.PT in
theorem ok__law_refused {P : Program} {w : World} {K : PySem.W.Frag} {mg : Str → Option Value} {base : Heap} {f : Addr} {fd : FuncData} (F : Fun K "_law_refused" "_law_refused" s__law_refused f fd) (T : Txt K mg) (O_Board_by_which : OwnM P w K mg base (CX1 P w) 4 (clsAt K "Board") "by_which" ["self", "address"] (sp_Board_by_which K)) (O_Board_drop : OwnM P w K mg base (CX1 P w) 3 (clsAt K "Board") "drop" ["self", "head"] (sp_Board_drop K)) (O_Board_led : OwnM P w K mg base (CX1 P w) 4 (clsAt K "Board") "led" ["self", "address"] (sp_Board_led K)) (O_Board_put : OwnM P w K mg base (CX1 P w) 3 (clsAt K "Board") "put" ["self", "head", "way"] (sp_Board_put K)) : FnOk P w K mg base CX0 5 f fd ["board", "way", "text"] (sp_law_refused K) :=
  F.ok sc__law_refused (k := 4) (fun vs H Q E h => len_law_refused h) (fun cdv A outer s H vs Q E hr h => ⟨_, tm__law_refused T O_Board_by_which O_Board_drop O_Board_led O_Board_put hr, rdok_law_refused T.err h⟩)

seal L2.PS L2.PE L2.PA L2.PSs L2.PT in
theorem tm__law_asked {P : Program} {w : World} {K : PySem.W.Frag} {mg : Str → Option Value} {base : Heap} {f : Addr} {cdv : Value} {A : Around} {outer : List Env} {s : Shared} {H : Hp} {E : XK} (T : Txt K mg) (O_Board_by_which : OwnM P w K mg base (CX1 P w) 4 (clsAt K "Board") "by_which" ["self", "address"] (sp_Board_by_which K)) (O_Board_led : OwnM P w K mg base (CX1 P w) 4 (clsAt K "Board") "led" ["self", "address"] (sp_Board_led K)) (O__law_head_for : Own P w K mg base 1 "_law_head_for" ["rows", "address"] (sp_law_head_for K)) (O__law_way_is : Own P w K mg base 2 "_law_way_is" ["found", "due"] (sp_law_way_is K)) (hr : Room 4 (A.deeper (PyProof.Rows.envOfC "_law_asked" (defScope s__law_asked) s.heap.objs.size f cdv))) :
    PSs (cxOf CX0 P w K mg base ["board", "rows", "address", "row", "head", "way"] "_law_asked" (defScope s__law_asked) f cdv A outer s H E).nox (defBody s__law_asked) (rd_law_asked K) :=
  (pss_cons (ps_set (i := 3) sc__law_asked.nd rfl (Or.inl rfl) (pe_own O__law_head_for (hr.mono (by decide)) (pa_cons (pv 1) (pa_cons (pv 2) pa_nil))))
      (pss_cons (ps_set (i := 4) sc__law_asked.nd rfl (Or.inl rfl) (pe_ownM O_Board_by_which T.k_Board (hr.mono (by decide)) passX0 (pv 0) (pa_cons (pv 2) pa_nil)))
      (pss_cons (ps_set (i := 5) sc__law_asked.nd rfl (Or.inl rfl) (pe_ownM O_Board_led T.k_Board (hr.mono (by decide)) passX0 (pv 0) (pa_cons (pv 2) pa_nil)))
      (pss_cons (ps_if (pt_cmpR op_isNB (pv 3) pe_non (nomark _)) (pss_one (ps_ret (pe_and (pe_cmpR op_isNB (pv 4) pe_non (nomark _)) (pe_one (pe_cmpR op_isNB (pv 5) pe_non (nomark _)))))) pss_nil)
      (pss_one (ps_ret (pe_and (pe_callB call_isiB rfl T.b_isinstance bt_isinstance (pa_cons (pv 4) (pa_cons (pe_bltn rfl T.b_str bt_str rfl) pa_nil))) (pe_and (pe_cmpR op_eqB (pv 4) (pe_ix ix_B (pv 3) pe_int (fun _ _ => rfl)) (nomark _)) (pe_one (pe_own O__law_way_is (hr.mono (by decide)) (pa_cons (pv 5) (pa_cons (pe_ix ix_B (pv 3) pe_int (fun _ _ => rfl)) pa_nil))))))))))))
seal L2.PS L2.PE L2.PA L2.PSs L2.PT in
theorem ok__law_asked {P : Program} {w : World} {K : PySem.W.Frag} {mg : Str → Option Value} {base : Heap} {f : Addr} {fd : FuncData} (F : Fun K "_law_asked" "_law_asked" s__law_asked f fd) (T : Txt K mg) (O_Board_by_which : OwnM P w K mg base (CX1 P w) 4 (clsAt K "Board") "by_which" ["self", "address"] (sp_Board_by_which K)) (O_Board_led : OwnM P w K mg base (CX1 P w) 4 (clsAt K "Board") "led" ["self", "address"] (sp_Board_led K)) (O__law_head_for : Own P w K mg base 1 "_law_head_for" ["rows", "address"] (sp_law_head_for K)) (O__law_way_is : Own P w K mg base 2 "_law_way_is" ["found", "due"] (sp_law_way_is K)) : FnOk P w K mg base CX0 5 f fd ["board", "rows", "address"] (sp_law_asked K) :=
  F.ok sc__law_asked (k := 4) (fun vs H Q E h => len_law_asked h) (fun cdv A outer s H vs Q E hr h => ⟨_, tm__law_asked T O_Board_by_which O_Board_led O__law_head_for O__law_way_is hr, rdok_law_asked h⟩)

seal L2.PS L2.PE L2.PA L2.PSs L2.PT in
theorem tm__law_dropped {P : Program} {w : World} {K : PySem.W.Frag} {mg : Str → Option Value} {base : Heap} {f : Addr} {cdv : Value} {A : Around} {outer : List Env} {s : Shared} {H : Hp} {E : XK} (T : Txt K mg) (O_Board_drop : OwnM P w K mg base (CX1 P w) 3 (clsAt K "Board") "drop" ["self", "head"] (sp_Board_drop K)) (O__law_refused : Own P w K mg base 5 "_law_refused" ["board", "way", "text"] (sp_law_refused K)) (O__law_way_is : Own P w K mg base 2 "_law_way_is" ["found", "due"] (sp_law_way_is K)) (hr : Room 5 (A.deeper (PyProof.Rows.envOfC "_law_dropped" (defScope s__law_dropped) s.heap.objs.size f cdv))) :
    PSs (cxOf CX0 P w K mg base ["board", "rows", "head", "there"] "_law_dropped" (defScope s__law_dropped) f cdv A outer s H E).nox (defBody s__law_dropped) (rd_law_dropped K) :=
  (pss_cons (ps_setComp (i := 3) sc__law_dropped.nd rfl (Or.inl rfl) (CompSc.cap (js := [(2, "head")]) (fs := defScope s__law_dropped) rfl rfl rfl rfl (by decide +kernel) (by decide +kernel) rfl (by decide) rfl rfl) (pi_list (pv 1)) (fun _ _ _ _ => (pv 0)) (fun _ _ _ _ => (.one (pt_cmpR op_eqB (pe_ix ix_B (pv 0) pe_int (fun _ _ => rfl)) (pv 1) (nomark _)))))
      (pss_cons (ps_if (pt_cmpR op_eqB (pe_callB call_lenB rfl T.b_len bt_len (pa_cons (pv 3) pa_nil)) pe_int (nomark _)) (pss_one (ps_ret (pe_cmpR (op_eqD hr.units) (pe_own O__law_refused (hr.mono (by decide)) (pa_cons (pv 0) (pa_cons pe_int (pa_cons (pv 2) pa_nil)))) (pe_lst (pa_cons pe_bl (pa_cons pe_bl (pa_cons pe_bl pa_nil)))) (nomark _)))) pss_nil)
      (pss_cons (ps_expr (pe_bm PySem.F.plainAttrs_list PySem.F.slot_list_remove PySem.F.type_list_remove (mt_remove hr.units) (pv 1) (pa_cons (pe_ix ix_B (pv 3) pe_int (fun _ _ => rfl)) pa_nil)))
      (pss_one (ps_ret (pe_own O__law_way_is (hr.mono (by decide)) (pa_cons (pe_ownM O_Board_drop T.k_Board (hr.mono (by decide)) passX0 (pv 0) (pa_cons (pv 2) pa_nil)) (pa_cons (pe_ix ix_B (pe_ix ix_B (pv 3) pe_int (fun _ _ => rfl)) pe_int (fun _ _ => rfl)) pa_nil))))))))
seal L2.PS L2.PE L2.PA L2.PSs L2.PT in
theorem ok__law_dropped {P : Program} {w : World} {K : PySem.W.Frag} {mg : Str → Option Value} {base : Heap} {f : Addr} {fd : FuncData} (F : Fun K "_law_dropped" "_law_dropped" s__law_dropped f fd) (T : Txt K mg) (O_Board_drop : OwnM P w K mg base (CX1 P w) 3 (clsAt K "Board") "drop" ["self", "head"] (sp_Board_drop K)) (O__law_refused : Own P w K mg base 5 "_law_refused" ["board", "way", "text"] (sp_law_refused K)) (O__law_way_is : Own P w K mg base 2 "_law_way_is" ["found", "due"] (sp_law_way_is K)) : FnOk P w K mg base CX0 6 f fd ["board", "rows", "head"] (sp_law_dropped K) :=
  F.ok sc__law_dropped (k := 5) (fun vs H Q E h => len_law_dropped h) (fun cdv A outer s H vs Q E hr h => ⟨_, tm__law_dropped T O_Board_drop O__law_refused O__law_way_is hr, rdok_law_dropped h⟩)

seal L2.PS L2.PE L2.PA L2.PSs L2.PT in
theorem tm__law_deed {P : Program} {w : World} {K : PySem.W.Frag} {mg : Str → Option Value} {base : Heap} {f : Addr} {cdv : Value} {A : Around} {outer : List Env} {s : Shared} {H : Hp} {E : XK} (T : Txt K mg) (O__law_asked : Own P w K mg base 5 "_law_asked" ["board", "rows", "address"] (sp_law_asked K)) (O__law_bits_by : Own P w K mg base 1 "_law_bits_by" ["cell", "size"] (sp_law_bits_by K)) (O__law_dropped : Own P w K mg base 6 "_law_dropped" ["board", "rows", "head"] (sp_law_dropped K)) (O__law_put : Own P w K mg base 4 "_law_put" ["board", "rows", "head", "way"] (sp_law_put K)) (O__law_refused : Own P w K mg base 5 "_law_refused" ["board", "way", "text"] (sp_law_refused K)) (O__law_way_by : Own P w K mg base 1 "_law_way_by" ["cell", "few"] (sp_law_way_by K)) (O__law_wrong : Own P w K mg base 1 "_law_wrong" ["text", "cell", "size"] (sp_law_wrong K)) (hr : Room 6 (A.deeper (PyProof.Rows.envOfC "_law_deed" (defScope s__law_deed) s.heap.objs.size f cdv))) :
    PSs (cxOf CX0 P w K mg base ["board", "rows", "cell", "size", "address", "head", "way"] "_law_deed" (defScope s__law_deed) f cdv A outer s H E).nox (defBody s__law_deed) (rd_law_deed K) :=
  (pss_cons (ps_set (i := 4) sc__law_deed.nd rfl (Or.inl rfl) (pe_own O__law_bits_by (hr.mono (by decide)) (pa_cons (pe_op op_divB (pv 2) pe_int) (pa_cons (pv 3) pa_nil))))
      (pss_cons (ps_set (i := 5) sc__law_deed.nd rfl (Or.inl rfl) (pe_own O__law_bits_by (hr.mono (by decide)) (pa_cons (pe_op op_divB (pv 2) pe_int) (pa_cons (pe_op op_modB (pe_op op_divB (pv 2) pe_int) (pe_op op_addB (pe_callB (call_minB rfl) rfl T.b_min bt_min (pa_cons (pv 3) (pa_cons pe_int pa_nil))) pe_int)) pa_nil))))
      (pss_cons (ps_if (pt_cmpR op_eqB (pe_op op_modB (pe_op op_divB (pv 2) pe_int) pe_int) pe_int (nomark _)) (pss_one (ps_set (i := 5) sc__law_deed.nd rfl (Or.inl rfl) (pe_slice sl_B (pv 4) po_none (po_some (pe_op op_modB (pe_op op_divB (pv 2) pe_int) (pe_op op_addB (pv 3) pe_int)))))) pss_nil)
      (pss_cons (ps_set (i := 6) sc__law_deed.nd rfl (Or.inl rfl) (pe_op op_modB (pv 2) pe_int))
      (pss_cons (ps_if (pt_cmpR op_ltB (pv 6) pe_int (nomark _)) (pss_one (ps_ret (pe_own O__law_put (hr.mono (by decide)) (pa_cons (pv 0) (pa_cons (pv 1) (pa_cons (pv 5) (pa_cons (pe_own O__law_way_by (hr.mono (by decide)) (pa_cons (pe_op op_modB (pe_op op_divB (pv 2) pe_int) (pe_op op_powB pe_int pe_int)) (pa_cons pe_int pa_nil))) pa_nil))))))) pss_nil)
      (pss_cons (ps_if (pt_cmpR op_eqB (pv 6) pe_int (nomark _)) (pss_one (ps_ret (pe_own O__law_dropped (hr.mono (by decide)) (pa_cons (pv 0) (pa_cons (pv 1) (pa_cons (pv 5) pa_nil)))))) pss_nil)
      (pss_cons (ps_if (pt_cmpR op_eqB (pv 6) pe_int (nomark _)) (pss_one (ps_ret (pe_cmpR (op_eqD hr.units) (pe_own O__law_refused (hr.mono (by decide)) (pa_cons (pv 0) (pa_cons (pe_op op_modB (pe_op op_divB (pv 2) pe_int) pe_int) (pa_cons (pe_own O__law_wrong (hr.mono (by decide)) (pa_cons (pv 5) (pa_cons (pe_op op_divB (pv 2) pe_int) (pa_cons (pv 3) pa_nil)))) pa_nil)))) (pe_lst (pa_cons pe_bl (pa_cons pe_bl (pa_cons pe_bl pa_nil)))) (nomark _)))) pss_nil)
      (pss_cons (ps_if (pt_cmpR op_eqB (pv 6) pe_int (nomark _)) (pss_one (ps_ret (pe_cmpR (op_eqD hr.units) (pe_own O__law_refused (hr.mono (by decide)) (pa_cons (pv 0) (pa_cons (pe_op op_addB pe_int (pe_op op_modB (pe_op op_divB (pv 2) pe_int) pe_int)) (pa_cons (pe_own O__law_wrong (hr.mono (by decide)) (pa_cons (pv 4) (pa_cons (pe_op op_divB (pv 2) pe_int) (pa_cons (pv 3) pa_nil)))) pa_nil)))) (pe_lst (pa_cons pe_bl (pa_cons pe_bl (pa_cons pe_bl pa_nil)))) (nomark _)))) pss_nil)
      (pss_cons (ps_if (PW.pt (pw_and (pt_cmpR op_eqB (pv 6) pe_int (nomark _)) (pw_and1 (pt_cmpR op_gtB (pv 3) pe_int (nomark _))))) (pss_one (ps_ret (pe_cmpR (op_eqD hr.units) (pe_own O__law_refused (hr.mono (by decide)) (pa_cons (pv 0) (pa_cons (pe_op op_addB pe_int (pe_op op_modB (pe_op op_divB (pv 2) pe_int) pe_int)) (pa_cons (pe_slice sl_B (pv 4) (po_some pe_int) po_none) pa_nil)))) (pe_lst (pa_cons pe_bl (pa_cons pe_bl (pa_cons pe_bl pa_nil)))) (nomark _)))) pss_nil)
      (pss_one (ps_ret (pe_own O__law_asked (hr.mono (by decide)) (pa_cons (pv 0) (pa_cons (pv 1) (pa_cons (pv 4) pa_nil)))))))))))))))
seal L2.PS L2.PE L2.PA L2.PSs L2.PT in
theorem ok__law_deed {P : Program} {w : World} {K : PySem.W.Frag} {mg : Str → Option Value} {base : Heap} {f : Addr} {fd : FuncData} (F : Fun K "_law_deed" "_law_deed" s__law_deed f fd) (T : Txt K mg) (O__law_asked : Own P w K mg base 5 "_law_asked" ["board", "rows", "address"] (sp_law_asked K)) (O__law_bits_by : Own P w K mg base 1 "_law_bits_by" ["cell", "size"] (sp_law_bits_by K)) (O__law_dropped : Own P w K mg base 6 "_law_dropped" ["board", "rows", "head"] (sp_law_dropped K)) (O__law_put : Own P w K mg base 4 "_law_put" ["board", "rows", "head", "way"] (sp_law_put K)) (O__law_refused : Own P w K mg base 5 "_law_refused" ["board", "way", "text"] (sp_law_refused K)) (O__law_way_by : Own P w K mg base 1 "_law_way_by" ["cell", "few"] (sp_law_way_by K)) (O__law_wrong : Own P w K mg base 1 "_law_wrong" ["text", "cell", "size"] (sp_law_wrong K)) : FnOk P w K mg base CX0 7 f fd ["board", "rows", "cell", "size"] (sp_law_deed K) :=
  F.ok sc__law_deed (k := 6) (fun vs H Q E h => len_law_deed h) (fun cdv A outer s H vs Q E hr h => ⟨_, tm__law_deed T O__law_asked O__law_bits_by O__law_dropped O__law_put O__law_refused O__law_way_by O__law_wrong hr, rdok_law_deed h⟩)

seal L2.PS L2.PE L2.PA L2.PSs L2.PT in
theorem tm_law {P : Program} {w : World} {K : PySem.W.Frag} {mg : Str → Option Value} {base : Heap} {f : Addr} {cdv : Value} {A : Around} {outer : List Env} {s : Shared} {H : Hp} {E : XK} (T : Txt K mg) (O_Board_init : OwnC P w K mg base 1 "Board" (clsAt K "Board") ["self", "size"] (sp_Board_init K)) (O_Board_led : OwnM P w K mg base (CX1 P w) 4 (clsAt K "Board") "led" ["self", "address"] (sp_Board_led K)) (O_Board_rows : OwnM P w K mg base CX0 1 (clsAt K "Board") "rows" ["self"] (sp_Board_rows K)) (O__law_asked : Own P w K mg base 5 "_law_asked" ["board", "rows", "address"] (sp_law_asked K)) (O__law_bits_by : Own P w K mg base 1 "_law_bits_by" ["cell", "size"] (sp_law_bits_by K)) (O__law_cell_at : Own P w K mg base 1 "_law_cell_at" ["script", "k"] (sp_law_cell_at K)) (O__law_deed : Own P w K mg base 7 "_law_deed" ["board", "rows", "cell", "size"] (sp_law_deed K)) (O__law_head : Own P w K mg base 1 "_law_head" ["row"] (sp_law_head K)) (O__law_same_rows : Own P w K mg base 3 "_law_same_rows" ["found", "due"] (sp_law_same_rows K)) (O__law_whole : Own P w K mg base 1 "_law_whole" ["found"] (sp_law_whole K)) (hr : Room 7 (A.deeper (PyProof.Rows.envOfC "law" (defScope s_law) s.heap.objs.size f cdv))) :
    PSs (cxOf CX0 P w K mg base ["script", "size", "board", "other", "rows", "last", "k", "found"] "law" (defScope s_law) f cdv A outer s H E).nox (defBody s_law) (rd_law13 K) :=
  (pss_cons (ps_set (i := 1) sc_law.nd rfl (Or.inl rfl) (pe_op op_addB pe_int (pe_op op_modB (pe_own O__law_cell_at (hr.mono (by decide)) (pa_cons (pv 0) (pa_cons pe_int pa_nil))) pe_int)))
      (pss_cons (ps_set (i := 2) sc_law.nd rfl (Or.inl rfl) (pe_ownC O_Board_init (hr.mono (by decide)) (pa_cons (pv 1) pa_nil)))
      (pss_cons (ps_set (i := 3) sc_law.nd rfl (Or.inl rfl) (pe_ownC O_Board_init (hr.mono (by decide)) (pa_cons (pv 1) pa_nil)))
      (pss_cons (ps_set (i := 4) sc_law.nd rfl (Or.inl rfl) (pe_lst pa_nil))
      (pss_cons (ps_set (i := 5) sc_law.nd rfl (Or.inl rfl) (pe_op op_mulB pe_str (pv 1)))
      (pss_cons (ps_for PassesOwn.never rfl (pi_range1 rfl T.b_range (pa_cons (pe_op op_modB (pe_own O__law_cell_at (hr.mono (by decide)) (pa_cons (pv 0) (pa_cons pe_int pa_nil))) pe_int) pa_nil)) (pg_name (i := 6) sc_law.nd rfl (Or.inl rfl))
      (pss_cons (ps_if (pt_not (pt_val (pe_own O__law_deed (hr.mono (by decide)) (pa_cons (pv 2) (pa_cons (pv 4) (pa_cons (pe_own O__law_cell_at (hr.mono (by decide)) (pa_cons (pv 0) (pa_cons (pe_op op_addB pe_int (pv 6)) pa_nil))) (pa_cons (pv 1) pa_nil))))))) (pss_one (ps_ret pe_bl)) pss_nil)
      (pss_cons (ps_if (pt_not (pt_val (pe_own O__law_asked (hr.mono (by decide)) (pa_cons (pv 2) (pa_cons (pv 4) (pa_cons (pv 5) pa_nil)))))) (pss_one (ps_ret pe_bl)) pss_nil)
      (pss_cons (ps_set (i := 5) sc_law.nd rfl (Or.inl rfl) (pe_own O__law_bits_by (hr.mono (by decide)) (pa_cons (pe_op op_divB (pe_own O__law_cell_at (hr.mono (by decide)) (pa_cons (pv 0) (pa_cons (pe_op op_addB pe_int (pv 6)) pa_nil))) pe_int) (pa_cons (pv 1) pa_nil))))
      (pss_cons (ps_if (pt_not (pt_val (pe_own O__law_asked (hr.mono (by decide)) (pa_cons (pv 2) (pa_cons (pv 4) (pa_cons (pv 5) pa_nil)))))) (pss_one (ps_ret pe_bl)) pss_nil)
      (pss_cons (ps_set (i := 7) sc_law.nd rfl (Or.inl rfl) (pe_ownM0 O_Board_rows T.k_Board (hr.mono (by decide)) pass0 (pv 2)))
      (pss_cons (ps_if (PW.pt (pw_or (pt_not (pt_val (pe_own O__law_same_rows (hr.mono (by decide)) (pa_cons (pv 7) (pa_cons (pe_sortKey O__law_head (hr.mono (by decide)) T.b_sorted (pa_cons (pv 4) pa_nil)) pa_nil))))) (pw_or1 (pt_cmpR (op_neD hr.units) (pe_ownM0 O_Board_rows T.k_Board (hr.mono (by decide)) pass0 (pv 3)) (pe_lst pa_nil) (nomark _))))) (pss_one (ps_ret pe_bl)) pss_nil)
      (pss_one (ps_expr (pe_bm PySem.F.plainAttrs_list PySem.F.slot_list_append PySem.F.type_list_append mt_append (pv 7) (pa_cons (pe_tup (pa_cons pe_str (pa_cons pe_int pa_nil))) pa_nil)))))))))))
      (pss_cons (ps_if (PW.pt (pw_or (pt_not (pt_val (pe_own O__law_whole (hr.mono (by decide)) (pa_cons (pe_fldC T.k_Board T.n_Board_size (pv 2)) pa_nil)))) (pw_or1 (pt_cmpR op_neB (pe_fldC T.k_Board T.n_Board_size (pv 2)) (pv 1) (nomark _))))) (pss_one (ps_ret pe_bl)) pss_nil)
      (pss_one (ps_ret (pe_and (pe_own O__law_asked (hr.mono (by decide)) (pa_cons (pv 2) (pa_cons (pv 4) (pa_cons (pe_op op_mulB pe_str (pv 1)) pa_nil)))) (pe_one (pe_cmpR op_isNB (pe_ownM O_Board_led T.k_Board (hr.mono (by decide)) passX0 (pv 3) (pa_cons (pe_op op_mulB pe_str (pv 1)) pa_nil)) pe_non (nomark _)))))))))))))
seal L2.PS L2.PE L2.PA L2.PSs L2.PT in
theorem ok_law {P : Program} {w : World} {K : PySem.W.Frag} {mg : Str → Option Value} {base : Heap} {f : Addr} {fd : FuncData} (F : Fun K "law" "law" s_law f fd) (T : Txt K mg) (O_Board_init : OwnC P w K mg base 1 "Board" (clsAt K "Board") ["self", "size"] (sp_Board_init K)) (O_Board_led : OwnM P w K mg base (CX1 P w) 4 (clsAt K "Board") "led" ["self", "address"] (sp_Board_led K)) (O_Board_rows : OwnM P w K mg base CX0 1 (clsAt K "Board") "rows" ["self"] (sp_Board_rows K)) (O__law_asked : Own P w K mg base 5 "_law_asked" ["board", "rows", "address"] (sp_law_asked K)) (O__law_bits_by : Own P w K mg base 1 "_law_bits_by" ["cell", "size"] (sp_law_bits_by K)) (O__law_cell_at : Own P w K mg base 1 "_law_cell_at" ["script", "k"] (sp_law_cell_at K)) (O__law_deed : Own P w K mg base 7 "_law_deed" ["board", "rows", "cell", "size"] (sp_law_deed K)) (O__law_head : Own P w K mg base 1 "_law_head" ["row"] (sp_law_head K)) (O__law_same_rows : Own P w K mg base 3 "_law_same_rows" ["found", "due"] (sp_law_same_rows K)) (O__law_whole : Own P w K mg base 1 "_law_whole" ["found"] (sp_law_whole K)) : FnOk P w K mg base CX0 8 f fd ["script"] (sp_law13 K) :=
  F.ok sc_law (k := 7) (fun vs H Q E h => len_law13 h) (fun cdv A outer s H vs Q E hr h => ⟨_, tm_law T O_Board_init O_Board_led O_Board_rows O__law_asked O__law_bits_by O__law_cell_at O__law_deed O__law_head O__law_same_rows O__law_whole hr, rdok_law13 h⟩)

theorem all_mk {l : PySem.W.OpenLaw} {w : World} {K : PySem.W.Frag} {h : Heap} {mg : Str → Option Value} {fa f0 f1 f2 f3 f4 f5 f6 f7 f8 f9 f10 f11 f12 f13 f14 f15 f16 f17 f18 f19 f20 f21 f22 f23 f24 f25 f26 f27 f28 : Addr} (X : K.In h) (G : h.Ns mainGlobals mg) (hfa : mg "law" = some (.ref fa))
    {m_Board : Addr} (n_Board : PySem.W.nsIn K mainGlobals "Board" = some (some (.ref m_Board))) (p1_Board : PySem.W.plainGet K m_Board Str.empty = true) (p2_Board : PySem.W.hasDictIn K m_Board = true) (p3_Board : PySem.W.plainOver K m_Board = true) (p4_Board : PySem.W.findIn K (.ref m_Board) "__setattr__" = some (some (.builtin "object.__setattr__"))) (p5_Board : PySem.W.makesIn K m_Board = true) (p6_Board : PySem.W.keepIn K (.ref m_Board) = true) (p_Board_size : PySem.W.findIn K (.ref m_Board) "size" = some none) (p_Board_ways : PySem.W.findIn K (.ref m_Board) "ways" = some none)
    {od0 an0 od1 an1 od2 an2 od3 an3 od4 an4 od5 an5 od6 an6 od7 an7 od8 an8 od9 an9 od10 an10 od11 an11 od12 an12 od13 an13 od14 an14 od15 an15 od16 an16 od17 an17 od18 an18 od19 an19 od20 an20 od21 an21 od22 an22 od23 an23 od24 an24 od25 an25 od26 an26 od27 an27 od28 an28 : Option Addr} {sl0 sl1 sl2 sl3 sl4 sl5 sl6 sl7 sl8 sl9 sl10 sl11 sl12 sl13 sl14 sl15 sl16 sl17 sl18 sl19 sl20 sl21 sl22 sl23 sl24 sl25 sl26 sl27 sl28 : Array (Option Value)} {oc0 kV0 dc0 pm0 cd0 ct0 oc1 kV1 dc1 pm1 cd1 ct1 oc2 kV2 dc2 pm2 cd2 ct2 oc3 kV3 dc3 pm3 cd3 ct3 oc4 kV4 dc4 pm4 cd4 ct4 oc5 kV5 dc5 pm5 cd5 ct5 oc6 kV6 dc6 pm6 cd6 ct6 oc7 kV7 dc7 pm7 cd7 ct7 oc8 kV8 dc8 pm8 cd8 ct8 oc9 kV9 dc9 pm9 cd9 ct9 oc10 kV10 dc10 pm10 cd10 ct10 oc11 kV11 dc11 pm11 cd11 ct11 oc12 kV12 dc12 pm12 cd12 ct12 oc13 kV13 dc13 pm13 cd13 ct13 oc14 kV14 dc14 pm14 cd14 ct14 oc15 kV15 dc15 pm15 cd15 ct15 oc16 kV16 dc16 pm16 cd16 ct16 oc17 kV17 dc17 pm17 cd17 ct17 oc18 kV18 dc18 pm18 cd18 ct18 oc19 kV19 dc19 pm19 cd19 ct19 oc20 kV20 dc20 pm20 cd20 ct20 oc21 kV21 dc21 pm21 cd21 ct21 oc22 kV22 dc22 pm22 cd22 ct22 oc23 kV23 dc23 pm23 cd23 ct23 oc24 kV24 dc24 pm24 cd24 ct24 oc25 kV25 dc25 pm25 cd25 ct25 oc26 kV26 dc26 pm26 cd26 ct26 oc27 kV27 dc27 pm27 cd27 ct27 oc28 kV28 dc28 pm28 cd28 ct28 : Value}
    (a0 : PySem.W.nsIn K mainGlobals "begins" = some (some (.ref f0))) (l0 : K.lookup f0 = some ⟨oc0, od0, .func (PySem.W.fnOf "begins" "begins" (defArgs s_begins) (defBody s_begins) (defScope s_begins) .none kV0 dc0 pm0 an0 cd0 ct0), sl0⟩) (c0 : PySem.W.codeIn K cd0 "begins" = true) (k0 : PySem.W.keepIn K (.ref f0) = true)
    (a1 : PySem.W.nsIn K mainGlobals "is_head" = some (some (.ref f1))) (l1 : K.lookup f1 = some ⟨oc1, od1, .func (PySem.W.fnOf "is_head" "is_head" (defArgs s_is_head) (defBody s_is_head) (defScope s_is_head) .none kV1 dc1 pm1 an1 cd1 ct1), sl1⟩) (c1 : PySem.W.codeIn K cd1 "is_head" = true) (k1 : PySem.W.keepIn K (.ref f1) = true)
    (a2 : PySem.W.nsIn K mainGlobals "is_address" = some (some (.ref f2))) (l2 : K.lookup f2 = some ⟨oc2, od2, .func (PySem.W.fnOf "is_address" "is_address" (defArgs s_is_address) (defBody s_is_address) (defScope s_is_address) .none kV2 dc2 pm2 an2 cd2 ct2), sl2⟩) (c2 : PySem.W.codeIn K cd2 "is_address" = true) (k2 : PySem.W.keepIn K (.ref f2) = true)
    (a3 : PySem.W.nsIn K mainGlobals "leading_row" = some (some (.ref f3))) (l3 : K.lookup f3 = some ⟨oc3, od3, .func (PySem.W.fnOf "leading_row" "leading_row" (defArgs s_leading_row) (defBody s_leading_row) (defScope s_leading_row) .none kV3 dc3 pm3 an3 cd3 ct3), sl3⟩) (c3 : PySem.W.codeIn K cd3 "leading_row" = true) (k3 : PySem.W.keepIn K (.ref f3) = true)
    (a4 : PySem.W.nsIn K mainGlobals "head_for" = some (some (.ref f4))) (l4 : K.lookup f4 = some ⟨oc4, od4, .func (PySem.W.fnOf "head_for" "head_for" (defArgs s_head_for) (defBody s_head_for) (defScope s_head_for) .none kV4 dc4 pm4 an4 cd4 ct4), sl4⟩) (c4 : PySem.W.codeIn K cd4 "head_for" = true) (k4 : PySem.W.keepIn K (.ref f4) = true)
    (a5 : PySem.W.nsIn K mainGlobals "way_for" = some (some (.ref f5))) (l5 : K.lookup f5 = some ⟨oc5, od5, .func (PySem.W.fnOf "way_for" "way_for" (defArgs s_way_for) (defBody s_way_for) (defScope s_way_for) .none kV5 dc5 pm5 an5 cd5 ct5), sl5⟩) (c5 : PySem.W.codeIn K cd5 "way_for" = true) (k5 : PySem.W.keepIn K (.ref f5) = true)
    (a6 : PySem.W.nsIn K mainGlobals "_law_cell_at" = some (some (.ref f6))) (l6 : K.lookup f6 = some ⟨oc6, od6, .func (PySem.W.fnOf "_law_cell_at" "_law_cell_at" (defArgs s__law_cell_at) (defBody s__law_cell_at) (defScope s__law_cell_at) .none kV6 dc6 pm6 an6 cd6 ct6), sl6⟩) (c6 : PySem.W.codeIn K cd6 "_law_cell_at" = true) (k6 : PySem.W.keepIn K (.ref f6) = true)
    (a7 : PySem.W.nsIn K mainGlobals "_law_whole" = some (some (.ref f7))) (l7 : K.lookup f7 = some ⟨oc7, od7, .func (PySem.W.fnOf "_law_whole" "_law_whole" (defArgs s__law_whole) (defBody s__law_whole) (defScope s__law_whole) .none kV7 dc7 pm7 an7 cd7 ct7), sl7⟩) (c7 : PySem.W.codeIn K cd7 "_law_whole" = true) (k7 : PySem.W.keepIn K (.ref f7) = true)
    (a8 : PySem.W.nsIn K mainGlobals "_law_bits_by" = some (some (.ref f8))) (l8 : K.lookup f8 = some ⟨oc8, od8, .func (PySem.W.fnOf "_law_bits_by" "_law_bits_by" (defArgs s__law_bits_by) (defBody s__law_bits_by) (defScope s__law_bits_by) .none kV8 dc8 pm8 an8 cd8 ct8), sl8⟩) (c8 : PySem.W.codeIn K cd8 "_law_bits_by" = true) (k8 : PySem.W.keepIn K (.ref f8) = true)
    (a9 : PySem.W.nsIn K mainGlobals "_law_way_by" = some (some (.ref f9))) (l9 : K.lookup f9 = some ⟨oc9, od9, .func (PySem.W.fnOf "_law_way_by" "_law_way_by" (defArgs s__law_way_by) (defBody s__law_way_by) (defScope s__law_way_by) .none kV9 dc9 pm9 an9 cd9 ct9), sl9⟩) (c9 : PySem.W.codeIn K cd9 "_law_way_by" = true) (k9 : PySem.W.keepIn K (.ref f9) = true)
    (a10 : PySem.W.nsIn K mainGlobals "_law_head_for" = some (some (.ref f10))) (l10 : K.lookup f10 = some ⟨oc10, od10, .func (PySem.W.fnOf "_law_head_for" "_law_head_for" (defArgs s__law_head_for) (defBody s__law_head_for) (defScope s__law_head_for) .none kV10 dc10 pm10 an10 cd10 ct10), sl10⟩) (c10 : PySem.W.codeIn K cd10 "_law_head_for" = true) (k10 : PySem.W.keepIn K (.ref f10) = true)
    (a11 : PySem.W.nsIn K mainGlobals "_law_way_is" = some (some (.ref f11))) (l11 : K.lookup f11 = some ⟨oc11, od11, .func (PySem.W.fnOf "_law_way_is" "_law_way_is" (defArgs s__law_way_is) (defBody s__law_way_is) (defScope s__law_way_is) .none kV11 dc11 pm11 an11 cd11 ct11), sl11⟩) (c11 : PySem.W.codeIn K cd11 "_law_way_is" = true) (k11 : PySem.W.keepIn K (.ref f11) = true)
    (a12 : PySem.W.nsIn K mainGlobals "_law_same_rows" = some (some (.ref f12))) (l12 : K.lookup f12 = some ⟨oc12, od12, .func (PySem.W.fnOf "_law_same_rows" "_law_same_rows" (defArgs s__law_same_rows) (defBody s__law_same_rows) (defScope s__law_same_rows) .none kV12 dc12 pm12 an12 cd12 ct12), sl12⟩) (c12 : PySem.W.codeIn K cd12 "_law_same_rows" = true) (k12 : PySem.W.keepIn K (.ref f12) = true)
    (a13 : PySem.W.nsIn K mainGlobals "_law_head" = some (some (.ref f13))) (l13 : K.lookup f13 = some ⟨oc13, od13, .func (PySem.W.fnOf "_law_head" "_law_head" (defArgs s__law_head) (defBody s__law_head) (defScope s__law_head) .none kV13 dc13 pm13 an13 cd13 ct13), sl13⟩) (c13 : PySem.W.codeIn K cd13 "_law_head" = true) (k13 : PySem.W.keepIn K (.ref f13) = true)
    (a14 : PySem.W.nsIn K mainGlobals "_law_wrong" = some (some (.ref f14))) (l14 : K.lookup f14 = some ⟨oc14, od14, .func (PySem.W.fnOf "_law_wrong" "_law_wrong" (defArgs s__law_wrong) (defBody s__law_wrong) (defScope s__law_wrong) .none kV14 dc14 pm14 an14 cd14 ct14), sl14⟩) (c14 : PySem.W.codeIn K cd14 "_law_wrong" = true) (k14 : PySem.W.keepIn K (.ref f14) = true)
    (a15 : PySem.W.nsIn K mainGlobals "_law_refused" = some (some (.ref f15))) (l15 : K.lookup f15 = some ⟨oc15, od15, .func (PySem.W.fnOf "_law_refused" "_law_refused" (defArgs s__law_refused) (defBody s__law_refused) (defScope s__law_refused) .none kV15 dc15 pm15 an15 cd15 ct15), sl15⟩) (c15 : PySem.W.codeIn K cd15 "_law_refused" = true) (k15 : PySem.W.keepIn K (.ref f15) = true)
    (a16 : PySem.W.nsIn K mainGlobals "_law_asked" = some (some (.ref f16))) (l16 : K.lookup f16 = some ⟨oc16, od16, .func (PySem.W.fnOf "_law_asked" "_law_asked" (defArgs s__law_asked) (defBody s__law_asked) (defScope s__law_asked) .none kV16 dc16 pm16 an16 cd16 ct16), sl16⟩) (c16 : PySem.W.codeIn K cd16 "_law_asked" = true) (k16 : PySem.W.keepIn K (.ref f16) = true)
    (a17 : PySem.W.nsIn K mainGlobals "_law_put" = some (some (.ref f17))) (l17 : K.lookup f17 = some ⟨oc17, od17, .func (PySem.W.fnOf "_law_put" "_law_put" (defArgs s__law_put) (defBody s__law_put) (defScope s__law_put) .none kV17 dc17 pm17 an17 cd17 ct17), sl17⟩) (c17 : PySem.W.codeIn K cd17 "_law_put" = true) (k17 : PySem.W.keepIn K (.ref f17) = true)
    (a18 : PySem.W.nsIn K mainGlobals "_law_dropped" = some (some (.ref f18))) (l18 : K.lookup f18 = some ⟨oc18, od18, .func (PySem.W.fnOf "_law_dropped" "_law_dropped" (defArgs s__law_dropped) (defBody s__law_dropped) (defScope s__law_dropped) .none kV18 dc18 pm18 an18 cd18 ct18), sl18⟩) (c18 : PySem.W.codeIn K cd18 "_law_dropped" = true) (k18 : PySem.W.keepIn K (.ref f18) = true)
    (a19 : PySem.W.nsIn K mainGlobals "_law_deed" = some (some (.ref f19))) (l19 : K.lookup f19 = some ⟨oc19, od19, .func (PySem.W.fnOf "_law_deed" "_law_deed" (defArgs s__law_deed) (defBody s__law_deed) (defScope s__law_deed) .none kV19 dc19 pm19 an19 cd19 ct19), sl19⟩) (c19 : PySem.W.codeIn K cd19 "_law_deed" = true) (k19 : PySem.W.keepIn K (.ref f19) = true)
    (a20 : PySem.W.nsIn K mainGlobals "law" = some (some (.ref f20))) (l20 : K.lookup f20 = some ⟨oc20, od20, .func (PySem.W.fnOf "law" "law" (defArgs s_law) (defBody s_law) (defScope s_law) .none kV20 dc20 pm20 an20 cd20 ct20), sl20⟩) (c20 : PySem.W.codeIn K cd20 "law" = true) (k20 : PySem.W.keepIn K (.ref f20) = true)
    (a21 : PySem.W.findIn K (.ref m_Board) "__init__" = some (some (.ref f21))) (l21 : K.lookup f21 = some ⟨oc21, od21, .func (PySem.W.fnOf "__init__" "Board.__init__" (defArgs s_Board_init) (defBody s_Board_init) (defScope s_Board_init) .none kV21 dc21 pm21 an21 cd21 ct21), sl21⟩) (c21 : PySem.W.codeIn K cd21 "Board.__init__" = true) (k21 : PySem.W.keepIn K (.ref f21) = true) (q21 : PySem.W.isFn K (.ref f21) = true)
    (a22 : PySem.W.findIn K (.ref m_Board) "check_head" = some (some (.ref f22))) (l22 : K.lookup f22 = some ⟨oc22, od22, .func (PySem.W.fnOf "check_head" "Board.check_head" (defArgs s_Board_check_head) (defBody s_Board_check_head) (defScope s_Board_check_head) .none kV22 dc22 pm22 an22 cd22 ct22), sl22⟩) (c22 : PySem.W.codeIn K cd22 "Board.check_head" = true) (k22 : PySem.W.keepIn K (.ref f22) = true) (q22 : PySem.W.isFn K (.ref f22) = true)
    (a23 : PySem.W.findIn K (.ref m_Board) "check_address" = some (some (.ref f23))) (l23 : K.lookup f23 = some ⟨oc23, od23, .func (PySem.W.fnOf "check_address" "Board.check_address" (defArgs s_Board_check_address) (defBody s_Board_check_address) (defScope s_Board_check_address) .none kV23 dc23 pm23 an23 cd23 ct23), sl23⟩) (c23 : PySem.W.codeIn K cd23 "Board.check_address" = true) (k23 : PySem.W.keepIn K (.ref f23) = true) (q23 : PySem.W.isFn K (.ref f23) = true)
    (a24 : PySem.W.findIn K (.ref m_Board) "put" = some (some (.ref f24))) (l24 : K.lookup f24 = some ⟨oc24, od24, .func (PySem.W.fnOf "put" "Board.put" (defArgs s_Board_put) (defBody s_Board_put) (defScope s_Board_put) .none kV24 dc24 pm24 an24 cd24 ct24), sl24⟩) (c24 : PySem.W.codeIn K cd24 "Board.put" = true) (k24 : PySem.W.keepIn K (.ref f24) = true) (q24 : PySem.W.isFn K (.ref f24) = true)
    (a25 : PySem.W.findIn K (.ref m_Board) "drop" = some (some (.ref f25))) (l25 : K.lookup f25 = some ⟨oc25, od25, .func (PySem.W.fnOf "drop" "Board.drop" (defArgs s_Board_drop) (defBody s_Board_drop) (defScope s_Board_drop) .none kV25 dc25 pm25 an25 cd25 ct25), sl25⟩) (c25 : PySem.W.codeIn K cd25 "Board.drop" = true) (k25 : PySem.W.keepIn K (.ref f25) = true) (q25 : PySem.W.isFn K (.ref f25) = true)
    (a26 : PySem.W.findIn K (.ref m_Board) "rows" = some (some (.ref f26))) (l26 : K.lookup f26 = some ⟨oc26, od26, .func (PySem.W.fnOf "rows" "Board.rows" (defArgs s_Board_rows) (defBody s_Board_rows) (defScope s_Board_rows) .none kV26 dc26 pm26 an26 cd26 ct26), sl26⟩) (c26 : PySem.W.codeIn K cd26 "Board.rows" = true) (k26 : PySem.W.keepIn K (.ref f26) = true) (q26 : PySem.W.isFn K (.ref f26) = true)
    (a27 : PySem.W.findIn K (.ref m_Board) "led" = some (some (.ref f27))) (l27 : K.lookup f27 = some ⟨oc27, od27, .func (PySem.W.fnOf "led" "Board.led" (defArgs s_Board_led) (defBody s_Board_led) (defScope s_Board_led) .none kV27 dc27 pm27 an27 cd27 ct27), sl27⟩) (c27 : PySem.W.codeIn K cd27 "Board.led" = true) (k27 : PySem.W.keepIn K (.ref f27) = true) (q27 : PySem.W.isFn K (.ref f27) = true)
    (a28 : PySem.W.findIn K (.ref m_Board) "by_which" = some (some (.ref f28))) (l28 : K.lookup f28 = some ⟨oc28, od28, .func (PySem.W.fnOf "by_which" "Board.by_which" (defArgs s_Board_by_which) (defBody s_Board_by_which) (defScope s_Board_by_which) .none kV28 dc28 pm28 an28 cd28 ct28), sl28⟩) (c28 : PySem.W.codeIn K cd28 "Board.by_which" = true) (k28 : PySem.W.keepIn K (.ref f28) = true) (q28 : PySem.W.isFn K (.ref f28) = true)
    (z_bool : PySem.W.nsIn K mainGlobals "bool" = some none)
    (z_int : PySem.W.nsIn K mainGlobals "int" = some none)
    (z_isinstance : PySem.W.nsIn K mainGlobals "isinstance" = some none)
    (z_len : PySem.W.nsIn K mainGlobals "len" = some none)
    (z_list : PySem.W.nsIn K mainGlobals "list" = some none)
    (z_min : PySem.W.nsIn K mainGlobals "min" = some none)
    (z_range : PySem.W.nsIn K mainGlobals "range" = some none)
    (z_sorted : PySem.W.nsIn K mainGlobals "sorted" = some none)
    (z_str : PySem.W.nsIn K mainGlobals "str" = some none)
    (z_tuple : PySem.W.nsIn K mainGlobals "tuple" = some none)
    {c_BadAddress c_BadHead c_BadLine c_BadSpan c_FullBoard c_NoHead c_RoadError : Addr}
    (n_BadAddress : PySem.W.nsIn K mainGlobals "BadAddress" = some (some (.ref c_BadAddress))) (x_BadAddress : PySem.W.excIn K c_BadAddress bmV "ValueError.__new__" = true)
    (n_BadHead : PySem.W.nsIn K mainGlobals "BadHead" = some (some (.ref c_BadHead))) (x_BadHead : PySem.W.excIn K c_BadHead bmV "ValueError.__new__" = true)
    (n_BadLine : PySem.W.nsIn K mainGlobals "BadLine" = some (some (.ref c_BadLine))) (x_BadLine : PySem.W.excIn K c_BadLine bmV "ValueError.__new__" = true)
    (n_BadSpan : PySem.W.nsIn K mainGlobals "BadSpan" = some (some (.ref c_BadSpan))) (x_BadSpan : PySem.W.excIn K c_BadSpan bmV "ValueError.__new__" = true)
    (n_FullBoard : PySem.W.nsIn K mainGlobals "FullBoard" = some (some (.ref c_FullBoard))) (x_FullBoard : PySem.W.excIn K c_FullBoard bmV "ValueError.__new__" = true)
    (n_NoHead : PySem.W.nsIn K mainGlobals "NoHead" = some (some (.ref c_NoHead))) (x_NoHead : PySem.W.excIn K c_NoHead bmV "ValueError.__new__" = true)
    (n_RoadError : PySem.W.nsIn K mainGlobals "RoadError" = some (some (.ref c_RoadError))) (x_RoadError : PySem.W.excIn K c_RoadError bmV "ValueError.__new__" = true)
    (r_sub0 : PySem.W.mroIn K c_BadHead (.ref c_RoadError) = some true)
    (r_ga0 : PySem.W.findIn K (.ref c_BadHead) "__getattribute__" = some (some (.builtin "BaseException.__getattribute__")))
    (r_gn0 : PySem.W.findIn K (.ref c_BadHead) "__getattr__" = some none)
    (r_cl0 : PySem.W.findIn K (.ref c_BadHead) "__class__" = some (some (.builtin "object.__class__")))
    (r_mo0 : PySem.W.mroIn K c_BadHead (.type "object") = some true)
    (r_mb0 : PySem.W.mroIn K c_BadHead (.type "BaseException") = some true)
    (r_i00 : PySem.W.kitOne K (.ref c_BadHead) (.ref c_BadHead) = some true)
    (r_i01 : PySem.W.kitOne K (.ref c_BadHead) (.ref c_NoHead) = some false)
    (r_i02 : PySem.W.kitOne K (.ref c_BadHead) (.ref c_BadAddress) = some false)
    (r_i03 : PySem.W.kitOne K (.ref c_BadHead) (.ref c_FullBoard) = some false)
    (r_i04 : PySem.W.kitOne K (.ref c_BadHead) (.ref c_BadLine) = some false)
    (r_i05 : PySem.W.kitOne K (.ref c_BadHead) (.ref c_BadSpan) = some false)
    (r_sub1 : PySem.W.mroIn K c_NoHead (.ref c_RoadError) = some true)
    (r_ga1 : PySem.W.findIn K (.ref c_NoHead) "__getattribute__" = some (some (.builtin "BaseException.__getattribute__")))
    (r_gn1 : PySem.W.findIn K (.ref c_NoHead) "__getattr__" = some none)
    (r_cl1 : PySem.W.findIn K (.ref c_NoHead) "__class__" = some (some (.builtin "object.__class__")))
    (r_mo1 : PySem.W.mroIn K c_NoHead (.type "object") = some true)
    (r_mb1 : PySem.W.mroIn K c_NoHead (.type "BaseException") = some true)
    (r_i10 : PySem.W.kitOne K (.ref c_NoHead) (.ref c_BadHead) = some false)
    (r_i11 : PySem.W.kitOne K (.ref c_NoHead) (.ref c_NoHead) = some true)
    (r_i12 : PySem.W.kitOne K (.ref c_NoHead) (.ref c_BadAddress) = some false)
    (r_i13 : PySem.W.kitOne K (.ref c_NoHead) (.ref c_FullBoard) = some false)
    (r_i14 : PySem.W.kitOne K (.ref c_NoHead) (.ref c_BadLine) = some false)
    (r_i15 : PySem.W.kitOne K (.ref c_NoHead) (.ref c_BadSpan) = some false)
    (r_sub2 : PySem.W.mroIn K c_BadAddress (.ref c_RoadError) = some true)
    (r_ga2 : PySem.W.findIn K (.ref c_BadAddress) "__getattribute__" = some (some (.builtin "BaseException.__getattribute__")))
    (r_gn2 : PySem.W.findIn K (.ref c_BadAddress) "__getattr__" = some none)
    (r_cl2 : PySem.W.findIn K (.ref c_BadAddress) "__class__" = some (some (.builtin "object.__class__")))
    (r_mo2 : PySem.W.mroIn K c_BadAddress (.type "object") = some true)
    (r_mb2 : PySem.W.mroIn K c_BadAddress (.type "BaseException") = some true)
    (r_i20 : PySem.W.kitOne K (.ref c_BadAddress) (.ref c_BadHead) = some false)
    (r_i21 : PySem.W.kitOne K (.ref c_BadAddress) (.ref c_NoHead) = some false)
    (r_i22 : PySem.W.kitOne K (.ref c_BadAddress) (.ref c_BadAddress) = some true)
    (r_i23 : PySem.W.kitOne K (.ref c_BadAddress) (.ref c_FullBoard) = some false)
    (r_i24 : PySem.W.kitOne K (.ref c_BadAddress) (.ref c_BadLine) = some false)
    (r_i25 : PySem.W.kitOne K (.ref c_BadAddress) (.ref c_BadSpan) = some false)
    (r_sg : PySem.W.specialIn K (.builtin "object.__class__") "__get__" = some (some (.builtin "getset_descriptor.__get__")))
    (r_tk : PySem.W.takesIn K (.builtin "object.__class__") = some true)
    {t_MOST_ROWS : Tok} (g_MOST_ROWS : PySem.W.nsIn K mainGlobals "MOST_ROWS" = some (some (.int 60 t_MOST_ROWS)))
    : ∃ fd : FuncData, (∀ (s : Shared) (v : Value), BindsTo s fd ⟨[v], []⟩ [("script", v)]) ∧ ∀ base : Heap, K.In base → base.Ns mainGlobals mg → FnOk l.prog w K mg base CX0 8 fa fd ["script"] (sp_law13 K) := by
  have e := hfa.symm.trans (PySem.W.mg_of X G a20)
  cases e
  have k_BadAddress := clsAt_of n_BadAddress
  have k_BadHead := clsAt_of n_BadHead
  have k_BadLine := clsAt_of n_BadLine
  have k_BadSpan := clsAt_of n_BadSpan
  have k_FullBoard := clsAt_of n_FullBoard
  have k_NoHead := clsAt_of n_NoHead
  have k_RoadError := clsAt_of n_RoadError
  have k_Board := clsAt_of n_Board
  have T : Txt K mg := ⟨PySem.W.mg_none_of X G z_bool, PySem.W.mg_none_of X G z_int, PySem.W.mg_none_of X G z_isinstance, PySem.W.mg_none_of X G z_len, PySem.W.mg_none_of X G z_list, PySem.W.mg_none_of X G z_min, PySem.W.mg_none_of X G z_range, PySem.W.mg_none_of X G z_sorted, PySem.W.mg_none_of X G z_str, PySem.W.mg_none_of X G z_tuple, by rw [k_BadAddress]; exact PySem.W.mg_of X G n_BadAddress, by rw [k_BadAddress]; exact x_BadAddress, by rw [k_BadHead]; exact PySem.W.mg_of X G n_BadHead, by rw [k_BadHead]; exact x_BadHead, by rw [k_BadLine]; exact PySem.W.mg_of X G n_BadLine, by rw [k_BadLine]; exact x_BadLine, by rw [k_BadSpan]; exact PySem.W.mg_of X G n_BadSpan, by rw [k_BadSpan]; exact x_BadSpan, by rw [k_FullBoard]; exact PySem.W.mg_of X G n_FullBoard, by rw [k_FullBoard]; exact x_FullBoard, by rw [k_NoHead]; exact PySem.W.mg_of X G n_NoHead, by rw [k_NoHead]; exact x_NoHead, by rw [k_RoadError]; exact PySem.W.mg_of X G n_RoadError, by rw [k_RoadError]; exact x_RoadError, ⟨_, PySem.W.mg_of X G g_MOST_ROWS⟩, by rw [k_Board]; exact ⟨p1_Board, p2_Board, p3_Board, p4_Board⟩, by rw [k_Board]; exact p_Board_size, by rw [k_Board]; exact p_Board_ways, ⟨by (try simp only [k_BadAddress, k_BadHead, k_BadLine, k_BadSpan, k_FullBoard, k_NoHead, k_RoadError]); exact r_sub0, by (try simp only [k_BadAddress, k_BadHead, k_BadLine, k_BadSpan, k_FullBoard, k_NoHead, k_RoadError]); exact r_ga0, by (try simp only [k_BadAddress, k_BadHead, k_BadLine, k_BadSpan, k_FullBoard, k_NoHead, k_RoadError]); exact r_gn0, by (try simp only [k_BadAddress, k_BadHead, k_BadLine, k_BadSpan, k_FullBoard, k_NoHead, k_RoadError]); exact r_cl0, by (try simp only [k_BadAddress, k_BadHead, k_BadLine, k_BadSpan, k_FullBoard, k_NoHead, k_RoadError]); exact r_mo0, by (try simp only [k_BadAddress, k_BadHead, k_BadLine, k_BadSpan, k_FullBoard, k_NoHead, k_RoadError]); exact r_mb0, by (try simp only [k_BadAddress, k_BadHead, k_BadLine, k_BadSpan, k_FullBoard, k_NoHead, k_RoadError]); exact r_i00, by (try simp only [k_BadAddress, k_BadHead, k_BadLine, k_BadSpan, k_FullBoard, k_NoHead, k_RoadError]); exact r_i01, by (try simp only [k_BadAddress, k_BadHead, k_BadLine, k_BadSpan, k_FullBoard, k_NoHead, k_RoadError]); exact r_i02, by (try simp only [k_BadAddress, k_BadHead, k_BadLine, k_BadSpan, k_FullBoard, k_NoHead, k_RoadError]); exact r_i03, by (try simp only [k_BadAddress, k_BadHead, k_BadLine, k_BadSpan, k_FullBoard, k_NoHead, k_RoadError]); exact r_i04, by (try simp only [k_BadAddress, k_BadHead, k_BadLine, k_BadSpan, k_FullBoard, k_NoHead, k_RoadError]); exact r_i05, by (try simp only [k_BadAddress, k_BadHead, k_BadLine, k_BadSpan, k_FullBoard, k_NoHead, k_RoadError]); exact r_sub1, by (try simp only [k_BadAddress, k_BadHead, k_BadLine, k_BadSpan, k_FullBoard, k_NoHead, k_RoadError]); exact r_ga1, by (try simp only [k_BadAddress, k_BadHead, k_BadLine, k_BadSpan, k_FullBoard, k_NoHead, k_RoadError]); exact r_gn1, by (try simp only [k_BadAddress, k_BadHead, k_BadLine, k_BadSpan, k_FullBoard, k_NoHead, k_RoadError]); exact r_cl1, by (try simp only [k_BadAddress, k_BadHead, k_BadLine, k_BadSpan, k_FullBoard, k_NoHead, k_RoadError]); exact r_mo1, by (try simp only [k_BadAddress, k_BadHead, k_BadLine, k_BadSpan, k_FullBoard, k_NoHead, k_RoadError]); exact r_mb1, by (try simp only [k_BadAddress, k_BadHead, k_BadLine, k_BadSpan, k_FullBoard, k_NoHead, k_RoadError]); exact r_i10, by (try simp only [k_BadAddress, k_BadHead, k_BadLine, k_BadSpan, k_FullBoard, k_NoHead, k_RoadError]); exact r_i11, by (try simp only [k_BadAddress, k_BadHead, k_BadLine, k_BadSpan, k_FullBoard, k_NoHead, k_RoadError]); exact r_i12, by (try simp only [k_BadAddress, k_BadHead, k_BadLine, k_BadSpan, k_FullBoard, k_NoHead, k_RoadError]); exact r_i13, by (try simp only [k_BadAddress, k_BadHead, k_BadLine, k_BadSpan, k_FullBoard, k_NoHead, k_RoadError]); exact r_i14, by (try simp only [k_BadAddress, k_BadHead, k_BadLine, k_BadSpan, k_FullBoard, k_NoHead, k_RoadError]); exact r_i15, by (try simp only [k_BadAddress, k_BadHead, k_BadLine, k_BadSpan, k_FullBoard, k_NoHead, k_RoadError]); exact r_sub2, by (try simp only [k_BadAddress, k_BadHead, k_BadLine, k_BadSpan, k_FullBoard, k_NoHead, k_RoadError]); exact r_ga2, by (try simp only [k_BadAddress, k_BadHead, k_BadLine, k_BadSpan, k_FullBoard, k_NoHead, k_RoadError]); exact r_gn2, by (try simp only [k_BadAddress, k_BadHead, k_BadLine, k_BadSpan, k_FullBoard, k_NoHead, k_RoadError]); exact r_cl2, by (try simp only [k_BadAddress, k_BadHead, k_BadLine, k_BadSpan, k_FullBoard, k_NoHead, k_RoadError]); exact r_mo2, by (try simp only [k_BadAddress, k_BadHead, k_BadLine, k_BadSpan, k_FullBoard, k_NoHead, k_RoadError]); exact r_mb2, by (try simp only [k_BadAddress, k_BadHead, k_BadLine, k_BadSpan, k_FullBoard, k_NoHead, k_RoadError]); exact r_i20, by (try simp only [k_BadAddress, k_BadHead, k_BadLine, k_BadSpan, k_FullBoard, k_NoHead, k_RoadError]); exact r_i21, by (try simp only [k_BadAddress, k_BadHead, k_BadLine, k_BadSpan, k_FullBoard, k_NoHead, k_RoadError]); exact r_i22, by (try simp only [k_BadAddress, k_BadHead, k_BadLine, k_BadSpan, k_FullBoard, k_NoHead, k_RoadError]); exact r_i23, by (try simp only [k_BadAddress, k_BadHead, k_BadLine, k_BadSpan, k_FullBoard, k_NoHead, k_RoadError]); exact r_i24, by (try simp only [k_BadAddress, k_BadHead, k_BadLine, k_BadSpan, k_FullBoard, k_NoHead, k_RoadError]); exact r_i25, by (try simp only [k_BadAddress, k_BadHead, k_BadLine, k_BadSpan, k_FullBoard, k_NoHead, k_RoadError]); exact r_sg, by (try simp only [k_BadAddress, k_BadHead, k_BadLine, k_BadSpan, k_FullBoard, k_NoHead, k_RoadError]); exact r_tk⟩⟩
  have F0 := fun_mk (st := s_begins) l0 c0 k0
  have b0 := F0.binds (ps := ["head", "address"]) fun _ _ _ _ _ _ us hl => match us, hl with | [_, _], _ => rfl
  have F1 := fun_mk (st := s_is_head) l1 c1 k1
  have b1 := F1.binds (ps := ["text", "size"]) fun _ _ _ _ _ _ us hl => match us, hl with | [_, _], _ => rfl
  have F6 := fun_mk (st := s__law_cell_at) l6 c6 k6
  have b6 := F6.binds (ps := ["script", "k"]) fun _ _ _ _ _ _ us hl => match us, hl with | [_, _], _ => rfl
  have F7 := fun_mk (st := s__law_whole) l7 c7 k7
  have b7 := F7.binds (ps := ["found"]) fun _ _ _ _ _ _ us hl => match us, hl with | [_], _ => rfl
  have F8 := fun_mk (st := s__law_bits_by) l8 c8 k8
  have b8 := F8.binds (ps := ["cell", "size"]) fun _ _ _ _ _ _ us hl => match us, hl with | [_, _], _ => rfl
  have F9 := fun_mk (st := s__law_way_by) l9 c9 k9
  have b9 := F9.binds (ps := ["cell", "few"]) fun _ _ _ _ _ _ us hl => match us, hl with | [_, _], _ => rfl
  have F10 := fun_mk (st := s__law_head_for) l10 c10 k10
  have b10 := F10.binds (ps := ["rows", "address"]) fun _ _ _ _ _ _ us hl => match us, hl with | [_, _], _ => rfl
  have F13 := fun_mk (st := s__law_head) l13 c13 k13
  have b13 := F13.binds (ps := ["row"]) fun _ _ _ _ _ _ us hl => match us, hl with | [_], _ => rfl
  have F14 := fun_mk (st := s__law_wrong) l14 c14 k14
  have b14 := F14.binds (ps := ["text", "cell", "size"]) fun _ _ _ _ _ _ us hl => match us, hl with | [_, _, _], _ => rfl
  have F21 := fun_mk (st := s_Board_init) l21 c21 k21
  have b21 := F21.binds (ps := ["self", "size"]) fun _ _ _ _ _ _ us hl => match us, hl with | [_, _], _ => rfl
  have F26 := fun_mk (st := s_Board_rows) l26 c26 k26
  have b26 := F26.binds (ps := ["self"]) fun _ _ _ _ _ _ us hl => match us, hl with | [_], _ => rfl
  have F2 := fun_mk (st := s_is_address) l2 c2 k2
  have b2 := F2.binds (ps := ["text", "size"]) fun _ _ _ _ _ _ us hl => match us, hl with | [_, _], _ => rfl
  have F3 := fun_mk (st := s_leading_row) l3 c3 k3
  have b3 := F3.binds (ps := ["rows", "address"]) fun _ _ _ _ _ _ us hl => match us, hl with | [_, _], _ => rfl
  have F11 := fun_mk (st := s__law_way_is) l11 c11 k11
  have b11 := F11.binds (ps := ["found", "due"]) fun _ _ _ _ _ _ us hl => match us, hl with | [_, _], _ => rfl
  have F22 := fun_mk (st := s_Board_check_head) l22 c22 k22
  have b22 := F22.binds (ps := ["self", "head"]) fun _ _ _ _ _ _ us hl => match us, hl with | [_, _], _ => rfl
  have F4 := fun_mk (st := s_head_for) l4 c4 k4
  have b4 := F4.binds (ps := ["rows", "address"]) fun _ _ _ _ _ _ us hl => match us, hl with | [_, _], _ => rfl
  have F5 := fun_mk (st := s_way_for) l5 c5 k5
  have b5 := F5.binds (ps := ["rows", "address"]) fun _ _ _ _ _ _ us hl => match us, hl with | [_, _], _ => rfl
  have F12 := fun_mk (st := s__law_same_rows) l12 c12 k12
  have b12 := F12.binds (ps := ["found", "due"]) fun _ _ _ _ _ _ us hl => match us, hl with | [_, _], _ => rfl
  have F23 := fun_mk (st := s_Board_check_address) l23 c23 k23
  have b23 := F23.binds (ps := ["self", "address"]) fun _ _ _ _ _ _ us hl => match us, hl with | [_, _], _ => rfl
  have F24 := fun_mk (st := s_Board_put) l24 c24 k24
  have b24 := F24.binds (ps := ["self", "head", "way"]) fun _ _ _ _ _ _ us hl => match us, hl with | [_, _, _], _ => rfl
  have F25 := fun_mk (st := s_Board_drop) l25 c25 k25
  have b25 := F25.binds (ps := ["self", "head"]) fun _ _ _ _ _ _ us hl => match us, hl with | [_, _], _ => rfl
  have F17 := fun_mk (st := s__law_put) l17 c17 k17
  have b17 := F17.binds (ps := ["board", "rows", "head", "way"]) fun _ _ _ _ _ _ us hl => match us, hl with | [_, _, _, _], _ => rfl
  have F27 := fun_mk (st := s_Board_led) l27 c27 k27
  have b27 := F27.binds (ps := ["self", "address"]) fun _ _ _ _ _ _ us hl => match us, hl with | [_, _], _ => rfl
  have F28 := fun_mk (st := s_Board_by_which) l28 c28 k28
  have b28 := F28.binds (ps := ["self", "address"]) fun _ _ _ _ _ _ us hl => match us, hl with | [_, _], _ => rfl
  have F15 := fun_mk (st := s__law_refused) l15 c15 k15
  have b15 := F15.binds (ps := ["board", "way", "text"]) fun _ _ _ _ _ _ us hl => match us, hl with | [_, _, _], _ => rfl
  have F16 := fun_mk (st := s__law_asked) l16 c16 k16
  have b16 := F16.binds (ps := ["board", "rows", "address"]) fun _ _ _ _ _ _ us hl => match us, hl with | [_, _, _], _ => rfl
  have F18 := fun_mk (st := s__law_dropped) l18 c18 k18
  have b18 := F18.binds (ps := ["board", "rows", "head"]) fun _ _ _ _ _ _ us hl => match us, hl with | [_, _, _], _ => rfl
  have F19 := fun_mk (st := s__law_deed) l19 c19 k19
  have b19 := F19.binds (ps := ["board", "rows", "cell", "size"]) fun _ _ _ _ _ _ us hl => match us, hl with | [_, _, _, _], _ => rfl
  have F20 := fun_mk (st := s_law) l20 c20 k20
  refine ⟨PySem.W.fnOf "law" "law" (defArgs s_law) (defBody s_law) (defScope s_law) .none kV20 dc20 pm20 an20 cd20 ct20, fun s v => .of_eq rfl, fun base _ _ => ?_⟩
  have O_begins : Own l.prog w K mg base 1 "begins" ["head", "address"] (sp_begins K) := .mk' (ok_begins F0 T ) (PySem.W.mg_of X G a0) k0 b0
  have O_is_head : Own l.prog w K mg base 1 "is_head" ["text", "size"] (sp_is_head K) := .mk' (ok_is_head F1 T ) (PySem.W.mg_of X G a1) k1 b1
  have O__law_cell_at : Own l.prog w K mg base 1 "_law_cell_at" ["script", "k"] (sp_law_cell_at K) := .mk' (ok__law_cell_at F6 T ) (PySem.W.mg_of X G a6) k6 b6
  have O__law_whole : Own l.prog w K mg base 1 "_law_whole" ["found"] (sp_law_whole K) := .mk' (ok__law_whole F7 T ) (PySem.W.mg_of X G a7) k7 b7
  have O__law_bits_by : Own l.prog w K mg base 1 "_law_bits_by" ["cell", "size"] (sp_law_bits_by K) := .mk' (ok__law_bits_by F8 T ) (PySem.W.mg_of X G a8) k8 b8
  have O__law_way_by : Own l.prog w K mg base 1 "_law_way_by" ["cell", "few"] (sp_law_way_by K) := .mk' (ok__law_way_by F9 T ) (PySem.W.mg_of X G a9) k9 b9
  have O__law_head_for : Own l.prog w K mg base 1 "_law_head_for" ["rows", "address"] (sp_law_head_for K) := .mk' (ok__law_head_for F10 T ) (PySem.W.mg_of X G a10) k10 b10
  have O__law_head : Own l.prog w K mg base 1 "_law_head" ["row"] (sp_law_head K) := .mk' (ok__law_head F13 T ) (PySem.W.mg_of X G a13) k13 b13
  have O__law_wrong : Own l.prog w K mg base 1 "_law_wrong" ["text", "cell", "size"] (sp_law_wrong K) := .mk' (ok__law_wrong F14 T ) (PySem.W.mg_of X G a14) k14 b14
  have O_Board_init : OwnC l.prog w K mg base 1 "Board" (clsAt K "Board") ["self", "size"] (sp_Board_init K) := .mk' (by rw [k_Board]; exact ⟨p5_Board, a21, q21, p6_Board⟩) (ok_Board_init F21 T ) (by rw [k_Board]; exact PySem.W.mg_of X G n_Board) b21
  have O_Board_rows : OwnM l.prog w K mg base CX0 1 (clsAt K "Board") "rows" ["self"] (sp_Board_rows K) := .mk' (by rw [k_Board]; exact ⟨a26, q26, k26⟩) (ok_Board_rows F26 T ) b26
  have O_is_address : Own l.prog w K mg base 2 "is_address" ["text", "size"] (sp_is_address K) := .mk' (ok_is_address F2 T O_is_head) (PySem.W.mg_of X G a2) k2 b2
  have O_leading_row : Own l.prog w K mg base 2 "leading_row" ["rows", "address"] (sp_leading_row K) := .mk' (ok_leading_row F3 T O_begins) (PySem.W.mg_of X G a3) k3 b3
  have O__law_way_is : Own l.prog w K mg base 2 "_law_way_is" ["found", "due"] (sp_law_way_is K) := .mk' (ok__law_way_is F11 T O__law_whole) (PySem.W.mg_of X G a11) k11 b11
  have O_Board_check_head : OwnM l.prog w K mg base (CX1 l.prog w) 2 (clsAt K "Board") "check_head" ["self", "head"] (sp_Board_check_head K) := .mk' (by rw [k_Board]; exact ⟨a22, q22, k22⟩) (ok_Board_check_head F22 T O_is_head) b22
  have O_head_for : Own l.prog w K mg base 3 "head_for" ["rows", "address"] (sp_head_for K) := .mk' (ok_head_for F4 T O_leading_row) (PySem.W.mg_of X G a4) k4 b4
  have O_way_for : Own l.prog w K mg base 3 "way_for" ["rows", "address"] (sp_way_for K) := .mk' (ok_way_for F5 T O_leading_row) (PySem.W.mg_of X G a5) k5 b5
  have O__law_same_rows : Own l.prog w K mg base 3 "_law_same_rows" ["found", "due"] (sp_law_same_rows K) := .mk' (ok__law_same_rows F12 T O__law_way_is) (PySem.W.mg_of X G a12) k12 b12
  have O_Board_check_address : OwnM l.prog w K mg base (CX1 l.prog w) 3 (clsAt K "Board") "check_address" ["self", "address"] (sp_Board_check_address K) := .mk' (by rw [k_Board]; exact ⟨a23, q23, k23⟩) (ok_Board_check_address F23 T O_is_address) b23
  have O_Board_put : OwnM l.prog w K mg base (CX1 l.prog w) 3 (clsAt K "Board") "put" ["self", "head", "way"] (sp_Board_put K) := .mk' (by rw [k_Board]; exact ⟨a24, q24, k24⟩) (ok_Board_put F24 T O_Board_check_head) b24
  have O_Board_drop : OwnM l.prog w K mg base (CX1 l.prog w) 3 (clsAt K "Board") "drop" ["self", "head"] (sp_Board_drop K) := .mk' (by rw [k_Board]; exact ⟨a25, q25, k25⟩) (ok_Board_drop F25 T O_Board_check_head) b25
  have O__law_put : Own l.prog w K mg base 4 "_law_put" ["board", "rows", "head", "way"] (sp_law_put K) := .mk' (ok__law_put F17 T O_Board_put) (PySem.W.mg_of X G a17) k17 b17
  have O_Board_led : OwnM l.prog w K mg base (CX1 l.prog w) 4 (clsAt K "Board") "led" ["self", "address"] (sp_Board_led K) := .mk' (by rw [k_Board]; exact ⟨a27, q27, k27⟩) (ok_Board_led F27 T O_Board_check_address O_Board_rows O_way_for) b27
  have O_Board_by_which : OwnM l.prog w K mg base (CX1 l.prog w) 4 (clsAt K "Board") "by_which" ["self", "address"] (sp_Board_by_which K) := .mk' (by rw [k_Board]; exact ⟨a28, q28, k28⟩) (ok_Board_by_which F28 T O_Board_check_address O_Board_rows O_head_for) b28
  have O__law_refused : Own l.prog w K mg base 5 "_law_refused" ["board", "way", "text"] (sp_law_refused K) := .mk' (ok__law_refused F15 T O_Board_by_which O_Board_drop O_Board_led O_Board_put) (PySem.W.mg_of X G a15) k15 b15
  have O__law_asked : Own l.prog w K mg base 5 "_law_asked" ["board", "rows", "address"] (sp_law_asked K) := .mk' (ok__law_asked F16 T O_Board_by_which O_Board_led O__law_head_for O__law_way_is) (PySem.W.mg_of X G a16) k16 b16
  have O__law_dropped : Own l.prog w K mg base 6 "_law_dropped" ["board", "rows", "head"] (sp_law_dropped K) := .mk' (ok__law_dropped F18 T O_Board_drop O__law_refused O__law_way_is) (PySem.W.mg_of X G a18) k18 b18
  have O__law_deed : Own l.prog w K mg base 7 "_law_deed" ["board", "rows", "cell", "size"] (sp_law_deed K) := .mk' (ok__law_deed F19 T O__law_asked O__law_bits_by O__law_dropped O__law_put O__law_refused O__law_way_by O__law_wrong) (PySem.W.mg_of X G a19) k19 b19
  exact ok_law F20 T O_Board_init O_Board_led O_Board_rows O__law_asked O__law_bits_by O__law_cell_at O__law_deed O__law_head O__law_same_rows O__law_whole
theorem walk {l : PySem.W.OpenLaw} {q : Program} {loose : List Str} {XP : (Str → Option Value) → Heap → Prop} {YP : World → Heap → Prop} {d : DefRec} {K : Params → PySem.W.Frag} (hn : l.most = some 63) (hdf : d.params.defaults = [])
    (hY : ∀ (w : World) (h : Heap), YP w h → (K w.params).In h)
    (F : ∀ (w : World) (mg : Str → Option Value) (fa : Addr) (h : Heap), (K w.params).In h → h.Ns mainGlobals mg → mg d.name = some (.ref fa) →
      ∃ fd : FuncData, (∀ (s : Shared) (u : Value), BindsTo s fd ⟨[u], []⟩ [("script", u)]) ∧ ∀ base : Heap, (K w.params).In base → base.Ns mainGlobals mg → FnOk l.prog w (K w.params) mg base CX0 8 fa fd ["script"] (sp_law13 (K w.params))) :
    PySem.W.WalkO q loose XP YP l.row.toRowW d [] (fun f vs => PySem.call f vs) :=
  L2.walk_of (n := 63) (k := 8) (x := "script") (CX := fun _ => CX0) (sp := fun w => sp_law13 (K w.params)) hn (by decide) hdf ⟨rfl, by decide, by decide⟩ hY F (fun _ _ a ns hl _ hS => ⟨a, ns, rfl, hS, hl, fun _ => rfl⟩) fun _ _ _ _ _ z => z
end K13
open PySem PySem.W PyProof.Rows
set_option maxRecDepth 100000 in
set_option maxHeartbeats 0 in
theorem PySem.Challenge.cw_headroad_k13_whole_board_holds : PySem.Challenge.rw_headroad_k13_whole_board.Holds := by
  w_on; o_law; k_head; (case hw => w_witness2)
  k_fill
  refine K13.walk (l := PySem.Challenge.rw_headroad_k13_whole_board) rfl rfl (fun w h Y => PySem.W.kIn_of Y) ?F
  case F =>
    intro w mg fa h KX G hmg
    refine' K13.all_mk KX G hmg ?n_Board ?p1_Board ?p2_Board ?p3_Board ?p4_Board ?p5_Board ?p6_Board ?p_Board_size ?p_Board_ways ?a0 ?l0 ?c0 ?k0 ?a1 ?l1 ?c1 ?k1 ?a2 ?l2 ?c2 ?k2 ?a3 ?l3 ?c3 ?k3 ?a4 ?l4 ?c4 ?k4 ?a5 ?l5 ?c5 ?k5 ?a6 ?l6 ?c6 ?k6 ?a7 ?l7 ?c7 ?k7 ?a8 ?l8 ?c8 ?k8 ?a9 ?l9 ?c9 ?k9 ?a10 ?l10 ?c10 ?k10 ?a11 ?l11 ?c11 ?k11 ?a12 ?l12 ?c12 ?k12 ?a13 ?l13 ?c13 ?k13 ?a14 ?l14 ?c14 ?k14 ?a15 ?l15 ?c15 ?k15 ?a16 ?l16 ?c16 ?k16 ?a17 ?l17 ?c17 ?k17 ?a18 ?l18 ?c18 ?k18 ?a19 ?l19 ?c19 ?k19 ?a20 ?l20 ?c20 ?k20 ?a21 ?l21 ?c21 ?k21 ?q21 ?a22 ?l22 ?c22 ?k22 ?q22 ?a23 ?l23 ?c23 ?k23 ?q23 ?a24 ?l24 ?c24 ?k24 ?q24 ?a25 ?l25 ?c25 ?k25 ?q25 ?a26 ?l26 ?c26 ?k26 ?q26 ?a27 ?l27 ?c27 ?k27 ?q27 ?a28 ?l28 ?c28 ?k28 ?q28 ?z_bool ?z_int ?z_isinstance ?z_len ?z_list ?z_min ?z_range ?z_sorted ?z_str ?z_tuple ?n_BadAddress ?x_BadAddress ?n_BadHead ?x_BadHead ?n_BadLine ?x_BadLine ?n_BadSpan ?x_BadSpan ?n_FullBoard ?x_FullBoard ?n_NoHead ?x_NoHead ?n_RoadError ?x_RoadError ?r_sub0 ?r_ga0 ?r_gn0 ?r_cl0 ?r_mo0 ?r_mb0 ?r_i00 ?r_i01 ?r_i02 ?r_i03 ?r_i04 ?r_i05 ?r_sub1 ?r_ga1 ?r_gn1 ?r_cl1 ?r_mo1 ?r_mb1 ?r_i10 ?r_i11 ?r_i12 ?r_i13 ?r_i14 ?r_i15 ?r_sub2 ?r_ga2 ?r_gn2 ?r_cl2 ?r_mo2 ?r_mb2 ?r_i20 ?r_i21 ?r_i22 ?r_i23 ?r_i24 ?r_i25 ?r_sg ?r_tk ?g_MOST_ROWS
    (case n_Board => first | k_is | kit_is)
    (case p1_Board => first | k_is | kit_is)
    (case p2_Board => first | k_is | kit_is)
    (case p3_Board => first | k_is | kit_is)
    (case p4_Board => first | k_is | kit_is)
    (case p5_Board => first | k_is | kit_is)
    (case p6_Board => first | k_is | kit_is)
    (case p_Board_size => first | k_is | kit_is)
    (case p_Board_ways => first | k_is | kit_is)
    (case a0 => first | k_is | kit_is)
    (case l0 => first | k_is | kit_is)
    (case c0 => first | k_is | kit_is)
    (case k0 => first | k_is | kit_is)
    (case a1 => first | k_is | kit_is)
    (case l1 => first | k_is | kit_is)
    (case c1 => first | k_is | kit_is)
    (case k1 => first | k_is | kit_is)
    (case a2 => first | k_is | kit_is)
    (case l2 => first | k_is | kit_is)
    (case c2 => first | k_is | kit_is)
    (case k2 => first | k_is | kit_is)
    (case a3 => first | k_is | kit_is)
    (case l3 => first | k_is | kit_is)
    (case c3 => first | k_is | kit_is)
    (case k3 => first | k_is | kit_is)
    (case a4 => first | k_is | kit_is)
    (case l4 => first | k_is | kit_is)
    (case c4 => first | k_is | kit_is)
    (case k4 => first | k_is | kit_is)
    (case a5 => first | k_is | kit_is)
    (case l5 => first | k_is | kit_is)
    (case c5 => first | k_is | kit_is)
    (case k5 => first | k_is | kit_is)
    (case a6 => first | k_is | kit_is)
    (case l6 => first | k_is | kit_is)
    (case c6 => first | k_is | kit_is)
    (case k6 => first | k_is | kit_is)
    (case a7 => first | k_is | kit_is)
    (case l7 => first | k_is | kit_is)
    (case c7 => first | k_is | kit_is)
    (case k7 => first | k_is | kit_is)
    (case a8 => first | k_is | kit_is)
    (case l8 => first | k_is | kit_is)
    (case c8 => first | k_is | kit_is)
    (case k8 => first | k_is | kit_is)
    (case a9 => first | k_is | kit_is)
    (case l9 => first | k_is | kit_is)
    (case c9 => first | k_is | kit_is)
    (case k9 => first | k_is | kit_is)
    (case a10 => first | k_is | kit_is)
    (case l10 => first | k_is | kit_is)
    (case c10 => first | k_is | kit_is)
    (case k10 => first | k_is | kit_is)
    (case a11 => first | k_is | kit_is)
    (case l11 => first | k_is | kit_is)
    (case c11 => first | k_is | kit_is)
    (case k11 => first | k_is | kit_is)
    (case a12 => first | k_is | kit_is)
    (case l12 => first | k_is | kit_is)
    (case c12 => first | k_is | kit_is)
    (case k12 => first | k_is | kit_is)
    (case a13 => first | k_is | kit_is)
    (case l13 => first | k_is | kit_is)
    (case c13 => first | k_is | kit_is)
    (case k13 => first | k_is | kit_is)
    (case a14 => first | k_is | kit_is)
    (case l14 => first | k_is | kit_is)
    (case c14 => first | k_is | kit_is)
    (case k14 => first | k_is | kit_is)
    (case a15 => first | k_is | kit_is)
    (case l15 => first | k_is | kit_is)
    (case c15 => first | k_is | kit_is)
    (case k15 => first | k_is | kit_is)
    (case a16 => first | k_is | kit_is)
    (case l16 => first | k_is | kit_is)
    (case c16 => first | k_is | kit_is)
    (case k16 => first | k_is | kit_is)
    (case a17 => first | k_is | kit_is)
    (case l17 => first | k_is | kit_is)
    (case c17 => first | k_is | kit_is)
    (case k17 => first | k_is | kit_is)
    (case a18 => first | k_is | kit_is)
    (case l18 => first | k_is | kit_is)
    (case c18 => first | k_is | kit_is)
    (case k18 => first | k_is | kit_is)
    (case a19 => first | k_is | kit_is)
    (case l19 => first | k_is | kit_is)
    (case c19 => first | k_is | kit_is)
    (case k19 => first | k_is | kit_is)
    (case a20 => first | k_is | kit_is)
    (case l20 => first | k_is | kit_is)
    (case c20 => first | k_is | kit_is)
    (case k20 => first | k_is | kit_is)
    (case a21 => first | k_is | kit_is)
    (case l21 => first | k_is | kit_is)
    (case c21 => first | k_is | kit_is)
    (case k21 => first | k_is | kit_is)
    (case q21 => first | k_is | kit_is)
    (case a22 => first | k_is | kit_is)
    (case l22 => first | k_is | kit_is)
    (case c22 => first | k_is | kit_is)
    (case k22 => first | k_is | kit_is)
    (case q22 => first | k_is | kit_is)
    (case a23 => first | k_is | kit_is)
    (case l23 => first | k_is | kit_is)
    (case c23 => first | k_is | kit_is)
    (case k23 => first | k_is | kit_is)
    (case q23 => first | k_is | kit_is)
    (case a24 => first | k_is | kit_is)
    (case l24 => first | k_is | kit_is)
    (case c24 => first | k_is | kit_is)
    (case k24 => first | k_is | kit_is)
    (case q24 => first | k_is | kit_is)
    (case a25 => first | k_is | kit_is)
    (case l25 => first | k_is | kit_is)
    (case c25 => first | k_is | kit_is)
    (case k25 => first | k_is | kit_is)
    (case q25 => first | k_is | kit_is)
    (case a26 => first | k_is | kit_is)
    (case l26 => first | k_is | kit_is)
    (case c26 => first | k_is | kit_is)
    (case k26 => first | k_is | kit_is)
    (case q26 => first | k_is | kit_is)
    (case a27 => first | k_is | kit_is)
    (case l27 => first | k_is | kit_is)
    (case c27 => first | k_is | kit_is)
    (case k27 => first | k_is | kit_is)
    (case q27 => first | k_is | kit_is)
    (case a28 => first | k_is | kit_is)
    (case l28 => first | k_is | kit_is)
    (case c28 => first | k_is | kit_is)
    (case k28 => first | k_is | kit_is)
    (case q28 => first | k_is | kit_is)
    (case z_bool => first | k_is | kit_is)
    (case z_int => first | k_is | kit_is)
    (case z_isinstance => first | k_is | kit_is)
    (case z_len => first | k_is | kit_is)
    (case z_list => first | k_is | kit_is)
    (case z_min => first | k_is | kit_is)
    (case z_range => first | k_is | kit_is)
    (case z_sorted => first | k_is | kit_is)
    (case z_str => first | k_is | kit_is)
    (case z_tuple => first | k_is | kit_is)
    (case n_BadAddress => first | k_is | kit_is)
    (case x_BadAddress => k_exc)
    (case n_BadHead => first | k_is | kit_is)
    (case x_BadHead => k_exc)
    (case n_BadLine => first | k_is | kit_is)
    (case x_BadLine => k_exc)
    (case n_BadSpan => first | k_is | kit_is)
    (case x_BadSpan => k_exc)
    (case n_FullBoard => first | k_is | kit_is)
    (case x_FullBoard => k_exc)
    (case n_NoHead => first | k_is | kit_is)
    (case x_NoHead => k_exc)
    (case n_RoadError => first | k_is | kit_is)
    (case x_RoadError => k_exc)
    (case r_sub0 => first | k_is | kit_is)
    (case r_ga0 => first | k_is | kit_is)
    (case r_gn0 => first | k_is | kit_is)
    (case r_cl0 => first | k_is | kit_is)
    (case r_mo0 => first | k_is | kit_is)
    (case r_mb0 => first | k_is | kit_is)
    (case r_i00 => first | k_is | kit_is)
    (case r_i01 => first | k_is | kit_is)
    (case r_i02 => first | k_is | kit_is)
    (case r_i03 => first | k_is | kit_is)
    (case r_i04 => first | k_is | kit_is)
    (case r_i05 => first | k_is | kit_is)
    (case r_sub1 => first | k_is | kit_is)
    (case r_ga1 => first | k_is | kit_is)
    (case r_gn1 => first | k_is | kit_is)
    (case r_cl1 => first | k_is | kit_is)
    (case r_mo1 => first | k_is | kit_is)
    (case r_mb1 => first | k_is | kit_is)
    (case r_i10 => first | k_is | kit_is)
    (case r_i11 => first | k_is | kit_is)
    (case r_i12 => first | k_is | kit_is)
    (case r_i13 => first | k_is | kit_is)
    (case r_i14 => first | k_is | kit_is)
    (case r_i15 => first | k_is | kit_is)
    (case r_sub2 => first | k_is | kit_is)
    (case r_ga2 => first | k_is | kit_is)
    (case r_gn2 => first | k_is | kit_is)
    (case r_cl2 => first | k_is | kit_is)
    (case r_mo2 => first | k_is | kit_is)
    (case r_mb2 => first | k_is | kit_is)
    (case r_i20 => first | k_is | kit_is)
    (case r_i21 => first | k_is | kit_is)
    (case r_i22 => first | k_is | kit_is)
    (case r_i23 => first | k_is | kit_is)
    (case r_i24 => first | k_is | kit_is)
    (case r_i25 => first | k_is | kit_is)
    (case r_sg => first | k_is | kit_is)
    (case r_tk => first | k_is | kit_is)
    (case g_MOST_ROWS => first | k_is | kit_is)
#print axioms PySem.Challenge.cw_headroad_k13_whole_board_holds


end
