import PyProof.Rows.All
import Wide.All
import OpenK.AllK
import Wide.FinOn
import Lean
import PyProof.EqAt
import PyProof.EqKinds
import PyProof.TupleCall
import PyProof.StrWalks
import PyProof.StrLawsIdx
import KE.KIntText
import PyProof.CompFree
import PyProof.NsDelKeeps
import PyProof.ExcArgsOwn
import KE.KSortKey
import PyProof.Rows.SortStr
import KE.KLam
import KE.KNestM
import PyProof.AttrMiss
import PyProof.IsiH_list
import KE.KDictSum
import KE.KDictOf
import PyProof.Walks
import PyProof.P3In
import PyProof.P3Eq
import PySem.Challenge.RW_headroad_k08_turned_into_another
section
set_option Elab.async false
set_option linter.all false
set_option maxRecDepth 100000
/-! THE HAND LAYER, for ints, bools, texts, own classes, LISTS and tuples (index, slices, in, append, pop ..), calls, loops. Paste it whole ahead of your own text; what your proof does not reach may be deleted. -/
namespace L2
open PySem PySem.Spec PyProof.Rows

/-- a key: an int or a str -/
abbrev Key := Sum Int Str
def keyIs : Key → Value → Bool
  | .inl k, v => Value.isInt k v
  | .inr x, v => Value.isStrOf x v
def keyH (w : World) : Key → Int
  | .inl k => hashInt k
  | .inr x => hashStr w x
theorem keyIs_shape : ∀ {k : Key} {v : Value}, keyIs k v = true → (∃ i t, k = Sum.inl i ∧ v = Value.int i t) ∨ (∃ x t, k = Sum.inr x ∧ v = Value.str x t)
  | .inl i, v, h => by
    obtain ⟨t, e⟩ := Value.isInt_shape (k := i) (v := v) h
    exact .inl ⟨i, t, rfl, e⟩
  | .inr x, v, h => by
    obtain ⟨t, e⟩ := Value.isStrOf_shape (x := x) (v := v) h
    exact .inr ⟨x, t, rfl, e⟩
theorem keyIs_int (i : Int) (t : Tok) : keyIs (.inl i) (.int i t) = true := by simp [keyIs, Value.isInt]
theorem keyIs_str (x : Str) (t : Tok) : keyIs (.inr x) (.str x t) = true := by simp [keyIs, Value.isStrOf]
theorem key_ll (a b : Int) : decide ((Sum.inl a : Key) = Sum.inl b) = (a == b) := by
  by_cases e : a = b
  · subst e; simp
  · have h : ¬ (Sum.inl a : Key) = Sum.inl b := fun q => e (Sum.inl.inj q)
    rw [decide_eq_false h]
    exact (beq_eq_false_iff_ne.mpr e).symm
theorem key_rr (a b : Str) : decide ((Sum.inr a : Key) = Sum.inr b) = decide (a = b) := by
  by_cases e : a = b
  · subst e; simp
  · have h : ¬ (Sum.inr a : Key) = Sum.inr b := fun q => e (Sum.inr.inj q)
    rw [decide_eq_false h, decide_eq_false e]
theorem key_lr (a : Int) (b : Str) : decide ((Sum.inl a : Key) = Sum.inr b) = false := decide_eq_false (fun q => nomatch q)
theorem key_rl (a : Str) (b : Int) : decide ((Sum.inr a : Key) = Sum.inl b) = false := decide_eq_false (fun q => nomatch q)

def mixKind (prog : Program) (w : World) : PySem.KeyKind prog w Key where
  is := keyIs
  hash := keyH w
  inj := fun v a b ha hb => by
    rcases keyIs_shape ha with ⟨i, t, rfl, rfl⟩ | ⟨x, t, rfl, rfl⟩
    · rcases keyIs_shape hb with ⟨j, u, rfl, e⟩ | ⟨y, u, rfl, e⟩
      · injection e with e1 _; rw [e1]
      · exact nomatch e
    · rcases keyIs_shape hb with ⟨j, u, rfl, e⟩ | ⟨y, u, rfl, e⟩
      · exact nomatch e
      · injection e with e1 _; rw [e1]
  byValue := fun k v h => by
    rcases keyIs_shape h with ⟨i, t, rfl, rfl⟩ | ⟨x, t, rfl, rfl⟩ <;> rfl
  pyHash := fun hv h => by
    rcases keyIs_shape hv with ⟨i, t, rfl, rfl⟩ | ⟨x, t, rfl, rfl⟩
    · exact wpAny_pyHash_int h
    · exact wpAny_pyHash_str h
  eqBool := fun hu hv h => by
    rcases keyIs_shape hu with ⟨i, t, rfl, rfl⟩ | ⟨x, t, rfl, rfl⟩
    · rcases keyIs_shape hv with ⟨j, u, rfl, rfl⟩ | ⟨y, u, rfl, rfl⟩
      · rw [key_ll] at h; exact wpAny_eqBool_int h
      · rw [key_lr] at h; exact SeqAt.EqAt.int_str i t y u _ _ _ _ h
    · rcases keyIs_shape hv with ⟨j, u, rfl, rfl⟩ | ⟨y, u, rfl, rfl⟩
      · rw [key_rl] at h; exact SeqAt.EqAt.str_int x t j u _ _ _ _ h
      · rw [key_rr] at h; exact wpAny_eqBool_str h
  «strs» := fun k x t v h => by
    rcases keyIs_shape h with ⟨i, u, rfl, e⟩ | ⟨y, u, rfl, e⟩
    · exact nomatch e
    · injection e with e1 _
      subst e1
      cases v <;> rfl

theorem mixKind_is (prog : Program) (w : World) (k : Key) (v : Value) : (mixKind prog w).is k v = keyIs k v := rfl
theorem mixKind_int (prog : Program) (w : World) (i : Int) (t : Tok) : (mixKind prog w).is (.inl i) (.int i t) = true := keyIs_int i t
theorem mixKind_str (prog : Program) (w : World) (x : Str) (t : Tok) : (mixKind prog w).is (.inr x) (.str x t) = true := keyIs_str x t
end L2

namespace L2
open PySem PySem.Spec PyProof.Rows

/-- a value, without the heap -/
inductive V where
  | non | bl (b : Bool) | int (i : Int) | str (x : Str) | byt (b : Array UInt8) | flt (b : UInt64) | ref (a : Addr) | ty (n : String)
  deriving DecidableEq

def RelV : V → Value → Prop
  | .non, u => u = Value.none
  | .bl b, u => u = Value.bool b
  | .int i, u => ∃ t, u = Value.int i t
  | .str x, u => ∃ t, u = Value.str x t
  | .byt b, u => ∃ t, u = Value.bytes b t
  | .flt b, u => ∃ t, u = Value.float b t
  | .ref a, u => u = Value.ref a
  | .ty n, u => u = Value.type n

abbrev Vals : List V → List Value → Prop := Paired RelV
theorem Vals.length {xs : List V} {us : List Value} (r : Vals xs us) : xs.length = us.length := Paired.length r
theorem Vals.get : ∀ {xs : List V} {us : List Value} {i : Nat} {x : V}, Vals xs us → xs[i]? = some x → ∃ u, us[i]? = some u ∧ RelV x u
  | _, _, _, _, .nil, e => by simp at e
  | _, _, 0, _, .cons r _, e => by simp at e; subst e; exact ⟨_, rfl, r⟩
  | _, _, i + 1, x, .cons _ t, e => by
    obtain ⟨u, h1, h2⟩ := Vals.get (i := i) (x := x) t (by simpa using e)
    exact ⟨u, by simpa using h1, h2⟩
theorem Vals.set {x : V} {u : Value} (r : RelV x u) : ∀ {xs : List V} {us : List Value} (i : Nat), Vals xs us → Vals (xs.set i x) (us.set i u)
  | _, _, _, .nil => .nil
  | _, _, 0, .cons _ t => .cons r t
  | _, _, i + 1, .cons q t => .cons q (Vals.set r i t)
theorem Vals.append : ∀ {xs ys : List V} {us ws : List Value}, Vals xs us → Vals ys ws → Vals (xs ++ ys) (us ++ ws)
  | _, _, _, _, .nil, s => s
  | _, _, _, _, .cons r t, s => .cons r (Vals.append t s)
theorem Vals.take : ∀ {xs : List V} {us : List Value} (n : Nat), Vals xs us → Vals (xs.take n) (us.take n)
  | _, _, 0, _ => .nil
  | _, _, _ + 1, .nil => .nil
  | _, _, n + 1, .cons r t => .cons r (Vals.take n t)
theorem Vals.drop : ∀ {xs : List V} {us : List Value} (n : Nat), Vals xs us → Vals (xs.drop n) (us.drop n)
  | _, _, 0, r => r
  | _, _, _ + 1, .nil => .nil
  | _, _, n + 1, .cons _ t => Vals.drop n t
def RelO : Option V → Option Value → Prop
  | some v, some u => RelV v u
  | none, none => True
  | _, _ => False
def KV {κ : Type} : List (κ × V) → List (κ × Value) → Prop := Paired fun (p : κ × V) (q : κ × Value) => p.1 = q.1 ∧ RelV p.2 q.2

/-- a key of a dict (00_mix): an int or a text -/
def kV : Key → V
  | .inl i => .int i
  | .inr x => .str x

/-- what stands at a tracked address -/
inductive HO where
  /-- a list -/
  | lst (xs : List V)
  /-- a tuple (never changes) -/
  | tup (xs : List V)
  /-- a dict whose keys are ints and texts; one whose keys are tuples of ints and texts (the empty one is both) -/
  | dK (kvs : List (Key × V)) | dT (kvs : List (List Key × V))
  /-- a set of ints: its members, its size -/
  | set (S : Int → Bool) (n : Nat)
  /-- an instance of the class at C, its dict at dx, its attributes -/
  | ins (C dx : Addr) (fs : List (Str × V))
  /-- the dict of the instance at x -/
  | own (x : Addr)
  /-- the dict of an exception -/
  | xd (fs : List (Str × V))
  /-- a bound method, f of x -/
  | met (f x : Addr)
  /-- a range object lo, lo + 1, .. below hi -/
  | rng (lo hi : Int)
  /-- a thing that is known to the object (the script; a dict while a loop walks it): read, never written while it is so -/
  | frz (o : Obj) (u : HO)
  /-- a code object's table -/
  | tbl (ps : Array Value)
  /-- any other thing, by what is true of its one object (a def of one's own: SetO a S n := HO.ext fun h => ..) -/
  | ext (φ : Heap → Prop)

abbrev Hp := Addr → Option HO
def upd (H : Hp) (a : Addr) (o : HO) : Hp := fun b => if b = a then some o else H b
theorem upd_same {H : Hp} {a : Addr} {o : HO} : upd H a o a = some o := by unfold upd; rw [if_pos rfl]
theorem upd_ne {H : Hp} {a b : Addr} {o : HO} (h : b ≠ a) : upd H a o b = H b := by unfold upd; rw [if_neg h]
theorem upd_upd {H : Hp} {a : Addr} {o u : HO} : upd (upd H a o) a u = upd H a u := by
  funext b; unfold upd; split <;> rfl
theorem ne_of_none {H : Hp} {a b : Addr} {o : HO} (h : H a = some o) (h' : H b = none) : a ≠ b := by
  intro e; subst e; rw [h] at h'; cases h'

section
variable (P : Program) (w : World)
def ObjOk (H : Hp) (h : Heap) (a : Addr) : HO → Prop
  | .lst xs => xs.length ≤ sizeLine ∧ ∃ (its : List Value) (n : Nat), Vals xs its ∧ h.get? a = some { cls := .type "list", data := .seq its.toArray n }
  | .tup xs => xs.length ≤ sizeLine ∧ ∃ its : List Value, Vals xs its ∧ IsTup h a its.toArray
  | .dK kvs => kvs.length ≤ sizeLine ∧ (a == sysModules) = false ∧ ∃ vs, KV kvs vs ∧ h.DictOf (mixKind P w) a vs
  | .dT kvs => kvs.length ≤ sizeLine ∧ (a == sysModules) = false ∧ ∃ xs : List (List Key × Addr × Value),
      Paired (fun (p : List Key × V) (q : List Key × Addr × Value) => p.1 = q.1 ∧ H q.2.1 = some (.tup (p.1.map kV)) ∧ RelV p.2 q.2.2) kvs xs ∧
      ∃ o es ep, h.get? a = some o ∧ o.ExactDict ∧ o.data = .dict es ep ∧ es.toList = xs.map (entryOfKey (tupleKind (mixKind P w))) ∧ (xs.map (·.1)).Nodup
  | .set S n => h.SetOf (intKind P w) a S n
  | .ins C dx fs => H dx = some (.own a) ∧ fs.length ≤ 1000 ∧ dx ≠ a ∧ h.get? a = some (PySem.W.instObj C dx) ∧
      ∃ mA, h.Ns1 dx mA ∧ (∀ f, RelO (fs.lookup f) (mA f)) ∧ PySem.Within mA (fs.map (·.1))
  | .own _ => ∃ o, h.get? a = some o
  | .xd fs => ∃ mA, h.Ns1 a mA ∧ ∀ f, RelO (fs.lookup f) (mA f)
  | .rng lo hi => ∃ t u v, h.get? a = some { cls := .type "range", data := .fields #[.int lo t, .int hi u, .int 1 v] }
  | .frz o u => h.get? a = some o ∧ ObjOk H h a u
  | .tbl ps => h.get? a = some { cls := .none, data := .fields ps }
  | .met f x => h.get? a = some (PySem.W.methodObj (.ref f) (.ref x))
  | .ext φ => φ h ∧ (∃ o, h.get? a = some o) ∧ ∀ h1 h2 : Heap, φ h1 → (∀ o, h1.get? a = some o → h2.get? a = some o) → φ h2
/-- the abstract heap is held -/
def HOk (H : Hp) (h : Heap) : Prop := ∀ a o, H a = some o → ObjOk P w H h a o
end

section
variable {P : Program} {w : World} {H H' : Hp} {h h' : Heap} {a : Addr} {o : HO}
theorem ObjOk.lt (x : ObjOk P w H h a o) : a < h.objs.size := by
  cases o with
  | lst xs => obtain ⟨_, _, _, _, e⟩ := x; exact Heap.lt_size e
  | tup xs => obtain ⟨_, _, _, p⟩ := x; exact p.lt
  | dK kvs => obtain ⟨_, _, _, _, o, _, _, e, _⟩ := x; exact Heap.lt_size e
  | dT kvs => obtain ⟨_, _, _, _, o, _, _, e, _⟩ := x; exact Heap.lt_size e
  | set S n => obtain ⟨o, _, _, _, e, _⟩ := x; exact Heap.lt_size e
  | ins C dx fs => obtain ⟨_, _, _, e, _⟩ := x; exact Heap.lt_size e
  | own y => obtain ⟨_, e⟩ := x; exact Heap.lt_size e
  | xd fs => obtain ⟨_, ⟨_, _, _, e, _⟩, _⟩ := x; exact Heap.lt_size e
  | rng lo hi => obtain ⟨_, _, _, e⟩ := x; exact Heap.lt_size e
  | frz ob u => obtain ⟨e, _⟩ := x; exact Heap.lt_size e
  | tbl ps => exact Heap.lt_size (show h.get? a = some _ from x)
  | met f y => exact Heap.lt_size (show h.get? a = some _ from x)
  | ext φ => obtain ⟨_, ⟨_, e⟩, _⟩ := x; exact Heap.lt_size e
theorem Paired.mapP {α β : Type} {F G : α → β → Prop} : ∀ {l₁ : List α} {l₂ : List β}, Paired F l₁ l₂ → (∀ a b, F a b → G a b) → Paired G l₁ l₂
  | _, _, .nil, _ => .nil
  | _, _, .cons r t, f => .cons (f _ _ r) (Paired.mapP t f)
/-- what an object's description leans on: its own object, its own dict, the tuples -/
theorem ObjOk.stay (x : ObjOk P w H h a o) (k : ∀ b u, (b = a ∨ H b = some (.own a)) → h.get? b = some u → h'.get? b = some u)
    (ho : ∀ b, H b = some (.own a) → H' b = some (.own a)) (ht : ∀ b xs, H b = some (.tup xs) → H' b = some (.tup xs)) : ObjOk P w H' h' a o := by
  induction o with
  | lst xs => obtain ⟨z, its, n, r, e⟩ := x; exact ⟨z, its, n, r, k _ _ (.inl rfl) e⟩
  | tup xs => obtain ⟨z, its, r, ob, e, c⟩ := x; exact ⟨z, its, r, ob, k _ _ (.inl rfl) e, c⟩
  | dK kvs => obtain ⟨z, y, vs, r, ob, es, ep, e, c⟩ := x; exact ⟨z, y, vs, r, ob, es, ep, k _ _ (.inl rfl) e, c⟩
  | dT kvs =>
    obtain ⟨z, y, xs, r, ob, es, ep, e, c⟩ := x
    exact ⟨z, y, xs, Paired.mapP r fun p q z => ⟨z.1, ht _ _ z.2.1, z.2.2⟩, ob, es, ep, k _ _ (.inl rfl) e, c⟩
  | set S n => obtain ⟨ob, es, ep, t, e, c⟩ := x; exact ⟨ob, es, ep, t, k _ _ (.inl rfl) e, c⟩
  | ins C dx fs =>
    obtain ⟨d, z, ne, e, mA, ⟨od, es, ep, e2, c⟩, r⟩ := x
    exact ⟨ho _ d, z, ne, k _ _ (.inl rfl) e, mA, ⟨od, es, ep, k _ _ (.inr d) e2, c⟩, r⟩
  | own y => obtain ⟨ob, e⟩ := x; exact ⟨ob, k _ _ (.inl rfl) e⟩
  | xd fs => obtain ⟨mA, ⟨od, es, ep, e, c⟩, r⟩ := x; exact ⟨mA, ⟨od, es, ep, k _ _ (.inl rfl) e, c⟩, r⟩
  | rng lo hi => obtain ⟨t, u, v, e⟩ := x; exact ⟨t, u, v, k _ _ (.inl rfl) e⟩
  | frz ob u ih => obtain ⟨e, q⟩ := x; exact ⟨k _ _ (.inl rfl) e, ih q⟩
  | tbl ps =>
    have e : h.get? a = some { cls := .none, data := .fields ps } := x
    show h'.get? a = some { cls := .none, data := .fields ps }
    exact k a _ (.inl rfl) e
  | met f y =>
    have e : h.get? a = some (PySem.W.methodObj (.ref f) (.ref y)) := x
    show h'.get? a = some (PySem.W.methodObj (.ref f) (.ref y))
    exact k a _ (.inl rfl) e
  | ext φ => obtain ⟨p, ⟨o, e⟩, st⟩ := x; exact ⟨st _ _ p fun o q => k _ _ (.inl rfl) q, ⟨o, k _ _ (.inl rfl) e⟩, st⟩
theorem HOk.lt (x : HOk P w H h) (e : H a = some o) : a < h.objs.size := (x a o e).lt
theorem HOk.fresh (x : HOk P w H h) (e : h.objs.size ≤ a) : H a = none := by
  cases q : H a with
  | none => rfl
  | some u => exact absurd (Nat.lt_of_lt_of_le (x.lt q) e) (Nat.lt_irrefl _)
/-- every object of the heap is kept -/
theorem HOk.kept (x : HOk P w H h) (k : ∀ b u, h.get? b = some u → h'.get? b = some u) : HOk P w H h' := fun a o e =>
  (x a o e).stay (fun b u _ q => k b u q) (fun _ q => q) fun _ _ q => q
/-- a new object is laid and tracked -/
theorem HOk.laid (x : HOk P w H h) (k : ∀ b u, h.get? b = some u → h'.get? b = some u) (hp : h.objs.size ≤ a) (new : ObjOk P w (upd H a o) h' a o) : HOk P w (upd H a o) h' := fun b u e => by
  have hn := x.fresh hp
  by_cases hb : b = a
  · subst hb; rw [upd_same] at e; cases e; exact new
  · rw [upd_ne hb] at e
    exact (x b u e).stay (fun c v _ q => k c v q) (fun c q => by rw [upd_ne (ne_of_none q hn)]; exact q) fun c xs q => by rw [upd_ne (ne_of_none q hn)]; exact q
end

/-- what may be read as u: it is u, or a known u -/
def Rd (H : Hp) (a : Addr) (u : HO) : Prop := H a = some u ∨ ∃ o, H a = some (.frz o u)
theorem Rd.of {H : Hp} {a : Addr} {u : HO} (h : H a = some u) : Rd H a u := .inl h
theorem Rd.ok {P : Program} {w : World} {H : Hp} {h : Heap} {a : Addr} {u : HO} (r : Rd H a u) (x : HOk P w H h) : ObjOk P w H h a u := by
  rcases r with r | ⟨o, r⟩
  · exact x a u r
  · obtain ⟨_, q⟩ := x a _ r
    exact q
/-- what may be written -/
def Mut : Option HO → Prop
  | some (.lst _) => True
  | some (.dK _) => True
  | some (.dT _) => True
  | some (.set _ _) => True
  | some (.ins _ _ _) => True
  | some (.ext _) => True
  | _ => False
section
variable {P : Program} {w : World} {H : Hp} {h h' : Heap} {x e : Addr} {o' : HO}
/-- the object at e is changed: x itself, or the dict of the instance x -/
theorem HOk.write (ok : HOk P w H h) (mu : Mut (H x)) (he : e = x ∨ H e = some (.own x)) (k : ∀ b u, b ≠ e → h.get? b = some u → h'.get? b = some u) (heo : ∃ u, h'.get? e = some u)
    (new : ObjOk P w (upd H x o') h' x o') : HOk P w (upd H x o') h' := fun b u q => by
  have nown : ∀ c y, H c = some (.own y) → c ≠ x := fun c y r z => by subst z; rw [r] at mu; exact mu
  have ntup : ∀ c xs, H c = some (.tup xs) → c ≠ x := fun c xs r z => by subst z; rw [r] at mu; exact mu
  by_cases hb : b = x
  · subst hb; rw [upd_same] at q; cases q; exact new
  · rw [upd_ne hb] at q
    by_cases hbe : b = e
    · have q' : H b = some (.own x) := by
        rcases he with z | z
        · exact absurd (hbe.trans z) hb
        · rw [hbe]; exact z
      rw [q] at q'; cases q'
      obtain ⟨v, hv⟩ := heo
      exact ⟨v, by rw [hbe]; exact hv⟩
    · refine (ok b u q).stay (fun c v hc r => k c v ?_ r) (fun c r => by rw [upd_ne (nown c b r)]; exact r) fun c xs r => by rw [upd_ne (ntup c xs r)]; exact r
      rcases hc with rfl | hc
      · exact hbe
      · rintro rfl
        rcases he with z | z
        · exact nown c b hc z
        · rw [hc] at z; cases z; exact hb rfl
end

/-! ### kept unless tracked; of the frames at fs (the callers') the slots may change (an exception that passes writes there); of the records at ex (iterators) nothing is said -/
structure Un (fs ex : List Addr) (H H' : Hp) (h h' : Heap) : Prop where
  keep : ∀ b o, h.get? b = some o → H b = none → b ∉ fs → b ∉ ex → h'.get? b = some o
  slot : ∀ b o, h.get? b = some o → H b = none → b ∈ fs → b ∉ ex → ∃ sl, h'.get? b = some { o with slots := sl }
  free : ∀ b o, h.get? b = some o → H b = none → b ∉ ex → H' b = none
  there : ∀ b o, h.get? b = some o → b ∉ ex → ∃ o', h'.get? b = some o'
  tups : ∀ b xs, H b = some (.tup xs) → H' b = some (.tup xs)
  frzs : ∀ b o u, H b = some (.frz o u) → H' b = some (.frz o u)
  tbls : ∀ b ps, H b = some (.tbl ps) → ∃ more, H' b = some (.tbl (ps ++ more))
section
variable {fs fs' ex ex' : List Addr} {H H1 H2 : Hp} {h h1 h2 h' : Heap} {a x e : Addr} {o : HO}
theorem Un.any (u : Un fs ex H H1 h h1) {b : Addr} {ob : Obj} (q : h.get? b = some ob) (n : H b = none) (hx : b ∉ ex) : ∃ sl, h1.get? b = some { ob with slots := sl } := by
  by_cases hb : b ∈ fs
  · exact u.slot b ob q n hb hx
  · exact ⟨ob.slots, u.keep b ob q n hb hx⟩
theorem Un.trans (a : Un fs ex H H1 h h1) (b : Un fs ex H1 H2 h1 h2) : Un fs ex H H2 h h2 where
  keep := fun c ob q n hc hx => b.keep c ob (a.keep c ob q n hc hx) (a.free c ob q n hx) hc hx
  slot := fun c ob q n hc hx => by
    obtain ⟨sl, e1⟩ := a.slot c ob q n hc hx
    obtain ⟨sl', e2⟩ := b.slot c _ e1 (a.free c ob q n hx) hc hx
    exact ⟨sl', e2⟩
  free := fun c ob q n hx => by
    obtain ⟨o', e1⟩ := a.there c ob q hx
    exact b.free c o' e1 (a.free c ob q n hx) hx
  there := fun c ob q hx => by
    obtain ⟨o', e1⟩ := a.there c ob q hx
    exact b.there c o' e1 hx
  tups := fun c xs q => b.tups c xs (a.tups c xs q)
  frzs := fun c ob xs q => b.frzs c ob xs (a.frzs c ob xs q)
  tbls := fun c ps q => by
    obtain ⟨m1, e1⟩ := a.tbls c ps q
    obtain ⟨m2, e2⟩ := b.tbls c _ e1
    exact ⟨m1 ++ m2, by rw [e2, Array.append_assoc]⟩
theorem Un.kept (k : ∀ b u, h.get? b = some u → h'.get? b = some u) : Un fs ex H H h h' :=
  ⟨fun b ob q _ _ _ => k b ob q, fun b ob q _ _ _ => ⟨ob.slots, k b ob q⟩, fun _ _ _ n _ => n, fun b ob q _ => ⟨ob, k b ob q⟩, fun _ _ q => q, fun _ _ _ q => q, fun _ ps q => ⟨#[], by rw [q]; simp⟩⟩
theorem Un.refl : Un fs ex H H h h := Un.kept fun _ _ q => q
theorem Un.laid (k : ∀ b u, h.get? b = some u → h'.get? b = some u) (hp : h.objs.size ≤ a) (hn : H a = none) : Un fs ex H (upd H a o) h h' where
  keep := fun b u q _ _ _ => k b u q
  slot := fun b u q _ _ _ => ⟨u.slots, k b u q⟩
  free := fun b u q n _ => by rw [upd_ne (Nat.ne_of_lt (Nat.lt_of_lt_of_le (Heap.lt_size q) hp))]; exact n
  there := fun b u q _ => ⟨u, k b u q⟩
  tups := fun b xs q => by rw [upd_ne (ne_of_none q hn)]; exact q
  frzs := fun b u xs q => by rw [upd_ne (ne_of_none q hn)]; exact q
  tbls := fun b ps q => ⟨#[], by rw [upd_ne (ne_of_none q hn), q]; simp⟩
theorem Un.write (mu : Mut (H x)) (he : e = x ∨ H e = some (.own x)) (k : ∀ b u, b ≠ e → h.get? b = some u → h'.get? b = some u) (heo : ∃ u, h'.get? e = some u) : Un fs ex H (upd H x o) h h' := by
  have hx : ∀ b, H b = none → b ≠ x := fun b n z => by subst z; rw [n] at mu; exact mu
  have hb : ∀ b, H b = none → b ≠ e := fun b n z => by
    subst z
    rcases he with r | r
    · exact hx b n r
    · rw [n] at r; cases r
  have hm : ∀ b u, H b = some u → ¬ Mut (some u) → b ≠ x := fun b u q nm z => by subst z; rw [q] at mu; exact nm mu
  refine ⟨fun b u q n _ _ => k b u (hb b n) q, fun b u q n _ _ => ⟨u.slots, k b u (hb b n) q⟩, fun b u q n _ => by rw [upd_ne (hx b n)]; exact n, fun b u q _ => ?_,
    fun b xs q => by rw [upd_ne (hm b _ q fun z => z)]; exact q, fun b u xs q => by rw [upd_ne (hm b _ q fun z => z)]; exact q, fun b ps q => ⟨#[], by rw [upd_ne (hm b _ q fun z => z), q]; simp⟩⟩
  by_cases hbe : b = e
  · subst hbe; exact heo
  · exact ⟨u, k b u hbe q⟩
theorem Un.mono (u : Un fs ex H H1 h h1) (hs : ∀ b ∈ fs, b ∈ fs') (hx : ∀ b ∈ ex, b ∈ ex') : Un fs' ex' H H1 h h1 :=
  ⟨fun b ob q n hb he => u.keep b ob q n (fun z => hb (hs b z)) fun z => he (hx b z), fun _ _ q n _ he => u.any q n fun z => he (hx _ z), fun b ob q n he => u.free b ob q n fun z => he (hx b z), fun b ob q he => u.there b ob q fun z => he (hx b z), u.tups, u.frzs, u.tbls⟩
end

/-! ### the heap without what is tracked -/
def trk (h : Heap) (H : Hp) : List Addr := (List.range h.objs.size).filter fun a => (H a).isSome
def hidT (h : Heap) (H : Hp) : Heap := PySem.W.hideAll h (trk h H)
theorem hidT_size (h : Heap) (H : Hp) : (hidT h H).objs.size = h.objs.size := PySem.W.hideAll_size _ _
theorem hidT_get {h : Heap} {H : Hp} {b : Addr} {o : Obj} (e : h.get? b = some o) (n : H b = none) : (hidT h H).get? b = some o :=
  PySem.W.hideAll_get _ e fun hm => by
    have q : (H b).isSome = true := (List.mem_filter.mp hm).2
    rw [n] at q; simp at q
theorem of_hidT {h : Heap} {H : Hp} {b : Addr} {o : Obj} (e : (hidT h H).get? b = some o) : h.get? b = some o ∧ H b = none := by
  have e' : h.get? b = some o := PySem.W.of_hideAll (trk h H) e
  refine ⟨e', ?_⟩
  cases q : H b with
  | none => rfl
  | some x =>
    have hm : b ∈ trk h H := List.mem_filter.mpr ⟨List.mem_range.mpr (Heap.lt_size e'), by simp [q]⟩
    have z : (hidT h H).get? b = none := PySem.W.hideAll_none (trk h H) hm
    rw [z] at e; cases e

/-! ### OpenK's ledger, filled with every new object but one -/
def allNews (g h : Heap) (L : Addr) : List (Addr × Obj) := (List.range h.objs.size).filterMap fun a => if a = L ∨ (g.get? a).isSome = true then none else (h.get? a).map fun o => (a, o)
def rest (g h : Heap) (L d : Addr) : List (Addr × Obj) := (allNews g h L).filter fun p => decide (p.1 ≠ d)
end L2

namespace L2
open PySem PySem.Spec PyProof.Rows

/-- the module's facts, over the base: the heap at the law's entry without what is tracked there -/
structure Mod (K : PySem.W.Frag) (mg : Str → Option Value) (base : Heap) : Prop where
  kin : K.In base
  glob : base.Ns mainGlobals mg
  blt : ∃ mb, base.Ns builtinsNs mb ∧ ∀ x : Str, x ≠ "__name__" → mb x = bootBuiltins x
  nolimit : base.NoLimit

/-- the context: a def's body (or a comprehension's block) running. base: fixed through the whole law; s₀, H₀: the entry; outer: the frames whose slots others may change (a def's callers); stack: all frames that run;
   ex: iterators that were made ahead of the entry and are walked here (a comprehension's); fn: the names whose cells were made at the entry (a def: all; a comprehension's block: its own); calm: not within an except suite; pn: pins that every state bears; xe: what is wanted of an exception that leaves the code -/
structure Cx where
  prog : Program
  w : World
  K : PySem.W.Frag
  mg : Str → Option Value
  base : Heap
  A : Around
  N : List Str
  s₀ : Shared
  H₀ : Hp
  env : Env
  outer : List Env
  stack : List Env
  ex : List Addr
  fn : Str → Bool
  calm : Bool
  pn : List (Addr × Obj)
  xe : Value → Shared → Prop
/-- the callers' frames -/
def frs (l : List Env) : List Addr := l.filterMap (·.frame)
abbrev Cx.fs (X : Cx) : List Addr := frs X.outer

def Vis (sc : Scope) (x : Str) : Prop := sc.names.lookup x = some .local ∨ sc.names.lookup x = some .cell ∨ sc.names.lookup x = some .free
def Loc (sc : Scope) (x : Str) : Prop := sc.names.lookup x = some .local ∨ sc.names.lookup x = some .cell
def Look (env : Env) (h : Heap) (m : Str → Option Value) (x : Str) (u : Value) : Prop :=
  (env.kindOf x = some .local ∧ m x = some u) ∨ ((env.kindOf x = some .cell ∨ env.kindOf x = some .free) ∧ ∃ c, env.cells.lookup x = some c ∧ h.IsCell c (some u))

structure Cx.Ok (X : Cx) : Prop where
  mod : Mod X.K X.mg X.base
  kind : X.env.scope.kind = .function
  glob : X.env.globals = mainGlobals
  blt : X.env.builtins = builtinsNs
  above : X.s₀.heap.objs.size ≤ X.env.locals
  inj : ∀ x y c, X.env.cells.lookup x = some c → X.env.cells.lookup y = some c → x = y
  has : ∀ x, (X.env.kindOf x = some .cell ∨ X.env.kindOf x = some .free) → ∃ c, X.env.cells.lookup x = some c
  cab : ∀ x c, X.fn x = true → X.env.cells.lookup x = some c → X.s₀.heap.objs.size ≤ c
  hd : X.calm = true → X.A.handled = none
  frames : X.A.frames = some X.stack
  stk : X.stack = X.outer ∨ (X.stack = X.env :: X.outer ∧ X.env.frame = some X.env.locals)
  exf : ∀ b ∈ X.ex, b ≠ X.env.locals ∧ ∀ x c, X.env.cells.lookup x = some c → c ≠ b
  bs : ∀ b o, X.base.get? b = some o → X.s₀.heap.get? b = some o ∧ X.H₀ b = none
  bsz : X.base.objs.size ≤ X.s₀.heap.objs.size
  noex : ∀ b o, X.base.get? b = some o → b ∉ X.ex
  exfs : ∀ b ∈ X.ex, b ∉ X.fs
  funs : X.s₀.heap.FunFrames X.base X.outer
  frf : ∀ b ∈ X.fs, X.H₀ b = none

structure Inv (X : Cx) (pins : List (Addr × Obj)) (σ : List (Option V)) (H : Hp) (s : Shared) : Prop where
  ok : X.Ok
  os : s.os = X.s₀.os
  bare : AllBare s.gens
  base : Un X.fs X.ex X.H₀ H X.s₀.heap s.heap
  loc : ∃ m, s.heap.Ns X.env.locals m ∧ ∀ (i : Nat) (x : Str) (v : V), X.N[i]? = some x → σ[i]? = some (some v) → Vis X.env.scope x → ∃ u, RelV v u ∧ Look X.env s.heap m x u
  cell : ∀ x c, X.env.cells.lookup x = some c → ∃ v, s.heap.IsCell c v
  free : H X.env.locals = none
  freeC : ∀ x c, X.env.cells.lookup x = some c → H c = none
  pin : ∀ p ∈ X.pn ++ pins, s.heap.get? p.1 = some p.2 ∧ H p.1 = none ∧ p.1 ≠ X.env.locals ∧ p.1 ∉ X.fs ∧ ∀ v, p.2.data ≠ .cell v
  hok : HOk X.prog X.w H s.heap
  len : σ.length = X.N.length

section
variable {X : Cx} {pins : List (Addr × Obj)} {σ : List (Option V)} {H H' : Hp} {s : Shared} {h' : Heap}

theorem Cx.Ok.nofr (ok : X.Ok) {b : Addr} {o : Obj} (e : X.base.get? b = some o) : b ∉ X.fs := fun hb => by
  have := (ok.funs.mem hb).1
  rw [e] at this; cases this
theorem Inv.bs (I : Inv X pins σ H s) : ∀ b o, X.base.get? b = some o → s.heap.get? b = some o ∧ H b = none := fun b o e =>
  ⟨I.base.keep b o (I.ok.bs b o e).1 (I.ok.bs b o e).2 (I.ok.nofr e) (I.ok.noex b o e), I.base.free b o (I.ok.bs b o e).1 (I.ok.bs b o e).2 (I.ok.noex b o e)⟩
theorem Inv.bk (I : Inv X pins σ H s) : ∀ b o, X.base.get? b = some o → s.heap.get? b = some o := fun b o e => (I.bs b o e).1
theorem Inv.mod (I : Inv X pins σ H s) : Mod X.K X.mg X.base := I.ok.mod
theorem Inv.kIn (I : Inv X pins σ H s) : X.K.In s.heap := I.ok.mod.kin.keeps I.bk
theorem Inv.nolimit (I : Inv X pins σ H s) : s.heap.NoLimit := I.ok.mod.nolimit.keeps I.bk
/-- the frame over the base: for OpenK's rules (K.In X.base is I.mod.kin) -/
theorem Inv.fr (I : Inv X pins σ H s) : ∃ m, Fr X.base X.env.locals s.heap m :=
  let ⟨m, hn, _⟩ := I.loc
  ⟨m, hn, I.bk, Nat.le_trans I.ok.bsz I.ok.above⟩
theorem Inv.lt (I : Inv X pins σ H s) : X.env.locals < s.heap.objs.size := let ⟨_, hn, _⟩ := I.loc; hn.lt
theorem Inv.sz (I : Inv X pins σ H s) : X.s₀.heap.objs.size ≤ s.heap.objs.size := Nat.le_trans I.ok.above (Nat.le_of_lt I.lt)
theorem Inv.nofs (I : Inv X pins σ H s) {a : Addr} (h : s.heap.objs.size ≤ a) : a ∉ X.fs := fun hb => by
  obtain ⟨_, o, ho, _⟩ := I.ok.funs.mem hb
  exact absurd (Nat.lt_of_lt_of_le (Heap.lt_size ho) (Nat.le_trans I.sz h)) (Nat.lt_irrefl _)
theorem Inv.cne (I : Inv X pins σ H s) : ∀ x c, X.env.cells.lookup x = some c → c ≠ X.env.locals := fun x c e z => by
  obtain ⟨v, o, ho, hd⟩ := I.cell x c e
  obtain ⟨m, ⟨o', es, ep, ho', hd', _⟩, _⟩ := I.loc
  rw [z, ho'] at ho; cases ho; rw [hd'] at hd; cases hd
theorem Inv.funs (I : Inv X pins σ H s) : s.heap.FunFrames X.base X.outer := by
  have all : ∀ (l : List Env), (∀ b ∈ frs l, b ∈ X.fs) → X.s₀.heap.FunFrames X.base l → s.heap.FunFrames X.base l := by
    intro l
    induction l with
    | nil => intro _ _; trivial
    | cons env r ih =>
      intro hs hl
      obtain ⟨hk, ⟨L, o, hf, hn, ho, hd⟩, hr⟩ := hl
      have hL : L ∈ X.fs := hs L (by unfold frs; rw [List.filterMap_cons, hf]; exact List.mem_cons_self)
      obtain ⟨sl, e⟩ := I.base.slot L o ho (I.ok.frf L hL) hL fun z => I.ok.exfs L z hL
      exact ⟨hk, ⟨L, _, hf, hn, e, hd⟩, ih (fun b hb => hs b (by unfold frs; rw [List.filterMap_cons, hf]; exact List.mem_cons_of_mem _ hb)) hr⟩
  exact all X.outer (fun _ hb => hb) I.ok.funs

/-- the frames that run, for a call -/
theorem Inv.stack (I : Inv X pins σ H s) : s.heap.FunFrames X.base X.stack := by
  rcases I.ok.stk with e | ⟨e, hf⟩
  · rw [e]; exact I.funs
  · rw [e]
    obtain ⟨m, hn, _⟩ := I.loc
    refine .cons (by rw [I.ok.kind]; decide) hf hn ?_ I.funs
    exact Heap.get?_none_of_le (Nat.le_trans I.ok.bsz I.ok.above)
theorem Inv.stkSub (I : Inv X pins σ H s) : ∀ b ∈ frs X.stack, b ∈ X.env.locals :: X.fs := fun b hb => by
  rcases I.ok.stk with e | ⟨e, hf⟩
  · rw [e] at hb; exact List.mem_cons_of_mem _ hb
  · rw [e] at hb
    unfold frs at hb
    rw [List.filterMap_cons, hf] at hb
    exact hb
theorem Inv.stkFree (I : Inv X pins σ H s) : ∀ b ∈ frs X.stack, H b = none := fun b hb => by
  rcases List.mem_cons.mp (I.stkSub b hb) with e | hb
  · rw [e]; exact I.free
  · obtain ⟨_, o, ho, _⟩ := I.ok.funs.mem hb
    exact I.base.free b o ho (I.ok.frf b hb) fun z => I.ok.exfs b z hb

/-- THE STEP: the untracked objects but the frame and the records at ch are kept (the callers' frames up to slots), the frame's map is kept, the new abstract heap is held -/
theorem Inv.step {g' : Array GenState} {t' : Nat} {d' : Drawn} {ch : List Addr} (I : Inv X pins σ H s)
    (hch : ∀ b ∈ ch, (b ∈ X.ex ∨ X.s₀.heap.objs.size ≤ b) ∧ b ≠ X.env.locals ∧ (∀ x c, X.env.cells.lookup x = some c → c ≠ b) ∧ ∀ p ∈ X.pn ++ pins, p.1 ≠ b)
    (keep : ∀ b o, b ≠ X.env.locals → b ∉ X.fs → b ∉ ch → s.heap.get? b = some o → H b = none → h'.get? b = some o)
    (slot : ∀ b o, b ≠ X.env.locals → b ∈ X.fs → b ∉ ch → s.heap.get? b = some o → H b = none → ∃ sl, h'.get? b = some { o with slots := sl }) (free : ∀ b o, b ∉ ch → s.heap.get? b = some o → H b = none → H' b = none)
    (there : ∀ b o, b ∉ ch → s.heap.get? b = some o → ∃ o', h'.get? b = some o')
    (tups : ∀ b xs, H b = some (.tup xs) → H' b = some (.tup xs)) (frzs : ∀ b o u, H b = some (.frz o u) → H' b = some (.frz o u)) (tbls : ∀ b ps, H b = some (.tbl ps) → ∃ more, H' b = some (.tbl (ps ++ more)))
    (ns : ∀ m, s.heap.Ns X.env.locals m → h'.Ns X.env.locals m) (hok : HOk X.prog X.w H' h') (hg : AllBare g') :
    Inv X pins σ H' { s with heap := h', gens := g', drawn := d', toks := t' } := by
  have neL : ∀ b o, X.s₀.heap.get? b = some o → b ≠ X.env.locals := fun b o e => Nat.ne_of_lt (Nat.lt_of_lt_of_le (Heap.lt_size e) I.ok.above)
  have neC : ∀ b o, X.s₀.heap.get? b = some o → b ∉ X.ex → b ∉ ch := fun b o e hx hb => by
    rcases (hch b hb).1 with z | z
    · exact hx z
    · exact absurd (Nat.lt_of_lt_of_le (Heap.lt_size e) z) (Nat.lt_irrefl _)
  have cellK : ∀ x c, X.env.cells.lookup x = some c → ∀ v, s.heap.IsCell c v → h'.IsCell c v := fun x c e v ⟨o, ho, hd⟩ => by
    have nch : c ∉ ch := fun z => (hch c z).2.2.1 x c e rfl
    by_cases hc : c ∈ X.fs
    · obtain ⟨sl, q⟩ := slot c o (I.cne x c e) hc nch ho (I.freeC x c e)
      exact ⟨_, q, hd⟩
    · exact ⟨o, keep c o (I.cne x c e) hc nch ho (I.freeC x c e), hd⟩
  refine ⟨I.ok, I.os, hg, ⟨fun b o e n hb hx => ?_, fun b o e n hb hx => ?_, fun b o e n hx => ?_, fun b o e hx => ?_, fun b xs e => tups b xs (I.base.tups b xs e), fun b o xs e => frzs b o xs (I.base.frzs b o xs e), fun b ps e => ?_⟩, ?_, fun x c e => ?_, ?_, fun x c e => ?_, fun p hp => ?_, hok, I.len⟩
  · exact keep b o (neL b o e) hb (neC b o e hx) (I.base.keep b o e n hb hx) (I.base.free b o e n hx)
  · obtain ⟨sl, e1⟩ := I.base.slot b o e n hb hx
    obtain ⟨sl', e2⟩ := slot b _ (neL b o e) hb (neC b o e hx) e1 (I.base.free b o e n hx)
    exact ⟨sl', e2⟩
  · obtain ⟨o', e1⟩ := I.base.there b o e hx
    exact free b o' (neC b o e hx) e1 (I.base.free b o e n hx)
  · obtain ⟨o', e1⟩ := I.base.there b o e hx
    exact there b o' (neC b o e hx) e1
  · obtain ⟨m1, e1⟩ := I.base.tbls b ps e
    obtain ⟨m2, e2⟩ := tbls b _ e1
    exact ⟨m1 ++ m2, by rw [e2, Array.append_assoc]⟩
  · obtain ⟨m, hn, hl⟩ := I.loc
    refine ⟨m, ns m hn, fun i x v e1 e2 e3 => ?_⟩
    obtain ⟨u, r, l⟩ := hl i x v e1 e2 e3
    refine ⟨u, r, ?_⟩
    rcases l with l | ⟨k, c, e, z⟩
    · exact .inl l
    · exact .inr ⟨k, c, e, cellK x c e _ z⟩
  · obtain ⟨v, z⟩ := I.cell x c e
    exact ⟨v, cellK x c e v z⟩
  · obtain ⟨m, ⟨o, _, _, ho, _⟩, _⟩ := I.loc
    exact free _ o (fun z => (hch _ z).2.1 rfl) ho I.free
  · obtain ⟨v, o, ho, hd⟩ := I.cell x c e
    exact free c o (fun z => (hch c z).2.2.1 x c e rfl) ho (I.freeC x c e)
  · obtain ⟨e, n, ne, nf, d⟩ := I.pin p hp
    have nch : p.1 ∉ ch := fun z => (hch p.1 z).2.2.2 p hp rfl
    exact ⟨keep p.1 p.2 ne nf nch e n, free p.1 p.2 nch e n, ne, nf, d⟩
/-- .. where the frame's own object is kept too -/
theorem Inv.un {t' : Nat} (I : Inv X pins σ H s) (u : Un X.fs [] H H' s.heap h') (hok : HOk X.prog X.w H' h') : Inv X pins σ H' { s with heap := h', toks := t' } := by
  obtain ⟨m, ⟨o, es, ep, ho, r⟩, _⟩ := id I.loc
  obtain ⟨sl, hL⟩ := u.any ho I.free (by simp)
  exact I.step (g' := s.gens) (d' := s.drawn) (ch := []) (fun _ z => nomatch z) (fun b o _ hb _ e n => u.keep b o e n hb (by simp)) (fun b o _ hb _ e n => u.slot b o e n hb (by simp)) (fun b o _ e n => u.free b o e n (by simp)) (fun b o _ e => u.there b o e (by simp)) u.tups u.frzs u.tbls (fun m' hm => by
    obtain ⟨o', es', ep', ho', r'⟩ := hm
    rw [ho] at ho'; cases ho'
    exact ⟨_, es', ep', hL, r'⟩) hok I.bare
/-- behind a call (or a comprehension's block): the slots of this frame may have changed too, the records at ch may have turned -/
theorem Inv.call {g' : Array GenState} {t' : Nat} {d' : Drawn} {ch : List Addr} (I : Inv X pins σ H s) (u : Un (frs X.stack) ch H H' s.heap h') (hok : HOk X.prog X.w H' h') (hg : AllBare g')
    (hch : ∀ b ∈ ch, (b ∈ X.ex ∨ X.s₀.heap.objs.size ≤ b) ∧ b ≠ X.env.locals ∧ (∀ x c, X.env.cells.lookup x = some c → c ≠ b) ∧ ∀ p ∈ X.pn ++ pins, p.1 ≠ b) :
    Inv X pins σ H' { s with heap := h', gens := g', drawn := d', toks := t' } := by
  obtain ⟨m, ⟨o, es, ep, ho, r⟩, _⟩ := id I.loc
  obtain ⟨sl, hL⟩ := u.any ho I.free fun z => (hch _ z).2.1 rfl
  exact I.step (ch := ch) hch (fun b o hL hb hc e n => u.keep b o e n (fun z => (List.mem_cons.mp (I.stkSub b z)).elim hL hb) hc) (fun b o _ _ hc e n => u.any e n hc) (fun b o hc e n => u.free b o e n hc) (fun b o hc e => u.there b o e hc) u.tups u.frzs u.tbls (fun m' hm => by
    obtain ⟨o', es', ep', ho', r'⟩ := hm
    rw [ho] at ho'; cases ho'
    exact ⟨_, es', ep', hL, r'⟩) hok hg
/-- an untracked record of ours (an iterator) has turned -/
theorem Inv.turned {t' : Nat} {it : Addr} (I : Inv X pins σ H s) (k : ∀ b o, b ≠ it → s.heap.get? b = some o → h'.get? b = some o) (hn : H it = none) (hL : it ≠ X.env.locals)
    (h1 : it ∈ X.ex ∨ X.s₀.heap.objs.size ≤ it) (h2 : ∀ x c, X.env.cells.lookup x = some c → c ≠ it) (h3 : ∀ p ∈ X.pn ++ pins, p.1 ≠ it) : Inv X pins σ H { s with heap := h', toks := t' } := by
  have nit : ∀ b u, H b = some u → b ≠ it := fun b u e z => by rw [z, hn] at e; cases e
  refine I.step (g' := s.gens) (d' := s.drawn) (ch := [it]) (fun b hb => ?_) (fun b o _ _ hc e _ => k b o (fun z => hc (by simp [z])) e) (fun b o _ _ hc e _ => ⟨o.slots, k b o (fun z => hc (by simp [z])) e⟩) (fun _ _ _ _ n => n)
    (fun b o hc e => ⟨o, k b o (fun z => hc (by simp [z])) e⟩) (fun _ _ e => e) (fun _ _ _ e => e) (fun b ps e => ⟨#[], by rw [e]; simp⟩) (fun m hm => ?_) (fun b u e => ?_) I.bare
  · have e : b = it := by simpa using hb
    subst e
    exact ⟨h1, hL, h2, h3⟩
  · obtain ⟨o, es, ep, ho, r⟩ := hm
    exact ⟨o, es, ep, k _ o (Ne.symm hL) ho, r⟩
  · refine (I.hok b u e).stay (fun c v hc q => k c v ?_ q) (fun _ q => q) fun _ _ q => q
    rcases hc with z | z
    · rw [z]; exact nit b u e
    · exact nit c _ z
theorem Inv.tok (I : Inv X pins σ H s) (t : Nat) : Inv X pins σ H { s with toks := t } := I.un (h' := s.heap) (t' := t) Un.refl I.hok
/-- all objects kept -/
theorem Inv.kept {t' : Nat} (I : Inv X pins σ H s) (k : ∀ b u, s.heap.get? b = some u → h'.get? b = some u) : Inv X pins σ H { s with heap := h', toks := t' } := I.un (Un.kept k) (I.hok.kept k)
/-- a new object laid and tracked -/
theorem Inv.laid {a : Addr} {o : HO} {t' : Nat} (I : Inv X pins σ H s) (k : ∀ b u, s.heap.get? b = some u → h'.get? b = some u) (hp : s.heap.objs.size ≤ a) (new : ObjOk X.prog X.w (upd H a o) h' a o) :
    Inv X pins σ (upd H a o) { s with heap := h', toks := t' } := I.un (Un.laid k hp (I.hok.fresh hp)) (I.hok.laid k hp new)
/-- an object written -/
theorem Inv.write {x e : Addr} {o : HO} {t' : Nat} (I : Inv X pins σ H s) (mu : Mut (H x)) (he : e = x ∨ H e = some (.own x)) (k : ∀ b u, b ≠ e → s.heap.get? b = some u → h'.get? b = some u) (heo : ∃ u, h'.get? e = some u)
    (new : ObjOk X.prog X.w (upd H x o) h' x o) : Inv X pins σ (upd H x o) { s with heap := h', toks := t' } := I.un (Un.write mu he k heo) (I.hok.write mu he k heo new)
theorem Inv.pins_of {pins' : List (Addr × Obj)} (I : Inv X pins σ H s) (h : ∀ p ∈ pins', s.heap.get? p.1 = some p.2 ∧ H p.1 = none ∧ p.1 ≠ X.env.locals ∧ p.1 ∉ X.fs ∧ ∀ v, p.2.data ≠ .cell v) : Inv X pins' σ H s :=
  ⟨I.ok, I.os, I.bare, I.base, I.loc, I.cell, I.free, I.freeC, fun p hp => (List.mem_append.mp hp).elim (fun z => I.pin p (List.mem_append_left _ z)) (h p), I.hok, I.len⟩

theorem nodup_ix {N : List Str} (hN : N.Nodup) {i j : Nat} {x : Str} (a : N[i]? = some x) (b : N[j]? = some x) : i = j := by
  obtain ⟨h1, e1⟩ := List.getElem?_eq_some_iff.mp a
  obtain ⟨h2, e2⟩ := List.getElem?_eq_some_iff.mp b
  exact (List.getElem_inj hN).mp (e1.trans e2.symm)

/-- a name is stored; what changed -/
theorem store_ok2 {M : Model} {A : Around} {E : Value → Shared → Prop} {i : Nat} {x : Str} {v : V} {u : Value} {Q : Unit → Shared → Prop} (I : Inv X pins σ H s) (hN : X.N.Nodup) (hi : X.N[i]? = some x) (hx : Loc X.env.scope x) (r : RelV v u)
    (h : ∀ s', Inv X pins (σ.set i (some v)) H s' → (∃ a, Heap.SameBut a s.heap s'.heap ∧ (a = X.env.locals ∨ X.env.cells.lookup x = some a)) → Q () s') (hf : X.fn x = true ∨ X.env.scope.names.lookup x = some .local := by first | exact .inl rfl | exact .inr rfl | assumption) : wpAny M A (storeName X.env x u) Q E s := by
  obtain ⟨m, hn, hl⟩ := id I.loc
  have hcls : (X.env.scope.kind == .class || (X.env.scope.kind == .module && X.env.locals != X.env.globals)) = false := by rw [I.ok.kind]; rfl
  have hiσ : i < σ.length := by rw [I.len]; exact (List.getElem?_eq_some_iff.mp hi).1
  have cne := I.cne
  have tracked : ∀ {a : Addr} {h' : Heap}, (∃ o, s.heap.get? a = some o ∧ H a = none) → Heap.SameBut a s.heap h' → HOk X.prog X.w H h' := fun {a h'} ha hs b ob e => by
    obtain ⟨_, _, hfree⟩ := ha
    refine (I.hok b ob e).stay (fun c w' hc q => (hs.2 c ?_).trans q) (fun _ q => q) fun _ _ q => q
    rintro rfl
    rcases hc with rfl | hc
    · rw [hfree] at e; cases e
    · rw [hfree] at hc; cases hc
  rcases hx with hk | hk
  · refine wpAny_storeName_local hk hn (fun h' hn' hs => ?_) hcls
    obtain ⟨oL, _, _, hoL, _⟩ := id hn
    refine h _ ⟨I.ok, I.os, I.bare, ⟨fun b o e n hb hx => ?_, fun b o e n hb hx => ?_, I.base.free, fun b o e hx => ?_, I.base.tups, I.base.frzs, I.base.tbls⟩, ⟨_, hn', fun j y v' e1 e2 e3 => ?_⟩, fun y c e => ?_, I.free, I.freeC, fun p hp => ?_, tracked ⟨oL, hoL, I.free⟩ hs, by simpa using I.len⟩ ⟨_, hs, .inl rfl⟩
    · exact (hs.2 b (Nat.ne_of_lt (Nat.lt_of_lt_of_le (Heap.lt_size e) I.ok.above))).trans (I.base.keep b o e n hb hx)
    · obtain ⟨sl, e1⟩ := I.base.slot b o e n hb hx
      exact ⟨sl, (hs.2 b (Nat.ne_of_lt (Nat.lt_of_lt_of_le (Heap.lt_size e) I.ok.above))).trans e1⟩
    · obtain ⟨o', e1⟩ := I.base.there b o e hx
      exact ⟨o', (hs.2 b (Nat.ne_of_lt (Nat.lt_of_lt_of_le (Heap.lt_size e) I.ok.above))).trans e1⟩
    · by_cases hj : j = i
      · subst hj
        rw [hi] at e1; cases e1
        rw [List.getElem?_set_self hiσ] at e2
        cases e2
        exact ⟨u, r, .inl ⟨hk, by simp⟩⟩
      · rw [List.getElem?_set_ne (Ne.symm hj)] at e2
        obtain ⟨u', r', q⟩ := hl j y v' e1 e2 e3
        refine ⟨u', r', ?_⟩
        rcases q with ⟨k, e⟩ | ⟨k, c, e, z⟩
        · refine .inl ⟨k, ?_⟩
          have : y ≠ x := fun e => hj (nodup_ix hN e1 (e ▸ hi))
          simp [this, e]
        · exact .inr ⟨k, c, e, z.sameBut hs (cne y c e)⟩
    · obtain ⟨w', z⟩ := I.cell y c e
      exact ⟨w', z.sameBut hs (cne y c e)⟩
    · obtain ⟨e, n, ne, nf, d⟩ := I.pin p hp
      exact ⟨(hs.2 p.1 ne).trans e, n, ne, nf, d⟩
  · have hfn : X.fn x = true := by
      rcases hf with z | z
      · exact z
      · rw [z] at hk; cases hk
    obtain ⟨c, hc⟩ := I.ok.has x (.inl hk)
    obtain ⟨w', z⟩ := I.cell x c hc
    refine wpAny_storeName_cell I.ok.kind hk hc z (fun h' hc' hs => ?_)
    obtain ⟨oc, hoc, hocd⟩ := id z
    refine h { s with heap := h' } ⟨I.ok, I.os, I.bare, ⟨fun b o e n hb hx => ?_, fun b o e n hb hx => ?_, I.base.free, fun b o e hx => ?_, I.base.tups, I.base.frzs, I.base.tbls⟩, ⟨m, hn.sameBut hs (Ne.symm (cne x c hc)), fun j y v' e1 e2 e3 => ?_⟩, fun y c' e => ?_, I.free, I.freeC, fun p hp => ?_, tracked ⟨oc, hoc, I.freeC x c hc⟩ hs, by simpa using I.len⟩ ⟨c, hs, .inr hc⟩
    · exact (hs.2 b (Nat.ne_of_lt (Nat.lt_of_lt_of_le (Heap.lt_size e) (I.ok.cab x c hfn hc)))).trans (I.base.keep b o e n hb hx)
    · obtain ⟨sl, e1⟩ := I.base.slot b o e n hb hx
      exact ⟨sl, (hs.2 b (Nat.ne_of_lt (Nat.lt_of_lt_of_le (Heap.lt_size e) (I.ok.cab x c hfn hc)))).trans e1⟩
    · obtain ⟨o', e1⟩ := I.base.there b o e hx
      exact ⟨o', (hs.2 b (Nat.ne_of_lt (Nat.lt_of_lt_of_le (Heap.lt_size e) (I.ok.cab x c hfn hc)))).trans e1⟩
    · by_cases hj : j = i
      · subst hj
        rw [hi] at e1; cases e1
        rw [List.getElem?_set_self hiσ] at e2
        cases e2
        exact ⟨u, r, .inr ⟨.inl hk, c, hc, hc'⟩⟩
      · rw [List.getElem?_set_ne (Ne.symm hj)] at e2
        obtain ⟨u', r', q⟩ := hl j y v' e1 e2 e3
        refine ⟨u', r', ?_⟩
        rcases q with q | ⟨k, c', e, z'⟩
        · exact .inl q
        · refine .inr ⟨k, c', e, z'.sameBut hs ?_⟩
          rintro rfl
          exact hj (nodup_ix hN e1 (I.ok.inj _ _ _ e hc ▸ hi))
    · by_cases hcc : c' = c
      · subst hcc; exact ⟨_, hc'⟩
      · obtain ⟨w2, z2⟩ := I.cell y c' e
        exact ⟨w2, z2.sameBut hs hcc⟩
    · obtain ⟨e, n, ne, nf, d⟩ := I.pin p hp
      refine ⟨(hs.2 p.1 ?_).trans e, n, ne, nf, d⟩
      intro q
      rw [q, hoc] at e
      have q' : oc = p.2 := Option.some.inj e
      exact d w' (by rw [← q']; exact hocd)
theorem store_ok {M : Model} {A : Around} {E : Value → Shared → Prop} {i : Nat} {x : Str} {v : V} {u : Value} {Q : Unit → Shared → Prop} (I : Inv X pins σ H s) (hN : X.N.Nodup) (hi : X.N[i]? = some x) (hx : Loc X.env.scope x) (r : RelV v u)
    (h : ∀ s', Inv X pins (σ.set i (some v)) H s' → Q () s') (hf : X.fn x = true ∨ X.env.scope.names.lookup x = some .local := by first | exact .inl rfl | exact .inr rfl | assumption) : wpAny M A (storeName X.env x u) Q E s :=
  store_ok2 I hN hi hx r (fun s' I' _ => h s' I') hf
/-- behind a call or a block, the state as it is -/
theorem Inv.call' {s' : Shared} {ch : List Addr} (I : Inv X pins σ H s) (ho : s'.os = s.os) (u : Un (frs X.stack) ch H H' s.heap s'.heap) (hok : HOk X.prog X.w H' s'.heap) (hg : AllBare s'.gens)
    (hch : ∀ b ∈ ch, (b ∈ X.ex ∨ X.s₀.heap.objs.size ≤ b) ∧ b ≠ X.env.locals ∧ (∀ x c, X.env.cells.lookup x = some c → c ≠ b) ∧ ∀ p ∈ X.pn ++ pins, p.1 ≠ b) : Inv X pins σ H' s' := by
  obtain ⟨h', g', d', t', o'⟩ := s'
  have e : o' = s.os := ho
  subst e
  exact I.call (g' := g') (t' := t') (d' := d') u hok hg hch
end

/-! ### the judgements -/
/-- an exception: its class, its own dict's address (where it has one), the abstract heap behind it -/
abbrev XK := Value → Option Addr → Hp → Prop
abbrev St := List (Option V)
abbrev VK := V → Hp → Prop
/-- an expression's reading; a test's; an argument list's -/
abbrev TE := St → Hp → VK → Prop
abbrev TT := St → Hp → (Bool → Hp → Prop) → Prop
abbrev TA := St → Hp → (List V → Hp → Prop) → Prop
/-- what is wanted behind a statement -/
structure Ends where
  nx : St → Hp → Prop
  rt : VK
  bk : St → Hp → Prop := fun _ _ => False
  ct : St → Hp → Prop := fun _ _ => False
abbrev TS := Ends → St → Hp → Prop

def EP (X : Cx) (pins : List (Addr × Obj)) (σ : St) (Q : VK) (u : Value) (s' : Shared) : Prop := ∃ v H', Inv X pins σ H' s' ∧ RelV v u ∧ Q v H'
def TP (X : Cx) (pins : List (Addr × Obj)) (σ : St) (Q : Bool → Hp → Prop) (b : Bool) (s' : Shared) : Prop := ∃ H', Inv X pins σ H' s' ∧ Q b H'
def AP (X : Cx) (pins : List (Addr × Obj)) (σ : St) (Q : List V → Hp → Prop) (us : List Value) (s' : Shared) : Prop := ∃ vs H', Inv X pins σ H' s' ∧ Vals vs us ∧ Q vs H'
def SP (X : Cx) (pins : List (Addr × Obj)) (D : Ends) (f : Flow) (s' : Shared) : Prop :=
  match f with
  | .next => ∃ σ' H', Inv X pins σ' H' s' ∧ D.nx σ' H'
  | .brk => ∃ σ' H', Inv X pins σ' H' s' ∧ D.bk σ' H'
  | .cont => ∃ σ' H', Inv X pins σ' H' s' ∧ D.ct σ' H'
  | .ret u => ∃ v σ' H', Inv X pins σ' H' s' ∧ RelV v u ∧ D.rt v H'

def PE (X : Cx) (e : Expr) (t : TE) : Prop :=
  ∀ (pins : List (Addr × Obj)) (s : Shared) (σ : St) (H : Hp) (Q : VK), Inv X pins σ H s → t σ H Q → wpAny (model X.prog X.w) X.A (eval e X.env) (EP X pins σ Q) X.xe s
def PT (X : Cx) (e : Expr) (t : TT) : Prop :=
  ∀ (pins : List (Addr × Obj)) (s : Shared) (σ : St) (H : Hp) (Q : Bool → Hp → Prop), Inv X pins σ H s → t σ H Q → wpAny (model X.prog X.w) X.A (isTrue e X.env (eval e X.env)) (TP X pins σ Q) X.xe s
/-- a test whatever its 'whole' is (and, or) -/
def PW (X : Cx) (e : Expr) (t : TT) : Prop :=
  ∀ (whole : Sem Value) (pins : List (Addr × Obj)) (s : Shared) (σ : St) (H : Hp) (Q : Bool → Hp → Prop), Inv X pins σ H s → t σ H Q → wpAny (model X.prog X.w) X.A (isTrue e X.env whole) (TP X pins σ Q) X.xe s
theorem PW.pt {X : Cx} {e : Expr} {t : TT} (h : PW X e t) : PT X e t := h _
/-- an argument list (no star), from the left -/
def PA (X : Cx) (es : List Expr) (t : TA) : Prop :=
  ∀ (pos : Pos) (pins : List (Addr × Obj)) (s : Shared) (σ : St) (H : Hp) (Q : List V → Hp → Prop), Inv X pins σ H s → t σ H Q → wpAny (model X.prog X.w) X.A (spliced (backTo pos (starEach es X.env))) (AP X pins σ Q) X.xe s
def PS (X : Cx) (st : Stmt) (t : TS) : Prop :=
  ∀ (pins : List (Addr × Obj)) (s : Shared) (σ : St) (H : Hp) (D : Ends), Inv X pins σ H s → t D σ H → wpAny (model X.prog X.w) X.A (exec st X.env) (SP X pins D) X.xe s
def PSs (X : Cx) (st : List Stmt) (t : TS) : Prop :=
  ∀ (pins : List (Addr × Obj)) (s : Shared) (σ : St) (H : Hp) (D : Ends), Inv X pins σ H s → t D σ H → wpAny (model X.prog X.w) X.A (execs st X.env) (SP X pins D) X.xe s
/-- weaken the end -/
theorem thn {α : Type} {t : Sem α} {Q Q' : α → Shared → Prop} {M : Model} {A : Around} {E : Value → Shared → Prop} {s : Shared} (h : wpAny M A t Q E s) (hQ : ∀ a s, Q a s → Q' a s) : wpAny M A t Q' E s := wpAny_mono h hQ fun _ _ x => x
end L2

namespace L2
open PySem PySem.Spec PyProof.Rows
section
variable {X : Cx}

/-! ### names and constants -/
def tVar (i : Nat) : TE := fun σ H Q => ∃ v, σ[i]? = some (some v) ∧ Q v H
def tC (v : V) : TE := fun _ H Q => Q v H
theorem pe_var {i : Nat} {x : Str} {pos : Pos} (hN : X.N[i]? = some x) (hv : Vis X.env.scope x) (hd : (x == ("__debug__" : Str)) = false := by decide) (hcd : (x == ("__classdict__" : Str)) = false := by decide) : PE X (.Name x pos) (tVar i) := by
  intro pins s σ H Q I h
  obtain ⟨v, e, h⟩ := h
  obtain ⟨m, hn, hl⟩ := I.loc
  obtain ⟨u, r, l⟩ := hl i x v hN e hv
  have fin : EP X pins σ Q u s := ⟨v, H, I, r, h⟩
  rcases l with ⟨hk, hm⟩ | ⟨hk, c, hc, hcell⟩
  · exact wpAny_Name (wpAny_loadName_local I.ok.kind hk hn hm fin) hd
  · rcases hk with hk | hk
    · exact wpAny_Name (wpAny_loadName_cell I.ok.kind hk hc hcell fin) hd
    · exact wpAny_Name (wpAny_loadName_free I.ok.kind hk hc hcell fin hcd) hd
theorem pe_int {i j pos} : PE X (.Constant (.int i) j pos) (tC (.int i)) := fun _ _ _ H _ I h => wpAny_Constant_int ⟨.int i, H, I.tok _, ⟨_, rfl⟩, h⟩
theorem pe_bl {b j pos} : PE X (.Constant (.bool b) j pos) (tC (.bl b)) := fun _ _ _ H _ I h => Constant_bool ⟨.bl b, H, I, rfl, h⟩
theorem pe_non {j pos} : PE X (.Constant .none j pos) (tC .non) := fun _ _ _ H _ I h => Constant_none ⟨.non, H, I, rfl, h⟩
theorem pe_str {x j pos} : PE X (.Constant (.str x) j pos) (tC (.str x)) := fun _ _ _ H _ I h => Calls.Constant_str ⟨.str x, H, I.tok _, ⟨_, rfl⟩, h⟩

/-- a global name of the def -/
def Gl (X : Cx) (x : Str) : Prop := X.env.kindOf x = some .globalImplicit
theorem ld_glob {E : Value → Shared → Prop} {pins : List (Addr × Obj)} {s : Shared} {σ : St} {H : Hp} {x : Str} {u : Value} {pos : Pos} {Q : Value → Shared → Prop} (I : Inv X pins σ H s) (hg : Gl X x) (hm : X.mg x = some u) (h : Q u s)
    (hd : (x == ("__debug__" : Str)) = false := by decide) : wpAny (model X.prog X.w) X.A (eval (.Name x pos) X.env) Q E s :=
  Calls.Name_function_global I.ok.kind hg (Calls.loadGlobal_global (by rw [I.ok.glob]; exact I.mod.glob.keeps I.bk) hm h) hd
theorem ld_blt {E : Value → Shared → Prop} {pins : List (Addr × Obj)} {s : Shared} {σ : St} {H : Hp} {x : Str} {u : Value} {pos : Pos} {Q : Value → Shared → Prop} (I : Inv X pins σ H s) (hg : Gl X x) (hm : X.mg x = none) (hv : bootBuiltins x = some u) (h : Q u s)
    (hn : x ≠ "__name__" := by decide) (hd : (x == ("__debug__" : Str)) = false := by decide) : wpAny (model X.prog X.w) X.A (eval (.Name x pos) X.env) Q E s := by
  obtain ⟨mb, h1, h2⟩ := I.mod.blt
  exact Calls.Name_function_global I.ok.kind hg (Calls.loadGlobal_builtin (by rw [I.ok.glob]; exact I.mod.glob.keeps I.bk) hm (by rw [I.ok.blt]; exact h1.keeps I.bk) ((h2 x hn).trans hv) h) hd
theorem pe_bltn {x : Str} {v : V} {u : Value} {pos : Pos} (hg : Gl X x) (hm : X.mg x = none) (hv : bootBuiltins x = some u) (r : RelV v u) (hn : x ≠ "__name__" := by decide) (hd : (x == ("__debug__" : Str)) = false := by decide) : PE X (.Name x pos) (tC v) :=
  fun _ _ _ H _ I h => ld_blt I hg hm hv ⟨v, H, I, r, h⟩ hn hd

/-! ### arithmetic -/
/-- two ints -/
def t2I (ta tb : TE) (k : Int → Int → Hp → Prop) : St → Hp → Prop := fun σ H => ta σ H fun x H1 => tb σ H1 fun y H2 => ∃ i j, x = .int i ∧ y = .int j ∧ k i j H2
def tAdd (ta tb : TE) : TE := fun σ H Q => t2I ta tb (fun i j H2 => Q (.int (i + j)) H2) σ H
def tSub (ta tb : TE) : TE := fun σ H Q => t2I ta tb (fun i j H2 => Q (.int (i - j)) H2) σ H
/-- the left factor below 2^64 -/
def tMul (ta tb : TE) : TE := fun σ H Q => t2I ta tb (fun i j H2 => (-(2 ^ 64) < i ∧ i < 2 ^ 64) ∧ Q (.int (i * j)) H2) σ H
variable {a b : Expr} {ta tb : TE} {pos : Pos}
/-! ### comparisons -/
def PC (X : Cx) (op : CmpOp) (a b : Expr) (t : TE) : Prop :=
  ∀ (pins : List (Addr × Obj)) (s : Shared) (σ : St) (H : Hp) (Q : VK), Inv X pins σ H s → t σ H Q →
    wpAny (model X.prog X.w) X.A (eval a X.env) (fun v s₁ => wpAny (model X.prog X.w) X.A (eval b X.env) (fun u s₂ => wpAny (model X.prog X.w) X.A (compareOp op v u) (EP X pins σ Q) X.xe s₂) X.xe s₁) X.xe s
def tCmp (p : Int → Int → Bool) (ta tb : TE) : TE := fun σ H Q => t2I ta tb (fun i j H2 => Q (.bl (p i j)) H2) σ H
abbrev tLt : TE → TE → TE := tCmp fun i j => decide (i < j)
abbrev tLe : TE → TE → TE := tCmp fun i j => decide (i ≤ j)
abbrev tGt : TE → TE → TE := tCmp fun i j => decide (j < i)
abbrev tGe : TE → TE → TE := tCmp fun i j => decide (j ≤ i)
abbrev tEqI : TE → TE → TE := tCmp fun i j => decide (i = j)
abbrev tNeI : TE → TE → TE := tCmp fun i j => !decide (i = j)
/-- is None -/
def tIsN (ta : TE) : TE := fun σ H Q => ta σ H fun x H1 => Q (.bl (decide (x = .non))) H1
def tNotN (ta : TE) : TE := fun σ H Q => ta σ H fun x H1 => Q (.bl (!decide (x = .non))) H1
/-- a comparison as a value, as a test -/
def tB (t : TE) : TT := fun σ H Q => t σ H fun x H1 => ∃ c, x = .bl c ∧ Q c H1
/-- an expression whose value is a bool, as a test -/
theorem pt_val {e : Expr} {t : TE} (h : PE X e t) (he : ∀ whole, isTrue e X.env whole = (do let v ← whole; standAt e.pos; holding [v] (truthy v)) := by intro _; rfl) : PT X e (tB t) := by
  intro pins s σ H Q I hw
  refine isTrue_plain (thn (h pins s σ H _ I hw) fun v s1 ⟨x, H1, I1, r1, q1⟩ => ?_) (he _)
  obtain ⟨d, rfl, q⟩ := q1
  cases r1
  exact wpAny_truthy_bool ⟨H1, I1, q⟩

/-! ### and, or, not -/
variable {tA tB' : TT} {rest : List Expr}
def tAnd (t u : TT) : TT := fun σ H Q => t σ H fun c H1 => if c = true then u σ H1 Q else Q false H1
def tOr (t u : TT) : TT := fun σ H Q => t σ H fun c H1 => if c = true then Q true H1 else u σ H1 Q
def tNot (t : TT) : TT := fun σ H Q => t σ H fun c H1 => Q (!c) H1
theorem pw_and1 (ha : PT X a tA) : PW X (.BoolOp .And [a] pos) tA := by
  intro wh pins s σ H Q I h
  refine isTrue_and (thn (ha pins s σ H Q I h) fun c s1 e => ?_)
  cases c with
  | true => exact isTrue_and_nil e
  | false => exact e
theorem pw_or1 (ha : PT X a tA) : PW X (.BoolOp .Or [a] pos) tA := by
  intro wh pins s σ H Q I h
  refine isTrue_or (thn (ha pins s σ H Q I h) fun c s1 e => ?_)
  cases c with
  | false => exact isTrue_or_nil e
  | true => exact e
theorem pw_and (ha : PT X a tA) (hb : PW X (.BoolOp .And (b :: rest) pos) tB') : PW X (.BoolOp .And (a :: b :: rest) pos) (tAnd tA tB') := by
  intro wh pins s σ H Q I h
  refine isTrue_and (thn (ha pins s σ H _ I h) fun c s1 ⟨H1, I1, q1⟩ => ?_)
  cases c with
  | true => exact hb wh pins s1 σ H1 Q I1 q1
  | false => exact ⟨H1, I1, q1⟩
theorem pw_or (ha : PT X a tA) (hb : PW X (.BoolOp .Or (b :: rest) pos) tB') : PW X (.BoolOp .Or (a :: b :: rest) pos) (tOr tA tB') := by
  intro wh pins s σ H Q I h
  refine isTrue_or (thn (ha pins s σ H _ I h) fun c s1 ⟨H1, I1, q1⟩ => ?_)
  cases c with
  | true => exact ⟨H1, I1, q1⟩
  | false => exact hb wh pins s1 σ H1 Q I1 q1
theorem pt_not (ha : PT X a tA) : PT X (.UnaryOp .Not a pos) (tNot tA) := by
  intro pins s σ H Q I h
  exact isTrue_not (ha pins s σ H (fun c H1 => Q (!c) H1) I h)
/-- .. as values (bools) -/
def tAndV (ta tb : TE) : TE := fun σ H Q => ta σ H fun x H1 => ∃ c, x = .bl c ∧ if c = true then tb σ H1 Q else Q (.bl false) H1
def tOrV (ta tb : TE) : TE := fun σ H Q => ta σ H fun x H1 => ∃ c, x = .bl c ∧ if c = true then Q (.bl true) H1 else tb σ H1 Q
def tNotV (ta : TE) : TE := fun σ H Q => ta σ H fun x H1 => ∃ c, x = .bl c ∧ Q (.bl (!c)) H1
theorem pe_one {op} {t : TE} (h : PE X a t) : PE X (.BoolOp op [a] pos) t := fun pins s σ H Q I hw => BoolOp_one (h pins s σ H Q I hw)
theorem pe_and (ha : PE X a ta) (hb : PE X (.BoolOp .And (b :: rest) pos) tb) : PE X (.BoolOp .And (a :: b :: rest) pos) (tAndV ta tb) := by
  intro pins s σ H Q I h
  refine BoolOp_and (thn (ha pins s σ H _ I h) fun v s1 ⟨x, H1, I1, r1, q1⟩ => ?_)
  obtain ⟨c, rfl, q1⟩ := q1
  cases r1
  refine wpAny_truthy_bool ?_
  cases c with
  | true => exact hb pins s1 σ H1 Q I1 q1
  | false => exact ⟨.bl false, H1, I1, rfl, q1⟩
theorem pe_or (ha : PE X a ta) (hb : PE X (.BoolOp .Or (b :: rest) pos) tb) : PE X (.BoolOp .Or (a :: b :: rest) pos) (tOrV ta tb) := by
  intro pins s σ H Q I h
  refine BoolOp_or (thn (ha pins s σ H _ I h) fun v s1 ⟨x, H1, I1, r1, q1⟩ => ?_)
  obtain ⟨c, rfl, q1⟩ := q1
  cases r1
  refine wpAny_truthy_bool ?_
  cases c with
  | false => exact hb pins s1 σ H1 Q I1 q1
  | true => exact ⟨.bl true, H1, I1, rfl, q1⟩
theorem pe_not (ha : PE X a ta) : PE X (.UnaryOp .Not a pos) (tNotV ta) := by
  intro pins s σ H Q I h
  refine UnaryOp_ (thn (ha pins s σ H _ I h) fun v s1 ⟨x, H1, I1, r1, q1⟩ => ?_)
  obtain ⟨c, rfl, q1⟩ := q1
  cases r1
  exact not_of (wpAny_truthy_bool ⟨.bl (!c), H1, I1, rfl, q1⟩)
/-- a if t else b -/
def tIf (t : TT) (ta tb : TE) : TE := fun σ H Q => t σ H fun c H1 => if c = true then ta σ H1 Q else tb σ H1 Q
theorem pe_ifExp {c : Expr} (hc : PT X c tA) (ha : PE X a ta) (hb : PE X b tb) : PE X (.IfExp c a b pos) (tIf tA ta tb) := by
  intro pins s σ H Q I h
  refine wpAny_IfExp (thn (hc pins s σ H _ I h) fun d s1 ⟨H1, I1, q1⟩ => ?_)
  cases d with
  | true => exact ha pins s1 σ H1 Q I1 q1
  | false => exact hb pins s1 σ H1 Q I1 q1
end
end L2

namespace L2
open PySem PySem.Spec PyProof.Rows

/-! ### a list, a tuple that is read: tracked, frozen, or an object of the module -/
def SqL (K : PySem.W.Frag) (H : Hp) (a : Addr) (xs : List V) : Prop :=
  Rd H a (.lst xs) ∨
    ∃ (o : Obj) (its : Array Value) (n : Nat), K.lookup a = some o ∧ o.cls = .type "list" ∧ o.dict = none ∧ o.data = .seq its n ∧ its.size ≤ sizeLine ∧ Vals xs its.toList
def SqT (K : PySem.W.Frag) (H : Hp) (a : Addr) (xs : List V) : Prop :=
  Rd H a (.tup xs) ∨
    ∃ (o : Obj) (its : Array Value) (n : Nat), K.lookup a = some o ∧ o.cls = .type "tuple" ∧ o.data = .seq its n ∧ its.size ≤ sizeLine ∧ Vals xs its.toList
def absV : Value → Option V
  | .none => some .non
  | .bool b => some (.bl b)
  | .int i _ => some (.int i)
  | .str x _ => some (.str x)
  | .bytes b _ => some (.byt b)
  | .float b _ => some (.flt b)
  | .ref a => some (.ref a)
  | .type n => some (.ty n)
  | _ => none
theorem RelV.abs {x : V} {u : Value} (r : RelV x u) : absV u = some x := by
  cases x with
  | non => cases r; rfl
  | bl _ => cases r; rfl
  | int _ => obtain ⟨t, rfl⟩ := r; rfl
  | str _ => obtain ⟨t, rfl⟩ := r; rfl
  | byt _ => obtain ⟨t, rfl⟩ := r; rfl
  | flt _ => obtain ⟨t, rfl⟩ := r; rfl
  | ref _ => cases r; rfl
  | ty _ => cases r; rfl
theorem RelV.inj {x y : V} {u : Value} (r : RelV x u) (q : RelV y u) : x = y := Option.some.inj (r.abs.symm.trans q.abs)
theorem Vals.inj : ∀ {xs ys : List V} {us : List Value}, Vals xs us → Vals ys us → xs = ys
  | _, _, _, .nil, .nil => rfl
  | _, _, _, .cons r t, .cons r' t' => by rw [r.inj r', Vals.inj t t']
section
variable {X : Cx} {pins : List (Addr × Obj)} {σ : St} {H : Hp} {s : Shared} {a : Addr} {xs ys : List V}
theorem SqL.of {K : PySem.W.Frag} (h : H a = some (.lst xs)) : SqL K H a xs := .inl (.inl h)
theorem SqT.of {K : PySem.W.Frag} (h : H a = some (.tup xs)) : SqT K H a xs := .inl (.inl h)
theorem Inv.list (I : Inv X pins σ H s) (h : SqL X.K H a xs) : ∃ its : List Value, Vals xs its ∧ PlainL s.heap a its.toArray ∧ xs.length ≤ sizeLine := by
  rcases h with h | ⟨o, its, n, hk, hc, hd, hs, hz, r⟩
  · obtain ⟨z, its, n, r, e⟩ := h.ok I.hok
    exact ⟨its, r, ⟨_, n, e, rfl, rfl, rfl⟩, z⟩
  · refine ⟨its.toList, r, ⟨o, n, I.kIn a o hk, hc, hd, by simpa using hs⟩, ?_⟩
    have e := r.length
    simp only [Array.length_toList] at e
    omega
theorem Inv.tuple (I : Inv X pins σ H s) (h : SqT X.K H a xs) : ∃ its : List Value, Vals xs its ∧ IsTup s.heap a its.toArray ∧ xs.length ≤ sizeLine := by
  rcases h with h | ⟨o, its, n, hk, hc, hs, hz, r⟩
  · obtain ⟨z, its, r, p⟩ := h.ok I.hok
    exact ⟨its, r, p, z⟩
  · refine ⟨its.toList, r, ⟨o, I.kIn a o hk, hc, n, by simpa using hs⟩, ?_⟩
    have e := r.length
    simp only [Array.length_toList] at e
    omega
theorem Inv.list_inj (I : Inv X pins σ H s) (h : SqL X.K H a xs) (h' : SqL X.K H a ys) : xs = ys := by
  obtain ⟨its, r, ⟨o, n, e, _, _, d⟩, _⟩ := I.list h
  obtain ⟨its', r', ⟨o', n', e', _, _, d'⟩, _⟩ := I.list h'
  rw [e] at e'; cases e'
  rw [d] at d'
  injection d' with d1 _
  have : its = its' := by simpa using congrArg Array.toList d1
  subst this
  exact r.inj r'
end

/-! ### another wish about exceptions -/
abbrev Cx.wish (X : Cx) (E : Value → Shared → Prop) : Cx := { X with xe := E }
/-- no exception leaves -/
abbrev Cx.nox (X : Cx) : Cx := X.wish fun _ _ => False
theorem Cx.Ok.wish {X : Cx} (ok : X.Ok) (E : Value → Shared → Prop) : (X.wish E).Ok :=
  ⟨ok.mod, ok.kind, ok.glob, ok.blt, ok.above, ok.inj, ok.has, ok.cab, ok.hd, ok.frames, ok.stk, ok.exf, ok.bs, ok.bsz, ok.noex, ok.exfs, ok.funs, ok.frf⟩
theorem Cx.Ok.unwish {X : Cx} {E : Value → Shared → Prop} (ok : (X.wish E).Ok) : X.Ok :=
  ⟨ok.mod, ok.kind, ok.glob, ok.blt, ok.above, ok.inj, ok.has, ok.cab, ok.hd, ok.frames, ok.stk, ok.exf, ok.bs, ok.bsz, ok.noex, ok.exfs, ok.funs, ok.frf⟩
section
variable {X : Cx} {pins : List (Addr × Obj)} {σ : St} {H : Hp} {s : Shared} {E : Value → Shared → Prop}
theorem Inv.wish (I : Inv X pins σ H s) (E : Value → Shared → Prop) : Inv (X.wish E) pins σ H s := ⟨I.ok.wish E, I.os, I.bare, I.base, I.loc, I.cell, I.free, I.freeC, I.pin, I.hok, I.len⟩
theorem Inv.unwish (I : Inv (X.wish E) pins σ H s) : Inv X pins σ H s := ⟨I.ok.unwish, I.os, I.bare, I.base, I.loc, I.cell, I.free, I.freeC, I.pin, I.hok, I.len⟩
theorem SP.unwish {D : Ends} {f : Flow} {s' : Shared} (h : SP (X.wish E) pins D f s') : SP X pins D f s' := by
  cases f with
  | next => obtain ⟨σ', H', I, q⟩ := h; exact ⟨σ', H', I.unwish, q⟩
  | brk => obtain ⟨σ', H', I, q⟩ := h; exact ⟨σ', H', I.unwish, q⟩
  | cont => obtain ⟨σ', H', I, q⟩ := h; exact ⟨σ', H', I.unwish, q⟩
  | ret u => obtain ⟨v, σ', H', I, r, q⟩ := h; exact ⟨v, σ', H', I.unwish, r, q⟩
theorem PE.nox {e : Expr} {t : TE} (h : PE X.nox e t) : PE X e t := fun pins s σ H Q I hw =>
  wpAny_mono (h pins s σ H Q (I.wish _) hw) (fun _ _ ⟨v, H', I', r, q⟩ => ⟨v, H', I'.unwish, r, q⟩) fun _ _ z => False.elim z
theorem PT.nox {e : Expr} {t : TT} (h : PT X.nox e t) : PT X e t := fun pins s σ H Q I hw =>
  wpAny_mono (h pins s σ H Q (I.wish _) hw) (fun _ _ ⟨H', I', q⟩ => ⟨H', I'.unwish, q⟩) fun _ _ z => False.elim z
theorem PSs.nox {st : List Stmt} {t : TS} (h : PSs X.nox st t) : PSs X st t := fun pins s σ H D I hw =>
  wpAny_mono (h pins s σ H D (I.wish _) hw) (fun _ _ q => q.unwish) fun _ _ z => False.elim z
end

/-! ### blocks and small statements -/
section
variable {X : Cx} {st : Stmt} {rest : List Stmt} {t u : TS} {e : Expr} {te : TE} {pos : Pos}
def tNext : TS := fun D σ H => D.nx σ H
def tSeq (t u : TS) : TS := fun D σ H => t { D with nx := u D } σ H
theorem pss_nil : PSs X [] tNext := fun _ _ σ H _ I h => wpAny_execs_nil ⟨σ, H, I, h⟩
theorem pss_cons (h1 : PS X st t) (h2 : PSs X rest u) : PSs X (st :: rest) (tSeq t u) := by
  intro pins s σ H D I h
  refine wpAny_execs_cons (thn (h1 pins s σ H { D with nx := u D } I h) fun f s1 q => ?_)
  cases f with
  | next =>
    obtain ⟨σ', H', I', q⟩ := q
    exact h2 pins s1 σ' H' D I' q
  | ret v => exact q
  | brk => exact q
  | cont => exact q
theorem pss_one (h1 : PS X st t) : PSs X [st] t := by
  intro pins s σ H D I h
  refine wpAny_execs_cons (thn (h1 pins s σ H D I h) fun f s1 q => ?_)
  cases f with
  | next => exact wpAny_execs_nil q
  | ret v => exact q
  | brk => exact q
  | cont => exact q
def tBreak : TS := fun D σ H => D.bk σ H
def tCont : TS := fun D σ H => D.ct σ H
/-- in a def's body nothing is shown -/
theorem Inv.quiet {pins : List (Addr × Obj)} {σ : St} {H : Hp} {s : Shared} (I : Inv X pins σ H s) : interactive X.env = false := by simp [interactive, I.ok.kind]
/-- an expression whose value is dropped -/
def tDrop (te : TE) : TS := fun D σ H => te σ H fun _ H1 => D.nx σ H1
theorem ps_expr (he : PE X e te) (hs : swapsWith e none pos.line X.env = pure false := by rfl) : PS X (.Expr e pos) (tDrop te) := by
  intro pins s σ H D I h
  exact wpAny_Expr_any (thn (he pins s σ H _ I h) fun v s1 ⟨x, H1, I1, r1, q1⟩ => ⟨σ, H1, I1, q1⟩) I.quiet hs
def tRet (te : TE) : TS := fun D σ H => te σ H D.rt
theorem ps_ret (he : PE X e te) : PS X (.Return (some e) pos) (tRet te) := by
  intro pins s σ H D I h
  exact wpAny_Return_some (thn (he pins s σ H _ I h) fun v s1 ⟨x, H1, I1, r1, q1⟩ => ⟨x, σ, H1, I1, r1, q1⟩)
def tRetN : TS := fun D _ H => D.rt .non H
def tIfS (c : TT) (t u : TS) : TS := fun D σ H => c σ H fun b H1 => if b = true then t D σ H1 else u D σ H1
theorem ps_if {c : Expr} {a b : List Stmt} {tc : TT} (hc : PT X c tc) (ha : PSs X a t) (hb : PSs X b u) : PS X (.If c a b pos) (tIfS tc t u) := by
  intro pins s σ H D I h
  refine wpAny_If (thn (hc pins s σ H _ I h) fun d s1 ⟨H1, I1, q1⟩ => ?_)
  cases d with
  | true => exact ha pins s1 σ H1 D I1 q1
  | false => exact hb pins s1 σ H1 D I1 q1
/-- code that the proof never comes to -/
def tNever : TS := fun _ _ _ => False
end

/-! ### targets -/
abbrev TG := V → St → Hp → (St → Hp → Prop) → Prop
abbrev TGs := List V → St → Hp → (St → Hp → Prop) → Prop
def PG (X : Cx) (target : Expr) (t : TG) : Prop :=
  ∀ (pins : List (Addr × Obj)) (s : Shared) (σ : St) (H : Hp) (v : V) (u : Value) (Q : St → Hp → Prop), Inv X pins σ H s → RelV v u → t v σ H Q →
    wpAny (model X.prog X.w) X.A (assign target X.env u) (fun _ s' => ∃ σ' H', Inv X pins σ' H' s' ∧ Q σ' H') X.xe s
/-- several targets, one after another -/
def PGs (X : Cx) (ts : List Expr) (t : TGs) : Prop :=
  ∀ (pins : List (Addr × Obj)) (s : Shared) (σ : St) (H : Hp) (vs : List V) (us : List Value) (Q : St → Hp → Prop), Inv X pins σ H s → Vals vs us → t vs σ H Q →
    wpAny (model X.prog X.w) X.A (assignInOrder ((assignEach ts X.env).map (·.2)) us) (fun _ s' => ∃ σ' H', Inv X pins σ' H' s' ∧ Q σ' H') X.xe s
/-- o[i] = v, by values -/
abbrev TSet := V → V → V → Hp → (Hp → Prop) → Prop
def PSet (X : Cx) (t : TSet) : Prop :=
  ∀ (pins : List (Addr × Obj)) (s : Shared) (σ : St) (H : Hp) (o i v : V) (ov iv u : Value) (Q : Hp → Prop), Inv X pins σ H s → RelV o ov → RelV i iv → RelV v u → t o i v H Q →
    wpAny (model X.prog X.w) X.A (setItem ov iv u) (fun _ s' => ∃ H', Inv X pins σ H' s' ∧ Q H') X.xe s
/-- a op= b, by values -/
abbrev TIp := V → V → Hp → VK → Prop
def PIp (X : Cx) (op : Operator) (t : TIp) : Prop :=
  ∀ (pins : List (Addr × Obj)) (s : Shared) (σ : St) (H : Hp) (x y : V) (v u : Value) (Q : VK), Inv X pins σ H s → RelV x v → RelV y u → t x y H Q →
    wpAny (model X.prog X.w) X.A (inplaceOp op v u) (EP X pins σ Q) X.xe s
section
variable {X : Cx} {pos : Pos}
def gName (i : Nat) : TG := fun v σ H Q => Q (σ.set i (some v)) H
theorem pg_name {i : Nat} {x : Str} (hN : X.N.Nodup) (hi : X.N[i]? = some x) (hx : Loc X.env.scope x) (hf : X.fn x = true ∨ X.env.scope.names.lookup x = some .local := by first | exact .inl rfl | exact .inr rfl | assumption) : PG X (.Name x pos) (gName i) := by
  intro pins s σ H v u Q I r h
  exact wpAny_assign_Name (store_ok I hN hi hx r (fun s' I' => ⟨_, H, I', h⟩) hf)
def gNil : TGs := fun vs σ H Q => vs = [] ∧ Q σ H
def gCons (t : TG) (u : TGs) : TGs := fun vs σ H Q => ∃ v r, vs = v :: r ∧ t v σ H fun σ' H' => u r σ' H' Q
/-- (a, b, ..) = a tuple of that length -/
def gTup (K : PySem.W.Frag) (n : Nat) (t : TGs) : TG := fun v σ H Q => ∃ a xs, v = .ref a ∧ SqT K H a xs ∧ xs.length = n ∧ t xs σ H Q
/-- o[i] = .. -/
def gSub (to ti : TE) (t : TSet) : TG := fun v σ H Q => to σ H fun o H1 => ti σ H1 fun i H2 => t o i v H2 fun H3 => Q σ H3
/-- target = value -/
def tAsg (te : TE) (g : TG) : TS := fun D σ H => te σ H fun x H1 => g x σ H1 D.nx
/-- name = value -/
theorem ps_set {i : Nat} {x : Str} {e : Expr} {te : TE} {pos' : Pos} (hN : X.N.Nodup) (hi : X.N[i]? = some x) (hx : Loc X.env.scope x) (he : PE X e te) (hs : swapsWith e (some (.Name x pos')) pos.line X.env = pure false := by rfl) (hf : X.fn x = true ∨ X.env.scope.names.lookup x = some .local := by first | exact .inl rfl | exact .inr rfl | assumption) :
    PS X (.Assign [.Name x pos'] e pos) (tAsg te (gName i)) := by
  intro pins s σ H D I h
  refine wpAny_Assign_Name (thn (he pins s σ H _ I h) fun v s1 ⟨y, H1, I1, r1, q1⟩ => ?_) hs
  exact store_ok I1 hN hi hx r1 (fun s2 I2 => ⟨_, H1, I2, q1⟩) hf
/-- a, b = x, y with plain local names: stored from the right; the pair itself is not tracked (the opening rows as in PyProof/Rows/TupAssign.lean:23) -/
def tPar (i j : Nat) (ta : TA) : TS := fun D σ H => ta σ H fun vs H1 => ∃ v w, vs = [v, w] ∧ D.nx ((σ.set i (some v)).set j (some w)) H1
/-- name op= e -/
def tAug (i : Nat) (te : TE) (ti : TIp) : TS := fun D σ H => ∃ x, σ[i]? = some (some x) ∧ te σ H fun y H1 => ti x y H1 fun z H2 => D.nx (σ.set i (some z)) H2
/-- o[i] op= e -/
def tAugS (to ti te : TE) (tget : V → V → Hp → VK → Prop) (tip : TIp) (tset : TSet) : TS := fun D σ H => to σ H fun o H1 => ti σ H1 fun i H2 => tget o i H2 fun x H3 => te σ H3 fun y H4 => tip x y H4 fun z H5 => tset o i z H5 fun H6 => D.nx σ H6
/-- o[i], by values -/
def PGet (X : Cx) (t : V → V → Hp → VK → Prop) : Prop :=
  ∀ (pins : List (Addr × Obj)) (s : Shared) (σ : St) (H : Hp) (o i : V) (ov iv : Value) (Q : VK), Inv X pins σ H s → RelV o ov → RelV i iv → t o i H Q →
    wpAny (model X.prog X.w) X.A (getItem ov iv) (EP X pins σ Q) X.xe s
/-- ints -/
def ipI (f : Int → Int → Int) : TIp := fun x y H Q => ∃ i j, x = .int i ∧ y = .int j ∧ Q (.int (f i j)) H
end

/-! ### while -/
section
variable {X : Cx} {pos : Pos}
/-- the invariant W with its measure -/
def tWhile (c : TT) (tb : TS) : TS := fun D σ H => ∃ W : Nat → St → Hp → Prop, (∃ m, W m σ H) ∧ ∀ m σ H, W m σ H →
  c σ H fun b H1 => if b = true then ∃ N : St → Hp → Prop, (∀ σ' H', N σ' H' → ∃ m', m' < m ∧ W m' σ' H') ∧ tb { D with nx := N, ct := N, bk := D.nx } σ H1 else D.nx σ H1
end

/-! ### what a loop or a comprehension walks -/
/-- at turn i: it yields x (the heap may grow), or it stops -/
structure It where
  go : Nat → Hp → Prop
  yld : Nat → Hp → V → Hp → Prop
  stop : Nat → Hp → Prop
/-- the iterator's own objects may turn: they are not the frame's, not pinned, younger than the entry (or a comprehension's own) -/
def FpOk (X : Cx) (pins : List (Addr × Obj)) (H : Hp) (b : Addr) : Prop :=
  H b = none ∧ b ≠ X.env.locals ∧ b ∉ X.fs ∧ (b ∈ X.ex ∨ X.s₀.heap.objs.size ≤ b) ∧ (∀ x c, X.env.cells.lookup x = some c → c ≠ b) ∧ ∀ p ∈ X.pn ++ pins, p.1 ≠ b
theorem Inv.fpOk {X : Cx} {pins : List (Addr × Obj)} {σ : St} {H H' : Hp} {s : Shared} {b : Addr} (I : Inv X pins σ H s) (hb : s.heap.objs.size ≤ b) (hn : H' b = none) : FpOk X pins H' b := by
  refine ⟨hn, Nat.ne_of_gt (Nat.lt_of_lt_of_le I.lt hb), I.nofs hb, .inr (Nat.le_trans I.sz hb), fun x c e z => ?_, fun p hp z => ?_⟩
  · obtain ⟨v, q⟩ := I.cell x c e
    exact absurd (Nat.lt_of_lt_of_le q.lt (by rw [z]; exact hb)) (Nat.lt_irrefl _)
  · exact absurd (Nat.lt_of_lt_of_le (Heap.lt_size (I.pin p hp).1) (by rw [z]; exact hb)) (Nat.lt_irrefl _)
structure Turn (P : Program) (w : World) (K : PySem.W.Frag) (tg : Expr) (J : It) (fp : List Addr) (it : Addr) (tn : Nat → Heap → Prop) : Prop where
  mem : it ∈ fp
  obj : ∀ i h, tn i h → ∀ b ∈ fp, ∃ o, h.get? b = some o ∧ ∀ v, o.data ≠ .cell v
  keep : ∀ i h h', tn i h → (∀ b ∈ fp, ∀ o, h.get? b = some o → h'.get? b = some o) → tn i h'
  item : ∀ (X : Cx), X.prog = P → X.w = w → X.K = K → X.calm = true → ∀ (i : Nat) (pins : List (Addr × Obj)) (s : Shared) (σ : St) (H : Hp) (E : Value → Shared → Prop), Inv X pins σ H s → (∀ b ∈ fp, FpOk X pins H b) → tn i s.heap → J.go i H →
    wpAny (model P w) X.A (pyNext (.ref it)) (fun r s1 => ∃ u, r = some u ∧
      wpAny (model P w) X.A (letOwnedTupleGo tg (.ref it) u) (fun _ s2 => ∃ x H', Inv X pins σ H' s2 ∧ RelV x u ∧ J.yld i H x H' ∧ tn (i + 1) s2.heap ∧ ∀ b ∈ fp, H' b = none) E s1) E s
  done : ∀ (X : Cx), X.prog = P → X.w = w → X.K = K → X.calm = true → ∀ (i : Nat) (pins : List (Addr × Obj)) (s : Shared) (σ : St) (H : Hp) (E : Value → Shared → Prop), Inv X pins σ H s → (∀ b ∈ fp, FpOk X pins H b) → tn i s.heap → J.stop i H →
    wpAny (model P w) X.A (pyNext (.ref it)) (fun r s1 => r = none ∧ Inv X pins σ H s1) E s
  self : ∀ (A : Around) (i : Nat) (s : Shared) (Q : Value → Shared → Prop) (E : Value → Shared → Prop), tn i s.heap → Q (.ref it) s → wpAny (model P w) A (pyIter (.ref it)) Q E s
abbrev TI := St → Hp → (It → Hp → Prop) → Prop
/-- an iterator has come -/
def PIE (X : Cx) (pins : List (Addr × Obj)) (σ : St) (tg : Expr) (R : It → Hp → Prop) (itv : Value) (s2 : Shared) : Prop :=
  ∃ (it : Addr) (fp : List Addr) (tn : Nat → Heap → Prop) (J : It) (H' : Hp), itv = .ref it ∧ Inv X pins σ H' s2 ∧ Turn X.prog X.w X.K tg J fp it tn ∧ tn 0 s2.heap ∧ (∀ b ∈ fp, FpOk X pins H' b) ∧ R J H'
def PI (X : Cx) (tg iter : Expr) (wi : TI) : Prop :=
  ∀ (pins : List (Addr × Obj)) (s : Shared) (σ : St) (H : Hp) (R : It → Hp → Prop), Inv X pins σ H s → wi σ H R →
    wpAny (model X.prog X.w) X.A (eval iter X.env) (fun v s1 => wpAny (model X.prog X.w) X.A (pyIter v) (PIE X pins σ tg R) X.xe s1) X.xe s

/-- the step ahead of the store is nothing for an iterator that keeps no tuple -/
theorem go_of {M : Model} {A : Around} {E : Value → Shared → Prop} {s : Shared} {tg : Expr} {it : Addr} {u : Value} {o : Obj} {n : String} {vs : Array Value} {Q : Unit → Shared → Prop} (ho : s.heap.get? it = some o) (hc : o.cls = .type n) (hd : o.data = .fields vs)
    (hn : ["enumerate", "zip", "dict_itemiterator", "dict_reverseitemiterator", "odict_iterator", "itertools.zip_longest", "itertools.pairwise"].contains n = false) (hQ : Q () s) : wpAny M A (letOwnedTupleGo tg (.ref it) u) Q E s := by
  unfold letOwnedTupleGo
  cases tg <;> first
    | exact wpAny_pure hQ
    | (cases u <;> first
        | exact wpAny_pure hQ
        | (refine wpAny_bind (wpAny_load ho ?_)
           rw [hc, hd]
           show wpAny M A (if (["enumerate", "zip", "dict_itemiterator", "dict_reverseitemiterator", "odict_iterator", "itertools.zip_longest", "itertools.pairwise"].contains n && vs[0]? == some (rawInt _)) = true then _ else _) Q E s
           rw [if_neg (by intro h; rw [hn, Bool.false_and] at h; cases h)]
           exact wpAny_pure hQ))

/-- the list at a, as it stands at each turn (a loop may append to it) -/
def Itl (K : PySem.W.Frag) (a : Addr) : It :=
  ⟨fun i H => ∃ xs x, SqL K H a xs ∧ xs[i]? = some x, fun i H x H' => H' = H ∧ ∀ xs, SqL K H a xs → xs[i]? = some x, fun i H => ∃ xs, SqL K H a xs ∧ xs.length ≤ i⟩
def Itt (K : PySem.W.Frag) (a : Addr) : It :=
  ⟨fun i H => ∃ xs x, SqT K H a xs ∧ xs[i]? = some x, fun i H x H' => H' = H ∧ ∀ xs, SqT K H a xs → xs[i]? = some x, fun i H => ∃ xs, SqT K H a xs ∧ xs.length ≤ i⟩
/-- lo, lo + 1, .. (n of them) -/
def Itr (lo : Int) (n : Nat) : It := ⟨fun i _ => i < n, fun i H x H' => H' = H ∧ x = .int (lo + i), fun i _ => n ≤ i⟩
theorem turn_list {P : Program} {w : World} {K : PySem.W.Frag} {tg : Expr} (a it : Addr) : Turn P w K tg (Itl K a) [it] it (fun i h => h.IsListIter it a i) where
  mem := by simp
  obj := fun i h st b hb => by
    have e : b = it := by simpa using hb
    subst e
    obtain ⟨o, e, c, d⟩ := st
    exact ⟨o, e, fun v z => by rw [d] at z; cases z⟩
  keep := fun i h h' st k => st.at fun o e => k it (by simp) o e
  item := by
    intro X hP hw hK hc i pins s σ H E I hf st hg
    subst hP hw hK
    obtain ⟨xs, x, hq, hx⟩ := hg
    obtain ⟨its, rv, p, hz⟩ := I.list hq
    obtain ⟨u, hu, ru⟩ := rv.get hx
    obtain ⟨f0, f1, f2, f3, f4, f5⟩ := hf it (by simp)
    refine wpAny_pyNext_list_item st p.isList (x := u) (by simpa using hu) fun h' st' sb => ?_
    have I1 : Inv X pins σ H { s with heap := h' } := I.turned (t' := s.toks) (fun b o hb e => (sb.2 b hb).trans e) f0 f1 f3 f4 f5
    obtain ⟨o, e, c, d⟩ := id st'
    exact ⟨u, rfl, go_of (s := { s with heap := h' }) e c d (by decide) ⟨x, H, I1, ru, ⟨rfl, fun ys hy => by rw [I.list_inj hy hq]; exact hx⟩, st', fun b hb => (hf b hb).1⟩⟩
  done := by
    intro X hP hw hK hc i pins s σ H E I hf st hg
    subst hP hw hK
    obtain ⟨xs, hq, hx⟩ := hg
    obtain ⟨its, rv, p, hz⟩ := I.list hq
    obtain ⟨f0, f1, f2, f3, f4, f5⟩ := hf it (by simp)
    have hl := rv.length
    exact wpAny_pyNext_list_end (I.ok.hd hc) st p.isList (by simp; omega) fun h' eb => ⟨rfl, I.turned (t' := s.toks) (fun b o hb e => eb b o hb e) f0 f1 f3 f4 f5⟩
  self := fun _ _ _ _ _ st h => wpAny_pyIter_listiter st h
theorem turn_range {P : Program} {w : World} {K : PySem.W.Frag} {tg : Expr} (it : Addr) (lo : Int) (n : Nat) : Turn P w K tg (Itr lo n) [it] it (fun i h => IsRangeIter h it (lo + (i : Nat) * 1) ((n : Int) - (i : Nat)) 1) where
  mem := by simp
  obj := fun i h st b hb => by
    have e : b = it := by simpa using hb
    subst e
    exact ⟨_, st, fun v z => by
      have z' : Data.fields _ = Data.cell v := z
      cases z'⟩
  keep := fun i h h' st k => k it (by simp) _ st
  item := by
    intro X hP hw hK hc i pins s σ H E I hf st hg
    subst hP hw hK
    obtain ⟨f0, f1, f2, f3, f4, f5⟩ := hf it (by simp)
    have W := Walks.range (prog := X.prog) (w := X.w) (I.ok.hd hc) it lo 1 n
    refine W.item i s _ _ hg st fun v h' tk hv st' kk => ?_
    obtain ⟨t, rfl⟩ := hv
    have I1 : Inv X pins σ H { s with heap := h', toks := tk } := I.turned (fun b o hb e => kk b o (by simpa using hb) e) f0 f1 f3 f4 f5
    refine ⟨_, rfl, go_of (s := { s with heap := h', toks := tk }) (n := "range_iterator") st' rfl rfl (by decide) ⟨.int (lo + i), H, I1, ⟨t, ?_⟩, ⟨rfl, rfl⟩, st', fun b hb => (hf b hb).1⟩⟩
    rw [Int.mul_one]
  done := by
    intro X hP hw hK hc i pins s σ H E I hf st hg
    subst hP hw hK
    obtain ⟨f0, f1, f2, f3, f4, f5⟩ := hf it (by simp)
    exact wpAny_pyNext_range_end (I.ok.hd hc) st (by have : n ≤ i := hg; omega) fun h' eb => ⟨rfl, I.turned (t' := s.toks) (fun b o hb e => eb b o hb e) f0 f1 f3 f4 f5⟩
  self := fun _ _ _ _ _ st h => wpAny_pyIter_rangeiter st h
end L2

namespace L2
open PySem PySem.Spec PyProof.Rows
section
variable {X : Cx} {tg : Expr}
def iList (K : PySem.W.Frag) (tl : TE) : TI := fun σ H R => tl σ H fun x H1 => ∃ a, x = .ref a ∧ (∃ xs, SqL K H1 a xs) ∧ R (Itl K a) H1
def iTup (K : PySem.W.Frag) (tl : TE) : TI := fun σ H R => tl σ H fun x H1 => ∃ a, x = .ref a ∧ (∃ xs, SqT K H1 a xs) ∧ R (Itt K a) H1
theorem pi_list {l : Expr} {tl : TE} (hl : PE X l tl) : PI X tg l (iList X.K tl) := by
  intro pins s σ H R I h
  refine thn (hl pins s σ H _ I h) fun v s1 ⟨x, H1, I1, r1, q1⟩ => ?_
  obtain ⟨a, e, ⟨xs, hq⟩, q⟩ := q1
  subst e
  cases r1
  obtain ⟨its, rv, p, hz⟩ := I1.list hq
  refine wpAny_pyIter_list p.isList ?_
  refine ⟨s1.heap.objs.size, [s1.heap.objs.size], _, _, H1, rfl, I1.kept (t' := s1.toks) fun b o e => Heap.get?_push_of_some _ e, turn_list a _, ⟨_, Heap.get?_push_size _ rfl, rfl, rfl⟩, fun b hb => ?_, q⟩
  have e : b = s1.heap.objs.size := by simpa using hb
  subst e
  exact I1.fpOk (Nat.le_refl _) (I1.hok.fresh (Nat.le_refl _))
/-- a range object just made, walked -/
theorem range_it {pins : List (Addr × Obj)} {σ : St} {H : Hp} {s : Shared} {R : It → Hp → Prop} {E : Value → Shared → Prop} {lo hi : Int} {t u v : Tok} {tk : Nat} (I : Inv X pins σ H s) (h1 : -(2 ^ 62) ≤ lo) (h2 : lo < 2 ^ 62) (h3 : -(2 ^ 62) ≤ hi) (h4 : hi < 2 ^ 62)
    (q : R (Itr lo (hi - lo).toNat) H) : wpAny (model X.prog X.w) X.A (pyIter (.ref s.heap.objs.size)) (PIE X pins σ tg R) E { s with heap := s.heap.push { cls := .type "range", data := .fields #[.int lo t, .int hi u, .int 1 v] }, toks := tk } := by
  refine wpAny_pyIter_range (IsRange.new ..) (small_one h1 h2 h3 h4) ?_
  have I1 : Inv X pins σ H { s with heap := s.heap.push { cls := .type "range", data := .fields #[.int lo t, .int hi u, .int 1 v] }, toks := tk } := I.kept fun b o e => Heap.get?_push_of_some _ e
  refine ⟨(s.heap.push { cls := .type "range", data := .fields #[.int lo t, .int hi u, .int 1 v] }).objs.size, [(s.heap.push { cls := .type "range", data := .fields #[.int lo t, .int hi u, .int 1 v] }).objs.size], _, _, H, rfl,
    I1.kept (t' := tk) fun b o e => Heap.get?_push_of_some _ e, turn_range _ lo (hi - lo).toNat, ?_, fun b hb => ?_, q⟩
  · have e1 : lo + ((0 : Nat) : Int) * 1 = lo := by simp
    have e2 : (((hi - lo).toNat : Nat) : Int) - ((0 : Nat) : Int) = Builtin.Range.rangeSize lo hi 1 := by rw [rangeSize_one]; split <;> omega
    show IsRangeIter _ _ (lo + ((0 : Nat) : Int) * 1) ((((hi - lo).toNat : Nat) : Int) - ((0 : Nat) : Int)) 1
    rw [e1, e2]
    exact Heap.get?_push_size _ rfl
  · have e : b = (s.heap.push { cls := .type "range", data := .fields #[.int lo t, .int hi u, .int 1 v] }).objs.size := by simpa using hb
    subst e
    exact I1.fpOk (Nat.le_refl _) (I1.hok.fresh (Nat.le_refl _))
def iRng1 (ta : TA) : TI := fun σ H R => ta σ H fun vs H1 => ∃ j : Int, vs = [.int j] ∧ -(2 ^ 62) ≤ j ∧ j < 2 ^ 62 ∧ R (Itr 0 j.toNat) H1
def iRng2 (ta : TA) : TI := fun σ H R => ta σ H fun vs H1 => ∃ i j : Int, vs = [.int i, .int j] ∧ (-(2 ^ 62) ≤ i ∧ i < 2 ^ 62 ∧ -(2 ^ 62) ≤ j ∧ j < 2 ^ 62) ∧ R (Itr i (j - i).toNat) H1
theorem pi_range1 {a : Expr} {ta : TA} {p pos : Pos} (hg : Gl X "range") (hm : X.mg "range" = none) (ha : PA X [a] ta) (hs : starEach [a] X.env = [(false, eval a X.env)] := by rfl) : PI X tg (.Call (.Name "range" p) [a] [] pos) (iRng1 ta) := by
  intro pins s σ H R I h
  refine Call_ (ld_blt I hg hm boot_range (PyProof.Rows.callWith_type1 (thn (ha pos pins s σ H _ I h) fun us s1 ⟨vs, H1, I1, r1, q1⟩ => ?_) hs rfl))
  obtain ⟨j, e, q1, q2, q⟩ := q1
  subst e
  cases r1 with
  | cons r rr =>
    cases rr
    obtain ⟨t, rfl⟩ := r
    exact call_range_1 (range_it I1 (by omega) (by omega) q1 q2 (by simpa using q))
/-! ### for -/
/-- W: the invariant by the turn and a measure; N: what the body is to reach -/
def tFor (wi : TI) (g : TG) (tb : TS) : TS := fun D σ H => wi σ H fun J H1 => ∃ W : Nat → Nat → St → Hp → Prop, (∃ m, W 0 m σ H1) ∧ ∀ i m σ H, W i m σ H →
  (J.stop i H ∧ D.nx σ H) ∨ (J.go i H ∧ ∃ N : St → Hp → Prop, (∀ σ' H', N σ' H' → ∃ m', m' < m ∧ W (i + 1) m' σ' H') ∧ ∀ x H', J.yld i H x H' → g x σ H' fun σ2 H2 => tb { D with nx := N, ct := N, bk := D.nx } σ2 H2)
/-- the records at fp as they stand -/
def pinsAt (fp : List Addr) (h : Heap) : List (Addr × Obj) := fp.filterMap fun b => (h.get? b).map fun o => (b, o)
theorem mem_pinsAt {fp : List Addr} {h : Heap} {b : Addr} {o : Obj} (hb : b ∈ fp) (e : h.get? b = some o) : (b, o) ∈ pinsAt fp h := List.mem_filterMap.mpr ⟨b, hb, by rw [e]; rfl⟩
theorem of_pinsAt {fp : List Addr} {h : Heap} {p : Addr × Obj} (hp : p ∈ pinsAt fp h) : p.1 ∈ fp ∧ h.get? p.1 = some p.2 := by
  obtain ⟨b, hb, e⟩ := List.mem_filterMap.mp hp
  cases q : h.get? b with
  | none => rw [q] at e; cases e
  | some o =>
    rw [q] at e
    have e' : (b, o) = p := Option.some.inj e
    subst e'
    exact ⟨hb, q⟩
theorem Inv.pinned {pins : List (Addr × Obj)} {σ : St} {H : Hp} {s : Shared} {fp : List Addr} (I : Inv X pins σ H s) (hf : ∀ b ∈ fp, FpOk X pins H b) (ho : ∀ b ∈ fp, ∃ o, s.heap.get? b = some o ∧ ∀ v, o.data ≠ .cell v) : Inv X (pins ++ pinsAt fp s.heap) σ H s :=
  I.pins_of fun p hp => (List.mem_append.mp hp).elim (fun z => I.pin p (List.mem_append_right _ z)) fun z => by
    obtain ⟨hb, e⟩ := of_pinsAt z
    obtain ⟨f0, f1, f2, _⟩ := hf p.1 hb
    obtain ⟨o, e', d⟩ := ho p.1 hb
    rw [e] at e'; cases e'
    exact ⟨e, f0, f1, f2, d⟩
theorem Inv.unpinned {pins pl : List (Addr × Obj)} {σ : St} {H : Hp} {s : Shared} (I : Inv X (pins ++ pl) σ H s) : Inv X pins σ H s := I.pins_of fun p hp => I.pin p (List.mem_append_right _ (List.mem_append_left _ hp))
theorem ps_for {iter : Expr} {body : List Stmt} {wi : TI} {g : TG} {tb : TS} {pos : Pos} (hp : PassesOwn (model X.prog X.w) X.A X.env X.xe) (hc : X.calm = true) (hi : PI X tg iter wi) (hg : PG X tg g) (hb : PSs X body tb)
    (hs : ∀ x, foldedSetIterable iter X.env x = pure x := by intro _; rfl) : PS X (.For tg iter body [] pos) (tFor wi g tb) := by
  intro pins s σ H D I h
  refine wpAny_For (thn (hi pins s σ H _ I h) fun v s1 h1 => thn h1 fun itv s2 h2 => ?_) hs
  obtain ⟨it, fp, tn, J, H2, e, I2, T, st2, f2, W, ⟨m0, w0⟩, turn⟩ := h2
  subst e
  -- what stays true of the iterator's objects through the loop
  have stat : ∀ {H' : Hp}, (∀ b ∈ fp, H' b = none) → ∀ b ∈ fp, FpOk X pins H' b := fun hn b hb => ⟨hn b hb, (f2 b hb).2⟩
  refine codeAny_forLoop_any (fun n s' => ∃ i σ' H', Inv X pins σ' H' s' ∧ tn i s'.heap ∧ (∀ b ∈ fp, H' b = none) ∧ W i n σ' H') ?_ m0 ⟨0, σ, H2, I2, st2, fun b hb => (f2 b hb).1, w0⟩
  rintro n s3 ⟨i, σ3, H3, I3, st3, fr3, w3⟩
  rcases turn i n σ3 H3 w3 with ⟨stop, qn⟩ | ⟨go, N, hN, step⟩
  · refine wpAny_passesOwn hp (thn (T.done X rfl rfl rfl hc i pins s3 σ3 H3 X.xe I3 (stat fr3) st3 stop) fun r s4 ⟨hr, I4⟩ => ?_)
    subst hr
    exact wpAny_execs_nil ⟨σ3, H3, I4, qn⟩
  · refine wpAny_passesOwn hp (thn (T.item X rfl rfl rfl hc i pins s3 σ3 H3 X.xe I3 (stat fr3) st3 go) fun r s4 ⟨u, hr, h4⟩ => ?_)
    subst hr
    refine wpAny_passesOwn hp (thn h4 fun _ s5 ⟨x, H5, I5, r5, y5, st5, fr5⟩ => ?_)
    have I5' := I5.pinned (stat fr5) (T.obj _ _ st5)
    refine wpAny_passesOwn hp (thn (hg _ s5 σ3 H5 x u _ I5' r5 (step x H5 y5)) fun _ s6 ⟨σ6, H6, I6, q6⟩ => ?_)
    refine wpAny_passesOwn hp (thn (hb _ s6 σ6 H6 _ I6 q6) fun f s7 q7 => ?_)
    have again : ∀ {σ7 : St} {H7 : Hp}, Inv X (pins ++ pinsAt fp s5.heap) σ7 H7 s7 → N σ7 H7 → ∃ m, m < n ∧ ∃ i σ' H', Inv X pins σ' H' s7 ∧ tn i s7.heap ∧ (∀ b ∈ fp, H' b = none) ∧ W i m σ' H' := fun {σ7 H7} I7 n7 => by
      obtain ⟨m', hm, w7⟩ := hN σ7 H7 n7
      refine ⟨m', hm, i + 1, σ7, H7, I7.unpinned, T.keep _ _ _ st5 fun b hb o e => (I7.pin (b, o) (List.mem_append_right _ (List.mem_append_right _ (mem_pinsAt hb e)))).1, fun b hb => ?_, w7⟩
      obtain ⟨o, e, d⟩ := T.obj _ _ st5 b hb
      exact (I7.pin (b, o) (List.mem_append_right _ (List.mem_append_right _ (mem_pinsAt hb e)))).2.1
    cases f with
    | next => obtain ⟨σ7, H7, I7, n7⟩ := q7; exact again I7 n7
    | cont => obtain ⟨σ7, H7, I7, n7⟩ := q7; exact again I7 n7
    | brk => obtain ⟨σ7, H7, I7, q7⟩ := q7; exact ⟨σ7, H7, I7.unpinned, q7⟩
    | ret v => obtain ⟨x7, σ7, H7, I7, r7, q7⟩ := q7; exact ⟨x7, σ7, H7, I7.unpinned, r7, q7⟩
end

/-! ### the forms one uses -/
theorem for_range {lo : Int} {n : Nat} {g : TG} {tb : TS} {D : Ends} {σ : St} {H : Hp} (Pv : Nat → St → Hp → Prop) (h0 : Pv 0 σ H)
    (hs : ∀ i σ H, i < n → Pv i σ H → g (.int (lo + i)) σ H fun σ2 H2 => tb { D with nx := Pv (i + 1), ct := Pv (i + 1), bk := D.nx } σ2 H2) (hd : ∀ σ H, Pv n σ H → D.nx σ H) :
    ∃ W : Nat → Nat → St → Hp → Prop, (∃ m, W 0 m σ H) ∧ ∀ i m σ H, W i m σ H →
      ((Itr lo n).stop i H ∧ D.nx σ H) ∨ ((Itr lo n).go i H ∧ ∃ N : St → Hp → Prop, (∀ σ' H', N σ' H' → ∃ m', m' < m ∧ W (i + 1) m' σ' H') ∧ ∀ x H', (Itr lo n).yld i H x H' → g x σ H' fun σ2 H2 => tb { D with nx := N, ct := N, bk := D.nx } σ2 H2) := by
  refine ⟨fun i m σ H => m = n - i ∧ i ≤ n ∧ Pv i σ H, ⟨n, by simp, Nat.zero_le _, h0⟩, ?_⟩
  rintro i m σ H ⟨rfl, hi, p⟩
  by_cases hlt : i < n
  · refine .inr ⟨hlt, Pv (i + 1), fun σ' H' p' => ⟨n - (i + 1), by omega, rfl, hlt, p'⟩, fun x H' y => ?_⟩
    obtain ⟨e, y⟩ := y
    subst e y
    exact hs i σ _ hlt p
  · have e : i = n := by omega
    subst e
    exact .inl ⟨Nat.le_refl _, hd σ H p⟩
end L2

namespace L2
open PySem PySem.Spec PyProof.Rows

abbrev R2 := V → V → Hp → VK → Prop
/-- a two-place operation on values: f is binaryOp op, inplaceOp op or compareOp op -/
def OpR (X : Cx) (f : Value → Value → Sem Value) (r : R2) : Prop :=
  ∀ (pins : List (Addr × Obj)) (s : Shared) (σ : St) (H : Hp) (x y : V) (v u : Value) (Q : VK), Inv X pins σ H s → RelV x v → RelV y u → r x y H Q →
    wpAny (model X.prog X.w) X.A (f v u) (EP X pins σ Q) X.xe s
/-- a one-place operation -/
def UnR (X : Cx) (f : Value → Sem Value) (r : V → Hp → VK → Prop) : Prop :=
  ∀ (pins : List (Addr × Obj)) (s : Shared) (σ : St) (H : Hp) (x : V) (v : Value) (Q : VK), Inv X pins σ H s → RelV x v → r x H Q →
    wpAny (model X.prog X.w) X.A (f v) (EP X pins σ Q) X.xe s
/-- a call of a value that is known (a builtin, a type) with values -/
def CallR (X : Cx) (f : Value) (r : List V → Hp → VK → Prop) : Prop :=
  ∀ (pins : List (Addr × Obj)) (s : Shared) (σ : St) (H : Hp) (xs : List V) (us : List Value) (Q : VK), Inv X pins σ H s → Vals xs us → r xs H Q →
    wpAny (model X.prog X.w) X.A (call f us) (EP X pins σ Q) X.xe s
/-- a value's truth -/
def TruR (X : Cx) (r : V → Hp → (Bool → Hp → Prop) → Prop) : Prop :=
  ∀ (pins : List (Addr × Obj)) (s : Shared) (σ : St) (H : Hp) (x : V) (v : Value) (Q : Bool → Hp → Prop), Inv X pins σ H s → RelV x v → r x H Q →
    wpAny (model X.prog X.w) X.A (truthy v) (TP X pins σ Q) X.xe s

def tOp (r : R2) (ta tb : TE) : TE := fun σ H Q => ta σ H fun x H1 => tb σ H1 fun y H2 => r x y H2 Q
def tUn (r : V → Hp → VK → Prop) (ta : TE) : TE := fun σ H Q => ta σ H fun x H1 => r x H1 Q
/-- ints in, under C, and a value out -/
def rI (C : Int → Int → Prop) (g : Int → Int → V) : R2 := fun x y H Q => ∃ i j, x = .int i ∧ y = .int j ∧ C i j ∧ Q (g i j) H
def rI0 (g : Int → Int → V) : R2 := fun x y H Q => ∃ i j, x = .int i ∧ y = .int j ∧ Q (g i j) H
def rU (g : Int → V) : V → Hp → VK → Prop := fun x H Q => ∃ i, x = .int i ∧ Q (g i) H

section
variable {X : Cx} {a b c : Expr} {ta tb tc : TE} {pos : Pos}

theorem binT (ha : PE X a ta) (hb : PE X b tb) {pins : List (Addr × Obj)} {s : Shared} {σ : St} {H : Hp} {R : V → V → Hp → Prop} (I : Inv X pins σ H s)
    (h : ta σ H fun x H1 => tb σ H1 fun y H2 => R x y H2) {Q : Value → Shared → Prop} {f : Value → Value → Sem Value}
    (hf : ∀ v u s2 x y H2, Inv X pins σ H2 s2 → RelV x v → RelV y u → R x y H2 → wpAny (model X.prog X.w) X.A (f v u) Q X.xe s2) :
    wpAny (model X.prog X.w) X.A (eval a X.env) (fun v s₁ => wpAny (model X.prog X.w) X.A (eval b X.env) (fun u s₂ => wpAny (model X.prog X.w) X.A (f v u) Q X.xe s₂) X.xe s₁) X.xe s := by
  refine thn (ha pins s σ H _ I h) fun v s1 ⟨x, H1, I1, r1, q1⟩ => ?_
  refine thn (hb pins s1 σ H1 _ I1 q1) fun u s2 ⟨y, H2, I2, r2, q2⟩ => ?_
  exact hf v u s2 x y H2 I2 r1 r2 q2

theorem pe_op {op : Operator} {r : R2} (ho : OpR X (binaryOp op) r) (ha : PE X a ta) (hb : PE X b tb) : PE X (.BinOp a op b pos) (tOp r ta tb) := by
  intro pins s σ H Q I h
  exact wpAny_BinOp (binT ha hb I h fun v u s2 x y H2 I2 rx ry q => ho pins s2 σ H2 x y v u Q I2 rx ry q)
/-! ### ints -/
theorem opI {f : Value → Value → Sem Value} {C : Int → Int → Prop} {g : Int → Int → Int}
    (rule : ∀ (i j : Int) (t u : Tok) (s : Shared) (Q : Value → Shared → Prop) (E : Value → Shared → Prop), C i j → Q (.int (g i j) s.toks) { s with toks := s.toks + 1 } → wpAny (model X.prog X.w) X.A (f (.int i t) (.int j u)) Q E s) :
    OpR X f (rI C fun i j => .int (g i j)) := by
  intro pins s σ H x y v u Q I rx ry h
  obtain ⟨i, j, rfl, rfl, hc, q⟩ := h
  obtain ⟨t, rfl⟩ := rx
  obtain ⟨t', rfl⟩ := ry
  exact rule i j t t' s _ _ hc ⟨.int (g i j), H, I.tok _, ⟨_, rfl⟩, q⟩
theorem opI0 {f : Value → Value → Sem Value} {g : Int → Int → Int}
    (rule : ∀ (i j : Int) (t u : Tok) (s : Shared) (Q : Value → Shared → Prop) (E : Value → Shared → Prop), Q (.int (g i j) s.toks) { s with toks := s.toks + 1 } → wpAny (model X.prog X.w) X.A (f (.int i t) (.int j u)) Q E s) :
    OpR X f (rI0 fun i j => .int (g i j)) := by
  intro pins s σ H x y v u Q I rx ry h
  obtain ⟨i, j, rfl, rfl, q⟩ := h
  obtain ⟨t, rfl⟩ := rx
  obtain ⟨t', rfl⟩ := ry
  exact rule i j t t' s _ _ ⟨.int (g i j), H, I.tok _, ⟨_, rfl⟩, q⟩
theorem opB0 {f : Value → Value → Sem Value} {g : Int → Int → Bool}
    (rule : ∀ (i j : Int) (t u : Tok) (s : Shared) (Q : Value → Shared → Prop) (E : Value → Shared → Prop), Q (.bool (g i j)) s → wpAny (model X.prog X.w) X.A (f (.int i t) (.int j u)) Q E s) :
    OpR X f (rI0 fun i j => .bl (g i j)) := by
  intro pins s σ H x y v u Q I rx ry h
  obtain ⟨i, j, rfl, rfl, q⟩ := h
  obtain ⟨t, rfl⟩ := rx
  obtain ⟨t', rfl⟩ := ry
  exact rule i j t t' s _ _ ⟨.bl (g i j), H, I, rfl, q⟩

def CDiv (i j : Int) : Prop := 0 < j ∧ j < 1073741824
def CDivN (i j : Int) : Prop := j ≠ 0 ∧ j.natAbs < 1073741824
def CPow (i j : Int) : Prop := 0 ≤ j ∧ j ≤ 1000000 ∧ i.natAbs < 2 ^ 64
def CMul (i j : Int) : Prop := (-(2 ^ 64) < i ∧ i < 2 ^ 64) ∨ (-(2 ^ 64) < j ∧ j < 2 ^ 64)
theorem CMul.ok {i j : Int} (h : CMul i j) : IntMulOk i j := by
  rcases h with ⟨h1, h2⟩ | ⟨h1, h2⟩
  · exact .of_left (intBits_le_64 h1 h2)
  · exact .of_right (intBits_le_64 h1 h2)
theorem op_add : OpR X (binaryOp .Add) (rI0 fun i j => .int (i + j)) := opI0 fun _ _ _ _ _ _ _ q => add_int q
theorem op_mul : OpR X (binaryOp .Mult) (rI CMul fun i j => .int (i * j)) := opI fun _ _ _ _ _ _ _ hc q => mul_int q hc.ok
/-- // by a positive divisor -/
theorem op_fdiv : OpR X (binaryOp .FloorDiv) (rI CDiv fun i j => .int (i / j)) := opI fun i j _ _ _ _ _ hc q => by
  have h1 : (0 : Int) < j := hc.1
  have h2 : j < 1073741824 := hc.2
  exact floordiv_int (by omega) (by rw [Int.fdiv_eq_ediv_of_nonneg i (by omega)]; exact q) (.inl (PyProof.noPylong_small (by omega)))
/-- % by a positive divisor of any size -/
theorem op_mod : OpR X (binaryOp .Mod) (rI (fun _ j => 0 < j) fun i j => .int (i % j)) := opI fun i j _ _ _ _ _ hc q => by
  have h1 : (0 : Int) < j := hc
  exact mod_int' (by omega) (by rw [Int.fmod_eq_emod_of_nonneg i (by omega)]; exact q)
/-! ### bools among ints: n += (a < b) -/
end

/-! ### comparisons -/
/-- the scalars that == tells apart as data does -/
def scal : V → V → Bool
  | .non, .non => true | .non, .int _ => true | .int _, .non => true | .non, .bl _ => true | .bl _, .non => true | .non, .str _ => true | .str _, .non => true
  | .int _, .int _ => true | .bl _, .bl _ => true | .str _, .str _ => true | .byt _, .byt _ => true
  | .int _, .str _ => true | .str _, .int _ => true | .bl _, .str _ => true | .str _, .bl _ => true
  | _, _ => false
def rEq : R2 := fun x y H Q => scal x y = true ∧ Q (.bl (decide (x = y))) H
def rNe : R2 := fun x y H Q => scal x y = true ∧ Q (.bl (!decide (x = y))) H

theorem dec_int {i j : Int} : decide (V.int i = V.int j) = (i == j) := by
  rw [Bool.eq_iff_iff]
  simp
theorem dec_bl {i j : Bool} : decide (V.bl i = V.bl j) = (i == j) := by
  rw [Bool.eq_iff_iff]
  simp
theorem dec_str {i j : Str} : decide (V.str i = V.str j) = (i == j) := by
  rw [Bool.eq_iff_iff]
  simp
theorem dec_byt {i j : Array UInt8} : decide (V.byt i = V.byt j) = (i.toList == j.toList) := by
  rw [Bool.eq_iff_iff]
  cases i
  cases j
  simp

section
variable {X : Cx} {a b c : Expr} {ta tb tc : TE} {pos : Pos}
theorem fin_bl {pins : List (Addr × Obj)} {σ : St} {H : Hp} {s : Shared} {Q : VK} {k k' : Bool} (I : Inv X pins σ H s) (q : Q (.bl k) H) (e : k = k') : EP X pins σ Q (.bool k') s := by
  subst e
  exact ⟨.bl k, H, I, rfl, q⟩
theorem op_eq : OpR X (compareOp .Eq) rEq := by
  intro pins s σ H x y v u Q I rx ry h
  obtain ⟨hs, q⟩ := h
  cases x with
  | non =>
    cases rx
    cases y with
    | non => cases ry; exact PySem.EqNone.eq_none_none (fin_bl I q (by simp))
    | bl j => cases ry; exact PySem.EqNone.eq_none_bool (fin_bl I q (by simp))
    | int j => obtain ⟨t', rfl⟩ := ry; exact PySem.EqNone.eq_none_int (fin_bl I q (by simp))
    | str j => obtain ⟨t', rfl⟩ := ry; exact PySem.EqNone.eq_none_str (fin_bl I q (by simp))
    | _ => exact absurd (show false = true from hs) Bool.false_ne_true
  | bl i =>
    cases rx
    cases y with
    | non => cases ry; exact PySem.EqNone.eq_bool_none (fin_bl I q (by simp))
    | bl j => cases ry; exact eq_bool (fin_bl I q dec_bl)
    | str j => obtain ⟨t', rfl⟩ := ry; exact PySem.EqMixed.eq_bool_str (fin_bl I q (by simp))
    | _ => exact absurd (show false = true from hs) Bool.false_ne_true
  | int i =>
    obtain ⟨t, rfl⟩ := rx
    cases y with
    | non => cases ry; exact PySem.EqNone.eq_int_none (fin_bl I q (by simp))
    | int j => obtain ⟨t', rfl⟩ := ry; exact eq_int (fin_bl I q dec_int)
    | str j => obtain ⟨t', rfl⟩ := ry; exact PySem.EqMixed.eq_int_str (fin_bl I q (by simp))
    | _ => exact absurd (show false = true from hs) Bool.false_ne_true
  | str i =>
    obtain ⟨t, rfl⟩ := rx
    cases y with
    | non => cases ry; exact PySem.EqNone.eq_str_none (fin_bl I q (by simp))
    | bl j => cases ry; exact PySem.EqMixed.eq_str_bool (fin_bl I q (by simp))
    | int j => obtain ⟨t', rfl⟩ := ry; exact PySem.EqMixed.eq_str_int (fin_bl I q (by simp))
    | str j => obtain ⟨t', rfl⟩ := ry; exact eq_str (fin_bl I q dec_str)
    | _ => exact absurd (show false = true from hs) Bool.false_ne_true
  | byt i =>
    obtain ⟨t, rfl⟩ := rx
    cases y with
    | byt j => obtain ⟨t', rfl⟩ := ry; exact PySem.W.eq_bytes (fin_bl I q dec_byt)
    | _ => exact absurd (show false = true from hs) Bool.false_ne_true
  | _ => cases y <;> exact absurd (show false = true from hs) Bool.false_ne_true
theorem op_ne : OpR X (compareOp .NotEq) rNe := by
  intro pins s σ H x y v u Q I rx ry h
  obtain ⟨hs, q⟩ := h
  cases x with
  | non =>
    cases rx
    cases y with
    | non => cases ry; exact PySem.EqNone.ne_none_none (fin_bl I q (by simp))
    | bl j => cases ry; exact PySem.EqNone.ne_none_bool (fin_bl I q (by simp))
    | int j => obtain ⟨t', rfl⟩ := ry; exact PySem.EqNone.ne_none_int (fin_bl I q (by simp))
    | str j => obtain ⟨t', rfl⟩ := ry; exact PySem.EqNone.ne_none_str (fin_bl I q (by simp))
    | _ => exact absurd (show false = true from hs) Bool.false_ne_true
  | bl i =>
    cases rx
    cases y with
    | non => cases ry; exact PySem.EqNone.ne_bool_none (fin_bl I q (by simp))
    | bl j => cases ry; exact ne_bool (fin_bl I q (congrArg not dec_bl))
    | str j => obtain ⟨t', rfl⟩ := ry; exact PySem.EqMixed.ne_bool_str (fin_bl I q (by simp))
    | _ => exact absurd (show false = true from hs) Bool.false_ne_true
  | int i =>
    obtain ⟨t, rfl⟩ := rx
    cases y with
    | non => cases ry; exact PySem.EqNone.ne_int_none (fin_bl I q (by simp))
    | int j => obtain ⟨t', rfl⟩ := ry; exact ne_int (fin_bl I q (congrArg not dec_int))
    | str j => obtain ⟨t', rfl⟩ := ry; exact PySem.EqMixed.ne_int_str (fin_bl I q (by simp))
    | _ => exact absurd (show false = true from hs) Bool.false_ne_true
  | str i =>
    obtain ⟨t, rfl⟩ := rx
    cases y with
    | non => cases ry; exact PySem.EqNone.ne_str_none (fin_bl I q (by simp))
    | bl j => cases ry; exact PySem.EqMixed.ne_str_bool (fin_bl I q (by simp))
    | int j => obtain ⟨t', rfl⟩ := ry; exact PySem.EqMixed.ne_str_int (fin_bl I q (by simp))
    | str j => obtain ⟨t', rfl⟩ := ry; exact ne_str (fin_bl I q (congrArg not dec_str))
    | _ => exact absurd (show false = true from hs) Bool.false_ne_true
  | byt i =>
    obtain ⟨t, rfl⟩ := rx
    cases y with
    | byt j => obtain ⟨t', rfl⟩ := ry; exact PySem.W.ne_bytes (fin_bl I q (congrArg not dec_byt))
    | _ => exact absurd (show false = true from hs) Bool.false_ne_true
  | _ => cases y <;> exact absurd (show false = true from hs) Bool.false_ne_true

theorem op_lt : OpR X (compareOp .Lt) (rI0 fun i j => .bl (decide (i < j))) := opB0 fun _ _ _ _ _ _ _ q => lt_int q
theorem op_gt : OpR X (compareOp .Gt) (rI0 fun i j => .bl (decide (j < i))) := opB0 fun _ _ _ _ _ _ _ q => gt_int q
/-- is None, is not None: the right side a value none -/
theorem op_isN : OpR X (compareOp .Is) (fun x y H Q => y = .non ∧ Q (.bl (decide (x = .non))) H) := by
  intro pins s σ H x y v u Q I rx ry h
  obtain ⟨rfl, q⟩ := h
  cases ry
  refine is_none_gen (fin_bl I q ?_)
  cases x <;> first
    | (cases rx; rfl)
    | (obtain ⟨t, rfl⟩ := rx; rfl)
/-- is, is not of two objects that are tracked lists or instances -/
def isObj : HO → Bool
  | .lst _ => true
  | .ins _ _ _ => true
  | _ => false
/-- two rules for one operation: by cases -/
theorem OpR.or {f : Value → Value → Sem Value} {r r' : R2} (h : OpR X f r) (h' : OpR X f r') : OpR X f (fun x y H Q => r x y H Q ∨ r' x y H Q) := by
  intro pins s σ H x y v u Q I rx ry q
  rcases q with q | q
  · exact h pins s σ H x y v u Q I rx ry q
  · exact h' pins s σ H x y v u Q I rx ry q

theorem nomark (b : Expr) {op : CmpOp} (h : op ≠ .In := by decide) (h2 : op ≠ .NotIn := by decide) : behindInMarks op b = false := by
  have e1 : (op == CmpOp.In) = false := by cases op <;> first | rfl | exact absurd rfl h
  have e2 : (op == CmpOp.NotIn) = false := by cases op <;> first | rfl | exact absurd rfl h2
  cases b <;> simp [behindInMarks, e1, e2]
/-- a comparison as a value; hm: nomark b, or (for in, not in) by with_unfolding_all rfl -/
theorem pe_cmpR {op : CmpOp} {r : R2} (ho : OpR X (compareOp op) r) (ha : PE X a ta) (hb : PE X b tb) (hm : behindInMarks op b = false) : PE X (.Compare a [op] [b] pos) (tOp r ta tb) := by
  intro pins s σ H Q I h
  exact wpAny_Compare1 (binT ha hb I h fun v u s2 x y H2 I2 rx ry q => ho pins s2 σ H2 x y v u Q I2 rx ry q) hm
/-- a reading of a value as a test -/
def tTest (t : TE) : TT := fun σ H Q => t σ H fun x H' => ∃ k, x = .bl k ∧ Q k H'
theorem pt_cmpR {op : CmpOp} {r : R2} (ho : OpR X (compareOp op) r) (ha : PE X a ta) (hb : PE X b tb) (hm : behindInMarks op b = false) : PT X (.Compare a [op] [b] pos) (tTest (tOp r ta tb)) := by
  intro pins s σ H Q I h
  refine wpAny_isTrue_Compare1 (thn (ha pins s σ H _ I h) fun v s1 ⟨x, H1, I1, r1, q1⟩ => thn (hb pins s1 σ H1 _ I1 q1) fun u s2 ⟨y, H2, I2, r2, q2⟩ =>
    thn (ho pins s2 σ H2 x y v u _ I2 r1 r2 q2) fun c s3 ⟨z, H3, I3, r3, k, e, q3⟩ => ?_) hm
  subst e
  cases r3
  exact wpAny_truthy_bool ⟨H3, I3, q3⟩
/-- a op1 b op2 c -/
def tChain (r r' : R2) (ta tb tc : TE) : TE := fun σ H Q => ta σ H fun x H1 => tb σ H1 fun y H2 => r x y H2 fun z H3 => ∃ k, z = .bl k ∧
  (if k = true then tc σ H3 fun w' H4 => r' y w' H4 Q else Q (.bl false) H3)
/-! ### truth -/
/-- a value's truth by the abstract heap -/
def TruV (K : PySem.W.Frag) (x : V) (H : Hp) (k : Bool) : Prop :=
  match x with
  | .non => k = false
  | .bl b => k = b
  | .int i => k = (i != 0)
  | .str y => y.length ≤ sizeLine ∧ k = ((y.length : Int) != 0)
  | .byt y => y.size ≤ sizeLine ∧ k = ((y.size : Int) != 0)
  | .ref p => (∃ xs, SqL K H p xs ∧ k = !xs.isEmpty) ∨ (∃ xs, SqT K H p xs ∧ k = !xs.isEmpty) ∨ ∃ kvs, H p = some (.dK kvs) ∧ k = !kvs.isEmpty
  | _ => False
theorem line63 : (sizeLine : Nat) < 2 ^ 63 := by rw [sizeLine_eq]; decide
/-! ### strs and bytes -/
theorem op_add_str : OpR X (binaryOp .Add) (fun x y H Q => ∃ i j, x = .str i ∧ y = .str j ∧ i.length + j.length ≤ sizeLine ∧ Q (.str (i ++ j)) H) := by
  intro pins s σ H x y v u Q I rx ry h
  obtain ⟨i, j, rfl, rfl, hz, q⟩ := h
  obtain ⟨t, rfl⟩ := rx
  obtain ⟨t', rfl⟩ := ry
  exact add_str (fun t' tk => ⟨.str (i ++ j), H, I.tok _, ⟨_, rfl⟩, q⟩) hz
def PlainIxT (b : Expr) : Prop := ∀ o i, subscripted b false o i = operate [o, i] (getItem o i)
/-! ### scalar builtins, by CallR -/
theorem vals1 {x : V} {us : List Value} (r : Vals [x] us) : ∃ u, us = [u] ∧ RelV x u := by
  cases r with
  | cons r1 r2 => cases r2; exact ⟨_, rfl, r1⟩
theorem vals2 {x y : V} {us : List Value} (r : Vals [x, y] us) : ∃ u w', us = [u, w'] ∧ RelV x u ∧ RelV y w' := by
  cases r with
  | cons r1 r2 =>
    cases r2 with
    | cons r3 r4 => cases r4; exact ⟨_, _, rfl, r1, r3⟩
/-- len of a str, a bytes, a list, a tuple -/
def LenV (K : PySem.W.Frag) (x : V) (H : Hp) (n : Nat) : Prop :=
  match x with
  | .str y => y.length ≤ sizeLine ∧ n = y.length
  | .byt y => y.size ≤ sizeLine ∧ n = y.size
  | .ref p => (∃ xs, SqL K H p xs ∧ n = xs.length) ∨ ∃ xs, SqT K H p xs ∧ n = xs.length
  | _ => False
end
end L2

namespace L2
open PySem PySem.Spec PyProof.Rows

/-! ### an instance, its attributes a map -/
structure ObjM (h : Heap) (x dx C : Addr) (mA : Str → Option Value) : Prop where
  obj : h.get? x = some (PySem.W.instObj C dx)
  ns : h.Ns1 dx mA
  ne : dx ≠ x

theorem lookIn_ns {h : Heap} {dx : Addr} {mA : Str → Option Value} (n : h.Ns1 dx mA) : ∃ od, h.get? dx = some od ∧ ∀ name, PySem.W.lookIn name od = some (mA name) := by
  obtain ⟨o, es, ep, ho, hd, hk, _, hm⟩ := n
  refine ⟨o, ho, fun name => ?_⟩
  have e := hm name
  unfold nsFind findBy at e
  rw [← Array.find?_toList] at e
  unfold PySem.W.lookIn
  rw [hd]
  dsimp only
  split
  · rename_i y q
    rw [q] at e
    exact congrArg some e
  · rename_i q
    rw [q] at e
    have a : es.toList.any (·.refKey) = false := by
      rw [List.any_eq_false]
      intro y hy
      obtain ⟨z, t, hkey⟩ := hk y (Array.mem_toList_iff.mp hy)
      simp [DictEntry.refKey, hkey]
    have a' : ¬ es.toList.any (·.refKey) = true := by rw [a]; exact Bool.false_ne_true
    rw [if_neg a']
    exact congrArg some e

theorem ObjM.look {h : Heap} {x dx C : Addr} {mA : Str → Option Value} (I : ObjM h x dx C mA) : ∃ od, PySem.W.InstAt h x (PySem.W.instObj C dx) C (some od) ∧ ∀ name, PySem.W.lookIn name od = some (mA name) :=
  let ⟨od, ho, hl⟩ := lookIn_ns I.ns
  ⟨od, ⟨I.obj, rfl, rfl, ho⟩, hl⟩

section
variable {prog : Program} {w : World} {A : Around} {E : Value → Shared → Prop} {s : Shared} {K : PySem.W.Frag} {x dx C f : Addr} {mA : Str → Option Value} {name : Str} {v : Value}

end

/-! ### the attributes as a list of pairs -/
def putF (f : Str) (v : V) : List (Str × V) → List (Str × V)
  | [] => [(f, v)]
  | (g, x) :: r => if g = f then (g, v) :: r else (g, x) :: putF f v r
theorem RelO.some_of {v : V} {o : Option Value} (r : RelO (some v) o) : ∃ u, o = some u ∧ RelV v u := by
  cases o with
  | none => exact (show False from r).elim
  | some u => exact ⟨u, rfl, r⟩
section
variable {P : Program} {w : World} {H H' : Hp} {h h' : Heap} {a C dx : Addr} {fs fs' : List (Str × V)}
theorem ins_get (hok : HOk P w H h) (e : H a = some (.ins C dx fs)) : ∃ mA, ObjM h a dx C mA ∧ (∀ f, RelO (fs.lookup f) (mA f)) ∧ PySem.Within mA (fs.map (·.1)) ∧ fs.length ≤ 1000 ∧ H dx = some (.own a) := by
  obtain ⟨d, z, ne, ob, mA, n, r, q⟩ := (show ObjOk P w H h a (.ins C dx fs) from hok a _ e)
  exact ⟨mA, ⟨ob, n, ne⟩, r, q, z, d⟩
end

/-! ### what of the text a class must have -/
structure Cls (K : PySem.W.Frag) (C : Addr) : Prop where
  pg : PySem.W.plainGet K C Str.empty = true
  hd : PySem.W.hasDictIn K C = true
  po : PySem.W.plainOver K C = true
  sa : PySem.W.findIn K (.ref C) "__setattr__" = some (some (.builtin "object.__setattr__"))
theorem Cls.get {K : PySem.W.Frag} {C : Addr} (c : Cls K C) (f : Str) : PySem.W.plainGet K C f = true := c.pg
/-- no class of it has the name -/
def NoAttr (K : PySem.W.Frag) (C : Addr) (f : Str) : Prop := PySem.W.findIn K (.ref C) f = some none
/-- a constant of the class -/
structure Con (K : PySem.W.Frag) (C : Addr) (f : Str) (v : V) (u : Value) : Prop where
  at_ : PySem.W.findIn K (.ref C) f = some (some u)
  rel : RelV v u
  get : PySem.W.specialIn K u "__get__" = some none
  cp : PySem.W.copiedNames.contains f = false
/-- a method: a plain def of the class or of one above it -/
structure Meth (K : PySem.W.Frag) (C : Addr) (m : Str) (f : Addr) : Prop where
  at_ : PySem.W.findIn K (.ref C) m = some (some (.ref f))
  fn : PySem.W.isFn K (.ref f) = true
  kp : PySem.W.keepIn K (.ref f) = true

section
variable {X : Cx} {pins : List (Addr × Obj)} {σ : St} {H : Hp} {s : Shared} {a C dx : Addr} {fs : List (Str × V)} {f : Str} {v : V} {A : Around} {E : Value → Shared → Prop}

/-- a new instance, tracked, without attributes -/
theorem Inv.made (I : Inv X pins σ H s) : Inv X pins σ (upd (upd H s.heap.objs.size (.own (s.heap.objs.size + 1))) (s.heap.objs.size + 1) (.ins C s.heap.objs.size []))
    { s with heap := (s.heap.push PySem.W.emptyDict).push (PySem.W.instObj C s.heap.objs.size) } := by
  have e1 : (s.heap.push PySem.W.emptyDict).get? s.heap.objs.size = some PySem.W.emptyDict := Heap.get?_push_size s.heap rfl
  have e2 : ((s.heap.push PySem.W.emptyDict).push (PySem.W.instObj C s.heap.objs.size)).get? (s.heap.objs.size + 1) = some (PySem.W.instObj C s.heap.objs.size) := by
    have := Heap.get?_push_size (s.heap.push PySem.W.emptyDict) (o := PySem.W.instObj C s.heap.objs.size) rfl
    rwa [Heap.size_push] at this
  have e3 : (s.heap.push PySem.W.emptyDict).Ns s.heap.objs.size (fun _ => none) := ⟨PySem.W.emptyDict, #[], _, e1, rfl, (fun e he => absurd he (by simp)), fun _ => rfl⟩
  have I1 := I.laid (a := s.heap.objs.size) (o := .own (s.heap.objs.size + 1)) (h' := s.heap.push PySem.W.emptyDict) (t' := s.toks) (fun b u q => Heap.get?_push_of_some _ q) (Nat.le_refl _) ⟨_, e1⟩
  refine I1.laid (a := s.heap.objs.size + 1) (o := .ins C s.heap.objs.size []) (t' := s.toks) (fun b u q => Heap.get?_push_of_some _ q) (Nat.le_of_eq (Heap.size_push _ _)) ?_
  have ne : s.heap.objs.size ≠ s.heap.objs.size + 1 := Nat.ne_of_lt (Nat.lt_succ_self _)
  refine ⟨by rw [upd_ne ne, upd_same], Nat.zero_le _, ne, e2, fun _ => none, (Heap.Ns1.of_empty e3).at fun o q => Heap.get?_push_of_some _ q, fun _ => True.intro, fun y hy => absurd rfl hy⟩

end

/-! ### readings and rules -/
/-- e.f, an attribute of the instance -/
def tFld (K : PySem.W.Frag) (ta : TE) (f : Str) : TE := fun σ H Q => ta σ H fun x H1 => ∃ a C dx fs v, x = .ref a ∧ H1 a = some (.ins C dx fs) ∧ Cls K C ∧ NoAttr K C f ∧ fs.lookup f = some v ∧ Q v H1
/-- e.f, a constant of the class -/
def tCon (K : PySem.W.Frag) (ta : TE) (f : Str) : TE := fun σ H Q => ta σ H fun x H1 => ∃ a C dx fs v u, x = .ref a ∧ H1 a = some (.ins C dx fs) ∧ Cls K C ∧ Con K C f v u ∧ fs.lookup f = none ∧ Q v H1
/-- e.f = value -/
def sFld (K : PySem.W.Frag) (ta tv : TE) (f : Str) : TS := fun D σ H => tv σ H fun y H1 => ta σ H1 fun x H2 => ∃ a C dx fs, x = .ref a ∧ H2 a = some (.ins C dx fs) ∧ Cls K C ∧ NoAttr K C f ∧ fs.length < 1000 ∧
  D.nx σ (upd H2 a (.ins C dx (putF f y fs)))
/-- an augmented operator on two values -/
def InOp (X : Cx) (op : Operator) (rd : V → V → Hp → VK → Prop) : Prop :=
  ∀ (pins : List (Addr × Obj)) (s : Shared) (σ : St) (H : Hp) (x y : V) (u v : Value) (Q : VK), Inv X pins σ H s → RelV x u → RelV y v → rd x y H Q → wpAny (model X.prog X.w) X.A (inplaceOp op u v) (EP X pins σ Q) X.xe s
/-- e.f op= value -/
def sFldAug (K : PySem.W.Frag) (ta tv : TE) (rd : V → V → Hp → VK → Prop) (f : Str) : TS := fun D σ H => ta σ H fun x H1 => ∃ a C dx fs v, x = .ref a ∧ H1 a = some (.ins C dx fs) ∧ Cls K C ∧ NoAttr K C f ∧ fs.lookup f = some v ∧
  tv σ H1 fun y H2 => rd v y H2 fun z H3 => ∃ dx' fs', H3 a = some (.ins C dx' fs') ∧ fs'.length < 1000 ∧ D.nx σ (upd H3 a (.ins C dx' (putF f z fs')))

section
variable {X : Cx} {o e value : Expr} {f : Str} {pos pos' tpos : Pos} {ta tv : TE}
def rAdd : V → V → Hp → VK → Prop := fun x y H Q => ∃ i j, x = .int i ∧ y = .int j ∧ Q (.int (i + j)) H
def rSub : V → V → Hp → VK → Prop := fun x y H Q => ∃ i j, x = .int i ∧ y = .int j ∧ Q (.int (i - j)) H
end

/-! ### isinstance -/
section
variable {X : Cx} {pins : List (Addr × Obj)} {σ : St} {H : Hp} {s : Shared} {A : Around} {E : Value → Shared → Prop} {Q : Value → Shared → Prop} {c : Value} {b : Bool}
/-- the type of a value, as the fragment's deciders take it; for an instance its class -/
inductive TyOf (K : PySem.W.Frag) (H : Hp) : V → Value → Prop where
  | non : TyOf K H .non (.type "NoneType")
  | bl (x : Bool) : TyOf K H (.bl x) (.type "bool")
  | int (i : Int) : TyOf K H (.int i) (.type "int")
  | str (x : Str) : TyOf K H (.str x) (.type "str")
  | flt (x : UInt64) : TyOf K H (.flt x) (.type "float")
  | lst {a : Addr} {xs : List V} (e : H a = some (.lst xs)) : TyOf K H (.ref a) (.type "list")
  | frz {a : Addr} {o : Obj} {xs : List V} (e : H a = some (.frz o (.lst xs))) : TyOf K H (.ref a) (.type "list")
  | tup {a : Addr} {xs : List V} (e : H a = some (.tup xs)) : TyOf K H (.ref a) (.type "tuple")
  | dK {a : Addr} {kvs : List (Key × V)} (e : H a = some (.dK kvs)) : TyOf K H (.ref a) (.type "dict")
  | dT {a : Addr} {kvs : List (List Key × V)} (e : H a = some (.dT kvs)) : TyOf K H (.ref a) (.type "dict")
  | ins {a C dx : Addr} {fs : List (Str × V)} (e : H a = some (.ins C dx fs)) (cl : Cls K C) (ha : PySem.W.findIn K (.ref C) "__class__" = some (some (.builtin "object.__class__")))
      (hn : PySem.W.specialIn K (.builtin "object.__class__") "__get__" = some (some (.builtin "getset_descriptor.__get__"))) (htk : PySem.W.takesIn K (.builtin "object.__class__") = some true)
      (hm : PySem.W.mroIn K C (.type "object") = some true) : TyOf K H (.ref a) (.ref C)
/-- isinstance(x, c) for one class c, a built-in or an own one: kitOne's answer -/
theorem isinst_ok {x : V} {u t : Value} (I : Inv X pins σ H s) (rx : RelV x u) (ty : TyOf X.K H x t) (e : PySem.W.kitOne X.K t c = some b) (h : ∀ tk, Q (.bool b) { s with toks := tk }) :
    wpAny (model X.prog X.w) A (call (.builtin "isinstance") [u, c]) Q E s := by
  cases ty with
  | non => cases (show u = Value.none from rx); exact PySem.W.kia_one PySem.W.kitx_none I.kIn True.intro e (fun z => nomatch z) h
  | bl y => cases (show u = Value.bool y from rx); exact PySem.W.kia_one PySem.W.kitx_bool I.kIn True.intro e (fun z => nomatch z) h
  | int i => obtain ⟨t, q⟩ := (show ∃ t, u = Value.int i t from rx); cases q; exact PySem.W.kia_one PySem.W.kitx_int I.kIn True.intro e (fun z => nomatch z) h
  | str y => obtain ⟨t, q⟩ := (show ∃ t, u = Value.str y t from rx); cases q; exact PySem.W.kia_one PySem.W.kitx_str I.kIn True.intro e (fun z => nomatch z) h
  | flt y => obtain ⟨t, q⟩ := (show ∃ t, u = Value.float y t from rx); cases q; exact PySem.W.kia_one PySem.W.kitx_float I.kIn True.intro e (fun z => nomatch z) h
  | @lst a xs ea =>
    cases (show u = Value.ref a from rx)
    obtain ⟨_, _, n, _, h1⟩ := (show ObjOk X.prog X.w H s.heap a (.lst xs) from I.hok a _ ea)
    exact PySem.W.kia_one PySem.W.kitx_list I.kIn ⟨_, h1, rfl⟩ e (fun z => nomatch z) h
  | @frz a ob xs ea =>
    cases (show u = Value.ref a from rx)
    obtain ⟨_, _, _, n, _, h1⟩ := (show ObjOk X.prog X.w H s.heap a (.frz ob (.lst xs)) from I.hok a _ ea)
    exact PySem.W.kia_one PySem.W.kitx_list I.kIn ⟨_, h1, rfl⟩ e (fun z => nomatch z) h
  | @tup a xs ea =>
    cases (show u = Value.ref a from rx)
    obtain ⟨_, _, _, p⟩ := (show ObjOk X.prog X.w H s.heap a (.tup xs) from I.hok a _ ea)
    obtain ⟨o, h1, h2, _⟩ := p
    exact PySem.W.kia_one PySem.W.kitx_tuple I.kIn ⟨o, h1, h2⟩ e (fun z => nomatch z) h
  | @dK a kvs ea =>
    cases (show u = Value.ref a from rx)
    obtain ⟨_, _, vs, _, p⟩ := (show ObjOk X.prog X.w H s.heap a (.dK kvs) from I.hok a _ ea)
    obtain ⟨o, es, ep, h1, h2, _⟩ := p
    exact PySem.W.kia_one PySem.W.kitx_dict I.kIn ⟨o, h1, h2.1⟩ e (fun z => nomatch z) h
  | @dT a kvs ea =>
    cases (show u = Value.ref a from rx)
    obtain ⟨_, _, xs, _, o, es, ep, h1, h2, _⟩ := (show ObjOk X.prog X.w H s.heap a (.dT kvs) from I.hok a _ ea)
    exact PySem.W.kia_one PySem.W.kitx_dict I.kIn ⟨o, h1, h2.1⟩ e (fun z => nomatch z) h
  | @ins a C dx fs ea cl ha hn htk hm =>
    cases (show u = Value.ref a from rx)
    obtain ⟨mA, O, _⟩ := ins_get I.hok ea
    obtain ⟨od, J, _⟩ := O.look
    exact PySem.W.kia_one (PySem.W.kitx_own (cl.get _) cl.hd ha hn htk hm) I.kIn J e (fun z => nomatch z) h
end
end L2

namespace L2
open PySem PySem.Spec PyProof.Rows

/-! ### room -/
structure Room (k : Nat) (A : Around) : Prop where
  hd : A.handled = none
  dp : A.depth + 3 * k + 5 < recursionLimit
  un : A.units + 16 * k + 200 < cLine
theorem Room.mono {j k : Nat} {A : Around} (r : Room k A) (h : j ≤ k) : Room j A := ⟨r.hd, by have := r.dp; omega, by have := r.un; omega⟩
theorem Room.deeper {k : Nat} {A : Around} (r : Room (k + 1) A) (env : Env) : Room k (A.deeper env) :=
  ⟨r.hd, by have := r.dp; show A.depth + 1 + 3 * k + 5 < _; omega, by have := r.un; show A.units + 3 + 16 * k + 200 < _; omega⟩
theorem Room.in1 {k : Nat} {A : Around} (r : Room (k + 1) A) : Room k A.in1 :=
  ⟨r.hd, by have := r.dp; show A.depth + 3 * k + 5 < _; omega, by have := r.un; show A.units + 1 + 16 * k + 200 < _; omega⟩
theorem Room.depth {k : Nat} {A : Around} (r : Room k A) : A.depth < recursionLimit := by have := r.dp; omega
theorem Room.units {k : Nat} {A : Around} (r : Room k A) : A.units + 64 < cLine := by have := r.un; omega
/-! ### argument lists and displays -/
def tNil : TA := fun _ H Q => Q [] H
def tCons (ta : TE) (tr : TA) : TA := fun σ H Q => ta σ H fun x H1 => tr σ H1 fun xs H2 => Q (x :: xs) H2
section
variable {X : Cx} {e : Expr} {es : List Expr} {te : TE} {t : TA} {pos : Pos}
theorem pa_nil : PA X [] tNil := fun _ _ _ _ H Q I h => Calls.spliced_nil ⟨[], H, I, .nil, h⟩
theorem pa_cons (ha : PE X e te) (hr : PA X es t) (hs : starEach (e :: es) X.env = (false, eval e X.env) :: starEach es X.env := by rfl) : PA X (e :: es) (tCons te t) := by
  intro pos pins s σ H Q I h
  rw [hs]
  show wpAny _ _ (spliced ((false, eval e X.env) :: backTo pos (starEach es X.env))) _ _ s
  refine Calls.spliced_cons (thn (ha pins s σ H _ I h) fun u s1 ⟨x, H1, I1, r1, q1⟩ => ?_)
  exact thn (hr pos pins s1 σ H1 _ I1 q1) fun us s2 ⟨xs, H2, I2, r2, q2⟩ => ⟨x :: xs, H2, I2, .cons r1 r2, q2⟩

/-- a tuple, a list of written items -/
def tTup (t : TA) : TE := fun σ H Q => t σ H fun xs H1 => xs.length ≤ sizeLine ∧ ∀ p, H1 p = none → Q (.ref p) (upd H1 p (.tup xs))
def tLst (t : TA) : TE := fun σ H Q => t σ H fun xs H1 => xs.length ≤ sizeLine ∧ ∀ p, H1 p = none → Q (.ref p) (upd H1 p (.lst xs))
theorem pe_tup {x1} (h : PA X es t) : PE X (.Tuple es x1 pos) (tTup t) := by
  intro pins s σ H Q I hq
  refine wpAny_Tuple_spliced (thn (h pos pins s σ H _ I hq) fun us s1 ⟨xs, H1, I1, r, z, q⟩ => ⟨by rw [← r.length]; exact z, ?_⟩)
  have hf : H1 s1.heap.objs.size = none := I1.hok.fresh (Nat.le_refl _)
  refine ⟨.ref s1.heap.objs.size, upd H1 s1.heap.objs.size (.tup xs), I1.laid (t' := s1.toks) (fun b u e => Heap.get?_push_of_some _ e) (Nat.le_refl _) ?_, rfl, q _ hf⟩
  exact ⟨z, us, r, ⟨_, Heap.get?_push_size _ rfl, rfl, _, rfl⟩⟩
theorem pe_lst (h : PA X es t) : PE X (.List es pos) (tLst t) := by
  intro pins s σ H Q I hq
  refine wpAny_List_spliced (thn (h pos pins s σ H _ I hq) fun us s1 ⟨xs, H1, I1, r, z, q⟩ => ⟨by rw [← r.length]; exact z, ?_⟩)
  have hf : H1 s1.heap.objs.size = none := I1.hok.fresh (Nat.le_refl _)
  refine ⟨.ref s1.heap.objs.size, upd H1 s1.heap.objs.size (.lst xs), I1.laid (t' := s1.toks) (fun b u e => Heap.get?_push_of_some _ e) (Nat.le_refl _) ?_, rfl, q _ hf⟩
  exact ⟨z, us, 0, r, Heap.get?_push_size _ rfl⟩
end

/-! ### what a def promises -/
/-- a def's promise: the bound arguments in the parameters' order, the heap, the wanted end, the wanted exception -/
abbrev Sp := List V → Hp → VK → XK → Prop
/-- how an exception lies behind a call (file 08 gives it): the callers' frames, abstract heap and state ahead of the call, the wish, the exception, the state -/
abbrev CXT := List Env → Hp → Shared → XK → Value → Shared → Prop

/-- the state at a call -/
structure Env0 (P : Program) (w : World) (K : PySem.W.Frag) (mg : Str → Option Value) (base : Heap) (A : Around) (outer : List Env) (s : Shared) (H : Hp) : Prop where
  frames : A.frames = some outer
  mod : Mod K mg base
  bs : ∀ b o, base.get? b = some o → s.heap.get? b = some o ∧ H b = none
  bsz : base.objs.size ≤ s.heap.objs.size
  funs : s.heap.FunFrames base outer
  frf : ∀ b ∈ frs outer, H b = none
  hok : HOk P w H s.heap
  bare : AllBare s.gens
/-- a call's end -/
def CE (outer : List Env) (P : Program) (w : World) (H : Hp) (s : Shared) (Q : VK) (u : Value) (s' : Shared) : Prop :=
  ∃ v H', s'.os = s.os ∧ AllBare s'.gens ∧ Un (frs outer) [] H H' s.heap s'.heap ∧ HOk P w H' s'.heap ∧ RelV v u ∧ Q v H'
def CR (CX : CXT) (outer : List Env) (P : Program) (w : World) (H : Hp) (s : Shared) (Q : VK) (E : XK) (r : Result) (s' : Shared) : Prop :=
  match r with
  | .ok (.ret u) => CE outer P w H s Q u s'
  | .ok _ => False
  | .error e => CX outer H s E e s'
structure FnOk (P : Program) (w : World) (K : PySem.W.Frag) (mg : Str → Option Value) (base : Heap) (CX : CXT) (k : Nat) (f : Addr) (fd : FuncData) (ps : List Str) (sp : Sp) : Prop where
  len : ∀ vs H Q E, sp vs H Q E → vs.length = ps.length
  run : ∀ (A : Around) (outer : List Env) (s : Shared) (H : Hp) (args : Args) (us : List Value) (vs : List V) (Q : VK) (E : XK), Room k A → Env0 P w K mg base A outer s H → BindsTo s fd args (ps.zip us) → Vals vs us → sp vs H Q E →
    codeAny (model P w) A (.call (.ref f) args) (CR CX outer P w H s Q E) s
theorem FnOk.mono {P : Program} {w : World} {K : PySem.W.Frag} {mg : Str → Option Value} {base : Heap} {CX : CXT} {j k : Nat} {f : Addr} {fd : FuncData} {ps : List Str} {sp : Sp} (F : FnOk P w K mg base CX j f fd ps sp) (h : j ≤ k) :
    FnOk P w K mg base CX k f fd ps sp := ⟨F.len, fun A outer s H args us vs Q E hr => F.run A outer s H args us vs Q E (hr.mono h)⟩
/-- a weaker promise -/
theorem FnOk.imp {P : Program} {w : World} {K : PySem.W.Frag} {mg : Str → Option Value} {base : Heap} {CX : CXT} {k : Nat} {f : Addr} {fd : FuncData} {ps : List Str} {sp sp' : Sp} (F : FnOk P w K mg base CX k f fd ps sp)
    (h : ∀ vs H Q E, sp' vs H Q E → sp vs H Q E) : FnOk P w K mg base CX k f fd ps sp' :=
  ⟨fun vs H Q E q => F.len vs H Q E (h _ _ _ _ q), fun A outer s H args us vs Q E hr he hb hv hs => F.run A outer s H args us vs Q E hr he hb hv (h _ _ _ _ hs)⟩

theorem Env0.in1 {P : Program} {w : World} {K : PySem.W.Frag} {mg : Str → Option Value} {base : Heap} {A : Around} {outer : List Env} {s : Shared} {H : Hp} (e : Env0 P w K mg base A outer s H) :
    Env0 P w K mg base A.in1 outer s H := ⟨e.frames, e.mod, e.bs, e.bsz, e.funs, e.frf, e.hok, e.bare⟩

section
variable {X : Cx} {pins : List (Addr × Obj)} {σ : St} {H : Hp} {s s' : Shared}
/-- from a body: what a callee wants -/
theorem Inv.env0 (I : Inv X pins σ H s) : Env0 X.prog X.w X.K X.mg X.base X.A X.stack s H :=
  ⟨I.ok.frames, I.ok.mod, I.bs, Nat.le_trans I.ok.bsz I.sz, I.stack, I.stkFree, I.hok, I.bare⟩
/-- behind a call -/
theorem Inv.after {Q : VK} {u : Value} (I : Inv X pins σ H s) (h : CE X.stack X.prog X.w H s Q u s') : EP X pins σ Q u s' := by
  obtain ⟨v, H', os, bare, un, hok, r, q⟩ := h
  obtain ⟨hh, g, d, t, os'⟩ := s'
  obtain rfl : os' = s.os := os
  exact ⟨v, H', I.call (h' := hh) (g' := g) (d' := d) (t' := t) (ch := []) un hok bare (fun b z => absurd z (by simp)), r, q⟩
end

/-! ### calls -/
/-- f(..): the written arguments, then the defaults dvs; E: what is wanted of an exception -/
def tCall (sp : Sp) (dvs : List V) (E : XK) (t : TA) : TE := fun σ H Q => t σ H fun vs H1 => sp (vs ++ dvs) H1 Q E
/-- o.m(..) of an instance of the class at C -/
def tMeth (C : Addr) (m : Str) (sp : Sp) (dvs : List V) (E : XK) (ta : TE) (t : TA) : TE := fun σ H Q => ta σ H fun x H1 => ∃ a dx fs, x = .ref a ∧ H1 a = some (.ins C dx fs) ∧ fs.lookup m = none ∧
  t σ H1 fun vs H2 => sp (x :: (vs ++ dvs)) H2 Q E
/-- C(..): a new instance and its dict, then __init__ -/
def tMake (C : Addr) (sp : Sp) (dvs : List V) (E : XK) (t : TA) : TE := fun σ H Q => t σ H fun vs H1 => ∀ x dx, H1 x = none → H1 dx = none → dx ≠ x →
  sp (.ref x :: (vs ++ dvs)) (upd (upd H1 dx (.own x)) x (.ins C dx [])) (fun v H2 => v = .non ∧ Q (.ref x) H2) E

/-- how the parameters are bound: us the positional arguments, kw the keywords' values by name, ds the defaults that fill up -/
def Binds (K : PySem.W.Frag) (fd : FuncData) (ps : List Str) (ds : List Value) : Prop :=
  ∀ (s : Shared) (us : List Value), K.In s.heap → (us ++ ds).length = ps.length → BindsTo s fd ⟨us, []⟩ (ps.zip (us ++ ds))
/-- every parameter is given -/
theorem Binds.all {K : PySem.W.Frag} {fd : FuncData} {ps : List Str} (h : ∀ us : List Value, us.length = ps.length → bindArgs fd ⟨us, []⟩ = pure (ps.zip us)) : Binds K fd ps [] := fun s us _ hl => by
  rw [List.append_nil] at hl ⊢
  exact .of_eq (h us hl)

/-- an exception of a callee reaches what this body wants of exceptions -/
def Passes (CX : CXT) (X : Cx) (E : XK) : Prop := ∀ (pins : List (Addr × Obj)) (σ : St) (H : Hp) (s : Shared) (e : Value) (s' : Shared), Inv X pins σ H s → CX X.stack H s E e s' → X.xe e s'

section
variable {X : Cx} {CX : CXT} {k : Nat} {f C : Addr} {fd : FuncData} {ps : List Str} {sp : Sp} {dvs : List V} {ds : List Value} {E : XK} {x m : Str} {p pos apos : Pos} {e o : Expr} {es : List Expr} {ta : TE} {t : TA}

/-- the callee runs -/
theorem run_fn {pins : List (Addr × Obj)} {σ : St} {H : Hp} {s : Shared} {Q : VK} {us : List Value} {vs : List V} (F : FnOk X.prog X.w X.K X.mg X.base CX k f fd ps sp) (hr : Room k X.A) (hb : Binds X.K fd ps ds) (hd : Vals dvs ds) (hx : Passes CX X E)
    (I : Inv X pins σ H s) (r : Vals vs us) (h : sp (vs ++ dvs) H Q E) : wpAny (model X.prog X.w) X.A (call (.ref f) us) (EP X pins σ Q) X.xe s := by
  have r2 : Vals (vs ++ dvs) (us ++ ds) := r.append hd
  have hl : (us ++ ds).length = ps.length := by rw [← r2.length]; exact F.len _ _ _ _ h
  refine wpAny_call (codeAny_mono (F.run X.A X.stack s H ⟨us, []⟩ (us ++ ds) (vs ++ dvs) Q E hr I.env0 (hb s us I.kIn hl) r2 h) fun r s' hq => ?_)
  cases r with
  | error e => exact hx pins σ H s e s' I hq
  | ok fl =>
    cases fl with
    | ret u => exact I.after hq
    | next => exact False.elim hq
    | brk => exact False.elim hq
    | cont => exact False.elim hq

theorem pe_call (F : FnOk X.prog X.w X.K X.mg X.base CX k f fd ps sp) (hr : Room k X.A) (hg : Gl X x) (hm : X.mg x = some (.ref f)) (hk : PySem.W.keepIn X.K (.ref f) = true) (hb : Binds X.K fd ps ds) (hd : Vals dvs ds) (hx : Passes CX X E)
    (ha : PA X (e :: es) t) (hdb : (x == ("__debug__" : Str)) = false := by decide) (he : starEach (e :: es) X.env = (false, eval e X.env) :: starEach es X.env := by rfl) (hpl : (backTo pos (starEach es X.env)).any (·.1) = false := by rfl) :
    PE X (.Call (.Name x p) (e :: es) [] pos) (tCall sp dvs E t) := by
  intro pins s σ H Q I h
  refine wpAny_Call_Name_kw (ld_glob I hg hm ?_ hdb)
  refine PySem.W.callWith_K (h₀ := X.base) I.ok.mod.kin hk (thn (ha pos pins s σ H _ I h) fun us s1 ⟨vs, H1, I1, r, q⟩ => ⟨I1.kIn, ?_⟩) he hpl
  exact run_fn F hr hb hd hx I1 r q
/-- what a class must have to be made -/
structure Mk (K : PySem.W.Frag) (C f : Addr) : Prop where
  makes : PySem.W.makesIn K C = true
  init : PySem.W.findIn K (.ref C) "__init__" = some (some (.ref f))
  fn : PySem.W.isFn K (.ref f) = true
  kp : PySem.W.keepIn K (.ref C) = true

end

/-! ### keywords -/
/-- the values of the keywords, from the left -/
def PK (X : Cx) (kws : List Keyword) (t : TA) : Prop :=
  ∀ (pos : Pos) (pins : List (Addr × Obj)) (s : Shared) (σ : St) (H : Hp) (Q : List V → Hp → Prop), Inv X pins σ H s → t σ H Q → wpAny (model X.prog X.w) X.A (evalAll ((backToKw pos (keywordEach kws X.env)).map (·.2))) (AP X pins σ Q) X.xe s
section
variable {X : Cx} {CX : CXT} {k : Nat} {f C : Addr} {fd : FuncData} {ps ks : List Str} {sp : Sp} {E : XK} {x m : Str} {p pos apos kpos : Pos} {e o : Expr} {es : List Expr} {kws : List Keyword} {te ta : TE} {t tk : TA} {nm : Option Str}
/-- how a call with keywords binds: g puts the positional values us and the keywords' values ws (names ks) in the parameters' order, defaults among them -/
structure KBinds (K : PySem.W.Frag) (fd : FuncData) (ps ks : List Str) (g : List Value → List Value → List Value) (gV : List V → List V → List V) : Prop where
  to : ∀ (s : Shared) (us ws : List Value), K.In s.heap → (g us ws).length = ps.length → BindsTo s fd ⟨us, ks.zip ws⟩ (ps.zip (g us ws))
  rel : ∀ {vs : List V} {us : List Value} {zs : List V} {ws : List Value}, Vals vs us → Vals zs ws → Vals (gV vs zs) (g us ws)
def tCallK (sp : Sp) (gV : List V → List V → List V) (E : XK) (t tk : TA) : TE := fun σ H Q => t σ H fun vs H1 => tk σ H1 fun zs H2 => sp (gV vs zs) H2 Q E
variable {g : List Value → List Value → List Value} {gV : List V → List V → List V}
end

/-! ### a def's body keeps its promise -/
/-- names: the parameters first -/
structure FnScope (N P : List Str) (sc : Scope) : Prop where
  kind : sc.kind = .function
  co : sc.isCoroutine = false
  gen : sc.isGenerator = false
  nd : N.Nodup
  pre : N.take P.length = P
  par : ∀ x ∈ P, sc.names.lookup x = some .local ∨ sc.names.lookup x = some .cell
  nofree : ∀ y ∈ sc.names, y.2 ≠ .free

theorem bindL_out {kindOf : Str → Option NameKind} {x : Str} : ∀ {binds : List (Str × Value)} {m : Str → Option Value}, (∀ v, (x, v) ∉ binds) → bindL kindOf binds m x = m x
  | [], _, _ => rfl
  | (n, v) :: r, m, h => by
    unfold bindL
    rw [bindL_out fun w hw => h w (List.mem_cons_of_mem _ hw)]
    split
    · have : x ≠ n := by rintro rfl; exact h v List.mem_cons_self
      simp [this]
    · rfl
theorem bindC_out {kindOf : Str → Option NameKind} {x : Str} : ∀ {binds : List (Str × Value)} {m : Str → Option Value}, (∀ v, (x, v) ∉ binds) → bindC kindOf binds m x = m x
  | [], _, _ => rfl
  | (n, v) :: r, m, h => by
    unfold bindC
    rw [bindC_out fun w hw => h w (List.mem_cons_of_mem _ hw)]
    split
    · rfl
    · have : x ≠ n := by rintro rfl; exact h v List.mem_cons_self
      simp [this]
theorem bindL_get {kindOf : Str → Option NameKind} {x : Str} {v : Value} : ∀ {P : List Str} {vs : List Value} {i : Nat} {m : Str → Option Value}, P.Nodup → P[i]? = some x → vs[i]? = some v → kindOf x = some .local →
    bindL kindOf (P.zip vs) m x = some v
  | [], _, _, _, _, h, _, _ => by simp at h
  | _ :: _, [], _, _, _, _, h, _ => by simp at h
  | p :: P, w :: vs, 0, m, nd, h1, h2, hk => by
    simp at h1 h2; subst h1; subst h2
    show bindL kindOf ((p, w) :: P.zip vs) m p = _
    unfold bindL
    rw [bindL_out fun v hv => (List.nodup_cons.mp nd).1 (List.of_mem_zip hv).1, if_pos hk]
    simp
  | p :: P, w :: vs, i + 1, m, nd, h1, h2, hk => by
    show bindL kindOf ((p, w) :: P.zip vs) m x = _
    unfold bindL
    exact bindL_get (i := i) (List.nodup_cons.mp nd).2 (by simpa using h1) (by simpa using h2) hk
theorem bindC_get {kindOf : Str → Option NameKind} {x : Str} {v : Value} : ∀ {P : List Str} {vs : List Value} {i : Nat} {m : Str → Option Value}, P.Nodup → P[i]? = some x → vs[i]? = some v → kindOf x ≠ some .local →
    bindC kindOf (P.zip vs) m x = some v
  | [], _, _, _, _, h, _, _ => by simp at h
  | _ :: _, [], _, _, _, _, h, _ => by simp at h
  | p :: P, w :: vs, 0, m, nd, h1, h2, hk => by
    simp at h1 h2; subst h1; subst h2
    show bindC kindOf ((p, w) :: P.zip vs) m p = _
    unfold bindC
    rw [bindC_out fun v hv => (List.nodup_cons.mp nd).1 (List.of_mem_zip hv).1, if_neg hk]
    simp
  | p :: P, w :: vs, i + 1, m, nd, h1, h2, hk => by
    show bindC kindOf ((p, w) :: P.zip vs) m x = _
    unfold bindC
    exact bindC_get (i := i) (List.nodup_cons.mp nd).2 (by simpa using h1) (by simpa using h2) hk

/-- the names' values at the entry -/
def start (N : List Str) (vs : List V) : St := vs.map some ++ List.replicate (N.length - vs.length) none

/-- the context of a def's body, at its entry; an exception leaves the frame, then lies as CX says -/
def cxOf (CX : CXT) (P : Program) (w : World) (K : PySem.W.Frag) (mg : Str → Option Value) (base : Heap) (N : List Str) (qual : Str) (scope : Scope) (f : Addr) (cd : Value) (A : Around) (outer : List Env) (s : Shared) (H : Hp) (E : XK) : Cx where
  prog := P
  w := w
  K := K
  mg := mg
  base := base
  A := A.deeper (envOfC qual scope s.heap.objs.size f cd)
  N := N
  s₀ := s
  H₀ := H
  env := envOfC qual scope s.heap.objs.size f cd
  outer := outer
  stack := envOfC qual scope s.heap.objs.size f cd :: outer
  ex := []
  calm := true
  fn := fun _ => true
  pn := []
  xe := fun e s' => wpAny (model P w) (A.deeper (envOfC qual scope s.heap.objs.size f cd)) (leaving (envOfC qual scope s.heap.objs.size f cd) e) (fun _ s'' => CX outer H s E e s'') (fun e' s'' => CX outer H s E e' s'') s'

theorem cell_has {sc : Scope} {n : Nat} {x : Str} (h : sc.names.lookup x = some .cell) : ∃ c, (cellsFrom n sc.names []).lookup x = some c := by
  have q := PySem.W.cellsFrom_some sc.names n [] (.inl h)
  exact Option.isSome_iff_exists.mp q

theorem inv_start {CX : CXT} {P : Program} {w : World} {K : PySem.W.Frag} {mg : Str → Option Value} {base : Heap} {N ps : List Str} {qual : Str} {scope : Scope} {f : Addr} {cd : Value} {A : Around} {outer : List Env} {s s1 : Shared} {H : Hp} {E : XK} {us : List Value} {vs : List V}
    (S : FnScope N ps scope) (hd : A.handled = none) (e0 : Env0 P w K mg base A outer s H) (hl : vs.length = ps.length) (r : Vals vs us)
    (x : InCallC s s.heap.objs.size (bindL (envOfC qual scope s.heap.objs.size f cd).kindOf (ps.zip us) fun _ => none) (cellsFrom (s.heap.objs.size + 1) scope.names []) (bindC (envOfC qual scope s.heap.objs.size f cd).kindOf (ps.zip us) fun _ => none) s1) :
    Inv (cxOf CX P w K mg base N qual scope f cd A outer s H E) [] (start N vs) H s1 := by
  have hpl : ps.length ≤ N.length := by have := congrArg List.length S.pre; rw [List.length_take] at this; omega
  obtain ⟨h1, tk, rfl, hk⟩ := x.done
  have noA : ∀ b : Addr, b ∉ (cxOf CX P w K mg base N qual scope f cd A outer s H E).ex := fun b z => absurd (show b ∈ ([] : List Addr) from z) (by simp)
  refine ⟨⟨e0.mod, S.kind, rfl, rfl, Nat.le_refl _, fun y z c h1 h2 => ?_, fun y hy => ?_, fun y c _ h => ?_, fun _ => hd, Around.frames_deeper e0.frames, .inr ⟨rfl, rfl⟩, fun b z => absurd z (noA b), e0.bs, e0.bsz, fun b _ _ => noA b, fun b z => absurd z (noA b), e0.funs, e0.frf⟩,
    rfl, e0.bare, Un.kept hk, ⟨_, x.toInCall.ns, fun i y v h1 h2 h3 => ?_⟩, fun y c h => ⟨_, x.cell y c h⟩, e0.hok.fresh (Nat.le_refl _), fun y c h => ?_, fun p hp => absurd (show p ∈ ([] : List (Addr × Obj)) from hp) (by simp), e0.hok.kept hk, ?_⟩
  · exact name_of_addr x.apart (PySem.mem_of_lookup h1) (PySem.mem_of_lookup h2)
  · have hy : scope.names.lookup y = some .cell ∨ scope.names.lookup y = some .free := hy
    rcases hy with hy | hy
    · exact cell_has hy
    · exact absurd rfl (S.nofree _ (PySem.mem_of_lookup hy))
  · exact Nat.le_of_lt (x.above y c (PySem.mem_of_lookup h))
  · have hi : i < vs.length := by
      unfold start at h2
      by_cases hi : i < vs.length
      · exact hi
      · rw [List.getElem?_append_right (by simpa using hi)] at h2
        rw [List.getElem?_replicate] at h2
        split at h2 <;> cases h2
    have ha : vs[i]? = some v := by
      unfold start at h2
      rw [List.getElem?_append_left (by simpa using hi), List.getElem?_map] at h2
      cases e : vs[i]? with
      | none => rw [e] at h2; cases h2
      | some a => rw [e] at h2; cases h2; rfl
    obtain ⟨u, hu, rv⟩ := r.get ha
    have hp : ps[i]? = some y := by
      rw [← S.pre, List.getElem?_take_of_lt (by omega)]; exact h1
    have ndP : ps.Nodup := by rw [← S.pre]; exact S.nd.sublist (List.take_sublist _ _)
    refine ⟨u, rv, ?_⟩
    rcases S.par y (List.mem_of_getElem? hp) with k | k
    · exact .inl ⟨k, bindL_get ndP hp hu k⟩
    · obtain ⟨c, e⟩ := cell_has (n := s.heap.objs.size + 1) k
      refine .inr ⟨.inl k, c, e, ?_⟩
      have q := x.cell y c e
      rw [bindC_get ndP hp hu (by show scope.names.lookup y ≠ _; rw [k]; decide)] at q
      exact q
  · exact e0.hok.fresh (Nat.le_of_lt (x.above y c (PySem.mem_of_lookup h)))
  · unfold start
    show _ = N.length
    rw [List.length_append, List.length_map, List.length_replicate]
    omega

/-- THE RULE: a def (or a method) of the text, by its body. The body's reading t is chosen for each entry; it is run at the parameters' values -/
theorem fn_of {CX : CXT} {P : Program} {w : World} {K : PySem.W.Frag} {mg : Str → Option Value} {base : Heap} {k : Nat} {f : Addr} {name qual : Str} {params : Arguments} {body : List Stmt} {scope : Scope} {dV kV doc pm cdv ct oc : Value} {an od : Option Addr}
    {osl : Array (Option Value)} {N ps : List Str} {sp : Sp} (lk : K.lookup f = some ⟨oc, od, .func (PySem.W.fnOf name qual params body scope dV kV doc pm an cdv ct), osl⟩) (hcd : PySem.W.codeIn K cdv qual = true) (S : FnScope N ps scope)
    (len : ∀ vs H Q E, sp vs H Q E → vs.length = ps.length)
    (hbody : ∀ (A : Around) (outer : List Env) (s : Shared) (H : Hp) (vs : List V) (Q : VK) (E : XK), Room k (A.deeper (envOfC qual scope s.heap.objs.size f cdv)) → sp vs H Q E →
      ∃ t, PSs (cxOf CX P w K mg base N qual scope f cdv A outer s H E) body t ∧ t { nx := fun _ H' => Q .non H', rt := Q } (start N vs) H) :
    FnOk P w K mg base CX (k + 1) f (PySem.W.fnOf name qual params body scope dV kV doc pm an cdv ct) ps sp := by
  refine ⟨len, fun A outer s H args us vs Q E hr e0 hb r hsp => ?_⟩
  have hl := len _ _ _ _ hsp
  have KX : K.In s.heap := e0.mod.kin.keeps fun b o e => (e0.bs b o e).1
  have lim : s.heap.NoLimit := e0.mod.nolimit.keeps fun b o e => (e0.bs b o e).1
  have hkind : ∀ y ∈ ps.zip us, scope.names.lookup y.1 = some .local ∨ (scope.names.lookup y.1 = some .cell ∧ ((cellsFrom (s.heap.objs.size + 1) scope.names []).lookup y.1).isSome = true) := fun ⟨n, v⟩ hy => by
    rcases S.par n (List.of_mem_zip hy).1 with q | q
    · exact .inl q
    · exact .inr ⟨q, PySem.W.cellsFrom_some _ _ _ (.inl q)⟩
  refine codeAny_call_function hr.depth (KX _ _ lk) rfl S.co S.gen rfl (PySem.W.codeRec_of KX hcd) (hb _ _ _ _ ?_)
  refine wpAny_newFunctionEnv_cells S.kind hkind fun env he s1 x => ?_
  subst he
  refine ⟨lim.keeps x.toInCall.keep, codeAny_func ?_⟩
  obtain ⟨t, ht, hq⟩ := hbody A outer s H vs Q E (hr.deeper _) hsp
  have I : Inv (cxOf CX P w K mg base N qual scope f cdv A outer s H E) [] (start N vs) H s1 := inv_start S hr.hd e0 hl r x
  refine wpAny_mono (ht [] s1 (start N vs) H _ I hq) (fun fl s' hs => ?_) fun e s' hs => hs
  have fin : ∀ {σ' : St} {H' : Hp} {v : V} {u : Value}, Inv (cxOf CX P w K mg base N qual scope f cdv A outer s H E) [] σ' H' s' → RelV v u → Q v H' → CE outer P w H s Q u s' :=
    fun {σ' H' v u} J rv q => ⟨v, H', J.os, J.bare, J.base, J.hok, rv, q⟩
  cases fl with
  | ret u =>
    obtain ⟨v, σ', H', J, rv, q⟩ := hs
    exact fin J rv q
  | next =>
    obtain ⟨σ', H', J, q⟩ := hs
    exact fin (v := V.non) (u := Value.none) J rfl q
  | brk =>
    obtain ⟨_, _, _, q⟩ := hs
    exact False.elim q
  | cont =>
    obtain ⟨_, _, _, q⟩ := hs
    exact False.elim q
end L2

namespace L2
open PySem PySem.Spec PyProof.Rows
section
variable {X : Cx} {x : Str} {p pos : Pos} {e : Expr} {es : List Expr} {t : TA} {id T : String} {r : List V → Hp → VK → Prop}

def tCB (r : List V → Hp → VK → Prop) (t : TA) : TE := fun σ H Q => t σ H fun vs H1 => r vs H1 Q
/-- f(e, ..), f a built-in function -/
theorem pe_callB (hc : CallR X (.builtin id) r) (hg : Gl X x) (hm : X.mg x = none) (hv : bootBuiltins x = some (.builtin id)) (ha : PA X (e :: es) t) (hn : x ≠ "__name__" := by decide) (hdb : (x == ("__debug__" : Str)) = false := by decide)
    (he : starEach (e :: es) X.env = (false, eval e X.env) :: starEach es X.env := by rfl) (hpl : (backTo pos (starEach es X.env)).any (·.1) = false := by rfl) : PE X (.Call (.Name x p) (e :: es) [] pos) (tCB r t) := by
  intro pins s σ H Q I h
  refine wpAny_Call_Name_kw (ld_blt I hg hm hv ?_ hn hdb)
  exact PyProof.Rows.callWith_builtin1 (thn (ha pos pins s σ H _ I h) fun us s1 ⟨vs, H1, I1, r1, q1⟩ => hc pins s1 σ H1 vs us Q I1 r1 q1) he hpl
/-- T(e, ..), T a built-in type -/
theorem pe_callTy (hc : CallR X (.type T) r) (hg : Gl X x) (hm : X.mg x = none) (hv : bootBuiltins x = some (.type T)) (ha : PA X (e :: es) t) (hn : x ≠ "__name__" := by decide) (hdb : (x == ("__debug__" : Str)) = false := by decide)
    (he : starEach (e :: es) X.env = (false, eval e X.env) :: starEach es X.env := by rfl) (hpl : (backTo pos (starEach es X.env)).any (·.1) = false := by rfl) : PE X (.Call (.Name x p) (e :: es) [] pos) (tCB r t) := by
  intro pins s σ H Q I h
  refine wpAny_Call_Name_kw (ld_blt I hg hm hv ?_ hn hdb)
  exact PyProof.Rows.callWith_type1 (thn (ha pos pins s σ H _ I h) fun us s1 ⟨vs, H1, I1, r1, q1⟩ => hc pins s1 σ H1 vs us Q I1 r1 q1) he hpl
end
end L2

namespace HT
open PySem PyProof.Rows

/-- t < u of tuples of ints -/
def lexLt : List Int → List Int → Bool
  | [], [] => false
  | [], _ :: _ => true
  | _ :: _, [] => false
  | x :: xs, y :: ys => if x = y then lexLt xs ys else decide (x < y)
section
open PySem.SeqAt
open PySem.AutoSeq1 (wpAny_loadPart')
open PySem.MeetsSeq PySem.MeetsSeq2 PySem.MeetsSeq3

end

section
variable {prog : Program} {w : World} {A : Around} {E : Value → Shared → Prop} {s : Shared}

/-! ### t[a:b], not the whole -/
/-- a slice's bound as a place among n (d where it is left out) -/
def sIx (n d : Nat) : Option Int → Nat
  | none => d
  | some v => if v < 0 then (v + (n : Int)).toNat else min v.toNat n
theorem sIx_le (n d : Nat) (hd : d ≤ n) (o : Option Int) : sIx n d o ≤ n := by
  cases o with
  | none => exact hd
  | some v =>
    show (if v < 0 then (v + (n : Int)).toNat else min v.toNat n) ≤ n
    by_cases hv : v < 0
    · rw [if_pos hv]; omega
    · rw [if_neg hv]; exact Nat.min_le_right _ _
theorem clip_eq (v : Int) (n d : Nat) : (if v < 0 then max (v + (n : Int)) 0 else min v (n : Int)) = ((sIx n d (some v) : Nat) : Int) := by
  show (if v < 0 then max (v + (n : Int)) 0 else min v (n : Int)) = (((if v < 0 then (v + (n : Int)).toNat else min v.toNat n) : Nat) : Int)
  by_cases hv : v < 0
  · simp only [if_pos hv]; omega
  · simp only [if_neg hv]; omega
theorem adjust_gen (lo hi : Option Int) (n : Nat) : Builtin.Slice.sliceAdjust lo hi 1 (n : Int) = (((sIx n 0 lo : Nat) : Int), ((sIx n n hi : Nat) : Int)) := by
  have h1 : ¬ ((1 : Int) < 0) := by omega
  unfold Builtin.Slice.sliceAdjust
  simp only [h1, if_false]
  refine Prod.ext ?_ ?_
  · cases lo with
    | none => rfl
    | some v => exact clip_eq v n 0
  · cases hi with
    | none => rfl
    | some v => exact clip_eq v n n
theorem places_gen (i j : Nat) : Builtin.Slice.slicePlaces (i : Int) (j : Int) 1 = j - i := by
  unfold Builtin.Slice.slicePlaces
  have h1 : (1 : Int) > 0 := by omega
  simp only [h1, if_true, Int.ediv_one]
  split <;> omega
theorem slicePart_ {v : Value} {o : Option Int} {Q : Option Int → Shared → Prop} (p : IsPart v o) (h : Q o s) : wpAny (model prog w) A (Builtin.Slice.slicePartIndex v) Q E s := by
  cases p with
  | none => exact slicePart_none h
  | int i t => exact slicePart_int h
theorem sliceApplied_gen {sl : Addr} {vl vu : Value} {lo hi : Option Int} {n : Nat} {Q : Int × Int × Nat → Shared → Prop} (hs : s.heap.IsSliceOf sl vl vu .none) (pl : IsPart vl lo) (pu : IsPart vu hi)
    (h : Q (((sIx n 0 lo : Nat) : Int), 1, sIx n n hi - sIx n 0 lo) s) : wpAny (model prog w) A (Builtin.Slice.sliceApplied (.ref sl) (pure (n : Int))) Q E s := by
  obtain ⟨os, hos, hcs, hds⟩ := id hs
  unfold Builtin.Slice.sliceApplied Builtin.Slice.sliceFields
  refine wpAny_bind (wpAny_bind (wpAny_field hos hds (x := vl) rfl (wpAny_bind (wpAny_field hos hds (x := vu) rfl (wpAny_bind (wpAny_field hos hds (x := .none) rfl (wpAny_pure ?_)))))))
  refine wpAny_bind (slicePart_none ?_)
  show wpAny _ _ (if ((1 : Int) == 0) = true then _ else _) _ _ s
  rw [if_neg (by decide)]
  refine wpAny_bind (slicePart_ pl (wpAny_bind (slicePart_ pu (wpAny_bind (wpAny_pure ?_)))))
  show wpAny _ _ (match Builtin.Slice.sliceAdjust lo hi 1 (n : Int) with | (lo, hi) => pure (lo, (1 : Int), Builtin.Slice.slicePlaces lo hi 1)) _ _ s
  rw [adjust_gen lo hi n]
  show wpAny _ _ (pure (((sIx n 0 lo : Nat) : Int), (1 : Int), Builtin.Slice.slicePlaces ((sIx n 0 lo : Nat) : Int) ((sIx n n hi : Nat) : Int) 1)) _ _ s
  rw [places_gen]
  exact wpAny_pure h
theorem pick_gen (xs : Array Value) (i k : Nat) : ((List.range k).filterMap fun (m : Nat) => xs[((i : Int) + (m : Int) * 1).toNat]?).toArray = ((xs.toList.drop i).take k).toArray := by
  have e : (fun (m : Nat) => xs[((i : Int) + (m : Int) * 1).toNat]?) = fun m => xs[i + m]? := by
    funext m
    have : ((i : Int) + (m : Int) * 1).toNat = i + m := by omega
    rw [this]
  rw [e]
  have := pick_run xs i k
  rw [List.filterMap_map] at this
  have e2 : ((fun x => xs[x]?) ∘ fun x => i + x) = fun m => xs[i + m]? := rfl
  rw [e2] at this
  rw [this]

theorem getItem_tuple_cut {t sl : Addr} {items : Array Value} {vl vu : Value} {lo hi : Option Int} {Q : Value → Shared → Prop} (ht : IsTup s.heap t items) (hs : s.heap.IsSliceOf sl vl vu .none) (pl : IsPart vl lo) (pu : IsPart vu hi)
    (hw : ¬ (sIx items.size 0 lo = 0 ∧ sIx items.size items.size hi = items.size))
    (h : Q (.ref s.heap.objs.size) { s with heap := s.heap.push { cls := .type "tuple", data := .seq ((items.toList.drop (sIx items.size 0 lo)).take (sIx items.size items.size hi - sIx items.size 0 lo)).toArray } })
    (hsz : items.size ≤ sizeLine) : wpAny (model prog w) A (getItem (.ref t) (.ref sl)) Q E s := by
  have htake : sizeOk (.seq ((items.toList.drop (sIx items.size 0 lo)).take (sIx items.size items.size hi - sIx items.size 0 lo)).toArray) := by
    show ((items.toList.drop (sIx items.size 0 lo)).take (sIx items.size items.size hi - sIx items.size 0 lo)).toArray.size ≤ sizeLine
    rw [List.size_toArray, List.length_take, List.length_drop, Array.length_toList]
    omega
  have hj : sIx items.size items.size hi ≤ items.size := sIx_le _ _ (Nat.le_refl _) hi
  obtain ⟨os, hos, hcs, hds⟩ := id hs
  have hTs : s.TypeIs (.ref sl) "slice" := ⟨os, hos, hcs⟩
  unfold getItem
  try with_reducible refine wpAny_holding ?_
  first | refine wpAny_bind (wpAny_pure ?_) | skip
  refine wpAny_bind (wpAny_sequenceKey ht.typeIs (by decide) ?_)
  refine wpAny_bind (wpAny_callSpecial?_slot (name := Str.ofString "__getitem__") ht.typeIs PyProof.Rows.slot_tuple_getitem
    (wpAny_call_entry PyProof.Rows.slot_tuple_getitem ht.typeIs entry_tuple_getitem ?_ (args_tuple_getitem _ _)))
  show wpAny _ _ (Builtin.Tuple.tupleItemsOf (.ref t) >>= _) _ _ s
  refine wpAny_bind (tupleItemsOf_ ht ?_)
  refine wpAny_bind (wpAny_typeOf hTs ?_)
  rw [if_pos (by decide)]
  refine wpAny_bind (sliceApplied_gen hs pl pu ?_)
  have hno : ¬ ((((sIx items.size 0 lo : Nat) : Int) == 0 && (1 : Int) == 1 && (sIx items.size items.size hi - sIx items.size 0 lo) == items.size) = true) := by
    intro q
    rw [Bool.and_eq_true, Bool.and_eq_true] at q
    have q1 : ((sIx items.size 0 lo : Nat) : Int) = 0 := eq_of_beq q.1.1
    have q2 : sIx items.size items.size hi - sIx items.size 0 lo = items.size := eq_of_beq q.2
    exact hw ⟨by omega, by omega⟩
  show wpAny _ _ (if (((sIx items.size 0 lo : Nat) : Int) == 0 && (1 : Int) == 1 && (sIx items.size items.size hi - sIx items.size 0 lo) == items.size) = true then _ else _) _ _ s
  rw [if_neg hno, pick_gen]
  first
    | exact wpAny_bind (m := Builtin.Tuple.tupleExact _) (wpAny_newObj_type (wpAny_pure ⟨_, rfl, wpAny_pure h⟩) htake)
    | exact wpAny_bind (m := Builtin.Tuple.tupleExact _) (wpAny_newObj_type (wpAny_bind (wpAny_pure (wpAny_pure ⟨_, rfl, wpAny_pure h⟩))) htake)
    | exact wpAny_bind (wpAny_bind (m := Builtin.Tuple.tupleExact _) (wpAny_newObj_type (wpAny_pure (wpAny_pure ⟨_, rfl, wpAny_pure h⟩)) htake))
    | exact wpAny_bind (wpAny_bind (m := Builtin.Tuple.tupleExact _) (wpAny_newObj_type (wpAny_pure ⟨_, rfl, wpAny_pure h⟩) htake))
end
end HT

namespace L2
open PySem PySem.Spec PyProof.Rows

/-! ### the parts of a slice -/
abbrev TO := St → Hp → (Option Int → Hp → Prop) → Prop
/-- a slice's part (left out, or an int) -/
def PO (X : Cx) (e : Option Expr) (t : TO) : Prop :=
  ∀ (pins : List (Addr × Obj)) (s : Shared) (σ : St) (H : Hp) (Q : Option Int → Hp → Prop), Inv X pins σ H s → t σ H Q →
    wpAny (model X.prog X.w) X.A (evalPart e X.env) (fun u s' => ∃ o H', Inv X pins σ H' s' ∧ IsPart u o ∧ Q o H') X.xe s
def tNoPart : TO := fun _ H Q => Q none H
def tPart (t : TE) : TO := fun σ H Q => t σ H fun x H1 => ∃ i, x = .int i ∧ Q (some i) H1

section
variable {X : Cx} {e : Expr} {te : TE} {lo hi : Option Expr} {tl th : TO} {pos p2 : Pos}

theorem po_none : PO X none tNoPart := by
  intro pins s σ H Q I h
  rw [evalPart_none]
  exact wpAny_pure ⟨none, H, I, .none, h⟩
theorem po_some (h : PE X e te) : PO X (some e) (tPart te) := by
  intro pins s σ H Q I hw
  rw [evalPart_some]
  refine thn (h pins s σ H _ I hw) fun u s1 ⟨x, H1, I1, r1, q1⟩ => ?_
  obtain ⟨i, rfl, q⟩ := q1
  obtain ⟨t, rfl⟩ := r1
  exact ⟨some i, H1, I1, .int i t, q⟩

/-- what a slice of a value is, by values: the slice object stands at sl -/
def SlR (X : Cx) (r : V → Option Int → Option Int → Hp → VK → Prop) : Prop :=
  ∀ (pins : List (Addr × Obj)) (s : Shared) (σ : St) (H : Hp) (x : V) (v vl vu : Value) (lo hi : Option Int) (sl : Addr) (Q : VK), Inv X pins σ H s → RelV x v → s.heap.IsSliceOf sl vl vu .none → IsPart vl lo → IsPart vu hi → r x lo hi H Q →
    ∃ T id, typeLookup (.type T) "__getitem__" = pure (some (.builtin id)) ∧ s.TypeIs v T ∧ wpAny (model X.prog X.w) X.A (getItem v (.ref sl)) (EP X pins σ Q) X.xe s
theorem SlR.or {r r' : V → Option Int → Option Int → Hp → VK → Prop} (h : SlR X r) (h' : SlR X r') : SlR X (fun x lo hi H Q => r x lo hi H Q ∨ r' x lo hi H Q) := by
  intro pins s σ H x v vl vu lo hi sl Q I rx hs pl pu q
  rcases q with q | q
  · exact h pins s σ H x v vl vu lo hi sl Q I rx hs pl pu q
  · exact h' pins s σ H x v vl vu lo hi sl Q I rx hs pl pu q
def tSl (r : V → Option Int → Option Int → Hp → VK → Prop) (te : TE) (tl th : TO) : TE := fun σ H Q => te σ H fun x H1 => tl σ H1 fun l H2 => th σ H2 fun u H3 => r x l u H3 Q
/-- a[lo:hi], any a -/
theorem pe_slice {r : V → Option Int → Option Int → Hp → VK → Prop} (hr : SlR X r) (he : PE X e te) (hl : PO X lo tl) (hu : PO X hi th) : PE X (.Subscript e (.Slice lo hi none p2) pos) (tSl r te tl th) := by
  intro pins s σ H Q I h
  refine Subscript_ (thn (he pins s σ H _ I h) fun v s1 ⟨x, H1, I1, r1, q1⟩ => ?_)
  refine wpAny_Slice (thn (hl pins s1 σ H1 _ I1 q1) fun vl s2 ⟨l, H2, I2, pl, q2⟩ => thn (hu pins s2 σ H2 _ I2 q2) fun vu s3 ⟨u, H3, I3, pu, q3⟩ => ?_)
  rw [evalPart_none]
  refine wpAny_pure ?_
  have I4 : Inv X pins σ H3 { s3 with heap := s3.heap.push { cls := .type "slice", data := .fields #[vl, vu, .none] } } := I3.kept (t' := s3.toks) fun b ob q => Heap.get?_push_of_some _ q
  obtain ⟨T, id, hT, ht, hg⟩ := hr pins { s3 with heap := s3.heap.push { cls := .type "slice", data := .fields #[vl, vu, .none] } } σ H3 x v vl vu l u s3.heap.objs.size Q I4 r1 (Heap.IsSliceOf.new ..) pl pu q3
  show wpAny (model X.prog X.w) X.A (subscriptTail e (.Slice lo hi none p2) v (.ref s3.heap.objs.size)) (EP X pins σ Q) X.xe { s3 with heap := s3.heap.push { cls := .type "slice", data := .fields #[vl, vu, .none] } }
  exact tail_any (ops := [.ref s3.heap.objs.size, v]) ht hT hg (by with_unfolding_all rfl)

/-- the items of xs[lo:hi] -/
def cutV (xs : List V) (lo hi : Option Int) : List V := (xs.drop (HT.sIx xs.length 0 lo)).take (HT.sIx xs.length xs.length hi - HT.sIx xs.length 0 lo)
theorem cutV_length (xs : List V) (lo hi : Option Int) : (cutV xs lo hi).length ≤ xs.length := by
  unfold cutV
  rw [List.length_take, List.length_drop]
  omega
/-- t[lo:hi], not the whole of it (the whole would be t itself) -/
def rSlT (K : PySem.W.Frag) : V → Option Int → Option Int → Hp → VK → Prop := fun x lo hi H Q => ∃ a xs, x = .ref a ∧ SqT K H a xs ∧
  ¬ (HT.sIx xs.length 0 lo = 0 ∧ HT.sIx xs.length xs.length hi = xs.length) ∧ ∀ p, H p = none → Q (.ref p) (upd H p (.tup (cutV xs lo hi)))
theorem sl_tup : SlR X (rSlT X.K) := by
  intro pins s σ H x v vl vu lo hi sl Q I rx hs pl pu h
  obtain ⟨a, xs, rfl, hx, hw, q⟩ := h
  cases rx
  obtain ⟨its, r, ht, hz⟩ := I.tuple hx
  have hlen : its.toArray.size = xs.length := by rw [List.size_toArray]; exact r.length.symm
  refine ⟨"tuple", _, PyProof.Rows.slot_tuple_getitem.lookup, ht.typeIs, ?_⟩
  refine HT.getItem_tuple_cut ht hs pl pu (by rw [hlen]; exact hw) ?_ (by rw [hlen]; exact hz)
  rw [hlen]
  refine ⟨.ref s.heap.objs.size, _, I.laid (t' := s.toks) (o := .tup (cutV xs lo hi)) (fun b ob q => Heap.get?_push_of_some _ q) (Nat.le_refl _) ?_, rfl, q _ (I.hok.fresh (Nat.le_refl _))⟩
  exact ⟨Nat.le_trans (cutV_length xs lo hi) hz, _, (r.drop (HT.sIx xs.length 0 lo)).take (HT.sIx xs.length xs.length hi - HT.sIx xs.length 0 lo), IsTup.new _ _⟩

/-! ### t < u, t + u -/
def rLtT (K : PySem.W.Frag) : R2 := fun x y H Q => ∃ a b ns ms, x = .ref a ∧ y = .ref b ∧ SqT K H a (ns.map V.int) ∧ SqT K H b (ms.map V.int) ∧ Q (.bl (HT.lexLt ns ms)) H
/-- t + u, t not empty: u empty gives t itself -/
def rCatT (K : PySem.W.Frag) : R2 := fun x y H Q => ∃ a b xs ys, x = .ref a ∧ y = .ref b ∧ SqT K H a xs ∧ SqT K H b ys ∧ xs ≠ [] ∧ xs.length + ys.length ≤ sizeLine ∧
  (ys = [] → Q (.ref a) H) ∧ (ys ≠ [] → ∀ p, H p = none → Q (.ref p) (upd H p (.tup (xs ++ ys))))
end
end L2

namespace L2
open PySem PySem.Spec PyProof.Rows

/-! ### places -/
/-- the place that an index of any sign means -/
def ixN (n : Nat) (i : Int) : Option Nat := if 0 ≤ i then (if i < n then some i.toNat else none) else if -(n : Int) ≤ i then some (i + n).toNat else none
def atI {α : Type} (xs : List α) (i : Int) : Option α := (ixN xs.length i).bind fun j => xs[j]?
theorem ixN_seq {n : Nat} {i : Int} {j : Nat} (h : ixN n i = some j) : seqIndex? i n = some j ∧ j < n ∧ -(n : Int) ≤ i ∧ i < n := by
  unfold ixN at h
  by_cases h0 : 0 ≤ i
  · rw [if_pos h0] at h
    by_cases h1 : i < n
    · rw [if_pos h1] at h
      have e : i.toNat = j := Option.some.inj h
      exact ⟨by rw [seqIndex_of h0 h1, e], by omega, by omega, h1⟩
    · rw [if_neg h1] at h; cases h
  · rw [if_neg h0] at h
    by_cases h1 : -(n : Int) ≤ i
    · rw [if_pos h1] at h
      have e : (i + n).toNat = j := Option.some.inj h
      exact ⟨by rw [seqIndex_neg (by omega) h1, e], by omega, h1, by omega⟩
    · rw [if_neg h1] at h; cases h
theorem atI_get {α : Type} {xs : List α} {i : Int} {v : α} (h : atI xs i = some v) : ∃ j, seqIndex? i xs.length = some j ∧ xs[j]? = some v ∧ j < xs.length ∧ -(xs.length : Int) ≤ i ∧ i < xs.length := by
  unfold atI at h
  cases e : ixN xs.length i with
  | none => rw [e] at h; cases h
  | some j =>
    rw [e] at h
    obtain ⟨h1, h2, h3, h4⟩ := ixN_seq e
    exact ⟨j, h1, h, h2, h3, h4⟩
theorem atI_nat {α : Type} {xs : List α} {j : Nat} {v : α} (h : xs[j]? = some v) : atI xs (j : Int) = some v := by
  have hj : j < xs.length := (List.getElem?_eq_some_iff.mp h).1
  have e : ixN xs.length (j : Int) = some j := by
    unfold ixN
    rw [if_pos (by omega), if_pos (by omega)]; simp
  unfold atI; rw [e]; exact h
/-! ### what may be subscripted -/
/-- what stands as an index of a plain subscript -/
def PlainIx (b : Expr) : Prop := ∀ o i, subscripted b false o i = operate [o, i] (getItem o i)
/-- a subscript by values -/
def IxR (X : Cx) (r : R2) : Prop :=
  ∀ (value slice : Expr) (pins : List (Addr × Obj)) (s : Shared) (σ : St) (H : Hp) (x y : V) (v u : Value) (Q : VK), Inv X pins σ H s → RelV x v → RelV y u → r x y H Q →
    subscripted slice false v u = operate [v, u] (getItem v u) → wpAny (model X.prog X.w) X.A (subscriptTail value slice v u) (EP X pins σ Q) X.xe s
/-- a call of a builtin's method by values: the receiver, the arguments -/
def MtR (X : Cx) (id : String) (r : V → List V → Hp → VK → Prop) : Prop :=
  ∀ (pins : List (Addr × Obj)) (s : Shared) (σ : St) (H : Hp) (x : V) (xs : List V) (v : Value) (us : List Value) (Q : VK), Inv X pins σ H s → RelV x v → Vals xs us → r x xs H Q →
    wpAny (model X.prog X.w) X.A (call (.builtin id) (v :: us)) (EP X pins σ Q) X.xe s
section
variable {X : Cx} {a b : Expr} {ta tb : TE} {pos : Pos}
theorem IxR.or {r r' : R2} (h : IxR X r) (h' : IxR X r') : IxR X (fun x y H Q => r x y H Q ∨ r' x y H Q) := by
  intro value slice pins s σ H x y v u Q I rx ry q hs
  rcases q with q | q
  · exact h value slice pins s σ H x y v u Q I rx ry q hs
  · exact h' value slice pins s σ H x y v u Q I rx ry q hs
theorem MtR.or {id : String} {r r' : V → List V → Hp → VK → Prop} (h : MtR X id r) (h' : MtR X id r') : MtR X id (fun x xs H Q => r x xs H Q ∨ r' x xs H Q) := by
  intro pins s σ H x xs v us Q I rx rs q
  rcases q with q | q
  · exact h pins s σ H x xs v us Q I rx rs q
  · exact h' pins s σ H x xs v us Q I rx rs q
/-- a[b] -/
theorem pe_ix {r : R2} (hr : IxR X r) (ha : PE X a ta) (hb : PE X b tb) (hs : PlainIx b) : PE X (.Subscript a b pos) (tOp r ta tb) := by
  intro pins s σ H Q I h
  exact Subscript_ (binT ha hb I h fun v u s2 x y H2 I2 rx ry q => hr a b pins s2 σ H2 x y v u Q I2 rx ry q (hs _ _))

def rIxL (K : PySem.W.Frag) : R2 := fun x y H Q => ∃ p xs i v, x = .ref p ∧ y = .int i ∧ SqL K H p xs ∧ atI xs i = some v ∧ Q v H
def rIxT (K : PySem.W.Frag) : R2 := fun x y H Q => ∃ p xs i v, x = .ref p ∧ y = .int i ∧ SqT K H p xs ∧ atI xs i = some v ∧ Q v H
def rIxS : R2 := fun x y H Q => ∃ z i c, x = .str z ∧ y = .int i ∧ z.length ≤ sizeLine ∧ atI z.cps.toList i = some c ∧ Q (.str ⟨#[c]⟩) H
theorem ix_list : IxR X (rIxL X.K) := by
  intro value slice pins s σ H x y v u Q I rx ry h hs
  obtain ⟨p, xs, i, z, rfl, rfl, hq, he, q⟩ := h
  cases rx
  obtain ⟨t, rfl⟩ := ry
  obtain ⟨its, r, pl, hz⟩ := I.list hq
  obtain ⟨j, h1, h2, h3, h4, h5⟩ := atI_get he
  obtain ⟨w, ew, rw'⟩ := r.get h2
  have hl := r.length
  have hn := line63
  have fin : EP X pins σ Q w s := ⟨z, H, I, rw', q⟩
  by_cases h0 : 0 ≤ i
  · have hj : i.toNat = j := by
      rw [seqIndex_of h0 h5] at h1
      exact Option.some.inj h1
    exact item_listR pl.isList h0 (by omega) (by rw [hj]; simpa using ew) fin hs
  · have hj : (i + (its.toArray.size : Int)).toNat = j := by
      rw [seqIndex_neg (by omega) h4] at h1
      rw [List.size_toArray, ← hl]
      exact Option.some.inj h1
    exact subscriptTail_builtinR (x := w) pl.isList.typeIs slot_list_getitem.lookup
      (wpAny_getItem_list_neg (Q := fun r s' => r = w ∧ EP X pins σ Q r s') pl.isList (by omega) (by rw [List.size_toArray] <;> omega) (by omega) (by rw [hj]; simpa using ew) ⟨rfl, fin⟩) hs
theorem ix_tup : IxR X (rIxT X.K) := by
  intro value slice pins s σ H x y v u Q I rx ry h hs
  obtain ⟨p, xs, i, z, rfl, rfl, hq, he, q⟩ := h
  cases rx
  obtain ⟨t, rfl⟩ := ry
  obtain ⟨its, r, pl, hz⟩ := I.tuple hq
  obtain ⟨j, h1, h2, h3, h4, h5⟩ := atI_get he
  obtain ⟨w, ew, rw'⟩ := r.get h2
  have hl := r.length
  have hn := line63
  have fin : EP X pins σ Q w s := ⟨z, H, I, rw', q⟩
  exact subscriptTail_builtinR (x := w) pl.typeIs slot_tuple_getitem.lookup
    (getItem_tuple (j := j) (Q := fun r s' => r = w ∧ EP X pins σ Q r s') pl (by omega) (by omega) (by rw [List.size_toArray, ← hl]; exact h1) (by simpa using ew) ⟨rfl, fin⟩) hs
theorem ix_str : IxR X rIxS := by
  intro value slice pins s σ H x y v u Q I rx ry h hs
  obtain ⟨z, i, c, rfl, rfl, hz, he, q⟩ := h
  obtain ⟨t, rfl⟩ := rx
  obtain ⟨t', rfl⟩ := ry
  obtain ⟨j, h1, h2, h3, h4, h5⟩ := atI_get he
  have hl : z.cps.toList.length = z.length := by simp [Str.length]
  rw [hl] at h1 h4 h5
  have hn := line63
  exact tail_any (typeIs_str s z t) slot_str_getitem.lookup (getItem_str (c := c) (by
    have e1 : decide (i < -(2 ^ 63 : Int)) = false := decide_eq_false (by omega)
    have e2 : decide (i ≥ 2 ^ 63) = false := decide_eq_false (by omega)
    rw [e1, e2, Bool.or_false]) (by rw [h1]; simpa using h2) ⟨.str ⟨#[c]⟩, H, I.tok _, ⟨_, rfl⟩, q⟩) hs
/-- list, tuple or str -/
def rIx (K : PySem.W.Frag) : R2 := fun x y H Q => rIxL K x y H Q ∨ rIxT K x y H Q ∨ rIxS x y H Q
theorem ix_seq : IxR X (rIx X.K) := ix_list.or (ix_tup.or ix_str)

/-! ### xs[i] = v, any sign -/
theorem Inv.lst {pins : List (Addr × Obj)} {σ : St} {H : Hp} {s : Shared} {p : Addr} {xs : List V} (I : Inv X pins σ H s) (h : H p = some (.lst xs)) :
    ∃ (its : List Value) (n : Nat), Vals xs its ∧ s.heap.get? p = some { cls := .type "list", data := .seq its.toArray n } ∧ xs.length ≤ sizeLine := by
  obtain ⟨z, its, n, r, e⟩ := I.hok p _ h
  exact ⟨its, n, r, e, z⟩
def rSetL : V → V → V → Hp → (Hp → Prop) → Prop := fun o i v H Q => ∃ p xs k j, o = .ref p ∧ i = .int k ∧ H p = some (.lst xs) ∧ ixN xs.length k = some j ∧ Q (upd H p (.lst (xs.set j v)))
/-! ### slices -/
/-- xs[lo:hi] of a list: a new list -/
def rSlL (K : PySem.W.Frag) : V → Option Int → Option Int → Hp → VK → Prop := fun x lo hi H Q => ∃ a xs, x = .ref a ∧ SqL K H a xs ∧ ∀ p, H p = none → Q (.ref p) (upd H p (.lst (cutV xs lo hi)))
/-! ### in, not in: flat items -/
def flatV : V → Bool
  | .non => true
  | .bl _ => true
  | .int _ => true
  | .str _ => true
  | _ => false
/-- == of flat values -/
def eqV : V → V → Bool
  | .non, .non => true
  | .bl a, .bl b => a == b
  | .bl a, .int b => (if a then 1 else 0) == b
  | .int a, .bl b => a == (if b then 1 else 0)
  | .int a, .int b => a == b
  | .str a, .str b => a == b
  | _, _ => false
theorem eqAt_V {A : Around} {s : Shared} {y x : V} {u v : Value} (ry : RelV y u) (rx : RelV x v) (fy : flatV y = true) (fx : flatV x = true) : SeqAt.EqAt A s u v (eqV y x) := by
  cases y with
  | non =>
    cases ry
    cases x with
    | non => cases rx; exact SeqAt.EqAt.same _
    | bl b => cases rx; exact SeqAt.EqAt.none_bool b
    | int b => obtain ⟨t, rfl⟩ := rx; exact SeqAt.EqAt.none_int b t
    | str b => obtain ⟨t, rfl⟩ := rx; exact SeqAt.EqAt.none_str b t
    | _ => exact absurd (show false = true from fx) Bool.false_ne_true
  | bl a =>
    cases ry
    cases x with
    | non => cases rx; exact SeqAt.EqAt.bool_none a
    | bl b => cases rx; exact SeqAt.EqAt.bool_bool a b
    | int b => obtain ⟨t, rfl⟩ := rx; exact SeqAt.EqAt.bool_int a b t
    | str b => obtain ⟨t, rfl⟩ := rx; exact SeqAt.EqAt.bool_str a b t
    | _ => exact absurd (show false = true from fx) Bool.false_ne_true
  | int a =>
    obtain ⟨t', rfl⟩ := ry
    cases x with
    | non => cases rx; exact SeqAt.EqAt.int_none a t'
    | bl b => cases rx; exact SeqAt.EqAt.int_bool a t' b
    | int b => obtain ⟨t, rfl⟩ := rx; exact SeqAt.EqAt.int_int a t' b t
    | str b => obtain ⟨t, rfl⟩ := rx; exact SeqAt.EqAt.int_str a t' b t
    | _ => exact absurd (show false = true from fx) Bool.false_ne_true
  | str a =>
    obtain ⟨t', rfl⟩ := ry
    cases x with
    | non => cases rx; exact SeqAt.EqAt.str_none a t'
    | bl b => cases rx; exact SeqAt.EqAt.str_bool a t' b
    | int b => obtain ⟨t, rfl⟩ := rx; exact SeqAt.EqAt.str_int a t' b t
    | str b => obtain ⟨t, rfl⟩ := rx; exact SeqAt.EqAt.str_str a t' b t
    | _ => exact absurd (show false = true from fx) Bool.false_ne_true
  | _ => exact absurd (show false = true from fy) Bool.false_ne_true
/-- the items' answers, read off the values (a value's own answer does not lean on its token) -/
def eqU (x : V) (u : Value) : Bool := match u with
  | .none => eqV .non x
  | .bool b => eqV (.bl b) x
  | .int i _ => eqV (.int i) x
  | .str z _ => eqV (.str z) x
  | _ => false
theorem eqU_of {x y : V} {u : Value} (r : RelV y u) (f : flatV y = true) : eqU x u = eqV y x := by
  cases y with
  | non => cases r; rfl
  | bl b => cases r; rfl
  | int i => obtain ⟨t, rfl⟩ := r; rfl
  | str z => obtain ⟨t, rfl⟩ := r; rfl
  | _ => exact absurd (show false = true from f) Bool.false_ne_true
theorem any_eqU {x : V} : ∀ {xs : List V} {us : List Value}, Vals xs us → xs.all flatV = true → us.any (eqU x) = xs.any fun y => eqV y x
  | _, _, .nil, _ => rfl
  | y :: xs, u :: us, .cons r t, f => by
    rw [List.all_cons, Bool.and_eq_true] at f
    rw [List.any_cons, List.any_cons, eqU_of r f.1, any_eqU t f.2]
theorem mem_eqAt {A : Around} {s : Shared} {x : V} {v : Value} (rx : RelV x v) (fx : flatV x = true) : ∀ {xs : List V} {us : List Value}, Vals xs us → xs.all flatV = true → ∀ u ∈ us, SeqAt.EqAt A s u v (eqU x u)
  | _, _, .nil, _ => fun u hu => by cases hu
  | y :: xs, u :: us, .cons r t, f => fun u' hu => by
    rw [List.all_cons, Bool.and_eq_true] at f
    rcases List.mem_cons.mp hu with rfl | hu
    · rw [eqU_of r f.1]; exact eqAt_V r rx f.1 fx
    · exact mem_eqAt rx fx t f.2 u' hu
def inV (x : V) (xs : List V) : Bool := xs.any fun y => eqV y x
/-- x in a list or tuple of flat items -/
def rIn (K : PySem.W.Frag) (neg : Bool) : R2 := fun x y H Q => ∃ p xs, y = .ref p ∧ (SqL K H p xs ∨ SqT K H p xs) ∧ flatV x = true ∧ xs.all flatV = true ∧ Q (.bl (if neg then !inV x xs else inV x xs)) H
theorem op_notIn_seq : OpR X (compareOp .NotIn) (rIn X.K true) := by
  intro pins s σ H x y v u Q I rx ry h
  obtain ⟨p, xs, rfl, hq, fx, fs, q⟩ := h
  cases ry
  rcases hq with hq | hq
  · obtain ⟨its, r, pl, hz⟩ := I.list hq
    refine SeqAt.notIn_listAt (eqU x) pl.isList (fun w hw => mem_eqAt rx fx r fs w (by simpa using hw)) ⟨.bl _, H, I, rfl, ?_⟩
    rw [show its.toArray.any (eqU x) = its.any (eqU x) by simp, any_eqU r fs]
    exact q
  · obtain ⟨its, r, pl, hz⟩ := I.tuple hq
    refine SeqAt.notIn_tupleAt (eqU x) pl (fun w hw => mem_eqAt rx fx r fs w (by simpa using hw)) ⟨.bl _, H, I, rfl, ?_⟩
    rw [show its.toArray.any (eqU x) = its.any (eqU x) by simp, any_eqU r fs]
    exact q
/-! ### len, list(x), tuple(x) of any list or tuple that is read -/
theorem call_len_seq : CallR X (.builtin "len") (fun xs H Q => ∃ p ys, xs = [.ref p] ∧ (SqL X.K H p ys ∨ SqT X.K H p ys) ∧ Q (.int ys.length) H) := by
  intro pins s σ H xs us Q I r h
  obtain ⟨p, ys, rfl, hq, q⟩ := h
  obtain ⟨u, rfl, rx⟩ := vals1 r
  cases rx
  have hn := line63
  rcases hq with hq | hq
  · obtain ⟨its, r', pl, hz⟩ := I.list hq
    have hlen := r'.length
    exact Calls.call_len_list pl.isList (by simp only [List.size_toArray] <;> omega) ⟨.int ys.length, H, I.tok _, ⟨s.toks + 1, by rw [List.size_toArray, hlen]⟩, q⟩
  · obtain ⟨its, r', pl, hz⟩ := I.tuple hq
    have hlen := r'.length
    exact len_tuple pl (by simp only [List.size_toArray] <;> omega) ⟨.int ys.length, H, I.tok _, ⟨s.toks + 1, by rw [List.size_toArray, hlen]⟩, q⟩
theorem call_len_str : CallR X (.builtin "len") (fun xs H Q => ∃ z, xs = [.str z] ∧ z.length ≤ sizeLine ∧ Q (.int z.length) H) := by
  intro pins s σ H xs us Q I r h
  obtain ⟨z, rfl, hz, q⟩ := h
  obtain ⟨u, rfl, t, rfl⟩ := vals1 r
  have hn := line63
  exact len_str (by omega) ⟨.int z.length, H, I.tok _, ⟨_, rfl⟩, q⟩
theorem CallR.or {f : Value} {r r' : List V → Hp → VK → Prop} (h : CallR X f r) (h' : CallR X f r') : CallR X f (fun xs H Q => r xs H Q ∨ r' xs H Q) := by
  intro pins s σ H xs us Q I rs q
  rcases q with q | q
  · exact h pins s σ H xs us Q I rs q
  · exact h' pins s σ H xs us Q I rs q
theorem call_list_of : CallR X (.type "list") (fun xs H Q => ∃ p ys, xs = [.ref p] ∧ (SqL X.K H p ys ∨ SqT X.K H p ys) ∧ ∀ l, H l = none → Q (.ref l) (upd H l (.lst ys))) := by
  intro pins s σ H xs us Q I r h
  obtain ⟨p, ys, rfl, hq, q⟩ := h
  obtain ⟨u, rfl, rx⟩ := vals1 r
  cases rx
  have fin : ∀ (its : List Value), Vals ys its → ys.length ≤ sizeLine → ∀ (h' : Heap) (c' : Nat), (∀ b o', s.heap.get? b = some o' → h'.get? b = some o') →
      h'.get? s.heap.objs.size = some { cls := .type "list", dict := none, data := .seq its.toArray c', slots := #[] } → EP X pins σ Q (.ref s.heap.objs.size) { s with heap := h' } := fun its r' hz h' c' kp e =>
    ⟨.ref s.heap.objs.size, _, I.laid (t' := s.toks) kp (Nat.le_refl _) (show ObjOk X.prog X.w _ h' _ (.lst ys) from ⟨hz, its, c', r', e⟩), rfl, q _ (I.hok.fresh (Nat.le_refl _))⟩
  rcases hq with hq | hq
  · obtain ⟨its, r', pl, hz⟩ := I.list hq
    have hlen := r'.length
    obtain ⟨o, ho, hc, n, hd⟩ := pl.isList
    exact call_list_seq p (.inl rfl) ho hc hd (fun h' c' kp e => fin its r' hz h' c' kp e) (by simp only [List.size_toArray] <;> omega)
  · obtain ⟨its, r', pl, hz⟩ := I.tuple hq
    have hlen := r'.length
    obtain ⟨o, ho, hc, n, hd⟩ := pl
    exact call_list_seq p (.inr rfl) ho hc hd (fun h' c' kp e => fin its r' hz h' c' kp e) (by simp only [List.size_toArray] <;> omega)
/-! ### the call of a builtin's method: o.m(..) -/
/-- the value is of that builtin type -/
def tyV (K : PySem.W.Frag) (T : String) (x : V) (H : Hp) : Prop := match x with
  | .str _ => T = "str"
  | .int _ => T = "int"
  | .ref p => (T = "list" ∧ ∃ xs, SqL K H p xs) ∨ (T = "tuple" ∧ ∃ o, K.lookup p = some o ∧ o.cls = .type "tuple" ∧ o.dict = none) ∨
      (T = "dict" ∧ ((∃ kvs, H p = some (.dK kvs)) ∨ ∃ kvs, H p = some (.dT kvs))) ∨ (T = "set" ∧ ∃ S n, H p = some (.set S n))
  | _ => False
theorem tyV_is {pins : List (Addr × Obj)} {σ : St} {H : Hp} {s : Shared} {T : String} {x : V} {v : Value} (I : Inv X pins σ H s) (r : RelV x v) (ty : tyV X.K T x H) :
    s.TypeIs v T ∧ ∀ a, v = .ref a → ∃ ob, s.heap.get? a = some ob ∧ ob.dict = none := by
  cases x with
  | str z =>
    obtain ⟨t, rfl⟩ := r
    cases (show T = "str" from ty)
    exact ⟨typeIs_str s z t, fun _ e => nomatch e⟩
  | int i =>
    obtain ⟨t, rfl⟩ := r
    cases (show T = "int" from ty)
    exact ⟨typeIs_int s i t, fun _ e => nomatch e⟩
  | ref p =>
    cases r
    rcases ty with ⟨rfl, xs, hq⟩ | ⟨rfl, o, hk, hc, hd⟩ | ⟨rfl, hk⟩ | ⟨rfl, S, n, hk⟩
    · obtain ⟨its, _, pl, _⟩ := I.list hq
      refine ⟨pl.isList.typeIs, fun a e => ?_⟩
      cases e
      obtain ⟨o, n, e, c, hd, _⟩ := pl
      exact ⟨o, e, hd⟩
    · refine ⟨⟨o, I.kIn p o hk, hc⟩, fun a e => ?_⟩
      cases e
      exact ⟨o, I.kIn _ o hk, hd⟩
    · have z : ∃ o, s.heap.get? p = some o ∧ o.ExactDict := by
        rcases hk with ⟨kvs, hk⟩ | ⟨kvs, hk⟩
        · obtain ⟨_, _, _, _, o, _, _, e, ex, _⟩ := I.hok p _ hk
          exact ⟨o, e, ex⟩
        · obtain ⟨_, _, _, _, o, _, _, e, ex, _⟩ := I.hok p _ hk
          exact ⟨o, e, ex⟩
      obtain ⟨o, e, ex⟩ := z
      refine ⟨⟨o, e, ex.1⟩, fun a e2 => ?_⟩
      cases e2
      exact ⟨o, e, ex.2.1⟩
    · obtain ⟨o, _, _, _, e, ex, _⟩ := I.hok p _ hk
      refine ⟨⟨o, e, ex.1⟩, fun a e2 => ?_⟩
      cases e2
      exact ⟨o, e, ex.2.1⟩
  | _ => exact False.elim ty
def tBM0 (K : PySem.W.Frag) (T : String) (r : V → List V → Hp → VK → Prop) (to : TE) : TE := fun σ H Q => to σ H fun x H1 => tyV K T x H1 ∧ r x [] H1 Q
def tBM (K : PySem.W.Frag) (T : String) (r : V → List V → Hp → VK → Prop) (to : TE) (t : TA) : TE := fun σ H Q => to σ H fun x H1 => tyV K T x H1 ∧ t σ H1 fun xs H2 => r x xs H2 Q
variable {o e : Expr} {es : List Expr} {to : TE} {t : TA} {name : Str} {apos cpos : Pos} {T id : String} {r : V → List V → Hp → VK → Prop}
theorem pe_bm0 (pa : PlainAttrs T) (slot : Slot T name id) (hty : typeOf (.builtin id) = pure (.type "method_descriptor")) (hm : MtR X id r) (ho : PE X o to)
    (hbase : attributeBase o name X.env (eval o X.env) = eval o X.env := by rfl) (hline : (apos.endLine == cpos.line) = true := by rfl) : PE X (.Call (.Attribute o name apos) [] [] cpos) (tBM0 X.K T r to) := by
  intro pins s σ H Q I h
  refine wpAny_Call_method0_late hbase hline (thn (ho pins s σ H _ I h) fun v s1 ⟨x, H1, I1, r1, ty, q1⟩ => ?_)
  obtain ⟨h1, h2⟩ := tyV_is I1 r1 ty
  exact ⟨T, id, pa, slot, hty, h1, h2, Calls.callWith_builtin rfl (PySem.evalArgs_none (hm pins s1 σ H1 x [] v [] Q I1 r1 .nil q1))⟩
theorem pe_bm (pa : PlainAttrs T) (slot : Slot T name id) (hty : typeOf (.builtin id) = pure (.type "method_descriptor")) (hm : MtR X id r) (ho : PE X o to) (ha : PA X (e :: es) t)
    (hbase : attributeBase o name X.env (eval o X.env) = eval o X.env := by rfl)
    (hfew : ((backTo cpos (starEach (e :: es) X.env)).all (fun x => !x.1) && (backToKw cpos (keywordEach [] X.env)).all (fun x => x.1.isSome)
      && decide ((e :: es).length + ([] : List Keyword).length + (if ([] : List Keyword).isEmpty then 0 else 1) < 30)) = true := by rfl)
    (hline : (apos.endLine == cpos.line) = true := by rfl) (hs : starEach (e :: es) X.env = (false, eval e X.env) :: starEach es X.env := by rfl) (hplain : (backTo cpos (starEach es X.env)).any (·.1) = false := by rfl) :
    PE X (.Call (.Attribute o name apos) (e :: es) [] cpos) (tBM X.K T r to t) := by
  intro pins s σ H Q I h
  refine wpAny_Call_method_late hbase hfew hline rfl (thn (ho pins s σ H _ I h) fun v s1 ⟨x, H1, I1, r1, ty, q1⟩ => ?_)
  obtain ⟨h1, h2⟩ := tyV_is I1 r1 ty
  refine ⟨T, id, pa, slot, hty, h1, h2, ?_⟩
  have hA := ha cpos pins s1 σ H1 _ I1 q1
  rw [hs] at hA ⊢
  refine Calls.callWith_builtin (by show (false || (backTo cpos (starEach es X.env)).any (·.1)) = false; rw [hplain] <;> rfl) (Calls.evalArgs_plain ?_)
  exact thn hA fun us s2 ⟨vs, H2, I2, r2, q2⟩ => hm pins s2 σ H2 x vs v us Q I2 r1 r2 q2
/- xs.append(e), list.index on a module's tuple .. are MtR facts of 06m -/
end
end L2

namespace L2
open PySem PySem.Spec PyProof.Rows

def MtM (X : Cx) (id : String) (r : V → List V → Hp → VK → Prop) : Prop :=
  ∀ (pins : List (Addr × Obj)) (s : Shared) (σ : St) (H : Hp) (x : V) (xs : List V) (v : Value) (us : List Value) (Q : VK), Inv X pins σ H s → RelV x v → Vals xs us → r x xs H Q →
    wpAny (model X.prog X.w) X.A (call (.builtin id) (v :: us)) (EP X pins σ Q) X.xe s

/-! ### lists of values -/
theorem Vals.one : ∀ {x : V} {us : List Value}, Vals [x] us → ∃ u, us = [u] ∧ RelV x u
  | _, _, .cons r .nil => ⟨_, rfl, r⟩
theorem Vals.two : ∀ {x y : V} {us : List Value}, Vals [x, y] us → ∃ u v, us = [u, v] ∧ RelV x u ∧ RelV y v
  | _, _, _, .cons r (.cons q .nil) => ⟨_, _, rfl, r, q⟩
theorem Vals.zero : ∀ {us : List Value}, Vals [] us → us = []
  | _, .nil => rfl
theorem Vals.dropLast {xs : List V} {us : List Value} (h : Vals xs us) : Vals xs.dropLast us.dropLast := by
  induction h with
  | nil => exact .nil
  | cons r t ih =>
    cases t with
    | nil => exact .nil
    | cons q t' => exact .cons r ih
theorem Vals.eraseIdx : ∀ {xs : List V} {us : List Value} (i : Nat), Vals xs us → Vals (xs.eraseIdx i) (us.eraseIdx i)
  | _, _, _, .nil => .nil
  | _, _, 0, .cons _ t => t
  | _, _, i + 1, .cons r t => .cons r (Vals.eraseIdx i t)
theorem Vals.reverse {xs : List V} {us : List Value} (h : Vals xs us) : Vals xs.reverse us.reverse := by
  induction h with
  | nil => exact .nil
  | cons r t ih => rw [List.reverse_cons, List.reverse_cons]; exact Vals.append ih (.cons r .nil)
theorem Vals.rep {xs : List V} {us : List Value} (h : Vals xs us) : ∀ k : Nat, Vals (List.replicate k xs).flatten (List.replicate k us).flatten
  | 0 => .nil
  | k + 1 => by
    rw [List.replicate_succ, List.replicate_succ, List.flatten_cons, List.flatten_cons]
    exact Vals.append h (Vals.rep h k)
theorem foldl_rep (its : List Value) : ∀ (k : Nat) (acc : List Value),
    List.foldl (fun x1 x2 => x1 ++ x2) acc.toArray (List.replicate k its.toArray) = (acc ++ (List.replicate k its).flatten).toArray
  | 0, acc => by simp
  | k + 1, acc => by
    have e : acc.toArray ++ its.toArray = (acc ++ its).toArray := by simp
    have e2 : (acc ++ its) ++ (List.replicate k its).flatten = acc ++ (List.replicate (k + 1) its).flatten := by
      rw [List.replicate_succ, List.flatten_cons, List.append_assoc]
    rw [← e2, ← foldl_rep its k (acc ++ its), ← e, List.replicate_succ, List.foldl_cons]

section
variable {X : Cx} {pins : List (Addr × Obj)} {σ : St} {H : Hp} {s : Shared} {l b : Addr} {xs ys zs : List V}

/-! ### the two steps: a tracked list is rewritten, a new list is laid -/
theorem Inv.lset {its its' : List Value} {n : Nat} {f : Array Value → Array Value} {t' : Nat} (I : Inv X pins σ H s) (hH : H l = some (.lst xs))
    (e : s.heap.get? l = some { cls := .type "list", data := .seq its.toArray n }) (hf : f its.toArray = its'.toArray) (hv : Vals ys its') (hz : ys.length ≤ sizeLine) :
    Inv X pins σ (upd H l (.lst ys)) { s with heap := s.heap.update l (Obj.mapSeq f), toks := t' } := by
  have q := PySem.IsL.update e f
  rw [hf] at q
  refine I.write (x := l) (e := l) (by rw [hH]; exact trivial) (.inl rfl) (fun b' u hb hu => (Heap.get?_update_other s.heap (Obj.mapSeq f) (Ne.symm hb)).trans hu) ⟨_, q⟩ ?_
  exact ⟨hz, its', _, hv, q⟩
theorem Inv.lnew {its : List Value} {t' : Nat} (I : Inv X pins σ H s) (hv : Vals ys its) (hz : ys.length ≤ sizeLine) :
    Inv X pins σ (upd H s.heap.objs.size (.lst ys)) { s with heap := s.heap.push { cls := .type "list", data := .seq its.toArray }, toks := t' } :=
  I.laid (fun _ _ q => Heap.get?_push_of_some _ q) (Nat.le_refl _) ⟨hz, its, 0, hv, Heap.get?_push_size _ rfl⟩
theorem Inv.fresh (I : Inv X pins σ H s) : H s.heap.objs.size = none := I.hok.fresh (Nat.le_refl _)
theorem Inv.lstM (I : Inv X pins σ H s) (hH : H l = some (.lst xs)) : xs.length ≤ sizeLine ∧ ∃ (its : List Value) (n : Nat), Vals xs its ∧ xs.length = its.length ∧ s.heap.get? l = some { cls := .type "list", data := .seq its.toArray n } := by
  obtain ⟨z, its, n, r, e⟩ := I.hok l _ hH
  exact ⟨z, its, n, r, r.length, e⟩

theorem notLongL {n : Nat} (h : n ≤ sizeLine) : Builtin.List.listTooLong n = false := by
  unfold Builtin.List.listTooLong
  exact decide_eq_false (by omega)
end

section
variable {X : Cx}

/-! ### methods -/
def rAppend : V → List V → Hp → VK → Prop := fun x vs H Q => ∃ l xs y, x = .ref l ∧ vs = [y] ∧ H l = some (.lst xs) ∧ xs.length < sizeLine ∧ Q .non (upd H l (.lst (xs ++ [y])))
theorem mt_append : MtM X "list.append" rAppend := by
  intro pins s σ H x vs v us Q I rx rv h
  obtain ⟨l, xs, y, rfl, rfl, hH, hz, q⟩ := h
  cases rx
  obtain ⟨u, rfl, ru⟩ := rv.one
  obtain ⟨z, its, n, r, hl, e⟩ := I.lstM hH
  refine call_meets F.slot_list_append ⟨_, e, rfl⟩ F.entry_list_append (F.args_list_append_2 _ _) (PySem.list_append l its.toArray n u (by rw [List.size_toArray]; omega)) ⟨e, ?_⟩
  refine ⟨.non, _, I.lset (its' := its ++ [u]) hH e (by simp) (r.append (.cons ru .nil)) ?_, rfl, q⟩
  rw [List.length_append, List.length_singleton]
  omega

def rExtend : V → List V → Hp → VK → Prop := fun x vs H Q => ∃ l b xs zs, x = .ref l ∧ vs = [.ref b] ∧ H l = some (.lst xs) ∧ H b = some (.lst zs) ∧ xs.length + zs.length ≤ sizeLine ∧ Q .non (upd H l (.lst (xs ++ zs)))
def rPop : V → List V → Hp → VK → Prop := fun x vs H Q => ∃ l xs y, x = .ref l ∧ vs = [] ∧ H l = some (.lst xs) ∧ xs[xs.length - 1]? = some y ∧ Q y (upd H l (.lst xs.dropLast))
def rPopAt : V → List V → Hp → VK → Prop := fun x vs H Q => ∃ l xs i k y, x = .ref l ∧ vs = [.int i] ∧ H l = some (.lst xs) ∧ -(2 ^ 63) ≤ i ∧ i < 2 ^ 63 ∧ seqIndex? i xs.length = some k ∧ xs[k]? = some y ∧ Q y (upd H l (.lst (xs.eraseIdx k)))
def rReverse : V → List V → Hp → VK → Prop := fun x vs H Q => ∃ l xs, x = .ref l ∧ vs = [] ∧ H l = some (.lst xs) ∧ Q .non (upd H l (.lst xs.reverse))
def rClear : V → List V → Hp → VK → Prop := fun x vs H Q => ∃ l xs, x = .ref l ∧ vs = [] ∧ H l = some (.lst xs) ∧ Q .non (upd H l (.lst []))
theorem mt_clear : MtM X "list.clear" rClear := by
  intro pins s σ H x vs v us Q I rx rv h
  obtain ⟨l, xs, rfl, rfl, hH, q⟩ := h
  cases rx
  have hus := rv.zero
  subst hus
  obtain ⟨z, its, n, r, hl, e⟩ := I.lstM hH
  refine call_meets F.slot_list_clear ⟨_, e, rfl⟩ F.entry_list_clear (F.args_list_clear_1 _) (AutoSeq1.list_clear_list_0 l its.toArray n (by rw [List.size_toArray]; omega)) ⟨e, ?_⟩
  exact ⟨.non, _, I.lset (its' := []) (ys := []) hH e rfl .nil (Nat.zero_le _), rfl, q⟩

/-! ### list + list, list += list, list * int -/
def rCat : R2 := fun x y H Q => ∃ l b xs zs, x = .ref l ∧ y = .ref b ∧ H l = some (.lst xs) ∧ H b = some (.lst zs) ∧ xs.length + zs.length ≤ sizeLine ∧ ∀ p, H p = none → Q (.ref p) (upd H p (.lst (xs ++ zs)))
theorem op_cat : OpR X (binaryOp .Add) rCat := by
  intro pins s σ H x y v u Q I rx ry h
  obtain ⟨l, b, xs, zs, rfl, rfl, hH, hB, hz, q⟩ := h
  cases rx
  cases ry
  obtain ⟨z, its, n, r, hl, e⟩ := I.lstM hH
  obtain ⟨z2, its2, n2, r2, hl2, e2⟩ := I.lstM hB
  refine PySem.P.add_list e e2 ?_ (by rw [List.size_toArray, List.size_toArray]; omega)
  have ea : its.toArray ++ its2.toArray = (its ++ its2).toArray := by simp
  rw [ea]
  exact ⟨.ref _, _, I.lnew (t' := s.toks) (r.append r2) (by rw [List.length_append]; omega), rfl, q _ I.fresh⟩
/-- a list times an int (a negative one is nothing) -/
def rRep : R2 := fun x y H Q => ∃ l k xs, x = .ref l ∧ y = .int k ∧ H l = some (.lst xs) ∧ -(2 ^ 63) ≤ k ∧ k < 2 ^ 63 ∧ xs.length * k.toNat ≤ sizeLine ∧
  ∀ p, H p = none → Q (.ref p) (upd H p (.lst (List.replicate k.toNat xs).flatten))
theorem len_rep {α : Type} (xs : List α) (k : Nat) : (List.replicate k xs).flatten.length = k * xs.length := by
  induction k with
  | zero => simp
  | succ k ih => rw [List.replicate_succ, List.flatten_cons, List.length_append, ih, Nat.succ_mul, Nat.add_comm]
theorem op_rep : OpR X (binaryOp .Mult) rRep := by
  intro pins s σ H x y v u Q I rx ry h
  obtain ⟨l, k, xs, rfl, rfl, hH, h1, h2, hz, q⟩ := h
  cases rx
  obtain ⟨t, rfl⟩ := ry
  obtain ⟨z, its, n, r, hl, e⟩ := I.lstM hH
  have hlen : its.toArray.size * k.toNat ≤ sizeLine := by rw [List.size_toArray, ← hl]; exact hz
  have hcap : ¬ its.toArray.size * k.toNat > (2 ^ 63 - 1) / 8 := by
    have : (sizeLine : Nat) ≤ (2 ^ 63 - 1) / 8 := by decide
    omega
  have hfit : ¬ (!Builtin.List.listFitsIndex k) = true := by
    rw [fitsIndex_both h1 h2]
    exact Bool.false_ne_true
  have hlong : ¬ Builtin.List.listTooLong (its.toArray.size * k.toNat) = true := by
    rw [notLongL hlen]
    exact Bool.false_ne_true
  have hnew : List.foldl (fun x1 x2 => x1 ++ x2) #[] (List.replicate (if its.toArray.isEmpty = true then 0 else k.toNat) its.toArray) = (List.replicate k.toNat its).flatten.toArray := by
    have f0 : ∀ m : Nat, List.foldl (fun x1 x2 => x1 ++ x2) #[] (List.replicate m its.toArray) = (List.replicate m its).flatten.toArray := fun m => by
      have := foldl_rep its m []
      rw [List.nil_append] at this
      exact this
    rw [f0]
    cases its with
    | nil => simp
    | cons a r' => rw [if_neg (by simp)]
  refine wpAny_binaryOp_repeat_ref (T := "list") (U := "int") (by decide) ⟨_, e, rfl⟩ (fun s' => typeIs_int s' k t) noFill_list_mul F.fills_int_mul F.slot_int_rmul repeat_list F.slot_int_index.lookup
    (call_meets F.slot_int_rmul (typeIs_int s k t) F.entry_int_rmul (F.args_int_rmul_2 _ _) (int___rmul___int_list k t l its.toArray n)
      ⟨e, rfl, ⟨_, e, rfl⟩, call_meets F.slot_list_mul ⟨_, e, rfl⟩ F.entry_list_mul (F.args_list_mul_2 _ _) (AutoListH.list___mul___list_int_3 l its.toArray n k t hfit hcap hlong) ⟨e, ?_⟩⟩)
  rw [hnew]
  exact ⟨.ref _, _, I.lnew (t' := s.toks) (r.rep k.toNat) (by rw [len_rep, Nat.mul_comm]; exact hz), rfl, q _ I.fresh⟩

/-! ### del xs[i] -/
end

/-! ### xs[a:b] = ys -/
section
variable {prog : Program} {w : World} {A : Around} {E : Value → Shared → Prop} {s : Shared}
end

section
variable {X : Cx}
end
end L2

namespace Att
open PySem PySem.W PySem.Calls PyProof.Rows

/-! ### the script -/
theorem ints_of_wellAll {P : Params} {h : Heap} : ∀ (ns : List Int) (vs : List Value), WellAll P h vs (ns.map WData.int) → IntsAre vs ns := by
  intro ns
  induction ns with
  | nil =>
    intro vs w
    rw [List.map_nil] at w
    cases w
    exact .nil
  | cons n ns ih =>
    intro vs w
    rw [List.map_cons] at w
    cases w with
    | cons a b =>
      cases a
      exact .cons _ _ (ih _ b)

theorem script_of {l : OpenLaw} {n : Nat} (hn : l.most = some n) {P : Params} {h : Heap} {args : List WData} {vals : List Value}
    (hpre : l.row.toRowW.claim.pre args = true) (hwl : WellAll P h vals args) :
    ∃ a vs ns, vals = [Value.ref a] ∧ args = [WData.list (ns.map WData.int)] ∧ h.get? a = some { cls := .type "list", data := .seq vs.toArray } ∧ IntsAre vs ns ∧ ns.length ≤ n := by
  have hsh : WShape.hasAll [] args [.list .int] = true := (pre_splitW hpre).1
  have hc : l.pre.holds [] { args := args } = true := (pre_splitW hpre).2
  obtain ⟨d, r, rfl, h1, h2⟩ := hasAllW_cons hsh
  obtain rfl := hasAllW_nil h2
  obtain ⟨xs, rfl, h3⟩ := hasW_list h1
  obtain ⟨ns, rfl⟩ := items_int h3
  have hlen : ns.length ≤ n := by
    unfold OpenLaw.pre at hc
    have h4 : (WTm.not (.lt (.lit (.int (n : Int))) (.len (.arg 0)))).holds [] { args := [.list (ns.map .int)] } = true := by
      have h4 := (holds_andW hc).1
      rw [hn] at h4
      exact h4
    have h5 := condW_of h4 (w_not (w_lt w_lit (w_len_list (w_arg rfl))))
    rw [List.length_map] at h5
    refine Nat.le_of_not_lt fun q => ?_
    have q' : (n : Int) < ((ns.length : Nat) : Int) := by omega
    first
      | (rw [decide_eq_true q'] at h5; exact absurd h5 (by decide))
      | (simp at h5; omega)
  cases hwl with
  | cons w1 w2 =>
    cases w2
    cases w1 with
    | list ho hall => exact ⟨_, _, ns, rfl, rfl, ho, ints_of_wellAll ns _ hall, hlen⟩

theorem post_true (l : OpenLaw) (args : List WData) : l.row.toRowW.claim.post args (.bool true) args = true :=
  postW_of (r := l.row.toRowW) (X := (true == true))
    (show WShape.has [] (.bool true) .bool = true by first | rfl | decide | simp [WShape.has, WShape.arms, WShape.armsAll])
    (show (WTm.eq .res (.lit (.bool true))).value [] { args := args, res := some (.bool true), after := args } = some (.bool (true == true)) from w_eq_bool (w_res rfl) w_lit) rfl

/-! ### the attachment: holds_open's last premise (the goal 'hc' behind k_head) from a wpAny of the law's body -/
/-- the same from a codeAny of the CALL (for a layer whose function contracts speak of calls) -/
theorem attach_call {l : OpenLaw} {n : Nat} {q : Program} {loose : List Str} {XP : (Str → Option Value) → Heap → Prop} {YP : World → Heap → Prop} {d : DefRec}
    (hn : l.most = some n) (hdf : d.params.defaults = [])
    (call : ∀ (w : World) (s₀ s₁ : Shared) (mg mb : Str → Option Value) (fa : Addr) (o : Obj) (pm cd doc : Value) (a : Addr) (vs : List Value) (ns : List Int),
      Ground q loose [] XP w s₀ mg mb s₁.heap → YP w s₁.heap →
      s₁.heap.get? fa = some o → o.data = .func (docDef d.name d.params d.body d.scope pm cd doc) → s₁.heap.CodeRec cd d.name → mg d.name = some (.ref fa) →
      s₁.heap.get? a = some { cls := .type "list", data := .seq vs.toArray } → IntsAre vs ns → ns.length ≤ n → s₁.gens = #[] →
      codeAny (model l.prog w) callerA (.call (.ref fa) ⟨[.ref a], []⟩) (fun r s' => r = .ok (.ret (.bool true)) ∧ OldK s₁.heap s'.heap ∧ s'.os = s₁.os ∧ AllBare s'.gens) s₁) :
    WalkO q loose XP YP l.row.toRowW d [] (fun f vs => PySem.call f vs) := by
  intro w s₀ s₁ mg mb G Y fa o pm cd doc dV kV ho hd hcd hD hmg hg args vals as hpre hlay hrd hwl hlo
  obtain rfl : dV = .none := Dflts.none hD hdf
  obtain rfl : kV = .none := Dflts.noKw hD
  obtain ⟨a, vs, ns, rfl, rfl, hobj, hints, hlen⟩ := script_of hn hpre hwl
  refine enter_call (codeAny_mono (call w s₀ s₁ mg mb fa o pm cd doc a vs ns G Y ho (fd_plain hd) hcd hmg hobj hints hlen hg) fun r s' hq => ?_)
  obtain ⟨rfl, h2, h3, h4⟩ := hq
  exact ⟨.inl ⟨.bool true, .bool true, [], rfl, fun _ => rfl, .bool true, post_true l _, fun _ => ⟨List.Pairwise.nil, fun _ hm => (nomatch hm)⟩⟩, h2, h3, h4⟩

/-! ### rules over ANY heap (no ledger) from facts about the written part K: the library's own take a ledger (News) for what they write -/
section
variable {prog : Program} {w : World} {A : Around} {E : Value → Shared → Prop} {s : Shared} {K : Frag}

/-! the whole heap as the ledger: makes every rule that writes through a ledger a rule over any heap -/
def noObjs (h : Heap) : Heap := { h with objs := #[] }
def ledger (h : Heap) (L d : Addr) : List (Addr × Obj) := (List.range h.objs.size).filterMap fun a => if a = L ∨ a = d then none else (h.get? a).map fun o => (a, o)
end
end Att

namespace L2
open PySem PySem.Spec PyProof.Rows

theorem vals_ints : ∀ {vs : List Value} {ns : List Int}, IntsAre vs ns → Vals (ns.map V.int) vs
  | _, _, .nil => .nil
  | _, _, .cons n t h => .cons ⟨t, rfl⟩ (vals_ints h)

/-- nothing is tracked but the script, known to the object (or it is an object of the module) -/
def Only (H : Hp) : Prop := ∀ b, H b = none ∨ ∃ o xs, H b = some (.frz o (.lst xs))

/-- THE HEAD: the law's promise, at the heap behind the top. F, the promise of the law's def, may use that base is part of the heap (so K.In base, base.Ns mainGlobals mg stand in Mod) -/
theorem law_call {P : Program} {w : World} {K : PySem.W.Frag} {mg mb : Str → Option Value} {CX : CXT} {k : Nat} {fa a : Addr} {fd : FuncData} {x : Str} {sp : Sp} {s₁ : Shared} {vs : List Value} {ns : List Int}
    (KX : K.In s₁.heap) (hns : s₁.heap.Ns mainGlobals mg) (hb : s₁.heap.Ns builtinsNs mb) (hbb : ∀ x : Str, x ≠ "__name__" → mb x = bootBuiltins x) (hlim : s₁.heap.NoLimit) (hg : s₁.gens = #[])
    (ha : s₁.heap.get? a = some { cls := .type "list", data := .seq vs.toArray }) (hi : IntsAre vs ns) (hl : ns.length ≤ sizeLine) (hr : Room k callerA)
    (F : ∀ base : Heap, K.In base → base.Ns mainGlobals mg → FnOk P w K mg base CX k fa fd [x] sp) (hbind : ∀ (s : Shared) (u : Value), BindsTo s fd ⟨[u], []⟩ [(x, u)])
    (hsp : ∀ H : Hp, Only H → SqL K H a (ns.map V.int) → sp [.ref a] H (fun v _ => v = .bl true) fun _ _ _ => False)
    (hCX : ∀ H e s', CX [] H s₁ (fun _ _ _ => False) e s' → False) :
    codeAny (model P w) callerA (.call (.ref fa) ⟨[.ref a], []⟩) (fun r s' => r = .ok (.ret (.bool true)) ∧ OldK s₁.heap s'.heap ∧ s'.os = s₁.os ∧ AllBare s'.gens) s₁ := by
  have rv := vals_ints hi
  have lenV := hi.length
  -- from an abstract heap in which nothing but the script may be tracked
  have core : ∀ H : Hp, Only H → SqL K H a (ns.map V.int) → HOk P w H s₁.heap → (∀ b, H b ≠ none → b = a) → (H a ≠ none → K.lookup a = none) →
      codeAny (model P w) callerA (.call (.ref fa) ⟨[.ref a], []⟩) (fun r s' => r = .ok (.ret (.bool true)) ∧ OldK s₁.heap s'.heap ∧ s'.os = s₁.os ∧ AllBare s'.gens) s₁ := by
    intro H hO hS hok hA hK
    have base_of : ∀ {b : Addr} {o : Obj}, s₁.heap.get? b = some o → H b = none → (hidT s₁.heap H).get? b = some o := fun e n => hidT_get e n
    have noA : ∀ {b : Addr} {o : Obj} {es : Array DictEntry} {ep : Nat}, s₁.heap.get? b = some o → o.data = .dict es ep → H b = none := fun {b o es ep} e d => by
      cases q : H b with
      | none => rfl
      | some u =>
        have e' : b = a := hA b (by rw [q]; simp)
        subst e'
        rw [ha] at e; cases e
        have d' : Data.seq vs.toArray _ = Data.dict es ep := d
        cases d'
    have nsK : ∀ {b : Addr} {m : Str → Option Value}, s₁.heap.Ns b m → (hidT s₁.heap H).Ns b m := fun {b m} ⟨o, es, ep, e, d, r⟩ => ⟨o, es, ep, base_of e (noA e d), d, r⟩
    have hKb : K.In (hidT s₁.heap H) := fun b o e => base_of (KX b o e) (by
      cases q : H b with
      | none => rfl
      | some u =>
        have e' : b = a := hA b (by rw [q]; simp)
        subst e'
        rw [hK (by rw [q]; simp)] at e; cases e)
    have hM : Mod K mg (hidT s₁.heap H) := ⟨hKb, nsK hns, ⟨mb, nsK hb, hbb⟩, let ⟨mc, h1, h2⟩ := hlim; ⟨mc, nsK h1, h2⟩⟩
    have e0 : Env0 P w K mg (hidT s₁.heap H) callerA [] s₁ H := ⟨rfl, hM, fun b o e => of_hidT e, Nat.le_of_eq (hidT_size _ _), trivial, fun b hb => absurd (show b ∈ ([] : List Addr) from hb) (by simp), hok, .of_eq hg⟩
    refine codeAny_mono ((F _ hKb (nsK hns)).run callerA [] s₁ H ⟨[.ref a], []⟩ [.ref a] [.ref a] _ _ hr e0 (hbind s₁ (.ref a)) (.cons rfl .nil) (hsp H hO hS)) fun r s' h => ?_
    cases r with
    | error e => exact (hCX H e s' h).elim
    | ok fl =>
      cases fl with
      | next => exact False.elim h
      | brk => exact False.elim h
      | cont => exact False.elim h
      | ret u =>
        obtain ⟨v, H', os, bare, un, hok', r', q⟩ := h
        have q' : v = .bl true := q
        subst q'
        obtain rfl : u = Value.bool true := r'
        refine ⟨rfl, OldK.of_keep fun b o e => ?_, os, bare⟩
        cases q : H b with
        | none => exact un.keep b o e q (by intro z; exact absurd (show b ∈ ([] : List Addr) from z) (by simp)) (by simp)
        | some u =>
          rcases hO b with z | ⟨ob, xs, z⟩
          · rw [q] at z; cases z
          · have z2 := un.frzs b ob _ z
            obtain ⟨e1, _⟩ := hok b _ z
            obtain ⟨e2, _⟩ := hok' b _ z2
            rw [e] at e1; cases e1
            exact e2
  cases hk : K.lookup a with
  | some o =>
    -- the script is one of the module's own objects
    have e := KX a o hk
    rw [ha] at e
    cases e
    refine core (fun _ => none) (fun _ => .inl rfl) (.inr ⟨_, vs.toArray, _, hk, rfl, rfl, rfl, by rw [List.size_toArray, lenV]; exact hl, by simpa using rv⟩) (fun b u z => by have z' : (none : Option HO) = some u := z; cases z') (fun b z => absurd rfl z) fun z => absurd rfl z
  | none =>
    refine core (fun b => if b = a then some (.frz { cls := .type "list", data := .seq vs.toArray } (.lst (ns.map V.int))) else none) (fun b => ?_) (.inl (.inr ⟨{ cls := .type "list", data := .seq vs.toArray }, if_pos rfl⟩)) (fun b u z => ?_) (fun b z => ?_) fun _ => hk
    · by_cases hb : b = a
      · exact .inr ⟨_, _, if_pos hb⟩
      · exact .inl (if_neg hb)
    · by_cases hb : b = a
      · have z' := (if_pos hb).symm.trans z
        cases z'
        subst hb
        exact ⟨ha, by rw [List.length_map]; exact hl, vs, _, rv, ha⟩
      · have z' := (if_neg hb).symm.trans z
        cases z'
    · by_cases hb : b = a
      · exact hb
      · exact absurd (if_neg hb) z
end L2

namespace L2
open PySem PySem.Spec PyProof.Rows

abbrev KOf {K : PySem.W.Frag} {h : Heap} (_ : K.In h) : PySem.W.Frag := K

/-- the goal that k_head leaves (case hc), from the law's promise. F gives the function object fd (K's own) once, then the promise over every base -/
theorem walk_of {l : PySem.W.OpenLaw} {n k : Nat} {q : Program} {loose : List Str} {XP : (Str → Option Value) → Heap → Prop} {YP : World → Heap → Prop} {d : DefRec} {K : Params → PySem.W.Frag} {CX : World → CXT} {sp : World → Sp} {x : Str}
    (hn : l.most = some n) (hn2 : n ≤ sizeLine) (hdf : d.params.defaults = []) (hr : Room k callerA)
    (hY : ∀ (w : World) (h : Heap), YP w h → (K w.params).In h)
    (F : ∀ (w : World) (mg : Str → Option Value) (fa : Addr) (h : Heap), (K w.params).In h → h.Ns mainGlobals mg → mg d.name = some (.ref fa) →
      ∃ fd : FuncData, (∀ (s : Shared) (u : Value), BindsTo s fd ⟨[u], []⟩ [(x, u)]) ∧
        ∀ base : Heap, (K w.params).In base → base.Ns mainGlobals mg → FnOk l.prog w (K w.params) mg base (CX w) k fa fd [x] (sp w))
    (hsp : ∀ (w : World) (H : Hp) (a : Addr) (ns : List Int), ns.length ≤ n → Only H → SqL (K w.params) H a (ns.map V.int) → sp w [.ref a] H (fun v _ => v = .bl true) fun _ _ _ => False)
    (hCX : ∀ (w : World) (H : Hp) (s : Shared) (e : Value) (s' : Shared), CX w [] H s (fun _ _ _ => False) e s' → False) :
    PySem.W.WalkO q loose XP YP l.row.toRowW d [] (fun f vs => PySem.call f vs) := by
  refine Att.attach_call hn hdf fun w s₀ s₁ mg mb fa o pm cd doc a vs ns G Y ho hd hcd hmg hobj hints hlen hg => ?_
  have KX := hY w _ Y
  obtain ⟨fd, hb, hF⟩ := F w mg fa _ KX G.T.g hmg
  exact law_call KX G.T.g G.T.b G.T.builtins G.T.nolimit hg hobj hints (Nat.le_trans hlen hn2) hr hF hb (fun H hO hS => hsp w H a ns hlen hO hS) fun H e s' => hCX w H s₁ e s'
end L2

/- THE LAST THEOREM (shape; LID, My.* are yours):
   My.Adr: a structure of the addresses that your layer names (classes, functions); My.Txt K t: a structure (Prop) of the equations over K;
   My.txt_mk : {K} {implicit addresses ..} (e1 : nsIn K mainGlobals "law" = some (some (.ref f))) (e2 : K.lookup f = some ⟨oc, od, .func (fnOf "law" "law" params body scope dV kV doc pm an cdv ct), sl⟩) (e3 : codeIn K cdv "law" = true) .. : ∃ t, My.Txt K t

set_option maxRecDepth 100000 in
set_option maxHeartbeats 0 in
theorem PySem.Challenge.cw_LID_holds : PySem.Challenge.rw_LID.Holds := by
  w_on; o_law; k_head; (case hw => w_witness2)
  k_fill
  refine L2.walk_of (l := PySem.Challenge.rw_LID) (n := 63) (k := 40) (x := "script") (CX := fun w => ..) (sp := fun _ => My.sp_law) rfl (by decide) rfl ⟨rfl, by decide, by decide⟩ (fun w h Y => PySem.W.kIn_of Y) ?F ?S ?C
  case F =>
    intro w mg fa h KX G hmg
    have T : ∃ t, My.Txt (L2.KOf KX) t := by
      dsimp only [L2.KOf]                          -- K must stand as «<heap const> w.params» for k_is
      refine' My.txt_mk ?e1 ?e2 ?e3 ..
      (case e1 => PySem.W.k_is)                    -- in the order: a name -> its address -> its object -> its parts
      (case e2 => PySem.W.k_is)
      ..
    obtain ⟨t, T⟩ := T
    have e0 := hmg.symm.trans (PySem.W.mg_of KX G T.law)
    cases e0                                       -- fa is the law's own address
    exact ⟨_, fun s u => .of_eq rfl, fun base kb nb => My.law_fn T kb nb⟩     -- if «.of_eq rfl» comes too early: refine' ⟨_, ?b, fun base kb nb => My.law_fn T kb nb⟩; exact fun s u => .of_eq rfl
  case S => exact fun w H a ns hl hO hS => ..
  case C => exact ..
(the tactic k_is has no namespace: write k_is) -/

/-! SHORT WORDS over the layer: a def of the text, its body, what a loop and a test want. -/
namespace L2
open PySem PySem.Spec PyProof.Rows

/-! ### the text by places -/
/-- the j-th statement of a class's body -/
def inClass (s : Stmt) (j : Nat) : Stmt := match s with
  | .ClassDef _ _ _ body _ _ _ _ _ _ _ => body.getD j (.Pass ⟨0, 0, 0, 0⟩)
  | _ => .Pass ⟨0, 0, 0, 0⟩
def defArgs (s : Stmt) : Arguments := match s with
  | .FunctionDef _ a _ _ _ _ _ _ _ _ => a
  | _ => { posonlyargs := [], args := [], vararg := none, kwonlyargs := [], kw_defaults := [], kwarg := none, defaults := [] }
def defBody (s : Stmt) : List Stmt := match s with
  | .FunctionDef _ _ b _ _ _ _ _ _ _ => b
  | _ => []
def defScope (s : Stmt) : Scope := match s with
  | .FunctionDef _ _ _ _ _ _ sc _ _ _ => sc
  | _ => { kind := .function, names := [], isGenerator := false, isCoroutine := false }

/-! ### no exception leaves a def -/
abbrev CX0 : CXT := fun _ _ _ _ _ _ => False
abbrev E0 : XK := fun _ _ _ => False
theorem pass0 {X : Cx} : Passes CX0 X E0 := fun _ _ _ _ _ _ _ h => h.elim

/-! ### a def (or method) of the text as it stands behind the top -/
structure Fun (K : PySem.W.Frag) (x qual : Str) (st : Stmt) (f : Addr) (fd : FuncData) : Prop where
  ex : ∃ (oc : Value) (od : Option Addr) (kV doc pm : Value) (an : Option Addr) (cdv ct : Value) (osl : Array (Option Value)),
    fd = PySem.W.fnOf x qual (defArgs st) (defBody st) (defScope st) .none kV doc pm an cdv ct ∧ K.lookup f = some ⟨oc, od, .func fd, osl⟩ ∧ PySem.W.codeIn K cdv qual = true
  kp : PySem.W.keepIn K (.ref f) = true
section
variable {P : Program} {w : World} {K : PySem.W.Frag} {mg : Str → Option Value} {base : Heap}
/-- THE RULE for a def: its body as a term of rules, and the reading of that term -/
theorem Fun.ok {x qual : Str} {st : Stmt} {f : Addr} {fd : FuncData} {N ps : List Str} {k : Nat} {sp : Sp} (F : Fun K x qual st f fd) (S : FnScope N ps (defScope st)) (len : ∀ vs H Q E, sp vs H Q E → vs.length = ps.length)
    (hbody : ∀ (cdv : Value) (A : Around) (outer : List Env) (s : Shared) (H : Hp) (vs : List V) (Q : VK) (E : XK), Room k (A.deeper (envOfC qual (defScope st) s.heap.objs.size f cdv)) → sp vs H Q E →
      ∃ t, PSs (cxOf CX0 P w K mg base N qual (defScope st) f cdv A outer s H E).nox (defBody st) t ∧ t { nx := fun _ H' => Q .non H', rt := Q } (start N vs) H) : FnOk P w K mg base CX0 (k + 1) f fd ps sp := by
  obtain ⟨oc, od, kV, doc, pm, an, cdv, ct, osl, rfl, lk, hcd⟩ := F.ex
  refine fn_of lk hcd S len fun A outer s H vs Q E hr hsp => ?_
  obtain ⟨t, h, q⟩ := hbody cdv A outer s H vs Q E hr hsp
  exact ⟨t, h.nox, q⟩
/-- how its arguments bind (no defaults): h is «fun _ _ _ _ _ _ us hl => match us, hl with | [_, _], _ => rfl», one _ a parameter -/
theorem Fun.binds {x qual : Str} {st : Stmt} {f : Addr} {fd : FuncData} {ps : List Str} (F : Fun K x qual st f fd)
    (h : ∀ (kV doc pm : Value) (an : Option Addr) (cdv ct : Value) (us : List Value), us.length = ps.length → bindArgs (PySem.W.fnOf x qual (defArgs st) (defBody st) (defScope st) .none kV doc pm an cdv ct) ⟨us, []⟩ = pure (ps.zip us)) : Binds K fd ps [] := by
  obtain ⟨oc, od, kV, doc, pm, an, cdv, ct, osl, rfl, lk, hcd⟩ := F.ex
  exact .all (h kV doc pm an cdv ct)
theorem fun_mk {x qual : Str} {st : Stmt} {f : Addr} {oc : Value} {od an : Option Addr} {osl : Array (Option Value)} {kV doc pm cdv ct : Value} (l : K.lookup f = some ⟨oc, od, .func (PySem.W.fnOf x qual (defArgs st) (defBody st) (defScope st) .none kV doc pm an cdv ct), osl⟩)
    (c : PySem.W.codeIn K cdv qual = true) (k : PySem.W.keepIn K (.ref f) = true) : Fun K x qual st f (PySem.W.fnOf x qual (defArgs st) (defBody st) (defScope st) .none kV doc pm an cdv ct) := ⟨⟨oc, od, kV, doc, pm, an, cdv, ct, osl, rfl, l, c⟩, k⟩
end
theorem hu_of {A : Around} {k : Nat} (hr : Room k A) : A.units + 1 < cLine := Nat.lt_of_le_of_lt (Nat.add_le_add_left (by decide : 1 ≤ 64) _) hr.units
/-! ### expressions in short: the name that stands in the i-th slot -/
section
variable {X : Cx}
theorem pv (i : Nat) {x : Str} {pos : Pos} (hN : X.N[i]? = some x := by rfl) (hv : Vis X.env.scope x := by first | exact Or.inl rfl | exact Or.inr (Or.inl rfl) | exact Or.inr (Or.inr rfl)) (hd : (x == ("__debug__" : Str)) = false := by decide)
    (hcd : (x == ("__classdict__" : Str)) = false := by decide) : PE X (.Name x pos) (tVar i) := pe_var hN hv hd hcd
end

/-! ### tests -/
/-! ### heaps -/
/-- all that was tracked is as it was -/
def Same (H H' : Hp) : Prop := ∀ b o, H b = some o → H' b = some o
theorem Same.refl (H : Hp) : Same H H := fun _ _ h => h
theorem Same.trans {H H1 H2 : Hp} (a : Same H H1) (b : Same H1 H2) : Same H H2 := fun c o h => b c o (a c o h)
theorem Same.free {H H' : Hp} (e : Same H H') {l : Addr} (h : H' l = Option.none) : H l = Option.none := by
  cases q : H l with
  | none => rfl
  | some o =>
    rw [e l o q] at h
    cases h
theorem Same.seq {K : PySem.W.Frag} {H H' : Hp} {a : Addr} {xs : List V} (e : Same H H') (h : SqL K H a xs) : SqL K H' a xs := by
  rcases h with (h | ⟨o, h⟩) | h
  · exact .inl (.inl (e _ _ h))
  · exact .inl (.inr ⟨o, e _ _ h⟩)
  · exact .inr h

end L2

end
section
set_option Elab.async false
set_option linter.all false
set_option maxRecDepth 100000
namespace L2
open PySem PySem.Spec PyProof.Rows

/-! ### a text walked sign by sign -/
def Its (x : Str) : It := ⟨fun i _ => i < x.cps.size, fun i H v H' => H' = H ∧ ∃ c, x.cps[i]? = some c ∧ v = .str ⟨#[c]⟩, fun i _ => i = x.cps.size⟩
section
variable {X : Cx} {tg : Expr}
def iStr (tl : TE) : TI := fun σ H R => tl σ H fun x H1 => ∃ z, x = .str z ∧ R (Its z) H1
end
section
variable {X : Cx}
/-! ### text * int -/
def repS (x : Str) (n : Nat) : Str := ⟨(List.replicate n x.cps.toList).flatten.toArray⟩
theorem Txt_mul_eq (x : Str) (n : Int) : Txt.mul x n = repS x n.toNat := by
  have aux : ∀ (k : Nat) (acc : Array Nat), (List.replicate k x.cps).foldl (· ++ ·) acc = (acc.toList ++ (List.replicate k x.cps.toList).flatten).toArray := by
    intro k
    induction k with
    | zero => intro acc; simp
    | succ k ih => intro acc; rw [List.replicate_succ, List.foldl_cons, ih]; simp [List.replicate_succ]
  unfold Txt.mul repS
  split
  · rename_i h
    have : n.toNat = 0 := by omega
    rw [this]; rfl
  · rename_i h
    split
    · rename_i h2
      rcases Bool.or_eq_true_iff.mp h2 with h3 | h3
      · have : n.toNat = 1 := by have := beq_iff_eq.mp h3; omega
        rw [this]
        cases x; simp
      · have h4 : x.cps.toList = [] := by
          have h5 : x.cps.size = 0 := by simpa [PySem.Str.length] using h3
          exact List.eq_nil_of_length_eq_zero (by simpa using h5)
        cases x with
        | mk c =>
          simp only at h4
          have : c = #[] := by simpa using h4
          subst this; simp
    · rw [aux]; simp
theorem op_mul_str : OpR X (binaryOp .Mult) (fun x y H Q => ∃ a k, x = .str a ∧ y = .int k ∧ (-(2 ^ 62) ≤ k ∧ k < 2 ^ 62) ∧ a.length * k.toNat ≤ sizeLine ∧ Q (.str (repS a k.toNat)) H) := by
  intro pins s σ H x y v u Q I rx ry h
  obtain ⟨a, k, rfl, rfl, ⟨h1, h2⟩, hz, q⟩ := h
  obtain ⟨t, rfl⟩ := rx
  obtain ⟨t', rfl⟩ := ry
  refine SB.mul ⟨?_, ?_, ?_⟩ fun t'' k' => ⟨.str (repS a k.toNat), H, I.tok _, ⟨t'', by rw [Txt_mul_eq]⟩, q⟩
  · simp; omega
  · intro hk _ hgt
    have hz' : a.length * k.toNat ≤ 2 ^ 40 := Nat.le_trans hz (by rw [sizeLine_eq]; decide)
    have e : ((a.length * k.toNat : Nat) : Int) ≤ 2 ^ 40 := by exact_mod_cast hz'
    have hk' : (k.toNat : Int) = k := by omega
    rw [Int.natCast_mul, hk'] at e
    have h3 := Int.lt_of_lt_of_le hgt (Int.le_refl _)
    have h4 : (2 ^ 63 - 1 : Int) < (a.length : Int) * k := by
      have := (Int.ediv_lt_iff_lt_mul (by omega : (0 : Int) < k)).mp hgt
      exact this
    omega
  · intro _ _
    simp only [Builtin.Str.tooLong, decide_eq_false_iff_not]
    omega
end
end L2

end
section
set_option Elab.async false
set_option linter.all false
set_option maxRecDepth 100000
namespace L2
open PySem PySem.Spec PyProof.Rows

/-! ### text[lo:hi] -/
def cutS (x : Str) (lo hi : Option Int) : Str := ⟨((x.cps.toList.drop (HT.sIx x.length 0 lo)).take (HT.sIx x.length x.length hi - HT.sIx x.length 0 lo)).toArray⟩
section
variable {X : Cx}
def rSlS : V → Option Int → Option Int → Hp → VK → Prop := fun x lo hi H Q => ∃ z, x = .str z ∧ z.length ≤ sizeLine ∧ Q (.str (cutS z lo hi)) H
/-! ### startswith, endswith -/
def rStarts : V → List V → Hp → VK → Prop := fun x vs H Q => ∃ a b, x = .str a ∧ vs = [.str b] ∧ Q (.bl (b.cps.toList.isPrefixOf a.cps.toList)) H
def rEnds : V → List V → Hp → VK → Prop := fun x vs H Q => ∃ a b, x = .str a ∧ vs = [.str b] ∧ Q (.bl (b.cps.toList.isSuffixOf a.cps.toList)) H
/-! ### isinstance(x, T) -/
def rIsi (K : PySem.W.Frag) : List V → Hp → VK → Prop := fun vs H Q => ∃ x c t b, vs = [x, .ty c] ∧ TyOf K H x t ∧ PySem.W.kitOne K t (.type c) = some b ∧ Q (.bl b) H
theorem call_isi : CallR X (.builtin "isinstance") (rIsi X.K) := by
  intro pins s σ H xs us Q I rv h
  obtain ⟨x, c, t, b, rfl, ty, e, q⟩ := h
  obtain ⟨u, w', rfl, r1, r2⟩ := vals2 rv
  have r2 : w' = Value.type c := r2
  subst r2
  exact isinst_ok I r1 ty e fun tk => ⟨.bl b, H, I.tok _, rfl, q⟩
/-! ### int(text) -/
end
end L2

end
section
set_option Elab.async false
set_option linter.all false
set_option maxRecDepth 100000
namespace L2
open PySem PySem.Spec PyProof.Rows

/-! ### data that is read whole -/
mutual
inductive Rep (K : PySem.W.Frag) (H : Hp) : V → PyData → Prop
  | non : Rep K H .non .none
  | bl (b) : Rep K H (.bl b) (.bool b)
  | int (i) : Rep K H (.int i) (.int i)
  | str (x) : Rep K H (.str x) (.str x)
  | lst {a xs ds} : SqL K H a xs → Reps K H xs ds → Rep K H (.ref a) (.list ds)
  | tup {a xs ds} : SqT K H a xs → Reps K H xs ds → Rep K H (.ref a) (.tuple ds)
inductive Reps (K : PySem.W.Frag) (H : Hp) : List V → List PyData → Prop
  | nil : Reps K H [] []
  | cons {x xs d ds} : Rep K H x d → Reps K H xs ds → Reps K H (x :: xs) (d :: ds)
end
section
variable {X : Cx} {pins : List (Addr × Obj)} {σ : St} {H : Hp} {s : Shared}
mutual
theorem Rep.reads (I : Inv X pins σ H s) : ∀ {x : V} {d : PyData}, Rep X.K H x d → ∀ u, RelV x u → ∃ as, Reads s.heap u d as
  | _, _, .non, u, r => by cases r; exact ⟨_, .none⟩
  | _, _, .bl b, u, r => by cases r; exact ⟨_, .bool b⟩
  | _, _, .int i, u, r => by obtain ⟨t, rfl⟩ := r; exact ⟨_, .int i t⟩
  | _, _, .str x, u, r => by obtain ⟨t, rfl⟩ := r; exact ⟨_, .str x t⟩
  | _, _, .lst hq hs, u, r => by
    cases r
    obtain ⟨its, rv, ⟨o, n, e, hc, hd, hdat⟩, _⟩ := I.list hq
    obtain ⟨as, ra⟩ := Reps.reads I hs its rv
    exact ⟨_, .list e hc hdat (by simpa using ra)⟩
  | _, _, .tup hq hs, u, r => by
    cases r
    obtain ⟨its, rv, ⟨o, e, hc, n, hdat⟩, _⟩ := I.tuple hq
    obtain ⟨as, ra⟩ := Reps.reads I hs its rv
    exact ⟨_, .tuple e hc hdat (by simpa using ra)⟩
theorem Reps.reads (I : Inv X pins σ H s) : ∀ {xs : List V} {ds : List PyData}, Reps X.K H xs ds → ∀ us, Vals xs us → ∃ as, ReadsAll s.heap us ds as
  | _, _, .nil, us, r => by cases r; exact ⟨_, .nil⟩
  | _, _, .cons h t, us, r => by
    cases r with
    | cons r1 r2 =>
      obtain ⟨as, ra⟩ := Rep.reads I h _ r1
      obtain ⟨bs, rb⟩ := Reps.reads I t _ r2
      exact ⟨_, .cons ra rb⟩
end
end
section
variable {X : Cx}
def rEqD (K : PySem.W.Frag) : R2 := fun x y H Q => ∃ d e, Rep K H x d ∧ Rep K H y e ∧ SeqAt.shaped d = true ∧ SeqAt.shaped e = true ∧ Q (.bl (PyData.eqv d e)) H
def rNeD (K : PySem.W.Frag) : R2 := fun x y H Q => ∃ d e, Rep K H x d ∧ Rep K H y e ∧ SeqAt.shaped d = true ∧ SeqAt.shaped e = true ∧ Q (.bl (!PyData.eqv d e)) H
theorem op_eqD (hu : X.A.units + 64 < cLine) : OpR X (compareOp .Eq) (rEqD X.K) := by
  intro pins s σ H x y v u Q I rx ry h
  obtain ⟨d, e, hd, he, sd, se, q⟩ := h
  obtain ⟨as, ra⟩ := hd.reads I v rx
  obtain ⟨bs, rb⟩ := he.reads I u ry
  exact eq_dataH ra rb sd se hu ⟨.bl _, H, I, rfl, q⟩
theorem op_neD (hu : X.A.units + 64 < cLine) : OpR X (compareOp .NotEq) (rNeD X.K) := by
  intro pins s σ H x y v u Q I rx ry h
  obtain ⟨d, e, hd, he, sd, se, q⟩ := h
  obtain ⟨as, ra⟩ := hd.reads I v rx
  obtain ⟨bs, rb⟩ := he.reads I u ry
  exact ne_dataH ra rb sd se hu ⟨.bl _, H, I, rfl, q⟩
/-! ### a def of the text, called by its name -/
structure Own (P : Program) (w : World) (K : PySem.W.Frag) (mg : Str → Option Value) (base : Heap) (k : Nat) (x : Str) (ps : List Str) (sp : Sp) : Prop where
  ex : ∃ f fd, FnOk P w K mg base CX0 k f fd ps sp ∧ mg x = some (.ref f) ∧ PySem.W.keepIn K (.ref f) = true ∧ Binds K fd ps []
variable {k : Nat} {x : Str} {ps : List Str} {sp : Sp} {p pos : Pos} {e : Expr} {es : List Expr} {t : TA}
theorem pe_own (F : Own X.prog X.w X.K X.mg X.base k x ps sp) (hr : Room k X.A) (ha : PA X (e :: es) t) (hg : Gl X x := by rfl)
    (hdb : (x == ("__debug__" : Str)) = false := by decide) (he : starEach (e :: es) X.env = (false, eval e X.env) :: starEach es X.env := by rfl) (hpl : (backTo pos (starEach es X.env)).any (·.1) = false := by rfl) :
    PE X (.Call (.Name x p) (e :: es) [] pos) (tCall sp [] E0 t) := by
  obtain ⟨f, fd, G, hm, hk, hb⟩ := F.ex
  exact pe_call G hr hg hm hk hb .nil pass0 ha hdb he hpl
/-! ### what is walked: a list or a text -/
theorem PI.or {tg iter : Expr} {a b : TI} (h : PI X tg iter a) (h' : PI X tg iter b) : PI X tg iter (fun σ H R => a σ H R ∨ b σ H R) := by
  intro pins s σ H R I q
  rcases q with q | q
  · exact h pins s σ H R I q
  · exact h' pins s σ H R I q
/-! ### both kinds of an operation -/
theorem op_addA : OpR X (binaryOp .Add) (fun x y H Q => rI0 (fun i j => .int (i + j)) x y H Q ∨ (∃ i j, x = .str i ∧ y = .str j ∧ i.length + j.length ≤ sizeLine ∧ Q (.str (i ++ j)) H) ∨ rCat x y H Q) := op_add.or (op_add_str.or op_cat)
theorem op_mulA : OpR X (binaryOp .Mult) (fun x y H Q => rI CMul (fun i j => .int (i * j)) x y H Q ∨ (∃ a k, x = .str a ∧ y = .int k ∧ (-(2 ^ 62) ≤ k ∧ k < 2 ^ 62) ∧ a.length * k.toNat ≤ sizeLine ∧ Q (.str (repS a k.toNat)) H) ∨ rRep x y H Q) := op_mul.or (op_mul_str.or op_rep)
end
/-! ### from a def to its name -/
theorem Own.mk' {P : Program} {w : World} {K : PySem.W.Frag} {mg : Str → Option Value} {base : Heap} {k : Nat} {x : Str} {ps : List Str} {sp : Sp} {f : Addr} {fd : FuncData} (G : FnOk P w K mg base CX0 k f fd ps sp) (hm : mg x = some (.ref f)) (hk : PySem.W.keepIn K (.ref f) = true) (hb : Binds K fd ps []) : Own P w K mg base k x ps sp := ⟨f, fd, G, hm, hk, hb⟩
end L2

end
section
set_option Elab.async false
set_option linter.all false
set_option maxRecDepth 100000
namespace L2
open PySem PySem.Spec PyProof.Rows
/-! ### isinstance, by cases -/
def isiF : V → String → Option Bool
  | .int _, c => if c = "int" then some true else if c = "bool" ∨ c = "str" ∨ c = "tuple" ∨ c = "list" then some false else none
  | .bl _, c => if c = "int" ∨ c = "bool" then some true else if c = "str" ∨ c = "tuple" ∨ c = "list" then some false else none
  | .str _, c => if c = "str" then some true else if c = "bool" ∨ c = "int" ∨ c = "tuple" ∨ c = "list" then some false else none
  | .non, c => if c = "str" ∨ c = "bool" ∨ c = "int" ∨ c = "tuple" ∨ c = "list" then some false else none
  | _, _ => none
def rIsiA : List V → Hp → VK → Prop := fun vs H Q => ∃ x c, vs = [x, .ty c] ∧
  ((∃ b, isiF x c = some b ∧ Q (.bl b) H) ∨ (∃ a xs, x = .ref a ∧ H a = some (.tup xs) ∧ (c = "tuple" ∧ Q (.bl true) H ∨ (c = "list" ∨ c = "str" ∨ c = "int") ∧ Q (.bl false) H)) ∨ (∃ a xs, x = .ref a ∧ H a = some (.lst xs) ∧ (c = "list" ∧ Q (.bl true) H ∨ (c = "tuple" ∨ c = "str" ∨ c = "int") ∧ Q (.bl false) H)))
theorem call_isiA {X : Cx} : CallR X (.builtin "isinstance") rIsiA := by
  intro pins s σ H xs us Q I rv h
  obtain ⟨x, c, rfl, h⟩ := h
  refine call_isi pins s σ H _ us Q I rv ?_
  rcases h with ⟨b, e, q⟩ | ⟨a, xs, rfl, ha, q⟩ | ⟨a, xs, rfl, ha, q⟩
  · cases x with
    | int i =>
      dsimp only [isiF] at e
      split at e
      · rename_i hc; subst hc; cases e; exact ⟨_, _, _, _, rfl, .int i, by rfl, q⟩
      · split at e
        · rename_i hc; cases e
          rcases hc with rfl | rfl | rfl | rfl <;> exact ⟨_, _, _, _, rfl, .int i, by rfl, q⟩
        · cases e
    | bl i =>
      dsimp only [isiF] at e
      split at e
      · rename_i hc; cases e; rcases hc with rfl | rfl <;> exact ⟨_, _, _, _, rfl, .bl i, by rfl, q⟩
      · split at e
        · rename_i hc; cases e
          rcases hc with rfl | rfl | rfl <;> exact ⟨_, _, _, _, rfl, .bl i, by rfl, q⟩
        · cases e
    | str i =>
      dsimp only [isiF] at e
      split at e
      · rename_i hc; subst hc; cases e; exact ⟨_, _, _, _, rfl, .str i, by rfl, q⟩
      · split at e
        · rename_i hc; cases e
          rcases hc with rfl | rfl | rfl | rfl <;> exact ⟨_, _, _, _, rfl, .str i, by rfl, q⟩
        · cases e
    | non =>
      dsimp only [isiF] at e
      split at e
      · rename_i hc; cases e
        rcases hc with rfl | rfl | rfl | rfl | rfl <;> exact ⟨_, _, _, _, rfl, .non, by rfl, q⟩
      · cases e
    | _ => cases e
  · rcases q with ⟨rfl, q⟩ | ⟨rfl | rfl | rfl, q⟩ <;> exact ⟨_, _, _, _, rfl, .tup ha, by rfl, q⟩
  · rcases q with ⟨rfl, q⟩ | ⟨rfl | rfl | rfl, q⟩ <;> exact ⟨_, _, _, _, rfl, .lst ha, by rfl, q⟩

/-! ### texts of 0 and 1 -/
def sg (b : Bool) : Nat := if b then 49 else 48
def enc (bs : List Bool) : Str := ⟨(bs.map sg).toArray⟩
theorem enc_len (bs : List Bool) : (enc bs).length = bs.length := by
  show ((bs.map sg).toArray).size = bs.length
  simp
theorem enc_append (a b : List Bool) : enc a ++ enc b = enc (a ++ b) := by
  show (⟨(a.map sg).toArray ++ (b.map sg).toArray⟩ : Str) = ⟨((a ++ b).map sg).toArray⟩
  simp
theorem sg_inj {a b : Bool} (h : sg a = sg b) : a = b := by
  revert h; cases a <;> cases b <;> decide
theorem enc_inj {a b : List Bool} (h : enc a = enc b) : a = b := by
  have h1 : a.map sg = b.map sg := by
    have := congrArg (fun z => z.cps.toList) h
    simpa [enc] using this
  clear h
  induction a generalizing b with
  | nil => cases b with
    | nil => rfl
    | cons y ys => simp at h1
  | cons x xs ih =>
    cases b with
    | nil => simp at h1
    | cons y ys =>
      simp only [List.map_cons, List.cons.injEq] at h1
      rw [sg_inj h1.1, ih h1.2]
theorem enc_eq {a b : List Bool} : (enc a = enc b) = (a = b) := propext ⟨enc_inj, fun h => by rw [h]⟩
theorem enc_nil : (Str.ofString "" : Str) = enc [] := by decide +kernel
theorem enc_0 : (Str.ofString "0" : Str) = enc [false] := by decide +kernel
theorem enc_1 : (Str.ofString "1" : Str) = enc [true] := by decide +kernel
theorem enc_01 : (Str.ofString "01" : Str) = enc [false, true] := by decide +kernel
theorem sign_enc (b : Bool) : (⟨#[sg b]⟩ : Str) = enc [b] := rfl
/-- what a text writes to the base two -/
def val (bs : List Bool) : Int := bs.foldl (fun n b => n * 2 + (if b then 1 else 0)) 0
theorem pow_pos' (n : Nat) : (0 : Int) < 2 ^ n := by
  induction n with
  | zero => decide
  | succ n ih => rw [Int.pow_succ]; omega
/-- the last k signs of a number's writing -/
def addr : Nat → Int → List Bool
  | 0, _ => []
  | k + 1, n => addr k (n / 2) ++ [decide (n % 2 = 1)]
theorem addr_len : ∀ (k : Nat) (n : Int), (addr k n).length = k
  | 0, _ => rfl
  | k + 1, n => by rw [addr, List.length_append, addr_len]; rfl
/-- the first k signs of a number, the least one first -/
def bitsBy : Nat → Int → List Bool
  | 0, _ => []
  | k + 1, c => decide (c % 2 = 1) :: bitsBy k (c / 2)
theorem bitsBy_len : ∀ (k : Nat) (n : Int), (bitsBy k n).length = k
  | 0, _ => rfl
  | k + 1, n => by rw [bitsBy, List.length_cons, bitsBy_len]
theorem bitsBy_snoc : ∀ (k : Nat) (n : Int), bitsBy (k + 1) n = bitsBy k n ++ [decide (n / 2 ^ k % 2 = 1)]
  | 0, n => by simp [bitsBy]
  | k + 1, n => by
    rw [bitsBy, bitsBy_snoc k (n / 2)]
    show decide (n % 2 = 1) :: (bitsBy k (n / 2) ++ [decide (n / 2 / 2 ^ k % 2 = 1)]) = (decide (n % 2 = 1) :: bitsBy k (n / 2)) ++ [decide (n / 2 ^ (k + 1) % 2 = 1)]
    rw [Int.ediv_ediv_of_nonneg (by omega), Int.pow_succ, Int.mul_comm (2 ^ k) 2]
    rfl
theorem item_01 (n : Int) : atI (enc [false, true]).cps.toList (n % 2) = some (sg (decide (n % 2 = 1))) := by
  have : n % 2 = 0 ∨ n % 2 = 1 := by omega
  rcases this with h | h <;> rw [h] <;> decide
theorem line_ge : 1000000 ≤ sizeLine := by decide
end L2

end
section
set_option Elab.async false
set_option linter.all false
set_option maxRecDepth 100000
namespace L2
open PySem PySem.Spec PyProof.Rows
/-! ### the built-ins names -/
theorem bt_len : bootBuiltins "len" = some (.builtin "len") := by decide +kernel
theorem bt_isinstance : bootBuiltins "isinstance" = some (.builtin "isinstance") := by decide +kernel
theorem bt_int : bootBuiltins "int" = some (.type "int") := by decide +kernel
theorem bt_str : bootBuiltins "str" = some (.type "str") := by decide +kernel
theorem bt_list : bootBuiltins "list" = some (.type "list") := by decide +kernel
theorem bt_tuple : bootBuiltins "tuple" = some (.type "tuple") := by decide +kernel
theorem bt_sorted : bootBuiltins "sorted" = some (.builtin "sorted") := by decide +kernel
theorem bt_bool : bootBuiltins "bool" = some (.type "bool") := by decide +kernel
theorem bt_dict : bootBuiltins "dict" = some (.type "dict") := by decide +kernel
/-! ### the operations' readings, by the values' kinds -/
def rAddA : R2 := fun x y H Q => match x, y with
  | .int i, .int j => Q (.int (i + j)) H
  | .str a, .str b => a.length + b.length ≤ sizeLine ∧ Q (.str (a ++ b)) H
  | .ref l, .ref b => ∃ xs zs, H l = some (.lst xs) ∧ H b = some (.lst zs) ∧ xs.length + zs.length ≤ sizeLine ∧ ∀ p, H p = none → Q (.ref p) (upd H p (.lst (xs ++ zs)))
  | _, _ => False
def rMulA : R2 := fun x y H Q => match x, y with
  | .int i, .int j => CMul i j ∧ Q (.int (i * j)) H
  | .str a, .int k => (-(2 ^ 62) ≤ k ∧ k < 2 ^ 62) ∧ a.length * k.toNat ≤ sizeLine ∧ Q (.str (repS a k.toNat)) H
  | .ref l, .int k => ∃ xs, H l = some (.lst xs) ∧ -(2 ^ 63) ≤ k ∧ k < 2 ^ 63 ∧ xs.length * k.toNat ≤ sizeLine ∧ ∀ p, H p = none → Q (.ref p) (upd H p (.lst (List.replicate k.toNat xs).flatten))
  | _, _ => False
def rI2 (C : Int → Int → Prop) (g : Int → Int → V) : R2 := fun x y H Q => match x, y with
  | .int i, .int j => C i j ∧ Q (g i j) H
  | _, _ => False
def rI3 (g : Int → Int → V) : R2 := fun x y H Q => match x, y with
  | .int i, .int j => Q (g i j) H
  | _, _ => False
def rSubI : R2 := rI3 fun i j => .int (i - j)
def rDivI : R2 := rI2 CDiv fun i j => .int (i / j)
def rModI : R2 := rI2 (fun _ j => 0 < j) fun i j => .int (i % j)
def rPowI : R2 := rI2 CPow fun i j => .int (i ^ j.toNat)
def rLt : R2 := rI3 fun i j => .bl (decide (i < j))
def rLe : R2 := rI3 fun i j => .bl (decide (i ≤ j))
def rGt : R2 := rI3 fun i j => .bl (decide (j < i))
def rGe : R2 := rI3 fun i j => .bl (decide (j ≤ i))
def rNegI : V → Hp → VK → Prop := fun x H Q => match x with
  | .int i => Q (.int (-i)) H
  | _ => False
def rIsN : R2 := fun x y H Q => y = .non ∧ Q (.bl (decide (x = .non))) H
def rNotN : R2 := fun x y H Q => y = .non ∧ Q (.bl (!decide (x = .non))) H
def rEqS : R2 := fun x y H Q => match x, y with
  | .int i, .int j => Q (.bl (decide (i = j))) H
  | .str a, .str b => Q (.bl (decide (a = b))) H
  | .bl a, .bl b => Q (.bl (decide (a = b))) H
  | .non, .non => Q (.bl true) H
  | .non, .int _ => Q (.bl false) H
  | .int _, .non => Q (.bl false) H
  | _, _ => False
def rNeS : R2 := fun x y H Q => match x, y with
  | .int i, .int j => Q (.bl (!decide (i = j))) H
  | .str a, .str b => Q (.bl (!decide (a = b))) H
  | .bl a, .bl b => Q (.bl (!decide (a = b))) H
  | .non, .non => Q (.bl false) H
  | .non, .int _ => Q (.bl true) H
  | .int _, .non => Q (.bl true) H
  | _, _ => False
def rLen (K : PySem.W.Frag) : List V → Hp → VK → Prop := fun vs H Q => match vs with
  | [.str z] => z.length ≤ sizeLine ∧ Q (.int z.length) H
  | [.ref p] => ∃ ys, (SqL K H p ys ∨ SqT K H p ys) ∧ Q (.int ys.length) H
  | _ => False
def rIxA (K : PySem.W.Frag) : R2 := fun x y H Q => match x, y with
  | .str z, .int i => z.length ≤ sizeLine ∧ ∃ c, atI z.cps.toList i = some c ∧ Q (.str ⟨#[c]⟩) H
  | .ref p, .int i => ∃ xs v, (SqL K H p xs ∨ SqT K H p xs) ∧ atI xs i = some v ∧ Q v H
  | _, _ => False
def rIntA : List V → Hp → VK → Prop := fun vs H Q => match vs with
  | [.int i] => Q (.int i) H
  | [.bl k] => Q (.int (if k then 1 else 0)) H
  | [.str z] => ∃ n, PySem.intText? z = some n ∧ z.length ≤ 640 ∧ Q (.int n) H
  | _ => False
def rMax2 : List V → Hp → VK → Prop := fun vs H Q => match vs with
  | [.int i, .int j] => Q (.int (if j > i then j else i)) H
  | _ => False
def rMin2 : List V → Hp → VK → Prop := fun vs H Q => match vs with
  | [.int i, .int j] => Q (.int (if j < i then j else i)) H
  | _ => False
def rStrI : List V → Hp → VK → Prop := fun vs H Q => match vs with
  | [.int i] => i.natAbs.log2 < 1920 ∧ Q (.str (toString i)) H
  | _ => False
def rListOf (K : PySem.W.Frag) : List V → Hp → VK → Prop := fun vs H Q => match vs with
  | [.ref p] => ∃ ys, (SqL K H p ys ∨ SqT K H p ys) ∧ ∀ l, H l = none → Q (.ref l) (upd H l (.lst ys))
  | _ => False
def isiO : HO → String → Option Bool
  | .tup _, c => if c = "tuple" then some true else if c = "list" ∨ c = "str" ∨ c = "int" then some false else none
  | .lst _, c => if c = "list" then some true else if c = "tuple" ∨ c = "str" ∨ c = "int" then some false else none
  | _, _ => none
def rIsi2 : List V → Hp → VK → Prop := fun vs H Q => match vs with
  | [.ref a, .ty c] => ∃ o b, H a = some o ∧ isiO o c = some b ∧ Q (.bl b) H
  | [x, .ty c] => ∃ b, isiF x c = some b ∧ Q (.bl b) H
  | _ => False
def rSlA (K : PySem.W.Frag) : V → Option Int → Option Int → Hp → VK → Prop := fun x lo hi H Q => match x with
  | .str z => z.length ≤ sizeLine ∧ Q (.str (cutS z lo hi)) H
  | .ref a => ∃ xs, SqL K H a xs ∧ ∀ p, H p = none → Q (.ref p) (upd H p (.lst (cutV xs lo hi)))
  | _ => False
def rStarts2 : V → List V → Hp → VK → Prop := fun x vs H Q => match x, vs with
  | .str a, [.str b] => Q (.bl (b.cps.toList.isPrefixOf a.cps.toList)) H
  | _, _ => False
def rEnds2 : V → List V → Hp → VK → Prop := fun x vs H Q => match x, vs with
  | .str a, [.str b] => Q (.bl (b.cps.toList.isSuffixOf a.cps.toList)) H
  | _, _ => False
section
variable {X : Cx}
theorem OpR.imp {f : Value → Value → Sem Value} {r r' : R2} (h : OpR X f r) (hi : ∀ x y H Q, r' x y H Q → r x y H Q) : OpR X f r' := fun pins s σ H x y v u Q I rx ry q => h pins s σ H x y v u Q I rx ry (hi x y H Q q)
theorem CallR.imp {f : Value} {r r' : List V → Hp → VK → Prop} (h : CallR X f r) (hi : ∀ vs H Q, r' vs H Q → r vs H Q) : CallR X f r' := fun pins s σ H vs us Q I rv q => h pins s σ H vs us Q I rv (hi vs H Q q)
theorem op_addB : OpR X (binaryOp .Add) rAddA := op_addA.imp fun x y H Q h => by
  unfold rAddA at h; split at h
  · exact .inl ⟨_, _, rfl, rfl, h⟩
  · exact .inr (.inl ⟨_, _, rfl, rfl, h⟩)
  · obtain ⟨xs, zs, h⟩ := h; exact .inr (.inr ⟨_, _, xs, zs, rfl, rfl, h⟩)
  · exact h.elim
theorem op_mulB : OpR X (binaryOp .Mult) rMulA := op_mulA.imp fun x y H Q h => by
  unfold rMulA at h; split at h
  · exact .inl ⟨_, _, rfl, rfl, h⟩
  · exact .inr (.inl ⟨_, _, rfl, rfl, h⟩)
  · obtain ⟨xs, h⟩ := h; exact .inr (.inr ⟨_, _, xs, rfl, rfl, h⟩)
  · exact h.elim
theorem rI2_imp {C : Int → Int → Prop} {g : Int → Int → V} (x y : V) (H : Hp) (Q : VK) (h : rI2 C g x y H Q) : rI C g x y H Q := by
  unfold rI2 at h; split at h
  · exact ⟨_, _, rfl, rfl, h⟩
  · exact h.elim
theorem rI3_imp {g : Int → Int → V} (x y : V) (H : Hp) (Q : VK) (h : rI3 g x y H Q) : rI0 g x y H Q := by
  unfold rI3 at h; split at h
  · exact ⟨_, _, rfl, rfl, h⟩
  · exact h.elim
theorem op_divB : OpR X (binaryOp .FloorDiv) rDivI := op_fdiv.imp rI2_imp
theorem op_modB : OpR X (binaryOp .Mod) rModI := op_mod.imp rI2_imp
theorem op_ltB : OpR X (compareOp .Lt) rLt := op_lt.imp rI3_imp
theorem op_gtB : OpR X (compareOp .Gt) rGt := op_gt.imp rI3_imp
theorem op_isNB : OpR X (compareOp .Is) rIsN := op_isN
theorem op_eqB : OpR X (compareOp .Eq) rEqS := op_eq.imp fun x y H Q h => by
  unfold rEqS at h; split at h
  · exact ⟨rfl, by simpa using h⟩
  · exact ⟨rfl, by simpa using h⟩
  · exact ⟨rfl, by simpa using h⟩
  · exact ⟨rfl, by simpa using h⟩
  · exact ⟨rfl, by simpa using h⟩
  · exact ⟨rfl, by simpa using h⟩
  · exact h.elim
theorem op_neB : OpR X (compareOp .NotEq) rNeS := op_ne.imp fun x y H Q h => by
  unfold rNeS at h; split at h
  · exact ⟨rfl, by simpa using h⟩
  · exact ⟨rfl, by simpa using h⟩
  · exact ⟨rfl, by simpa using h⟩
  · exact ⟨rfl, by simpa using h⟩
  · exact ⟨rfl, by simpa using h⟩
  · exact ⟨rfl, by simpa using h⟩
  · exact h.elim
theorem call_lenB : CallR X (.builtin "len") (rLen X.K) := (call_len_seq.or call_len_str).imp fun vs H Q h => by
  unfold rLen at h; split at h
  · exact .inr ⟨_, rfl, h⟩
  · obtain ⟨ys, h⟩ := h; exact .inl ⟨_, ys, rfl, h⟩
  · exact h.elim
theorem ix_B : IxR X (rIxA X.K) := fun a b pins s σ H x y v u Q I rx ry h hs => by
  refine ix_seq a b pins s σ H x y v u Q I rx ry ?_ hs
  unfold rIxA at h; split at h
  · obtain ⟨h1, c, h2, h3⟩ := h; exact .inr (.inr ⟨_, _, c, rfl, rfl, h1, h2, h3⟩)
  · obtain ⟨xs, v, h1 | h1, h2, h3⟩ := h
    · exact .inl ⟨_, xs, _, v, rfl, rfl, h1, h2, h3⟩
    · exact .inr (.inl ⟨_, xs, _, v, rfl, rfl, h1, h2, h3⟩)
  · exact h.elim
theorem call_listB : CallR X (.type "list") (rListOf X.K) := call_list_of.imp fun vs H Q h => by
  unfold rListOf at h; split at h
  · obtain ⟨ys, h⟩ := h; exact ⟨_, ys, rfl, h⟩
  · exact h.elim
theorem call_isiB : CallR X (.builtin "isinstance") rIsi2 := call_isiA.imp fun vs H Q h => by
  unfold rIsi2 at h; split at h
  · rename_i a c
    obtain ⟨o, b, e, hi, q⟩ := h
    refine ⟨_, c, rfl, ?_⟩
    cases o with
    | tup xs =>
      dsimp only [isiO] at hi
      split at hi
      · rename_i hc; cases hi; exact .inr (.inl ⟨a, xs, rfl, e, .inl ⟨hc, q⟩⟩)
      · split at hi
        · rename_i hc; cases hi; exact .inr (.inl ⟨a, xs, rfl, e, .inr ⟨hc, q⟩⟩)
        · cases hi
    | lst xs =>
      dsimp only [isiO] at hi
      split at hi
      · rename_i hc; cases hi; exact .inr (.inr ⟨a, xs, rfl, e, .inl ⟨hc, q⟩⟩)
      · split at hi
        · rename_i hc; cases hi; exact .inr (.inr ⟨a, xs, rfl, e, .inr ⟨hc, q⟩⟩)
        · cases hi
    | _ => cases hi
  · obtain ⟨b, e, q⟩ := h; exact ⟨_, _, rfl, .inl ⟨b, e, q⟩⟩
  · exact h.elim
end
/-! ### loops, from their reading -/
section
variable {D : Ends} {σ : St} {H : Hp} {g : TG} {tb : TS} {K : PySem.W.Frag}
/-- over range(n) -/
theorem tFor_rng1 {ta : TA} (n : Nat) (hn : n < 2 ^ 62) (Pv : Nat → St → Hp → Prop) (ht : ∀ R : List V → Hp → Prop, R [.int n] H → ta σ H R) (h0 : Pv 0 σ H)
    (hs : ∀ i σ H, i < n → Pv i σ H → g (.int i) σ H fun σ2 H2 => tb { D with nx := Pv (i + 1), ct := Pv (i + 1), bk := D.nx } σ2 H2) (hd : ∀ σ H, Pv n σ H → D.nx σ H) : tFor (iRng1 ta) g tb D σ H := by
  refine ht _ ⟨(n : Int), rfl, by omega, by omega, ?_⟩
  refine for_range (lo := 0) (n := (n : Int).toNat) Pv h0 (fun i σ H hi p => ?_) (by simpa using hd)
  rw [Int.zero_add]
  exact hs i σ H (by simpa using hi) p
end
end L2

end
section
set_option Elab.async false
set_option linter.all false
set_option maxRecDepth 100000
set_option maxHeartbeats 4000000
namespace L2
open PySem PySem.Spec
local macro_rules | `(tactic| walk_at "rd") => `(tactic| try simp only [tVar, tC, tOp, tUn, tSeq, tAsg, gName, tRet, tRetN, tIfS, tDrop, tNext, tCons, tNil, tCall, tCB, tTest, tB, tAnd, tOr, tNot, tAndV, tOrV, tNotV, tIf, tTup, tLst, tSl, tPart, tNoPart, tBM, tBM0, L2.start, rI2, rI3, rAddA, rMulA, rSubI, rDivI, rModI, rPowI, rNegI, rLt, rLe, rGt, rGe, rIsN, rNotN, rEqS, rNeS, rLen, rIxA, rIntA, rMax2, rMin2, rStrI, rListOf, rIsi2, isiF, isiO, rSlA, rStarts2, rEnds2, CDiv,
  List.map_cons, List.map_nil, List.length_cons, List.length_nil, List.replicate_succ, List.replicate_zero, List.cons_append, List.nil_append, List.append_nil, List.getElem?_cons_zero, List.getElem?_cons_succ, List.set_cons_zero, List.set_cons_succ, Option.some.injEq, V.int.injEq, V.str.injEq, V.bl.injEq, V.ref.injEq, V.ty.injEq, reduceCtorEq, exists_eq_left', exists_eq_left, exists_eq_right, exists_eq_right', exists_eq', exists_eq, exists_and_left, exists_and_right, false_and, and_false, true_and, and_true, exists_const, exists_false, false_or, or_false, List.cons.injEq, and_assoc, decide_eq_true_eq, decide_true, decide_false, Int.reduceLT, Int.reduceLE, Nat.reduceLT, Nat.reduceLeDiff, Nat.reduceSub, Nat.reduceAdd, Nat.sub_self, Nat.sub_zero, enc_eq, enc_nil, enc_0, enc_1, enc_01, enc_append, enc_len, Bool.not_true, Bool.not_false, Bool.false_eq_true, if_true, if_false, ↓reduceIte, String.reduceEq, or_true, true_or, Nat.one_mul, addr_len, bitsBy_len, List.length_append, List.length_replicate, List.length_map])
local macro_rules | `(tactic| walk_at "sz") => `(tactic| (have hline := line_ge; first | omega | (simp; omega)))
theorem tSeq_gen {t u : TS} {D : Ends} {σ : St} {H : Hp} (h : ∀ U : TS, U = u → t { D with nx := U D } σ H) : tSeq t u D σ H := h u rfl
def rb_number_of_1 (K : PySem.W.Frag) : TS :=
  (tAsg (tOp rAddA (tOp rMulA (tVar 1) (tC (.int 2))) (tCB rIntA (tCons (tVar 2) tNil))) (gName 1))
def rd_number_of (K : PySem.W.Frag) : TS :=
  (tSeq (tAsg (tC (.int 0)) (gName 1))
  (tSeq (tFor (iStr (tVar 0)) (gName 2) (rb_number_of_1 K))
  (tRet (tVar 1))))
def nm_number_of : List Str := ["text", "number", "sign"]
def sp_number_of (K : PySem.W.Frag) : Sp := fun vs H Q _ => ∃ bs, vs = [.str (enc bs)] ∧ bs.length ≤ 100 ∧ Q (.int (val bs)) H
def rb_address_of_1 (K : PySem.W.Frag) : TS :=
  (tSeq (tAsg (tOp rAddA (tCB rStrI (tCons (tOp rModI (tVar 3) (tC (.int 2))) tNil)) (tVar 2)) (gName 2))
  (tAsg (tOp rDivI (tVar 3) (tC (.int 2))) (gName 3)))
def rd_address_of (K : PySem.W.Frag) : TS :=
  (tSeq (tAsg (tC (.str (Str.ofString ""))) (gName 2))
  (tSeq (tAsg (tVar 0) (gName 3))
  (tSeq (tWhile (tTest (tOp rLt (tCB (rLen K) (tCons (tVar 2) tNil)) (tVar 1))) (rb_address_of_1 K))
  (tRet (tVar 2)))))
def nm_address_of : List Str := ["number", "size", "address", "rest"]
def sp_address_of (K : PySem.W.Frag) : Sp := fun vs H Q _ => ∃ (n k : Int), vs = [.int n, .int k] ∧ 0 ≤ n ∧ 0 ≤ k ∧ k ≤ 100 ∧ Q (.str (enc (addr k.toNat n))) H
def rd_span_of (K : PySem.W.Frag) : TS :=
  (tSeq (tAsg (tOp rSubI (tVar 1) (tCB (rLen K) (tCons (tVar 0) tNil))) (gName 2))
  (tRet (tTup (tCons (tCall (sp_number_of K) [] E0 (tCons (tOp rAddA (tVar 0) (tOp rMulA (tC (.str (Str.ofString "0"))) (tVar 2))) tNil)) (tCons (tCall (sp_number_of K) [] E0 (tCons (tOp rAddA (tVar 0) (tOp rMulA (tC (.str (Str.ofString "1"))) (tVar 2))) tNil)) tNil)))))
def nm_span_of : List Str := ["head", "size", "missing"]
def sp_span_of (K : PySem.W.Frag) : Sp := fun vs H Q _ => ∃ (bs : List Bool) (k : Int), vs = [.str (enc bs), .int k] ∧ bs.length ≤ k ∧ k ≤ 100 ∧ ∀ p, H p = none → Q (.ref p) (upd H p (.tup [.int (val bs * 2 ^ (k.toNat - bs.length)), .int (val bs * 2 ^ (k.toNat - bs.length) + 2 ^ (k.toNat - bs.length) - 1)]))
def rd_law_cell_at (K : PySem.W.Frag) : TS :=
  (tSeq (tIfS (tTest (tOp rLt (tVar 1) (tCB (rLen K) (tCons (tVar 0) tNil)))) (tRet (tOp (rIxA K) (tVar 0) (tVar 1))) tNext)
  (tRet (tC (.int 0))))
def nm_law_cell_at : List Str := ["script", "k"]
def cell (ns : List Int) (k : Int) : Int := ns.getD k.toNat 0
def sp_law_cell_at (K : PySem.W.Frag) : Sp := fun vs H Q _ => ∃ (a : Addr) (ns : List Int) (k : Int), vs = [.ref a, .int k] ∧ 0 ≤ k ∧ SqL K H a (ns.map V.int) ∧ Q (.int (cell ns k)) H
theorem len_law_cell_at {K vs H Q E} (h : sp_law_cell_at K vs H Q E) : vs.length = 2 := by obtain ⟨_, _, _, rfl, _⟩ := h; rfl
theorem rdok_law_cell_at {K vs H Q E} (h : sp_law_cell_at K vs H Q E) : rd_law_cell_at K { nx := fun _ H' => Q .non H', rt := Q } (start nm_law_cell_at vs) H := by
  obtain ⟨a, ns, k', rfl, hk0, hs, q⟩ := h
  obtain ⟨k, rfl⟩ := Int.eq_ofNat_of_zero_le hk0
  simp only [rd_law_cell_at, nm_law_cell_at]
  walk_at "rd"
  refine ⟨_, .inl hs, ?_⟩
  rw [List.length_map]
  split
  · rename_i h
    have hk : k < ns.length := by omega
    refine ⟨_, .inl hs, .int (cell ns k), atI_nat ?_, q⟩
    unfold cell
    simp [hk]
  · rename_i h
    have hk : ns.length ≤ k := by omega
    have : cell ns (k : Int) = 0 := by unfold cell; simp [hk]
    rw [this] at q
    exact q
theorem cell_app {K H Q E} {a : Addr} {ns : List Int} (hs : SqL K H a (ns.map V.int)) {k : Int} (hk : 0 ≤ k) (q : Q (.int (cell ns k)) H) : sp_law_cell_at K [.ref a, .int k] H Q E := ⟨a, ns, k, rfl, hk, hs, q⟩
def rd_law_whole (K : PySem.W.Frag) : TS :=
  (tRet (tAndV (tCB rIsi2 (tCons (tVar 0) (tCons (tC (.ty "int")) tNil))) (tNotV (tCB rIsi2 (tCons (tVar 0) (tCons (tC (.ty "bool")) tNil))))))
def nm_law_whole : List Str := ["found"]
def sp_law_whole (K : PySem.W.Frag) : Sp := fun vs H Q _ => match vs with
  | [.int _] => Q (.bl true) H
  | [.bl _] => Q (.bl false) H
  | [.non] => Q (.bl false) H
  | [.str _] => Q (.bl false) H
  | _ => False
theorem len_law_whole {K vs H Q E} (h : sp_law_whole K vs H Q E) : vs.length = 1 := by unfold sp_law_whole at h; split at h <;> first | rfl | exact h.elim
theorem rdok_law_whole {K vs H Q E} (h : sp_law_whole K vs H Q E) : rd_law_whole K { nx := fun _ H' => Q .non H', rt := Q } (start nm_law_whole vs) H := by
  unfold sp_law_whole at h
  simp only [rd_law_whole, nm_law_whole]
  split at h
  · walk_at "rd"; exact h
  · walk_at "rd"; exact h
  · walk_at "rd"; exact h
  · walk_at "rd"; exact h
  · exact h.elim
def rb_law_bits_by_1 (K : PySem.W.Frag) : TS :=
  (tSeq (tAsg (tOp rAddA (tVar 2) (tOp (rIxA K) (tC (.str (Str.ofString "01"))) (tOp rModI (tVar 0) (tC (.int 2))))) (gName 2))
  (tAsg (tOp rDivI (tVar 0) (tC (.int 2))) (gName 0)))
def rd_law_bits_by (K : PySem.W.Frag) : TS :=
  (tSeq (tAsg (tC (.str (Str.ofString ""))) (gName 2))
  (tSeq (tFor (iRng1 (tCons (tVar 1) tNil)) (gName 3) (rb_law_bits_by_1 K))
  (tRet (tVar 2))))
def nm_law_bits_by : List Str := ["cell", "size", "text", "k"]
def sp_law_bits_by (K : PySem.W.Frag) : Sp := fun vs H Q _ => ∃ (c k : Int), vs = [.int c, .int k] ∧ 0 ≤ k ∧ k ≤ 100 ∧ Q (.str (enc (bitsBy k.toNat c))) H
theorem len_law_bits_by {K vs H Q E} (h : sp_law_bits_by K vs H Q E) : vs.length = 2 := by obtain ⟨_, _, rfl, _⟩ := h; rfl
theorem rdok_law_bits_by {K vs H Q E} (h : sp_law_bits_by K vs H Q E) : rd_law_bits_by K { nx := fun _ H' => Q .non H', rt := Q } (start nm_law_bits_by vs) H := by
  obtain ⟨c, k', rfl, hk0, hk, q⟩ := h
  obtain ⟨k, rfl⟩ := Int.eq_ofNat_of_zero_le hk0
  rw [Int.toNat_natCast] at q
  simp only [rd_law_bits_by, nm_law_bits_by]
  walk_at "rd"
  refine tFor_rng1 k (by omega) (fun i σ H' => H' = H ∧ ∃ o, σ = [some (.int (c / 2 ^ i)), some (.int k), some (.str (enc (bitsBy i c))), o]) ?_ ⟨rfl, none, by simp [bitsBy]⟩ ?_ ?_
  · intro R h; walk_at "rd"; exact h
  · rintro i σ H' hi ⟨rfl, o, rfl⟩
    simp only [rb_law_bits_by_1]
    walk_at "rd"
    refine ⟨by walk_at "sz", _, item_01 _, ?_⟩
    rw [sign_enc]
    walk_at "rd"
    refine ⟨by walk_at "sz", ?_, ?_⟩
    · rw [Int.ediv_ediv_of_nonneg (Int.le_of_lt (pow_pos' i)), ← Int.pow_succ]
    · rw [bitsBy_snoc]
  · rintro σ H' ⟨rfl, o, rfl⟩
    walk_at "rd"
    exact q
def rb_law_text_1 (K : PySem.W.Frag) : TS :=
  (tSeq (tAsg (tOp rAddA (tOp (rIxA K) (tC (.str (Str.ofString "01"))) (tOp rModI (tVar 0) (tC (.int 2)))) (tVar 2)) (gName 2))
  (tAsg (tOp rDivI (tVar 0) (tC (.int 2))) (gName 0)))
def rd_law_text (K : PySem.W.Frag) : TS :=
  (tSeq (tAsg (tC (.str (Str.ofString ""))) (gName 2))
  (tSeq (tFor (iRng1 (tCons (tVar 1) tNil)) (gName 3) (rb_law_text_1 K))
  (tRet (tVar 2))))
def nm_law_text : List Str := ["number", "size", "text", "k"]
def sp_law_text (K : PySem.W.Frag) : Sp := fun vs H Q _ => ∃ (n k : Int), vs = [.int n, .int k] ∧ 0 ≤ k ∧ k ≤ 100 ∧ Q (.str (enc (addr k.toNat n))) H
def rb_law_many_1 (K : PySem.W.Frag) : TS :=
  (tAsg (tOp rAddA (tVar 1) (tVar 1)) (gName 1))
def rd_law_many (K : PySem.W.Frag) : TS :=
  (tSeq (tAsg (tC (.int 1)) (gName 1))
  (tSeq (tFor (iRng1 (tCons (tVar 0) tNil)) (gName 2) (rb_law_many_1 K))
  (tRet (tVar 1))))
def nm_law_many : List Str := ["size", "total", "k"]
def sp_law_many (K : PySem.W.Frag) : Sp := fun vs H Q _ => ∃ (k : Int), vs = [.int k] ∧ 0 ≤ k ∧ k ≤ 100 ∧ Q (.int (2 ^ k.toNat)) H
def rb_law_number_1 (K : PySem.W.Frag) : TS :=
  (tAsg (tOp rAddA (tOp rAddA (tVar 1) (tVar 1)) (tCB rIntA (tCons (tOp rEqS (tVar 2) (tC (.str (Str.ofString "1")))) tNil))) (gName 1))
def rd_law_number (K : PySem.W.Frag) : TS :=
  (tSeq (tAsg (tC (.int 0)) (gName 1))
  (tSeq (tFor (iStr (tVar 0)) (gName 2) (rb_law_number_1 K))
  (tRet (tVar 1))))
def nm_law_number : List Str := ["text", "total", "sign"]
def sp_law_number (K : PySem.W.Frag) : Sp := fun vs H Q _ => ∃ bs, vs = [.str (enc bs)] ∧ Q (.int (val bs)) H
end L2

end
section
set_option Elab.async false
set_option linter.all false
set_option maxRecDepth 100000
namespace L2
open PySem PySem.Spec PyProof.Rows

/-! ### a comprehension's block -/
def cxComp (X : Cx) (x : Str) (js : List (Nat × Str)) (scope : Scope) (cl : List (Str × Addr)) (C : Addr) (s2 : Shared) (H2 : Hp) (fp : List Addr) : Cx where
  prog := X.prog
  w := X.w
  K := X.K
  mg := X.mg
  base := X.base
  A := X.A
  N := x :: js.map (·.2)
  s₀ := s2
  H₀ := H2
  env := compEnvC scope cl C X.env
  outer := X.stack
  stack := X.stack
  ex := fp
  fn := fun _ => false
  calm := X.calm
  pn := []
  xe := fun _ _ => False
/-- what the block's scope is to be like -/
structure CompSc (X : Cx) (x : Str) (js : List (Nat × Str)) (scope : Scope) (cl : List (Str × Addr)) : Prop where
  clos : closureFor scope X.env = pure cl
  nocell : ∀ y ∈ scope.names, y.2 ≠ .cell
  kind : scope.kind = .function
  names : ∀ y ∈ scope.names, y.2 = .local → scope.names.lookup y.1 = some .local
  own : scope.names.lookup x = some .local
  cells : ∀ y c, cl.lookup y = some c → X.env.cells.lookup y = some c
  has : ∀ y, ((relabel scope X.env).names.lookup y = some .cell ∨ (relabel scope X.env).names.lookup y = some .free) → ∃ c, cl.lookup y = some c
  nd : (x :: js.map (·.2)).Nodup
  js : ∀ p ∈ js, X.N[p.1]? = some p.2 ∧ X.env.kindOf p.2 = some .cell ∧ (relabel scope X.env).names.lookup p.2 = some .cell ∧ ∃ c, cl.lookup p.2 = some c
/-- a block that captures nothing -/
theorem CompSc.plain {X : Cx} {x : Str} {scope : Scope} (hl : ∀ y ∈ scope.names, y.2 = .local ∨ y.2 = .globalImplicit) (hk : scope.kind = .function) (hn : ∀ y ∈ scope.names, y.2 = .local → scope.names.lookup y.1 = some .local) (own : scope.names.lookup x = some .local) : CompSc X x [] scope [] := by
  have nf : ∀ y ∈ scope.names, y.2 ≠ .free := fun y hy e => by rcases hl y hy with h | h <;> rw [h] at e <;> cases e
  have mem : ∀ (l : List (Str × NameKind)) (y : Str) (k : NameKind), l.lookup y = some k → ∃ z ∈ l, z.2 = k := by
    intro l
    induction l with
    | nil => intro y k h; simp at h
    | cons z r ih =>
      intro y k h
      rw [List.lookup_cons] at h
      cases e : y == z.1 with
      | true => rw [e] at h; exact ⟨z, List.mem_cons_self, Option.some.inj h⟩
      | false =>
        rw [e] at h
        obtain ⟨q, hq, e'⟩ := ih y k h
        exact ⟨q, List.mem_cons_of_mem _ hq, e'⟩
  have er : (relabel scope X.env).names = scope.names := by
    unfold relabel
    exact map_eq_self fun y hy => by
      have : (y.2 == NameKind.free) = false := by simpa using nf y hy
      simp [this]
  refine ⟨closureFor_none nf, fun y hy e => ?_, hk, hn, own, fun y c h => by simp at h, fun y h => ?_, by simp, fun p hp => by simp at hp⟩
  · rcases hl y hy with h | h <;> rw [h] at e <;> cases e
  · rw [er] at h
    rcases h with h | h
    · obtain ⟨z, hz, e⟩ := mem _ _ _ h
      rcases hl z hz with h | h <;> rw [h] at e <;> cases e
    · obtain ⟨z, hz, e⟩ := mem _ _ _ h
      exact absurd e (nf z hz)
/-- the values of the captured names -/
def capt (js : List (Nat × Str)) (σ : St) : St := js.map fun p => (σ[p.1]?).getD none
section
variable {X : Cx} {pins : List (Addr × Obj)} {σ : St} {H2 : Hp} {s2 : Shared} {x : Str} {js : List (Nat × Str)} {scope : Scope} {cl : List (Str × Addr)} {fp : List Addr} {J : It} {it : Addr} {tn : Nat → Heap → Prop} {tg : Expr}
theorem comp_ok {C : Addr} (I : Inv X pins σ H2 s2) (S : CompSc X x js scope cl) (T : Turn X.prog X.w X.K tg J fp it tn) (h0 : tn 0 s2.heap) (hf : ∀ b ∈ fp, FpOk X pins H2 b) (hC : s2.heap.objs.size ≤ C) : (cxComp X x js scope cl C s2 H2 fp).Ok where
  mod := I.ok.mod
  kind := S.kind
  glob := I.ok.glob
  blt := I.ok.blt
  above := hC
  inj := fun y z c h1 h2 => I.ok.inj y z c (S.cells y c h1) (S.cells z c h2)
  has := fun y hy => S.has y hy
  cab := fun y c h _ => absurd h (by simp [cxComp])
  hd := I.ok.hd
  frames := I.ok.frames
  stk := .inl rfl
  exf := fun b hb => ⟨fun e => by
    obtain ⟨o, ho, _⟩ := T.obj 0 _ h0 b hb
    have h2 : b = C := e
    exact absurd (Heap.lt_size ho) (Nat.not_lt.mpr (h2 ▸ hC)), fun y c h => (hf b hb).2.2.2.2.1 y c (S.cells y c h)⟩
  bs := I.bs
  bsz := Nat.le_trans I.ok.bsz I.sz
  noex := fun b o e hb => by
    rcases (hf b hb).2.2.2.1 with h | h
    · exact I.ok.noex b o e h
    · exact absurd (Heap.lt_size (I.ok.bs b o e).1) (Nat.not_lt.mpr h)
  exfs := fun b hb hs => (List.mem_cons.mp (I.stkSub b hs)).elim (hf b hb).2.1 (hf b hb).2.2.1
  funs := I.stack
  frf := I.stkFree
/-- at the block's entry -/
theorem comp_start {h1 : Heap} {tk : Nat} (I : Inv X pins σ H2 s2) (S : CompSc X x js scope cl) (T : Turn X.prog X.w X.K tg J fp it tn) (h0 : tn 0 s2.heap) (hf : ∀ b ∈ fp, FpOk X pins H2 b)
    (hl : h1.get? s2.heap.objs.size = some { cls := .type "list", data := .seq #[] 0 }) (hns : h1.Ns (s2.heap.objs.size + 1) (fun _ => none)) (hk : ∀ b o, s2.heap.get? b = some o → h1.get? b = some o) :
    Inv (cxComp X x js scope cl (s2.heap.objs.size + 1) s2 H2 fp) [] (none :: capt js σ) (upd H2 s2.heap.objs.size (.lst [])) { s2 with heap := h1, toks := tk } := by
  have hfr : ∀ a, s2.heap.objs.size ≤ a → H2 a = none := fun a ha => I.hok.fresh ha
  refine ⟨comp_ok I S T h0 hf (Nat.le_succ _), rfl, I.bare, Un.laid hk (Nat.le_refl _) (hfr _ (Nat.le_refl _)), ⟨_, hns, fun i y v e1 e2 e3 => ?_⟩, fun y c h => ?_, ?_, fun y c h => ?_, fun p hp => absurd hp (by simp [cxComp]), ?_, ?_⟩
  · -- a captured name
    cases i with
    | zero => simp at e2
    | succ i =>
      have e1 : (js.map (·.2))[i]? = some y := by simpa [cxComp] using e1
      have e2 : (capt js σ)[i]? = some (some v) := by simpa using e2
      rw [List.getElem?_map] at e1
      unfold capt at e2
      rw [List.getElem?_map] at e2
      cases ej : js[i]? with
      | none => rw [ej] at e1; cases e1
      | some p =>
        rw [ej] at e1 e2
        have e1 : p.2 = y := Option.some.inj e1
        have e2 : (σ[p.1]?).getD none = some v := Option.some.inj e2
        obtain ⟨q1, q2, q3, c, q4⟩ := S.js p (List.mem_of_getElem? ej)
        have e4 : σ[p.1]? = some (some v) := by
          cases es : σ[p.1]? with
          | none => rw [es] at e2; cases e2
          | some o => rw [es] at e2; exact congrArg some e2
        obtain ⟨m, _, hloc⟩ := I.loc
        subst e1
        obtain ⟨u, ru, lk⟩ := hloc p.1 p.2 v q1 e4 (.inr (.inl q2))
        rcases lk with ⟨k1, _⟩ | ⟨_, c', k2, k3⟩
        · rw [q2] at k1; cases k1
        · have : c' = c := by rw [S.cells _ _ q4] at k2; exact (Option.some.inj k2).symm
          subst this
          obtain ⟨o, ho, hd⟩ := k3
          exact ⟨u, ru, .inr ⟨.inl q3, c', q4, o, hk _ o ho, hd⟩⟩
  · obtain ⟨v, o, ho, hd⟩ := I.cell y c (S.cells y c h)
    exact ⟨v, o, hk _ o ho, hd⟩
  · show upd H2 s2.heap.objs.size (.lst []) (s2.heap.objs.size + 1) = none
    rw [upd_ne (Nat.succ_ne_self _)]; exact hfr _ (Nat.le_succ _)
  · obtain ⟨v, o, ho, hd⟩ := I.cell y c (S.cells y c h)
    rw [upd_ne (Nat.ne_of_lt (Heap.lt_size ho))]
    exact I.freeC y c (S.cells y c h)
  · exact I.hok.laid hk (Nat.le_refl _) ⟨Nat.zero_le _, [], 0, .nil, hl⟩
  · simp [cxComp, capt]
end
/-- the tests of a comprehension (none or one) -/
def tAlways : TT := fun _ H Q => Q true H
inductive PIfs (Y : Cx) : List Expr → TT → Prop
  | nil : PIfs Y [] tAlways
  | one {c : Expr} {t : TT} : PT Y c t → PIfs Y [c] t
/-- the loop of a comprehension with one clause, by an invariant with a measure -/
theorem comp_loop {prog : Program} {w : World} {A : Around} {R : Result → Shared → Prop} {s : Shared} {elt tg iter : Expr} {ifs : List Expr} {scope : Scope} {pos : Pos} {it acc : Value} {cenv : Env} (Z : Nat → Shared → Prop)
    (turn : ∀ k s1, Z k s1 → wpAny (model prog w) A (pyNext it) (fun r s2 => match r with
      | none => R (.ok .next) s2
      | some v => wpAny (model prog w) A (letOwnedTupleGo tg it v) (fun _ s3 => wpAny (model prog w) A (assign tg cenv v) (fun _ s4 =>
          wpAny (model prog w) A (forIn ifs true fun c r => if r = true then do let ok ← isTrue c cenv (eval c cenv); pure (ForInStep.yield ok) else pure (ForInStep.yield r)) (fun ok s5 =>
            if ok = true then wpAny (model prog w) A (eval elt cenv) (fun y s6 =>
              wpAny (model prog w) A (call (.builtin "list.append") [acc, y]) (fun _ s7 => ∃ j, j < k ∧ Z j s7) (notedBy (model prog w) A cenv fun e s' => R (.error e) s') s6) (notedBy (model prog w) A cenv fun e s' => R (.error e) s') s5
            else ∃ j, j < k ∧ Z j s5) (notedBy (model prog w) A cenv fun e s' => R (.error e) s') s4) (notedBy (model prog w) A cenv fun e s' => R (.error e) s') s3) (notedBy (model prog w) A cenv fun e s' => R (.error e) s') s2)
        (notedBy (model prog w) A cenv fun e s' => R (.error e) s') s1) (k0 : Nat) (z0 : Z k0 s) :
    codeAny (model prog w) A (.compLoop (.ListComp elt [⟨tg, iter, ifs, 0⟩] scope pos) 0 it acc cenv) R s := by
  refine codeAny_loop (by rfl) Z (fun k s1 z1 => ?_) k0 z0
  show wpAny _ A ((compTurn (.ListComp elt [⟨tg, iter, ifs, 0⟩] scope pos) 0 it acc cenv).onRaise (fun y => do noteFrame y cenv; theTreesLotGoes y)) _ _ s1
  refine wpAny_noted ?_
  rw [compTurn_list]
  refine wpAny_bind (wpAny_standAt (wpAny_bind (thn (turn k s1 z1) fun r s2 h2 => ?_)))
  cases r with
  | none => exact wpAny_pure h2
  | some v =>
    refine wpAny_bind (thn h2 fun _ s3 h3 => wpAny_bind (thn h3 fun _ s4 h4 => wpAny_bind (thn h4 fun ok s5 h5 => ?_)))
    cases ok with
    | false => exact wpAny_pure ⟨rfl, h5⟩
    | true => exact wpAny_bind (wpAny_bind (thn h5 fun y s6 h6 => wpAny_bind (thn h6 fun _ s7 h7 => wpAny_pure (wpAny_pure ⟨rfl, h7⟩))))
/-- a list by a comprehension -/
def tComp (js : List (Nat × Str)) (wi : TI) (ti : TT) (te : TE) : TE := fun σ H Q => wi σ H fun J H1 => ∀ l, H1 l = none → ∃ W : Nat → Nat → List V → Hp → Prop, (∃ m, W 0 m [] (upd H1 l (.lst []))) ∧
  ∀ i m ys H, W i m ys H → (J.stop i H ∧ Q (.ref l) H) ∨ (J.go i H ∧ ∀ v H', J.yld i H v H' → ti (some v :: capt js σ) H' fun b H2 =>
    if b = true then te (some v :: capt js σ) H2 fun y H3 => ∃ m', m' < m ∧ H3 l = some (.lst ys) ∧ ys.length < sizeLine ∧ W (i + 1) m' (ys ++ [y]) (upd H3 l (.lst (ys ++ [y]))) else ∃ m', m' < m ∧ W (i + 1) m' ys H2)
section
variable {X : Cx} {pins : List (Addr × Obj)} {σ : St} {H2 : Hp} {s2 : Shared} {x : Str} {px : Pos} {js : List (Nat × Str)} {scope : Scope} {cl : List (Str × Addr)} {fp : List Addr} {J : It} {it : Addr} {tn : Nat → Heap → Prop} {elt iter : Expr} {ifs : List Expr} {pos : Pos}
theorem comp_block {ti : TT} {te : TE} {Q : VK} {E : Value → Shared → Prop} {RR : Value → Addr → Result → Shared → Prop} (I : Inv X pins σ H2 s2) (hc : X.calm = true) (S : CompSc X x js scope cl) (T : Turn X.prog X.w X.K (.Name x px) J fp it tn) (h0 : tn 0 s2.heap) (hf : ∀ b ∈ fp, FpOk X pins H2 b)
    (he : ∀ Y, Y = cxComp X x js scope cl (s2.heap.objs.size + 1) s2 H2 fp → PE Y elt te) (hi : ∀ Y, Y = cxComp X x js scope cl (s2.heap.objs.size + 1) s2 H2 fp → PIfs Y ifs ti)
    (W : Nat → Nat → List V → Hp → Prop) (w0 : ∃ m, W 0 m [] (upd H2 s2.heap.objs.size (.lst [])))
    (turn : ∀ i m ys H, W i m ys H → (J.stop i H ∧ Q (.ref s2.heap.objs.size) H) ∨ (J.go i H ∧ ∀ v H', J.yld i H v H' → ti (some v :: capt js σ) H' fun b H2 =>
      if b = true then te (some v :: capt js σ) H2 fun y H3 => ∃ m', m' < m ∧ H3 s2.heap.objs.size = some (.lst ys) ∧ ys.length < sizeLine ∧ W (i + 1) m' (ys ++ [y]) (upd H3 s2.heap.objs.size (.lst (ys ++ [y]))) else ∃ m', m' < m ∧ W (i + 1) m' ys H2))
    (hRR : ∀ C H' s', Inv X pins σ H' s' → FpOk X pins H' C → (∃ m, s'.heap.Ns C m) → Q (.ref s2.heap.objs.size) H' → RR (.ref s2.heap.objs.size) C (.ok .next) s') :
    wpAny (model X.prog X.w) X.A (newList []) (fun acc s₃ => wpAny (model X.prog X.w) X.A (newFunctionEnv scope X.env.globals cl [] X.env.qual none .none (some X.env)) (fun cenv s₄ =>
      codeAny (model X.prog X.w) X.A (.compStart (.ListComp elt [⟨.Name x px, iter, ifs, 0⟩] scope pos) 0 (.ref it) acc { cenv with scope := relabel scope X.env }) (RR acc cenv.locals) s₄) E s₃) E s2 := by
  refine wpAny_newObj_type (wpAny_newFunctionEnv S.nocell (by intro y hy; simp at hy) (fun h1 hns hsb => ?_) S.kind)
  have hsz : (s2.heap.push { cls := .type "list", data := .seq ([] : List Value).toArray }).objs.size = s2.heap.objs.size + 1 := Heap.size_push ..
  dsimp only at hns hsb ⊢
  rw [hsz] at hns hsb
  have keep : ∀ b o, s2.heap.get? b = some o → h1.get? b = some o := fun b o e => by
    exact hsb.extBut b o (Nat.ne_of_lt (Nat.lt_succ_of_lt (Heap.lt_size e))) (Heap.get?_push_of_some _ (Heap.get?_push_of_some _ e))
  have hl : h1.get? s2.heap.objs.size = some { cls := .type "list", data := .seq #[] 0 } :=
    hsb.extBut _ _ (Nat.ne_of_lt (Nat.lt_succ_self _)) (Heap.get?_push_of_some _ (Heap.get?_push_size _ rfl))
  have IY := comp_start (tk := s2.toks + ([] : List (Str × Value)).length) I S T h0 hf hl hns keep
  have hsz2 : (s2.heap.push { cls := .type "list", data := .seq ([] : List Value).toArray }).objs.size = s2.heap.objs.size + 1 := hsz
  generalize hY : cxComp X x js scope cl (s2.heap.objs.size + 1) s2 H2 fp = Y at IY
  have PEe := he Y hY.symm
  have PIi := hi Y hY.symm
  have fpY : ∀ {H' : Hp}, (∀ b ∈ fp, H' b = none) → ∀ b ∈ fp, FpOk Y [] H' b := fun hn b hb => by
    subst hY
    exact ⟨hn b hb, (IY.ok.exf b hb).1, IY.ok.exfs b hb, .inl hb, fun y c h => (IY.ok.exf b hb).2 y c h, fun p hp => absurd hp (by simp [cxComp])⟩
  have eP : Y.prog = X.prog := by rw [← hY]; rfl
  have eW : Y.w = X.w := by rw [← hY]; rfl
  have eK : Y.K = X.K := by rw [← hY]; rfl
  have eA : Y.A = X.A := by rw [← hY]; rfl
  have eC : Y.calm = true := by rw [← hY]; exact hc
  have eE : Y.env = compEnvC scope cl (s2.heap.objs.size + 1) X.env := by rw [← hY]; rfl
  have eX : Y.xe = fun _ _ => False := by rw [← hY]; rfl
  obtain ⟨m0, w0⟩ := w0
  -- the end of the block
  have fin : ∀ {σY : St} {H' : Hp} {s' : Shared}, Inv Y [] σY H' s' → Q (.ref s2.heap.objs.size) H' → RR (.ref s2.heap.objs.size) (s2.heap.objs.size + 1) (.ok .next) s' := fun {σY H' s'} J' q => by
    have hu : Un (frs X.stack) fp H2 H' s2.heap s'.heap := by have := J'.base; rw [← hY] at this; exact this
    have ho : s'.os = s2.os := by have := J'.os; rw [← hY] at this; exact this
    have hk : HOk X.prog X.w H' s'.heap := by have := J'.hok; rw [eP, eW] at this; exact this
    have I' : Inv X pins σ H' s' := I.call' ho hu hk J'.bare fun b hb => ⟨(hf b hb).2.2.2.1, (hf b hb).2.1, (hf b hb).2.2.2.2.1, (hf b hb).2.2.2.2.2⟩
    have hfree : H' (s2.heap.objs.size + 1) = none := by have := J'.free; rw [eE] at this; exact this
    have hns' : ∃ m, s'.heap.Ns (s2.heap.objs.size + 1) m := by obtain ⟨m, hm, _⟩ := J'.loc; rw [eE] at hm; exact ⟨m, hm⟩
    exact hRR _ H' s' I' (I.fpOk (Nat.le_succ _) hfree) hns' q
  have loop : codeAny (model X.prog X.w) X.A (.compLoop (.ListComp elt [⟨.Name x px, iter, ifs, 0⟩] scope pos) 0 (.ref it) (.ref s2.heap.objs.size) (compEnvC scope cl (s2.heap.objs.size + 1) X.env)) (RR (.ref s2.heap.objs.size) (s2.heap.objs.size + 1)) { s2 with heap := h1, toks := s2.toks + ([] : List (Str × Value)).length } := by
    refine comp_loop (fun n s => ∃ i ys o H', Inv Y [] (o :: capt js σ) H' s ∧ tn i s.heap ∧ (∀ b ∈ fp, H' b = none) ∧ W i n ys H') ?_ m0 ⟨0, [], none, _, IY, T.keep 0 _ _ h0 fun b _ o e => keep b o e, fun b hb => ?_, w0⟩
    · rintro n s3 ⟨i, ys, o3, H3, I3, st3, fr3, w3⟩
      rcases turn i n ys H3 w3 with ⟨stop, q⟩ | ⟨go, step⟩
      · have hd := T.done Y eP eW eK eC i [] s3 (o3 :: capt js σ) H3 (notedBy (model X.prog X.w) X.A (compEnvC scope cl (s2.heap.objs.size + 1) X.env) fun e s' => RR (.ref s2.heap.objs.size) (s2.heap.objs.size + 1) (.error e) s') I3 (fpY fr3) st3 stop
        rw [eA] at hd
        refine thn hd fun r s4 ⟨hr, I4⟩ => ?_
        subst hr
        exact fin I4 q
      · have hd := T.item Y eP eW eK eC i [] s3 (o3 :: capt js σ) H3 (notedBy (model X.prog X.w) X.A (compEnvC scope cl (s2.heap.objs.size + 1) X.env) fun e s' => RR (.ref s2.heap.objs.size) (s2.heap.objs.size + 1) (.error e) s') I3 (fpY fr3) st3 go
        rw [eA] at hd
        refine thn hd fun r s4 ⟨u, hr, h4⟩ => ?_
        subst hr
        refine thn h4 fun _ s5 ⟨v, H5, I5, r5, y5, st5, fr5⟩ => ?_
        have I5' := I5.pinned (fpY fr5) (T.obj _ _ st5)
        have gY : PG Y (.Name x px) (gName 0) := by
          refine pg_name (by rw [← hY]; exact S.nd) (by rw [← hY]; rfl) ?_ ?_
          · rw [eE]; exact .inl (lookup_relabel_local S.own)
          · rw [eE]; exact .inr (lookup_relabel_local S.own)
        have ga := gY _ s5 (o3 :: capt js σ) H5 v u (fun σ' H' => σ' = some v :: capt js σ ∧ H' = H5) I5' r5 ⟨rfl, rfl⟩
        rw [eP, eW, eA, eE, eX] at ga
        refine wpAny_mono ga (fun _ s6 ⟨σ6, H6, I6, e6, e6'⟩ => ?_) fun _ _ z => z.elim
        subst e6 e6'
        have back : ∀ {s7 : Shared} {H7 : Hp} {j : Nat} {zs : List V}, Inv Y (([] : List (Addr × Obj)) ++ pinsAt fp s5.heap) (some v :: capt js σ) H7 s7 → W (i + 1) j zs H7 → j < n → ∃ m, m < n ∧ ∃ i ys o H', Inv Y [] (o :: capt js σ) H' s7 ∧ tn i s7.heap ∧ (∀ b ∈ fp, H' b = none) ∧ W i m ys H' := fun {s7 H7 j zs} I7 w7 hj =>
          ⟨j, hj, i + 1, zs, some v, H7, I7.unpinned, T.keep _ _ _ st5 fun b hb o e => (I7.pin (b, o) (List.mem_append_right _ (List.mem_append_right _ (mem_pinsAt hb e)))).1, fun b hb => by
            obtain ⟨o, e, _⟩ := T.obj _ _ st5 b hb
            exact (I7.pin (b, o) (List.mem_append_right _ (List.mem_append_right _ (mem_pinsAt hb e)))).2.1, w7⟩
        have hq := step v _ y5
        have tests : wpAny (model X.prog X.w) X.A (forIn ifs true fun c r => if r = true then do let ok ← isTrue c (compEnvC scope cl (s2.heap.objs.size + 1) X.env) (eval c (compEnvC scope cl (s2.heap.objs.size + 1) X.env)); pure (ForInStep.yield ok) else pure (ForInStep.yield r))
            (TP Y (([] : List (Addr × Obj)) ++ pinsAt fp s5.heap) (some v :: capt js σ) (fun b H2 => if b = true then te (some v :: capt js σ) H2 fun y H3 => ∃ m', m' < n ∧ H3 s2.heap.objs.size = some (.lst ys) ∧ ys.length < sizeLine ∧ W (i + 1) m' (ys ++ [y]) (upd H3 s2.heap.objs.size (.lst (ys ++ [y]))) else ∃ m', m' < n ∧ W (i + 1) m' ys H2))
            (notedBy (model X.prog X.w) X.A (compEnvC scope cl (s2.heap.objs.size + 1) X.env) fun e s' => RR (.ref s2.heap.objs.size) (s2.heap.objs.size + 1) (.error e) s') s6 := by
          cases PIi with
          | nil => exact wpAny_tests_nil ⟨_, I6, hq⟩
          | one ht =>
            have := ht _ s6 (some v :: capt js σ) _ _ I6 hq
            rw [eP, eW, eA, eE, eX] at this
            exact wpAny_tests_one (wpAny_mono this (fun _ _ z => z) fun _ _ z => z.elim)
        refine thn tests fun ok s7 ⟨H7, I7, q7⟩ => ?_
        cases ok with
        | false =>
          rw [if_neg (by decide)] at q7 ⊢
          obtain ⟨m', hm, w7⟩ := q7
          exact back I7 w7 hm
        | true =>
          rw [if_pos rfl] at q7 ⊢
          have hE := PEe _ s7 (some v :: capt js σ) H7 _ I7 q7
          rw [eP, eW, eA, eE, eX] at hE
          refine wpAny_mono hE (fun y s8 ⟨yv, H8, I8, r8, m', hm, hl8, hz8, w8⟩ => ?_) fun _ _ z => z.elim
          have ap := mt_append (X := Y) _ s8 _ H8 (.ref s2.heap.objs.size) [yv] (.ref s2.heap.objs.size) [y] (fun _ H' => H' = upd H8 s2.heap.objs.size (.lst (ys ++ [yv]))) I8 rfl (.cons r8 .nil) ⟨_, ys, yv, rfl, rfl, hl8, hz8, rfl⟩
          rw [eP, eW, eA, eX] at ap
          refine wpAny_mono ap (fun _ s9 ⟨_, H9, I9, _, e9⟩ => ?_) fun _ _ z => z.elim
          subst e9
          exact back I9 w8 hm
    · obtain ⟨o, ho, _⟩ := T.obj 0 _ h0 b hb
      rw [upd_ne (Nat.ne_of_lt (Heap.lt_size ho))]
      exact (hf b hb).1
  refine codeAny_compStart_list ?_ (T.self X.A 0 _ _ _ (T.keep 0 _ _ h0 fun b _ o e => keep b o e) ?_)
  · rw [hsz]; exact loop
  · rw [hsz]; exact loop

theorem pe_comp {wi : TI} {ti : TT} {te : TE} (S : CompSc X x js scope cl) (hi : PI X (.Name x px) iter wi) (he : ∀ C s2 H2 fp, PE (cxComp X x js scope cl C s2 H2 fp) elt te) (ht : ∀ C s2 H2 fp, PIfs (cxComp X x js scope cl C s2 H2 fp) ifs ti) (hc : X.calm = true := by rfl)
    (hs : ∀ v, foldedSetIterable iter X.env v = pure v := by intro _; rfl) : PE X (.ListComp elt [⟨.Name x px, iter, ifs, 0⟩] scope pos) (tComp js wi ti te) := by
  intro pins s σ H Q I h
  rw [eval_ListComp]
  refine wpAny_comprehension_free (use := none) rfl hs S.clos S.kind S.names (thn (hi pins s σ H _ I h) fun v s1 h1 => thn h1 fun itv s2 h2 => ?_)
  obtain ⟨it, fp, tn, J, H2, rfl, I2, T, st, hf, q⟩ := h2
  obtain ⟨W, w0, turn⟩ := q s2.heap.objs.size (I2.hok.fresh (Nat.le_refl _))
  refine comp_block (RR := fun acc C => compPost (model X.prog X.w) X.A X.xe none (EP X pins σ Q) acc C) I2 hc S T st hf (by rintro _ rfl; exact he _ _ _ _) (by rintro _ rfl; exact ht _ _ _ _) W w0 turn ?_
  rintro C H' s' I' fC ⟨m, hn⟩ q'
  exact ⟨m, hn, fun h' sb => ⟨.ref s2.heap.objs.size, H', I'.turned (t' := s'.toks) (fun b o hb e => sb.extBut b o hb e) fC.1 fC.2.1 fC.2.2.2.1 fC.2.2.2.2.1 fC.2.2.2.2.2, rfl, q'⟩⟩
/-- y = [..] -/
theorem ps_setComp {wi : TI} {ti : TT} {te : TE} {i : Nat} {y : Str} {py spos : Pos} (hN : X.N.Nodup) (hy : X.N[i]? = some y) (hyl : Loc X.env.scope y) (S : CompSc X x js scope cl) (hi : PI X (.Name x px) iter wi) (he : ∀ C s2 H2 fp, PE (cxComp X x js scope cl C s2 H2 fp) elt te) (ht : ∀ C s2 H2 fp, PIfs (cxComp X x js scope cl C s2 H2 fp) ifs ti) (hc : X.calm = true := by rfl)
    (hs : ∀ v, foldedSetIterable iter X.env v = pure v := by intro _; rfl) (hsw : swapsWith (.ListComp elt [⟨.Name x px, iter, ifs, 0⟩] scope pos) (some (.Name y py)) spos.line X.env = pure true := by rfl)
    (hf : X.fn y = true ∨ X.env.scope.names.lookup y = some .local := by first | exact .inl rfl | exact .inr rfl | assumption) :
    PS X (.Assign [.Name y py] (.ListComp elt [⟨.Name x px, iter, ifs, 0⟩] scope pos) spos) (tAsg (tComp js wi ti te) (gName i)) := by
  intro pins s σ H D I h
  rw [exec_Assign_Name_used _ _ _ _ hsw]
  refine wpAny_bind (wpAny_standAt (wpAny_bind ?_))
  show wpAny _ _ (do let _ ← comprehension (.ListComp elt [⟨.Name x px, iter, ifs, 0⟩] scope pos) scope X.env (firstIterPos [⟨.Name x px, iter, ifs, 0⟩] pos) (newList []) false (eval iter X.env) (some (assign (.Name y py) X.env))) _ _ s
  refine wpAny_bind (thn (wpAny_comprehension_free (use := some (assign (.Name y py) X.env)) (Q := fun _ s' => SP X pins D .next s') rfl hs S.clos S.kind S.names (thn (hi pins s σ H _ I h) fun v s1 h1 => thn h1 fun itv s2 h2 => ?_)) fun _ s' z => wpAny_pure (wpAny_pure z))
  obtain ⟨it, fp, tn, J, H2, rfl, I2, T, st, hfp, q⟩ := h2
  obtain ⟨W, w0, turn⟩ := q s2.heap.objs.size (I2.hok.fresh (Nat.le_refl _))
  refine comp_block (Q := fun v H1 => gName i v σ H1 D.nx) (RR := fun acc C => compPost (model X.prog X.w) X.A X.xe (some (assign (.Name y py) X.env)) (fun _ s' => SP X pins D .next s') acc C) I2 hc S T st hfp (by rintro _ rfl; exact he _ _ _ _) (by rintro _ rfl; exact ht _ _ _ _) W w0 turn ?_
  rintro C H' s' I' fC ⟨m, hn⟩ q'
  obtain ⟨oC, es, ep, hoC, hdC, hr⟩ := id hn
  have Ip := I'.pinned (fp := [C]) (fun b hb => by have e : b = C := by simpa using hb
                                                   subst e; exact fC) (fun b hb => by have e : b = C := by simpa using hb
                                                                                      subst e; exact ⟨oC, hoC, fun v z => by rw [hdC] at z; cases z⟩)
  have gY : PG X (.Name y py) (gName i) := pg_name hN hy hyl hf
  refine thn (gY _ s' σ H' (.ref s2.heap.objs.size) (.ref s2.heap.objs.size) (fun σ' H1 => D.nx σ' H1 ∧ H1 = H') Ip rfl ⟨q', rfl⟩) fun _ s7 ⟨σ7, H7, I7, q7, e7⟩ => ?_
  subst e7
  have pC := I7.pin (C, oC) (List.mem_append_right _ (List.mem_append_right _ (mem_pinsAt (by simp) hoC)))
  refine ⟨m, ⟨oC, es, ep, pC.1, hdC, hr⟩, fun h' sb => ⟨σ7, H7, ?_, q7⟩⟩
  exact I7.unpinned.turned (t' := s7.toks) (fun b o hb e => sb.extBut b o hb e) fC.1 fC.2.1 fC.2.2.2.1 fC.2.2.2.2.1 fC.2.2.2.2.2
end
/-! ### a comprehension without a test whose element is read off the heap; with a test -/
section
variable {K : PySem.W.Frag} {σ : St} {H : Hp} {Q : VK} {te : TE} {ti : TT} {tl : TE} {js : List (Nat × Str)}
/-- over a list: p the test, f the element, both by values, nothing is changed -/
theorem tComp_lst (a : Addr) (xs : List V) (p : V → Bool) (f : V → V) (ht : ∀ R : V → Hp → Prop, R (.ref a) H → tl σ H R) (hl : SqL K H a xs) (hz : xs.length ≤ sizeLine)
    (hp : ∀ v ∈ xs, ∀ H' R, Same H H' → R (p v) H' → ti (some v :: capt js σ) H' R) (hf : ∀ v ∈ xs, p v = true → ∀ H' R, Same H H' → R (f v) H' → te (some v :: capt js σ) H' R)
    (hQ : ∀ l, H l = none → Q (.ref l) (upd H l (.lst ((xs.filter p).map f)))) : tComp js (iList K tl) ti te σ H Q := by
  refine ht _ ⟨a, rfl, ⟨xs, hl⟩, fun l hl0 => ?_⟩
  have same : ∀ ys, Same H (upd H l (.lst ys)) := fun ys b o e => by rw [upd_ne (ne_of_none e hl0)]; exact e
  refine ⟨fun i m ys H' => m = xs.length - i ∧ i ≤ xs.length ∧ ys = ((xs.take i).filter p).map f ∧ H' = upd H l (.lst ys), ⟨xs.length, by simp⟩, ?_⟩
  rintro i m ys H' ⟨rfl, hi, rfl, rfl⟩
  have q := (same (((xs.take i).filter p).map f)).seq hl
  by_cases hlt : i < xs.length
  · refine .inr ⟨⟨xs, xs[i], q, by simp [hlt]⟩, fun v H'' y => ?_⟩
    obtain ⟨e, y⟩ := y
    subst e
    have hv := y xs q
    have hvm : v ∈ xs := List.mem_of_getElem? hv
    refine hp v hvm _ _ (same _) ?_
    have tk : xs.take (i + 1) = xs.take i ++ [v] := by rw [List.take_add_one, hv]; rfl
    cases hpv : p v with
    | true =>
      rw [if_pos rfl]
      refine hf v hvm hpv _ _ (same _) ⟨xs.length - (i + 1), by omega, upd_same, ?_, rfl, hlt, ?_, ?_⟩
      · have h1 := List.length_filter_le p (xs.take i)
        have h2 : (xs.take i).length ≤ i := by rw [List.length_take]; omega
        rw [List.length_map]
        omega
      · rw [tk, List.filter_append, List.map_append]
        simp [hpv]
      · rw [upd_upd]
    | false =>
      rw [if_neg (by decide)]
      refine ⟨xs.length - (i + 1), by omega, rfl, hlt, ?_, rfl⟩
      rw [tk, List.filter_append, List.map_append]
      simp [hpv]
  · have e : i = xs.length := by omega
    subst e
    refine .inl ⟨⟨xs, q, Nat.le_refl _⟩, ?_⟩
    rw [List.take_length]
    exact hQ l hl0
end
end L2

end
section
set_option Elab.async false
set_option linter.all false
set_option maxRecDepth 100000
namespace L2
open PySem PySem.Spec PyProof.Rows
/-! ### more of texts of 0 and 1 -/
/-! ### rows and tables -/
abbrev Row := List Bool × Option Int
def wayV : Option Int → V
  | none => .non
  | some i => .int i
def RowIs (H : Hp) (v : V) (r : Row) : Prop := ∃ p, v = .ref p ∧ H p = some (.tup [.str (enc r.1), wayV r.2])
abbrev RowsAre (H : Hp) : List V → List Row → Prop := Paired (RowIs H)
/-- the tuples stay -/
def Tp (H H' : Hp) : Prop := ∀ b xs, H b = some (.tup xs) → H' b = some (.tup xs)
theorem Tp.refl (H : Hp) : Tp H H := fun _ _ h => h
theorem Tp.trans {H H1 H2 : Hp} (a : Tp H H1) (b : Tp H1 H2) : Tp H H2 := fun c o h => b c o (a c o h)
theorem Same.tp {H H' : Hp} (h : Same H H') : Tp H H' := fun b xs e => h b _ e
theorem Tp.upd {H : Hp} {l : Addr} {o : HO} (h : ∀ xs, H l ≠ some (.tup xs)) : Tp H (upd H l o) := fun b xs e => by
  by_cases hb : b = l
  · subst hb; exact absurd e (h xs)
  · rw [upd_ne hb]; exact e
theorem Same.upd {H : Hp} {l : Addr} {o : HO} (h : H l = none) : Same H (upd H l o) := fun b u e => by rw [upd_ne (ne_of_none e h)]; exact e
theorem RowIs.mono {H H' : Hp} {v : V} {r : Row} (h : RowIs H v r) (t : Tp H H') : RowIs H' v r := let ⟨p, e, q⟩ := h; ⟨p, e, t _ _ q⟩
theorem Paired.mono {α β : Type} {F G : α → β → Prop} : ∀ {l : List α} {m : List β}, Paired F l m → (∀ a b, F a b → G a b) → Paired G l m
  | _, _, .nil, _ => .nil
  | _, _, .cons h t, f => .cons (f _ _ h) (Paired.mono t f)
theorem RowsAre.mono {H H' : Hp} {vs : List V} {rs : List Row} (h : RowsAre H vs rs) (t : Tp H H') : RowsAre H' vs rs := Paired.mono h fun _ _ q => q.mono t
theorem Paired.split {α β : Type} {F : α → β → Prop} : ∀ {l1 l2 : List α} {m : List β}, Paired F (l1 ++ l2) m → ∃ m1 m2, m = m1 ++ m2 ∧ Paired F l1 m1 ∧ Paired F l2 m2
  | [], l2, m, h => ⟨[], m, rfl, .nil, h⟩
  | a :: l1, l2, _, .cons h t => let ⟨m1, m2, e, h1, h2⟩ := Paired.split t; ⟨_ :: m1, m2, by rw [e]; rfl, .cons h h1, h2⟩
theorem Paired.append {α β : Type} {F : α → β → Prop} : ∀ {l1 l2 : List α} {m1 m2 : List β}, Paired F l1 m1 → Paired F l2 m2 → Paired F (l1 ++ l2) (m1 ++ m2)
  | _, _, _, _, .nil, h => h
  | _, _, _, _, .cons h t, k => .cons h (Paired.append t k)
theorem Paired.inj_left {α β : Type} {F : α → β → Prop} (hF : ∀ a b c, F a b → F a c → b = c) : ∀ {l : List α} {m n : List β}, Paired F l m → Paired F l n → m = n
  | _, _, _, .nil, .nil => rfl
  | _, _, _, .cons h t, .cons h' t' => by rw [hF _ _ _ h h', Paired.inj_left hF t t']
theorem wayV_inj {a b : Option Int} (h : wayV a = wayV b) : a = b := by
  cases a <;> cases b <;> simp [wayV] at h
  · rfl
  · rw [h]
theorem RowIs.inj {H : Hp} {v : V} {r r' : Row} (h : RowIs H v r) (h' : RowIs H v r') : r = r' := by
  obtain ⟨p, e, q⟩ := h
  obtain ⟨p', e', q'⟩ := h'
  subst e
  cases e'
  rw [q] at q'
  simp only [Option.some.injEq, HO.tup.injEq, List.cons.injEq, V.str.injEq, and_true] at q'
  exact Prod.ext (enc_inj q'.1) (wayV_inj q'.2)
theorem RowsAre.inj {H : Hp} {vs : List V} {rs rs' : List Row} (h : RowsAre H vs rs) (h' : RowsAre H vs rs') : rs = rs' := Paired.inj_left (F := RowIs H) (fun _ _ _ a b => RowIs.inj a b) h h'
theorem tyV_lst {K : PySem.W.Frag} {H : Hp} {p : Addr} {xs : List V} (h : H p = some (.lst xs)) : tyV K "list" (.ref p) H := .inl ⟨rfl, xs, SqL.of h⟩
theorem Paired.get {α β : Type} {F : α → β → Prop} : ∀ {l : List α} {m : List β} (i : Nat) (a : α), Paired F l m → l[i]? = some a → ∃ b, m[i]? = some b ∧ F a b
  | _, _, _, _, .nil, h => by simp at h
  | _, _, 0, a, .cons h _, e => by simp at e; subst e; exact ⟨_, rfl, h⟩
  | _, _, i + 1, a, .cons _ t, e => by
    obtain ⟨b, h1, h2⟩ := Paired.get i a t (by simpa using e)
    exact ⟨b, by simpa using h1, h2⟩
theorem Paired.get' {α β : Type} {F : α → β → Prop} : ∀ {l : List α} {m : List β} (i : Nat) (b : β), Paired F l m → m[i]? = some b → ∃ a, l[i]? = some a ∧ F a b
  | _, _, _, _, .nil, h => by simp at h
  | _, _, 0, a, .cons h _, e => by simp at e; subst e; exact ⟨_, rfl, h⟩
  | _, _, i + 1, a, .cons _ t, e => by
    obtain ⟨b, h1, h2⟩ := Paired.get' i a t (by simpa using e)
    exact ⟨b, by simpa using h1, h2⟩
/-- the heads' values -/
theorem heads_flat (rs : List Row) : (rs.map fun r => V.str (enc r.1)).all flatV = true := by
  induction rs with
  | nil => rfl
  | cons r rs ih => simp only [List.map_cons, List.all_cons, ih, flatV, Bool.and_true]
theorem inV_heads (h : List Bool) (rs : List Row) : inV (.str (enc h)) (rs.map fun r => V.str (enc r.1)) = rs.any fun r => r.1 == h := by
  unfold inV
  rw [List.any_map]
  congr 1
  funext r
  show (enc r.1 == enc h) = (r.1 == h)
  rw [Bool.eq_iff_iff, beq_iff_eq, beq_iff_eq, enc_eq]
/-- the first part of a row, by values -/
def fstOf (H : Hp) (v : V) : V := match v with
  | .ref p => match H p with
    | some (.tup (x :: _)) => x
    | _ => .non
  | _ => .non
theorem fstOf_row {H : Hp} {v : V} {r : Row} (h : RowIs H v r) : fstOf H v = .str (enc r.1) := by
  obtain ⟨p, rfl, q⟩ := h
  simp only [fstOf, q]
theorem map_fstOf {H : Hp} {vs : List V} {rs : List Row} (h : RowsAre H vs rs) : vs.map (fstOf H) = rs.map fun r => V.str (enc r.1) := by
  induction h with
  | nil => rfl
  | cons h _ ih => rw [List.map_cons, List.map_cons, fstOf_row h, ih]
/-! ### the ways and tables as they are drawn -/
def wayBy (c few : Int) : Option Int := if c % 5 = 4 then none else if c / 5 % 4 = 3 then some (c / 20 % 10000) else some (c / 20 % few)
def addRow (rs : List Row) (h : List Bool) (w : Option Int) : List Row := if rs.any (fun r => r.1 == h) then rs else rs ++ [(h, w)]
def tableBy (ns : List Int) (start size few : Int) : Nat → List Row
  | 0 => []
  | k + 1 => addRow (tableBy ns start size few k) (bitsBy (cell ns (start + k) % (size + 1)).toNat (cell ns (start + k) / (size + 1))) (wayBy ((cell ns (start + k) * 48271 + 11) % 2147483647) few)
def mixed : Int → Nat → Int
  | c, 0 => c
  | c, k + 1 => (mixed c k * 48271 + 11) % 2147483647
def farTable (c size few : Int) : Nat → List Row
  | 0 => []
  | k + 1 => addRow (farTable c size few k) (bitsBy (mixed c (k + 1) % (size + 1)).toNat (mixed c (k + 1) / 97)) (wayBy (mixed c (k + 1) / 1009) few)
/-- what holds of a drawn table -/
structure TabOk (rs : List Row) (size : Int) (n : Nat) : Prop where
  nd : (rs.map (·.1)).Nodup
  len : ∀ r ∈ rs, (r.1.length : Int) ≤ size
  way : ∀ r ∈ rs, ∀ i, r.2 = some i → 0 ≤ i ∧ i ≤ 9999
  few : rs.length ≤ n
theorem TabOk.nil (size : Int) : TabOk [] size 0 := ⟨by simp, by simp, by simp, by simp⟩
theorem TabOk.add {rs : List Row} {size : Int} {n : Nat} {h : List Bool} {w : Option Int} (t : TabOk rs size n) (hl : (h.length : Int) ≤ size) (hw : ∀ i, w = some i → 0 ≤ i ∧ i ≤ 9999) : TabOk (addRow rs h w) size (n + 1) := by
  unfold addRow
  split
  · exact ⟨t.nd, t.len, t.way, Nat.le_succ_of_le t.few⟩
  · rename_i hn
    refine ⟨?_, ?_, ?_, ?_⟩
    · rw [List.map_append, List.nodup_append]
      refine ⟨t.nd, by simp, ?_⟩
      intro a ha b hb e
      have hb' : b = h := by simpa using hb
      subst hb' e
      obtain ⟨r, hr, e⟩ := List.mem_map.mp ha
      exact hn (List.any_eq_true.mpr ⟨r, hr, by simpa using e⟩)
    · intro r hr
      rcases List.mem_append.mp hr with hr | hr
      · exact t.len r hr
      · have : r = (h, w) := by simpa using hr
        subst this; exact hl
    · intro r hr i hi
      rcases List.mem_append.mp hr with hr | hr
      · exact t.way r hr i hi
      · have : r = (h, w) := by simpa using hr
        subst this; exact hw i hi
    · rw [List.length_append, List.length_singleton]; exact Nat.succ_le_succ t.few
theorem wayBy_ok {c few : Int} (h0 : 0 < few) (h1 : few ≤ 9999) : ∀ i, wayBy c few = some i → 0 ≤ i ∧ i ≤ 9999 := by
  intro i hi
  unfold wayBy at hi
  split at hi
  · cases hi
  · split at hi
    · cases hi; omega
    · cases hi
      have := Int.emod_nonneg (c / 20) (show few ≠ 0 by omega)
      have := Int.emod_lt_of_pos (c / 20) h0
      omega
theorem tableBy_ok {ns : List Int} {start size few : Int} (hs : 0 ≤ size) (h0 : 0 < few) (h1 : few ≤ 9999) : ∀ k, TabOk (tableBy ns start size few k) size k
  | 0 => TabOk.nil size
  | k + 1 => (tableBy_ok hs h0 h1 k).add (by
      rw [bitsBy_len]
      have := Int.emod_nonneg (cell ns (start + k)) (show size + 1 ≠ 0 by omega)
      have := Int.emod_lt_of_pos (cell ns (start + k)) (show 0 < size + 1 by omega)
      omega) (wayBy_ok h0 h1)
/-! ### leading -/
def leadStep (a : List Bool) (acc : Option Row) (r : Row) : Option Row :=
  if r.1.isPrefixOf a && (match acc with | none => true | some q => decide (q.1.length < r.1.length)) then some r else acc
def lead (rs : List Row) (a : List Bool) : Option Row := rs.foldl (leadStep a) none
def led (rs : List Row) (a : List Bool) : Option Int := (lead rs a).bind (·.2)
def OptRow (H : Hp) (v : V) : Option Row → Prop
  | none => v = .non
  | some r => RowIs H v r
theorem OptRow.mono {H H' : Hp} {v : V} {o : Option Row} (h : OptRow H v o) (t : Tp H H') : OptRow H' v o := by
  cases o with
  | none => exact h
  | some r => exact RowIs.mono h t
theorem Same.upd' {H H' : Hp} {l : Addr} {o : HO} (s : Same H H') (h : H l = none) : Same H (L2.upd H' l o) := fun b u e => by rw [upd_ne (ne_of_none e h)]; exact s b u e
theorem not_tup_of_lst {H : Hp} {l : Addr} {xs : List V} (h : H l = some (.lst xs)) : ∀ ys, H l ≠ some (.tup ys) := fun ys e => by rw [h] at e; cases e
theorem not_tup_of_none {H : Hp} {l : Addr} (h : H l = none) : ∀ ys, H l ≠ some (.tup ys) := fun ys e => by rw [h] at e; cases e
/-- a row is laid and appended -/
theorem add_step {H0 H1 : Hp} {l p : Addr} {xs : List V} {rs : List Row} {h : List Bool} {w : Option Int} (s : Same H0 H1) (hl0 : H0 l = none) (hl : H1 l = some (.lst xs)) (hr : RowsAre H1 xs rs) (hp : H1 p = none) :
    ∃ H3, H3 = upd (upd H1 p (.tup [.str (enc h), wayV w])) l (.lst (xs ++ [.ref p])) ∧ Same H0 H3 ∧ H3 l = some (.lst (xs ++ [.ref p])) ∧ RowsAre H3 (xs ++ [.ref p]) (rs ++ [(h, w)]) ∧ ∀ b o, b ≠ l → H1 b = some o → H3 b = some o := by
  have hpl : l ≠ p := ne_of_none hl hp
  have h2 : (upd H1 p (.tup [.str (enc h), wayV w])) l = some (.lst xs) := by rw [upd_ne hpl]; exact hl
  have t1 : Tp H1 (upd H1 p (.tup [.str (enc h), wayV w])) := Tp.upd (not_tup_of_none hp)
  have t2 := Tp.upd (o := .lst (xs ++ [.ref p])) (not_tup_of_lst h2)
  refine ⟨_, rfl, (s.upd' (s.free hp)).upd' hl0, upd_same, ?_, fun b o hb e => ?_⟩
  · refine Paired.append (RowsAre.mono hr (t1.trans t2)) (.cons ⟨p, rfl, ?_⟩ .nil)
    rw [upd_ne hpl.symm]; exact upd_same
  · rw [upd_ne hb, upd_ne (ne_of_none e hp)]; exact e
end L2

end
section
set_option Elab.async false
set_option linter.all false
set_option maxRecDepth 100000
set_option maxHeartbeats 4000000
namespace L2
open PySem PySem.Spec
local macro_rules | `(tactic| walk_at "rd") => `(tactic| try simp only [tVar, tC, tOp, tUn, tSeq, tAsg, gName, tRet, tRetN, tIfS, tDrop, tNext, tCons, tNil, tCall, tCB, tTest, tB, tAnd, tOr, tNot, tAndV, tOrV, tNotV, tIf, tTup, tLst, tSl, tPart, tNoPart, tBM, tBM0, L2.start, rI2, rI3, rAddA, rMulA, rSubI, rDivI, rModI, rPowI, rNegI, rLt, rLe, rGt, rGe, rIsN, rNotN, rEqS, rNeS, rLen, rIxA, rIntA, rMax2, rMin2, rStrI, rListOf, rIsi2, isiF, isiO, rSlA, rStarts2, rEnds2, CDiv,
  List.map_cons, List.map_nil, List.length_cons, List.length_nil, List.replicate_succ, List.replicate_zero, List.cons_append, List.nil_append, List.append_nil, List.getElem?_cons_zero, List.getElem?_cons_succ, List.set_cons_zero, List.set_cons_succ, Option.some.injEq, V.int.injEq, V.str.injEq, V.bl.injEq, V.ref.injEq, V.ty.injEq, reduceCtorEq, exists_eq_left', exists_eq_left, exists_eq_right, exists_eq_right', exists_eq', exists_eq, exists_and_left, exists_and_right, false_and, and_false, true_and, and_true, exists_const, exists_false, false_or, or_false, List.cons.injEq, and_assoc, decide_eq_true_eq, decide_true, decide_false, Int.reduceLT, Int.reduceLE, Nat.reduceLT, Nat.reduceLeDiff, Nat.reduceSub, Nat.reduceAdd, Nat.sub_self, Nat.sub_zero, enc_eq, enc_nil, enc_0, enc_1, enc_01, enc_append, enc_len, Bool.not_true, Bool.not_false, Bool.false_eq_true, if_true, if_false, ↓reduceIte, String.reduceEq, or_true, true_or, Nat.one_mul, addr_len, bitsBy_len, List.length_append, List.length_replicate, List.length_map])
local macro_rules | `(tactic| walk_at "sz") => `(tactic| (have hline := line_ge; first | omega | (simp; omega)))
def rd_begins (K : PySem.W.Frag) : TS :=
  (tRet (tBM K "str" rStarts2 (tVar 1) (tCons (tVar 0) tNil)))
def nm_begins : List Str := ["head", "address"]
def sp_begins (K : PySem.W.Frag) : Sp := fun vs H Q _ => ∃ h a, vs = [.str (enc h), .str (enc a)] ∧ Q (.bl (h.isPrefixOf a)) H
def rd_law_way_by (K : PySem.W.Frag) : TS :=
  (tSeq (tIfS (tTest (tOp rEqS (tOp rModI (tVar 0) (tC (.int 5))) (tC (.int 4)))) (tRet (tC .non)) tNext)
  (tSeq (tIfS (tTest (tOp rEqS (tOp rModI (tOp rDivI (tVar 0) (tC (.int 5))) (tC (.int 4))) (tC (.int 3)))) (tRet (tOp rModI (tOp rDivI (tVar 0) (tC (.int 20))) (tC (.int 10000)))) tNext)
  (tRet (tOp rModI (tOp rDivI (tVar 0) (tC (.int 20))) (tVar 1)))))
def nm_law_way_by : List Str := ["cell", "few"]
def sp_law_way_by (K : PySem.W.Frag) : Sp := fun vs H Q _ => ∃ c f, vs = [.int c, .int f] ∧ 0 < f ∧ Q (wayV (wayBy c f)) H
theorem len_law_way_by {K vs H Q E} (h : sp_law_way_by K vs H Q E) : vs.length = 2 := by obtain ⟨_, _, rfl, _⟩ := h; rfl
theorem rdok_law_way_by {K vs H Q E} (h : sp_law_way_by K vs H Q E) : rd_law_way_by K { nx := fun _ H' => Q .non H', rt := Q } (start nm_law_way_by vs) H := by
  obtain ⟨c, f, rfl, hf, q⟩ := h
  simp only [rd_law_way_by, nm_law_way_by]
  walk_at "rd"
  unfold wayBy at q
  split
  · rename_i h
    rw [if_pos h] at q
    exact q
  · rename_i h
    rw [if_neg h] at q
    split
    · rename_i h2
      rw [if_pos h2] at q
      exact q
    · rename_i h2
      rw [if_neg h2] at q
      exact ⟨hf, q⟩
def rb_leading_row_1 (K : PySem.W.Frag) : TS :=
  (tIfS (tAnd (tB (tCall (sp_begins K) [] E0 (tCons (tOp (rIxA K) (tVar 3) (tC (.int 0))) (tCons (tVar 1) tNil)))) (tOr (tTest (tOp rIsN (tVar 2) (tC .non))) (tTest (tOp rGt (tCB (rLen K) (tCons (tOp (rIxA K) (tVar 3) (tC (.int 0))) tNil)) (tCB (rLen K) (tCons (tOp (rIxA K) (tVar 2) (tC (.int 0))) tNil)))))) (tAsg (tVar 3) (gName 2)) tNext)
def rd_leading_row (K : PySem.W.Frag) : TS :=
  (tSeq (tAsg (tC .non) (gName 2))
  (tSeq (tFor (iList K (tVar 0)) (gName 3) (rb_leading_row_1 K))
  (tRet (tVar 2))))
def nm_leading_row : List Str := ["rows", "address", "leading", "row"]
def sp_leading_row (K : PySem.W.Frag) : Sp := fun vs H Q _ => ∃ a xs rs ad, vs = [.ref a, .str (enc ad)] ∧ H a = some (.lst xs) ∧ RowsAre H xs rs ∧ (∀ r ∈ rs, r.1.length ≤ 1000) ∧ ∀ v, OptRow H v (lead rs ad) → Q v H
def rd_head_for (K : PySem.W.Frag) : TS :=
  (tSeq (tAsg (tCall (sp_leading_row K) [] E0 (tCons (tVar 0) (tCons (tVar 1) tNil))) (gName 2))
  (tRet (tIf (tTest (tOp rIsN (tVar 2) (tC .non))) (tC .non) (tOp (rIxA K) (tVar 2) (tC (.int 0))))))
def nm_head_for : List Str := ["rows", "address", "row"]
def headV : Option Row → V
  | none => .non
  | some r => .str (enc r.1)
def sp_head_for (K : PySem.W.Frag) : Sp := fun vs H Q _ => ∃ a xs rs ad, vs = [.ref a, .str (enc ad)] ∧ H a = some (.lst xs) ∧ RowsAre H xs rs ∧ (∀ r ∈ rs, r.1.length ≤ 1000) ∧ Q (headV (lead rs ad)) H
def rd_way_for (K : PySem.W.Frag) : TS :=
  (tSeq (tAsg (tCall (sp_leading_row K) [] E0 (tCons (tVar 0) (tCons (tVar 1) tNil))) (gName 2))
  (tRet (tIf (tTest (tOp rIsN (tVar 2) (tC .non))) (tC .non) (tOp (rIxA K) (tVar 2) (tC (.int 1))))))
def nm_way_for : List Str := ["rows", "address", "row"]
def sp_way_for (K : PySem.W.Frag) : Sp := fun vs H Q _ => ∃ a xs rs ad, vs = [.ref a, .str (enc ad)] ∧ H a = some (.lst xs) ∧ RowsAre H xs rs ∧ (∀ r ∈ rs, r.1.length ≤ 1000) ∧ Q (wayV (led rs ad)) H
def rb_law_head_for_1 (K : PySem.W.Frag) : TS :=
  (tIfS (tTest (tOp rEqS (tSl (rSlA K) (tVar 1) tNoPart (tPart (tCB (rLen K) (tCons (tOp (rIxA K) (tVar 3) (tC (.int 0))) tNil)))) (tOp (rIxA K) (tVar 3) (tC (.int 0))))) (tIfS (tOr (tTest (tOp rIsN (tVar 2) (tC .non))) (tTest (tOp rGt (tCB (rLen K) (tCons (tOp (rIxA K) (tVar 3) (tC (.int 0))) tNil)) (tCB (rLen K) (tCons (tOp (rIxA K) (tVar 2) (tC (.int 0))) tNil))))) (tAsg (tVar 3) (gName 2)) tNext) tNext)
def rd_law_head_for (K : PySem.W.Frag) : TS :=
  (tSeq (tAsg (tC .non) (gName 2))
  (tSeq (tFor (iList K (tVar 0)) (gName 3) (rb_law_head_for_1 K))
  (tRet (tVar 2))))
def nm_law_head_for : List Str := ["rows", "address", "found", "row"]
def sp_law_head_for (K : PySem.W.Frag) : Sp := fun vs H Q _ => ∃ a xs rs ad, vs = [.ref a, .str (enc ad)] ∧ H a = some (.lst xs) ∧ RowsAre H xs rs ∧ (∀ r ∈ rs, r.1.length ≤ 1000) ∧ ad.length ≤ 1000 ∧ ∀ v, OptRow H v (lead rs ad) → Q v H
def rd_law_way_is (K : PySem.W.Frag) : TS :=
  (tSeq (tIfS (tTest (tOp rIsN (tVar 1) (tC .non))) (tRet (tOp rIsN (tVar 0) (tC .non))) tNext)
  (tRet (tAndV (tCall (sp_law_whole K) [] E0 (tCons (tVar 0) tNil)) (tOp rEqS (tVar 0) (tVar 1)))))
def nm_law_way_is : List Str := ["found", "due"]
/-- a way found, a way due -/
def sp_law_way_is (K : PySem.W.Frag) : Sp := fun vs H Q _ => ∃ f d, vs = [wayV f, wayV d] ∧ Q (.bl (decide (f = d))) H
theorem len_law_way_is {K vs H Q E} (h : sp_law_way_is K vs H Q E) : vs.length = 2 := by obtain ⟨_, _, rfl, _⟩ := h; rfl
theorem rdok_law_way_is {K vs H Q E} (h : sp_law_way_is K vs H Q E) : rd_law_way_is K { nx := fun _ H' => Q .non H', rt := Q } (start nm_law_way_is vs) H := by
  obtain ⟨f, d, rfl, q⟩ := h
  simp only [rd_law_way_is, nm_law_way_is]
  cases d with
  | none =>
    cases f with
    | none => simp only [wayV]; walk_at "rd"; exact q
    | some i => simp only [wayV]; walk_at "rd"; exact q
  | some j =>
    cases f with
    | none =>
      simp only [wayV]; walk_at "rd"
      simp only [sp_law_whole]; walk_at "rd"
      exact q
    | some i =>
      simp only [wayV]; walk_at "rd"
      simp only [sp_law_whole]; walk_at "rd"
      simpa using q
def rb_law_far_table_1 (K : PySem.W.Frag) : TS :=
  (tSeq (tAsg (tOp rModI (tOp rAddA (tOp rMulA (tVar 0) (tC (.int 48271))) (tC (.int 11))) (tC (.int 2147483647))) (gName 0))
  (tSeq (tAsg (tCall (sp_law_bits_by K) [] E0 (tCons (tOp rDivI (tVar 0) (tC (.int 97))) (tCons (tOp rModI (tVar 0) (tOp rAddA (tVar 2) (tC (.int 1)))) tNil))) (gName 7))
  (tIfS (tTest (tOp (rIn K true) (tVar 7) (tVar 5))) (tSeq (tDrop (tBM K "list" rAppend (tVar 5) (tCons (tVar 7) tNil)))
  (tDrop (tBM K "list" rAppend (tVar 4) (tCons (tTup (tCons (tVar 7) (tCons (tCall (sp_law_way_by K) [] E0 (tCons (tOp rDivI (tVar 0) (tC (.int 1009))) (tCons (tVar 3) tNil))) tNil))) tNil)))) tNext)))
def rd_law_far_table (K : PySem.W.Frag) : TS :=
  (tSeq (tAsg (tLst tNil) (gName 4))
  (tSeq (tAsg (tLst tNil) (gName 5))
  (tSeq (tFor (iRng1 (tCons (tVar 1) tNil)) (gName 6) (rb_law_far_table_1 K))
  (tRet (tVar 4)))))
def nm_law_far_table : List Str := ["cell", "count", "size", "few", "rows", "heads", "k", "head"]
def sp_law_far_table (K : PySem.W.Frag) : Sp := fun vs H Q _ => ∃ (c n size few : Int), vs = [.int c, .int n, .int size, .int few] ∧ 0 ≤ n ∧ n ≤ 100 ∧ 0 ≤ size ∧ size ≤ 16 ∧ 0 < few ∧ few ≤ 9999 ∧
  ∀ l H' xs, H l = none → Same H H' → H' l = some (.lst xs) → RowsAre H' xs (farTable c size few n.toNat) → Q (.ref l) H'
def rb_law_table_by_1 (K : PySem.W.Frag) : TS :=
  (tSeq (tAsg (tCall (sp_law_cell_at K) [] E0 (tCons (tVar 0) (tCons (tOp rAddA (tVar 1) (tVar 6)) tNil))) (gName 7))
  (tSeq (tAsg (tCall (sp_law_bits_by K) [] E0 (tCons (tOp rDivI (tVar 7) (tOp rAddA (tVar 3) (tC (.int 1)))) (tCons (tOp rModI (tVar 7) (tOp rAddA (tVar 3) (tC (.int 1)))) tNil))) (gName 8))
  (tIfS (tTest (tOp (rIn K true) (tVar 8) (tComp [] (iList K (tVar 5)) tAlways (tOp (rIxA K) (tVar 0) (tC (.int 0)))))) (tDrop (tBM K "list" rAppend (tVar 5) (tCons (tTup (tCons (tVar 8) (tCons (tCall (sp_law_way_by K) [] E0 (tCons (tOp rModI (tOp rAddA (tOp rMulA (tVar 7) (tC (.int 48271))) (tC (.int 11))) (tC (.int 2147483647))) (tCons (tVar 4) tNil))) tNil))) tNil))) tNext)))
def rd_law_table_by (K : PySem.W.Frag) : TS :=
  (tSeq (tAsg (tLst tNil) (gName 5))
  (tSeq (tFor (iRng1 (tCons (tVar 2) tNil)) (gName 6) (rb_law_table_by_1 K))
  (tRet (tVar 5))))
def nm_law_table_by : List Str := ["script", "start", "count", "size", "few", "rows", "k", "cell", "head"]
def sp_law_table_by (K : PySem.W.Frag) : Sp := fun vs H Q _ => ∃ (a : Addr) (ns : List Int) (st n size few : Int), vs = [.ref a, .int st, .int n, .int size, .int few] ∧ SqL K H a (ns.map V.int) ∧ 0 ≤ st ∧ 0 ≤ n ∧ n ≤ 100 ∧ 0 ≤ size ∧ size ≤ 16 ∧ 0 < few ∧ few ≤ 9999 ∧
  ∀ l H' xs, H l = none → Same H H' → H' l = some (.lst xs) → RowsAre H' xs (tableBy ns st size few n.toNat) → Q (.ref l) H'
theorem len_law_table_by {K vs H Q E} (h : sp_law_table_by K vs H Q E) : vs.length = 5 := by obtain ⟨_, _, _, _, _, _, rfl, _⟩ := h; rfl
theorem rdok_law_table_by {K vs H Q E} (h : sp_law_table_by K vs H Q E) : rd_law_table_by K { nx := fun _ H' => Q .non H', rt := Q } (start nm_law_table_by vs) H := by
  obtain ⟨a, ns, st, n', size, few, rfl, hS, hst, hn0, hn, hs0, hs, hf0, hf1, q⟩ := h
  obtain ⟨n, rfl⟩ := Int.eq_ofNat_of_zero_le hn0
  rw [Int.toNat_natCast] at q
  simp only [rd_law_table_by, nm_law_table_by]
  walk_at "rd"
  refine ⟨by walk_at "sz", fun l hl => ?_⟩
  refine tFor_rng1 n (by omega) (fun k σ H' => Same H H' ∧ ∃ o p r xs, σ = [some (.ref a), some (.int st), some (.int n), some (.int size), some (.int few), some (.ref l), o, p, r] ∧ H' l = some (.lst xs) ∧ RowsAre H' xs (tableBy ns st size few k)) ?_ ?_ ?_ ?_
  · intro R h; walk_at "rd"; exact h
  · exact ⟨Same.upd hl, none, none, none, [], rfl, upd_same, .nil⟩
  · rintro k σ H' hk ⟨sm, o, p, r, xs, rfl, h1, h2⟩
    have hfew := (tableBy_ok (ns := ns) (start := st) hs0 hf0 hf1 k).few
    have hxs : xs.length = (tableBy ns st size few k).length := Paired.length h2
    have hft : tableBy ns st size few (k + 1) = addRow (tableBy ns st size few k) (bitsBy (cell ns (st + k) % (size + 1)).toNat (cell ns (st + k) / (size + 1))) (wayBy ((cell ns (st + k) * 48271 + 11) % 2147483647) few) := rfl
    simp only [rb_law_table_by_1, gName, List.set_cons_succ, List.set_cons_zero]
    refine tSeq_gen fun U hU => ?_
    walk_at "rd"
    refine cell_app (sm.seq hS) (by omega) ?_
    walk_at "rd"
    subst hU
    rw [hft]
    generalize cell ns (st + k) = c
    have hm0 := Int.emod_nonneg c (show size + 1 ≠ 0 by omega)
    have hm1 := Int.emod_lt_of_pos c (show 0 < size + 1 by omega)
    refine tSeq_gen fun U hU => ?_
    walk_at "rd"
    simp only [sp_law_bits_by]
    walk_at "rd"
    refine ⟨by omega, by omega, by omega, by omega, by omega, ?_⟩
    subst hU
    generalize tableBy ns st size few k = rs at *
    generalize bitsBy (c % (size + 1)).toNat (c / (size + 1)) = hd
    walk_at "rd"
    refine tComp_lst (K := K) l xs (fun _ => true) (fstOf H') (fun R h => by walk_at "rd"; exact h) (SqL.of h1) (by walk_at "sz") (fun v _ H'' R _ h => h) (fun v hv _ H'' R s2 h => ?_) (fun l3 hl3 => ?_)
    · obtain ⟨i, hi⟩ := List.getElem?_of_mem hv
      obtain ⟨r, _, hr⟩ := Paired.get i v h2 hi
      rw [fstOf_row hr] at h
      obtain ⟨p, rfl, hp⟩ := hr
      walk_at "rd"
      exact ⟨_, .inr (SqT.of (s2 _ _ hp)), _, rfl, h⟩
    · rw [List.filter_eq_self.mpr (fun _ _ => rfl), map_fstOf h2]
      have sm2 : Same H (upd H' l3 (.lst (rs.map fun r => V.str (enc r.1)))) := sm.upd' (sm.free hl3)
      have e1 : upd H' l3 (.lst (rs.map fun r => V.str (enc r.1))) l = some (.lst xs) := by rw [upd_ne (ne_of_none h1 hl3)]; exact h1
      have tp : Tp H' (upd H' l3 (.lst (rs.map fun r => V.str (enc r.1)))) := Tp.upd (not_tup_of_none hl3)
      refine ⟨l3, _, rfl, .inl (SqL.of upd_same), rfl, heads_flat _, ?_⟩
      simp only [if_true, inV_heads]
      walk_at "rd"
      unfold addRow
      by_cases hany : (rs.any fun r => r.1 == hd) = true
      · simp only [hany]
        walk_at "rd"
        exact ⟨sm2, xs, e1, RowsAre.mono h2 tp⟩
      · simp only [Bool.not_eq_true] at hany
        simp only [hany]
        walk_at "rd"
        refine ⟨tyV_lst e1, .inr (by omega), ?_⟩
        simp only [sp_law_way_by]
        walk_at "rd"
        refine ⟨hf0, by walk_at "sz", fun p hp => ?_⟩
        obtain ⟨H3, eH3, s3, a1, a2, a3⟩ := add_step (h := hd) (w := wayBy ((c * 48271 + 11) % 2147483647) few) sm2 hl e1 (RowsAre.mono h2 tp) hp
        refine ⟨l, xs, _, rfl, rfl, by rw [upd_ne (ne_of_none e1 hp)]; exact e1, by walk_at "sz", ?_⟩
        rw [← eH3]
        exact ⟨s3, _, a1, a2⟩
  · rintro σ H' ⟨sm, o, p, r, xs, rfl, h1, h2⟩
    walk_at "rd"
    exact q l H' xs hl sm h1 h2
end L2

end
section
set_option Elab.async false
set_option linter.all false
set_option maxRecDepth 100000
set_option maxHeartbeats 2000000
namespace L2
open PySem PySem.Spec PyProof.Rows
/-! ### exceptions: how one flies -/
section
variable {P : Program} {w : World} {H H' : Hp} {h : Heap} {a : Addr} {o : HO}
theorem ObjOk.isThere (x : ObjOk P w H h a o) : ∃ u, h.get? a = some u := by
  cases o with
  | lst xs => obtain ⟨_, _, _, _, e⟩ := x; exact ⟨_, e⟩
  | tup xs => obtain ⟨_, _, _, ob, e, _⟩ := x; exact ⟨_, e⟩
  | dK kvs => obtain ⟨_, _, _, _, ob, _, _, e, _⟩ := x; exact ⟨_, e⟩
  | dT kvs => obtain ⟨_, _, _, _, ob, _, _, e, _⟩ := x; exact ⟨_, e⟩
  | set S n => obtain ⟨ob, _, _, _, e, _⟩ := x; exact ⟨_, e⟩
  | ins C dx fs => obtain ⟨_, _, _, e, _⟩ := x; exact ⟨_, e⟩
  | own y => exact x
  | xd fs => obtain ⟨_, ⟨_, _, _, e, _⟩, _⟩ := x; exact ⟨_, e⟩
  | rng lo hi => obtain ⟨_, _, _, e⟩ := x; exact ⟨_, e⟩
  | frz ob u => obtain ⟨e, _⟩ := x; exact ⟨_, e⟩
  | tbl ps => exact ⟨_, (show h.get? a = some _ from x)⟩
  | met f y => exact ⟨_, (show h.get? a = some _ from x)⟩
  | ext φ => exact x.2.1
end
/-- behind a call that an exception has left: B holds all that the exception's records don't touch -/
structure Over (P : Program) (w : World) (outer : List Env) (H : Hp) (s : Shared) (H' : Hp) (s' : Shared) (B : Heap) : Prop where
  os : s'.os = s.os
  bare : AllBare s'.gens
  un : Un (frs outer) [] H H' s.heap s'.heap
  hok : HOk P w H' s'.heap
  stays : B.StaysIn s'.heap
  trk : ∀ b o, H' b = some o → ∃ u, B.get? b = some u
  old : ∀ b o, s.heap.get? b = some o → b ∉ frs outer → ∃ u, B.get? b = some u
/-- the exception at e, of the own class at C -/
def CX1 (P : Program) (w : World) : CXT := fun outer H s E e s' => ∃ a C t H' B, e = .ref a ∧ Over P w outer H s H' s' B ∧ Heap.FlyingW B outer a (.ref C) (.ref t) s'.heap ∧ E (.ref C) none H'
section
variable {X : Cx} {pins : List (Addr × Obj)} {σ : St} {H H' : Hp} {s s' : Shared} {B h'' : Heap}
theorem Over.hok' {P : Program} {w : World} {outer : List Env} (O : Over P w outer H s H' s' B) (hB : B.StaysIn h'') : HOk P w H' h'' := fun b o e =>
  (O.hok b o e).stay (fun c v hc q => by
    have hx : ∃ x, H' c = some x := by
      rcases hc with z | z
      · exact ⟨o, by rw [z]; exact e⟩
      · exact ⟨_, z⟩
    obtain ⟨x, hx⟩ := hx
    obtain ⟨u, hu⟩ := O.trk c x hx
    have e2 := O.stays c u hu
    rw [q] at e2
    cases e2
    exact hB c v hu) (fun _ q => q) fun _ _ q => q
/-- what was made here -/
theorem Inv.over {e : Addr} {cls : Value} {vs : List Value} {h1 : Heap} (I : Inv X pins σ H s) (hx : Heap.MadeExcOf s.heap h1 e cls vs) : Over X.prog X.w X.stack H s H { s with heap := h1 } (PySem.W.hideAll s.heap (frs X.stack)) where
  os := rfl
  bare := I.bare
  un := Un.kept hx.keeps
  hok := I.hok.kept hx.keeps
  stays := fun b o q => hx.keeps b o (PySem.W.of_hideAll _ q)
  trk := fun b o q => by
    obtain ⟨u, hu⟩ := (I.hok b o q).isThere
    exact ⟨u, PySem.W.hideAll_get _ hu fun z => by rw [I.stkFree b z] at q; cases q⟩
  old := fun b o q hb => ⟨o, PySem.W.hideAll_get _ q hb⟩
end
/-! ### an exception passes a def's body -/
section
variable {P : Program} {w : World} {K : PySem.W.Frag} {mg : Str → Option Value} {base : Heap} {N : List Str} {qual : Str} {scope : Scope} {f : Addr} {cd : Value} {A : Around} {outer : List Env} {s : Shared} {H : Hp} {E : XK}
end
/-! ### own error classes under ValueError -/
abbrev bmV : List Value := [.type "ValueError", .type "Exception", .type "BaseException", .type "object"]
def tRaise (C : Addr) (E : XK) (t : TA) : TS := fun _ σ H => t σ H fun vs H1 => vs.length ≤ sizeLine ∧ E (.ref C) none H1
section
variable {P : Program} {w : World} {K : PySem.W.Frag} {mg : Str → Option Value} {base : Heap} {N : List Str} {qual : Str} {scope : Scope} {f : Addr} {cd : Value} {A : Around} {outer : List Env} {s : Shared} {H : Hp} {E : XK}
end
end L2
namespace L2
open PySem PySem.Spec PyProof.Rows
theorem PS.nox {X : Cx} {st : Stmt} {t : TS} (h : PS X.nox st t) : PS X st t := fun pins s σ H D I hw =>
  wpAny_mono (h pins s σ H D (I.wish _) hw) (fun _ _ q => q.unwish) fun _ _ z => False.elim z
/-- the address of a class of the text -/
def clsAt (K : PySem.W.Frag) (x : Str) : Addr := match PySem.W.nsIn K mainGlobals x with
  | some (some (.ref C)) => C
  | _ => 0
end L2

end
section
set_option Elab.async false
set_option linter.all false
set_option maxRecDepth 100000
set_option maxHeartbeats 2000000
namespace L2
open PySem PySem.Spec PyProof.Rows
/-! ### an exception that was caught, as a thing -/
def isExc (a C : Addr) (h : Heap) : Prop := ∃ o vs, h.get? a = some o ∧ o.cls = .ref C ∧ o.data = .fields vs
def excO (a C : Addr) : HO := .ext (isExc a C)
section
variable {X : Cx} {pins : List (Addr × Obj)} {σ : St} {H : Hp} {s : Shared}
/-- an untracked object is tracked from here on -/
theorem Inv.track {a : Addr} {o : HO} (I : Inv X pins σ H s) (hn : H a = none) (h0 : X.s₀.heap.get? a = none) (hL : a ≠ X.env.locals) (hC : ∀ x c, X.env.cells.lookup x = some c → c ≠ a) (hP : ∀ p ∈ X.pn ++ pins, p.1 ≠ a)
    (new : ObjOk X.prog X.w (upd H a o) s.heap a o) : Inv X pins σ (upd H a o) s where
  ok := I.ok
  os := I.os
  bare := I.bare
  base := by
    have ne : ∀ b u, X.s₀.heap.get? b = some u → b ≠ a := fun b u q z => by rw [z, h0] at q; cases q
    have nt : ∀ b u, H b = some u → b ≠ a := fun b u q z => by rw [z, hn] at q; cases q
    have u := I.base
    refine ⟨u.keep, u.slot, fun b ob q n hx => ?_, u.there, fun b xs q => ?_, fun b ob xs q => ?_, fun b ps q => ?_⟩
    · rw [upd_ne (ne b ob q)]; exact u.free b ob q n hx
    · have q1 := u.tups b xs q
      rw [upd_ne (nt b _ q1)]; exact q1
    · have q1 := u.frzs b ob xs q
      rw [upd_ne (nt b _ q1)]; exact q1
    · obtain ⟨m, q1⟩ := u.tbls b ps q
      exact ⟨m, by rw [upd_ne (nt b _ q1)]; exact q1⟩
  loc := I.loc
  cell := I.cell
  free := by rw [upd_ne (Ne.symm hL)]; exact I.free
  freeC := fun x c e => by rw [upd_ne (hC x c e)]; exact I.freeC x c e
  pin := fun p hp => by
    obtain ⟨q1, q2, q3⟩ := I.pin p hp
    exact ⟨q1, by rw [upd_ne (hP p hp)]; exact q2, q3⟩
  hok := fun b u q => by
    by_cases hb : b = a
    · subst hb
      rw [upd_same] at q
      cases q
      exact new
    · rw [upd_ne hb] at q
      have nt : ∀ c v, H c = some v → c ≠ a := fun c v q z => by rw [z, hn] at q; cases q
      exact (I.hok b u q).stay (fun _ _ _ e => e) (fun c e => by rw [upd_ne (nt c _ e)]; exact e) fun c xs e => by rw [upd_ne (nt c _ e)]; exact e
  len := I.len
/-- within an except suite -/
def Cx.held (X : Cx) (e : Value) : Cx := { X with A := X.A.mark (some e), calm := false }
theorem Inv.held (I : Inv X pins σ H s) (e : Value) : Inv (X.held e) pins σ H s :=
  ⟨⟨I.ok.mod, I.ok.kind, I.ok.glob, I.ok.blt, I.ok.above, I.ok.inj, I.ok.has, I.ok.cab, (fun z => nomatch z), I.ok.frames, I.ok.stk, I.ok.exf, I.ok.bs, I.ok.bsz, I.ok.noex, I.ok.exfs, I.ok.funs, I.ok.frf⟩, I.os, I.bare, I.base, I.loc, I.cell, I.free, I.freeC, I.pin, I.hok, I.len⟩
end
/-! ### except R: -/
end L2

end
section
set_option Elab.async false
set_option linter.all false
set_option maxRecDepth 100000
set_option maxHeartbeats 4000000
namespace L2
open PySem PySem.Spec PyProof.Rows
/-! ### sorted(xs, key=f): f a def of the text whose answers are texts -/
def SortedBy (ks : List Str) (xs ys : List V) : Prop :=
  ∃ ps : List (Str × V), ps.Perm (ks.zip xs) ∧ ys = ps.map Prod.snd ∧ ps.Pairwise (fun p q => ¬ q.1.cps.toList < p.1.cps.toList)
theorem Paired.permL {α β : Type} {R : α → β → Prop} {l a : List α} (h : l.Perm a) : ∀ {b : List β}, Paired R a b → ∃ m, m.Perm b ∧ Paired R l m := by
  induction h with
  | nil => intro b p; cases p; exact ⟨[], .nil, .nil⟩
  | cons x _ ih =>
    intro b p
    cases p with
    | cons r t => obtain ⟨m, h1, h2⟩ := ih t; exact ⟨_ :: m, h1.cons _, .cons r h2⟩
  | swap x y l =>
    intro b p
    cases p with
    | cons r t =>
      cases t with
      | cons r2 t2 => exact ⟨_, .swap _ _ _, .cons r2 (.cons r t2)⟩
  | trans _ _ ih1 ih2 =>
    intro b p
    obtain ⟨m, h1, h2⟩ := ih2 p
    obtain ⟨m2, h3, h4⟩ := ih1 h2
    exact ⟨m2, h3.trans h1, h4⟩
/-- a key and its item, on the heap and without it -/
def KeyIt (p : Value × Value) (q : Str × V) : Prop := (∃ t, p.1 = .str q.1 t) ∧ RelV q.2 p.2
theorem keyIt_zip : ∀ {keys : List Value} {ks : List Str} {vs : List Value} {xs : List V}, StrsAre keys ks → Vals xs vs → Paired KeyIt (keys.zip vs) (ks.zip xs)
  | _, _, _, _, .nil, _ => .nil
  | _, _, _, _, .cons x t h, .nil => .nil
  | _, _, _, _, .cons x t h, .cons r v => .cons ⟨⟨t, rfl⟩, r⟩ (keyIt_zip h v)
theorem keyIt_snd : ∀ {l : List (Value × Value)} {m : List (Str × V)}, Paired KeyIt l m → Vals (m.map Prod.snd) (l.map Prod.snd)
  | _, _, .nil => .nil
  | _, _, .cons h t => .cons h.2 (keyIt_snd t)
theorem keyIt_sorted {arr : Array Keyed} {ps : List (Str × V)} (hp : Paired KeyIt arr.toList ps) (hs : SortedToK strKind arr arr.size) : ps.Pairwise (fun p q => ¬ q.1.cps.toList < p.1.cps.toList) := by
  have hl : arr.toList.length = ps.length := Paired.length hp
  rw [List.pairwise_iff_getElem]
  intro i j hi hj hij
  have key : ∀ (n : Nat) (hn : n < ps.length), KK strKind arr n = ps[n].1.cps.toList := fun n hn => by
    have hn' : n < arr.size := by rw [← Array.length_toList, hl]; exact hn
    obtain ⟨b, e1, ⟨t, e2⟩, _⟩ := Paired.get n arr[n] hp (by rw [Array.getElem?_toList, getElem?_pos arr n hn'])
    rw [List.getElem?_eq_getElem hn] at e1
    cases e1
    unfold KK
    rw [getElem?_pos arr n hn']
    show (strKind.keyOf arr[n].1).getD _ = _
    rw [e2]; rfl
  have hq := hs i j (Nat.le_of_lt hij) (by rw [← Array.length_toList, hl]; exact hj)
  rw [key i hi, key j hj] at hq
  intro z
  have : decide (ps[j].1.cps.toList < ps[i].1.cps.toList) = false := hq
  rw [decide_eq_true z] at this
  cases this
section
variable {X : Cx} {pins : List (Addr × Obj)} {σ : St} {H : Hp} {s : Shared} {A : Around} {E : Value → Shared → Prop} {L KS : Addr} {vs : List Value} {xs : List V} {ks : List Str} {keys : Array Value} {c e1 : Nat} {Pf : PySem.Fin → Shared → Prop}
/-- an untracked thing of ours is written -/
theorem Inv.scratch {b : Addr} {g : Obj → Obj} (I : Inv X pins σ H s) (f : FpOk X pins H b) : Inv X pins σ H { s with heap := s.heap.update b g } :=
  I.turned (t' := s.toks) (it := b) (fun d o hd e => by rw [Heap.get?_update_other _ _ (Ne.symm hd)]; exact e) f.1 f.2.1 f.2.2.2.1 f.2.2.2.2.1 f.2.2.2.2.2
theorem sk_tail {st : SortSt} (I : Inv X pins σ H s) (hex : X.ex = []) (fL : FpOk X pins H L) (fK : FpOk X pins H KS) (hne : KS ≠ L) (oL : s.heap.get? L = some (seqObj "list" #[] e1)) (oK : s.heap.get? KS = some (seqObj "list" keys c))
    (hk : StrsAre keys.toList ks) (hv : Vals xs vs) (hkl : ks.length = xs.length) (h64 : xs.length < 64) (hp : (arrOf st).Perm (keys.zip vs.toArray)) (hs : SortedToK strKind (arrOf st) (arrOf st).size) (hfl : failedOf st = none)
    (h : ∀ ys s2, Inv X pins σ (upd H L (.lst ys)) s2 → SortedBy ks xs ys → Pf (.done (.ret .none)) s2) : wpAny (model X.prog X.w) A (ksk_tail L false e1 (.ref KS) st) Pf E s := by
  have lv : vs.length = xs.length := (Vals.length hv).symm
  have lk : keys.size = xs.length := by have := hk.length; rw [Array.length_toList] at this; omega
  have la : (arrOf st).size = xs.length := by rw [hp.size_eq, Array.size_zip, lk, List.size_toArray, lv, Nat.min_self]
  have line : 64 ≤ sizeLine := Nat.le_trans (by decide) line_ge
  obtain ⟨ps, q1, q2⟩ := Paired.permL (R := KeyIt) (l := (arrOf st).toList) (by rw [← ksk_zip]; exact Array.perm_iff_toList_perm.mp hp) (keyIt_zip hk hv)
  have oL1 : (s.heap.update KS (Obj.mapSeq fun _ => (#[] : Array Value))).get? L = some (seqObj "list" #[] e1) := by rw [Heap.get?_update_other _ _ hne]; exact oL
  have I1 := I.scratch (g := Obj.mapSeq fun _ => (#[] : Array Value)) fK
  have I2 := I1.scratch (g := Obj.mapSeq fun _ => (arrOf st).map (·.2)) fL
  unfold ksk_tail
  dsimp only
  refine wpAny_bind (listUpdate_at oK rfl (wpAny_bind (wpAny_letGo (wpAny_bind (seqEpoch_at oL1 rfl (wpAny_bind
    (listUpdate_at oL1 rfl ?_ (Nat.zero_le _) (by show ((arrOf st).map (·.2)).size ≤ _; rw [Array.size_map, la]; omega))))))) (by rw [lk]; omega) (Nat.zero_le _))
  rw [hfl]
  simp only [bne_self_eq_false, Bool.false_eq_true, if_false]
  have h0 : X.s₀.heap.get? L = none := by
    rcases fL.2.2.2.1 with z | z
    · rw [hex] at z; cases z
    · exact Heap.get?_none_of_le z
  refine wpAny_pure (h (ps.map Prod.snd) _ (I2.track (o := .lst (ps.map Prod.snd)) fL.1 h0 fL.2.1 fL.2.2.2.2.1 fL.2.2.2.2.2 ?_) ⟨ps, q1, rfl, keyIt_sorted q2 hs⟩)
  obtain ⟨n2, o2⟩ : ∃ n2, ((s.heap.update KS (Obj.mapSeq fun _ => (#[] : Array Value))).update L (Obj.mapSeq fun _ => (arrOf st).map (·.2))).get? L = some (seqObj "list" ((arrOf st).map (·.2)) n2) := ⟨_, get?_update_seq oL1 (fun _ => (arrOf st).map (·.2))⟩
  refine ⟨?_, ((arrOf st).map (·.2)).toList, n2, ?_, ?_⟩
  · rw [List.length_map, q1.length_eq, List.length_zip, hkl, Nat.min_self]; omega
  · rw [Array.toList_map]; exact keyIt_snd q2
  · rw [Array.toArray_toList]; exact o2
theorem sk_end (I : Inv X pins σ H s) (hex : X.ex = []) (fL : FpOk X pins H L) (fK : FpOk X pins H KS) (hne : KS ≠ L) (oL : s.heap.get? L = some (seqObj "list" #[] e1)) (oK : s.heap.get? KS = some (seqObj "list" keys c))
    (hk : StrsAre keys.toList ks) (hv : Vals xs vs) (hkl : ks.length = xs.length) (h64 : xs.length < 64)
    (h : ∀ ys s2, Inv X pins σ (upd H L (.lst ys)) s2 → SortedBy ks xs ys → Pf (.done (.ret .none)) s2) : wpAny (model X.prog X.w) A (ksk_end L false vs.toArray e1 (.ref KS) keys) Pf E s := by
  have lv : vs.length = xs.length := (Vals.length hv).symm
  have lk : keys.size = xs.length := by have := hk.length; rw [Array.length_toList] at this; omega
  have lz : (keys.zip vs.toArray).size = xs.length := by rw [Array.size_zip, lk, List.size_toArray, lv, Nat.min_self]
  have k0 : KeysOf strKind (keys.zip vs.toArray) := fun p hp => by
    rw [ksk_zip] at hp
    obtain ⟨x, t, e⟩ := hk.all _ (List.of_mem_zip hp).1
    exact ⟨x.cps.toList, by rw [e]⟩
  unfold ksk_end
  dsimp only
  rw [if_neg (by decide)]
  by_cases h2 : vs.toArray.size < 2
  · rw [if_pos h2, if_pos h2]
    refine wpAny_bind (wpAny_pure ?_)
    rw [StateT.run_pure]
    refine wpAny_bind (wpAny_pure ?_)
    refine sk_tail (st := SortSt.mk' general' (keys.zip vs.toArray) #[] 7 none) I hex fL fK hne oL oK hk hv hkl h64 (Array.Perm.refl _) (fun i j hij hj => ?_) rfl h
    have hj2 : j < (keys.zip vs.toArray).size := hj
    rw [List.size_toArray] at h2
    have : i = j := by omega
    subst this
    exact KeyOrd.kle_refl _
  · rw [if_neg h2, if_neg h2]
    rw [List.size_toArray] at h2
    have kk : keyKind' keys = pure oneType' := by
      obtain ⟨kl⟩ := keys
      match kl, hk, lk with
      | [], _, lk => simp at lk; omega
      | [_], _, lk => simp at lk; omega
      | v1 :: v2 :: r, hk, _ => exact keyKind_strs hk
    rw [kk]
    refine wpAny_bind (wpAny_pure (wpAny_bind (wpAny_mono (wpS_sortRunsK strKind_oneLt (a₀ := keys.zip vs.toArray) (st := SortSt.mk' oneType' (keys.zip vs.toArray) #[] 7 none)
      (Q := fun _ st' => (arrOf st').Perm (keys.zip vs.toArray) ∧ failedOf st' = none ∧ SortedToK strKind (arrOf st') (keys.zip vs.toArray).size)
      k0 ⟨Array.Perm.refl _, rfl, rfl, rfl⟩ (by rw [lz]; omega) (by rw [lz]; exact h64) fun st' a1 a2 a3 => ⟨a1, a2, a3⟩) ?_ fun _ _ e => e)))
    rintro ⟨⟨⟩, st'⟩ s' ⟨rfl, p1, p2, p3⟩
    exact sk_tail I hex fL fK hne oL oK hk hv hkl h64 p1 (by rw [p1.size_eq]; exact p3) p2 h
/-- what a call of the key's function is wanted to do -/
def KeyRun (X : Cx) (pins : List (Addr × Obj)) (σ : St) (H : Hp) (A : Around) (f : Addr) (xs : List V) (ks : List Str) : Prop :=
  ∀ (s' : Shared) (pins' : List (Addr × Obj)) (i : Nat) (v : Value) (x : V) (y : Str), Inv X (pins ++ pins') σ H s' → xs[i]? = some x → ks[i]? = some y → RelV x v →
    codeAny (model X.prog X.w) A (.call (.ref f) ⟨[v], []⟩) (CR CX0 X.stack X.prog X.w H s' (fun v H' => v = .str y ∧ H' = H) E0) s'
/-- the keys are asked for one behind the other -/
theorem sk_rest {f : Addr} (one : KeyRun X pins σ H A f xs ks)
    (I : Inv X pins σ H s) (hex : X.ex = []) (fL : FpOk X pins H L) (fK : FpOk X pins H KS) (hne : KS ≠ L) (oL : s.heap.get? L = some (seqObj "list" #[] e1)) (oK : s.heap.get? KS = some (seqObj "list" #[] c))
    (hv : Vals xs vs) (hkl : ks.length = xs.length) (h64 : xs.length < 64)
    (h : ∀ ys s2, Inv X pins σ (upd H L (.lst ys)) s2 → SortedBy ks xs ys → Pf (.done (.ret .none)) s2) : wpAny (model X.prog X.w) A (ksk_rest L (.ref f) false vs.toArray e1 (.ref KS)) Pf E s := by
  have lv : vs.length = xs.length := (Vals.length hv).symm
  have line : 64 ≤ sizeLine := Nat.le_trans (by decide) line_ge
  unfold ksk_rest
  refine wpAny_bind (wpAny_rule ?_)
  rw [List.forIn_toArray]
  refine wpAny_bind (ksk_fold (fun i s' => Inv X pins σ H s' ∧ s'.heap.get? L = some (seqObj "list" #[] e1) ∧ ∃ kA c, s'.heap.get? KS = some (seqObj "list" kA c) ∧ StrsAre kA.toList (ks.take i)) vs 0 s ⟨I, oL, #[], c, oK, by simpa using StrsAre.nil⟩ ?step ?done)
  case step =>
    rintro j v s' hj ⟨I1, oL1, kA, c1, oK1, hkA⟩
    simp only [Nat.zero_add] at hkA ⊢
    have hjl : j < xs.length := by have := (List.getElem?_eq_some_iff.mp hj).1; omega
    obtain ⟨x, hx, rx⟩ : ∃ x, xs[j]? = some x ∧ RelV x v := by
      obtain ⟨u, hu, r⟩ := Vals.get hv (List.getElem?_eq_getElem hjl)
      rw [hj] at hu; cases hu
      exact ⟨_, List.getElem?_eq_getElem hjl, r⟩
    obtain ⟨y, hy⟩ : ∃ y, ks[j]? = some y := ⟨_, List.getElem?_eq_getElem (by omega)⟩
    have Ip := I1.pinned (fp := [L, KS]) (fun b hb => by
      rcases List.mem_cons.mp hb with rfl | hb
      · exact fL
      · rw [List.mem_singleton.mp hb]; exact fK) (fun b hb => by
      rcases List.mem_cons.mp hb with rfl | hb
      · exact ⟨_, oL1, fun v z => nomatch z⟩
      · rw [List.mem_singleton.mp hb]; exact ⟨_, oK1, fun v z => nomatch z⟩)
    refine wpAny_bind (wpAny_attempt (wpAny_call (codeAny_mono (one s' _ j v x y Ip hx hy rx) fun res s2 hq => ?_)))
    cases res with
    | error e => exact hq.elim
    | ok fl =>
      cases fl with
      | next => exact False.elim hq
      | brk => exact False.elim hq
      | cont => exact False.elim hq
      | ret u =>
        obtain ⟨w', H2, I2, r2, ew, eH⟩ := Ip.after hq
        subst ew eH
        obtain ⟨t2, rfl⟩ := r2
        have pL := (I2.pin (L, _) (List.mem_append_right _ (List.mem_append_right _ (mem_pinsAt (by simp) oL1)))).1
        have pK := (I2.pin (KS, _) (List.mem_append_right _ (List.mem_append_right _ (mem_pinsAt (by simp) oK1)))).1
        have I3 := I2.unpinned
        have lkA : kA.size ≤ xs.length := by have := hkA.length; rw [Array.length_toList, List.length_take] at this; omega
        dsimp only
        refine wpAny_bind (listUpdate_at pK rfl ?_ (by omega) (by rw [Array.size_push]; omega))
        obtain ⟨c2, o2⟩ : ∃ c2, (s2.heap.update KS (Obj.mapSeq (·.push (.str y t2)))).get? KS = some (seqObj "list" (kA.push (.str y t2)) c2) := ⟨_, get?_update_seq pK (·.push (.str y t2))⟩
        refine wpAny_pure ⟨rfl, I3.scratch fK, by rw [Heap.get?_update_other _ _ hne]; exact pL, _, c2, o2, ?_⟩
        have ek : ks.take (j + 1) = ks.take j ++ [y] := by rw [List.take_add_one, hy]; rfl
        rw [ek, Array.toList_push]
        have snoc : ∀ {a : List Value} {b : List Str}, StrsAre a b → StrsAre (a ++ [.str y t2]) (b ++ [y]) := by
          intro a b z
          induction z with
          | nil => exact .cons y t2 .nil
          | cons p q _ ih => exact .cons p q ih
        exact snoc hkA
  case done =>
    rintro s' ⟨I1, oL1, kA, c1, oK1, hkA⟩
    have e3 : ks.take (0 + vs.length) = ks := List.take_of_length_le (by omega)
    rw [e3] at hkA
    exact wpAny_bind (listItems_at oK1 rfl (sk_end I1 hex fL fK hne oL1 oK1 hkA hv hkl h64 h))
end
/-- sorted(xs, key=f) -/
def tSortKey (K : PySem.W.Frag) (sp : Sp) (t : TA) : TE := fun σ H Q => t σ H fun as H1 => ∃ a xs ks, as = [.ref a] ∧ SqL K H1 a xs ∧ xs.length < 64 ∧ ks.length = xs.length ∧
  (∀ (i : Nat) (x : V) (y : Str) (H2 : Hp), Same H1 H2 → xs[i]? = some x → ks[i]? = some y → sp [x] H2 (fun v H' => v = .str y ∧ H' = H2) E0) ∧ ∀ l ys, H1 l = none → SortedBy ks xs ys → Q (.ref l) (upd H1 l (.lst ys))
section
variable {X : Cx}
/-- sorted(xs, key=f), f's calls known -/
theorem sorted_key {pins : List (Addr × Obj)} {σ : St} {H1 : Hp} {s1 : Shared} {a f : Addr} {xs : List V} {ks : List Str} {Q : VK} (I1 : Inv X pins σ H1 s1) (hex : X.ex = []) (ql : SqL X.K H1 a xs) (h64 : xs.length < 64) (hkl : ks.length = xs.length)
    (one : KeyRun X pins σ H1 X.A.in1.in1 f xs ks) (q : ∀ l ys, H1 l = none → SortedBy ks xs ys → Q (.ref l) (upd H1 l (.lst ys))) :
    wpAny (model X.prog X.w) X.A (call (.builtin "sorted") [.ref a] [(Str.ofString "key", .ref f)]) (EP X pins σ Q) X.xe s1 := by
  have line : 64 ≤ sizeLine := Nat.le_trans (by decide) line_ge
  obtain ⟨its, rv, ⟨o, n, ho, hc, _, hd⟩, _⟩ := I1.list ql
  have lits : its.length = xs.length := (Vals.length rv).symm
  refine call_function_entry_kw kind_sorted plain_sorted entry_sorted (ksk_s1 _ _) ?_
  unfold Builtin.«sorted»
  refine wpAny_bind (m := checkCount "sorted" 1 1 _) (wpAny_pure (wpAny_bind (collect_list (vs := its) ⟨o, ho, hc, n, hd⟩ (wpAny_bind (wpAny_newList ?_ (by omega))) (by omega))))
  have hsz : ((s1.heap.push (seqObj "list" #[] 0)).update s1.heap.objs.size (Obj.mapSeq (· ++ its.toArray))).objs.size = s1.heap.objs.size + 1 := by rw [Heap.size_update, size_push']
  have keep : ∀ b ob, s1.heap.get? b = some ob → (((s1.heap.push (seqObj "list" #[] 0)).update s1.heap.objs.size (Obj.mapSeq (· ++ its.toArray))).push (seqObj "list" its.toArray 0)).get? b = some ob := fun b ob z => by
    have lt : b < s1.heap.objs.size := Heap.lt_size z
    refine Heap.get?_push_of_some _ ?_
    rw [Heap.get?_update_other _ _ (Ne.symm (Nat.ne_of_lt lt))]
    exact Heap.get?_push_of_some _ z
  have I2 := I1.kept (t' := s1.toks) keep
  have oL : (((s1.heap.push (seqObj "list" #[] 0)).update s1.heap.objs.size (Obj.mapSeq (· ++ its.toArray))).push (seqObj "list" its.toArray 0)).get? (s1.heap.objs.size + 1) = some (seqObj "list" its.toArray 0) := by
    rw [← hsz]; exact Heap.get?_push_size _ rfl
  have fL : FpOk X pins H1 (s1.heap.objs.size + 1) := I1.fpOk (Nat.le_succ _) (I1.hok.fresh (Nat.le_succ _))
  have sL : (((s1.heap.push (seqObj "list" #[] 0)).update s1.heap.objs.size (Obj.mapSeq (· ++ its.toArray))).push (seqObj "list" its.toArray 0)).objs.size = s1.heap.objs.size + 2 := by rw [size_push', hsz]
  rw [hsz]
  generalize ((s1.heap.push (seqObj "list" #[] 0)).update s1.heap.objs.size (Obj.mapSeq (· ++ its.toArray))).push (seqObj "list" its.toArray 0) = hA at *
  refine wpAny_bind (wpAny_holding (wpAny_call_entry_kw slot_list_sort ⟨_, oL, rfl⟩ entry_list_sort ?body (ksk_l1 _ _)))
  case body =>
    rw [ksk_t1]
    unfold ksk_tree
    obtain ⟨e1, oL1⟩ : ∃ e1, (hA.update (s1.heap.objs.size + 1) (Obj.mapSeq fun _ => (#[] : Array Value))).get? (s1.heap.objs.size + 1) = some (seqObj "list" #[] e1) := ⟨_, get?_update_seq oL fun _ => #[]⟩
    refine wpAny_bind (listItems_at oL rfl (wpAny_bind (listUpdate_at oL rfl (wpAny_bind (seqEpoch_at oL1 rfl (wpAny_bind (wpAny_newTuple (wpAny_bind (wpAny_newList (wpAny_holding ?_) (Nat.zero_le _)))
      (by show its.length ≤ _; omega))))) (by rw [List.size_toArray]; omega) (Nat.zero_le _))))
    have I3 := I2.scratch (g := Obj.mapSeq fun _ => (#[] : Array Value)) fL
    have I4 := I3.kept (t' := s1.toks) (h' := ((hA.update (s1.heap.objs.size + 1) (Obj.mapSeq fun _ => (#[] : Array Value))).push (seqObj "tuple" its.toArray 0)).push (seqObj "list" #[] 0)) fun b ob z => Heap.get?_push_of_some _ (Heap.get?_push_of_some _ z)
    have sK : ((hA.update (s1.heap.objs.size + 1) (Obj.mapSeq fun _ => (#[] : Array Value))).push (seqObj "tuple" its.toArray 0)).objs.size = s1.heap.objs.size + 3 := by rw [size_push', Heap.size_update, sL]
    have fK : FpOk X pins H1 (s1.heap.objs.size + 3) := I1.fpOk (Nat.le_add_right _ 3) (I1.hok.fresh (Nat.le_add_right _ 3))
    refine sk_rest (KS := ((hA.update (s1.heap.objs.size + 1) (Obj.mapSeq fun _ => (#[] : Array Value))).push (seqObj "tuple" its.toArray 0)).objs.size) (xs := xs) (ks := ks) one I4 hex fL (by rw [sK]; exact fK) (by rw [sK]; exact Nat.ne_of_gt (Nat.add_lt_add_left (by decide) _))
      (Heap.get?_push_of_some _ (Heap.get?_push_of_some _ oL1)) (Heap.get?_push_size _ rfl) rv hkl h64 fun ys s5 I5 so => ⟨_, rfl, ?_⟩
    exact wpAny_pure ⟨_, rfl, .ref (s1.heap.objs.size + 1), _, I5, rfl, q _ ys fL.1 so⟩
end
section
variable {X : Cx} {k : Nat} {x : Str} {pn : Str} {sp : Sp} {p pk kp pos : Pos} {e : Expr} {t : TA}
theorem pe_sortKey (F : Own X.prog X.w X.K X.mg X.base k x [pn] sp) (hr : Room (k + 2) X.A) (hs : X.mg "sorted" = none) (ha : PA X [e] t) (hex : X.ex = [] := by rfl) (hg : Gl X x := by rfl) (hg2 : Gl X "sorted" := by rfl) (hdb : (x == ("__debug__" : Str)) = false := by decide)
    (he : backTo pos (starEach [e] X.env) = (false, eval e X.env) :: backTo pos (starEach [] X.env) := by rfl) (hpl : (backTo pos (starEach [e] X.env)).any (·.1) = false := by rfl)
    (hall : (backToKw pos (keywordEach [⟨some "key", .Name x pk, kp⟩] X.env)).all (·.1.isSome) = true := by rfl) (hkw : (backToKw pos (keywordEach [⟨some "key", .Name x pk, kp⟩] X.env)).any (·.1.isNone) = false := by rfl)
    (hnm : (backToKw pos (keywordEach [⟨some "key", .Name x pk, kp⟩] X.env)).filterMap (·.1) = [(Str.ofString "key")] := by rfl) :
    PE X (.Call (.Name "sorted" p) [e] [⟨some "key", .Name x pk, kp⟩] pos) (tSortKey X.K sp t) := by
  intro pins s σ H Q I h
  obtain ⟨f, fd, G, hm, hk, hb⟩ := F.ex
  refine wpAny_Call_Name_kw (ld_blt I hg2 hs bt_sorted ?_)
  refine callWith_kw (thn (ha pos pins s σ H _ I h) fun us s1 ⟨as, H1, I1, r, a, xs, ks, ea, ql, h64, hkl, turn, q⟩ => ?_) he hpl hall hkw
  subst ea
  obtain ⟨u, rfl, ru⟩ := vals1 r
  cases ru
  refine kws_cons (ld_glob I1 hg hm (kws_nil ?_) hdb)
  rw [hnm]
  show wpAny _ _ (call (.builtin "sorted") [.ref a] [(Str.ofString "key", .ref f)]) _ _ s1
  refine sorted_key I1 hex ql h64 hkl (fun s' pins' i v x y Ip hx hy rx => ?_) q
  have e0 : Env0 X.prog X.w X.K X.mg X.base X.A.in1.in1 X.stack s' H1 := ⟨Ip.ok.frames, Ip.env0.mod, Ip.env0.bs, Ip.env0.bsz, Ip.env0.funs, Ip.env0.frf, Ip.env0.hok, Ip.env0.bare⟩
  exact G.run X.A.in1.in1 X.stack s' H1 ⟨[v], []⟩ [v] [x] _ E0 (hr.in1).in1 e0 (by have := hb s' [v] Ip.kIn rfl; simpa using this) (.cons rx .nil) (turn i x y H1 (Same.refl _) hx hy)
end
end L2

end
section
set_option Elab.async false
set_option linter.all false
set_option maxRecDepth 100000
namespace L2
open PySem PySem.Spec PyProof.Rows

/-! ### a comprehension that captures names of the def around it -/
def capCl (cells : List (Str × Addr)) : List (Str × NameKind) → List (Str × Addr) → List (Str × Addr)
  | [], cs => cs
  | y :: r, cs => capCl cells r (if (y.2 == NameKind.free) = true then (y.1, (cells.lookup y.1).getD 0) :: cs else cs)
def capOk (fn ns : List (Str × NameKind)) : Bool := ns.all fun y => y.2 == .local || y.2 == .globalImplicit || (y.2 == .free && fn.lookup y.1 == some .cell)
theorem closureFor_cap {scope : Scope} {env : Env} (h : ∀ y ∈ scope.names, y.2 = .free → ∃ c, env.cells.lookup y.1 = some c) : closureFor scope env = pure (capCl env.cells scope.names []) := by
  unfold closureFor
  generalize scope.names = ns at h
  generalize ([] : List (Str × Addr)) = cs
  induction ns generalizing cs with
  | nil => simp [capCl]
  | cons y r ih =>
    have ih := fun cs => ih (fun z hz => h z (List.mem_cons_of_mem _ hz)) cs
    simp only [List.forIn_cons, bind_assoc, pure_bind]
    unfold capCl
    cases e : y.2 == NameKind.free with
    | true =>
      obtain ⟨c, hc⟩ := h y List.mem_cons_self (by simpa using e)
      have ec : cellOf env y.1 = pure c := by unfold cellOf; rw [hc]
      simp only [if_true, ec, hc, Option.getD_some, pure_bind, bind_assoc]
      exact ih _
    | false => simp only [pure_bind, Bool.false_eq_true, if_false]; exact ih _
theorem capCl_lookup {cells : List (Str × Addr)} : ∀ {ns : List (Str × NameKind)} {cs : List (Str × Addr)} {y : Str} {c : Addr}, (∀ z ∈ ns, z.2 = .free → ∃ c, cells.lookup z.1 = some c) → (∀ y c, cs.lookup y = some c → cells.lookup y = some c) → (capCl cells ns cs).lookup y = some c → cells.lookup y = some c
  | [], cs, y, c, _, hc, h => hc y c h
  | z :: r, cs, y, c, hz, hc, h => by
    unfold capCl at h
    refine capCl_lookup (fun q hq => hz q (List.mem_cons_of_mem _ hq)) ?_ h
    intro y c h
    split at h
    · rename_i e
      obtain ⟨d, hd⟩ := hz z List.mem_cons_self (by simpa using e)
      rw [List.lookup_cons, hd] at h
      cases e2 : y == z.1 with
      | true => rw [e2] at h; have := eq_of_beq e2; subst this; simpa [hd] using h
      | false => rw [e2] at h; exact hc y c h
    · exact hc y c h
theorem capCl_has {cells : List (Str × Addr)} : ∀ {ns : List (Str × NameKind)} {cs : List (Str × Addr)} {y : Str}, ((y, NameKind.free) ∈ ns ∨ (cs.lookup y).isSome) → ∃ c, (capCl cells ns cs).lookup y = some c
  | [], cs, y, h => by
    rcases h with h | h
    · simp at h
    · exact Option.isSome_iff_exists.mp h
  | z :: r, cs, y, h => by
    unfold capCl
    refine capCl_has ?_
    rcases h with h | h
    · rcases List.mem_cons.mp h with rfl | h
      · right; simp
      · exact .inl h
    · right
      split
      · rw [List.lookup_cons]
        cases y == z.1 with
        | true => rfl
        | false => exact h
      · exact h
theorem CompSc.cap {X : Cx} {x : Str} {js : List (Nat × Str)} {scope fs : Scope} (hfs : X.env.scope = fs) (hX : X.env.scope.kind = .function) (hc : X.env.cells = cellsFrom (X.env.locals + 1) X.env.scope.names []) (hk : scope.kind = .function)
    (ho : capOk fs.names scope.names = true) (hn : ∀ y ∈ scope.names, y.2 = .local → scope.names.lookup y.1 = some .local) (own : scope.names.lookup x = some .local) (nd : (x :: js.map (·.2)).Nodup)
    (hj : js.map (fun p => X.N[p.1]?) = js.map (fun p => some p.2)) (hf : (js.all fun p => scope.names.lookup p.2 == some .free) = true) : CompSc X x js scope (capCl X.env.cells scope.names []) := by
  subst hfs
  have ho' : ∀ y ∈ scope.names, y.2 = .local ∨ y.2 = .globalImplicit ∨ (y.2 = .free ∧ X.env.scope.names.lookup y.1 = some .cell) := fun y hy => by
    have := List.all_eq_true.mp ho y hy
    simpa [or_assoc] using this
  have cell : ∀ y ∈ scope.names, y.2 = .free → X.env.scope.names.lookup y.1 = some .cell := fun y hy e => by
    rcases ho' y hy with h | h | h
    · rw [h] at e; cases e
    · rw [h] at e; cases e
    · exact h.2
  have has : ∀ y ∈ scope.names, y.2 = .free → ∃ c, X.env.cells.lookup y.1 = some c := fun y hy e => by rw [hc]; exact cell_has (cell y hy e)
  refine ⟨closureFor_cap has, fun y hy e => ?_, hk, hn, own, fun y c h => capCl_lookup has (by simp) h, fun y h => ?_, nd, fun p hp => ?_⟩
  · rcases ho' y hy with h | h | h
    · rw [h] at e; cases e
    · rw [h] at e; cases e
    · rw [h.1] at e; cases e
  · refine capCl_has (.inl ?_)
    have key : ∀ k, (relabel scope X.env).names.lookup y = some k → (k = .cell ∨ k = .free) → (y, NameKind.free) ∈ scope.names := fun k h hk => by
      have hm := PySem.mem_of_lookup h
      unfold relabel at hm
      obtain ⟨⟨n, k'⟩, hz, e⟩ := List.mem_map.mp hm
      have h3 := ho' _ hz
      by_cases hcnd : (k' == NameKind.free && X.env.scope.kind == .function && X.env.kindOf n == some .cell) = true
      · simp only [hcnd, if_true] at e
        have h4 : n = y := (Prod.mk.inj e).1
        subst h4
        have h5 : k' = .free := by simp only [Bool.and_eq_true, beq_iff_eq] at hcnd; exact hcnd.1.1
        subst h5; exact hz
      · simp only [hcnd] at e
        have e := Prod.mk.inj e
        have h4 : n = y := e.1
        have h5 : k' = k := e.2
        subst h4 h5
        rcases h3 with h | h | h
        · rw [show k' = _ from h] at hk; rcases hk with hk | hk <;> cases hk
        · rw [show k' = _ from h] at hk; rcases hk with hk | hk <;> cases hk
        · rw [show k' = _ from h.1] at hz; exact hz
    rcases h with h | h
    · exact key _ h (.inl rfl)
    · exact key _ h (.inr rfl)
  · have e1 := List.map_inj_left.mp hj p hp
    have e2 : scope.names.lookup p.2 = some .free := by simpa using List.all_eq_true.mp hf p hp
    have hm := PySem.mem_of_lookup e2
    have e3 := cell _ hm rfl
    have hkd : X.env.kindOf p.2 = some .cell := e3
    refine ⟨e1, hkd, ?_, capCl_has (.inl hm)⟩
    have q : ∀ (ns : List (Str × NameKind)), ns.lookup p.2 = some .free → (ns.map fun (n, k) => if (k == NameKind.free && X.env.scope.kind == .function && X.env.kindOf n == some .cell) then (n, NameKind.cell) else (n, k)).lookup p.2 = some .cell := by
      intro ns
      induction ns with
      | nil => intro h; simp at h
      | cons z r ih =>
        intro h
        obtain ⟨n, k⟩ := z
        show List.lookup p.2 ((if (k == NameKind.free && X.env.scope.kind == .function && X.env.kindOf n == some .cell) = true then (n, NameKind.cell) else (n, k)) :: _) = _
        cases hx : p.2 == n with
        | true =>
          simp only [List.lookup_cons, hx] at h
          cases h
          have := eq_of_beq hx
          subst this
          rw [if_pos (by simp [hX, hkd])]
          simp [List.lookup_cons]
        | false =>
          simp only [List.lookup_cons, hx] at h
          by_cases hcd : (k == NameKind.free && X.env.scope.kind == .function && X.env.kindOf n == some .cell) = true
          · rw [if_pos hcd]; simp only [List.lookup_cons, hx]; exact ih h
          · rw [if_neg hcd]; simp only [List.lookup_cons, hx]; exact ih h
    exact q _ e2
end L2

end
section
set_option Elab.async false
set_option linter.all false
set_option maxRecDepth 100000
set_option maxHeartbeats 4000000
namespace L2
open PySem PySem.Spec PyProof.Rows
local macro_rules | `(tactic| walk_at "rd") => `(tactic| try simp only [tVar, tC, tOp, tUn, tSeq, tAsg, gName, tRet, tRetN, tIfS, tDrop, tNext, tCons, tNil, tCall, tCB, tTest, tB, tAnd, tOr, tNot, tAndV, tOrV, tNotV, tIf, tTup, tLst, tSl, tPart, tNoPart, tBM, tBM0, L2.start, rI2, rI3, rAddA, rMulA, rSubI, rDivI, rModI, rPowI, rNegI, rLt, rLe, rGt, rGe, rIsN, rNotN, rEqS, rNeS, rLen, rIxA, rIntA, rMax2, rMin2, rStrI, rListOf, rIsi2, isiF, isiO, rSlA, rStarts2, rEnds2, CDiv,
  List.map_cons, List.map_nil, List.length_cons, List.length_nil, List.replicate_succ, List.replicate_zero, List.cons_append, List.nil_append, List.append_nil, List.getElem?_cons_zero, List.getElem?_cons_succ, List.set_cons_zero, List.set_cons_succ, Option.some.injEq, V.int.injEq, V.str.injEq, V.bl.injEq, V.ref.injEq, V.ty.injEq, reduceCtorEq, exists_eq_left', exists_eq_left, exists_eq_right, exists_eq_right', exists_eq', exists_eq, exists_and_left, exists_and_right, false_and, and_false, true_and, and_true, exists_const, exists_false, false_or, or_false, List.cons.injEq, and_assoc, decide_eq_true_eq, decide_true, decide_false, Int.reduceLT, Int.reduceLE, Nat.reduceLT, Nat.reduceLeDiff, Nat.reduceSub, Nat.reduceAdd, Nat.sub_self, Nat.sub_zero, enc_eq, enc_nil, enc_0, enc_1, enc_01, enc_append, enc_len, Bool.not_true, Bool.not_false, Bool.false_eq_true, if_true, if_false, ↓reduceIte, String.reduceEq, or_true, true_or, Nat.one_mul, addr_len, bitsBy_len, List.length_append, List.length_replicate, List.length_map])
local macro_rules | `(tactic| walk_at "sz") => `(tactic| (have hline := line_ge; first | omega | (simp; omega)))
/-! ### rows by their heads -/
def hcp (r : Row) : List Nat := (enc r.1).cps.toList
theorem hcp_inj {a b : Row} (h : hcp a = hcp b) : a.1 = b.1 := by
  unfold hcp at h
  refine enc_inj ?_
  cases ha : enc a.1
  cases hb : enc b.1
  rw [ha, hb] at h
  congr 1
  exact Array.toList_inj.mp h
theorem nodup_heads : ∀ {rs : List Row} {a b : Row}, (rs.map (·.1)).Nodup → a ∈ rs → b ∈ rs → a.1 = b.1 → a = b
  | [], _, _, _, h, _, _ => by cases h
  | r :: rs, a, b, hn, ha, hb, e => by
    rw [List.map_cons, List.nodup_cons] at hn
    rcases List.mem_cons.mp ha with rfl | ha'
    · rcases List.mem_cons.mp hb with rfl | hb
      · rfl
      · have : a.1 ∈ rs.map (·.1) := List.mem_map.mpr ⟨b, hb, e.symm⟩
        exact absurd this hn.1
    · rcases List.mem_cons.mp hb with rfl | hb
      · have : b.1 ∈ rs.map (·.1) := List.mem_map.mpr ⟨a, ha', e⟩
        exact absurd this hn.1
      · exact nodup_heads hn.2 ha' hb e
structure SortR (rs ss : List Row) : Prop where
  perm : ss.Perm rs
  up : ss.Pairwise fun a b => ¬ hcp b < hcp a
theorem SortR.unique {rs ts ss us : List Row} (h : SortR rs ss) (g : SortR ts us) (p : rs.Perm ts) (hn : (rs.map (·.1)).Nodup) : ss = us := by
  refine List.Perm.eq_of_pairwise (le := fun a b => ¬ hcp b < hcp a) (fun a b ha hb h1 h2 => ?_) h.up g.up (h.perm.trans (p.trans g.perm.symm))
  have e : hcp a = hcp b := List.le_antisymm h1 h2
  have e1 := hcp_inj e
  have ma : a ∈ rs := h.perm.mem_iff.mp ha
  have mb : b ∈ rs := p.mem_iff.mpr (g.perm.mem_iff.mp hb)
  exact nodup_heads hn ma mb e1
/-- what sorted by the heads gives -/
theorem sortedBy_rows {H : Hp} {xs ys : List V} {rs : List Row} (hr : RowsAre H xs rs) (h : SortedBy (rs.map fun r => enc r.1) xs ys) : ∃ ss, RowsAre H ys ss ∧ SortR rs ss := by
  obtain ⟨ps, hp, rfl, hu⟩ := h
  have hz : Paired (fun (p : Str × V) (r : Row) => p.1 = enc r.1 ∧ RowIs H p.2 r) ((rs.map fun r => enc r.1).zip xs) rs := by
    clear hp hu
    induction hr with
    | nil => exact .nil
    | cons h _ ih => exact .cons ⟨rfl, h⟩ ih
  obtain ⟨ss, hs, hq⟩ := Paired.permL hp hz
  refine ⟨ss, ?_, hs, ?_⟩
  · clear hs hu hp hz
    induction hq with
    | nil => exact .nil
    | cons h _ ih => exact .cons h.2 ih
  · clear hs hp hz
    induction hq with
    | nil => exact .nil
    | cons h t ih =>
      rw [List.pairwise_cons] at hu ⊢
      refine ⟨fun r hr => ?_, ih hu.2⟩
      obtain ⟨i, hi⟩ := List.getElem?_of_mem hr
      obtain ⟨p, hp, e⟩ := Paired.get' i r t hi
      have := hu.1 p (List.mem_of_getElem? hp)
      unfold hcp
      rw [← e.1, ← h.1]
      exact this
def rd_law_head (K : PySem.W.Frag) : TS :=
  (tRet (tOp (rIxA K) (tVar 0) (tC (.int 0))))
def nm_law_head : List Str := ["row"]
def sp_law_head (K : PySem.W.Frag) : Sp := fun vs H Q _ => ∃ p v ws, vs = [.ref p] ∧ H p = some (.tup (v :: ws)) ∧ Q v H
theorem len_law_head {K vs H Q E} (h : sp_law_head K vs H Q E) : vs.length = 1 := by obtain ⟨_, _, _, rfl, _⟩ := h; rfl
theorem rdok_law_head {K vs H Q E} (h : sp_law_head K vs H Q E) : rd_law_head K { nx := fun _ H' => Q .non H', rt := Q } (start nm_law_head vs) H := by
  obtain ⟨p, v, ws, rfl, hp, q⟩ := h
  simp only [rd_law_head, nm_law_head]
  walk_at "rd"
  exact ⟨_, .inr (SqT.of hp), v, atI_nat (j := 0) rfl, q⟩
/-- sorted(rows, key=f), f a def that tells a row's head -/
theorem tSort_rows {K : PySem.W.Frag} {sp : Sp} {t : TA} {σ : St} {H : Hp} {Q : VK} {a : Addr} {xs : List V} {rs : List Row} (hsp : ∀ p v ws H2, H2 p = some (.tup (v :: ws)) → sp [.ref p] H2 (fun u H' => u = v ∧ H' = H2) E0)
    (ht : ∀ R : List V → Hp → Prop, R [.ref a] H → t σ H R) (ha : H a = some (.lst xs)) (hr : RowsAre H xs rs) (hf : rs.length < 64) (q : ∀ l ys ss, H l = none → RowsAre H ys ss → SortR rs ss → Q (.ref l) (upd H l (.lst ys))) : tSortKey K sp t σ H Q := by
  have hx := Paired.length hr
  refine ht _ ⟨a, xs, rs.map fun r => enc r.1, rfl, SqL.of ha, by omega, by rw [List.length_map]; omega, fun i x y H2 sm hxi hyi => ?_, fun l ys hl hs => ?_⟩
  · obtain ⟨r, hri, p, rfl, hp⟩ := Paired.get i x hr hxi
    rw [List.getElem?_map, hri] at hyi
    cases hyi
    exact hsp p _ _ H2 (sm _ _ hp)
  · obtain ⟨ss, h1, h2⟩ := sortedBy_rows hr hs
    exact q l ys ss hl h1 h2
def rb_law_same_rows_1 (K : PySem.W.Frag) : TS :=
  (tSeq (tIfS (tOr (tNot (tB (tCB rIsi2 (tCons (tOp (rIxA K) (tVar 0) (tVar 2)) (tCons (tC (.ty "tuple")) tNil))))) (tOr (tTest (tOp rNeS (tCB (rLen K) (tCons (tOp (rIxA K) (tVar 0) (tVar 2)) tNil)) (tC (.int 2)))) (tNot (tB (tCB rIsi2 (tCons (tOp (rIxA K) (tOp (rIxA K) (tVar 0) (tVar 2)) (tC (.int 0))) (tCons (tC (.ty "str")) tNil))))))) (tRet (tC (.bl false))) tNext)
  (tIfS (tOr (tTest (tOp rNeS (tOp (rIxA K) (tOp (rIxA K) (tVar 0) (tVar 2)) (tC (.int 0))) (tOp (rIxA K) (tOp (rIxA K) (tVar 1) (tVar 2)) (tC (.int 0))))) (tNot (tB (tCall (sp_law_way_is K) [] E0 (tCons (tOp (rIxA K) (tOp (rIxA K) (tVar 0) (tVar 2)) (tC (.int 1))) (tCons (tOp (rIxA K) (tOp (rIxA K) (tVar 1) (tVar 2)) (tC (.int 1))) tNil)))))) (tRet (tC (.bl false))) tNext))
def rd_law_same_rows (K : PySem.W.Frag) : TS :=
  (tSeq (tIfS (tOr (tNot (tB (tCB rIsi2 (tCons (tVar 0) (tCons (tC (.ty "list")) tNil))))) (tTest (tOp rNeS (tCB (rLen K) (tCons (tVar 0) tNil)) (tCB (rLen K) (tCons (tVar 1) tNil))))) (tRet (tC (.bl false))) tNext)
  (tSeq (tFor (iRng1 (tCons (tCB (rLen K) (tCons (tVar 1) tNil)) tNil)) (gName 2) (rb_law_same_rows_1 K))
  (tRet (tC (.bl true)))))
def nm_law_same_rows : List Str := ["found", "due", "k"]
def sp_law_same_rows (K : PySem.W.Frag) : Sp := fun vs H Q _ => ∃ (a b : Addr) (xs ys : List V) (rs : List Row), vs = [.ref a, .ref b] ∧ H a = some (.lst xs) ∧ H b = some (.lst ys) ∧ RowsAre H xs rs ∧ RowsAre H ys rs ∧ rs.length ≤ 1000 ∧ Q (.bl true) H
theorem len_law_same_rows {K vs H Q E} (h : sp_law_same_rows K vs H Q E) : vs.length = 2 := by obtain ⟨_, _, _, _, _, rfl, _⟩ := h; rfl
theorem rdok_law_same_rows {K vs H Q E} (h : sp_law_same_rows K vs H Q E) : rd_law_same_rows K { nx := fun _ H' => Q .non H', rt := Q } (start nm_law_same_rows vs) H := by
  obtain ⟨a, b, xs, ys, rs, rfl, ha, hb, hx, hy, hf, q⟩ := h
  have lx := Paired.length hx
  have ly := Paired.length hy
  simp only [rd_law_same_rows, nm_law_same_rows, L2.start]
  refine tSeq_gen fun U hU => ?_
  walk_at "rd"
  refine ⟨_, ha, ?_⟩
  walk_at "rd"
  refine ⟨xs, .inl (SqL.of ha), ys, .inl (SqL.of hb), ?_⟩
  have ell : (xs.length : Int) = ys.length := by omega
  rw [ell]
  walk_at "rd"
  subst hU
  refine tSeq_gen fun U hU => ?_
  refine tFor_rng1 ys.length (by omega) (fun i σ H' => H' = H ∧ ∃ o, σ = [some (.ref a), some (.ref b), o]) ?_ ⟨rfl, none, rfl⟩ ?_ ?_
  · intro R h; walk_at "rd"; exact ⟨ys, .inl (SqL.of hb), h⟩
  · rintro i σ H' hi ⟨rfl, o, rfl⟩
    obtain ⟨r, hri, p2, e2, hp2⟩ := Paired.get i ys[i] hy (by simp [hi])
    obtain ⟨v, hv, p1, rfl, hp1⟩ := Paired.get' i r hx hri
    have hv2 : ys[i]? = some (.ref p2) := by rw [← e2]; simp [hi]
    simp only [rb_law_same_rows_1]
    refine tSeq_gen fun U hU => ?_
    walk_at "rd"
    refine ⟨xs, .inl (SqL.of ha), _, atI_nat hv, ?_⟩
    refine ⟨_, hp1, true, rfl, ?_⟩
    walk_at "rd"
    refine ⟨xs, .inl (SqL.of ha), _, atI_nat hv, ?_⟩
    refine ⟨_, .inr (SqT.of hp1), ?_⟩
    walk_at "rd"
    refine ⟨xs, .inl (SqL.of ha), _, atI_nat hv, ?_⟩
    refine ⟨_, .inr (SqT.of hp1), _, rfl, ?_⟩
    walk_at "rd"
    subst hU
    walk_at "rd"
    refine ⟨xs, .inl (SqL.of ha), _, atI_nat hv, ?_⟩
    refine ⟨_, .inr (SqT.of hp1), _, rfl, ?_⟩
    refine ⟨ys, .inl (SqL.of hb), _, atI_nat hv2, ?_⟩
    refine ⟨_, .inr (SqT.of hp2), _, rfl, ?_⟩
    walk_at "rd"
    refine ⟨xs, .inl (SqL.of ha), _, atI_nat hv, ?_⟩
    refine ⟨_, .inr (SqT.of hp1), _, rfl, ?_⟩
    refine ⟨ys, .inl (SqL.of hb), _, atI_nat hv2, ?_⟩
    refine ⟨_, .inr (SqT.of hp2), _, rfl, ?_⟩
    refine ⟨r.2, r.2, rfl, ?_⟩
    simp only [decide_true]
    walk_at "rd"
  · rintro σ H' ⟨rfl, o, rfl⟩
    subst hU
    dsimp only
    walk_at "rd"
    exact q
end L2

end
section
set_option Elab.async false
set_option linter.all false
set_option maxRecDepth 100000
set_option maxHeartbeats 4000000
namespace L2
open PySem PySem.Spec PyProof.Rows
/-! ### a lambda that captures nothing, as the key of sorted -/
theorem lam_run {P : Program} {w : World} {K : PySem.W.Frag} {mg : Str → Option Value} {base : Heap} {k : Nat} {f c' : Addr} {name qual : Str} {params : Arguments} {body : Expr} {scope : Scope} {pm ctv : Value} {N ps : List Str}
    {A : Around} {outer : List Env} {s : Shared} {H : Hp} {args : Args} {us : List Value} {vs : List V} {Q : VK} {t : TE} (S : FnScope N ps scope) (ho : s.heap.get? f = some (PySem.W.kla_obj name qual params body scope [] pm c' ctv)) (hcd : s.heap.CodeRec (.ref c') qual)
    (hr : Room (k + 1) A) (e0 : Env0 P w K mg base A outer s H) (hb : bindArgs (PySem.W.kla_fn name qual params body scope [] pm (.ref c') ctv) args = pure (ps.zip us)) (hl : vs.length = ps.length) (r : Vals vs us)
    (hbody : PE (cxOf CX0 P w K mg base N qual scope f (.ref c') A outer s H E0) body t) (hq : t (start N vs) H Q) :
    codeAny (model P w) A (.call (.ref f) args) (CR CX0 outer P w H s Q E0) s := by
  have lim : s.heap.NoLimit := e0.mod.nolimit.keeps fun b o e => (e0.bs b o e).1
  have hkind : ∀ y ∈ ps.zip us, scope.names.lookup y.1 = some .local ∨ (scope.names.lookup y.1 = some .cell ∧ ((cellsFrom (s.heap.objs.size + 1) scope.names []).lookup y.1).isSome = true) := fun ⟨n, v⟩ hy => by
    rcases S.par n (List.of_mem_zip hy).1 with q | q
    · exact .inl q
    · exact .inr ⟨q, PySem.W.cellsFrom_some _ _ _ (.inl q)⟩
  refine PySem.W.kla_callFunE hr.depth ho rfl S.co S.gen rfl hcd ?_
  rw [hb]
  refine wpAny_pure (wpAny_newFunctionEnv_cells S.kind hkind fun env he s1 x => ?_)
  subst he
  refine ⟨lim.keeps x.toInCall.keep, PySem.W.kla_codeExpr ?_⟩
  have I : Inv (cxOf CX0 P w K mg base N qual scope f (.ref c') A outer s H E0) [] (start N vs) H s1 := inv_start S hr.hd e0 hl r x
  refine wpAny_mono (hbody [] s1 (start N vs) H _ I hq) (fun u s' hs => ?_) fun e s' hs => hs
  obtain ⟨v, H', J, rv, q⟩ := hs
  exact ⟨v, H', J.os, J.bare, J.base, J.hok, rv, q⟩
/-- the code object that a lambda's text has made -/
def lamCode (c' : Addr) (qual : Str) : HO := .ext fun h => h.CodeRec (.ref c') qual
/-- the table of the code of the def around the lambda: empty, or the lambda's code stands there -/
def LamT (P : Addr) (lp : Pos) (qual : Str) (H : Hp) : Prop :=
  H P = some (.tbl #[]) ∨ ∃ c', H P = some (.tbl #[rawInt lp.line, rawInt lp.col, .ref c']) ∧ H c' = some (lamCode c' qual)
/-- all but the tables is as it was -/
structure Grow (H H' : Hp) : Prop where
  old : ∀ b o, H b = some o → (∀ ps, o ≠ .tbl ps) → H' b = some o
  tab : ∀ b ps, H b = some (.tbl ps) → ∃ ps', H' b = some (.tbl ps')
theorem Grow.refl (H : Hp) : Grow H H := ⟨fun _ _ h _ => h, fun _ ps h => ⟨ps, h⟩⟩
theorem Grow.trans {H H1 H2 : Hp} (a : Grow H H1) (b : Grow H1 H2) : Grow H H2 := ⟨fun c o h n => b.old c o (a.old c o h n) n, fun c ps h => let ⟨ps', h'⟩ := a.tab c ps h; b.tab c ps' h'⟩
theorem Grow.of {H H' : Hp} (h : Same H H') : Grow H H' := ⟨fun b o e _ => h b o e, fun b ps e => ⟨ps, h b _ e⟩⟩
theorem Grow.free {H H' : Hp} (g : Grow H H') {l : Addr} (h : H' l = none) : H l = none := by
  cases e : H l with
  | none => rfl
  | some o =>
    by_cases n : ∃ ps, o = .tbl ps
    · obtain ⟨ps, rfl⟩ := n
      obtain ⟨ps', e'⟩ := g.tab l ps e
      rw [h] at e'; cases e'
    · have e' := g.old l o e fun ps z => n ⟨ps, z⟩
      rw [h] at e'; cases e'
theorem Grow.upd {H H' : Hp} (g : Grow H H') {l : Addr} {o : HO} (h : H' l = none) : Grow H (L2.upd H' l o) :=
  ⟨fun b u e n => by rw [upd_ne (ne_of_none (g.old b u e n) h)]; exact g.old b u e n, fun b ps e => by
    obtain ⟨ps', e'⟩ := g.tab b ps e
    exact ⟨ps', by rw [upd_ne (ne_of_none e' h)]; exact e'⟩⟩
/-- a list that is not of the older heap is written -/
theorem Grow.put {H H' : Hp} (g : Grow H H') {l : Addr} {xs : List V} {o : HO} (h : H' l = some (.lst xs)) (n : H l = none) : Grow H (L2.upd H' l o) :=
  ⟨fun b u e m => by rw [upd_ne (ne_of_none e n)]; exact g.old b u e m, fun b ps e => by
    obtain ⟨ps', e'⟩ := g.tab b ps e
    exact ⟨ps', by rw [upd_ne (ne_of_none e n)]; exact e'⟩⟩
theorem Grow.lst {H H' : Hp} (g : Grow H H') {a : Addr} {xs : List V} (h : H a = some (.lst xs)) : H' a = some (.lst xs) := g.old a _ h fun _ z => nomatch z
theorem Grow.tup {H H' : Hp} (g : Grow H H') {a : Addr} {xs : List V} (h : H a = some (.tup xs)) : H' a = some (.tup xs) := g.old a _ h fun _ z => nomatch z
theorem Grow.rd {H H' : Hp} (g : Grow H H') {a : Addr} {u : HO} (n : ∀ ps, u ≠ .tbl ps) (h : Rd H a u) : Rd H' a u := by
  rcases h with h | ⟨o, h⟩
  · exact .inl (g.old a _ h n)
  · exact .inr ⟨o, g.old a _ h fun _ z => nomatch z⟩
theorem Grow.sqL {K : PySem.W.Frag} {H H' : Hp} (g : Grow H H') {a : Addr} {xs : List V} (h : SqL K H a xs) : SqL K H' a xs := h.imp (g.rd fun _ z => nomatch z) id
theorem LamT.same {P : Addr} {lp : Pos} {qual : Str} {H H' : Hp} (h : LamT P lp qual H) (s : Same H H') : LamT P lp qual H' := by
  rcases h with h | ⟨c', h1, h2⟩
  · exact .inl (s _ _ h)
  · exact .inr ⟨c', s _ _ h1, s _ _ h2⟩
theorem LamT.upd {P : Addr} {lp : Pos} {qual : Str} {H : Hp} {l : Addr} {o : HO} (h : LamT P lp qual H) (hl : H l = none ∨ ∃ xs, H l = some (.lst xs)) : LamT P lp qual (upd H l o) := by
  have ne : ∀ b u, H b = some u → (∀ xs, u ≠ .lst xs) → b ≠ l := fun b u e n z => by
    subst z
    rcases hl with hl | ⟨xs, hl⟩
    · rw [hl] at e; cases e
    · rw [hl] at e; cases e; exact n xs rfl
  rcases h with h | ⟨c', h1, h2⟩
  · exact .inl ((upd_ne (ne _ _ h fun _ z => nomatch z)).trans h)
  · exact .inr ⟨c', (upd_ne (ne _ _ h1 fun _ z => nomatch z)).trans h1, (upd_ne (ne _ _ h2 fun _ z => nomatch z)).trans h2⟩
/-- sorted(xs, key=lambda x: ..) -/
def tSortLam (K : PySem.W.Frag) (P : Addr) (lp : Pos) (qual : Str) (tb : TE) (t : TA) : TE := fun σ H Q => t σ H fun as H1 => ∃ a xs ks, as = [.ref a] ∧ SqL K H1 a xs ∧ xs.length < 64 ∧ ks.length = xs.length ∧ LamT P lp qual H1 ∧
  ∀ H2, Grow H1 H2 → LamT P lp qual H2 → (∀ (i : Nat) (x : V) (y : Str), xs[i]? = some x → ks[i]? = some y → tb [some x] H2 (fun v H' => v = .str y ∧ H' = H2)) ∧ ∀ l ys, H2 l = none → SortedBy ks xs ys → Q (.ref l) (upd H2 l (.lst ys))
theorem coderec_one {c' : Addr} {qual : Str} {h1 h2 : Heap} (x : h1.CodeRec (.ref c') qual) (k : ∀ o, h1.get? c' = some o → h2.get? c' = some o) : h2.CodeRec (.ref c') qual := by
  obtain ⟨c, o, vs, t, e, g, r⟩ := x
  cases e
  exact ⟨_, o, vs, t, rfl, k o g, r⟩
theorem builtinsAt_keeps {h h' : Heap} {mg : Str → Option Value} {P : Addr} (x : h.BuiltinsAt mg P) (k : ∀ b o, h.get? b = some o → h'.get? b = some o) : h'.BuiltinsAt mg P := by
  obtain ⟨bm, o, e1, e2, e3, e4, e5, r⟩ := x
  exact ⟨bm, o, e1, e2, e3, e4, k _ _ e5, r⟩
section
variable {X : Cx} {k : Nat} {c P : Addr} {args : Arguments} {body e : Expr} {scope : Scope} {lp kp p pos : Pos} {pn : Str} {t : TA} {tb : TE}
theorem pe_sortLam (hc : PySem.W.CodeHd X.base c P) (hB : X.base.BuiltinsAt X.mg P) (hcode : X.env.code = .ref c) (hr : Room (k + 3) X.A) (hs : X.mg "sorted" = none) (ha : PA X [e] t) (S : FnScope [pn] [pn] scope)
    (hb : ∀ (A : Around) (outer : List Env) (s : Shared) (H : Hp) (f c' : Addr), PE (cxOf CX0 X.prog X.w X.K X.mg X.base [pn] (X.env.qual ++ "<lambda>") scope f (.ref c') A outer s H E0) body tb)
    (hbind : ∀ (pm ct cd u : Value), bindArgs (PySem.W.kla_fn "<lambda>" (X.env.qual ++ "<lambda>") args body scope [] pm cd ct) ⟨[u], []⟩ = pure [(pn, u)])
    (hdef : defaultsOf args X.env = ([], []) := by rfl) (hcl : closureFor scope X.env = pure [] := by rfl) (hex : X.ex = [] := by rfl) (hg2 : Gl X "sorted" := by rfl)
    (he : backTo pos (starEach [e] X.env) = (false, eval e X.env) :: backTo pos (starEach [] X.env) := by rfl) (hpl : (backTo pos (starEach [e] X.env)).any (·.1) = false := by rfl)
    (hall : (backToKw pos (keywordEach [⟨some "key", .Lambda args body scope lp, kp⟩] X.env)).all (·.1.isSome) = true := by rfl) (hkw : (backToKw pos (keywordEach [⟨some "key", .Lambda args body scope lp, kp⟩] X.env)).any (·.1.isNone) = false := by rfl)
    (hnm : (backToKw pos (keywordEach [⟨some "key", .Lambda args body scope lp, kp⟩] X.env)).filterMap (·.1) = [(Str.ofString "key")] := by rfl) :
    PE X (.Call (.Name "sorted" p) [e] [⟨some "key", .Lambda args body scope lp, kp⟩] pos) (tSortLam X.K P lp (X.env.qual ++ "<lambda>") tb t) := by
  intro pins s σ H Q I h
  refine wpAny_Call_Name_kw (ld_blt I hg2 hs bt_sorted ?_)
  refine callWith_kw (thn (ha pos pins s σ H _ I h) fun us s1 ⟨as, H1, I1, r, a, xs, ks, ea, ql, h64, hkl, lam, q⟩ => ?_) he hpl hall hkw
  subst ea
  obtain ⟨u, rfl, ru⟩ := vals1 r
  cases ru
  have fin : ∀ (f c' : Addr) (ctv pm : Value) (H2 : Hp) (s2 : Shared), Inv X pins σ H2 s2 → s2.heap.get? f = some (PySem.W.kla_obj "<lambda>" (X.env.qual ++ "<lambda>") args body scope [] pm c' ctv) → FpOk X pins H2 f → H2 c' = some (lamCode c' (X.env.qual ++ "<lambda>")) →
      Grow H1 H2 → LamT P lp (X.env.qual ++ "<lambda>") H2 → wpAny (model X.prog X.w) X.A (call (.builtin "sorted") [.ref a] [(Str.ofString "key", .ref f)]) (EP X pins σ Q) X.xe s2 := by
    intro f c' ctv pm H2 s2 I2 of ff hc2 gr lt
    obtain ⟨q1, q2⟩ := q H2 gr lt
    have Ip := I2.pinned (fp := [f]) (fun b hb => by rw [List.mem_singleton.mp hb]; exact ff) (fun b hb => by rw [List.mem_singleton.mp hb]; exact ⟨_, of, fun v z => nomatch z⟩)
    refine wpAny_mono (sorted_key (pins := pins ++ pinsAt [f] s2.heap) Ip hex (gr.sqL ql) h64 hkl ?_ q2) (fun v s' ⟨w', H', J, rv, qq⟩ => ⟨w', H', J.unpinned, rv, qq⟩) fun _ _ z => z
    intro s' pins' i v x y I' hx hy rx
    have of' := (I'.pin (f, _) (List.mem_append_right _ (List.mem_append_left _ (List.mem_append_right _ (mem_pinsAt (List.mem_singleton.mpr rfl) of))))).1
    have cr : s'.heap.CodeRec (.ref c') (X.env.qual ++ "<lambda>") := (I'.hok c' _ hc2).1
    have e0 : Env0 X.prog X.w X.K X.mg X.base X.A.in1.in1 X.stack s' H2 := ⟨I'.ok.frames, I'.env0.mod, I'.env0.bs, I'.env0.bsz, I'.env0.funs, I'.env0.frf, I'.env0.hok, I'.env0.bare⟩
    exact lam_run (k := k) (N := [pn]) (ps := [pn]) (us := [v]) (vs := [x]) S of' cr (hr.in1).in1 e0 (hbind _ _ _ _) rfl (.cons rx .nil) (hb _ _ _ _ _ _) (q1 i x y hx hy)
  refine kws_cons (PySem.W.kla_eval hdef ?_)
  have hPs : ∃ ps, H1 P = some (.tbl ps) := by
    rcases lam with z | ⟨_, z, _⟩
    · exact ⟨_, z⟩
    · exact ⟨_, z⟩
  have glo := I1.mod.glob.keeps I1.bk
  have hgP : mainGlobals ≠ P := fun z => by
    obtain ⟨o, es, ep, e1, _⟩ := I1.mod.glob
    have := (I1.bs _ _ e1).2
    obtain ⟨ps, hP⟩ := hPs
    rw [z, hP] at this; cases this
  have hB1 := builtinsAt_keeps hB I1.bk
  have hc1 := hc.keeps I1.bk
  rcases lam with hP | ⟨c', hP, hc'⟩
  · have oP : s1.heap.get? P = some (PySem.W.tabObj #[]) := I1.hok P _ hP
    refine PySem.W.kla_makeFunction (mg := X.mg) (clos := []) hcl I1.ok.glob glo hcode hc1 oP True.intro rfl hgP hB1 fun c' ctv h' tk hx hge hlt hrec htb => kws_nil ?_
    rw [hnm]
    have ltP : P < s1.heap.objs.size := Heap.lt_size oP
    have nP : c' ≠ P := fun z => by rw [z] at hge; exact absurd (Nat.lt_of_lt_of_le ltP hge) (Nat.lt_irrefl _)
    have nc : H1 c' = none := I1.hok.fresh hge
    have hsz : s1.heap.objs.size ≤ h'.objs.size := Nat.le_of_lt (Nat.lt_of_le_of_lt hge hlt)
    have nf : H1 h'.objs.size = none := I1.hok.fresh hsz
    have hold : ∀ b o, H1 b = some o → b ≠ P → upd (upd H1 c' (lamCode c' (X.env.qual ++ "<lambda>"))) P (.tbl #[rawInt lp.line, rawInt lp.col, .ref c']) b = some o := fun b o z n => by
      rw [upd_ne n, upd_ne (ne_of_none z nc)]; exact z
    have tabP : ∀ b o, H1 b = some o → (∀ ps, o ≠ .tbl ps) → b ≠ P := fun b o z n w => by rw [w, hP] at z; cases z; exact n _ rfl
    have htb' : h'.get? P = some (PySem.W.tabObj #[rawInt lp.line, rawInt lp.col, .ref c']) := by simpa using htb
    obtain ⟨oc, hoc⟩ : ∃ oc, h'.get? c' = some oc := by obtain ⟨_, o, _, _, e, g, _⟩ := hrec; cases e; exact ⟨o, g⟩
    refine fin h'.objs.size c' ctv _ (upd (upd H1 c' (lamCode c' (X.env.qual ++ "<lambda>"))) P (.tbl #[rawInt lp.line, rawInt lp.col, .ref c'])) _ ?_ (Heap.get?_push_size _ rfl) (I1.fpOk hsz ?_) ?_ ⟨fun b o z n => hold b o z (tabP b o z n), fun b ps z => ?_⟩ (.inr ⟨c', upd_same, ?_⟩)
    · refine I1.un (t' := tk) ⟨fun b o z n _ _ => Heap.get?_push_of_some _ (hx b o (fun w => by rw [w, hP] at n; cases n) z), fun b o z n _ _ => ⟨o.slots, Heap.get?_push_of_some _ (hx b o (fun w => by rw [w, hP] at n; cases n) z)⟩, fun b o z n _ => ?_, fun b o z _ => ?_,
        fun b xs z => hold b _ z (tabP b _ z fun _ w => nomatch w), fun b o u z => hold b _ z (tabP b _ z fun _ w => nomatch w), fun b ps z => ?_⟩ fun b o z => ?_
      · have n1 : b ≠ P := fun w => by rw [w, hP] at n; cases n
        have n2 : b ≠ c' := fun w => by subst w; exact absurd (Nat.lt_of_lt_of_le (Heap.lt_size z) hge) (Nat.lt_irrefl _)
        rw [upd_ne n1, upd_ne n2]; exact n
      · by_cases w : b = P
        · subst w; exact ⟨_, Heap.get?_push_of_some _ htb'⟩
        · exact ⟨o, Heap.get?_push_of_some _ (hx b o w z)⟩
      · by_cases w : b = P
        · subst w
          rw [hP] at z; cases z
          exact ⟨#[rawInt lp.line, rawInt lp.col, .ref c'], by rw [upd_same]; simp⟩
        · exact ⟨#[], by rw [hold b _ z w]; simp⟩
      · by_cases w : b = P
        · subst w
          rw [upd_same] at z; cases z
          exact Heap.get?_push_of_some _ htb'
        · rw [upd_ne w] at z
          by_cases w2 : b = c'
          · subst w2
            rw [upd_same] at z; cases z
            exact ⟨hrec.push _, ⟨oc, Heap.get?_push_of_some _ hoc⟩, fun h1 h2 x k => coderec_one x k⟩
          · rw [upd_ne w2] at z
            refine (I1.hok b o z).stay (fun d u hd q => Heap.get?_push_of_some _ (hx d u ?_ q)) (fun d q => hold d _ q (tabP d _ q fun _ w => nomatch w)) fun d xs q => hold d _ q (tabP d _ q fun _ w => nomatch w)
            rcases hd with rfl | hd
            · exact w
            · exact tabP d _ hd fun _ w => nomatch w
    · rw [upd_ne (Nat.ne_of_gt (Nat.lt_of_lt_of_le ltP hsz)), upd_ne (Nat.ne_of_gt hlt)]; exact nf
    · rw [upd_ne nP, upd_same]
    · by_cases w : b = P
      · exact ⟨_, by rw [w]; exact upd_same⟩
      · exact ⟨ps, hold b _ z w⟩
    · rw [upd_ne nP, upd_same]
  · have oP : s1.heap.get? P = some (PySem.W.tabObj #[rawInt lp.line, rawInt lp.col, .ref c']) := I1.hok P _ hP
    refine PySem.W.kla_makeFunctionHit (mg := X.mg) (clos := []) (cv := .ref c') hcl I1.ok.glob glo hcode hc1 oP (by simp [TriplesOk, rawInt]) (by simp [codeAmong, rawInt]) hB1 fun ctv h' tk hk hsz => kws_nil ?_
    rw [hnm]
    exact fin h'.objs.size c' ctv _ H1 _ (I1.kept fun b o z => Heap.get?_push_of_some _ (hk b o z)) (Heap.get?_push_size _ rfl) (I1.fpOk hsz (I1.hok.fresh hsz)) hc' (Grow.refl _) (.inr ⟨c', hP, hc'⟩)
end
end L2

end
section
set_option Elab.async false
set_option linter.all false
set_option maxRecDepth 100000
set_option maxHeartbeats 4000000
namespace L2
open PySem PySem.Spec PyProof.Rows
/-! ### a law whose program has one def with a lambda: that def's code table is tracked from the start -/
/-- where the table of a def's code lies -/
def tabAt (K : PySem.W.Frag) (x : Str) : Addr := match PySem.W.tabIn K x with
  | some (_, P) => P
  | none => 0
/-- the place of the lambda in «return sorted(.., key=lambda ..)» -/
def lamPosB : List Stmt → Pos
  | .Return (some (.Call _ _ [⟨_, .Lambda _ _ _ p, _⟩] _)) _ :: _ => p
  | _ => ⟨0, 0, 0, 0⟩
def lamPos (K : PySem.W.Frag) (x : Str) : Pos := match PySem.W.nsIn K mainGlobals x with
  | some (some (.ref f)) => (match K.lookup f with
    | some ⟨_, _, .func fd, _⟩ => (match fd.body with | .stmts b => lamPosB b | _ => ⟨0, 0, 0, 0⟩)
    | _ => ⟨0, 0, 0, 0⟩)
  | _ => ⟨0, 0, 0, 0⟩
theorem tabAt_of {K : PySem.W.Frag} {x : Str} {c P : Addr} (h : PySem.W.tabIn K x = some (c, P)) : tabAt K x = P := by
  unfold tabAt
  rw [h]
theorem lamPos_of {K : PySem.W.Frag} {x qual : Str} {st : Stmt} {f : Addr} {oc : Value} {od an : Option Addr} {osl : Array (Option Value)} {kV doc pm cdv ct : Value} (a : PySem.W.nsIn K mainGlobals x = some (some (.ref f)))
    (l : K.lookup f = some ⟨oc, od, .func (PySem.W.fnOf x qual (defArgs st) (defBody st) (defScope st) .none kV doc pm an cdv ct), osl⟩) : lamPos K x = lamPosB (defBody st) := by
  unfold lamPos
  rw [a]
  dsimp only
  rw [l]
/-- the qualified name of a lambda in the def x -/
abbrev lamQ (x : Str) : Str := x ++ ".<locals>." ++ "<lambda>"
abbrev LamK (K : PySem.W.Frag) (x : Str) (H : Hp) : Prop := LamT (tabAt K x) (lamPos K x) (lamQ x) H
theorem fun_codeOk {P : Program} {w : World} {K : PySem.W.Frag} {mg : Str → Option Value} {base : Heap} {x qual : Str} {st : Stmt} {f c : Addr} {oc : Value} {od an : Option Addr} {osl : Array (Option Value)} {kV doc pm cdv ct : Value} {N ps : List Str} {k : Nat} {sp : Sp}
    (l : K.lookup f = some ⟨oc, od, .func (PySem.W.fnOf x qual (defArgs st) (defBody st) (defScope st) .none kV doc pm an cdv ct), osl⟩) (hcd : PySem.W.codeIn K cdv qual = true) (e : cdv = .ref c) (S : FnScope N ps (defScope st)) (len : ∀ vs H Q E, sp vs H Q E → vs.length = ps.length)
    (hbody : ∀ (A : Around) (outer : List Env) (s : Shared) (H : Hp) (vs : List V) (Q : VK) (E : XK), Room k (A.deeper (envOfC qual (defScope st) s.heap.objs.size f (.ref c))) → sp vs H Q E →
      ∃ t, PSs (cxOf CX0 P w K mg base N qual (defScope st) f (.ref c) A outer s H E).nox (defBody st) t ∧ t { nx := fun _ H' => Q .non H', rt := Q } (start N vs) H) :
    FnOk P w K mg base CX0 (k + 1) f (PySem.W.fnOf x qual (defArgs st) (defBody st) (defScope st) .none kV doc pm an cdv ct) ps sp := by
  subst e
  refine fn_of l hcd S len fun A outer s H vs Q E hr hsp => ?_
  obtain ⟨t, h, q⟩ := hbody A outer s H vs Q E hr hsp
  exact ⟨t, h.nox, q⟩
section
variable {X : Cx} {k : Nat} {c Pt : Addr} {args : Arguments} {body e : Expr} {scope : Scope} {lp lp' kp p pos : Pos} {pn : Str} {t : TA} {tb : TE}
theorem pe_sortLamK (hC : PySem.W.CodeHd X.base c Pt) (hB : X.base.BuiltinsAt X.mg Pt) (hcode : X.env.code = .ref c) (hp : lp' = lp) (hr : Room (k + 3) X.A) (hs : X.mg "sorted" = none) (ha : PA X [e] t)
    (hb : ∀ (A : Around) (outer : List Env) (s : Shared) (H : Hp) (f c' : Addr), PE (cxOf CX0 X.prog X.w X.K X.mg X.base [pn] (X.env.qual ++ "<lambda>") scope f (.ref c') A outer s H E0) body tb)
    (S : FnScope [pn] [pn] scope := by exact ⟨rfl, rfl, rfl, by decide +kernel, rfl, by decide +kernel, by decide +kernel⟩)
    (hbind : ∀ (pm ct cd u : Value), bindArgs (PySem.W.kla_fn "<lambda>" (X.env.qual ++ "<lambda>") args body scope [] pm cd ct) ⟨[u], []⟩ = pure [(pn, u)] := by intro _ _ _ _; rfl)
    (hdef : defaultsOf args X.env = ([], []) := by rfl) (hcl : closureFor scope X.env = pure [] := by rfl) (hex : X.ex = [] := by rfl) (hg2 : Gl X "sorted" := by rfl)
    (he : backTo pos (starEach [e] X.env) = (false, eval e X.env) :: backTo pos (starEach [] X.env) := by rfl) (hpl : (backTo pos (starEach [e] X.env)).any (·.1) = false := by rfl)
    (hall : (backToKw pos (keywordEach [⟨some "key", .Lambda args body scope lp, kp⟩] X.env)).all (·.1.isSome) = true := by rfl) (hkw : (backToKw pos (keywordEach [⟨some "key", .Lambda args body scope lp, kp⟩] X.env)).any (·.1.isNone) = false := by rfl)
    (hnm : (backToKw pos (keywordEach [⟨some "key", .Lambda args body scope lp, kp⟩] X.env)).filterMap (·.1) = [(Str.ofString "key")] := by rfl) :
    PE X (.Call (.Name "sorted" p) [e] [⟨some "key", .Lambda args body scope lp, kp⟩] pos) (tSortLam X.K Pt lp' (X.env.qual ++ "<lambda>") tb t) := by
  subst hp
  exact pe_sortLam hC hB hcode hr hs ha S hb hbind hdef hcl hex hg2 he hpl hall hkw hnm
end
theorem law_callT {P : Program} {w : World} {K : PySem.W.Frag} {mg mb : Str → Option Value} {CX : CXT} {k : Nat} {fa a c Pt : Addr} {fd : FuncData} {x : Str} {sp : Sp} {s₁ : Shared} {vs : List Value} {ns : List Int}
    (KX : K.In s₁.heap) (hns : s₁.heap.Ns mainGlobals mg) (hb : s₁.heap.Ns builtinsNs mb) (hbb : ∀ x : Str, x ≠ "__name__" → mb x = bootBuiltins x) (hlim : s₁.heap.NoLimit) (hg : s₁.gens = #[])
    (ha : s₁.heap.get? a = some { cls := .type "list", data := .seq vs.toArray }) (hi : IntsAre vs ns) (hl : ns.length ≤ sizeLine) (hr : Room k callerA)
    (hc : PySem.W.CodeHd s₁.heap c Pt) (hP : s₁.heap.get? Pt = some (PySem.W.tabObj #[])) (noP : K.lookup Pt = none) (hbm : s₁.heap.BuiltinsAt mg Pt)
    (F : ∀ base : Heap, K.In base → base.Ns mainGlobals mg → base.BuiltinsAt mg Pt → FnOk P w K mg base CX k fa fd [x] sp) (hbind : ∀ (s : Shared) (u : Value), BindsTo s fd ⟨[u], []⟩ [(x, u)])
    (hsp : ∀ H : Hp, H Pt = some (.tbl #[]) → SqL K H a (ns.map V.int) → sp [.ref a] H (fun v _ => v = .bl true) fun _ _ _ => False)
    (hCX : ∀ H e s', CX [] H s₁ (fun _ _ _ => False) e s' → False) :
    codeAny (model P w) callerA (.call (.ref fa) ⟨[.ref a], []⟩) (fun r s' => r = .ok (.ret (.bool true)) ∧ OldK s₁.heap s'.heap ∧ s'.os = s₁.os ∧ AllBare s'.gens) s₁ := by
  have rv := vals_ints hi
  have lenV := hi.length
  have neA : a ≠ Pt := fun z => by rw [z, hP] at ha; cases ha
  have core : ∀ H : Hp, (∀ b, H b = none ∨ (∃ o xs, H b = some (.frz o (.lst xs))) ∨ b = Pt) → H Pt = some (.tbl #[]) → SqL K H a (ns.map V.int) → HOk P w H s₁.heap → (∀ b, H b ≠ none → b = a ∨ b = Pt) → (H a ≠ none → K.lookup a = none) →
      codeAny (model P w) callerA (.call (.ref fa) ⟨[.ref a], []⟩) (fun r s' => r = .ok (.ret (.bool true)) ∧ OldK s₁.heap s'.heap ∧ s'.os = s₁.os ∧ AllBare s'.gens) s₁ := by
    intro H hO hT hS hok hA hK
    have base_of : ∀ {b : Addr} {o : Obj}, s₁.heap.get? b = some o → H b = none → (hidT s₁.heap H).get? b = some o := fun e n => hidT_get e n
    have noA : ∀ {b : Addr} {o : Obj}, s₁.heap.get? b = some o → (∀ n, o ≠ { cls := .type "list", data := .seq vs.toArray n }) → o ≠ PySem.W.tabObj #[] → H b = none := fun {b o} e d1 d2 => by
      cases q : H b with
      | none => rfl
      | some u =>
        rcases hA b (by rw [q]; simp) with e' | e'
        · subst e'
          rw [ha] at e; cases e
          exact absurd rfl (d1 _)
        · subst e'
          rw [hP] at e; cases e
          exact absurd rfl d2
    have nsK : ∀ {b : Addr} {m : Str → Option Value}, s₁.heap.Ns b m → (hidT s₁.heap H).Ns b m := fun {b m} ⟨o, es, ep, e, d, r⟩ => ⟨o, es, ep, base_of e (noA e (fun n z => by rw [z] at d; cases d) fun z => by rw [z] at d; cases d), d, r⟩
    have hKb : K.In (hidT s₁.heap H) := fun b o e => base_of (KX b o e) (by
      cases q : H b with
      | none => rfl
      | some u =>
        rcases hA b (by rw [q]; simp) with e' | e'
        · subst e'
          rw [hK (by rw [q]; simp)] at e; cases e
        · subst e'
          rw [noP] at e; cases e)
    have hM : Mod K mg (hidT s₁.heap H) := ⟨hKb, nsK hns, ⟨mb, nsK hb, hbb⟩, let ⟨mc, h1, h2⟩ := hlim; ⟨mc, nsK h1, h2⟩⟩
    have hbm' : (hidT s₁.heap H).BuiltinsAt mg Pt := by
      obtain ⟨bm, o, e1, e2, e3, e4, e5, e6, e7, e8⟩ := hbm
      exact ⟨bm, o, e1, e2, e3, e4, base_of e5 (noA e5 (fun n z => by rw [z] at e6; injection e6 with e6; exact absurd e6 (by decide)) fun z => by rw [z] at e6; cases e6), e6, e7, e8⟩
    have e0 : Env0 P w K mg (hidT s₁.heap H) callerA [] s₁ H := ⟨rfl, hM, fun b o e => of_hidT e, Nat.le_of_eq (hidT_size _ _), trivial, fun b hb => absurd (show b ∈ ([] : List Addr) from hb) (by simp), hok, .of_eq hg⟩
    refine codeAny_mono ((F _ hKb (nsK hns) hbm').run callerA [] s₁ H ⟨[.ref a], []⟩ [.ref a] [.ref a] _ _ hr e0 (hbind s₁ (.ref a)) (.cons rfl .nil) (hsp H hT hS)) fun r s' h => ?_
    cases r with
    | error e => exact (hCX H e s' h).elim
    | ok fl =>
      cases fl with
      | next => exact False.elim h
      | brk => exact False.elim h
      | cont => exact False.elim h
      | ret u =>
        obtain ⟨v, H', os, bare, un, hok', r', q⟩ := h
        have q' : v = .bl true := q
        subst q'
        obtain rfl : u = Value.bool true := r'
        obtain ⟨more, hT'⟩ := un.tbls Pt _ hT
        have oP' : s'.heap.get? Pt = some (PySem.W.tabObj (#[] ++ more)) := hok' Pt _ hT'
        have keep : ∀ b o, b ≠ Pt → s₁.heap.get? b = some o → s'.heap.get? b = some o := fun b o n e => by
          cases q : H b with
          | none => exact un.keep b o e q (by intro z; exact absurd (show b ∈ ([] : List Addr) from z) (by simp)) (by simp)
          | some u =>
            rcases hO b with z | ⟨ob, xs, z⟩ | z
            · rw [q] at z; cases z
            · have z2 := un.frzs b ob _ z
              obtain ⟨e1, _⟩ := hok b _ z
              obtain ⟨e2, _⟩ := hok' b _ z2
              rw [e] at e1; cases e1
              exact e2
            · exact absurd z n
        refine ⟨rfl, ⟨fun b o e => ?_, fun b o e => ?_⟩, os, bare⟩
        · by_cases hb : b = Pt
          · subst hb
            rw [hP] at e; cases e
            exact .inr (.inl ⟨(hc.tab hP).isCodeTable, rfl, #[], more, rfl, oP'⟩)
          · exact .inl (keep b o hb e)
        · by_cases hb : b = Pt
          · subst hb; exact ⟨_, oP'⟩
          · exact ⟨o, keep b o hb e⟩
  cases hk : K.lookup a with
  | some o =>
    have e := KX a o hk
    rw [ha] at e
    cases e
    refine core (fun b => if b = Pt then some (.tbl #[]) else none) (fun b => ?_) (if_pos rfl) (.inr ⟨_, vs.toArray, _, hk, rfl, rfl, rfl, by rw [List.size_toArray, lenV]; exact hl, by simpa using rv⟩) (fun b u z => ?_) (fun b z => ?_) fun z => absurd (if_neg neA) z
    · by_cases hb : b = Pt
      · exact .inr (.inr hb)
      · exact .inl (if_neg hb)
    · by_cases hb : b = Pt
      · have z' := (if_pos hb).symm.trans z
        cases z'
        subst hb
        exact hP
      · have z' := (if_neg hb).symm.trans z
        cases z'
    · by_cases hb : b = Pt
      · exact .inr hb
      · exact absurd (if_neg hb) z
  | none =>
    refine core (fun b => if b = Pt then some (.tbl #[]) else if b = a then some (.frz { cls := .type "list", data := .seq vs.toArray } (.lst (ns.map V.int))) else none) (fun b => ?_) (if_pos rfl) (.inl (.inr ⟨{ cls := .type "list", data := .seq vs.toArray }, (if_neg neA).trans (if_pos rfl)⟩)) (fun b u z => ?_) (fun b z => ?_) fun _ => hk
    · by_cases hb : b = Pt
      · exact .inr (.inr hb)
      · by_cases hb2 : b = a
        · exact .inr (.inl ⟨_, _, (if_neg hb).trans (if_pos hb2)⟩)
        · exact .inl ((if_neg hb).trans (if_neg hb2))
    · by_cases hb : b = Pt
      · have z' := (if_pos hb).symm.trans z
        cases z'
        subst hb
        exact hP
      · by_cases hb2 : b = a
        · have z' := ((if_neg hb).trans (if_pos hb2)).symm.trans z
          cases z'
          subst hb2
          exact ⟨ha, by rw [List.length_map]; exact hl, vs, _, rv, ha⟩
        · have z' := ((if_neg hb).trans (if_neg hb2)).symm.trans z
          cases z'
    · by_cases hb : b = Pt
      · exact .inr hb
      · by_cases hb2 : b = a
        · exact .inl hb2
        · exact absurd ((if_neg hb).trans (if_neg hb2)) z
/-- the goal that the head leaves, from the law's promise -/
theorem walk_ofT {l : PySem.W.OpenLaw} {n k : Nat} {q : Program} {loose : List Str} {XP : (Str → Option Value) → Heap → Prop} {YP : World → Heap → Prop} {d : DefRec} {K : Params → PySem.W.Frag} {CX : World → CXT} {sp : World → Sp} {x : Str} {c Pt : Addr}
    (hn : l.most = some n) (hn2 : n ≤ sizeLine) (hdf : d.params.defaults = []) (hr : Room k callerA)
    (hY : ∀ (w : World) (h : Heap), YP w h → (K w.params).In h) (hT : ∀ (w : World) (h : Heap), YP w h → h.get? Pt = some (PySem.W.tabObj #[]))
    (hC : ∀ w : World, PySem.W.codeHdIn (K w.params) c Pt = true) (noP : ∀ w : World, (K w.params).lookup Pt = none)
    (F : ∀ (w : World) (mg : Str → Option Value) (fa : Addr) (h : Heap), (K w.params).In h → h.Ns mainGlobals mg → mg d.name = some (.ref fa) →
      ∃ fd : FuncData, (∀ (s : Shared) (u : Value), BindsTo s fd ⟨[u], []⟩ [(x, u)]) ∧
        ∀ base : Heap, (K w.params).In base → base.Ns mainGlobals mg → base.BuiltinsAt mg Pt → FnOk l.prog w (K w.params) mg base (CX w) k fa fd [x] (sp w))
    (hsp : ∀ (w : World) (H : Hp) (a : Addr) (ns : List Int), ns.length ≤ n → H Pt = some (.tbl #[]) → SqL (K w.params) H a (ns.map V.int) → sp w [.ref a] H (fun v _ => v = .bl true) fun _ _ _ => False)
    (hCX : ∀ (w : World) (H : Hp) (s : Shared) (e : Value) (s' : Shared), CX w [] H s (fun _ _ _ => False) e s' → False) :
    PySem.W.WalkO q loose XP YP l.row.toRowW d [] (fun f vs => PySem.call f vs) := by
  refine Att.attach_call hn hdf fun w s₀ s₁ mg mb fa o pm cd doc a vs ns G Y ho hd hcd hmg hobj hints hlen hg => ?_
  have KX := hY w _ Y
  have tP := hT w _ Y
  obtain ⟨fd, hb, hF⟩ := F w mg fa _ KX G.T.g hmg
  have bm : s₁.heap.BuiltinsAt mg Pt := by
    obtain ⟨bm, ob, b1, b2, b3, b4, b5, b6⟩ := G.T.bmain
    refine ⟨bm, ob, b1, b2, fun z => ?_, fun z => ?_, b3, b4, b5, b6⟩
    · obtain ⟨o, es, ep, e, hd, _⟩ := G.T.g
      rw [z, e] at b3; cases b3; rw [hd] at b6; cases b6
    · rw [z, tP] at b3; cases b3; cases b4
  exact law_callT KX G.T.g G.T.b G.T.builtins G.T.nolimit hg hobj hints (Nat.le_trans hlen hn2) hr (PySem.W.codeHd_of_K KX (hC w)) tP (noP w) bm hF hb (fun H hO hS => hsp w H a ns hlen hO hS) fun H e s' => hCX w H s₁ e s'
end L2

end
section
set_option Elab.async false
set_option linter.all false
set_option maxRecDepth 100000
set_option maxHeartbeats 4000000
namespace L2
open PySem PySem.Spec PyProof.Rows
local macro_rules | `(tactic| walk_at "rd") => `(tactic| try simp only [tVar, tC, tOp, tUn, tSeq, tAsg, gName, tRet, tRetN, tIfS, tDrop, tNext, tCons, tNil, tCall, tCB, tTest, tB, tAnd, tOr, tNot, tAndV, tOrV, tNotV, tIf, tTup, tLst, tSl, tPart, tNoPart, tBM, tBM0, L2.start, rI2, rI3, rAddA, rMulA, rSubI, rDivI, rModI, rPowI, rNegI, rLt, rLe, rGt, rGe, rIsN, rNotN, rEqS, rNeS, rLen, rIxA, rIntA, rMax2, rMin2, rStrI, rListOf, rIsi2, isiF, isiO, rSlA, rStarts2, rEnds2, CDiv,
  List.map_cons, List.map_nil, List.length_cons, List.length_nil, List.replicate_succ, List.replicate_zero, List.cons_append, List.nil_append, List.append_nil, List.getElem?_cons_zero, List.getElem?_cons_succ, List.set_cons_zero, List.set_cons_succ, Option.some.injEq, V.int.injEq, V.str.injEq, V.bl.injEq, V.ref.injEq, V.ty.injEq, reduceCtorEq, exists_eq_left', exists_eq_left, exists_eq_right, exists_eq_right', exists_eq', exists_eq, exists_and_left, exists_and_right, false_and, and_false, true_and, and_true, exists_const, exists_false, false_or, or_false, List.cons.injEq, and_assoc, decide_eq_true_eq, decide_true, decide_false, Int.reduceLT, Int.reduceLE, Nat.reduceLT, Nat.reduceLeDiff, Nat.reduceSub, Nat.reduceAdd, Nat.sub_self, Nat.sub_zero, enc_eq, enc_nil, enc_0, enc_1, enc_01, enc_append, enc_len, Bool.not_true, Bool.not_false, Bool.false_eq_true, if_true, if_false, ↓reduceIte, String.reduceEq, or_true, true_or, Nat.one_mul, addr_len, bitsBy_len, List.length_append, List.length_replicate, List.length_map])
local macro_rules | `(tactic| walk_at "sz") => `(tactic| (have hline := line_ge; first | omega | (simp; omega)))
theorem Grow.tp {H H' : Hp} (g : Grow H H') : Tp H H' := fun b xs e => g.tup e
/-- sorted(rows, key=lambda row: row[0]) -/
theorem tSortLam_rows {K : PySem.W.Frag} {P : Addr} {lp : Pos} {qual : Str} {tb : TE} {t : TA} {σ : St} {H : Hp} {Q : VK} {a : Addr} {xs : List V} {rs : List Row} (htb : ∀ p v ws H2 (R : VK), H2 p = some (.tup (v :: ws)) → R v H2 → tb [some (.ref p)] H2 R)
    (ht : ∀ R : List V → Hp → Prop, R [.ref a] H → t σ H R) (ha : H a = some (.lst xs)) (hr : RowsAre H xs rs) (hf : rs.length < 64) (lam : LamT P lp qual H)
    (q : ∀ H2 l ys ss, Grow H H2 → LamT P lp qual H2 → H l = none → H2 l = some (.lst ys) → RowsAre H2 ys ss → SortR rs ss → Q (.ref l) H2) : tSortLam K P lp qual tb t σ H Q := by
  have hx := Paired.length hr
  refine ht _ ⟨a, xs, rs.map fun r => enc r.1, rfl, SqL.of ha, by omega, by rw [List.length_map]; omega, lam, fun H2 g l2 => ⟨fun i x y hxi hyi => ?_, fun l ys hl hs => ?_⟩⟩
  · obtain ⟨r, hri, p, rfl, hp⟩ := Paired.get i x hr hxi
    rw [List.getElem?_map, hri] at hyi
    cases hyi
    exact htb p _ _ H2 _ (g.tup hp) ⟨rfl, rfl⟩
  · obtain ⟨ss, h1, h2⟩ := sortedBy_rows (RowsAre.mono hr g.tp) hs
    exact q _ l ys ss (g.upd hl) (l2.upd (.inl hl)) (g.free hl) upd_same (RowsAre.mono h1 (Same.upd hl).tp) h2
def rd_by_heads (K : PySem.W.Frag) : TS :=
  (tRet (tSortLam K (tabAt K "by_heads") (lamPos K "by_heads") (lamQ "by_heads") (tOp (rIxA K) (tVar 0) (tC (.int 0))) (tCons (tVar 0) tNil)))
def nm_by_heads : List Str := ["rows"]
def sp_by_heads (K : PySem.W.Frag) : Sp := fun vs H Q _ => ∃ (a : Addr) (xs : List V) (rs : List Row), vs = [.ref a] ∧ H a = some (.lst xs) ∧ RowsAre H xs rs ∧ rs.length < 64 ∧ LamK K "by_heads" H ∧
  ∀ H2 l ys ss, Grow H H2 → LamK K "by_heads" H2 → H l = none → H2 l = some (.lst ys) → RowsAre H2 ys ss → SortR rs ss → Q (.ref l) H2
theorem len_by_heads {K vs H Q E} (h : sp_by_heads K vs H Q E) : vs.length = 1 := by obtain ⟨_, _, _, rfl, _⟩ := h; rfl
theorem rdok_by_heads {K vs H Q E} (h : sp_by_heads K vs H Q E) : rd_by_heads K { nx := fun _ H' => Q .non H', rt := Q } (start nm_by_heads vs) H := by
  obtain ⟨a, xs, rs, rfl, ha, hr, hf, lam, q⟩ := h
  simp only [rd_by_heads, nm_by_heads, tRet]
  refine tSortLam_rows (fun p v ws H2 R hp h => ?_) (fun R h => ?_) ha hr hf lam q
  · walk_at "rd"; exact ⟨_, .inr (SqT.of hp), v, atI_nat (j := 0) rfl, h⟩
  · walk_at "rd"; exact h
/-! ### a deed done -/
inductive Deed where
  | drop (h : List Bool)
  | put (h : List Bool) (w : Option Int)
def Deed.head : Deed → List Bool
  | .drop h => h
  | .put h _ => h
def DeedIs (H : Hp) (v : V) : Deed → Prop
  | .drop h => ∃ p, v = .ref p ∧ H p = some (.tup [.str (Str.ofString "drop"), .str (enc h)])
  | .put h w => ∃ p, v = .ref p ∧ H p = some (.tup [.str (Str.ofString "put"), .str (enc h), wayV w])
theorem DeedIs.mono {H H' : Hp} {v : V} {d : Deed} (h : DeedIs H v d) (t : Tp H H') : DeedIs H' v d := by
  cases d with
  | drop => obtain ⟨p, e, q⟩ := h; exact ⟨p, e, t _ _ q⟩
  | put => obtain ⟨p, e, q⟩ := h; exact ⟨p, e, t _ _ q⟩
def woHead (rs : List Row) (h : List Bool) : List Row := rs.filter fun r => r.1 != h
def doneR (rs : List Row) : Deed → List Row
  | .drop h => woHead rs h
  | .put h w => woHead rs h ++ [(h, w)]
theorem woHead_le (rs : List Row) (h : List Bool) : (woHead rs h).length ≤ rs.length := List.length_filter_le _ _
theorem ne_head (a b : List Bool) : (a != b) = !decide (enc a = enc b) := by
  by_cases e : a = b
  · simp [e]
  · have : enc a ≠ enc b := fun z => e (enc_inj z)
    simp [e, this]
theorem woHead_nodup {rs : List Row} (h : List Bool) (n : (rs.map (·.1)).Nodup) : ((woHead rs h).map (·.1)).Nodup := n.sublist (List.filter_sublist.map _)
theorem doneR_nodup {rs : List Row} (d : Deed) (n : (rs.map (·.1)).Nodup) : ((doneR rs d).map (·.1)).Nodup := by
  cases d with
  | drop h => exact woHead_nodup h n
  | put h w =>
    show ((woHead rs h ++ [(h, w)]).map (·.1)).Nodup
    rw [List.map_append, List.nodup_append]
    refine ⟨woHead_nodup h n, by simp, fun a ha b hb e => ?_⟩
    have hb : b = h := by simpa using hb
    subst hb e
    obtain ⟨r, hr, e⟩ := List.mem_map.mp ha
    have := (List.mem_filter.mp hr).2
    rw [e] at this
    simp at this
/-- the rows with another head -/
noncomputable def otherHead (H : Hp) (h : List Bool) (v : V) : Bool := @decide (fstOf H v ≠ .str (enc h)) (Classical.propDecidable _)
theorem otherHead_row {H : Hp} {h : List Bool} {v : V} {r : Row} (q : RowIs H v r) : otherHead H h v = (r.1 != h) := by
  unfold otherHead
  rw [fstOf_row q]
  by_cases e : r.1 = h
  · simp [e]
  · have : enc r.1 ≠ enc h := fun z => e (enc_inj z)
    simp [this, e]
theorem rows_woHead {H : Hp} {xs : List V} {rs : List Row} (h : List Bool) (q : RowsAre H xs rs) : RowsAre H (xs.filter (otherHead H h)) (woHead rs h) := by
  unfold woHead
  induction q with
  | nil => exact .nil
  | @cons x r xs rs hx _ ih =>
    rw [List.filter_cons, List.filter_cons, otherHead_row hx]
    cases (r.1 != h) with
    | true => exact .cons hx ih
    | false => exact ih
/-- [row for row in rows if row[0] != head] -/
theorem tComp_woHead {K : PySem.W.Frag} {js : List (Nat × Str)} {tl te : TE} {ti : TT} {σ : St} {H : Hp} {Q : VK} {a : Addr} {xs : List V} {rs : List Row} {h : List Bool} (ht : ∀ R : V → Hp → Prop, R (.ref a) H → tl σ H R) (ha : H a = some (.lst xs)) (hr : RowsAre H xs rs) (hz : xs.length ≤ 1000)
    (hp : ∀ (p : Addr) (r : Row) (H' : Hp) (R : Bool → Hp → Prop), H' p = some (.tup [.str (enc r.1), wayV r.2]) → R (r.1 != h) H' → ti (some (.ref p) :: capt js σ) H' R) (hf : ∀ (v : V) (H' : Hp) (R : VK), R v H' → te (some v :: capt js σ) H' R)
    (hQ : ∀ l ys, H l = none → RowsAre H ys (woHead rs h) → Q (.ref l) (upd H l (.lst ys))) : tComp js (iList K tl) ti te σ H Q := by
  refine tComp_lst (K := K) a xs (otherHead H h) id ht (SqL.of ha) (by walk_at "sz") (fun v hv H' R s2 q => ?_) (fun v hv _ H' R s2 q => hf v H' R q) (fun l hl => ?_)
  · obtain ⟨i, hi⟩ := List.getElem?_of_mem hv
    obtain ⟨r, _, hrow⟩ := Paired.get i v hr hi
    rw [otherHead_row hrow] at q
    obtain ⟨p, rfl, hp'⟩ := hrow
    exact hp p r H' R (s2 _ _ hp') q
  · rw [List.map_id]
    exact hQ l _ hl (rows_woHead h hr)
/-! ### rows picked by a test -/
noncomputable def pickV (H : Hp) (p : Row → Bool) (v : V) : Bool := @decide (∃ r, RowIs H v r ∧ p r = true) (Classical.propDecidable _)
def rd_done (K : PySem.W.Frag) : TS :=
  (tSeq (tAsg (tOp (rIxA K) (tVar 1) (tC (.int 1))) (gName 2))
  (tSeq (tAsg (tComp [(2, "head")] (iList K (tVar 0)) (tTest (tOp rNeS (tOp (rIxA K) (tVar 0) (tC (.int 0))) (tVar 1))) (tVar 0)) (gName 3))
  (tSeq (tIfS (tTest (tOp rEqS (tOp (rIxA K) (tVar 1) (tC (.int 0))) (tC (.str (Str.ofString "put"))))) (tDrop (tBM K "list" rAppend (tVar 3) (tCons (tTup (tCons (tVar 2) (tCons (tOp (rIxA K) (tVar 1) (tC (.int 2))) tNil))) tNil))) tNext)
  (tRet (tCall (sp_by_heads K) [] E0 (tCons (tVar 3) tNil))))))
def nm_done : List Str := ["rows", "deed", "head", "table"]
def sp_done (K : PySem.W.Frag) : Sp := fun vs H Q _ => ∃ (a : Addr) (v : V) (xs : List V) (rs : List Row) (d : Deed), vs = [.ref a, v] ∧ H a = some (.lst xs) ∧ RowsAre H xs rs ∧ rs.length < 63 ∧ DeedIs H v d ∧ LamK K "by_heads" H ∧
  ∀ H2 l ys ss, Grow H H2 → LamK K "by_heads" H2 → H l = none → H2 l = some (.lst ys) → RowsAre H2 ys ss → SortR (doneR rs d) ss → Q (.ref l) H2
theorem len_done {K vs H Q E} (h : sp_done K vs H Q E) : vs.length = 2 := by obtain ⟨_, _, _, _, _, rfl, _⟩ := h; rfl
theorem put_ne_drop : ¬ (Str.ofString "drop" = Str.ofString "put") := by decide
theorem rdok_done {K vs H Q E} (h : sp_done K vs H Q E) : rd_done K { nx := fun _ H' => Q .non H', rt := Q } (start nm_done vs) H := by
  obtain ⟨a, v, xs, rs, d, rfl, ha, hr, hf, hd, lam, q⟩ := h
  have hx := Paired.length hr
  simp only [rd_done, nm_done, L2.start]
  cases d with
  | drop h =>
    obtain ⟨p, rfl, hp⟩ := hd
    refine tSeq_gen fun U hU => ?_
    walk_at "rd"
    refine ⟨_, .inr (SqT.of hp), _, atI_nat (j := 1) rfl, ?_⟩
    subst hU
    refine tSeq_gen fun U hU => ?_
    walk_at "rd"
    refine tComp_woHead (h := h) (fun R z => by walk_at "rd"; exact z) ha hr (by omega) (fun p2 r H' R hp2 z => ?_) (fun v H' R z => by walk_at "rd"; exact z) (fun l ys hl hys => ?_)
    · simp only [capt]
      walk_at "rd"
      refine ⟨_, .inr (SqT.of hp2), _, rfl, ?_⟩
      rw [ne_head] at z
      exact ⟨_, rfl, z⟩
    · subst hU
      refine tSeq_gen fun U hU => ?_
      have sm : Same H (upd H l (.lst ys)) := Same.upd hl
      have hl1 : upd H l (.lst ys) l = some (.lst ys) := upd_same
      have lam1 : LamK K "by_heads" (upd H l (.lst ys)) := lam.upd (.inl hl)
      generalize upd H l (.lst ys) = H1 at sm hl1 lam1 ⊢
      walk_at "rd"
      refine ⟨_, .inr (SqT.of (sm _ _ hp)), _, rfl, ?_⟩
      simp only [put_ne_drop, decide_false]
      walk_at "rd"
      subst hU
      walk_at "rd"
      have wl := woHead_le rs h
      exact ⟨l, ys, woHead rs h, rfl, hl1, RowsAre.mono hys sm.tp, by omega, lam1, fun H2 l2 ys2 ss g l3 n2 h2 r2 so => q H2 l2 ys2 ss ((Grow.of sm).trans g) l3 (sm.free n2) h2 r2 so⟩
  | put h w =>
    obtain ⟨p, rfl, hp⟩ := hd
    refine tSeq_gen fun U hU => ?_
    walk_at "rd"
    refine ⟨_, .inr (SqT.of hp), _, atI_nat (j := 1) rfl, ?_⟩
    subst hU
    refine tSeq_gen fun U hU => ?_
    walk_at "rd"
    refine tComp_woHead (h := h) (fun R z => by walk_at "rd"; exact z) ha hr (by omega) (fun p2 r H' R hp2 z => ?_) (fun v H' R z => by walk_at "rd"; exact z) (fun l ys hl hys => ?_)
    · simp only [capt]
      walk_at "rd"
      refine ⟨_, .inr (SqT.of hp2), _, rfl, ?_⟩
      rw [ne_head] at z
      exact ⟨_, rfl, z⟩
    · subst hU
      refine tSeq_gen fun U hU => ?_
      have sm : Same H (upd H l (.lst ys)) := Same.upd hl
      have hl1 : upd H l (.lst ys) l = some (.lst ys) := upd_same
      have lam1 : LamK K "by_heads" (upd H l (.lst ys)) := lam.upd (.inl hl)
      generalize upd H l (.lst ys) = H1 at sm hl1 lam1 ⊢
      have wl := woHead_le rs h
      have ly := Paired.length hys
      walk_at "rd"
      refine ⟨_, .inr (SqT.of (sm _ _ hp)), _, rfl, ?_⟩
      walk_at "rd"
      refine ⟨tyV_lst hl1, ?_⟩
      refine ⟨_, .inr (SqT.of (sm _ _ hp)), _, atI_nat (j := 2) rfl, by walk_at "sz", fun t ht => ?_⟩
      refine ⟨l, ys, _, rfl, rfl, by rw [upd_ne (ne_of_none hl1 ht)]; exact hl1, by walk_at "sz", ?_⟩
      subst hU
      obtain ⟨H3, eH3, s3, a1, a2, a3⟩ := add_step (h := h) (w := w) sm hl hl1 (RowsAre.mono hys sm.tp) ht
      rw [← eH3]
      have lam3 : LamK K "by_heads" H3 := by
        rw [eH3]
        exact (lam1.upd (.inl ht)).upd (.inr ⟨ys, by rw [upd_ne (ne_of_none hl1 ht)]; exact hl1⟩)
      walk_at "rd"
      exact ⟨l, _, _, rfl, a1, a2, by rw [List.length_append]; show _ + 1 < 64; omega, lam3, fun H2 l2 ys2 ss g l3 n2 h2 r2 so => q H2 l2 ys2 ss ((Grow.of s3).trans g) l3 (s3.free n2) h2 r2 so⟩
end L2

end
section
set_option Elab.async false
set_option linter.all false
set_option maxRecDepth 100000
set_option maxHeartbeats 4000000
namespace L2
open PySem PySem.Spec PyProof.Rows
/-! ### a list has no attribute keys -/
theorem lk_list_keys : typeLookup (.type "list") "keys" = pure none := am_miss_of_fast (by kernel_rfl)
theorem lk_list_getattr : typeLookup (.type "list") "__getattr__" = pure none := by rw [typeLookup_type, builtinLookup_eq_fast]; kernel_rfl
section
variable {prog : Program} {w : World} {A : Around} {E : Value → Shared → Prop} {h : Heap} {g : Array GenState} {d : Drawn} {t : Nat} {os : OsState} {a : Addr} {o : Obj}
theorem list_keys_entry {u : Tok} {Q : PySem.Fin → Shared → Prop} (hx : h.get? a = some o) (hc : o.cls = .type "list") (hd : o.dict = none) {vs : Array Value} {n : Nat} (hdt : o.data = .seq vs n) (hh : A.handled = none)
    (hq : ∀ h' tk e, Heap.NewAttrErr h h' e (.ref a) "keys" → E (.ref e) ⟨h', g, d, tk, os⟩) : wpAny (model prog w) A (Builtin.«object.__getattribute__» ⟨[.ref a, .str "keys" u], []⟩) Q E ⟨h, g, d, t, os⟩ := by
  have hT : (⟨h, g, d, t, os⟩ : Shared).TypeIs (.ref a) "list" := ⟨_, hx, hc⟩
  have f1 := lk_list_keys
  unfold Builtin.«object.__getattribute__»
  repeat (any_goals (first | assumption | wp_step))
  rw [hdt]
  dsimp only
  unfold instanceDict
  repeat (any_goals (first | assumption | wp_step))
  rw [hc, hd]
  dsimp only
  simp only [Bool.not_false, Bool.true_or, if_true]
  repeat (any_goals (first | assumption | wp_step))
  exact wpAny_raiseAttrError hh hq (attrMsg_fits (by decide +kernel) (by size_fits))
theorem list_keys_call {u : Tok} {Q : Value → Shared → Prop} (hx : h.get? a = some o) (hc : o.cls = .type "list") (hd : o.dict = none) {vs : Array Value} {n : Nat} (hdt : o.data = .seq vs n) (hh : A.handled = none)
    (hq : ∀ h' tk e, Heap.NewAttrErr h h' e (.ref a) "keys" → E (.ref e) ⟨h', g, d, tk, os⟩) : wpAny (model prog w) A (call (.builtin "list.__getattribute__") [.ref a, .str "keys" u]) Q E ⟨h, g, d, t, os⟩ := by
  refine wpAny_call (codeAny_call_builtin F.slot_list_getattribute.plain F.entry_list_ga (F.slot_list_getattribute.check _ _ _ _ _ _ _ _ (show (⟨h, g, d, t, os⟩ : Shared).TypeIs (.ref a) "list" from ⟨_, hx, hc⟩) (F.args_list_getattribute_2 _ _) ?_))
  exact list_keys_entry hx hc hd hdt (by exact hh) hq
theorem getAttr?_list_keys {Q : Option Value → Shared → Prop} (hx : h.get? a = some o) (hc : o.cls = .type "list") (hd : o.dict = none) {vs : Array Value} {n : Nat} (hdt : o.data = .seq vs n) (hh : A.handled = none)
    (hq : ∀ h' tk, (∀ b ob, h.get? b = some ob → h'.get? b = some ob) → Q none ⟨h', g, d, tk, os⟩) : wpAny (model prog w) A (getAttr? (.ref a) "keys") Q E ⟨h, g, d, t, os⟩ := by
  have hT : (⟨h, g, d, t, os⟩ : Shared).TypeIs (.ref a) "list" := ⟨_, hx, hc⟩
  have f1 := sub_AttributeError
  have f3 := F.slot_list_getattribute.lookup
  have f4 := F.slot_list_getattribute.bind (.ref a)
  have f5 := lk_list_getattr
  unfold getAttr? getAttrBy? getAttrBy
  repeat (any_goals (first | assumption | ((with_reducible show wpAny _ _ (call (Value.builtin "list.__getattribute__") _ _) _ _ _); refine list_keys_call hx hc hd hdt hh fun h' tk' e hx' => ?_) | wp_step))
  rw [hc]
  repeat (any_goals (first | assumption | ((with_reducible show wpAny _ _ (call (Value.builtin "list.__getattribute__") _ _) _ _ _); refine list_keys_call hx hc hd hdt hh fun h' tk' e hx' => ?_) | wp_step))
  obtain ⟨t', u', he⟩ := hx'.there
  repeat (any_goals (first | assumption | wp_step))
  exact hq _ _ hx'.keeps
end
end L2

end
section
set_option Elab.async false
set_option linter.all false
set_option maxRecDepth 100000
namespace L2
open PySem PySem.Spec PyProof.Rows

/-! ### lists of pairs as tables -/
section
variable {κ : Type} [DecidableEq κ]
def valV (kvs : List (κ × V)) (k : κ) : Option V := (kvs.find? fun kv => decide (kv.1 = k)).map (·.2)
/-- in its place, or at the end -/
def putK (kvs : List (κ × V)) (k : κ) (v : V) : List (κ × V) :=
  if (kvs.any fun kv => decide (kv.1 = k)) = true then kvs.map (fun kv => if kv.1 = k then (kv.1, v) else kv) else kvs ++ [(k, v)]
def dropK (kvs : List (κ × V)) (k : κ) : List (κ × V) := kvs.filter fun kv => decide (kv.1 ≠ k)

theorem valV_pos {p : κ × V} {r : List (κ × V)} {k : κ} (e : p.1 = k) : valV (p :: r) k = some p.2 := by simp [valV, List.find?_cons, e]
theorem valV_neg {p : κ × V} {r : List (κ × V)} {k : κ} (e : ¬ p.1 = k) : valV (p :: r) k = valV r k := by simp [valV, List.find?_cons, e]
theorem valV_any (k : κ) : ∀ kvs : List (κ × V), (kvs.any fun kv => decide (kv.1 = k)) = (valV kvs k).isSome
  | [] => rfl
  | p :: r => by
    rw [List.any_cons]
    by_cases e : p.1 = k
    · simp only [valV_pos e, decide_eq_true e, Bool.true_or, Option.isSome_some]
    · rw [valV_neg e, decide_eq_false e, Bool.false_or]; exact valV_any k r
theorem RelO.isSome_eq {o : Option V} {u : Option Value} (r : RelO o u) : o.isSome = u.isSome := by
  cases o with
  | none => cases u with
    | none => rfl
    | some _ => exact (show False from r).elim
  | some _ => cases u with
    | none => exact (show False from r).elim
    | some _ => rfl
theorem RelO.getD {o : Option V} {u : Option Value} {d : V} {d' : Value} (r : RelO o u) (rd : RelV d d') : RelV (o.getD d) (u.getD d') := by
  cases o with
  | none => cases u with
    | none => exact rd
    | some _ => exact (show False from r).elim
  | some _ => cases u with
    | none => exact (show False from r).elim
    | some _ => exact r

/-- raw tables of the same keys -/
theorem KV.val {kvs : List (κ × V)} {vs : List (κ × Value)} (r : KV kvs vs) (k : κ) : RelO (valV kvs k) (valueAt vs k) := by
  unfold KV at r
  induction r with
  | nil => exact True.intro
  | @cons p q ps qs h t ih =>
    obtain ⟨h1, h2⟩ := h
    by_cases e : p.1 = k
    · have e' : q.1 = k := h1.symm.trans e
      have b : valueAt (q :: qs) k = some q.2 := by simp [valueAt, List.find?_cons, e']
      rw [valV_pos e, b]; exact h2
    · have e' : ¬ q.1 = k := fun z => e (h1.trans z)
      have b : valueAt (q :: qs) k = valueAt qs k := by simp [valueAt, List.find?_cons, e']
      rw [valV_neg e, b]; exact ih
theorem KV.any {kvs : List (κ × V)} {vs : List (κ × Value)} (r : KV kvs vs) (k : κ) : (kvs.any fun kv => decide (kv.1 = k)) = vs.any fun kv => decide (kv.1 = k) := by
  unfold KV at r
  induction r with
  | nil => rfl
  | cons h t ih => rw [List.any_cons, List.any_cons, ih, h.1]
theorem KV.repl {kvs : List (κ × V)} {vs : List (κ × Value)} (r : KV kvs vs) (k : κ) {y : V} {u : Value} (ry : RelV y u) :
    KV (kvs.map fun kv => if kv.1 = k then (kv.1, y) else kv) (vs.map fun kv => if kv.1 = k then (kv.1, u) else kv) := by
  unfold KV at r ⊢
  induction r with
  | nil => exact .nil
  | @cons p q ps qs h t ih =>
    rw [List.map_cons, List.map_cons]
    refine .cons ?_ ih
    obtain ⟨h1, h2⟩ := h
    by_cases e : p.1 = k
    · rw [if_pos e, if_pos (h1.symm.trans e)]; exact ⟨h1, ry⟩
    · rw [if_neg e, if_neg (fun z => e (h1.trans z))]; exact ⟨h1, h2⟩
theorem KV.put {kvs : List (κ × V)} {vs : List (κ × Value)} (r : KV kvs vs) (k : κ) {y : V} {u : Value} (ry : RelV y u) : KV (putK kvs k y) (stored vs k u) := by
  unfold putK stored
  rw [r.any k]
  by_cases e : (vs.any fun kv => decide (kv.1 = k)) = true
  · rw [if_pos e, if_pos e]; exact r.repl k ry
  · rw [if_neg e, if_neg e]; exact Paired.snoc r ⟨rfl, ry⟩
theorem KV.drop {kvs : List (κ × V)} {vs : List (κ × Value)} (r : KV kvs vs) (k : κ) : KV (dropK kvs k) (without vs k) := by
  unfold KV at r ⊢
  unfold dropK without
  induction r with
  | nil => exact .nil
  | @cons p q ps qs h t ih =>
    obtain ⟨h1, h2⟩ := h
    rw [List.filter_cons, List.filter_cons]
    by_cases e : p.1 = k
    · have a : ¬ decide (p.1 ≠ k) = true := by simp [e]
      have b : ¬ decide (q.1 ≠ k) = true := by simp [h1.symm.trans e]
      rw [if_neg a, if_neg b]; exact ih
    · have e' : ¬ q.1 = k := fun z => e (h1.trans z)
      have a : decide (p.1 ≠ k) = true := by simp [e]
      have b : decide (q.1 ≠ k) = true := by simp [e']
      rw [if_pos a, if_pos b]; exact .cons ⟨h1, h2⟩ ih
theorem KV.keys {kvs : List (κ × V)} {vs : List (κ × Value)} (r : KV kvs vs) : kvs.map (·.1) = vs.map (·.1) := by
  unfold KV at r
  induction r with
  | nil => rfl
  | cons h t ih => rw [List.map_cons, List.map_cons, ih, h.1]
theorem KV.length {kvs : List (κ × V)} {vs : List (κ × Value)} (r : KV kvs vs) : kvs.length = vs.length := Paired.length r
end


/-! ### a tracked dict, its keys ints and texts or tuples of these -/
theorem kV_is {P : Program} {w : World} {k : Key} {u : Value} (r : RelV (kV k) u) : (mixKind P w).is k u = true := by
  cases k with
  | inl i => obtain ⟨t, e⟩ := (show ∃ t, u = Value.int i t from r); subst e; exact mixKind_int P w i t
  | inr x => obtain ⟨t, e⟩ := (show ∃ t, u = Value.str x t from r); subst e; exact mixKind_str P w x t
theorem items_are {P : Program} {w : World} : ∀ {ks : List Key} {us : List Value}, Vals (ks.map kV) us → ItemsAre (mixKind P w) ks us
  | [], _, r => by rw [List.map_nil] at r; cases r; exact .nil
  | k :: ks, _, r => by
    rw [List.map_cons] at r
    cases r with
    | cons h t => exact .cons (kV_is h) (items_are t)

/-- raw entries of a dict with tuple keys -/
abbrev KT (H : Hp) : List (List Key × V) → List (List Key × Addr × Value) → Prop := Paired fun p q => p.1 = q.1 ∧ H q.2.1 = some (.tup (p.1.map kV)) ∧ RelV p.2 q.2.2
theorem KT.val {H : Hp} {kvs : List (List Key × V)} {xs : List (List Key × Addr × Value)} (r : KT H kvs xs) (k : List Key) : RelO (valV kvs k) ((atKey xs k).map (·.2)) := by
  induction r with
  | nil => exact True.intro
  | @cons p q ps qs h t ih =>
    obtain ⟨h1, _, h2⟩ := h
    by_cases e : p.1 = k
    · have e' : q.1 = k := h1.symm.trans e
      have b : atKey (q :: qs) k = some q.2 := by simp [atKey, List.find?_cons, e']
      rw [valV_pos e, b]; exact h2
    · have e' : ¬ q.1 = k := fun z => e (h1.trans z)
      have b : atKey (q :: qs) k = atKey qs k := by simp [atKey, List.find?_cons, e']
      rw [valV_neg e, b]; exact ih
theorem KT.repl {H : Hp} {kvs : List (List Key × V)} {xs : List (List Key × Addr × Value)} (r : KT H kvs xs) (k : List Key) {y : V} {u : Value} (ry : RelV y u) :
    KT H (kvs.map fun kv => if kv.1 = k then (kv.1, y) else kv) (xs.map (putAt k u)) := by
  induction r with
  | nil => exact .nil
  | @cons p q ps qs h t ih =>
    rw [List.map_cons, List.map_cons]
    refine .cons ?_ ih
    obtain ⟨h1, h2, h3⟩ := h
    unfold putAt
    by_cases e : p.1 = k
    · rw [if_pos e, if_pos (h1.symm.trans e)]; exact ⟨h1, h2, ry⟩
    · rw [if_neg e, if_neg (fun z => e (h1.trans z))]; exact ⟨h1, h2, h3⟩
theorem KT.put {H : Hp} {kvs : List (List Key × V)} {xs : List (List Key × Addr × Value)} (r : KT H kvs xs) (k : List Key) {b : Addr} {y : V} {u : Value} (hb : H b = some (.tup (k.map kV))) (ry : RelV y u) :
    KT H (putK kvs k y) (storedH xs k b u) := by
  have e : (kvs.any fun kv => decide (kv.1 = k)) = (atKey xs k).isSome := by
    rw [valV_any, (r.val k).isSome_eq, Option.isSome_map]
  unfold putK storedH
  rw [e]
  by_cases q : (atKey xs k).isSome = true
  · rw [if_pos q, if_pos q]; exact r.repl k ry
  · rw [if_neg q, if_neg q]; exact Paired.snoc r ⟨rfl, hb, ry⟩
theorem KT.keeps {H H' : Hp} {kvs : List (List Key × V)} {xs : List (List Key × Addr × Value)} (r : KT H kvs xs) (ht : ∀ b ys, H b = some (.tup ys) → H' b = some (.tup ys)) : KT H' kvs xs :=
  Paired.mapP r fun _ _ z => ⟨z.1, ht _ _ z.2.1, z.2.2⟩

section
variable {P : Program} {w : World} {H : Hp} {h : Heap} {a : Addr}
theorem rd_of {u : HO} (ok : HOk P w H h) (e : Rd H a u) : ObjOk P w H h a u := e.ok ok
theorem dk_rd {kvs : List (Key × V)} (ok : HOk P w H h) (e : Rd H a (.dK kvs)) : kvs.length ≤ sizeLine ∧ (a == sysModules) = false ∧ ∃ vs, KV kvs vs ∧ h.DictOf (mixKind P w) a vs :=
  show ObjOk P w H h a (.dK kvs) from rd_of ok e
/-- a tracked tuple of ints and texts is a key -/
theorem key_of {ks : List Key} (ok : HOk P w H h) (e : H a = some (.tup (ks.map kV))) : (tupleKind (mixKind P w)).is h ks a := by
  obtain ⟨_, its, r, o, h1, h2, n, h3⟩ := (show ObjOk P w H h a (.tup (ks.map kV)) from ok a _ e)
  exact ⟨o, its.toArray, n, h1, h2, h3, by simpa using items_are r⟩
theorem dt_rd {kvs : List (List Key × V)} (ok : HOk P w H h) (e : Rd H a (.dT kvs)) : kvs.length ≤ sizeLine ∧ (a == sysModules) = false ∧
    ∃ xs, KT H kvs xs ∧ h.DictOfH (tupleKind (mixKind P w)) a xs := by
  obtain ⟨z, y, xs, r, o, es, ep, h1, h2, h3, h4, h5⟩ := (show ObjOk P w H h a (.dT kvs) from rd_of ok e)
  refine ⟨z, y, xs, r, o, es, ep, h1, h2, h3, h4, fun x hx => ?_, h5⟩
  have all : ∀ {l : List (List Key × V)} {m : List (List Key × Addr × Value)}, KT H l m → ∀ x ∈ m, (tupleKind (mixKind P w)).is h x.1 x.2.1 := by
    intro l m q
    induction q with
    | nil => intro x hx; exact nomatch hx
    | @cons p q ps qs hq t ih =>
      intro x hx
      rcases List.mem_cons.mp hx with e | hx
      · subst e
        exact key_of ok (by rw [← hq.1]; exact hq.2.1)
      · exact ih x hx
  exact all r x hx
end

/-- what the dict at a holds at the key y -/
def DGet (H : Hp) (a : Addr) (y : V) (r : Option V) : Prop :=
  (∃ kvs k, Rd H a (.dK kvs) ∧ y = kV k ∧ r = valV kvs k) ∨ ∃ kvs k b, Rd H a (.dT kvs) ∧ y = .ref b ∧ H b = some (.tup (k.map kV)) ∧ r = valV kvs k
/-- the heap behind a[y] = v -/
def DPut (H : Hp) (a : Addr) (y v : V) (H' : Hp) : Prop :=
  (∃ kvs k, H a = some (.dK kvs) ∧ y = kV k ∧ kvs.length < sizeLine ∧ H' = upd H a (.dK (putK kvs k v))) ∨
  ∃ kvs k b, H a = some (.dT kvs) ∧ y = .ref b ∧ H b = some (.tup (k.map kV)) ∧ kvs.length < sizeLine ∧ H' = upd H a (.dT (putK kvs k v))
theorem DGet.k {H : Hp} {a : Addr} {kvs : List (Key × V)} {k : Key} (e : H a = some (.dK kvs)) : DGet H a (kV k) (valV kvs k) := .inl ⟨kvs, k, .inl e, rfl, rfl⟩
theorem DGet.t {H : Hp} {a b : Addr} {kvs : List (List Key × V)} {k : List Key} (e : H a = some (.dT kvs)) (eb : H b = some (.tup (k.map kV))) : DGet H a (.ref b) (valV kvs k) := .inr ⟨kvs, k, b, .inl e, rfl, eb, rfl⟩
theorem DPut.k {H : Hp} {a : Addr} {kvs : List (Key × V)} {k : Key} {v : V} (e : H a = some (.dK kvs)) (hl : kvs.length < sizeLine) : DPut H a (kV k) v (upd H a (.dK (putK kvs k v))) := .inl ⟨kvs, k, e, rfl, hl, rfl⟩
theorem DPut.t {H : Hp} {a b : Addr} {kvs : List (List Key × V)} {k : List Key} {v : V} (e : H a = some (.dT kvs)) (eb : H b = some (.tup (k.map kV))) (hl : kvs.length < sizeLine) :
    DPut H a (.ref b) v (upd H a (.dT (putK kvs k v))) := .inr ⟨kvs, k, b, e, rfl, eb, hl, rfl⟩


section
variable {X : Cx} {pins : List (Addr × Obj)} {σ : St} {H : Hp} {s : Shared} {a : Addr} {y v : V} {u r : Value} {o : Option V} {A : Around} {E : Value → Shared → Prop}

theorem Inv.big (I : Inv X pins σ H s) : sysModules < s.heap.objs.size := by
  have h : mainGlobals < s.heap.objs.size := (I.mod.glob.keeps I.bk).lt
  exact Nat.lt_trans (by decide) h

/-- d[y], there -/
theorem d_getItem {Q : Value → Shared → Prop} (hu : A.units + 1 < cLine) (I : Inv X pins σ H s) (g : DGet H a y (some v)) (ry : RelV y u) (h : ∀ w' s', Inv X pins σ H s' → RelV v w' → Q w' s') :
    wpAny (model X.prog X.w) A (getItem (.ref a) u) Q E s := by
  rcases g with ⟨kvs, k, e, ey, l⟩ | ⟨kvs, k, b, e, ey, eb, l⟩
  · subst ey
    obtain ⟨z, hd, vs, rel, dd⟩ := dk_rd I.hok e
    obtain ⟨w', hw, rw'⟩ := RelO.some_of (v := v) (o := valueAt vs k) (by rw [l]; exact rel.val k)
    exact wpAny_getItem_of (kV_is ry) dd.mapOf hw (h w' _ (I.tok _) rw')
  · subst ey
    cases (show u = Value.ref b from ry)
    obtain ⟨z, hd, xs, rel, dd⟩ := dt_rd I.hok e
    obtain ⟨w', hw, rw'⟩ := RelO.some_of (v := v) (o := (atKey xs k).map (·.2)) (by rw [l]; exact rel.val k)
    obtain ⟨p, hp, hp2⟩ := Option.map_eq_some_iff.mp hw
    refine wpAny_getItem_heap (tupleKind_room_in1 hu) (key_of I.hok eb) dd hp ?_
    rw [hp2]
    exact h w' _ (I.tok _) rw'
theorem d_notIn {Q : Value → Shared → Prop} (hu : A.units + 1 < cLine) (I : Inv X pins σ H s) (g : DGet H a y o) (ry : RelV y u) (h : ∀ s', Inv X pins σ H s' → Q (.bool (!o.isSome)) s') :
    wpAny (model X.prog X.w) A (compareOp .NotIn u (.ref a)) Q E s := by
  rcases g with ⟨kvs, k, e, ey, l⟩ | ⟨kvs, k, b, e, ey, eb, l⟩
  · subst ey
    obtain ⟨z, hd, vs, rel, dd⟩ := dk_rd I.hok e
    refine wpAny_notIn_of (kV_is ry) hd dd.mapOf ?_
    rw [← (rel.val k).isSome_eq, ← l]
    exact h _ (I.tok _)
  · subst ey
    cases (show u = Value.ref b from ry)
    obtain ⟨z, hd, xs, rel, dd⟩ := dt_rd I.hok e
    refine wpAny_notIn_heap (tupleKind_room_in1 hu) (key_of I.hok eb) hd dd ?_
    have q := (rel.val k).isSome_eq
    rw [Option.isSome_map] at q
    rw [← q, ← l]
    exact h _ (I.tok _)
theorem dk_new {P : Program} {w : World} {H' : Hp} {h' : Heap} {kvs : List (Key × V)} {vs : List (Key × Value)} (z : kvs.length ≤ sizeLine) (hd : (a == sysModules) = false) (rel : KV kvs vs) (dd : h'.DictOf (mixKind P w) a vs) :
    ObjOk P w H' h' a (.dK kvs) := ⟨z, hd, vs, rel, dd⟩
end

section
variable {X : Cx} {pins : List (Addr × Obj)} {σ : St} {H : Hp} {s : Shared} {a : Addr} {kvs : List (Key × V)} {k : Key} {u : Value} {A : Around} {E : Value → Shared → Prop}
end


/-! ### readings and rules -/
/-- the element of a subscription, not a slice -/
def NoSl (i : Expr) : Prop := ∀ ov iv, subscripted i false ov iv = operate [ov, iv] (getItem ov iv)
theorem subD_of {prog : Program} {w : World} {A : Around} {E : Value → Shared → Prop} {s : Shared} {env : Env} {value slice : Expr} {pos : Pos} {T id : String} {Q : Value → Shared → Prop}
    (hl : typeLookup (.type T) "__getitem__" = pure (some (.builtin id))) (hs : NoSl slice)
    (h : wpAny (model prog w) A (eval value env) (fun o s₁ => wpAny (model prog w) A (eval slice env) (fun i s₂ => s₂.TypeIs o T ∧ wpAny (model prog w) A (getItem o i) Q E s₂) E s₁) E s) :
    wpAny (model prog w) A (eval (.Subscript value slice pos) env) Q E s := by
  refine Subscript_ (wpAny_mono h (fun o s₁ h₁ => wpAny_mono h₁ (fun i s₂ h₂ => ?_) fun _ _ x => x) fun _ _ x => x)
  obtain ⟨hT, h₂⟩ := h₂
  unfold subscriptTail
  refine wpAny_bind ?_
  rw [getitemInPython_of_ne hT.not_modules]
  refine wpAny_bind (wpAny_specialOf hT hl ?_)
  have fin : wpAny (model prog w) A (subscripted slice false o i) (fun r s₃ => wpAny (model prog w) A (letTemporaryGo value o r >>= fun _ => pure r) Q E s₃) E s₂ := by
    rw [hs o i]
    exact wpAny_operating (wpAny_mono h₂ (fun r s₃ h₃ => wpAny_bind (wpAny_letTemporaryGo (wpAny_pure h₃))) fun _ _ x => x)
  first
    | exact wpAny_pure (wpAny_bind fin)
    | exact wpAny_bind (wpAny_pure (wpAny_bind fin))
    | exact wpAny_bind fin

theorem dict_typeIs {X : Cx} {pins : List (Addr × Obj)} {σ : St} {H : Hp} {s : Shared} {a : Addr} {y : V} {o : Option V} (I : Inv X pins σ H s) (g : DGet H a y o) : s.TypeIs (.ref a) "dict" := by
  rcases g with ⟨kvs, k, e, _, _⟩ | ⟨kvs, k, b, e, _, _, _⟩
  · obtain ⟨_, _, vs, _, dd⟩ := dk_rd I.hok e
    exact dd.typeIs
  · obtain ⟨_, _, xs, _, dd⟩ := dt_rd I.hok e
    exact dd.typeIs
/-- d[y] -/
def tDGet (td ty : TE) : TE := fun σ H Q => td σ H fun x H1 => ty σ H1 fun y H2 => ∃ a v, x = .ref a ∧ DGet H2 a y (some v) ∧ Q v H2
/-- y in d, y not in d -/
def tDIn (ty td : TE) : TE := fun σ H Q => ty σ H fun y H1 => td σ H1 fun x H2 => ∃ a o, x = .ref a ∧ DGet H2 a y o ∧ Q (.bl o.isSome) H2
def tDNotIn (ty td : TE) : TE := fun σ H Q => ty σ H fun y H1 => td σ H1 fun x H2 => ∃ a o, x = .ref a ∧ DGet H2 a y o ∧ Q (.bl (!o.isSome)) H2
/-- d[y] = v -/
def sDPut (td ty tv : TE) : TS := fun D σ H => tv σ H fun v H1 => td σ H1 fun x H2 => ty σ H2 fun y H3 => ∃ a H4, x = .ref a ∧ DPut H3 a y v H4 ∧ D.nx σ H4
/-- d[y] op= v -/
def sDAug (td ty tv : TE) (rd : V → V → Hp → VK → Prop) : TS := fun D σ H => td σ H fun x H1 => ty σ H1 fun y H2 => ∃ a v, x = .ref a ∧ DGet H2 a y (some v) ∧
  tv σ H2 fun y2 H3 => rd v y2 H3 fun z H4 => ∃ H5, DPut H4 a y z H5 ∧ D.nx σ H5
/-- del d[y] -/
def sDDel (td ty : TE) : TS := fun D σ H => td σ H fun x H1 => ty σ H1 fun y H2 => ∃ a kvs k, x = .ref a ∧ H2 a = some (.dK kvs) ∧ y = kV k ∧ (valV kvs k).isSome = true ∧ D.nx σ (upd H2 a (.dK (dropK kvs k)))

section
variable {X : Cx} {o i e value : Expr} {pos pos' tpos : Pos} {td ty tv : TE}
theorem pe_dget (hu : X.A.units + 1 < cLine) (ho : PE X o td) (hi : PE X i ty) (hs : NoSl i) : PE X (.Subscript o i pos) (tDGet td ty) := by
  intro pins s σ H Q I h
  refine subD_of PySem.F.slot_dict_getitem.lookup hs (thn (ho pins s σ H _ I h) fun u s1 ⟨x, H1, I1, rx, q1⟩ => thn (hi pins s1 σ H1 _ I1 q1) fun iv s2 ⟨y, H2, I2, ry, a, v, ex, g, q2⟩ => ?_)
  subst ex
  obtain rfl : u = Value.ref a := rx
  exact ⟨dict_typeIs I2 g, d_getItem hu I2 g ry fun w' s3 I3 rw' => ⟨v, H2, I3, rw', q2⟩⟩
end


/-! ### displays -/
/-- {}, to be a dict of the kind that is wanted -/
def tDNewK : TE := fun _ H Q => ∀ p, H p = none → Q (.ref p) (upd H p (.dK []))
def tDNewT : TE := fun _ H Q => ∀ p, H p = none → Q (.ref p) (upd H p (.dT []))
section
variable {X : Cx} {pos : Pos}
end

/-- the pairs of a display, from the left -/
def tPairs : List (TE × TE) → St → Hp → (List (V × V) → Hp → Prop) → Prop
  | [], _, H, Q => Q [] H
  | (tk, tv) :: r, σ, H, Q => tk σ H fun x H1 => tv σ H1 fun y H2 => tPairs r σ H2 fun ps H3 => Q ((x, y) :: ps) H3
abbrev VV : List (V × V) → List (Value × Value) → Prop := Paired fun p q => RelV p.1 q.1 ∧ RelV p.2 q.2
def PPs (X : Cx) (pos : Pos) (keys : List (Option Expr)) (values : List Expr) (trs : List (TE × TE)) : Prop :=
  ∀ (pins : List (Addr × Obj)) (s : Shared) (σ : St) (H : Hp) (Q : List (V × V) → Hp → Prop), Inv X pins σ H s → tPairs trs σ H Q →
    wpAny (model X.prog X.w) X.A (evalPairs (pairTrees keys values X.env pos)) (fun vs s' => ∃ ps H', Inv X pins σ H' s' ∧ VV ps vs ∧ Q ps H') X.xe s
def mergeK (kvs more : List (Key × V)) : List (Key × V) := more.foldl (fun acc kv => putK acc kv.1 kv.2) kvs
/-- {k: v, ..} with keys ints and texts; the new dict stands empty while the pairs are made -/
def tDisp (trs : List (TE × TE)) : TE := fun σ H Q => ∀ p, H p = none → tPairs trs σ (upd H p (.dK [])) fun ps H2 => H2 p = some (.dK []) ∧ ∃ kvs : List (Key × V), ps = kvs.map (fun kv => (kV kv.1, kv.2)) ∧ kvs.length ≤ 15 ∧ Q (.ref p) (upd H2 p (.dK (mergeK [] kvs)))
/-! ### methods -/
/-- a method call o.m(e) of a built-in, with one argument: what must be seen of the text -/
structure M1 (X : Cx) (o : Expr) (m : Str) (apos : Pos) (e : Expr) (cpos : Pos) : Prop where
  base : attributeBase o m X.env (eval o X.env) = eval o X.env
  few : ((backTo cpos (starEach [e] X.env)).all (fun x => !x.1) && (backToKw cpos (keywordEach [] X.env)).all (fun x => x.1.isSome)
    && decide (([e] : List Expr).length + ([] : List Keyword).length + (if ([] : List Keyword).isEmpty then 0 else 1) < 30)) = true
  line : (apos.endLine == cpos.line) = true
  trees : backTo cpos (starEach [e] X.env) = [(false, eval e X.env)]
structure M2 (X : Cx) (o : Expr) (m : Str) (apos : Pos) (e f : Expr) (cpos : Pos) : Prop where
  base : attributeBase o m X.env (eval o X.env) = eval o X.env
  few : ((backTo cpos (starEach [e, f] X.env)).all (fun x => !x.1) && (backToKw cpos (keywordEach [] X.env)).all (fun x => x.1.isSome)
    && decide (([e, f] : List Expr).length + ([] : List Keyword).length + (if ([] : List Keyword).isEmpty then 0 else 1) < 30)) = true
  line : (apos.endLine == cpos.line) = true
  trees : backTo cpos (starEach [e, f] X.env) = [(false, eval e X.env), (false, eval f X.env)]

/-- a is a dict, whatever its keys -/
def IsD (H : Hp) (a : Addr) : Prop := (∃ kvs, Rd H a (.dK kvs)) ∨ ∃ kvs, Rd H a (.dT kvs)
section
variable {X : Cx} {pins : List (Addr × Obj)} {σ : St} {H : Hp} {s : Shared} {a : Addr} {y d : V} {u r : Value} {o : Option V} {A : Around} {E : Value → Shared → Prop}
end

def tDGet1 (td ty : TE) : TE := fun σ H Q => td σ H fun x H1 => ∃ a, x = .ref a ∧ IsD H1 a ∧ ty σ H1 fun y H2 => ∃ o, DGet H2 a y o ∧ Q (o.getD .non) H2
def tDGet2 (td ty tx : TE) : TE := fun σ H Q => td σ H fun x H1 => ∃ a, x = .ref a ∧ IsD H1 a ∧ ty σ H1 fun y H2 => tx σ H2 fun z H3 => ∃ o, DGet H3 a y o ∧ Q (o.getD z) H3
/-- d.pop(k): there; d.pop(k, x): there or not -/
def tDPop1 (td ty : TE) : TE := fun σ H Q => td σ H fun x H1 => ∃ a, x = .ref a ∧ IsD H1 a ∧ ty σ H1 fun y H2 => ∃ kvs k v, H2 a = some (.dK kvs) ∧ y = kV k ∧ valV kvs k = some v ∧ Q v (upd H2 a (.dK (dropK kvs k)))
def tDPop2 (td ty tx : TE) : TE := fun σ H Q => td σ H fun x H1 => ∃ a, x = .ref a ∧ IsD H1 a ∧ ty σ H1 fun y H2 => tx σ H2 fun z H3 => ∃ kvs k, H3 a = some (.dK kvs) ∧ y = kV k ∧
  (∀ v, valV kvs k = some v → Q v (upd H3 a (.dK (dropK kvs k)))) ∧ (valV kvs k = none → Q z H3)
section
variable {X : Cx} {o e f : Expr} {apos cpos : Pos} {td ty tx : TE}
end

/-! ### dict(d): a copy -/
section
variable {X : Cx} {pins : List (Addr × Obj)} {σ : St} {H : Hp} {s : Shared} {a : Addr} {kvs : List (Key × V)} {A : Around} {E : Value → Shared → Prop}
end


section
variable {X : Cx} {pins : List (Addr × Obj)} {σ : St} {H : Hp} {s : Shared} {a : Addr} {y : V} {u : Value} {A : Around} {E : Value → Shared → Prop}
end
end L2


end
section
set_option Elab.async false
set_option linter.all false
set_option maxRecDepth 100000
set_option maxHeartbeats 4000000
namespace L2
open PySem PySem.Spec PyProof.Rows
/-! ### sorted(d): d's keys are texts, fewer than 64 -/
def strK (x : Str) : Key := Sum.inr x
/-- the keys of a dict, all of them texts -/
def KeysS (kvs : List (Key × V)) (ks : List Str) : Prop := kvs.map (·.1) = ks.map strK
def upS (ss : List Str) : Prop := ss.Pairwise fun a b => ¬ b.cps.toList < a.cps.toList
def rSortedD : List V → Hp → VK → Prop := fun vs H Q => match vs with
  | [.ref a] => ∃ kvs ks, Rd H a (.dK kvs) ∧ KeysS kvs ks ∧ ks.length < 64 ∧ ∀ l ss, H l = none → ss.Perm ks → upS ss → Q (.ref l) (upd H l (.lst (ss.map V.str)))
  | _ => False
theorem vals_strs : ∀ {vs : List Value} {ss : List Str}, StrsAre vs ss → Vals (ss.map V.str) vs
  | _, _, .nil => .nil
  | _, _, .cons x t h => .cons ⟨t, rfl⟩ (vals_strs h)
theorem strsAre_of : ∀ (vs : List Value) (ks : List Str), vs.length = ks.length → (∀ (j : Nat) (v : Value), vs[j]? = some v → ∃ (k : Str) (t : Tok), ks[j]? = some k ∧ v = Value.str k t) → StrsAre vs ks
  | [], [], _, _ => .nil
  | [], _ :: _, h, _ => by simp at h
  | _ :: _, [], h, _ => by simp at h
  | v :: vs, k :: ks, h, f => by
    obtain ⟨k', t, e, rfl⟩ := f 0 v rfl
    cases e
    exact .cons k t (strsAre_of vs ks (by simpa using h) fun j v hv => f (j + 1) v hv)
theorem mix_str {P : Program} {w : World} {k : Str} {v : Value} (h : (mixKind P w).is (Sum.inr k) v = true) : ∃ t, v = Value.str k t := by
  rw [mixKind_is] at h
  obtain ⟨t, e⟩ := Value.isStrOf_shape (x := k) (v := v) h
  exact ⟨t, e⟩
theorem rising_pw : ∀ {l : List Str} {p : Str}, risingS p l = true → (p :: l).Pairwise fun a b => ¬ b.cps.toList < a.cps.toList
  | [], p, _ => by simp
  | x :: l, p, h => by
    unfold risingS at h
    rw [Bool.and_eq_true, ltCps_eq] at h
    have ih := rising_pw h.2
    have h1 : ¬ x.cps.toList < p.cps.toList := by simpa using h.1
    rw [List.pairwise_cons]
    refine ⟨fun y hy => ?_, ih⟩
    rcases List.mem_cons.mp hy with rfl | hy
    · exact h1
    · have h2 := (List.pairwise_cons.mp ih).1 y hy
      exact (List.le_trans (show p.cps.toList ≤ x.cps.toList from h1) (show x.cps.toList ≤ y.cps.toList from h2) : p.cps.toList ≤ y.cps.toList)
theorem sorted_pw {l : List Str} (h : sortedS l = true) : upS l := by
  cases l with
  | nil => exact .nil
  | cons x l => exact rising_pw h
theorem ObjOk.there {P : Program} {w : World} {H : Hp} {h : Heap} {a : Addr} {o : HO} (x : ObjOk P w H h a o) : ∃ ob, h.get? a = some ob := by
  cases o with
  | lst xs => obtain ⟨_, _, _, _, e⟩ := x; exact ⟨_, e⟩
  | tup xs => obtain ⟨_, _, _, ob, e, _⟩ := x; exact ⟨_, e⟩
  | dK kvs => obtain ⟨_, _, _, _, o, _, _, e, _⟩ := x; exact ⟨_, e⟩
  | dT kvs => obtain ⟨_, _, _, _, o, _, _, e, _⟩ := x; exact ⟨_, e⟩
  | set S n => obtain ⟨o, _, _, _, e, _⟩ := x; exact ⟨_, e⟩
  | ins C dx fs => obtain ⟨_, _, _, e, _⟩ := x; exact ⟨_, e⟩
  | own y => obtain ⟨_, e⟩ := x; exact ⟨_, e⟩
  | xd fs => obtain ⟨_, ⟨_, _, _, e, _⟩, _⟩ := x; exact ⟨_, e⟩
  | rng lo hi => obtain ⟨_, _, _, e⟩ := x; exact ⟨_, e⟩
  | frz ob u => obtain ⟨e, _⟩ := x; exact ⟨_, e⟩
  | tbl ps => exact ⟨_, x⟩
  | met f y => exact ⟨_, x⟩
  | ext φ => obtain ⟨_, ⟨_, e⟩, _⟩ := x; exact ⟨_, e⟩
section
variable {X : Cx}
theorem call_sortedD (hd : X.A.handled = none) : CallR X (.builtin "sorted") rSortedD := by
  intro pins s σ H xs us Q I rv h
  unfold rSortedD at h
  split at h
  rotate_left
  · exact h.elim
  rename_i a
  obtain ⟨kvs, ks, e, ek, h64, q⟩ := h
  obtain ⟨u, rfl, ru⟩ := vals1 rv
  cases ru
  obtain ⟨z, lo, vs, rel, dd⟩ := dk_rd I.hok e
  have line : 64 ≤ sizeLine := Nat.le_trans (by decide) line_ge
  have lk : kvs.length = ks.length := by have := congrArg List.length ek; simpa using this
  have lv : vs.length = kvs.length := rel.length.symm
  have keys : vs.map (·.1) = ks.map strK := by rw [← rel.keys]; exact ek
  obtain ⟨ep, da⟩ : ∃ ep, s.heap.DictAt (mixKind X.prog X.w) a vs ep := by obtain ⟨o, es, ep, r⟩ := dd; exact ⟨ep, o, es, r⟩
  refine Calls.call_function_entry kind_sorted plain_sorted entry_sorted (args_sorted1 _) ?_
  unfold Builtin.«sorted»
  refine wpAny_bind (m := checkCount "sorted" 1 1 _) (wpAny_pure ?_)
  refine wpAny_bind (PySem.W.kdu_collect (PySem.W.kdl_dict (knd := mixKind X.prog X.w) lo) (by simp [hd]) da (by omega) fun h' tk acc hk ia => ?_)
  obtain ⟨asz, ait⟩ := ia
  have hS : StrsAre acc.toList ks := by
    refine strsAre_of _ _ (by rw [Array.length_toList, asz, lv, lk]) fun j v hj => ?_
    obtain ⟨k, x, e1, e2⟩ := ait j v (by rw [← Array.getElem?_toList]; exact hj)
    have e3 : (vs.map (·.1))[j]? = some k := by rw [List.getElem?_map, e1]; rfl
    rw [keys, List.getElem?_map] at e3
    cases e4 : ks[j]? with
    | none => rw [e4] at e3; cases e3
    | some y =>
      rw [e4] at e3
      cases e3
      obtain ⟨t, rfl⟩ := mix_str e2
      exact ⟨y, t, rfl, rfl⟩
  have hz : acc.toList.length ≤ sizeLine := by rw [Array.length_toList, asz]; omega
  have hlen : acc.toList.length < 64 := by rw [Array.length_toList, asz]; omega
  refine wpAny_bind (wpAny_newList ?_ hz)
  have hoL : (h'.push (seqObj "list" acc.toList.toArray 0)).get? h'.objs.size = some (seqObj "list" acc.toList.toArray 0) := Heap.get?_push_size _ rfl
  refine wpAny_bind (wpAny_holding (wpAny_call_entry slot_list_sort ⟨_, hoL, rfl⟩ entry_list_sort (list_sort_treeK strKind_oneLt hoL hS.keysOf (fun v₁ v₂ rest e => keyKind_strs (by rw [← e]; exact hS)) hlen fun st' hp hs => ⟨_, rfl, ?_⟩) (args_list_sort _)))
  obtain ⟨ss, b1, b2, b3⟩ := sorted_out_str hS hp hs
  obtain ⟨ec, he⟩ := sortedHeap_at (out := (arrOf st').map (·.2)) hoL
  refine wpAny_pure ⟨_, rfl, ?_⟩
  have hz2 : (ss.map V.str).length ≤ sizeLine := by rw [List.length_map, b2.length_eq]; omega
  have lt' : ∀ b ob, s.heap.get? b = some ob → b < h'.objs.size := fun b ob w => Heap.lt_size (hk b ob w)
  have I2 := I.kept (t' := tk) (h' := sortedHeap (h'.push (seqObj "list" acc.toList.toArray 0)) h'.objs.size acc.toList ((arrOf st').map (·.2))) fun b ob w => by
    have hb := lt' b ob w
    rw [sortedHeap_old (Nat.ne_of_lt hb) (by rw [size_push']; exact Nat.lt_succ_of_lt hb)]
    exact Heap.get?_push_of_some _ (hk b ob w)
  have hloc : X.env.locals < h'.objs.size := by obtain ⟨m, ⟨o, _, _, ho, _⟩, _⟩ := I.loc; exact lt' _ _ ho
  have hn : H h'.objs.size = none := by
    cases w : H h'.objs.size with
    | none => rfl
    | some o =>
      obtain ⟨ob, hob⟩ := ObjOk.there (I.hok _ _ w)
      exact absurd (lt' _ _ hob) (Nat.lt_irrefl _)
  have h0 : X.s₀.heap.get? h'.objs.size = none := Heap.get?_none_of_le (Nat.le_trans I.ok.above (Nat.le_of_lt hloc))
  refine ⟨.ref h'.objs.size, _, I2.track (o := .lst (ss.map V.str)) hn h0 (Nat.ne_of_gt hloc) (fun x c ec => ?_) (fun p hp => ?_) ⟨hz2, _, ec, vals_strs b1, by rw [Array.toArray_toList]; exact he⟩, rfl, q _ ss hn b2 (sorted_pw b3)⟩
  · obtain ⟨v, o, ho, _⟩ := I.cell x c ec
    exact Nat.ne_of_lt (lt' _ _ ho)
  · exact Nat.ne_of_lt (lt' _ _ (I.pin p hp).1)
end
end L2

end
section
set_option Elab.async false
set_option linter.all false
set_option maxRecDepth 100000
set_option maxHeartbeats 4000000
namespace L2
open PySem PySem.Spec PyProof.Rows
/-! ### dict(rows): a list of pairs -/
theorem plain_dict_loop : plainId "dict.update.loop" = true := by decide +kernel
theorem entry_dict_loop : entryFor table "dict.update.loop" = some Builtin.«dict.update.loop» := entryFor_of_fast (by kernel_rfl)
theorem isTup_at {h h' : Heap} {p : Addr} {its : Array Value} (x : IsTup h p its) (k : ∀ o, h.get? p = some o → h'.get? p = some o) : IsTup h' p its := let ⟨o, ho, r⟩ := x; ⟨o, k o ho, r⟩
section
variable {prog : Program} {w : World} {A : Around} {R : Result → Shared → Prop} {E : Value → Shared → Prop}
theorem pair_items {p : Addr} {its : Array Value} {s : Shared} {Q : List Value → Shared → Prop} (hx : IsTup s.heap p its) (h : Q its.toList s) : wpAny (model prog w) A (Builtin.Dict.pairItems (.ref p)) Q E s := by
  obtain ⟨o, ho, hc, n, hd⟩ := hx
  obtain ⟨hp, g, d, tk, os⟩ := s
  have hT : (⟨hp, g, d, tk, os⟩ : Shared).TypeIs (.ref p) "tuple" := ⟨_, ho, hc⟩
  unfold Builtin.Dict.pairItems
  refine wpAny_bind (wpAny_typeOf hT ?_)
  rw [if_pos (by decide)]
  unfold seqItems?
  refine wpAny_bind (wpAny_bind (wpAny_load ho ?_))
  rw [hd]
  exact wpAny_pure (wpAny_pure h)
theorem dict_loop {d it l : Addr} {items : List Value} {res : Value} (hh : A.handled = none) (hdi : d ≠ it) (hdl : d ≠ l) (hil : l ≠ it) :
    ∀ (rest : List (Key × Value)) (i : Nat) (m : Int) (s : Shared) (kvs : List (Key × Value)), i + rest.length = items.length → s.heap.IsListIter it l i → s.heap.IsList l items.toArray → s.heap.DictOf (mixKind prog w) d kvs → kvs.length + rest.length ≤ sizeLine →
      (∀ (j : Nat) (q : Key × Value), rest[j]? = some q → ∃ p kv, items[i + j]? = some (.ref p) ∧ p ≠ d ∧ p ≠ it ∧ IsTup s.heap p #[kv, q.2] ∧ (mixKind prog w).is q.1 kv = true) →
      (∀ h' tk, (∀ b o, b ≠ it → b ≠ d → s.heap.get? b = some o → h'.get? b = some o) → h'.DictOf (mixKind prog w) d (merged kvs rest) → R (.ok (.ret res)) { s with heap := h', toks := tk }) →
      codeAny (model prog w) A (.builtin "dict.update.loop" ⟨[.ref d, .ref it, rawInt m, res], []⟩) R s := by
  have W := Walks.list (prog := prog) (w := w) (A := A.in1) (by exact hh) it l hil items.toArray
  intro rest
  induction rest with
  | nil =>
    intro i m s kvs hl hi hL hD hz hp hR
    refine codeAny_builtin entry_dict_loop ?_
    rw [Around.under_plainId plain_dict_loop _]
    show wpAny _ A.in1 (pyNext (.ref it) >>= _) _ _ s
    have hi' : i = items.toArray.size := by simpa using hl
    subst hi'
    refine wpAny_bind (W.done s _ _ ⟨hi, hL⟩ fun h' tk kk => ?_)
    show wpAny _ A.in1 (Builtin.Dict.addKeywords d [] >>= _) _ _ _
    refine wpAny_bind (wpAny_pure (wpAny_pure ?_))
    exact hR h' tk (fun b o hb _ e => kk b o (by simpa using hb) e) (hD.at fun o e => kk d o (by simpa using hdi) e)
  | cons q rest ih =>
    intro i m s kvs hl hi hL hD hz hp hR
    rw [List.length_cons] at hl hz
    have hlt : i < items.toArray.size := by rw [List.size_toArray]; omega
    refine codeAny_builtin entry_dict_loop ?_
    rw [Around.under_plainId plain_dict_loop _]
    show wpAny _ A.in1 (pyNext (.ref it) >>= _) _ _ s
    refine wpAny_bind (W.item i s _ _ hlt ⟨hi, hL⟩ fun v h' tk hv st' kk => ?_)
    obtain ⟨p, kv, e1, p1, p2, p3, p4⟩ := hp 0 q rfl
    have ev : v = .ref p := by
      rw [List.getElem?_toArray] at hv
      rw [Nat.add_zero] at e1
      rw [e1] at hv; cases hv; rfl
    subst ev
    have kk' : ∀ b o, b ≠ it → s.heap.get? b = some o → h'.get? b = some o := fun b o hb e => kk b o (by simpa using hb) e
    have T1 : IsTup h' p #[kv, q.2] := isTup_at p3 fun o e => kk' p o p2 e
    have D1 : h'.DictOf (mixKind prog w) d kvs := hD.at fun o e => kk' d o hdi e
    dsimp only
    refine wpAny_bind (wpAny_holding (wpAny_bind (wpAny_tryCatch (pair_items (s := { s with heap := h', toks := tk }) T1 ?_))))
    show wpAny _ A.in1 (holding [kv, q.2] (dictSet d kv q.2)) _ _ _
    refine wpAny_holding (wpAny_dictSet_pairs (s := { s with heap := h', toks := tk }) p4 D1 (fun h2 D2 sb => ?_) (by omega))
    refine wpAny_pure ⟨plainId_quiet plain_dict_loop _, ?_⟩
    have k2 : ∀ b o, b ≠ d → h'.get? b = some o → h2.get? b = some o := fun b o hb e => (sb.2 b hb).trans e
    have hst : (stored kvs q.1 q.2).length ≤ kvs.length + 1 := by
      have := D2
      unfold stored
      split
      · rw [List.length_map]; omega
      · rw [List.length_append]; simp
    refine ih (i + 1) (m + 1) _ (stored kvs q.1 q.2) (by omega) (st'.1.at fun o e => k2 it o (Ne.symm hdi) e) (st'.2.at fun o e => k2 l o (Ne.symm hdl) e) D2 (by omega) (fun j q' hj => ?_) (fun h3 tk3 k3 D3 => ?_)
    · obtain ⟨p', kv', f1, f2, f3, f4, f5⟩ := hp (j + 1) q' hj
      exact ⟨p', kv', by rw [← f1]; congr 1; omega, f2, f3, isTup_at f4 fun o e => k2 p' o f2 (kk' p' o f3 e), f5⟩
    · exact hR h3 tk3 (fun b o b1 b2 e => k3 b o b1 b2 (k2 b o b2 (kk' b o b1 e))) D3
end
/-- a row of pairs: a tuple of a key and a value -/
def PairIs (H : Hp) (x : V) (q : Key × V) : Prop := ∃ p, x = .ref p ∧ H p = some (.tup [kV q.1, q.2])
def rDictOf (K : PySem.W.Frag) : List V → Hp → VK → Prop := fun vs H Q => match vs with
  | [.ref a] => ∃ xs kvs, SqL K H a xs ∧ Paired (PairIs H) xs kvs ∧ (kvs.map (·.1)).Nodup ∧ kvs.length ≤ 1000 ∧ ∀ d, H d = none → Q (.ref d) (upd H d (.dK kvs))
  | _ => False
theorem pairs_rest {P : Program} {w : World} {H : Hp} {h : Heap} (ok : HOk P w H h) : ∀ {xs : List V} {kvs : List (Key × V)} {its : List Value}, Paired (PairIs H) xs kvs → Vals xs its →
    ∃ rest : List (Key × Value), KV kvs rest ∧ rest.length = its.length ∧ ∀ (j : Nat) (q : Key × Value), rest[j]? = some q → ∃ p kv, its[j]? = some (.ref p) ∧ (∃ o, H p = some o) ∧ IsTup h p #[kv, q.2] ∧ (mixKind P w).is q.1 kv = true
  | _, _, _, .nil, .nil => ⟨[], .nil, rfl, fun j q z => by simp at z⟩
  | _, _, _, .cons (b := q) hx hr, .cons (b := v) rv rr => by
    obtain ⟨rest, r1, r2, r3⟩ := pairs_rest ok hr rr
    obtain ⟨p, rfl, hp⟩ := hx
    cases (show v = Value.ref p from rv)
    obtain ⟨_, its, ri, tup⟩ := (show ObjOk P w H h p (.tup [kV q.1, q.2]) from ok p _ hp)
    cases ri with
    | cons ra rb =>
      cases rb with
      | cons rc rd =>
        cases rd
        rename_i ua ub
        refine ⟨(q.1, ub) :: rest, .cons ⟨rfl, rc⟩ r1, by rw [List.length_cons, List.length_cons, r2], fun j q' hj => ?_⟩
        cases j with
        | zero => cases hj; exact ⟨p, ua, rfl, ⟨_, hp⟩, tup, kV_is ra⟩
        | succ j => exact r3 j q' hj
section
variable {X : Cx}
theorem call_dictOf (hh : X.A.handled = none) : CallR X (.type "dict") (rDictOf X.K) := by
  intro pins s σ H xs us Q I rv h
  unfold rDictOf at h
  split at h
  rotate_left
  · exact h.elim
  rename_i a
  obtain ⟨xs, kvs, ql, pr, nd, hz, q⟩ := h
  obtain ⟨u, rfl, ru⟩ := vals1 rv
  cases ru
  obtain ⟨its, ri, ⟨o, n, ho, hc, hdn, hd⟩, hzl⟩ := I.list ql
  obtain ⟨rest, r1, r2, r3⟩ := pairs_rest I.hok pr ri
  have line : 100000 ≤ sizeLine := Nat.le_trans (by decide) line_ge
  have lr : rest.length = kvs.length := r1.length.symm
  have hfr : H s.heap.objs.size = none := I.hok.fresh (Nat.le_refl _)
  have alt : a < s.heap.objs.size := Heap.lt_size ho
  refine callType_codes (Q₁ := fun obj s₁ => obj = .ref s.heap.objs.size ∧ s₁ = { s with heap := s.heap.push { cls := .type "dict", data := .dict #[] } }) F.kt_called_dict (F.kt_typeCall_dict_1 _) F.entry_dict_init (kt_code_dict_new _ ⟨rfl, rfl⟩) ?_
  rintro obj s₁ ⟨rfl, rfl⟩
  have hnew : (s.heap.push { cls := .type "dict", data := .dict #[] }).DictOf (mixKind X.prog X.w) s.heap.objs.size [] := Heap.DictOf.new s.heap
  have ho1 : (s.heap.push { cls := .type "dict", data := .dict #[] }).get? a = some o := Heap.get?_push_of_some _ ho
  have hT : ({ s with heap := s.heap.push { cls := .type "dict", data := .dict #[] } } : Shared).TypeIs (.ref a) "list" := ⟨_, ho1, hc⟩
  refine ⟨hnew.typeIs, F.args_dict_init_2 _ _, ?_⟩
  unfold Builtin.«dict.__init__»
  refine wpAny_bind ?_
  unfold Builtin.Dict.selfAndRest
  refine wpAny_bind (wpAny_notOrdered_dict hnew.typeIs ?_)
  show wpAny _ _ (pure (s.heap.objs.size, [Value.ref a])) _ _ _
  refine wpAny_pure ?_
  show wpAny _ _ (Builtin.Dict.updateFrom "dict.__init__" s.heap.objs.size (.ref a) [] .none) _ _ _
  unfold Builtin.Dict.updateFrom
  refine wpAny_bind (wpAny_typeOf hT ?_)
  rw [if_pos (by decide)]
  refine wpAny_bind (getAttr?_list_keys (h := s.heap.push { cls := .type "dict", data := .dict #[] }) ho1 hc hdn hd (by exact hh) fun h1 t1 k1 => ?_)
  rw [if_pos (show (none : Option Value).isNone = true from rfl)]
  refine wpAny_bind (wpAny_rule ?_)
  have ho2 := k1 _ _ ho1
  have D1 : h1.DictOf (mixKind X.prog X.w) s.heap.objs.size [] := hnew.at fun ob e => k1 _ _ e
  have dlt : s.heap.objs.size < h1.objs.size := by obtain ⟨ob, _, _, e, _⟩ := D1; exact Heap.lt_size e
  refine wpAny_bind (wpAny_pyIter_list (l := a) (items := its.toArray) ⟨o, ho2, hc, n, hd⟩ ?_)
  have kp : ∀ b ob, s.heap.get? b = some ob → (h1.push { cls := .type "list_iterator", data := .fields #[.ref a, .int 0 0] }).get? b = some ob := fun b ob e => Heap.get?_push_of_some _ (k1 _ _ (Heap.get?_push_of_some _ e))
  refine wpAny_pure ⟨plainId_quiet plain_dict_loop _, ?_⟩
  refine dict_loop (d := s.heap.objs.size) (it := h1.objs.size) (l := a) (items := its) (by exact hh) (Nat.ne_of_lt dlt) (Nat.ne_of_gt alt) (Nat.ne_of_lt (Nat.lt_trans alt dlt)) rest 0 0 _ [] (by omega) ⟨_, Heap.get?_push_size _ rfl, rfl, rfl⟩ ⟨o, Heap.get?_push_of_some _ ho2, hc, n, hd⟩ (D1.at fun ob e => Heap.get?_push_of_some _ e) (by simp only [List.length_nil]; omega) (fun j q' hj => ?_) (fun h3 t3 k3 D3 => ?_)
  · obtain ⟨p, kv, e1, ⟨op, e2⟩, e3, e4⟩ := r3 j q' hj
    have plt : p < s.heap.objs.size := by obtain ⟨ob, e, _⟩ := e3; exact Heap.lt_size e
    exact ⟨p, kv, by rw [Nat.zero_add]; exact e1, Nat.ne_of_lt plt, Nat.ne_of_lt (Nat.lt_trans plt dlt), isTup_at e3 fun ob e => kp p ob e, e4⟩
  · have e5 : merged [] rest = rest := merged_nil_of_nodup rest (by rw [← r1.keys]; exact nd)
    rw [e5] at D3
    refine ⟨rfl, .ref s.heap.objs.size, _, I.laid (a := s.heap.objs.size) (o := .dK kvs) (t' := t3) (fun b ob e => ?_) (Nat.le_refl _) (dk_new (by omega) (beq_eq_false_iff_ne.mpr (Ne.symm (Nat.ne_of_lt I.big))) r1 D3), rfl, q _ hfr⟩
    have blt : b < s.heap.objs.size := Heap.lt_size e
    exact k3 b ob (Nat.ne_of_lt (Nat.lt_trans blt dlt)) (Nat.ne_of_lt blt) (kp b ob e)
end
/-! ### a key in a dict, d[k] -/
def rInK (neg : Bool) : R2 := fun x y H Q => ∃ a kvs k, y = .ref a ∧ Rd H a (.dK kvs) ∧ x = kV k ∧ Q (.bl (if neg then !(valV kvs k).isSome else (valV kvs k).isSome)) H
section
variable {X : Cx}
theorem op_notInK (hu : X.A.units + 1 < cLine) : OpR X (compareOp .NotIn) (rInK true) := by
  intro pins s σ H x y v u Q I rx ry h
  obtain ⟨a, kvs, k, rfl, e, rfl, q⟩ := h
  obtain rfl : u = Value.ref a := ry
  exact d_notIn hu I (.inl ⟨kvs, k, e, rfl, rfl⟩) rx fun s3 I3 => ⟨.bl _, H, I3, rfl, q⟩
end
/-! ### a comprehension over a list that may be made for it, whose items may be laid -/
theorem tComp_inv {K : PySem.W.Frag} {σ : St} {H : Hp} {Q : VK} {te : TE} {ti : TT} {tl : TE} {js : List (Nat × Str)}
    (h : ∀ G : V → Hp → Prop, (∀ (a : Addr) (xs : List V) (H1 : Hp) (J : Nat → List V → Hp → Prop), SqL K H1 a xs → xs.length ≤ 1000 → (∀ i ys H2 H3, Tp H2 H3 → J i ys H2 → J i ys H3) → J 0 [] H1 →
      (∀ (i : Nat) (x : V) (ys : List V) (H2 : Hp), xs[i]? = some x → Same H1 H2 → J i ys H2 → ∀ (A : Hp → Prop) (B : V → Hp → Prop), (∀ H3, Same H2 H3 → J (i + 1) ys H3 → A H3) → (∀ y H4, Same H2 H4 → J (i + 1) (ys ++ [y]) H4 → B y H4) →
        ti (some x :: capt js σ) H2 fun b H3 => if b = true then te (some x :: capt js σ) H3 B else A H3) →
      (∀ (l : Addr) (ys : List V) (H2 : Hp), H1 l = none → Same H1 H2 → H2 l = some (.lst ys) → J xs.length ys H2 → Q (.ref l) H2) → G (.ref a) H1) → tl σ H G) : tComp js (iList K tl) ti te σ H Q := by
  refine h _ fun a xs H1 J hl hz mono j0 step fin => ⟨a, rfl, ⟨xs, hl⟩, fun l hl0 => ?_⟩
  have line : 1001 ≤ sizeLine := Nat.le_trans (by decide) line_ge
  have tpl : ∀ (H2 : Hp) (ys zs : List V), H2 l = some (.lst ys) → Tp H2 (upd H2 l (.lst zs)) := fun H2 ys zs e b us eb => by
    rw [upd_ne (fun w => by rw [w, e] at eb; cases eb)]; exact eb
  refine ⟨fun i m ys H2 => m = xs.length - i ∧ i ≤ xs.length ∧ ys.length ≤ i ∧ Same H1 H2 ∧ H2 l = some (.lst ys) ∧ J i ys H2,
    ⟨xs.length, by simp, Nat.zero_le _, Nat.le_refl _, fun b o e => by rw [upd_ne (ne_of_none e hl0)]; exact e, upd_same, mono _ _ _ _ (fun b us e => by rw [upd_ne (ne_of_none e hl0)]; exact e) j0⟩, ?_⟩
  rintro i m ys H2 ⟨rfl, hi, hy, sm, hL, j⟩
  have q := sm.seq hl
  by_cases hlt : i < xs.length
  · refine .inr ⟨⟨xs, xs[i], q, by simp [hlt]⟩, fun v H'' y => ?_⟩
    obtain ⟨e, y⟩ := y
    subst e
    have hv := y xs q
    refine step i v ys _ hv sm j _ _ (fun H3 s3 j3 => ⟨xs.length - (i + 1), by omega, rfl, hlt, by omega, sm.trans s3, s3 _ _ hL, j3⟩) (fun y H4 s4 j4 => ?_)
    have hL4 := s4 _ _ hL
    refine ⟨xs.length - (i + 1), by omega, hL4, by omega, rfl, hlt, by rw [List.length_append]; simp only [List.length_cons, List.length_nil]; omega, ?_, upd_same, mono _ _ _ _ (tpl H4 ys _ hL4) j4⟩
    exact fun b o e => by rw [upd_ne (ne_of_none e hl0)]; exact (sm.trans s4) b o e
  · have e : i = xs.length := by omega
    subst e
    exact .inl ⟨⟨xs, q, Nat.le_refl _⟩, fin l ys H2 hl0 sm hL j⟩
end L2

end
section
set_option Elab.async false
set_option linter.all false
set_option maxRecDepth 100000
set_option maxHeartbeats 4000000
namespace L2
open PySem PySem.Spec PyProof.Rows
local macro_rules | `(tactic| walk_at "rd") => `(tactic| try simp only [tVar, tC, tOp, tUn, tSeq, tAsg, gName, tRet, tRetN, tIfS, tDrop, tNext, tCons, tNil, tCall, tCB, tTest, tB, tAnd, tOr, tNot, tAndV, tOrV, tNotV, tIf, tTup, tLst, tSl, tPart, tNoPart, tBM, tBM0, L2.start, rI2, rI3, rAddA, rMulA, rSubI, rDivI, rModI, rPowI, rNegI, rLt, rLe, rGt, rGe, rIsN, rNotN, rEqS, rNeS, rLen, rIxA, rIntA, rMax2, rMin2, rStrI, rListOf, rIsi2, isiF, isiO, rSlA, rStarts2, rEnds2, CDiv,
  List.map_cons, List.map_nil, List.length_cons, List.length_nil, List.replicate_succ, List.replicate_zero, List.cons_append, List.nil_append, List.append_nil, List.getElem?_cons_zero, List.getElem?_cons_succ, List.set_cons_zero, List.set_cons_succ, Option.some.injEq, V.int.injEq, V.str.injEq, V.bl.injEq, V.ref.injEq, V.ty.injEq, reduceCtorEq, exists_eq_left', exists_eq_left, exists_eq_right, exists_eq_right', exists_eq', exists_eq, exists_and_left, exists_and_right, false_and, and_false, true_and, and_true, exists_const, exists_false, false_or, or_false, List.cons.injEq, and_assoc, decide_eq_true_eq, decide_true, decide_false, Int.reduceLT, Int.reduceLE, Nat.reduceLT, Nat.reduceLeDiff, Nat.reduceSub, Nat.reduceAdd, Nat.sub_self, Nat.sub_zero, enc_eq, enc_nil, enc_0, enc_1, enc_01, enc_append, enc_len, Bool.not_true, Bool.not_false, Bool.false_eq_true, if_true, if_false, ↓reduceIte, String.reduceEq, or_true, true_or, Nat.one_mul, addr_len, bitsBy_len, List.length_append, List.length_replicate, List.length_map])
local macro_rules | `(tactic| walk_at "sz") => `(tactic| (have hline := line_ge; first | omega | (simp; omega)))
/-! ### a table as a dict -/
def tabK (rs : List Row) : List (Key × V) := rs.map fun r => (strK (enc r.1), wayV r.2)
theorem tabK_pairs {H : Hp} {xs : List V} {rs : List Row} (h : RowsAre H xs rs) : Paired (PairIs H) xs (tabK rs) := by
  unfold tabK
  induction h with
  | nil => exact .nil
  | cons hx _ ih => obtain ⟨p, e, hp⟩ := hx; exact .cons ⟨p, e, hp⟩ ih
theorem tabK_keys (rs : List Row) : KeysS (tabK rs) (rs.map fun r => enc r.1) := by
  unfold KeysS tabK
  rw [List.map_map, List.map_map]; rfl
theorem strK_inj {a b : Str} (h : strK a = strK b) : a = b := by unfold strK at h; cases h; rfl
theorem tabK_nodup {rs : List Row} (h : (rs.map (·.1)).Nodup) : ((tabK rs).map (·.1)).Nodup := by
  rw [tabK_keys rs, List.map_map]
  have e : rs.map (strK ∘ fun r => enc r.1) = (rs.map (·.1)).map fun b => strK (enc b) := by rw [List.map_map]; rfl
  rw [e]
  exact h.map (fun b => strK (enc b)) (fun a b ne z => ne (enc_inj (strK_inj z)))
/-- what the dict holds at a head -/
def atH (rs : List Row) (h : List Bool) : Option Row := rs.find? fun r => r.1 == h
theorem valV_tabK (rs : List Row) (h : List Bool) : valV (tabK rs) (strK (enc h)) = (atH rs h).map fun r => wayV r.2 := by
  unfold valV tabK atH
  induction rs with
  | nil => rfl
  | cons r rs ih =>
    rw [List.map_cons, List.find?_cons, List.find?_cons]
    by_cases e : r.1 = h
    · have e1 : (decide (strK (enc r.1) = strK (enc h))) = true := by rw [e]; simp
      have e2 : (r.1 == h) = true := by rw [e]; simp
      dsimp only
      rw [e1, e2]; rfl
    · have e1 : (decide (strK (enc r.1) = strK (enc h))) = false := decide_eq_false fun z => e (enc_inj (strK_inj z))
      have e2 : (r.1 == h) = false := by simpa using e
      dsimp only
      rw [e1, e2]; exact ih
theorem atH_none {rs : List Row} {h : List Bool} : atH rs h = none ↔ ∀ r ∈ rs, r.1 ≠ h := by
  unfold atH
  rw [List.find?_eq_none]
  simp
theorem atH_some {rs : List Row} {r : Row} (hn : (rs.map (·.1)).Nodup) (hr : r ∈ rs) : atH rs r.1 = some r := by
  cases e : atH rs r.1 with
  | none => exact absurd rfl (atH_none.mp e r hr)
  | some q =>
    have h1 : q ∈ rs := List.mem_of_find?_eq_some e
    have h2 : (q.1 == r.1) = true := List.find?_some (p := fun q : Row => q.1 == r.1) e
    rw [nodup_heads hn h1 hr (by simpa using h2)]
/-! ### the deeds -/
def DeedsAre (H : Hp) : List V → List Deed → Prop := Paired (DeedIs H)
theorem DeedsAre.mono {H H' : Hp} {vs : List V} {ds : List Deed} (h : DeedsAre H vs ds) (t : Tp H H') : DeedsAre H' vs ds := Paired.mono h fun _ _ q => q.mono t
def lacks (rs : List Row) (r : Row) : Bool := rs.all fun q => q.1 != r.1
def dropsOf (ts ss : List Row) : List Deed := (ss.filter fun r => lacks ts r).map fun r => .drop r.1
def putsOf (rs tt : List Row) : List Deed := (tt.filter fun r => !rs.contains r).map fun r => .put r.1 r.2
/-- sorted heads are the heads of the sorted rows -/
theorem sorted_heads {rs ss : List Row} {zs : List Str} (so : SortR rs ss) (hp : zs.Perm (rs.map fun r => enc r.1)) (hu : upS zs) : zs = ss.map fun r => enc r.1 := by
  refine List.Perm.eq_of_pairwise (le := fun a b : Str => ¬ b.cps.toList < a.cps.toList) (fun a b _ _ h1 h2 => ?_) hu ?_ (hp.trans (so.perm.map _).symm)
  · exact Str.ext' (Array.toList_inj.mp (List.le_antisymm h1 h2))
  · exact List.Pairwise.map _ (fun a b h => h) so.up
theorem lacks_iff {ts : List Row} {r : Row} : lacks ts r = (atH ts r.1).isNone := by
  rw [Bool.eq_iff_iff, Option.isNone_iff_eq_none, atH_none]
  unfold lacks
  rw [List.all_eq_true]
  simp
theorem differs_iff {rs : List Row} {r : Row} (hn : (rs.map (·.1)).Nodup) : (!rs.contains r) = (match atH rs r.1 with | none => true | some q => !decide (q.2 = r.2)) := by
  rw [Bool.eq_iff_iff]
  cases e : atH rs r.1 with
  | none =>
    have := atH_none.mp e
    simp only [Bool.not_eq_true', iff_true]
    rw [Bool.eq_false_iff]
    intro w
    exact this r (List.contains_iff_mem.mp w) rfl
  | some q =>
    have h1 : q ∈ rs := List.mem_of_find?_eq_some e
    have h2 : q.1 = r.1 := by have : (q.1 == r.1) = true := List.find?_some (p := fun q : Row => q.1 == r.1) e
                              simpa using this
    simp only [Bool.not_eq_true', decide_eq_false_iff_not]
    rw [Bool.eq_false_iff]
    constructor
    · intro w e2
      exact w (List.contains_iff_mem.mpr (by have : q = r := Prod.ext h2 e2
                                             rw [← this]; exact h1))
    · intro w e2
      have := nodup_heads hn h1 (List.contains_iff_mem.mp e2) h2
      exact w (by rw [this])
theorem ne_way2 (a b : Option Int) (H : Hp) (R : V → Hp → Prop) (h : R (.bl (!decide (a = b))) H) : rNeS (wayV a) (wayV b) H R := by
  cases a with
  | none => cases b with
    | none => exact h
    | some j => exact h
  | some i => cases b with
    | none => exact h
    | some j =>
      have e : decide (some i = some j) = decide (i = j) := by rw [decide_eq_decide]; simp
      rw [e] at h
      exact h
def rd_deeds (K : PySem.W.Frag) : TS :=
  (tSeq (tAsg (tCB (rDictOf K) (tCons (tVar 0) tNil)) (gName 2))
  (tSeq (tAsg (tCB (rDictOf K) (tCons (tVar 1) tNil)) (gName 3))
  (tSeq (tAsg (tComp [(3, "wanted")] (iList K (tCB rSortedD (tCons (tVar 2) tNil))) (tTest (tOp (rInK true) (tVar 0) (tVar 1))) (tTup (tCons (tC (.str (Str.ofString "drop"))) (tCons (tVar 0) tNil)))) (gName 4))
  (tSeq (tAsg (tComp [(3, "wanted"), (2, "had")] (iList K (tCB rSortedD (tCons (tVar 3) tNil))) (tOr (tTest (tOp (rInK true) (tVar 0) (tVar 2))) (tTest (tOp rNeS (tDGet (tVar 2) (tVar 0)) (tDGet (tVar 1) (tVar 0))))) (tTup (tCons (tC (.str (Str.ofString "put"))) (tCons (tVar 0) (tCons (tDGet (tVar 1) (tVar 0)) tNil))))) (gName 5))
  (tRet (tOp rAddA (tVar 4) (tVar 5)))))))
def nm_deeds : List Str := ["ones", "others", "had", "wanted", "drops", "puts"]
def sp_deeds (K : PySem.W.Frag) : Sp := fun vs H Q _ => ∃ (a b : Addr) (xs zs : List V) (rs ts ss tt : List Row), vs = [.ref a, .ref b] ∧ H a = some (.lst xs) ∧ H b = some (.lst zs) ∧ RowsAre H xs rs ∧ RowsAre H zs ts ∧ (rs.map (·.1)).Nodup ∧ (ts.map (·.1)).Nodup ∧ rs.length < 64 ∧ ts.length < 64 ∧
  SortR rs ss ∧ SortR ts tt ∧ ∀ l H' ys, Same H H' → H l = none → H' l = some (.lst ys) → DeedsAre H' ys (dropsOf ts ss ++ putsOf rs tt) → Q (.ref l) H'
theorem len_deeds {K vs H Q E} (h : sp_deeds K vs H Q E) : vs.length = 2 := by obtain ⟨_, _, _, _, _, _, _, _, rfl, _⟩ := h; rfl
theorem rdok_deeds {K vs H Q E} (h : sp_deeds K vs H Q E) : rd_deeds K { nx := fun _ H' => Q .non H', rt := Q } (start nm_deeds vs) H := by
  obtain ⟨a, b, xs, zs, rs, ts, ss, tt, rfl, ha, hb, hr, ht, nr, nt, fr, ft, so, to, q⟩ := h
  have lr := Paired.length hr
  have lt := Paired.length ht
  simp only [rd_deeds, nm_deeds, L2.start]
  refine tSeq_gen fun U hU => ?_
  walk_at "rd"
  refine ⟨xs, tabK rs, SqL.of ha, tabK_pairs hr, tabK_nodup nr, by unfold tabK; rw [List.length_map]; omega, fun d1 hd1 => ?_⟩
  have s1 : Same H (upd H d1 (.dK (tabK rs))) := Same.upd hd1
  have h1 : upd H d1 (.dK (tabK rs)) d1 = some (.dK (tabK rs)) := upd_same
  generalize upd H d1 (.dK (tabK rs)) = H1 at s1 h1 ⊢
  subst hU
  refine tSeq_gen fun U hU => ?_
  walk_at "rd"
  refine ⟨zs, tabK ts, SqL.of (s1 _ _ hb), tabK_pairs (RowsAre.mono ht s1.tp), tabK_nodup nt, by unfold tabK; rw [List.length_map]; omega, fun d2 hd2 => ?_⟩
  have s2 : Same H1 (upd H1 d2 (.dK (tabK ts))) := Same.upd hd2
  have h2 : upd H1 d2 (.dK (tabK ts)) d2 = some (.dK (tabK ts)) := upd_same
  generalize upd H1 d2 (.dK (tabK ts)) = H2 at s2 h2 ⊢
  have h12 := s2 _ _ h1
  have s02 := s1.trans s2
  subst hU
  refine tSeq_gen fun U hU => ?_
  walk_at "rd"
  refine tComp_inv fun G hG => ?_
  walk_at "rd"
  refine ⟨tabK rs, _, .inl h12, tabK_keys rs, by rw [List.length_map]; exact fr, fun l3 us hl3 up uo => ?_⟩
  have eu := sorted_heads so up uo
  subst eu
  have s3 : Same H2 (upd H2 l3 (.lst ((ss.map fun r => enc r.1).map V.str))) := Same.upd hl3
  refine hG l3 ((ss.map fun r => enc r.1).map V.str) _ (fun i ys H' => DeedsAre H' ys (dropsOf ts (ss.take i))) (SqL.of upd_same) ?_ (fun i ys H3 H4 t j => j.mono t) .nil ?_ ?_
  · rw [List.length_map, List.length_map, so.perm.length_eq]; omega
  · intro i x ys H3 hx sm j A B hA hB
    rw [List.getElem?_map, List.getElem?_map] at hx
    cases hi : ss[i]? with
    | none => rw [hi] at hx; cases hx
    | some r =>
      rw [hi] at hx
      cases hx
      have tk : ss.take (i + 1) = ss.take i ++ [r] := by rw [List.take_add_one, hi]; rfl
      simp only [capt]
      walk_at "rd"
      refine ⟨_, rfl, d2, tabK ts, strK (enc r.1), rfl, .inl (sm _ _ (s3 _ _ h2)), rfl, _, rfl, ?_⟩
      have e1 : (if true = true then !(valV (tabK ts) (strK (enc r.1))).isSome else (valV (tabK ts) (strK (enc r.1))).isSome) = lacks ts r := by
        rw [if_pos rfl, valV_tabK, Option.isSome_map, lacks_iff]
        cases atH ts r.1 <;> rfl
      rw [e1]
      have ed : dropsOf ts (ss.take (i + 1)) = dropsOf ts (ss.take i) ++ (if lacks ts r then [Deed.drop r.1] else []) := by
        unfold dropsOf
        rw [tk, List.filter_append, List.map_append, List.filter_cons, List.filter_nil]
        cases lacks ts r <;> rfl
      cases hlk : lacks ts r with
      | true =>
        rw [hlk, if_pos rfl] at ed
        rw [if_pos rfl]
        refine ⟨by walk_at "sz", fun p hp => hB _ _ (Same.upd hp) ?_⟩
        rw [ed]
        exact Paired.append (j.mono (Same.upd hp).tp) (.cons ⟨p, rfl, upd_same⟩ .nil)
      | false =>
        rw [hlk, if_neg Bool.false_ne_true, List.append_nil] at ed
        rw [if_neg Bool.false_ne_true]
        refine hA _ (Same.refl _) ?_
        rw [ed]; exact j
  · intro l4 ys4 H4 hl4 sm4 h4 j4
    have ej : dropsOf ts (ss.take ((ss.map fun r => enc r.1).map V.str).length) = dropsOf ts ss := by rw [List.length_map, List.length_map, List.take_length]
    rw [ej] at j4
    have s24 := s3.trans sm4
    have hn4 : H l4 = none := s02.free ((s3).free hl4)
    subst hU
    refine tSeq_gen fun U hU => ?_
    walk_at "rd"
    refine tComp_inv fun G hG => ?_
    walk_at "rd"
    refine ⟨tabK ts, _, .inl (s24 _ _ h2), tabK_keys ts, by rw [List.length_map]; exact ft, fun l5 us hl5 up uo => ?_⟩
    have eu := sorted_heads to up uo
    subst eu
    have s5 : Same H4 (upd H4 l5 (.lst ((tt.map fun r => enc r.1).map V.str))) := Same.upd hl5
    refine hG l5 ((tt.map fun r => enc r.1).map V.str) _ (fun i ys H' => DeedsAre H' ys (putsOf rs (tt.take i))) (SqL.of upd_same) ?_ (fun i ys H3 H4 t j => j.mono t) .nil ?_ ?_
    · rw [List.length_map, List.length_map, to.perm.length_eq]; omega
    · intro i x ys H5 hx sm j A B hA hB
      rw [List.getElem?_map, List.getElem?_map] at hx
      cases hi : tt[i]? with
      | none => rw [hi] at hx; cases hx
      | some r =>
        rw [hi] at hx
        cases hx
        have tk : tt.take (i + 1) = tt.take i ++ [r] := by rw [List.take_add_one, hi]; rfl
        have hrt : r ∈ ts := to.perm.mem_iff.mp (List.mem_of_getElem? hi)
        have hd1 := sm _ _ (s5 _ _ (s24 _ _ h12))
        have hd2 := sm _ _ (s5 _ _ (s24 _ _ h2))
        have v2 : valV (tabK ts) (strK (enc r.1)) = some (wayV r.2) := by rw [valV_tabK, atH_some nt hrt]; rfl
        have ed : putsOf rs (tt.take (i + 1)) = putsOf rs (tt.take i) ++ (if !rs.contains r then [Deed.put r.1 r.2] else []) := by
          unfold putsOf
          rw [tk, List.filter_append, List.map_append, List.filter_cons, List.filter_nil]
          cases (!rs.contains r) <;> rfl
        have yes : (!rs.contains r) = true → ∀ H' , H' = H5 → (tTup (tCons (tC (.str (Str.ofString "put"))) (tCons (tVar 0) (tCons (tDGet (tVar 1) (tVar 0)) tNil)))) [some (.str (enc r.1)), some (.ref d2), some (.ref d1)] H' B := by
          rintro hc H' rfl
          rw [hc, if_pos rfl] at ed
          refine ⟨_, rfl, _, rfl, _, rfl, d2, wayV r.2, rfl, .inl ⟨tabK ts, strK (enc r.1), .inl hd2, rfl, v2.symm⟩, by walk_at "sz", fun p hp => hB _ _ (Same.upd hp) ?_⟩
          rw [ed]
          exact Paired.append (j.mono (Same.upd hp).tp) (.cons ⟨p, rfl, upd_same⟩ .nil)
        have no : (!rs.contains r) = false → A H5 := by
          intro hc
          rw [hc, if_neg Bool.false_ne_true, List.append_nil] at ed
          refine hA _ (Same.refl _) ?_
          rw [ed]; exact j
        have dif := differs_iff (r := r) nr
        have v1 : valV (tabK rs) (strK (enc r.1)) = (atH rs r.1).map fun r => wayV r.2 := valV_tabK rs r.1
        refine ⟨_, rfl, _, rfl, d1, tabK rs, strK (enc r.1), rfl, .inl hd1, rfl, _, rfl, ?_⟩
        rw [v1]
        cases hat : atH rs r.1 with
        | none =>
          rw [hat] at dif
          exact yes dif _ rfl
        | some p =>
          rw [hat] at dif v1
          dsimp only at dif
          refine ⟨_, rfl, _, rfl, d1, wayV p.2, rfl, .inl ⟨tabK rs, strK (enc r.1), .inl hd1, rfl, v1.symm⟩, ?_⟩
          refine ⟨_, rfl, _, rfl, d2, wayV r.2, rfl, .inl ⟨tabK ts, strK (enc r.1), .inl hd2, rfl, v2.symm⟩, ?_⟩
          refine ne_way2 p.2 r.2 _ _ ⟨_, rfl, ?_⟩
          cases hd : decide (p.2 = r.2) with
          | true =>
            rw [hd] at dif
            exact no dif
          | false =>
            rw [hd] at dif
            exact yes dif _ rfl
    · intro l6 ys6 H6 hl6 sm6 h6 j6
      have ej : putsOf rs (tt.take ((tt.map fun r => enc r.1).map V.str).length) = putsOf rs tt := by rw [List.length_map, List.length_map, List.take_length]
      rw [ej] at j6
      subst hU
      walk_at "rd"
      have s46 := s5.trans sm6
      have l4l := Paired.length j4
      have l6l := Paired.length j6
      have b1 : (dropsOf ts ss).length ≤ 64 := by
        unfold dropsOf
        rw [List.length_map]
        have := List.length_filter_le (fun r => lacks ts r) ss
        have := so.perm.length_eq
        omega
      have b2 : (putsOf rs tt).length ≤ 64 := by
        unfold putsOf
        rw [List.length_map]
        have := List.length_filter_le (fun r => !rs.contains r) tt
        have := to.perm.length_eq
        omega
      refine ⟨ys4, s46 _ _ h4, ys6, h6, by walk_at "sz", fun p hp => ?_⟩
      have s7 : Same H6 (upd H6 p (.lst (ys4 ++ ys6))) := Same.upd hp
      have s07 := s02.trans (s24.trans (s46.trans s7))
      refine q p _ (ys4 ++ ys6) s07 ?_ upd_same (Paired.append (j4.mono (s46.trans s7).tp) (j6.mono s7.tp))
      exact (s02.trans (s24.trans s46)).free hp
end L2

end
section
set_option Elab.async false
set_option linter.all false
set_option maxRecDepth 100000
set_option maxHeartbeats 4000000
namespace L2
open PySem PySem.Spec PyProof.Rows HT
/-! ### t[lo:hi] of a tuple, the whole of it too -/
section
variable {prog : Program} {w : World} {A : Around} {E : Value → Shared → Prop} {s : Shared}
theorem getItem_tuple_whole {t sl : Addr} {items : Array Value} {vl vu : Value} {lo hi : Option Int} {Q : Value → Shared → Prop} (ht : IsTup s.heap t items) (hs : s.heap.IsSliceOf sl vl vu .none) (pl : IsPart vl lo) (pu : IsPart vu hi)
    (hw : sIx items.size 0 lo = 0 ∧ sIx items.size items.size hi = items.size) (h : Q (.ref t) s) : wpAny (model prog w) A (getItem (.ref t) (.ref sl)) Q E s := by
  obtain ⟨os, hos, hcs, hds⟩ := id hs
  have hTs : s.TypeIs (.ref sl) "slice" := ⟨os, hos, hcs⟩
  unfold getItem
  try with_reducible refine wpAny_holding ?_
  first | refine wpAny_bind (wpAny_pure ?_) | skip
  refine wpAny_bind (wpAny_sequenceKey ht.typeIs (by decide) ?_)
  refine wpAny_bind (wpAny_callSpecial?_slot (name := Str.ofString "__getitem__") ht.typeIs PyProof.Rows.slot_tuple_getitem
    (wpAny_call_entry PyProof.Rows.slot_tuple_getitem ht.typeIs entry_tuple_getitem ?_ (args_tuple_getitem _ _)))
  show wpAny _ _ (Builtin.Tuple.tupleItemsOf (.ref t) >>= _) _ _ s
  refine wpAny_bind (tupleItemsOf_ ht ?_)
  refine wpAny_bind (wpAny_typeOf hTs ?_)
  rw [if_pos (by decide)]
  refine wpAny_bind (sliceApplied_gen hs pl pu ?_)
  have hyes : ((((sIx items.size 0 lo : Nat) : Int) == 0 && (1 : Int) == 1 && (sIx items.size items.size hi - sIx items.size 0 lo) == items.size) = true) := by
    rw [hw.1, hw.2]; simp
  show wpAny _ _ (if (((sIx items.size 0 lo : Nat) : Int) == 0 && (1 : Int) == 1 && (sIx items.size items.size hi - sIx items.size 0 lo) == items.size) = true then _ else _) _ _ s
  rw [if_pos hyes]
  refine wpAny_bind ?_
  unfold Builtin.Tuple.tupleIsExact
  refine wpAny_bind (wpAny_typeOf ht.typeIs (wpAny_pure ?_))
  rw [if_pos (by decide)]
  refine wpAny_bind (wpAny_rule ?_)
  first
    | exact wpAny_pure ⟨_, rfl, wpAny_pure h⟩
    | exact wpAny_pure ⟨_, rfl, h⟩
end
section
variable {X : Cx}
def rSlTA (K : PySem.W.Frag) : V → Option Int → Option Int → Hp → VK → Prop := fun x lo hi H Q => ∃ a xs, x = .ref a ∧ SqT K H a xs ∧
  (HT.sIx xs.length 0 lo = 0 ∧ HT.sIx xs.length xs.length hi = xs.length → Q (.ref a) H) ∧ (¬ (HT.sIx xs.length 0 lo = 0 ∧ HT.sIx xs.length xs.length hi = xs.length) → ∀ p, H p = none → Q (.ref p) (upd H p (.tup (cutV xs lo hi))))
theorem sl_tupA : SlR X (rSlTA X.K) := by
  intro pins s σ H x v vl vu lo hi sl Q I rx hs pl pu h
  obtain ⟨a, xs, rfl, hx, q1, q2⟩ := h
  by_cases hw : HT.sIx xs.length 0 lo = 0 ∧ HT.sIx xs.length xs.length hi = xs.length
  · cases rx
    obtain ⟨its, r, ht, hz⟩ := I.tuple hx
    have hlen : its.toArray.size = xs.length := by rw [List.size_toArray]; exact r.length.symm
    refine ⟨"tuple", _, PyProof.Rows.slot_tuple_getitem.lookup, ht.typeIs, ?_⟩
    exact getItem_tuple_whole ht hs pl pu (by rw [hlen]; exact hw) ⟨.ref a, H, I, rfl, q1 hw⟩
  · exact sl_tup pins s σ H _ v vl vu lo hi sl Q I rx hs pl pu ⟨a, xs, rfl, hx, hw, q2 hw⟩
end
end L2

end
section
set_option Elab.async false
set_option linter.all false
set_option maxRecDepth 100000
namespace L2
open PySem PySem.Spec PyProof.Rows PySem.SeqAt

/-! ### x in xs, x not in xs: by the data -/
section
variable {X : Cx}
def rInD (K : PySem.W.Frag) (neg : Bool) : R2 := fun x y H Q => ∃ d es, Rep K H x d ∧ Rep K H y (.list es) ∧ PyData.canLayAll0 es = true ∧ PyData.canLay0 d = true ∧ PyData.depthAll es ≤ 16 ∧ PyData.depth d ≤ 16 ∧ Q (.bl (if neg then !(es.any fun e => PyData.eqv e d) else es.any fun e => PyData.eqv e d)) H
theorem op_notInD (hu : X.A.units + 64 < cLine) : OpR X (compareOp .NotIn) (rInD X.K true) := by
  intro pins s σ H x y v u Q I rx ry h
  obtain ⟨d, es, hd, he, c1, c2, c3, c4, q⟩ := h
  obtain ⟨as, ra⟩ := hd.reads I v rx
  obtain ⟨bs, rb⟩ := he.reads I u ry
  exact notIn_list_reads rb ra c1 c2 (by omega) ⟨.bl _, H, I, rfl, q⟩
end
end L2

end
section
set_option Elab.async false
set_option linter.all false
set_option maxRecDepth 100000
namespace L2
open PySem PySem.Spec PyProof.Rows
/-! ### tables as data -/
def wayD : Option Int → PyData
  | none => .none
  | some i => .int i
def rowD (r : Row) : PyData := .tuple [.str (enc r.1), wayD r.2]
theorem enc_ok (bs : List Bool) : PyData.strOk (enc bs) = true := by
  show ((bs.map sg).toArray).all (· < 0x110000) = true
  rw [List.all_toArray, List.all_map, List.all_eq_true]
  intro b _
  cases b <;> decide
theorem rowD_ok (r : Row) : PyData.canLay0 (rowD r) = true ∧ PyData.depth (rowD r) ≤ 1 := by
  obtain ⟨h, w⟩ := r
  cases w <;> exact ⟨by simp [rowD, wayD, PyData.canLay0, PyData.canLayAll0, enc_ok], by simp [rowD, wayD, PyData.depth, PyData.depthAll]⟩
theorem rowsD_ok (rs : List Row) : PyData.canLayAll0 (rs.map rowD) = true ∧ PyData.depthAll (rs.map rowD) ≤ 1 := by
  induction rs with
  | nil => exact ⟨by simp [PyData.canLayAll0], by simp [PyData.depthAll]⟩
  | cons r rs ih =>
    have h := rowD_ok r
    refine ⟨by simp only [List.map_cons, PyData.canLayAll0, h.1, ih.1, Bool.and_true], ?_⟩
    have e : PyData.depthAll ((r :: rs).map rowD) = max (PyData.depth (rowD r)) (PyData.depthAll (rs.map rowD)) := by simp only [List.map_cons, PyData.depthAll]
    rw [e]
    exact Nat.max_le.mpr ⟨h.2, ih.2⟩
theorem tab_lay (rs : List Row) : PyData.canLay0 (.list (rs.map rowD)) = true := by simp only [PyData.canLay0, (rowsD_ok rs).1]
theorem tab_shaped (rs : List Row) : SeqAt.shaped (.list (rs.map rowD)) = true := by
  unfold SeqAt.shaped
  rw [tab_lay, Bool.true_and, decide_eq_true_iff]
  have := (rowsD_ok rs).2
  simp only [PyData.depth]
  omega
theorem wayV_rep {K : PySem.W.Frag} {H : Hp} (w : Option Int) : Rep K H (wayV w) (wayD w) := by
  cases w with
  | none => exact .non
  | some i => exact .int i
theorem RowIs.rep {K : PySem.W.Frag} {H : Hp} {v : V} {r : Row} (h : RowIs H v r) : Rep K H v (rowD r) := by
  obtain ⟨p, rfl, hp⟩ := h
  exact .tup (SqT.of hp) (.cons (.str _) (.cons (wayV_rep _) .nil))
theorem RowsAre.reps {K : PySem.W.Frag} {H : Hp} {vs : List V} {rs : List Row} (h : RowsAre H vs rs) : Reps K H vs (rs.map rowD) := by
  induction h with
  | nil => exact .nil
  | cons h _ ih => exact .cons h.rep ih
theorem tab_rep {K : PySem.W.Frag} {H : Hp} {a : Addr} {vs : List V} {rs : List Row} (ha : H a = some (.lst vs)) (h : RowsAre H vs rs) : Rep K H (.ref a) (.list (rs.map rowD)) := .lst (SqL.of ha) h.reps
theorem tab_eqv (rs : List Row) : PyData.eqv (.list (rs.map rowD)) (.list (rs.map rowD)) = true := PySem.SeqAt.eqv_refl _ (tab_lay rs)
end L2

end
section
set_option Elab.async false
set_option linter.all false
set_option maxRecDepth 100000
set_option maxHeartbeats 4000000
namespace K08
open PySem L2
local macro_rules | `(tactic| walk_at "rd") => `(tactic| try simp only [tVar, tC, tOp, tUn, tSeq, tAsg, gName, tRet, tRetN, tIfS, tDrop, tNext, tCons, tNil, tCall, tCB, tTest, tB, tAnd, tOr, tNot, tAndV, tOrV, tNotV, tIf, tTup, tLst, tSl, tPart, tNoPart, tBM, tBM0, L2.start, rI2, rI3, rAddA, rMulA, rSubI, rDivI, rModI, rPowI, rNegI, rLt, rLe, rGt, rGe, rIsN, rNotN, rEqS, rNeS, rLen, rIxA, rIntA, rMax2, rMin2, rStrI, rListOf, rIsi2, isiF, isiO, rSlA, rStarts2, rEnds2, CDiv,
  List.map_cons, List.map_nil, List.length_cons, List.length_nil, List.replicate_succ, List.replicate_zero, List.cons_append, List.nil_append, List.append_nil, List.getElem?_cons_zero, List.getElem?_cons_succ, List.set_cons_zero, List.set_cons_succ, Option.some.injEq, V.int.injEq, V.str.injEq, V.bl.injEq, V.ref.injEq, V.ty.injEq, reduceCtorEq, exists_eq_left', exists_eq_left, exists_eq_right, exists_eq_right', exists_eq', exists_eq, exists_and_left, exists_and_right, false_and, and_false, true_and, and_true, exists_const, exists_false, false_or, or_false, List.cons.injEq, and_assoc, decide_eq_true_eq, decide_true, decide_false, Int.reduceLT, Int.reduceLE, Nat.reduceLT, Nat.reduceLeDiff, Nat.reduceSub, Nat.reduceAdd, Nat.sub_self, Nat.sub_zero, enc_eq, enc_nil, enc_0, enc_1, enc_01, enc_append, enc_len, Bool.not_true, Bool.not_false, Bool.false_eq_true, if_true, if_false, ↓reduceIte, String.reduceEq, or_true, true_or, Nat.one_mul, addr_len, bitsBy_len, List.length_append, List.length_replicate, List.length_map])
local macro_rules | `(tactic| walk_at "sz") => `(tactic| (have hline := line_ge; first | omega | (simp; omega)))
/-! ### the other table, mixed -/
structure Mix (ts us : List Row) (size : Int) (k : Nat) : Prop where
  nd : (us.map (·.1)).Nodup
  len : ∀ r ∈ us, (r.1.length : Int) ≤ size
  few : us.length ≤ ts.length + k
theorem Mix.add {ts us : List Row} {size : Int} {k : Nat} {h : List Bool} {w : Option Int} (m : Mix ts us size k) (hl : (h.length : Int) ≤ size) (hn : (us.any fun r => r.1 == h) = false) : Mix ts (us ++ [(h, w)]) size (k + 1) := by
  refine ⟨?_, fun r hr => ?_, ?_⟩
  · rw [List.map_append, List.nodup_append]
    refine ⟨m.nd, by simp, fun a ha b hb e => ?_⟩
    have hb : b = h := by simpa using hb
    subst hb e
    obtain ⟨r, hr, e⟩ := List.mem_map.mp ha
    have := List.any_eq_false.mp hn r hr
    rw [e] at this
    simp at this
  · rcases List.mem_append.mp hr with hr | hr
    · exact m.len r hr
    · rw [List.mem_singleton.mp hr]; exact hl
  · have := m.few; rw [List.length_append]; simp only [List.length_cons, List.length_nil]; omega
theorem Mix.step {ts us : List Row} {size : Int} {k : Nat} (m : Mix ts us size k) : Mix ts us size (k + 1) := ⟨m.nd, m.len, by have := m.few; omega⟩
def rb_law_mixed_1 (K : PySem.W.Frag) : TS :=
  (tSeq (tAsg (tOp (rIxA K) (tVar 1) (tVar 4)) (gName 5))
  (tSeq (tIfS (tAnd (tTest (tOp rEqS (tOp rModI (tVar 2) (tC (.int 2))) (tC (.int 1)))) (tTest (tOp (rIn K true) (tOp (rIxA K) (tVar 5) (tC (.int 0))) (tComp [] (iList K (tVar 3)) tAlways (tOp (rIxA K) (tVar 0) (tC (.int 0))))))) (tDrop (tBM K "list" rAppend (tVar 3) (tCons (tTup (tCons (tOp (rIxA K) (tVar 5) (tC (.int 0))) (tCons (tIf (tTest (tOp rGt (tOp rModI (tOp rDivI (tVar 2) (tC (.int 2))) (tC (.int 3))) (tC (.int 0)))) (tOp (rIxA K) (tVar 5) (tC (.int 1))) (tC (.int 77))) tNil))) tNil))) tNext)
  (tAsg (tOp rDivI (tVar 2) (tC (.int 6))) (gName 2))))
def rd_law_mixed (K : PySem.W.Frag) : TS :=
  (tSeq (tAsg (tCB (rListOf K) (tCons (tVar 0) tNil)) (gName 3))
  (tSeq (tFor (iRng1 (tCons (tCB (rLen K) (tCons (tVar 1) tNil)) tNil)) (gName 4) (rb_law_mixed_1 K))
  (tRet (tVar 3))))
def nm_law_mixed : List Str := ["own", "ones", "cell", "rows", "k", "row"]
def sp_law_mixed (K : PySem.W.Frag) : Sp := fun vs H Q _ => ∃ (a b : Addr) (xs zs : List V) (rs ts : List Row) (c size : Int), vs = [.ref b, .ref a, .int c] ∧ H a = some (.lst xs) ∧ H b = some (.lst zs) ∧ RowsAre H xs rs ∧ RowsAre H zs ts ∧
  (∀ r ∈ rs, (r.1.length : Int) ≤ size) ∧ (∀ r ∈ ts, (r.1.length : Int) ≤ size) ∧ (ts.map (·.1)).Nodup ∧ rs.length ≤ 100 ∧ ts.length ≤ 100 ∧ ∀ l H' ys us, H l = none → Same H H' → H' l = some (.lst ys) → RowsAre H' ys us → Mix ts us size rs.length → Q (.ref l) H'
theorem len_law_mixed {K vs H Q E} (h : sp_law_mixed K vs H Q E) : vs.length = 3 := by obtain ⟨_, _, _, _, _, _, _, _, rfl, _⟩ := h; rfl
theorem rdok_law_mixed {K vs H Q E} (h : sp_law_mixed K vs H Q E) : rd_law_mixed K { nx := fun _ H' => Q .non H', rt := Q } (start nm_law_mixed vs) H := by
  obtain ⟨a, b, xs, zs, rs, ts, c, size, rfl, ha, hb, hr, ht, lr, lt, nt, f1, f2, q⟩ := h
  have lx := Paired.length hr
  have lz := Paired.length ht
  simp only [rd_law_mixed, nm_law_mixed, L2.start]
  refine tSeq_gen fun U hU => ?_
  walk_at "rd"
  refine ⟨zs, .inl (SqL.of hb), fun l hl => ?_⟩
  subst hU
  refine tSeq_gen fun U hU => ?_
  have sm : Same H (upd H l (.lst zs)) := Same.upd hl
  have h1 : upd H l (.lst zs) l = some (.lst zs) := upd_same
  generalize upd H l (.lst zs) = H1 at sm h1 ⊢
  refine tFor_rng1 xs.length (by omega) (fun k σ H' => Same H H' ∧ ∃ c o p ys us, σ = [some (.ref b), some (.ref a), some (.int c), some (.ref l), o, p] ∧ H' l = some (.lst ys) ∧ RowsAre H' ys us ∧ Mix ts us size k) ?_ ?_ ?_ ?_
  · intro R h; walk_at "rd"; exact ⟨xs, .inl (SqL.of (sm _ _ ha)), h⟩
  · exact ⟨sm, c, none, none, zs, ts, rfl, h1, RowsAre.mono ht sm.tp, ⟨nt, lt, by omega⟩⟩
  · rintro k σ H' hk ⟨s2, c, o, p, ys, us, rfl, h2, r2, m⟩
    obtain ⟨r, hri, t, et, htp⟩ := Paired.get k xs[k] hr (by simp [hk])
    have hxk : xs[k]? = some (.ref t) := by rw [← et]; simp [hk]
    have hrm := List.mem_of_getElem? hri
    have hrl := lr r hrm
    have hy := Paired.length r2
    have hfew := m.few
    simp only [rb_law_mixed_1, gName, List.set_cons_succ, List.set_cons_zero]
    refine tSeq_gen fun U hU => ?_
    walk_at "rd"
    refine ⟨xs, .inl (SqL.of (s2 _ _ ha)), _, atI_nat hxk, ?_⟩
    subst hU
    refine tSeq_gen fun U hU => ?_
    have cont : ∀ H4 ys us, Same H H4 → H4 l = some (.lst ys) → RowsAre H4 ys us → Mix ts us size (k + 1) → ∀ D : Ends, (∀ c o p ys us H', Same H H' → H' l = some (.lst ys) → RowsAre H' ys us → Mix ts us size (k + 1) → D.nx [some (.ref b), some (.ref a), some (.int c), some (.ref l), o, p] H') →
        U D [some (.ref b), some (.ref a), some (.int c), some (.ref l), some (.int k), some (.ref t)] H4 := by
      intro H4 ys us s4 h4 r4 m4 D hD
      subst hU
      walk_at "rd"
      exact hD _ _ _ _ _ _ s4 h4 r4 m4
    walk_at "rd"
    split
    · refine ⟨_, .inr (SqT.of (s2 _ _ htp)), _, rfl, ?_⟩
      refine tComp_lst (K := K) l ys (fun _ => true) (fstOf H') (fun R h => by walk_at "rd"; exact h) (SqL.of h2) (by walk_at "sz") (fun v _ H'' R _ h => h) (fun v hv _ H'' R s2 h => ?_) (fun l5 hl5 => ?_)
      · obtain ⟨i, hi⟩ := List.getElem?_of_mem hv
        obtain ⟨r, _, hr⟩ := Paired.get i v r2 hi
        rw [fstOf_row hr] at h
        obtain ⟨p, rfl, hp⟩ := hr
        walk_at "rd"
        exact ⟨_, .inr (SqT.of (s2 _ _ hp)), _, rfl, h⟩
      · rw [List.filter_eq_self.mpr (fun _ _ => rfl), map_fstOf r2]
        have s5 : Same H' (upd H' l5 (.lst (us.map fun r => V.str (enc r.1)))) := Same.upd hl5
        have h5 : upd H' l5 (.lst (us.map fun r => V.str (enc r.1))) l5 = some (.lst (us.map fun r => V.str (enc r.1))) := upd_same
        generalize upd H' l5 (.lst (us.map fun r => V.str (enc r.1))) = H5 at s5 h5 ⊢
        have s05 := s2.trans s5
        refine ⟨l5, _, rfl, .inl (SqL.of h5), rfl, heads_flat _, ?_⟩
        simp only [if_true, inV_heads]
        walk_at "rd"
        cases hany : (us.any fun q => q.1 == r.1) with
        | true =>
          walk_at "rd"
          exact cont H5 ys us s05 (s5 _ _ h2) (RowsAre.mono r2 s5.tp) m.step _ fun c o p ys us H' z1 z2 z3 z4 => ⟨z1, ⟨_, _, _, rfl⟩, _, z2, _, z3, z4⟩
        | false =>
          walk_at "rd"
          refine ⟨tyV_lst (s5 _ _ h2), _, .inr (SqT.of (s5 _ _ (s2 _ _ htp))), _, rfl, ?_⟩
          have app : ∀ (D : Ends), (∀ c o p ys us H', Same H H' → H' l = some (.lst ys) → RowsAre H' ys us → Mix ts us size (k + 1) → D.nx [some (.ref b), some (.ref a), some (.int c), some (.ref l), o, p] H') → ∀ (w : Option Int) (p : Addr), H5 p = none →
              rAppend (V.ref l) [V.ref p] (upd H5 p (HO.tup [.str (enc r.1), wayV w])) fun x H1 => U D [some (V.ref b), some (V.ref a), some (V.int c), some (V.ref l), some (V.int k), some (V.ref t)] H1 := by
            intro D hD
            intro w p hp5
            obtain ⟨H6, eH6, s6, a1, a2, a3⟩ := add_step (h := r.1) (w := w) s05 hl (s5 _ _ h2) (RowsAre.mono r2 s5.tp) hp5
            refine ⟨l, ys, _, rfl, rfl, by rw [upd_ne (ne_of_none (s5 _ _ h2) hp5)]; exact s5 _ _ h2, by walk_at "sz", ?_⟩
            rw [← eH6]
            exact cont H6 _ _ s6 a1 a2 (m.add hrl hany) D hD
          split
          · refine ⟨_, .inr (SqT.of (s5 _ _ (s2 _ _ htp))), _, atI_nat (j := 1) rfl, by walk_at "sz", fun p hp => ?_⟩
            refine app _ ?_ r.2 p hp
            exact fun c o p ys us H' z1 z2 z3 z4 => ⟨z1, ⟨_, _, _, rfl⟩, _, z2, _, z3, z4⟩
          · refine ⟨by walk_at "sz", fun p hp => ?_⟩
            refine app _ ?_ (some 77) p hp
            exact fun c o p ys us H' z1 z2 z3 z4 => ⟨z1, ⟨_, _, _, rfl⟩, _, z2, _, z3, z4⟩
    · exact cont H' ys us s2 h2 r2 m.step _ fun c o p ys us H' z1 z2 z3 z4 => ⟨z1, ⟨_, _, _, rfl⟩, _, z2, _, z3, z4⟩
  · rintro σ H' ⟨s2, c, o, p, ys, us, rfl, h2, r2, m⟩
    subst hU
    walk_at "rd"
    exact q l H' ys us hl s2 h2 r2 (by rw [← lx]; exact m)
/-! ### the deeds that are due -/
def rd_law_due08 (K : PySem.W.Frag) : TS :=
  (tSeq (tAsg (tComp [] (iList K (tVar 1)) tAlways (tOp (rIxA K) (tVar 0) (tC (.int 0)))) (gName 2))
  (tSeq (tAsg (tComp [(2, "heads")] (iList K (tSortKey K (sp_law_head K) (tCons (tVar 0) tNil))) (tTest (tOp (rIn K true) (tOp (rIxA K) (tVar 0) (tC (.int 0))) (tVar 1))) (tTup (tCons (tC (.str (Str.ofString "drop"))) (tCons (tOp (rIxA K) (tVar 0) (tC (.int 0))) tNil)))) (gName 3))
  (tRet (tOp rAddA (tVar 3) (tComp [(0, "ones")] (iList K (tSortKey K (sp_law_head K) (tCons (tVar 1) tNil))) (tTest (tOp (rInD K true) (tVar 0) (tVar 1))) (tTup (tCons (tC (.str (Str.ofString "put"))) (tCons (tOp (rIxA K) (tVar 0) (tC (.int 0))) (tCons (tOp (rIxA K) (tVar 0) (tC (.int 1))) tNil)))))))))
def nm_law_due08 : List Str := ["ones", "others", "heads", "due"]
def sp_law_due08 (K : PySem.W.Frag) : Sp := fun vs H Q _ => ∃ (a b : Addr) (xs zs : List V) (rs ts : List Row), vs = [.ref a, .ref b] ∧ H a = some (.lst xs) ∧ H b = some (.lst zs) ∧ RowsAre H xs rs ∧ RowsAre H zs ts ∧ rs.length < 64 ∧ ts.length < 64 ∧
  ∀ l H' ys ss tt, Same H H' → H l = none → H' l = some (.lst ys) → SortR rs ss → SortR ts tt → DeedsAre H' ys (dropsOf ts ss ++ putsOf rs tt) → Q (.ref l) H'
theorem len_law_due08 {K vs H Q E} (h : sp_law_due08 K vs H Q E) : vs.length = 2 := by obtain ⟨_, _, _, _, _, _, rfl, _⟩ := h; rfl
theorem lacks_any {ts : List Row} {r : Row} : lacks ts r = !(ts.any fun q => q.1 == r.1) := by
  unfold lacks
  rw [List.not_any_eq_all_not]
  rfl
theorem wayD_eqv (a b : Option Int) : PyData.eqv (wayD a) (wayD b) = decide (a = b) := by
  cases a with
  | none => cases b with
    | none => simp [wayD, PyData.eqv]
    | some j => simp [wayD, PyData.eqv]
  | some i => cases b with
    | none => simp [wayD, PyData.eqv]
    | some j => simp only [wayD, PyData.eqv]; rw [Bool.eq_iff_iff]; simp
theorem rowD_eqv (q r : Row) : PyData.eqv (rowD q) (rowD r) = decide (q = r) := by
  have e : PyData.eqv (rowD q) (rowD r) = ((enc q.1 == enc r.1) && (PyData.eqv (wayD q.2) (wayD r.2) && true)) := by simp only [rowD, PyData.eqv, PyData.eqvAll]
  rw [e, wayD_eqv, Bool.and_true, Bool.eq_iff_iff]
  simp only [Bool.and_eq_true, beq_iff_eq, decide_eq_true_eq]
  constructor
  · rintro ⟨h1, h2⟩; exact Prod.ext (enc_inj h1) h2
  · rintro rfl; exact ⟨rfl, rfl⟩
theorem row_in {r : Row} {rs : List Row} : ((rs.map rowD).any fun d => PyData.eqv d (rowD r)) = rs.contains r := by
  rw [List.any_map, Bool.eq_iff_iff, List.any_eq_true, List.contains_iff_mem]
  constructor
  · rintro ⟨q, hq, e⟩
    have e : PyData.eqv (rowD q) (rowD r) = true := e
    rw [rowD_eqv] at e
    rw [← of_decide_eq_true e]; exact hq
  · intro h
    exact ⟨r, h, by show PyData.eqv (rowD r) (rowD r) = true; rw [rowD_eqv]; simp⟩
theorem rdok_law_due08 {K vs H Q E} (h : sp_law_due08 K vs H Q E) : rd_law_due08 K { nx := fun _ H' => Q .non H', rt := Q } (start nm_law_due08 vs) H := by
  obtain ⟨a, b, xs, zs, rs, ts, rfl, ha, hb, hr, ht, fr, ft, q⟩ := h
  have lr := Paired.length hr
  have lt := Paired.length ht
  simp only [rd_law_due08, nm_law_due08, L2.start]
  refine tSeq_gen fun U hU => ?_
  walk_at "rd"
  refine tComp_lst (K := K) b zs (fun _ => true) (fstOf H) (fun R h => by walk_at "rd"; exact h) (SqL.of hb) (by walk_at "sz") (fun v _ H'' R _ h => h) (fun v hv _ H'' R s2 h => ?_) (fun l1 hl1 => ?_)
  · obtain ⟨i, hi⟩ := List.getElem?_of_mem hv
    obtain ⟨r, _, hr⟩ := Paired.get i v ht hi
    rw [fstOf_row hr] at h
    obtain ⟨p, rfl, hp⟩ := hr
    walk_at "rd"
    exact ⟨_, .inr (SqT.of (s2 _ _ hp)), _, rfl, h⟩
  rw [List.filter_eq_self.mpr (fun _ _ => rfl), map_fstOf ht]
  have s1 : Same H (upd H l1 (.lst (ts.map fun r => V.str (enc r.1)))) := Same.upd hl1
  have h1 : upd H l1 (.lst (ts.map fun r => V.str (enc r.1))) l1 = some (.lst (ts.map fun r => V.str (enc r.1))) := upd_same
  generalize upd H l1 (.lst (ts.map fun r => V.str (enc r.1))) = H1 at s1 h1 ⊢
  subst hU
  refine tSeq_gen fun U hU => ?_
  walk_at "rd"
  refine tComp_inv fun G hG => ?_
  refine tSort_rows (fun p v ws H2 hp => ⟨p, v, ws, rfl, hp, rfl, rfl⟩) (fun R z => by walk_at "rd"; exact z) (s1 _ _ ha) (RowsAre.mono hr s1.tp) fr (fun l2 y2 ss hl2 r2 so => ?_)
  have s2 : Same H1 (upd H1 l2 (.lst y2)) := Same.upd hl2
  have h2 : upd H1 l2 (.lst y2) l2 = some (.lst y2) := upd_same
  generalize upd H1 l2 (.lst y2) = H2 at s2 h2 ⊢
  have r22 := RowsAre.mono r2 s2.tp
  have ly2 := Paired.length r2
  refine hG l2 y2 H2 (fun i ys H' => DeedsAre H' ys (dropsOf ts (ss.take i))) (SqL.of h2) (by have := so.perm.length_eq; omega) (fun i ys H3 H4 t j => j.mono t) .nil ?_ ?_
  · intro i x ys H3 hx sm j A B hA hB
    obtain ⟨r, hri, p, rfl, hp⟩ := Paired.get i x r22 hx
    have tk : ss.take (i + 1) = ss.take i ++ [r] := by rw [List.take_add_one, hri]; rfl
    have ed : dropsOf ts (ss.take (i + 1)) = dropsOf ts (ss.take i) ++ (if lacks ts r then [Deed.drop r.1] else []) := by
      unfold dropsOf
      rw [tk, List.filter_append, List.map_append, List.filter_cons, List.filter_nil]
      cases lacks ts r <;> rfl
    simp only [capt]
    walk_at "rd"
    refine ⟨_, .inr (SqT.of (sm _ _ hp)), _, rfl, ?_⟩
    refine ⟨_, rfl, l1, _, rfl, .inl (SqL.of (sm _ _ (s2 _ _ h1))), rfl, heads_flat _, _, rfl, ?_⟩
    simp only [if_true, inV_heads]
    rw [← lacks_any]
    cases hlk : lacks ts r with
    | true =>
      rw [hlk, if_pos rfl] at ed
      rw [if_pos rfl]
      refine ⟨_, .inr (SqT.of (sm _ _ hp)), _, rfl, by walk_at "sz", fun t ht => hB _ _ (Same.upd ht) ?_⟩
      rw [ed]
      exact Paired.append (j.mono (Same.upd ht).tp) (.cons ⟨t, rfl, upd_same⟩ .nil)
    | false =>
      rw [hlk, if_neg Bool.false_ne_true, List.append_nil] at ed
      rw [if_neg Bool.false_ne_true]
      refine hA _ (Same.refl _) ?_
      rw [ed]; exact j
  · intro l3 y3 H3 hl3 sm3 h3 j3
    have ej : dropsOf ts (ss.take y2.length) = dropsOf ts ss := by rw [ly2, List.take_length]
    rw [ej] at j3
    have s03 := s1.trans (s2.trans sm3)
    subst hU
    walk_at "rd"
    refine tComp_inv fun G hG => ?_
    refine tSort_rows (fun p v ws H2 hp => ⟨p, v, ws, rfl, hp, rfl, rfl⟩) (fun R z => by walk_at "rd"; exact z) (s03 _ _ hb) (RowsAre.mono ht s03.tp) ft (fun l4 y4 tt hl4 r4 to => ?_)
    have s4 : Same H3 (upd H3 l4 (.lst y4)) := Same.upd hl4
    have h4 : upd H3 l4 (.lst y4) l4 = some (.lst y4) := upd_same
    generalize upd H3 l4 (.lst y4) = H4 at s4 h4 ⊢
    have r44 := RowsAre.mono r4 s4.tp
    have ly4 := Paired.length r4
    have s04 := s03.trans s4
    refine hG l4 y4 H4 (fun i ys H' => DeedsAre H' ys (putsOf rs (tt.take i))) (SqL.of h4) (by have := to.perm.length_eq; omega) (fun i ys H3 H4 t j => j.mono t) .nil ?_ ?_
    · intro i x ys H5 hx sm j A B hA hB
      obtain ⟨r, hri, p, rfl, hp⟩ := Paired.get i x r44 hx
      have tk : tt.take (i + 1) = tt.take i ++ [r] := by rw [List.take_add_one, hri]; rfl
      have ed : putsOf rs (tt.take (i + 1)) = putsOf rs (tt.take i) ++ (if !rs.contains r then [Deed.put r.1 r.2] else []) := by
        unfold putsOf
        rw [tk, List.filter_append, List.map_append, List.filter_cons, List.filter_nil]
        cases (!rs.contains r) <;> rfl
      have s05 := s04.trans sm
      have hp5 := sm _ _ hp
      simp only [capt]
      walk_at "rd"
      refine ⟨_, rfl, rowD r, rs.map rowD, RowIs.rep (r := r) ⟨p, rfl, hp5⟩, tab_rep (s05 _ _ ha) (RowsAre.mono hr s05.tp), (rowsD_ok rs).1, (rowD_ok r).1, by have := (rowsD_ok rs).2; omega, by have := (rowD_ok r).2; omega, _, rfl, ?_⟩
      rw [row_in]
      show if (!rs.contains r) = true then _ else _
      cases hc : (!rs.contains r) with
      | true =>
        rw [hc, if_pos rfl] at ed
        rw [if_pos rfl]
        refine ⟨_, .inr (SqT.of hp5), _, rfl, _, .inr (SqT.of hp5), _, atI_nat (j := 1) rfl, by walk_at "sz", fun t ht => hB _ _ (Same.upd ht) ?_⟩
        rw [ed]
        exact Paired.append (j.mono (Same.upd ht).tp) (.cons ⟨t, rfl, upd_same⟩ .nil)
      | false =>
        rw [hc, if_neg Bool.false_ne_true, List.append_nil] at ed
        rw [if_neg Bool.false_ne_true]
        refine hA _ (Same.refl _) ?_
        rw [ed]; exact j
    · intro l6 ys6 H6 hl6 sm6 h6 j6
      have ej : putsOf rs (tt.take y4.length) = putsOf rs tt := by rw [ly4, List.take_length]
      rw [ej] at j6
      have s36 := s4.trans sm6
      have l4l := Paired.length j3
      have l6l := Paired.length j6
      have b1 : (dropsOf ts ss).length ≤ 64 := by
        unfold dropsOf
        rw [List.length_map]
        have := List.length_filter_le (fun r => lacks ts r) ss
        have := so.perm.length_eq
        omega
      have b2 : (putsOf rs tt).length ≤ 64 := by
        unfold putsOf
        rw [List.length_map]
        have := List.length_filter_le (fun r => !rs.contains r) tt
        have := to.perm.length_eq
        omega
      refine ⟨y3, s36 _ _ h3, ys6, h6, by walk_at "sz", fun p hp => ?_⟩
      have s7 : Same H6 (upd H6 p (.lst (y3 ++ ys6))) := Same.upd hp
      have s07 := s03.trans (s36.trans s7)
      refine q p _ (y3 ++ ys6) ss tt s07 ?_ upd_same so to (Paired.append (j3.mono (s36.trans s7).tp) (j6.mono s7.tp))
      exact (s03.trans s36).free hp
/-! ### one deed behind the other -/
theorem mem_doneR {rs : List Row} {d : Deed} {r : Row} : r ∈ doneR rs d ↔ (r ∈ rs ∧ r.1 ≠ d.head) ∨ d = .put r.1 r.2 := by
  cases d with
  | drop h =>
    show r ∈ rs.filter _ ↔ _
    rw [List.mem_filter]
    simp [Deed.head]
  | put h w =>
    show r ∈ rs.filter _ ++ [(h, w)] ↔ _
    rw [List.mem_append, List.mem_filter, List.mem_singleton]
    simp only [bne_iff_ne, ne_eq, Deed.head, Deed.put.injEq]
    constructor
    · rintro (h1 | rfl)
      · exact .inl h1
      · exact .inr ⟨rfl, rfl⟩
    · rintro (h1 | ⟨h1, h2⟩)
      · exact .inl h1
      · exact .inr (Prod.ext h1.symm h2.symm)
theorem mem_fold {r : Row} : ∀ {ds : List Deed} {rs : List Row}, (ds.map Deed.head).Nodup → (r ∈ ds.foldl doneR rs ↔ Deed.put r.1 r.2 ∈ ds ∨ (r ∈ rs ∧ r.1 ∉ ds.map Deed.head))
  | [], rs, _ => by simp
  | d :: ds, rs, h => by
    rw [List.map_cons, List.nodup_cons] at h
    rw [List.foldl_cons, mem_fold h.2, mem_doneR, List.map_cons, List.mem_cons, List.mem_cons]
    constructor
    · rintro (h1 | ⟨⟨h1, h2⟩ | h1, h3⟩)
      · exact .inl (.inr h1)
      · exact .inr ⟨h1, fun z => z.elim h2 h3⟩
      · exact .inl (.inl h1.symm)
    · rintro ((h1 | h1) | ⟨h1, h2⟩)
      · subst h1
        exact .inr ⟨.inr rfl, h.1⟩
      · exact .inl h1
      · exact .inr ⟨.inl ⟨h1, fun z => h2 (.inl z)⟩, fun z => h2 (.inr z)⟩
theorem fold_nodup : ∀ {ds : List Deed} {rs : List Row}, (rs.map (·.1)).Nodup → ((ds.foldl doneR rs).map (·.1)).Nodup
  | [], _, h => h
  | d :: ds, rs, h => fold_nodup (ds := ds) (doneR_nodup d h)
theorem doneR_perm {R S : List Row} (p : R.Perm S) (d : Deed) : (doneR R d).Perm (doneR S d) := by
  cases d with
  | drop h => exact p.filter _
  | put h w => exact (p.filter _).append_right _
theorem heads_drops (ts ss : List Row) : (dropsOf ts ss).map Deed.head = (ss.filter fun r => lacks ts r).map (·.1) := by unfold dropsOf; rw [List.map_map]; rfl
theorem heads_puts (rs tt : List Row) : (putsOf rs tt).map Deed.head = (tt.filter fun r => !rs.contains r).map (·.1) := by unfold putsOf; rw [List.map_map]; rfl
theorem nodup_of_heads {rs : List Row} (h : (rs.map (·.1)).Nodup) : rs.Nodup := (List.pairwise_map.mp h).imp fun ne e => ne (congrArg Prod.fst e)
theorem turned {rs ts ss tt : List Row} (nr : (rs.map (·.1)).Nodup) (nt : (ts.map (·.1)).Nodup) (so : SortR rs ss) (to : SortR ts tt) : ((dropsOf ts ss ++ putsOf rs tt).foldl doneR rs).Perm ts := by
  have ns : (ss.map (·.1)).Nodup := (so.perm.map _).nodup_iff.mpr nr
  have nt' : (tt.map (·.1)).Nodup := (to.perm.map _).nodup_iff.mpr nt
  have nd : ((dropsOf ts ss ++ putsOf rs tt).map Deed.head).Nodup := by
    rw [List.map_append, heads_drops, heads_puts, List.nodup_append]
    refine ⟨ns.sublist (List.filter_sublist.map _), nt'.sublist (List.filter_sublist.map _), fun a ha b hb e => ?_⟩
    obtain ⟨q, hq, rfl⟩ := List.mem_map.mp ha
    obtain ⟨r, hr, rfl⟩ := List.mem_map.mp hb
    have h1 := (List.mem_filter.mp hq).2
    have h2 := to.perm.mem_iff.mp (List.mem_filter.mp hr).1
    unfold lacks at h1
    have := List.all_eq_true.mp h1 r h2
    simp [e] at this
  refine (List.perm_ext_iff_of_nodup (nodup_of_heads (fold_nodup nr)) (nodup_of_heads nt)).mpr fun r => ?_
  rw [mem_fold nd, List.map_append, heads_drops, heads_puts]
  have hput : Deed.put r.1 r.2 ∈ dropsOf ts ss ++ putsOf rs tt ↔ r ∈ ts ∧ r ∉ rs := by
    rw [List.mem_append]
    constructor
    · rintro (h | h)
      · unfold dropsOf at h
        obtain ⟨q, _, e⟩ := List.mem_map.mp h
        cases e
      · unfold putsOf at h
        obtain ⟨q, hq, e⟩ := List.mem_map.mp h
        have e : q = r := by injection e with e1 e2; exact Prod.ext e1 e2
        subst e
        have := List.mem_filter.mp hq
        exact ⟨to.perm.mem_iff.mp this.1, by simpa using this.2⟩
    · rintro ⟨h1, h2⟩
      right
      unfold putsOf
      exact List.mem_map.mpr ⟨r, List.mem_filter.mpr ⟨to.perm.mem_iff.mpr h1, by simpa using h2⟩, rfl⟩
  rw [hput, List.mem_append]
  constructor
  · rintro (h | ⟨h1, h2⟩)
    · exact h.1
    · have hl : ¬ lacks ts r = true := fun w => h2 (.inl (List.mem_map.mpr ⟨r, List.mem_filter.mpr ⟨so.perm.mem_iff.mpr h1, w⟩, rfl⟩))
      unfold lacks at hl
      rw [List.all_eq_true] at hl
      obtain ⟨t, ht⟩ := Classical.not_forall.mp hl
      obtain ⟨ht, e⟩ := Classical.not_imp.mp ht
      have e : t.1 = r.1 := by simpa using e
      have htr : t ∈ rs := Classical.byContradiction fun w => h2 (.inr (List.mem_map.mpr ⟨t, List.mem_filter.mpr ⟨to.perm.mem_iff.mpr ht, by simpa using w⟩, e⟩))
      rw [← nodup_heads nr htr h1 e]; exact ht
  · intro h
    by_cases hr : r ∈ rs
    · refine .inr ⟨hr, ?_⟩
      rintro (w | w)
      · obtain ⟨q, hq, e⟩ := List.mem_map.mp w
        have h1 := (List.mem_filter.mp hq).2
        unfold lacks at h1
        have := List.all_eq_true.mp h1 r h
        simp [e] at this
      · obtain ⟨q, hq, e⟩ := List.mem_map.mp w
        have h1 := List.mem_filter.mp hq
        have := nodup_heads nt (to.perm.mem_iff.mp h1.1) h e
        rw [this] at h1
        have h2 := h1.2
        simp at h2
        exact h2 hr
    · exact .inl ⟨h, hr⟩
theorem deed_lay {x : Str} (hx : PyData.strOk x = true) (h : List Bool) : PyData.canLay0 (.tuple [.str x, .str (enc h)]) = true := by
  simp only [PyData.canLay0, PyData.canLayAll0, hx, enc_ok, Bool.and_true]
theorem deed_shaped {x : Str} (hx : PyData.strOk x = true) (h : List Bool) : PySem.SeqAt.shaped (.tuple [.str x, .str (enc h)]) = true := by
  unfold PySem.SeqAt.shaped
  rw [deed_lay hx, Bool.true_and, decide_eq_true_iff]
  simp only [PyData.depth, PyData.depthAll]
  decide
theorem deed_rep {K : PySem.W.Frag} {H : Hp} {p : Addr} {x : Str} {h : List Bool} (hp : H p = some (.tup [.str x, .str (enc h)])) : Rep K H (.ref p) (.tuple [.str x, .str (enc h)]) := .tup (SqT.of hp) (.cons (.str _) (.cons (.str _) .nil))
def rd_law_same_deed (K : PySem.W.Frag) : TS :=
  (tSeq (tIfS (tOr (tNot (tB (tCB rIsi2 (tCons (tVar 0) (tCons (tC (.ty "tuple")) tNil))))) (tTest (tOp rNeS (tCB (rLen K) (tCons (tVar 0) tNil)) (tCB (rLen K) (tCons (tVar 1) tNil))))) (tRet (tC (.bl false))) tNext)
  (tSeq (tIfS (tOr (tNot (tB (tCB rIsi2 (tCons (tOp (rIxA K) (tVar 0) (tC (.int 0))) (tCons (tC (.ty "str")) tNil))))) (tOr (tNot (tB (tCB rIsi2 (tCons (tOp (rIxA K) (tVar 0) (tC (.int 1))) (tCons (tC (.ty "str")) tNil))))) (tTest (tOp (rNeD K) (tSl (rSlTA K) (tVar 0) tNoPart (tPart (tC (.int 2)))) (tSl (rSlTA K) (tVar 1) tNoPart (tPart (tC (.int 2)))))))) (tRet (tC (.bl false))) tNext)
  (tRet (tOrV (tOp rEqS (tCB (rLen K) (tCons (tVar 1) tNil)) (tC (.int 2))) (tCall (sp_law_way_is K) [] E0 (tCons (tOp (rIxA K) (tVar 0) (tC (.int 2))) (tCons (tOp (rIxA K) (tVar 1) (tC (.int 2))) tNil)))))))
def nm_law_same_deed : List Str := ["found", "due"]
def sp_law_same_deed (K : PySem.W.Frag) : Sp := fun vs H Q _ => ∃ (v u : V) (d : Deed), vs = [v, u] ∧ DeedIs H v d ∧ DeedIs H u d ∧ ∀ H', Same H H' → Q (.bl true) H'
theorem len_law_same_deed {K vs H Q E} (h : sp_law_same_deed K vs H Q E) : vs.length = 2 := by obtain ⟨_, _, _, rfl, _⟩ := h; rfl
theorem rdok_law_same_deed {K vs H Q E} (h : sp_law_same_deed K vs H Q E) : rd_law_same_deed K { nx := fun _ H' => Q .non H', rt := Q } (start nm_law_same_deed vs) H := by
  obtain ⟨v, u, d, rfl, hv, hu, q⟩ := h
  simp only [rd_law_same_deed, nm_law_same_deed, L2.start]
  cases d with
  | drop h =>
    obtain ⟨p, rfl, hp⟩ := hv
    obtain ⟨p2, rfl, hp2⟩ := hu
    refine tSeq_gen fun U hU => ?_
    walk_at "rd"
    refine ⟨_, hp, true, rfl, ?_⟩
    walk_at "rd"
    refine ⟨_, .inr (SqT.of hp), _, .inr (SqT.of hp2), ?_⟩
    walk_at "rd"
    subst hU
    refine tSeq_gen fun U hU => ?_
    walk_at "rd"
    refine ⟨_, .inr (SqT.of hp), _, rfl, ?_⟩
    walk_at "rd"
    refine ⟨_, .inr (SqT.of hp), _, atI_nat (j := 1) rfl, ?_⟩
    walk_at "rd"
    have ox : PyData.strOk (Str.ofString "drop") = true := by decide +kernel
    refine ⟨p, _, rfl, SqT.of hp, fun _ => ?_, fun n => absurd (show HT.sIx 2 0 none = 0 ∧ HT.sIx 2 2 (some 2) = 2 by decide) n⟩
    refine ⟨p2, _, rfl, SqT.of hp2, fun _ => ?_, fun n => absurd (show HT.sIx 2 0 none = 0 ∧ HT.sIx 2 2 (some 2) = 2 by decide) n⟩
    refine ⟨_, _, deed_rep hp, deed_rep hp2, deed_shaped ox h, deed_shaped ox h, ?_⟩
    rw [PySem.SeqAt.eqv_refl _ (deed_lay ox h)]
    refine ⟨_, rfl, ?_⟩
    simp only [Bool.not_true, Bool.false_eq_true, if_false]
    subst hU
    walk_at "rd"
    refine ⟨_, .inr (SqT.of hp2), ?_⟩
    walk_at "rd"
    exact q _ (Same.refl _)
  | put h w =>
    obtain ⟨p, rfl, hp⟩ := hv
    obtain ⟨p2, rfl, hp2⟩ := hu
    refine tSeq_gen fun U hU => ?_
    walk_at "rd"
    refine ⟨_, hp, true, rfl, ?_⟩
    walk_at "rd"
    refine ⟨_, .inr (SqT.of hp), _, .inr (SqT.of hp2), ?_⟩
    walk_at "rd"
    subst hU
    refine tSeq_gen fun U hU => ?_
    walk_at "rd"
    refine ⟨_, .inr (SqT.of hp), _, rfl, ?_⟩
    walk_at "rd"
    refine ⟨_, .inr (SqT.of hp), _, atI_nat (j := 1) rfl, ?_⟩
    walk_at "rd"
    have ox : PyData.strOk (Str.ofString "put") = true := by decide +kernel
    have nw : ¬ (HT.sIx 3 0 none = 0 ∧ HT.sIx 3 3 (some 2) = 3) := by decide
    refine ⟨p, _, rfl, SqT.of hp, fun n => absurd n nw, fun _ t1 ht1 => ?_⟩
    have s1 : Same H (upd H t1 (.tup [.str (Str.ofString "put"), .str (enc h)])) := Same.upd ht1
    have h1 : upd H t1 (.tup [.str (Str.ofString "put"), .str (enc h)]) t1 = some (.tup [.str (Str.ofString "put"), .str (enc h)]) := upd_same
    show rSlTA K (V.ref p2) none (some 2) (upd H t1 (.tup [.str (Str.ofString "put"), .str (enc h)])) _
    generalize upd H t1 (.tup [.str (Str.ofString "put"), .str (enc h)]) = H1 at s1 h1 ⊢
    refine ⟨p2, _, rfl, SqT.of (s1 _ _ hp2), fun n => absurd n nw, fun _ t2 ht2 => ?_⟩
    have s2 : Same H1 (upd H1 t2 (.tup [.str (Str.ofString "put"), .str (enc h)])) := Same.upd ht2
    have h2 : upd H1 t2 (.tup [.str (Str.ofString "put"), .str (enc h)]) t2 = some (.tup [.str (Str.ofString "put"), .str (enc h)]) := upd_same
    show rNeD K (V.ref t1) (V.ref t2) (upd H1 t2 (.tup [.str (Str.ofString "put"), .str (enc h)])) _
    generalize upd H1 t2 (.tup [.str (Str.ofString "put"), .str (enc h)]) = H2 at s2 h2 ⊢
    have s02 := s1.trans s2
    refine ⟨_, _, deed_rep (s2 _ _ h1), deed_rep h2, deed_shaped ox h, deed_shaped ox h, ?_⟩
    rw [PySem.SeqAt.eqv_refl _ (deed_lay ox h)]
    refine ⟨_, rfl, ?_⟩
    simp only [Bool.not_true, Bool.false_eq_true, if_false]
    subst hU
    walk_at "rd"
    refine ⟨_, .inr (SqT.of (s02 _ _ hp2)), ?_⟩
    walk_at "rd"
    refine ⟨_, .inr (SqT.of (s02 _ _ hp)), _, atI_nat (j := 2) rfl, ?_⟩
    refine ⟨_, .inr (SqT.of (s02 _ _ hp2)), _, atI_nat (j := 2) rfl, ?_⟩
    refine ⟨w, w, rfl, ?_⟩
    simp only [decide_true]
    exact q _ s02
/-! ### two tables in a list -/
def twoD (rs ts : List Row) : PyData := .list [.list (rs.map rowD), .list (ts.map rowD)]
theorem two_rep {K : PySem.W.Frag} {H : Hp} {l a b : Addr} {xs zs : List V} {rs ts : List Row} (hl : H l = some (.lst [.ref a, .ref b])) (ha : H a = some (.lst xs)) (hb : H b = some (.lst zs)) (hr : RowsAre H xs rs) (ht : RowsAre H zs ts) : Rep K H (.ref l) (twoD rs ts) :=
  .lst (SqL.of hl) (.cons (tab_rep ha hr) (.cons (tab_rep hb ht) .nil))
theorem two_lay (rs ts : List Row) : PyData.canLay0 (twoD rs ts) = true := by
  simp only [twoD, PyData.canLay0, PyData.canLayAll0, (rowsD_ok rs).1, (rowsD_ok ts).1, Bool.and_true]
theorem two_shaped (rs ts : List Row) : PySem.SeqAt.shaped (twoD rs ts) = true := by
  unfold PySem.SeqAt.shaped
  rw [two_lay, Bool.true_and, decide_eq_true_iff]
  have h1 := (rowsD_ok rs).2
  have h2 := (rowsD_ok ts).2
  simp only [twoD, PyData.depth, PyData.depthAll]
  omega
theorem two_eqv (rs ts : List Row) : PyData.eqv (twoD rs ts) (twoD rs ts) = true := PySem.SeqAt.eqv_refl _ (two_lay rs ts)
/-! ### the law -/
def rb_law08_1 (K : PySem.W.Frag) : TS :=
  (tSeq (tIfS (tNot (tB (tCall (sp_law_same_deed K) [] E0 (tCons (tOp (rIxA K) (tVar 6) (tVar 8)) (tCons (tOp (rIxA K) (tVar 4) (tVar 8)) tNil))))) (tRet (tC (.bl false))) tNext)
  (tSeq (tAsg (tCB (rListOf K) (tCons (tVar 7) tNil)) (gName 9))
  (tSeq (tAsg (tCall (sp_done K) [] E0 (tCons (tVar 7) (tCons (tOp (rIxA K) (tVar 6) (tVar 8)) tNil))) (gName 10))
  (tSeq (tIfS (tTest (tOp (rNeD K) (tVar 7) (tVar 9))) (tRet (tC (.bl false))) tNext)
  (tAsg (tVar 10) (gName 7))))))
def rd_law08 (K : PySem.W.Frag) : TS :=
  (tSeq (tAsg (tOp rAddA (tC (.int 1)) (tOp rModI (tCall (sp_law_cell_at K) [] E0 (tCons (tVar 0) (tCons (tC (.int 0)) tNil))) (tC (.int 16)))) (gName 1))
  (tSeq (tAsg (tCall (sp_law_table_by K) [] E0 (tCons (tVar 0) (tCons (tC (.int 3)) (tCons (tOp rModI (tCall (sp_law_cell_at K) [] E0 (tCons (tVar 0) (tCons (tC (.int 1)) tNil))) (tC (.int 10))) (tCons (tVar 1) (tCons (tC (.int 4)) tNil)))))) (gName 2))
  (tSeq (tAsg (tCall (sp_law_table_by K) [] E0 (tCons (tVar 0) (tCons (tC (.int 13)) (tCons (tOp rModI (tOp rDivI (tCall (sp_law_cell_at K) [] E0 (tCons (tVar 0) (tCons (tC (.int 1)) tNil))) (tC (.int 10))) (tC (.int 10))) (tCons (tVar 1) (tCons (tC (.int 4)) tNil)))))) (gName 3))
  (tSeq (tIfS (tTest (tOp rEqS (tOp rModI (tOp rDivI (tCall (sp_law_cell_at K) [] E0 (tCons (tVar 0) (tCons (tC (.int 1)) tNil))) (tC (.int 100))) (tC (.int 2))) (tC (.int 1)))) (tAsg (tCall (sp_law_mixed K) [] E0 (tCons (tVar 3) (tCons (tVar 2) (tCons (tCall (sp_law_cell_at K) [] E0 (tCons (tVar 0) (tCons (tC (.int 2)) tNil))) tNil)))) (gName 3)) tNext)
  (tSeq (tAsg (tCall (sp_law_due08 K) [] E0 (tCons (tVar 2) (tCons (tVar 3) tNil))) (gName 4))
  (tSeq (tAsg (tLst (tCons (tCB (rListOf K) (tCons (tVar 2) tNil)) (tCons (tCB (rListOf K) (tCons (tVar 3) tNil)) tNil))) (gName 5))
  (tSeq (tAsg (tCall (sp_deeds K) [] E0 (tCons (tOp (rIxA K) (tVar 5) (tC (.int 0))) (tCons (tOp (rIxA K) (tVar 5) (tC (.int 1))) tNil))) (gName 6))
  (tSeq (tIfS (tOr (tTest (tOp (rNeD K) (tVar 5) (tLst (tCons (tVar 2) (tCons (tVar 3) tNil))))) (tOr (tNot (tB (tCB rIsi2 (tCons (tVar 6) (tCons (tC (.ty "list")) tNil))))) (tTest (tOp rNeS (tCB (rLen K) (tCons (tVar 6) tNil)) (tCB (rLen K) (tCons (tVar 4) tNil)))))) (tRet (tC (.bl false))) tNext)
  (tSeq (tAsg (tCB (rListOf K) (tCons (tVar 2) tNil)) (gName 7))
  (tSeq (tFor (iRng1 (tCons (tCB (rLen K) (tCons (tVar 4) tNil)) tNil)) (gName 8) (rb_law08_1 K))
  (tSeq (tIfS (tNot (tB (tCall (sp_law_same_rows K) [] E0 (tCons (tSortKey K (sp_law_head K) (tCons (tVar 7) tNil)) (tCons (tSortKey K (sp_law_head K) (tCons (tVar 3) tNil)) tNil))))) (tRet (tC (.bl false))) tNext)
  (tSeq (tDrop (tBM0 K "list" rClear (tVar 6)))
  (tRet (tAndV (tOp rEqS (tCB (rLen K) (tCons (tCall (sp_deeds K) [] E0 (tCons (tOp (rIxA K) (tVar 5) (tC (.int 0))) (tCons (tOp (rIxA K) (tVar 5) (tC (.int 1))) tNil))) tNil)) (tCB (rLen K) (tCons (tVar 4) tNil))) (tOp (rEqD K) (tVar 5) (tLst (tCons (tVar 2) (tCons (tVar 3) tNil))))))))))))))))))
def nm_law08 : List Str := ["script", "size", "ones", "others", "due", "handed", "found", "rows", "k", "ahead", "made"]
def sp_law08 (K : PySem.W.Frag) : Sp := fun vs H Q _ => ∃ (a : Addr) (ns : List Int), vs = [.ref a] ∧ SqL K H a (ns.map V.int) ∧ ns.length ≤ 63 ∧ LamK K "by_heads" H ∧ ∀ H', Q (.bl true) H'
theorem len_law08 {K vs H Q E} (h : sp_law08 K vs H Q E) : vs.length = 1 := by obtain ⟨_, _, rfl, _⟩ := h; rfl
structure Made (a b : Addr) (H : Hp) (xs zs : List V) (rs ts : List Row) : Prop where
  ha : H a = some (.lst xs)
  hr : RowsAre H xs rs
  hb : H b = some (.lst zs)
  ht : RowsAre H zs ts
  nr : (rs.map (·.1)).Nodup
  nt : (ts.map (·.1)).Nodup
  fr : rs.length ≤ 9
  ft : ts.length ≤ 18
theorem Made.grow {a b : Addr} {H H' : Hp} {xs zs : List V} {rs ts : List Row} (M : Made a b H xs zs rs ts) (g : Grow H H') : Made a b H' xs zs rs ts :=
  ⟨g.lst M.ha, RowsAre.mono M.hr g.tp, g.lst M.hb, RowsAre.mono M.ht g.tp, M.nr, M.nt, M.fr, M.ft⟩
theorem deeds_few {rs ts ss tt : List Row} (so : SortR rs ss) (to : SortR ts tt) : (dropsOf ts ss ++ putsOf rs tt).length ≤ rs.length + ts.length := by
  rw [List.length_append]
  unfold dropsOf putsOf
  rw [List.length_map, List.length_map]
  have := List.length_filter_le (fun r => lacks ts r) ss
  have := List.length_filter_le (fun r => !rs.contains r) tt
  have := so.perm.length_eq
  have := to.perm.length_eq
  omega
theorem fold_few : ∀ (ds : List Deed) (rs : List Row), (ds.foldl doneR rs).length ≤ rs.length + ds.length
  | [], rs => by simp
  | d :: ds, rs => by
    rw [List.foldl_cons, List.length_cons]
    have h1 := fold_few ds (doneR rs d)
    have h2 : (doneR rs d).length ≤ rs.length + 1 := by
      cases d with
      | drop h => have := woHead_le rs h; show (woHead rs h).length ≤ _; omega
      | put h w => have := woHead_le rs h; show (woHead rs h ++ [(h, w)]).length ≤ _; rw [List.length_append]; simp only [List.length_cons, List.length_nil]; omega
    omega
theorem rdok_law08 {K vs H Q E} (h : sp_law08 K vs H Q E) : rd_law08 K { nx := fun _ H' => Q .non H', rt := Q } (start nm_law08 vs) H := by
  obtain ⟨a, ns, rfl, hs, _, lam, q⟩ := h
  simp only [rd_law08, nm_law08, L2.start]
  refine tSeq_gen fun U hU => ?_
  walk_at "rd"
  refine cell_app hs (by decide) ?_
  walk_at "rd"
  subst hU
  have hS0 : 1 ≤ 1 + cell ns 0 % 16 := by omega
  have hS1 : 1 + cell ns 0 % 16 ≤ 16 := by omega
  generalize 1 + cell ns 0 % 16 = S at hS0 hS1 ⊢
  refine tSeq_gen fun U hU => ?_
  walk_at "rd"
  refine cell_app hs (by decide) ?_
  walk_at "rd"
  refine ⟨a, ns, 3, _, S, 4, rfl, hs, by decide, by omega, by omega, by omega, by omega, by decide, by decide, fun l H1 xs hl s1 h1 r1 => ?_⟩
  have t1 := tableBy_ok (ns := ns) (start := 3) (size := S) (few := 4) (by omega) (by decide) (by decide) (cell ns 1 % 10).toNat
  generalize tableBy ns 3 S 4 (cell ns 1 % 10).toNat = rs at r1 t1
  have f1 := t1.few
  have hs1 := s1.seq hs
  have lam1 := lam.same s1
  subst hU
  refine tSeq_gen fun U hU => ?_
  walk_at "rd"
  refine cell_app hs1 (by decide) ?_
  walk_at "rd"
  refine ⟨a, ns, 13, _, S, 4, rfl, hs1, by decide, by omega, by omega, by omega, by omega, by decide, by decide, fun l' H2 zs hl' s2 h2 r2 => ?_⟩
  have t2 := tableBy_ok (ns := ns) (start := 13) (size := S) (few := 4) (by omega) (by decide) (by decide) (cell ns 1 / 10 % 10).toNat
  generalize tableBy ns 13 S 4 (cell ns 1 / 10 % 10).toNat = ts at r2 t2
  have f2 := t2.few
  have hs2 := s2.seq hs1
  have lam2 := lam1.same s2
  have M0 : Made l l' H2 xs zs rs ts := ⟨s2 _ _ h1, RowsAre.mono r1 s2.tp, h2, r2, t1.nd, t2.nd, by omega, by omega⟩
  subst hU
  refine tSeq_gen fun U1 hU1 => ?_
  have cont : ∀ l' H1 zs ts, Made l l' H1 xs zs rs ts → LamK K "by_heads" H1 → U1 { nx := fun x H' => Q V.non H', rt := Q } [some (V.ref a), some (V.int S), some (V.ref l), some (V.ref l'), none, none, none, none, none, none, none] H1 := by
    clear M0 hs2 lam2 lam1 lam t1 t2 f1 f2 r1 r2 h1 h2 s1 s2 hs hs1
    intro l' H1 zs ts M lam
    have fr := M.fr
    have ft := M.ft
    have lxs := Paired.length M.hr
    have lzs := Paired.length M.ht
    subst hU1
    refine tSeq_gen fun U hU => ?_
    walk_at "rd"
    refine ⟨l, l', xs, zs, rs, ts, rfl, M.ha, M.hb, M.hr, M.ht, by omega, by omega, fun ld H2 yd ss tt s2 nld hld so to jd => ?_⟩
    have M2 := M.grow (Grow.of s2)
    have lam2 := lam.same s2
    have lds := deeds_few so to
    have ltu := turned M.nr M.nt so to
    have lyd := Paired.length jd
    subst hU
    refine tSeq_gen fun U hU => ?_
    walk_at "rd"
    refine ⟨xs, .inl (SqL.of M2.ha), fun l3 hl3 => ?_⟩
    have s3 : Same H2 (upd H2 l3 (.lst xs)) := Same.upd hl3
    have h3 : upd H2 l3 (.lst xs) l3 = some (.lst xs) := upd_same
    have lam3 : LamK K "by_heads" (upd H2 l3 (.lst xs)) := lam2.upd (.inl hl3)
    generalize upd H2 l3 (.lst xs) = H3 at s3 h3 lam3 ⊢
    refine ⟨zs, .inl (SqL.of (s3 _ _ M2.hb)), fun l4 hl4 => ⟨by walk_at "sz", ?_⟩⟩
    have s4 : Same H3 (upd H3 l4 (.lst zs)) := Same.upd hl4
    have h4 : upd H3 l4 (.lst zs) l4 = some (.lst zs) := upd_same
    have lam4 : LamK K "by_heads" (upd H3 l4 (.lst zs)) := lam3.upd (.inl hl4)
    generalize upd H3 l4 (.lst zs) = H4 at s4 h4 lam4 ⊢
    intro lh hlh
    have s5 : Same H4 (upd H4 lh (.lst [.ref l3, .ref l4])) := Same.upd hlh
    have h5 : upd H4 lh (.lst [.ref l3, .ref l4]) lh = some (.lst [.ref l3, .ref l4]) := upd_same
    have lam5 : LamK K "by_heads" (upd H4 lh (.lst [.ref l3, .ref l4])) := lam4.upd (.inl hlh)
    generalize upd H4 lh (.lst [.ref l3, .ref l4]) = H5 at s5 h5 lam5 ⊢
    have s25 := s3.trans (s4.trans s5)
    have M5 := M2.grow (Grow.of s25)
    have h35 := s5 _ _ (s4 _ _ h3)
    have h45 := s5 _ _ h4
    have hd5 := s25 _ _ hld
    have jd5 := jd.mono s25.tp
    subst hU
    refine tSeq_gen fun U hU => ?_
    walk_at "rd"
    refine ⟨_, .inl (SqL.of h5), _, atI_nat (j := 0) rfl, ?_⟩
    refine ⟨_, .inl (SqL.of h5), _, atI_nat (j := 1) rfl, ?_⟩
    refine ⟨l3, l4, xs, zs, rs, ts, ss, tt, rfl, h35, h45, M5.hr, M5.ht, M5.nr, M5.nt, by omega, by omega, so, to, fun lf H6 yf s6 nlf hlf jf => ?_⟩
    have M6 := M5.grow (Grow.of s6)
    have lam6 := lam5.same s6
    have lyf := Paired.length jf
    subst hU
    refine tSeq_gen fun U hU => ?_
    walk_at "rd"
    refine ⟨by walk_at "sz", fun lp hlp => ?_⟩
    have s7 : Same H6 (upd H6 lp (.lst [.ref l, .ref l'])) := Same.upd hlp
    have h7 : upd H6 lp (.lst [.ref l, .ref l']) lp = some (.lst [.ref l, .ref l']) := upd_same
    generalize upd H6 lp (.lst [.ref l, .ref l']) = H7 at s7 h7 ⊢
    have M7 := M6.grow (Grow.of s7)
    have lam7 := lam6.same s7
    have s57 := s6.trans s7
    refine ⟨_, _, two_rep (s57 _ _ h5) (s57 _ _ h35) (s57 _ _ h45) M7.hr M7.ht, two_rep h7 M7.ha M7.hb M7.hr M7.ht, two_shaped rs ts, two_shaped rs ts, ?_⟩
    rw [two_eqv]
    walk_at "rd"
    refine ⟨_, s7 _ _ hlf, true, rfl, ?_⟩
    walk_at "rd"
    refine ⟨_, .inl (SqL.of (s7 _ _ hlf)), _, .inl (SqL.of (s57 _ _ hd5)), ?_⟩
    have ell : (yf.length : Int) = yd.length := by omega
    rw [ell]
    walk_at "rd"
    subst hU
    have hlf7 := s7 _ _ hlf
    have jf7 := jf.mono s7.tp
    have jd7 := jd5.mono s57.tp
    have hd7 := s57 _ _ hd5
    have h57 := s57 _ _ h5
    have h357 := s57 _ _ h35
    have h457 := s57 _ _ h45
    have nfl : lf ≠ l := fun e => by rw [e, M5.ha] at nlf; cases nlf
    have nfl' : lf ≠ l' := fun e => by rw [e, M5.hb] at nlf; cases nlf
    have nf3 : lf ≠ l3 := fun e => by rw [e, h35] at nlf; cases nlf
    have nf4 : lf ≠ l4 := fun e => by rw [e, h45] at nlf; cases nlf
    have nfh : lf ≠ lh := fun e => by rw [e, h5] at nlf; cases nlf
    have nfd : lf ≠ ld := fun e => by rw [e, hd5] at nlf; cases nlf
    clear M5 M6 lam5 lam6 s57 s7 s6 s5 s4 s3 s25 s2 h3 h4 h5 h35 h45 hd5 jd5 jd jf hlf h7 M2 lam2 lam3 lam4 lam M hld
    generalize hds : dropsOf ts ss ++ putsOf rs tt = ds at jf7 jd7 ltu lds lyd lyf
    refine tSeq_gen fun U hU => ?_
    walk_at "rd"
    refine ⟨xs, .inl (SqL.of M7.ha), fun l8 hl8 => ?_⟩
    have s8 : Same H7 (upd H7 l8 (.lst xs)) := Same.upd hl8
    have h8 : upd H7 l8 (.lst xs) l8 = some (.lst xs) := upd_same
    have lam8 : LamK K "by_heads" (upd H7 l8 (.lst xs)) := lam7.upd (.inl hl8)
    generalize upd H7 l8 (.lst xs) = H8 at s8 h8 lam8 ⊢
    subst hU
    refine tSeq_gen fun U hU => ?_
    refine tFor_rng1 yd.length (by omega) (fun k σ H' => Grow H7 H' ∧ LamK K "by_heads" H' ∧ ∃ lr yr R o1 o2 o3, σ = [some (V.ref a), some (V.int S), some (V.ref l), some (V.ref l'), some (V.ref ld), some (V.ref lh), some (V.ref lf), some (.ref lr), o1, o2, o3] ∧ H' lr = some (.lst yr) ∧ RowsAre H' yr R ∧ R.Perm ((ds.take k).foldl doneR rs)) ?_ ?_ ?_ ?_
    · intro R h; walk_at "rd"; exact ⟨yd, .inl (SqL.of (s8 _ _ hd7)), h⟩
    · exact ⟨Grow.of s8, lam8, l8, xs, rs, none, none, none, rfl, h8, RowsAre.mono M7.hr s8.tp, by simp⟩
    · rintro k σ H' hk ⟨g, lam', lr, yr, R, o1, o2, o3, rfl, hr, rr, pm⟩
      have hkd : k < ds.length := by omega
      obtain ⟨vf, hvf, df⟩ := Paired.get' k ds[k] jf7 (by simp [hkd])
      obtain ⟨vd, hvd, dd⟩ := Paired.get' k ds[k] jd7 (by simp [hkd])
      have hf' := g.lst hlf7
      have hd' := g.lst hd7
      have rl := pm.length_eq
      have rf := fold_few (ds.take k) rs
      rw [List.length_take] at rf
      have rlen := Paired.length rr
      have tk : (ds.take (k + 1)).foldl doneR rs = doneR ((ds.take k).foldl doneR rs) ds[k] := by
        rw [List.take_add_one, List.getElem?_eq_getElem hkd]
        rw [List.foldl_append]; rfl
      simp only [rb_law08_1, gName, List.set_cons_succ, List.set_cons_zero]
      refine tSeq_gen fun U hU => ?_
      walk_at "rd"
      refine ⟨_, .inl (SqL.of hf'), vf, atI_nat hvf, _, .inl (SqL.of hd'), vd, atI_nat hvd, ?_⟩
      refine ⟨vf, vd, ds[k], rfl, df.mono g.tp, dd.mono g.tp, fun H9 s9 => ?_⟩
      refine ⟨true, rfl, ?_⟩
      simp only [Bool.not_true, Bool.false_eq_true, if_false]
      subst hU
      refine tSeq_gen fun U hU => ?_
      walk_at "rd"
      refine ⟨yr, .inl (SqL.of (s9 _ _ hr)), fun la hla => ?_⟩
      have sa : Same H9 (upd H9 la (.lst yr)) := Same.upd hla
      have haa : upd H9 la (.lst yr) la = some (.lst yr) := upd_same
      generalize upd H9 la (.lst yr) = H10 at sa haa ⊢
      have s910 := s9.trans sa
      subst hU
      refine tSeq_gen fun U hU => ?_
      walk_at "rd"
      refine ⟨_, .inl (SqL.of (s910 _ _ hf')), vf, atI_nat hvf, ?_⟩
      refine ⟨lr, vf, yr, R, ds[k], rfl, s910 _ _ hr, RowsAre.mono rr s910.tp, by omega, (df.mono g.tp).mono s910.tp, lam'.same s910, fun H11 lm ym sm g11 lam11 nm hm rm som => ?_⟩
      subst hU
      refine tSeq_gen fun U hU => ?_
      have g111 := (Grow.of s910).trans g11
      walk_at "rd"
      refine ⟨_, _, tab_rep (g111.lst hr) (RowsAre.mono rr g111.tp), tab_rep (g11.lst haa) (RowsAre.mono rr g111.tp), tab_shaped R, tab_shaped R, ?_⟩
      rw [tab_eqv]
      walk_at "rd"
      subst hU
      walk_at "rd"
      refine ⟨g.trans g111, lam11, ym, hm, sm, rm, ?_⟩
      rw [tk]
      exact som.perm.trans (doneR_perm pm _)
    · rintro σ H' ⟨g, lam', lr, yr, R, o1, o2, o3, rfl, hr, rr, pm⟩
      subst hU
      dsimp only
      have etk : ds.take yd.length = ds := List.take_of_length_le (by omega)
      rw [etk] at pm
      have pts : R.Perm ts := pm.trans ltu
      have M' := M7.grow g
      have rlen := pts.length_eq
      have nR : (R.map (·.1)).Nodup := (pts.map _).nodup_iff.mpr M'.nt
      refine tSeq_gen fun U hU => ?_
      walk_at "rd"
      refine tSort_rows (fun p v ws H2 hp => ⟨p, v, ws, rfl, hp, rfl, rfl⟩) (fun R z => by walk_at "rd"; exact z) hr rr (by omega) (fun lu yu su hlu ru sou => ?_)
      have sA : Same H' (upd H' lu (.lst yu)) := Same.upd hlu
      have hA : upd H' lu (.lst yu) lu = some (.lst yu) := upd_same
      generalize upd H' lu (.lst yu) = HA at sA hA ⊢
      refine tSort_rows (fun p v ws H2 hp => ⟨p, v, ws, rfl, hp, rfl, rfl⟩) (fun R z => by walk_at "rd"; exact z) (sA _ _ M'.hb) (RowsAre.mono M'.ht sA.tp) (by omega) (fun lv yv sv hlv rv sov => ?_)
      have es : su = sv := SortR.unique sou sov pts nR
      subst es
      have sB : Same HA (upd HA lv (.lst yv)) := Same.upd hlv
      have hB : upd HA lv (.lst yv) lv = some (.lst yv) := upd_same
      generalize upd HA lv (.lst yv) = HB at sB hB ⊢
      have sAB := sA.trans sB
      refine ⟨lu, lv, yu, yv, su, rfl, sB _ _ hA, hB, RowsAre.mono ru sAB.tp, RowsAre.mono rv sB.tp, by have := sou.perm.length_eq; omega, ?_⟩
      refine ⟨true, rfl, ?_⟩
      simp only [Bool.not_true, Bool.false_eq_true, if_false]
      subst hU
      refine tSeq_gen fun U hU => ?_
      walk_at "rd"
      have gB := g.trans (Grow.of sAB)
      have hfB := gB.lst hlf7
      refine ⟨tyV_lst hfB, lf, yf, rfl, rfl, hfB, ?_⟩
      subst hU
      have keep : ∀ b xs, b ≠ lf → H7 b = some (.lst xs) → upd HB lf (.lst []) b = some (.lst xs) := fun b u n e => by rw [upd_ne n]; exact gB.lst e
      have tpC : Tp H7 (upd HB lf (.lst [])) := fun b u e => by
        have e2 := gB.tup e
        rw [upd_ne (fun z => by rw [z, hfB] at e2; cases e2)]; exact e2
      have MC : Made l l' (upd HB lf (.lst [])) xs zs rs ts := ⟨keep _ _ nfl.symm M7.ha, RowsAre.mono M7.hr tpC, keep _ _ nfl'.symm M7.hb, RowsAre.mono M7.ht tpC, M7.nr, M7.nt, M7.fr, M7.ft⟩
      have k5 := keep _ _ nfh.symm h57
      have k3 := keep _ _ nf3.symm h357
      have k4 := keep _ _ nf4.symm h457
      have kd := keep _ _ nfd.symm hd7
      generalize upd HB lf (.lst []) = HC at MC k5 k3 k4 kd ⊢
      walk_at "rd"
      refine ⟨_, .inl (SqL.of k5), _, atI_nat (j := 0) rfl, ?_⟩
      refine ⟨_, .inl (SqL.of k5), _, atI_nat (j := 1) rfl, ?_⟩
      refine ⟨l3, l4, xs, zs, rs, ts, ss, tt, rfl, k3, k4, MC.hr, MC.ht, MC.nr, MC.nt, by omega, by omega, so, to, fun lg HD yg sD nlg hlg jg => ?_⟩
      rw [hds] at jg
      have lyg := Paired.length jg
      refine ⟨yg, .inl (SqL.of hlg), yd, .inl (SqL.of (sD _ _ kd)), ?_⟩
      have ell2 : (yg.length : Int) = yd.length := by omega
      rw [ell2]
      walk_at "rd"
      refine ⟨by walk_at "sz", fun lq hlq => ?_⟩
      have sE : Same HD (upd HD lq (.lst [.ref l, .ref l'])) := Same.upd hlq
      have hE : upd HD lq (.lst [.ref l, .ref l']) lq = some (.lst [.ref l, .ref l']) := upd_same
      generalize upd HD lq (.lst [.ref l, .ref l']) = HE at sE hE ⊢
      have sDE := sD.trans sE
      have ME := MC.grow (Grow.of sDE)
      refine ⟨_, _, two_rep (sDE _ _ k5) (sDE _ _ k3) (sDE _ _ k4) ME.hr ME.ht, two_rep hE ME.ha ME.hb ME.hr ME.ht, two_shaped rs ts, two_shaped rs ts, ?_⟩
      rw [two_eqv]
      exact q _
  walk_at "rd"
  refine cell_app hs2 (by decide) ?_
  walk_at "rd"
  split
  · refine cell_app hs2 (by decide) ?_
    walk_at "rd"
    refine ⟨l, l', xs, zs, rs, ts, _, S, rfl, M0.ha, M0.hb, M0.hr, M0.ht, t1.len, t2.len, t2.nd, by omega, by omega, fun l2 H3 ys us n3 s3 h3 r3 m => ?_⟩
    have mf := m.few
    exact cont l2 H3 ys us ⟨s3 _ _ M0.ha, RowsAre.mono M0.hr s3.tp, h3, r3, M0.nr, m.nd, M0.fr, by omega⟩ (lam2.same s3)
  · exact cont l' H2 zs ts M0 lam2
def top (i : Nat) : Stmt := PySem.Challenge.pw_headroad_k08_turned_into_another.main.body.getD i (.Pass ⟨0, 0, 0, 0⟩)
abbrev s_by_heads : Stmt := top 1
theorem sc_by_heads : FnScope ["rows"] ["rows"] (defScope s_by_heads) := ⟨rfl, rfl, rfl, by decide +kernel, rfl, by decide +kernel, by decide +kernel⟩
abbrev s_deeds : Stmt := top 2
theorem sc_deeds : FnScope ["ones", "others", "had", "wanted", "drops", "puts"] ["ones", "others"] (defScope s_deeds) := ⟨rfl, rfl, rfl, by decide +kernel, rfl, by decide +kernel, by decide +kernel⟩
abbrev s_done : Stmt := top 3
theorem sc_done : FnScope ["rows", "deed", "head", "table"] ["rows", "deed"] (defScope s_done) := ⟨rfl, rfl, rfl, by decide +kernel, rfl, by decide +kernel, by decide +kernel⟩
abbrev s__law_cell_at : Stmt := top 5
theorem sc__law_cell_at : FnScope ["script", "k"] ["script", "k"] (defScope s__law_cell_at) := ⟨rfl, rfl, rfl, by decide +kernel, rfl, by decide +kernel, by decide +kernel⟩
abbrev s__law_whole : Stmt := top 6
theorem sc__law_whole : FnScope ["found"] ["found"] (defScope s__law_whole) := ⟨rfl, rfl, rfl, by decide +kernel, rfl, by decide +kernel, by decide +kernel⟩
abbrev s__law_bits_by : Stmt := top 7
theorem sc__law_bits_by : FnScope ["cell", "size", "text", "k"] ["cell", "size"] (defScope s__law_bits_by) := ⟨rfl, rfl, rfl, by decide +kernel, rfl, by decide +kernel, by decide +kernel⟩
abbrev s__law_way_by : Stmt := top 8
theorem sc__law_way_by : FnScope ["cell", "few"] ["cell", "few"] (defScope s__law_way_by) := ⟨rfl, rfl, rfl, by decide +kernel, rfl, by decide +kernel, by decide +kernel⟩
abbrev s__law_table_by : Stmt := top 9
theorem sc__law_table_by : FnScope ["script", "start", "count", "size", "few", "rows", "k", "cell", "head"] ["script", "start", "count", "size", "few"] (defScope s__law_table_by) := ⟨rfl, rfl, rfl, by decide +kernel, rfl, by decide +kernel, by decide +kernel⟩
abbrev s__law_way_is : Stmt := top 10
theorem sc__law_way_is : FnScope ["found", "due"] ["found", "due"] (defScope s__law_way_is) := ⟨rfl, rfl, rfl, by decide +kernel, rfl, by decide +kernel, by decide +kernel⟩
abbrev s__law_same_rows : Stmt := top 11
theorem sc__law_same_rows : FnScope ["found", "due", "k"] ["found", "due"] (defScope s__law_same_rows) := ⟨rfl, rfl, rfl, by decide +kernel, rfl, by decide +kernel, by decide +kernel⟩
abbrev s__law_mixed : Stmt := top 12
theorem sc__law_mixed : FnScope ["own", "ones", "cell", "rows", "k", "row"] ["own", "ones", "cell"] (defScope s__law_mixed) := ⟨rfl, rfl, rfl, by decide +kernel, rfl, by decide +kernel, by decide +kernel⟩
abbrev s__law_due : Stmt := top 13
theorem sc__law_due : FnScope ["ones", "others", "heads", "due"] ["ones", "others"] (defScope s__law_due) := ⟨rfl, rfl, rfl, by decide +kernel, rfl, by decide +kernel, by decide +kernel⟩
abbrev s__law_head : Stmt := top 14
theorem sc__law_head : FnScope ["row"] ["row"] (defScope s__law_head) := ⟨rfl, rfl, rfl, by decide +kernel, rfl, by decide +kernel, by decide +kernel⟩
abbrev s__law_same_deed : Stmt := top 15
theorem sc__law_same_deed : FnScope ["found", "due"] ["found", "due"] (defScope s__law_same_deed) := ⟨rfl, rfl, rfl, by decide +kernel, rfl, by decide +kernel, by decide +kernel⟩
abbrev s_law : Stmt := top 16
theorem sc_law : FnScope ["script", "size", "ones", "others", "due", "handed", "found", "rows", "k", "ahead", "made"] ["script"] (defScope s_law) := ⟨rfl, rfl, rfl, by decide +kernel, rfl, by decide +kernel, by decide +kernel⟩
structure Txt (K : PySem.W.Frag) (mg : Str → Option Value) : Prop where
  b_bool : mg "bool" = none
  b_dict : mg "dict" = none
  b_int : mg "int" = none
  b_isinstance : mg "isinstance" = none
  b_len : mg "len" = none
  b_list : mg "list" = none
  b_range : mg "range" = none
  b_sorted : mg "sorted" = none
  b_str : mg "str" = none
  b_tuple : mg "tuple" = none
  p_by_heads : lamPos K "by_heads" = lamPosB (defBody s_by_heads)
seal L2.PS L2.PE L2.PA L2.PSs L2.PT in
theorem tm_deeds {P : Program} {w : World} {K : PySem.W.Frag} {mg : Str → Option Value} {base : Heap} {f : Addr} {cdv : Value} {A : Around} {outer : List Env} {s : Shared} {H : Hp} {E : XK} (T : Txt K mg)  (hr : Room 0 (A.deeper (PyProof.Rows.envOfC "deeds" (defScope s_deeds) s.heap.objs.size f cdv))) :
    PSs (cxOf CX0 P w K mg base ["ones", "others", "had", "wanted", "drops", "puts"] "deeds" (defScope s_deeds) f cdv A outer s H E).nox (defBody s_deeds) (rd_deeds K) :=
  (pss_cons (ps_set (i := 2) sc_deeds.nd rfl (Or.inr rfl) (pe_callTy (call_dictOf hr.hd) rfl T.b_dict bt_dict (pa_cons (pv 0) pa_nil)))
      (pss_cons (ps_set (i := 3) sc_deeds.nd rfl (Or.inr rfl) (pe_callTy (call_dictOf hr.hd) rfl T.b_dict bt_dict (pa_cons (pv 1) pa_nil)))
      (pss_cons (ps_setComp (i := 4) sc_deeds.nd rfl (Or.inl rfl) (CompSc.cap (js := [(3, "wanted")]) (fs := defScope s_deeds) rfl rfl rfl rfl (by decide +kernel) (by decide +kernel) rfl (by decide) rfl rfl) (pi_list (pe_callB (call_sortedD hr.hd) rfl T.b_sorted bt_sorted (pa_cons (pv 2) pa_nil))) (fun _ _ _ _ => (pe_tup (pa_cons pe_str (pa_cons (pv 0) pa_nil)))) (fun _ _ _ _ => (.one (pt_cmpR (op_notInK (hu_of hr)) (pv 0) (pv 1) (by with_unfolding_all rfl)))))
      (pss_cons (ps_setComp (i := 5) sc_deeds.nd rfl (Or.inl rfl) (CompSc.cap (js := [(3, "wanted"), (2, "had")]) (fs := defScope s_deeds) rfl rfl rfl rfl (by decide +kernel) (by decide +kernel) rfl (by decide) rfl rfl) (pi_list (pe_callB (call_sortedD hr.hd) rfl T.b_sorted bt_sorted (pa_cons (pv 3) pa_nil))) (fun _ _ _ _ => (pe_tup (pa_cons pe_str (pa_cons (pv 0) (pa_cons (pe_dget (hu_of hr) (pv 1) (pv 0) (fun _ _ => rfl)) pa_nil))))) (fun _ _ _ _ => (.one (PW.pt (pw_or (pt_cmpR (op_notInK (hu_of hr)) (pv 0) (pv 2) (by with_unfolding_all rfl)) (pw_or1 (pt_cmpR op_neB (pe_dget (hu_of hr) (pv 2) (pv 0) (fun _ _ => rfl)) (pe_dget (hu_of hr) (pv 1) (pv 0) (fun _ _ => rfl)) (nomark _))))))))
      (pss_one (ps_ret (pe_op op_addB (pv 4) (pv 5))))))))
seal L2.PS L2.PE L2.PA L2.PSs L2.PT in
theorem ok_deeds {P : Program} {w : World} {K : PySem.W.Frag} {mg : Str → Option Value} {base : Heap} {f : Addr} {fd : FuncData} (F : Fun K "deeds" "deeds" s_deeds f fd) (T : Txt K mg)  : FnOk P w K mg base CX0 1 f fd ["ones", "others"] (sp_deeds K) :=
  F.ok sc_deeds (k := 0) (fun vs H Q E h => len_deeds h) (fun cdv A outer s H vs Q E hr h => ⟨_, tm_deeds T  hr, rdok_deeds h⟩)

seal L2.PS L2.PE L2.PA L2.PSs L2.PT in
theorem tm__law_cell_at {P : Program} {w : World} {K : PySem.W.Frag} {mg : Str → Option Value} {base : Heap} {f : Addr} {cdv : Value} {A : Around} {outer : List Env} {s : Shared} {H : Hp} {E : XK} (T : Txt K mg)  (hr : Room 0 (A.deeper (PyProof.Rows.envOfC "_law_cell_at" (defScope s__law_cell_at) s.heap.objs.size f cdv))) :
    PSs (cxOf CX0 P w K mg base ["script", "k"] "_law_cell_at" (defScope s__law_cell_at) f cdv A outer s H E).nox (defBody s__law_cell_at) (rd_law_cell_at K) :=
  (pss_cons (ps_if (pt_cmpR op_ltB (pv 1) (pe_callB call_lenB rfl T.b_len bt_len (pa_cons (pv 0) pa_nil)) (nomark _)) (pss_one (ps_ret (pe_ix ix_B (pv 0) (pv 1) (fun _ _ => rfl)))) pss_nil)
      (pss_one (ps_ret pe_int)))
seal L2.PS L2.PE L2.PA L2.PSs L2.PT in
theorem ok__law_cell_at {P : Program} {w : World} {K : PySem.W.Frag} {mg : Str → Option Value} {base : Heap} {f : Addr} {fd : FuncData} (F : Fun K "_law_cell_at" "_law_cell_at" s__law_cell_at f fd) (T : Txt K mg)  : FnOk P w K mg base CX0 1 f fd ["script", "k"] (sp_law_cell_at K) :=
  F.ok sc__law_cell_at (k := 0) (fun vs H Q E h => len_law_cell_at h) (fun cdv A outer s H vs Q E hr h => ⟨_, tm__law_cell_at T  hr, rdok_law_cell_at h⟩)

seal L2.PS L2.PE L2.PA L2.PSs L2.PT in
theorem tm__law_whole {P : Program} {w : World} {K : PySem.W.Frag} {mg : Str → Option Value} {base : Heap} {f : Addr} {cdv : Value} {A : Around} {outer : List Env} {s : Shared} {H : Hp} {E : XK} (T : Txt K mg)  (hr : Room 0 (A.deeper (PyProof.Rows.envOfC "_law_whole" (defScope s__law_whole) s.heap.objs.size f cdv))) :
    PSs (cxOf CX0 P w K mg base ["found"] "_law_whole" (defScope s__law_whole) f cdv A outer s H E).nox (defBody s__law_whole) (rd_law_whole K) :=
  (pss_one (ps_ret (pe_and (pe_callB call_isiB rfl T.b_isinstance bt_isinstance (pa_cons (pv 0) (pa_cons (pe_bltn rfl T.b_int bt_int rfl) pa_nil))) (pe_one (pe_not (pe_callB call_isiB rfl T.b_isinstance bt_isinstance (pa_cons (pv 0) (pa_cons (pe_bltn rfl T.b_bool bt_bool rfl) pa_nil))))))))
seal L2.PS L2.PE L2.PA L2.PSs L2.PT in
theorem ok__law_whole {P : Program} {w : World} {K : PySem.W.Frag} {mg : Str → Option Value} {base : Heap} {f : Addr} {fd : FuncData} (F : Fun K "_law_whole" "_law_whole" s__law_whole f fd) (T : Txt K mg)  : FnOk P w K mg base CX0 1 f fd ["found"] (sp_law_whole K) :=
  F.ok sc__law_whole (k := 0) (fun vs H Q E h => len_law_whole h) (fun cdv A outer s H vs Q E hr h => ⟨_, tm__law_whole T  hr, rdok_law_whole h⟩)

seal L2.PS L2.PE L2.PA L2.PSs L2.PT in
theorem tm__law_bits_by {P : Program} {w : World} {K : PySem.W.Frag} {mg : Str → Option Value} {base : Heap} {f : Addr} {cdv : Value} {A : Around} {outer : List Env} {s : Shared} {H : Hp} {E : XK} (T : Txt K mg)  (hr : Room 0 (A.deeper (PyProof.Rows.envOfC "_law_bits_by" (defScope s__law_bits_by) s.heap.objs.size f cdv))) :
    PSs (cxOf CX0 P w K mg base ["cell", "size", "text", "k"] "_law_bits_by" (defScope s__law_bits_by) f cdv A outer s H E).nox (defBody s__law_bits_by) (rd_law_bits_by K) :=
  (pss_cons (ps_set (i := 2) sc__law_bits_by.nd rfl (Or.inl rfl) pe_str)
      (pss_cons (ps_for PassesOwn.never rfl (pi_range1 rfl T.b_range (pa_cons (pv 1) pa_nil)) (pg_name (i := 3) sc__law_bits_by.nd rfl (Or.inl rfl))
      (pss_cons (ps_set (i := 2) sc__law_bits_by.nd rfl (Or.inl rfl) (pe_op op_addB (pv 2) (pe_ix ix_B pe_str (pe_op op_modB (pv 0) pe_int) (fun _ _ => rfl))))
      (pss_one (ps_set (i := 0) sc__law_bits_by.nd rfl (Or.inl rfl) (pe_op op_divB (pv 0) pe_int)))))
      (pss_one (ps_ret (pv 2)))))
seal L2.PS L2.PE L2.PA L2.PSs L2.PT in
theorem ok__law_bits_by {P : Program} {w : World} {K : PySem.W.Frag} {mg : Str → Option Value} {base : Heap} {f : Addr} {fd : FuncData} (F : Fun K "_law_bits_by" "_law_bits_by" s__law_bits_by f fd) (T : Txt K mg)  : FnOk P w K mg base CX0 1 f fd ["cell", "size"] (sp_law_bits_by K) :=
  F.ok sc__law_bits_by (k := 0) (fun vs H Q E h => len_law_bits_by h) (fun cdv A outer s H vs Q E hr h => ⟨_, tm__law_bits_by T  hr, rdok_law_bits_by h⟩)

seal L2.PS L2.PE L2.PA L2.PSs L2.PT in
theorem tm__law_way_by {P : Program} {w : World} {K : PySem.W.Frag} {mg : Str → Option Value} {base : Heap} {f : Addr} {cdv : Value} {A : Around} {outer : List Env} {s : Shared} {H : Hp} {E : XK} (T : Txt K mg)  (hr : Room 0 (A.deeper (PyProof.Rows.envOfC "_law_way_by" (defScope s__law_way_by) s.heap.objs.size f cdv))) :
    PSs (cxOf CX0 P w K mg base ["cell", "few"] "_law_way_by" (defScope s__law_way_by) f cdv A outer s H E).nox (defBody s__law_way_by) (rd_law_way_by K) :=
  (pss_cons (ps_if (pt_cmpR op_eqB (pe_op op_modB (pv 0) pe_int) pe_int (nomark _)) (pss_one (ps_ret pe_non)) pss_nil)
      (pss_cons (ps_if (pt_cmpR op_eqB (pe_op op_modB (pe_op op_divB (pv 0) pe_int) pe_int) pe_int (nomark _)) (pss_one (ps_ret (pe_op op_modB (pe_op op_divB (pv 0) pe_int) pe_int))) pss_nil)
      (pss_one (ps_ret (pe_op op_modB (pe_op op_divB (pv 0) pe_int) (pv 1))))))
seal L2.PS L2.PE L2.PA L2.PSs L2.PT in
theorem ok__law_way_by {P : Program} {w : World} {K : PySem.W.Frag} {mg : Str → Option Value} {base : Heap} {f : Addr} {fd : FuncData} (F : Fun K "_law_way_by" "_law_way_by" s__law_way_by f fd) (T : Txt K mg)  : FnOk P w K mg base CX0 1 f fd ["cell", "few"] (sp_law_way_by K) :=
  F.ok sc__law_way_by (k := 0) (fun vs H Q E h => len_law_way_by h) (fun cdv A outer s H vs Q E hr h => ⟨_, tm__law_way_by T  hr, rdok_law_way_by h⟩)

seal L2.PS L2.PE L2.PA L2.PSs L2.PT in
theorem tm__law_mixed {P : Program} {w : World} {K : PySem.W.Frag} {mg : Str → Option Value} {base : Heap} {f : Addr} {cdv : Value} {A : Around} {outer : List Env} {s : Shared} {H : Hp} {E : XK} (T : Txt K mg)  (hr : Room 0 (A.deeper (PyProof.Rows.envOfC "_law_mixed" (defScope s__law_mixed) s.heap.objs.size f cdv))) :
    PSs (cxOf CX0 P w K mg base ["own", "ones", "cell", "rows", "k", "row"] "_law_mixed" (defScope s__law_mixed) f cdv A outer s H E).nox (defBody s__law_mixed) (rd_law_mixed K) :=
  (pss_cons (ps_set (i := 3) sc__law_mixed.nd rfl (Or.inl rfl) (pe_callTy call_listB rfl T.b_list bt_list (pa_cons (pv 0) pa_nil)))
      (pss_cons (ps_for PassesOwn.never rfl (pi_range1 rfl T.b_range (pa_cons (pe_callB call_lenB rfl T.b_len bt_len (pa_cons (pv 1) pa_nil)) pa_nil)) (pg_name (i := 4) sc__law_mixed.nd rfl (Or.inl rfl))
      (pss_cons (ps_set (i := 5) sc__law_mixed.nd rfl (Or.inl rfl) (pe_ix ix_B (pv 1) (pv 4) (fun _ _ => rfl)))
      (pss_cons (ps_if (PW.pt (pw_and (pt_cmpR op_eqB (pe_op op_modB (pv 2) pe_int) pe_int (nomark _)) (pw_and1 (pt_cmpR op_notIn_seq (pe_ix ix_B (pv 5) pe_int (fun _ _ => rfl)) (pe_comp (CompSc.plain (by decide +kernel) rfl (by decide +kernel) rfl) (pi_list (pv 3)) (fun _ _ _ _ => (pe_ix ix_B (pv 0) pe_int (fun _ _ => rfl))) (fun _ _ _ _ => .nil)) (by with_unfolding_all rfl))))) (pss_one (ps_expr (pe_bm PySem.F.plainAttrs_list PySem.F.slot_list_append PySem.F.type_list_append mt_append (pv 3) (pa_cons (pe_tup (pa_cons (pe_ix ix_B (pv 5) pe_int (fun _ _ => rfl)) (pa_cons (pe_ifExp (pt_cmpR op_gtB (pe_op op_modB (pe_op op_divB (pv 2) pe_int) pe_int) pe_int (nomark _)) (pe_ix ix_B (pv 5) pe_int (fun _ _ => rfl)) pe_int) pa_nil))) pa_nil)))) pss_nil)
      (pss_one (ps_set (i := 2) sc__law_mixed.nd rfl (Or.inl rfl) (pe_op op_divB (pv 2) pe_int))))))
      (pss_one (ps_ret (pv 3)))))
seal L2.PS L2.PE L2.PA L2.PSs L2.PT in
theorem ok__law_mixed {P : Program} {w : World} {K : PySem.W.Frag} {mg : Str → Option Value} {base : Heap} {f : Addr} {fd : FuncData} (F : Fun K "_law_mixed" "_law_mixed" s__law_mixed f fd) (T : Txt K mg)  : FnOk P w K mg base CX0 1 f fd ["own", "ones", "cell"] (sp_law_mixed K) :=
  F.ok sc__law_mixed (k := 0) (fun vs H Q E h => len_law_mixed h) (fun cdv A outer s H vs Q E hr h => ⟨_, tm__law_mixed T  hr, rdok_law_mixed h⟩)

seal L2.PS L2.PE L2.PA L2.PSs L2.PT in
theorem tm__law_head {P : Program} {w : World} {K : PySem.W.Frag} {mg : Str → Option Value} {base : Heap} {f : Addr} {cdv : Value} {A : Around} {outer : List Env} {s : Shared} {H : Hp} {E : XK} (T : Txt K mg)  (hr : Room 0 (A.deeper (PyProof.Rows.envOfC "_law_head" (defScope s__law_head) s.heap.objs.size f cdv))) :
    PSs (cxOf CX0 P w K mg base ["row"] "_law_head" (defScope s__law_head) f cdv A outer s H E).nox (defBody s__law_head) (rd_law_head K) :=
  (pss_one (ps_ret (pe_ix ix_B (pv 0) pe_int (fun _ _ => rfl))))
seal L2.PS L2.PE L2.PA L2.PSs L2.PT in
theorem ok__law_head {P : Program} {w : World} {K : PySem.W.Frag} {mg : Str → Option Value} {base : Heap} {f : Addr} {fd : FuncData} (F : Fun K "_law_head" "_law_head" s__law_head f fd) (T : Txt K mg)  : FnOk P w K mg base CX0 1 f fd ["row"] (sp_law_head K) :=
  F.ok sc__law_head (k := 0) (fun vs H Q E h => len_law_head h) (fun cdv A outer s H vs Q E hr h => ⟨_, tm__law_head T  hr, rdok_law_head h⟩)

seal L2.PS L2.PE L2.PA L2.PSs L2.PT in
theorem tm__law_table_by {P : Program} {w : World} {K : PySem.W.Frag} {mg : Str → Option Value} {base : Heap} {f : Addr} {cdv : Value} {A : Around} {outer : List Env} {s : Shared} {H : Hp} {E : XK} (T : Txt K mg) (O__law_bits_by : Own P w K mg base 1 "_law_bits_by" ["cell", "size"] (sp_law_bits_by K)) (O__law_cell_at : Own P w K mg base 1 "_law_cell_at" ["script", "k"] (sp_law_cell_at K)) (O__law_way_by : Own P w K mg base 1 "_law_way_by" ["cell", "few"] (sp_law_way_by K)) (hr : Room 1 (A.deeper (PyProof.Rows.envOfC "_law_table_by" (defScope s__law_table_by) s.heap.objs.size f cdv))) :
    PSs (cxOf CX0 P w K mg base ["script", "start", "count", "size", "few", "rows", "k", "cell", "head"] "_law_table_by" (defScope s__law_table_by) f cdv A outer s H E).nox (defBody s__law_table_by) (rd_law_table_by K) :=
  (pss_cons (ps_set (i := 5) sc__law_table_by.nd rfl (Or.inl rfl) (pe_lst pa_nil))
      (pss_cons (ps_for PassesOwn.never rfl (pi_range1 rfl T.b_range (pa_cons (pv 2) pa_nil)) (pg_name (i := 6) sc__law_table_by.nd rfl (Or.inl rfl))
      (pss_cons (ps_set (i := 7) sc__law_table_by.nd rfl (Or.inl rfl) (pe_own O__law_cell_at (hr.mono (by decide)) (pa_cons (pv 0) (pa_cons (pe_op op_addB (pv 1) (pv 6)) pa_nil))))
      (pss_cons (ps_set (i := 8) sc__law_table_by.nd rfl (Or.inl rfl) (pe_own O__law_bits_by (hr.mono (by decide)) (pa_cons (pe_op op_divB (pv 7) (pe_op op_addB (pv 3) pe_int)) (pa_cons (pe_op op_modB (pv 7) (pe_op op_addB (pv 3) pe_int)) pa_nil))))
      (pss_one (ps_if (pt_cmpR op_notIn_seq (pv 8) (pe_comp (CompSc.plain (by decide +kernel) rfl (by decide +kernel) rfl) (pi_list (pv 5)) (fun _ _ _ _ => (pe_ix ix_B (pv 0) pe_int (fun _ _ => rfl))) (fun _ _ _ _ => .nil)) (by with_unfolding_all rfl)) (pss_one (ps_expr (pe_bm PySem.F.plainAttrs_list PySem.F.slot_list_append PySem.F.type_list_append mt_append (pv 5) (pa_cons (pe_tup (pa_cons (pv 8) (pa_cons (pe_own O__law_way_by (hr.mono (by decide)) (pa_cons (pe_op op_modB (pe_op op_addB (pe_op op_mulB (pv 7) pe_int) pe_int) pe_int) (pa_cons (pv 4) pa_nil))) pa_nil))) pa_nil)))) pss_nil)))))
      (pss_one (ps_ret (pv 5)))))
seal L2.PS L2.PE L2.PA L2.PSs L2.PT in
theorem ok__law_table_by {P : Program} {w : World} {K : PySem.W.Frag} {mg : Str → Option Value} {base : Heap} {f : Addr} {fd : FuncData} (F : Fun K "_law_table_by" "_law_table_by" s__law_table_by f fd) (T : Txt K mg) (O__law_bits_by : Own P w K mg base 1 "_law_bits_by" ["cell", "size"] (sp_law_bits_by K)) (O__law_cell_at : Own P w K mg base 1 "_law_cell_at" ["script", "k"] (sp_law_cell_at K)) (O__law_way_by : Own P w K mg base 1 "_law_way_by" ["cell", "few"] (sp_law_way_by K)) : FnOk P w K mg base CX0 2 f fd ["script", "start", "count", "size", "few"] (sp_law_table_by K) :=
  F.ok sc__law_table_by (k := 1) (fun vs H Q E h => len_law_table_by h) (fun cdv A outer s H vs Q E hr h => ⟨_, tm__law_table_by T O__law_bits_by O__law_cell_at O__law_way_by hr, rdok_law_table_by h⟩)

seal L2.PS L2.PE L2.PA L2.PSs L2.PT in
theorem tm__law_way_is {P : Program} {w : World} {K : PySem.W.Frag} {mg : Str → Option Value} {base : Heap} {f : Addr} {cdv : Value} {A : Around} {outer : List Env} {s : Shared} {H : Hp} {E : XK} (T : Txt K mg) (O__law_whole : Own P w K mg base 1 "_law_whole" ["found"] (sp_law_whole K)) (hr : Room 1 (A.deeper (PyProof.Rows.envOfC "_law_way_is" (defScope s__law_way_is) s.heap.objs.size f cdv))) :
    PSs (cxOf CX0 P w K mg base ["found", "due"] "_law_way_is" (defScope s__law_way_is) f cdv A outer s H E).nox (defBody s__law_way_is) (rd_law_way_is K) :=
  (pss_cons (ps_if (pt_cmpR op_isNB (pv 1) pe_non (nomark _)) (pss_one (ps_ret (pe_cmpR op_isNB (pv 0) pe_non (nomark _)))) pss_nil)
      (pss_one (ps_ret (pe_and (pe_own O__law_whole (hr.mono (by decide)) (pa_cons (pv 0) pa_nil)) (pe_one (pe_cmpR op_eqB (pv 0) (pv 1) (nomark _)))))))
seal L2.PS L2.PE L2.PA L2.PSs L2.PT in
theorem ok__law_way_is {P : Program} {w : World} {K : PySem.W.Frag} {mg : Str → Option Value} {base : Heap} {f : Addr} {fd : FuncData} (F : Fun K "_law_way_is" "_law_way_is" s__law_way_is f fd) (T : Txt K mg) (O__law_whole : Own P w K mg base 1 "_law_whole" ["found"] (sp_law_whole K)) : FnOk P w K mg base CX0 2 f fd ["found", "due"] (sp_law_way_is K) :=
  F.ok sc__law_way_is (k := 1) (fun vs H Q E h => len_law_way_is h) (fun cdv A outer s H vs Q E hr h => ⟨_, tm__law_way_is T O__law_whole hr, rdok_law_way_is h⟩)

seal L2.PS L2.PE L2.PA L2.PSs L2.PT in
theorem tm__law_same_rows {P : Program} {w : World} {K : PySem.W.Frag} {mg : Str → Option Value} {base : Heap} {f : Addr} {cdv : Value} {A : Around} {outer : List Env} {s : Shared} {H : Hp} {E : XK} (T : Txt K mg) (O__law_way_is : Own P w K mg base 2 "_law_way_is" ["found", "due"] (sp_law_way_is K)) (hr : Room 2 (A.deeper (PyProof.Rows.envOfC "_law_same_rows" (defScope s__law_same_rows) s.heap.objs.size f cdv))) :
    PSs (cxOf CX0 P w K mg base ["found", "due", "k"] "_law_same_rows" (defScope s__law_same_rows) f cdv A outer s H E).nox (defBody s__law_same_rows) (rd_law_same_rows K) :=
  (pss_cons (ps_if (PW.pt (pw_or (pt_not (pt_val (pe_callB call_isiB rfl T.b_isinstance bt_isinstance (pa_cons (pv 0) (pa_cons (pe_bltn rfl T.b_list bt_list rfl) pa_nil))))) (pw_or1 (pt_cmpR op_neB (pe_callB call_lenB rfl T.b_len bt_len (pa_cons (pv 0) pa_nil)) (pe_callB call_lenB rfl T.b_len bt_len (pa_cons (pv 1) pa_nil)) (nomark _))))) (pss_one (ps_ret pe_bl)) pss_nil)
      (pss_cons (ps_for PassesOwn.never rfl (pi_range1 rfl T.b_range (pa_cons (pe_callB call_lenB rfl T.b_len bt_len (pa_cons (pv 1) pa_nil)) pa_nil)) (pg_name (i := 2) sc__law_same_rows.nd rfl (Or.inl rfl))
      (pss_cons (ps_if (PW.pt (pw_or (pt_not (pt_val (pe_callB call_isiB rfl T.b_isinstance bt_isinstance (pa_cons (pe_ix ix_B (pv 0) (pv 2) (fun _ _ => rfl)) (pa_cons (pe_bltn rfl T.b_tuple bt_tuple rfl) pa_nil))))) (pw_or (pt_cmpR op_neB (pe_callB call_lenB rfl T.b_len bt_len (pa_cons (pe_ix ix_B (pv 0) (pv 2) (fun _ _ => rfl)) pa_nil)) pe_int (nomark _)) (pw_or1 (pt_not (pt_val (pe_callB call_isiB rfl T.b_isinstance bt_isinstance (pa_cons (pe_ix ix_B (pe_ix ix_B (pv 0) (pv 2) (fun _ _ => rfl)) pe_int (fun _ _ => rfl)) (pa_cons (pe_bltn rfl T.b_str bt_str rfl) pa_nil))))))))) (pss_one (ps_ret pe_bl)) pss_nil)
      (pss_one (ps_if (PW.pt (pw_or (pt_cmpR op_neB (pe_ix ix_B (pe_ix ix_B (pv 0) (pv 2) (fun _ _ => rfl)) pe_int (fun _ _ => rfl)) (pe_ix ix_B (pe_ix ix_B (pv 1) (pv 2) (fun _ _ => rfl)) pe_int (fun _ _ => rfl)) (nomark _)) (pw_or1 (pt_not (pt_val (pe_own O__law_way_is (hr.mono (by decide)) (pa_cons (pe_ix ix_B (pe_ix ix_B (pv 0) (pv 2) (fun _ _ => rfl)) pe_int (fun _ _ => rfl)) (pa_cons (pe_ix ix_B (pe_ix ix_B (pv 1) (pv 2) (fun _ _ => rfl)) pe_int (fun _ _ => rfl)) pa_nil)))))))) (pss_one (ps_ret pe_bl)) pss_nil))))
      (pss_one (ps_ret pe_bl))))
seal L2.PS L2.PE L2.PA L2.PSs L2.PT in
theorem ok__law_same_rows {P : Program} {w : World} {K : PySem.W.Frag} {mg : Str → Option Value} {base : Heap} {f : Addr} {fd : FuncData} (F : Fun K "_law_same_rows" "_law_same_rows" s__law_same_rows f fd) (T : Txt K mg) (O__law_way_is : Own P w K mg base 2 "_law_way_is" ["found", "due"] (sp_law_way_is K)) : FnOk P w K mg base CX0 3 f fd ["found", "due"] (sp_law_same_rows K) :=
  F.ok sc__law_same_rows (k := 2) (fun vs H Q E h => len_law_same_rows h) (fun cdv A outer s H vs Q E hr h => ⟨_, tm__law_same_rows T O__law_way_is hr, rdok_law_same_rows h⟩)

seal L2.PS L2.PE L2.PA L2.PSs L2.PT in
theorem tm__law_same_deed {P : Program} {w : World} {K : PySem.W.Frag} {mg : Str → Option Value} {base : Heap} {f : Addr} {cdv : Value} {A : Around} {outer : List Env} {s : Shared} {H : Hp} {E : XK} (T : Txt K mg) (O__law_way_is : Own P w K mg base 2 "_law_way_is" ["found", "due"] (sp_law_way_is K)) (hr : Room 2 (A.deeper (PyProof.Rows.envOfC "_law_same_deed" (defScope s__law_same_deed) s.heap.objs.size f cdv))) :
    PSs (cxOf CX0 P w K mg base ["found", "due"] "_law_same_deed" (defScope s__law_same_deed) f cdv A outer s H E).nox (defBody s__law_same_deed) (rd_law_same_deed K) :=
  (pss_cons (ps_if (PW.pt (pw_or (pt_not (pt_val (pe_callB call_isiB rfl T.b_isinstance bt_isinstance (pa_cons (pv 0) (pa_cons (pe_bltn rfl T.b_tuple bt_tuple rfl) pa_nil))))) (pw_or1 (pt_cmpR op_neB (pe_callB call_lenB rfl T.b_len bt_len (pa_cons (pv 0) pa_nil)) (pe_callB call_lenB rfl T.b_len bt_len (pa_cons (pv 1) pa_nil)) (nomark _))))) (pss_one (ps_ret pe_bl)) pss_nil)
      (pss_cons (ps_if (PW.pt (pw_or (pt_not (pt_val (pe_callB call_isiB rfl T.b_isinstance bt_isinstance (pa_cons (pe_ix ix_B (pv 0) pe_int (fun _ _ => rfl)) (pa_cons (pe_bltn rfl T.b_str bt_str rfl) pa_nil))))) (pw_or (pt_not (pt_val (pe_callB call_isiB rfl T.b_isinstance bt_isinstance (pa_cons (pe_ix ix_B (pv 0) pe_int (fun _ _ => rfl)) (pa_cons (pe_bltn rfl T.b_str bt_str rfl) pa_nil))))) (pw_or1 (pt_cmpR (op_neD hr.units) (pe_slice sl_tupA (pv 0) po_none (po_some pe_int)) (pe_slice sl_tupA (pv 1) po_none (po_some pe_int)) (nomark _)))))) (pss_one (ps_ret pe_bl)) pss_nil)
      (pss_one (ps_ret (pe_or (pe_cmpR op_eqB (pe_callB call_lenB rfl T.b_len bt_len (pa_cons (pv 1) pa_nil)) pe_int (nomark _)) (pe_one (pe_own O__law_way_is (hr.mono (by decide)) (pa_cons (pe_ix ix_B (pv 0) pe_int (fun _ _ => rfl)) (pa_cons (pe_ix ix_B (pv 1) pe_int (fun _ _ => rfl)) pa_nil)))))))))
seal L2.PS L2.PE L2.PA L2.PSs L2.PT in
theorem ok__law_same_deed {P : Program} {w : World} {K : PySem.W.Frag} {mg : Str → Option Value} {base : Heap} {f : Addr} {fd : FuncData} (F : Fun K "_law_same_deed" "_law_same_deed" s__law_same_deed f fd) (T : Txt K mg) (O__law_way_is : Own P w K mg base 2 "_law_way_is" ["found", "due"] (sp_law_way_is K)) : FnOk P w K mg base CX0 3 f fd ["found", "due"] (sp_law_same_deed K) :=
  F.ok sc__law_same_deed (k := 2) (fun vs H Q E h => len_law_same_deed h) (fun cdv A outer s H vs Q E hr h => ⟨_, tm__law_same_deed T O__law_way_is hr, rdok_law_same_deed h⟩)

seal L2.PS L2.PE L2.PA L2.PSs L2.PT in
theorem tm_by_heads {P : Program} {w : World} {K : PySem.W.Frag} {mg : Str → Option Value} {base : Heap} {f : Addr} {c : Addr} {A : Around} {outer : List Env} {s : Shared} {H : Hp} {E : XK} (T : Txt K mg) (hC : PySem.W.CodeHd base c (tabAt K "by_heads")) (hB : base.BuiltinsAt mg (tabAt K "by_heads"))  (hr : Room 3 (A.deeper (PyProof.Rows.envOfC "by_heads" (defScope s_by_heads) s.heap.objs.size f (.ref c)))) :
    PSs (cxOf CX0 P w K mg base ["rows"] "by_heads" (defScope s_by_heads) f (.ref c) A outer s H E).nox (defBody s_by_heads) (rd_by_heads K) :=
  (pss_one (ps_ret (pe_sortLamK (k := 0) hC hB rfl T.p_by_heads (hr.mono (by decide)) T.b_sorted (pa_cons (pv 0) pa_nil) (fun _ _ _ _ _ _ => (pe_ix ix_B (pv 0) pe_int (fun _ _ => rfl))))))
seal L2.PS L2.PE L2.PA L2.PSs L2.PT in
theorem ok_by_heads {P : Program} {w : World} {K : PySem.W.Frag} {mg : Str → Option Value} {base : Heap} {f c : Addr} {oc : Value} {od an : Option Addr} {osl : Array (Option Value)} {kV doc pm cdv ct : Value} (l : K.lookup f = some ⟨oc, od, .func (PySem.W.fnOf "by_heads" "by_heads" (defArgs s_by_heads) (defBody s_by_heads) (defScope s_by_heads) .none kV doc pm an cdv ct), osl⟩) (hcd : PySem.W.codeIn K cdv "by_heads" = true) (e : cdv = .ref c) (T : Txt K mg) (hC : PySem.W.CodeHd base c (tabAt K "by_heads")) (hB : base.BuiltinsAt mg (tabAt K "by_heads"))  :
    FnOk P w K mg base CX0 4 f (PySem.W.fnOf "by_heads" "by_heads" (defArgs s_by_heads) (defBody s_by_heads) (defScope s_by_heads) .none kV doc pm an cdv ct) ["rows"] (sp_by_heads K) :=
  fun_codeOk l hcd e sc_by_heads (k := 3) (fun vs H Q E h => len_by_heads h) (fun A outer s H vs Q E hr h => ⟨_, tm_by_heads T hC hB  hr, rdok_by_heads h⟩)

seal L2.PS L2.PE L2.PA L2.PSs L2.PT in
theorem tm__law_due {P : Program} {w : World} {K : PySem.W.Frag} {mg : Str → Option Value} {base : Heap} {f : Addr} {cdv : Value} {A : Around} {outer : List Env} {s : Shared} {H : Hp} {E : XK} (T : Txt K mg) (O__law_head : Own P w K mg base 1 "_law_head" ["row"] (sp_law_head K)) (hr : Room 3 (A.deeper (PyProof.Rows.envOfC "_law_due" (defScope s__law_due) s.heap.objs.size f cdv))) :
    PSs (cxOf CX0 P w K mg base ["ones", "others", "heads", "due"] "_law_due" (defScope s__law_due) f cdv A outer s H E).nox (defBody s__law_due) (rd_law_due08 K) :=
  (pss_cons (ps_set (i := 2) sc__law_due.nd rfl (Or.inr rfl) (pe_comp (CompSc.plain (by decide +kernel) rfl (by decide +kernel) rfl) (pi_list (pv 1)) (fun _ _ _ _ => (pe_ix ix_B (pv 0) pe_int (fun _ _ => rfl))) (fun _ _ _ _ => .nil)))
      (pss_cons (ps_setComp (i := 3) sc__law_due.nd rfl (Or.inl rfl) (CompSc.cap (js := [(2, "heads")]) (fs := defScope s__law_due) rfl rfl rfl rfl (by decide +kernel) (by decide +kernel) rfl (by decide) rfl rfl) (pi_list (pe_sortKey O__law_head (hr.mono (by decide)) T.b_sorted (pa_cons (pv 0) pa_nil))) (fun _ _ _ _ => (pe_tup (pa_cons pe_str (pa_cons (pe_ix ix_B (pv 0) pe_int (fun _ _ => rfl)) pa_nil)))) (fun _ _ _ _ => (.one (pt_cmpR op_notIn_seq (pe_ix ix_B (pv 0) pe_int (fun _ _ => rfl)) (pv 1) (by with_unfolding_all rfl)))))
      (pss_one (ps_ret (pe_op op_addB (pv 3) (pe_comp (CompSc.cap (js := [(0, "ones")]) (fs := defScope s__law_due) rfl rfl rfl rfl (by decide +kernel) (by decide +kernel) rfl (by decide) rfl rfl) (pi_list (pe_sortKey O__law_head (hr.mono (by decide)) T.b_sorted (pa_cons (pv 1) pa_nil))) (fun _ _ _ _ => (pe_tup (pa_cons pe_str (pa_cons (pe_ix ix_B (pv 0) pe_int (fun _ _ => rfl)) (pa_cons (pe_ix ix_B (pv 0) pe_int (fun _ _ => rfl)) pa_nil))))) (fun _ _ _ _ => (.one (pt_cmpR (op_notInD hr.units) (pv 0) (pv 1) (by with_unfolding_all rfl))))))))))
seal L2.PS L2.PE L2.PA L2.PSs L2.PT in
theorem ok__law_due {P : Program} {w : World} {K : PySem.W.Frag} {mg : Str → Option Value} {base : Heap} {f : Addr} {fd : FuncData} (F : Fun K "_law_due" "_law_due" s__law_due f fd) (T : Txt K mg) (O__law_head : Own P w K mg base 1 "_law_head" ["row"] (sp_law_head K)) : FnOk P w K mg base CX0 4 f fd ["ones", "others"] (sp_law_due08 K) :=
  F.ok sc__law_due (k := 3) (fun vs H Q E h => len_law_due08 h) (fun cdv A outer s H vs Q E hr h => ⟨_, tm__law_due T O__law_head hr, rdok_law_due08 h⟩)

seal L2.PS L2.PE L2.PA L2.PSs L2.PT in
theorem tm_done {P : Program} {w : World} {K : PySem.W.Frag} {mg : Str → Option Value} {base : Heap} {f : Addr} {cdv : Value} {A : Around} {outer : List Env} {s : Shared} {H : Hp} {E : XK} (T : Txt K mg) (O_by_heads : Own P w K mg base 4 "by_heads" ["rows"] (sp_by_heads K)) (hr : Room 4 (A.deeper (PyProof.Rows.envOfC "done" (defScope s_done) s.heap.objs.size f cdv))) :
    PSs (cxOf CX0 P w K mg base ["rows", "deed", "head", "table"] "done" (defScope s_done) f cdv A outer s H E).nox (defBody s_done) (rd_done K) :=
  (pss_cons (ps_set (i := 2) sc_done.nd rfl (Or.inr rfl) (pe_ix ix_B (pv 1) pe_int (fun _ _ => rfl)))
      (pss_cons (ps_setComp (i := 3) sc_done.nd rfl (Or.inl rfl) (CompSc.cap (js := [(2, "head")]) (fs := defScope s_done) rfl rfl rfl rfl (by decide +kernel) (by decide +kernel) rfl (by decide) rfl rfl) (pi_list (pv 0)) (fun _ _ _ _ => (pv 0)) (fun _ _ _ _ => (.one (pt_cmpR op_neB (pe_ix ix_B (pv 0) pe_int (fun _ _ => rfl)) (pv 1) (nomark _)))))
      (pss_cons (ps_if (pt_cmpR op_eqB (pe_ix ix_B (pv 1) pe_int (fun _ _ => rfl)) pe_str (nomark _)) (pss_one (ps_expr (pe_bm PySem.F.plainAttrs_list PySem.F.slot_list_append PySem.F.type_list_append mt_append (pv 3) (pa_cons (pe_tup (pa_cons (pv 2) (pa_cons (pe_ix ix_B (pv 1) pe_int (fun _ _ => rfl)) pa_nil))) pa_nil)))) pss_nil)
      (pss_one (ps_ret (pe_own O_by_heads (hr.mono (by decide)) (pa_cons (pv 3) pa_nil)))))))
seal L2.PS L2.PE L2.PA L2.PSs L2.PT in
theorem ok_done {P : Program} {w : World} {K : PySem.W.Frag} {mg : Str → Option Value} {base : Heap} {f : Addr} {fd : FuncData} (F : Fun K "done" "done" s_done f fd) (T : Txt K mg) (O_by_heads : Own P w K mg base 4 "by_heads" ["rows"] (sp_by_heads K)) : FnOk P w K mg base CX0 5 f fd ["rows", "deed"] (sp_done K) :=
  F.ok sc_done (k := 4) (fun vs H Q E h => len_done h) (fun cdv A outer s H vs Q E hr h => ⟨_, tm_done T O_by_heads hr, rdok_done h⟩)

seal L2.PS L2.PE L2.PA L2.PSs L2.PT in
theorem tm_law {P : Program} {w : World} {K : PySem.W.Frag} {mg : Str → Option Value} {base : Heap} {f : Addr} {cdv : Value} {A : Around} {outer : List Env} {s : Shared} {H : Hp} {E : XK} (T : Txt K mg) (O__law_cell_at : Own P w K mg base 1 "_law_cell_at" ["script", "k"] (sp_law_cell_at K)) (O__law_due : Own P w K mg base 4 "_law_due" ["ones", "others"] (sp_law_due08 K)) (O__law_head : Own P w K mg base 1 "_law_head" ["row"] (sp_law_head K)) (O__law_mixed : Own P w K mg base 1 "_law_mixed" ["own", "ones", "cell"] (sp_law_mixed K)) (O__law_same_deed : Own P w K mg base 3 "_law_same_deed" ["found", "due"] (sp_law_same_deed K)) (O__law_same_rows : Own P w K mg base 3 "_law_same_rows" ["found", "due"] (sp_law_same_rows K)) (O__law_table_by : Own P w K mg base 2 "_law_table_by" ["script", "start", "count", "size", "few"] (sp_law_table_by K)) (O_deeds : Own P w K mg base 1 "deeds" ["ones", "others"] (sp_deeds K)) (O_done : Own P w K mg base 5 "done" ["rows", "deed"] (sp_done K)) (hr : Room 5 (A.deeper (PyProof.Rows.envOfC "law" (defScope s_law) s.heap.objs.size f cdv))) :
    PSs (cxOf CX0 P w K mg base ["script", "size", "ones", "others", "due", "handed", "found", "rows", "k", "ahead", "made"] "law" (defScope s_law) f cdv A outer s H E).nox (defBody s_law) (rd_law08 K) :=
  (pss_cons (ps_set (i := 1) sc_law.nd rfl (Or.inl rfl) (pe_op op_addB pe_int (pe_op op_modB (pe_own O__law_cell_at (hr.mono (by decide)) (pa_cons (pv 0) (pa_cons pe_int pa_nil))) pe_int)))
      (pss_cons (ps_set (i := 2) sc_law.nd rfl (Or.inl rfl) (pe_own O__law_table_by (hr.mono (by decide)) (pa_cons (pv 0) (pa_cons pe_int (pa_cons (pe_op op_modB (pe_own O__law_cell_at (hr.mono (by decide)) (pa_cons (pv 0) (pa_cons pe_int pa_nil))) pe_int) (pa_cons (pv 1) (pa_cons pe_int pa_nil)))))))
      (pss_cons (ps_set (i := 3) sc_law.nd rfl (Or.inl rfl) (pe_own O__law_table_by (hr.mono (by decide)) (pa_cons (pv 0) (pa_cons pe_int (pa_cons (pe_op op_modB (pe_op op_divB (pe_own O__law_cell_at (hr.mono (by decide)) (pa_cons (pv 0) (pa_cons pe_int pa_nil))) pe_int) pe_int) (pa_cons (pv 1) (pa_cons pe_int pa_nil)))))))
      (pss_cons (ps_if (pt_cmpR op_eqB (pe_op op_modB (pe_op op_divB (pe_own O__law_cell_at (hr.mono (by decide)) (pa_cons (pv 0) (pa_cons pe_int pa_nil))) pe_int) pe_int) pe_int (nomark _)) (pss_one (ps_set (i := 3) sc_law.nd rfl (Or.inl rfl) (pe_own O__law_mixed (hr.mono (by decide)) (pa_cons (pv 3) (pa_cons (pv 2) (pa_cons (pe_own O__law_cell_at (hr.mono (by decide)) (pa_cons (pv 0) (pa_cons pe_int pa_nil))) pa_nil)))))) pss_nil)
      (pss_cons (ps_set (i := 4) sc_law.nd rfl (Or.inl rfl) (pe_own O__law_due (hr.mono (by decide)) (pa_cons (pv 2) (pa_cons (pv 3) pa_nil))))
      (pss_cons (ps_set (i := 5) sc_law.nd rfl (Or.inl rfl) (pe_lst (pa_cons (pe_callTy call_listB rfl T.b_list bt_list (pa_cons (pv 2) pa_nil)) (pa_cons (pe_callTy call_listB rfl T.b_list bt_list (pa_cons (pv 3) pa_nil)) pa_nil))))
      (pss_cons (ps_set (i := 6) sc_law.nd rfl (Or.inl rfl) (pe_own O_deeds (hr.mono (by decide)) (pa_cons (pe_ix ix_B (pv 5) pe_int (fun _ _ => rfl)) (pa_cons (pe_ix ix_B (pv 5) pe_int (fun _ _ => rfl)) pa_nil))))
      (pss_cons (ps_if (PW.pt (pw_or (pt_cmpR (op_neD hr.units) (pv 5) (pe_lst (pa_cons (pv 2) (pa_cons (pv 3) pa_nil))) (nomark _)) (pw_or (pt_not (pt_val (pe_callB call_isiB rfl T.b_isinstance bt_isinstance (pa_cons (pv 6) (pa_cons (pe_bltn rfl T.b_list bt_list rfl) pa_nil))))) (pw_or1 (pt_cmpR op_neB (pe_callB call_lenB rfl T.b_len bt_len (pa_cons (pv 6) pa_nil)) (pe_callB call_lenB rfl T.b_len bt_len (pa_cons (pv 4) pa_nil)) (nomark _)))))) (pss_one (ps_ret pe_bl)) pss_nil)
      (pss_cons (ps_set (i := 7) sc_law.nd rfl (Or.inl rfl) (pe_callTy call_listB rfl T.b_list bt_list (pa_cons (pv 2) pa_nil)))
      (pss_cons (ps_for PassesOwn.never rfl (pi_range1 rfl T.b_range (pa_cons (pe_callB call_lenB rfl T.b_len bt_len (pa_cons (pv 4) pa_nil)) pa_nil)) (pg_name (i := 8) sc_law.nd rfl (Or.inl rfl))
      (pss_cons (ps_if (pt_not (pt_val (pe_own O__law_same_deed (hr.mono (by decide)) (pa_cons (pe_ix ix_B (pv 6) (pv 8) (fun _ _ => rfl)) (pa_cons (pe_ix ix_B (pv 4) (pv 8) (fun _ _ => rfl)) pa_nil))))) (pss_one (ps_ret pe_bl)) pss_nil)
      (pss_cons (ps_set (i := 9) sc_law.nd rfl (Or.inl rfl) (pe_callTy call_listB rfl T.b_list bt_list (pa_cons (pv 7) pa_nil)))
      (pss_cons (ps_set (i := 10) sc_law.nd rfl (Or.inl rfl) (pe_own O_done (hr.mono (by decide)) (pa_cons (pv 7) (pa_cons (pe_ix ix_B (pv 6) (pv 8) (fun _ _ => rfl)) pa_nil))))
      (pss_cons (ps_if (pt_cmpR (op_neD hr.units) (pv 7) (pv 9) (nomark _)) (pss_one (ps_ret pe_bl)) pss_nil)
      (pss_one (ps_set (i := 7) sc_law.nd rfl (Or.inl rfl) (pv 10))))))))
      (pss_cons (ps_if (pt_not (pt_val (pe_own O__law_same_rows (hr.mono (by decide)) (pa_cons (pe_sortKey O__law_head (hr.mono (by decide)) T.b_sorted (pa_cons (pv 7) pa_nil)) (pa_cons (pe_sortKey O__law_head (hr.mono (by decide)) T.b_sorted (pa_cons (pv 3) pa_nil)) pa_nil))))) (pss_one (ps_ret pe_bl)) pss_nil)
      (pss_cons (ps_expr (pe_bm0 PySem.F.plainAttrs_list PySem.F.slot_list_clear PySem.F.type_list_clear mt_clear (pv 6)))
      (pss_one (ps_ret (pe_and (pe_cmpR op_eqB (pe_callB call_lenB rfl T.b_len bt_len (pa_cons (pe_own O_deeds (hr.mono (by decide)) (pa_cons (pe_ix ix_B (pv 5) pe_int (fun _ _ => rfl)) (pa_cons (pe_ix ix_B (pv 5) pe_int (fun _ _ => rfl)) pa_nil))) pa_nil)) (pe_callB call_lenB rfl T.b_len bt_len (pa_cons (pv 4) pa_nil)) (nomark _)) (pe_one (pe_cmpR (op_eqD hr.units) (pv 5) (pe_lst (pa_cons (pv 2) (pa_cons (pv 3) pa_nil))) (nomark _))))))))))))))))))
seal L2.PS L2.PE L2.PA L2.PSs L2.PT in
theorem ok_law {P : Program} {w : World} {K : PySem.W.Frag} {mg : Str → Option Value} {base : Heap} {f : Addr} {fd : FuncData} (F : Fun K "law" "law" s_law f fd) (T : Txt K mg) (O__law_cell_at : Own P w K mg base 1 "_law_cell_at" ["script", "k"] (sp_law_cell_at K)) (O__law_due : Own P w K mg base 4 "_law_due" ["ones", "others"] (sp_law_due08 K)) (O__law_head : Own P w K mg base 1 "_law_head" ["row"] (sp_law_head K)) (O__law_mixed : Own P w K mg base 1 "_law_mixed" ["own", "ones", "cell"] (sp_law_mixed K)) (O__law_same_deed : Own P w K mg base 3 "_law_same_deed" ["found", "due"] (sp_law_same_deed K)) (O__law_same_rows : Own P w K mg base 3 "_law_same_rows" ["found", "due"] (sp_law_same_rows K)) (O__law_table_by : Own P w K mg base 2 "_law_table_by" ["script", "start", "count", "size", "few"] (sp_law_table_by K)) (O_deeds : Own P w K mg base 1 "deeds" ["ones", "others"] (sp_deeds K)) (O_done : Own P w K mg base 5 "done" ["rows", "deed"] (sp_done K)) : FnOk P w K mg base CX0 6 f fd ["script"] (sp_law08 K) :=
  F.ok sc_law (k := 5) (fun vs H Q E h => len_law08 h) (fun cdv A outer s H vs Q E hr h => ⟨_, tm_law T O__law_cell_at O__law_due O__law_head O__law_mixed O__law_same_deed O__law_same_rows O__law_table_by O_deeds O_done hr, rdok_law08 h⟩)

theorem all_mk {l : PySem.W.OpenLaw} {w : World} {K : PySem.W.Frag} {h : Heap} {mg : Str → Option Value} {fa f0 f1 f2 f3 f4 f5 f6 f7 f8 f9 f10 f11 f12 f13 f14 : Addr} (X : K.In h) (G : h.Ns mainGlobals mg) (hfa : mg "law" = some (.ref fa))
    {od0 an0 od1 an1 od2 an2 od3 an3 od4 an4 od5 an5 od6 an6 od7 an7 od8 an8 od9 an9 od10 an10 od11 an11 od12 an12 od13 an13 od14 an14 : Option Addr} {sl0 sl1 sl2 sl3 sl4 sl5 sl6 sl7 sl8 sl9 sl10 sl11 sl12 sl13 sl14 : Array (Option Value)} {oc0 kV0 dc0 pm0 cd0 ct0 oc1 kV1 dc1 pm1 cd1 ct1 oc2 kV2 dc2 pm2 cd2 ct2 oc3 kV3 dc3 pm3 cd3 ct3 oc4 kV4 dc4 pm4 cd4 ct4 oc5 kV5 dc5 pm5 cd5 ct5 oc6 kV6 dc6 pm6 cd6 ct6 oc7 kV7 dc7 pm7 cd7 ct7 oc8 kV8 dc8 pm8 cd8 ct8 oc9 kV9 dc9 pm9 cd9 ct9 oc10 kV10 dc10 pm10 cd10 ct10 oc11 kV11 dc11 pm11 cd11 ct11 oc12 kV12 dc12 pm12 cd12 ct12 oc13 kV13 dc13 pm13 cd13 ct13 oc14 kV14 dc14 pm14 cd14 ct14 : Value}
    (a0 : PySem.W.nsIn K mainGlobals "by_heads" = some (some (.ref f0))) (l0 : K.lookup f0 = some ⟨oc0, od0, .func (PySem.W.fnOf "by_heads" "by_heads" (defArgs s_by_heads) (defBody s_by_heads) (defScope s_by_heads) .none kV0 dc0 pm0 an0 cd0 ct0), sl0⟩) (c0 : PySem.W.codeIn K cd0 "by_heads" = true) (k0 : PySem.W.keepIn K (.ref f0) = true)
    (a1 : PySem.W.nsIn K mainGlobals "deeds" = some (some (.ref f1))) (l1 : K.lookup f1 = some ⟨oc1, od1, .func (PySem.W.fnOf "deeds" "deeds" (defArgs s_deeds) (defBody s_deeds) (defScope s_deeds) .none kV1 dc1 pm1 an1 cd1 ct1), sl1⟩) (c1 : PySem.W.codeIn K cd1 "deeds" = true) (k1 : PySem.W.keepIn K (.ref f1) = true)
    (a2 : PySem.W.nsIn K mainGlobals "done" = some (some (.ref f2))) (l2 : K.lookup f2 = some ⟨oc2, od2, .func (PySem.W.fnOf "done" "done" (defArgs s_done) (defBody s_done) (defScope s_done) .none kV2 dc2 pm2 an2 cd2 ct2), sl2⟩) (c2 : PySem.W.codeIn K cd2 "done" = true) (k2 : PySem.W.keepIn K (.ref f2) = true)
    (a3 : PySem.W.nsIn K mainGlobals "_law_cell_at" = some (some (.ref f3))) (l3 : K.lookup f3 = some ⟨oc3, od3, .func (PySem.W.fnOf "_law_cell_at" "_law_cell_at" (defArgs s__law_cell_at) (defBody s__law_cell_at) (defScope s__law_cell_at) .none kV3 dc3 pm3 an3 cd3 ct3), sl3⟩) (c3 : PySem.W.codeIn K cd3 "_law_cell_at" = true) (k3 : PySem.W.keepIn K (.ref f3) = true)
    (a4 : PySem.W.nsIn K mainGlobals "_law_whole" = some (some (.ref f4))) (l4 : K.lookup f4 = some ⟨oc4, od4, .func (PySem.W.fnOf "_law_whole" "_law_whole" (defArgs s__law_whole) (defBody s__law_whole) (defScope s__law_whole) .none kV4 dc4 pm4 an4 cd4 ct4), sl4⟩) (c4 : PySem.W.codeIn K cd4 "_law_whole" = true) (k4 : PySem.W.keepIn K (.ref f4) = true)
    (a5 : PySem.W.nsIn K mainGlobals "_law_bits_by" = some (some (.ref f5))) (l5 : K.lookup f5 = some ⟨oc5, od5, .func (PySem.W.fnOf "_law_bits_by" "_law_bits_by" (defArgs s__law_bits_by) (defBody s__law_bits_by) (defScope s__law_bits_by) .none kV5 dc5 pm5 an5 cd5 ct5), sl5⟩) (c5 : PySem.W.codeIn K cd5 "_law_bits_by" = true) (k5 : PySem.W.keepIn K (.ref f5) = true)
    (a6 : PySem.W.nsIn K mainGlobals "_law_way_by" = some (some (.ref f6))) (l6 : K.lookup f6 = some ⟨oc6, od6, .func (PySem.W.fnOf "_law_way_by" "_law_way_by" (defArgs s__law_way_by) (defBody s__law_way_by) (defScope s__law_way_by) .none kV6 dc6 pm6 an6 cd6 ct6), sl6⟩) (c6 : PySem.W.codeIn K cd6 "_law_way_by" = true) (k6 : PySem.W.keepIn K (.ref f6) = true)
    (a7 : PySem.W.nsIn K mainGlobals "_law_table_by" = some (some (.ref f7))) (l7 : K.lookup f7 = some ⟨oc7, od7, .func (PySem.W.fnOf "_law_table_by" "_law_table_by" (defArgs s__law_table_by) (defBody s__law_table_by) (defScope s__law_table_by) .none kV7 dc7 pm7 an7 cd7 ct7), sl7⟩) (c7 : PySem.W.codeIn K cd7 "_law_table_by" = true) (k7 : PySem.W.keepIn K (.ref f7) = true)
    (a8 : PySem.W.nsIn K mainGlobals "_law_way_is" = some (some (.ref f8))) (l8 : K.lookup f8 = some ⟨oc8, od8, .func (PySem.W.fnOf "_law_way_is" "_law_way_is" (defArgs s__law_way_is) (defBody s__law_way_is) (defScope s__law_way_is) .none kV8 dc8 pm8 an8 cd8 ct8), sl8⟩) (c8 : PySem.W.codeIn K cd8 "_law_way_is" = true) (k8 : PySem.W.keepIn K (.ref f8) = true)
    (a9 : PySem.W.nsIn K mainGlobals "_law_same_rows" = some (some (.ref f9))) (l9 : K.lookup f9 = some ⟨oc9, od9, .func (PySem.W.fnOf "_law_same_rows" "_law_same_rows" (defArgs s__law_same_rows) (defBody s__law_same_rows) (defScope s__law_same_rows) .none kV9 dc9 pm9 an9 cd9 ct9), sl9⟩) (c9 : PySem.W.codeIn K cd9 "_law_same_rows" = true) (k9 : PySem.W.keepIn K (.ref f9) = true)
    (a10 : PySem.W.nsIn K mainGlobals "_law_mixed" = some (some (.ref f10))) (l10 : K.lookup f10 = some ⟨oc10, od10, .func (PySem.W.fnOf "_law_mixed" "_law_mixed" (defArgs s__law_mixed) (defBody s__law_mixed) (defScope s__law_mixed) .none kV10 dc10 pm10 an10 cd10 ct10), sl10⟩) (c10 : PySem.W.codeIn K cd10 "_law_mixed" = true) (k10 : PySem.W.keepIn K (.ref f10) = true)
    (a11 : PySem.W.nsIn K mainGlobals "_law_due" = some (some (.ref f11))) (l11 : K.lookup f11 = some ⟨oc11, od11, .func (PySem.W.fnOf "_law_due" "_law_due" (defArgs s__law_due) (defBody s__law_due) (defScope s__law_due) .none kV11 dc11 pm11 an11 cd11 ct11), sl11⟩) (c11 : PySem.W.codeIn K cd11 "_law_due" = true) (k11 : PySem.W.keepIn K (.ref f11) = true)
    (a12 : PySem.W.nsIn K mainGlobals "_law_head" = some (some (.ref f12))) (l12 : K.lookup f12 = some ⟨oc12, od12, .func (PySem.W.fnOf "_law_head" "_law_head" (defArgs s__law_head) (defBody s__law_head) (defScope s__law_head) .none kV12 dc12 pm12 an12 cd12 ct12), sl12⟩) (c12 : PySem.W.codeIn K cd12 "_law_head" = true) (k12 : PySem.W.keepIn K (.ref f12) = true)
    (a13 : PySem.W.nsIn K mainGlobals "_law_same_deed" = some (some (.ref f13))) (l13 : K.lookup f13 = some ⟨oc13, od13, .func (PySem.W.fnOf "_law_same_deed" "_law_same_deed" (defArgs s__law_same_deed) (defBody s__law_same_deed) (defScope s__law_same_deed) .none kV13 dc13 pm13 an13 cd13 ct13), sl13⟩) (c13 : PySem.W.codeIn K cd13 "_law_same_deed" = true) (k13 : PySem.W.keepIn K (.ref f13) = true)
    (a14 : PySem.W.nsIn K mainGlobals "law" = some (some (.ref f14))) (l14 : K.lookup f14 = some ⟨oc14, od14, .func (PySem.W.fnOf "law" "law" (defArgs s_law) (defBody s_law) (defScope s_law) .none kV14 dc14 pm14 an14 cd14 ct14), sl14⟩) (c14 : PySem.W.codeIn K cd14 "law" = true) (k14 : PySem.W.keepIn K (.ref f14) = true)
    (z_bool : PySem.W.nsIn K mainGlobals "bool" = some none)
    (z_dict : PySem.W.nsIn K mainGlobals "dict" = some none)
    (z_int : PySem.W.nsIn K mainGlobals "int" = some none)
    (z_isinstance : PySem.W.nsIn K mainGlobals "isinstance" = some none)
    (z_len : PySem.W.nsIn K mainGlobals "len" = some none)
    (z_list : PySem.W.nsIn K mainGlobals "list" = some none)
    (z_range : PySem.W.nsIn K mainGlobals "range" = some none)
    (z_sorted : PySem.W.nsIn K mainGlobals "sorted" = some none)
    (z_str : PySem.W.nsIn K mainGlobals "str" = some none)
    (z_tuple : PySem.W.nsIn K mainGlobals "tuple" = some none)
    {tc tP : Addr} (et : cd0 = Value.ref tc) (tt : PySem.W.tabIn K "by_heads" = some (tc, tP)) (th : PySem.W.codeHdIn K tc tP = true)
    : ∃ fd : FuncData, (∀ (s : Shared) (v : Value), BindsTo s fd ⟨[v], []⟩ [("script", v)]) ∧ ∀ base : Heap, K.In base → base.Ns mainGlobals mg → base.BuiltinsAt mg tP → FnOk l.prog w K mg base CX0 6 fa fd ["script"] (sp_law08 K) := by
  have e := hfa.symm.trans (PySem.W.mg_of X G a14)
  cases e
  have T : Txt K mg := ⟨PySem.W.mg_none_of X G z_bool, PySem.W.mg_none_of X G z_dict, PySem.W.mg_none_of X G z_int, PySem.W.mg_none_of X G z_isinstance, PySem.W.mg_none_of X G z_len, PySem.W.mg_none_of X G z_list, PySem.W.mg_none_of X G z_range, PySem.W.mg_none_of X G z_sorted, PySem.W.mg_none_of X G z_str, PySem.W.mg_none_of X G z_tuple, lamPos_of a0 l0⟩
  have F1 := fun_mk (st := s_deeds) l1 c1 k1
  have b1 := F1.binds (ps := ["ones", "others"]) fun _ _ _ _ _ _ us hl => match us, hl with | [_, _], _ => rfl
  have F3 := fun_mk (st := s__law_cell_at) l3 c3 k3
  have b3 := F3.binds (ps := ["script", "k"]) fun _ _ _ _ _ _ us hl => match us, hl with | [_, _], _ => rfl
  have F4 := fun_mk (st := s__law_whole) l4 c4 k4
  have b4 := F4.binds (ps := ["found"]) fun _ _ _ _ _ _ us hl => match us, hl with | [_], _ => rfl
  have F5 := fun_mk (st := s__law_bits_by) l5 c5 k5
  have b5 := F5.binds (ps := ["cell", "size"]) fun _ _ _ _ _ _ us hl => match us, hl with | [_, _], _ => rfl
  have F6 := fun_mk (st := s__law_way_by) l6 c6 k6
  have b6 := F6.binds (ps := ["cell", "few"]) fun _ _ _ _ _ _ us hl => match us, hl with | [_, _], _ => rfl
  have F10 := fun_mk (st := s__law_mixed) l10 c10 k10
  have b10 := F10.binds (ps := ["own", "ones", "cell"]) fun _ _ _ _ _ _ us hl => match us, hl with | [_, _, _], _ => rfl
  have F12 := fun_mk (st := s__law_head) l12 c12 k12
  have b12 := F12.binds (ps := ["row"]) fun _ _ _ _ _ _ us hl => match us, hl with | [_], _ => rfl
  have F7 := fun_mk (st := s__law_table_by) l7 c7 k7
  have b7 := F7.binds (ps := ["script", "start", "count", "size", "few"]) fun _ _ _ _ _ _ us hl => match us, hl with | [_, _, _, _, _], _ => rfl
  have F8 := fun_mk (st := s__law_way_is) l8 c8 k8
  have b8 := F8.binds (ps := ["found", "due"]) fun _ _ _ _ _ _ us hl => match us, hl with | [_, _], _ => rfl
  have F9 := fun_mk (st := s__law_same_rows) l9 c9 k9
  have b9 := F9.binds (ps := ["found", "due"]) fun _ _ _ _ _ _ us hl => match us, hl with | [_, _], _ => rfl
  have F13 := fun_mk (st := s__law_same_deed) l13 c13 k13
  have b13 := F13.binds (ps := ["found", "due"]) fun _ _ _ _ _ _ us hl => match us, hl with | [_, _], _ => rfl
  have F0 := fun_mk (st := s_by_heads) l0 c0 k0
  have b0 := F0.binds (ps := ["rows"]) fun _ _ _ _ _ _ us hl => match us, hl with | [_], _ => rfl
  have F11 := fun_mk (st := s__law_due) l11 c11 k11
  have b11 := F11.binds (ps := ["ones", "others"]) fun _ _ _ _ _ _ us hl => match us, hl with | [_, _], _ => rfl
  have F2 := fun_mk (st := s_done) l2 c2 k2
  have b2 := F2.binds (ps := ["rows", "deed"]) fun _ _ _ _ _ _ us hl => match us, hl with | [_, _], _ => rfl
  have F14 := fun_mk (st := s_law) l14 c14 k14
  refine ⟨PySem.W.fnOf "law" "law" (defArgs s_law) (defBody s_law) (defScope s_law) .none kV14 dc14 pm14 an14 cd14 ct14, fun s v => .of_eq rfl, fun base kb _ bb => ?_⟩
  have eP := tabAt_of tt
  have hC : PySem.W.CodeHd base tc (tabAt K "by_heads") := by rw [eP]; exact PySem.W.codeHd_of_K kb th
  have hB : base.BuiltinsAt mg (tabAt K "by_heads") := by rw [eP]; exact bb
  have O_deeds : Own l.prog w K mg base 1 "deeds" ["ones", "others"] (sp_deeds K) := .mk' (ok_deeds F1 T ) (PySem.W.mg_of X G a1) k1 b1
  have O__law_cell_at : Own l.prog w K mg base 1 "_law_cell_at" ["script", "k"] (sp_law_cell_at K) := .mk' (ok__law_cell_at F3 T ) (PySem.W.mg_of X G a3) k3 b3
  have O__law_whole : Own l.prog w K mg base 1 "_law_whole" ["found"] (sp_law_whole K) := .mk' (ok__law_whole F4 T ) (PySem.W.mg_of X G a4) k4 b4
  have O__law_bits_by : Own l.prog w K mg base 1 "_law_bits_by" ["cell", "size"] (sp_law_bits_by K) := .mk' (ok__law_bits_by F5 T ) (PySem.W.mg_of X G a5) k5 b5
  have O__law_way_by : Own l.prog w K mg base 1 "_law_way_by" ["cell", "few"] (sp_law_way_by K) := .mk' (ok__law_way_by F6 T ) (PySem.W.mg_of X G a6) k6 b6
  have O__law_mixed : Own l.prog w K mg base 1 "_law_mixed" ["own", "ones", "cell"] (sp_law_mixed K) := .mk' (ok__law_mixed F10 T ) (PySem.W.mg_of X G a10) k10 b10
  have O__law_head : Own l.prog w K mg base 1 "_law_head" ["row"] (sp_law_head K) := .mk' (ok__law_head F12 T ) (PySem.W.mg_of X G a12) k12 b12
  have O__law_table_by : Own l.prog w K mg base 2 "_law_table_by" ["script", "start", "count", "size", "few"] (sp_law_table_by K) := .mk' (ok__law_table_by F7 T O__law_bits_by O__law_cell_at O__law_way_by) (PySem.W.mg_of X G a7) k7 b7
  have O__law_way_is : Own l.prog w K mg base 2 "_law_way_is" ["found", "due"] (sp_law_way_is K) := .mk' (ok__law_way_is F8 T O__law_whole) (PySem.W.mg_of X G a8) k8 b8
  have O__law_same_rows : Own l.prog w K mg base 3 "_law_same_rows" ["found", "due"] (sp_law_same_rows K) := .mk' (ok__law_same_rows F9 T O__law_way_is) (PySem.W.mg_of X G a9) k9 b9
  have O__law_same_deed : Own l.prog w K mg base 3 "_law_same_deed" ["found", "due"] (sp_law_same_deed K) := .mk' (ok__law_same_deed F13 T O__law_way_is) (PySem.W.mg_of X G a13) k13 b13
  have O_by_heads : Own l.prog w K mg base 4 "by_heads" ["rows"] (sp_by_heads K) := .mk' (ok_by_heads l0 c0 et T hC hB ) (PySem.W.mg_of X G a0) k0 b0
  have O__law_due : Own l.prog w K mg base 4 "_law_due" ["ones", "others"] (sp_law_due08 K) := .mk' (ok__law_due F11 T O__law_head) (PySem.W.mg_of X G a11) k11 b11
  have O_done : Own l.prog w K mg base 5 "done" ["rows", "deed"] (sp_done K) := .mk' (ok_done F2 T O_by_heads) (PySem.W.mg_of X G a2) k2 b2
  exact ok_law F14 T O__law_cell_at O__law_due O__law_head O__law_mixed O__law_same_deed O__law_same_rows O__law_table_by O_deeds O_done
theorem walk {l : PySem.W.OpenLaw} {q : Program} {loose : List Str} {XP : (Str → Option Value) → Heap → Prop} {YP : World → Heap → Prop} {d : DefRec} {K : Params → PySem.W.Frag} {tc tP : Addr} (hn : l.most = some 63) (hdf : d.params.defaults = [])
    (hY : ∀ (w : World) (h : Heap), YP w h → (K w.params).In h) (hT : ∀ (w : World) (h : Heap), YP w h → h.get? tP = some (PySem.W.tabObj #[]))
    (tt : ∀ w : World, PySem.W.tabIn (K w.params) "by_heads" = some (tc, tP)) (hC : ∀ w : World, PySem.W.codeHdIn (K w.params) tc tP = true) (noP : ∀ w : World, (K w.params).lookup tP = none)
    (F : ∀ (w : World) (mg : Str → Option Value) (fa : Addr) (h : Heap), (K w.params).In h → h.Ns mainGlobals mg → mg d.name = some (.ref fa) →
      ∃ fd : FuncData, (∀ (s : Shared) (u : Value), BindsTo s fd ⟨[u], []⟩ [("script", u)]) ∧ ∀ base : Heap, (K w.params).In base → base.Ns mainGlobals mg → base.BuiltinsAt mg tP → FnOk l.prog w (K w.params) mg base CX0 6 fa fd ["script"] (sp_law08 (K w.params))) :
    PySem.W.WalkO q loose XP YP l.row.toRowW d [] (fun f vs => PySem.call f vs) :=
  L2.walk_ofT (n := 63) (k := 6) (x := "script") (CX := fun _ => CX0) (sp := fun w => sp_law08 (K w.params)) hn (by decide) hdf ⟨rfl, by decide, by decide⟩ hY hT hC noP F (fun w _ a ns hl hP hS => ⟨a, ns, rfl, hS, hl, .inl (by rw [tabAt_of (tt w)]; exact hP), fun _ => rfl⟩) fun _ _ _ _ _ z => z
end K08
open PySem PySem.W PyProof.Rows
set_option maxRecDepth 100000 in
set_option maxHeartbeats 0 in
theorem PySem.Challenge.cw_headroad_k08_turned_into_another_holds : PySem.Challenge.rw_headroad_k08_turned_into_another.Holds := by
  w_on; o_law; k_head; (case hw => w_witness2)
  k_fill
  refine' K08.walk (l := PySem.Challenge.rw_headroad_k08_turned_into_another) (tc := 20) (tP := 16) rfl rfl (fun w h Y => PySem.W.km_in_of Y) (fun w h Y => PySem.W.km_tabs_of Y _ (List.mem_singleton.mpr rfl)) ?tt ?tc ?no ?F
  (case tt => intro w; first | kernel_rfl | k_is | kit_is)
  (case tc => intro w; first | kernel_rfl | k_is | kit_is)
  (case no => intro w; first | kernel_rfl | k_is | kit_is)
  case F =>
    intro w mg fa h KX G hmg
    refine' K08.all_mk (tc := 20) (tP := 16) KX G hmg ?a0 ?l0 ?c0 ?k0 ?a1 ?l1 ?c1 ?k1 ?a2 ?l2 ?c2 ?k2 ?a3 ?l3 ?c3 ?k3 ?a4 ?l4 ?c4 ?k4 ?a5 ?l5 ?c5 ?k5 ?a6 ?l6 ?c6 ?k6 ?a7 ?l7 ?c7 ?k7 ?a8 ?l8 ?c8 ?k8 ?a9 ?l9 ?c9 ?k9 ?a10 ?l10 ?c10 ?k10 ?a11 ?l11 ?c11 ?k11 ?a12 ?l12 ?c12 ?k12 ?a13 ?l13 ?c13 ?k13 ?a14 ?l14 ?c14 ?k14 ?z_bool ?z_dict ?z_int ?z_isinstance ?z_len ?z_list ?z_range ?z_sorted ?z_str ?z_tuple ?et ?tt ?th
    (case a0 => first | k_is | kit_is)
    (case l0 => first | k_is | kit_is)
    (case c0 => first | k_is | kit_is)
    (case k0 => first | k_is | kit_is)
    (case a1 => first | k_is | kit_is)
    (case l1 => first | k_is | kit_is)
    (case c1 => first | k_is | kit_is)
    (case k1 => first | k_is | kit_is)
    (case a2 => first | k_is | kit_is)
    (case l2 => first | k_is | kit_is)
    (case c2 => first | k_is | kit_is)
    (case k2 => first | k_is | kit_is)
    (case a3 => first | k_is | kit_is)
    (case l3 => first | k_is | kit_is)
    (case c3 => first | k_is | kit_is)
    (case k3 => first | k_is | kit_is)
    (case a4 => first | k_is | kit_is)
    (case l4 => first | k_is | kit_is)
    (case c4 => first | k_is | kit_is)
    (case k4 => first | k_is | kit_is)
    (case a5 => first | k_is | kit_is)
    (case l5 => first | k_is | kit_is)
    (case c5 => first | k_is | kit_is)
    (case k5 => first | k_is | kit_is)
    (case a6 => first | k_is | kit_is)
    (case l6 => first | k_is | kit_is)
    (case c6 => first | k_is | kit_is)
    (case k6 => first | k_is | kit_is)
    (case a7 => first | k_is | kit_is)
    (case l7 => first | k_is | kit_is)
    (case c7 => first | k_is | kit_is)
    (case k7 => first | k_is | kit_is)
    (case a8 => first | k_is | kit_is)
    (case l8 => first | k_is | kit_is)
    (case c8 => first | k_is | kit_is)
    (case k8 => first | k_is | kit_is)
    (case a9 => first | k_is | kit_is)
    (case l9 => first | k_is | kit_is)
    (case c9 => first | k_is | kit_is)
    (case k9 => first | k_is | kit_is)
    (case a10 => first | k_is | kit_is)
    (case l10 => first | k_is | kit_is)
    (case c10 => first | k_is | kit_is)
    (case k10 => first | k_is | kit_is)
    (case a11 => first | k_is | kit_is)
    (case l11 => first | k_is | kit_is)
    (case c11 => first | k_is | kit_is)
    (case k11 => first | k_is | kit_is)
    (case a12 => first | k_is | kit_is)
    (case l12 => first | k_is | kit_is)
    (case c12 => first | k_is | kit_is)
    (case k12 => first | k_is | kit_is)
    (case a13 => first | k_is | kit_is)
    (case l13 => first | k_is | kit_is)
    (case c13 => first | k_is | kit_is)
    (case k13 => first | k_is | kit_is)
    (case a14 => first | k_is | kit_is)
    (case l14 => first | k_is | kit_is)
    (case c14 => first | k_is | kit_is)
    (case k14 => first | k_is | kit_is)
    (case z_bool => first | k_is | kit_is)
    (case z_dict => first | k_is | kit_is)
    (case z_int => first | k_is | kit_is)
    (case z_isinstance => first | k_is | kit_is)
    (case z_len => first | k_is | kit_is)
    (case z_list => first | k_is | kit_is)
    (case z_range => first | k_is | kit_is)
    (case z_sorted => first | k_is | kit_is)
    (case z_str => first | k_is | kit_is)
    (case z_tuple => first | k_is | kit_is)
    (case et => rfl)
    (case tt => first | kernel_rfl | k_is | kit_is)
    (case th => first | kernel_rfl | k_is | kit_is)
#print axioms PySem.Challenge.cw_headroad_k08_turned_into_another_holds


end
