import PyProof.Rows.All
import Wide.All
import OpenK.AllK
import Wide.FinOn
import Lean
import PyProof.EqAt
import PyProof.EqKinds
import PyProof.TupleCall
import PyProof.StrWalks
import PyProof.StrLawsIdx
import KE.KIntText
import PyProof.CompFree
import PyProof.NsDelKeeps
import PyProof.ExcArgsOwn
import KE.KSortKey
import PyProof.Rows.SortStr
import KE.KLam
import KE.KNestM
import PyProof.AttrMiss
import PyProof.IsiH_list
import KE.KDictSum
import KE.KDictOf
import PyProof.Walks
import PyProof.Rows.SortShell
import PyProof.Rows.SortKeyStr
import PyProof.Rows.SetFrom
import PyProof.FactsAll.set_1
import PyProof.ForAny
import PyProof.CollectWalk
import PyProof.Rows.SortWalk
import KE.KRevIter
import PyProof.ListNew
import PyProof.Rows.StrPartPair
import PyProof.Rows.StrNews2
import PyProof.Rows.StrRules
import PyProof.ListTruth
import PyProof.P3Eq
import PySem.Challenge.RW_headroad_k06_whole_thinned_leads_alike
section
set_option Elab.async false
set_option linter.all false
set_option maxRecDepth 100000
/-! THE HAND LAYER, for ints, bools, texts, own classes, LISTS and tuples (index, slices, in, append, pop ..), calls, loops. Paste it whole ahead of your own text; what your proof does not reach may be deleted. -/
namespace L2
open PySem PySem.Spec PyProof.Rows

/-- a key: an int or a str -/
abbrev Key := Sum Int Str
def keyIs : Key → Value → Bool
  | .inl k, v => Value.isInt k v
  | .inr x, v => Value.isStrOf x v
def keyH (w : World) : Key → Int
  | .inl k => hashInt k
  | .inr x => hashStr w x
theorem keyIs_shape : ∀ {k : Key} {v : Value}, keyIs k v = true → (∃ i t, k = Sum.inl i ∧ v = Value.int i t) ∨ (∃ x t, k = Sum.inr x ∧ v = Value.str x t)
  | .inl i, v, h => by
    obtain ⟨t, e⟩ := Value.isInt_shape (k := i) (v := v) h
    exact .inl ⟨i, t, rfl, e⟩
  | .inr x, v, h => by
    obtain ⟨t, e⟩ := Value.isStrOf_shape (x := x) (v := v) h
    exact .inr ⟨x, t, rfl, e⟩
theorem keyIs_int (i : Int) (t : Tok) : keyIs (.inl i) (.int i t) = true := by simp [keyIs, Value.isInt]
theorem keyIs_str (x : Str) (t : Tok) : keyIs (.inr x) (.str x t) = true := by simp [keyIs, Value.isStrOf]
theorem key_ll (a b : Int) : decide ((Sum.inl a : Key) = Sum.inl b) = (a == b) := by
  by_cases e : a = b
  · subst e; simp
  · have h : ¬ (Sum.inl a : Key) = Sum.inl b := fun q => e (Sum.inl.inj q)
    rw [decide_eq_false h]
    exact (beq_eq_false_iff_ne.mpr e).symm
theorem key_rr (a b : Str) : decide ((Sum.inr a : Key) = Sum.inr b) = decide (a = b) := by
  by_cases e : a = b
  · subst e; simp
  · have h : ¬ (Sum.inr a : Key) = Sum.inr b := fun q => e (Sum.inr.inj q)
    rw [decide_eq_false h, decide_eq_false e]
theorem key_lr (a : Int) (b : Str) : decide ((Sum.inl a : Key) = Sum.inr b) = false := decide_eq_false (fun q => nomatch q)
theorem key_rl (a : Str) (b : Int) : decide ((Sum.inr a : Key) = Sum.inl b) = false := decide_eq_false (fun q => nomatch q)

def mixKind (prog : Program) (w : World) : PySem.KeyKind prog w Key where
  is := keyIs
  hash := keyH w
  inj := fun v a b ha hb => by
    rcases keyIs_shape ha with ⟨i, t, rfl, rfl⟩ | ⟨x, t, rfl, rfl⟩
    · rcases keyIs_shape hb with ⟨j, u, rfl, e⟩ | ⟨y, u, rfl, e⟩
      · injection e with e1 _; rw [e1]
      · exact nomatch e
    · rcases keyIs_shape hb with ⟨j, u, rfl, e⟩ | ⟨y, u, rfl, e⟩
      · exact nomatch e
      · injection e with e1 _; rw [e1]
  byValue := fun k v h => by
    rcases keyIs_shape h with ⟨i, t, rfl, rfl⟩ | ⟨x, t, rfl, rfl⟩ <;> rfl
  pyHash := fun hv h => by
    rcases keyIs_shape hv with ⟨i, t, rfl, rfl⟩ | ⟨x, t, rfl, rfl⟩
    · exact wpAny_pyHash_int h
    · exact wpAny_pyHash_str h
  eqBool := fun hu hv h => by
    rcases keyIs_shape hu with ⟨i, t, rfl, rfl⟩ | ⟨x, t, rfl, rfl⟩
    · rcases keyIs_shape hv with ⟨j, u, rfl, rfl⟩ | ⟨y, u, rfl, rfl⟩
      · rw [key_ll] at h; exact wpAny_eqBool_int h
      · rw [key_lr] at h; exact SeqAt.EqAt.int_str i t y u _ _ _ _ h
    · rcases keyIs_shape hv with ⟨j, u, rfl, rfl⟩ | ⟨y, u, rfl, rfl⟩
      · rw [key_rl] at h; exact SeqAt.EqAt.str_int x t j u _ _ _ _ h
      · rw [key_rr] at h; exact wpAny_eqBool_str h
  «strs» := fun k x t v h => by
    rcases keyIs_shape h with ⟨i, u, rfl, e⟩ | ⟨y, u, rfl, e⟩
    · exact nomatch e
    · injection e with e1 _
      subst e1
      cases v <;> rfl

theorem mixKind_is (prog : Program) (w : World) (k : Key) (v : Value) : (mixKind prog w).is k v = keyIs k v := rfl
theorem mixKind_int (prog : Program) (w : World) (i : Int) (t : Tok) : (mixKind prog w).is (.inl i) (.int i t) = true := keyIs_int i t
theorem mixKind_str (prog : Program) (w : World) (x : Str) (t : Tok) : (mixKind prog w).is (.inr x) (.str x t) = true := keyIs_str x t
end L2

namespace L2
open PySem PySem.Spec PyProof.Rows

/-- a value, without the heap -/
inductive V where
  | non | bl (b : Bool) | int (i : Int) | str (x : Str) | byt (b : Array UInt8) | flt (b : UInt64) | ref (a : Addr) | ty (n : String)
  deriving DecidableEq

def RelV : V → Value → Prop
  | .non, u => u = Value.none
  | .bl b, u => u = Value.bool b
  | .int i, u => ∃ t, u = Value.int i t
  | .str x, u => ∃ t, u = Value.str x t
  | .byt b, u => ∃ t, u = Value.bytes b t
  | .flt b, u => ∃ t, u = Value.float b t
  | .ref a, u => u = Value.ref a
  | .ty n, u => u = Value.type n

abbrev Vals : List V → List Value → Prop := Paired RelV
theorem Vals.length {xs : List V} {us : List Value} (r : Vals xs us) : xs.length = us.length := Paired.length r
theorem Vals.get : ∀ {xs : List V} {us : List Value} {i : Nat} {x : V}, Vals xs us → xs[i]? = some x → ∃ u, us[i]? = some u ∧ RelV x u
  | _, _, _, _, .nil, e => by simp at e
  | _, _, 0, _, .cons r _, e => by simp at e; subst e; exact ⟨_, rfl, r⟩
  | _, _, i + 1, x, .cons _ t, e => by
    obtain ⟨u, h1, h2⟩ := Vals.get (i := i) (x := x) t (by simpa using e)
    exact ⟨u, by simpa using h1, h2⟩
theorem Vals.set {x : V} {u : Value} (r : RelV x u) : ∀ {xs : List V} {us : List Value} (i : Nat), Vals xs us → Vals (xs.set i x) (us.set i u)
  | _, _, _, .nil => .nil
  | _, _, 0, .cons _ t => .cons r t
  | _, _, i + 1, .cons q t => .cons q (Vals.set r i t)
theorem Vals.append : ∀ {xs ys : List V} {us ws : List Value}, Vals xs us → Vals ys ws → Vals (xs ++ ys) (us ++ ws)
  | _, _, _, _, .nil, s => s
  | _, _, _, _, .cons r t, s => .cons r (Vals.append t s)
theorem Vals.take : ∀ {xs : List V} {us : List Value} (n : Nat), Vals xs us → Vals (xs.take n) (us.take n)
  | _, _, 0, _ => .nil
  | _, _, _ + 1, .nil => .nil
  | _, _, n + 1, .cons r t => .cons r (Vals.take n t)
theorem Vals.drop : ∀ {xs : List V} {us : List Value} (n : Nat), Vals xs us → Vals (xs.drop n) (us.drop n)
  | _, _, 0, r => r
  | _, _, _ + 1, .nil => .nil
  | _, _, n + 1, .cons _ t => Vals.drop n t
def RelO : Option V → Option Value → Prop
  | some v, some u => RelV v u
  | none, none => True
  | _, _ => False
def KV {κ : Type} : List (κ × V) → List (κ × Value) → Prop := Paired fun (p : κ × V) (q : κ × Value) => p.1 = q.1 ∧ RelV p.2 q.2

/-- a key of a dict (00_mix): an int or a text -/
def kV : Key → V
  | .inl i => .int i
  | .inr x => .str x

/-- what stands at a tracked address -/
inductive HO where
  /-- a list -/
  | lst (xs : List V)
  /-- a tuple (never changes) -/
  | tup (xs : List V)
  /-- a dict whose keys are ints and texts; one whose keys are tuples of ints and texts (the empty one is both) -/
  | dK (kvs : List (Key × V)) | dT (kvs : List (List Key × V))
  /-- a set of ints: its members, its size -/
  | set (S : Int → Bool) (n : Nat)
  /-- an instance of the class at C, its dict at dx, its attributes -/
  | ins (C dx : Addr) (fs : List (Str × V))
  /-- the dict of the instance at x -/
  | own (x : Addr)
  /-- the dict of an exception -/
  | xd (fs : List (Str × V))
  /-- a bound method, f of x -/
  | met (f x : Addr)
  /-- a range object lo, lo + 1, .. below hi -/
  | rng (lo hi : Int)
  /-- a thing that is known to the object (the script; a dict while a loop walks it): read, never written while it is so -/
  | frz (o : Obj) (u : HO)
  /-- a code object's table -/
  | tbl (ps : Array Value)
  /-- any other thing, by what is true of its one object (a def of one's own: SetO a S n := HO.ext fun h => ..) -/
  | ext (φ : Heap → Prop)

abbrev Hp := Addr → Option HO
def upd (H : Hp) (a : Addr) (o : HO) : Hp := fun b => if b = a then some o else H b
theorem upd_same {H : Hp} {a : Addr} {o : HO} : upd H a o a = some o := by unfold upd; rw [if_pos rfl]
theorem upd_ne {H : Hp} {a b : Addr} {o : HO} (h : b ≠ a) : upd H a o b = H b := by unfold upd; rw [if_neg h]
theorem upd_upd {H : Hp} {a : Addr} {o u : HO} : upd (upd H a o) a u = upd H a u := by
  funext b; unfold upd; split <;> rfl
/-- two objects of different content stand apart -/
theorem ne_of {H : Hp} {a b : Addr} {o u : HO} (h : H a = some o) (h' : H b = some u) (d : o ≠ u) : a ≠ b := by
  intro e; subst e; rw [h] at h'; exact d (Option.some.inj h')
theorem ne_of_none {H : Hp} {a b : Addr} {o : HO} (h : H a = some o) (h' : H b = none) : a ≠ b := by
  intro e; subst e; rw [h] at h'; cases h'

section
variable (P : Program) (w : World)
def ObjOk (H : Hp) (h : Heap) (a : Addr) : HO → Prop
  | .lst xs => xs.length ≤ sizeLine ∧ ∃ (its : List Value) (n : Nat), Vals xs its ∧ h.get? a = some { cls := .type "list", data := .seq its.toArray n }
  | .tup xs => xs.length ≤ sizeLine ∧ ∃ its : List Value, Vals xs its ∧ IsTup h a its.toArray
  | .dK kvs => kvs.length ≤ sizeLine ∧ (a == sysModules) = false ∧ ∃ vs, KV kvs vs ∧ h.DictOf (mixKind P w) a vs
  | .dT kvs => kvs.length ≤ sizeLine ∧ (a == sysModules) = false ∧ ∃ xs : List (List Key × Addr × Value),
      Paired (fun (p : List Key × V) (q : List Key × Addr × Value) => p.1 = q.1 ∧ H q.2.1 = some (.tup (p.1.map kV)) ∧ RelV p.2 q.2.2) kvs xs ∧
      ∃ o es ep, h.get? a = some o ∧ o.ExactDict ∧ o.data = .dict es ep ∧ es.toList = xs.map (entryOfKey (tupleKind (mixKind P w))) ∧ (xs.map (·.1)).Nodup
  | .set S n => h.SetOf (intKind P w) a S n
  | .ins C dx fs => H dx = some (.own a) ∧ fs.length ≤ 1000 ∧ dx ≠ a ∧ h.get? a = some (PySem.W.instObj C dx) ∧
      ∃ mA, h.Ns1 dx mA ∧ (∀ f, RelO (fs.lookup f) (mA f)) ∧ PySem.Within mA (fs.map (·.1))
  | .own _ => ∃ o, h.get? a = some o
  | .xd fs => ∃ mA, h.Ns1 a mA ∧ ∀ f, RelO (fs.lookup f) (mA f)
  | .rng lo hi => ∃ t u v, h.get? a = some { cls := .type "range", data := .fields #[.int lo t, .int hi u, .int 1 v] }
  | .frz o u => h.get? a = some o ∧ ObjOk H h a u
  | .tbl ps => h.get? a = some { cls := .none, data := .fields ps }
  | .met f x => h.get? a = some (PySem.W.methodObj (.ref f) (.ref x))
  | .ext φ => φ h ∧ (∃ o, h.get? a = some o) ∧ ∀ h1 h2 : Heap, φ h1 → (∀ o, h1.get? a = some o → h2.get? a = some o) → φ h2
/-- the abstract heap is held -/
def HOk (H : Hp) (h : Heap) : Prop := ∀ a o, H a = some o → ObjOk P w H h a o
end

section
variable {P : Program} {w : World} {H H' : Hp} {h h' : Heap} {a : Addr} {o : HO}
theorem ObjOk.lt (x : ObjOk P w H h a o) : a < h.objs.size := by
  cases o with
  | lst xs => obtain ⟨_, _, _, _, e⟩ := x; exact Heap.lt_size e
  | tup xs => obtain ⟨_, _, _, p⟩ := x; exact p.lt
  | dK kvs => obtain ⟨_, _, _, _, o, _, _, e, _⟩ := x; exact Heap.lt_size e
  | dT kvs => obtain ⟨_, _, _, _, o, _, _, e, _⟩ := x; exact Heap.lt_size e
  | set S n => obtain ⟨o, _, _, _, e, _⟩ := x; exact Heap.lt_size e
  | ins C dx fs => obtain ⟨_, _, _, e, _⟩ := x; exact Heap.lt_size e
  | own y => obtain ⟨_, e⟩ := x; exact Heap.lt_size e
  | xd fs => obtain ⟨_, ⟨_, _, _, e, _⟩, _⟩ := x; exact Heap.lt_size e
  | rng lo hi => obtain ⟨_, _, _, e⟩ := x; exact Heap.lt_size e
  | frz ob u => obtain ⟨e, _⟩ := x; exact Heap.lt_size e
  | tbl ps => exact Heap.lt_size (show h.get? a = some _ from x)
  | met f y => exact Heap.lt_size (show h.get? a = some _ from x)
  | ext φ => obtain ⟨_, ⟨_, e⟩, _⟩ := x; exact Heap.lt_size e
theorem Paired.mapP {α β : Type} {F G : α → β → Prop} : ∀ {l₁ : List α} {l₂ : List β}, Paired F l₁ l₂ → (∀ a b, F a b → G a b) → Paired G l₁ l₂
  | _, _, .nil, _ => .nil
  | _, _, .cons r t, f => .cons (f _ _ r) (Paired.mapP t f)
/-- what an object's description leans on: its own object, its own dict, the tuples -/
theorem ObjOk.stay (x : ObjOk P w H h a o) (k : ∀ b u, (b = a ∨ H b = some (.own a)) → h.get? b = some u → h'.get? b = some u)
    (ho : ∀ b, H b = some (.own a) → H' b = some (.own a)) (ht : ∀ b xs, H b = some (.tup xs) → H' b = some (.tup xs)) : ObjOk P w H' h' a o := by
  induction o with
  | lst xs => obtain ⟨z, its, n, r, e⟩ := x; exact ⟨z, its, n, r, k _ _ (.inl rfl) e⟩
  | tup xs => obtain ⟨z, its, r, ob, e, c⟩ := x; exact ⟨z, its, r, ob, k _ _ (.inl rfl) e, c⟩
  | dK kvs => obtain ⟨z, y, vs, r, ob, es, ep, e, c⟩ := x; exact ⟨z, y, vs, r, ob, es, ep, k _ _ (.inl rfl) e, c⟩
  | dT kvs =>
    obtain ⟨z, y, xs, r, ob, es, ep, e, c⟩ := x
    exact ⟨z, y, xs, Paired.mapP r fun p q z => ⟨z.1, ht _ _ z.2.1, z.2.2⟩, ob, es, ep, k _ _ (.inl rfl) e, c⟩
  | set S n => obtain ⟨ob, es, ep, t, e, c⟩ := x; exact ⟨ob, es, ep, t, k _ _ (.inl rfl) e, c⟩
  | ins C dx fs =>
    obtain ⟨d, z, ne, e, mA, ⟨od, es, ep, e2, c⟩, r⟩ := x
    exact ⟨ho _ d, z, ne, k _ _ (.inl rfl) e, mA, ⟨od, es, ep, k _ _ (.inr d) e2, c⟩, r⟩
  | own y => obtain ⟨ob, e⟩ := x; exact ⟨ob, k _ _ (.inl rfl) e⟩
  | xd fs => obtain ⟨mA, ⟨od, es, ep, e, c⟩, r⟩ := x; exact ⟨mA, ⟨od, es, ep, k _ _ (.inl rfl) e, c⟩, r⟩
  | rng lo hi => obtain ⟨t, u, v, e⟩ := x; exact ⟨t, u, v, k _ _ (.inl rfl) e⟩
  | frz ob u ih => obtain ⟨e, q⟩ := x; exact ⟨k _ _ (.inl rfl) e, ih q⟩
  | tbl ps =>
    have e : h.get? a = some { cls := .none, data := .fields ps } := x
    show h'.get? a = some { cls := .none, data := .fields ps }
    exact k a _ (.inl rfl) e
  | met f y =>
    have e : h.get? a = some (PySem.W.methodObj (.ref f) (.ref y)) := x
    show h'.get? a = some (PySem.W.methodObj (.ref f) (.ref y))
    exact k a _ (.inl rfl) e
  | ext φ => obtain ⟨p, ⟨o, e⟩, st⟩ := x; exact ⟨st _ _ p fun o q => k _ _ (.inl rfl) q, ⟨o, k _ _ (.inl rfl) e⟩, st⟩
theorem HOk.lt (x : HOk P w H h) (e : H a = some o) : a < h.objs.size := (x a o e).lt
theorem HOk.fresh (x : HOk P w H h) (e : h.objs.size ≤ a) : H a = none := by
  cases q : H a with
  | none => rfl
  | some u => exact absurd (Nat.lt_of_lt_of_le (x.lt q) e) (Nat.lt_irrefl _)
/-- every object of the heap is kept -/
theorem HOk.kept (x : HOk P w H h) (k : ∀ b u, h.get? b = some u → h'.get? b = some u) : HOk P w H h' := fun a o e =>
  (x a o e).stay (fun b u _ q => k b u q) (fun _ q => q) fun _ _ q => q
/-- a new object is laid and tracked -/
theorem HOk.laid (x : HOk P w H h) (k : ∀ b u, h.get? b = some u → h'.get? b = some u) (hp : h.objs.size ≤ a) (new : ObjOk P w (upd H a o) h' a o) : HOk P w (upd H a o) h' := fun b u e => by
  have hn := x.fresh hp
  by_cases hb : b = a
  · subst hb; rw [upd_same] at e; cases e; exact new
  · rw [upd_ne hb] at e
    exact (x b u e).stay (fun c v _ q => k c v q) (fun c q => by rw [upd_ne (ne_of_none q hn)]; exact q) fun c xs q => by rw [upd_ne (ne_of_none q hn)]; exact q
end

/-- what may be read as u: it is u, or a known u -/
def Rd (H : Hp) (a : Addr) (u : HO) : Prop := H a = some u ∨ ∃ o, H a = some (.frz o u)
theorem Rd.of {H : Hp} {a : Addr} {u : HO} (h : H a = some u) : Rd H a u := .inl h
theorem Rd.ok {P : Program} {w : World} {H : Hp} {h : Heap} {a : Addr} {u : HO} (r : Rd H a u) (x : HOk P w H h) : ObjOk P w H h a u := by
  rcases r with r | ⟨o, r⟩
  · exact x a u r
  · obtain ⟨_, q⟩ := x a _ r
    exact q
/-- what may be written -/
def Mut : Option HO → Prop
  | some (.lst _) => True
  | some (.dK _) => True
  | some (.dT _) => True
  | some (.set _ _) => True
  | some (.ins _ _ _) => True
  | some (.ext _) => True
  | _ => False
section
variable {P : Program} {w : World} {H : Hp} {h h' : Heap} {x e : Addr} {o' : HO}
/-- the object at e is changed: x itself, or the dict of the instance x -/
theorem HOk.write (ok : HOk P w H h) (mu : Mut (H x)) (he : e = x ∨ H e = some (.own x)) (k : ∀ b u, b ≠ e → h.get? b = some u → h'.get? b = some u) (heo : ∃ u, h'.get? e = some u)
    (new : ObjOk P w (upd H x o') h' x o') : HOk P w (upd H x o') h' := fun b u q => by
  have nown : ∀ c y, H c = some (.own y) → c ≠ x := fun c y r z => by subst z; rw [r] at mu; exact mu
  have ntup : ∀ c xs, H c = some (.tup xs) → c ≠ x := fun c xs r z => by subst z; rw [r] at mu; exact mu
  by_cases hb : b = x
  · subst hb; rw [upd_same] at q; cases q; exact new
  · rw [upd_ne hb] at q
    by_cases hbe : b = e
    · have q' : H b = some (.own x) := by
        rcases he with z | z
        · exact absurd (hbe.trans z) hb
        · rw [hbe]; exact z
      rw [q] at q'; cases q'
      obtain ⟨v, hv⟩ := heo
      exact ⟨v, by rw [hbe]; exact hv⟩
    · refine (ok b u q).stay (fun c v hc r => k c v ?_ r) (fun c r => by rw [upd_ne (nown c b r)]; exact r) fun c xs r => by rw [upd_ne (ntup c xs r)]; exact r
      rcases hc with rfl | hc
      · exact hbe
      · rintro rfl
        rcases he with z | z
        · exact nown c b hc z
        · rw [hc] at z; cases z; exact hb rfl
end

/-! ### kept unless tracked; of the frames at fs (the callers') the slots may change (an exception that passes writes there); of the records at ex (iterators) nothing is said -/
structure Un (fs ex : List Addr) (H H' : Hp) (h h' : Heap) : Prop where
  keep : ∀ b o, h.get? b = some o → H b = none → b ∉ fs → b ∉ ex → h'.get? b = some o
  slot : ∀ b o, h.get? b = some o → H b = none → b ∈ fs → b ∉ ex → ∃ sl, h'.get? b = some { o with slots := sl }
  free : ∀ b o, h.get? b = some o → H b = none → b ∉ ex → H' b = none
  there : ∀ b o, h.get? b = some o → b ∉ ex → ∃ o', h'.get? b = some o'
  tups : ∀ b xs, H b = some (.tup xs) → H' b = some (.tup xs)
  frzs : ∀ b o u, H b = some (.frz o u) → H' b = some (.frz o u)
  tbls : ∀ b ps, H b = some (.tbl ps) → ∃ more, H' b = some (.tbl (ps ++ more))
section
variable {fs fs' ex ex' : List Addr} {H H1 H2 : Hp} {h h1 h2 h' : Heap} {a x e : Addr} {o : HO}
theorem Un.any (u : Un fs ex H H1 h h1) {b : Addr} {ob : Obj} (q : h.get? b = some ob) (n : H b = none) (hx : b ∉ ex) : ∃ sl, h1.get? b = some { ob with slots := sl } := by
  by_cases hb : b ∈ fs
  · exact u.slot b ob q n hb hx
  · exact ⟨ob.slots, u.keep b ob q n hb hx⟩
theorem Un.trans (a : Un fs ex H H1 h h1) (b : Un fs ex H1 H2 h1 h2) : Un fs ex H H2 h h2 where
  keep := fun c ob q n hc hx => b.keep c ob (a.keep c ob q n hc hx) (a.free c ob q n hx) hc hx
  slot := fun c ob q n hc hx => by
    obtain ⟨sl, e1⟩ := a.slot c ob q n hc hx
    obtain ⟨sl', e2⟩ := b.slot c _ e1 (a.free c ob q n hx) hc hx
    exact ⟨sl', e2⟩
  free := fun c ob q n hx => by
    obtain ⟨o', e1⟩ := a.there c ob q hx
    exact b.free c o' e1 (a.free c ob q n hx) hx
  there := fun c ob q hx => by
    obtain ⟨o', e1⟩ := a.there c ob q hx
    exact b.there c o' e1 hx
  tups := fun c xs q => b.tups c xs (a.tups c xs q)
  frzs := fun c ob xs q => b.frzs c ob xs (a.frzs c ob xs q)
  tbls := fun c ps q => by
    obtain ⟨m1, e1⟩ := a.tbls c ps q
    obtain ⟨m2, e2⟩ := b.tbls c _ e1
    exact ⟨m1 ++ m2, by rw [e2, Array.append_assoc]⟩
theorem Un.kept (k : ∀ b u, h.get? b = some u → h'.get? b = some u) : Un fs ex H H h h' :=
  ⟨fun b ob q _ _ _ => k b ob q, fun b ob q _ _ _ => ⟨ob.slots, k b ob q⟩, fun _ _ _ n _ => n, fun b ob q _ => ⟨ob, k b ob q⟩, fun _ _ q => q, fun _ _ _ q => q, fun _ ps q => ⟨#[], by rw [q]; simp⟩⟩
theorem Un.refl : Un fs ex H H h h := Un.kept fun _ _ q => q
theorem Un.laid (k : ∀ b u, h.get? b = some u → h'.get? b = some u) (hp : h.objs.size ≤ a) (hn : H a = none) : Un fs ex H (upd H a o) h h' where
  keep := fun b u q _ _ _ => k b u q
  slot := fun b u q _ _ _ => ⟨u.slots, k b u q⟩
  free := fun b u q n _ => by rw [upd_ne (Nat.ne_of_lt (Nat.lt_of_lt_of_le (Heap.lt_size q) hp))]; exact n
  there := fun b u q _ => ⟨u, k b u q⟩
  tups := fun b xs q => by rw [upd_ne (ne_of_none q hn)]; exact q
  frzs := fun b u xs q => by rw [upd_ne (ne_of_none q hn)]; exact q
  tbls := fun b ps q => ⟨#[], by rw [upd_ne (ne_of_none q hn), q]; simp⟩
theorem Un.write (mu : Mut (H x)) (he : e = x ∨ H e = some (.own x)) (k : ∀ b u, b ≠ e → h.get? b = some u → h'.get? b = some u) (heo : ∃ u, h'.get? e = some u) : Un fs ex H (upd H x o) h h' := by
  have hx : ∀ b, H b = none → b ≠ x := fun b n z => by subst z; rw [n] at mu; exact mu
  have hb : ∀ b, H b = none → b ≠ e := fun b n z => by
    subst z
    rcases he with r | r
    · exact hx b n r
    · rw [n] at r; cases r
  have hm : ∀ b u, H b = some u → ¬ Mut (some u) → b ≠ x := fun b u q nm z => by subst z; rw [q] at mu; exact nm mu
  refine ⟨fun b u q n _ _ => k b u (hb b n) q, fun b u q n _ _ => ⟨u.slots, k b u (hb b n) q⟩, fun b u q n _ => by rw [upd_ne (hx b n)]; exact n, fun b u q _ => ?_,
    fun b xs q => by rw [upd_ne (hm b _ q fun z => z)]; exact q, fun b u xs q => by rw [upd_ne (hm b _ q fun z => z)]; exact q, fun b ps q => ⟨#[], by rw [upd_ne (hm b _ q fun z => z), q]; simp⟩⟩
  by_cases hbe : b = e
  · subst hbe; exact heo
  · exact ⟨u, k b u hbe q⟩
theorem Un.mono (u : Un fs ex H H1 h h1) (hs : ∀ b ∈ fs, b ∈ fs') (hx : ∀ b ∈ ex, b ∈ ex') : Un fs' ex' H H1 h h1 :=
  ⟨fun b ob q n hb he => u.keep b ob q n (fun z => hb (hs b z)) fun z => he (hx b z), fun _ _ q n _ he => u.any q n fun z => he (hx _ z), fun b ob q n he => u.free b ob q n fun z => he (hx b z), fun b ob q he => u.there b ob q fun z => he (hx b z), u.tups, u.frzs, u.tbls⟩
end

/-! ### the heap without what is tracked -/
def trk (h : Heap) (H : Hp) : List Addr := (List.range h.objs.size).filter fun a => (H a).isSome
def hidT (h : Heap) (H : Hp) : Heap := PySem.W.hideAll h (trk h H)
theorem hidT_size (h : Heap) (H : Hp) : (hidT h H).objs.size = h.objs.size := PySem.W.hideAll_size _ _
theorem hidT_get {h : Heap} {H : Hp} {b : Addr} {o : Obj} (e : h.get? b = some o) (n : H b = none) : (hidT h H).get? b = some o :=
  PySem.W.hideAll_get _ e fun hm => by
    have q : (H b).isSome = true := (List.mem_filter.mp hm).2
    rw [n] at q; simp at q
theorem of_hidT {h : Heap} {H : Hp} {b : Addr} {o : Obj} (e : (hidT h H).get? b = some o) : h.get? b = some o ∧ H b = none := by
  have e' : h.get? b = some o := PySem.W.of_hideAll (trk h H) e
  refine ⟨e', ?_⟩
  cases q : H b with
  | none => rfl
  | some x =>
    have hm : b ∈ trk h H := List.mem_filter.mpr ⟨List.mem_range.mpr (Heap.lt_size e'), by simp [q]⟩
    have z : (hidT h H).get? b = none := PySem.W.hideAll_none (trk h H) hm
    rw [z] at e; cases e

/-! ### OpenK's ledger, filled with every new object but one -/
def allNews (g h : Heap) (L : Addr) : List (Addr × Obj) := (List.range h.objs.size).filterMap fun a => if a = L ∨ (g.get? a).isSome = true then none else (h.get? a).map fun o => (a, o)
def rest (g h : Heap) (L d : Addr) : List (Addr × Obj) := (allNews g h L).filter fun p => decide (p.1 ≠ d)
end L2

namespace L2
open PySem PySem.Spec PyProof.Rows

/-- the module's facts, over the base: the heap at the law's entry without what is tracked there -/
structure Mod (K : PySem.W.Frag) (mg : Str → Option Value) (base : Heap) : Prop where
  kin : K.In base
  glob : base.Ns mainGlobals mg
  blt : ∃ mb, base.Ns builtinsNs mb ∧ ∀ x : Str, x ≠ "__name__" → mb x = bootBuiltins x
  nolimit : base.NoLimit

/-- the context: a def's body (or a comprehension's block) running. base: fixed through the whole law; s₀, H₀: the entry; outer: the frames whose slots others may change (a def's callers); stack: all frames that run;
   ex: iterators that were made ahead of the entry and are walked here (a comprehension's); fn: the names whose cells were made at the entry (a def: all; a comprehension's block: its own); calm: not within an except suite; pn: pins that every state bears; xe: what is wanted of an exception that leaves the code -/
structure Cx where
  prog : Program
  w : World
  K : PySem.W.Frag
  mg : Str → Option Value
  base : Heap
  A : Around
  N : List Str
  s₀ : Shared
  H₀ : Hp
  env : Env
  outer : List Env
  stack : List Env
  ex : List Addr
  fn : Str → Bool
  calm : Bool
  pn : List (Addr × Obj)
  xe : Value → Shared → Prop
/-- the callers' frames -/
def frs (l : List Env) : List Addr := l.filterMap (·.frame)
abbrev Cx.fs (X : Cx) : List Addr := frs X.outer

def Vis (sc : Scope) (x : Str) : Prop := sc.names.lookup x = some .local ∨ sc.names.lookup x = some .cell ∨ sc.names.lookup x = some .free
def Loc (sc : Scope) (x : Str) : Prop := sc.names.lookup x = some .local ∨ sc.names.lookup x = some .cell
def Look (env : Env) (h : Heap) (m : Str → Option Value) (x : Str) (u : Value) : Prop :=
  (env.kindOf x = some .local ∧ m x = some u) ∨ ((env.kindOf x = some .cell ∨ env.kindOf x = some .free) ∧ ∃ c, env.cells.lookup x = some c ∧ h.IsCell c (some u))

structure Cx.Ok (X : Cx) : Prop where
  mod : Mod X.K X.mg X.base
  kind : X.env.scope.kind = .function
  glob : X.env.globals = mainGlobals
  blt : X.env.builtins = builtinsNs
  above : X.s₀.heap.objs.size ≤ X.env.locals
  inj : ∀ x y c, X.env.cells.lookup x = some c → X.env.cells.lookup y = some c → x = y
  has : ∀ x, (X.env.kindOf x = some .cell ∨ X.env.kindOf x = some .free) → ∃ c, X.env.cells.lookup x = some c
  cab : ∀ x c, X.fn x = true → X.env.cells.lookup x = some c → X.s₀.heap.objs.size ≤ c
  hd : X.calm = true → X.A.handled = none
  frames : X.A.frames = some X.stack
  stk : X.stack = X.outer ∨ (X.stack = X.env :: X.outer ∧ X.env.frame = some X.env.locals)
  exf : ∀ b ∈ X.ex, b ≠ X.env.locals ∧ ∀ x c, X.env.cells.lookup x = some c → c ≠ b
  bs : ∀ b o, X.base.get? b = some o → X.s₀.heap.get? b = some o ∧ X.H₀ b = none
  bsz : X.base.objs.size ≤ X.s₀.heap.objs.size
  noex : ∀ b o, X.base.get? b = some o → b ∉ X.ex
  exfs : ∀ b ∈ X.ex, b ∉ X.fs
  funs : X.s₀.heap.FunFrames X.base X.outer
  frf : ∀ b ∈ X.fs, X.H₀ b = none

structure Inv (X : Cx) (pins : List (Addr × Obj)) (σ : List (Option V)) (H : Hp) (s : Shared) : Prop where
  ok : X.Ok
  os : s.os = X.s₀.os
  bare : AllBare s.gens
  base : Un X.fs X.ex X.H₀ H X.s₀.heap s.heap
  loc : ∃ m, s.heap.Ns X.env.locals m ∧ ∀ (i : Nat) (x : Str) (v : V), X.N[i]? = some x → σ[i]? = some (some v) → Vis X.env.scope x → ∃ u, RelV v u ∧ Look X.env s.heap m x u
  cell : ∀ x c, X.env.cells.lookup x = some c → ∃ v, s.heap.IsCell c v
  free : H X.env.locals = none
  freeC : ∀ x c, X.env.cells.lookup x = some c → H c = none
  pin : ∀ p ∈ X.pn ++ pins, s.heap.get? p.1 = some p.2 ∧ H p.1 = none ∧ p.1 ≠ X.env.locals ∧ p.1 ∉ X.fs ∧ ∀ v, p.2.data ≠ .cell v
  hok : HOk X.prog X.w H s.heap
  len : σ.length = X.N.length

section
variable {X : Cx} {pins : List (Addr × Obj)} {σ : List (Option V)} {H H' : Hp} {s : Shared} {h' : Heap}

theorem Cx.Ok.nofr (ok : X.Ok) {b : Addr} {o : Obj} (e : X.base.get? b = some o) : b ∉ X.fs := fun hb => by
  have := (ok.funs.mem hb).1
  rw [e] at this; cases this
theorem Inv.bs (I : Inv X pins σ H s) : ∀ b o, X.base.get? b = some o → s.heap.get? b = some o ∧ H b = none := fun b o e =>
  ⟨I.base.keep b o (I.ok.bs b o e).1 (I.ok.bs b o e).2 (I.ok.nofr e) (I.ok.noex b o e), I.base.free b o (I.ok.bs b o e).1 (I.ok.bs b o e).2 (I.ok.noex b o e)⟩
theorem Inv.bk (I : Inv X pins σ H s) : ∀ b o, X.base.get? b = some o → s.heap.get? b = some o := fun b o e => (I.bs b o e).1
theorem Inv.mod (I : Inv X pins σ H s) : Mod X.K X.mg X.base := I.ok.mod
theorem Inv.kIn (I : Inv X pins σ H s) : X.K.In s.heap := I.ok.mod.kin.keeps I.bk
theorem Inv.nolimit (I : Inv X pins σ H s) : s.heap.NoLimit := I.ok.mod.nolimit.keeps I.bk
/-- the frame over the base: for OpenK's rules (K.In X.base is I.mod.kin) -/
theorem Inv.fr (I : Inv X pins σ H s) : ∃ m, Fr X.base X.env.locals s.heap m :=
  let ⟨m, hn, _⟩ := I.loc
  ⟨m, hn, I.bk, Nat.le_trans I.ok.bsz I.ok.above⟩
theorem Inv.lt (I : Inv X pins σ H s) : X.env.locals < s.heap.objs.size := let ⟨_, hn, _⟩ := I.loc; hn.lt
theorem Inv.sz (I : Inv X pins σ H s) : X.s₀.heap.objs.size ≤ s.heap.objs.size := Nat.le_trans I.ok.above (Nat.le_of_lt I.lt)
theorem Inv.nofs (I : Inv X pins σ H s) {a : Addr} (h : s.heap.objs.size ≤ a) : a ∉ X.fs := fun hb => by
  obtain ⟨_, o, ho, _⟩ := I.ok.funs.mem hb
  exact absurd (Nat.lt_of_lt_of_le (Heap.lt_size ho) (Nat.le_trans I.sz h)) (Nat.lt_irrefl _)
theorem Inv.cne (I : Inv X pins σ H s) : ∀ x c, X.env.cells.lookup x = some c → c ≠ X.env.locals := fun x c e z => by
  obtain ⟨v, o, ho, hd⟩ := I.cell x c e
  obtain ⟨m, ⟨o', es, ep, ho', hd', _⟩, _⟩ := I.loc
  rw [z, ho'] at ho; cases ho; rw [hd'] at hd; cases hd
theorem Inv.funs (I : Inv X pins σ H s) : s.heap.FunFrames X.base X.outer := by
  have all : ∀ (l : List Env), (∀ b ∈ frs l, b ∈ X.fs) → X.s₀.heap.FunFrames X.base l → s.heap.FunFrames X.base l := by
    intro l
    induction l with
    | nil => intro _ _; trivial
    | cons env r ih =>
      intro hs hl
      obtain ⟨hk, ⟨L, o, hf, hn, ho, hd⟩, hr⟩ := hl
      have hL : L ∈ X.fs := hs L (by unfold frs; rw [List.filterMap_cons, hf]; exact List.mem_cons_self)
      obtain ⟨sl, e⟩ := I.base.slot L o ho (I.ok.frf L hL) hL fun z => I.ok.exfs L z hL
      exact ⟨hk, ⟨L, _, hf, hn, e, hd⟩, ih (fun b hb => hs b (by unfold frs; rw [List.filterMap_cons, hf]; exact List.mem_cons_of_mem _ hb)) hr⟩
  exact all X.outer (fun _ hb => hb) I.ok.funs

/-- the frames that run, for a call -/
theorem Inv.stack (I : Inv X pins σ H s) : s.heap.FunFrames X.base X.stack := by
  rcases I.ok.stk with e | ⟨e, hf⟩
  · rw [e]; exact I.funs
  · rw [e]
    obtain ⟨m, hn, _⟩ := I.loc
    refine .cons (by rw [I.ok.kind]; decide) hf hn ?_ I.funs
    exact Heap.get?_none_of_le (Nat.le_trans I.ok.bsz I.ok.above)
theorem Inv.stkSub (I : Inv X pins σ H s) : ∀ b ∈ frs X.stack, b ∈ X.env.locals :: X.fs := fun b hb => by
  rcases I.ok.stk with e | ⟨e, hf⟩
  · rw [e] at hb; exact List.mem_cons_of_mem _ hb
  · rw [e] at hb
    unfold frs at hb
    rw [List.filterMap_cons, hf] at hb
    exact hb
theorem Inv.stkFree (I : Inv X pins σ H s) : ∀ b ∈ frs X.stack, H b = none := fun b hb => by
  rcases List.mem_cons.mp (I.stkSub b hb) with e | hb
  · rw [e]; exact I.free
  · obtain ⟨_, o, ho, _⟩ := I.ok.funs.mem hb
    exact I.base.free b o ho (I.ok.frf b hb) fun z => I.ok.exfs b z hb

/-- THE STEP: the untracked objects but the frame and the records at ch are kept (the callers' frames up to slots), the frame's map is kept, the new abstract heap is held -/
theorem Inv.step {g' : Array GenState} {t' : Nat} {d' : Drawn} {ch : List Addr} (I : Inv X pins σ H s)
    (hch : ∀ b ∈ ch, (b ∈ X.ex ∨ X.s₀.heap.objs.size ≤ b) ∧ b ≠ X.env.locals ∧ (∀ x c, X.env.cells.lookup x = some c → c ≠ b) ∧ ∀ p ∈ X.pn ++ pins, p.1 ≠ b)
    (keep : ∀ b o, b ≠ X.env.locals → b ∉ X.fs → b ∉ ch → s.heap.get? b = some o → H b = none → h'.get? b = some o)
    (slot : ∀ b o, b ≠ X.env.locals → b ∈ X.fs → b ∉ ch → s.heap.get? b = some o → H b = none → ∃ sl, h'.get? b = some { o with slots := sl }) (free : ∀ b o, b ∉ ch → s.heap.get? b = some o → H b = none → H' b = none)
    (there : ∀ b o, b ∉ ch → s.heap.get? b = some o → ∃ o', h'.get? b = some o')
    (tups : ∀ b xs, H b = some (.tup xs) → H' b = some (.tup xs)) (frzs : ∀ b o u, H b = some (.frz o u) → H' b = some (.frz o u)) (tbls : ∀ b ps, H b = some (.tbl ps) → ∃ more, H' b = some (.tbl (ps ++ more)))
    (ns : ∀ m, s.heap.Ns X.env.locals m → h'.Ns X.env.locals m) (hok : HOk X.prog X.w H' h') (hg : AllBare g') :
    Inv X pins σ H' { s with heap := h', gens := g', drawn := d', toks := t' } := by
  have neL : ∀ b o, X.s₀.heap.get? b = some o → b ≠ X.env.locals := fun b o e => Nat.ne_of_lt (Nat.lt_of_lt_of_le (Heap.lt_size e) I.ok.above)
  have neC : ∀ b o, X.s₀.heap.get? b = some o → b ∉ X.ex → b ∉ ch := fun b o e hx hb => by
    rcases (hch b hb).1 with z | z
    · exact hx z
    · exact absurd (Nat.lt_of_lt_of_le (Heap.lt_size e) z) (Nat.lt_irrefl _)
  have cellK : ∀ x c, X.env.cells.lookup x = some c → ∀ v, s.heap.IsCell c v → h'.IsCell c v := fun x c e v ⟨o, ho, hd⟩ => by
    have nch : c ∉ ch := fun z => (hch c z).2.2.1 x c e rfl
    by_cases hc : c ∈ X.fs
    · obtain ⟨sl, q⟩ := slot c o (I.cne x c e) hc nch ho (I.freeC x c e)
      exact ⟨_, q, hd⟩
    · exact ⟨o, keep c o (I.cne x c e) hc nch ho (I.freeC x c e), hd⟩
  refine ⟨I.ok, I.os, hg, ⟨fun b o e n hb hx => ?_, fun b o e n hb hx => ?_, fun b o e n hx => ?_, fun b o e hx => ?_, fun b xs e => tups b xs (I.base.tups b xs e), fun b o xs e => frzs b o xs (I.base.frzs b o xs e), fun b ps e => ?_⟩, ?_, fun x c e => ?_, ?_, fun x c e => ?_, fun p hp => ?_, hok, I.len⟩
  · exact keep b o (neL b o e) hb (neC b o e hx) (I.base.keep b o e n hb hx) (I.base.free b o e n hx)
  · obtain ⟨sl, e1⟩ := I.base.slot b o e n hb hx
    obtain ⟨sl', e2⟩ := slot b _ (neL b o e) hb (neC b o e hx) e1 (I.base.free b o e n hx)
    exact ⟨sl', e2⟩
  · obtain ⟨o', e1⟩ := I.base.there b o e hx
    exact free b o' (neC b o e hx) e1 (I.base.free b o e n hx)
  · obtain ⟨o', e1⟩ := I.base.there b o e hx
    exact there b o' (neC b o e hx) e1
  · obtain ⟨m1, e1⟩ := I.base.tbls b ps e
    obtain ⟨m2, e2⟩ := tbls b _ e1
    exact ⟨m1 ++ m2, by rw [e2, Array.append_assoc]⟩
  · obtain ⟨m, hn, hl⟩ := I.loc
    refine ⟨m, ns m hn, fun i x v e1 e2 e3 => ?_⟩
    obtain ⟨u, r, l⟩ := hl i x v e1 e2 e3
    refine ⟨u, r, ?_⟩
    rcases l with l | ⟨k, c, e, z⟩
    · exact .inl l
    · exact .inr ⟨k, c, e, cellK x c e _ z⟩
  · obtain ⟨v, z⟩ := I.cell x c e
    exact ⟨v, cellK x c e v z⟩
  · obtain ⟨m, ⟨o, _, _, ho, _⟩, _⟩ := I.loc
    exact free _ o (fun z => (hch _ z).2.1 rfl) ho I.free
  · obtain ⟨v, o, ho, hd⟩ := I.cell x c e
    exact free c o (fun z => (hch c z).2.2.1 x c e rfl) ho (I.freeC x c e)
  · obtain ⟨e, n, ne, nf, d⟩ := I.pin p hp
    have nch : p.1 ∉ ch := fun z => (hch p.1 z).2.2.2 p hp rfl
    exact ⟨keep p.1 p.2 ne nf nch e n, free p.1 p.2 nch e n, ne, nf, d⟩
/-- .. where the frame's own object is kept too -/
theorem Inv.un {t' : Nat} (I : Inv X pins σ H s) (u : Un X.fs [] H H' s.heap h') (hok : HOk X.prog X.w H' h') : Inv X pins σ H' { s with heap := h', toks := t' } := by
  obtain ⟨m, ⟨o, es, ep, ho, r⟩, _⟩ := id I.loc
  obtain ⟨sl, hL⟩ := u.any ho I.free (by simp)
  exact I.step (g' := s.gens) (d' := s.drawn) (ch := []) (fun _ z => nomatch z) (fun b o _ hb _ e n => u.keep b o e n hb (by simp)) (fun b o _ hb _ e n => u.slot b o e n hb (by simp)) (fun b o _ e n => u.free b o e n (by simp)) (fun b o _ e => u.there b o e (by simp)) u.tups u.frzs u.tbls (fun m' hm => by
    obtain ⟨o', es', ep', ho', r'⟩ := hm
    rw [ho] at ho'; cases ho'
    exact ⟨_, es', ep', hL, r'⟩) hok I.bare
/-- behind a call (or a comprehension's block): the slots of this frame may have changed too, the records at ch may have turned -/
theorem Inv.call {g' : Array GenState} {t' : Nat} {d' : Drawn} {ch : List Addr} (I : Inv X pins σ H s) (u : Un (frs X.stack) ch H H' s.heap h') (hok : HOk X.prog X.w H' h') (hg : AllBare g')
    (hch : ∀ b ∈ ch, (b ∈ X.ex ∨ X.s₀.heap.objs.size ≤ b) ∧ b ≠ X.env.locals ∧ (∀ x c, X.env.cells.lookup x = some c → c ≠ b) ∧ ∀ p ∈ X.pn ++ pins, p.1 ≠ b) :
    Inv X pins σ H' { s with heap := h', gens := g', drawn := d', toks := t' } := by
  obtain ⟨m, ⟨o, es, ep, ho, r⟩, _⟩ := id I.loc
  obtain ⟨sl, hL⟩ := u.any ho I.free fun z => (hch _ z).2.1 rfl
  exact I.step (ch := ch) hch (fun b o hL hb hc e n => u.keep b o e n (fun z => (List.mem_cons.mp (I.stkSub b z)).elim hL hb) hc) (fun b o _ _ hc e n => u.any e n hc) (fun b o hc e n => u.free b o e n hc) (fun b o hc e => u.there b o e hc) u.tups u.frzs u.tbls (fun m' hm => by
    obtain ⟨o', es', ep', ho', r'⟩ := hm
    rw [ho] at ho'; cases ho'
    exact ⟨_, es', ep', hL, r'⟩) hok hg
/-- an untracked record of ours (an iterator) has turned -/
theorem Inv.turned {t' : Nat} {it : Addr} (I : Inv X pins σ H s) (k : ∀ b o, b ≠ it → s.heap.get? b = some o → h'.get? b = some o) (hn : H it = none) (hL : it ≠ X.env.locals)
    (h1 : it ∈ X.ex ∨ X.s₀.heap.objs.size ≤ it) (h2 : ∀ x c, X.env.cells.lookup x = some c → c ≠ it) (h3 : ∀ p ∈ X.pn ++ pins, p.1 ≠ it) : Inv X pins σ H { s with heap := h', toks := t' } := by
  have nit : ∀ b u, H b = some u → b ≠ it := fun b u e z => by rw [z, hn] at e; cases e
  refine I.step (g' := s.gens) (d' := s.drawn) (ch := [it]) (fun b hb => ?_) (fun b o _ _ hc e _ => k b o (fun z => hc (by simp [z])) e) (fun b o _ _ hc e _ => ⟨o.slots, k b o (fun z => hc (by simp [z])) e⟩) (fun _ _ _ _ n => n)
    (fun b o hc e => ⟨o, k b o (fun z => hc (by simp [z])) e⟩) (fun _ _ e => e) (fun _ _ _ e => e) (fun b ps e => ⟨#[], by rw [e]; simp⟩) (fun m hm => ?_) (fun b u e => ?_) I.bare
  · have e : b = it := by simpa using hb
    subst e
    exact ⟨h1, hL, h2, h3⟩
  · obtain ⟨o, es, ep, ho, r⟩ := hm
    exact ⟨o, es, ep, k _ o (Ne.symm hL) ho, r⟩
  · refine (I.hok b u e).stay (fun c v hc q => k c v ?_ q) (fun _ q => q) fun _ _ q => q
    rcases hc with z | z
    · rw [z]; exact nit b u e
    · exact nit c _ z
theorem Inv.tok (I : Inv X pins σ H s) (t : Nat) : Inv X pins σ H { s with toks := t } := I.un (h' := s.heap) (t' := t) Un.refl I.hok
/-- all objects kept -/
theorem Inv.kept {t' : Nat} (I : Inv X pins σ H s) (k : ∀ b u, s.heap.get? b = some u → h'.get? b = some u) : Inv X pins σ H { s with heap := h', toks := t' } := I.un (Un.kept k) (I.hok.kept k)
/-- a new object laid and tracked -/
theorem Inv.laid {a : Addr} {o : HO} {t' : Nat} (I : Inv X pins σ H s) (k : ∀ b u, s.heap.get? b = some u → h'.get? b = some u) (hp : s.heap.objs.size ≤ a) (new : ObjOk X.prog X.w (upd H a o) h' a o) :
    Inv X pins σ (upd H a o) { s with heap := h', toks := t' } := I.un (Un.laid k hp (I.hok.fresh hp)) (I.hok.laid k hp new)
/-- an object written -/
theorem Inv.write {x e : Addr} {o : HO} {t' : Nat} (I : Inv X pins σ H s) (mu : Mut (H x)) (he : e = x ∨ H e = some (.own x)) (k : ∀ b u, b ≠ e → s.heap.get? b = some u → h'.get? b = some u) (heo : ∃ u, h'.get? e = some u)
    (new : ObjOk X.prog X.w (upd H x o) h' x o) : Inv X pins σ (upd H x o) { s with heap := h', toks := t' } := I.un (Un.write mu he k heo) (I.hok.write mu he k heo new)
theorem Inv.pins_of {pins' : List (Addr × Obj)} (I : Inv X pins σ H s) (h : ∀ p ∈ pins', s.heap.get? p.1 = some p.2 ∧ H p.1 = none ∧ p.1 ≠ X.env.locals ∧ p.1 ∉ X.fs ∧ ∀ v, p.2.data ≠ .cell v) : Inv X pins' σ H s :=
  ⟨I.ok, I.os, I.bare, I.base, I.loc, I.cell, I.free, I.freeC, fun p hp => (List.mem_append.mp hp).elim (fun z => I.pin p (List.mem_append_left _ z)) (h p), I.hok, I.len⟩

theorem nodup_ix {N : List Str} (hN : N.Nodup) {i j : Nat} {x : Str} (a : N[i]? = some x) (b : N[j]? = some x) : i = j := by
  obtain ⟨h1, e1⟩ := List.getElem?_eq_some_iff.mp a
  obtain ⟨h2, e2⟩ := List.getElem?_eq_some_iff.mp b
  exact (List.getElem_inj hN).mp (e1.trans e2.symm)

/-- a name is stored; what changed -/
theorem store_ok2 {M : Model} {A : Around} {E : Value → Shared → Prop} {i : Nat} {x : Str} {v : V} {u : Value} {Q : Unit → Shared → Prop} (I : Inv X pins σ H s) (hN : X.N.Nodup) (hi : X.N[i]? = some x) (hx : Loc X.env.scope x) (r : RelV v u)
    (h : ∀ s', Inv X pins (σ.set i (some v)) H s' → (∃ a, Heap.SameBut a s.heap s'.heap ∧ (a = X.env.locals ∨ X.env.cells.lookup x = some a)) → Q () s') (hf : X.fn x = true ∨ X.env.scope.names.lookup x = some .local := by first | exact .inl rfl | exact .inr rfl | assumption) : wpAny M A (storeName X.env x u) Q E s := by
  obtain ⟨m, hn, hl⟩ := id I.loc
  have hcls : (X.env.scope.kind == .class || (X.env.scope.kind == .module && X.env.locals != X.env.globals)) = false := by rw [I.ok.kind]; rfl
  have hiσ : i < σ.length := by rw [I.len]; exact (List.getElem?_eq_some_iff.mp hi).1
  have cne := I.cne
  have tracked : ∀ {a : Addr} {h' : Heap}, (∃ o, s.heap.get? a = some o ∧ H a = none) → Heap.SameBut a s.heap h' → HOk X.prog X.w H h' := fun {a h'} ha hs b ob e => by
    obtain ⟨_, _, hfree⟩ := ha
    refine (I.hok b ob e).stay (fun c w' hc q => (hs.2 c ?_).trans q) (fun _ q => q) fun _ _ q => q
    rintro rfl
    rcases hc with rfl | hc
    · rw [hfree] at e; cases e
    · rw [hfree] at hc; cases hc
  rcases hx with hk | hk
  · refine wpAny_storeName_local hk hn (fun h' hn' hs => ?_) hcls
    obtain ⟨oL, _, _, hoL, _⟩ := id hn
    refine h _ ⟨I.ok, I.os, I.bare, ⟨fun b o e n hb hx => ?_, fun b o e n hb hx => ?_, I.base.free, fun b o e hx => ?_, I.base.tups, I.base.frzs, I.base.tbls⟩, ⟨_, hn', fun j y v' e1 e2 e3 => ?_⟩, fun y c e => ?_, I.free, I.freeC, fun p hp => ?_, tracked ⟨oL, hoL, I.free⟩ hs, by simpa using I.len⟩ ⟨_, hs, .inl rfl⟩
    · exact (hs.2 b (Nat.ne_of_lt (Nat.lt_of_lt_of_le (Heap.lt_size e) I.ok.above))).trans (I.base.keep b o e n hb hx)
    · obtain ⟨sl, e1⟩ := I.base.slot b o e n hb hx
      exact ⟨sl, (hs.2 b (Nat.ne_of_lt (Nat.lt_of_lt_of_le (Heap.lt_size e) I.ok.above))).trans e1⟩
    · obtain ⟨o', e1⟩ := I.base.there b o e hx
      exact ⟨o', (hs.2 b (Nat.ne_of_lt (Nat.lt_of_lt_of_le (Heap.lt_size e) I.ok.above))).trans e1⟩
    · by_cases hj : j = i
      · subst hj
        rw [hi] at e1; cases e1
        rw [List.getElem?_set_self hiσ] at e2
        cases e2
        exact ⟨u, r, .inl ⟨hk, by simp⟩⟩
      · rw [List.getElem?_set_ne (Ne.symm hj)] at e2
        obtain ⟨u', r', q⟩ := hl j y v' e1 e2 e3
        refine ⟨u', r', ?_⟩
        rcases q with ⟨k, e⟩ | ⟨k, c, e, z⟩
        · refine .inl ⟨k, ?_⟩
          have : y ≠ x := fun e => hj (nodup_ix hN e1 (e ▸ hi))
          simp [this, e]
        · exact .inr ⟨k, c, e, z.sameBut hs (cne y c e)⟩
    · obtain ⟨w', z⟩ := I.cell y c e
      exact ⟨w', z.sameBut hs (cne y c e)⟩
    · obtain ⟨e, n, ne, nf, d⟩ := I.pin p hp
      exact ⟨(hs.2 p.1 ne).trans e, n, ne, nf, d⟩
  · have hfn : X.fn x = true := by
      rcases hf with z | z
      · exact z
      · rw [z] at hk; cases hk
    obtain ⟨c, hc⟩ := I.ok.has x (.inl hk)
    obtain ⟨w', z⟩ := I.cell x c hc
    refine wpAny_storeName_cell I.ok.kind hk hc z (fun h' hc' hs => ?_)
    obtain ⟨oc, hoc, hocd⟩ := id z
    refine h { s with heap := h' } ⟨I.ok, I.os, I.bare, ⟨fun b o e n hb hx => ?_, fun b o e n hb hx => ?_, I.base.free, fun b o e hx => ?_, I.base.tups, I.base.frzs, I.base.tbls⟩, ⟨m, hn.sameBut hs (Ne.symm (cne x c hc)), fun j y v' e1 e2 e3 => ?_⟩, fun y c' e => ?_, I.free, I.freeC, fun p hp => ?_, tracked ⟨oc, hoc, I.freeC x c hc⟩ hs, by simpa using I.len⟩ ⟨c, hs, .inr hc⟩
    · exact (hs.2 b (Nat.ne_of_lt (Nat.lt_of_lt_of_le (Heap.lt_size e) (I.ok.cab x c hfn hc)))).trans (I.base.keep b o e n hb hx)
    · obtain ⟨sl, e1⟩ := I.base.slot b o e n hb hx
      exact ⟨sl, (hs.2 b (Nat.ne_of_lt (Nat.lt_of_lt_of_le (Heap.lt_size e) (I.ok.cab x c hfn hc)))).trans e1⟩
    · obtain ⟨o', e1⟩ := I.base.there b o e hx
      exact ⟨o', (hs.2 b (Nat.ne_of_lt (Nat.lt_of_lt_of_le (Heap.lt_size e) (I.ok.cab x c hfn hc)))).trans e1⟩
    · by_cases hj : j = i
      · subst hj
        rw [hi] at e1; cases e1
        rw [List.getElem?_set_self hiσ] at e2
        cases e2
        exact ⟨u, r, .inr ⟨.inl hk, c, hc, hc'⟩⟩
      · rw [List.getElem?_set_ne (Ne.symm hj)] at e2
        obtain ⟨u', r', q⟩ := hl j y v' e1 e2 e3
        refine ⟨u', r', ?_⟩
        rcases q with q | ⟨k, c', e, z'⟩
        · exact .inl q
        · refine .inr ⟨k, c', e, z'.sameBut hs ?_⟩
          rintro rfl
          exact hj (nodup_ix hN e1 (I.ok.inj _ _ _ e hc ▸ hi))
    · by_cases hcc : c' = c
      · subst hcc; exact ⟨_, hc'⟩
      · obtain ⟨w2, z2⟩ := I.cell y c' e
        exact ⟨w2, z2.sameBut hs hcc⟩
    · obtain ⟨e, n, ne, nf, d⟩ := I.pin p hp
      refine ⟨(hs.2 p.1 ?_).trans e, n, ne, nf, d⟩
      intro q
      rw [q, hoc] at e
      have q' : oc = p.2 := Option.some.inj e
      exact d w' (by rw [← q']; exact hocd)
theorem store_ok {M : Model} {A : Around} {E : Value → Shared → Prop} {i : Nat} {x : Str} {v : V} {u : Value} {Q : Unit → Shared → Prop} (I : Inv X pins σ H s) (hN : X.N.Nodup) (hi : X.N[i]? = some x) (hx : Loc X.env.scope x) (r : RelV v u)
    (h : ∀ s', Inv X pins (σ.set i (some v)) H s' → Q () s') (hf : X.fn x = true ∨ X.env.scope.names.lookup x = some .local := by first | exact .inl rfl | exact .inr rfl | assumption) : wpAny M A (storeName X.env x u) Q E s :=
  store_ok2 I hN hi hx r (fun s' I' _ => h s' I') hf
/-- behind a call or a block, the state as it is -/
theorem Inv.call' {s' : Shared} {ch : List Addr} (I : Inv X pins σ H s) (ho : s'.os = s.os) (u : Un (frs X.stack) ch H H' s.heap s'.heap) (hok : HOk X.prog X.w H' s'.heap) (hg : AllBare s'.gens)
    (hch : ∀ b ∈ ch, (b ∈ X.ex ∨ X.s₀.heap.objs.size ≤ b) ∧ b ≠ X.env.locals ∧ (∀ x c, X.env.cells.lookup x = some c → c ≠ b) ∧ ∀ p ∈ X.pn ++ pins, p.1 ≠ b) : Inv X pins σ H' s' := by
  obtain ⟨h', g', d', t', o'⟩ := s'
  have e : o' = s.os := ho
  subst e
  exact I.call (g' := g') (t' := t') (d' := d') u hok hg hch
end

/-! ### the judgements -/
/-- an exception: its class, its own dict's address (where it has one), the abstract heap behind it -/
abbrev XK := Value → Option Addr → Hp → Prop
abbrev St := List (Option V)
abbrev VK := V → Hp → Prop
/-- an expression's reading; a test's; an argument list's -/
abbrev TE := St → Hp → VK → Prop
abbrev TT := St → Hp → (Bool → Hp → Prop) → Prop
abbrev TA := St → Hp → (List V → Hp → Prop) → Prop
/-- what is wanted behind a statement -/
structure Ends where
  nx : St → Hp → Prop
  rt : VK
  bk : St → Hp → Prop := fun _ _ => False
  ct : St → Hp → Prop := fun _ _ => False
abbrev TS := Ends → St → Hp → Prop

def EP (X : Cx) (pins : List (Addr × Obj)) (σ : St) (Q : VK) (u : Value) (s' : Shared) : Prop := ∃ v H', Inv X pins σ H' s' ∧ RelV v u ∧ Q v H'
def TP (X : Cx) (pins : List (Addr × Obj)) (σ : St) (Q : Bool → Hp → Prop) (b : Bool) (s' : Shared) : Prop := ∃ H', Inv X pins σ H' s' ∧ Q b H'
def AP (X : Cx) (pins : List (Addr × Obj)) (σ : St) (Q : List V → Hp → Prop) (us : List Value) (s' : Shared) : Prop := ∃ vs H', Inv X pins σ H' s' ∧ Vals vs us ∧ Q vs H'
def SP (X : Cx) (pins : List (Addr × Obj)) (D : Ends) (f : Flow) (s' : Shared) : Prop :=
  match f with
  | .next => ∃ σ' H', Inv X pins σ' H' s' ∧ D.nx σ' H'
  | .brk => ∃ σ' H', Inv X pins σ' H' s' ∧ D.bk σ' H'
  | .cont => ∃ σ' H', Inv X pins σ' H' s' ∧ D.ct σ' H'
  | .ret u => ∃ v σ' H', Inv X pins σ' H' s' ∧ RelV v u ∧ D.rt v H'

def PE (X : Cx) (e : Expr) (t : TE) : Prop :=
  ∀ (pins : List (Addr × Obj)) (s : Shared) (σ : St) (H : Hp) (Q : VK), Inv X pins σ H s → t σ H Q → wpAny (model X.prog X.w) X.A (eval e X.env) (EP X pins σ Q) X.xe s
def PT (X : Cx) (e : Expr) (t : TT) : Prop :=
  ∀ (pins : List (Addr × Obj)) (s : Shared) (σ : St) (H : Hp) (Q : Bool → Hp → Prop), Inv X pins σ H s → t σ H Q → wpAny (model X.prog X.w) X.A (isTrue e X.env (eval e X.env)) (TP X pins σ Q) X.xe s
/-- a test whatever its 'whole' is (and, or) -/
def PW (X : Cx) (e : Expr) (t : TT) : Prop :=
  ∀ (whole : Sem Value) (pins : List (Addr × Obj)) (s : Shared) (σ : St) (H : Hp) (Q : Bool → Hp → Prop), Inv X pins σ H s → t σ H Q → wpAny (model X.prog X.w) X.A (isTrue e X.env whole) (TP X pins σ Q) X.xe s
theorem PW.pt {X : Cx} {e : Expr} {t : TT} (h : PW X e t) : PT X e t := h _
/-- an argument list (no star), from the left -/
def PA (X : Cx) (es : List Expr) (t : TA) : Prop :=
  ∀ (pos : Pos) (pins : List (Addr × Obj)) (s : Shared) (σ : St) (H : Hp) (Q : List V → Hp → Prop), Inv X pins σ H s → t σ H Q → wpAny (model X.prog X.w) X.A (spliced (backTo pos (starEach es X.env))) (AP X pins σ Q) X.xe s
def PS (X : Cx) (st : Stmt) (t : TS) : Prop :=
  ∀ (pins : List (Addr × Obj)) (s : Shared) (σ : St) (H : Hp) (D : Ends), Inv X pins σ H s → t D σ H → wpAny (model X.prog X.w) X.A (exec st X.env) (SP X pins D) X.xe s
def PSs (X : Cx) (st : List Stmt) (t : TS) : Prop :=
  ∀ (pins : List (Addr × Obj)) (s : Shared) (σ : St) (H : Hp) (D : Ends), Inv X pins σ H s → t D σ H → wpAny (model X.prog X.w) X.A (execs st X.env) (SP X pins D) X.xe s
/-- weaken the end -/
theorem thn {α : Type} {t : Sem α} {Q Q' : α → Shared → Prop} {M : Model} {A : Around} {E : Value → Shared → Prop} {s : Shared} (h : wpAny M A t Q E s) (hQ : ∀ a s, Q a s → Q' a s) : wpAny M A t Q' E s := wpAny_mono h hQ fun _ _ x => x
end L2

namespace L2
open PySem PySem.Spec PyProof.Rows
section
variable {X : Cx}

/-! ### names and constants -/
def tVar (i : Nat) : TE := fun σ H Q => ∃ v, σ[i]? = some (some v) ∧ Q v H
def tC (v : V) : TE := fun _ H Q => Q v H
theorem pe_var {i : Nat} {x : Str} {pos : Pos} (hN : X.N[i]? = some x) (hv : Vis X.env.scope x) (hd : (x == ("__debug__" : Str)) = false := by decide) (hcd : (x == ("__classdict__" : Str)) = false := by decide) : PE X (.Name x pos) (tVar i) := by
  intro pins s σ H Q I h
  obtain ⟨v, e, h⟩ := h
  obtain ⟨m, hn, hl⟩ := I.loc
  obtain ⟨u, r, l⟩ := hl i x v hN e hv
  have fin : EP X pins σ Q u s := ⟨v, H, I, r, h⟩
  rcases l with ⟨hk, hm⟩ | ⟨hk, c, hc, hcell⟩
  · exact wpAny_Name (wpAny_loadName_local I.ok.kind hk hn hm fin) hd
  · rcases hk with hk | hk
    · exact wpAny_Name (wpAny_loadName_cell I.ok.kind hk hc hcell fin) hd
    · exact wpAny_Name (wpAny_loadName_free I.ok.kind hk hc hcell fin hcd) hd
theorem pe_int {i j pos} : PE X (.Constant (.int i) j pos) (tC (.int i)) := fun _ _ _ H _ I h => wpAny_Constant_int ⟨.int i, H, I.tok _, ⟨_, rfl⟩, h⟩
theorem pe_bl {b j pos} : PE X (.Constant (.bool b) j pos) (tC (.bl b)) := fun _ _ _ H _ I h => Constant_bool ⟨.bl b, H, I, rfl, h⟩
theorem pe_non {j pos} : PE X (.Constant .none j pos) (tC .non) := fun _ _ _ H _ I h => Constant_none ⟨.non, H, I, rfl, h⟩
theorem pe_str {x j pos} : PE X (.Constant (.str x) j pos) (tC (.str x)) := fun _ _ _ H _ I h => Calls.Constant_str ⟨.str x, H, I.tok _, ⟨_, rfl⟩, h⟩

/-- a global name of the def -/
def Gl (X : Cx) (x : Str) : Prop := X.env.kindOf x = some .globalImplicit
theorem ld_glob {E : Value → Shared → Prop} {pins : List (Addr × Obj)} {s : Shared} {σ : St} {H : Hp} {x : Str} {u : Value} {pos : Pos} {Q : Value → Shared → Prop} (I : Inv X pins σ H s) (hg : Gl X x) (hm : X.mg x = some u) (h : Q u s)
    (hd : (x == ("__debug__" : Str)) = false := by decide) : wpAny (model X.prog X.w) X.A (eval (.Name x pos) X.env) Q E s :=
  Calls.Name_function_global I.ok.kind hg (Calls.loadGlobal_global (by rw [I.ok.glob]; exact I.mod.glob.keeps I.bk) hm h) hd
theorem ld_blt {E : Value → Shared → Prop} {pins : List (Addr × Obj)} {s : Shared} {σ : St} {H : Hp} {x : Str} {u : Value} {pos : Pos} {Q : Value → Shared → Prop} (I : Inv X pins σ H s) (hg : Gl X x) (hm : X.mg x = none) (hv : bootBuiltins x = some u) (h : Q u s)
    (hn : x ≠ "__name__" := by decide) (hd : (x == ("__debug__" : Str)) = false := by decide) : wpAny (model X.prog X.w) X.A (eval (.Name x pos) X.env) Q E s := by
  obtain ⟨mb, h1, h2⟩ := I.mod.blt
  exact Calls.Name_function_global I.ok.kind hg (Calls.loadGlobal_builtin (by rw [I.ok.glob]; exact I.mod.glob.keeps I.bk) hm (by rw [I.ok.blt]; exact h1.keeps I.bk) ((h2 x hn).trans hv) h) hd
theorem pe_bltn {x : Str} {v : V} {u : Value} {pos : Pos} (hg : Gl X x) (hm : X.mg x = none) (hv : bootBuiltins x = some u) (r : RelV v u) (hn : x ≠ "__name__" := by decide) (hd : (x == ("__debug__" : Str)) = false := by decide) : PE X (.Name x pos) (tC v) :=
  fun _ _ _ H _ I h => ld_blt I hg hm hv ⟨v, H, I, r, h⟩ hn hd

/-! ### arithmetic -/
variable {a b : Expr} {ta tb : TE} {pos : Pos}
/-! ### comparisons -/
/-- a comparison as a value, as a test -/
def tB (t : TE) : TT := fun σ H Q => t σ H fun x H1 => ∃ c, x = .bl c ∧ Q c H1
/-- an expression whose value is a bool, as a test -/
theorem pt_val {e : Expr} {t : TE} (h : PE X e t) (he : ∀ whole, isTrue e X.env whole = (do let v ← whole; standAt e.pos; holding [v] (truthy v)) := by intro _; rfl) : PT X e (tB t) := by
  intro pins s σ H Q I hw
  refine isTrue_plain (thn (h pins s σ H _ I hw) fun v s1 ⟨x, H1, I1, r1, q1⟩ => ?_) (he _)
  obtain ⟨d, rfl, q⟩ := q1
  cases r1
  exact wpAny_truthy_bool ⟨H1, I1, q⟩

/-! ### and, or, not -/
variable {tA tB' : TT} {rest : List Expr}
def tAnd (t u : TT) : TT := fun σ H Q => t σ H fun c H1 => if c = true then u σ H1 Q else Q false H1
def tOr (t u : TT) : TT := fun σ H Q => t σ H fun c H1 => if c = true then Q true H1 else u σ H1 Q
def tNot (t : TT) : TT := fun σ H Q => t σ H fun c H1 => Q (!c) H1
theorem pw_and1 (ha : PT X a tA) : PW X (.BoolOp .And [a] pos) tA := by
  intro wh pins s σ H Q I h
  refine isTrue_and (thn (ha pins s σ H Q I h) fun c s1 e => ?_)
  cases c with
  | true => exact isTrue_and_nil e
  | false => exact e
theorem pw_or1 (ha : PT X a tA) : PW X (.BoolOp .Or [a] pos) tA := by
  intro wh pins s σ H Q I h
  refine isTrue_or (thn (ha pins s σ H Q I h) fun c s1 e => ?_)
  cases c with
  | false => exact isTrue_or_nil e
  | true => exact e
theorem pw_and (ha : PT X a tA) (hb : PW X (.BoolOp .And (b :: rest) pos) tB') : PW X (.BoolOp .And (a :: b :: rest) pos) (tAnd tA tB') := by
  intro wh pins s σ H Q I h
  refine isTrue_and (thn (ha pins s σ H _ I h) fun c s1 ⟨H1, I1, q1⟩ => ?_)
  cases c with
  | true => exact hb wh pins s1 σ H1 Q I1 q1
  | false => exact ⟨H1, I1, q1⟩
theorem pw_or (ha : PT X a tA) (hb : PW X (.BoolOp .Or (b :: rest) pos) tB') : PW X (.BoolOp .Or (a :: b :: rest) pos) (tOr tA tB') := by
  intro wh pins s σ H Q I h
  refine isTrue_or (thn (ha pins s σ H _ I h) fun c s1 ⟨H1, I1, q1⟩ => ?_)
  cases c with
  | true => exact ⟨H1, I1, q1⟩
  | false => exact hb wh pins s1 σ H1 Q I1 q1
theorem pt_not (ha : PT X a tA) : PT X (.UnaryOp .Not a pos) (tNot tA) := by
  intro pins s σ H Q I h
  exact isTrue_not (ha pins s σ H (fun c H1 => Q (!c) H1) I h)
/-- .. as values (bools) -/
def tAndV (ta tb : TE) : TE := fun σ H Q => ta σ H fun x H1 => ∃ c, x = .bl c ∧ if c = true then tb σ H1 Q else Q (.bl false) H1
def tOrV (ta tb : TE) : TE := fun σ H Q => ta σ H fun x H1 => ∃ c, x = .bl c ∧ if c = true then Q (.bl true) H1 else tb σ H1 Q
def tNotV (ta : TE) : TE := fun σ H Q => ta σ H fun x H1 => ∃ c, x = .bl c ∧ Q (.bl (!c)) H1
theorem pe_one {op} {t : TE} (h : PE X a t) : PE X (.BoolOp op [a] pos) t := fun pins s σ H Q I hw => BoolOp_one (h pins s σ H Q I hw)
theorem pe_and (ha : PE X a ta) (hb : PE X (.BoolOp .And (b :: rest) pos) tb) : PE X (.BoolOp .And (a :: b :: rest) pos) (tAndV ta tb) := by
  intro pins s σ H Q I h
  refine BoolOp_and (thn (ha pins s σ H _ I h) fun v s1 ⟨x, H1, I1, r1, q1⟩ => ?_)
  obtain ⟨c, rfl, q1⟩ := q1
  cases r1
  refine wpAny_truthy_bool ?_
  cases c with
  | true => exact hb pins s1 σ H1 Q I1 q1
  | false => exact ⟨.bl false, H1, I1, rfl, q1⟩
theorem pe_not (ha : PE X a ta) : PE X (.UnaryOp .Not a pos) (tNotV ta) := by
  intro pins s σ H Q I h
  refine UnaryOp_ (thn (ha pins s σ H _ I h) fun v s1 ⟨x, H1, I1, r1, q1⟩ => ?_)
  obtain ⟨c, rfl, q1⟩ := q1
  cases r1
  exact not_of (wpAny_truthy_bool ⟨.bl (!c), H1, I1, rfl, q1⟩)
/-- a if t else b -/
def tIf (t : TT) (ta tb : TE) : TE := fun σ H Q => t σ H fun c H1 => if c = true then ta σ H1 Q else tb σ H1 Q
theorem pe_ifExp {c : Expr} (hc : PT X c tA) (ha : PE X a ta) (hb : PE X b tb) : PE X (.IfExp c a b pos) (tIf tA ta tb) := by
  intro pins s σ H Q I h
  refine wpAny_IfExp (thn (hc pins s σ H _ I h) fun d s1 ⟨H1, I1, q1⟩ => ?_)
  cases d with
  | true => exact ha pins s1 σ H1 Q I1 q1
  | false => exact hb pins s1 σ H1 Q I1 q1
end
end L2

namespace L2
open PySem PySem.Spec PyProof.Rows

/-! ### a list, a tuple that is read: tracked, frozen, or an object of the module -/
def SqL (K : PySem.W.Frag) (H : Hp) (a : Addr) (xs : List V) : Prop :=
  Rd H a (.lst xs) ∨
    ∃ (o : Obj) (its : Array Value) (n : Nat), K.lookup a = some o ∧ o.cls = .type "list" ∧ o.dict = none ∧ o.data = .seq its n ∧ its.size ≤ sizeLine ∧ Vals xs its.toList
def SqT (K : PySem.W.Frag) (H : Hp) (a : Addr) (xs : List V) : Prop :=
  Rd H a (.tup xs) ∨
    ∃ (o : Obj) (its : Array Value) (n : Nat), K.lookup a = some o ∧ o.cls = .type "tuple" ∧ o.data = .seq its n ∧ its.size ≤ sizeLine ∧ Vals xs its.toList
def absV : Value → Option V
  | .none => some .non
  | .bool b => some (.bl b)
  | .int i _ => some (.int i)
  | .str x _ => some (.str x)
  | .bytes b _ => some (.byt b)
  | .float b _ => some (.flt b)
  | .ref a => some (.ref a)
  | .type n => some (.ty n)
  | _ => none
theorem RelV.abs {x : V} {u : Value} (r : RelV x u) : absV u = some x := by
  cases x with
  | non => cases r; rfl
  | bl _ => cases r; rfl
  | int _ => obtain ⟨t, rfl⟩ := r; rfl
  | str _ => obtain ⟨t, rfl⟩ := r; rfl
  | byt _ => obtain ⟨t, rfl⟩ := r; rfl
  | flt _ => obtain ⟨t, rfl⟩ := r; rfl
  | ref _ => cases r; rfl
  | ty _ => cases r; rfl
theorem RelV.inj {x y : V} {u : Value} (r : RelV x u) (q : RelV y u) : x = y := Option.some.inj (r.abs.symm.trans q.abs)
theorem Vals.inj : ∀ {xs ys : List V} {us : List Value}, Vals xs us → Vals ys us → xs = ys
  | _, _, _, .nil, .nil => rfl
  | _, _, _, .cons r t, .cons r' t' => by rw [r.inj r', Vals.inj t t']
section
variable {X : Cx} {pins : List (Addr × Obj)} {σ : St} {H : Hp} {s : Shared} {a : Addr} {xs ys : List V}
theorem SqL.of {K : PySem.W.Frag} (h : H a = some (.lst xs)) : SqL K H a xs := .inl (.inl h)
theorem SqT.of {K : PySem.W.Frag} (h : H a = some (.tup xs)) : SqT K H a xs := .inl (.inl h)
theorem Inv.list (I : Inv X pins σ H s) (h : SqL X.K H a xs) : ∃ its : List Value, Vals xs its ∧ PlainL s.heap a its.toArray ∧ xs.length ≤ sizeLine := by
  rcases h with h | ⟨o, its, n, hk, hc, hd, hs, hz, r⟩
  · obtain ⟨z, its, n, r, e⟩ := h.ok I.hok
    exact ⟨its, r, ⟨_, n, e, rfl, rfl, rfl⟩, z⟩
  · refine ⟨its.toList, r, ⟨o, n, I.kIn a o hk, hc, hd, by simpa using hs⟩, ?_⟩
    have e := r.length
    simp only [Array.length_toList] at e
    omega
theorem Inv.tuple (I : Inv X pins σ H s) (h : SqT X.K H a xs) : ∃ its : List Value, Vals xs its ∧ IsTup s.heap a its.toArray ∧ xs.length ≤ sizeLine := by
  rcases h with h | ⟨o, its, n, hk, hc, hs, hz, r⟩
  · obtain ⟨z, its, r, p⟩ := h.ok I.hok
    exact ⟨its, r, p, z⟩
  · refine ⟨its.toList, r, ⟨o, I.kIn a o hk, hc, n, by simpa using hs⟩, ?_⟩
    have e := r.length
    simp only [Array.length_toList] at e
    omega
theorem Inv.list_inj (I : Inv X pins σ H s) (h : SqL X.K H a xs) (h' : SqL X.K H a ys) : xs = ys := by
  obtain ⟨its, r, ⟨o, n, e, _, _, d⟩, _⟩ := I.list h
  obtain ⟨its', r', ⟨o', n', e', _, _, d'⟩, _⟩ := I.list h'
  rw [e] at e'; cases e'
  rw [d] at d'
  injection d' with d1 _
  have : its = its' := by simpa using congrArg Array.toList d1
  subst this
  exact r.inj r'
end

/-! ### another wish about exceptions -/
abbrev Cx.wish (X : Cx) (E : Value → Shared → Prop) : Cx := { X with xe := E }
/-- no exception leaves -/
abbrev Cx.nox (X : Cx) : Cx := X.wish fun _ _ => False
theorem Cx.Ok.wish {X : Cx} (ok : X.Ok) (E : Value → Shared → Prop) : (X.wish E).Ok :=
  ⟨ok.mod, ok.kind, ok.glob, ok.blt, ok.above, ok.inj, ok.has, ok.cab, ok.hd, ok.frames, ok.stk, ok.exf, ok.bs, ok.bsz, ok.noex, ok.exfs, ok.funs, ok.frf⟩
theorem Cx.Ok.unwish {X : Cx} {E : Value → Shared → Prop} (ok : (X.wish E).Ok) : X.Ok :=
  ⟨ok.mod, ok.kind, ok.glob, ok.blt, ok.above, ok.inj, ok.has, ok.cab, ok.hd, ok.frames, ok.stk, ok.exf, ok.bs, ok.bsz, ok.noex, ok.exfs, ok.funs, ok.frf⟩
section
variable {X : Cx} {pins : List (Addr × Obj)} {σ : St} {H : Hp} {s : Shared} {E : Value → Shared → Prop}
theorem Inv.wish (I : Inv X pins σ H s) (E : Value → Shared → Prop) : Inv (X.wish E) pins σ H s := ⟨I.ok.wish E, I.os, I.bare, I.base, I.loc, I.cell, I.free, I.freeC, I.pin, I.hok, I.len⟩
theorem Inv.unwish (I : Inv (X.wish E) pins σ H s) : Inv X pins σ H s := ⟨I.ok.unwish, I.os, I.bare, I.base, I.loc, I.cell, I.free, I.freeC, I.pin, I.hok, I.len⟩
theorem SP.unwish {D : Ends} {f : Flow} {s' : Shared} (h : SP (X.wish E) pins D f s') : SP X pins D f s' := by
  cases f with
  | next => obtain ⟨σ', H', I, q⟩ := h; exact ⟨σ', H', I.unwish, q⟩
  | brk => obtain ⟨σ', H', I, q⟩ := h; exact ⟨σ', H', I.unwish, q⟩
  | cont => obtain ⟨σ', H', I, q⟩ := h; exact ⟨σ', H', I.unwish, q⟩
  | ret u => obtain ⟨v, σ', H', I, r, q⟩ := h; exact ⟨v, σ', H', I.unwish, r, q⟩
theorem PE.nox {e : Expr} {t : TE} (h : PE X.nox e t) : PE X e t := fun pins s σ H Q I hw =>
  wpAny_mono (h pins s σ H Q (I.wish _) hw) (fun _ _ ⟨v, H', I', r, q⟩ => ⟨v, H', I'.unwish, r, q⟩) fun _ _ z => False.elim z
theorem PT.nox {e : Expr} {t : TT} (h : PT X.nox e t) : PT X e t := fun pins s σ H Q I hw =>
  wpAny_mono (h pins s σ H Q (I.wish _) hw) (fun _ _ ⟨H', I', q⟩ => ⟨H', I'.unwish, q⟩) fun _ _ z => False.elim z
theorem PSs.nox {st : List Stmt} {t : TS} (h : PSs X.nox st t) : PSs X st t := fun pins s σ H D I hw =>
  wpAny_mono (h pins s σ H D (I.wish _) hw) (fun _ _ q => q.unwish) fun _ _ z => False.elim z
end

/-! ### blocks and small statements -/
section
variable {X : Cx} {st : Stmt} {rest : List Stmt} {t u : TS} {e : Expr} {te : TE} {pos : Pos}
def tNext : TS := fun D σ H => D.nx σ H
def tSeq (t u : TS) : TS := fun D σ H => t { D with nx := u D } σ H
theorem pss_nil : PSs X [] tNext := fun _ _ σ H _ I h => wpAny_execs_nil ⟨σ, H, I, h⟩
theorem pss_cons (h1 : PS X st t) (h2 : PSs X rest u) : PSs X (st :: rest) (tSeq t u) := by
  intro pins s σ H D I h
  refine wpAny_execs_cons (thn (h1 pins s σ H { D with nx := u D } I h) fun f s1 q => ?_)
  cases f with
  | next =>
    obtain ⟨σ', H', I', q⟩ := q
    exact h2 pins s1 σ' H' D I' q
  | ret v => exact q
  | brk => exact q
  | cont => exact q
theorem pss_one (h1 : PS X st t) : PSs X [st] t := by
  intro pins s σ H D I h
  refine wpAny_execs_cons (thn (h1 pins s σ H D I h) fun f s1 q => ?_)
  cases f with
  | next => exact wpAny_execs_nil q
  | ret v => exact q
  | brk => exact q
  | cont => exact q
/-- in a def's body nothing is shown -/
theorem Inv.quiet {pins : List (Addr × Obj)} {σ : St} {H : Hp} {s : Shared} (I : Inv X pins σ H s) : interactive X.env = false := by simp [interactive, I.ok.kind]
/-- an expression whose value is dropped -/
def tDrop (te : TE) : TS := fun D σ H => te σ H fun _ H1 => D.nx σ H1
theorem ps_expr (he : PE X e te) (hs : swapsWith e none pos.line X.env = pure false := by rfl) : PS X (.Expr e pos) (tDrop te) := by
  intro pins s σ H D I h
  exact wpAny_Expr_any (thn (he pins s σ H _ I h) fun v s1 ⟨x, H1, I1, r1, q1⟩ => ⟨σ, H1, I1, q1⟩) I.quiet hs
def tRet (te : TE) : TS := fun D σ H => te σ H D.rt
theorem ps_ret (he : PE X e te) : PS X (.Return (some e) pos) (tRet te) := by
  intro pins s σ H D I h
  exact wpAny_Return_some (thn (he pins s σ H _ I h) fun v s1 ⟨x, H1, I1, r1, q1⟩ => ⟨x, σ, H1, I1, r1, q1⟩)
def tRetN : TS := fun D _ H => D.rt .non H
def tIfS (c : TT) (t u : TS) : TS := fun D σ H => c σ H fun b H1 => if b = true then t D σ H1 else u D σ H1
theorem ps_if {c : Expr} {a b : List Stmt} {tc : TT} (hc : PT X c tc) (ha : PSs X a t) (hb : PSs X b u) : PS X (.If c a b pos) (tIfS tc t u) := by
  intro pins s σ H D I h
  refine wpAny_If (thn (hc pins s σ H _ I h) fun d s1 ⟨H1, I1, q1⟩ => ?_)
  cases d with
  | true => exact ha pins s1 σ H1 D I1 q1
  | false => exact hb pins s1 σ H1 D I1 q1
end

/-! ### targets -/
abbrev TG := V → St → Hp → (St → Hp → Prop) → Prop
def PG (X : Cx) (target : Expr) (t : TG) : Prop :=
  ∀ (pins : List (Addr × Obj)) (s : Shared) (σ : St) (H : Hp) (v : V) (u : Value) (Q : St → Hp → Prop), Inv X pins σ H s → RelV v u → t v σ H Q →
    wpAny (model X.prog X.w) X.A (assign target X.env u) (fun _ s' => ∃ σ' H', Inv X pins σ' H' s' ∧ Q σ' H') X.xe s
section
variable {X : Cx} {pos : Pos}
def gName (i : Nat) : TG := fun v σ H Q => Q (σ.set i (some v)) H
theorem pg_name {i : Nat} {x : Str} (hN : X.N.Nodup) (hi : X.N[i]? = some x) (hx : Loc X.env.scope x) (hf : X.fn x = true ∨ X.env.scope.names.lookup x = some .local := by first | exact .inl rfl | exact .inr rfl | assumption) : PG X (.Name x pos) (gName i) := by
  intro pins s σ H v u Q I r h
  exact wpAny_assign_Name (store_ok I hN hi hx r (fun s' I' => ⟨_, H, I', h⟩) hf)
/-- target = value -/
def tAsg (te : TE) (g : TG) : TS := fun D σ H => te σ H fun x H1 => g x σ H1 D.nx
/-- name = value -/
theorem ps_set {i : Nat} {x : Str} {e : Expr} {te : TE} {pos' : Pos} (hN : X.N.Nodup) (hi : X.N[i]? = some x) (hx : Loc X.env.scope x) (he : PE X e te) (hs : swapsWith e (some (.Name x pos')) pos.line X.env = pure false := by rfl) (hf : X.fn x = true ∨ X.env.scope.names.lookup x = some .local := by first | exact .inl rfl | exact .inr rfl | assumption) :
    PS X (.Assign [.Name x pos'] e pos) (tAsg te (gName i)) := by
  intro pins s σ H D I h
  refine wpAny_Assign_Name (thn (he pins s σ H _ I h) fun v s1 ⟨y, H1, I1, r1, q1⟩ => ?_) hs
  exact store_ok I1 hN hi hx r1 (fun s2 I2 => ⟨_, H1, I2, q1⟩) hf
end

/-! ### while -/
section
variable {X : Cx} {pos : Pos}
end

/-! ### what a loop or a comprehension walks -/
/-- at turn i: it yields x (the heap may grow), or it stops -/
structure It where
  go : Nat → Hp → Prop
  yld : Nat → Hp → V → Hp → Prop
  stop : Nat → Hp → Prop
/-- the iterator's own objects may turn: they are not the frame's, not pinned, younger than the entry (or a comprehension's own) -/
def FpOk (X : Cx) (pins : List (Addr × Obj)) (H : Hp) (b : Addr) : Prop :=
  H b = none ∧ b ≠ X.env.locals ∧ b ∉ X.fs ∧ (b ∈ X.ex ∨ X.s₀.heap.objs.size ≤ b) ∧ (∀ x c, X.env.cells.lookup x = some c → c ≠ b) ∧ ∀ p ∈ X.pn ++ pins, p.1 ≠ b
theorem Inv.fpOk {X : Cx} {pins : List (Addr × Obj)} {σ : St} {H H' : Hp} {s : Shared} {b : Addr} (I : Inv X pins σ H s) (hb : s.heap.objs.size ≤ b) (hn : H' b = none) : FpOk X pins H' b := by
  refine ⟨hn, Nat.ne_of_gt (Nat.lt_of_lt_of_le I.lt hb), I.nofs hb, .inr (Nat.le_trans I.sz hb), fun x c e z => ?_, fun p hp z => ?_⟩
  · obtain ⟨v, q⟩ := I.cell x c e
    exact absurd (Nat.lt_of_lt_of_le q.lt (by rw [z]; exact hb)) (Nat.lt_irrefl _)
  · exact absurd (Nat.lt_of_lt_of_le (Heap.lt_size (I.pin p hp).1) (by rw [z]; exact hb)) (Nat.lt_irrefl _)
structure Turn (P : Program) (w : World) (K : PySem.W.Frag) (tg : Expr) (J : It) (fp : List Addr) (it : Addr) (tn : Nat → Heap → Prop) : Prop where
  mem : it ∈ fp
  obj : ∀ i h, tn i h → ∀ b ∈ fp, ∃ o, h.get? b = some o ∧ ∀ v, o.data ≠ .cell v
  keep : ∀ i h h', tn i h → (∀ b ∈ fp, ∀ o, h.get? b = some o → h'.get? b = some o) → tn i h'
  item : ∀ (X : Cx), X.prog = P → X.w = w → X.K = K → X.calm = true → ∀ (i : Nat) (pins : List (Addr × Obj)) (s : Shared) (σ : St) (H : Hp) (E : Value → Shared → Prop), Inv X pins σ H s → (∀ b ∈ fp, FpOk X pins H b) → tn i s.heap → J.go i H →
    wpAny (model P w) X.A (pyNext (.ref it)) (fun r s1 => ∃ u, r = some u ∧
      wpAny (model P w) X.A (letOwnedTupleGo tg (.ref it) u) (fun _ s2 => ∃ x H', Inv X pins σ H' s2 ∧ RelV x u ∧ J.yld i H x H' ∧ tn (i + 1) s2.heap ∧ ∀ b ∈ fp, H' b = none) E s1) E s
  done : ∀ (X : Cx), X.prog = P → X.w = w → X.K = K → X.calm = true → ∀ (i : Nat) (pins : List (Addr × Obj)) (s : Shared) (σ : St) (H : Hp) (E : Value → Shared → Prop), Inv X pins σ H s → (∀ b ∈ fp, FpOk X pins H b) → tn i s.heap → J.stop i H →
    wpAny (model P w) X.A (pyNext (.ref it)) (fun r s1 => r = none ∧ Inv X pins σ H s1) E s
  self : ∀ (A : Around) (i : Nat) (s : Shared) (Q : Value → Shared → Prop) (E : Value → Shared → Prop), tn i s.heap → Q (.ref it) s → wpAny (model P w) A (pyIter (.ref it)) Q E s
abbrev TI := St → Hp → (It → Hp → Prop) → Prop
/-- an iterator has come -/
def PIE (X : Cx) (pins : List (Addr × Obj)) (σ : St) (tg : Expr) (R : It → Hp → Prop) (itv : Value) (s2 : Shared) : Prop :=
  ∃ (it : Addr) (fp : List Addr) (tn : Nat → Heap → Prop) (J : It) (H' : Hp), itv = .ref it ∧ Inv X pins σ H' s2 ∧ Turn X.prog X.w X.K tg J fp it tn ∧ tn 0 s2.heap ∧ (∀ b ∈ fp, FpOk X pins H' b) ∧ R J H'
def PI (X : Cx) (tg iter : Expr) (wi : TI) : Prop :=
  ∀ (pins : List (Addr × Obj)) (s : Shared) (σ : St) (H : Hp) (R : It → Hp → Prop), Inv X pins σ H s → wi σ H R →
    wpAny (model X.prog X.w) X.A (eval iter X.env) (fun v s1 => wpAny (model X.prog X.w) X.A (pyIter v) (PIE X pins σ tg R) X.xe s1) X.xe s

/-- the step ahead of the store is nothing for an iterator that keeps no tuple -/
theorem go_of {M : Model} {A : Around} {E : Value → Shared → Prop} {s : Shared} {tg : Expr} {it : Addr} {u : Value} {o : Obj} {n : String} {vs : Array Value} {Q : Unit → Shared → Prop} (ho : s.heap.get? it = some o) (hc : o.cls = .type n) (hd : o.data = .fields vs)
    (hn : ["enumerate", "zip", "dict_itemiterator", "dict_reverseitemiterator", "odict_iterator", "itertools.zip_longest", "itertools.pairwise"].contains n = false) (hQ : Q () s) : wpAny M A (letOwnedTupleGo tg (.ref it) u) Q E s := by
  unfold letOwnedTupleGo
  cases tg <;> first
    | exact wpAny_pure hQ
    | (cases u <;> first
        | exact wpAny_pure hQ
        | (refine wpAny_bind (wpAny_load ho ?_)
           rw [hc, hd]
           show wpAny M A (if (["enumerate", "zip", "dict_itemiterator", "dict_reverseitemiterator", "odict_iterator", "itertools.zip_longest", "itertools.pairwise"].contains n && vs[0]? == some (rawInt _)) = true then _ else _) Q E s
           rw [if_neg (by intro h; rw [hn, Bool.false_and] at h; cases h)]
           exact wpAny_pure hQ))

/-- the list at a, as it stands at each turn (a loop may append to it) -/
def Itl (K : PySem.W.Frag) (a : Addr) : It :=
  ⟨fun i H => ∃ xs x, SqL K H a xs ∧ xs[i]? = some x, fun i H x H' => H' = H ∧ ∀ xs, SqL K H a xs → xs[i]? = some x, fun i H => ∃ xs, SqL K H a xs ∧ xs.length ≤ i⟩
/-- lo, lo + 1, .. (n of them) -/
def Itr (lo : Int) (n : Nat) : It := ⟨fun i _ => i < n, fun i H x H' => H' = H ∧ x = .int (lo + i), fun i _ => n ≤ i⟩
theorem turn_list {P : Program} {w : World} {K : PySem.W.Frag} {tg : Expr} (a it : Addr) : Turn P w K tg (Itl K a) [it] it (fun i h => h.IsListIter it a i) where
  mem := by simp
  obj := fun i h st b hb => by
    have e : b = it := by simpa using hb
    subst e
    obtain ⟨o, e, c, d⟩ := st
    exact ⟨o, e, fun v z => by rw [d] at z; cases z⟩
  keep := fun i h h' st k => st.at fun o e => k it (by simp) o e
  item := by
    intro X hP hw hK hc i pins s σ H E I hf st hg
    subst hP hw hK
    obtain ⟨xs, x, hq, hx⟩ := hg
    obtain ⟨its, rv, p, hz⟩ := I.list hq
    obtain ⟨u, hu, ru⟩ := rv.get hx
    obtain ⟨f0, f1, f2, f3, f4, f5⟩ := hf it (by simp)
    refine wpAny_pyNext_list_item st p.isList (x := u) (by simpa using hu) fun h' st' sb => ?_
    have I1 : Inv X pins σ H { s with heap := h' } := I.turned (t' := s.toks) (fun b o hb e => (sb.2 b hb).trans e) f0 f1 f3 f4 f5
    obtain ⟨o, e, c, d⟩ := id st'
    exact ⟨u, rfl, go_of (s := { s with heap := h' }) e c d (by decide) ⟨x, H, I1, ru, ⟨rfl, fun ys hy => by rw [I.list_inj hy hq]; exact hx⟩, st', fun b hb => (hf b hb).1⟩⟩
  done := by
    intro X hP hw hK hc i pins s σ H E I hf st hg
    subst hP hw hK
    obtain ⟨xs, hq, hx⟩ := hg
    obtain ⟨its, rv, p, hz⟩ := I.list hq
    obtain ⟨f0, f1, f2, f3, f4, f5⟩ := hf it (by simp)
    have hl := rv.length
    exact wpAny_pyNext_list_end (I.ok.hd hc) st p.isList (by simp; omega) fun h' eb => ⟨rfl, I.turned (t' := s.toks) (fun b o hb e => eb b o hb e) f0 f1 f3 f4 f5⟩
  self := fun _ _ _ _ _ st h => wpAny_pyIter_listiter st h
theorem turn_range {P : Program} {w : World} {K : PySem.W.Frag} {tg : Expr} (it : Addr) (lo : Int) (n : Nat) : Turn P w K tg (Itr lo n) [it] it (fun i h => IsRangeIter h it (lo + (i : Nat) * 1) ((n : Int) - (i : Nat)) 1) where
  mem := by simp
  obj := fun i h st b hb => by
    have e : b = it := by simpa using hb
    subst e
    exact ⟨_, st, fun v z => by
      have z' : Data.fields _ = Data.cell v := z
      cases z'⟩
  keep := fun i h h' st k => k it (by simp) _ st
  item := by
    intro X hP hw hK hc i pins s σ H E I hf st hg
    subst hP hw hK
    obtain ⟨f0, f1, f2, f3, f4, f5⟩ := hf it (by simp)
    have W := Walks.range (prog := X.prog) (w := X.w) (I.ok.hd hc) it lo 1 n
    refine W.item i s _ _ hg st fun v h' tk hv st' kk => ?_
    obtain ⟨t, rfl⟩ := hv
    have I1 : Inv X pins σ H { s with heap := h', toks := tk } := I.turned (fun b o hb e => kk b o (by simpa using hb) e) f0 f1 f3 f4 f5
    refine ⟨_, rfl, go_of (s := { s with heap := h', toks := tk }) (n := "range_iterator") st' rfl rfl (by decide) ⟨.int (lo + i), H, I1, ⟨t, ?_⟩, ⟨rfl, rfl⟩, st', fun b hb => (hf b hb).1⟩⟩
    rw [Int.mul_one]
  done := by
    intro X hP hw hK hc i pins s σ H E I hf st hg
    subst hP hw hK
    obtain ⟨f0, f1, f2, f3, f4, f5⟩ := hf it (by simp)
    exact wpAny_pyNext_range_end (I.ok.hd hc) st (by have : n ≤ i := hg; omega) fun h' eb => ⟨rfl, I.turned (t' := s.toks) (fun b o hb e => eb b o hb e) f0 f1 f3 f4 f5⟩
  self := fun _ _ _ _ _ st h => wpAny_pyIter_rangeiter st h
end L2

namespace L2
open PySem PySem.Spec PyProof.Rows
section
variable {X : Cx} {tg : Expr}
def iList (K : PySem.W.Frag) (tl : TE) : TI := fun σ H R => tl σ H fun x H1 => ∃ a, x = .ref a ∧ (∃ xs, SqL K H1 a xs) ∧ R (Itl K a) H1
theorem pi_list {l : Expr} {tl : TE} (hl : PE X l tl) : PI X tg l (iList X.K tl) := by
  intro pins s σ H R I h
  refine thn (hl pins s σ H _ I h) fun v s1 ⟨x, H1, I1, r1, q1⟩ => ?_
  obtain ⟨a, e, ⟨xs, hq⟩, q⟩ := q1
  subst e
  cases r1
  obtain ⟨its, rv, p, hz⟩ := I1.list hq
  refine wpAny_pyIter_list p.isList ?_
  refine ⟨s1.heap.objs.size, [s1.heap.objs.size], _, _, H1, rfl, I1.kept (t' := s1.toks) fun b o e => Heap.get?_push_of_some _ e, turn_list a _, ⟨_, Heap.get?_push_size _ rfl, rfl, rfl⟩, fun b hb => ?_, q⟩
  have e : b = s1.heap.objs.size := by simpa using hb
  subst e
  exact I1.fpOk (Nat.le_refl _) (I1.hok.fresh (Nat.le_refl _))
/-- a range object just made, walked -/
theorem range_it {pins : List (Addr × Obj)} {σ : St} {H : Hp} {s : Shared} {R : It → Hp → Prop} {E : Value → Shared → Prop} {lo hi : Int} {t u v : Tok} {tk : Nat} (I : Inv X pins σ H s) (h1 : -(2 ^ 62) ≤ lo) (h2 : lo < 2 ^ 62) (h3 : -(2 ^ 62) ≤ hi) (h4 : hi < 2 ^ 62)
    (q : R (Itr lo (hi - lo).toNat) H) : wpAny (model X.prog X.w) X.A (pyIter (.ref s.heap.objs.size)) (PIE X pins σ tg R) E { s with heap := s.heap.push { cls := .type "range", data := .fields #[.int lo t, .int hi u, .int 1 v] }, toks := tk } := by
  refine wpAny_pyIter_range (IsRange.new ..) (small_one h1 h2 h3 h4) ?_
  have I1 : Inv X pins σ H { s with heap := s.heap.push { cls := .type "range", data := .fields #[.int lo t, .int hi u, .int 1 v] }, toks := tk } := I.kept fun b o e => Heap.get?_push_of_some _ e
  refine ⟨(s.heap.push { cls := .type "range", data := .fields #[.int lo t, .int hi u, .int 1 v] }).objs.size, [(s.heap.push { cls := .type "range", data := .fields #[.int lo t, .int hi u, .int 1 v] }).objs.size], _, _, H, rfl,
    I1.kept (t' := tk) fun b o e => Heap.get?_push_of_some _ e, turn_range _ lo (hi - lo).toNat, ?_, fun b hb => ?_, q⟩
  · have e1 : lo + ((0 : Nat) : Int) * 1 = lo := by simp
    have e2 : (((hi - lo).toNat : Nat) : Int) - ((0 : Nat) : Int) = Builtin.Range.rangeSize lo hi 1 := by rw [rangeSize_one]; split <;> omega
    show IsRangeIter _ _ (lo + ((0 : Nat) : Int) * 1) ((((hi - lo).toNat : Nat) : Int) - ((0 : Nat) : Int)) 1
    rw [e1, e2]
    exact Heap.get?_push_size _ rfl
  · have e : b = (s.heap.push { cls := .type "range", data := .fields #[.int lo t, .int hi u, .int 1 v] }).objs.size := by simpa using hb
    subst e
    exact I1.fpOk (Nat.le_refl _) (I1.hok.fresh (Nat.le_refl _))
def iRng1 (ta : TA) : TI := fun σ H R => ta σ H fun vs H1 => ∃ j : Int, vs = [.int j] ∧ -(2 ^ 62) ≤ j ∧ j < 2 ^ 62 ∧ R (Itr 0 j.toNat) H1
theorem pi_range1 {a : Expr} {ta : TA} {p pos : Pos} (hg : Gl X "range") (hm : X.mg "range" = none) (ha : PA X [a] ta) (hs : starEach [a] X.env = [(false, eval a X.env)] := by rfl) : PI X tg (.Call (.Name "range" p) [a] [] pos) (iRng1 ta) := by
  intro pins s σ H R I h
  refine Call_ (ld_blt I hg hm boot_range (PyProof.Rows.callWith_type1 (thn (ha pos pins s σ H _ I h) fun us s1 ⟨vs, H1, I1, r1, q1⟩ => ?_) hs rfl))
  obtain ⟨j, e, q1, q2, q⟩ := q1
  subst e
  cases r1 with
  | cons r rr =>
    cases rr
    obtain ⟨t, rfl⟩ := r
    exact call_range_1 (range_it I1 (by omega) (by omega) q1 q2 (by simpa using q))
/-! ### for -/
/-- W: the invariant by the turn and a measure; N: what the body is to reach -/
def tFor (wi : TI) (g : TG) (tb : TS) : TS := fun D σ H => wi σ H fun J H1 => ∃ W : Nat → Nat → St → Hp → Prop, (∃ m, W 0 m σ H1) ∧ ∀ i m σ H, W i m σ H →
  (J.stop i H ∧ D.nx σ H) ∨ (J.go i H ∧ ∃ N : St → Hp → Prop, (∀ σ' H', N σ' H' → ∃ m', m' < m ∧ W (i + 1) m' σ' H') ∧ ∀ x H', J.yld i H x H' → g x σ H' fun σ2 H2 => tb { D with nx := N, ct := N, bk := D.nx } σ2 H2)
/-- the records at fp as they stand -/
def pinsAt (fp : List Addr) (h : Heap) : List (Addr × Obj) := fp.filterMap fun b => (h.get? b).map fun o => (b, o)
theorem mem_pinsAt {fp : List Addr} {h : Heap} {b : Addr} {o : Obj} (hb : b ∈ fp) (e : h.get? b = some o) : (b, o) ∈ pinsAt fp h := List.mem_filterMap.mpr ⟨b, hb, by rw [e]; rfl⟩
theorem of_pinsAt {fp : List Addr} {h : Heap} {p : Addr × Obj} (hp : p ∈ pinsAt fp h) : p.1 ∈ fp ∧ h.get? p.1 = some p.2 := by
  obtain ⟨b, hb, e⟩ := List.mem_filterMap.mp hp
  cases q : h.get? b with
  | none => rw [q] at e; cases e
  | some o =>
    rw [q] at e
    have e' : (b, o) = p := Option.some.inj e
    subst e'
    exact ⟨hb, q⟩
theorem Inv.pinned {pins : List (Addr × Obj)} {σ : St} {H : Hp} {s : Shared} {fp : List Addr} (I : Inv X pins σ H s) (hf : ∀ b ∈ fp, FpOk X pins H b) (ho : ∀ b ∈ fp, ∃ o, s.heap.get? b = some o ∧ ∀ v, o.data ≠ .cell v) : Inv X (pins ++ pinsAt fp s.heap) σ H s :=
  I.pins_of fun p hp => (List.mem_append.mp hp).elim (fun z => I.pin p (List.mem_append_right _ z)) fun z => by
    obtain ⟨hb, e⟩ := of_pinsAt z
    obtain ⟨f0, f1, f2, _⟩ := hf p.1 hb
    obtain ⟨o, e', d⟩ := ho p.1 hb
    rw [e] at e'; cases e'
    exact ⟨e, f0, f1, f2, d⟩
theorem Inv.unpinned {pins pl : List (Addr × Obj)} {σ : St} {H : Hp} {s : Shared} (I : Inv X (pins ++ pl) σ H s) : Inv X pins σ H s := I.pins_of fun p hp => I.pin p (List.mem_append_right _ (List.mem_append_left _ hp))
theorem ps_for {iter : Expr} {body : List Stmt} {wi : TI} {g : TG} {tb : TS} {pos : Pos} (hp : PassesOwn (model X.prog X.w) X.A X.env X.xe) (hc : X.calm = true) (hi : PI X tg iter wi) (hg : PG X tg g) (hb : PSs X body tb)
    (hs : ∀ x, foldedSetIterable iter X.env x = pure x := by intro _; rfl) : PS X (.For tg iter body [] pos) (tFor wi g tb) := by
  intro pins s σ H D I h
  refine wpAny_For (thn (hi pins s σ H _ I h) fun v s1 h1 => thn h1 fun itv s2 h2 => ?_) hs
  obtain ⟨it, fp, tn, J, H2, e, I2, T, st2, f2, W, ⟨m0, w0⟩, turn⟩ := h2
  subst e
  -- what stays true of the iterator's objects through the loop
  have stat : ∀ {H' : Hp}, (∀ b ∈ fp, H' b = none) → ∀ b ∈ fp, FpOk X pins H' b := fun hn b hb => ⟨hn b hb, (f2 b hb).2⟩
  refine codeAny_forLoop_any (fun n s' => ∃ i σ' H', Inv X pins σ' H' s' ∧ tn i s'.heap ∧ (∀ b ∈ fp, H' b = none) ∧ W i n σ' H') ?_ m0 ⟨0, σ, H2, I2, st2, fun b hb => (f2 b hb).1, w0⟩
  rintro n s3 ⟨i, σ3, H3, I3, st3, fr3, w3⟩
  rcases turn i n σ3 H3 w3 with ⟨stop, qn⟩ | ⟨go, N, hN, step⟩
  · refine wpAny_passesOwn hp (thn (T.done X rfl rfl rfl hc i pins s3 σ3 H3 X.xe I3 (stat fr3) st3 stop) fun r s4 ⟨hr, I4⟩ => ?_)
    subst hr
    exact wpAny_execs_nil ⟨σ3, H3, I4, qn⟩
  · refine wpAny_passesOwn hp (thn (T.item X rfl rfl rfl hc i pins s3 σ3 H3 X.xe I3 (stat fr3) st3 go) fun r s4 ⟨u, hr, h4⟩ => ?_)
    subst hr
    refine wpAny_passesOwn hp (thn h4 fun _ s5 ⟨x, H5, I5, r5, y5, st5, fr5⟩ => ?_)
    have I5' := I5.pinned (stat fr5) (T.obj _ _ st5)
    refine wpAny_passesOwn hp (thn (hg _ s5 σ3 H5 x u _ I5' r5 (step x H5 y5)) fun _ s6 ⟨σ6, H6, I6, q6⟩ => ?_)
    refine wpAny_passesOwn hp (thn (hb _ s6 σ6 H6 _ I6 q6) fun f s7 q7 => ?_)
    have again : ∀ {σ7 : St} {H7 : Hp}, Inv X (pins ++ pinsAt fp s5.heap) σ7 H7 s7 → N σ7 H7 → ∃ m, m < n ∧ ∃ i σ' H', Inv X pins σ' H' s7 ∧ tn i s7.heap ∧ (∀ b ∈ fp, H' b = none) ∧ W i m σ' H' := fun {σ7 H7} I7 n7 => by
      obtain ⟨m', hm, w7⟩ := hN σ7 H7 n7
      refine ⟨m', hm, i + 1, σ7, H7, I7.unpinned, T.keep _ _ _ st5 fun b hb o e => (I7.pin (b, o) (List.mem_append_right _ (List.mem_append_right _ (mem_pinsAt hb e)))).1, fun b hb => ?_, w7⟩
      obtain ⟨o, e, d⟩ := T.obj _ _ st5 b hb
      exact (I7.pin (b, o) (List.mem_append_right _ (List.mem_append_right _ (mem_pinsAt hb e)))).2.1
    cases f with
    | next => obtain ⟨σ7, H7, I7, n7⟩ := q7; exact again I7 n7
    | cont => obtain ⟨σ7, H7, I7, n7⟩ := q7; exact again I7 n7
    | brk => obtain ⟨σ7, H7, I7, q7⟩ := q7; exact ⟨σ7, H7, I7.unpinned, q7⟩
    | ret v => obtain ⟨x7, σ7, H7, I7, r7, q7⟩ := q7; exact ⟨x7, σ7, H7, I7.unpinned, r7, q7⟩
end

/-! ### the forms one uses -/
/-- over a list that the body leaves as it is -/
theorem for_list {K : PySem.W.Frag} {a : Addr} {xs : List V} {g : TG} {tb : TS} {D : Ends} {σ : St} {H : Hp} (Pv : Nat → St → Hp → Prop) (h0 : Pv 0 σ H) (hl : ∀ i σ H, i ≤ xs.length → Pv i σ H → SqL K H a xs)
    (hs : ∀ i x σ H, xs[i]? = some x → Pv i σ H → g x σ H fun σ2 H2 => tb { D with nx := Pv (i + 1), ct := Pv (i + 1), bk := D.nx } σ2 H2) (hd : ∀ σ H, Pv xs.length σ H → D.nx σ H) :
    ∃ W : Nat → Nat → St → Hp → Prop, (∃ m, W 0 m σ H) ∧ ∀ i m σ H, W i m σ H →
      ((Itl K a).stop i H ∧ D.nx σ H) ∨ ((Itl K a).go i H ∧ ∃ N : St → Hp → Prop, (∀ σ' H', N σ' H' → ∃ m', m' < m ∧ W (i + 1) m' σ' H') ∧ ∀ x H', (Itl K a).yld i H x H' → g x σ H' fun σ2 H2 => tb { D with nx := N, ct := N, bk := D.nx } σ2 H2) := by
  refine ⟨fun i m σ H => m = xs.length - i ∧ i ≤ xs.length ∧ Pv i σ H, ⟨xs.length, by simp, Nat.zero_le _, h0⟩, ?_⟩
  rintro i m σ H ⟨rfl, hi, p⟩
  have q := hl i σ H hi p
  by_cases hlt : i < xs.length
  · refine .inr ⟨⟨xs, xs[i], q, by simp [hlt]⟩, Pv (i + 1), fun σ' H' p' => ⟨xs.length - (i + 1), by omega, rfl, hlt, p'⟩, fun x H' y => ?_⟩
    obtain ⟨e, y⟩ := y
    subst e
    exact hs i x σ _ (y xs q) p
  · have e : i = xs.length := by omega
    subst e
    exact .inl ⟨⟨xs, q, Nat.le_refl _⟩, hd σ H p⟩
theorem for_range {lo : Int} {n : Nat} {g : TG} {tb : TS} {D : Ends} {σ : St} {H : Hp} (Pv : Nat → St → Hp → Prop) (h0 : Pv 0 σ H)
    (hs : ∀ i σ H, i < n → Pv i σ H → g (.int (lo + i)) σ H fun σ2 H2 => tb { D with nx := Pv (i + 1), ct := Pv (i + 1), bk := D.nx } σ2 H2) (hd : ∀ σ H, Pv n σ H → D.nx σ H) :
    ∃ W : Nat → Nat → St → Hp → Prop, (∃ m, W 0 m σ H) ∧ ∀ i m σ H, W i m σ H →
      ((Itr lo n).stop i H ∧ D.nx σ H) ∨ ((Itr lo n).go i H ∧ ∃ N : St → Hp → Prop, (∀ σ' H', N σ' H' → ∃ m', m' < m ∧ W (i + 1) m' σ' H') ∧ ∀ x H', (Itr lo n).yld i H x H' → g x σ H' fun σ2 H2 => tb { D with nx := N, ct := N, bk := D.nx } σ2 H2) := by
  refine ⟨fun i m σ H => m = n - i ∧ i ≤ n ∧ Pv i σ H, ⟨n, by simp, Nat.zero_le _, h0⟩, ?_⟩
  rintro i m σ H ⟨rfl, hi, p⟩
  by_cases hlt : i < n
  · refine .inr ⟨hlt, Pv (i + 1), fun σ' H' p' => ⟨n - (i + 1), by omega, rfl, hlt, p'⟩, fun x H' y => ?_⟩
    obtain ⟨e, y⟩ := y
    subst e y
    exact hs i σ _ hlt p
  · have e : i = n := by omega
    subst e
    exact .inl ⟨Nat.le_refl _, hd σ H p⟩
end L2

namespace L2
open PySem PySem.Spec PyProof.Rows

abbrev R2 := V → V → Hp → VK → Prop
/-- a two-place operation on values: f is binaryOp op, inplaceOp op or compareOp op -/
def OpR (X : Cx) (f : Value → Value → Sem Value) (r : R2) : Prop :=
  ∀ (pins : List (Addr × Obj)) (s : Shared) (σ : St) (H : Hp) (x y : V) (v u : Value) (Q : VK), Inv X pins σ H s → RelV x v → RelV y u → r x y H Q →
    wpAny (model X.prog X.w) X.A (f v u) (EP X pins σ Q) X.xe s
/-- a one-place operation -/
def UnR (X : Cx) (f : Value → Sem Value) (r : V → Hp → VK → Prop) : Prop :=
  ∀ (pins : List (Addr × Obj)) (s : Shared) (σ : St) (H : Hp) (x : V) (v : Value) (Q : VK), Inv X pins σ H s → RelV x v → r x H Q →
    wpAny (model X.prog X.w) X.A (f v) (EP X pins σ Q) X.xe s
/-- a call of a value that is known (a builtin, a type) with values -/
def CallR (X : Cx) (f : Value) (r : List V → Hp → VK → Prop) : Prop :=
  ∀ (pins : List (Addr × Obj)) (s : Shared) (σ : St) (H : Hp) (xs : List V) (us : List Value) (Q : VK), Inv X pins σ H s → Vals xs us → r xs H Q →
    wpAny (model X.prog X.w) X.A (call f us) (EP X pins σ Q) X.xe s
def tOp (r : R2) (ta tb : TE) : TE := fun σ H Q => ta σ H fun x H1 => tb σ H1 fun y H2 => r x y H2 Q
def tUn (r : V → Hp → VK → Prop) (ta : TE) : TE := fun σ H Q => ta σ H fun x H1 => r x H1 Q
/-- ints in, under C, and a value out -/
def rI (C : Int → Int → Prop) (g : Int → Int → V) : R2 := fun x y H Q => ∃ i j, x = .int i ∧ y = .int j ∧ C i j ∧ Q (g i j) H
def rI0 (g : Int → Int → V) : R2 := fun x y H Q => ∃ i j, x = .int i ∧ y = .int j ∧ Q (g i j) H
def rU (g : Int → V) : V → Hp → VK → Prop := fun x H Q => ∃ i, x = .int i ∧ Q (g i) H

section
variable {X : Cx} {a b c : Expr} {ta tb tc : TE} {pos : Pos}

theorem binT (ha : PE X a ta) (hb : PE X b tb) {pins : List (Addr × Obj)} {s : Shared} {σ : St} {H : Hp} {R : V → V → Hp → Prop} (I : Inv X pins σ H s)
    (h : ta σ H fun x H1 => tb σ H1 fun y H2 => R x y H2) {Q : Value → Shared → Prop} {f : Value → Value → Sem Value}
    (hf : ∀ v u s2 x y H2, Inv X pins σ H2 s2 → RelV x v → RelV y u → R x y H2 → wpAny (model X.prog X.w) X.A (f v u) Q X.xe s2) :
    wpAny (model X.prog X.w) X.A (eval a X.env) (fun v s₁ => wpAny (model X.prog X.w) X.A (eval b X.env) (fun u s₂ => wpAny (model X.prog X.w) X.A (f v u) Q X.xe s₂) X.xe s₁) X.xe s := by
  refine thn (ha pins s σ H _ I h) fun v s1 ⟨x, H1, I1, r1, q1⟩ => ?_
  refine thn (hb pins s1 σ H1 _ I1 q1) fun u s2 ⟨y, H2, I2, r2, q2⟩ => ?_
  exact hf v u s2 x y H2 I2 r1 r2 q2

theorem pe_op {op : Operator} {r : R2} (ho : OpR X (binaryOp op) r) (ha : PE X a ta) (hb : PE X b tb) : PE X (.BinOp a op b pos) (tOp r ta tb) := by
  intro pins s σ H Q I h
  exact wpAny_BinOp (binT ha hb I h fun v u s2 x y H2 I2 rx ry q => ho pins s2 σ H2 x y v u Q I2 rx ry q)
theorem pe_un {op : UnaryOp} {r : V → Hp → VK → Prop} (ho : UnR X (unaryOp op) r) (ha : PE X a ta) : PE X (.UnaryOp op a pos) (tUn r ta) := by
  intro pins s σ H Q I h
  exact UnaryOp_ (thn (ha pins s σ H _ I h) fun v s1 ⟨x, H1, I1, r1, q1⟩ => ho pins s1 σ H1 x v Q I1 r1 q1)
/-! ### ints -/
theorem opI {f : Value → Value → Sem Value} {C : Int → Int → Prop} {g : Int → Int → Int}
    (rule : ∀ (i j : Int) (t u : Tok) (s : Shared) (Q : Value → Shared → Prop) (E : Value → Shared → Prop), C i j → Q (.int (g i j) s.toks) { s with toks := s.toks + 1 } → wpAny (model X.prog X.w) X.A (f (.int i t) (.int j u)) Q E s) :
    OpR X f (rI C fun i j => .int (g i j)) := by
  intro pins s σ H x y v u Q I rx ry h
  obtain ⟨i, j, rfl, rfl, hc, q⟩ := h
  obtain ⟨t, rfl⟩ := rx
  obtain ⟨t', rfl⟩ := ry
  exact rule i j t t' s _ _ hc ⟨.int (g i j), H, I.tok _, ⟨_, rfl⟩, q⟩
theorem opI0 {f : Value → Value → Sem Value} {g : Int → Int → Int}
    (rule : ∀ (i j : Int) (t u : Tok) (s : Shared) (Q : Value → Shared → Prop) (E : Value → Shared → Prop), Q (.int (g i j) s.toks) { s with toks := s.toks + 1 } → wpAny (model X.prog X.w) X.A (f (.int i t) (.int j u)) Q E s) :
    OpR X f (rI0 fun i j => .int (g i j)) := by
  intro pins s σ H x y v u Q I rx ry h
  obtain ⟨i, j, rfl, rfl, q⟩ := h
  obtain ⟨t, rfl⟩ := rx
  obtain ⟨t', rfl⟩ := ry
  exact rule i j t t' s _ _ ⟨.int (g i j), H, I.tok _, ⟨_, rfl⟩, q⟩
theorem opB0 {f : Value → Value → Sem Value} {g : Int → Int → Bool}
    (rule : ∀ (i j : Int) (t u : Tok) (s : Shared) (Q : Value → Shared → Prop) (E : Value → Shared → Prop), Q (.bool (g i j)) s → wpAny (model X.prog X.w) X.A (f (.int i t) (.int j u)) Q E s) :
    OpR X f (rI0 fun i j => .bl (g i j)) := by
  intro pins s σ H x y v u Q I rx ry h
  obtain ⟨i, j, rfl, rfl, q⟩ := h
  obtain ⟨t, rfl⟩ := rx
  obtain ⟨t', rfl⟩ := ry
  exact rule i j t t' s _ _ ⟨.bl (g i j), H, I, rfl, q⟩

def CDiv (i j : Int) : Prop := 0 < j ∧ j < 1073741824
def CPow (i j : Int) : Prop := 0 ≤ j ∧ j ≤ 1000000 ∧ i.natAbs < 2 ^ 64
def CMul (i j : Int) : Prop := (-(2 ^ 64) < i ∧ i < 2 ^ 64) ∨ (-(2 ^ 64) < j ∧ j < 2 ^ 64)
theorem CMul.ok {i j : Int} (h : CMul i j) : IntMulOk i j := by
  rcases h with ⟨h1, h2⟩ | ⟨h1, h2⟩
  · exact .of_left (intBits_le_64 h1 h2)
  · exact .of_right (intBits_le_64 h1 h2)
theorem op_add : OpR X (binaryOp .Add) (rI0 fun i j => .int (i + j)) := opI0 fun _ _ _ _ _ _ _ q => add_int q
theorem op_sub : OpR X (binaryOp .Sub) (rI0 fun i j => .int (i - j)) := opI0 fun _ _ _ _ _ _ _ q => sub_int q
theorem op_mul : OpR X (binaryOp .Mult) (rI CMul fun i j => .int (i * j)) := opI fun _ _ _ _ _ _ _ hc q => mul_int q hc.ok
/-- // by a positive divisor -/
theorem op_fdiv : OpR X (binaryOp .FloorDiv) (rI CDiv fun i j => .int (i / j)) := opI fun i j _ _ _ _ _ hc q => by
  have h1 : (0 : Int) < j := hc.1
  have h2 : j < 1073741824 := hc.2
  exact floordiv_int (by omega) (by rw [Int.fdiv_eq_ediv_of_nonneg i (by omega)]; exact q) (.inl (PyProof.noPylong_small (by omega)))
/-- % by a positive divisor of any size -/
theorem op_mod : OpR X (binaryOp .Mod) (rI (fun _ j => 0 < j) fun i j => .int (i % j)) := opI fun i j _ _ _ _ _ hc q => by
  have h1 : (0 : Int) < j := hc
  exact mod_int' (by omega) (by rw [Int.fmod_eq_emod_of_nonneg i (by omega)]; exact q)
theorem unI {f : Value → Sem Value} {g : Int → Int}
    (rule : ∀ (i : Int) (t : Tok) (s : Shared) (Q : Value → Shared → Prop) (E : Value → Shared → Prop), Q (.int (g i) s.toks) { s with toks := s.toks + 1 } → wpAny (model X.prog X.w) X.A (f (.int i t)) Q E s) :
    UnR X f (rU fun i => .int (g i)) := by
  intro pins s σ H x v Q I rx h
  obtain ⟨i, rfl, q⟩ := h
  obtain ⟨t, rfl⟩ := rx
  exact rule i t s _ _ ⟨.int (g i), H, I.tok _, ⟨_, rfl⟩, q⟩
theorem un_neg : UnR X (unaryOp .USub) (rU fun i => .int (-i)) := unI fun _ _ _ _ _ q => neg_int q
/-! ### bools among ints: n += (a < b) -/
end

/-! ### comparisons -/
/-- the scalars that == tells apart as data does -/
def scal : V → V → Bool
  | .non, .non => true | .non, .int _ => true | .int _, .non => true | .non, .bl _ => true | .bl _, .non => true | .non, .str _ => true | .str _, .non => true
  | .int _, .int _ => true | .bl _, .bl _ => true | .str _, .str _ => true | .byt _, .byt _ => true
  | .int _, .str _ => true | .str _, .int _ => true | .bl _, .str _ => true | .str _, .bl _ => true
  | _, _ => false
def rEq : R2 := fun x y H Q => scal x y = true ∧ Q (.bl (decide (x = y))) H
def rNe : R2 := fun x y H Q => scal x y = true ∧ Q (.bl (!decide (x = y))) H

theorem dec_int {i j : Int} : decide (V.int i = V.int j) = (i == j) := by
  rw [Bool.eq_iff_iff]
  simp
theorem dec_bl {i j : Bool} : decide (V.bl i = V.bl j) = (i == j) := by
  rw [Bool.eq_iff_iff]
  simp
theorem dec_str {i j : Str} : decide (V.str i = V.str j) = (i == j) := by
  rw [Bool.eq_iff_iff]
  simp
theorem dec_byt {i j : Array UInt8} : decide (V.byt i = V.byt j) = (i.toList == j.toList) := by
  rw [Bool.eq_iff_iff]
  cases i
  cases j
  simp

section
variable {X : Cx} {a b c : Expr} {ta tb tc : TE} {pos : Pos}
theorem fin_bl {pins : List (Addr × Obj)} {σ : St} {H : Hp} {s : Shared} {Q : VK} {k k' : Bool} (I : Inv X pins σ H s) (q : Q (.bl k) H) (e : k = k') : EP X pins σ Q (.bool k') s := by
  subst e
  exact ⟨.bl k, H, I, rfl, q⟩
theorem op_eq : OpR X (compareOp .Eq) rEq := by
  intro pins s σ H x y v u Q I rx ry h
  obtain ⟨hs, q⟩ := h
  cases x with
  | non =>
    cases rx
    cases y with
    | non => cases ry; exact PySem.EqNone.eq_none_none (fin_bl I q (by simp))
    | bl j => cases ry; exact PySem.EqNone.eq_none_bool (fin_bl I q (by simp))
    | int j => obtain ⟨t', rfl⟩ := ry; exact PySem.EqNone.eq_none_int (fin_bl I q (by simp))
    | str j => obtain ⟨t', rfl⟩ := ry; exact PySem.EqNone.eq_none_str (fin_bl I q (by simp))
    | _ => exact absurd (show false = true from hs) Bool.false_ne_true
  | bl i =>
    cases rx
    cases y with
    | non => cases ry; exact PySem.EqNone.eq_bool_none (fin_bl I q (by simp))
    | bl j => cases ry; exact eq_bool (fin_bl I q dec_bl)
    | str j => obtain ⟨t', rfl⟩ := ry; exact PySem.EqMixed.eq_bool_str (fin_bl I q (by simp))
    | _ => exact absurd (show false = true from hs) Bool.false_ne_true
  | int i =>
    obtain ⟨t, rfl⟩ := rx
    cases y with
    | non => cases ry; exact PySem.EqNone.eq_int_none (fin_bl I q (by simp))
    | int j => obtain ⟨t', rfl⟩ := ry; exact eq_int (fin_bl I q dec_int)
    | str j => obtain ⟨t', rfl⟩ := ry; exact PySem.EqMixed.eq_int_str (fin_bl I q (by simp))
    | _ => exact absurd (show false = true from hs) Bool.false_ne_true
  | str i =>
    obtain ⟨t, rfl⟩ := rx
    cases y with
    | non => cases ry; exact PySem.EqNone.eq_str_none (fin_bl I q (by simp))
    | bl j => cases ry; exact PySem.EqMixed.eq_str_bool (fin_bl I q (by simp))
    | int j => obtain ⟨t', rfl⟩ := ry; exact PySem.EqMixed.eq_str_int (fin_bl I q (by simp))
    | str j => obtain ⟨t', rfl⟩ := ry; exact eq_str (fin_bl I q dec_str)
    | _ => exact absurd (show false = true from hs) Bool.false_ne_true
  | byt i =>
    obtain ⟨t, rfl⟩ := rx
    cases y with
    | byt j => obtain ⟨t', rfl⟩ := ry; exact PySem.W.eq_bytes (fin_bl I q dec_byt)
    | _ => exact absurd (show false = true from hs) Bool.false_ne_true
  | _ => cases y <;> exact absurd (show false = true from hs) Bool.false_ne_true
theorem op_ne : OpR X (compareOp .NotEq) rNe := by
  intro pins s σ H x y v u Q I rx ry h
  obtain ⟨hs, q⟩ := h
  cases x with
  | non =>
    cases rx
    cases y with
    | non => cases ry; exact PySem.EqNone.ne_none_none (fin_bl I q (by simp))
    | bl j => cases ry; exact PySem.EqNone.ne_none_bool (fin_bl I q (by simp))
    | int j => obtain ⟨t', rfl⟩ := ry; exact PySem.EqNone.ne_none_int (fin_bl I q (by simp))
    | str j => obtain ⟨t', rfl⟩ := ry; exact PySem.EqNone.ne_none_str (fin_bl I q (by simp))
    | _ => exact absurd (show false = true from hs) Bool.false_ne_true
  | bl i =>
    cases rx
    cases y with
    | non => cases ry; exact PySem.EqNone.ne_bool_none (fin_bl I q (by simp))
    | bl j => cases ry; exact ne_bool (fin_bl I q (congrArg not dec_bl))
    | str j => obtain ⟨t', rfl⟩ := ry; exact PySem.EqMixed.ne_bool_str (fin_bl I q (by simp))
    | _ => exact absurd (show false = true from hs) Bool.false_ne_true
  | int i =>
    obtain ⟨t, rfl⟩ := rx
    cases y with
    | non => cases ry; exact PySem.EqNone.ne_int_none (fin_bl I q (by simp))
    | int j => obtain ⟨t', rfl⟩ := ry; exact ne_int (fin_bl I q (congrArg not dec_int))
    | str j => obtain ⟨t', rfl⟩ := ry; exact PySem.EqMixed.ne_int_str (fin_bl I q (by simp))
    | _ => exact absurd (show false = true from hs) Bool.false_ne_true
  | str i =>
    obtain ⟨t, rfl⟩ := rx
    cases y with
    | non => cases ry; exact PySem.EqNone.ne_str_none (fin_bl I q (by simp))
    | bl j => cases ry; exact PySem.EqMixed.ne_str_bool (fin_bl I q (by simp))
    | int j => obtain ⟨t', rfl⟩ := ry; exact PySem.EqMixed.ne_str_int (fin_bl I q (by simp))
    | str j => obtain ⟨t', rfl⟩ := ry; exact ne_str (fin_bl I q (congrArg not dec_str))
    | _ => exact absurd (show false = true from hs) Bool.false_ne_true
  | byt i =>
    obtain ⟨t, rfl⟩ := rx
    cases y with
    | byt j => obtain ⟨t', rfl⟩ := ry; exact PySem.W.ne_bytes (fin_bl I q (congrArg not dec_byt))
    | _ => exact absurd (show false = true from hs) Bool.false_ne_true
  | _ => cases y <;> exact absurd (show false = true from hs) Bool.false_ne_true

theorem op_lt : OpR X (compareOp .Lt) (rI0 fun i j => .bl (decide (i < j))) := opB0 fun _ _ _ _ _ _ _ q => lt_int q
theorem op_gt : OpR X (compareOp .Gt) (rI0 fun i j => .bl (decide (j < i))) := opB0 fun _ _ _ _ _ _ _ q => gt_int q
/-- is None, is not None: the right side a value none -/
theorem op_isN : OpR X (compareOp .Is) (fun x y H Q => y = .non ∧ Q (.bl (decide (x = .non))) H) := by
  intro pins s σ H x y v u Q I rx ry h
  obtain ⟨rfl, q⟩ := h
  cases ry
  refine is_none_gen (fin_bl I q ?_)
  cases x <;> first
    | (cases rx; rfl)
    | (obtain ⟨t, rfl⟩ := rx; rfl)
theorem op_notN : OpR X (compareOp .IsNot) (fun x y H Q => y = .non ∧ Q (.bl (!decide (x = .non))) H) := by
  intro pins s σ H x y v u Q I rx ry h
  obtain ⟨rfl, q⟩ := h
  cases ry
  refine isnot_none_gen (fin_bl I q ?_)
  cases x <;> first
    | (cases rx; rfl)
    | (obtain ⟨t, rfl⟩ := rx; rfl)

/-- two rules for one operation: by cases -/
theorem OpR.or {f : Value → Value → Sem Value} {r r' : R2} (h : OpR X f r) (h' : OpR X f r') : OpR X f (fun x y H Q => r x y H Q ∨ r' x y H Q) := by
  intro pins s σ H x y v u Q I rx ry q
  rcases q with q | q
  · exact h pins s σ H x y v u Q I rx ry q
  · exact h' pins s σ H x y v u Q I rx ry q

theorem nomark (b : Expr) {op : CmpOp} (h : op ≠ .In := by decide) (h2 : op ≠ .NotIn := by decide) : behindInMarks op b = false := by
  have e1 : (op == CmpOp.In) = false := by cases op <;> first | rfl | exact absurd rfl h
  have e2 : (op == CmpOp.NotIn) = false := by cases op <;> first | rfl | exact absurd rfl h2
  cases b <;> simp [behindInMarks, e1, e2]
/-- a comparison as a value; hm: nomark b, or (for in, not in) by with_unfolding_all rfl -/
theorem pe_cmpR {op : CmpOp} {r : R2} (ho : OpR X (compareOp op) r) (ha : PE X a ta) (hb : PE X b tb) (hm : behindInMarks op b = false) : PE X (.Compare a [op] [b] pos) (tOp r ta tb) := by
  intro pins s σ H Q I h
  exact wpAny_Compare1 (binT ha hb I h fun v u s2 x y H2 I2 rx ry q => ho pins s2 σ H2 x y v u Q I2 rx ry q) hm
/-- a reading of a value as a test -/
def tTest (t : TE) : TT := fun σ H Q => t σ H fun x H' => ∃ k, x = .bl k ∧ Q k H'
theorem pt_cmpR {op : CmpOp} {r : R2} (ho : OpR X (compareOp op) r) (ha : PE X a ta) (hb : PE X b tb) (hm : behindInMarks op b = false) : PT X (.Compare a [op] [b] pos) (tTest (tOp r ta tb)) := by
  intro pins s σ H Q I h
  refine wpAny_isTrue_Compare1 (thn (ha pins s σ H _ I h) fun v s1 ⟨x, H1, I1, r1, q1⟩ => thn (hb pins s1 σ H1 _ I1 q1) fun u s2 ⟨y, H2, I2, r2, q2⟩ =>
    thn (ho pins s2 σ H2 x y v u _ I2 r1 r2 q2) fun c s3 ⟨z, H3, I3, r3, k, e, q3⟩ => ?_) hm
  subst e
  cases r3
  exact wpAny_truthy_bool ⟨H3, I3, q3⟩
/-! ### truth -/
theorem line63 : (sizeLine : Nat) < 2 ^ 63 := by rw [sizeLine_eq]; decide
/-! ### strs and bytes -/
theorem op_add_str : OpR X (binaryOp .Add) (fun x y H Q => ∃ i j, x = .str i ∧ y = .str j ∧ i.length + j.length ≤ sizeLine ∧ Q (.str (i ++ j)) H) := by
  intro pins s σ H x y v u Q I rx ry h
  obtain ⟨i, j, rfl, rfl, hz, q⟩ := h
  obtain ⟨t, rfl⟩ := rx
  obtain ⟨t', rfl⟩ := ry
  exact add_str (fun t' tk => ⟨.str (i ++ j), H, I.tok _, ⟨_, rfl⟩, q⟩) hz
/-! ### scalar builtins, by CallR -/
theorem vals1 {x : V} {us : List Value} (r : Vals [x] us) : ∃ u, us = [u] ∧ RelV x u := by
  cases r with
  | cons r1 r2 => cases r2; exact ⟨_, rfl, r1⟩
theorem vals2 {x y : V} {us : List Value} (r : Vals [x, y] us) : ∃ u w', us = [u, w'] ∧ RelV x u ∧ RelV y w' := by
  cases r with
  | cons r1 r2 =>
    cases r2 with
    | cons r3 r4 => cases r4; exact ⟨_, _, rfl, r1, r3⟩
theorem call_int1 : CallR X (.type "int") (fun xs H Q => (∃ i, xs = [.int i] ∧ Q (.int i) H) ∨ ∃ k, xs = [.bl k] ∧ Q (.int (if k then 1 else 0)) H) := by
  intro pins s σ H xs us Q I r h
  rcases h with ⟨i, rfl, q⟩ | ⟨k, rfl, q⟩
  · obtain ⟨u, rfl, t, rfl⟩ := vals1 r
    exact call_int_int ⟨.int i, H, I, ⟨_, rfl⟩, q⟩
  · obtain ⟨u, rfl, r1⟩ := vals1 r
    cases r1
    exact call_int_bool ⟨.int (if k then 1 else 0), H, I.tok _, ⟨_, rfl⟩, q⟩
end
end L2

namespace L2
open PySem PySem.Spec PyProof.Rows

/-! ### an instance, its attributes a map -/
structure ObjM (h : Heap) (x dx C : Addr) (mA : Str → Option Value) : Prop where
  obj : h.get? x = some (PySem.W.instObj C dx)
  ns : h.Ns1 dx mA
  ne : dx ≠ x

theorem lookIn_ns {h : Heap} {dx : Addr} {mA : Str → Option Value} (n : h.Ns1 dx mA) : ∃ od, h.get? dx = some od ∧ ∀ name, PySem.W.lookIn name od = some (mA name) := by
  obtain ⟨o, es, ep, ho, hd, hk, _, hm⟩ := n
  refine ⟨o, ho, fun name => ?_⟩
  have e := hm name
  unfold nsFind findBy at e
  rw [← Array.find?_toList] at e
  unfold PySem.W.lookIn
  rw [hd]
  dsimp only
  split
  · rename_i y q
    rw [q] at e
    exact congrArg some e
  · rename_i q
    rw [q] at e
    have a : es.toList.any (·.refKey) = false := by
      rw [List.any_eq_false]
      intro y hy
      obtain ⟨z, t, hkey⟩ := hk y (Array.mem_toList_iff.mp hy)
      simp [DictEntry.refKey, hkey]
    have a' : ¬ es.toList.any (·.refKey) = true := by rw [a]; exact Bool.false_ne_true
    rw [if_neg a']
    exact congrArg some e

theorem ObjM.look {h : Heap} {x dx C : Addr} {mA : Str → Option Value} (I : ObjM h x dx C mA) : ∃ od, PySem.W.InstAt h x (PySem.W.instObj C dx) C (some od) ∧ ∀ name, PySem.W.lookIn name od = some (mA name) :=
  let ⟨od, ho, hl⟩ := lookIn_ns I.ns
  ⟨od, ⟨I.obj, rfl, rfl, ho⟩, hl⟩

section
variable {prog : Program} {w : World} {A : Around} {E : Value → Shared → Prop} {s : Shared} {K : PySem.W.Frag} {x dx C f : Addr} {mA : Str → Option Value} {name : Str} {v : Value}

end

/-! ### the attributes as a list of pairs -/
theorem RelO.some_of {v : V} {o : Option Value} (r : RelO (some v) o) : ∃ u, o = some u ∧ RelV v u := by
  cases o with
  | none => exact (show False from r).elim
  | some u => exact ⟨u, rfl, r⟩
section
variable {P : Program} {w : World} {H H' : Hp} {h h' : Heap} {a C dx : Addr} {fs fs' : List (Str × V)}
theorem ins_get (hok : HOk P w H h) (e : H a = some (.ins C dx fs)) : ∃ mA, ObjM h a dx C mA ∧ (∀ f, RelO (fs.lookup f) (mA f)) ∧ PySem.Within mA (fs.map (·.1)) ∧ fs.length ≤ 1000 ∧ H dx = some (.own a) := by
  obtain ⟨d, z, ne, ob, mA, n, r, q⟩ := (show ObjOk P w H h a (.ins C dx fs) from hok a _ e)
  exact ⟨mA, ⟨ob, n, ne⟩, r, q, z, d⟩
end

/-! ### what of the text a class must have -/
structure Cls (K : PySem.W.Frag) (C : Addr) : Prop where
  pg : PySem.W.plainGet K C Str.empty = true
  hd : PySem.W.hasDictIn K C = true
  po : PySem.W.plainOver K C = true
  sa : PySem.W.findIn K (.ref C) "__setattr__" = some (some (.builtin "object.__setattr__"))
theorem Cls.get {K : PySem.W.Frag} {C : Addr} (c : Cls K C) (f : Str) : PySem.W.plainGet K C f = true := c.pg
/-- a method: a plain def of the class or of one above it -/
structure Meth (K : PySem.W.Frag) (C : Addr) (m : Str) (f : Addr) : Prop where
  at_ : PySem.W.findIn K (.ref C) m = some (some (.ref f))
  fn : PySem.W.isFn K (.ref f) = true
  kp : PySem.W.keepIn K (.ref f) = true

section
variable {X : Cx} {pins : List (Addr × Obj)} {σ : St} {H : Hp} {s : Shared} {a C dx : Addr} {fs : List (Str × V)} {f : Str} {v : V} {A : Around} {E : Value → Shared → Prop}

/-- a new instance, tracked, without attributes -/
theorem Inv.made (I : Inv X pins σ H s) : Inv X pins σ (upd (upd H s.heap.objs.size (.own (s.heap.objs.size + 1))) (s.heap.objs.size + 1) (.ins C s.heap.objs.size []))
    { s with heap := (s.heap.push PySem.W.emptyDict).push (PySem.W.instObj C s.heap.objs.size) } := by
  have e1 : (s.heap.push PySem.W.emptyDict).get? s.heap.objs.size = some PySem.W.emptyDict := Heap.get?_push_size s.heap rfl
  have e2 : ((s.heap.push PySem.W.emptyDict).push (PySem.W.instObj C s.heap.objs.size)).get? (s.heap.objs.size + 1) = some (PySem.W.instObj C s.heap.objs.size) := by
    have := Heap.get?_push_size (s.heap.push PySem.W.emptyDict) (o := PySem.W.instObj C s.heap.objs.size) rfl
    rwa [Heap.size_push] at this
  have e3 : (s.heap.push PySem.W.emptyDict).Ns s.heap.objs.size (fun _ => none) := ⟨PySem.W.emptyDict, #[], _, e1, rfl, (fun e he => absurd he (by simp)), fun _ => rfl⟩
  have I1 := I.laid (a := s.heap.objs.size) (o := .own (s.heap.objs.size + 1)) (h' := s.heap.push PySem.W.emptyDict) (t' := s.toks) (fun b u q => Heap.get?_push_of_some _ q) (Nat.le_refl _) ⟨_, e1⟩
  refine I1.laid (a := s.heap.objs.size + 1) (o := .ins C s.heap.objs.size []) (t' := s.toks) (fun b u q => Heap.get?_push_of_some _ q) (Nat.le_of_eq (Heap.size_push _ _)) ?_
  have ne : s.heap.objs.size ≠ s.heap.objs.size + 1 := Nat.ne_of_lt (Nat.lt_succ_self _)
  refine ⟨by rw [upd_ne ne, upd_same], Nat.zero_le _, ne, e2, fun _ => none, (Heap.Ns1.of_empty e3).at fun o q => Heap.get?_push_of_some _ q, fun _ => True.intro, fun y hy => absurd rfl hy⟩

end

/-! ### readings and rules -/
section
variable {X : Cx} {o e value : Expr} {f : Str} {pos pos' tpos : Pos} {ta tv : TE}
end

/-! ### isinstance -/
section
variable {X : Cx} {pins : List (Addr × Obj)} {σ : St} {H : Hp} {s : Shared} {A : Around} {E : Value → Shared → Prop} {Q : Value → Shared → Prop} {c : Value} {b : Bool}
/-- the type of a value, as the fragment's deciders take it; for an instance its class -/
inductive TyOf (K : PySem.W.Frag) (H : Hp) : V → Value → Prop where
  | non : TyOf K H .non (.type "NoneType")
  | bl (x : Bool) : TyOf K H (.bl x) (.type "bool")
  | int (i : Int) : TyOf K H (.int i) (.type "int")
  | str (x : Str) : TyOf K H (.str x) (.type "str")
  | flt (x : UInt64) : TyOf K H (.flt x) (.type "float")
  | lst {a : Addr} {xs : List V} (e : H a = some (.lst xs)) : TyOf K H (.ref a) (.type "list")
  | frz {a : Addr} {o : Obj} {xs : List V} (e : H a = some (.frz o (.lst xs))) : TyOf K H (.ref a) (.type "list")
  | tup {a : Addr} {xs : List V} (e : H a = some (.tup xs)) : TyOf K H (.ref a) (.type "tuple")
  | dK {a : Addr} {kvs : List (Key × V)} (e : H a = some (.dK kvs)) : TyOf K H (.ref a) (.type "dict")
  | dT {a : Addr} {kvs : List (List Key × V)} (e : H a = some (.dT kvs)) : TyOf K H (.ref a) (.type "dict")
  | ins {a C dx : Addr} {fs : List (Str × V)} (e : H a = some (.ins C dx fs)) (cl : Cls K C) (ha : PySem.W.findIn K (.ref C) "__class__" = some (some (.builtin "object.__class__")))
      (hn : PySem.W.specialIn K (.builtin "object.__class__") "__get__" = some (some (.builtin "getset_descriptor.__get__"))) (htk : PySem.W.takesIn K (.builtin "object.__class__") = some true)
      (hm : PySem.W.mroIn K C (.type "object") = some true) : TyOf K H (.ref a) (.ref C)
/-- isinstance(x, c) for one class c, a built-in or an own one: kitOne's answer -/
theorem isinst_ok {x : V} {u t : Value} (I : Inv X pins σ H s) (rx : RelV x u) (ty : TyOf X.K H x t) (e : PySem.W.kitOne X.K t c = some b) (h : ∀ tk, Q (.bool b) { s with toks := tk }) :
    wpAny (model X.prog X.w) A (call (.builtin "isinstance") [u, c]) Q E s := by
  cases ty with
  | non => cases (show u = Value.none from rx); exact PySem.W.kia_one PySem.W.kitx_none I.kIn True.intro e (fun z => nomatch z) h
  | bl y => cases (show u = Value.bool y from rx); exact PySem.W.kia_one PySem.W.kitx_bool I.kIn True.intro e (fun z => nomatch z) h
  | int i => obtain ⟨t, q⟩ := (show ∃ t, u = Value.int i t from rx); cases q; exact PySem.W.kia_one PySem.W.kitx_int I.kIn True.intro e (fun z => nomatch z) h
  | str y => obtain ⟨t, q⟩ := (show ∃ t, u = Value.str y t from rx); cases q; exact PySem.W.kia_one PySem.W.kitx_str I.kIn True.intro e (fun z => nomatch z) h
  | flt y => obtain ⟨t, q⟩ := (show ∃ t, u = Value.float y t from rx); cases q; exact PySem.W.kia_one PySem.W.kitx_float I.kIn True.intro e (fun z => nomatch z) h
  | @lst a xs ea =>
    cases (show u = Value.ref a from rx)
    obtain ⟨_, _, n, _, h1⟩ := (show ObjOk X.prog X.w H s.heap a (.lst xs) from I.hok a _ ea)
    exact PySem.W.kia_one PySem.W.kitx_list I.kIn ⟨_, h1, rfl⟩ e (fun z => nomatch z) h
  | @frz a ob xs ea =>
    cases (show u = Value.ref a from rx)
    obtain ⟨_, _, _, n, _, h1⟩ := (show ObjOk X.prog X.w H s.heap a (.frz ob (.lst xs)) from I.hok a _ ea)
    exact PySem.W.kia_one PySem.W.kitx_list I.kIn ⟨_, h1, rfl⟩ e (fun z => nomatch z) h
  | @tup a xs ea =>
    cases (show u = Value.ref a from rx)
    obtain ⟨_, _, _, p⟩ := (show ObjOk X.prog X.w H s.heap a (.tup xs) from I.hok a _ ea)
    obtain ⟨o, h1, h2, _⟩ := p
    exact PySem.W.kia_one PySem.W.kitx_tuple I.kIn ⟨o, h1, h2⟩ e (fun z => nomatch z) h
  | @dK a kvs ea =>
    cases (show u = Value.ref a from rx)
    obtain ⟨_, _, vs, _, p⟩ := (show ObjOk X.prog X.w H s.heap a (.dK kvs) from I.hok a _ ea)
    obtain ⟨o, es, ep, h1, h2, _⟩ := p
    exact PySem.W.kia_one PySem.W.kitx_dict I.kIn ⟨o, h1, h2.1⟩ e (fun z => nomatch z) h
  | @dT a kvs ea =>
    cases (show u = Value.ref a from rx)
    obtain ⟨_, _, xs, _, o, es, ep, h1, h2, _⟩ := (show ObjOk X.prog X.w H s.heap a (.dT kvs) from I.hok a _ ea)
    exact PySem.W.kia_one PySem.W.kitx_dict I.kIn ⟨o, h1, h2.1⟩ e (fun z => nomatch z) h
  | @ins a C dx fs ea cl ha hn htk hm =>
    cases (show u = Value.ref a from rx)
    obtain ⟨mA, O, _⟩ := ins_get I.hok ea
    obtain ⟨od, J, _⟩ := O.look
    exact PySem.W.kia_one (PySem.W.kitx_own (cl.get _) cl.hd ha hn htk hm) I.kIn J e (fun z => nomatch z) h
end
end L2

namespace L2
open PySem PySem.Spec PyProof.Rows

/-! ### room -/
structure Room (k : Nat) (A : Around) : Prop where
  hd : A.handled = none
  dp : A.depth + 3 * k + 5 < recursionLimit
  un : A.units + 16 * k + 200 < cLine
theorem Room.mono {j k : Nat} {A : Around} (r : Room k A) (h : j ≤ k) : Room j A := ⟨r.hd, by have := r.dp; omega, by have := r.un; omega⟩
theorem Room.deeper {k : Nat} {A : Around} (r : Room (k + 1) A) (env : Env) : Room k (A.deeper env) :=
  ⟨r.hd, by have := r.dp; show A.depth + 1 + 3 * k + 5 < _; omega, by have := r.un; show A.units + 3 + 16 * k + 200 < _; omega⟩
theorem Room.in1 {k : Nat} {A : Around} (r : Room (k + 1) A) : Room k A.in1 :=
  ⟨r.hd, by have := r.dp; show A.depth + 3 * k + 5 < _; omega, by have := r.un; show A.units + 1 + 16 * k + 200 < _; omega⟩
theorem Room.depth {k : Nat} {A : Around} (r : Room k A) : A.depth < recursionLimit := by have := r.dp; omega
theorem Room.units {k : Nat} {A : Around} (r : Room k A) : A.units + 64 < cLine := by have := r.un; omega
/-! ### argument lists and displays -/
def tNil : TA := fun _ H Q => Q [] H
def tCons (ta : TE) (tr : TA) : TA := fun σ H Q => ta σ H fun x H1 => tr σ H1 fun xs H2 => Q (x :: xs) H2
section
variable {X : Cx} {e : Expr} {es : List Expr} {te : TE} {t : TA} {pos : Pos}
theorem pa_nil : PA X [] tNil := fun _ _ _ _ H Q I h => Calls.spliced_nil ⟨[], H, I, .nil, h⟩
theorem pa_cons (ha : PE X e te) (hr : PA X es t) (hs : starEach (e :: es) X.env = (false, eval e X.env) :: starEach es X.env := by rfl) : PA X (e :: es) (tCons te t) := by
  intro pos pins s σ H Q I h
  rw [hs]
  show wpAny _ _ (spliced ((false, eval e X.env) :: backTo pos (starEach es X.env))) _ _ s
  refine Calls.spliced_cons (thn (ha pins s σ H _ I h) fun u s1 ⟨x, H1, I1, r1, q1⟩ => ?_)
  exact thn (hr pos pins s1 σ H1 _ I1 q1) fun us s2 ⟨xs, H2, I2, r2, q2⟩ => ⟨x :: xs, H2, I2, .cons r1 r2, q2⟩

/-- a tuple, a list of written items -/
def tTup (t : TA) : TE := fun σ H Q => t σ H fun xs H1 => xs.length ≤ sizeLine ∧ ∀ p, H1 p = none → Q (.ref p) (upd H1 p (.tup xs))
def tLst (t : TA) : TE := fun σ H Q => t σ H fun xs H1 => xs.length ≤ sizeLine ∧ ∀ p, H1 p = none → Q (.ref p) (upd H1 p (.lst xs))
theorem pe_tup {x1} (h : PA X es t) : PE X (.Tuple es x1 pos) (tTup t) := by
  intro pins s σ H Q I hq
  refine wpAny_Tuple_spliced (thn (h pos pins s σ H _ I hq) fun us s1 ⟨xs, H1, I1, r, z, q⟩ => ⟨by rw [← r.length]; exact z, ?_⟩)
  have hf : H1 s1.heap.objs.size = none := I1.hok.fresh (Nat.le_refl _)
  refine ⟨.ref s1.heap.objs.size, upd H1 s1.heap.objs.size (.tup xs), I1.laid (t' := s1.toks) (fun b u e => Heap.get?_push_of_some _ e) (Nat.le_refl _) ?_, rfl, q _ hf⟩
  exact ⟨z, us, r, ⟨_, Heap.get?_push_size _ rfl, rfl, _, rfl⟩⟩
theorem pe_lst (h : PA X es t) : PE X (.List es pos) (tLst t) := by
  intro pins s σ H Q I hq
  refine wpAny_List_spliced (thn (h pos pins s σ H _ I hq) fun us s1 ⟨xs, H1, I1, r, z, q⟩ => ⟨by rw [← r.length]; exact z, ?_⟩)
  have hf : H1 s1.heap.objs.size = none := I1.hok.fresh (Nat.le_refl _)
  refine ⟨.ref s1.heap.objs.size, upd H1 s1.heap.objs.size (.lst xs), I1.laid (t' := s1.toks) (fun b u e => Heap.get?_push_of_some _ e) (Nat.le_refl _) ?_, rfl, q _ hf⟩
  exact ⟨z, us, 0, r, Heap.get?_push_size _ rfl⟩
end

/-! ### what a def promises -/
/-- a def's promise: the bound arguments in the parameters' order, the heap, the wanted end, the wanted exception -/
abbrev Sp := List V → Hp → VK → XK → Prop
/-- how an exception lies behind a call (file 08 gives it): the callers' frames, abstract heap and state ahead of the call, the wish, the exception, the state -/
abbrev CXT := List Env → Hp → Shared → XK → Value → Shared → Prop

/-- the state at a call -/
structure Env0 (P : Program) (w : World) (K : PySem.W.Frag) (mg : Str → Option Value) (base : Heap) (A : Around) (outer : List Env) (s : Shared) (H : Hp) : Prop where
  frames : A.frames = some outer
  mod : Mod K mg base
  bs : ∀ b o, base.get? b = some o → s.heap.get? b = some o ∧ H b = none
  bsz : base.objs.size ≤ s.heap.objs.size
  funs : s.heap.FunFrames base outer
  frf : ∀ b ∈ frs outer, H b = none
  hok : HOk P w H s.heap
  bare : AllBare s.gens
/-- a call's end -/
def CE (outer : List Env) (P : Program) (w : World) (H : Hp) (s : Shared) (Q : VK) (u : Value) (s' : Shared) : Prop :=
  ∃ v H', s'.os = s.os ∧ AllBare s'.gens ∧ Un (frs outer) [] H H' s.heap s'.heap ∧ HOk P w H' s'.heap ∧ RelV v u ∧ Q v H'
def CR (CX : CXT) (outer : List Env) (P : Program) (w : World) (H : Hp) (s : Shared) (Q : VK) (E : XK) (r : Result) (s' : Shared) : Prop :=
  match r with
  | .ok (.ret u) => CE outer P w H s Q u s'
  | .ok _ => False
  | .error e => CX outer H s E e s'
structure FnOk (P : Program) (w : World) (K : PySem.W.Frag) (mg : Str → Option Value) (base : Heap) (CX : CXT) (k : Nat) (f : Addr) (fd : FuncData) (ps : List Str) (sp : Sp) : Prop where
  len : ∀ vs H Q E, sp vs H Q E → vs.length = ps.length
  run : ∀ (A : Around) (outer : List Env) (s : Shared) (H : Hp) (args : Args) (us : List Value) (vs : List V) (Q : VK) (E : XK), Room k A → Env0 P w K mg base A outer s H → BindsTo s fd args (ps.zip us) → Vals vs us → sp vs H Q E →
    codeAny (model P w) A (.call (.ref f) args) (CR CX outer P w H s Q E) s
theorem FnOk.mono {P : Program} {w : World} {K : PySem.W.Frag} {mg : Str → Option Value} {base : Heap} {CX : CXT} {j k : Nat} {f : Addr} {fd : FuncData} {ps : List Str} {sp : Sp} (F : FnOk P w K mg base CX j f fd ps sp) (h : j ≤ k) :
    FnOk P w K mg base CX k f fd ps sp := ⟨F.len, fun A outer s H args us vs Q E hr => F.run A outer s H args us vs Q E (hr.mono h)⟩
/-- a weaker promise -/
theorem FnOk.imp {P : Program} {w : World} {K : PySem.W.Frag} {mg : Str → Option Value} {base : Heap} {CX : CXT} {k : Nat} {f : Addr} {fd : FuncData} {ps : List Str} {sp sp' : Sp} (F : FnOk P w K mg base CX k f fd ps sp)
    (h : ∀ vs H Q E, sp' vs H Q E → sp vs H Q E) : FnOk P w K mg base CX k f fd ps sp' :=
  ⟨fun vs H Q E q => F.len vs H Q E (h _ _ _ _ q), fun A outer s H args us vs Q E hr he hb hv hs => F.run A outer s H args us vs Q E hr he hb hv (h _ _ _ _ hs)⟩

theorem Env0.in1 {P : Program} {w : World} {K : PySem.W.Frag} {mg : Str → Option Value} {base : Heap} {A : Around} {outer : List Env} {s : Shared} {H : Hp} (e : Env0 P w K mg base A outer s H) :
    Env0 P w K mg base A.in1 outer s H := ⟨e.frames, e.mod, e.bs, e.bsz, e.funs, e.frf, e.hok, e.bare⟩

section
variable {X : Cx} {pins : List (Addr × Obj)} {σ : St} {H : Hp} {s s' : Shared}
/-- from a body: what a callee wants -/
theorem Inv.env0 (I : Inv X pins σ H s) : Env0 X.prog X.w X.K X.mg X.base X.A X.stack s H :=
  ⟨I.ok.frames, I.ok.mod, I.bs, Nat.le_trans I.ok.bsz I.sz, I.stack, I.stkFree, I.hok, I.bare⟩
/-- behind a call -/
theorem Inv.after {Q : VK} {u : Value} (I : Inv X pins σ H s) (h : CE X.stack X.prog X.w H s Q u s') : EP X pins σ Q u s' := by
  obtain ⟨v, H', os, bare, un, hok, r, q⟩ := h
  obtain ⟨hh, g, d, t, os'⟩ := s'
  obtain rfl : os' = s.os := os
  exact ⟨v, H', I.call (h' := hh) (g' := g) (d' := d) (t' := t) (ch := []) un hok bare (fun b z => absurd z (by simp)), r, q⟩
end

/-! ### calls -/
/-- f(..): the written arguments, then the defaults dvs; E: what is wanted of an exception -/
def tCall (sp : Sp) (dvs : List V) (E : XK) (t : TA) : TE := fun σ H Q => t σ H fun vs H1 => sp (vs ++ dvs) H1 Q E
/-- how the parameters are bound: us the positional arguments, kw the keywords' values by name, ds the defaults that fill up -/
def Binds (K : PySem.W.Frag) (fd : FuncData) (ps : List Str) (ds : List Value) : Prop :=
  ∀ (s : Shared) (us : List Value), K.In s.heap → (us ++ ds).length = ps.length → BindsTo s fd ⟨us, []⟩ (ps.zip (us ++ ds))
/-- every parameter is given -/
theorem Binds.all {K : PySem.W.Frag} {fd : FuncData} {ps : List Str} (h : ∀ us : List Value, us.length = ps.length → bindArgs fd ⟨us, []⟩ = pure (ps.zip us)) : Binds K fd ps [] := fun s us _ hl => by
  rw [List.append_nil] at hl ⊢
  exact .of_eq (h us hl)

/-- an exception of a callee reaches what this body wants of exceptions -/
def Passes (CX : CXT) (X : Cx) (E : XK) : Prop := ∀ (pins : List (Addr × Obj)) (σ : St) (H : Hp) (s : Shared) (e : Value) (s' : Shared), Inv X pins σ H s → CX X.stack H s E e s' → X.xe e s'

section
variable {X : Cx} {CX : CXT} {k : Nat} {f C : Addr} {fd : FuncData} {ps : List Str} {sp : Sp} {dvs : List V} {ds : List Value} {E : XK} {x m : Str} {p pos apos : Pos} {e o : Expr} {es : List Expr} {ta : TE} {t : TA}

/-- the callee runs -/
theorem run_fn {pins : List (Addr × Obj)} {σ : St} {H : Hp} {s : Shared} {Q : VK} {us : List Value} {vs : List V} (F : FnOk X.prog X.w X.K X.mg X.base CX k f fd ps sp) (hr : Room k X.A) (hb : Binds X.K fd ps ds) (hd : Vals dvs ds) (hx : Passes CX X E)
    (I : Inv X pins σ H s) (r : Vals vs us) (h : sp (vs ++ dvs) H Q E) : wpAny (model X.prog X.w) X.A (call (.ref f) us) (EP X pins σ Q) X.xe s := by
  have r2 : Vals (vs ++ dvs) (us ++ ds) := r.append hd
  have hl : (us ++ ds).length = ps.length := by rw [← r2.length]; exact F.len _ _ _ _ h
  refine wpAny_call (codeAny_mono (F.run X.A X.stack s H ⟨us, []⟩ (us ++ ds) (vs ++ dvs) Q E hr I.env0 (hb s us I.kIn hl) r2 h) fun r s' hq => ?_)
  cases r with
  | error e => exact hx pins σ H s e s' I hq
  | ok fl =>
    cases fl with
    | ret u => exact I.after hq
    | next => exact False.elim hq
    | brk => exact False.elim hq
    | cont => exact False.elim hq

theorem pe_call (F : FnOk X.prog X.w X.K X.mg X.base CX k f fd ps sp) (hr : Room k X.A) (hg : Gl X x) (hm : X.mg x = some (.ref f)) (hk : PySem.W.keepIn X.K (.ref f) = true) (hb : Binds X.K fd ps ds) (hd : Vals dvs ds) (hx : Passes CX X E)
    (ha : PA X (e :: es) t) (hdb : (x == ("__debug__" : Str)) = false := by decide) (he : starEach (e :: es) X.env = (false, eval e X.env) :: starEach es X.env := by rfl) (hpl : (backTo pos (starEach es X.env)).any (·.1) = false := by rfl) :
    PE X (.Call (.Name x p) (e :: es) [] pos) (tCall sp dvs E t) := by
  intro pins s σ H Q I h
  refine wpAny_Call_Name_kw (ld_glob I hg hm ?_ hdb)
  refine PySem.W.callWith_K (h₀ := X.base) I.ok.mod.kin hk (thn (ha pos pins s σ H _ I h) fun us s1 ⟨vs, H1, I1, r, q⟩ => ⟨I1.kIn, ?_⟩) he hpl
  exact run_fn F hr hb hd hx I1 r q
/-- what a class must have to be made -/
structure Mk (K : PySem.W.Frag) (C f : Addr) : Prop where
  makes : PySem.W.makesIn K C = true
  init : PySem.W.findIn K (.ref C) "__init__" = some (some (.ref f))
  fn : PySem.W.isFn K (.ref f) = true
  kp : PySem.W.keepIn K (.ref C) = true

end

/-! ### keywords -/
section
variable {X : Cx} {CX : CXT} {k : Nat} {f C : Addr} {fd : FuncData} {ps ks : List Str} {sp : Sp} {E : XK} {x m : Str} {p pos apos kpos : Pos} {e o : Expr} {es : List Expr} {kws : List Keyword} {te ta : TE} {t tk : TA} {nm : Option Str}
variable {g : List Value → List Value → List Value} {gV : List V → List V → List V}
end

/-! ### a def's body keeps its promise -/
/-- names: the parameters first -/
structure FnScope (N P : List Str) (sc : Scope) : Prop where
  kind : sc.kind = .function
  co : sc.isCoroutine = false
  gen : sc.isGenerator = false
  nd : N.Nodup
  pre : N.take P.length = P
  par : ∀ x ∈ P, sc.names.lookup x = some .local ∨ sc.names.lookup x = some .cell
  nofree : ∀ y ∈ sc.names, y.2 ≠ .free

theorem bindL_out {kindOf : Str → Option NameKind} {x : Str} : ∀ {binds : List (Str × Value)} {m : Str → Option Value}, (∀ v, (x, v) ∉ binds) → bindL kindOf binds m x = m x
  | [], _, _ => rfl
  | (n, v) :: r, m, h => by
    unfold bindL
    rw [bindL_out fun w hw => h w (List.mem_cons_of_mem _ hw)]
    split
    · have : x ≠ n := by rintro rfl; exact h v List.mem_cons_self
      simp [this]
    · rfl
theorem bindC_out {kindOf : Str → Option NameKind} {x : Str} : ∀ {binds : List (Str × Value)} {m : Str → Option Value}, (∀ v, (x, v) ∉ binds) → bindC kindOf binds m x = m x
  | [], _, _ => rfl
  | (n, v) :: r, m, h => by
    unfold bindC
    rw [bindC_out fun w hw => h w (List.mem_cons_of_mem _ hw)]
    split
    · rfl
    · have : x ≠ n := by rintro rfl; exact h v List.mem_cons_self
      simp [this]
theorem bindL_get {kindOf : Str → Option NameKind} {x : Str} {v : Value} : ∀ {P : List Str} {vs : List Value} {i : Nat} {m : Str → Option Value}, P.Nodup → P[i]? = some x → vs[i]? = some v → kindOf x = some .local →
    bindL kindOf (P.zip vs) m x = some v
  | [], _, _, _, _, h, _, _ => by simp at h
  | _ :: _, [], _, _, _, _, h, _ => by simp at h
  | p :: P, w :: vs, 0, m, nd, h1, h2, hk => by
    simp at h1 h2; subst h1; subst h2
    show bindL kindOf ((p, w) :: P.zip vs) m p = _
    unfold bindL
    rw [bindL_out fun v hv => (List.nodup_cons.mp nd).1 (List.of_mem_zip hv).1, if_pos hk]
    simp
  | p :: P, w :: vs, i + 1, m, nd, h1, h2, hk => by
    show bindL kindOf ((p, w) :: P.zip vs) m x = _
    unfold bindL
    exact bindL_get (i := i) (List.nodup_cons.mp nd).2 (by simpa using h1) (by simpa using h2) hk
theorem bindC_get {kindOf : Str → Option NameKind} {x : Str} {v : Value} : ∀ {P : List Str} {vs : List Value} {i : Nat} {m : Str → Option Value}, P.Nodup → P[i]? = some x → vs[i]? = some v → kindOf x ≠ some .local →
    bindC kindOf (P.zip vs) m x = some v
  | [], _, _, _, _, h, _, _ => by simp at h
  | _ :: _, [], _, _, _, _, h, _ => by simp at h
  | p :: P, w :: vs, 0, m, nd, h1, h2, hk => by
    simp at h1 h2; subst h1; subst h2
    show bindC kindOf ((p, w) :: P.zip vs) m p = _
    unfold bindC
    rw [bindC_out fun v hv => (List.nodup_cons.mp nd).1 (List.of_mem_zip hv).1, if_neg hk]
    simp
  | p :: P, w :: vs, i + 1, m, nd, h1, h2, hk => by
    show bindC kindOf ((p, w) :: P.zip vs) m x = _
    unfold bindC
    exact bindC_get (i := i) (List.nodup_cons.mp nd).2 (by simpa using h1) (by simpa using h2) hk

/-- the names' values at the entry -/
def start (N : List Str) (vs : List V) : St := vs.map some ++ List.replicate (N.length - vs.length) none

/-- the context of a def's body, at its entry; an exception leaves the frame, then lies as CX says -/
def cxOf (CX : CXT) (P : Program) (w : World) (K : PySem.W.Frag) (mg : Str → Option Value) (base : Heap) (N : List Str) (qual : Str) (scope : Scope) (f : Addr) (cd : Value) (A : Around) (outer : List Env) (s : Shared) (H : Hp) (E : XK) : Cx where
  prog := P
  w := w
  K := K
  mg := mg
  base := base
  A := A.deeper (envOfC qual scope s.heap.objs.size f cd)
  N := N
  s₀ := s
  H₀ := H
  env := envOfC qual scope s.heap.objs.size f cd
  outer := outer
  stack := envOfC qual scope s.heap.objs.size f cd :: outer
  ex := []
  calm := true
  fn := fun _ => true
  pn := []
  xe := fun e s' => wpAny (model P w) (A.deeper (envOfC qual scope s.heap.objs.size f cd)) (leaving (envOfC qual scope s.heap.objs.size f cd) e) (fun _ s'' => CX outer H s E e s'') (fun e' s'' => CX outer H s E e' s'') s'

theorem cell_has {sc : Scope} {n : Nat} {x : Str} (h : sc.names.lookup x = some .cell) : ∃ c, (cellsFrom n sc.names []).lookup x = some c := by
  have q := PySem.W.cellsFrom_some sc.names n [] (.inl h)
  exact Option.isSome_iff_exists.mp q

theorem inv_start {CX : CXT} {P : Program} {w : World} {K : PySem.W.Frag} {mg : Str → Option Value} {base : Heap} {N ps : List Str} {qual : Str} {scope : Scope} {f : Addr} {cd : Value} {A : Around} {outer : List Env} {s s1 : Shared} {H : Hp} {E : XK} {us : List Value} {vs : List V}
    (S : FnScope N ps scope) (hd : A.handled = none) (e0 : Env0 P w K mg base A outer s H) (hl : vs.length = ps.length) (r : Vals vs us)
    (x : InCallC s s.heap.objs.size (bindL (envOfC qual scope s.heap.objs.size f cd).kindOf (ps.zip us) fun _ => none) (cellsFrom (s.heap.objs.size + 1) scope.names []) (bindC (envOfC qual scope s.heap.objs.size f cd).kindOf (ps.zip us) fun _ => none) s1) :
    Inv (cxOf CX P w K mg base N qual scope f cd A outer s H E) [] (start N vs) H s1 := by
  have hpl : ps.length ≤ N.length := by have := congrArg List.length S.pre; rw [List.length_take] at this; omega
  obtain ⟨h1, tk, rfl, hk⟩ := x.done
  have noA : ∀ b : Addr, b ∉ (cxOf CX P w K mg base N qual scope f cd A outer s H E).ex := fun b z => absurd (show b ∈ ([] : List Addr) from z) (by simp)
  refine ⟨⟨e0.mod, S.kind, rfl, rfl, Nat.le_refl _, fun y z c h1 h2 => ?_, fun y hy => ?_, fun y c _ h => ?_, fun _ => hd, Around.frames_deeper e0.frames, .inr ⟨rfl, rfl⟩, fun b z => absurd z (noA b), e0.bs, e0.bsz, fun b _ _ => noA b, fun b z => absurd z (noA b), e0.funs, e0.frf⟩,
    rfl, e0.bare, Un.kept hk, ⟨_, x.toInCall.ns, fun i y v h1 h2 h3 => ?_⟩, fun y c h => ⟨_, x.cell y c h⟩, e0.hok.fresh (Nat.le_refl _), fun y c h => ?_, fun p hp => absurd (show p ∈ ([] : List (Addr × Obj)) from hp) (by simp), e0.hok.kept hk, ?_⟩
  · exact name_of_addr x.apart (PySem.mem_of_lookup h1) (PySem.mem_of_lookup h2)
  · have hy : scope.names.lookup y = some .cell ∨ scope.names.lookup y = some .free := hy
    rcases hy with hy | hy
    · exact cell_has hy
    · exact absurd rfl (S.nofree _ (PySem.mem_of_lookup hy))
  · exact Nat.le_of_lt (x.above y c (PySem.mem_of_lookup h))
  · have hi : i < vs.length := by
      unfold start at h2
      by_cases hi : i < vs.length
      · exact hi
      · rw [List.getElem?_append_right (by simpa using hi)] at h2
        rw [List.getElem?_replicate] at h2
        split at h2 <;> cases h2
    have ha : vs[i]? = some v := by
      unfold start at h2
      rw [List.getElem?_append_left (by simpa using hi), List.getElem?_map] at h2
      cases e : vs[i]? with
      | none => rw [e] at h2; cases h2
      | some a => rw [e] at h2; cases h2; rfl
    obtain ⟨u, hu, rv⟩ := r.get ha
    have hp : ps[i]? = some y := by
      rw [← S.pre, List.getElem?_take_of_lt (by omega)]; exact h1
    have ndP : ps.Nodup := by rw [← S.pre]; exact S.nd.sublist (List.take_sublist _ _)
    refine ⟨u, rv, ?_⟩
    rcases S.par y (List.mem_of_getElem? hp) with k | k
    · exact .inl ⟨k, bindL_get ndP hp hu k⟩
    · obtain ⟨c, e⟩ := cell_has (n := s.heap.objs.size + 1) k
      refine .inr ⟨.inl k, c, e, ?_⟩
      have q := x.cell y c e
      rw [bindC_get ndP hp hu (by show scope.names.lookup y ≠ _; rw [k]; decide)] at q
      exact q
  · exact e0.hok.fresh (Nat.le_of_lt (x.above y c (PySem.mem_of_lookup h)))
  · unfold start
    show _ = N.length
    rw [List.length_append, List.length_map, List.length_replicate]
    omega

/-- THE RULE: a def (or a method) of the text, by its body. The body's reading t is chosen for each entry; it is run at the parameters' values -/
theorem fn_of {CX : CXT} {P : Program} {w : World} {K : PySem.W.Frag} {mg : Str → Option Value} {base : Heap} {k : Nat} {f : Addr} {name qual : Str} {params : Arguments} {body : List Stmt} {scope : Scope} {dV kV doc pm cdv ct oc : Value} {an od : Option Addr}
    {osl : Array (Option Value)} {N ps : List Str} {sp : Sp} (lk : K.lookup f = some ⟨oc, od, .func (PySem.W.fnOf name qual params body scope dV kV doc pm an cdv ct), osl⟩) (hcd : PySem.W.codeIn K cdv qual = true) (S : FnScope N ps scope)
    (len : ∀ vs H Q E, sp vs H Q E → vs.length = ps.length)
    (hbody : ∀ (A : Around) (outer : List Env) (s : Shared) (H : Hp) (vs : List V) (Q : VK) (E : XK), Room k (A.deeper (envOfC qual scope s.heap.objs.size f cdv)) → sp vs H Q E →
      ∃ t, PSs (cxOf CX P w K mg base N qual scope f cdv A outer s H E) body t ∧ t { nx := fun _ H' => Q .non H', rt := Q } (start N vs) H) :
    FnOk P w K mg base CX (k + 1) f (PySem.W.fnOf name qual params body scope dV kV doc pm an cdv ct) ps sp := by
  refine ⟨len, fun A outer s H args us vs Q E hr e0 hb r hsp => ?_⟩
  have hl := len _ _ _ _ hsp
  have KX : K.In s.heap := e0.mod.kin.keeps fun b o e => (e0.bs b o e).1
  have lim : s.heap.NoLimit := e0.mod.nolimit.keeps fun b o e => (e0.bs b o e).1
  have hkind : ∀ y ∈ ps.zip us, scope.names.lookup y.1 = some .local ∨ (scope.names.lookup y.1 = some .cell ∧ ((cellsFrom (s.heap.objs.size + 1) scope.names []).lookup y.1).isSome = true) := fun ⟨n, v⟩ hy => by
    rcases S.par n (List.of_mem_zip hy).1 with q | q
    · exact .inl q
    · exact .inr ⟨q, PySem.W.cellsFrom_some _ _ _ (.inl q)⟩
  refine codeAny_call_function hr.depth (KX _ _ lk) rfl S.co S.gen rfl (PySem.W.codeRec_of KX hcd) (hb _ _ _ _ ?_)
  refine wpAny_newFunctionEnv_cells S.kind hkind fun env he s1 x => ?_
  subst he
  refine ⟨lim.keeps x.toInCall.keep, codeAny_func ?_⟩
  obtain ⟨t, ht, hq⟩ := hbody A outer s H vs Q E (hr.deeper _) hsp
  have I : Inv (cxOf CX P w K mg base N qual scope f cdv A outer s H E) [] (start N vs) H s1 := inv_start S hr.hd e0 hl r x
  refine wpAny_mono (ht [] s1 (start N vs) H _ I hq) (fun fl s' hs => ?_) fun e s' hs => hs
  have fin : ∀ {σ' : St} {H' : Hp} {v : V} {u : Value}, Inv (cxOf CX P w K mg base N qual scope f cdv A outer s H E) [] σ' H' s' → RelV v u → Q v H' → CE outer P w H s Q u s' :=
    fun {σ' H' v u} J rv q => ⟨v, H', J.os, J.bare, J.base, J.hok, rv, q⟩
  cases fl with
  | ret u =>
    obtain ⟨v, σ', H', J, rv, q⟩ := hs
    exact fin J rv q
  | next =>
    obtain ⟨σ', H', J, q⟩ := hs
    exact fin (v := V.non) (u := Value.none) J rfl q
  | brk =>
    obtain ⟨_, _, _, q⟩ := hs
    exact False.elim q
  | cont =>
    obtain ⟨_, _, _, q⟩ := hs
    exact False.elim q
end L2

namespace L2
open PySem PySem.Spec PyProof.Rows
section
variable {X : Cx} {x : Str} {p pos : Pos} {e : Expr} {es : List Expr} {t : TA} {id T : String} {r : List V → Hp → VK → Prop}

def tCB (r : List V → Hp → VK → Prop) (t : TA) : TE := fun σ H Q => t σ H fun vs H1 => r vs H1 Q
/-- f(e, ..), f a built-in function -/
theorem pe_callB (hc : CallR X (.builtin id) r) (hg : Gl X x) (hm : X.mg x = none) (hv : bootBuiltins x = some (.builtin id)) (ha : PA X (e :: es) t) (hn : x ≠ "__name__" := by decide) (hdb : (x == ("__debug__" : Str)) = false := by decide)
    (he : starEach (e :: es) X.env = (false, eval e X.env) :: starEach es X.env := by rfl) (hpl : (backTo pos (starEach es X.env)).any (·.1) = false := by rfl) : PE X (.Call (.Name x p) (e :: es) [] pos) (tCB r t) := by
  intro pins s σ H Q I h
  refine wpAny_Call_Name_kw (ld_blt I hg hm hv ?_ hn hdb)
  exact PyProof.Rows.callWith_builtin1 (thn (ha pos pins s σ H _ I h) fun us s1 ⟨vs, H1, I1, r1, q1⟩ => hc pins s1 σ H1 vs us Q I1 r1 q1) he hpl
/-- T(e, ..), T a built-in type -/
theorem pe_callTy (hc : CallR X (.type T) r) (hg : Gl X x) (hm : X.mg x = none) (hv : bootBuiltins x = some (.type T)) (ha : PA X (e :: es) t) (hn : x ≠ "__name__" := by decide) (hdb : (x == ("__debug__" : Str)) = false := by decide)
    (he : starEach (e :: es) X.env = (false, eval e X.env) :: starEach es X.env := by rfl) (hpl : (backTo pos (starEach es X.env)).any (·.1) = false := by rfl) : PE X (.Call (.Name x p) (e :: es) [] pos) (tCB r t) := by
  intro pins s σ H Q I h
  refine wpAny_Call_Name_kw (ld_blt I hg hm hv ?_ hn hdb)
  exact PyProof.Rows.callWith_type1 (thn (ha pos pins s σ H _ I h) fun us s1 ⟨vs, H1, I1, r1, q1⟩ => hc pins s1 σ H1 vs us Q I1 r1 q1) he hpl
end
end L2

namespace HT
open PySem PyProof.Rows

section
open PySem.SeqAt
open PySem.AutoSeq1 (wpAny_loadPart')
open PySem.MeetsSeq PySem.MeetsSeq2 PySem.MeetsSeq3

end

section
variable {prog : Program} {w : World} {A : Around} {E : Value → Shared → Prop} {s : Shared}

/-! ### t[a:b], not the whole -/
/-- a slice's bound as a place among n (d where it is left out) -/
def sIx (n d : Nat) : Option Int → Nat
  | none => d
  | some v => if v < 0 then (v + (n : Int)).toNat else min v.toNat n
theorem sIx_none (n d : Nat) : sIx n d none = d := rfl
theorem sIx_nat (n d k : Nat) : sIx n d (some (k : Int)) = min k n := by
  show (if (k : Int) < 0 then ((k : Int) + (n : Int)).toNat else min (k : Int).toNat n) = min k n
  rw [if_neg (by omega), Int.toNat_natCast]
theorem sIx_le (n d : Nat) (hd : d ≤ n) (o : Option Int) : sIx n d o ≤ n := by
  cases o with
  | none => exact hd
  | some v =>
    show (if v < 0 then (v + (n : Int)).toNat else min v.toNat n) ≤ n
    by_cases hv : v < 0
    · rw [if_pos hv]; omega
    · rw [if_neg hv]; exact Nat.min_le_right _ _
end
end HT

namespace L2
open PySem PySem.Spec PyProof.Rows

/-! ### the parts of a slice -/
abbrev TO := St → Hp → (Option Int → Hp → Prop) → Prop
/-- a slice's part (left out, or an int) -/
def PO (X : Cx) (e : Option Expr) (t : TO) : Prop :=
  ∀ (pins : List (Addr × Obj)) (s : Shared) (σ : St) (H : Hp) (Q : Option Int → Hp → Prop), Inv X pins σ H s → t σ H Q →
    wpAny (model X.prog X.w) X.A (evalPart e X.env) (fun u s' => ∃ o H', Inv X pins σ H' s' ∧ IsPart u o ∧ Q o H') X.xe s
def tNoPart : TO := fun _ H Q => Q none H
def tPart (t : TE) : TO := fun σ H Q => t σ H fun x H1 => ∃ i, x = .int i ∧ Q (some i) H1

section
variable {X : Cx} {e : Expr} {te : TE} {lo hi : Option Expr} {tl th : TO} {pos p2 : Pos}

theorem po_none : PO X none tNoPart := by
  intro pins s σ H Q I h
  rw [evalPart_none]
  exact wpAny_pure ⟨none, H, I, .none, h⟩
theorem po_some (h : PE X e te) : PO X (some e) (tPart te) := by
  intro pins s σ H Q I hw
  rw [evalPart_some]
  refine thn (h pins s σ H _ I hw) fun u s1 ⟨x, H1, I1, r1, q1⟩ => ?_
  obtain ⟨i, rfl, q⟩ := q1
  obtain ⟨t, rfl⟩ := r1
  exact ⟨some i, H1, I1, .int i t, q⟩

/-- what a slice of a value is, by values: the slice object stands at sl -/
def SlR (X : Cx) (r : V → Option Int → Option Int → Hp → VK → Prop) : Prop :=
  ∀ (pins : List (Addr × Obj)) (s : Shared) (σ : St) (H : Hp) (x : V) (v vl vu : Value) (lo hi : Option Int) (sl : Addr) (Q : VK), Inv X pins σ H s → RelV x v → s.heap.IsSliceOf sl vl vu .none → IsPart vl lo → IsPart vu hi → r x lo hi H Q →
    ∃ T id, typeLookup (.type T) "__getitem__" = pure (some (.builtin id)) ∧ s.TypeIs v T ∧ wpAny (model X.prog X.w) X.A (getItem v (.ref sl)) (EP X pins σ Q) X.xe s
theorem SlR.or {r r' : V → Option Int → Option Int → Hp → VK → Prop} (h : SlR X r) (h' : SlR X r') : SlR X (fun x lo hi H Q => r x lo hi H Q ∨ r' x lo hi H Q) := by
  intro pins s σ H x v vl vu lo hi sl Q I rx hs pl pu q
  rcases q with q | q
  · exact h pins s σ H x v vl vu lo hi sl Q I rx hs pl pu q
  · exact h' pins s σ H x v vl vu lo hi sl Q I rx hs pl pu q
def tSl (r : V → Option Int → Option Int → Hp → VK → Prop) (te : TE) (tl th : TO) : TE := fun σ H Q => te σ H fun x H1 => tl σ H1 fun l H2 => th σ H2 fun u H3 => r x l u H3 Q
/-- a[lo:hi], any a -/
theorem pe_slice {r : V → Option Int → Option Int → Hp → VK → Prop} (hr : SlR X r) (he : PE X e te) (hl : PO X lo tl) (hu : PO X hi th) : PE X (.Subscript e (.Slice lo hi none p2) pos) (tSl r te tl th) := by
  intro pins s σ H Q I h
  refine Subscript_ (thn (he pins s σ H _ I h) fun v s1 ⟨x, H1, I1, r1, q1⟩ => ?_)
  refine wpAny_Slice (thn (hl pins s1 σ H1 _ I1 q1) fun vl s2 ⟨l, H2, I2, pl, q2⟩ => thn (hu pins s2 σ H2 _ I2 q2) fun vu s3 ⟨u, H3, I3, pu, q3⟩ => ?_)
  rw [evalPart_none]
  refine wpAny_pure ?_
  have I4 : Inv X pins σ H3 { s3 with heap := s3.heap.push { cls := .type "slice", data := .fields #[vl, vu, .none] } } := I3.kept (t' := s3.toks) fun b ob q => Heap.get?_push_of_some _ q
  obtain ⟨T, id, hT, ht, hg⟩ := hr pins { s3 with heap := s3.heap.push { cls := .type "slice", data := .fields #[vl, vu, .none] } } σ H3 x v vl vu l u s3.heap.objs.size Q I4 r1 (Heap.IsSliceOf.new ..) pl pu q3
  show wpAny (model X.prog X.w) X.A (subscriptTail e (.Slice lo hi none p2) v (.ref s3.heap.objs.size)) (EP X pins σ Q) X.xe { s3 with heap := s3.heap.push { cls := .type "slice", data := .fields #[vl, vu, .none] } }
  exact tail_any (ops := [.ref s3.heap.objs.size, v]) ht hT hg (by with_unfolding_all rfl)

/-- the items of xs[lo:hi] -/
def cutV (xs : List V) (lo hi : Option Int) : List V := (xs.drop (HT.sIx xs.length 0 lo)).take (HT.sIx xs.length xs.length hi - HT.sIx xs.length 0 lo)
theorem cutV_length (xs : List V) (lo hi : Option Int) : (cutV xs lo hi).length ≤ xs.length := by
  unfold cutV
  rw [List.length_take, List.length_drop]
  omega
/-! ### t < u, t + u -/
end
end L2

namespace L2
open PySem PySem.Spec PyProof.Rows

/-! ### places -/
/-- the place that an index of any sign means -/
def ixN (n : Nat) (i : Int) : Option Nat := if 0 ≤ i then (if i < n then some i.toNat else none) else if -(n : Int) ≤ i then some (i + n).toNat else none
def atI {α : Type} (xs : List α) (i : Int) : Option α := (ixN xs.length i).bind fun j => xs[j]?
theorem ixN_seq {n : Nat} {i : Int} {j : Nat} (h : ixN n i = some j) : seqIndex? i n = some j ∧ j < n ∧ -(n : Int) ≤ i ∧ i < n := by
  unfold ixN at h
  by_cases h0 : 0 ≤ i
  · rw [if_pos h0] at h
    by_cases h1 : i < n
    · rw [if_pos h1] at h
      have e : i.toNat = j := Option.some.inj h
      exact ⟨by rw [seqIndex_of h0 h1, e], by omega, by omega, h1⟩
    · rw [if_neg h1] at h; cases h
  · rw [if_neg h0] at h
    by_cases h1 : -(n : Int) ≤ i
    · rw [if_pos h1] at h
      have e : (i + n).toNat = j := Option.some.inj h
      exact ⟨by rw [seqIndex_neg (by omega) h1, e], by omega, h1, by omega⟩
    · rw [if_neg h1] at h; cases h
theorem atI_get {α : Type} {xs : List α} {i : Int} {v : α} (h : atI xs i = some v) : ∃ j, seqIndex? i xs.length = some j ∧ xs[j]? = some v ∧ j < xs.length ∧ -(xs.length : Int) ≤ i ∧ i < xs.length := by
  unfold atI at h
  cases e : ixN xs.length i with
  | none => rw [e] at h; cases h
  | some j =>
    rw [e] at h
    obtain ⟨h1, h2, h3, h4⟩ := ixN_seq e
    exact ⟨j, h1, h, h2, h3, h4⟩
theorem atI_nat {α : Type} {xs : List α} {j : Nat} {v : α} (h : xs[j]? = some v) : atI xs (j : Int) = some v := by
  have hj : j < xs.length := (List.getElem?_eq_some_iff.mp h).1
  have e : ixN xs.length (j : Int) = some j := by
    unfold ixN
    rw [if_pos (by omega), if_pos (by omega)]; simp
  unfold atI; rw [e]; exact h
/-! ### what may be subscripted -/
/-- what stands as an index of a plain subscript -/
def PlainIx (b : Expr) : Prop := ∀ o i, subscripted b false o i = operate [o, i] (getItem o i)
/-- a subscript by values -/
def IxR (X : Cx) (r : R2) : Prop :=
  ∀ (value slice : Expr) (pins : List (Addr × Obj)) (s : Shared) (σ : St) (H : Hp) (x y : V) (v u : Value) (Q : VK), Inv X pins σ H s → RelV x v → RelV y u → r x y H Q →
    subscripted slice false v u = operate [v, u] (getItem v u) → wpAny (model X.prog X.w) X.A (subscriptTail value slice v u) (EP X pins σ Q) X.xe s
/-- a call of a builtin's method by values: the receiver, the arguments -/
def MtR (X : Cx) (id : String) (r : V → List V → Hp → VK → Prop) : Prop :=
  ∀ (pins : List (Addr × Obj)) (s : Shared) (σ : St) (H : Hp) (x : V) (xs : List V) (v : Value) (us : List Value) (Q : VK), Inv X pins σ H s → RelV x v → Vals xs us → r x xs H Q →
    wpAny (model X.prog X.w) X.A (call (.builtin id) (v :: us)) (EP X pins σ Q) X.xe s
section
variable {X : Cx} {a b : Expr} {ta tb : TE} {pos : Pos}
theorem IxR.or {r r' : R2} (h : IxR X r) (h' : IxR X r') : IxR X (fun x y H Q => r x y H Q ∨ r' x y H Q) := by
  intro value slice pins s σ H x y v u Q I rx ry q hs
  rcases q with q | q
  · exact h value slice pins s σ H x y v u Q I rx ry q hs
  · exact h' value slice pins s σ H x y v u Q I rx ry q hs
theorem MtR.or {id : String} {r r' : V → List V → Hp → VK → Prop} (h : MtR X id r) (h' : MtR X id r') : MtR X id (fun x xs H Q => r x xs H Q ∨ r' x xs H Q) := by
  intro pins s σ H x xs v us Q I rx rs q
  rcases q with q | q
  · exact h pins s σ H x xs v us Q I rx rs q
  · exact h' pins s σ H x xs v us Q I rx rs q
/-- a[b] -/
theorem pe_ix {r : R2} (hr : IxR X r) (ha : PE X a ta) (hb : PE X b tb) (hs : PlainIx b) : PE X (.Subscript a b pos) (tOp r ta tb) := by
  intro pins s σ H Q I h
  exact Subscript_ (binT ha hb I h fun v u s2 x y H2 I2 rx ry q => hr a b pins s2 σ H2 x y v u Q I2 rx ry q (hs _ _))

def rIxL (K : PySem.W.Frag) : R2 := fun x y H Q => ∃ p xs i v, x = .ref p ∧ y = .int i ∧ SqL K H p xs ∧ atI xs i = some v ∧ Q v H
def rIxT (K : PySem.W.Frag) : R2 := fun x y H Q => ∃ p xs i v, x = .ref p ∧ y = .int i ∧ SqT K H p xs ∧ atI xs i = some v ∧ Q v H
def rIxS : R2 := fun x y H Q => ∃ z i c, x = .str z ∧ y = .int i ∧ z.length ≤ sizeLine ∧ atI z.cps.toList i = some c ∧ Q (.str ⟨#[c]⟩) H
theorem ix_list : IxR X (rIxL X.K) := by
  intro value slice pins s σ H x y v u Q I rx ry h hs
  obtain ⟨p, xs, i, z, rfl, rfl, hq, he, q⟩ := h
  cases rx
  obtain ⟨t, rfl⟩ := ry
  obtain ⟨its, r, pl, hz⟩ := I.list hq
  obtain ⟨j, h1, h2, h3, h4, h5⟩ := atI_get he
  obtain ⟨w, ew, rw'⟩ := r.get h2
  have hl := r.length
  have hn := line63
  have fin : EP X pins σ Q w s := ⟨z, H, I, rw', q⟩
  by_cases h0 : 0 ≤ i
  · have hj : i.toNat = j := by
      rw [seqIndex_of h0 h5] at h1
      exact Option.some.inj h1
    exact item_listR pl.isList h0 (by omega) (by rw [hj]; simpa using ew) fin hs
  · have hj : (i + (its.toArray.size : Int)).toNat = j := by
      rw [seqIndex_neg (by omega) h4] at h1
      rw [List.size_toArray, ← hl]
      exact Option.some.inj h1
    exact subscriptTail_builtinR (x := w) pl.isList.typeIs slot_list_getitem.lookup
      (wpAny_getItem_list_neg (Q := fun r s' => r = w ∧ EP X pins σ Q r s') pl.isList (by omega) (by rw [List.size_toArray] <;> omega) (by omega) (by rw [hj]; simpa using ew) ⟨rfl, fin⟩) hs
theorem ix_tup : IxR X (rIxT X.K) := by
  intro value slice pins s σ H x y v u Q I rx ry h hs
  obtain ⟨p, xs, i, z, rfl, rfl, hq, he, q⟩ := h
  cases rx
  obtain ⟨t, rfl⟩ := ry
  obtain ⟨its, r, pl, hz⟩ := I.tuple hq
  obtain ⟨j, h1, h2, h3, h4, h5⟩ := atI_get he
  obtain ⟨w, ew, rw'⟩ := r.get h2
  have hl := r.length
  have hn := line63
  have fin : EP X pins σ Q w s := ⟨z, H, I, rw', q⟩
  exact subscriptTail_builtinR (x := w) pl.typeIs slot_tuple_getitem.lookup
    (getItem_tuple (j := j) (Q := fun r s' => r = w ∧ EP X pins σ Q r s') pl (by omega) (by omega) (by rw [List.size_toArray, ← hl]; exact h1) (by simpa using ew) ⟨rfl, fin⟩) hs
theorem ix_str : IxR X rIxS := by
  intro value slice pins s σ H x y v u Q I rx ry h hs
  obtain ⟨z, i, c, rfl, rfl, hz, he, q⟩ := h
  obtain ⟨t, rfl⟩ := rx
  obtain ⟨t', rfl⟩ := ry
  obtain ⟨j, h1, h2, h3, h4, h5⟩ := atI_get he
  have hl : z.cps.toList.length = z.length := by simp [Str.length]
  rw [hl] at h1 h4 h5
  have hn := line63
  exact tail_any (typeIs_str s z t) slot_str_getitem.lookup (getItem_str (c := c) (by
    have e1 : decide (i < -(2 ^ 63 : Int)) = false := decide_eq_false (by omega)
    have e2 : decide (i ≥ 2 ^ 63) = false := decide_eq_false (by omega)
    rw [e1, e2, Bool.or_false]) (by rw [h1]; simpa using h2) ⟨.str ⟨#[c]⟩, H, I.tok _, ⟨_, rfl⟩, q⟩) hs
/-- list, tuple or str -/
def rIx (K : PySem.W.Frag) : R2 := fun x y H Q => rIxL K x y H Q ∨ rIxT K x y H Q ∨ rIxS x y H Q
theorem ix_seq : IxR X (rIx X.K) := ix_list.or (ix_tup.or ix_str)

/-! ### xs[i] = v, any sign -/
theorem Inv.lst {pins : List (Addr × Obj)} {σ : St} {H : Hp} {s : Shared} {p : Addr} {xs : List V} (I : Inv X pins σ H s) (h : H p = some (.lst xs)) :
    ∃ (its : List Value) (n : Nat), Vals xs its ∧ s.heap.get? p = some { cls := .type "list", data := .seq its.toArray n } ∧ xs.length ≤ sizeLine := by
  obtain ⟨z, its, n, r, e⟩ := I.hok p _ h
  exact ⟨its, n, r, e, z⟩
/-! ### slices -/
theorem slice_bounds (lo hi : Option Int) (n : Nat) : (sliceBounds lo hi none n).1 = ((HT.sIx n 0 lo : Nat) : Int) ∧ (sliceBounds lo hi none n).2.1 = ((HT.sIx n n hi : Nat) : Int) ∧ (sliceBounds lo hi none n).2.2 = 1 := by
  refine ⟨?_, ?_, rfl⟩
  · cases lo with
    | none => simp [sliceBounds, HT.sIx]
    | some i =>
      simp only [sliceBounds, HT.sIx, Option.getD_none, show (1 : Int) > 0 by decide, if_true]
      by_cases h : i < 0
      · simp only [h, if_true] <;> omega
      · simp only [h, if_false] <;> omega
  · cases hi with
    | none => simp [sliceBounds, HT.sIx]
    | some i =>
      simp only [sliceBounds, HT.sIx, Option.getD_none, show (1 : Int) > 0 by decide, if_true]
      by_cases h : i < 0
      · simp only [h, if_true] <;> omega
      · simp only [h, if_false] <;> omega
theorem slicePick_cut (its : List Value) (lo hi : Option Int) : slicePick its.toArray lo hi none = ((its.drop (HT.sIx its.length 0 lo)).take (HT.sIx its.length its.length hi - HT.sIx its.length 0 lo)).toArray := by
  obtain ⟨h1, h2, h3⟩ := slice_bounds lo hi its.toArray.size
  unfold slicePick
  rw [h1, h2, h3]
  simp only [sliceRange_one, pick_run, List.size_toArray] <;> rfl
/-- xs[lo:hi] of a list: a new list -/
def rSlL (K : PySem.W.Frag) : V → Option Int → Option Int → Hp → VK → Prop := fun x lo hi H Q => ∃ a xs, x = .ref a ∧ SqL K H a xs ∧ ∀ p, H p = none → Q (.ref p) (upd H p (.lst (cutV xs lo hi)))
theorem sl_list : SlR X (rSlL X.K) := by
  intro pins s σ H x v vl vu lo hi sl Q I rx hs pl pu h
  obtain ⟨a, xs, rfl, hx, q⟩ := h
  cases rx
  obtain ⟨its, r, ht, hz⟩ := I.list hx
  have hlen := r.length
  refine ⟨"list", _, slot_list_getitem.lookup, ht.isList.typeIs, ?_⟩
  refine wpAny_getItem_list_slice ht.isList hs pl pu .none (by simp) ?_ (by rw [List.size_toArray] <;> omega)
  rw [slicePick_cut, ← hlen]
  refine ⟨.ref s.heap.objs.size, _, I.laid (t' := s.toks) (o := .lst (cutV xs lo hi)) (fun b ob q => Heap.get?_push_of_some _ q) (Nat.le_refl _) ?_, rfl, q _ (I.hok.fresh (Nat.le_refl _))⟩
  exact ⟨Nat.le_trans (cutV_length xs lo hi) hz, _, 0, (r.drop (HT.sIx xs.length 0 lo)).take (HT.sIx xs.length xs.length hi - HT.sIx xs.length 0 lo), Heap.get?_push_size _ rfl⟩

/-! ### in, not in: flat items -/
def flatV : V → Bool
  | .non => true
  | .bl _ => true
  | .int _ => true
  | .str _ => true
  | _ => false
/-- == of flat values -/
def eqV : V → V → Bool
  | .non, .non => true
  | .bl a, .bl b => a == b
  | .bl a, .int b => (if a then 1 else 0) == b
  | .int a, .bl b => a == (if b then 1 else 0)
  | .int a, .int b => a == b
  | .str a, .str b => a == b
  | _, _ => false
theorem eqAt_V {A : Around} {s : Shared} {y x : V} {u v : Value} (ry : RelV y u) (rx : RelV x v) (fy : flatV y = true) (fx : flatV x = true) : SeqAt.EqAt A s u v (eqV y x) := by
  cases y with
  | non =>
    cases ry
    cases x with
    | non => cases rx; exact SeqAt.EqAt.same _
    | bl b => cases rx; exact SeqAt.EqAt.none_bool b
    | int b => obtain ⟨t, rfl⟩ := rx; exact SeqAt.EqAt.none_int b t
    | str b => obtain ⟨t, rfl⟩ := rx; exact SeqAt.EqAt.none_str b t
    | _ => exact absurd (show false = true from fx) Bool.false_ne_true
  | bl a =>
    cases ry
    cases x with
    | non => cases rx; exact SeqAt.EqAt.bool_none a
    | bl b => cases rx; exact SeqAt.EqAt.bool_bool a b
    | int b => obtain ⟨t, rfl⟩ := rx; exact SeqAt.EqAt.bool_int a b t
    | str b => obtain ⟨t, rfl⟩ := rx; exact SeqAt.EqAt.bool_str a b t
    | _ => exact absurd (show false = true from fx) Bool.false_ne_true
  | int a =>
    obtain ⟨t', rfl⟩ := ry
    cases x with
    | non => cases rx; exact SeqAt.EqAt.int_none a t'
    | bl b => cases rx; exact SeqAt.EqAt.int_bool a t' b
    | int b => obtain ⟨t, rfl⟩ := rx; exact SeqAt.EqAt.int_int a t' b t
    | str b => obtain ⟨t, rfl⟩ := rx; exact SeqAt.EqAt.int_str a t' b t
    | _ => exact absurd (show false = true from fx) Bool.false_ne_true
  | str a =>
    obtain ⟨t', rfl⟩ := ry
    cases x with
    | non => cases rx; exact SeqAt.EqAt.str_none a t'
    | bl b => cases rx; exact SeqAt.EqAt.str_bool a t' b
    | int b => obtain ⟨t, rfl⟩ := rx; exact SeqAt.EqAt.str_int a t' b t
    | str b => obtain ⟨t, rfl⟩ := rx; exact SeqAt.EqAt.str_str a t' b t
    | _ => exact absurd (show false = true from fx) Bool.false_ne_true
  | _ => exact absurd (show false = true from fy) Bool.false_ne_true
/-- the items' answers, read off the values (a value's own answer does not lean on its token) -/
def eqU (x : V) (u : Value) : Bool := match u with
  | .none => eqV .non x
  | .bool b => eqV (.bl b) x
  | .int i _ => eqV (.int i) x
  | .str z _ => eqV (.str z) x
  | _ => false
theorem eqU_of {x y : V} {u : Value} (r : RelV y u) (f : flatV y = true) : eqU x u = eqV y x := by
  cases y with
  | non => cases r; rfl
  | bl b => cases r; rfl
  | int i => obtain ⟨t, rfl⟩ := r; rfl
  | str z => obtain ⟨t, rfl⟩ := r; rfl
  | _ => exact absurd (show false = true from f) Bool.false_ne_true
theorem any_eqU {x : V} : ∀ {xs : List V} {us : List Value}, Vals xs us → xs.all flatV = true → us.any (eqU x) = xs.any fun y => eqV y x
  | _, _, .nil, _ => rfl
  | y :: xs, u :: us, .cons r t, f => by
    rw [List.all_cons, Bool.and_eq_true] at f
    rw [List.any_cons, List.any_cons, eqU_of r f.1, any_eqU t f.2]
theorem mem_eqAt {A : Around} {s : Shared} {x : V} {v : Value} (rx : RelV x v) (fx : flatV x = true) : ∀ {xs : List V} {us : List Value}, Vals xs us → xs.all flatV = true → ∀ u ∈ us, SeqAt.EqAt A s u v (eqU x u)
  | _, _, .nil, _ => fun u hu => by cases hu
  | y :: xs, u :: us, .cons r t, f => fun u' hu => by
    rw [List.all_cons, Bool.and_eq_true] at f
    rcases List.mem_cons.mp hu with rfl | hu
    · rw [eqU_of r f.1]; exact eqAt_V r rx f.1 fx
    · exact mem_eqAt rx fx t f.2 u' hu
def inV (x : V) (xs : List V) : Bool := xs.any fun y => eqV y x
/-- x in a list or tuple of flat items -/
def rIn (K : PySem.W.Frag) (neg : Bool) : R2 := fun x y H Q => ∃ p xs, y = .ref p ∧ (SqL K H p xs ∨ SqT K H p xs) ∧ flatV x = true ∧ xs.all flatV = true ∧ Q (.bl (if neg then !inV x xs else inV x xs)) H
theorem op_in_seq : OpR X (compareOp .In) (rIn X.K false) := by
  intro pins s σ H x y v u Q I rx ry h
  obtain ⟨p, xs, rfl, hq, fx, fs, q⟩ := h
  cases ry
  rcases hq with hq | hq
  · obtain ⟨its, r, pl, hz⟩ := I.list hq
    refine SeqAt.in_listAt (eqU x) pl.isList (fun w hw => mem_eqAt rx fx r fs w (by simpa using hw)) ⟨.bl _, H, I, rfl, ?_⟩
    rw [show its.toArray.any (eqU x) = its.any (eqU x) by simp, any_eqU r fs]
    exact q
  · obtain ⟨its, r, pl, hz⟩ := I.tuple hq
    refine SeqAt.in_tupleAt (eqU x) pl (fun w hw => mem_eqAt rx fx r fs w (by simpa using hw)) ⟨.bl _, H, I, rfl, ?_⟩
    rw [show its.toArray.any (eqU x) = its.any (eqU x) by simp, any_eqU r fs]
    exact q
theorem op_notIn_seq : OpR X (compareOp .NotIn) (rIn X.K true) := by
  intro pins s σ H x y v u Q I rx ry h
  obtain ⟨p, xs, rfl, hq, fx, fs, q⟩ := h
  cases ry
  rcases hq with hq | hq
  · obtain ⟨its, r, pl, hz⟩ := I.list hq
    refine SeqAt.notIn_listAt (eqU x) pl.isList (fun w hw => mem_eqAt rx fx r fs w (by simpa using hw)) ⟨.bl _, H, I, rfl, ?_⟩
    rw [show its.toArray.any (eqU x) = its.any (eqU x) by simp, any_eqU r fs]
    exact q
  · obtain ⟨its, r, pl, hz⟩ := I.tuple hq
    refine SeqAt.notIn_tupleAt (eqU x) pl (fun w hw => mem_eqAt rx fx r fs w (by simpa using hw)) ⟨.bl _, H, I, rfl, ?_⟩
    rw [show its.toArray.any (eqU x) = its.any (eqU x) by simp, any_eqU r fs]
    exact q
/-! ### len, list(x), tuple(x) of any list or tuple that is read -/
theorem call_len_seq : CallR X (.builtin "len") (fun xs H Q => ∃ p ys, xs = [.ref p] ∧ (SqL X.K H p ys ∨ SqT X.K H p ys) ∧ Q (.int ys.length) H) := by
  intro pins s σ H xs us Q I r h
  obtain ⟨p, ys, rfl, hq, q⟩ := h
  obtain ⟨u, rfl, rx⟩ := vals1 r
  cases rx
  have hn := line63
  rcases hq with hq | hq
  · obtain ⟨its, r', pl, hz⟩ := I.list hq
    have hlen := r'.length
    exact Calls.call_len_list pl.isList (by simp only [List.size_toArray] <;> omega) ⟨.int ys.length, H, I.tok _, ⟨s.toks + 1, by rw [List.size_toArray, hlen]⟩, q⟩
  · obtain ⟨its, r', pl, hz⟩ := I.tuple hq
    have hlen := r'.length
    exact len_tuple pl (by simp only [List.size_toArray] <;> omega) ⟨.int ys.length, H, I.tok _, ⟨s.toks + 1, by rw [List.size_toArray, hlen]⟩, q⟩
theorem call_len_str : CallR X (.builtin "len") (fun xs H Q => ∃ z, xs = [.str z] ∧ z.length ≤ sizeLine ∧ Q (.int z.length) H) := by
  intro pins s σ H xs us Q I r h
  obtain ⟨z, rfl, hz, q⟩ := h
  obtain ⟨u, rfl, t, rfl⟩ := vals1 r
  have hn := line63
  exact len_str (by omega) ⟨.int z.length, H, I.tok _, ⟨_, rfl⟩, q⟩
theorem CallR.or {f : Value} {r r' : List V → Hp → VK → Prop} (h : CallR X f r) (h' : CallR X f r') : CallR X f (fun xs H Q => r xs H Q ∨ r' xs H Q) := by
  intro pins s σ H xs us Q I rs q
  rcases q with q | q
  · exact h pins s σ H xs us Q I rs q
  · exact h' pins s σ H xs us Q I rs q
theorem call_list_of : CallR X (.type "list") (fun xs H Q => ∃ p ys, xs = [.ref p] ∧ (SqL X.K H p ys ∨ SqT X.K H p ys) ∧ ∀ l, H l = none → Q (.ref l) (upd H l (.lst ys))) := by
  intro pins s σ H xs us Q I r h
  obtain ⟨p, ys, rfl, hq, q⟩ := h
  obtain ⟨u, rfl, rx⟩ := vals1 r
  cases rx
  have fin : ∀ (its : List Value), Vals ys its → ys.length ≤ sizeLine → ∀ (h' : Heap) (c' : Nat), (∀ b o', s.heap.get? b = some o' → h'.get? b = some o') →
      h'.get? s.heap.objs.size = some { cls := .type "list", dict := none, data := .seq its.toArray c', slots := #[] } → EP X pins σ Q (.ref s.heap.objs.size) { s with heap := h' } := fun its r' hz h' c' kp e =>
    ⟨.ref s.heap.objs.size, _, I.laid (t' := s.toks) kp (Nat.le_refl _) (show ObjOk X.prog X.w _ h' _ (.lst ys) from ⟨hz, its, c', r', e⟩), rfl, q _ (I.hok.fresh (Nat.le_refl _))⟩
  rcases hq with hq | hq
  · obtain ⟨its, r', pl, hz⟩ := I.list hq
    have hlen := r'.length
    obtain ⟨o, ho, hc, n, hd⟩ := pl.isList
    exact call_list_seq p (.inl rfl) ho hc hd (fun h' c' kp e => fin its r' hz h' c' kp e) (by simp only [List.size_toArray] <;> omega)
  · obtain ⟨its, r', pl, hz⟩ := I.tuple hq
    have hlen := r'.length
    obtain ⟨o, ho, hc, n, hd⟩ := pl
    exact call_list_seq p (.inr rfl) ho hc hd (fun h' c' kp e => fin its r' hz h' c' kp e) (by simp only [List.size_toArray] <;> omega)
/-! ### the call of a builtin's method: o.m(..) -/
/-- the value is of that builtin type -/
def tyV (K : PySem.W.Frag) (T : String) (x : V) (H : Hp) : Prop := match x with
  | .str _ => T = "str"
  | .int _ => T = "int"
  | .ref p => (T = "list" ∧ ∃ xs, SqL K H p xs) ∨ (T = "tuple" ∧ ∃ o, K.lookup p = some o ∧ o.cls = .type "tuple" ∧ o.dict = none) ∨
      (T = "dict" ∧ ((∃ kvs, H p = some (.dK kvs)) ∨ ∃ kvs, H p = some (.dT kvs))) ∨ (T = "set" ∧ ∃ S n, H p = some (.set S n))
  | _ => False
theorem tyV_is {pins : List (Addr × Obj)} {σ : St} {H : Hp} {s : Shared} {T : String} {x : V} {v : Value} (I : Inv X pins σ H s) (r : RelV x v) (ty : tyV X.K T x H) :
    s.TypeIs v T ∧ ∀ a, v = .ref a → ∃ ob, s.heap.get? a = some ob ∧ ob.dict = none := by
  cases x with
  | str z =>
    obtain ⟨t, rfl⟩ := r
    cases (show T = "str" from ty)
    exact ⟨typeIs_str s z t, fun _ e => nomatch e⟩
  | int i =>
    obtain ⟨t, rfl⟩ := r
    cases (show T = "int" from ty)
    exact ⟨typeIs_int s i t, fun _ e => nomatch e⟩
  | ref p =>
    cases r
    rcases ty with ⟨rfl, xs, hq⟩ | ⟨rfl, o, hk, hc, hd⟩ | ⟨rfl, hk⟩ | ⟨rfl, S, n, hk⟩
    · obtain ⟨its, _, pl, _⟩ := I.list hq
      refine ⟨pl.isList.typeIs, fun a e => ?_⟩
      cases e
      obtain ⟨o, n, e, c, hd, _⟩ := pl
      exact ⟨o, e, hd⟩
    · refine ⟨⟨o, I.kIn p o hk, hc⟩, fun a e => ?_⟩
      cases e
      exact ⟨o, I.kIn _ o hk, hd⟩
    · have z : ∃ o, s.heap.get? p = some o ∧ o.ExactDict := by
        rcases hk with ⟨kvs, hk⟩ | ⟨kvs, hk⟩
        · obtain ⟨_, _, _, _, o, _, _, e, ex, _⟩ := I.hok p _ hk
          exact ⟨o, e, ex⟩
        · obtain ⟨_, _, _, _, o, _, _, e, ex, _⟩ := I.hok p _ hk
          exact ⟨o, e, ex⟩
      obtain ⟨o, e, ex⟩ := z
      refine ⟨⟨o, e, ex.1⟩, fun a e2 => ?_⟩
      cases e2
      exact ⟨o, e, ex.2.1⟩
    · obtain ⟨o, _, _, _, e, ex, _⟩ := I.hok p _ hk
      refine ⟨⟨o, e, ex.1⟩, fun a e2 => ?_⟩
      cases e2
      exact ⟨o, e, ex.2.1⟩
  | _ => exact False.elim ty
def tBM0 (K : PySem.W.Frag) (T : String) (r : V → List V → Hp → VK → Prop) (to : TE) : TE := fun σ H Q => to σ H fun x H1 => tyV K T x H1 ∧ r x [] H1 Q
def tBM (K : PySem.W.Frag) (T : String) (r : V → List V → Hp → VK → Prop) (to : TE) (t : TA) : TE := fun σ H Q => to σ H fun x H1 => tyV K T x H1 ∧ t σ H1 fun xs H2 => r x xs H2 Q
variable {o e : Expr} {es : List Expr} {to : TE} {t : TA} {name : Str} {apos cpos : Pos} {T id : String} {r : V → List V → Hp → VK → Prop}
theorem pe_bm (pa : PlainAttrs T) (slot : Slot T name id) (hty : typeOf (.builtin id) = pure (.type "method_descriptor")) (hm : MtR X id r) (ho : PE X o to) (ha : PA X (e :: es) t)
    (hbase : attributeBase o name X.env (eval o X.env) = eval o X.env := by rfl)
    (hfew : ((backTo cpos (starEach (e :: es) X.env)).all (fun x => !x.1) && (backToKw cpos (keywordEach [] X.env)).all (fun x => x.1.isSome)
      && decide ((e :: es).length + ([] : List Keyword).length + (if ([] : List Keyword).isEmpty then 0 else 1) < 30)) = true := by rfl)
    (hline : (apos.endLine == cpos.line) = true := by rfl) (hs : starEach (e :: es) X.env = (false, eval e X.env) :: starEach es X.env := by rfl) (hplain : (backTo cpos (starEach es X.env)).any (·.1) = false := by rfl) :
    PE X (.Call (.Attribute o name apos) (e :: es) [] cpos) (tBM X.K T r to t) := by
  intro pins s σ H Q I h
  refine wpAny_Call_method_late hbase hfew hline rfl (thn (ho pins s σ H _ I h) fun v s1 ⟨x, H1, I1, r1, ty, q1⟩ => ?_)
  obtain ⟨h1, h2⟩ := tyV_is I1 r1 ty
  refine ⟨T, id, pa, slot, hty, h1, h2, ?_⟩
  have hA := ha cpos pins s1 σ H1 _ I1 q1
  rw [hs] at hA ⊢
  refine Calls.callWith_builtin (by show (false || (backTo cpos (starEach es X.env)).any (·.1)) = false; rw [hplain] <;> rfl) (Calls.evalArgs_plain ?_)
  exact thn hA fun us s2 ⟨vs, H2, I2, r2, q2⟩ => hm pins s2 σ H2 x vs v us Q I2 r1 r2 q2
/- xs.append(e), list.index on a module's tuple .. are MtR facts of 06m -/
end
end L2

namespace L2
open PySem PySem.Spec PyProof.Rows

def MtM (X : Cx) (id : String) (r : V → List V → Hp → VK → Prop) : Prop :=
  ∀ (pins : List (Addr × Obj)) (s : Shared) (σ : St) (H : Hp) (x : V) (xs : List V) (v : Value) (us : List Value) (Q : VK), Inv X pins σ H s → RelV x v → Vals xs us → r x xs H Q →
    wpAny (model X.prog X.w) X.A (call (.builtin id) (v :: us)) (EP X pins σ Q) X.xe s

/-! ### lists of values -/
theorem Vals.one : ∀ {x : V} {us : List Value}, Vals [x] us → ∃ u, us = [u] ∧ RelV x u
  | _, _, .cons r .nil => ⟨_, rfl, r⟩
theorem Vals.zero : ∀ {us : List Value}, Vals [] us → us = []
  | _, .nil => rfl
theorem Vals.dropLast {xs : List V} {us : List Value} (h : Vals xs us) : Vals xs.dropLast us.dropLast := by
  induction h with
  | nil => exact .nil
  | cons r t ih =>
    cases t with
    | nil => exact .nil
    | cons q t' => exact .cons r ih
theorem Vals.eraseIdx : ∀ {xs : List V} {us : List Value} (i : Nat), Vals xs us → Vals (xs.eraseIdx i) (us.eraseIdx i)
  | _, _, _, .nil => .nil
  | _, _, 0, .cons _ t => t
  | _, _, i + 1, .cons r t => .cons r (Vals.eraseIdx i t)
theorem Vals.reverse {xs : List V} {us : List Value} (h : Vals xs us) : Vals xs.reverse us.reverse := by
  induction h with
  | nil => exact .nil
  | cons r t ih => rw [List.reverse_cons, List.reverse_cons]; exact Vals.append ih (.cons r .nil)
theorem Vals.rep {xs : List V} {us : List Value} (h : Vals xs us) : ∀ k : Nat, Vals (List.replicate k xs).flatten (List.replicate k us).flatten
  | 0 => .nil
  | k + 1 => by
    rw [List.replicate_succ, List.replicate_succ, List.flatten_cons, List.flatten_cons]
    exact Vals.append h (Vals.rep h k)
theorem foldl_rep (its : List Value) : ∀ (k : Nat) (acc : List Value),
    List.foldl (fun x1 x2 => x1 ++ x2) acc.toArray (List.replicate k its.toArray) = (acc ++ (List.replicate k its).flatten).toArray
  | 0, acc => by simp
  | k + 1, acc => by
    have e : acc.toArray ++ its.toArray = (acc ++ its).toArray := by simp
    have e2 : (acc ++ its) ++ (List.replicate k its).flatten = acc ++ (List.replicate (k + 1) its).flatten := by
      rw [List.replicate_succ, List.flatten_cons, List.append_assoc]
    rw [← e2, ← foldl_rep its k (acc ++ its), ← e, List.replicate_succ, List.foldl_cons]

section
variable {X : Cx} {pins : List (Addr × Obj)} {σ : St} {H : Hp} {s : Shared} {l b : Addr} {xs ys zs : List V}

/-! ### the two steps: a tracked list is rewritten, a new list is laid -/
theorem Inv.lset {its its' : List Value} {n : Nat} {f : Array Value → Array Value} {t' : Nat} (I : Inv X pins σ H s) (hH : H l = some (.lst xs))
    (e : s.heap.get? l = some { cls := .type "list", data := .seq its.toArray n }) (hf : f its.toArray = its'.toArray) (hv : Vals ys its') (hz : ys.length ≤ sizeLine) :
    Inv X pins σ (upd H l (.lst ys)) { s with heap := s.heap.update l (Obj.mapSeq f), toks := t' } := by
  have q := PySem.IsL.update e f
  rw [hf] at q
  refine I.write (x := l) (e := l) (by rw [hH]; exact trivial) (.inl rfl) (fun b' u hb hu => (Heap.get?_update_other s.heap (Obj.mapSeq f) (Ne.symm hb)).trans hu) ⟨_, q⟩ ?_
  exact ⟨hz, its', _, hv, q⟩
theorem Inv.lnew {its : List Value} {t' : Nat} (I : Inv X pins σ H s) (hv : Vals ys its) (hz : ys.length ≤ sizeLine) :
    Inv X pins σ (upd H s.heap.objs.size (.lst ys)) { s with heap := s.heap.push { cls := .type "list", data := .seq its.toArray }, toks := t' } :=
  I.laid (fun _ _ q => Heap.get?_push_of_some _ q) (Nat.le_refl _) ⟨hz, its, 0, hv, Heap.get?_push_size _ rfl⟩
theorem Inv.fresh (I : Inv X pins σ H s) : H s.heap.objs.size = none := I.hok.fresh (Nat.le_refl _)
theorem Inv.lstM (I : Inv X pins σ H s) (hH : H l = some (.lst xs)) : xs.length ≤ sizeLine ∧ ∃ (its : List Value) (n : Nat), Vals xs its ∧ xs.length = its.length ∧ s.heap.get? l = some { cls := .type "list", data := .seq its.toArray n } := by
  obtain ⟨z, its, n, r, e⟩ := I.hok l _ hH
  exact ⟨z, its, n, r, r.length, e⟩

theorem notLongL {n : Nat} (h : n ≤ sizeLine) : Builtin.List.listTooLong n = false := by
  unfold Builtin.List.listTooLong
  exact decide_eq_false (by omega)
end

section
variable {X : Cx}

/-! ### methods -/
def rAppend : V → List V → Hp → VK → Prop := fun x vs H Q => ∃ l xs y, x = .ref l ∧ vs = [y] ∧ H l = some (.lst xs) ∧ xs.length < sizeLine ∧ Q .non (upd H l (.lst (xs ++ [y])))
theorem mt_append : MtM X "list.append" rAppend := by
  intro pins s σ H x vs v us Q I rx rv h
  obtain ⟨l, xs, y, rfl, rfl, hH, hz, q⟩ := h
  cases rx
  obtain ⟨u, rfl, ru⟩ := rv.one
  obtain ⟨z, its, n, r, hl, e⟩ := I.lstM hH
  refine call_meets F.slot_list_append ⟨_, e, rfl⟩ F.entry_list_append (F.args_list_append_2 _ _) (PySem.list_append l its.toArray n u (by rw [List.size_toArray]; omega)) ⟨e, ?_⟩
  refine ⟨.non, _, I.lset (its' := its ++ [u]) hH e (by simp) (r.append (.cons ru .nil)) ?_, rfl, q⟩
  rw [List.length_append, List.length_singleton]
  omega

/-! ### list + list, list += list, list * int -/
def rCat : R2 := fun x y H Q => ∃ l b xs zs, x = .ref l ∧ y = .ref b ∧ H l = some (.lst xs) ∧ H b = some (.lst zs) ∧ xs.length + zs.length ≤ sizeLine ∧ ∀ p, H p = none → Q (.ref p) (upd H p (.lst (xs ++ zs)))
theorem op_cat : OpR X (binaryOp .Add) rCat := by
  intro pins s σ H x y v u Q I rx ry h
  obtain ⟨l, b, xs, zs, rfl, rfl, hH, hB, hz, q⟩ := h
  cases rx
  cases ry
  obtain ⟨z, its, n, r, hl, e⟩ := I.lstM hH
  obtain ⟨z2, its2, n2, r2, hl2, e2⟩ := I.lstM hB
  refine PySem.P.add_list e e2 ?_ (by rw [List.size_toArray, List.size_toArray]; omega)
  have ea : its.toArray ++ its2.toArray = (its ++ its2).toArray := by simp
  rw [ea]
  exact ⟨.ref _, _, I.lnew (t' := s.toks) (r.append r2) (by rw [List.length_append]; omega), rfl, q _ I.fresh⟩
/-- a list times an int (a negative one is nothing) -/
def rRep : R2 := fun x y H Q => ∃ l k xs, x = .ref l ∧ y = .int k ∧ H l = some (.lst xs) ∧ -(2 ^ 63) ≤ k ∧ k < 2 ^ 63 ∧ xs.length * k.toNat ≤ sizeLine ∧
  ∀ p, H p = none → Q (.ref p) (upd H p (.lst (List.replicate k.toNat xs).flatten))
theorem len_rep {α : Type} (xs : List α) (k : Nat) : (List.replicate k xs).flatten.length = k * xs.length := by
  induction k with
  | zero => simp
  | succ k ih => rw [List.replicate_succ, List.flatten_cons, List.length_append, ih, Nat.succ_mul, Nat.add_comm]
theorem op_rep : OpR X (binaryOp .Mult) rRep := by
  intro pins s σ H x y v u Q I rx ry h
  obtain ⟨l, k, xs, rfl, rfl, hH, h1, h2, hz, q⟩ := h
  cases rx
  obtain ⟨t, rfl⟩ := ry
  obtain ⟨z, its, n, r, hl, e⟩ := I.lstM hH
  have hlen : its.toArray.size * k.toNat ≤ sizeLine := by rw [List.size_toArray, ← hl]; exact hz
  have hcap : ¬ its.toArray.size * k.toNat > (2 ^ 63 - 1) / 8 := by
    have : (sizeLine : Nat) ≤ (2 ^ 63 - 1) / 8 := by decide
    omega
  have hfit : ¬ (!Builtin.List.listFitsIndex k) = true := by
    rw [fitsIndex_both h1 h2]
    exact Bool.false_ne_true
  have hlong : ¬ Builtin.List.listTooLong (its.toArray.size * k.toNat) = true := by
    rw [notLongL hlen]
    exact Bool.false_ne_true
  have hnew : List.foldl (fun x1 x2 => x1 ++ x2) #[] (List.replicate (if its.toArray.isEmpty = true then 0 else k.toNat) its.toArray) = (List.replicate k.toNat its).flatten.toArray := by
    have f0 : ∀ m : Nat, List.foldl (fun x1 x2 => x1 ++ x2) #[] (List.replicate m its.toArray) = (List.replicate m its).flatten.toArray := fun m => by
      have := foldl_rep its m []
      rw [List.nil_append] at this
      exact this
    rw [f0]
    cases its with
    | nil => simp
    | cons a r' => rw [if_neg (by simp)]
  refine wpAny_binaryOp_repeat_ref (T := "list") (U := "int") (by decide) ⟨_, e, rfl⟩ (fun s' => typeIs_int s' k t) noFill_list_mul F.fills_int_mul F.slot_int_rmul repeat_list F.slot_int_index.lookup
    (call_meets F.slot_int_rmul (typeIs_int s k t) F.entry_int_rmul (F.args_int_rmul_2 _ _) (int___rmul___int_list k t l its.toArray n)
      ⟨e, rfl, ⟨_, e, rfl⟩, call_meets F.slot_list_mul ⟨_, e, rfl⟩ F.entry_list_mul (F.args_list_mul_2 _ _) (AutoListH.list___mul___list_int_3 l its.toArray n k t hfit hcap hlong) ⟨e, ?_⟩⟩)
  rw [hnew]
  exact ⟨.ref _, _, I.lnew (t' := s.toks) (r.rep k.toNat) (by rw [len_rep, Nat.mul_comm]; exact hz), rfl, q _ I.fresh⟩

/-! ### del xs[i] -/
end

/-! ### xs[a:b] = ys -/
section
variable {prog : Program} {w : World} {A : Around} {E : Value → Shared → Prop} {s : Shared}
end

section
variable {X : Cx}
end
end L2

namespace Att
open PySem PySem.W PySem.Calls PyProof.Rows

/-! ### the script -/
theorem ints_of_wellAll {P : Params} {h : Heap} : ∀ (ns : List Int) (vs : List Value), WellAll P h vs (ns.map WData.int) → IntsAre vs ns := by
  intro ns
  induction ns with
  | nil =>
    intro vs w
    rw [List.map_nil] at w
    cases w
    exact .nil
  | cons n ns ih =>
    intro vs w
    rw [List.map_cons] at w
    cases w with
    | cons a b =>
      cases a
      exact .cons _ _ (ih _ b)

theorem script_of {l : OpenLaw} {n : Nat} (hn : l.most = some n) {P : Params} {h : Heap} {args : List WData} {vals : List Value}
    (hpre : l.row.toRowW.claim.pre args = true) (hwl : WellAll P h vals args) :
    ∃ a vs ns, vals = [Value.ref a] ∧ args = [WData.list (ns.map WData.int)] ∧ h.get? a = some { cls := .type "list", data := .seq vs.toArray } ∧ IntsAre vs ns ∧ ns.length ≤ n := by
  have hsh : WShape.hasAll [] args [.list .int] = true := (pre_splitW hpre).1
  have hc : l.pre.holds [] { args := args } = true := (pre_splitW hpre).2
  obtain ⟨d, r, rfl, h1, h2⟩ := hasAllW_cons hsh
  obtain rfl := hasAllW_nil h2
  obtain ⟨xs, rfl, h3⟩ := hasW_list h1
  obtain ⟨ns, rfl⟩ := items_int h3
  have hlen : ns.length ≤ n := by
    unfold OpenLaw.pre at hc
    have h4 : (WTm.not (.lt (.lit (.int (n : Int))) (.len (.arg 0)))).holds [] { args := [.list (ns.map .int)] } = true := by
      have h4 := (holds_andW hc).1
      rw [hn] at h4
      exact h4
    have h5 := condW_of h4 (w_not (w_lt w_lit (w_len_list (w_arg rfl))))
    rw [List.length_map] at h5
    refine Nat.le_of_not_lt fun q => ?_
    have q' : (n : Int) < ((ns.length : Nat) : Int) := by omega
    first
      | (rw [decide_eq_true q'] at h5; exact absurd h5 (by decide))
      | (simp at h5; omega)
  cases hwl with
  | cons w1 w2 =>
    cases w2
    cases w1 with
    | list ho hall => exact ⟨_, _, ns, rfl, rfl, ho, ints_of_wellAll ns _ hall, hlen⟩

theorem post_true (l : OpenLaw) (args : List WData) : l.row.toRowW.claim.post args (.bool true) args = true :=
  postW_of (r := l.row.toRowW) (X := (true == true))
    (show WShape.has [] (.bool true) .bool = true by first | rfl | decide | simp [WShape.has, WShape.arms, WShape.armsAll])
    (show (WTm.eq .res (.lit (.bool true))).value [] { args := args, res := some (.bool true), after := args } = some (.bool (true == true)) from w_eq_bool (w_res rfl) w_lit) rfl

/-! ### the attachment: holds_open's last premise (the goal 'hc' behind k_head) from a wpAny of the law's body -/
/-- the same from a codeAny of the CALL (for a layer whose function contracts speak of calls) -/
theorem attach_call {l : OpenLaw} {n : Nat} {q : Program} {loose : List Str} {XP : (Str → Option Value) → Heap → Prop} {YP : World → Heap → Prop} {d : DefRec}
    (hn : l.most = some n) (hdf : d.params.defaults = [])
    (call : ∀ (w : World) (s₀ s₁ : Shared) (mg mb : Str → Option Value) (fa : Addr) (o : Obj) (pm cd doc : Value) (a : Addr) (vs : List Value) (ns : List Int),
      Ground q loose [] XP w s₀ mg mb s₁.heap → YP w s₁.heap →
      s₁.heap.get? fa = some o → o.data = .func (docDef d.name d.params d.body d.scope pm cd doc) → s₁.heap.CodeRec cd d.name → mg d.name = some (.ref fa) →
      s₁.heap.get? a = some { cls := .type "list", data := .seq vs.toArray } → IntsAre vs ns → ns.length ≤ n → s₁.gens = #[] →
      codeAny (model l.prog w) callerA (.call (.ref fa) ⟨[.ref a], []⟩) (fun r s' => r = .ok (.ret (.bool true)) ∧ OldK s₁.heap s'.heap ∧ s'.os = s₁.os ∧ AllBare s'.gens) s₁) :
    WalkO q loose XP YP l.row.toRowW d [] (fun f vs => PySem.call f vs) := by
  intro w s₀ s₁ mg mb G Y fa o pm cd doc dV kV ho hd hcd hD hmg hg args vals as hpre hlay hrd hwl hlo
  obtain rfl : dV = .none := Dflts.none hD hdf
  obtain rfl : kV = .none := Dflts.noKw hD
  obtain ⟨a, vs, ns, rfl, rfl, hobj, hints, hlen⟩ := script_of hn hpre hwl
  refine enter_call (codeAny_mono (call w s₀ s₁ mg mb fa o pm cd doc a vs ns G Y ho (fd_plain hd) hcd hmg hobj hints hlen hg) fun r s' hq => ?_)
  obtain ⟨rfl, h2, h3, h4⟩ := hq
  exact ⟨.inl ⟨.bool true, .bool true, [], rfl, fun _ => rfl, .bool true, post_true l _, fun _ => ⟨List.Pairwise.nil, fun _ hm => (nomatch hm)⟩⟩, h2, h3, h4⟩

/-! ### rules over ANY heap (no ledger) from facts about the written part K: the library's own take a ledger (News) for what they write -/
section
variable {prog : Program} {w : World} {A : Around} {E : Value → Shared → Prop} {s : Shared} {K : Frag}

/-! the whole heap as the ledger: makes every rule that writes through a ledger a rule over any heap -/
end
end Att

namespace L2
open PySem PySem.Spec PyProof.Rows

theorem vals_ints : ∀ {vs : List Value} {ns : List Int}, IntsAre vs ns → Vals (ns.map V.int) vs
  | _, _, .nil => .nil
  | _, _, .cons n t h => .cons ⟨t, rfl⟩ (vals_ints h)

/-- nothing is tracked but the script, known to the object (or it is an object of the module) -/
def Only (H : Hp) : Prop := ∀ b, H b = none ∨ ∃ o xs, H b = some (.frz o (.lst xs))

/-- THE HEAD: the law's promise, at the heap behind the top. F, the promise of the law's def, may use that base is part of the heap (so K.In base, base.Ns mainGlobals mg stand in Mod) -/
theorem law_call {P : Program} {w : World} {K : PySem.W.Frag} {mg mb : Str → Option Value} {CX : CXT} {k : Nat} {fa a : Addr} {fd : FuncData} {x : Str} {sp : Sp} {s₁ : Shared} {vs : List Value} {ns : List Int}
    (KX : K.In s₁.heap) (hns : s₁.heap.Ns mainGlobals mg) (hb : s₁.heap.Ns builtinsNs mb) (hbb : ∀ x : Str, x ≠ "__name__" → mb x = bootBuiltins x) (hlim : s₁.heap.NoLimit) (hg : s₁.gens = #[])
    (ha : s₁.heap.get? a = some { cls := .type "list", data := .seq vs.toArray }) (hi : IntsAre vs ns) (hl : ns.length ≤ sizeLine) (hr : Room k callerA)
    (F : ∀ base : Heap, K.In base → base.Ns mainGlobals mg → FnOk P w K mg base CX k fa fd [x] sp) (hbind : ∀ (s : Shared) (u : Value), BindsTo s fd ⟨[u], []⟩ [(x, u)])
    (hsp : ∀ H : Hp, Only H → SqL K H a (ns.map V.int) → sp [.ref a] H (fun v _ => v = .bl true) fun _ _ _ => False)
    (hCX : ∀ H e s', CX [] H s₁ (fun _ _ _ => False) e s' → False) :
    codeAny (model P w) callerA (.call (.ref fa) ⟨[.ref a], []⟩) (fun r s' => r = .ok (.ret (.bool true)) ∧ OldK s₁.heap s'.heap ∧ s'.os = s₁.os ∧ AllBare s'.gens) s₁ := by
  have rv := vals_ints hi
  have lenV := hi.length
  -- from an abstract heap in which nothing but the script may be tracked
  have core : ∀ H : Hp, Only H → SqL K H a (ns.map V.int) → HOk P w H s₁.heap → (∀ b, H b ≠ none → b = a) → (H a ≠ none → K.lookup a = none) →
      codeAny (model P w) callerA (.call (.ref fa) ⟨[.ref a], []⟩) (fun r s' => r = .ok (.ret (.bool true)) ∧ OldK s₁.heap s'.heap ∧ s'.os = s₁.os ∧ AllBare s'.gens) s₁ := by
    intro H hO hS hok hA hK
    have base_of : ∀ {b : Addr} {o : Obj}, s₁.heap.get? b = some o → H b = none → (hidT s₁.heap H).get? b = some o := fun e n => hidT_get e n
    have noA : ∀ {b : Addr} {o : Obj} {es : Array DictEntry} {ep : Nat}, s₁.heap.get? b = some o → o.data = .dict es ep → H b = none := fun {b o es ep} e d => by
      cases q : H b with
      | none => rfl
      | some u =>
        have e' : b = a := hA b (by rw [q]; simp)
        subst e'
        rw [ha] at e; cases e
        have d' : Data.seq vs.toArray _ = Data.dict es ep := d
        cases d'
    have nsK : ∀ {b : Addr} {m : Str → Option Value}, s₁.heap.Ns b m → (hidT s₁.heap H).Ns b m := fun {b m} ⟨o, es, ep, e, d, r⟩ => ⟨o, es, ep, base_of e (noA e d), d, r⟩
    have hKb : K.In (hidT s₁.heap H) := fun b o e => base_of (KX b o e) (by
      cases q : H b with
      | none => rfl
      | some u =>
        have e' : b = a := hA b (by rw [q]; simp)
        subst e'
        rw [hK (by rw [q]; simp)] at e; cases e)
    have hM : Mod K mg (hidT s₁.heap H) := ⟨hKb, nsK hns, ⟨mb, nsK hb, hbb⟩, let ⟨mc, h1, h2⟩ := hlim; ⟨mc, nsK h1, h2⟩⟩
    have e0 : Env0 P w K mg (hidT s₁.heap H) callerA [] s₁ H := ⟨rfl, hM, fun b o e => of_hidT e, Nat.le_of_eq (hidT_size _ _), trivial, fun b hb => absurd (show b ∈ ([] : List Addr) from hb) (by simp), hok, .of_eq hg⟩
    refine codeAny_mono ((F _ hKb (nsK hns)).run callerA [] s₁ H ⟨[.ref a], []⟩ [.ref a] [.ref a] _ _ hr e0 (hbind s₁ (.ref a)) (.cons rfl .nil) (hsp H hO hS)) fun r s' h => ?_
    cases r with
    | error e => exact (hCX H e s' h).elim
    | ok fl =>
      cases fl with
      | next => exact False.elim h
      | brk => exact False.elim h
      | cont => exact False.elim h
      | ret u =>
        obtain ⟨v, H', os, bare, un, hok', r', q⟩ := h
        have q' : v = .bl true := q
        subst q'
        obtain rfl : u = Value.bool true := r'
        refine ⟨rfl, OldK.of_keep fun b o e => ?_, os, bare⟩
        cases q : H b with
        | none => exact un.keep b o e q (by intro z; exact absurd (show b ∈ ([] : List Addr) from z) (by simp)) (by simp)
        | some u =>
          rcases hO b with z | ⟨ob, xs, z⟩
          · rw [q] at z; cases z
          · have z2 := un.frzs b ob _ z
            obtain ⟨e1, _⟩ := hok b _ z
            obtain ⟨e2, _⟩ := hok' b _ z2
            rw [e] at e1; cases e1
            exact e2
  cases hk : K.lookup a with
  | some o =>
    -- the script is one of the module's own objects
    have e := KX a o hk
    rw [ha] at e
    cases e
    refine core (fun _ => none) (fun _ => .inl rfl) (.inr ⟨_, vs.toArray, _, hk, rfl, rfl, rfl, by rw [List.size_toArray, lenV]; exact hl, by simpa using rv⟩) (fun b u z => by have z' : (none : Option HO) = some u := z; cases z') (fun b z => absurd rfl z) fun z => absurd rfl z
  | none =>
    refine core (fun b => if b = a then some (.frz { cls := .type "list", data := .seq vs.toArray } (.lst (ns.map V.int))) else none) (fun b => ?_) (.inl (.inr ⟨{ cls := .type "list", data := .seq vs.toArray }, if_pos rfl⟩)) (fun b u z => ?_) (fun b z => ?_) fun _ => hk
    · by_cases hb : b = a
      · exact .inr ⟨_, _, if_pos hb⟩
      · exact .inl (if_neg hb)
    · by_cases hb : b = a
      · have z' := (if_pos hb).symm.trans z
        cases z'
        subst hb
        exact ⟨ha, by rw [List.length_map]; exact hl, vs, _, rv, ha⟩
      · have z' := (if_neg hb).symm.trans z
        cases z'
    · by_cases hb : b = a
      · exact hb
      · exact absurd (if_neg hb) z
end L2

namespace L2
open PySem PySem.Spec PyProof.Rows

/-- the goal that k_head leaves (case hc), from the law's promise. F gives the function object fd (K's own) once, then the promise over every base -/
theorem walk_of {l : PySem.W.OpenLaw} {n k : Nat} {q : Program} {loose : List Str} {XP : (Str → Option Value) → Heap → Prop} {YP : World → Heap → Prop} {d : DefRec} {K : Params → PySem.W.Frag} {CX : World → CXT} {sp : World → Sp} {x : Str}
    (hn : l.most = some n) (hn2 : n ≤ sizeLine) (hdf : d.params.defaults = []) (hr : Room k callerA)
    (hY : ∀ (w : World) (h : Heap), YP w h → (K w.params).In h)
    (F : ∀ (w : World) (mg : Str → Option Value) (fa : Addr) (h : Heap), (K w.params).In h → h.Ns mainGlobals mg → mg d.name = some (.ref fa) →
      ∃ fd : FuncData, (∀ (s : Shared) (u : Value), BindsTo s fd ⟨[u], []⟩ [(x, u)]) ∧
        ∀ base : Heap, (K w.params).In base → base.Ns mainGlobals mg → FnOk l.prog w (K w.params) mg base (CX w) k fa fd [x] (sp w))
    (hsp : ∀ (w : World) (H : Hp) (a : Addr) (ns : List Int), ns.length ≤ n → Only H → SqL (K w.params) H a (ns.map V.int) → sp w [.ref a] H (fun v _ => v = .bl true) fun _ _ _ => False)
    (hCX : ∀ (w : World) (H : Hp) (s : Shared) (e : Value) (s' : Shared), CX w [] H s (fun _ _ _ => False) e s' → False) :
    PySem.W.WalkO q loose XP YP l.row.toRowW d [] (fun f vs => PySem.call f vs) := by
  refine Att.attach_call hn hdf fun w s₀ s₁ mg mb fa o pm cd doc a vs ns G Y ho hd hcd hmg hobj hints hlen hg => ?_
  have KX := hY w _ Y
  obtain ⟨fd, hb, hF⟩ := F w mg fa _ KX G.T.g hmg
  exact law_call KX G.T.g G.T.b G.T.builtins G.T.nolimit hg hobj hints (Nat.le_trans hlen hn2) hr hF hb (fun H hO hS => hsp w H a ns hlen hO hS) fun H e s' => hCX w H s₁ e s'
end L2

/- THE LAST THEOREM (shape; LID, My.* are yours):
   My.Adr: a structure of the addresses that your layer names (classes, functions); My.Txt K t: a structure (Prop) of the equations over K;
   My.txt_mk : {K} {implicit addresses ..} (e1 : nsIn K mainGlobals "law" = some (some (.ref f))) (e2 : K.lookup f = some ⟨oc, od, .func (fnOf "law" "law" params body scope dV kV doc pm an cdv ct), sl⟩) (e3 : codeIn K cdv "law" = true) .. : ∃ t, My.Txt K t

set_option maxRecDepth 100000 in
set_option maxHeartbeats 0 in
theorem PySem.Challenge.cw_LID_holds : PySem.Challenge.rw_LID.Holds := by
  w_on; o_law; k_head; (case hw => w_witness2)
  k_fill
  refine L2.walk_of (l := PySem.Challenge.rw_LID) (n := 63) (k := 40) (x := "script") (CX := fun w => ..) (sp := fun _ => My.sp_law) rfl (by decide) rfl ⟨rfl, by decide, by decide⟩ (fun w h Y => PySem.W.kIn_of Y) ?F ?S ?C
  case F =>
    intro w mg fa h KX G hmg
    have T : ∃ t, My.Txt (L2.KOf KX) t := by
      dsimp only [L2.KOf]                          -- K must stand as «<heap const> w.params» for k_is
      refine' My.txt_mk ?e1 ?e2 ?e3 ..
      (case e1 => PySem.W.k_is)                    -- in the order: a name -> its address -> its object -> its parts
      (case e2 => PySem.W.k_is)
      ..
    obtain ⟨t, T⟩ := T
    have e0 := hmg.symm.trans (PySem.W.mg_of KX G T.law)
    cases e0                                       -- fa is the law's own address
    exact ⟨_, fun s u => .of_eq rfl, fun base kb nb => My.law_fn T kb nb⟩     -- if «.of_eq rfl» comes too early: refine' ⟨_, ?b, fun base kb nb => My.law_fn T kb nb⟩; exact fun s u => .of_eq rfl
  case S => exact fun w H a ns hl hO hS => ..
  case C => exact ..
(the tactic k_is has no namespace: write k_is) -/

/-! SHORT WORDS over the layer: a def of the text, its body, what a loop and a test want. -/
namespace L2
open PySem PySem.Spec PyProof.Rows

/-! ### the text by places -/
def defArgs (s : Stmt) : Arguments := match s with
  | .FunctionDef _ a _ _ _ _ _ _ _ _ => a
  | _ => { posonlyargs := [], args := [], vararg := none, kwonlyargs := [], kw_defaults := [], kwarg := none, defaults := [] }
def defBody (s : Stmt) : List Stmt := match s with
  | .FunctionDef _ _ b _ _ _ _ _ _ _ => b
  | _ => []
def defScope (s : Stmt) : Scope := match s with
  | .FunctionDef _ _ _ _ _ _ sc _ _ _ => sc
  | _ => { kind := .function, names := [], isGenerator := false, isCoroutine := false }

/-! ### no exception leaves a def -/
abbrev CX0 : CXT := fun _ _ _ _ _ _ => False
abbrev E0 : XK := fun _ _ _ => False
theorem pass0 {X : Cx} : Passes CX0 X E0 := fun _ _ _ _ _ _ _ h => h.elim

/-! ### a def (or method) of the text as it stands behind the top -/
structure Fun (K : PySem.W.Frag) (x qual : Str) (st : Stmt) (f : Addr) (fd : FuncData) : Prop where
  ex : ∃ (oc : Value) (od : Option Addr) (kV doc pm : Value) (an : Option Addr) (cdv ct : Value) (osl : Array (Option Value)),
    fd = PySem.W.fnOf x qual (defArgs st) (defBody st) (defScope st) .none kV doc pm an cdv ct ∧ K.lookup f = some ⟨oc, od, .func fd, osl⟩ ∧ PySem.W.codeIn K cdv qual = true
  kp : PySem.W.keepIn K (.ref f) = true
section
variable {P : Program} {w : World} {K : PySem.W.Frag} {mg : Str → Option Value} {base : Heap}
/-- THE RULE for a def: its body as a term of rules, and the reading of that term -/
theorem Fun.ok {x qual : Str} {st : Stmt} {f : Addr} {fd : FuncData} {N ps : List Str} {k : Nat} {sp : Sp} (F : Fun K x qual st f fd) (S : FnScope N ps (defScope st)) (len : ∀ vs H Q E, sp vs H Q E → vs.length = ps.length)
    (hbody : ∀ (cdv : Value) (A : Around) (outer : List Env) (s : Shared) (H : Hp) (vs : List V) (Q : VK) (E : XK), Room k (A.deeper (envOfC qual (defScope st) s.heap.objs.size f cdv)) → sp vs H Q E →
      ∃ t, PSs (cxOf CX0 P w K mg base N qual (defScope st) f cdv A outer s H E).nox (defBody st) t ∧ t { nx := fun _ H' => Q .non H', rt := Q } (start N vs) H) : FnOk P w K mg base CX0 (k + 1) f fd ps sp := by
  obtain ⟨oc, od, kV, doc, pm, an, cdv, ct, osl, rfl, lk, hcd⟩ := F.ex
  refine fn_of lk hcd S len fun A outer s H vs Q E hr hsp => ?_
  obtain ⟨t, h, q⟩ := hbody cdv A outer s H vs Q E hr hsp
  exact ⟨t, h.nox, q⟩
/-- how its arguments bind (no defaults): h is «fun _ _ _ _ _ _ us hl => match us, hl with | [_, _], _ => rfl», one _ a parameter -/
theorem Fun.binds {x qual : Str} {st : Stmt} {f : Addr} {fd : FuncData} {ps : List Str} (F : Fun K x qual st f fd)
    (h : ∀ (kV doc pm : Value) (an : Option Addr) (cdv ct : Value) (us : List Value), us.length = ps.length → bindArgs (PySem.W.fnOf x qual (defArgs st) (defBody st) (defScope st) .none kV doc pm an cdv ct) ⟨us, []⟩ = pure (ps.zip us)) : Binds K fd ps [] := by
  obtain ⟨oc, od, kV, doc, pm, an, cdv, ct, osl, rfl, lk, hcd⟩ := F.ex
  exact .all (h kV doc pm an cdv ct)
theorem fun_mk {x qual : Str} {st : Stmt} {f : Addr} {oc : Value} {od an : Option Addr} {osl : Array (Option Value)} {kV doc pm cdv ct : Value} (l : K.lookup f = some ⟨oc, od, .func (PySem.W.fnOf x qual (defArgs st) (defBody st) (defScope st) .none kV doc pm an cdv ct), osl⟩)
    (c : PySem.W.codeIn K cdv qual = true) (k : PySem.W.keepIn K (.ref f) = true) : Fun K x qual st f (PySem.W.fnOf x qual (defArgs st) (defBody st) (defScope st) .none kV doc pm an cdv ct) := ⟨⟨oc, od, kV, doc, pm, an, cdv, ct, osl, rfl, l, c⟩, k⟩
end
theorem hu_of {A : Around} {k : Nat} (hr : Room k A) : A.units + 1 < cLine := Nat.lt_of_le_of_lt (Nat.add_le_add_left (by decide : 1 ≤ 64) _) hr.units
/-! ### expressions in short: the name that stands in the i-th slot -/
section
variable {X : Cx}
theorem pv (i : Nat) {x : Str} {pos : Pos} (hN : X.N[i]? = some x := by rfl) (hv : Vis X.env.scope x := by first | exact Or.inl rfl | exact Or.inr (Or.inl rfl) | exact Or.inr (Or.inr rfl)) (hd : (x == ("__debug__" : Str)) = false := by decide)
    (hcd : (x == ("__classdict__" : Str)) = false := by decide) : PE X (.Name x pos) (tVar i) := pe_var hN hv hd hcd
end

/-! ### tests -/
/-! ### heaps -/
/-- all that was tracked is as it was -/
def Same (H H' : Hp) : Prop := ∀ b o, H b = some o → H' b = some o
theorem Same.refl (H : Hp) : Same H H := fun _ _ h => h
theorem Same.trans {H H1 H2 : Hp} (a : Same H H1) (b : Same H1 H2) : Same H H2 := fun c o h => b c o (a c o h)
theorem Same.free {H H' : Hp} (e : Same H H') {l : Addr} (h : H' l = Option.none) : H l = Option.none := by
  cases q : H l with
  | none => rfl
  | some o =>
    rw [e l o q] at h
    cases h
theorem Same.seq {K : PySem.W.Frag} {H H' : Hp} {a : Addr} {xs : List V} (e : Same H H') (h : SqL K H a xs) : SqL K H' a xs := by
  rcases h with (h | ⟨o, h⟩) | h
  · exact .inl (.inl (e _ _ h))
  · exact .inl (.inr ⟨o, e _ _ h⟩)
  · exact .inr h

end L2

end
section
set_option Elab.async false
set_option linter.all false
set_option maxRecDepth 100000
namespace L2
open PySem PySem.Spec PyProof.Rows

/-! ### a text walked sign by sign -/
def Its (x : Str) : It := ⟨fun i _ => i < x.cps.size, fun i H v H' => H' = H ∧ ∃ c, x.cps[i]? = some c ∧ v = .str ⟨#[c]⟩, fun i _ => i = x.cps.size⟩
theorem turn_str {P : Program} {w : World} {K : PySem.W.Frag} {tg : Expr} {it : Addr} {x : Str} {t : Tok} {T : String}
    (hT : ["enumerate", "zip", "dict_itemiterator", "dict_reverseitemiterator", "odict_iterator", "itertools.zip_longest", "itertools.pairwise"].contains T = false)
    (W : ∀ A : Around, A.handled = none → Walks P w A it [it] [it] x.cps.size (SignAt x) (fun i h => h.IsStrIter it T x t i))
    (self : ∀ (A : Around) (i : Nat) (s : Shared) (Q : Value → Shared → Prop) (E : Value → Shared → Prop), s.heap.IsStrIter it T x t i → Q (.ref it) s → wpAny (model P w) A (pyIter (.ref it)) Q E s) :
    Turn P w K tg (Its x) [it] it (fun i h => h.IsStrIter it T x t i) where
  mem := by simp
  obj := fun i h st b hb => by
    have e : b = it := by simpa using hb
    subst e
    obtain ⟨o, e, c, d⟩ := st
    exact ⟨o, e, fun v z => by rw [d] at z; cases z⟩
  keep := fun i h h' st k => let ⟨o, ho, r⟩ := st; ⟨o, k it (by simp) o ho, r⟩
  item := by
    intro X hP hw hK hc i pins s σ H E I hf st hg
    subst hP hw hK
    obtain ⟨f0, f1, f2, f3, f4, f5⟩ := hf it (by simp)
    refine (W X.A (I.ok.hd hc)).item i s _ _ hg st fun v h' tk hv st' kk => ?_
    obtain ⟨c, u, hcu, rfl⟩ := hv
    have I1 : Inv X pins σ H { s with heap := h', toks := tk } := I.turned (fun b o hb e => kk b o (by simpa using hb) e) f0 f1 f3 f4 f5
    obtain ⟨o, e, c', d⟩ := id st'
    exact ⟨_, rfl, go_of (s := { s with heap := h', toks := tk }) e c' d hT ⟨.str ⟨#[c]⟩, H, I1, ⟨u, rfl⟩, ⟨rfl, c, hcu, rfl⟩, st', fun b hb => (hf b hb).1⟩⟩
  done := by
    intro X hP hw hK hc i pins s σ H E I hf st hg
    subst hP hw hK
    obtain ⟨f0, f1, f2, f3, f4, f5⟩ := hf it (by simp)
    have hg : i = x.cps.size := hg
    subst hg
    exact (W X.A (I.ok.hd hc)).done s _ _ st fun h' tk eb => ⟨rfl, I.turned (fun b o hb e => eb b o (by simpa using hb) e) f0 f1 f3 f4 f5⟩
  self := self
section
variable {X : Cx} {tg : Expr}
def iStr (tl : TE) : TI := fun σ H R => tl σ H fun x H1 => ∃ z, x = .str z ∧ R (Its z) H1
theorem pi_str {l : Expr} {tl : TE} (hl : PE X l tl) : PI X tg l (iStr tl) := by
  intro pins s σ H R I h
  refine thn (hl pins s σ H _ I h) fun v s1 ⟨x, H1, I1, r1, q1⟩ => ?_
  obtain ⟨z, e, q⟩ := q1
  subst e
  obtain ⟨t, rfl⟩ := r1
  have fin : ∀ (T : String) (o : Obj), Turn X.prog X.w X.K tg (Its z) [s1.heap.objs.size] s1.heap.objs.size (fun i h => h.IsStrIter s1.heap.objs.size T z t i) → (s1.heap.push o).IsStrIter s1.heap.objs.size T z t 0 →
      PIE X pins σ tg R (.ref s1.heap.objs.size) { s1 with heap := s1.heap.push o } := fun T o tn h0 => by
    refine ⟨s1.heap.objs.size, [s1.heap.objs.size], _, _, H1, rfl, I1.kept (t' := s1.toks) fun b o e => Heap.get?_push_of_some _ e, tn, h0, fun b hb => ?_, q⟩
    have e : b = s1.heap.objs.size := by simpa using hb
    subst e
    exact I1.fpOk (Nat.le_refl _) (I1.hok.fresh (Nat.le_refl _))
  cases ha : z.cps.all (· < 128)
  · exact wpAny_pyIter_wide ha (fin "str_iterator" _ (turn_str (by decide) (fun A hA => Walks.strWide hA _ z t) fun _ _ _ _ _ st hQ => wpAny_pyIter_striter_wide st hQ) ⟨_, Heap.get?_push_size _ rfl, rfl, rfl⟩)
  · exact wpAny_pyIter_ascii ha (fin "str_ascii_iterator" _ (turn_str (by decide) (fun A hA => Walks.strAscii hA _ z t) fun _ _ _ _ _ st hQ => wpAny_pyIter_striter_ascii st hQ) ⟨_, Heap.get?_push_size _ rfl, rfl, rfl⟩)
end
/-- over a text, by the part that was walked -/
theorem for_str {x : Str} {g : TG} {tb : TS} {D : Ends} {σ : St} {H : Hp} (Pv : List Nat → St → Hp → Prop) (h0 : Pv [] σ H)
    (hs : ∀ pre c post σ H, x.cps.toList = pre ++ c :: post → Pv pre σ H → g (.str ⟨#[c]⟩) σ H fun σ2 H2 => tb { D with nx := Pv (pre ++ [c]), ct := Pv (pre ++ [c]), bk := D.nx } σ2 H2) (hd : ∀ σ H, Pv x.cps.toList σ H → D.nx σ H) :
    ∃ W : Nat → Nat → St → Hp → Prop, (∃ m, W 0 m σ H) ∧ ∀ i m σ H, W i m σ H →
      ((Its x).stop i H ∧ D.nx σ H) ∨ ((Its x).go i H ∧ ∃ N : St → Hp → Prop, (∀ σ' H', N σ' H' → ∃ m', m' < m ∧ W (i + 1) m' σ' H') ∧ ∀ v H', (Its x).yld i H v H' → g v σ H' fun σ2 H2 => tb { D with nx := N, ct := N, bk := D.nx } σ2 H2) := by
  have hlen : x.cps.toList.length = x.cps.size := by simp
  refine ⟨fun i m σ H => m = x.cps.size - i ∧ i ≤ x.cps.size ∧ Pv (x.cps.toList.take i) σ H, ⟨x.cps.size, by simp, Nat.zero_le _, by simpa using h0⟩, ?_⟩
  rintro i m σ H ⟨rfl, hi, p⟩
  by_cases hlt : i < x.cps.size
  · refine .inr ⟨hlt, Pv (x.cps.toList.take (i + 1)), fun σ' H' p' => ⟨x.cps.size - (i + 1), by omega, rfl, hlt, p'⟩, fun v H' y => ?_⟩
    obtain ⟨e, c, hc, rfl⟩ := y
    subst e
    have hc' : x.cps.toList[i]? = some c := by simpa using hc
    have hl : i < x.cps.toList.length := by omega
    have hg : x.cps.toList[i] = c := by rw [List.getElem?_eq_getElem hl] at hc'; exact Option.some.inj hc'
    have e1 : x.cps.toList = x.cps.toList.take i ++ c :: x.cps.toList.drop (i + 1) := by
      rw [← hg, ← List.drop_eq_getElem_cons hl, List.take_append_drop]
    have e2 : x.cps.toList.take (i + 1) = x.cps.toList.take i ++ [c] := by rw [List.take_succ_eq_append_getElem hl, hg]
    rw [e2]
    exact hs _ c _ σ H' e1 p
  · have e : i = x.cps.size := by omega
    subst e
    refine .inl ⟨rfl, hd σ H ?_⟩
    rw [List.take_of_length_le (by omega)] at p
    exact p
/-- over a list, by the part that was walked -/
theorem for_listP {K : PySem.W.Frag} {a : Addr} {xs : List V} {g : TG} {tb : TS} {D : Ends} {σ : St} {H : Hp} (Pv : List V → St → Hp → Prop) (h0 : Pv [] σ H) (hl : ∀ pre post σ H, xs = pre ++ post → Pv pre σ H → SqL K H a xs)
    (hs : ∀ pre x post σ H, xs = pre ++ x :: post → Pv pre σ H → g x σ H fun σ2 H2 => tb { D with nx := Pv (pre ++ [x]), ct := Pv (pre ++ [x]), bk := D.nx } σ2 H2) (hd : ∀ σ H, Pv xs σ H → D.nx σ H) :
    ∃ W : Nat → Nat → St → Hp → Prop, (∃ m, W 0 m σ H) ∧ ∀ i m σ H, W i m σ H →
      ((Itl K a).stop i H ∧ D.nx σ H) ∨ ((Itl K a).go i H ∧ ∃ N : St → Hp → Prop, (∀ σ' H', N σ' H' → ∃ m', m' < m ∧ W (i + 1) m' σ' H') ∧ ∀ x H', (Itl K a).yld i H x H' → g x σ H' fun σ2 H2 => tb { D with nx := N, ct := N, bk := D.nx } σ2 H2) := by
  refine for_list (xs := xs) (fun i => Pv (xs.take i)) (by simpa using h0) (fun i σ H hi p => hl _ (xs.drop i) σ H (List.take_append_drop i xs).symm p) (fun i x σ H hx p => ?_) (fun σ H p => hd σ H (by simpa using p))
  have hlt : i < xs.length := (List.getElem?_eq_some_iff.mp hx).1
  have hg : xs[i] = x := (List.getElem?_eq_some_iff.mp hx).2
  have e1 : xs = xs.take i ++ x :: xs.drop (i + 1) := by
    rw [← hg, ← List.drop_eq_getElem_cons hlt, List.take_append_drop]
  have e2 : xs.take (i + 1) = xs.take i ++ [x] := by rw [List.take_succ_eq_append_getElem hlt, hg]
  show g x σ H fun σ2 H2 => tb { D with nx := Pv (xs.take (i + 1)), ct := Pv (xs.take (i + 1)), bk := D.nx } σ2 H2
  rw [e2]
  exact hs _ x _ σ H e1 p

section
variable {X : Cx}
/-! ### text * int -/
def repS (x : Str) (n : Nat) : Str := ⟨(List.replicate n x.cps.toList).flatten.toArray⟩
theorem Txt_mul_eq (x : Str) (n : Int) : Txt.mul x n = repS x n.toNat := by
  have aux : ∀ (k : Nat) (acc : Array Nat), (List.replicate k x.cps).foldl (· ++ ·) acc = (acc.toList ++ (List.replicate k x.cps.toList).flatten).toArray := by
    intro k
    induction k with
    | zero => intro acc; simp
    | succ k ih => intro acc; rw [List.replicate_succ, List.foldl_cons, ih]; simp [List.replicate_succ]
  unfold Txt.mul repS
  split
  · rename_i h
    have : n.toNat = 0 := by omega
    rw [this]; rfl
  · rename_i h
    split
    · rename_i h2
      rcases Bool.or_eq_true_iff.mp h2 with h3 | h3
      · have : n.toNat = 1 := by have := beq_iff_eq.mp h3; omega
        rw [this]
        cases x; simp
      · have h4 : x.cps.toList = [] := by
          have h5 : x.cps.size = 0 := by simpa [PySem.Str.length] using h3
          exact List.eq_nil_of_length_eq_zero (by simpa using h5)
        cases x with
        | mk c =>
          simp only at h4
          have : c = #[] := by simpa using h4
          subst this; simp
    · rw [aux]; simp
theorem op_mul_str : OpR X (binaryOp .Mult) (fun x y H Q => ∃ a k, x = .str a ∧ y = .int k ∧ (-(2 ^ 62) ≤ k ∧ k < 2 ^ 62) ∧ a.length * k.toNat ≤ sizeLine ∧ Q (.str (repS a k.toNat)) H) := by
  intro pins s σ H x y v u Q I rx ry h
  obtain ⟨a, k, rfl, rfl, ⟨h1, h2⟩, hz, q⟩ := h
  obtain ⟨t, rfl⟩ := rx
  obtain ⟨t', rfl⟩ := ry
  refine SB.mul ⟨?_, ?_, ?_⟩ fun t'' k' => ⟨.str (repS a k.toNat), H, I.tok _, ⟨t'', by rw [Txt_mul_eq]⟩, q⟩
  · simp; omega
  · intro hk _ hgt
    have hz' : a.length * k.toNat ≤ 2 ^ 40 := Nat.le_trans hz (by rw [sizeLine_eq]; decide)
    have e : ((a.length * k.toNat : Nat) : Int) ≤ 2 ^ 40 := by exact_mod_cast hz'
    have hk' : (k.toNat : Int) = k := by omega
    rw [Int.natCast_mul, hk'] at e
    have h3 := Int.lt_of_lt_of_le hgt (Int.le_refl _)
    have h4 : (2 ^ 63 - 1 : Int) < (a.length : Int) * k := by
      have := (Int.ediv_lt_iff_lt_mul (by omega : (0 : Int) < k)).mp hgt
      exact this
    omega
  · intro _ _
    simp only [Builtin.Str.tooLong, decide_eq_false_iff_not]
    omega
end
end L2

end
section
set_option Elab.async false
set_option linter.all false
set_option maxRecDepth 100000
namespace L2
open PySem PySem.Spec PyProof.Rows

/-! ### text[lo:hi] -/
def cutS (x : Str) (lo hi : Option Int) : Str := ⟨((x.cps.toList.drop (HT.sIx x.length 0 lo)).take (HT.sIx x.length x.length hi - HT.sIx x.length 0 lo)).toArray⟩
theorem sliceIdx_key (l u : Option Int) (n : Nat) : Builtin.Str.strSliceIndices l u 1 n = sliceRange ((HT.sIx n 0 l : Nat) : Int) ((HT.sIx n n u : Nat) : Int) 1 := by
  have c1 : ∀ (v : Int), max 0 (min (if v < 0 then v + (n : Int) else v) (n : Int)) = ((HT.sIx n 0 (some v) : Nat) : Int) := fun v => by
    unfold HT.sIx; dsimp only; split <;> omega
  have c2 : ∀ (v : Int), max 0 (min (if v < 0 then v + (n : Int) else v) (n : Int)) = ((HT.sIx n n (some v) : Nat) : Int) := fun v => by
    unfold HT.sIx; dsimp only; split <;> omega
  unfold Builtin.Str.strSliceIndices
  have e1 : ((1 : Int) > 0) := by decide
  cases l with
  | none =>
    cases u with
    | none => simp only [e1, if_true]; rfl
    | some v => simp only [e1, if_true]; rw [c2]; rfl
  | some z =>
    cases u with
    | none => simp only [e1, if_true]; rw [c1]; rfl
    | some v => simp only [e1, if_true]; rw [c1, c2]
theorem sIx_idem (n d d' : Nat) (o : Option Int) (hd : d ≤ n) : HT.sIx n d' (some ((HT.sIx n d o : Nat) : Int)) = HT.sIx n d o := by
  have := HT.sIx_le n d hd o
  rw [HT.sIx_nat]; omega
theorem sliceIdx_eq (l u : Option Int) (n : Nat) : Builtin.Str.strSliceIndices l u 1 n = Builtin.Str.strSliceIndices (some ((HT.sIx n 0 l : Nat) : Int)) (some ((HT.sIx n n u : Nat) : Int)) 1 n := by
  rw [sliceIdx_key, sliceIdx_key (some _), sIx_idem n 0 0 l (Nat.zero_le _), sIx_idem n n n u (Nat.le_refl _)]
theorem Txt_slice_eq (x : Str) (l u : Option Int) : Txt.slice x l u = cutS x l u := by
  have h0 : HT.sIx x.length 0 l ≤ x.length := HT.sIx_le _ _ (Nat.zero_le _) _
  have hn : HT.sIx x.length x.length u ≤ x.length := HT.sIx_le _ _ (Nat.le_refl _) _
  unfold Txt.slice
  rw [sliceIdx_eq]
  by_cases hab : HT.sIx x.length 0 l ≤ HT.sIx x.length x.length u
  · exact PySem.StrLaws.sliceText_nat x hab hn
  · have e : Builtin.Str.strSliceIndices (some ((HT.sIx x.length 0 l : Nat) : Int)) (some ((HT.sIx x.length x.length u : Nat) : Int)) 1 x.length = [] := by
      rw [← sliceIdx_eq, sliceIdx_key]
      unfold sliceRange
      have : ¬ (((HT.sIx x.length 0 l : Nat) : Int) < ((HT.sIx x.length x.length u : Nat) : Int)) := by omega
      simp [this]
    rw [e]
    have hx : ¬ (0 = x.length) := by omega
    have hz : HT.sIx x.length x.length u - HT.sIx x.length 0 l = 0 := by omega
    unfold cutS
    rw [hz]
    simp [hx]
section
variable {X : Cx}
def rSlS : V → Option Int → Option Int → Hp → VK → Prop := fun x lo hi H Q => ∃ z, x = .str z ∧ z.length ≤ sizeLine ∧ Q (.str (cutS z lo hi)) H
theorem sl_str : SlR X rSlS := by
  intro pins s σ H x v vl vu lo hi sl Q I rx hs pl pu h
  obtain ⟨z, rfl, hz, q⟩ := h
  obtain ⟨t, rfl⟩ := rx
  refine ⟨"str", _, F.slot_str_getitem.lookup, typeIs_str _ _ _, ?_⟩
  have fin : ∀ (l u : Option (Int × Tok)), l.map (·.1) = lo → u.map (·.1) = hi → s.heap.IsSlice sl l u none → wpAny (model X.prog X.w) X.A (getItem (.str z t) (.ref sl)) (EP X pins σ Q) X.xe s := fun l u e1 e2 hsl => by
    refine wpAny_getItem_str_slice (st := none) hsl rfl ?_
    have e : Txt.slice z (l.map (·.1)) (u.map (·.1)) = cutS z lo hi := by rw [e1, e2, Txt_slice_eq]
    refine post_val_or_str ⟨Nat.le_trans (Txt.slice_le z _ _) hz, fun t' k => ⟨.str (cutS z lo hi), H, I.tok _, ⟨t', ?_⟩, q⟩⟩
    rw [← e]; rfl
  cases pl with
  | none =>
    cases pu with
    | none => exact fin none none rfl rfl hs
    | int j tj => exact fin none (some (j, tj)) rfl rfl hs
  | int i ti =>
    cases pu with
    | none => exact fin (some (i, ti)) none rfl rfl hs
    | int j tj => exact fin (some (i, ti)) (some (j, tj)) rfl rfl hs
/-! ### startswith, endswith -/
/-! ### isinstance(x, T) -/
def rIsi (K : PySem.W.Frag) : List V → Hp → VK → Prop := fun vs H Q => ∃ x c t b, vs = [x, .ty c] ∧ TyOf K H x t ∧ PySem.W.kitOne K t (.type c) = some b ∧ Q (.bl b) H
theorem call_isi : CallR X (.builtin "isinstance") (rIsi X.K) := by
  intro pins s σ H xs us Q I rv h
  obtain ⟨x, c, t, b, rfl, ty, e, q⟩ := h
  obtain ⟨u, w', rfl, r1, r2⟩ := vals2 rv
  have r2 : w' = Value.type c := r2
  subst r2
  exact isinst_ok I r1 ty e fun tk => ⟨.bl b, H, I.tok _, rfl, q⟩
/-! ### int(text) -/
theorem call_intS : CallR X (.type "int") (fun xs H Q => ∃ z n, xs = [.str z] ∧ PySem.intText? z = some n ∧ z.length ≤ 640 ∧ Q (.int n) H) := by
  intro pins s σ H xs us Q I rv h
  obtain ⟨z, n, rfl, e, hz, q⟩ := h
  obtain ⟨u, rfl, t, rfl⟩ := vals1 rv
  exact PySem.W.KIN.call_text e hz ⟨.int n, H, I.tok _, ⟨_, rfl⟩, q⟩
end
end L2

end
section
set_option Elab.async false
set_option linter.all false
set_option maxRecDepth 100000
namespace L2
open PySem PySem.Spec PyProof.Rows

/-! ### data that is read whole -/
mutual
inductive Rep (K : PySem.W.Frag) (H : Hp) : V → PyData → Prop
  | non : Rep K H .non .none
  | bl (b) : Rep K H (.bl b) (.bool b)
  | int (i) : Rep K H (.int i) (.int i)
  | str (x) : Rep K H (.str x) (.str x)
  | lst {a xs ds} : SqL K H a xs → Reps K H xs ds → Rep K H (.ref a) (.list ds)
  | tup {a xs ds} : SqT K H a xs → Reps K H xs ds → Rep K H (.ref a) (.tuple ds)
inductive Reps (K : PySem.W.Frag) (H : Hp) : List V → List PyData → Prop
  | nil : Reps K H [] []
  | cons {x xs d ds} : Rep K H x d → Reps K H xs ds → Reps K H (x :: xs) (d :: ds)
end
section
variable {X : Cx} {pins : List (Addr × Obj)} {σ : St} {H : Hp} {s : Shared}
mutual
theorem Rep.reads (I : Inv X pins σ H s) : ∀ {x : V} {d : PyData}, Rep X.K H x d → ∀ u, RelV x u → ∃ as, Reads s.heap u d as
  | _, _, .non, u, r => by cases r; exact ⟨_, .none⟩
  | _, _, .bl b, u, r => by cases r; exact ⟨_, .bool b⟩
  | _, _, .int i, u, r => by obtain ⟨t, rfl⟩ := r; exact ⟨_, .int i t⟩
  | _, _, .str x, u, r => by obtain ⟨t, rfl⟩ := r; exact ⟨_, .str x t⟩
  | _, _, .lst hq hs, u, r => by
    cases r
    obtain ⟨its, rv, ⟨o, n, e, hc, hd, hdat⟩, _⟩ := I.list hq
    obtain ⟨as, ra⟩ := Reps.reads I hs its rv
    exact ⟨_, .list e hc hdat (by simpa using ra)⟩
  | _, _, .tup hq hs, u, r => by
    cases r
    obtain ⟨its, rv, ⟨o, e, hc, n, hdat⟩, _⟩ := I.tuple hq
    obtain ⟨as, ra⟩ := Reps.reads I hs its rv
    exact ⟨_, .tuple e hc hdat (by simpa using ra)⟩
theorem Reps.reads (I : Inv X pins σ H s) : ∀ {xs : List V} {ds : List PyData}, Reps X.K H xs ds → ∀ us, Vals xs us → ∃ as, ReadsAll s.heap us ds as
  | _, _, .nil, us, r => by cases r; exact ⟨_, .nil⟩
  | _, _, .cons h t, us, r => by
    cases r with
    | cons r1 r2 =>
      obtain ⟨as, ra⟩ := Rep.reads I h _ r1
      obtain ⟨bs, rb⟩ := Reps.reads I t _ r2
      exact ⟨_, .cons ra rb⟩
end
end
section
variable {X : Cx}
def rEqD (K : PySem.W.Frag) : R2 := fun x y H Q => ∃ d e, Rep K H x d ∧ Rep K H y e ∧ SeqAt.shaped d = true ∧ SeqAt.shaped e = true ∧ Q (.bl (PyData.eqv d e)) H
def rNeD (K : PySem.W.Frag) : R2 := fun x y H Q => ∃ d e, Rep K H x d ∧ Rep K H y e ∧ SeqAt.shaped d = true ∧ SeqAt.shaped e = true ∧ Q (.bl (!PyData.eqv d e)) H
theorem op_eqD (hu : X.A.units + 64 < cLine) : OpR X (compareOp .Eq) (rEqD X.K) := by
  intro pins s σ H x y v u Q I rx ry h
  obtain ⟨d, e, hd, he, sd, se, q⟩ := h
  obtain ⟨as, ra⟩ := hd.reads I v rx
  obtain ⟨bs, rb⟩ := he.reads I u ry
  exact eq_dataH ra rb sd se hu ⟨.bl _, H, I, rfl, q⟩
theorem op_neD (hu : X.A.units + 64 < cLine) : OpR X (compareOp .NotEq) (rNeD X.K) := by
  intro pins s σ H x y v u Q I rx ry h
  obtain ⟨d, e, hd, he, sd, se, q⟩ := h
  obtain ⟨as, ra⟩ := hd.reads I v rx
  obtain ⟨bs, rb⟩ := he.reads I u ry
  exact ne_dataH ra rb sd se hu ⟨.bl _, H, I, rfl, q⟩
/-! ### a def of the text, called by its name -/
structure Own (P : Program) (w : World) (K : PySem.W.Frag) (mg : Str → Option Value) (base : Heap) (k : Nat) (x : Str) (ps : List Str) (sp : Sp) : Prop where
  ex : ∃ f fd, FnOk P w K mg base CX0 k f fd ps sp ∧ mg x = some (.ref f) ∧ PySem.W.keepIn K (.ref f) = true ∧ Binds K fd ps []
variable {k : Nat} {x : Str} {ps : List Str} {sp : Sp} {p pos : Pos} {e : Expr} {es : List Expr} {t : TA}
theorem pe_own (F : Own X.prog X.w X.K X.mg X.base k x ps sp) (hr : Room k X.A) (ha : PA X (e :: es) t) (hg : Gl X x := by rfl)
    (hdb : (x == ("__debug__" : Str)) = false := by decide) (he : starEach (e :: es) X.env = (false, eval e X.env) :: starEach es X.env := by rfl) (hpl : (backTo pos (starEach es X.env)).any (·.1) = false := by rfl) :
    PE X (.Call (.Name x p) (e :: es) [] pos) (tCall sp [] E0 t) := by
  obtain ⟨f, fd, G, hm, hk, hb⟩ := F.ex
  exact pe_call G hr hg hm hk hb .nil pass0 ha hdb he hpl
/-! ### what is walked: a list or a text -/
theorem PI.or {tg iter : Expr} {a b : TI} (h : PI X tg iter a) (h' : PI X tg iter b) : PI X tg iter (fun σ H R => a σ H R ∨ b σ H R) := by
  intro pins s σ H R I q
  rcases q with q | q
  · exact h pins s σ H R I q
  · exact h' pins s σ H R I q
/-! ### both kinds of an operation -/
theorem op_addA : OpR X (binaryOp .Add) (fun x y H Q => rI0 (fun i j => .int (i + j)) x y H Q ∨ (∃ i j, x = .str i ∧ y = .str j ∧ i.length + j.length ≤ sizeLine ∧ Q (.str (i ++ j)) H) ∨ rCat x y H Q) := op_add.or (op_add_str.or op_cat)
theorem op_mulA : OpR X (binaryOp .Mult) (fun x y H Q => rI CMul (fun i j => .int (i * j)) x y H Q ∨ (∃ a k, x = .str a ∧ y = .int k ∧ (-(2 ^ 62) ≤ k ∧ k < 2 ^ 62) ∧ a.length * k.toNat ≤ sizeLine ∧ Q (.str (repS a k.toNat)) H) ∨ rRep x y H Q) := op_mul.or (op_mul_str.or op_rep)
theorem call_intA : CallR X (.type "int") (fun xs H Q => ((∃ i, xs = [.int i] ∧ Q (.int i) H) ∨ ∃ k, xs = [.bl k] ∧ Q (.int (if k then 1 else 0)) H) ∨ ∃ z n, xs = [.str z] ∧ PySem.intText? z = some n ∧ z.length ≤ 640 ∧ Q (.int n) H) := call_int1.or call_intS
theorem sl_any : SlR X (fun x lo hi H Q => rSlS x lo hi H Q ∨ rSlL X.K x lo hi H Q) := sl_str.or sl_list
end
/-! ### from a def to its name -/
theorem Own.mk' {P : Program} {w : World} {K : PySem.W.Frag} {mg : Str → Option Value} {base : Heap} {k : Nat} {x : Str} {ps : List Str} {sp : Sp} {f : Addr} {fd : FuncData} (G : FnOk P w K mg base CX0 k f fd ps sp) (hm : mg x = some (.ref f)) (hk : PySem.W.keepIn K (.ref f) = true) (hb : Binds K fd ps []) : Own P w K mg base k x ps sp := ⟨f, fd, G, hm, hk, hb⟩
end L2

end
section
set_option Elab.async false
set_option linter.all false
set_option maxRecDepth 100000
namespace L2
open PySem PySem.Spec PyProof.Rows
/-! ### isinstance, by cases -/
def isiF : V → String → Option Bool
  | .int _, c => if c = "int" then some true else if c = "bool" ∨ c = "str" ∨ c = "tuple" ∨ c = "list" then some false else none
  | .bl _, c => if c = "int" ∨ c = "bool" then some true else if c = "str" ∨ c = "tuple" ∨ c = "list" then some false else none
  | .str _, c => if c = "str" then some true else if c = "bool" ∨ c = "int" ∨ c = "tuple" ∨ c = "list" then some false else none
  | .non, c => if c = "str" ∨ c = "bool" ∨ c = "int" ∨ c = "tuple" ∨ c = "list" then some false else none
  | _, _ => none
def rIsiA : List V → Hp → VK → Prop := fun vs H Q => ∃ x c, vs = [x, .ty c] ∧
  ((∃ b, isiF x c = some b ∧ Q (.bl b) H) ∨ (∃ a xs, x = .ref a ∧ H a = some (.tup xs) ∧ (c = "tuple" ∧ Q (.bl true) H ∨ (c = "list" ∨ c = "str" ∨ c = "int") ∧ Q (.bl false) H)) ∨ (∃ a xs, x = .ref a ∧ H a = some (.lst xs) ∧ (c = "list" ∧ Q (.bl true) H ∨ (c = "tuple" ∨ c = "str" ∨ c = "int") ∧ Q (.bl false) H)))
theorem call_isiA {X : Cx} : CallR X (.builtin "isinstance") rIsiA := by
  intro pins s σ H xs us Q I rv h
  obtain ⟨x, c, rfl, h⟩ := h
  refine call_isi pins s σ H _ us Q I rv ?_
  rcases h with ⟨b, e, q⟩ | ⟨a, xs, rfl, ha, q⟩ | ⟨a, xs, rfl, ha, q⟩
  · cases x with
    | int i =>
      dsimp only [isiF] at e
      split at e
      · rename_i hc; subst hc; cases e; exact ⟨_, _, _, _, rfl, .int i, by rfl, q⟩
      · split at e
        · rename_i hc; cases e
          rcases hc with rfl | rfl | rfl | rfl <;> exact ⟨_, _, _, _, rfl, .int i, by rfl, q⟩
        · cases e
    | bl i =>
      dsimp only [isiF] at e
      split at e
      · rename_i hc; cases e; rcases hc with rfl | rfl <;> exact ⟨_, _, _, _, rfl, .bl i, by rfl, q⟩
      · split at e
        · rename_i hc; cases e
          rcases hc with rfl | rfl | rfl <;> exact ⟨_, _, _, _, rfl, .bl i, by rfl, q⟩
        · cases e
    | str i =>
      dsimp only [isiF] at e
      split at e
      · rename_i hc; subst hc; cases e; exact ⟨_, _, _, _, rfl, .str i, by rfl, q⟩
      · split at e
        · rename_i hc; cases e
          rcases hc with rfl | rfl | rfl | rfl <;> exact ⟨_, _, _, _, rfl, .str i, by rfl, q⟩
        · cases e
    | non =>
      dsimp only [isiF] at e
      split at e
      · rename_i hc; cases e
        rcases hc with rfl | rfl | rfl | rfl | rfl <;> exact ⟨_, _, _, _, rfl, .non, by rfl, q⟩
      · cases e
    | _ => cases e
  · rcases q with ⟨rfl, q⟩ | ⟨rfl | rfl | rfl, q⟩ <;> exact ⟨_, _, _, _, rfl, .tup ha, by rfl, q⟩
  · rcases q with ⟨rfl, q⟩ | ⟨rfl | rfl | rfl, q⟩ <;> exact ⟨_, _, _, _, rfl, .lst ha, by rfl, q⟩

/-! ### texts of 0 and 1 -/
def sg (b : Bool) : Nat := if b then 49 else 48
def enc (bs : List Bool) : Str := ⟨(bs.map sg).toArray⟩
theorem enc_cps (bs : List Bool) : (enc bs).cps.toList = bs.map sg := rfl
theorem enc_len (bs : List Bool) : (enc bs).length = bs.length := by
  show ((bs.map sg).toArray).size = bs.length
  simp
theorem enc_append (a b : List Bool) : enc a ++ enc b = enc (a ++ b) := by
  show (⟨(a.map sg).toArray ++ (b.map sg).toArray⟩ : Str) = ⟨((a ++ b).map sg).toArray⟩
  simp
theorem sg_inj {a b : Bool} (h : sg a = sg b) : a = b := by
  revert h; cases a <;> cases b <;> decide
theorem enc_inj {a b : List Bool} (h : enc a = enc b) : a = b := by
  have h1 : a.map sg = b.map sg := by
    have := congrArg (fun z => z.cps.toList) h
    simpa [enc] using this
  clear h
  induction a generalizing b with
  | nil => cases b with
    | nil => rfl
    | cons y ys => simp at h1
  | cons x xs ih =>
    cases b with
    | nil => simp at h1
    | cons y ys =>
      simp only [List.map_cons, List.cons.injEq] at h1
      rw [sg_inj h1.1, ih h1.2]
theorem enc_eq {a b : List Bool} : (enc a = enc b) = (a = b) := propext ⟨enc_inj, fun h => by rw [h]⟩
theorem enc_nil : (Str.ofString "" : Str) = enc [] := by decide +kernel
theorem enc_0 : (Str.ofString "0" : Str) = enc [false] := by decide +kernel
theorem enc_1 : (Str.ofString "1" : Str) = enc [true] := by decide +kernel
theorem enc_01 : (Str.ofString "01" : Str) = enc [false, true] := by decide +kernel
theorem sign_enc (b : Bool) : (⟨#[sg b]⟩ : Str) = enc [b] := rfl
/-- what a text writes to the base two -/
def val (bs : List Bool) : Int := bs.foldl (fun n b => n * 2 + (if b then 1 else 0)) 0
theorem val_foldl (bs : List Bool) : ∀ a : Int, bs.foldl (fun n b => n * 2 + (if b then 1 else 0)) a = a * 2 ^ bs.length + val bs := by
  unfold val
  induction bs with
  | nil => intro a; simp
  | cons b bs ih =>
    intro a
    rw [List.foldl_cons, List.foldl_cons, ih, ih (0 * 2 + _), List.length_cons, Int.pow_succ]
    rw [Int.add_mul, Int.zero_mul, Int.zero_add, Int.mul_assoc, Int.mul_comm 2 (2 ^ bs.length)]
    omega
theorem val_append (a b : List Bool) : val (a ++ b) = val a * 2 ^ b.length + val b := by
  show (a ++ b).foldl _ 0 = _
  rw [List.foldl_append, val_foldl]
  rfl
theorem val_snoc (a : List Bool) (b : Bool) : val (a ++ [b]) = val a * 2 + (if b then 1 else 0) := by
  rw [val_append]
  cases b <;> simp [val]
theorem pow_pos' (n : Nat) : (0 : Int) < 2 ^ n := by
  induction n with
  | zero => decide
  | succ n ih => rw [Int.pow_succ]; omega
theorem val_cons (b : Bool) (a : List Bool) : val (b :: a) = (if b then 1 else 0) * 2 ^ a.length + val a := by
  show (b :: a).foldl _ 0 = _
  rw [List.foldl_cons, val_foldl, Int.zero_mul, Int.zero_add]
theorem val_nonneg (a : List Bool) : 0 ≤ val a ∧ val a < 2 ^ a.length := by
  induction a with
  | nil => decide
  | cons x xs ih =>
    rw [val_cons, List.length_cons, Int.pow_succ]
    cases x <;> simp <;> omega
/-- the last k signs of a number's writing -/
def addr : Nat → Int → List Bool
  | 0, _ => []
  | k + 1, n => addr k (n / 2) ++ [decide (n % 2 = 1)]
theorem addr_len : ∀ (k : Nat) (n : Int), (addr k n).length = k
  | 0, _ => rfl
  | k + 1, n => by rw [addr, List.length_append, addr_len]; rfl
theorem addr_front : ∀ (k : Nat) (n : Int), addr (k + 1) n = decide (n / 2 ^ k % 2 = 1) :: addr k n
  | 0, n => by simp [addr]
  | k + 1, n => by
    rw [addr, addr_front k (n / 2)]
    show (decide (n / 2 / 2 ^ k % 2 = 1) :: addr k (n / 2)) ++ [decide (n % 2 = 1)] = decide (n / 2 ^ (k + 1) % 2 = 1) :: (addr k (n / 2) ++ [decide (n % 2 = 1)])
    rw [Int.ediv_ediv_of_nonneg (by omega), Int.pow_succ, Int.mul_comm (2 ^ k) 2]
    rfl
theorem val_addr : ∀ (k : Nat) (n : Int), val (addr k n) = n % 2 ^ k
  | 0, n => by simp [addr, val, Int.emod_one]
  | k + 1, n => by
    rw [addr, val_snoc, val_addr k]
    have h0 := pow_pos' k
    have h1 := Int.emod_nonneg (n / 2) (Int.ne_of_gt h0)
    have h2 := Int.emod_lt_of_pos (n / 2) h0
    have h3 := Int.mul_ediv_add_emod (n / 2) (2 ^ k)
    have h4 : n = 2 * (n / 2) + n % 2 := by omega
    have h5 : n = (2 ^ (k + 1)) * (n / 2 / 2 ^ k) + ((n / 2 % 2 ^ k) * 2 + n % 2) := by
      rw [Int.pow_succ, Int.mul_comm (2 ^ k) 2, Int.mul_assoc]
      omega
    have h6 : n % 2 ^ (k + 1) = (n / 2 % 2 ^ k) * 2 + n % 2 := by
      conv => lhs; rw [h5]
      rw [Int.mul_add_emod_self_left]
      refine Int.emod_eq_of_lt (by omega) ?_
      rw [Int.pow_succ]; omega
    rw [h6]
    have : n % 2 = 0 ∨ n % 2 = 1 := by omega
    rcases this with h | h <;> simp [h]
/-- the first k signs of a number, the least one first -/
def bitsBy : Nat → Int → List Bool
  | 0, _ => []
  | k + 1, c => decide (c % 2 = 1) :: bitsBy k (c / 2)
theorem bitsBy_len : ∀ (k : Nat) (n : Int), (bitsBy k n).length = k
  | 0, _ => rfl
  | k + 1, n => by rw [bitsBy, List.length_cons, bitsBy_len]
theorem bitsBy_snoc : ∀ (k : Nat) (n : Int), bitsBy (k + 1) n = bitsBy k n ++ [decide (n / 2 ^ k % 2 = 1)]
  | 0, n => by simp [bitsBy]
  | k + 1, n => by
    rw [bitsBy, bitsBy_snoc k (n / 2)]
    show decide (n % 2 = 1) :: (bitsBy k (n / 2) ++ [decide (n / 2 / 2 ^ k % 2 = 1)]) = (decide (n % 2 = 1) :: bitsBy k (n / 2)) ++ [decide (n / 2 ^ (k + 1) % 2 = 1)]
    rw [Int.ediv_ediv_of_nonneg (by omega), Int.pow_succ, Int.mul_comm (2 ^ k) 2]
    rfl
theorem item_01 (n : Int) : atI (enc [false, true]).cps.toList (n % 2) = some (sg (decide (n % 2 = 1))) := by
  have : n % 2 = 0 ∨ n % 2 = 1 := by omega
  rcases this with h | h <;> rw [h] <;> decide
theorem pow_mono2 {a b : Nat} (h : a ≤ b) : (2 : Int) ^ a ≤ 2 ^ b := by
  obtain ⟨c, rfl⟩ := Nat.le.dest h
  induction c with
  | zero => exact Int.le_refl _
  | succ c ih => have h1 := ih (Nat.le_add_right _ _); have := pow_pos' (a + c); rw [← Nat.add_assoc, Int.pow_succ]; omega
theorem line_ge : 1000000 ≤ sizeLine := by decide
end L2

end
section
set_option Elab.async false
set_option linter.all false
set_option maxRecDepth 100000
namespace L2
open PySem PySem.Spec PyProof.Rows
/-! ### the built-ins names -/
theorem bt_len : bootBuiltins "len" = some (.builtin "len") := by decide +kernel
theorem bt_isinstance : bootBuiltins "isinstance" = some (.builtin "isinstance") := by decide +kernel
theorem bt_int : bootBuiltins "int" = some (.type "int") := by decide +kernel
theorem bt_str : bootBuiltins "str" = some (.type "str") := by decide +kernel
theorem bt_list : bootBuiltins "list" = some (.type "list") := by decide +kernel
theorem bt_tuple : bootBuiltins "tuple" = some (.type "tuple") := by decide +kernel
theorem bt_set : bootBuiltins "set" = some (.type "set") := by decide +kernel
theorem bt_sorted : bootBuiltins "sorted" = some (.builtin "sorted") := by decide +kernel
theorem bt_bool : bootBuiltins "bool" = some (.type "bool") := by decide +kernel
theorem bt_reversed : bootBuiltins "reversed" = some (.type "reversed") := by decide +kernel
theorem bt_dict : bootBuiltins "dict" = some (.type "dict") := by decide +kernel
/-! ### the operations' readings, by the values' kinds -/
def rAddA : R2 := fun x y H Q => match x, y with
  | .int i, .int j => Q (.int (i + j)) H
  | .str a, .str b => a.length + b.length ≤ sizeLine ∧ Q (.str (a ++ b)) H
  | .ref l, .ref b => ∃ xs zs, H l = some (.lst xs) ∧ H b = some (.lst zs) ∧ xs.length + zs.length ≤ sizeLine ∧ ∀ p, H p = none → Q (.ref p) (upd H p (.lst (xs ++ zs)))
  | _, _ => False
def rMulA : R2 := fun x y H Q => match x, y with
  | .int i, .int j => CMul i j ∧ Q (.int (i * j)) H
  | .str a, .int k => (-(2 ^ 62) ≤ k ∧ k < 2 ^ 62) ∧ a.length * k.toNat ≤ sizeLine ∧ Q (.str (repS a k.toNat)) H
  | .ref l, .int k => ∃ xs, H l = some (.lst xs) ∧ -(2 ^ 63) ≤ k ∧ k < 2 ^ 63 ∧ xs.length * k.toNat ≤ sizeLine ∧ ∀ p, H p = none → Q (.ref p) (upd H p (.lst (List.replicate k.toNat xs).flatten))
  | _, _ => False
def rI2 (C : Int → Int → Prop) (g : Int → Int → V) : R2 := fun x y H Q => match x, y with
  | .int i, .int j => C i j ∧ Q (g i j) H
  | _, _ => False
def rI3 (g : Int → Int → V) : R2 := fun x y H Q => match x, y with
  | .int i, .int j => Q (g i j) H
  | _, _ => False
def rSubI : R2 := rI3 fun i j => .int (i - j)
def rDivI : R2 := rI2 CDiv fun i j => .int (i / j)
def rModI : R2 := rI2 (fun _ j => 0 < j) fun i j => .int (i % j)
def rPowI : R2 := rI2 CPow fun i j => .int (i ^ j.toNat)
def rLt : R2 := rI3 fun i j => .bl (decide (i < j))
def rLe : R2 := rI3 fun i j => .bl (decide (i ≤ j))
def rGt : R2 := rI3 fun i j => .bl (decide (j < i))
def rGe : R2 := rI3 fun i j => .bl (decide (j ≤ i))
def rNegI : V → Hp → VK → Prop := fun x H Q => match x with
  | .int i => Q (.int (-i)) H
  | _ => False
def rIsN : R2 := fun x y H Q => y = .non ∧ Q (.bl (decide (x = .non))) H
def rNotN : R2 := fun x y H Q => y = .non ∧ Q (.bl (!decide (x = .non))) H
def rEqS : R2 := fun x y H Q => match x, y with
  | .int i, .int j => Q (.bl (decide (i = j))) H
  | .str a, .str b => Q (.bl (decide (a = b))) H
  | .bl a, .bl b => Q (.bl (decide (a = b))) H
  | .non, .non => Q (.bl true) H
  | .non, .int _ => Q (.bl false) H
  | .int _, .non => Q (.bl false) H
  | _, _ => False
def rNeS : R2 := fun x y H Q => match x, y with
  | .int i, .int j => Q (.bl (!decide (i = j))) H
  | .str a, .str b => Q (.bl (!decide (a = b))) H
  | .bl a, .bl b => Q (.bl (!decide (a = b))) H
  | .non, .non => Q (.bl false) H
  | .non, .int _ => Q (.bl true) H
  | .int _, .non => Q (.bl true) H
  | _, _ => False
def rLen (K : PySem.W.Frag) : List V → Hp → VK → Prop := fun vs H Q => match vs with
  | [.str z] => z.length ≤ sizeLine ∧ Q (.int z.length) H
  | [.ref p] => ∃ ys, (SqL K H p ys ∨ SqT K H p ys) ∧ Q (.int ys.length) H
  | _ => False
def rIxA (K : PySem.W.Frag) : R2 := fun x y H Q => match x, y with
  | .str z, .int i => z.length ≤ sizeLine ∧ ∃ c, atI z.cps.toList i = some c ∧ Q (.str ⟨#[c]⟩) H
  | .ref p, .int i => ∃ xs v, (SqL K H p xs ∨ SqT K H p xs) ∧ atI xs i = some v ∧ Q v H
  | _, _ => False
def rIntA : List V → Hp → VK → Prop := fun vs H Q => match vs with
  | [.int i] => Q (.int i) H
  | [.bl k] => Q (.int (if k then 1 else 0)) H
  | [.str z] => ∃ n, PySem.intText? z = some n ∧ z.length ≤ 640 ∧ Q (.int n) H
  | _ => False
def rMax2 : List V → Hp → VK → Prop := fun vs H Q => match vs with
  | [.int i, .int j] => Q (.int (if j > i then j else i)) H
  | _ => False
def rMin2 : List V → Hp → VK → Prop := fun vs H Q => match vs with
  | [.int i, .int j] => Q (.int (if j < i then j else i)) H
  | _ => False
def rStrI : List V → Hp → VK → Prop := fun vs H Q => match vs with
  | [.int i] => i.natAbs.log2 < 1920 ∧ Q (.str (toString i)) H
  | _ => False
def rListOf (K : PySem.W.Frag) : List V → Hp → VK → Prop := fun vs H Q => match vs with
  | [.ref p] => ∃ ys, (SqL K H p ys ∨ SqT K H p ys) ∧ ∀ l, H l = none → Q (.ref l) (upd H l (.lst ys))
  | _ => False
def isiO : HO → String → Option Bool
  | .tup _, c => if c = "tuple" then some true else if c = "list" ∨ c = "str" ∨ c = "int" then some false else none
  | .lst _, c => if c = "list" then some true else if c = "tuple" ∨ c = "str" ∨ c = "int" then some false else none
  | _, _ => none
def rIsi2 : List V → Hp → VK → Prop := fun vs H Q => match vs with
  | [.ref a, .ty c] => ∃ o b, H a = some o ∧ isiO o c = some b ∧ Q (.bl b) H
  | [x, .ty c] => ∃ b, isiF x c = some b ∧ Q (.bl b) H
  | _ => False
def rSlA (K : PySem.W.Frag) : V → Option Int → Option Int → Hp → VK → Prop := fun x lo hi H Q => match x with
  | .str z => z.length ≤ sizeLine ∧ Q (.str (cutS z lo hi)) H
  | .ref a => ∃ xs, SqL K H a xs ∧ ∀ p, H p = none → Q (.ref p) (upd H p (.lst (cutV xs lo hi)))
  | _ => False
def rStarts2 : V → List V → Hp → VK → Prop := fun x vs H Q => match x, vs with
  | .str a, [.str b] => Q (.bl (b.cps.toList.isPrefixOf a.cps.toList)) H
  | _, _ => False
def rEnds2 : V → List V → Hp → VK → Prop := fun x vs H Q => match x, vs with
  | .str a, [.str b] => Q (.bl (b.cps.toList.isSuffixOf a.cps.toList)) H
  | _, _ => False
section
variable {X : Cx}
theorem OpR.imp {f : Value → Value → Sem Value} {r r' : R2} (h : OpR X f r) (hi : ∀ x y H Q, r' x y H Q → r x y H Q) : OpR X f r' := fun pins s σ H x y v u Q I rx ry q => h pins s σ H x y v u Q I rx ry (hi x y H Q q)
theorem CallR.imp {f : Value} {r r' : List V → Hp → VK → Prop} (h : CallR X f r) (hi : ∀ vs H Q, r' vs H Q → r vs H Q) : CallR X f r' := fun pins s σ H vs us Q I rv q => h pins s σ H vs us Q I rv (hi vs H Q q)
theorem op_addB : OpR X (binaryOp .Add) rAddA := op_addA.imp fun x y H Q h => by
  unfold rAddA at h; split at h
  · exact .inl ⟨_, _, rfl, rfl, h⟩
  · exact .inr (.inl ⟨_, _, rfl, rfl, h⟩)
  · obtain ⟨xs, zs, h⟩ := h; exact .inr (.inr ⟨_, _, xs, zs, rfl, rfl, h⟩)
  · exact h.elim
theorem op_mulB : OpR X (binaryOp .Mult) rMulA := op_mulA.imp fun x y H Q h => by
  unfold rMulA at h; split at h
  · exact .inl ⟨_, _, rfl, rfl, h⟩
  · exact .inr (.inl ⟨_, _, rfl, rfl, h⟩)
  · obtain ⟨xs, h⟩ := h; exact .inr (.inr ⟨_, _, xs, rfl, rfl, h⟩)
  · exact h.elim
theorem rI2_imp {C : Int → Int → Prop} {g : Int → Int → V} (x y : V) (H : Hp) (Q : VK) (h : rI2 C g x y H Q) : rI C g x y H Q := by
  unfold rI2 at h; split at h
  · exact ⟨_, _, rfl, rfl, h⟩
  · exact h.elim
theorem rI3_imp {g : Int → Int → V} (x y : V) (H : Hp) (Q : VK) (h : rI3 g x y H Q) : rI0 g x y H Q := by
  unfold rI3 at h; split at h
  · exact ⟨_, _, rfl, rfl, h⟩
  · exact h.elim
theorem op_subB : OpR X (binaryOp .Sub) rSubI := op_sub.imp rI3_imp
theorem op_divB : OpR X (binaryOp .FloorDiv) rDivI := op_fdiv.imp rI2_imp
theorem op_modB : OpR X (binaryOp .Mod) rModI := op_mod.imp rI2_imp
theorem op_ltB : OpR X (compareOp .Lt) rLt := op_lt.imp rI3_imp
theorem op_gtB : OpR X (compareOp .Gt) rGt := op_gt.imp rI3_imp
theorem un_negB : UnR X (unaryOp .USub) rNegI := fun pins s σ H x v Q I rx q => by
  refine un_neg pins s σ H x v Q I rx ?_
  unfold rNegI at q; split at q
  · exact ⟨_, rfl, q⟩
  · exact q.elim
theorem op_isNB : OpR X (compareOp .Is) rIsN := op_isN
theorem op_notNB : OpR X (compareOp .IsNot) rNotN := op_notN
theorem op_eqB : OpR X (compareOp .Eq) rEqS := op_eq.imp fun x y H Q h => by
  unfold rEqS at h; split at h
  · exact ⟨rfl, by simpa using h⟩
  · exact ⟨rfl, by simpa using h⟩
  · exact ⟨rfl, by simpa using h⟩
  · exact ⟨rfl, by simpa using h⟩
  · exact ⟨rfl, by simpa using h⟩
  · exact ⟨rfl, by simpa using h⟩
  · exact h.elim
theorem op_neB : OpR X (compareOp .NotEq) rNeS := op_ne.imp fun x y H Q h => by
  unfold rNeS at h; split at h
  · exact ⟨rfl, by simpa using h⟩
  · exact ⟨rfl, by simpa using h⟩
  · exact ⟨rfl, by simpa using h⟩
  · exact ⟨rfl, by simpa using h⟩
  · exact ⟨rfl, by simpa using h⟩
  · exact ⟨rfl, by simpa using h⟩
  · exact h.elim
theorem call_lenB : CallR X (.builtin "len") (rLen X.K) := (call_len_seq.or call_len_str).imp fun vs H Q h => by
  unfold rLen at h; split at h
  · exact .inr ⟨_, rfl, h⟩
  · obtain ⟨ys, h⟩ := h; exact .inl ⟨_, ys, rfl, h⟩
  · exact h.elim
theorem ix_B : IxR X (rIxA X.K) := fun a b pins s σ H x y v u Q I rx ry h hs => by
  refine ix_seq a b pins s σ H x y v u Q I rx ry ?_ hs
  unfold rIxA at h; split at h
  · obtain ⟨h1, c, h2, h3⟩ := h; exact .inr (.inr ⟨_, _, c, rfl, rfl, h1, h2, h3⟩)
  · obtain ⟨xs, v, h1 | h1, h2, h3⟩ := h
    · exact .inl ⟨_, xs, _, v, rfl, rfl, h1, h2, h3⟩
    · exact .inr (.inl ⟨_, xs, _, v, rfl, rfl, h1, h2, h3⟩)
  · exact h.elim
theorem call_intB : CallR X (.type "int") rIntA := call_intA.imp fun vs H Q h => by
  unfold rIntA at h; split at h
  · exact .inl (.inl ⟨_, rfl, h⟩)
  · exact .inl (.inr ⟨_, rfl, h⟩)
  · obtain ⟨n, h⟩ := h; exact .inr ⟨_, n, rfl, h⟩
  · exact h.elim
theorem call_listB : CallR X (.type "list") (rListOf X.K) := call_list_of.imp fun vs H Q h => by
  unfold rListOf at h; split at h
  · obtain ⟨ys, h⟩ := h; exact ⟨_, ys, rfl, h⟩
  · exact h.elim
theorem call_isiB : CallR X (.builtin "isinstance") rIsi2 := call_isiA.imp fun vs H Q h => by
  unfold rIsi2 at h; split at h
  · rename_i a c
    obtain ⟨o, b, e, hi, q⟩ := h
    refine ⟨_, c, rfl, ?_⟩
    cases o with
    | tup xs =>
      dsimp only [isiO] at hi
      split at hi
      · rename_i hc; cases hi; exact .inr (.inl ⟨a, xs, rfl, e, .inl ⟨hc, q⟩⟩)
      · split at hi
        · rename_i hc; cases hi; exact .inr (.inl ⟨a, xs, rfl, e, .inr ⟨hc, q⟩⟩)
        · cases hi
    | lst xs =>
      dsimp only [isiO] at hi
      split at hi
      · rename_i hc; cases hi; exact .inr (.inr ⟨a, xs, rfl, e, .inl ⟨hc, q⟩⟩)
      · split at hi
        · rename_i hc; cases hi; exact .inr (.inr ⟨a, xs, rfl, e, .inr ⟨hc, q⟩⟩)
        · cases hi
    | _ => cases hi
  · obtain ⟨b, e, q⟩ := h; exact ⟨_, _, rfl, .inl ⟨b, e, q⟩⟩
  · exact h.elim
theorem sl_B : SlR X (rSlA X.K) := fun pins s σ H x v vl vu lo hi sl Q I rx hs pl pu h => by
  refine sl_any pins s σ H x v vl vu lo hi sl Q I rx hs pl pu ?_
  unfold rSlA at h; split at h
  · exact .inl ⟨_, rfl, h⟩
  · obtain ⟨xs, h⟩ := h; exact .inr ⟨_, xs, rfl, h⟩
  · exact h.elim
end
/-! ### loops, from their reading -/
section
variable {D : Ends} {σ : St} {H : Hp} {g : TG} {tb : TS} {K : PySem.W.Frag}
/-- over a text of 0 and 1 -/
theorem tFor_enc {tl : TE} (bs : List Bool) (Pv : List Bool → St → Hp → Prop) (ht : ∀ R : V → Hp → Prop, R (.str (enc bs)) H → tl σ H R) (h0 : Pv [] σ H)
    (hs : ∀ pre b post σ H, bs = pre ++ b :: post → Pv pre σ H → g (.str (enc [b])) σ H fun σ2 H2 => tb { D with nx := Pv (pre ++ [b]), ct := Pv (pre ++ [b]), bk := D.nx } σ2 H2) (hd : ∀ σ H, Pv bs σ H → D.nx σ H) : tFor (iStr tl) g tb D σ H := by
  refine ht _ ⟨enc bs, rfl, for_str (x := enc bs) (fun pre σ H => ∃ p, pre = p.map sg ∧ Pv p σ H) ⟨[], rfl, h0⟩ (fun pre c post σ H e ⟨p, ep, hp⟩ => ?_) fun σ H ⟨p, ep, hp⟩ => hd σ H ?_⟩
  · rw [enc_cps, ep] at e
    obtain ⟨l1, l2, e1, e2, e3⟩ := List.map_eq_append_iff.mp e
    obtain ⟨b, l3, e4, e5, e6⟩ := List.map_eq_cons_iff.mp e3
    have e7 : l1 = p := by
      have : enc l1 = enc p := by unfold enc; rw [e2]
      exact enc_inj this
    subst e7 e4 e5
    have q := hs l1 b l3 σ H e1 hp
    have eN : (fun (σ : St) (H : Hp) => ∃ p, pre ++ [sg b] = p.map sg ∧ Pv p σ H) = Pv (l1 ++ [b]) := by
      funext σ H
      refine propext ⟨fun ⟨p, ep', hp'⟩ => ?_, fun hp' => ⟨_, by rw [ep, List.map_append]; rfl, hp'⟩⟩
      have : enc (l1 ++ [b]) = enc p := by unfold enc; rw [← ep', ep, List.map_append]; rfl
      rw [enc_inj this]; exact hp'
    rw [eN]
    exact q
  · have : enc bs = enc p := by unfold enc; rw [← ep]; rfl
    rw [enc_inj this]; exact hp
/-- over range(n) -/
theorem tFor_rng1 {ta : TA} (n : Nat) (hn : n < 2 ^ 62) (Pv : Nat → St → Hp → Prop) (ht : ∀ R : List V → Hp → Prop, R [.int n] H → ta σ H R) (h0 : Pv 0 σ H)
    (hs : ∀ i σ H, i < n → Pv i σ H → g (.int i) σ H fun σ2 H2 => tb { D with nx := Pv (i + 1), ct := Pv (i + 1), bk := D.nx } σ2 H2) (hd : ∀ σ H, Pv n σ H → D.nx σ H) : tFor (iRng1 ta) g tb D σ H := by
  refine ht _ ⟨(n : Int), rfl, by omega, by omega, ?_⟩
  refine for_range (lo := 0) (n := (n : Int).toNat) Pv h0 (fun i σ H hi p => ?_) (by simpa using hd)
  rw [Int.zero_add]
  exact hs i σ H (by simpa using hi) p
/-- over a list -/
theorem tFor_lst {tl : TE} (a : Addr) (xs : List V) (Pv : List V → St → Hp → Prop) (ht : ∀ R : V → Hp → Prop, R (.ref a) H → tl σ H R) (h0 : Pv [] σ H) (hl : ∀ pre post σ H, xs = pre ++ post → Pv pre σ H → SqL K H a xs)
    (hs : ∀ pre x post σ H, xs = pre ++ x :: post → Pv pre σ H → g x σ H fun σ2 H2 => tb { D with nx := Pv (pre ++ [x]), ct := Pv (pre ++ [x]), bk := D.nx } σ2 H2) (hd : ∀ σ H, Pv xs σ H → D.nx σ H) : tFor (iList K tl) g tb D σ H := by
  exact ht _ ⟨a, rfl, ⟨xs, hl [] xs σ H rfl h0⟩, for_listP (xs := xs) Pv h0 hl hs hd⟩
end
end L2

end
section
set_option Elab.async false
set_option linter.all false
set_option maxRecDepth 100000
set_option maxHeartbeats 4000000
namespace L2
open PySem PySem.Spec
local macro_rules | `(tactic| walk_at "rd") => `(tactic| try simp only [tVar, tC, tOp, tUn, tSeq, tAsg, gName, tRet, tRetN, tIfS, tDrop, tNext, tCons, tNil, tCall, tCB, tTest, tB, tAnd, tOr, tNot, tAndV, tOrV, tNotV, tIf, tTup, tLst, tSl, tPart, tNoPart, tBM, tBM0, L2.start, rI2, rI3, rAddA, rMulA, rSubI, rDivI, rModI, rPowI, rNegI, rLt, rLe, rGt, rGe, rIsN, rNotN, rEqS, rNeS, rLen, rIxA, rIntA, rMax2, rMin2, rStrI, rListOf, rIsi2, isiF, isiO, rSlA, rStarts2, rEnds2, CDiv,
  List.map_cons, List.map_nil, List.length_cons, List.length_nil, List.replicate_succ, List.replicate_zero, List.cons_append, List.nil_append, List.append_nil, List.getElem?_cons_zero, List.getElem?_cons_succ, List.set_cons_zero, List.set_cons_succ, Option.some.injEq, V.int.injEq, V.str.injEq, V.bl.injEq, V.ref.injEq, V.ty.injEq, reduceCtorEq, exists_eq_left', exists_eq_left, exists_eq_right, exists_eq_right', exists_eq', exists_eq, exists_and_left, exists_and_right, false_and, and_false, true_and, and_true, exists_const, exists_false, false_or, or_false, List.cons.injEq, and_assoc, decide_eq_true_eq, decide_true, decide_false, Int.reduceLT, Int.reduceLE, Nat.reduceLT, Nat.reduceLeDiff, Nat.reduceSub, Nat.reduceAdd, Nat.sub_self, Nat.sub_zero, enc_eq, enc_nil, enc_0, enc_1, enc_01, enc_append, enc_len, Bool.not_true, Bool.not_false, Bool.false_eq_true, if_true, if_false, ↓reduceIte, String.reduceEq, or_true, true_or, Nat.one_mul, addr_len, bitsBy_len, List.length_append, List.length_replicate, List.length_map])
local macro_rules | `(tactic| walk_at "sz") => `(tactic| (have hline := line_ge; first | omega | (simp; omega)))
theorem tSeq_gen {t u : TS} {D : Ends} {σ : St} {H : Hp} (h : ∀ U : TS, U = u → t { D with nx := U D } σ H) : tSeq t u D σ H := h u rfl
def rd_law_cell_at (K : PySem.W.Frag) : TS :=
  (tSeq (tIfS (tTest (tOp rLt (tVar 1) (tCB (rLen K) (tCons (tVar 0) tNil)))) (tRet (tOp (rIxA K) (tVar 0) (tVar 1))) tNext)
  (tRet (tC (.int 0))))
def nm_law_cell_at : List Str := ["script", "k"]
def cell (ns : List Int) (k : Int) : Int := ns.getD k.toNat 0
def sp_law_cell_at (K : PySem.W.Frag) : Sp := fun vs H Q _ => ∃ (a : Addr) (ns : List Int) (k : Int), vs = [.ref a, .int k] ∧ 0 ≤ k ∧ SqL K H a (ns.map V.int) ∧ Q (.int (cell ns k)) H
theorem len_law_cell_at {K vs H Q E} (h : sp_law_cell_at K vs H Q E) : vs.length = 2 := by obtain ⟨_, _, _, rfl, _⟩ := h; rfl
theorem rdok_law_cell_at {K vs H Q E} (h : sp_law_cell_at K vs H Q E) : rd_law_cell_at K { nx := fun _ H' => Q .non H', rt := Q } (start nm_law_cell_at vs) H := by
  obtain ⟨a, ns, k', rfl, hk0, hs, q⟩ := h
  obtain ⟨k, rfl⟩ := Int.eq_ofNat_of_zero_le hk0
  simp only [rd_law_cell_at, nm_law_cell_at]
  walk_at "rd"
  refine ⟨_, .inl hs, ?_⟩
  rw [List.length_map]
  split
  · rename_i h
    have hk : k < ns.length := by omega
    refine ⟨_, .inl hs, .int (cell ns k), atI_nat ?_, q⟩
    unfold cell
    simp [hk]
  · rename_i h
    have hk : ns.length ≤ k := by omega
    have : cell ns (k : Int) = 0 := by unfold cell; simp [hk]
    rw [this] at q
    exact q
theorem cell_app {K H Q E} {a : Addr} {ns : List Int} (hs : SqL K H a (ns.map V.int)) {k : Int} (hk : 0 ≤ k) (q : Q (.int (cell ns k)) H) : sp_law_cell_at K [.ref a, .int k] H Q E := ⟨a, ns, k, rfl, hk, hs, q⟩
def rd_law_whole (K : PySem.W.Frag) : TS :=
  (tRet (tAndV (tCB rIsi2 (tCons (tVar 0) (tCons (tC (.ty "int")) tNil))) (tNotV (tCB rIsi2 (tCons (tVar 0) (tCons (tC (.ty "bool")) tNil))))))
def nm_law_whole : List Str := ["found"]
def sp_law_whole (K : PySem.W.Frag) : Sp := fun vs H Q _ => match vs with
  | [.int _] => Q (.bl true) H
  | [.bl _] => Q (.bl false) H
  | [.non] => Q (.bl false) H
  | [.str _] => Q (.bl false) H
  | _ => False
theorem len_law_whole {K vs H Q E} (h : sp_law_whole K vs H Q E) : vs.length = 1 := by unfold sp_law_whole at h; split at h <;> first | rfl | exact h.elim
theorem rdok_law_whole {K vs H Q E} (h : sp_law_whole K vs H Q E) : rd_law_whole K { nx := fun _ H' => Q .non H', rt := Q } (start nm_law_whole vs) H := by
  unfold sp_law_whole at h
  simp only [rd_law_whole, nm_law_whole]
  split at h
  · walk_at "rd"; exact h
  · walk_at "rd"; exact h
  · walk_at "rd"; exact h
  · walk_at "rd"; exact h
  · exact h.elim
def rb_law_bits_by_1 (K : PySem.W.Frag) : TS :=
  (tSeq (tAsg (tOp rAddA (tVar 2) (tOp (rIxA K) (tC (.str (Str.ofString "01"))) (tOp rModI (tVar 0) (tC (.int 2))))) (gName 2))
  (tAsg (tOp rDivI (tVar 0) (tC (.int 2))) (gName 0)))
def rd_law_bits_by (K : PySem.W.Frag) : TS :=
  (tSeq (tAsg (tC (.str (Str.ofString ""))) (gName 2))
  (tSeq (tFor (iRng1 (tCons (tVar 1) tNil)) (gName 3) (rb_law_bits_by_1 K))
  (tRet (tVar 2))))
def nm_law_bits_by : List Str := ["cell", "size", "text", "k"]
def sp_law_bits_by (K : PySem.W.Frag) : Sp := fun vs H Q _ => ∃ (c k : Int), vs = [.int c, .int k] ∧ 0 ≤ k ∧ k ≤ 100 ∧ Q (.str (enc (bitsBy k.toNat c))) H
theorem len_law_bits_by {K vs H Q E} (h : sp_law_bits_by K vs H Q E) : vs.length = 2 := by obtain ⟨_, _, rfl, _⟩ := h; rfl
theorem rdok_law_bits_by {K vs H Q E} (h : sp_law_bits_by K vs H Q E) : rd_law_bits_by K { nx := fun _ H' => Q .non H', rt := Q } (start nm_law_bits_by vs) H := by
  obtain ⟨c, k', rfl, hk0, hk, q⟩ := h
  obtain ⟨k, rfl⟩ := Int.eq_ofNat_of_zero_le hk0
  rw [Int.toNat_natCast] at q
  simp only [rd_law_bits_by, nm_law_bits_by]
  walk_at "rd"
  refine tFor_rng1 k (by omega) (fun i σ H' => H' = H ∧ ∃ o, σ = [some (.int (c / 2 ^ i)), some (.int k), some (.str (enc (bitsBy i c))), o]) ?_ ⟨rfl, none, by simp [bitsBy]⟩ ?_ ?_
  · intro R h; walk_at "rd"; exact h
  · rintro i σ H' hi ⟨rfl, o, rfl⟩
    simp only [rb_law_bits_by_1]
    walk_at "rd"
    refine ⟨by walk_at "sz", _, item_01 _, ?_⟩
    rw [sign_enc]
    walk_at "rd"
    refine ⟨by walk_at "sz", ?_, ?_⟩
    · rw [Int.ediv_ediv_of_nonneg (Int.le_of_lt (pow_pos' i)), ← Int.pow_succ]
    · rw [bitsBy_snoc]
  · rintro σ H' ⟨rfl, o, rfl⟩
    walk_at "rd"
    exact q
def rb_law_text_1 (K : PySem.W.Frag) : TS :=
  (tSeq (tAsg (tOp rAddA (tOp (rIxA K) (tC (.str (Str.ofString "01"))) (tOp rModI (tVar 0) (tC (.int 2)))) (tVar 2)) (gName 2))
  (tAsg (tOp rDivI (tVar 0) (tC (.int 2))) (gName 0)))
def rd_law_text (K : PySem.W.Frag) : TS :=
  (tSeq (tAsg (tC (.str (Str.ofString ""))) (gName 2))
  (tSeq (tFor (iRng1 (tCons (tVar 1) tNil)) (gName 3) (rb_law_text_1 K))
  (tRet (tVar 2))))
def nm_law_text : List Str := ["number", "size", "text", "k"]
def sp_law_text (K : PySem.W.Frag) : Sp := fun vs H Q _ => ∃ (n k : Int), vs = [.int n, .int k] ∧ 0 ≤ k ∧ k ≤ 100 ∧ Q (.str (enc (addr k.toNat n))) H
theorem len_law_text {K vs H Q E} (h : sp_law_text K vs H Q E) : vs.length = 2 := by obtain ⟨_, _, rfl, _⟩ := h; rfl
theorem rdok_law_text {K vs H Q E} (h : sp_law_text K vs H Q E) : rd_law_text K { nx := fun _ H' => Q .non H', rt := Q } (start nm_law_text vs) H := by
  obtain ⟨c, k', rfl, hk0, hk, q⟩ := h
  obtain ⟨k, rfl⟩ := Int.eq_ofNat_of_zero_le hk0
  rw [Int.toNat_natCast] at q
  simp only [rd_law_text, nm_law_text]
  walk_at "rd"
  refine tFor_rng1 k (by omega) (fun i σ H' => H' = H ∧ ∃ o, σ = [some (.int (c / 2 ^ i)), some (.int k), some (.str (enc (addr i c))), o]) ?_ ⟨rfl, none, by simp [addr]⟩ ?_ ?_
  · intro R h; walk_at "rd"; exact h
  · rintro i σ H' hi ⟨rfl, o, rfl⟩
    simp only [rb_law_text_1]
    walk_at "rd"
    refine ⟨by walk_at "sz", _, item_01 _, ?_⟩
    rw [sign_enc]
    walk_at "rd"
    refine ⟨by walk_at "sz", ?_, ?_⟩
    · rw [Int.ediv_ediv_of_nonneg (Int.le_of_lt (pow_pos' i)), ← Int.pow_succ]
    · rw [addr_front]
  · rintro σ H' ⟨rfl, o, rfl⟩
    walk_at "rd"
    exact q
def rb_law_many_1 (K : PySem.W.Frag) : TS :=
  (tAsg (tOp rAddA (tVar 1) (tVar 1)) (gName 1))
def rd_law_many (K : PySem.W.Frag) : TS :=
  (tSeq (tAsg (tC (.int 1)) (gName 1))
  (tSeq (tFor (iRng1 (tCons (tVar 0) tNil)) (gName 2) (rb_law_many_1 K))
  (tRet (tVar 1))))
def nm_law_many : List Str := ["size", "total", "k"]
def sp_law_many (K : PySem.W.Frag) : Sp := fun vs H Q _ => ∃ (k : Int), vs = [.int k] ∧ 0 ≤ k ∧ k ≤ 100 ∧ Q (.int (2 ^ k.toNat)) H
theorem len_law_many {K vs H Q E} (h : sp_law_many K vs H Q E) : vs.length = 1 := by obtain ⟨_, rfl, _⟩ := h; rfl
theorem rdok_law_many {K vs H Q E} (h : sp_law_many K vs H Q E) : rd_law_many K { nx := fun _ H' => Q .non H', rt := Q } (start nm_law_many vs) H := by
  obtain ⟨k', rfl, hk0, hk, q⟩ := h
  obtain ⟨k, rfl⟩ := Int.eq_ofNat_of_zero_le hk0
  rw [Int.toNat_natCast] at q
  simp only [rd_law_many, nm_law_many]
  walk_at "rd"
  refine tFor_rng1 k (by omega) (fun i σ H' => H' = H ∧ ∃ o, σ = [some (.int k), some (.int (2 ^ i)), o]) ?_ ⟨rfl, none, by simp⟩ ?_ ?_
  · intro R h; walk_at "rd"; exact h
  · rintro i σ H' hi ⟨rfl, o, rfl⟩
    simp only [rb_law_many_1]
    walk_at "rd"
    rw [Int.pow_succ]
    omega
  · rintro σ H' ⟨rfl, o, rfl⟩
    walk_at "rd"
    exact q
end L2

end
section
set_option Elab.async false
set_option linter.all false
set_option maxRecDepth 100000
namespace L2
open PySem PySem.Spec PyProof.Rows

/-! ### a comprehension's block -/
def cxComp (X : Cx) (x : Str) (js : List (Nat × Str)) (scope : Scope) (cl : List (Str × Addr)) (C : Addr) (s2 : Shared) (H2 : Hp) (fp : List Addr) : Cx where
  prog := X.prog
  w := X.w
  K := X.K
  mg := X.mg
  base := X.base
  A := X.A
  N := x :: js.map (·.2)
  s₀ := s2
  H₀ := H2
  env := compEnvC scope cl C X.env
  outer := X.stack
  stack := X.stack
  ex := fp
  fn := fun _ => false
  calm := X.calm
  pn := []
  xe := fun _ _ => False
/-- what the block's scope is to be like -/
structure CompSc (X : Cx) (x : Str) (js : List (Nat × Str)) (scope : Scope) (cl : List (Str × Addr)) : Prop where
  clos : closureFor scope X.env = pure cl
  nocell : ∀ y ∈ scope.names, y.2 ≠ .cell
  kind : scope.kind = .function
  names : ∀ y ∈ scope.names, y.2 = .local → scope.names.lookup y.1 = some .local
  own : scope.names.lookup x = some .local
  cells : ∀ y c, cl.lookup y = some c → X.env.cells.lookup y = some c
  has : ∀ y, ((relabel scope X.env).names.lookup y = some .cell ∨ (relabel scope X.env).names.lookup y = some .free) → ∃ c, cl.lookup y = some c
  nd : (x :: js.map (·.2)).Nodup
  js : ∀ p ∈ js, X.N[p.1]? = some p.2 ∧ X.env.kindOf p.2 = some .cell ∧ (relabel scope X.env).names.lookup p.2 = some .cell ∧ ∃ c, cl.lookup p.2 = some c
/-- a block that captures nothing -/
theorem CompSc.plain {X : Cx} {x : Str} {scope : Scope} (hl : ∀ y ∈ scope.names, y.2 = .local ∨ y.2 = .globalImplicit) (hk : scope.kind = .function) (hn : ∀ y ∈ scope.names, y.2 = .local → scope.names.lookup y.1 = some .local) (own : scope.names.lookup x = some .local) : CompSc X x [] scope [] := by
  have nf : ∀ y ∈ scope.names, y.2 ≠ .free := fun y hy e => by rcases hl y hy with h | h <;> rw [h] at e <;> cases e
  have mem : ∀ (l : List (Str × NameKind)) (y : Str) (k : NameKind), l.lookup y = some k → ∃ z ∈ l, z.2 = k := by
    intro l
    induction l with
    | nil => intro y k h; simp at h
    | cons z r ih =>
      intro y k h
      rw [List.lookup_cons] at h
      cases e : y == z.1 with
      | true => rw [e] at h; exact ⟨z, List.mem_cons_self, Option.some.inj h⟩
      | false =>
        rw [e] at h
        obtain ⟨q, hq, e'⟩ := ih y k h
        exact ⟨q, List.mem_cons_of_mem _ hq, e'⟩
  have er : (relabel scope X.env).names = scope.names := by
    unfold relabel
    exact map_eq_self fun y hy => by
      have : (y.2 == NameKind.free) = false := by simpa using nf y hy
      simp [this]
  refine ⟨closureFor_none nf, fun y hy e => ?_, hk, hn, own, fun y c h => by simp at h, fun y h => ?_, by simp, fun p hp => by simp at hp⟩
  · rcases hl y hy with h | h <;> rw [h] at e <;> cases e
  · rw [er] at h
    rcases h with h | h
    · obtain ⟨z, hz, e⟩ := mem _ _ _ h
      rcases hl z hz with h | h <;> rw [h] at e <;> cases e
    · obtain ⟨z, hz, e⟩ := mem _ _ _ h
      exact absurd e (nf z hz)
/-- the values of the captured names -/
def capt (js : List (Nat × Str)) (σ : St) : St := js.map fun p => (σ[p.1]?).getD none
section
variable {X : Cx} {pins : List (Addr × Obj)} {σ : St} {H2 : Hp} {s2 : Shared} {x : Str} {js : List (Nat × Str)} {scope : Scope} {cl : List (Str × Addr)} {fp : List Addr} {J : It} {it : Addr} {tn : Nat → Heap → Prop} {tg : Expr}
theorem comp_ok {C : Addr} (I : Inv X pins σ H2 s2) (S : CompSc X x js scope cl) (T : Turn X.prog X.w X.K tg J fp it tn) (h0 : tn 0 s2.heap) (hf : ∀ b ∈ fp, FpOk X pins H2 b) (hC : s2.heap.objs.size ≤ C) : (cxComp X x js scope cl C s2 H2 fp).Ok where
  mod := I.ok.mod
  kind := S.kind
  glob := I.ok.glob
  blt := I.ok.blt
  above := hC
  inj := fun y z c h1 h2 => I.ok.inj y z c (S.cells y c h1) (S.cells z c h2)
  has := fun y hy => S.has y hy
  cab := fun y c h _ => absurd h (by simp [cxComp])
  hd := I.ok.hd
  frames := I.ok.frames
  stk := .inl rfl
  exf := fun b hb => ⟨fun e => by
    obtain ⟨o, ho, _⟩ := T.obj 0 _ h0 b hb
    have h2 : b = C := e
    exact absurd (Heap.lt_size ho) (Nat.not_lt.mpr (h2 ▸ hC)), fun y c h => (hf b hb).2.2.2.2.1 y c (S.cells y c h)⟩
  bs := I.bs
  bsz := Nat.le_trans I.ok.bsz I.sz
  noex := fun b o e hb => by
    rcases (hf b hb).2.2.2.1 with h | h
    · exact I.ok.noex b o e h
    · exact absurd (Heap.lt_size (I.ok.bs b o e).1) (Nat.not_lt.mpr h)
  exfs := fun b hb hs => (List.mem_cons.mp (I.stkSub b hs)).elim (hf b hb).2.1 (hf b hb).2.2.1
  funs := I.stack
  frf := I.stkFree
/-- at the block's entry -/
theorem comp_start {h1 : Heap} {tk : Nat} (I : Inv X pins σ H2 s2) (S : CompSc X x js scope cl) (T : Turn X.prog X.w X.K tg J fp it tn) (h0 : tn 0 s2.heap) (hf : ∀ b ∈ fp, FpOk X pins H2 b)
    (hl : h1.get? s2.heap.objs.size = some { cls := .type "list", data := .seq #[] 0 }) (hns : h1.Ns (s2.heap.objs.size + 1) (fun _ => none)) (hk : ∀ b o, s2.heap.get? b = some o → h1.get? b = some o) :
    Inv (cxComp X x js scope cl (s2.heap.objs.size + 1) s2 H2 fp) [] (none :: capt js σ) (upd H2 s2.heap.objs.size (.lst [])) { s2 with heap := h1, toks := tk } := by
  have hfr : ∀ a, s2.heap.objs.size ≤ a → H2 a = none := fun a ha => I.hok.fresh ha
  refine ⟨comp_ok I S T h0 hf (Nat.le_succ _), rfl, I.bare, Un.laid hk (Nat.le_refl _) (hfr _ (Nat.le_refl _)), ⟨_, hns, fun i y v e1 e2 e3 => ?_⟩, fun y c h => ?_, ?_, fun y c h => ?_, fun p hp => absurd hp (by simp [cxComp]), ?_, ?_⟩
  · -- a captured name
    cases i with
    | zero => simp at e2
    | succ i =>
      have e1 : (js.map (·.2))[i]? = some y := by simpa [cxComp] using e1
      have e2 : (capt js σ)[i]? = some (some v) := by simpa using e2
      rw [List.getElem?_map] at e1
      unfold capt at e2
      rw [List.getElem?_map] at e2
      cases ej : js[i]? with
      | none => rw [ej] at e1; cases e1
      | some p =>
        rw [ej] at e1 e2
        have e1 : p.2 = y := Option.some.inj e1
        have e2 : (σ[p.1]?).getD none = some v := Option.some.inj e2
        obtain ⟨q1, q2, q3, c, q4⟩ := S.js p (List.mem_of_getElem? ej)
        have e4 : σ[p.1]? = some (some v) := by
          cases es : σ[p.1]? with
          | none => rw [es] at e2; cases e2
          | some o => rw [es] at e2; exact congrArg some e2
        obtain ⟨m, _, hloc⟩ := I.loc
        subst e1
        obtain ⟨u, ru, lk⟩ := hloc p.1 p.2 v q1 e4 (.inr (.inl q2))
        rcases lk with ⟨k1, _⟩ | ⟨_, c', k2, k3⟩
        · rw [q2] at k1; cases k1
        · have : c' = c := by rw [S.cells _ _ q4] at k2; exact (Option.some.inj k2).symm
          subst this
          obtain ⟨o, ho, hd⟩ := k3
          exact ⟨u, ru, .inr ⟨.inl q3, c', q4, o, hk _ o ho, hd⟩⟩
  · obtain ⟨v, o, ho, hd⟩ := I.cell y c (S.cells y c h)
    exact ⟨v, o, hk _ o ho, hd⟩
  · show upd H2 s2.heap.objs.size (.lst []) (s2.heap.objs.size + 1) = none
    rw [upd_ne (Nat.succ_ne_self _)]; exact hfr _ (Nat.le_succ _)
  · obtain ⟨v, o, ho, hd⟩ := I.cell y c (S.cells y c h)
    rw [upd_ne (Nat.ne_of_lt (Heap.lt_size ho))]
    exact I.freeC y c (S.cells y c h)
  · exact I.hok.laid hk (Nat.le_refl _) ⟨Nat.zero_le _, [], 0, .nil, hl⟩
  · simp [cxComp, capt]
end
/-- the tests of a comprehension (none or one) -/
def tAlways : TT := fun _ H Q => Q true H
inductive PIfs (Y : Cx) : List Expr → TT → Prop
  | nil : PIfs Y [] tAlways
  | one {c : Expr} {t : TT} : PT Y c t → PIfs Y [c] t
/-- the loop of a comprehension with one clause, by an invariant with a measure -/
theorem comp_loop {prog : Program} {w : World} {A : Around} {R : Result → Shared → Prop} {s : Shared} {elt tg iter : Expr} {ifs : List Expr} {scope : Scope} {pos : Pos} {it acc : Value} {cenv : Env} (Z : Nat → Shared → Prop)
    (turn : ∀ k s1, Z k s1 → wpAny (model prog w) A (pyNext it) (fun r s2 => match r with
      | none => R (.ok .next) s2
      | some v => wpAny (model prog w) A (letOwnedTupleGo tg it v) (fun _ s3 => wpAny (model prog w) A (assign tg cenv v) (fun _ s4 =>
          wpAny (model prog w) A (forIn ifs true fun c r => if r = true then do let ok ← isTrue c cenv (eval c cenv); pure (ForInStep.yield ok) else pure (ForInStep.yield r)) (fun ok s5 =>
            if ok = true then wpAny (model prog w) A (eval elt cenv) (fun y s6 =>
              wpAny (model prog w) A (call (.builtin "list.append") [acc, y]) (fun _ s7 => ∃ j, j < k ∧ Z j s7) (notedBy (model prog w) A cenv fun e s' => R (.error e) s') s6) (notedBy (model prog w) A cenv fun e s' => R (.error e) s') s5
            else ∃ j, j < k ∧ Z j s5) (notedBy (model prog w) A cenv fun e s' => R (.error e) s') s4) (notedBy (model prog w) A cenv fun e s' => R (.error e) s') s3) (notedBy (model prog w) A cenv fun e s' => R (.error e) s') s2)
        (notedBy (model prog w) A cenv fun e s' => R (.error e) s') s1) (k0 : Nat) (z0 : Z k0 s) :
    codeAny (model prog w) A (.compLoop (.ListComp elt [⟨tg, iter, ifs, 0⟩] scope pos) 0 it acc cenv) R s := by
  refine codeAny_loop (by rfl) Z (fun k s1 z1 => ?_) k0 z0
  show wpAny _ A ((compTurn (.ListComp elt [⟨tg, iter, ifs, 0⟩] scope pos) 0 it acc cenv).onRaise (fun y => do noteFrame y cenv; theTreesLotGoes y)) _ _ s1
  refine wpAny_noted ?_
  rw [compTurn_list]
  refine wpAny_bind (wpAny_standAt (wpAny_bind (thn (turn k s1 z1) fun r s2 h2 => ?_)))
  cases r with
  | none => exact wpAny_pure h2
  | some v =>
    refine wpAny_bind (thn h2 fun _ s3 h3 => wpAny_bind (thn h3 fun _ s4 h4 => wpAny_bind (thn h4 fun ok s5 h5 => ?_)))
    cases ok with
    | false => exact wpAny_pure ⟨rfl, h5⟩
    | true => exact wpAny_bind (wpAny_bind (thn h5 fun y s6 h6 => wpAny_bind (thn h6 fun _ s7 h7 => wpAny_pure (wpAny_pure ⟨rfl, h7⟩))))
/-- a list by a comprehension -/
def tComp (js : List (Nat × Str)) (wi : TI) (ti : TT) (te : TE) : TE := fun σ H Q => wi σ H fun J H1 => ∀ l, H1 l = none → ∃ W : Nat → Nat → List V → Hp → Prop, (∃ m, W 0 m [] (upd H1 l (.lst []))) ∧
  ∀ i m ys H, W i m ys H → (J.stop i H ∧ Q (.ref l) H) ∨ (J.go i H ∧ ∀ v H', J.yld i H v H' → ti (some v :: capt js σ) H' fun b H2 =>
    if b = true then te (some v :: capt js σ) H2 fun y H3 => ∃ m', m' < m ∧ H3 l = some (.lst ys) ∧ ys.length < sizeLine ∧ W (i + 1) m' (ys ++ [y]) (upd H3 l (.lst (ys ++ [y]))) else ∃ m', m' < m ∧ W (i + 1) m' ys H2)
section
variable {X : Cx} {pins : List (Addr × Obj)} {σ : St} {H2 : Hp} {s2 : Shared} {x : Str} {px : Pos} {js : List (Nat × Str)} {scope : Scope} {cl : List (Str × Addr)} {fp : List Addr} {J : It} {it : Addr} {tn : Nat → Heap → Prop} {elt iter : Expr} {ifs : List Expr} {pos : Pos}
theorem comp_block {ti : TT} {te : TE} {Q : VK} {E : Value → Shared → Prop} {RR : Value → Addr → Result → Shared → Prop} (I : Inv X pins σ H2 s2) (hc : X.calm = true) (S : CompSc X x js scope cl) (T : Turn X.prog X.w X.K (.Name x px) J fp it tn) (h0 : tn 0 s2.heap) (hf : ∀ b ∈ fp, FpOk X pins H2 b)
    (he : ∀ Y, Y = cxComp X x js scope cl (s2.heap.objs.size + 1) s2 H2 fp → PE Y elt te) (hi : ∀ Y, Y = cxComp X x js scope cl (s2.heap.objs.size + 1) s2 H2 fp → PIfs Y ifs ti)
    (W : Nat → Nat → List V → Hp → Prop) (w0 : ∃ m, W 0 m [] (upd H2 s2.heap.objs.size (.lst [])))
    (turn : ∀ i m ys H, W i m ys H → (J.stop i H ∧ Q (.ref s2.heap.objs.size) H) ∨ (J.go i H ∧ ∀ v H', J.yld i H v H' → ti (some v :: capt js σ) H' fun b H2 =>
      if b = true then te (some v :: capt js σ) H2 fun y H3 => ∃ m', m' < m ∧ H3 s2.heap.objs.size = some (.lst ys) ∧ ys.length < sizeLine ∧ W (i + 1) m' (ys ++ [y]) (upd H3 s2.heap.objs.size (.lst (ys ++ [y]))) else ∃ m', m' < m ∧ W (i + 1) m' ys H2))
    (hRR : ∀ C H' s', Inv X pins σ H' s' → FpOk X pins H' C → (∃ m, s'.heap.Ns C m) → Q (.ref s2.heap.objs.size) H' → RR (.ref s2.heap.objs.size) C (.ok .next) s') :
    wpAny (model X.prog X.w) X.A (newList []) (fun acc s₃ => wpAny (model X.prog X.w) X.A (newFunctionEnv scope X.env.globals cl [] X.env.qual none .none (some X.env)) (fun cenv s₄ =>
      codeAny (model X.prog X.w) X.A (.compStart (.ListComp elt [⟨.Name x px, iter, ifs, 0⟩] scope pos) 0 (.ref it) acc { cenv with scope := relabel scope X.env }) (RR acc cenv.locals) s₄) E s₃) E s2 := by
  refine wpAny_newObj_type (wpAny_newFunctionEnv S.nocell (by intro y hy; simp at hy) (fun h1 hns hsb => ?_) S.kind)
  have hsz : (s2.heap.push { cls := .type "list", data := .seq ([] : List Value).toArray }).objs.size = s2.heap.objs.size + 1 := Heap.size_push ..
  dsimp only at hns hsb ⊢
  rw [hsz] at hns hsb
  have keep : ∀ b o, s2.heap.get? b = some o → h1.get? b = some o := fun b o e => by
    exact hsb.extBut b o (Nat.ne_of_lt (Nat.lt_succ_of_lt (Heap.lt_size e))) (Heap.get?_push_of_some _ (Heap.get?_push_of_some _ e))
  have hl : h1.get? s2.heap.objs.size = some { cls := .type "list", data := .seq #[] 0 } :=
    hsb.extBut _ _ (Nat.ne_of_lt (Nat.lt_succ_self _)) (Heap.get?_push_of_some _ (Heap.get?_push_size _ rfl))
  have IY := comp_start (tk := s2.toks + ([] : List (Str × Value)).length) I S T h0 hf hl hns keep
  have hsz2 : (s2.heap.push { cls := .type "list", data := .seq ([] : List Value).toArray }).objs.size = s2.heap.objs.size + 1 := hsz
  generalize hY : cxComp X x js scope cl (s2.heap.objs.size + 1) s2 H2 fp = Y at IY
  have PEe := he Y hY.symm
  have PIi := hi Y hY.symm
  have fpY : ∀ {H' : Hp}, (∀ b ∈ fp, H' b = none) → ∀ b ∈ fp, FpOk Y [] H' b := fun hn b hb => by
    subst hY
    exact ⟨hn b hb, (IY.ok.exf b hb).1, IY.ok.exfs b hb, .inl hb, fun y c h => (IY.ok.exf b hb).2 y c h, fun p hp => absurd hp (by simp [cxComp])⟩
  have eP : Y.prog = X.prog := by rw [← hY]; rfl
  have eW : Y.w = X.w := by rw [← hY]; rfl
  have eK : Y.K = X.K := by rw [← hY]; rfl
  have eA : Y.A = X.A := by rw [← hY]; rfl
  have eC : Y.calm = true := by rw [← hY]; exact hc
  have eE : Y.env = compEnvC scope cl (s2.heap.objs.size + 1) X.env := by rw [← hY]; rfl
  have eX : Y.xe = fun _ _ => False := by rw [← hY]; rfl
  obtain ⟨m0, w0⟩ := w0
  -- the end of the block
  have fin : ∀ {σY : St} {H' : Hp} {s' : Shared}, Inv Y [] σY H' s' → Q (.ref s2.heap.objs.size) H' → RR (.ref s2.heap.objs.size) (s2.heap.objs.size + 1) (.ok .next) s' := fun {σY H' s'} J' q => by
    have hu : Un (frs X.stack) fp H2 H' s2.heap s'.heap := by have := J'.base; rw [← hY] at this; exact this
    have ho : s'.os = s2.os := by have := J'.os; rw [← hY] at this; exact this
    have hk : HOk X.prog X.w H' s'.heap := by have := J'.hok; rw [eP, eW] at this; exact this
    have I' : Inv X pins σ H' s' := I.call' ho hu hk J'.bare fun b hb => ⟨(hf b hb).2.2.2.1, (hf b hb).2.1, (hf b hb).2.2.2.2.1, (hf b hb).2.2.2.2.2⟩
    have hfree : H' (s2.heap.objs.size + 1) = none := by have := J'.free; rw [eE] at this; exact this
    have hns' : ∃ m, s'.heap.Ns (s2.heap.objs.size + 1) m := by obtain ⟨m, hm, _⟩ := J'.loc; rw [eE] at hm; exact ⟨m, hm⟩
    exact hRR _ H' s' I' (I.fpOk (Nat.le_succ _) hfree) hns' q
  have loop : codeAny (model X.prog X.w) X.A (.compLoop (.ListComp elt [⟨.Name x px, iter, ifs, 0⟩] scope pos) 0 (.ref it) (.ref s2.heap.objs.size) (compEnvC scope cl (s2.heap.objs.size + 1) X.env)) (RR (.ref s2.heap.objs.size) (s2.heap.objs.size + 1)) { s2 with heap := h1, toks := s2.toks + ([] : List (Str × Value)).length } := by
    refine comp_loop (fun n s => ∃ i ys o H', Inv Y [] (o :: capt js σ) H' s ∧ tn i s.heap ∧ (∀ b ∈ fp, H' b = none) ∧ W i n ys H') ?_ m0 ⟨0, [], none, _, IY, T.keep 0 _ _ h0 fun b _ o e => keep b o e, fun b hb => ?_, w0⟩
    · rintro n s3 ⟨i, ys, o3, H3, I3, st3, fr3, w3⟩
      rcases turn i n ys H3 w3 with ⟨stop, q⟩ | ⟨go, step⟩
      · have hd := T.done Y eP eW eK eC i [] s3 (o3 :: capt js σ) H3 (notedBy (model X.prog X.w) X.A (compEnvC scope cl (s2.heap.objs.size + 1) X.env) fun e s' => RR (.ref s2.heap.objs.size) (s2.heap.objs.size + 1) (.error e) s') I3 (fpY fr3) st3 stop
        rw [eA] at hd
        refine thn hd fun r s4 ⟨hr, I4⟩ => ?_
        subst hr
        exact fin I4 q
      · have hd := T.item Y eP eW eK eC i [] s3 (o3 :: capt js σ) H3 (notedBy (model X.prog X.w) X.A (compEnvC scope cl (s2.heap.objs.size + 1) X.env) fun e s' => RR (.ref s2.heap.objs.size) (s2.heap.objs.size + 1) (.error e) s') I3 (fpY fr3) st3 go
        rw [eA] at hd
        refine thn hd fun r s4 ⟨u, hr, h4⟩ => ?_
        subst hr
        refine thn h4 fun _ s5 ⟨v, H5, I5, r5, y5, st5, fr5⟩ => ?_
        have I5' := I5.pinned (fpY fr5) (T.obj _ _ st5)
        have gY : PG Y (.Name x px) (gName 0) := by
          refine pg_name (by rw [← hY]; exact S.nd) (by rw [← hY]; rfl) ?_ ?_
          · rw [eE]; exact .inl (lookup_relabel_local S.own)
          · rw [eE]; exact .inr (lookup_relabel_local S.own)
        have ga := gY _ s5 (o3 :: capt js σ) H5 v u (fun σ' H' => σ' = some v :: capt js σ ∧ H' = H5) I5' r5 ⟨rfl, rfl⟩
        rw [eP, eW, eA, eE, eX] at ga
        refine wpAny_mono ga (fun _ s6 ⟨σ6, H6, I6, e6, e6'⟩ => ?_) fun _ _ z => z.elim
        subst e6 e6'
        have back : ∀ {s7 : Shared} {H7 : Hp} {j : Nat} {zs : List V}, Inv Y (([] : List (Addr × Obj)) ++ pinsAt fp s5.heap) (some v :: capt js σ) H7 s7 → W (i + 1) j zs H7 → j < n → ∃ m, m < n ∧ ∃ i ys o H', Inv Y [] (o :: capt js σ) H' s7 ∧ tn i s7.heap ∧ (∀ b ∈ fp, H' b = none) ∧ W i m ys H' := fun {s7 H7 j zs} I7 w7 hj =>
          ⟨j, hj, i + 1, zs, some v, H7, I7.unpinned, T.keep _ _ _ st5 fun b hb o e => (I7.pin (b, o) (List.mem_append_right _ (List.mem_append_right _ (mem_pinsAt hb e)))).1, fun b hb => by
            obtain ⟨o, e, _⟩ := T.obj _ _ st5 b hb
            exact (I7.pin (b, o) (List.mem_append_right _ (List.mem_append_right _ (mem_pinsAt hb e)))).2.1, w7⟩
        have hq := step v _ y5
        have tests : wpAny (model X.prog X.w) X.A (forIn ifs true fun c r => if r = true then do let ok ← isTrue c (compEnvC scope cl (s2.heap.objs.size + 1) X.env) (eval c (compEnvC scope cl (s2.heap.objs.size + 1) X.env)); pure (ForInStep.yield ok) else pure (ForInStep.yield r))
            (TP Y (([] : List (Addr × Obj)) ++ pinsAt fp s5.heap) (some v :: capt js σ) (fun b H2 => if b = true then te (some v :: capt js σ) H2 fun y H3 => ∃ m', m' < n ∧ H3 s2.heap.objs.size = some (.lst ys) ∧ ys.length < sizeLine ∧ W (i + 1) m' (ys ++ [y]) (upd H3 s2.heap.objs.size (.lst (ys ++ [y]))) else ∃ m', m' < n ∧ W (i + 1) m' ys H2))
            (notedBy (model X.prog X.w) X.A (compEnvC scope cl (s2.heap.objs.size + 1) X.env) fun e s' => RR (.ref s2.heap.objs.size) (s2.heap.objs.size + 1) (.error e) s') s6 := by
          cases PIi with
          | nil => exact wpAny_tests_nil ⟨_, I6, hq⟩
          | one ht =>
            have := ht _ s6 (some v :: capt js σ) _ _ I6 hq
            rw [eP, eW, eA, eE, eX] at this
            exact wpAny_tests_one (wpAny_mono this (fun _ _ z => z) fun _ _ z => z.elim)
        refine thn tests fun ok s7 ⟨H7, I7, q7⟩ => ?_
        cases ok with
        | false =>
          rw [if_neg (by decide)] at q7 ⊢
          obtain ⟨m', hm, w7⟩ := q7
          exact back I7 w7 hm
        | true =>
          rw [if_pos rfl] at q7 ⊢
          have hE := PEe _ s7 (some v :: capt js σ) H7 _ I7 q7
          rw [eP, eW, eA, eE, eX] at hE
          refine wpAny_mono hE (fun y s8 ⟨yv, H8, I8, r8, m', hm, hl8, hz8, w8⟩ => ?_) fun _ _ z => z.elim
          have ap := mt_append (X := Y) _ s8 _ H8 (.ref s2.heap.objs.size) [yv] (.ref s2.heap.objs.size) [y] (fun _ H' => H' = upd H8 s2.heap.objs.size (.lst (ys ++ [yv]))) I8 rfl (.cons r8 .nil) ⟨_, ys, yv, rfl, rfl, hl8, hz8, rfl⟩
          rw [eP, eW, eA, eX] at ap
          refine wpAny_mono ap (fun _ s9 ⟨_, H9, I9, _, e9⟩ => ?_) fun _ _ z => z.elim
          subst e9
          exact back I9 w8 hm
    · obtain ⟨o, ho, _⟩ := T.obj 0 _ h0 b hb
      rw [upd_ne (Nat.ne_of_lt (Heap.lt_size ho))]
      exact (hf b hb).1
  refine codeAny_compStart_list ?_ (T.self X.A 0 _ _ _ (T.keep 0 _ _ h0 fun b _ o e => keep b o e) ?_)
  · rw [hsz]; exact loop
  · rw [hsz]; exact loop

theorem pe_comp {wi : TI} {ti : TT} {te : TE} (S : CompSc X x js scope cl) (hi : PI X (.Name x px) iter wi) (he : ∀ C s2 H2 fp, PE (cxComp X x js scope cl C s2 H2 fp) elt te) (ht : ∀ C s2 H2 fp, PIfs (cxComp X x js scope cl C s2 H2 fp) ifs ti) (hc : X.calm = true := by rfl)
    (hs : ∀ v, foldedSetIterable iter X.env v = pure v := by intro _; rfl) : PE X (.ListComp elt [⟨.Name x px, iter, ifs, 0⟩] scope pos) (tComp js wi ti te) := by
  intro pins s σ H Q I h
  rw [eval_ListComp]
  refine wpAny_comprehension_free (use := none) rfl hs S.clos S.kind S.names (thn (hi pins s σ H _ I h) fun v s1 h1 => thn h1 fun itv s2 h2 => ?_)
  obtain ⟨it, fp, tn, J, H2, rfl, I2, T, st, hf, q⟩ := h2
  obtain ⟨W, w0, turn⟩ := q s2.heap.objs.size (I2.hok.fresh (Nat.le_refl _))
  refine comp_block (RR := fun acc C => compPost (model X.prog X.w) X.A X.xe none (EP X pins σ Q) acc C) I2 hc S T st hf (by rintro _ rfl; exact he _ _ _ _) (by rintro _ rfl; exact ht _ _ _ _) W w0 turn ?_
  rintro C H' s' I' fC ⟨m, hn⟩ q'
  exact ⟨m, hn, fun h' sb => ⟨.ref s2.heap.objs.size, H', I'.turned (t' := s'.toks) (fun b o hb e => sb.extBut b o hb e) fC.1 fC.2.1 fC.2.2.2.1 fC.2.2.2.2.1 fC.2.2.2.2.2, rfl, q'⟩⟩
/-- y = [..] -/
theorem ps_setComp {wi : TI} {ti : TT} {te : TE} {i : Nat} {y : Str} {py spos : Pos} (hN : X.N.Nodup) (hy : X.N[i]? = some y) (hyl : Loc X.env.scope y) (S : CompSc X x js scope cl) (hi : PI X (.Name x px) iter wi) (he : ∀ C s2 H2 fp, PE (cxComp X x js scope cl C s2 H2 fp) elt te) (ht : ∀ C s2 H2 fp, PIfs (cxComp X x js scope cl C s2 H2 fp) ifs ti) (hc : X.calm = true := by rfl)
    (hs : ∀ v, foldedSetIterable iter X.env v = pure v := by intro _; rfl) (hsw : swapsWith (.ListComp elt [⟨.Name x px, iter, ifs, 0⟩] scope pos) (some (.Name y py)) spos.line X.env = pure true := by rfl)
    (hf : X.fn y = true ∨ X.env.scope.names.lookup y = some .local := by first | exact .inl rfl | exact .inr rfl | assumption) :
    PS X (.Assign [.Name y py] (.ListComp elt [⟨.Name x px, iter, ifs, 0⟩] scope pos) spos) (tAsg (tComp js wi ti te) (gName i)) := by
  intro pins s σ H D I h
  rw [exec_Assign_Name_used _ _ _ _ hsw]
  refine wpAny_bind (wpAny_standAt (wpAny_bind ?_))
  show wpAny _ _ (do let _ ← comprehension (.ListComp elt [⟨.Name x px, iter, ifs, 0⟩] scope pos) scope X.env (firstIterPos [⟨.Name x px, iter, ifs, 0⟩] pos) (newList []) false (eval iter X.env) (some (assign (.Name y py) X.env))) _ _ s
  refine wpAny_bind (thn (wpAny_comprehension_free (use := some (assign (.Name y py) X.env)) (Q := fun _ s' => SP X pins D .next s') rfl hs S.clos S.kind S.names (thn (hi pins s σ H _ I h) fun v s1 h1 => thn h1 fun itv s2 h2 => ?_)) fun _ s' z => wpAny_pure (wpAny_pure z))
  obtain ⟨it, fp, tn, J, H2, rfl, I2, T, st, hfp, q⟩ := h2
  obtain ⟨W, w0, turn⟩ := q s2.heap.objs.size (I2.hok.fresh (Nat.le_refl _))
  refine comp_block (Q := fun v H1 => gName i v σ H1 D.nx) (RR := fun acc C => compPost (model X.prog X.w) X.A X.xe (some (assign (.Name y py) X.env)) (fun _ s' => SP X pins D .next s') acc C) I2 hc S T st hfp (by rintro _ rfl; exact he _ _ _ _) (by rintro _ rfl; exact ht _ _ _ _) W w0 turn ?_
  rintro C H' s' I' fC ⟨m, hn⟩ q'
  obtain ⟨oC, es, ep, hoC, hdC, hr⟩ := id hn
  have Ip := I'.pinned (fp := [C]) (fun b hb => by have e : b = C := by simpa using hb
                                                   subst e; exact fC) (fun b hb => by have e : b = C := by simpa using hb
                                                                                      subst e; exact ⟨oC, hoC, fun v z => by rw [hdC] at z; cases z⟩)
  have gY : PG X (.Name y py) (gName i) := pg_name hN hy hyl hf
  refine thn (gY _ s' σ H' (.ref s2.heap.objs.size) (.ref s2.heap.objs.size) (fun σ' H1 => D.nx σ' H1 ∧ H1 = H') Ip rfl ⟨q', rfl⟩) fun _ s7 ⟨σ7, H7, I7, q7, e7⟩ => ?_
  subst e7
  have pC := I7.pin (C, oC) (List.mem_append_right _ (List.mem_append_right _ (mem_pinsAt (by simp) hoC)))
  refine ⟨m, ⟨oC, es, ep, pC.1, hdC, hr⟩, fun h' sb => ⟨σ7, H7, ?_, q7⟩⟩
  exact I7.unpinned.turned (t' := s7.toks) (fun b o hb e => sb.extBut b o hb e) fC.1 fC.2.1 fC.2.2.2.1 fC.2.2.2.2.1 fC.2.2.2.2.2
end
/-! ### a comprehension without a test whose element is read off the heap; with a test -/
section
variable {K : PySem.W.Frag} {σ : St} {H : Hp} {Q : VK} {te : TE} {ti : TT} {tl : TE} {js : List (Nat × Str)}
/-- over a list: p the test, f the element, both by values, nothing is changed -/
theorem tComp_lst (a : Addr) (xs : List V) (p : V → Bool) (f : V → V) (ht : ∀ R : V → Hp → Prop, R (.ref a) H → tl σ H R) (hl : SqL K H a xs) (hz : xs.length ≤ sizeLine)
    (hp : ∀ v ∈ xs, ∀ H' R, Same H H' → R (p v) H' → ti (some v :: capt js σ) H' R) (hf : ∀ v ∈ xs, p v = true → ∀ H' R, Same H H' → R (f v) H' → te (some v :: capt js σ) H' R)
    (hQ : ∀ l, H l = none → Q (.ref l) (upd H l (.lst ((xs.filter p).map f)))) : tComp js (iList K tl) ti te σ H Q := by
  refine ht _ ⟨a, rfl, ⟨xs, hl⟩, fun l hl0 => ?_⟩
  have same : ∀ ys, Same H (upd H l (.lst ys)) := fun ys b o e => by rw [upd_ne (ne_of_none e hl0)]; exact e
  refine ⟨fun i m ys H' => m = xs.length - i ∧ i ≤ xs.length ∧ ys = ((xs.take i).filter p).map f ∧ H' = upd H l (.lst ys), ⟨xs.length, by simp⟩, ?_⟩
  rintro i m ys H' ⟨rfl, hi, rfl, rfl⟩
  have q := (same (((xs.take i).filter p).map f)).seq hl
  by_cases hlt : i < xs.length
  · refine .inr ⟨⟨xs, xs[i], q, by simp [hlt]⟩, fun v H'' y => ?_⟩
    obtain ⟨e, y⟩ := y
    subst e
    have hv := y xs q
    have hvm : v ∈ xs := List.mem_of_getElem? hv
    refine hp v hvm _ _ (same _) ?_
    have tk : xs.take (i + 1) = xs.take i ++ [v] := by rw [List.take_add_one, hv]; rfl
    cases hpv : p v with
    | true =>
      rw [if_pos rfl]
      refine hf v hvm hpv _ _ (same _) ⟨xs.length - (i + 1), by omega, upd_same, ?_, rfl, hlt, ?_, ?_⟩
      · have h1 := List.length_filter_le p (xs.take i)
        have h2 : (xs.take i).length ≤ i := by rw [List.length_take]; omega
        rw [List.length_map]
        omega
      · rw [tk, List.filter_append, List.map_append]
        simp [hpv]
      · rw [upd_upd]
    | false =>
      rw [if_neg (by decide)]
      refine ⟨xs.length - (i + 1), by omega, rfl, hlt, ?_, rfl⟩
      rw [tk, List.filter_append, List.map_append]
      simp [hpv]
  · have e : i = xs.length := by omega
    subst e
    refine .inl ⟨⟨xs, q, Nat.le_refl _⟩, ?_⟩
    rw [List.take_length]
    exact hQ l hl0
end
end L2

end
section
set_option Elab.async false
set_option linter.all false
set_option maxRecDepth 100000
namespace L2
open PySem PySem.Spec PyProof.Rows
/-! ### more of texts of 0 and 1 -/
theorem cut_to (a : List Bool) (k : Nat) : cutS (enc a) none (some (k : Int)) = enc (a.take k) := by
  unfold cutS
  rw [enc_cps, enc_len, HT.sIx_nat, HT.sIx_none, List.drop_zero, Nat.sub_zero, ← List.map_take]
  unfold enc
  congr 3
  rw [List.take_eq_take_iff]
  omega
theorem pre_take (h a : List Bool) : decide (a.take h.length = h) = h.isPrefixOf a := by
  rw [Bool.eq_iff_iff, decide_eq_true_iff, List.isPrefixOf_iff_prefix, List.prefix_iff_eq_take]
  exact eq_comm
/-! ### rows and tables -/
abbrev Row := List Bool × Option Int
def wayV : Option Int → V
  | none => .non
  | some i => .int i
def RowIs (H : Hp) (v : V) (r : Row) : Prop := ∃ p, v = .ref p ∧ H p = some (.tup [.str (enc r.1), wayV r.2])
abbrev RowsAre (H : Hp) : List V → List Row → Prop := Paired (RowIs H)
/-- the tuples stay -/
def Tp (H H' : Hp) : Prop := ∀ b xs, H b = some (.tup xs) → H' b = some (.tup xs)
theorem Tp.refl (H : Hp) : Tp H H := fun _ _ h => h
theorem Tp.trans {H H1 H2 : Hp} (a : Tp H H1) (b : Tp H1 H2) : Tp H H2 := fun c o h => b c o (a c o h)
theorem Same.tp {H H' : Hp} (h : Same H H') : Tp H H' := fun b xs e => h b _ e
theorem Tp.upd {H : Hp} {l : Addr} {o : HO} (h : ∀ xs, H l ≠ some (.tup xs)) : Tp H (upd H l o) := fun b xs e => by
  by_cases hb : b = l
  · subst hb; exact absurd e (h xs)
  · rw [upd_ne hb]; exact e
theorem Same.upd {H : Hp} {l : Addr} {o : HO} (h : H l = none) : Same H (upd H l o) := fun b u e => by rw [upd_ne (ne_of_none e h)]; exact e
theorem RowIs.mono {H H' : Hp} {v : V} {r : Row} (h : RowIs H v r) (t : Tp H H') : RowIs H' v r := let ⟨p, e, q⟩ := h; ⟨p, e, t _ _ q⟩
theorem Paired.mono {α β : Type} {F G : α → β → Prop} : ∀ {l : List α} {m : List β}, Paired F l m → (∀ a b, F a b → G a b) → Paired G l m
  | _, _, .nil, _ => .nil
  | _, _, .cons h t, f => .cons (f _ _ h) (Paired.mono t f)
theorem RowsAre.mono {H H' : Hp} {vs : List V} {rs : List Row} (h : RowsAre H vs rs) (t : Tp H H') : RowsAre H' vs rs := Paired.mono h fun _ _ q => q.mono t
theorem Paired.split {α β : Type} {F : α → β → Prop} : ∀ {l1 l2 : List α} {m : List β}, Paired F (l1 ++ l2) m → ∃ m1 m2, m = m1 ++ m2 ∧ Paired F l1 m1 ∧ Paired F l2 m2
  | [], l2, m, h => ⟨[], m, rfl, .nil, h⟩
  | a :: l1, l2, _, .cons h t => let ⟨m1, m2, e, h1, h2⟩ := Paired.split t; ⟨_ :: m1, m2, by rw [e]; rfl, .cons h h1, h2⟩
theorem Paired.split1 {α β : Type} {F : α → β → Prop} {l1 : List α} {a : α} {l2 : List α} {m : List β} (h : Paired F (l1 ++ a :: l2) m) : ∃ m1 b m2, m = m1 ++ b :: m2 ∧ Paired F l1 m1 ∧ F a b ∧ Paired F l2 m2 := by
  obtain ⟨m1, m2, e, h1, h2⟩ := Paired.split h
  cases h2 with
  | cons h3 h4 => exact ⟨m1, _, _, e, h1, h3, h4⟩
theorem Paired.append {α β : Type} {F : α → β → Prop} : ∀ {l1 l2 : List α} {m1 m2 : List β}, Paired F l1 m1 → Paired F l2 m2 → Paired F (l1 ++ l2) (m1 ++ m2)
  | _, _, _, _, .nil, h => h
  | _, _, _, _, .cons h t, k => .cons h (Paired.append t k)
theorem Paired.inj_left {α β : Type} {F : α → β → Prop} (hF : ∀ a b c, F a b → F a c → b = c) : ∀ {l : List α} {m n : List β}, Paired F l m → Paired F l n → m = n
  | _, _, _, .nil, .nil => rfl
  | _, _, _, .cons h t, .cons h' t' => by rw [hF _ _ _ h h', Paired.inj_left hF t t']
theorem wayV_inj {a b : Option Int} (h : wayV a = wayV b) : a = b := by
  cases a <;> cases b <;> simp [wayV] at h
  · rfl
  · rw [h]
theorem RowIs.inj {H : Hp} {v : V} {r r' : Row} (h : RowIs H v r) (h' : RowIs H v r') : r = r' := by
  obtain ⟨p, e, q⟩ := h
  obtain ⟨p', e', q'⟩ := h'
  subst e
  cases e'
  rw [q] at q'
  simp only [Option.some.injEq, HO.tup.injEq, List.cons.injEq, V.str.injEq, and_true] at q'
  exact Prod.ext (enc_inj q'.1) (wayV_inj q'.2)
theorem RowsAre.inj {H : Hp} {vs : List V} {rs rs' : List Row} (h : RowsAre H vs rs) (h' : RowsAre H vs rs') : rs = rs' := Paired.inj_left (F := RowIs H) (fun _ _ _ a b => RowIs.inj a b) h h'
theorem tyV_lst {K : PySem.W.Frag} {H : Hp} {p : Addr} {xs : List V} (h : H p = some (.lst xs)) : tyV K "list" (.ref p) H := .inl ⟨rfl, xs, SqL.of h⟩
theorem Paired.get {α β : Type} {F : α → β → Prop} : ∀ {l : List α} {m : List β} (i : Nat) (a : α), Paired F l m → l[i]? = some a → ∃ b, m[i]? = some b ∧ F a b
  | _, _, _, _, .nil, h => by simp at h
  | _, _, 0, a, .cons h _, e => by simp at e; subst e; exact ⟨_, rfl, h⟩
  | _, _, i + 1, a, .cons _ t, e => by
    obtain ⟨b, h1, h2⟩ := Paired.get i a t (by simpa using e)
    exact ⟨b, by simpa using h1, h2⟩
/-- the heads' values -/
theorem heads_flat (rs : List Row) : (rs.map fun r => V.str (enc r.1)).all flatV = true := by
  induction rs with
  | nil => rfl
  | cons r rs ih => simp only [List.map_cons, List.all_cons, ih, flatV, Bool.and_true]
theorem inV_heads (h : List Bool) (rs : List Row) : inV (.str (enc h)) (rs.map fun r => V.str (enc r.1)) = rs.any fun r => r.1 == h := by
  unfold inV
  rw [List.any_map]
  congr 1
  funext r
  show (enc r.1 == enc h) = (r.1 == h)
  rw [Bool.eq_iff_iff, beq_iff_eq, beq_iff_eq, enc_eq]
/-- the first part of a row, by values -/
def fstOf (H : Hp) (v : V) : V := match v with
  | .ref p => match H p with
    | some (.tup (x :: _)) => x
    | _ => .non
  | _ => .non
theorem fstOf_row {H : Hp} {v : V} {r : Row} (h : RowIs H v r) : fstOf H v = .str (enc r.1) := by
  obtain ⟨p, rfl, q⟩ := h
  simp only [fstOf, q]
theorem map_fstOf {H : Hp} {vs : List V} {rs : List Row} (h : RowsAre H vs rs) : vs.map (fstOf H) = rs.map fun r => V.str (enc r.1) := by
  induction h with
  | nil => rfl
  | cons h _ ih => rw [List.map_cons, List.map_cons, fstOf_row h, ih]
/-! ### the ways and tables as they are drawn -/
def wayBy (c few : Int) : Option Int := if c % 5 = 4 then none else if c / 5 % 4 = 3 then some (c / 20 % 10000) else some (c / 20 % few)
def addRow (rs : List Row) (h : List Bool) (w : Option Int) : List Row := if rs.any (fun r => r.1 == h) then rs else rs ++ [(h, w)]
def tableBy (ns : List Int) (start size few : Int) : Nat → List Row
  | 0 => []
  | k + 1 => addRow (tableBy ns start size few k) (bitsBy (cell ns (start + k) % (size + 1)).toNat (cell ns (start + k) / (size + 1))) (wayBy ((cell ns (start + k) * 48271 + 11) % 2147483647) few)
def mixed : Int → Nat → Int
  | c, 0 => c
  | c, k + 1 => (mixed c k * 48271 + 11) % 2147483647
def farTable (c size few : Int) : Nat → List Row
  | 0 => []
  | k + 1 => addRow (farTable c size few k) (bitsBy (mixed c (k + 1) % (size + 1)).toNat (mixed c (k + 1) / 97)) (wayBy (mixed c (k + 1) / 1009) few)
/-- what holds of a drawn table -/
structure TabOk (rs : List Row) (size : Int) (n : Nat) : Prop where
  nd : (rs.map (·.1)).Nodup
  len : ∀ r ∈ rs, (r.1.length : Int) ≤ size
  way : ∀ r ∈ rs, ∀ i, r.2 = some i → 0 ≤ i ∧ i ≤ 9999
  few : rs.length ≤ n
theorem TabOk.nil (size : Int) : TabOk [] size 0 := ⟨by simp, by simp, by simp, by simp⟩
theorem TabOk.add {rs : List Row} {size : Int} {n : Nat} {h : List Bool} {w : Option Int} (t : TabOk rs size n) (hl : (h.length : Int) ≤ size) (hw : ∀ i, w = some i → 0 ≤ i ∧ i ≤ 9999) : TabOk (addRow rs h w) size (n + 1) := by
  unfold addRow
  split
  · exact ⟨t.nd, t.len, t.way, Nat.le_succ_of_le t.few⟩
  · rename_i hn
    refine ⟨?_, ?_, ?_, ?_⟩
    · rw [List.map_append, List.nodup_append]
      refine ⟨t.nd, by simp, ?_⟩
      intro a ha b hb e
      have hb' : b = h := by simpa using hb
      subst hb' e
      obtain ⟨r, hr, e⟩ := List.mem_map.mp ha
      exact hn (List.any_eq_true.mpr ⟨r, hr, by simpa using e⟩)
    · intro r hr
      rcases List.mem_append.mp hr with hr | hr
      · exact t.len r hr
      · have : r = (h, w) := by simpa using hr
        subst this; exact hl
    · intro r hr i hi
      rcases List.mem_append.mp hr with hr | hr
      · exact t.way r hr i hi
      · have : r = (h, w) := by simpa using hr
        subst this; exact hw i hi
    · rw [List.length_append, List.length_singleton]; exact Nat.succ_le_succ t.few
theorem wayBy_ok {c few : Int} (h0 : 0 < few) (h1 : few ≤ 9999) : ∀ i, wayBy c few = some i → 0 ≤ i ∧ i ≤ 9999 := by
  intro i hi
  unfold wayBy at hi
  split at hi
  · cases hi
  · split at hi
    · cases hi; omega
    · cases hi
      have := Int.emod_nonneg (c / 20) (show few ≠ 0 by omega)
      have := Int.emod_lt_of_pos (c / 20) h0
      omega
theorem tableBy_ok {ns : List Int} {start size few : Int} (hs : 0 ≤ size) (h0 : 0 < few) (h1 : few ≤ 9999) : ∀ k, TabOk (tableBy ns start size few k) size k
  | 0 => TabOk.nil size
  | k + 1 => (tableBy_ok hs h0 h1 k).add (by
      rw [bitsBy_len]
      have := Int.emod_nonneg (cell ns (start + k)) (show size + 1 ≠ 0 by omega)
      have := Int.emod_lt_of_pos (cell ns (start + k)) (show 0 < size + 1 by omega)
      omega) (wayBy_ok h0 h1)
theorem farTable_ok {c size few : Int} (hs : 0 ≤ size) (h0 : 0 < few) (h1 : few ≤ 9999) : ∀ k, TabOk (farTable c size few k) size k
  | 0 => TabOk.nil size
  | k + 1 => (farTable_ok hs h0 h1 k).add (by
      rw [bitsBy_len]
      have := Int.emod_nonneg (mixed c (k + 1)) (show size + 1 ≠ 0 by omega)
      have := Int.emod_lt_of_pos (mixed c (k + 1)) (show 0 < size + 1 by omega)
      omega) (wayBy_ok h0 h1)
/-! ### leading -/
def leadStep (a : List Bool) (acc : Option Row) (r : Row) : Option Row :=
  if r.1.isPrefixOf a && (match acc with | none => true | some q => decide (q.1.length < r.1.length)) then some r else acc
def lead (rs : List Row) (a : List Bool) : Option Row := rs.foldl (leadStep a) none
def led (rs : List Row) (a : List Bool) : Option Int := (lead rs a).bind (·.2)
def OptRow (H : Hp) (v : V) : Option Row → Prop
  | none => v = .non
  | some r => RowIs H v r
theorem OptRow.mono {H H' : Hp} {v : V} {o : Option Row} (h : OptRow H v o) (t : Tp H H') : OptRow H' v o := by
  cases o with
  | none => exact h
  | some r => exact RowIs.mono h t
theorem lead_mem {rs : List Row} {a : List Bool} {r : Row} (h : lead rs a = some r) : r ∈ rs ∧ r.1.isPrefixOf a = true := by
  have : ∀ (l : List Row) (acc : Option Row), l.foldl (leadStep a) acc = some r → acc = some r ∨ (r ∈ l ∧ r.1.isPrefixOf a = true) := by
    intro l
    induction l with
    | nil => intro acc h; exact .inl h
    | cons q l ih =>
      intro acc h
      rcases ih _ h with h | ⟨h1, h2⟩
      · unfold leadStep at h
        generalize hb : (match acc with | none => true | some z => decide (z.1.length < q.1.length)) = b at h
        by_cases hc : (q.1.isPrefixOf a && b) = true
        · rw [if_pos hc] at h
          cases h
          exact .inr ⟨List.mem_cons_self, (Bool.and_eq_true_iff.mp hc).1⟩
        · rw [if_neg hc] at h
          exact .inl h
      · exact .inr ⟨List.mem_cons_of_mem _ h1, h2⟩
  rcases this rs none h with h | h
  · cases h
  · exact h
theorem Same.upd' {H H' : Hp} {l : Addr} {o : HO} (s : Same H H') (h : H l = none) : Same H (L2.upd H' l o) := fun b u e => by rw [upd_ne (ne_of_none e h)]; exact s b u e
theorem not_tup_of_lst {H : Hp} {l : Addr} {xs : List V} (h : H l = some (.lst xs)) : ∀ ys, H l ≠ some (.tup ys) := fun ys e => by rw [h] at e; cases e
theorem not_tup_of_none {H : Hp} {l : Addr} (h : H l = none) : ∀ ys, H l ≠ some (.tup ys) := fun ys e => by rw [h] at e; cases e
/-- a row is laid and appended -/
theorem add_step {H0 H1 : Hp} {l p : Addr} {xs : List V} {rs : List Row} {h : List Bool} {w : Option Int} (s : Same H0 H1) (hl0 : H0 l = none) (hl : H1 l = some (.lst xs)) (hr : RowsAre H1 xs rs) (hp : H1 p = none) :
    ∃ H3, H3 = upd (upd H1 p (.tup [.str (enc h), wayV w])) l (.lst (xs ++ [.ref p])) ∧ Same H0 H3 ∧ H3 l = some (.lst (xs ++ [.ref p])) ∧ RowsAre H3 (xs ++ [.ref p]) (rs ++ [(h, w)]) ∧ ∀ b o, b ≠ l → H1 b = some o → H3 b = some o := by
  have hpl : l ≠ p := ne_of_none hl hp
  have h2 : (upd H1 p (.tup [.str (enc h), wayV w])) l = some (.lst xs) := by rw [upd_ne hpl]; exact hl
  have t1 : Tp H1 (upd H1 p (.tup [.str (enc h), wayV w])) := Tp.upd (not_tup_of_none hp)
  have t2 := Tp.upd (o := .lst (xs ++ [.ref p])) (not_tup_of_lst h2)
  refine ⟨_, rfl, (s.upd' (s.free hp)).upd' hl0, upd_same, ?_, fun b o hb e => ?_⟩
  · refine Paired.append (RowsAre.mono hr (t1.trans t2)) (.cons ⟨p, rfl, ?_⟩ .nil)
    rw [upd_ne hpl.symm]; exact upd_same
  · rw [upd_ne hb, upd_ne (ne_of_none e hp)]; exact e
end L2

end
section
set_option Elab.async false
set_option linter.all false
set_option maxRecDepth 100000
set_option maxHeartbeats 4000000
namespace L2
open PySem PySem.Spec
local macro_rules | `(tactic| walk_at "rd") => `(tactic| try simp only [tVar, tC, tOp, tUn, tSeq, tAsg, gName, tRet, tRetN, tIfS, tDrop, tNext, tCons, tNil, tCall, tCB, tTest, tB, tAnd, tOr, tNot, tAndV, tOrV, tNotV, tIf, tTup, tLst, tSl, tPart, tNoPart, tBM, tBM0, L2.start, rI2, rI3, rAddA, rMulA, rSubI, rDivI, rModI, rPowI, rNegI, rLt, rLe, rGt, rGe, rIsN, rNotN, rEqS, rNeS, rLen, rIxA, rIntA, rMax2, rMin2, rStrI, rListOf, rIsi2, isiF, isiO, rSlA, rStarts2, rEnds2, CDiv,
  List.map_cons, List.map_nil, List.length_cons, List.length_nil, List.replicate_succ, List.replicate_zero, List.cons_append, List.nil_append, List.append_nil, List.getElem?_cons_zero, List.getElem?_cons_succ, List.set_cons_zero, List.set_cons_succ, Option.some.injEq, V.int.injEq, V.str.injEq, V.bl.injEq, V.ref.injEq, V.ty.injEq, reduceCtorEq, exists_eq_left', exists_eq_left, exists_eq_right, exists_eq_right', exists_eq', exists_eq, exists_and_left, exists_and_right, false_and, and_false, true_and, and_true, exists_const, exists_false, false_or, or_false, List.cons.injEq, and_assoc, decide_eq_true_eq, decide_true, decide_false, Int.reduceLT, Int.reduceLE, Nat.reduceLT, Nat.reduceLeDiff, Nat.reduceSub, Nat.reduceAdd, Nat.sub_self, Nat.sub_zero, enc_eq, enc_nil, enc_0, enc_1, enc_01, enc_append, enc_len, Bool.not_true, Bool.not_false, Bool.false_eq_true, if_true, if_false, ↓reduceIte, String.reduceEq, or_true, true_or, Nat.one_mul, addr_len, bitsBy_len, List.length_append, List.length_replicate, List.length_map])
local macro_rules | `(tactic| walk_at "sz") => `(tactic| (have hline := line_ge; first | omega | (simp; omega)))
def rd_law_way_by (K : PySem.W.Frag) : TS :=
  (tSeq (tIfS (tTest (tOp rEqS (tOp rModI (tVar 0) (tC (.int 5))) (tC (.int 4)))) (tRet (tC .non)) tNext)
  (tSeq (tIfS (tTest (tOp rEqS (tOp rModI (tOp rDivI (tVar 0) (tC (.int 5))) (tC (.int 4))) (tC (.int 3)))) (tRet (tOp rModI (tOp rDivI (tVar 0) (tC (.int 20))) (tC (.int 10000)))) tNext)
  (tRet (tOp rModI (tOp rDivI (tVar 0) (tC (.int 20))) (tVar 1)))))
def nm_law_way_by : List Str := ["cell", "few"]
def sp_law_way_by (K : PySem.W.Frag) : Sp := fun vs H Q _ => ∃ c f, vs = [.int c, .int f] ∧ 0 < f ∧ Q (wayV (wayBy c f)) H
theorem len_law_way_by {K vs H Q E} (h : sp_law_way_by K vs H Q E) : vs.length = 2 := by obtain ⟨_, _, rfl, _⟩ := h; rfl
theorem rdok_law_way_by {K vs H Q E} (h : sp_law_way_by K vs H Q E) : rd_law_way_by K { nx := fun _ H' => Q .non H', rt := Q } (start nm_law_way_by vs) H := by
  obtain ⟨c, f, rfl, hf, q⟩ := h
  simp only [rd_law_way_by, nm_law_way_by]
  walk_at "rd"
  unfold wayBy at q
  split
  · rename_i h
    rw [if_pos h] at q
    exact q
  · rename_i h
    rw [if_neg h] at q
    split
    · rename_i h2
      rw [if_pos h2] at q
      exact q
    · rename_i h2
      rw [if_neg h2] at q
      exact ⟨hf, q⟩
def rb_law_head_for_1 (K : PySem.W.Frag) : TS :=
  (tIfS (tTest (tOp rEqS (tSl (rSlA K) (tVar 1) tNoPart (tPart (tCB (rLen K) (tCons (tOp (rIxA K) (tVar 3) (tC (.int 0))) tNil)))) (tOp (rIxA K) (tVar 3) (tC (.int 0))))) (tIfS (tOr (tTest (tOp rIsN (tVar 2) (tC .non))) (tTest (tOp rGt (tCB (rLen K) (tCons (tOp (rIxA K) (tVar 3) (tC (.int 0))) tNil)) (tCB (rLen K) (tCons (tOp (rIxA K) (tVar 2) (tC (.int 0))) tNil))))) (tAsg (tVar 3) (gName 2)) tNext) tNext)
def rd_law_head_for (K : PySem.W.Frag) : TS :=
  (tSeq (tAsg (tC .non) (gName 2))
  (tSeq (tFor (iList K (tVar 0)) (gName 3) (rb_law_head_for_1 K))
  (tRet (tVar 2))))
def nm_law_head_for : List Str := ["rows", "address", "found", "row"]
def sp_law_head_for (K : PySem.W.Frag) : Sp := fun vs H Q _ => ∃ a xs rs ad, vs = [.ref a, .str (enc ad)] ∧ H a = some (.lst xs) ∧ RowsAre H xs rs ∧ (∀ r ∈ rs, r.1.length ≤ 1000) ∧ ad.length ≤ 1000 ∧ ∀ v, OptRow H v (lead rs ad) → Q v H
theorem len_law_head_for {K vs H Q E} (h : sp_law_head_for K vs H Q E) : vs.length = 2 := by obtain ⟨_, _, _, _, rfl, _⟩ := h; rfl
theorem rdok_law_head_for {K vs H Q E} (h : sp_law_head_for K vs H Q E) : rd_law_head_for K { nx := fun _ H' => Q .non H', rt := Q } (start nm_law_head_for vs) H := by
  obtain ⟨a, xs, rs, ad, rfl, ha, hr, hlen, had, q⟩ := h
  simp only [rd_law_head_for, nm_law_head_for]
  walk_at "rd"
  refine tFor_lst a xs (fun pre σ H' => H' = H ∧ ∃ o v pr, Paired (RowIs H) pre pr ∧ OptRow H v (lead pr ad) ∧ σ = [some (.ref a), some (.str (enc ad)), some v, o]) ?_ ⟨rfl, none, .non, [], .nil, rfl, rfl⟩ ?_ ?_ ?_
  · intro R h; walk_at "rd"; exact h
  · rintro pre post σ H' _ ⟨rfl, _⟩; exact SqL.of ha
  · rintro pre x post σ H' e ⟨rfl, o, v, pr, hp, ho, rfl⟩
    rw [e] at hr
    obtain ⟨r1, r, r2, er, hr1, hrx, _⟩ := Paired.split1 hr
    have epr : r1 = pr := RowsAre.inj hr1 hp
    subst epr
    have hrl : r.1.length ≤ 1000 := hlen r (by rw [er]; simp)
    obtain ⟨p, rfl, hp0⟩ := id hrx
    have hsn : lead (r1 ++ [r]) ad = leadStep ad (lead r1 ad) r := by unfold lead; rw [List.foldl_append]; rfl
    have fin : ∀ v', OptRow H' v' (lead (r1 ++ [r]) ad) → ∃ o v pr, Paired (RowIs H') (pre ++ [V.ref p]) pr ∧ OptRow H' v (lead pr ad) ∧ v' = v ∧ some (V.ref p) = o := fun v' h => ⟨_, v', r1 ++ [r], Paired.snoc hr1 hrx, h, rfl, rfl⟩
    rw [hsn] at fin
    simp only [rb_law_head_for_1]
    have hpt := pre_take r.1 ad
    walk_at "rd"
    refine ⟨_, .inr (SqT.of hp0), _, rfl, ?_⟩
    walk_at "rd"
    refine ⟨by walk_at "sz", by walk_at "sz", _, .inr (SqT.of hp0), _, rfl, ?_⟩
    walk_at "rd"
    rw [cut_to]
    walk_at "rd"
    have hb' : (ad.take r.1.length = r.1) ↔ r.1.isPrefixOf ad = true := by rw [← hpt, decide_eq_true_iff]
    split
    · rename_i hb
      rw [hb'] at hb
      cases hl : lead r1 ad with
      | none =>
        rw [hl] at ho fin
        cases ho
        walk_at "rd"
        exact fin _ (by simp only [leadStep, hb, Bool.and_true, if_true]; exact hrx)
      | some q =>
        rw [hl] at ho fin
        have hql : q.1.length ≤ 1000 := hlen q (by rw [er]; exact List.mem_append_left _ (lead_mem hl).1)
        obtain ⟨p2, rfl, hp2⟩ := id ho
        walk_at "rd"
        refine ⟨_, .inr (SqT.of hp0), _, rfl, ?_⟩
        walk_at "rd"
        refine ⟨by walk_at "sz", _, .inr (SqT.of hp2), _, rfl, ?_⟩
        walk_at "rd"
        refine ⟨by walk_at "sz", ?_⟩
        split
        · rename_i h2
          have h2 : q.1.length < r.1.length := by omega
          exact fin _ (by simp only [leadStep, hb, h2, Bool.true_and, decide_true, if_true]; exact hrx)
        · rename_i h2
          have h2 : ¬ q.1.length < r.1.length := by omega
          exact fin _ (by simp only [leadStep, hb, h2, Bool.true_and, decide_false]; exact ho)
    · rename_i hb
      rw [hb', Bool.not_eq_true] at hb
      exact fin _ (by simp only [leadStep, hb, Bool.false_and]; exact ho)
  · rintro σ H' ⟨rfl, o, v, pr, hp, ho, rfl⟩
    walk_at "rd"
    have epr : rs = pr := RowsAre.inj hr hp
    subst epr
    exact q v ho
def rd_law_way_is (K : PySem.W.Frag) : TS :=
  (tSeq (tIfS (tTest (tOp rIsN (tVar 1) (tC .non))) (tRet (tOp rIsN (tVar 0) (tC .non))) tNext)
  (tRet (tAndV (tCall (sp_law_whole K) [] E0 (tCons (tVar 0) tNil)) (tOp rEqS (tVar 0) (tVar 1)))))
def nm_law_way_is : List Str := ["found", "due"]
/-- a way found, a way due -/
def sp_law_way_is (K : PySem.W.Frag) : Sp := fun vs H Q _ => ∃ f d, vs = [wayV f, wayV d] ∧ Q (.bl (decide (f = d))) H
theorem len_law_way_is {K vs H Q E} (h : sp_law_way_is K vs H Q E) : vs.length = 2 := by obtain ⟨_, _, rfl, _⟩ := h; rfl
theorem rdok_law_way_is {K vs H Q E} (h : sp_law_way_is K vs H Q E) : rd_law_way_is K { nx := fun _ H' => Q .non H', rt := Q } (start nm_law_way_is vs) H := by
  obtain ⟨f, d, rfl, q⟩ := h
  simp only [rd_law_way_is, nm_law_way_is]
  cases d with
  | none =>
    cases f with
    | none => simp only [wayV]; walk_at "rd"; exact q
    | some i => simp only [wayV]; walk_at "rd"; exact q
  | some j =>
    cases f with
    | none =>
      simp only [wayV]; walk_at "rd"
      simp only [sp_law_whole]; walk_at "rd"
      exact q
    | some i =>
      simp only [wayV]; walk_at "rd"
      simp only [sp_law_whole]; walk_at "rd"
      simpa using q
def rb_law_far_table_1 (K : PySem.W.Frag) : TS :=
  (tSeq (tAsg (tOp rModI (tOp rAddA (tOp rMulA (tVar 0) (tC (.int 48271))) (tC (.int 11))) (tC (.int 2147483647))) (gName 0))
  (tSeq (tAsg (tCall (sp_law_bits_by K) [] E0 (tCons (tOp rDivI (tVar 0) (tC (.int 97))) (tCons (tOp rModI (tVar 0) (tOp rAddA (tVar 2) (tC (.int 1)))) tNil))) (gName 7))
  (tIfS (tTest (tOp (rIn K true) (tVar 7) (tVar 5))) (tSeq (tDrop (tBM K "list" rAppend (tVar 5) (tCons (tVar 7) tNil)))
  (tDrop (tBM K "list" rAppend (tVar 4) (tCons (tTup (tCons (tVar 7) (tCons (tCall (sp_law_way_by K) [] E0 (tCons (tOp rDivI (tVar 0) (tC (.int 1009))) (tCons (tVar 3) tNil))) tNil))) tNil)))) tNext)))
def rd_law_far_table (K : PySem.W.Frag) : TS :=
  (tSeq (tAsg (tLst tNil) (gName 4))
  (tSeq (tAsg (tLst tNil) (gName 5))
  (tSeq (tFor (iRng1 (tCons (tVar 1) tNil)) (gName 6) (rb_law_far_table_1 K))
  (tRet (tVar 4)))))
def nm_law_far_table : List Str := ["cell", "count", "size", "few", "rows", "heads", "k", "head"]
def sp_law_far_table (K : PySem.W.Frag) : Sp := fun vs H Q _ => ∃ (c n size few : Int), vs = [.int c, .int n, .int size, .int few] ∧ 0 ≤ n ∧ n ≤ 100 ∧ 0 ≤ size ∧ size ≤ 16 ∧ 0 < few ∧ few ≤ 9999 ∧
  ∀ l H' xs, H l = none → Same H H' → H' l = some (.lst xs) → RowsAre H' xs (farTable c size few n.toNat) → Q (.ref l) H'
theorem len_law_far_table {K vs H Q E} (h : sp_law_far_table K vs H Q E) : vs.length = 4 := by obtain ⟨_, _, _, _, rfl, _⟩ := h; rfl
theorem rdok_law_far_table {K vs H Q E} (h : sp_law_far_table K vs H Q E) : rd_law_far_table K { nx := fun _ H' => Q .non H', rt := Q } (start nm_law_far_table vs) H := by
  obtain ⟨c, n', size, few, rfl, hn0, hn, hs0, hs, hf0, hf1, q⟩ := h
  obtain ⟨n, rfl⟩ := Int.eq_ofNat_of_zero_le hn0
  rw [Int.toNat_natCast] at q
  simp only [rd_law_far_table, nm_law_far_table]
  walk_at "rd"
  refine ⟨by walk_at "sz", fun l hl => ⟨by walk_at "sz", fun l2 hl2 => ?_⟩⟩
  have nll : l2 ≠ l := fun e => by subst e; rw [upd_same] at hl2; cases hl2
  have hl2' : H l2 = none := by rw [upd_ne nll] at hl2; exact hl2
  refine tFor_rng1 n (by omega) (fun k σ H' => Same H H' ∧ ∃ o p xs, σ = [some (.int (mixed c k)), some (.int n), some (.int size), some (.int few), some (.ref l), some (.ref l2), o, p] ∧ H' l = some (.lst xs) ∧ RowsAre H' xs (farTable c size few k) ∧
    H' l2 = some (.lst ((farTable c size few k).map fun r => V.str (enc r.1)))) ?_ ?_ ?_ ?_
  · intro R h; walk_at "rd"; exact h
  · refine ⟨(Same.upd hl).trans (Same.upd hl2), none, none, [], rfl, ?_, .nil, upd_same⟩
    rw [upd_ne nll.symm]; exact upd_same
  · rintro k σ H' hk ⟨sm, o, p, xs, rfl, h1, h2, h3⟩
    have hfew := (farTable_ok (c := c) hs0 hf0 hf1 k).few
    have hxs : xs.length = (farTable c size few k).length := Paired.length h2
    simp only [rb_law_far_table_1, gName, List.set_cons_succ, List.set_cons_zero]
    refine tSeq_gen fun U hU => ?_
    walk_at "rd"
    refine ⟨.inr (by omega), ?_⟩
    subst hU
    rw [show (mixed c k * 48271 + 11) % 2147483647 = mixed c (k + 1) from rfl]
    have hm0 := Int.emod_nonneg (mixed c (k + 1)) (show size + 1 ≠ 0 by omega)
    have hm1 := Int.emod_lt_of_pos (mixed c (k + 1)) (show 0 < size + 1 by omega)
    have hft : farTable c size few (k + 1) = addRow (farTable c size few k) (bitsBy (mixed c (k + 1) % (size + 1)).toNat (mixed c (k + 1) / 97)) (wayBy (mixed c (k + 1) / 1009) few) := rfl
    rw [hft]
    refine tSeq_gen fun U hU => ?_
    walk_at "rd"
    simp only [sp_law_bits_by]
    walk_at "rd"
    refine ⟨by omega, by omega, by omega, ?_⟩
    subst hU
    generalize farTable c size few k = rs at *
    generalize bitsBy (mixed c (k + 1) % (size + 1)).toNat (mixed c (k + 1) / 97) = hd
    generalize mixed c (k + 1) = cc
    walk_at "rd"
    refine ⟨l2, _, rfl, .inl (SqL.of h3), rfl, heads_flat _, ?_⟩
    simp only [if_true, inV_heads]
    walk_at "rd"
    unfold addRow
    by_cases hany : (rs.any fun r => r.1 == hd) = true
    · simp only [hany]
      walk_at "rd"
      exact ⟨sm, xs, h1, h2, h3⟩
    · simp only [Bool.not_eq_true] at hany
      simp only [hany]
      walk_at "rd"
      refine ⟨tyV_lst h3, l2, _, _, rfl, rfl, h3, by rw [List.length_map]; walk_at "sz", ?_⟩
      walk_at "rd"
      have e1 : upd H' l2 (.lst ((rs.map fun r => V.str (enc r.1)) ++ [V.str (enc hd)])) l = some (.lst xs) := by rw [upd_ne nll.symm]; exact h1
      refine ⟨tyV_lst e1, ?_⟩
      simp only [sp_law_way_by]
      walk_at "rd"
      refine ⟨hf0, by walk_at "sz", fun p hp => ?_⟩
      have tp : Tp H' (upd H' l2 (.lst ((rs.map fun r => V.str (enc r.1)) ++ [V.str (enc hd)]))) := Tp.upd (not_tup_of_lst h3)
      obtain ⟨H3, eH3, s3, a1, a2, a3⟩ := add_step (h := hd) (w := wayBy (cc / 1009) few) (sm.upd' hl2') hl e1 (RowsAre.mono h2 tp) hp
      refine ⟨l, xs, _, rfl, rfl, by rw [upd_ne (ne_of_none e1 hp)]; exact e1, by walk_at "sz", ?_⟩
      rw [← eH3]
      refine ⟨s3, _, a1, a2, ?_⟩
      rw [List.map_append]
      exact a3 l2 _ nll upd_same
  · rintro σ H' ⟨sm, o, p, xs, rfl, h1, h2, h3⟩
    walk_at "rd"
    exact q l H' xs hl sm h1 h2
def rb_law_table_by_1 (K : PySem.W.Frag) : TS :=
  (tSeq (tAsg (tCall (sp_law_cell_at K) [] E0 (tCons (tVar 0) (tCons (tOp rAddA (tVar 1) (tVar 6)) tNil))) (gName 7))
  (tSeq (tAsg (tCall (sp_law_bits_by K) [] E0 (tCons (tOp rDivI (tVar 7) (tOp rAddA (tVar 3) (tC (.int 1)))) (tCons (tOp rModI (tVar 7) (tOp rAddA (tVar 3) (tC (.int 1)))) tNil))) (gName 8))
  (tIfS (tTest (tOp (rIn K true) (tVar 8) (tComp [] (iList K (tVar 5)) tAlways (tOp (rIxA K) (tVar 0) (tC (.int 0)))))) (tDrop (tBM K "list" rAppend (tVar 5) (tCons (tTup (tCons (tVar 8) (tCons (tCall (sp_law_way_by K) [] E0 (tCons (tOp rModI (tOp rAddA (tOp rMulA (tVar 7) (tC (.int 48271))) (tC (.int 11))) (tC (.int 2147483647))) (tCons (tVar 4) tNil))) tNil))) tNil))) tNext)))
def rd_law_table_by (K : PySem.W.Frag) : TS :=
  (tSeq (tAsg (tLst tNil) (gName 5))
  (tSeq (tFor (iRng1 (tCons (tVar 2) tNil)) (gName 6) (rb_law_table_by_1 K))
  (tRet (tVar 5))))
def nm_law_table_by : List Str := ["script", "start", "count", "size", "few", "rows", "k", "cell", "head"]
def sp_law_table_by (K : PySem.W.Frag) : Sp := fun vs H Q _ => ∃ (a : Addr) (ns : List Int) (st n size few : Int), vs = [.ref a, .int st, .int n, .int size, .int few] ∧ SqL K H a (ns.map V.int) ∧ 0 ≤ st ∧ 0 ≤ n ∧ n ≤ 100 ∧ 0 ≤ size ∧ size ≤ 16 ∧ 0 < few ∧ few ≤ 9999 ∧
  ∀ l H' xs, H l = none → Same H H' → H' l = some (.lst xs) → RowsAre H' xs (tableBy ns st size few n.toNat) → Q (.ref l) H'
theorem len_law_table_by {K vs H Q E} (h : sp_law_table_by K vs H Q E) : vs.length = 5 := by obtain ⟨_, _, _, _, _, _, rfl, _⟩ := h; rfl
theorem rdok_law_table_by {K vs H Q E} (h : sp_law_table_by K vs H Q E) : rd_law_table_by K { nx := fun _ H' => Q .non H', rt := Q } (start nm_law_table_by vs) H := by
  obtain ⟨a, ns, st, n', size, few, rfl, hS, hst, hn0, hn, hs0, hs, hf0, hf1, q⟩ := h
  obtain ⟨n, rfl⟩ := Int.eq_ofNat_of_zero_le hn0
  rw [Int.toNat_natCast] at q
  simp only [rd_law_table_by, nm_law_table_by]
  walk_at "rd"
  refine ⟨by walk_at "sz", fun l hl => ?_⟩
  refine tFor_rng1 n (by omega) (fun k σ H' => Same H H' ∧ ∃ o p r xs, σ = [some (.ref a), some (.int st), some (.int n), some (.int size), some (.int few), some (.ref l), o, p, r] ∧ H' l = some (.lst xs) ∧ RowsAre H' xs (tableBy ns st size few k)) ?_ ?_ ?_ ?_
  · intro R h; walk_at "rd"; exact h
  · exact ⟨Same.upd hl, none, none, none, [], rfl, upd_same, .nil⟩
  · rintro k σ H' hk ⟨sm, o, p, r, xs, rfl, h1, h2⟩
    have hfew := (tableBy_ok (ns := ns) (start := st) hs0 hf0 hf1 k).few
    have hxs : xs.length = (tableBy ns st size few k).length := Paired.length h2
    have hft : tableBy ns st size few (k + 1) = addRow (tableBy ns st size few k) (bitsBy (cell ns (st + k) % (size + 1)).toNat (cell ns (st + k) / (size + 1))) (wayBy ((cell ns (st + k) * 48271 + 11) % 2147483647) few) := rfl
    simp only [rb_law_table_by_1, gName, List.set_cons_succ, List.set_cons_zero]
    refine tSeq_gen fun U hU => ?_
    walk_at "rd"
    refine cell_app (sm.seq hS) (by omega) ?_
    walk_at "rd"
    subst hU
    rw [hft]
    generalize cell ns (st + k) = c
    have hm0 := Int.emod_nonneg c (show size + 1 ≠ 0 by omega)
    have hm1 := Int.emod_lt_of_pos c (show 0 < size + 1 by omega)
    refine tSeq_gen fun U hU => ?_
    walk_at "rd"
    simp only [sp_law_bits_by]
    walk_at "rd"
    refine ⟨by omega, by omega, by omega, by omega, by omega, ?_⟩
    subst hU
    generalize tableBy ns st size few k = rs at *
    generalize bitsBy (c % (size + 1)).toNat (c / (size + 1)) = hd
    walk_at "rd"
    refine tComp_lst (K := K) l xs (fun _ => true) (fstOf H') (fun R h => by walk_at "rd"; exact h) (SqL.of h1) (by walk_at "sz") (fun v _ H'' R _ h => h) (fun v hv _ H'' R s2 h => ?_) (fun l3 hl3 => ?_)
    · obtain ⟨i, hi⟩ := List.getElem?_of_mem hv
      obtain ⟨r, _, hr⟩ := Paired.get i v h2 hi
      rw [fstOf_row hr] at h
      obtain ⟨p, rfl, hp⟩ := hr
      walk_at "rd"
      exact ⟨_, .inr (SqT.of (s2 _ _ hp)), _, rfl, h⟩
    · rw [List.filter_eq_self.mpr (fun _ _ => rfl), map_fstOf h2]
      have sm2 : Same H (upd H' l3 (.lst (rs.map fun r => V.str (enc r.1)))) := sm.upd' (sm.free hl3)
      have e1 : upd H' l3 (.lst (rs.map fun r => V.str (enc r.1))) l = some (.lst xs) := by rw [upd_ne (ne_of_none h1 hl3)]; exact h1
      have tp : Tp H' (upd H' l3 (.lst (rs.map fun r => V.str (enc r.1)))) := Tp.upd (not_tup_of_none hl3)
      refine ⟨l3, _, rfl, .inl (SqL.of upd_same), rfl, heads_flat _, ?_⟩
      simp only [if_true, inV_heads]
      walk_at "rd"
      unfold addRow
      by_cases hany : (rs.any fun r => r.1 == hd) = true
      · simp only [hany]
        walk_at "rd"
        exact ⟨sm2, xs, e1, RowsAre.mono h2 tp⟩
      · simp only [Bool.not_eq_true] at hany
        simp only [hany]
        walk_at "rd"
        refine ⟨tyV_lst e1, .inr (by omega), ?_⟩
        simp only [sp_law_way_by]
        walk_at "rd"
        refine ⟨hf0, by walk_at "sz", fun p hp => ?_⟩
        obtain ⟨H3, eH3, s3, a1, a2, a3⟩ := add_step (h := hd) (w := wayBy ((c * 48271 + 11) % 2147483647) few) sm2 hl e1 (RowsAre.mono h2 tp) hp
        refine ⟨l, xs, _, rfl, rfl, by rw [upd_ne (ne_of_none e1 hp)]; exact e1, by walk_at "sz", ?_⟩
        rw [← eH3]
        exact ⟨s3, _, a1, a2⟩
  · rintro σ H' ⟨sm, o, p, r, xs, rfl, h1, h2⟩
    walk_at "rd"
    exact q l H' xs hl sm h1 h2
end L2

end
section
set_option Elab.async false
set_option linter.all false
set_option maxRecDepth 100000
set_option maxHeartbeats 2000000
namespace L2
open PySem PySem.Spec PyProof.Rows
/-! ### exceptions: how one flies -/
section
variable {P : Program} {w : World} {H H' : Hp} {h : Heap} {a : Addr} {o : HO}
end
/-- behind a call that an exception has left: B holds all that the exception's records don't touch -/
structure Over (P : Program) (w : World) (outer : List Env) (H : Hp) (s : Shared) (H' : Hp) (s' : Shared) (B : Heap) : Prop where
  os : s'.os = s.os
  bare : AllBare s'.gens
  un : Un (frs outer) [] H H' s.heap s'.heap
  hok : HOk P w H' s'.heap
  stays : B.StaysIn s'.heap
  trk : ∀ b o, H' b = some o → ∃ u, B.get? b = some u
  old : ∀ b o, s.heap.get? b = some o → b ∉ frs outer → ∃ u, B.get? b = some u
/-- the exception at e, of the own class at C -/
def CX1 (P : Program) (w : World) : CXT := fun outer H s E e s' => ∃ a C t H' B, e = .ref a ∧ Over P w outer H s H' s' B ∧ Heap.FlyingW B outer a (.ref C) (.ref t) s'.heap ∧ E (.ref C) none H'
section
variable {X : Cx} {pins : List (Addr × Obj)} {σ : St} {H H' : Hp} {s s' : Shared} {B h'' : Heap}
theorem Over.hok' {P : Program} {w : World} {outer : List Env} (O : Over P w outer H s H' s' B) (hB : B.StaysIn h'') : HOk P w H' h'' := fun b o e =>
  (O.hok b o e).stay (fun c v hc q => by
    have hx : ∃ x, H' c = some x := by
      rcases hc with z | z
      · exact ⟨o, by rw [z]; exact e⟩
      · exact ⟨_, z⟩
    obtain ⟨x, hx⟩ := hx
    obtain ⟨u, hu⟩ := O.trk c x hx
    have e2 := O.stays c u hu
    rw [q] at e2
    cases e2
    exact hB c v hu) (fun _ q => q) fun _ _ q => q
end
/-! ### an exception passes a def's body -/
section
variable {P : Program} {w : World} {K : PySem.W.Frag} {mg : Str → Option Value} {base : Heap} {N : List Str} {qual : Str} {scope : Scope} {f : Addr} {cd : Value} {A : Around} {outer : List Env} {s : Shared} {H : Hp} {E : XK}
end
/-! ### own error classes under ValueError -/
section
variable {P : Program} {w : World} {K : PySem.W.Frag} {mg : Str → Option Value} {base : Heap} {N : List Str} {qual : Str} {scope : Scope} {f : Addr} {cd : Value} {A : Around} {outer : List Env} {s : Shared} {H : Hp} {E : XK}
end
end L2
namespace L2
open PySem PySem.Spec PyProof.Rows
theorem PS.nox {X : Cx} {st : Stmt} {t : TS} (h : PS X.nox st t) : PS X st t := fun pins s σ H D I hw =>
  wpAny_mono (h pins s σ H D (I.wish _) hw) (fun _ _ q => q.unwish) fun _ _ z => False.elim z
end L2

end
section
set_option Elab.async false
set_option linter.all false
set_option maxRecDepth 100000
set_option maxHeartbeats 2000000
namespace L2
open PySem PySem.Spec PyProof.Rows
/-! ### an exception that was caught, as a thing -/
def isExc (a C : Addr) (h : Heap) : Prop := ∃ o vs, h.get? a = some o ∧ o.cls = .ref C ∧ o.data = .fields vs
section
variable {X : Cx} {pins : List (Addr × Obj)} {σ : St} {H : Hp} {s : Shared}
/-- an untracked object is tracked from here on -/
theorem Inv.track {a : Addr} {o : HO} (I : Inv X pins σ H s) (hn : H a = none) (h0 : X.s₀.heap.get? a = none) (hL : a ≠ X.env.locals) (hC : ∀ x c, X.env.cells.lookup x = some c → c ≠ a) (hP : ∀ p ∈ X.pn ++ pins, p.1 ≠ a)
    (new : ObjOk X.prog X.w (upd H a o) s.heap a o) : Inv X pins σ (upd H a o) s where
  ok := I.ok
  os := I.os
  bare := I.bare
  base := by
    have ne : ∀ b u, X.s₀.heap.get? b = some u → b ≠ a := fun b u q z => by rw [z, h0] at q; cases q
    have nt : ∀ b u, H b = some u → b ≠ a := fun b u q z => by rw [z, hn] at q; cases q
    have u := I.base
    refine ⟨u.keep, u.slot, fun b ob q n hx => ?_, u.there, fun b xs q => ?_, fun b ob xs q => ?_, fun b ps q => ?_⟩
    · rw [upd_ne (ne b ob q)]; exact u.free b ob q n hx
    · have q1 := u.tups b xs q
      rw [upd_ne (nt b _ q1)]; exact q1
    · have q1 := u.frzs b ob xs q
      rw [upd_ne (nt b _ q1)]; exact q1
    · obtain ⟨m, q1⟩ := u.tbls b ps q
      exact ⟨m, by rw [upd_ne (nt b _ q1)]; exact q1⟩
  loc := I.loc
  cell := I.cell
  free := by rw [upd_ne (Ne.symm hL)]; exact I.free
  freeC := fun x c e => by rw [upd_ne (hC x c e)]; exact I.freeC x c e
  pin := fun p hp => by
    obtain ⟨q1, q2, q3⟩ := I.pin p hp
    exact ⟨q1, by rw [upd_ne (hP p hp)]; exact q2, q3⟩
  hok := fun b u q => by
    by_cases hb : b = a
    · subst hb
      rw [upd_same] at q
      cases q
      exact new
    · rw [upd_ne hb] at q
      have nt : ∀ c v, H c = some v → c ≠ a := fun c v q z => by rw [z, hn] at q; cases q
      exact (I.hok b u q).stay (fun _ _ _ e => e) (fun c e => by rw [upd_ne (nt c _ e)]; exact e) fun c xs e => by rw [upd_ne (nt c _ e)]; exact e
  len := I.len
end
/-! ### except R: -/
end L2

end
section
set_option Elab.async false
set_option linter.all false
set_option maxRecDepth 100000
set_option maxHeartbeats 4000000
namespace L2
open PySem PySem.Spec PyProof.Rows
/-! ### sorted(xs, key=f): f a def of the text whose answers are texts -/
section
variable {X : Cx} {pins : List (Addr × Obj)} {σ : St} {H : Hp} {s : Shared} {A : Around} {E : Value → Shared → Prop} {L KS : Addr} {vs : List Value} {xs : List V} {ks : List Str} {keys : Array Value} {c e1 : Nat} {Pf : PySem.Fin → Shared → Prop}
end
section
variable {X : Cx}
end
section
variable {X : Cx} {k : Nat} {x : Str} {pn : Str} {sp : Sp} {p pk kp pos : Pos} {e : Expr} {t : TA}
end
end L2

end
section
set_option Elab.async false
set_option linter.all false
set_option maxRecDepth 100000
namespace L2
open PySem PySem.Spec PyProof.Rows

/-! ### a comprehension that captures names of the def around it -/
def capCl (cells : List (Str × Addr)) : List (Str × NameKind) → List (Str × Addr) → List (Str × Addr)
  | [], cs => cs
  | y :: r, cs => capCl cells r (if (y.2 == NameKind.free) = true then (y.1, (cells.lookup y.1).getD 0) :: cs else cs)
def capOk (fn ns : List (Str × NameKind)) : Bool := ns.all fun y => y.2 == .local || y.2 == .globalImplicit || (y.2 == .free && fn.lookup y.1 == some .cell)
theorem closureFor_cap {scope : Scope} {env : Env} (h : ∀ y ∈ scope.names, y.2 = .free → ∃ c, env.cells.lookup y.1 = some c) : closureFor scope env = pure (capCl env.cells scope.names []) := by
  unfold closureFor
  generalize scope.names = ns at h
  generalize ([] : List (Str × Addr)) = cs
  induction ns generalizing cs with
  | nil => simp [capCl]
  | cons y r ih =>
    have ih := fun cs => ih (fun z hz => h z (List.mem_cons_of_mem _ hz)) cs
    simp only [List.forIn_cons, bind_assoc, pure_bind]
    unfold capCl
    cases e : y.2 == NameKind.free with
    | true =>
      obtain ⟨c, hc⟩ := h y List.mem_cons_self (by simpa using e)
      have ec : cellOf env y.1 = pure c := by unfold cellOf; rw [hc]
      simp only [if_true, ec, hc, Option.getD_some, pure_bind, bind_assoc]
      exact ih _
    | false => simp only [pure_bind, Bool.false_eq_true, if_false]; exact ih _
theorem capCl_lookup {cells : List (Str × Addr)} : ∀ {ns : List (Str × NameKind)} {cs : List (Str × Addr)} {y : Str} {c : Addr}, (∀ z ∈ ns, z.2 = .free → ∃ c, cells.lookup z.1 = some c) → (∀ y c, cs.lookup y = some c → cells.lookup y = some c) → (capCl cells ns cs).lookup y = some c → cells.lookup y = some c
  | [], cs, y, c, _, hc, h => hc y c h
  | z :: r, cs, y, c, hz, hc, h => by
    unfold capCl at h
    refine capCl_lookup (fun q hq => hz q (List.mem_cons_of_mem _ hq)) ?_ h
    intro y c h
    split at h
    · rename_i e
      obtain ⟨d, hd⟩ := hz z List.mem_cons_self (by simpa using e)
      rw [List.lookup_cons, hd] at h
      cases e2 : y == z.1 with
      | true => rw [e2] at h; have := eq_of_beq e2; subst this; simpa [hd] using h
      | false => rw [e2] at h; exact hc y c h
    · exact hc y c h
theorem capCl_has {cells : List (Str × Addr)} : ∀ {ns : List (Str × NameKind)} {cs : List (Str × Addr)} {y : Str}, ((y, NameKind.free) ∈ ns ∨ (cs.lookup y).isSome) → ∃ c, (capCl cells ns cs).lookup y = some c
  | [], cs, y, h => by
    rcases h with h | h
    · simp at h
    · exact Option.isSome_iff_exists.mp h
  | z :: r, cs, y, h => by
    unfold capCl
    refine capCl_has ?_
    rcases h with h | h
    · rcases List.mem_cons.mp h with rfl | h
      · right; simp
      · exact .inl h
    · right
      split
      · rw [List.lookup_cons]
        cases y == z.1 with
        | true => rfl
        | false => exact h
      · exact h
theorem CompSc.cap {X : Cx} {x : Str} {js : List (Nat × Str)} {scope fs : Scope} (hfs : X.env.scope = fs) (hX : X.env.scope.kind = .function) (hc : X.env.cells = cellsFrom (X.env.locals + 1) X.env.scope.names []) (hk : scope.kind = .function)
    (ho : capOk fs.names scope.names = true) (hn : ∀ y ∈ scope.names, y.2 = .local → scope.names.lookup y.1 = some .local) (own : scope.names.lookup x = some .local) (nd : (x :: js.map (·.2)).Nodup)
    (hj : js.map (fun p => X.N[p.1]?) = js.map (fun p => some p.2)) (hf : (js.all fun p => scope.names.lookup p.2 == some .free) = true) : CompSc X x js scope (capCl X.env.cells scope.names []) := by
  subst hfs
  have ho' : ∀ y ∈ scope.names, y.2 = .local ∨ y.2 = .globalImplicit ∨ (y.2 = .free ∧ X.env.scope.names.lookup y.1 = some .cell) := fun y hy => by
    have := List.all_eq_true.mp ho y hy
    simpa [or_assoc] using this
  have cell : ∀ y ∈ scope.names, y.2 = .free → X.env.scope.names.lookup y.1 = some .cell := fun y hy e => by
    rcases ho' y hy with h | h | h
    · rw [h] at e; cases e
    · rw [h] at e; cases e
    · exact h.2
  have has : ∀ y ∈ scope.names, y.2 = .free → ∃ c, X.env.cells.lookup y.1 = some c := fun y hy e => by rw [hc]; exact cell_has (cell y hy e)
  refine ⟨closureFor_cap has, fun y hy e => ?_, hk, hn, own, fun y c h => capCl_lookup has (by simp) h, fun y h => ?_, nd, fun p hp => ?_⟩
  · rcases ho' y hy with h | h | h
    · rw [h] at e; cases e
    · rw [h] at e; cases e
    · rw [h.1] at e; cases e
  · refine capCl_has (.inl ?_)
    have key : ∀ k, (relabel scope X.env).names.lookup y = some k → (k = .cell ∨ k = .free) → (y, NameKind.free) ∈ scope.names := fun k h hk => by
      have hm := PySem.mem_of_lookup h
      unfold relabel at hm
      obtain ⟨⟨n, k'⟩, hz, e⟩ := List.mem_map.mp hm
      have h3 := ho' _ hz
      by_cases hcnd : (k' == NameKind.free && X.env.scope.kind == .function && X.env.kindOf n == some .cell) = true
      · simp only [hcnd, if_true] at e
        have h4 : n = y := (Prod.mk.inj e).1
        subst h4
        have h5 : k' = .free := by simp only [Bool.and_eq_true, beq_iff_eq] at hcnd; exact hcnd.1.1
        subst h5; exact hz
      · simp only [hcnd] at e
        have e := Prod.mk.inj e
        have h4 : n = y := e.1
        have h5 : k' = k := e.2
        subst h4 h5
        rcases h3 with h | h | h
        · rw [show k' = _ from h] at hk; rcases hk with hk | hk <;> cases hk
        · rw [show k' = _ from h] at hk; rcases hk with hk | hk <;> cases hk
        · rw [show k' = _ from h.1] at hz; exact hz
    rcases h with h | h
    · exact key _ h (.inl rfl)
    · exact key _ h (.inr rfl)
  · have e1 := List.map_inj_left.mp hj p hp
    have e2 : scope.names.lookup p.2 = some .free := by simpa using List.all_eq_true.mp hf p hp
    have hm := PySem.mem_of_lookup e2
    have e3 := cell _ hm rfl
    have hkd : X.env.kindOf p.2 = some .cell := e3
    refine ⟨e1, hkd, ?_, capCl_has (.inl hm)⟩
    have q : ∀ (ns : List (Str × NameKind)), ns.lookup p.2 = some .free → (ns.map fun (n, k) => if (k == NameKind.free && X.env.scope.kind == .function && X.env.kindOf n == some .cell) then (n, NameKind.cell) else (n, k)).lookup p.2 = some .cell := by
      intro ns
      induction ns with
      | nil => intro h; simp at h
      | cons z r ih =>
        intro h
        obtain ⟨n, k⟩ := z
        show List.lookup p.2 ((if (k == NameKind.free && X.env.scope.kind == .function && X.env.kindOf n == some .cell) = true then (n, NameKind.cell) else (n, k)) :: _) = _
        cases hx : p.2 == n with
        | true =>
          simp only [List.lookup_cons, hx] at h
          cases h
          have := eq_of_beq hx
          subst this
          rw [if_pos (by simp [hX, hkd])]
          simp [List.lookup_cons]
        | false =>
          simp only [List.lookup_cons, hx] at h
          by_cases hcd : (k == NameKind.free && X.env.scope.kind == .function && X.env.kindOf n == some .cell) = true
          · rw [if_pos hcd]; simp only [List.lookup_cons, hx]; exact ih h
          · rw [if_neg hcd]; simp only [List.lookup_cons, hx]; exact ih h
    exact q _ e2
end L2

end
section
set_option Elab.async false
set_option linter.all false
set_option maxRecDepth 100000
set_option maxHeartbeats 4000000
namespace L2
open PySem PySem.Spec PyProof.Rows
local macro_rules | `(tactic| walk_at "rd") => `(tactic| try simp only [tVar, tC, tOp, tUn, tSeq, tAsg, gName, tRet, tRetN, tIfS, tDrop, tNext, tCons, tNil, tCall, tCB, tTest, tB, tAnd, tOr, tNot, tAndV, tOrV, tNotV, tIf, tTup, tLst, tSl, tPart, tNoPart, tBM, tBM0, L2.start, rI2, rI3, rAddA, rMulA, rSubI, rDivI, rModI, rPowI, rNegI, rLt, rLe, rGt, rGe, rIsN, rNotN, rEqS, rNeS, rLen, rIxA, rIntA, rMax2, rMin2, rStrI, rListOf, rIsi2, isiF, isiO, rSlA, rStarts2, rEnds2, CDiv,
  List.map_cons, List.map_nil, List.length_cons, List.length_nil, List.replicate_succ, List.replicate_zero, List.cons_append, List.nil_append, List.append_nil, List.getElem?_cons_zero, List.getElem?_cons_succ, List.set_cons_zero, List.set_cons_succ, Option.some.injEq, V.int.injEq, V.str.injEq, V.bl.injEq, V.ref.injEq, V.ty.injEq, reduceCtorEq, exists_eq_left', exists_eq_left, exists_eq_right, exists_eq_right', exists_eq', exists_eq, exists_and_left, exists_and_right, false_and, and_false, true_and, and_true, exists_const, exists_false, false_or, or_false, List.cons.injEq, and_assoc, decide_eq_true_eq, decide_true, decide_false, Int.reduceLT, Int.reduceLE, Nat.reduceLT, Nat.reduceLeDiff, Nat.reduceSub, Nat.reduceAdd, Nat.sub_self, Nat.sub_zero, enc_eq, enc_nil, enc_0, enc_1, enc_01, enc_append, enc_len, Bool.not_true, Bool.not_false, Bool.false_eq_true, if_true, if_false, ↓reduceIte, String.reduceEq, or_true, true_or, Nat.one_mul, addr_len, bitsBy_len, List.length_append, List.length_replicate, List.length_map])
local macro_rules | `(tactic| walk_at "sz") => `(tactic| (have hline := line_ge; first | omega | (simp; omega)))
/-! ### rows by their heads -/
def hcp (r : Row) : List Nat := (enc r.1).cps.toList
theorem hcp_inj {a b : Row} (h : hcp a = hcp b) : a.1 = b.1 := by
  unfold hcp at h
  refine enc_inj ?_
  cases ha : enc a.1
  cases hb : enc b.1
  rw [ha, hb] at h
  congr 1
  exact Array.toList_inj.mp h
theorem nodup_heads : ∀ {rs : List Row} {a b : Row}, (rs.map (·.1)).Nodup → a ∈ rs → b ∈ rs → a.1 = b.1 → a = b
  | [], _, _, _, h, _, _ => by cases h
  | r :: rs, a, b, hn, ha, hb, e => by
    rw [List.map_cons, List.nodup_cons] at hn
    rcases List.mem_cons.mp ha with rfl | ha'
    · rcases List.mem_cons.mp hb with rfl | hb
      · rfl
      · have : a.1 ∈ rs.map (·.1) := List.mem_map.mpr ⟨b, hb, e.symm⟩
        exact absurd this hn.1
    · rcases List.mem_cons.mp hb with rfl | hb
      · have : b.1 ∈ rs.map (·.1) := List.mem_map.mpr ⟨a, ha', e⟩
        exact absurd this hn.1
      · exact nodup_heads hn.2 ha' hb e
structure SortR (rs ss : List Row) : Prop where
  perm : ss.Perm rs
  up : ss.Pairwise fun a b => ¬ hcp b < hcp a
theorem SortR.unique {rs ts ss us : List Row} (h : SortR rs ss) (g : SortR ts us) (p : rs.Perm ts) (hn : (rs.map (·.1)).Nodup) : ss = us := by
  refine List.Perm.eq_of_pairwise (le := fun a b => ¬ hcp b < hcp a) (fun a b ha hb h1 h2 => ?_) h.up g.up (h.perm.trans (p.trans g.perm.symm))
  have e : hcp a = hcp b := List.le_antisymm h1 h2
  have e1 := hcp_inj e
  have ma : a ∈ rs := h.perm.mem_iff.mp ha
  have mb : b ∈ rs := p.mem_iff.mpr (g.perm.mem_iff.mp hb)
  exact nodup_heads hn ma mb e1
end L2

end
section
set_option Elab.async false
set_option linter.all false
set_option maxRecDepth 100000
set_option maxHeartbeats 4000000
namespace L2
open PySem PySem.Spec PyProof.Rows
/-! ### a lambda that captures nothing, as the key of sorted -/
/-- the code object that a lambda's text has made -/
def lamCode (c' : Addr) (qual : Str) : HO := .ext fun h => h.CodeRec (.ref c') qual
/-- the table of the code of the def around the lambda: empty, or the lambda's code stands there -/
def LamT (P : Addr) (lp : Pos) (qual : Str) (H : Hp) : Prop :=
  H P = some (.tbl #[]) ∨ ∃ c', H P = some (.tbl #[rawInt lp.line, rawInt lp.col, .ref c']) ∧ H c' = some (lamCode c' qual)
/-- all but the tables is as it was -/
structure Grow (H H' : Hp) : Prop where
  old : ∀ b o, H b = some o → (∀ ps, o ≠ .tbl ps) → H' b = some o
  tab : ∀ b ps, H b = some (.tbl ps) → ∃ ps', H' b = some (.tbl ps')
theorem Grow.refl (H : Hp) : Grow H H := ⟨fun _ _ h _ => h, fun _ ps h => ⟨ps, h⟩⟩
theorem Grow.trans {H H1 H2 : Hp} (a : Grow H H1) (b : Grow H1 H2) : Grow H H2 := ⟨fun c o h n => b.old c o (a.old c o h n) n, fun c ps h => let ⟨ps', h'⟩ := a.tab c ps h; b.tab c ps' h'⟩
theorem Grow.of {H H' : Hp} (h : Same H H') : Grow H H' := ⟨fun b o e _ => h b o e, fun b ps e => ⟨ps, h b _ e⟩⟩
theorem Grow.free {H H' : Hp} (g : Grow H H') {l : Addr} (h : H' l = none) : H l = none := by
  cases e : H l with
  | none => rfl
  | some o =>
    by_cases n : ∃ ps, o = .tbl ps
    · obtain ⟨ps, rfl⟩ := n
      obtain ⟨ps', e'⟩ := g.tab l ps e
      rw [h] at e'; cases e'
    · have e' := g.old l o e fun ps z => n ⟨ps, z⟩
      rw [h] at e'; cases e'
theorem Grow.upd {H H' : Hp} (g : Grow H H') {l : Addr} {o : HO} (h : H' l = none) : Grow H (L2.upd H' l o) :=
  ⟨fun b u e n => by rw [upd_ne (ne_of_none (g.old b u e n) h)]; exact g.old b u e n, fun b ps e => by
    obtain ⟨ps', e'⟩ := g.tab b ps e
    exact ⟨ps', by rw [upd_ne (ne_of_none e' h)]; exact e'⟩⟩
/-- a list that is not of the older heap is written -/
theorem Grow.put {H H' : Hp} (g : Grow H H') {l : Addr} {xs : List V} {o : HO} (h : H' l = some (.lst xs)) (n : H l = none) : Grow H (L2.upd H' l o) :=
  ⟨fun b u e m => by rw [upd_ne (ne_of_none e n)]; exact g.old b u e m, fun b ps e => by
    obtain ⟨ps', e'⟩ := g.tab b ps e
    exact ⟨ps', by rw [upd_ne (ne_of_none e n)]; exact e'⟩⟩
theorem Grow.lst {H H' : Hp} (g : Grow H H') {a : Addr} {xs : List V} (h : H a = some (.lst xs)) : H' a = some (.lst xs) := g.old a _ h fun _ z => nomatch z
theorem Grow.tup {H H' : Hp} (g : Grow H H') {a : Addr} {xs : List V} (h : H a = some (.tup xs)) : H' a = some (.tup xs) := g.old a _ h fun _ z => nomatch z
theorem Grow.rd {H H' : Hp} (g : Grow H H') {a : Addr} {u : HO} (n : ∀ ps, u ≠ .tbl ps) (h : Rd H a u) : Rd H' a u := by
  rcases h with h | ⟨o, h⟩
  · exact .inl (g.old a _ h n)
  · exact .inr ⟨o, g.old a _ h fun _ z => nomatch z⟩
theorem LamT.same {P : Addr} {lp : Pos} {qual : Str} {H H' : Hp} (h : LamT P lp qual H) (s : Same H H') : LamT P lp qual H' := by
  rcases h with h | ⟨c', h1, h2⟩
  · exact .inl (s _ _ h)
  · exact .inr ⟨c', s _ _ h1, s _ _ h2⟩
theorem LamT.upd {P : Addr} {lp : Pos} {qual : Str} {H : Hp} {l : Addr} {o : HO} (h : LamT P lp qual H) (hl : H l = none ∨ ∃ xs, H l = some (.lst xs)) : LamT P lp qual (upd H l o) := by
  have ne : ∀ b u, H b = some u → (∀ xs, u ≠ .lst xs) → b ≠ l := fun b u e n z => by
    subst z
    rcases hl with hl | ⟨xs, hl⟩
    · rw [hl] at e; cases e
    · rw [hl] at e; cases e; exact n xs rfl
  rcases h with h | ⟨c', h1, h2⟩
  · exact .inl ((upd_ne (ne _ _ h fun _ z => nomatch z)).trans h)
  · exact .inr ⟨c', (upd_ne (ne _ _ h1 fun _ z => nomatch z)).trans h1, (upd_ne (ne _ _ h2 fun _ z => nomatch z)).trans h2⟩
section
variable {X : Cx} {k : Nat} {c P : Addr} {args : Arguments} {body e : Expr} {scope : Scope} {lp kp p pos : Pos} {pn : Str} {t : TA} {tb : TE}
end
end L2

end
section
set_option Elab.async false
set_option linter.all false
set_option maxRecDepth 100000
set_option maxHeartbeats 4000000
namespace L2
open PySem PySem.Spec PyProof.Rows
/-! ### a law whose program has one def with a lambda: that def's code table is tracked from the start -/
section
variable {X : Cx} {k : Nat} {c Pt : Addr} {args : Arguments} {body e : Expr} {scope : Scope} {lp lp' kp p pos : Pos} {pn : Str} {t : TA} {tb : TE}
end
end L2

end
section
set_option Elab.async false
set_option linter.all false
set_option maxRecDepth 100000
set_option maxHeartbeats 4000000
namespace L2
open PySem PySem.Spec PyProof.Rows
local macro_rules | `(tactic| walk_at "rd") => `(tactic| try simp only [tVar, tC, tOp, tUn, tSeq, tAsg, gName, tRet, tRetN, tIfS, tDrop, tNext, tCons, tNil, tCall, tCB, tTest, tB, tAnd, tOr, tNot, tAndV, tOrV, tNotV, tIf, tTup, tLst, tSl, tPart, tNoPart, tBM, tBM0, L2.start, rI2, rI3, rAddA, rMulA, rSubI, rDivI, rModI, rPowI, rNegI, rLt, rLe, rGt, rGe, rIsN, rNotN, rEqS, rNeS, rLen, rIxA, rIntA, rMax2, rMin2, rStrI, rListOf, rIsi2, isiF, isiO, rSlA, rStarts2, rEnds2, CDiv,
  List.map_cons, List.map_nil, List.length_cons, List.length_nil, List.replicate_succ, List.replicate_zero, List.cons_append, List.nil_append, List.append_nil, List.getElem?_cons_zero, List.getElem?_cons_succ, List.set_cons_zero, List.set_cons_succ, Option.some.injEq, V.int.injEq, V.str.injEq, V.bl.injEq, V.ref.injEq, V.ty.injEq, reduceCtorEq, exists_eq_left', exists_eq_left, exists_eq_right, exists_eq_right', exists_eq', exists_eq, exists_and_left, exists_and_right, false_and, and_false, true_and, and_true, exists_const, exists_false, false_or, or_false, List.cons.injEq, and_assoc, decide_eq_true_eq, decide_true, decide_false, Int.reduceLT, Int.reduceLE, Nat.reduceLT, Nat.reduceLeDiff, Nat.reduceSub, Nat.reduceAdd, Nat.sub_self, Nat.sub_zero, enc_eq, enc_nil, enc_0, enc_1, enc_01, enc_append, enc_len, Bool.not_true, Bool.not_false, Bool.false_eq_true, if_true, if_false, ↓reduceIte, String.reduceEq, or_true, true_or, Nat.one_mul, addr_len, bitsBy_len, List.length_append, List.length_replicate, List.length_map])
local macro_rules | `(tactic| walk_at "sz") => `(tactic| (have hline := line_ge; first | omega | (simp; omega)))
theorem Grow.tp {H H' : Hp} (g : Grow H H') : Tp H H' := fun b xs e => g.tup e
/-! ### a deed done -/
inductive Deed where
  | drop (h : List Bool)
  | put (h : List Bool) (w : Option Int)
def Deed.head : Deed → List Bool
  | .drop h => h
  | .put h _ => h
def DeedIs (H : Hp) (v : V) : Deed → Prop
  | .drop h => ∃ p, v = .ref p ∧ H p = some (.tup [.str (Str.ofString "drop"), .str (enc h)])
  | .put h w => ∃ p, v = .ref p ∧ H p = some (.tup [.str (Str.ofString "put"), .str (enc h), wayV w])
theorem DeedIs.mono {H H' : Hp} {v : V} {d : Deed} (h : DeedIs H v d) (t : Tp H H') : DeedIs H' v d := by
  cases d with
  | drop => obtain ⟨p, e, q⟩ := h; exact ⟨p, e, t _ _ q⟩
  | put => obtain ⟨p, e, q⟩ := h; exact ⟨p, e, t _ _ q⟩
/-! ### rows picked by a test -/
end L2

end
section
set_option Elab.async false
set_option linter.all false
set_option maxRecDepth 100000
set_option maxHeartbeats 4000000
namespace L2
open PySem PySem.Spec PyProof.Rows
/-! ### a list has no attribute keys -/
theorem lk_list_keys : typeLookup (.type "list") "keys" = pure none := am_miss_of_fast (by kernel_rfl)
theorem lk_list_getattr : typeLookup (.type "list") "__getattr__" = pure none := by rw [typeLookup_type, builtinLookup_eq_fast]; kernel_rfl
section
variable {prog : Program} {w : World} {A : Around} {E : Value → Shared → Prop} {h : Heap} {g : Array GenState} {d : Drawn} {t : Nat} {os : OsState} {a : Addr} {o : Obj}
theorem list_keys_entry {u : Tok} {Q : PySem.Fin → Shared → Prop} (hx : h.get? a = some o) (hc : o.cls = .type "list") (hd : o.dict = none) {vs : Array Value} {n : Nat} (hdt : o.data = .seq vs n) (hh : A.handled = none)
    (hq : ∀ h' tk e, Heap.NewAttrErr h h' e (.ref a) "keys" → E (.ref e) ⟨h', g, d, tk, os⟩) : wpAny (model prog w) A (Builtin.«object.__getattribute__» ⟨[.ref a, .str "keys" u], []⟩) Q E ⟨h, g, d, t, os⟩ := by
  have hT : (⟨h, g, d, t, os⟩ : Shared).TypeIs (.ref a) "list" := ⟨_, hx, hc⟩
  have f1 := lk_list_keys
  unfold Builtin.«object.__getattribute__»
  repeat (any_goals (first | assumption | wp_step))
  rw [hdt]
  dsimp only
  unfold instanceDict
  repeat (any_goals (first | assumption | wp_step))
  rw [hc, hd]
  dsimp only
  simp only [Bool.not_false, Bool.true_or, if_true]
  repeat (any_goals (first | assumption | wp_step))
  exact wpAny_raiseAttrError hh hq (attrMsg_fits (by decide +kernel) (by size_fits))
theorem list_keys_call {u : Tok} {Q : Value → Shared → Prop} (hx : h.get? a = some o) (hc : o.cls = .type "list") (hd : o.dict = none) {vs : Array Value} {n : Nat} (hdt : o.data = .seq vs n) (hh : A.handled = none)
    (hq : ∀ h' tk e, Heap.NewAttrErr h h' e (.ref a) "keys" → E (.ref e) ⟨h', g, d, tk, os⟩) : wpAny (model prog w) A (call (.builtin "list.__getattribute__") [.ref a, .str "keys" u]) Q E ⟨h, g, d, t, os⟩ := by
  refine wpAny_call (codeAny_call_builtin F.slot_list_getattribute.plain F.entry_list_ga (F.slot_list_getattribute.check _ _ _ _ _ _ _ _ (show (⟨h, g, d, t, os⟩ : Shared).TypeIs (.ref a) "list" from ⟨_, hx, hc⟩) (F.args_list_getattribute_2 _ _) ?_))
  exact list_keys_entry hx hc hd hdt (by exact hh) hq
theorem getAttr?_list_keys {Q : Option Value → Shared → Prop} (hx : h.get? a = some o) (hc : o.cls = .type "list") (hd : o.dict = none) {vs : Array Value} {n : Nat} (hdt : o.data = .seq vs n) (hh : A.handled = none)
    (hq : ∀ h' tk, (∀ b ob, h.get? b = some ob → h'.get? b = some ob) → Q none ⟨h', g, d, tk, os⟩) : wpAny (model prog w) A (getAttr? (.ref a) "keys") Q E ⟨h, g, d, t, os⟩ := by
  have hT : (⟨h, g, d, t, os⟩ : Shared).TypeIs (.ref a) "list" := ⟨_, hx, hc⟩
  have f1 := sub_AttributeError
  have f3 := F.slot_list_getattribute.lookup
  have f4 := F.slot_list_getattribute.bind (.ref a)
  have f5 := lk_list_getattr
  unfold getAttr? getAttrBy? getAttrBy
  repeat (any_goals (first | assumption | ((with_reducible show wpAny _ _ (call (Value.builtin "list.__getattribute__") _ _) _ _ _); refine list_keys_call hx hc hd hdt hh fun h' tk' e hx' => ?_) | wp_step))
  rw [hc]
  repeat (any_goals (first | assumption | ((with_reducible show wpAny _ _ (call (Value.builtin "list.__getattribute__") _ _) _ _ _); refine list_keys_call hx hc hd hdt hh fun h' tk' e hx' => ?_) | wp_step))
  obtain ⟨t', u', he⟩ := hx'.there
  repeat (any_goals (first | assumption | wp_step))
  exact hq _ _ hx'.keeps
end
end L2

end
section
set_option Elab.async false
set_option linter.all false
set_option maxRecDepth 100000
namespace L2
open PySem PySem.Spec PyProof.Rows

/-! ### lists of pairs as tables -/
section
variable {κ : Type} [DecidableEq κ]
def valV (kvs : List (κ × V)) (k : κ) : Option V := (kvs.find? fun kv => decide (kv.1 = k)).map (·.2)
/-- in its place, or at the end -/
def putK (kvs : List (κ × V)) (k : κ) (v : V) : List (κ × V) :=
  if (kvs.any fun kv => decide (kv.1 = k)) = true then kvs.map (fun kv => if kv.1 = k then (kv.1, v) else kv) else kvs ++ [(k, v)]
def dropK (kvs : List (κ × V)) (k : κ) : List (κ × V) := kvs.filter fun kv => decide (kv.1 ≠ k)

theorem valV_pos {p : κ × V} {r : List (κ × V)} {k : κ} (e : p.1 = k) : valV (p :: r) k = some p.2 := by simp [valV, List.find?_cons, e]
theorem valV_neg {p : κ × V} {r : List (κ × V)} {k : κ} (e : ¬ p.1 = k) : valV (p :: r) k = valV r k := by simp [valV, List.find?_cons, e]
theorem valV_any (k : κ) : ∀ kvs : List (κ × V), (kvs.any fun kv => decide (kv.1 = k)) = (valV kvs k).isSome
  | [] => rfl
  | p :: r => by
    rw [List.any_cons]
    by_cases e : p.1 = k
    · simp only [valV_pos e, decide_eq_true e, Bool.true_or, Option.isSome_some]
    · rw [valV_neg e, decide_eq_false e, Bool.false_or]; exact valV_any k r
theorem length_putK (kvs : List (κ × V)) (k : κ) (v : V) : (putK kvs k v).length ≤ kvs.length + 1 := by
  unfold putK
  split
  · rw [List.length_map]; omega
  · rw [List.length_append, List.length_cons, List.length_nil]; omega
theorem putK_new {kvs : List (κ × V)} {k : κ} (v : V) (h : valV kvs k = none) : putK kvs k v = kvs ++ [(k, v)] := by
  unfold putK
  rw [valV_any, h]
  exact if_neg (by decide)

theorem RelO.isSome_eq {o : Option V} {u : Option Value} (r : RelO o u) : o.isSome = u.isSome := by
  cases o with
  | none => cases u with
    | none => rfl
    | some _ => exact (show False from r).elim
  | some _ => cases u with
    | none => exact (show False from r).elim
    | some _ => rfl
theorem RelO.getD {o : Option V} {u : Option Value} {d : V} {d' : Value} (r : RelO o u) (rd : RelV d d') : RelV (o.getD d) (u.getD d') := by
  cases o with
  | none => cases u with
    | none => exact rd
    | some _ => exact (show False from r).elim
  | some _ => cases u with
    | none => exact (show False from r).elim
    | some _ => exact r

/-- raw tables of the same keys -/
theorem KV.val {kvs : List (κ × V)} {vs : List (κ × Value)} (r : KV kvs vs) (k : κ) : RelO (valV kvs k) (valueAt vs k) := by
  unfold KV at r
  induction r with
  | nil => exact True.intro
  | @cons p q ps qs h t ih =>
    obtain ⟨h1, h2⟩ := h
    by_cases e : p.1 = k
    · have e' : q.1 = k := h1.symm.trans e
      have b : valueAt (q :: qs) k = some q.2 := by simp [valueAt, List.find?_cons, e']
      rw [valV_pos e, b]; exact h2
    · have e' : ¬ q.1 = k := fun z => e (h1.trans z)
      have b : valueAt (q :: qs) k = valueAt qs k := by simp [valueAt, List.find?_cons, e']
      rw [valV_neg e, b]; exact ih
theorem KV.any {kvs : List (κ × V)} {vs : List (κ × Value)} (r : KV kvs vs) (k : κ) : (kvs.any fun kv => decide (kv.1 = k)) = vs.any fun kv => decide (kv.1 = k) := by
  unfold KV at r
  induction r with
  | nil => rfl
  | cons h t ih => rw [List.any_cons, List.any_cons, ih, h.1]
theorem KV.repl {kvs : List (κ × V)} {vs : List (κ × Value)} (r : KV kvs vs) (k : κ) {y : V} {u : Value} (ry : RelV y u) :
    KV (kvs.map fun kv => if kv.1 = k then (kv.1, y) else kv) (vs.map fun kv => if kv.1 = k then (kv.1, u) else kv) := by
  unfold KV at r ⊢
  induction r with
  | nil => exact .nil
  | @cons p q ps qs h t ih =>
    rw [List.map_cons, List.map_cons]
    refine .cons ?_ ih
    obtain ⟨h1, h2⟩ := h
    by_cases e : p.1 = k
    · rw [if_pos e, if_pos (h1.symm.trans e)]; exact ⟨h1, ry⟩
    · rw [if_neg e, if_neg (fun z => e (h1.trans z))]; exact ⟨h1, h2⟩
theorem KV.put {kvs : List (κ × V)} {vs : List (κ × Value)} (r : KV kvs vs) (k : κ) {y : V} {u : Value} (ry : RelV y u) : KV (putK kvs k y) (stored vs k u) := by
  unfold putK stored
  rw [r.any k]
  by_cases e : (vs.any fun kv => decide (kv.1 = k)) = true
  · rw [if_pos e, if_pos e]; exact r.repl k ry
  · rw [if_neg e, if_neg e]; exact Paired.snoc r ⟨rfl, ry⟩
theorem KV.drop {kvs : List (κ × V)} {vs : List (κ × Value)} (r : KV kvs vs) (k : κ) : KV (dropK kvs k) (without vs k) := by
  unfold KV at r ⊢
  unfold dropK without
  induction r with
  | nil => exact .nil
  | @cons p q ps qs h t ih =>
    obtain ⟨h1, h2⟩ := h
    rw [List.filter_cons, List.filter_cons]
    by_cases e : p.1 = k
    · have a : ¬ decide (p.1 ≠ k) = true := by simp [e]
      have b : ¬ decide (q.1 ≠ k) = true := by simp [h1.symm.trans e]
      rw [if_neg a, if_neg b]; exact ih
    · have e' : ¬ q.1 = k := fun z => e (h1.trans z)
      have a : decide (p.1 ≠ k) = true := by simp [e]
      have b : decide (q.1 ≠ k) = true := by simp [e']
      rw [if_pos a, if_pos b]; exact .cons ⟨h1, h2⟩ ih
theorem KV.keys {kvs : List (κ × V)} {vs : List (κ × Value)} (r : KV kvs vs) : kvs.map (·.1) = vs.map (·.1) := by
  unfold KV at r
  induction r with
  | nil => rfl
  | cons h t ih => rw [List.map_cons, List.map_cons, ih, h.1]
theorem KV.length {kvs : List (κ × V)} {vs : List (κ × Value)} (r : KV kvs vs) : kvs.length = vs.length := Paired.length r
end


/-! ### a tracked dict, its keys ints and texts or tuples of these -/
theorem kV_is {P : Program} {w : World} {k : Key} {u : Value} (r : RelV (kV k) u) : (mixKind P w).is k u = true := by
  cases k with
  | inl i => obtain ⟨t, e⟩ := (show ∃ t, u = Value.int i t from r); subst e; exact mixKind_int P w i t
  | inr x => obtain ⟨t, e⟩ := (show ∃ t, u = Value.str x t from r); subst e; exact mixKind_str P w x t
theorem items_are {P : Program} {w : World} : ∀ {ks : List Key} {us : List Value}, Vals (ks.map kV) us → ItemsAre (mixKind P w) ks us
  | [], _, r => by rw [List.map_nil] at r; cases r; exact .nil
  | k :: ks, _, r => by
    rw [List.map_cons] at r
    cases r with
    | cons h t => exact .cons (kV_is h) (items_are t)

/-- raw entries of a dict with tuple keys -/
abbrev KT (H : Hp) : List (List Key × V) → List (List Key × Addr × Value) → Prop := Paired fun p q => p.1 = q.1 ∧ H q.2.1 = some (.tup (p.1.map kV)) ∧ RelV p.2 q.2.2
theorem KT.val {H : Hp} {kvs : List (List Key × V)} {xs : List (List Key × Addr × Value)} (r : KT H kvs xs) (k : List Key) : RelO (valV kvs k) ((atKey xs k).map (·.2)) := by
  induction r with
  | nil => exact True.intro
  | @cons p q ps qs h t ih =>
    obtain ⟨h1, _, h2⟩ := h
    by_cases e : p.1 = k
    · have e' : q.1 = k := h1.symm.trans e
      have b : atKey (q :: qs) k = some q.2 := by simp [atKey, List.find?_cons, e']
      rw [valV_pos e, b]; exact h2
    · have e' : ¬ q.1 = k := fun z => e (h1.trans z)
      have b : atKey (q :: qs) k = atKey qs k := by simp [atKey, List.find?_cons, e']
      rw [valV_neg e, b]; exact ih
theorem KT.repl {H : Hp} {kvs : List (List Key × V)} {xs : List (List Key × Addr × Value)} (r : KT H kvs xs) (k : List Key) {y : V} {u : Value} (ry : RelV y u) :
    KT H (kvs.map fun kv => if kv.1 = k then (kv.1, y) else kv) (xs.map (putAt k u)) := by
  induction r with
  | nil => exact .nil
  | @cons p q ps qs h t ih =>
    rw [List.map_cons, List.map_cons]
    refine .cons ?_ ih
    obtain ⟨h1, h2, h3⟩ := h
    unfold putAt
    by_cases e : p.1 = k
    · rw [if_pos e, if_pos (h1.symm.trans e)]; exact ⟨h1, h2, ry⟩
    · rw [if_neg e, if_neg (fun z => e (h1.trans z))]; exact ⟨h1, h2, h3⟩
theorem KT.put {H : Hp} {kvs : List (List Key × V)} {xs : List (List Key × Addr × Value)} (r : KT H kvs xs) (k : List Key) {b : Addr} {y : V} {u : Value} (hb : H b = some (.tup (k.map kV))) (ry : RelV y u) :
    KT H (putK kvs k y) (storedH xs k b u) := by
  have e : (kvs.any fun kv => decide (kv.1 = k)) = (atKey xs k).isSome := by
    rw [valV_any, (r.val k).isSome_eq, Option.isSome_map]
  unfold putK storedH
  rw [e]
  by_cases q : (atKey xs k).isSome = true
  · rw [if_pos q, if_pos q]; exact r.repl k ry
  · rw [if_neg q, if_neg q]; exact Paired.snoc r ⟨rfl, hb, ry⟩
theorem KT.keeps {H H' : Hp} {kvs : List (List Key × V)} {xs : List (List Key × Addr × Value)} (r : KT H kvs xs) (ht : ∀ b ys, H b = some (.tup ys) → H' b = some (.tup ys)) : KT H' kvs xs :=
  Paired.mapP r fun _ _ z => ⟨z.1, ht _ _ z.2.1, z.2.2⟩

section
variable {P : Program} {w : World} {H : Hp} {h : Heap} {a : Addr}
theorem rd_of {u : HO} (ok : HOk P w H h) (e : Rd H a u) : ObjOk P w H h a u := e.ok ok
theorem dk_rd {kvs : List (Key × V)} (ok : HOk P w H h) (e : Rd H a (.dK kvs)) : kvs.length ≤ sizeLine ∧ (a == sysModules) = false ∧ ∃ vs, KV kvs vs ∧ h.DictOf (mixKind P w) a vs :=
  show ObjOk P w H h a (.dK kvs) from rd_of ok e
theorem dk_of {kvs : List (Key × V)} (ok : HOk P w H h) (e : H a = some (.dK kvs)) : kvs.length ≤ sizeLine ∧ (a == sysModules) = false ∧ ∃ vs, KV kvs vs ∧ h.DictOf (mixKind P w) a vs := dk_rd ok (.inl e)
/-- a tracked tuple of ints and texts is a key -/
theorem key_of {ks : List Key} (ok : HOk P w H h) (e : H a = some (.tup (ks.map kV))) : (tupleKind (mixKind P w)).is h ks a := by
  obtain ⟨_, its, r, o, h1, h2, n, h3⟩ := (show ObjOk P w H h a (.tup (ks.map kV)) from ok a _ e)
  exact ⟨o, its.toArray, n, h1, h2, h3, by simpa using items_are r⟩
theorem dt_rd {kvs : List (List Key × V)} (ok : HOk P w H h) (e : Rd H a (.dT kvs)) : kvs.length ≤ sizeLine ∧ (a == sysModules) = false ∧
    ∃ xs, KT H kvs xs ∧ h.DictOfH (tupleKind (mixKind P w)) a xs := by
  obtain ⟨z, y, xs, r, o, es, ep, h1, h2, h3, h4, h5⟩ := (show ObjOk P w H h a (.dT kvs) from rd_of ok e)
  refine ⟨z, y, xs, r, o, es, ep, h1, h2, h3, h4, fun x hx => ?_, h5⟩
  have all : ∀ {l : List (List Key × V)} {m : List (List Key × Addr × Value)}, KT H l m → ∀ x ∈ m, (tupleKind (mixKind P w)).is h x.1 x.2.1 := by
    intro l m q
    induction q with
    | nil => intro x hx; exact nomatch hx
    | @cons p q ps qs hq t ih =>
      intro x hx
      rcases List.mem_cons.mp hx with e | hx
      · subst e
        exact key_of ok (by rw [← hq.1]; exact hq.2.1)
      · exact ih x hx
  exact all r x hx
theorem dt_of {kvs : List (List Key × V)} (ok : HOk P w H h) (e : H a = some (.dT kvs)) : kvs.length ≤ sizeLine ∧ (a == sysModules) = false ∧
    ∃ xs, KT H kvs xs ∧ h.DictOfH (tupleKind (mixKind P w)) a xs := dt_rd ok (.inl e)
end

/-- what the dict at a holds at the key y -/
def DGet (H : Hp) (a : Addr) (y : V) (r : Option V) : Prop :=
  (∃ kvs k, Rd H a (.dK kvs) ∧ y = kV k ∧ r = valV kvs k) ∨ ∃ kvs k b, Rd H a (.dT kvs) ∧ y = .ref b ∧ H b = some (.tup (k.map kV)) ∧ r = valV kvs k
/-- the heap behind a[y] = v -/
def DPut (H : Hp) (a : Addr) (y v : V) (H' : Hp) : Prop :=
  (∃ kvs k, H a = some (.dK kvs) ∧ y = kV k ∧ kvs.length < sizeLine ∧ H' = upd H a (.dK (putK kvs k v))) ∨
  ∃ kvs k b, H a = some (.dT kvs) ∧ y = .ref b ∧ H b = some (.tup (k.map kV)) ∧ kvs.length < sizeLine ∧ H' = upd H a (.dT (putK kvs k v))
theorem DGet.k {H : Hp} {a : Addr} {kvs : List (Key × V)} {k : Key} (e : H a = some (.dK kvs)) : DGet H a (kV k) (valV kvs k) := .inl ⟨kvs, k, .inl e, rfl, rfl⟩
theorem DGet.t {H : Hp} {a b : Addr} {kvs : List (List Key × V)} {k : List Key} (e : H a = some (.dT kvs)) (eb : H b = some (.tup (k.map kV))) : DGet H a (.ref b) (valV kvs k) := .inr ⟨kvs, k, b, .inl e, rfl, eb, rfl⟩
theorem DPut.k {H : Hp} {a : Addr} {kvs : List (Key × V)} {k : Key} {v : V} (e : H a = some (.dK kvs)) (hl : kvs.length < sizeLine) : DPut H a (kV k) v (upd H a (.dK (putK kvs k v))) := .inl ⟨kvs, k, e, rfl, hl, rfl⟩
theorem DPut.t {H : Hp} {a b : Addr} {kvs : List (List Key × V)} {k : List Key} {v : V} (e : H a = some (.dT kvs)) (eb : H b = some (.tup (k.map kV))) (hl : kvs.length < sizeLine) :
    DPut H a (.ref b) v (upd H a (.dT (putK kvs k v))) := .inr ⟨kvs, k, b, e, rfl, eb, hl, rfl⟩


section
variable {X : Cx} {pins : List (Addr × Obj)} {σ : St} {H : Hp} {s : Shared} {a : Addr} {y v : V} {u r : Value} {o : Option V} {A : Around} {E : Value → Shared → Prop}

theorem Inv.big (I : Inv X pins σ H s) : sysModules < s.heap.objs.size := by
  have h : mainGlobals < s.heap.objs.size := (I.mod.glob.keeps I.bk).lt
  exact Nat.lt_trans (by decide) h

/-- d[y], there -/
theorem d_getItem {Q : Value → Shared → Prop} (hu : A.units + 1 < cLine) (I : Inv X pins σ H s) (g : DGet H a y (some v)) (ry : RelV y u) (h : ∀ w' s', Inv X pins σ H s' → RelV v w' → Q w' s') :
    wpAny (model X.prog X.w) A (getItem (.ref a) u) Q E s := by
  rcases g with ⟨kvs, k, e, ey, l⟩ | ⟨kvs, k, b, e, ey, eb, l⟩
  · subst ey
    obtain ⟨z, hd, vs, rel, dd⟩ := dk_rd I.hok e
    obtain ⟨w', hw, rw'⟩ := RelO.some_of (v := v) (o := valueAt vs k) (by rw [l]; exact rel.val k)
    exact wpAny_getItem_of (kV_is ry) dd.mapOf hw (h w' _ (I.tok _) rw')
  · subst ey
    cases (show u = Value.ref b from ry)
    obtain ⟨z, hd, xs, rel, dd⟩ := dt_rd I.hok e
    obtain ⟨w', hw, rw'⟩ := RelO.some_of (v := v) (o := (atKey xs k).map (·.2)) (by rw [l]; exact rel.val k)
    obtain ⟨p, hp, hp2⟩ := Option.map_eq_some_iff.mp hw
    refine wpAny_getItem_heap (tupleKind_room_in1 hu) (key_of I.hok eb) dd hp ?_
    rw [hp2]
    exact h w' _ (I.tok _) rw'
/-- y in d -/
theorem d_in {Q : Value → Shared → Prop} (hu : A.units + 1 < cLine) (I : Inv X pins σ H s) (g : DGet H a y o) (ry : RelV y u) (h : ∀ s', Inv X pins σ H s' → Q (.bool o.isSome) s') :
    wpAny (model X.prog X.w) A (compareOp .In u (.ref a)) Q E s := by
  rcases g with ⟨kvs, k, e, ey, l⟩ | ⟨kvs, k, b, e, ey, eb, l⟩
  · subst ey
    obtain ⟨z, hd, vs, rel, dd⟩ := dk_rd I.hok e
    refine wpAny_in_of (kV_is ry) hd dd.mapOf ?_
    rw [← (rel.val k).isSome_eq, ← l]
    exact h _ (I.tok _)
  · subst ey
    cases (show u = Value.ref b from ry)
    obtain ⟨z, hd, xs, rel, dd⟩ := dt_rd I.hok e
    refine wpAny_in_heap (tupleKind_room_in1 hu) (key_of I.hok eb) hd dd ?_
    have q := (rel.val k).isSome_eq
    rw [Option.isSome_map] at q
    rw [← q, ← l]
    exact h _ (I.tok _)
/-- a dict's object is replaced -/
theorem d_write {h' : Heap} {t' : Nat} {ob : HO} (I : Inv X pins σ H s) (mu : Mut (H a)) (hs : Heap.SameBut a s.heap h') (he : ∃ q, h'.get? a = some q) (new : ObjOk X.prog X.w (upd H a ob) h' a ob) :
    Inv X pins σ (upd H a ob) { s with heap := h', toks := t' } :=
  I.write (x := a) (e := a) mu (.inl rfl) (fun b q hb z => (hs.2 b hb).trans z) he new
theorem dk_new {P : Program} {w : World} {H' : Hp} {h' : Heap} {kvs : List (Key × V)} {vs : List (Key × Value)} (z : kvs.length ≤ sizeLine) (hd : (a == sysModules) = false) (rel : KV kvs vs) (dd : h'.DictOf (mixKind P w) a vs) :
    ObjOk P w H' h' a (.dK kvs) := ⟨z, hd, vs, rel, dd⟩
/-- d[y] = v -/
theorem d_setItem {H' : Hp} {Q : Unit → Shared → Prop} (hu : A.units + 1 < cLine) (I : Inv X pins σ H s) (g : DPut H a y v H') (ry : RelV y u) (rv : RelV v r) (h : ∀ s', Inv X pins σ H' s' → Q () s') :
    wpAny (model X.prog X.w) A (setItem (.ref a) u r) Q E s := by
  rcases g with ⟨kvs, k, e, ey, l, eH⟩ | ⟨kvs, k, b, e, ey, eb, l, eH⟩
  · subst ey eH
    obtain ⟨z, hd, vs, rel, dd⟩ := dk_of I.hok e
    have hz : vs.length ≤ sizeLine := by rw [← rel.length]; exact z
    have hl : (putK kvs k v).length ≤ sizeLine := by have := length_putK kvs k v; omega
    refine wpAny_setItem_pairs (hsz := hz) (kV_is ry) dd fun h' dd' hs => h _ ?_
    have he : ∃ q, h'.get? a = some q := let ⟨q, _, _, hq, _⟩ := dd'; ⟨q, hq⟩
    exact d_write I (by rw [e]; exact True.intro) hs he (dk_new hl hd (rel.put k rv) dd')
  · subst ey eH
    cases (show u = Value.ref b from ry)
    obtain ⟨z, hd, xs, rel, dd⟩ := dt_of I.hok e
    have hz : xs.length ≤ sizeLine := by rw [← Paired.length rel]; exact z
    have hl : (putK kvs k v).length ≤ sizeLine := by have := length_putK kvs k v; omega
    refine wpAny_setItem_heap (hsz := hz) (tupleKind_room_in1 hu) (key_of I.hok eb) dd fun h' dd' hs => h _ ?_
    obtain ⟨q, es, ep, hq, h2, h3, h4, _, h5⟩ := dd'
    refine d_write I (by rw [e]; exact True.intro) hs ⟨q, hq⟩ ⟨hl, hd, _, (rel.put k eb rv).keeps fun c ys ec => ?_, q, es, ep, hq, h2, h3, h4, h5⟩
    rw [upd_ne (ne_of ec e (fun z => nomatch z))]
    exact ec
end

section
variable {X : Cx} {pins : List (Addr × Obj)} {σ : St} {H : Hp} {s : Shared} {a : Addr} {kvs : List (Key × V)} {k : Key} {u : Value} {A : Around} {E : Value → Shared → Prop}
end


/-! ### readings and rules -/
/-- the element of a subscription, not a slice -/
def NoSl (i : Expr) : Prop := ∀ ov iv, subscripted i false ov iv = operate [ov, iv] (getItem ov iv)
theorem subD_of {prog : Program} {w : World} {A : Around} {E : Value → Shared → Prop} {s : Shared} {env : Env} {value slice : Expr} {pos : Pos} {T id : String} {Q : Value → Shared → Prop}
    (hl : typeLookup (.type T) "__getitem__" = pure (some (.builtin id))) (hs : NoSl slice)
    (h : wpAny (model prog w) A (eval value env) (fun o s₁ => wpAny (model prog w) A (eval slice env) (fun i s₂ => s₂.TypeIs o T ∧ wpAny (model prog w) A (getItem o i) Q E s₂) E s₁) E s) :
    wpAny (model prog w) A (eval (.Subscript value slice pos) env) Q E s := by
  refine Subscript_ (wpAny_mono h (fun o s₁ h₁ => wpAny_mono h₁ (fun i s₂ h₂ => ?_) fun _ _ x => x) fun _ _ x => x)
  obtain ⟨hT, h₂⟩ := h₂
  unfold subscriptTail
  refine wpAny_bind ?_
  rw [getitemInPython_of_ne hT.not_modules]
  refine wpAny_bind (wpAny_specialOf hT hl ?_)
  have fin : wpAny (model prog w) A (subscripted slice false o i) (fun r s₃ => wpAny (model prog w) A (letTemporaryGo value o r >>= fun _ => pure r) Q E s₃) E s₂ := by
    rw [hs o i]
    exact wpAny_operating (wpAny_mono h₂ (fun r s₃ h₃ => wpAny_bind (wpAny_letTemporaryGo (wpAny_pure h₃))) fun _ _ x => x)
  first
    | exact wpAny_pure (wpAny_bind fin)
    | exact wpAny_bind (wpAny_pure (wpAny_bind fin))
    | exact wpAny_bind fin

theorem dict_typeIs {X : Cx} {pins : List (Addr × Obj)} {σ : St} {H : Hp} {s : Shared} {a : Addr} {y : V} {o : Option V} (I : Inv X pins σ H s) (g : DGet H a y o) : s.TypeIs (.ref a) "dict" := by
  rcases g with ⟨kvs, k, e, _, _⟩ | ⟨kvs, k, b, e, _, _, _⟩
  · obtain ⟨_, _, vs, _, dd⟩ := dk_rd I.hok e
    exact dd.typeIs
  · obtain ⟨_, _, xs, _, dd⟩ := dt_rd I.hok e
    exact dd.typeIs
/-- d[y] -/
def tDGet (td ty : TE) : TE := fun σ H Q => td σ H fun x H1 => ty σ H1 fun y H2 => ∃ a v, x = .ref a ∧ DGet H2 a y (some v) ∧ Q v H2
/-- d[y] = v -/
def sDPut (td ty tv : TE) : TS := fun D σ H => tv σ H fun v H1 => td σ H1 fun x H2 => ty σ H2 fun y H3 => ∃ a H4, x = .ref a ∧ DPut H3 a y v H4 ∧ D.nx σ H4
section
variable {X : Cx} {o i e value : Expr} {pos pos' tpos : Pos} {td ty tv : TE}
theorem pe_dget (hu : X.A.units + 1 < cLine) (ho : PE X o td) (hi : PE X i ty) (hs : NoSl i) : PE X (.Subscript o i pos) (tDGet td ty) := by
  intro pins s σ H Q I h
  refine subD_of PySem.F.slot_dict_getitem.lookup hs (thn (ho pins s σ H _ I h) fun u s1 ⟨x, H1, I1, rx, q1⟩ => thn (hi pins s1 σ H1 _ I1 q1) fun iv s2 ⟨y, H2, I2, ry, a, v, ex, g, q2⟩ => ?_)
  subst ex
  obtain rfl : u = Value.ref a := rx
  exact ⟨dict_typeIs I2 g, d_getItem hu I2 g ry fun w' s3 I3 rw' => ⟨v, H2, I3, rw', q2⟩⟩
theorem ps_dput (hu : X.A.units + 1 < cLine) (ho : PE X o td) (hi : PE X i ty) (hv : PE X value tv) (hs : swapsWith value (some (.Subscript o i pos')) pos.line X.env = pure false) :
    PS X (.Assign [.Subscript o i pos'] value pos) (sDPut td ty tv) := by
  intro pins s σ H D I h
  refine wpAny_Assign_Subscript (thn (hv pins s σ H _ I h) fun r s1 ⟨v, H1, I1, rv, q1⟩ => thn (ho pins s1 σ H1 _ I1 q1) fun u s2 ⟨x, H2, I2, rx, q2⟩ => thn (hi pins s2 σ H2 _ I2 q2) fun iv s3 ⟨y, H3, I3, ry, a, H4, ex, g, q3⟩ => ?_) hs
  subst ex
  obtain rfl : u = Value.ref a := rx
  exact d_setItem hu I3 g ry rv fun s4 I4 => ⟨σ, H4, I4, q3⟩
end


/-! ### displays -/
theorem dk_empty {P : Program} {w : World} {H : Hp} (h : Heap) (hb : sysModules < h.objs.size) : ObjOk P w H (h.push { cls := .type "dict", data := .dict #[] }) h.objs.size (.dK []) :=
  ⟨Nat.zero_le _, beq_eq_false_iff_ne.mpr (Ne.symm (Nat.ne_of_lt hb)), [], .nil, Heap.DictOf.new h⟩
/-- {}, to be a dict of the kind that is wanted -/
def tDNewK : TE := fun _ H Q => ∀ p, H p = none → Q (.ref p) (upd H p (.dK []))
section
variable {X : Cx} {pos : Pos}
theorem pe_dnewK : PE X (.Dict [] [] pos) tDNewK := fun pins s σ H Q I h =>
  wpAny_Dict_empty ⟨.ref s.heap.objs.size, _, I.laid (a := s.heap.objs.size) (o := .dK []) (t' := s.toks) (fun _ _ q => Heap.get?_push_of_some _ q) (Nat.le_refl _) (dk_empty s.heap I.big), rfl, h _ (I.hok.fresh (Nat.le_refl _))⟩
end

/-- the pairs of a display, from the left -/
def tPairs : List (TE × TE) → St → Hp → (List (V × V) → Hp → Prop) → Prop
  | [], _, H, Q => Q [] H
  | (tk, tv) :: r, σ, H, Q => tk σ H fun x H1 => tv σ H1 fun y H2 => tPairs r σ H2 fun ps H3 => Q ((x, y) :: ps) H3
abbrev VV : List (V × V) → List (Value × Value) → Prop := Paired fun p q => RelV p.1 q.1 ∧ RelV p.2 q.2
def PPs (X : Cx) (pos : Pos) (keys : List (Option Expr)) (values : List Expr) (trs : List (TE × TE)) : Prop :=
  ∀ (pins : List (Addr × Obj)) (s : Shared) (σ : St) (H : Hp) (Q : List (V × V) → Hp → Prop), Inv X pins σ H s → tPairs trs σ H Q →
    wpAny (model X.prog X.w) X.A (evalPairs (pairTrees keys values X.env pos)) (fun vs s' => ∃ ps H', Inv X pins σ H' s' ∧ VV ps vs ∧ Q ps H') X.xe s
theorem pps_nil {X : Cx} {pos : Pos} : PPs X pos [] [] [] := fun pins s σ H Q I h => pairTrees_nil_walk ⟨[], H, I, .nil, h⟩
theorem pps_cons {X : Cx} {pos : Pos} {k v : Expr} {ks : List (Option Expr)} {vs : List Expr} {tk tv : TE} {trs : List (TE × TE)} (hk : PE X k tk) (hv : PE X v tv) (hr : PPs X pos ks vs trs) :
    PPs X pos (some k :: ks) (v :: vs) ((tk, tv) :: trs) := fun pins s σ H Q I h =>
  pairTrees_cons_walk (thn (hk pins s σ H _ I h) fun u s1 ⟨x, H1, I1, rx, q1⟩ => thn (hv pins s1 σ H1 _ I1 q1) fun w2 s2 ⟨y, H2, I2, ry, q2⟩ =>
    thn (hr pins s2 σ H2 _ I2 q2) fun ws s3 ⟨ps, H3, I3, rel, q3⟩ => ⟨(x, y) :: ps, H3, I3, .cons ⟨rx, ry⟩ rel, q3⟩)

def mergeK (kvs more : List (Key × V)) : List (Key × V) := more.foldl (fun acc kv => putK acc kv.1 kv.2) kvs
theorem KV.merge : ∀ {more : List (Key × V)} {rs : List (Key × Value)} {kvs : List (Key × V)} {vs : List (Key × Value)}, KV more rs → KV kvs vs → KV (mergeK kvs more) (merged vs rs) := by
  intro more rs kvs vs r
  unfold KV at r
  induction r generalizing kvs vs with
  | nil => intro q; exact q
  | @cons p q ps qs h t ih =>
    intro r0
    have e : KV (putK kvs p.1 p.2) (stored vs q.1 q.2) := by
      have := r0.put p.1 h.2
      rw [← h.1]; exact this
    exact ih e
theorem length_mergeK : ∀ (more kvs : List (Key × V)), (mergeK kvs more).length ≤ kvs.length + more.length
  | [], kvs => by show kvs.length ≤ kvs.length + 0; omega
  | p :: r, kvs => by
    have h1 := length_mergeK r (putK kvs p.1 p.2)
    have h2 := length_putK kvs p.1 p.2
    show (mergeK (putK kvs p.1 p.2) r).length ≤ _
    rw [List.length_cons]; omega
theorem carries_of {P : Program} {w : World} : ∀ {kvs : List (Key × V)} {ws : List (Value × Value)}, VV (kvs.map fun kv => (kV kv.1, kv.2)) ws → ∃ rs, Carries (mixKind P w) ws rs ∧ KV kvs rs
  | [], _, r => by rw [List.map_nil] at r; cases r; exact ⟨[], True.intro, .nil⟩
  | p :: kvs, _, r => by
    rw [List.map_cons] at r
    cases r with
    | @cons a b as bs h t =>
      obtain ⟨rs, c, q⟩ := carries_of (P := P) (w := w) t
      obtain ⟨b1, b2⟩ := b
      exact ⟨(p.1, b2) :: rs, ⟨kV_is h.1, rfl, c⟩, .cons ⟨rfl, h.2⟩ q⟩
/-- {k: v, ..} with keys ints and texts; the new dict stands empty while the pairs are made -/
def tDisp (trs : List (TE × TE)) : TE := fun σ H Q => ∀ p, H p = none → tPairs trs σ (upd H p (.dK [])) fun ps H2 => H2 p = some (.dK []) ∧ ∃ kvs : List (Key × V), ps = kvs.map (fun kv => (kV kv.1, kv.2)) ∧ kvs.length ≤ 15 ∧ Q (.ref p) (upd H2 p (.dK (mergeK [] kvs)))
theorem pe_disp {X : Cx} {pos : Pos} {keys : List (Option Expr)} {values : List Expr} {trs : List (TE × TE)} (h : PPs X pos keys values trs) (hall : keys.all (·.isSome) = true) (hl : keys.length = values.length) (h0 : keys ≠ [])
    (h15 : keys.length ≤ 15) : PE X (.Dict keys values pos) (tDisp trs) := by
  intro pins s σ H Q I q
  have hn := I.hok.fresh (Nat.le_refl s.heap.objs.size)
  have I1 := I.laid (a := s.heap.objs.size) (o := .dK []) (h' := s.heap.push { cls := .type "dict", data := .dict #[] }) (t' := s.toks) (fun _ _ q => Heap.get?_push_of_some _ q) (Nat.le_refl _) (dk_empty s.heap I.big)
  refine wpAny_Dict_walk (knd := mixKind X.prog X.w) hall hl h0 h15 (thn (h pins _ σ _ _ I1 (q _ hn)) fun ws s2 ⟨ps, H2, I2, rel, e, kvs, ep, lk, q2⟩ => ?_)
  subst ep
  obtain ⟨rs, c, rk⟩ := carries_of (P := X.prog) (w := X.w) rel
  obtain ⟨z, hd, vs0, r0, dd⟩ := dk_of I2.hok e
  cases r0
  refine ⟨rs, c, dd, fun h' dd' hs => ⟨.ref s.heap.objs.size, _, ?_, rfl, q2⟩⟩
  have hz : (mergeK [] kvs).length ≤ sizeLine := by
    have h1 := length_mergeK kvs []
    rw [List.length_nil] at h1
    rw [sizeLine_eq]; omega
  have he : ∃ q, h'.get? s.heap.objs.size = some q := let ⟨q, _, _, hq, _⟩ := dd'; ⟨q, hq⟩
  exact d_write I2 (by rw [e]; exact True.intro) hs he (dk_new hz hd (rk.merge .nil) dd')


/-! ### methods -/
/-- a method call o.m(e) of a built-in, with one argument: what must be seen of the text -/
structure M1 (X : Cx) (o : Expr) (m : Str) (apos : Pos) (e : Expr) (cpos : Pos) : Prop where
  base : attributeBase o m X.env (eval o X.env) = eval o X.env
  few : ((backTo cpos (starEach [e] X.env)).all (fun x => !x.1) && (backToKw cpos (keywordEach [] X.env)).all (fun x => x.1.isSome)
    && decide (([e] : List Expr).length + ([] : List Keyword).length + (if ([] : List Keyword).isEmpty then 0 else 1) < 30)) = true
  line : (apos.endLine == cpos.line) = true
  trees : backTo cpos (starEach [e] X.env) = [(false, eval e X.env)]
structure M2 (X : Cx) (o : Expr) (m : Str) (apos : Pos) (e f : Expr) (cpos : Pos) : Prop where
  base : attributeBase o m X.env (eval o X.env) = eval o X.env
  few : ((backTo cpos (starEach [e, f] X.env)).all (fun x => !x.1) && (backToKw cpos (keywordEach [] X.env)).all (fun x => x.1.isSome)
    && decide (([e, f] : List Expr).length + ([] : List Keyword).length + (if ([] : List Keyword).isEmpty then 0 else 1) < 30)) = true
  line : (apos.endLine == cpos.line) = true
  trees : backTo cpos (starEach [e, f] X.env) = [(false, eval e X.env), (false, eval f X.env)]

section
variable {X : Cx} {pins : List (Addr × Obj)} {σ : St} {H : Hp} {s : Shared} {a : Addr} {y d : V} {u r : Value} {o : Option V} {A : Around} {E : Value → Shared → Prop}
end

section
variable {X : Cx} {o e f : Expr} {apos cpos : Pos} {td ty tx : TE}
end

/-! ### dict(d): a copy -/
section
variable {X : Cx} {pins : List (Addr × Obj)} {σ : St} {H : Hp} {s : Shared} {a : Addr} {kvs : List (Key × V)} {A : Around} {E : Value → Shared → Prop}
end


section
variable {X : Cx} {pins : List (Addr × Obj)} {σ : St} {H : Hp} {s : Shared} {a : Addr} {y : V} {u : Value} {A : Around} {E : Value → Shared → Prop}
end
end L2


end
section
set_option Elab.async false
set_option linter.all false
set_option maxRecDepth 100000
set_option maxHeartbeats 4000000
namespace L2
open PySem PySem.Spec PyProof.Rows
/-! ### sorted(d): d's keys are texts, fewer than 64 -/
def strK (x : Str) : Key := Sum.inr x
/-- the keys of a dict, all of them texts -/
def KeysS (kvs : List (Key × V)) (ks : List Str) : Prop := kvs.map (·.1) = ks.map strK
def upS (ss : List Str) : Prop := ss.Pairwise fun a b => ¬ b.cps.toList < a.cps.toList
theorem vals_strs : ∀ {vs : List Value} {ss : List Str}, StrsAre vs ss → Vals (ss.map V.str) vs
  | _, _, .nil => .nil
  | _, _, .cons x t h => .cons ⟨t, rfl⟩ (vals_strs h)
theorem strsAre_of : ∀ (vs : List Value) (ks : List Str), vs.length = ks.length → (∀ (j : Nat) (v : Value), vs[j]? = some v → ∃ (k : Str) (t : Tok), ks[j]? = some k ∧ v = Value.str k t) → StrsAre vs ks
  | [], [], _, _ => .nil
  | [], _ :: _, h, _ => by simp at h
  | _ :: _, [], h, _ => by simp at h
  | v :: vs, k :: ks, h, f => by
    obtain ⟨k', t, e, rfl⟩ := f 0 v rfl
    cases e
    exact .cons k t (strsAre_of vs ks (by simpa using h) fun j v hv => f (j + 1) v hv)
theorem mix_str {P : Program} {w : World} {k : Str} {v : Value} (h : (mixKind P w).is (Sum.inr k) v = true) : ∃ t, v = Value.str k t := by
  rw [mixKind_is] at h
  obtain ⟨t, e⟩ := Value.isStrOf_shape (x := k) (v := v) h
  exact ⟨t, e⟩
theorem rising_pw : ∀ {l : List Str} {p : Str}, risingS p l = true → (p :: l).Pairwise fun a b => ¬ b.cps.toList < a.cps.toList
  | [], p, _ => by simp
  | x :: l, p, h => by
    unfold risingS at h
    rw [Bool.and_eq_true, ltCps_eq] at h
    have ih := rising_pw h.2
    have h1 : ¬ x.cps.toList < p.cps.toList := by simpa using h.1
    rw [List.pairwise_cons]
    refine ⟨fun y hy => ?_, ih⟩
    rcases List.mem_cons.mp hy with rfl | hy
    · exact h1
    · have h2 := (List.pairwise_cons.mp ih).1 y hy
      exact (List.le_trans (show p.cps.toList ≤ x.cps.toList from h1) (show x.cps.toList ≤ y.cps.toList from h2) : p.cps.toList ≤ y.cps.toList)
theorem sorted_pw {l : List Str} (h : sortedS l = true) : upS l := by
  cases l with
  | nil => exact .nil
  | cons x l => exact rising_pw h
theorem ObjOk.there {P : Program} {w : World} {H : Hp} {h : Heap} {a : Addr} {o : HO} (x : ObjOk P w H h a o) : ∃ ob, h.get? a = some ob := by
  cases o with
  | lst xs => obtain ⟨_, _, _, _, e⟩ := x; exact ⟨_, e⟩
  | tup xs => obtain ⟨_, _, _, ob, e, _⟩ := x; exact ⟨_, e⟩
  | dK kvs => obtain ⟨_, _, _, _, o, _, _, e, _⟩ := x; exact ⟨_, e⟩
  | dT kvs => obtain ⟨_, _, _, _, o, _, _, e, _⟩ := x; exact ⟨_, e⟩
  | set S n => obtain ⟨o, _, _, _, e, _⟩ := x; exact ⟨_, e⟩
  | ins C dx fs => obtain ⟨_, _, _, e, _⟩ := x; exact ⟨_, e⟩
  | own y => obtain ⟨_, e⟩ := x; exact ⟨_, e⟩
  | xd fs => obtain ⟨_, ⟨_, _, _, e, _⟩, _⟩ := x; exact ⟨_, e⟩
  | rng lo hi => obtain ⟨_, _, _, e⟩ := x; exact ⟨_, e⟩
  | frz ob u => obtain ⟨e, _⟩ := x; exact ⟨_, e⟩
  | tbl ps => exact ⟨_, x⟩
  | met f y => exact ⟨_, x⟩
  | ext φ => obtain ⟨_, ⟨_, e⟩, _⟩ := x; exact ⟨_, e⟩
section
variable {X : Cx}
end
end L2

end
section
set_option Elab.async false
set_option linter.all false
set_option maxRecDepth 100000
set_option maxHeartbeats 4000000
namespace L2
open PySem PySem.Spec PyProof.Rows
/-! ### dict(rows): a list of pairs -/
theorem plain_dict_loop : plainId "dict.update.loop" = true := by decide +kernel
theorem entry_dict_loop : entryFor table "dict.update.loop" = some Builtin.«dict.update.loop» := entryFor_of_fast (by kernel_rfl)
theorem isTup_at {h h' : Heap} {p : Addr} {its : Array Value} (x : IsTup h p its) (k : ∀ o, h.get? p = some o → h'.get? p = some o) : IsTup h' p its := let ⟨o, ho, r⟩ := x; ⟨o, k o ho, r⟩
section
variable {prog : Program} {w : World} {A : Around} {R : Result → Shared → Prop} {E : Value → Shared → Prop}
theorem pair_items {p : Addr} {its : Array Value} {s : Shared} {Q : List Value → Shared → Prop} (hx : IsTup s.heap p its) (h : Q its.toList s) : wpAny (model prog w) A (Builtin.Dict.pairItems (.ref p)) Q E s := by
  obtain ⟨o, ho, hc, n, hd⟩ := hx
  obtain ⟨hp, g, d, tk, os⟩ := s
  have hT : (⟨hp, g, d, tk, os⟩ : Shared).TypeIs (.ref p) "tuple" := ⟨_, ho, hc⟩
  unfold Builtin.Dict.pairItems
  refine wpAny_bind (wpAny_typeOf hT ?_)
  rw [if_pos (by decide)]
  unfold seqItems?
  refine wpAny_bind (wpAny_bind (wpAny_load ho ?_))
  rw [hd]
  exact wpAny_pure (wpAny_pure h)
theorem dict_loop {d it l : Addr} {items : List Value} {res : Value} (hh : A.handled = none) (hdi : d ≠ it) (hdl : d ≠ l) (hil : l ≠ it) :
    ∀ (rest : List (Key × Value)) (i : Nat) (m : Int) (s : Shared) (kvs : List (Key × Value)), i + rest.length = items.length → s.heap.IsListIter it l i → s.heap.IsList l items.toArray → s.heap.DictOf (mixKind prog w) d kvs → kvs.length + rest.length ≤ sizeLine →
      (∀ (j : Nat) (q : Key × Value), rest[j]? = some q → ∃ p kv, items[i + j]? = some (.ref p) ∧ p ≠ d ∧ p ≠ it ∧ IsTup s.heap p #[kv, q.2] ∧ (mixKind prog w).is q.1 kv = true) →
      (∀ h' tk, (∀ b o, b ≠ it → b ≠ d → s.heap.get? b = some o → h'.get? b = some o) → h'.DictOf (mixKind prog w) d (merged kvs rest) → R (.ok (.ret res)) { s with heap := h', toks := tk }) →
      codeAny (model prog w) A (.builtin "dict.update.loop" ⟨[.ref d, .ref it, rawInt m, res], []⟩) R s := by
  have W := Walks.list (prog := prog) (w := w) (A := A.in1) (by exact hh) it l hil items.toArray
  intro rest
  induction rest with
  | nil =>
    intro i m s kvs hl hi hL hD hz hp hR
    refine codeAny_builtin entry_dict_loop ?_
    rw [Around.under_plainId plain_dict_loop _]
    show wpAny _ A.in1 (pyNext (.ref it) >>= _) _ _ s
    have hi' : i = items.toArray.size := by simpa using hl
    subst hi'
    refine wpAny_bind (W.done s _ _ ⟨hi, hL⟩ fun h' tk kk => ?_)
    show wpAny _ A.in1 (Builtin.Dict.addKeywords d [] >>= _) _ _ _
    refine wpAny_bind (wpAny_pure (wpAny_pure ?_))
    exact hR h' tk (fun b o hb _ e => kk b o (by simpa using hb) e) (hD.at fun o e => kk d o (by simpa using hdi) e)
  | cons q rest ih =>
    intro i m s kvs hl hi hL hD hz hp hR
    rw [List.length_cons] at hl hz
    have hlt : i < items.toArray.size := by rw [List.size_toArray]; omega
    refine codeAny_builtin entry_dict_loop ?_
    rw [Around.under_plainId plain_dict_loop _]
    show wpAny _ A.in1 (pyNext (.ref it) >>= _) _ _ s
    refine wpAny_bind (W.item i s _ _ hlt ⟨hi, hL⟩ fun v h' tk hv st' kk => ?_)
    obtain ⟨p, kv, e1, p1, p2, p3, p4⟩ := hp 0 q rfl
    have ev : v = .ref p := by
      rw [List.getElem?_toArray] at hv
      rw [Nat.add_zero] at e1
      rw [e1] at hv; cases hv; rfl
    subst ev
    have kk' : ∀ b o, b ≠ it → s.heap.get? b = some o → h'.get? b = some o := fun b o hb e => kk b o (by simpa using hb) e
    have T1 : IsTup h' p #[kv, q.2] := isTup_at p3 fun o e => kk' p o p2 e
    have D1 : h'.DictOf (mixKind prog w) d kvs := hD.at fun o e => kk' d o hdi e
    dsimp only
    refine wpAny_bind (wpAny_holding (wpAny_bind (wpAny_tryCatch (pair_items (s := { s with heap := h', toks := tk }) T1 ?_))))
    show wpAny _ A.in1 (holding [kv, q.2] (dictSet d kv q.2)) _ _ _
    refine wpAny_holding (wpAny_dictSet_pairs (s := { s with heap := h', toks := tk }) p4 D1 (fun h2 D2 sb => ?_) (by omega))
    refine wpAny_pure ⟨plainId_quiet plain_dict_loop _, ?_⟩
    have k2 : ∀ b o, b ≠ d → h'.get? b = some o → h2.get? b = some o := fun b o hb e => (sb.2 b hb).trans e
    have hst : (stored kvs q.1 q.2).length ≤ kvs.length + 1 := by
      have := D2
      unfold stored
      split
      · rw [List.length_map]; omega
      · rw [List.length_append]; simp
    refine ih (i + 1) (m + 1) _ (stored kvs q.1 q.2) (by omega) (st'.1.at fun o e => k2 it o (Ne.symm hdi) e) (st'.2.at fun o e => k2 l o (Ne.symm hdl) e) D2 (by omega) (fun j q' hj => ?_) (fun h3 tk3 k3 D3 => ?_)
    · obtain ⟨p', kv', f1, f2, f3, f4, f5⟩ := hp (j + 1) q' hj
      exact ⟨p', kv', by rw [← f1]; congr 1; omega, f2, f3, isTup_at f4 fun o e => k2 p' o f2 (kk' p' o f3 e), f5⟩
    · exact hR h3 tk3 (fun b o b1 b2 e => k3 b o b1 b2 (k2 b o b2 (kk' b o b1 e))) D3
end
/-- a row of pairs: a tuple of a key and a value -/
def PairIs (H : Hp) (x : V) (q : Key × V) : Prop := ∃ p, x = .ref p ∧ H p = some (.tup [kV q.1, q.2])
def rDictOf (K : PySem.W.Frag) : List V → Hp → VK → Prop := fun vs H Q => match vs with
  | [.ref a] => ∃ xs kvs, SqL K H a xs ∧ Paired (PairIs H) xs kvs ∧ (kvs.map (·.1)).Nodup ∧ kvs.length ≤ 1000 ∧ ∀ d, H d = none → Q (.ref d) (upd H d (.dK kvs))
  | _ => False
theorem pairs_rest {P : Program} {w : World} {H : Hp} {h : Heap} (ok : HOk P w H h) : ∀ {xs : List V} {kvs : List (Key × V)} {its : List Value}, Paired (PairIs H) xs kvs → Vals xs its →
    ∃ rest : List (Key × Value), KV kvs rest ∧ rest.length = its.length ∧ ∀ (j : Nat) (q : Key × Value), rest[j]? = some q → ∃ p kv, its[j]? = some (.ref p) ∧ (∃ o, H p = some o) ∧ IsTup h p #[kv, q.2] ∧ (mixKind P w).is q.1 kv = true
  | _, _, _, .nil, .nil => ⟨[], .nil, rfl, fun j q z => by simp at z⟩
  | _, _, _, .cons (b := q) hx hr, .cons (b := v) rv rr => by
    obtain ⟨rest, r1, r2, r3⟩ := pairs_rest ok hr rr
    obtain ⟨p, rfl, hp⟩ := hx
    cases (show v = Value.ref p from rv)
    obtain ⟨_, its, ri, tup⟩ := (show ObjOk P w H h p (.tup [kV q.1, q.2]) from ok p _ hp)
    cases ri with
    | cons ra rb =>
      cases rb with
      | cons rc rd =>
        cases rd
        rename_i ua ub
        refine ⟨(q.1, ub) :: rest, .cons ⟨rfl, rc⟩ r1, by rw [List.length_cons, List.length_cons, r2], fun j q' hj => ?_⟩
        cases j with
        | zero => cases hj; exact ⟨p, ua, rfl, ⟨_, hp⟩, tup, kV_is ra⟩
        | succ j => exact r3 j q' hj
section
variable {X : Cx}
theorem call_dictOf (hh : X.A.handled = none) : CallR X (.type "dict") (rDictOf X.K) := by
  intro pins s σ H xs us Q I rv h
  unfold rDictOf at h
  split at h
  rotate_left
  · exact h.elim
  rename_i a
  obtain ⟨xs, kvs, ql, pr, nd, hz, q⟩ := h
  obtain ⟨u, rfl, ru⟩ := vals1 rv
  cases ru
  obtain ⟨its, ri, ⟨o, n, ho, hc, hdn, hd⟩, hzl⟩ := I.list ql
  obtain ⟨rest, r1, r2, r3⟩ := pairs_rest I.hok pr ri
  have line : 100000 ≤ sizeLine := Nat.le_trans (by decide) line_ge
  have lr : rest.length = kvs.length := r1.length.symm
  have hfr : H s.heap.objs.size = none := I.hok.fresh (Nat.le_refl _)
  have alt : a < s.heap.objs.size := Heap.lt_size ho
  refine callType_codes (Q₁ := fun obj s₁ => obj = .ref s.heap.objs.size ∧ s₁ = { s with heap := s.heap.push { cls := .type "dict", data := .dict #[] } }) F.kt_called_dict (F.kt_typeCall_dict_1 _) F.entry_dict_init (kt_code_dict_new _ ⟨rfl, rfl⟩) ?_
  rintro obj s₁ ⟨rfl, rfl⟩
  have hnew : (s.heap.push { cls := .type "dict", data := .dict #[] }).DictOf (mixKind X.prog X.w) s.heap.objs.size [] := Heap.DictOf.new s.heap
  have ho1 : (s.heap.push { cls := .type "dict", data := .dict #[] }).get? a = some o := Heap.get?_push_of_some _ ho
  have hT : ({ s with heap := s.heap.push { cls := .type "dict", data := .dict #[] } } : Shared).TypeIs (.ref a) "list" := ⟨_, ho1, hc⟩
  refine ⟨hnew.typeIs, F.args_dict_init_2 _ _, ?_⟩
  unfold Builtin.«dict.__init__»
  refine wpAny_bind ?_
  unfold Builtin.Dict.selfAndRest
  refine wpAny_bind (wpAny_notOrdered_dict hnew.typeIs ?_)
  show wpAny _ _ (pure (s.heap.objs.size, [Value.ref a])) _ _ _
  refine wpAny_pure ?_
  show wpAny _ _ (Builtin.Dict.updateFrom "dict.__init__" s.heap.objs.size (.ref a) [] .none) _ _ _
  unfold Builtin.Dict.updateFrom
  refine wpAny_bind (wpAny_typeOf hT ?_)
  rw [if_pos (by decide)]
  refine wpAny_bind (getAttr?_list_keys (h := s.heap.push { cls := .type "dict", data := .dict #[] }) ho1 hc hdn hd (by exact hh) fun h1 t1 k1 => ?_)
  rw [if_pos (show (none : Option Value).isNone = true from rfl)]
  refine wpAny_bind (wpAny_rule ?_)
  have ho2 := k1 _ _ ho1
  have D1 : h1.DictOf (mixKind X.prog X.w) s.heap.objs.size [] := hnew.at fun ob e => k1 _ _ e
  have dlt : s.heap.objs.size < h1.objs.size := by obtain ⟨ob, _, _, e, _⟩ := D1; exact Heap.lt_size e
  refine wpAny_bind (wpAny_pyIter_list (l := a) (items := its.toArray) ⟨o, ho2, hc, n, hd⟩ ?_)
  have kp : ∀ b ob, s.heap.get? b = some ob → (h1.push { cls := .type "list_iterator", data := .fields #[.ref a, .int 0 0] }).get? b = some ob := fun b ob e => Heap.get?_push_of_some _ (k1 _ _ (Heap.get?_push_of_some _ e))
  refine wpAny_pure ⟨plainId_quiet plain_dict_loop _, ?_⟩
  refine dict_loop (d := s.heap.objs.size) (it := h1.objs.size) (l := a) (items := its) (by exact hh) (Nat.ne_of_lt dlt) (Nat.ne_of_gt alt) (Nat.ne_of_lt (Nat.lt_trans alt dlt)) rest 0 0 _ [] (by omega) ⟨_, Heap.get?_push_size _ rfl, rfl, rfl⟩ ⟨o, Heap.get?_push_of_some _ ho2, hc, n, hd⟩ (D1.at fun ob e => Heap.get?_push_of_some _ e) (by simp only [List.length_nil]; omega) (fun j q' hj => ?_) (fun h3 t3 k3 D3 => ?_)
  · obtain ⟨p, kv, e1, ⟨op, e2⟩, e3, e4⟩ := r3 j q' hj
    have plt : p < s.heap.objs.size := by obtain ⟨ob, e, _⟩ := e3; exact Heap.lt_size e
    exact ⟨p, kv, by rw [Nat.zero_add]; exact e1, Nat.ne_of_lt plt, Nat.ne_of_lt (Nat.lt_trans plt dlt), isTup_at e3 fun ob e => kp p ob e, e4⟩
  · have e5 : merged [] rest = rest := merged_nil_of_nodup rest (by rw [← r1.keys]; exact nd)
    rw [e5] at D3
    refine ⟨rfl, .ref s.heap.objs.size, _, I.laid (a := s.heap.objs.size) (o := .dK kvs) (t' := t3) (fun b ob e => ?_) (Nat.le_refl _) (dk_new (by omega) (beq_eq_false_iff_ne.mpr (Ne.symm (Nat.ne_of_lt I.big))) r1 D3), rfl, q _ hfr⟩
    have blt : b < s.heap.objs.size := Heap.lt_size e
    exact k3 b ob (Nat.ne_of_lt (Nat.lt_trans blt dlt)) (Nat.ne_of_lt blt) (kp b ob e)
end
/-! ### a key in a dict, d[k] -/
def rInK (neg : Bool) : R2 := fun x y H Q => ∃ a kvs k, y = .ref a ∧ Rd H a (.dK kvs) ∧ x = kV k ∧ Q (.bl (if neg then !(valV kvs k).isSome else (valV kvs k).isSome)) H
section
variable {X : Cx}
theorem op_inK (hu : X.A.units + 1 < cLine) : OpR X (compareOp .In) (rInK false) := by
  intro pins s σ H x y v u Q I rx ry h
  obtain ⟨a, kvs, k, rfl, e, rfl, q⟩ := h
  obtain rfl : u = Value.ref a := ry
  exact d_in hu I (.inl ⟨kvs, k, e, rfl, rfl⟩) rx fun s3 I3 => ⟨.bl _, H, I3, rfl, q⟩
end
/-! ### a comprehension over a list that may be made for it, whose items may be laid -/
end L2

end
section
set_option Elab.async false
set_option linter.all false
set_option maxRecDepth 100000
set_option maxHeartbeats 4000000
namespace L2
open PySem PySem.Spec PyProof.Rows
local macro_rules | `(tactic| walk_at "rd") => `(tactic| try simp only [tVar, tC, tOp, tUn, tSeq, tAsg, gName, tRet, tRetN, tIfS, tDrop, tNext, tCons, tNil, tCall, tCB, tTest, tB, tAnd, tOr, tNot, tAndV, tOrV, tNotV, tIf, tTup, tLst, tSl, tPart, tNoPart, tBM, tBM0, L2.start, rI2, rI3, rAddA, rMulA, rSubI, rDivI, rModI, rPowI, rNegI, rLt, rLe, rGt, rGe, rIsN, rNotN, rEqS, rNeS, rLen, rIxA, rIntA, rMax2, rMin2, rStrI, rListOf, rIsi2, isiF, isiO, rSlA, rStarts2, rEnds2, CDiv,
  List.map_cons, List.map_nil, List.length_cons, List.length_nil, List.replicate_succ, List.replicate_zero, List.cons_append, List.nil_append, List.append_nil, List.getElem?_cons_zero, List.getElem?_cons_succ, List.set_cons_zero, List.set_cons_succ, Option.some.injEq, V.int.injEq, V.str.injEq, V.bl.injEq, V.ref.injEq, V.ty.injEq, reduceCtorEq, exists_eq_left', exists_eq_left, exists_eq_right, exists_eq_right', exists_eq', exists_eq, exists_and_left, exists_and_right, false_and, and_false, true_and, and_true, exists_const, exists_false, false_or, or_false, List.cons.injEq, and_assoc, decide_eq_true_eq, decide_true, decide_false, Int.reduceLT, Int.reduceLE, Nat.reduceLT, Nat.reduceLeDiff, Nat.reduceSub, Nat.reduceAdd, Nat.sub_self, Nat.sub_zero, enc_eq, enc_nil, enc_0, enc_1, enc_01, enc_append, enc_len, Bool.not_true, Bool.not_false, Bool.false_eq_true, if_true, if_false, ↓reduceIte, String.reduceEq, or_true, true_or, Nat.one_mul, addr_len, bitsBy_len, List.length_append, List.length_replicate, List.length_map])
local macro_rules | `(tactic| walk_at "sz") => `(tactic| (have hline := line_ge; first | omega | (simp; omega)))
/-! ### a table as a dict -/
def tabK (rs : List Row) : List (Key × V) := rs.map fun r => (strK (enc r.1), wayV r.2)
theorem tabK_pairs {H : Hp} {xs : List V} {rs : List Row} (h : RowsAre H xs rs) : Paired (PairIs H) xs (tabK rs) := by
  unfold tabK
  induction h with
  | nil => exact .nil
  | cons hx _ ih => obtain ⟨p, e, hp⟩ := hx; exact .cons ⟨p, e, hp⟩ ih
theorem tabK_keys (rs : List Row) : KeysS (tabK rs) (rs.map fun r => enc r.1) := by
  unfold KeysS tabK
  rw [List.map_map, List.map_map]; rfl
theorem strK_inj {a b : Str} (h : strK a = strK b) : a = b := by unfold strK at h; cases h; rfl
theorem tabK_nodup {rs : List Row} (h : (rs.map (·.1)).Nodup) : ((tabK rs).map (·.1)).Nodup := by
  rw [tabK_keys rs, List.map_map]
  have e : rs.map (strK ∘ fun r => enc r.1) = (rs.map (·.1)).map fun b => strK (enc b) := by rw [List.map_map]; rfl
  rw [e]
  exact h.map (fun b => strK (enc b)) (fun a b ne z => ne (enc_inj (strK_inj z)))
/-- what the dict holds at a head -/
def atH (rs : List Row) (h : List Bool) : Option Row := rs.find? fun r => r.1 == h
theorem valV_tabK (rs : List Row) (h : List Bool) : valV (tabK rs) (strK (enc h)) = (atH rs h).map fun r => wayV r.2 := by
  unfold valV tabK atH
  induction rs with
  | nil => rfl
  | cons r rs ih =>
    rw [List.map_cons, List.find?_cons, List.find?_cons]
    by_cases e : r.1 = h
    · have e1 : (decide (strK (enc r.1) = strK (enc h))) = true := by rw [e]; simp
      have e2 : (r.1 == h) = true := by rw [e]; simp
      dsimp only
      rw [e1, e2]; rfl
    · have e1 : (decide (strK (enc r.1) = strK (enc h))) = false := decide_eq_false fun z => e (enc_inj (strK_inj z))
      have e2 : (r.1 == h) = false := by simpa using e
      dsimp only
      rw [e1, e2]; exact ih
theorem atH_none {rs : List Row} {h : List Bool} : atH rs h = none ↔ ∀ r ∈ rs, r.1 ≠ h := by
  unfold atH
  rw [List.find?_eq_none]
  simp
theorem atH_some {rs : List Row} {r : Row} (hn : (rs.map (·.1)).Nodup) (hr : r ∈ rs) : atH rs r.1 = some r := by
  cases e : atH rs r.1 with
  | none => exact absurd rfl (atH_none.mp e r hr)
  | some q =>
    have h1 : q ∈ rs := List.mem_of_find?_eq_some e
    have h2 : (q.1 == r.1) = true := List.find?_some (p := fun q : Row => q.1 == r.1) e
    rw [nodup_heads hn h1 hr (by simpa using h2)]
/-! ### the deeds -/
def DeedsAre (H : Hp) : List V → List Deed → Prop := Paired (DeedIs H)
theorem DeedsAre.mono {H H' : Hp} {vs : List V} {ds : List Deed} (h : DeedsAre H vs ds) (t : Tp H H') : DeedsAre H' vs ds := Paired.mono h fun _ _ q => q.mono t
/-- sorted heads are the heads of the sorted rows -/
theorem sorted_heads {rs ss : List Row} {zs : List Str} (so : SortR rs ss) (hp : zs.Perm (rs.map fun r => enc r.1)) (hu : upS zs) : zs = ss.map fun r => enc r.1 := by
  refine List.Perm.eq_of_pairwise (le := fun a b : Str => ¬ b.cps.toList < a.cps.toList) (fun a b _ _ h1 h2 => ?_) hu ?_ (hp.trans (so.perm.map _).symm)
  · exact Str.ext' (Array.toList_inj.mp (List.le_antisymm h1 h2))
  · exact List.Pairwise.map _ (fun a b h => h) so.up
end L2

end
section
set_option Elab.async false
set_option linter.all false
set_option maxRecDepth 100000
namespace TM
open PySem PyProof.Rows
/-! ### list.sort of any number of items, whatever their keys are compared by -/
/-- a number for each key, by which the keys are compared -/
class Cmp where
  kn : Keyed → Int
  isI : Keyed → Prop
  lt : ∀ {prog : Program} {w : World} {A : Around} {E : Value → Shared → Prop} {s : Shared} {x y : Keyed} {Q : Bool → Shared → Prop}, isI x → isI y → Q (decide (kn x < kn y)) s → wpAny (model prog w) A (oneLt' true x.1 y.1) Q E s
section
variable [Cmp]
abbrev kn (p : Keyed) : Int := Cmp.kn p
abbrev isI (p : Keyed) : Prop := Cmp.isI p
def K (xs : Array Keyed) (i : Nat) : Int := match xs[i]? with
  | some p => kn p
  | none => 0
def SortedTo (xs : Array Keyed) (k : Nat) : Prop := ∀ i j, i ≤ j → j < k → K xs i ≤ K xs j
def Keys (xs : Array Keyed) : Prop := ∀ p, p ∈ xs.toList → isI p
theorem K_congr {xs ys : Array Keyed} {i j : Nat} (h : xs[i]? = ys[j]?) : K xs i = K ys j := by unfold K; rw [h]
theorem K_at {xs : Array Keyed} {i : Nat} (hi : i < xs.size) : K xs i = kn xs[i] := by unfold K; rw [getElem?_pos xs i hi]
theorem K_bubble {xs : Array Keyed} {src d : Nat} (hs : src < xs.size) (hd : d ≤ src) (k : Nat) :
    K (bubble xs src d) k = if k = src - d then K xs src else if src - d < k ∧ k ≤ src then K xs (k - 1) else K xs k := by
  have e := getElem?_bubble hs d hd k
  by_cases h1 : k = src - d
  · rw [if_pos h1] at e ⊢; exact K_congr e
  · rw [if_neg h1] at e ⊢
    by_cases h2 : src - d < k ∧ k ≤ src
    · rw [if_pos h2] at e ⊢; exact K_congr e
    · rw [if_neg h2] at e ⊢; exact K_congr e
theorem K_mirror {xs : Array Keyed} {i j : Nat} (hj : j ≤ xs.size) (k : Nat) :
    K (mirror xs i j ((j - i) / 2)) k = if i ≤ k ∧ k < j then K xs (i + j - 1 - k) else K xs k := by
  have e := getElem?_mirror_all (i := i) hj k
  by_cases h1 : i ≤ k ∧ k < j
  · rw [if_pos h1] at e ⊢; exact K_congr e
  · rw [if_neg h1] at e ⊢; exact K_congr e
def gal : Bool → Keyed → Array Keyed → Nat → Nat → Nat → StateT SortSt Sem (Option Nat) := sortPriv% PySem.Builtin.gallop
def isBy (left : Bool) (key : Keyed) (arr : Array Keyed) (base i : Nat) : Bool := if left = true then decide (K arr (base + i) < kn key) else decide (K arr (base + i) ≤ kn key)
def askBy (left : Bool) (key : Keyed) (arr : Array Keyed) (base i : Nat) : StateT SortSt Sem (Option Bool) := do
  let z ← elem' arr (base + i)
  if left = true then lt' z key else do
    let r ← lt' key z
    pure (r.map (!·))
section
variable {prog : Program} {w : World} {A : Around} {E : Value → Shared → Prop} {s : Shared} {st : SortSt}
theorem wpS_elem {arr : Array Keyed} {i : Nat} {Q : Keyed → SortSt → Prop} (hi : i < arr.size) (h : Q arr[i] st) : wpS (model prog w) A E s (elem' arr i) Q st := by
  rw [elem'_eq, getElem?_pos arr i hi]
  exact wpS_pure h
theorem wpS_ltP {x y : Keyed} {Q : Option Bool → SortSt → Prop} (hk : kindOf st = oneType') (hx : isI x) (hy : isI y) (h : Q (some (decide (kn x < kn y))) st) : wpS (model prog w) A E s (lt' x y) Q st := by
  rw [lt'_eq]
  refine wpS_bind (wpS_get ?_)
  rw [hk, keyLt'_oneType]
  refine wpS_bind (wpS_lift (wpAny_attempt (Cmp.lt hx hy ⟨rfl, ?_⟩)))
  exact wpS_pure h
theorem wpS_askBy {left : Bool} {key : Keyed} {arr : Array Keyed} {base i : Nat} {Q : Option Bool → SortSt → Prop} (hk : kindOf st = oneType') (hkey : isI key) (harr : ∀ i (h : i < arr.size), isI arr[i]) (hi : base + i < arr.size)
    (h : Q (some (isBy left key arr base i)) st) : wpS (model prog w) A E s (askBy left key arr base i) Q st := by
  unfold askBy
  refine wpS_bind (wpS_elem hi ?_)
  unfold isBy at h
  rw [K_at hi] at h
  cases left with
  | true => rw [if_pos rfl]; exact wpS_ltP hk (harr _ hi) hkey h
  | false =>
    rw [if_neg (by decide)]
    refine wpS_bind (wpS_ltP hk hkey (harr _ hi) (wpS_pure ?_))
    have : (Option.map (fun x => !x) (some (decide (kn key < kn arr[base + i])))) = some (decide (kn arr[base + i] ≤ kn key)) := by
      simp only [Option.map_some]
      congr 1
      by_cases hh : kn key < kn arr[base + i]
      · simp [hh, Int.not_le.mpr hh]
      · simp [hh, Int.not_lt.mp hh]
    rw [this]
    exact h
theorem wpS_bis {p : Nat → Bool} {n lo hi : Nat} {f : Nat → Option (Option Nat) × Nat × Nat → StateT SortSt Sem (ForInStep (Option (Option Nat) × Nat × Nat))}
    (mono : ∀ i j, i ≤ j → j < n → p j = true → p i = true)
    (hl : lo ≤ hi) (hn : hi ≤ n) (h1 : ∀ i, i < lo → p i = true) (h2 : ∀ i, hi ≤ i → i < n → p i = false)
    (f0 : ∀ x l r Q, r ≤ l → Q (.done (none, l, r)) st → wpS (model prog w) A E s (f x (none, l, r)) Q st)
    (f1 : ∀ x l r Q, l < r → r ≤ n → (p (l + (r - l) / 2) = true → Q (.yield (none, l + (r - l) / 2 + 1, r)) st) → (p (l + (r - l) / 2) = false → Q (.yield (none, l, l + (r - l) / 2)) st) → wpS (model prog w) A E s (f x (none, l, r)) Q st) :
    wpS (model prog w) A E s (forIn [0:n] (none, lo, hi) f) (fun c st' => st' = st ∧ ∃ l k, c = (none, l, k) ∧ k ≤ n ∧ (∀ i, i < k → p i = true) ∧ (∀ i, k ≤ i → i < n → p i = false)) st := by
  refine wpS_mono (wpS_forRange (I := fun x c st' => st' = st ∧ ∃ l r, c = (none, l, r) ∧ l ≤ r ∧ r ≤ n ∧ r - l ≤ n - x ∧ (∀ i, i < l → p i = true) ∧ (∀ i, r ≤ i → i < n → p i = false))
    (Q := fun c st' => st' = st ∧ ∃ l r, c = (none, l, r) ∧ r ≤ l ∧ r ≤ n ∧ (∀ i, i < l → p i = true) ∧ (∀ i, r ≤ i → i < n → p i = false)) ?step ?fin ⟨rfl, lo, hi, rfl, hl, hn, by omega, h1, h2⟩) ?post
  case fin =>
    rintro c st' ⟨rfl, l, r, rfl, q1, q2, q3, q4, q5⟩
    exact ⟨rfl, l, r, rfl, by omega, q2, q4, q5⟩
  case post =>
    rintro c st' ⟨rfl, l, r, rfl, q1, q2, q4, q5⟩
    exact ⟨rfl, l, r, rfl, q2, fun i hi => q4 i (by omega), q5⟩
  case step =>
    rintro x c st' _ hx ⟨rfl, l, r, rfl, q1, q2, q3, q4, q5⟩
    by_cases hge : r ≤ l
    · exact f0 x l r _ hge ⟨rfl, l, r, rfl, hge, q2, q4, q5⟩
    · refine f1 x l r _ (by omega) q2 (fun hm => ?_) fun hm => ?_
      · exact ⟨rfl, _, r, rfl, by omega, q2, by omega, fun i hi => mono i _ (by omega) (by omega) hm, q5⟩
      · refine ⟨rfl, l, _, rfl, by omega, by omega, by omega, q4, fun i hi hin => ?_⟩
        cases hq : p i with
        | false => rfl
        | true => exact absurd (mono _ i hi hin hq) (by rw [hm]; decide)
theorem wpS_gal {left : Bool} {key : Keyed} {arr : Array Keyed} {base n hint : Nat} {Q : Option Nat → SortSt → Prop} (hk : kindOf st = oneType') (hkey : isI key) (harr : ∀ i (h : i < arr.size), isI arr[i]) (hb : base + n ≤ arr.size) (hh : hint < n)
    (hs : ∀ i j, i ≤ j → j < n → K arr (base + i) ≤ K arr (base + j))
    (h : ∀ k, k ≤ n → (∀ i, i < k → isBy left key arr base i = true) → (∀ i, k ≤ i → i < n → isBy left key arr base i = false) → Q (some k) st) : wpS (model prog w) A E s (gal left key arr base n hint) Q st := by
  have mono : ∀ i j, i ≤ j → j < n → isBy left key arr base j = true → isBy left key arr base i = true := fun i j hij hj hb => by
    unfold isBy at hb ⊢
    have := hs i j hij hj
    cases left with
    | true => simp only [if_true, decide_eq_true_eq] at hb ⊢; omega
    | false => simp only [Bool.false_eq_true, if_false, decide_eq_true_eq] at hb ⊢; omega
  have down : ∀ i j, i ≤ j → j < n → isBy left key arr base i = false → isBy left key arr base j = false := fun i j hij hj hb => by
    cases hq : isBy left key arr base j with
    | false => rfl
    | true => exact absurd (mono i j hij hj hq) (by rw [hb]; decide)
  refine wpS_bind (wpS_askBy hk hkey harr (by omega) ?_)
  dsimp only
  cases hm : isBy left key arr base hint with
  | true =>
    rw [if_pos rfl]
    refine wpS_bind (wpS_mono (wpS_forRange (I := fun x c st' => st' = st ∧ ∃ l o, c = (none, l, o) ∧ l < o ∧ x + 1 ≤ o ∧ hint + l < n ∧ isBy left key arr base (hint + l) = true)
      (Q := fun c st' => st' = st ∧ ∃ l o, c = (none, l, o) ∧ l < o ∧ hint + l < n ∧ isBy left key arr base (hint + l) = true ∧ (n - hint ≤ o ∨ isBy left key arr base (hint + o) = false)) ?step ?fin ⟨rfl, 0, 1, rfl, by omega, by omega, by omega, hm⟩) ?post)
    case fin =>
      rintro c st' ⟨rfl, l, o, rfl, q1, q2, q3, q4⟩
      exact ⟨rfl, l, o, rfl, q1, q3, q4, .inl (by omega)⟩
    case post =>
      rintro c st' ⟨rfl, l, o, rfl, q1, q3, q4, q5⟩
      refine wpS_bind (wpS_mono (wpS_bis (p := fun i => isBy left key arr base i) (lo := hint + l + 1) (hi := hint + min o (n - hint)) mono (by omega) (by omega) (fun i hi => mono i (hint + l) (by omega) q3 q4) (fun i hi hin => q5.elim (fun q => absurd hi (by omega)) fun q => down (hint + o) i (by omega) hin q) ?f0 ?f1) ?out)
      case f0 => intro x l r Q hg hq; dsimp only; rw [if_pos hg]; exact wpS_pure hq
      case f1 =>
        intro x l r Q hg hr ht hf
        dsimp only
        rw [if_neg (by omega)]
        refine wpS_bind (wpS_askBy hk hkey harr (by omega) ?_)
        cases hm2 : isBy left key arr base (l + (r - l) / 2) with
        | true => exact wpS_pure (ht hm2)
        | false => exact wpS_pure (hf hm2)
      case out =>
        rintro c st' ⟨rfl, l, k, rfl, a1, a2, a3⟩
        exact wpS_pure (h k a1 a2 a3)
    case step =>
      rintro x c st' _ hx ⟨rfl, l, o, rfl, q1, q2, q3, q4⟩
      dsimp only
      by_cases hge : o ≥ n - hint
      · rw [if_pos hge]; exact wpS_pure ⟨rfl, l, o, rfl, q1, q3, q4, .inl hge⟩
      · rw [if_neg hge]
        refine wpS_bind (wpS_askBy hk hkey harr (by omega) ?_)
        cases hm2 : isBy left key arr base (hint + o) with
        | true => exact wpS_pure ⟨rfl, o, _, rfl, by omega, by omega, by omega, hm2⟩
        | false => exact wpS_pure ⟨rfl, l, o, rfl, q1, q3, q4, .inr hm2⟩
  | false =>
    rw [if_neg (by decide)]
    refine wpS_bind (wpS_mono (wpS_forRange (I := fun x c st' => st' = st ∧ ∃ l o, c = (none, l, o) ∧ l < o ∧ x + 1 ≤ o ∧ l ≤ hint ∧ isBy left key arr base (hint - l) = false)
      (Q := fun c st' => st' = st ∧ ∃ l o, c = (none, l, o) ∧ l < o ∧ l ≤ hint ∧ isBy left key arr base (hint - l) = false ∧ (hint + 1 ≤ o ∨ isBy left key arr base (hint - o) = true)) ?step ?fin ⟨rfl, 0, 1, rfl, by omega, by omega, by omega, hm⟩) ?post)
    case fin =>
      rintro c st' ⟨rfl, l, o, rfl, q1, q2, q3, q4⟩
      exact ⟨rfl, l, o, rfl, q1, q3, q4, .inl (by omega)⟩
    case post =>
      rintro c st' ⟨rfl, l, o, rfl, q1, q3, q4, q5⟩
      refine wpS_bind (wpS_mono (wpS_bis (p := fun i => isBy left key arr base i) (lo := hint + 1 - min o (hint + 1)) (hi := hint - l) mono (by omega) (by omega) (fun i hi => q5.elim (fun q => absurd hi (by omega)) fun q => mono i (hint - o) (by omega) (by omega) q) (fun i hi hin => down (hint - l) i (by omega) hin q4) ?f0 ?f1) ?out)
      case f0 => intro x l r Q hg hq; dsimp only; rw [if_pos hg]; exact wpS_pure hq
      case f1 =>
        intro x l r Q hg hr ht hf
        dsimp only
        rw [if_neg (by omega)]
        refine wpS_bind (wpS_askBy hk hkey harr (by omega) ?_)
        cases hm2 : isBy left key arr base (l + (r - l) / 2) with
        | true => exact wpS_pure (ht hm2)
        | false => exact wpS_pure (hf hm2)
      case out =>
        rintro c st' ⟨rfl, l, k, rfl, a1, a2, a3⟩
        exact wpS_pure (h k a1 a2 a3)
    case step =>
      rintro x c st' _ hx ⟨rfl, l, o, rfl, q1, q2, q3, q4⟩
      dsimp only
      by_cases hge : o ≥ hint + 1
      · rw [if_pos hge]; exact wpS_pure ⟨rfl, l, o, rfl, q1, q3, q4, .inl hge⟩
      · rw [if_neg hge]
        refine wpS_bind (wpS_askBy hk hkey harr (by omega) ?_)
        cases hm2 : isBy left key arr base (hint - o) with
        | true => exact wpS_pure ⟨rfl, l, o, rfl, q1, q3, q4, .inr hm2⟩
        | false => exact wpS_pure ⟨rfl, o, _, rfl, by omega, by omega, by omega, hm2⟩
end
end
end TM

end
section
set_option Elab.async false
set_option linter.all false
set_option maxRecDepth 100000
namespace TM
open PySem PyProof.Rows
section
variable [Cmp]

/-! ### what two sorted stretches are merged to -/
def Up (l : List Keyed) : Prop := l.Pairwise fun x y => kn x ≤ kn y
structure MLo (a b out : List Keyed) (ia ib : Nat) : Prop where
  ha : ia ≤ a.length
  hb : ib ≤ b.length
  perm : out.Perm (a.take ia ++ b.take ib)
  up : Up out
  la : ∀ x ∈ out, ∀ y ∈ a.drop ia, kn x ≤ kn y
  lb : ∀ x ∈ out, ∀ y ∈ b.drop ib, kn x ≤ kn y
structure MHi (a b out : List Keyed) (na nb : Nat) : Prop where
  ha : na ≤ a.length
  hb : nb ≤ b.length
  perm : out.Perm (a.drop na ++ b.drop nb)
  up : Up out.reverse
  la : ∀ x ∈ a.take na, ∀ y ∈ out, kn x ≤ kn y
  lb : ∀ x ∈ b.take nb, ∀ y ∈ out, kn x ≤ kn y
section
variable {a b out : List Keyed} {ia ib na nb k : Nat}
theorem Up.split {l : List Keyed} (h : Up l) (i : Nat) : Up (l.take i) ∧ Up (l.drop i) ∧ ∀ x ∈ l.take i, ∀ y ∈ l.drop i, kn x ≤ kn y := by
  have := h
  unfold Up at this
  rw [← List.take_append_drop i l] at this
  exact List.pairwise_append.mp this
theorem Up.app {l r : List Keyed} (h : Up l) (h2 : Up r) (h3 : ∀ x ∈ l, ∀ y ∈ r, kn x ≤ kn y) : Up (l ++ r) := List.pairwise_append.mpr ⟨h, h2, h3⟩
theorem drop_take_drop (l : List Keyed) (i k : Nat) : (l.drop i).drop k = l.drop (i + k) := by rw [List.drop_drop]
theorem take_more (l : List Keyed) (i k : Nat) : l.take (i + k) = l.take i ++ (l.drop i).take k := by rw [List.take_add]
theorem MLo.takeA (h : MLo a b out ia ib) (ua : Up a) (hk : ia + k ≤ a.length) (hx : ∀ x ∈ (a.drop ia).take k, ∀ y ∈ b.drop ib, kn x ≤ kn y) : MLo a b (out ++ (a.drop ia).take k) (ia + k) ib := by
  have s1 := (ua.split ia).2.1.split k
  refine ⟨hk, h.hb, ?_, h.up.app s1.1 fun x hx y hy => h.la x hx y (List.mem_of_mem_take hy), fun x hx y hy => ?_, fun x hx' y hy => ?_⟩
  · rw [take_more, List.append_assoc]
    refine (List.Perm.append_right _ h.perm).trans ?_
    rw [List.append_assoc]
    exact List.Perm.append_left _ List.perm_append_comm
  · rw [← drop_take_drop] at hy
    rcases List.mem_append.mp hx with hx | hx
    · exact h.la x hx y (List.mem_of_mem_drop hy)
    · exact s1.2.2 x hx y hy
  · rcases List.mem_append.mp hx' with h1 | h1
    · exact h.lb x h1 y hy
    · exact hx x h1 y hy
theorem MLo.flip (h : MLo a b out ia ib) : MLo b a out ib ia := ⟨h.hb, h.ha, h.perm.trans List.perm_append_comm, h.up, h.lb, h.la⟩
theorem MLo.takeB (h : MLo a b out ia ib) (ub : Up b) (hk : ib + k ≤ b.length) (hx : ∀ x ∈ (b.drop ib).take k, ∀ y ∈ a.drop ia, kn x ≤ kn y) : MLo a b (out ++ (b.drop ib).take k) ia (ib + k) :=
  (h.flip.takeA ub hk hx).flip
theorem MLo.done (h : MLo a b out ia ib) (ua : Up a) (ub : Up b) (hx : ∀ x ∈ a.drop ia, ∀ y ∈ b.drop ib, kn x ≤ kn y) : Up (out ++ a.drop ia ++ b.drop ib) ∧ (out ++ a.drop ia ++ b.drop ib).Perm (a ++ b) := by
  refine ⟨(h.up.app (ua.split ia).2.1 h.la).app (ub.split ib).2.1 fun x hx' y hy => ?_, ?_⟩
  · rcases List.mem_append.mp hx' with h1 | h1
    · exact h.lb x h1 y hy
    · exact hx x h1 y hy
  · have e1 : (a ++ b).Perm (a.take ia ++ a.drop ia ++ (b.take ib ++ b.drop ib)) := by rw [List.take_append_drop, List.take_append_drop]
    refine List.Perm.trans ?_ e1.symm
    rw [← List.append_assoc]
    refine List.Perm.append_right _ ?_
    refine (List.Perm.append_right _ h.perm).trans ?_
    rw [List.append_assoc, List.append_assoc]
    exact List.Perm.append_left _ List.perm_append_comm
theorem MLo.last (h : MLo a b out ia ib) (ua : Up a) (ub : Up b) (hx : ∀ x ∈ b.drop ib, ∀ y ∈ a.drop ia, kn x ≤ kn y) : Up (out ++ b.drop ib ++ a.drop ia) ∧ (out ++ b.drop ib ++ a.drop ia).Perm (a ++ b) := by
  have := h.flip.done ub ua hx
  exact ⟨this.1, this.2.trans List.perm_append_comm⟩
theorem MHi.flip (h : MHi a b out na nb) : MHi b a out nb na := ⟨h.hb, h.ha, h.perm.trans List.perm_append_comm, h.up, h.lb, h.la⟩
theorem MHi.takeA (h : MHi a b out na nb) (ua : Up a) (hk : k ≤ na) (hx : ∀ x ∈ b.take nb, ∀ y ∈ (a.take na).drop k, kn x ≤ kn y) : MHi a b (out ++ ((a.take na).drop k).reverse) k nb := by
  have s1 := (ua.split na).1.split k
  have ek : (a.take na).take k = a.take k := by rw [List.take_take, Nat.min_eq_left hk]
  refine ⟨Nat.le_trans hk h.ha, h.hb, ?_, ?_, fun x hx' y hy => ?_, fun x hx' y hy => ?_⟩
  · have e : a.drop k = (a.take na).drop k ++ a.drop na := by
      conv => lhs; rw [← List.take_append_drop na a]
      rw [List.drop_append_of_le_length (by rw [List.length_take]; have := h.ha; omega)]
    rw [e, List.append_assoc]
    refine (List.Perm.append h.perm (List.reverse_perm _)).trans ?_
    exact List.perm_append_comm
  · rw [List.reverse_append, List.reverse_reverse]
    exact s1.2.1.app h.up fun x hx' y hy => h.la x (List.mem_of_mem_drop hx') y (List.mem_reverse.mp hy)
  · rcases List.mem_append.mp hy with h1 | h1
    · exact h.la x (by rw [← ek] at hx'; exact List.mem_of_mem_take hx') y h1
    · exact s1.2.2 x (by rw [ek]; exact hx') y (List.mem_reverse.mp h1)
  · rcases List.mem_append.mp hy with h1 | h1
    · exact h.lb x hx' y h1
    · exact hx x hx' y (List.mem_reverse.mp h1)
theorem MHi.takeB (h : MHi a b out na nb) (ub : Up b) (hk : k ≤ nb) (hx : ∀ x ∈ a.take na, ∀ y ∈ (b.take nb).drop k, kn x ≤ kn y) : MHi a b (out ++ ((b.take nb).drop k).reverse) na k :=
  (h.flip.takeA ub hk hx).flip
theorem MHi.done (h : MHi a b out na nb) (ua : Up a) (ub : Up b) (hx : ∀ x ∈ a.take na, ∀ y ∈ b.take nb, kn x ≤ kn y) : Up (a.take na ++ b.take nb ++ out.reverse) ∧ (a.take na ++ b.take nb ++ out.reverse).Perm (a ++ b) := by
  refine ⟨((ua.split na).1.app (ub.split nb).1 hx).app h.up fun x hx' y hy => ?_, ?_⟩
  · rcases List.mem_append.mp hx' with h1 | h1
    · exact h.la x h1 y (List.mem_reverse.mp hy)
    · exact h.lb x h1 y (List.mem_reverse.mp hy)
  · have e1 : (a ++ b).Perm (a.take na ++ a.drop na ++ (b.take nb ++ b.drop nb)) := by rw [List.take_append_drop, List.take_append_drop]
    refine List.Perm.trans ?_ e1.symm
    refine (List.Perm.append_left _ ((List.reverse_perm _).trans h.perm)).trans ?_
    rw [List.append_assoc, List.append_assoc]
    refine List.Perm.append_left _ ?_
    rw [← List.append_assoc, ← List.append_assoc]
    exact List.Perm.append_right _ List.perm_append_comm
theorem MHi.first (h : MHi a b out na nb) (ua : Up a) (ub : Up b) (hx : ∀ x ∈ b.take nb, ∀ y ∈ a.take na, kn x ≤ kn y) : Up (b.take nb ++ a.take na ++ out.reverse) ∧ (b.take nb ++ a.take na ++ out.reverse).Perm (a ++ b) := by
  have := h.flip.done ub ua hx
  exact ⟨this.1, this.2.trans List.perm_append_comm⟩
end
end
end TM

end
section
set_option Elab.async false
set_option linter.all false
set_option maxRecDepth 100000
namespace TM
open PySem PyProof.Rows
section
variable [Cmp]

structure SameS (st st' : SortSt) : Prop where
  kind : kindOf st' = kindOf st
  arr : arrOf st' = arrOf st
  pend : pendingOf st' = pendingOf st
  failed : failedOf st' = failedOf st
theorem SameS.rfl' {st : SortSt} : SameS st st := ⟨rfl, rfl, rfl, rfl⟩
theorem SameS.trans {x y z : SortSt} (h : SameS x y) (g : SameS y z) : SameS x z := ⟨g.kind.trans h.kind, g.arr.trans h.arr, g.pend.trans h.pend, g.failed.trans h.failed⟩
def mLo : Array Keyed → Array Keyed → StateT SortSt Sem (Array Keyed) := sortPriv% PySem.Builtin.mergeLo
def mHi : Array Keyed → Array Keyed → StateT SortSt Sem (Array Keyed) := sortPriv% PySem.Builtin.mergeHi
def setG : Nat → StateT SortSt Sem Unit := sortPriv% PySem.Builtin.setMinGallop
theorem toList_push1 {out b : Array Keyed} {i : Nat} (h : i < b.size) : (out.push b[i]).toList = out.toList ++ (b.toList.drop i).take 1 := by
  have h' : i < b.toList.length := by simpa using h
  rw [Array.toList_push, List.drop_eq_getElem_cons h']
  simp
theorem toList_ext {out a : Array Keyed} {i k : Nat} : (out ++ a.extract i (i + k)).toList = out.toList ++ (a.toList.drop i).take k := by
  rw [Array.toList_append, Array.toList_extract, List.extract_eq_take_drop, Nat.add_sub_cancel_left]
theorem toList_rest {a : Array Keyed} {i : Nat} : (a.extract i a.size).toList = a.toList.drop i := by
  rw [Array.toList_extract, List.extract_eq_take_drop]
  exact List.take_of_length_le (by simp)
theorem mem_one {b : Array Keyed} {i : Nat} (h : i < b.size) {x : Keyed} (hx : x ∈ (b.toList.drop i).take 1) : x = b[i] := by
  have h' : i < b.toList.length := by simpa using h
  rw [List.drop_eq_getElem_cons h'] at hx
  simpa using hx
theorem up_drop {b : Array Keyed} {i : Nat} (u : Up b.toList) (h : i < b.size) {y : Keyed} (hy : y ∈ b.toList.drop i) : kn b[i] ≤ kn y := by
  have h' : i < b.toList.length := by simpa using h
  have := (u.split i).2.1
  rw [List.drop_eq_getElem_cons h'] at this hy
  rcases List.mem_cons.mp hy with rfl | hy
  · simp
  · simpa using (List.pairwise_cons.mp this).1 y hy
theorem mem_drop_at {b : Array Keyed} {i : Nat} {x : Keyed} (hx : x ∈ b.toList.drop i) : ∃ j, ∃ h : j < b.size, i ≤ j ∧ x = b[j] := by
  obtain ⟨j, hj, e⟩ := List.getElem_of_mem hx
  rw [List.length_drop] at hj
  refine ⟨i + j, by simp at hj; omega, by omega, ?_⟩
  rw [List.getElem_drop] at e
  simpa using e.symm
theorem mem_seg {b : Array Keyed} {i k : Nat} {x : Keyed} (hx : x ∈ (b.toList.drop i).take k) : ∃ j, ∃ h : i + j < b.size, j < k ∧ x = b[i + j] := by
  obtain ⟨j, hj, e⟩ := List.getElem_of_mem hx
  rw [List.length_take, List.length_drop] at hj
  refine ⟨j, by simp at hj; omega, by omega, ?_⟩
  rw [List.getElem_take, List.getElem_drop] at e
  simpa using e.symm
theorem Up.at {b : Array Keyed} (u : Up b.toList) {i j : Nat} (hij : i ≤ j) (hj : j < b.size) : kn (b[i]'(Nat.lt_of_le_of_lt hij hj)) ≤ kn b[j] := by
  rcases Nat.lt_or_ge i j with h | h
  · have := List.pairwise_iff_getElem.mp u i j (by simp; omega) (by simpa using hj) h
    simpa using this
  · have : i = j := by omega
    subst this; exact Int.le_refl _
theorem Up.K {b : Array Keyed} (u : Up b.toList) {i j : Nat} (hij : i ≤ j) (hj : j < b.size) : TM.K b i ≤ TM.K b j := by
  rw [K_at hj, K_at (Nat.lt_of_le_of_lt hij hj)]; exact u.at hij hj
section
variable {prog : Program} {w : World} {A : Around} {E : Value → Shared → Prop} {s : Shared} {st : SortSt}
theorem wpS_setG {g : Nat} {Q : Unit → SortSt → Prop} (h : ∀ st', SameS st st' → Q () st') : wpS (model prog w) A E s (setG g) Q st := wpS_modify (h _ ⟨rfl, rfl, rfl, rfl⟩)
def Good (a b : Array Keyed) (st : SortSt) (r : Array Keyed) (st' : SortSt) : Prop := SameS st st' ∧ Up r.toList ∧ r.toList.Perm (a.toList ++ b.toList)
def InvLo (a b : Array Keyed) (st : SortSt) (n0 : Nat) (out : Array Keyed) (i j : Nat) (st' : SortSt) : Prop := SameS st st' ∧ MLo a.toList b.toList out.toList i j ∧ i + 1 < a.size ∧ j < b.size ∧ n0 ≤ i + j
section
variable {a b out : Array Keyed} {i j k : Nat}
theorem lo_stepB (M : MLo a.toList b.toList out.toList i j) (ua : Up a.toList) (ub : Up b.toList) (hi : i < a.size) (hj : j < b.size) (hx : kn b[j] ≤ kn a[i]) : MLo a.toList b.toList (out.push b[j]).toList i (j + 1) := by
  rw [toList_push1 hj]
  refine M.takeB ub (by simp; omega) fun x hx' y hy => ?_
  rw [mem_one hj hx']
  exact Int.le_trans hx (up_drop ua hi hy)
theorem lo_stepA (M : MLo a.toList b.toList out.toList i j) (ua : Up a.toList) (ub : Up b.toList) (hi : i < a.size) (hj : j < b.size) (hx : kn a[i] ≤ kn b[j]) : MLo a.toList b.toList (out.push a[i]).toList (i + 1) j := by
  rw [toList_push1 hi]
  refine M.takeA ua (by simp; omega) fun x hx' y hy => ?_
  rw [mem_one hi hx']
  exact Int.le_trans hx (up_drop ub hj hy)
theorem lo_segA (M : MLo a.toList b.toList out.toList i j) (ua : Up a.toList) (ub : Up b.toList) (hk : i + k ≤ a.size) (hj : j < b.size) (hx : ∀ z, z < k → isBy false b[j] a i z = true) : MLo a.toList b.toList (out ++ a.extract i (i + k)).toList (i + k) j := by
  rw [toList_ext]
  refine M.takeA ua (by simpa using hk) fun x hx' y hy => ?_
  obtain ⟨z, hz, hzk, rfl⟩ := mem_seg hx'
  have := hx z hzk
  simp only [isBy, Bool.false_eq_true, if_false, decide_eq_true_eq] at this
  rw [K_at hz] at this
  exact Int.le_trans this (up_drop ub hj hy)
theorem lo_segB (M : MLo a.toList b.toList out.toList i j) (ua : Up a.toList) (ub : Up b.toList) (hk : j + k ≤ b.size) (hi : i < a.size) (hx : ∀ z, z < k → isBy true a[i] b j z = true) : MLo a.toList b.toList (out ++ b.extract j (j + k)).toList i (j + k) := by
  rw [toList_ext]
  refine M.takeB ub (by simpa using hk) fun x hx' y hy => ?_
  obtain ⟨z, hz, hzk, rfl⟩ := mem_seg hx'
  have := hx z hzk
  simp only [isBy, if_true, decide_eq_true_eq] at this
  rw [K_at hz] at this
  exact Int.le_trans (Int.le_of_lt this) (up_drop ua hi hy)
theorem by_false0 {x : Keyed} (h : isBy false x a i 0 = false) (hi : i < a.size) : kn x ≤ kn a[i] := by
  simp only [isBy, Bool.false_eq_true, if_false, decide_eq_false_iff_not, Nat.add_zero] at h
  rw [K_at hi] at h
  omega
theorem by_falseT {x : Keyed} {z : Nat} (h : isBy false x a i z = false) (hi : i + z < a.size) : kn x ≤ kn a[i + z] := by
  simp only [isBy, Bool.false_eq_true, if_false, decide_eq_false_iff_not] at h
  rw [K_at hi] at h
  omega
theorem by_trueF {x : Keyed} {z : Nat} (h : isBy true x a i z = false) (hi : i + z < a.size) : kn x ≤ kn a[i + z] := by
  simp only [isBy, if_true, decide_eq_false_iff_not] at h
  rw [K_at hi] at h
  omega
end
theorem wpS_mLo {a b : Array Keyed} {Q : Array Keyed → SortSt → Prop} (hk : kindOf st = oneType') (ia : ∀ i (h : i < a.size), isI a[i]) (ib : ∀ i (h : i < b.size), isI b[i]) (ua : Up a.toList) (ub : Up b.toList)
    (ha : 1 ≤ a.size) (hb : 1 ≤ b.size) (hf : ∀ i (h : i < a.size), kn b[0] ≤ kn a[i]) (hl : ∀ j (h : j < b.size), kn b[j] ≤ kn a[a.size - 1])
    (h : ∀ r st', Good a b st r st' → Q r st') : wpS (model prog w) A E s (mLo a b) Q st := by
  have first : MLo a.toList b.toList (#[b[0]] : Array Keyed).toList 0 1 := by
    have z : MLo a.toList b.toList (#[] : Array Keyed).toList 0 0 := ⟨Nat.zero_le _, Nat.zero_le _, by simp, .nil, fun x hx => by simp at hx, fun x hx => by simp at hx⟩
    exact lo_stepB z ua ub ha hb (hf 0 ha)
  have hdone : ∀ (out : Array Keyed) x y st', SameS st st' → MLo a.toList b.toList out.toList x y → (x = a.size ∨ y = b.size) → Good a b st (out ++ a.extract x a.size ++ b.extract y b.size) st' := by
    intro out x y st' S M e
    have := M.done ua ub (fun x hx y hy => by
      rcases e with e | e
      · rw [List.drop_of_length_le (by simp; omega)] at hx; simp at hx
      · rw [List.drop_of_length_le (by simp; omega)] at hy; simp at hy)
    refine ⟨S, ?_⟩
    rw [Array.toList_append, Array.toList_append, toList_rest, toList_rest]
    exact this
  have hlast : ∀ (out : Array Keyed) x y st', SameS st st' → MLo a.toList b.toList out.toList x y → (x + 1 = a.size) → Good a b st (out ++ b.extract y b.size ++ a.extract x a.size) st' := by
    intro out x y st' S M e
    have := M.last ua ub (fun x' hx y' hy => by
      obtain ⟨j, hj, _, rfl⟩ := mem_drop_at hx
      obtain ⟨i, hi, hxi, rfl⟩ := mem_drop_at hy
      have e2 : i = a.size - 1 := by omega
      subst e2
      exact hl j hj)
    refine ⟨S, ?_⟩
    rw [Array.toList_append, Array.toList_append, toList_rest, toList_rest]
    exact this
  refine wpS_bind (wpS_lift (wpAny_rule ⟨rfl, ?_⟩))
  refine wpS_bind (wpS_elem hb ?_)
  dsimp only
  by_cases hb1 : b.size = 1
  · rw [if_pos (by simp [hb1])]
    exact wpS_pure (h _ _ (hdone _ 0 1 _ .rfl' first (.inr hb1.symm)))
  rw [if_neg (by simp; omega)]
  by_cases ha1 : a.size = 1
  · rw [if_pos (by simp [ha1])]
    exact wpS_pure (h _ _ (hlast _ 0 1 _ .rfl' first (by omega)))
  rw [if_neg (by simp; omega)]
  refine wpS_bind (wpS_get ?_)
  refine wpS_bind (wpS_mono (wpS_forRange (I := fun x c st' => ∃ out i j g, c = (none, out, i, j, g) ∧ InvLo a b st (x + 1) out i j st') (Q := fun c st' => ∃ r rest, c = (some r, rest) ∧ Good a b st r st') ?step ?fin ⟨_, _, _, _, rfl, .rfl', first, by omega, by omega, by omega⟩) ?post)
  case fin =>
    rintro c st' ⟨out, i, j, g, rfl, S, M, h1, h2, h3⟩
    omega
  case post =>
    rintro c st' ⟨r, rest, rfl, g⟩
    exact wpS_pure (h _ _ g)
  case step =>
    rintro x c st1 _ hx ⟨out, i, j, g, rfl, J⟩
    dsimp only
    refine wpS_bind (wpS_mono (wpS_forRange (I := fun y c st' => ∃ out i j ac bc, c = (none, out, i, j, ac, bc) ∧ InvLo a b st (x + 1 + min y 1) out i j st') (Q := fun c st' => (∃ r rest, c = (some r, rest) ∧ Good a b st r st') ∨ ∃ out i j ac bc, c = (none, out, i, j, ac, bc) ∧ InvLo a b st (x + 1 + 1) out i j st') ?s1 ?f1 ⟨_, _, _, _, _, rfl, J⟩) ?p1)
    case f1 =>
      rintro c st' ⟨out, i, j, ac, bc, rfl, S, M, h1, h2, h3⟩
      exact .inr ⟨_, _, _, _, _, rfl, S, M, h1, h2, by omega⟩
    case s1 =>
      rintro y c st' _ hy ⟨out, i, j, ac, bc, rfl, S, M, h1, h2, h3⟩
      dsimp only
      refine wpS_bind (wpS_elem h2 (wpS_bind (wpS_elem (Nat.lt_of_succ_lt h1) (wpS_bind (wpS_ltP (S.kind.trans hk) (ib _ _) (ia _ _) ?_)))))
      by_cases hw : kn b[j] < kn (a[i]'(Nat.lt_of_succ_lt h1))
      · simp only [hw, decide_true, if_true]
        refine wpS_bind (wpS_elem h2 ?_)
        have M' := lo_stepB M ua ub (Nat.lt_of_succ_lt h1) h2 (Int.le_of_lt hw)
        by_cases e : j + 1 = b.size
        · rw [if_pos (by simp [e])]
          exact wpS_pure (.inl ⟨_, _, rfl, hdone _ _ _ _ S M' (.inr e)⟩)
        · rw [if_neg (by simp [e])]
          split
          · exact wpS_pure (.inr ⟨_, _, _, _, _, rfl, S, M', h1, by omega, by omega⟩)
          · exact wpS_pure ⟨_, _, _, _, _, rfl, S, M', h1, by omega, by omega⟩
      · simp only [hw, decide_false, Bool.false_eq_true, if_false]
        refine wpS_bind (wpS_elem (Nat.lt_of_succ_lt h1) ?_)
        have M' := lo_stepA M ua ub (Nat.lt_of_succ_lt h1) h2 (Int.not_lt.mp hw)
        by_cases e : i + 1 + 1 = a.size
        · rw [if_pos (by simp [e])]
          exact wpS_pure (.inl ⟨_, _, rfl, hlast _ _ _ _ S M' e⟩)
        · rw [if_neg (by simp [e])]
          split
          · exact wpS_pure (.inr ⟨_, _, _, _, _, rfl, S, M', by omega, h2, by omega⟩)
          · exact wpS_pure ⟨_, _, _, _, _, rfl, S, M', by omega, h2, by omega⟩
    case p1 =>
      rintro c st2 (⟨r, rest, rfl, g⟩ | ⟨out, i, j, ac, bc, rfl, J⟩)
      · exact wpS_pure ⟨_, _, rfl, g⟩
      dsimp only
      refine wpS_bind (wpS_lift (wpAny_rule ⟨rfl, ?_⟩))
      refine wpS_bind (wpS_mono (wpS_forRange (I := fun y c st' => ∃ out i j g ac bc, c = (none, out, i, j, g, ac, bc) ∧ InvLo a b st (x + 1 + 1) out i j st') (Q := fun c st' => (∃ r rest, c = (some r, rest) ∧ Good a b st r st') ∨ ∃ out i j g ac bc, c = (none, out, i, j, g, ac, bc) ∧ InvLo a b st (x + 1 + 1) out i j st') ?s2 ?f2 ⟨_, _, _, _, _, _, rfl, J⟩) ?p2)
      case f2 =>
        rintro c st' J
        exact .inr J
      case p2 =>
        rintro c st2 (⟨r, rest, rfl, g⟩ | ⟨out, i, j, g, ac, bc, rfl, S, J⟩)
        · exact wpS_pure ⟨_, _, rfl, g⟩
        · dsimp only
          exact wpS_bind (wpS_setG fun st3 S3 => wpS_pure ⟨_, _, _, _, rfl, S.trans S3, J⟩)
      case s2 =>
        rintro y c st3 _ hy ⟨out, i, j, g, ac, bc, rfl, S, M, h1, h2, h3⟩
        dsimp only
        by_cases hg : g > 1
        case' pos => rw [if_pos hg]
        case' neg => rw [if_neg hg]
        all_goals
          refine wpS_bind (wpS_setG fun st4 S4 => ?_)
          have S' := S.trans S4
          refine wpS_bind (wpS_elem h2 (wpS_bind (wpS_gal (S'.kind.trans hk) (ib _ _) ia (by omega) (by omega) (fun p q hpq hq => ua.K (by omega) (by omega)) fun k hk1 hk2 hk3 => ?_)))
          dsimp only
          have M1 := lo_segA M ua ub (by omega) h2 hk2
          by_cases k0 : k > 0
          case' pos =>
            rw [if_pos k0]
            by_cases e : i + k + 1 = a.size
            case pos => rw [if_pos (by simp [e])]; exact wpS_pure (.inl ⟨_, _, rfl, hlast _ _ _ _ S' M1 e⟩)
            rw [if_neg (by simp [e])]
            by_cases e2 : i + k = a.size
            case pos => rw [if_pos (by simp [e2])]; exact wpS_pure (.inl ⟨_, _, rfl, hdone _ _ _ _ S' M1 (.inl e2)⟩)
            rw [if_neg (by simp [e2])]
            have hv : ∀ hh : i + k < a.size, kn b[j] ≤ kn a[i + k] := fun hh => by_falseT (hk3 k (Nat.le_refl _) (by omega)) hh
            have hi2 : i + k + 1 < a.size := by omega
            clear hk2 hk3 hk1
            generalize out ++ a.extract i (i + k) = o2 at *
            have h32 : x + 1 + 1 ≤ (i + k) + j := by omega
            generalize i + k = i2 at *
          case' neg =>
            rw [if_neg k0]
            have k1 : k = 0 := by omega
            subst k1
            have hv : ∀ hh : i < a.size, kn b[j] ≤ kn a[i] := fun hh => by_false0 (hk3 0 (Nat.le_refl _) (by omega)) hh
            clear hk2 hk3 hk1
            have hi2 : i + 1 < a.size := h1
            clear M1
            have M1 := M
            have h32 : x + 1 + 1 ≤ i + j := h3
            generalize out = o2 at *
            generalize i = i2 at *
          all_goals
            have hi3 : i2 < a.size := Nat.lt_of_succ_lt hi2
            have M2 := lo_stepB M1 ua ub hi3 h2 (hv hi3)
            refine wpS_bind (wpS_elem h2 ?_)
            generalize o2.push b[j] = o3 at *
            by_cases e3 : j + 1 = b.size
            case pos => rw [if_pos (by simp [e3])]; exact wpS_pure (.inl ⟨_, _, rfl, hdone _ _ _ _ S' M2 (.inr e3)⟩)
            rw [if_neg (by simp [e3])]
            refine wpS_bind (wpS_elem hi3 (wpS_bind (wpS_gal (S'.kind.trans hk) (ia _ _) ib (by omega) (by omega) (fun p q hpq hq => ub.K (by omega) (by omega)) fun k2 kk1 kk2 kk3 => ?_)))
            dsimp only
            have M3 := lo_segB M2 ua ub (by omega) hi3 kk2
            by_cases k20 : k2 > 0
            case' pos =>
              rw [if_pos k20]
              by_cases e4 : j + 1 + k2 = b.size
              case pos => rw [if_pos (by simp [e4])]; exact wpS_pure (.inl ⟨_, _, rfl, hdone _ _ _ _ S' M3 (.inr e4)⟩)
              rw [if_neg (by simp [e4])]
              have hu : ∀ hh : j + 1 + k2 < b.size, kn a[i2] ≤ kn b[j + 1 + k2] := fun hh => by_trueF (kk3 k2 (Nat.le_refl _) (by omega)) hh
              have hj3 : j + 1 + k2 < b.size := by omega
              have h33 : x + 1 + 1 ≤ i2 + (j + 1 + k2) := by omega
              clear kk1 kk2 kk3
              generalize o3 ++ b.extract (j + 1) (j + 1 + k2) = o4 at *
              generalize j + 1 + k2 = j3 at *
            case' neg =>
              rw [if_neg k20]
              have k21 : k2 = 0 := by omega
              subst k21
              have hu : ∀ hh : j + 1 < b.size, kn a[i2] ≤ kn b[j + 1] := fun hh => by_trueF (i := j + 1) (z := 0) (kk3 0 (Nat.le_refl _) (by omega)) hh
              have hj3 : j + 1 < b.size := by omega
              have h33 : x + 1 + 1 ≤ i2 + (j + 1) := by omega
              clear kk1 kk2 kk3 M3
              have M3 := M2
              generalize o3 = o4 at *
              generalize j + 1 = j3 at *
            all_goals
              refine wpS_bind (wpS_elem hi3 ?_)
              have M4 := lo_stepA M3 ua ub hi3 hj3 (hu hj3)
              generalize o4.push a[i2] = o5 at *
              by_cases e5 : i2 + 1 + 1 = a.size
              case pos => rw [if_pos (by simp [e5])]; exact wpS_pure (.inl ⟨_, _, rfl, hlast _ _ _ _ S' M4 e5⟩)
              rw [if_neg (by simp [e5])]
              split
              · exact wpS_pure (.inr ⟨_, _, _, _, _, _, rfl, S', M4, by omega, hj3, by omega⟩)
              · exact wpS_pure ⟨_, _, _, _, _, _, rfl, S', M4, by omega, hj3, by omega⟩
end
end
end TM

end
section
set_option Elab.async false
set_option linter.all false
set_option maxRecDepth 100000
namespace TM
open PySem PyProof.Rows
section
variable [Cmp]

def InvHi (a b : Array Keyed) (st : SortSt) (n0 : Nat) (out : Array Keyed) (i j : Nat) (st' : SortSt) : Prop := SameS st st' ∧ MHi a.toList b.toList out.toList i j ∧ 0 < i ∧ 1 < j ∧ i + j + n0 ≤ a.size + b.size
section
variable {a b out : Array Keyed} {i j k : Nat}
theorem toList_back {out a : Array Keyed} {k n : Nat} : (out ++ (a.extract k n).reverse).toList = out.toList ++ ((a.toList.take n).drop k).reverse := by
  rw [Array.toList_append, Array.toList_reverse, Array.toList_extract, List.extract_eq_take_drop, List.drop_take]
theorem toList_head {a : Array Keyed} {n : Nat} : (a.extract 0 n).toList = a.toList.take n := by
  rw [Array.toList_extract, List.extract_eq_take_drop]; simp
theorem last_one {b : Array Keyed} {n : Nat} (h : n < b.size) : (b.toList.take (n + 1)).drop n = [b[n]] := by
  have h' : n < b.toList.length := by simpa using h
  rw [List.drop_take, Nat.add_sub_cancel_left, List.drop_eq_getElem_cons h']
  simp
theorem toList_pushB {out b : Array Keyed} {n : Nat} (h : n < b.size) : (out.push b[n]).toList = out.toList ++ ((b.toList.take (n + 1)).drop n).reverse := by
  rw [last_one h, Array.toList_push]; rfl
theorem mem_take_at {b : Array Keyed} {n : Nat} {x : Keyed} (hx : x ∈ b.toList.take n) : ∃ j, ∃ h : j < b.size, j < n ∧ x = b[j] := by
  obtain ⟨j, hj, e⟩ := List.getElem_of_mem hx
  rw [List.length_take] at hj
  refine ⟨j, by simp at hj; omega, by omega, ?_⟩
  rw [List.getElem_take] at e
  simpa using e.symm
theorem mem_part {b : Array Keyed} {k n : Nat} {x : Keyed} (hx : x ∈ (b.toList.take n).drop k) : ∃ j, ∃ h : j < b.size, k ≤ j ∧ j < n ∧ x = b[j] := by
  rw [List.drop_take] at hx
  obtain ⟨j, hj, hk, rfl⟩ := mem_seg hx
  exact ⟨k + j, hj, by omega, by omega, rfl⟩
theorem hi_stepA (M : MHi a.toList b.toList out.toList (i + 1) (j + 1)) (ua : Up a.toList) (ub : Up b.toList) (hi : i < a.size) (hj : j < b.size) (hx : kn b[j] ≤ kn a[i]) : MHi a.toList b.toList (out.push a[i]).toList i (j + 1) := by
  rw [toList_pushB hi]
  refine M.takeA ua (by omega) fun x hx' y hy => ?_
  obtain ⟨p, hp, hpj, rfl⟩ := mem_take_at hx'
  rw [last_one hi] at hy
  rw [List.mem_singleton.mp hy]
  exact Int.le_trans (ub.at (by omega) hj) hx
theorem hi_stepB (M : MHi a.toList b.toList out.toList (i + 1) (j + 1)) (ua : Up a.toList) (ub : Up b.toList) (hi : i < a.size) (hj : j < b.size) (hx : kn a[i] ≤ kn b[j]) : MHi a.toList b.toList (out.push b[j]).toList (i + 1) j := by
  rw [toList_pushB hj]
  refine M.takeB ub (by omega) fun x hx' y hy => ?_
  obtain ⟨p, hp, hpj, rfl⟩ := mem_take_at hx'
  rw [last_one hj] at hy
  rw [List.mem_singleton.mp hy]
  exact Int.le_trans (ua.at (by omega) hi) hx
theorem hi_segA (M : MHi a.toList b.toList out.toList i (j + 1)) (ua : Up a.toList) (ub : Up b.toList) (hk : k ≤ i) (hj : j < b.size) (hx : ∀ z, k ≤ z → z < i → isBy false b[j] a 0 z = false) : MHi a.toList b.toList (out ++ (a.extract k i).reverse).toList k (j + 1) := by
  rw [toList_back]
  refine M.takeA ua hk fun x hx' y hy => ?_
  obtain ⟨p, hp, hpj, rfl⟩ := mem_take_at hx'
  obtain ⟨z, hz, hzk, hzi, rfl⟩ := mem_part hy
  have := hx z hzk hzi
  simp only [isBy, Bool.false_eq_true, if_false, decide_eq_false_iff_not, Nat.zero_add] at this
  rw [K_at hz] at this
  have h2 := ub.at (show p ≤ j by omega) hj
  omega
theorem hi_segB (M : MHi a.toList b.toList out.toList (i + 1) j) (ua : Up a.toList) (ub : Up b.toList) (hk : k ≤ j) (hi : i < a.size) (hx : ∀ z, k ≤ z → z < j → isBy true a[i] b 0 z = false) : MHi a.toList b.toList (out ++ (b.extract k j).reverse).toList (i + 1) k := by
  rw [toList_back]
  refine M.takeB ub hk fun x hx' y hy => ?_
  obtain ⟨p, hp, hpj, rfl⟩ := mem_take_at hx'
  obtain ⟨z, hz, hzk, hzi, rfl⟩ := mem_part hy
  have := hx z hzk hzi
  simp only [isBy, if_true, decide_eq_false_iff_not, Nat.zero_add] at this
  rw [K_at hz] at this
  have h2 := ua.at (show p ≤ i by omega) hi
  omega
theorem by_false {x : Keyed} {z : Nat} (h : isBy false x a 0 z = true) (hi : z < a.size) : kn a[z] ≤ kn x := by
  simp only [isBy, Bool.false_eq_true, if_false, decide_eq_true_eq, Nat.zero_add] at h
  rwa [K_at hi] at h
theorem by_true {x : Keyed} {z : Nat} (h : isBy true x a 0 z = true) (hi : z < a.size) : kn a[z] ≤ kn x := by
  simp only [isBy, if_true, decide_eq_true_eq, Nat.zero_add] at h
  rw [K_at hi] at h
  omega
end
section
variable {prog : Program} {w : World} {A : Around} {E : Value → Shared → Prop} {s : Shared} {st : SortSt}
theorem wpS_mHi {a b : Array Keyed} {Q : Array Keyed → SortSt → Prop} (hk : kindOf st = oneType') (ia : ∀ i (h : i < a.size), isI a[i]) (ib : ∀ i (h : i < b.size), isI b[i]) (ua : Up a.toList) (ub : Up b.toList)
    (ha : 1 ≤ a.size) (hb : 1 ≤ b.size) (hf : ∀ i (h : i < a.size), kn b[0] ≤ kn a[i]) (hl : ∀ j (h : j < b.size), kn b[j] ≤ kn a[a.size - 1])
    (h : ∀ r st', Good a b st r st' → Q r st') : wpS (model prog w) A E s (mHi a b) Q st := by
  have first : MHi a.toList b.toList (#[a[a.size - 1]] : Array Keyed).toList (a.size - 1) b.size := by
    have z : MHi a.toList b.toList (#[] : Array Keyed).toList a.size b.size := ⟨by simp, by simp, by rw [List.drop_of_length_le (by simp), List.drop_of_length_le (by simp)]; exact .nil, .nil, fun x _ y hy => by simp at hy, fun x _ y hy => by simp at hy⟩
    have e1 : a.size = a.size - 1 + 1 := by omega
    have e2 : b.size = b.size - 1 + 1 := by omega
    rw [e1, e2] at z
    have := hi_stepA z ua ub (by omega) (by omega) (hl _ (by omega))
    rw [← e2] at this
    exact this
  have hdone : ∀ (out : Array Keyed) x y st', SameS st st' → MHi a.toList b.toList out.toList x y → (x = 0 ∨ y = 0) → Good a b st (a.extract 0 x ++ b.extract 0 y ++ out.reverse) st' := by
    intro out x y st' S M e
    have := M.done ua ub (fun x hx y hy => by
      rcases e with e | e
      · rw [e] at hx; simp at hx
      · rw [e] at hy; simp at hy)
    refine ⟨S, ?_⟩
    rw [Array.toList_append, Array.toList_append, toList_head, toList_head, Array.toList_reverse]
    exact this
  have hlast : ∀ (out : Array Keyed) x y st', SameS st st' → MHi a.toList b.toList out.toList x y → y = 1 → Good a b st (b.extract 0 y ++ a.extract 0 x ++ out.reverse) st' := by
    intro out x y st' S M e
    have := M.first ua ub (fun x' hx y' hy => by
      obtain ⟨j, hj, hj1, rfl⟩ := mem_take_at hx
      obtain ⟨i, hi, hxi, rfl⟩ := mem_take_at hy
      have e2 : j = 0 := by omega
      subst e2
      exact hf i hi)
    refine ⟨S, ?_⟩
    rw [Array.toList_append, Array.toList_append, toList_head, toList_head, Array.toList_reverse]
    exact this
  refine wpS_bind (wpS_lift (wpAny_rule ⟨rfl, ?_⟩))
  refine wpS_bind (wpS_elem (Nat.sub_lt ha Nat.one_pos) ?_)
  dsimp only
  by_cases ha1 : a.size - 1 = 0
  · rw [if_pos (by simp [ha1])]
    exact wpS_pure (h _ _ (hdone _ _ _ _ .rfl' first (.inl ha1)))
  rw [if_neg (by simp [ha1])]
  by_cases hb1 : b.size = 1
  · rw [if_pos (by simp [hb1])]
    exact wpS_pure (h _ _ (hlast _ _ _ _ .rfl' first hb1))
  rw [if_neg (by simp [hb1])]
  refine wpS_bind (wpS_get ?_)
  refine wpS_bind (wpS_mono (wpS_forRange (I := fun x c st' => ∃ out i j g, c = (none, i, j, out, g) ∧ InvHi a b st (x + 1) out i j st') (Q := fun c st' => ∃ r rest, c = (some r, rest) ∧ Good a b st r st') ?step ?fin ⟨_, _, _, _, rfl, .rfl', first, by omega, by omega, by omega⟩) ?post)
  case fin =>
    rintro c st' ⟨out, i, j, g, rfl, S, M, h1, h2, h3⟩
    omega
  case post =>
    rintro c st' ⟨r, rest, rfl, g⟩
    exact wpS_pure (h _ _ g)
  case step =>
    rintro x c st1 _ hx ⟨out, i, j, g, rfl, J⟩
    dsimp only
    refine wpS_bind (wpS_mono (wpS_forRange (I := fun y c st' => ∃ out i j ac bc, c = (none, i, j, out, ac, bc) ∧ InvHi a b st (x + 1 + min y 1) out i j st') (Q := fun c st' => (∃ r rest, c = (some r, rest) ∧ Good a b st r st') ∨ ∃ out i j ac bc, c = (none, i, j, out, ac, bc) ∧ InvHi a b st (x + 1 + 1) out i j st') ?s1 ?f1 ⟨_, _, _, _, _, rfl, J⟩) ?p1)
    case f1 =>
      rintro c st' ⟨out, i, j, ac, bc, rfl, S, M, h1, h2, h3⟩
      exact .inr ⟨_, _, _, _, _, rfl, S, M, h1, h2, by omega⟩
    case s1 =>
      rintro y c st' _ hy ⟨out, i, j, ac, bc, rfl, S, M, h1, h2, h3⟩
      dsimp only
      have hia : i ≤ a.size := by simpa using M.ha
      have hjb : j ≤ b.size := by simpa using M.hb
      obtain ⟨i, rfl⟩ : ∃ q, i = q + 1 := ⟨i - 1, by omega⟩
      obtain ⟨j, rfl⟩ : ∃ q, j = q + 1 := ⟨j - 1, by omega⟩
      simp only [Nat.add_sub_cancel]
      refine wpS_bind (wpS_elem hjb (wpS_bind (wpS_elem hia (wpS_bind (wpS_ltP (S.kind.trans hk) (ib _ _) (ia _ _) ?_)))))
      by_cases hw : kn b[j] < kn a[i]
      · simp only [hw, decide_true, if_true]
        refine wpS_bind (wpS_elem hia ?_)
        have M' := hi_stepA M ua ub hia hjb (Int.le_of_lt hw)
        by_cases e : i = 0
        · rw [if_pos (by simp [e])]
          exact wpS_pure (.inl ⟨_, _, rfl, hdone _ _ _ _ S M' (.inl e)⟩)
        · rw [if_neg (by simp [e])]
          split
          · exact wpS_pure (.inr ⟨_, _, _, _, _, rfl, S, M', by omega, by omega, by omega⟩)
          · exact wpS_pure ⟨_, _, _, _, _, rfl, S, M', by omega, by omega, by omega⟩
      · simp only [hw, decide_false, Bool.false_eq_true, if_false]
        refine wpS_bind (wpS_elem hjb ?_)
        have M' := hi_stepB M ua ub hia hjb (Int.not_lt.mp hw)
        by_cases e : j = 1
        · rw [if_pos (by simp [e])]
          exact wpS_pure (.inl ⟨_, _, rfl, hlast _ _ _ _ S M' e⟩)
        · rw [if_neg (by simp [e])]
          split
          · exact wpS_pure (.inr ⟨_, _, _, _, _, rfl, S, M', by omega, by omega, by omega⟩)
          · exact wpS_pure ⟨_, _, _, _, _, rfl, S, M', by omega, by omega, by omega⟩
    case p1 =>
      rintro c st2 (⟨r, rest, rfl, g⟩ | ⟨out, i, j, ac, bc, rfl, J⟩)
      · exact wpS_pure ⟨_, _, rfl, g⟩
      dsimp only
      refine wpS_bind (wpS_lift (wpAny_rule ⟨rfl, ?_⟩))
      refine wpS_bind (wpS_mono (wpS_forRange (I := fun y c st' => ∃ out i j g ac bc, c = (none, i, j, out, g, ac, bc) ∧ InvHi a b st (x + 1 + 1) out i j st') (Q := fun c st' => (∃ r rest, c = (some r, rest) ∧ Good a b st r st') ∨ ∃ out i j g ac bc, c = (none, i, j, out, g, ac, bc) ∧ InvHi a b st (x + 1 + 1) out i j st') ?s2 ?f2 ⟨_, _, _, _, _, _, rfl, J⟩) ?p2)
      case f2 =>
        rintro c st' J
        exact .inr J
      case p2 =>
        rintro c st2 (⟨r, rest, rfl, g⟩ | ⟨out, i, j, g, ac, bc, rfl, S, J⟩)
        · exact wpS_pure ⟨_, _, rfl, g⟩
        · dsimp only
          exact wpS_bind (wpS_setG fun st3 S3 => wpS_pure ⟨_, _, _, _, rfl, S.trans S3, J⟩)
      case s2 =>
        rintro y c st3 _ hy ⟨out, i, j, g, ac, bc, rfl, S, M, h1, h2, h3⟩
        dsimp only
        have hia : i ≤ a.size := by simpa using M.ha
        have hjb : j ≤ b.size := by simpa using M.hb
        obtain ⟨j, rfl⟩ : ∃ q, j = q + 1 := ⟨j - 1, by omega⟩
        simp only [Nat.add_sub_cancel]
        by_cases hg : g > 1
        case' pos => rw [if_pos hg]
        case' neg => rw [if_neg hg]
        all_goals
          refine wpS_bind (wpS_setG fun st4 S4 => ?_)
          have S' := S.trans S4
          refine wpS_bind (wpS_elem hjb (wpS_bind (wpS_gal (S'.kind.trans hk) (ib _ _) ia (by omega) (by omega) (fun p q hpq hq => ua.K (by omega) (by omega)) fun k hk1 hk2 hk3 => ?_)))
          dsimp only
          have M1 := hi_segA M ua ub hk1 hjb hk3
          by_cases k0 : i - k > 0
          case' pos =>
            rw [if_pos k0]
            by_cases e : k = 0
            case pos => rw [if_pos (by simp [e])]; exact wpS_pure (.inl ⟨_, _, rfl, hdone _ _ _ _ S' M1 (.inl e)⟩)
            rw [if_neg (by simp [e])]
            have hv : ∀ hh : k - 1 < a.size, kn a[k - 1] ≤ kn b[j] := fun hh => by_false (hk2 (k - 1) (by omega)) hh
            have hi2 : 0 < k := by omega
            have hka : k ≤ a.size := by omega
            have h32 : k + (j + 1) + (x + 1 + 1) ≤ a.size + b.size := by omega
            clear hk2 hk3 hk1
            generalize out ++ (a.extract k i).reverse = o2 at *
            generalize hdd : i - k = dd at *
            clear hdd M h3 h1
          case' neg =>
            rw [if_neg k0]
            have k1 : k = i := by omega
            subst k1
            have hv : ∀ hh : k - 1 < a.size, kn a[k - 1] ≤ kn b[j] := fun hh => by_false (hk2 (k - 1) (by omega)) hh
            have hi2 : 0 < k := h1
            have hka : k ≤ a.size := hia
            have h32 : k + (j + 1) + (x + 1 + 1) ≤ a.size + b.size := h3
            clear M1 hk2 hk3 hk1
            have M1 := M
            generalize out = o2 at *
            generalize hdd : k - k = dd at *
            clear hdd M h3 h1
          all_goals
            obtain ⟨q, rfl⟩ : ∃ q, k = q + 1 := ⟨k - 1, by omega⟩
            simp only [Nat.add_sub_cancel] at hv ⊢
            have M2 := hi_stepB M1 ua ub hka hjb (hv hka)
            refine wpS_bind (wpS_elem hjb ?_)
            generalize o2.push b[j] = o3 at *
            by_cases e3 : j = 1
            case pos => rw [if_pos (by simp [e3])]; exact wpS_pure (.inl ⟨_, _, rfl, hlast _ _ _ _ S' M2 e3⟩)
            rw [if_neg (by simp [e3])]
            refine wpS_bind (wpS_elem hka (wpS_bind (wpS_gal (S'.kind.trans hk) (ia _ _) ib (by omega) (by omega) (fun p q hpq hq => ub.K (by omega) (by omega)) fun k2 kk1 kk2 kk3 => ?_)))
            dsimp only
            have M3 := hi_segB M2 ua ub kk1 hka kk3
            by_cases k20 : j - k2 > 0
            case' pos =>
              rw [if_pos k20]
              by_cases e4 : k2 = 1
              case pos => rw [if_pos (by simp [e4])]; exact wpS_pure (.inl ⟨_, _, rfl, hlast _ _ _ _ S' M3 e4⟩)
              rw [if_neg (by simp [e4])]
              by_cases e5 : k2 = 0
              case pos => rw [if_pos (by simp [e5])]; exact wpS_pure (.inl ⟨_, _, rfl, hdone _ _ _ _ S' M3 (.inr e5)⟩)
              rw [if_neg (by simp [e5])]
              have hu : ∀ hh : k2 - 1 < b.size, kn b[k2 - 1] ≤ kn a[q] := fun hh => by_true (kk2 (k2 - 1) (by omega)) hh
              have hj3 : 1 < k2 := by omega
              have hkb : k2 ≤ b.size := by omega
              have h33 : q + 1 + k2 + (x + 1 + 1) ≤ a.size + b.size := by omega
              clear kk1 kk2 kk3
              generalize o3 ++ (b.extract k2 j).reverse = o4 at *
              generalize hde : j - k2 = de at *
              clear hde M2
            case' neg =>
              rw [if_neg k20]
              have k21 : k2 = j := by omega
              subst k21
              have hu : ∀ hh : k2 - 1 < b.size, kn b[k2 - 1] ≤ kn a[q] := fun hh => by_true (kk2 (k2 - 1) (by omega)) hh
              have hj3 : 1 < k2 := by omega
              have hkb : k2 ≤ b.size := by omega
              have h33 : q + 1 + k2 + (x + 1 + 1) ≤ a.size + b.size := by omega
              clear kk1 kk2 kk3 M3
              have M3 := M2
              generalize o3 = o4 at *
              generalize hde : k2 - k2 = de at *
              clear hde M2
            all_goals
              refine wpS_bind (wpS_elem hka ?_)
              obtain ⟨p, rfl⟩ : ∃ p, k2 = p + 1 := ⟨k2 - 1, by omega⟩
              simp only [Nat.add_sub_cancel] at hu
              have M4 := hi_stepA M3 ua ub hka hkb (hu hkb)
              generalize o4.push a[q] = o5 at *
              by_cases e6 : q = 0
              case pos => rw [if_pos (by simp [e6])]; exact wpS_pure (.inl ⟨_, _, rfl, hdone _ _ _ _ S' M4 (.inl e6)⟩)
              rw [if_neg (by simp [e6])]
              split
              · exact wpS_pure (.inr ⟨_, _, _, _, _, _, rfl, S', M4, by omega, hj3, by omega⟩)
              · exact wpS_pure ⟨_, _, _, _, _, _, rfl, S', M4, by omega, hj3, by omega⟩
end
end
end TM

end
section
set_option Elab.async false
set_option linter.all false
set_option maxRecDepth 100000
namespace TM
open PySem PyProof.Rows
section
variable [Cmp]
/-! ### two runs made one -/
def mAt : Nat → StateT SortSt Sem Bool := sortPriv% PySem.Builtin.mergeAt
theorem up_mid {P X Y R m : List Keyed} (u1 : Up (P ++ X)) (u2 : Up (Y ++ R)) (hm : Up m) (pm : m.Perm (X ++ Y)) (hP : ∀ p ∈ P, ∀ y ∈ Y, kn p ≤ kn y) (hR : ∀ x ∈ P ++ X, ∀ r ∈ R, kn x ≤ kn r) : Up (P ++ m ++ R) := by
  have a1 := List.pairwise_append.mp u1
  have a2 := List.pairwise_append.mp u2
  refine (Up.app a1.1 hm fun x hx y hy => ?_).app a2.2.1 fun x hx y hy => ?_
  · rcases List.mem_append.mp (pm.mem_iff.mp hy) with h | h
    · exact a1.2.2 x hx y h
    · exact hP x hx y h
  · rcases List.mem_append.mp hx with h | h
    · exact hR x (List.mem_append_left _ h) y hy
    · rcases List.mem_append.mp (pm.mem_iff.mp h) with h | h
      · exact hR x (List.mem_append_right _ h) y hy
      · exact a2.2.2 x h y hy
theorem setMany : ∀ (l : List Keyed) (arr : Array Keyed) (sa j0 : Nat), sa + j0 + l.length ≤ arr.size →
    ((l.zipIdx j0).foldl (fun (a : Array Keyed) (p : Keyed × Nat) => a.setIfInBounds (sa + p.2) p.1) arr).toList = arr.toList.take (sa + j0) ++ l ++ arr.toList.drop (sa + j0 + l.length)
  | [], arr, sa, j0, h => by simp
  | p :: l, arr, sa, j0, h => by
    rw [List.length_cons] at h
    rw [List.zipIdx_cons, List.foldl_cons]
    have ih := setMany l (arr.setIfInBounds (sa + j0) p) sa (j0 + 1) (by rw [Array.size_setIfInBounds]; omega)
    have hlen : sa + j0 < arr.toList.length := by simp; omega
    rw [ih, Array.toList_setIfInBounds, List.length_cons]
    have e1 : (arr.toList.set (sa + j0) p).take (sa + (j0 + 1)) = arr.toList.take (sa + j0) ++ [p] := by
      rw [show sa + (j0 + 1) = sa + j0 + 1 by omega, List.take_add_one, List.take_set_of_le (Nat.le_refl _), List.getElem?_set_self hlen]
      rfl
    have e2 : (arr.toList.set (sa + j0) p).drop (sa + (j0 + 1) + l.length) = arr.toList.drop (sa + j0 + (l.length + 1)) := by
      rw [List.drop_set_of_lt (by omega), show sa + (j0 + 1) + l.length = sa + j0 + (l.length + 1) by omega]
    rw [e1, e2, List.append_assoc (List.take (sa + j0) arr.toList)]
    rfl
def Seg (xs : Array Keyed) (lo m : Nat) : Prop := ∀ i j, i ≤ j → j < m → K xs (lo + i) ≤ K xs (lo + j)
theorem up_of_seg {xs : Array Keyed} {lo m : Nat} (g : Seg xs lo m) (h : lo + m ≤ xs.size) : Up ((xs.toList.drop lo).take m) := by
  refine List.pairwise_iff_getElem.mpr fun i j hi hj hij => ?_
  rw [List.length_take, List.length_drop] at hi hj
  simp only [Array.length_toList] at hi hj
  have h1 := g i j (by omega) (by omega)
  rw [K_at (show lo + j < xs.size by omega), K_at (show lo + i < xs.size by omega)] at h1
  simpa using h1
theorem seg_of_up {xs : Array Keyed} {P M R : List Keyed} (e : xs.toList = P ++ M ++ R) (u : Up M) : Seg xs P.length M.length := by
  intro i j hij hj
  have hs : xs.size = P.length + M.length + R.length := by rw [← Array.length_toList, e]; simp; omega
  have at' : ∀ k (hk : k < M.length), K xs (P.length + k) = kn M[k] := fun k hk => by
    unfold K
    rw [← Array.getElem?_toList, e, List.append_assoc, List.getElem?_append_right (Nat.le_add_right _ _), Nat.add_sub_cancel_left, List.getElem?_append_left hk, List.getElem?_eq_getElem hk]
  rw [at' i (by omega), at' j hj]
  rcases Nat.lt_or_ge i j with h | h
  · exact List.pairwise_iff_getElem.mp u i j (by omega) hj h
  · have : i = j := by omega
    subst this; exact Int.le_refl _
theorem K_out {xs ys : Array Keyed} {P M M' R : List Keyed} (e : xs.toList = P ++ M ++ R) (e' : ys.toList = P ++ M' ++ R) (hl : M.length = M'.length) {j : Nat} (hj : j < P.length ∨ P.length + M.length ≤ j) : K xs j = K ys j := by
  refine K_congr ?_
  rw [← Array.getElem?_toList, ← Array.getElem?_toList, e, e']
  rcases hj with h | h
  · rw [List.append_assoc, List.append_assoc, List.getElem?_append_left h, List.getElem?_append_left h]
  · rw [List.getElem?_append_right (by rw [List.length_append]; omega), List.getElem?_append_right (by rw [List.length_append]; omega), List.length_append, List.length_append, hl]
theorem Seg.join {xs : Array Keyed} {lo n m : Nat} (g1 : Seg xs lo n) (g2 : Seg xs (lo + n) m) (h : ∀ i j, i < n → j < m → K xs (lo + i) ≤ K xs (lo + n + j)) : Seg xs lo (n + m) := fun i j hij hj => by
  by_cases hjn : j < n
  · exact g1 i j hij hjn
  · by_cases hi : i < n
    · have := h i (j - n) hi (by omega)
      rwa [show lo + n + (j - n) = lo + j by omega] at this
    · have := g2 (i - n) (j - n) (by omega) (by omega)
      rwa [show lo + n + (i - n) = lo + i by omega, show lo + n + (j - n) = lo + j by omega] at this
section
variable {prog : Program} {w : World} {A : Around} {E : Value → Shared → Prop} {s : Shared} {st : SortSt}
theorem wpS_set {σ : Type} {M : Model} {x st : σ} {Q : PUnit → σ → Prop} (h : Q ⟨⟩ x) : wpS M A E s (set x : StateT σ Sem PUnit) Q st := by
  unfold wpS; rw [StateT.run_set]; exact wpAny_pure ⟨rfl, h⟩
def joined (pd : Array (Nat × Nat × Nat)) (i s1 n p : Nat) : Array (Nat × Nat × Nat) := (pd.setIfInBounds i (s1, n, p)).eraseIdxIfInBounds (i + 1)
theorem wpS_mAt {i s1 n1 n2 p q : Nat} {Q : Bool → SortSt → Prop} (hk : kindOf st = oneType') (hI : ∀ i (h : i < (arrOf st).size), isI (arrOf st)[i]) (hp0 : (pendingOf st)[i]? = some (s1, n1, p)) (hp1 : (pendingOf st)[i + 1]? = some (s1 + n1, n2, q)) (h1 : 1 ≤ n1) (h2 : 1 ≤ n2) (hsz : s1 + n1 + n2 ≤ (arrOf st).size)
    (g1 : Seg (arrOf st) s1 n1) (g2 : Seg (arrOf st) (s1 + n1) n2) (hfl : failedOf st = none)
    (h : ∀ st', kindOf st' = oneType' → failedOf st' = none → pendingOf st' = joined (pendingOf st) i s1 (n1 + n2) p → Seg (arrOf st') s1 (n1 + n2) → (∀ j, j < s1 ∨ s1 + n1 + n2 ≤ j → K (arrOf st') j = K (arrOf st) j) → (arrOf st').toList.Perm (arrOf st).toList → Q true st') : wpS (model prog w) A E s (mAt i) Q st := by
  obtain ⟨kd, arr, pd, gl, fd⟩ := st
  replace hk : kd = oneType' := hk
  replace hI : ∀ i (h : i < arr.size), isI arr[i] := hI
  replace hp0 : pd[i]? = some (s1, n1, p) := hp0
  replace hp1 : pd[i + 1]? = some (s1 + n1, n2, q) := hp1
  replace hsz : s1 + n1 + n2 ≤ arr.size := hsz
  replace g1 : Seg arr s1 n1 := g1
  replace g2 : Seg arr (s1 + n1) n2 := g2
  replace hfl : fd = none := hfl
  replace h : ∀ st' : SortSt, kindOf st' = oneType' → failedOf st' = none → pendingOf st' = joined pd i s1 (n1 + n2) p → Seg (arrOf st') s1 (n1 + n2) → (∀ j, j < s1 ∨ s1 + n1 + n2 ≤ j → K (arrOf st') j = K arr j) → (arrOf st').toList.Perm arr.toList → Q true st' := h
  subst hk hfl
  refine wpS_bind (wpS_get ?_)
  dsimp only
  rw [hp0, hp1]
  dsimp only
  refine wpS_bind (wpS_set ?_)
  generalize hst1 : SortSt.mk' oneType' arr (joined pd i s1 (n1 + n2) p) gl none = st1
  have S1 : kindOf st1 = oneType' ∧ arrOf st1 = arr ∧ pendingOf st1 = joined pd i s1 (n1 + n2) p ∧ failedOf st1 = none := by subst hst1; exact ⟨rfl, rfl, rfl, rfl⟩
  show wpS _ _ _ _ _ _ (SortSt.mk' oneType' arr (joined pd i s1 (n1 + n2) p) gl none)
  rw [hst1]
  clear hst1
  have hn1 : s1 + n1 < arr.size := by omega
  have whole : Seg arr s1 (n1 + n2) → Q true st1 := fun u => h st1 S1.1 S1.2.2.2 S1.2.2.1 (by rw [S1.2.1]; exact u) (fun j _ => by rw [S1.2.1]) (by rw [S1.2.1])
  refine wpS_bind (wpS_elem hn1 (wpS_bind (wpS_gal S1.1 (hI _ _) hI (by omega) (by omega) (fun i j hij hj => g1 i j hij hj) fun k kk1 kk2 kk3 => ?_)))
  dsimp only
  have hle : ∀ i, i < k → K arr (s1 + i) ≤ K arr (s1 + n1) := fun i hi => by
    have := kk2 i hi
    simp only [isBy, Bool.false_eq_true, if_false, decide_eq_true_eq] at this
    rw [K_at hn1]; exact this
  have hge : ∀ i, k ≤ i → i < n1 → K arr (s1 + n1) ≤ K arr (s1 + i) := fun i hi hi2 => by
    have := kk3 i hi hi2
    simp only [isBy, Bool.false_eq_true, if_false, decide_eq_false_iff_not] at this
    rw [K_at hn1]; omega
  by_cases e1 : n1 - k = 0
  · rw [if_pos (by simp [e1])]
    refine wpS_pure (whole (g1.join g2 fun i j hi hj => ?_))
    have := g2 0 j (by omega) hj
    exact Int.le_trans (hle i (by omega)) this
  rw [if_neg (by simp [e1])]
  have hlast : s1 + k + (n1 - k) - 1 = s1 + n1 - 1 := by omega
  rw [hlast]
  have hl1 : s1 + n1 - 1 < arr.size := by omega
  refine wpS_bind (wpS_elem hl1 (wpS_bind (wpS_gal S1.1 (hI _ _) hI (by omega) (by omega) (fun i j hij hj => g2 i j hij hj) fun nb nn1 nn2 nn3 => ?_)))
  dsimp only
  have hlt : ∀ j, j < nb → K arr (s1 + n1 + j) ≤ K arr (s1 + n1 - 1) := fun j hj => by
    have := nn2 j hj
    simp only [isBy, if_true, decide_eq_true_eq] at this
    rw [K_at hl1]; omega
  have hgt : ∀ j, nb ≤ j → j < n2 → K arr (s1 + n1 - 1) ≤ K arr (s1 + n1 + j) := fun j hj hj2 => by
    have := nn3 j hj hj2
    simp only [isBy, if_true, decide_eq_false_iff_not] at this
    rw [K_at hl1]; omega
  have hg1 : ∀ i, i < n1 → K arr (s1 + i) ≤ K arr (s1 + n1 - 1) := fun i hi => by
    have := g1 i (n1 - 1) (by omega) (by omega)
    rwa [show s1 + (n1 - 1) = s1 + n1 - 1 by omega] at this
  by_cases e2 : nb = 0
  · rw [if_pos (by simp [e2])]
    refine wpS_pure (whole (g1.join g2 fun i j hi hj => ?_))
    exact Int.le_trans (hg1 i hi) (hgt j (by omega) hj)
  rw [if_neg (by simp [e2])]
  have sx : (arr.extract (s1 + k) (s1 + n1)).size = n1 - k := by rw [Array.size_extract]; omega
  have sy : (arr.extract (s1 + n1) (s1 + n1 + nb)).size = nb := by rw [Array.size_extract]; omega
  have ix : ∀ i (hi : i < (arr.extract (s1 + k) (s1 + n1)).size), (arr.extract (s1 + k) (s1 + n1))[i] = arr[s1 + k + i]'(by omega) := fun i hi => Array.getElem_extract ..
  have iy : ∀ i (hi : i < (arr.extract (s1 + n1) (s1 + n1 + nb)).size), (arr.extract (s1 + n1) (s1 + n1 + nb))[i] = arr[s1 + n1 + i]'(by omega) := fun i hi => Array.getElem_extract ..
  obtain ⟨M1, eM1⟩ : ∃ M, M = (arr.toList.drop s1).take n1 := ⟨_, rfl⟩
  obtain ⟨M2, eM2⟩ : ∃ M, M = (arr.toList.drop (s1 + n1)).take n2 := ⟨_, rfl⟩
  have u1 : Up M1 := by rw [eM1]; exact up_of_seg g1 (by omega)
  have u2 : Up M2 := by rw [eM2]; exact up_of_seg g2 (by omega)
  have l1 : M1.length = n1 := by rw [eM1, List.length_take, List.length_drop, Array.length_toList]; omega
  have l2 : M2.length = n2 := by rw [eM2, List.length_take, List.length_drop, Array.length_toList]; omega
  have t1 : M1.take k = (arr.toList.drop s1).take k := by rw [eM1, List.take_take, Nat.min_eq_left kk1]
  have t2 : M2.take nb = (arr.toList.drop (s1 + n1)).take nb := by rw [eM2, List.take_take, Nat.min_eq_left nn1]
  have d1 : M1.drop k = (arr.toList.drop (s1 + k)).take (n1 - k) := by rw [eM1, List.drop_take, List.drop_drop]
  have d2 : M2.drop nb = (arr.toList.drop (s1 + n1 + nb)).take (n2 - nb) := by rw [eM2, List.drop_take, List.drop_drop]
  have tx : (arr.extract (s1 + k) (s1 + n1)).toList = M1.drop k := by rw [Array.toList_extract, List.extract_eq_take_drop, d1, show s1 + n1 - (s1 + k) = n1 - k by omega]
  have ty : (arr.extract (s1 + n1) (s1 + n1 + nb)).toList = M2.take nb := by rw [Array.toList_extract, List.extract_eq_take_drop, t2, Nat.add_sub_cancel_left]
  have ux : Up (arr.extract (s1 + k) (s1 + n1)).toList := by rw [tx]; exact (u1.split k).2.1
  have uy : Up (arr.extract (s1 + n1) (s1 + n1 + nb)).toList := by rw [ty]; exact (u2.split nb).1
  have Ix : ∀ i (hi : i < (arr.extract (s1 + k) (s1 + n1)).size), isI (arr.extract (s1 + k) (s1 + n1))[i] := fun i hi => by rw [ix]; exact hI _ _
  have Iy : ∀ i (hi : i < (arr.extract (s1 + n1) (s1 + n1 + nb)).size), isI (arr.extract (s1 + n1) (s1 + n1 + nb))[i] := fun i hi => by rw [iy]; exact hI _ _
  have hf : ∀ (h0 : 0 < (arr.extract (s1 + n1) (s1 + n1 + nb)).size) i (hi : i < (arr.extract (s1 + k) (s1 + n1)).size), kn (arr.extract (s1 + n1) (s1 + n1 + nb))[0] ≤ kn (arr.extract (s1 + k) (s1 + n1))[i] := fun h0 i hi => by
    rw [ix, iy, ← K_at, ← K_at]
    have := hge (k + i) (by omega) (by omega)
    rwa [← Nat.add_assoc] at this
  have hl : ∀ (h0 : (arr.extract (s1 + k) (s1 + n1)).size - 1 < (arr.extract (s1 + k) (s1 + n1)).size) j (hj : j < (arr.extract (s1 + n1) (s1 + n1 + nb)).size), kn (arr.extract (s1 + n1) (s1 + n1 + nb))[j] ≤ kn (arr.extract (s1 + k) (s1 + n1))[(arr.extract (s1 + k) (s1 + n1)).size - 1] := fun h0 j hj => by
    rw [ix, iy, ← K_at, ← K_at]
    have := hlt j (by omega)
    rwa [show s1 + k + ((arr.extract (s1 + k) (s1 + n1)).size - 1) = s1 + n1 - 1 by omega]
  have eL : arr.toList = arr.toList.take s1 ++ (M1 ++ M2) ++ arr.toList.drop (s1 + n1 + n2) := by
    have a1 : arr.toList.drop (s1 + n1) = M2 ++ arr.toList.drop (s1 + n1 + n2) := by rw [eM2, ← List.drop_drop (i := n2), List.take_append_drop]
    have a2 : arr.toList.drop s1 = M1 ++ arr.toList.drop (s1 + n1) := by rw [eM1, ← List.drop_drop (i := n1), List.take_append_drop]
    conv => lhs; rw [← List.take_append_drop s1 arr.toList, a2, a1]
    simp only [List.append_assoc]
  have lP : (arr.toList.take s1).length = s1 := by rw [List.length_take, Array.length_toList]; omega
  have fin : ∀ (r : Array Keyed) (st' : SortSt), Good (arr.extract (s1 + k) (s1 + n1)) (arr.extract (s1 + n1) (s1 + n1 + nb)) st1 r st' → ∀ st2, st2 = SortSt.mk' (kindOf st') (r.toList.zipIdx.foldl (fun (a : Array Keyed) (p : Keyed × Nat) => a.setIfInBounds (s1 + k + p.2) p.1) (arrOf st')) (pendingOf st') (gallopOf st') (failedOf st') → Q (failedOf st2).isNone st2 := by
    rintro r st' ⟨S, ur, pr⟩ st2 rfl
    have ef : failedOf st' = none := S.failed.trans S1.2.2.2
    have en : (failedOf st').isNone = true := by rw [ef]; rfl
    show Q (failedOf st').isNone _
    rw [en]
    have lr : r.toList.length = n1 - k + nb := by
      have := pr.length_eq
      rw [List.length_append] at this
      simp only [Array.length_toList] at this ⊢
      omega
    have el : (r.toList.zipIdx.foldl (fun (a : Array Keyed) (p : Keyed × Nat) => a.setIfInBounds (s1 + k + p.2) p.1) (arrOf st')).toList = arr.toList.take s1 ++ (M1.take k ++ r.toList ++ M2.drop nb) ++ arr.toList.drop (s1 + n1 + n2) := by
      have := setMany r.toList (arrOf st') (s1 + k) 0 (by rw [S.arr, S1.2.1, lr]; omega)
      rw [this, S.arr, S1.2.1, lr, Nat.add_zero, show s1 + k + (n1 - k + nb) = s1 + n1 + nb by omega, List.take_add, ← t1]
      have a3 : arr.toList.drop (s1 + n1 + nb) = M2.drop nb ++ arr.toList.drop (s1 + n1 + n2) := by
        rw [d2, show s1 + n1 + n2 = s1 + n1 + nb + (n2 - nb) by omega, ← List.drop_drop (i := n2 - nb), List.take_append_drop]
      rw [a3]
      simp only [List.append_assoc]
    have e1 : M1.take k ++ M1.drop k = M1 := List.take_append_drop _ _
    have e2 : M2.take nb ++ M2.drop nb = M2 := List.take_append_drop _ _
    rw [tx, ty] at pr
    generalize (r.toList.zipIdx.foldl (fun (a : Array Keyed) (p : Keyed × Nat) => a.setIfInBounds (s1 + k + p.2) p.1) (arrOf st')) = fo at el ⊢
    have um : Up (M1.take k ++ r.toList ++ M2.drop nb) := by
      refine up_mid (by rw [e1]; exact u1) (by rw [e2]; exact u2) ur pr (fun x hx y hy => ?_) fun x hx y hy => ?_
      · rw [t1] at hx
        rw [t2] at hy
        obtain ⟨i, hi, hin, rfl⟩ := mem_seg hx
        obtain ⟨j, hj, hjn, rfl⟩ := mem_seg hy
        rw [← K_at hi, ← K_at hj]
        exact Int.le_trans (hle i hin) (g2 0 j (by omega) (by omega))
      · rw [e1, eM1] at hx
        rw [d2] at hy
        obtain ⟨i, hi, hin, rfl⟩ := mem_seg hx
        obtain ⟨j, hj, hjn, rfl⟩ := mem_seg hy
        rw [← K_at hi, ← K_at hj, Nat.add_assoc (s1 + n1)]
        exact Int.le_trans (hg1 i hin) (hgt (nb + j) (by omega) (by omega))
    have pm : (M1.take k ++ r.toList ++ M2.drop nb).Perm (M1 ++ M2) := by
      have : (M1 ++ M2).Perm (M1.take k ++ (M1.drop k ++ M2.take nb) ++ M2.drop nb) := by
        rw [← List.append_assoc, e1, List.append_assoc, e2]
      exact (List.Perm.append_right _ (List.Perm.append_left _ pr)).trans this.symm
    have lm : (M1.take k ++ r.toList ++ M2.drop nb).length = n1 + n2 := by rw [pm.length_eq, List.length_append, l1, l2]
    refine h _ (S.kind.trans S1.1) ef (S.pend.trans S1.2.2.1) ?_ (fun j hj => ?_) ?_
    · have := seg_of_up el um
      rw [lP, lm] at this
      exact this
    · refine K_out el eL pm.length_eq ?_
      rw [lP, lm]
      omega
    · show fo.toList.Perm _
      rw [el]
      refine List.Perm.trans ?_ (List.Perm.of_eq eL.symm)
      exact List.Perm.append_right _ (List.Perm.append_left _ pm)
  split
  · refine wpS_bind (wpS_mLo S1.1 Ix Iy ux uy (by omega) (by omega) (hf (by omega)) (hl (by omega)) fun r st' g => wpS_bind (wpS_modify (wpS_bind (wpS_get (wpS_pure ?_)))))
    exact fin r st' g _ rfl
  · refine wpS_bind (wpS_mHi S1.1 Ix Iy ux uy (by omega) (by omega) (hf (by omega)) (hl (by omega)) fun r st' g => wpS_bind (wpS_modify (wpS_bind (wpS_get (wpS_pure ?_)))))
    exact fin r st' g _ rfl
end
end
end TM

end
section
set_option Elab.async false
set_option linter.all false
set_option maxRecDepth 100000
namespace TM
open PySem PyProof.Rows
section
variable [Cmp]

/-! ### a run from any place on, keys all unlike -/
structure Sk (a₀ : Array Keyed) (pd : Array (Nat × Nat × Nat)) (st : SortSt) : Prop where
  perm : (arrOf st).Perm a₀
  kind : kindOf st = oneType'
  failed : failedOf st = none
  pend : pendingOf st = pd
def DK (a₀ : Array Keyed) : Prop := (a₀.toList.map kn).Nodup
section
variable {a₀ : Array Keyed} {pd : Array (Nat × Nat × Nat)} {st : SortSt}
theorem Sk.size (B : Sk a₀ pd st) : (arrOf st).size = a₀.size := B.perm.size_eq
theorem Sk.setArr (B : Sk a₀ pd st) {xs : Array Keyed} (hp : xs.Perm (arrOf st)) : Sk a₀ pd (setArr st xs) := ⟨hp.trans B.perm, B.kind, B.failed, B.pend⟩
theorem Sk.isI (B : Sk a₀ pd st) (h0 : Keys a₀) (i : Nat) (h : i < (arrOf st).size) : TM.isI (arrOf st)[i] := h0 _ ((Array.perm_iff_toList_perm.mp B.perm).mem_iff.mp (by simp))
theorem Sk.ne (B : Sk a₀ pd st) (hd : DK a₀) {i j : Nat} (hij : i < j) (hj : j < a₀.size) : K (arrOf st) i ≠ K (arrOf st) j := by
  have hd2 : DK (arrOf st) := (((Array.perm_iff_toList_perm.mp B.perm).map kn).nodup_iff).mpr hd
  have hj' : j < (arrOf st).size := by rw [B.size]; exact hj
  rw [K_at hj', K_at (show i < (arrOf st).size by omega)]
  have := List.pairwise_iff_getElem.mp hd2 i j (by simp; omega) (by simpa using hj') hij
  simpa using this
variable {prog : Program} {w : World} {A : Around} {E : Value → Shared → Prop} {s : Shared}
theorem wpS_ltI {i j : Nat} {Q : Option Bool → SortSt → Prop} (B : Sk a₀ pd st) (h0 : Keys a₀) (hi : i < a₀.size) (hj : j < a₀.size) (h : Q (some (decide (K (arrOf st) i < K (arrOf st) j))) st) : wpS (model prog w) A E s (ltAt' i j) Q st := by
  have hi' : i < (arrOf st).size := by rw [B.size]; exact hi
  have hj' : j < (arrOf st).size := by rw [B.size]; exact hj
  rw [K_at hi', K_at hj'] at h
  rw [ltAt'_eq]
  refine wpS_bind (wpS_get ?_)
  refine wpS_bind (wpS_elem hi' (wpS_bind (wpS_elem hj' ?_)))
  exact wpS_ltP B.kind (B.isI h0 i hi') (B.isI h0 j hj') h
theorem Seg.more {xs : Array Keyed} {lo x : Nat} (h : Seg xs lo x) (hx : 1 ≤ x) (hl : K xs (lo + x - 1) ≤ K xs (lo + x)) : Seg xs lo (x + 1) := fun i j hij hj => by
  by_cases hjx : j < x
  · exact h i j hij hjx
  · have : j = x := by omega
    subst this
    by_cases hi : i = j
    · subst hi; exact Int.le_refl _
    · have := h i (j - 1) (by omega) (by omega)
      rw [show lo + (j - 1) = lo + j - 1 by omega] at this
      exact Int.le_trans this hl
theorem wpS_cRun {lo nrem : Nat} {Q : Option Nat → SortSt → Prop} (B : Sk a₀ pd st) (h0 : Keys a₀) (hd : DK a₀) (hn : lo + nrem ≤ a₀.size) (h1 : 1 ≤ nrem)
    (h : ∀ m st', Sk a₀ pd st' → (∀ i, i < lo → K (arrOf st') i = K (arrOf st) i) → 1 ≤ m → m ≤ nrem → Seg (arrOf st') lo m → Q (some m) st') : wpS (model prog w) A E s (countRun' lo nrem) Q st := by
  have one : ∀ xs, Seg xs lo 1 := fun xs i j hij hj => by
    have : i = j := by omega
    subst this; exact Int.le_refl _
  refine wpS_bind (wpS_mono (wpS_forRange (I := fun x c st' => st' = st ∧ c = (none, x) ∧ Seg (arrOf st) lo x) (Q := fun c st' => st' = st ∧ ∃ n, c = (none, n) ∧ 1 ≤ n ∧ n ≤ nrem ∧ Seg (arrOf st) lo n ∧ (n = nrem ∨ K (arrOf st) (lo + n) < K (arrOf st) (lo + n - 1))) ?s1 ?f1 ⟨rfl, rfl, one _⟩) ?p1)
  case f1 =>
    rintro c st' ⟨rfl, rfl, g⟩
    rw [show max 1 nrem = nrem by omega] at g
    exact ⟨rfl, _, rfl, by omega, by omega, by rw [show max 1 nrem = nrem by omega]; exact g, .inl (by omega)⟩
  case s1 =>
    rintro x c st' hx hxn ⟨rfl, rfl, g⟩
    dsimp only
    refine wpS_bind (wpS_ltI B h0 (by omega) (by omega) ?_)
    by_cases hless : K (arrOf st') (lo + x) < K (arrOf st') (lo + x - 1)
    · simp only [hless, decide_true, if_true]
      exact wpS_pure ⟨rfl, x, rfl, hx, by omega, g, .inr hless⟩
    · simp only [hless, decide_false, Bool.false_eq_true, if_false]
      exact wpS_pure ⟨rfl, rfl, g.more hx (by omega)⟩
  case p1 =>
    rintro c st1 ⟨rfl, n, rfl, n1, n2, g, e⟩
    dsimp only
    by_cases en : n = nrem
    · rw [if_pos (by simp [en])]
      exact wpS_pure (h n st1 B (fun _ _ => rfl) n1 n2 g)
    rw [if_neg (by simp [en])]
    have hlt := e.resolve_left en
    by_cases ng : n > 1
    · rw [if_pos ng]
      refine wpS_bind (wpS_ltI B h0 (by omega) (by omega) ?_)
      have a1 := g 0 (n - 1) (by omega) (by omega)
      have a2 := B.ne hd (show lo < lo + n - 1 by omega) (by omega)
      rw [Nat.add_zero, show lo + (n - 1) = lo + n - 1 by omega] at a1
      have rose : K (arrOf st1) lo < K (arrOf st1) (lo + n - 1) := by omega
      simp only [rose, decide_true, if_true]
      exact wpS_pure (h n st1 B (fun _ _ => rfl) n1 n2 g)
    rw [if_neg ng]
    have en1 : n = 1 := by omega
    subst en1
    refine wpS_bind (wpS_lift (wpAny_rule ⟨rfl, ?_⟩))
    refine wpS_bind (wpS_mono (wpS_forRange (I := fun x c st' => st' = st1 ∧ c = (none, x, 0) ∧ ∀ i j, i ≤ j → j < x → K (arrOf st1) (lo + j) ≤ K (arrOf st1) (lo + i)) (Q := fun c st' => st' = st1 ∧ ∃ n, c = (none, n, 0) ∧ 2 ≤ n ∧ n ≤ nrem ∧ ∀ i j, i ≤ j → j < n → K (arrOf st1) (lo + j) ≤ K (arrOf st1) (lo + i)) ?s2 ?f2 ⟨rfl, rfl, ?i2⟩) ?p2)
    case i2 =>
      intro i j hij hj
      by_cases hi : i = j
      · subst hi; exact Int.le_refl _
      · have e1 : i = 0 := by omega
        have e2 : j = 1 := by omega
        subst e1 e2
        exact Int.le_of_lt hlt
    case f2 =>
      rintro c st' ⟨rfl, rfl, g⟩
      rw [show max (1 + 1) nrem = nrem by omega] at g ⊢
      exact ⟨rfl, _, rfl, by omega, Nat.le_refl _, g⟩
    case s2 =>
      rintro x c st' hx hxn ⟨rfl, rfl, g⟩
      dsimp only
      refine wpS_bind (wpS_ltI B h0 (by omega) (by omega) ?_)
      by_cases hless : K (arrOf st') (lo + x) < K (arrOf st') (lo + x - 1)
      · simp only [hless, decide_true, if_true]
        rw [if_neg (by omega)]
        refine wpS_pure ⟨rfl, rfl, fun i j hij hj => ?_⟩
        by_cases hjx : j < x
        · exact g i j hij hjx
        · have : j = x := by omega
          subst this
          by_cases hi : i = j
          · subst hi; exact Int.le_refl _
          · have := g i (j - 1) (by omega) (by omega)
            rw [show lo + (j - 1) = lo + j - 1 by omega] at this
            omega
      · simp only [hless, decide_false, Bool.false_eq_true, if_false]
        refine wpS_bind (wpS_ltI B h0 (by omega) (by omega) ?_)
        have a2 := B.ne hd (show lo + x - 1 < lo + x by omega) (by omega)
        have lg : K (arrOf st') (lo + x - 1) < K (arrOf st') (lo + x) := by omega
        simp only [lg, decide_true, if_true]
        exact wpS_pure ⟨rfl, x, rfl, hx, by omega, g⟩
    case p2 =>
      rintro c st2 ⟨rfl, n, rfl, m1, m2, g2⟩
      dsimp only
      rw [if_neg (by omega)]
      refine wpS_bind (wpS_reverse ?_)
      have hsz : lo + n ≤ (arrOf st2).size := by rw [B.size]; omega
      have B3 : Sk a₀ pd (setArr st2 (mirror (arrOf st2) lo (lo + n) ((lo + n - lo) / 2))) := B.setArr (mirror_perm _ _ _ _)
      have hpre : ∀ i, i < lo → K (arrOf (setArr st2 (mirror (arrOf st2) lo (lo + n) ((lo + n - lo) / 2)))) i = K (arrOf st2) i := fun i hi => by
        show K (mirror (arrOf st2) _ _ _) i = _
        rw [K_mirror hsz, if_neg (by omega)]
      have g3 : Seg (arrOf (setArr st2 (mirror (arrOf st2) lo (lo + n) ((lo + n - lo) / 2)))) lo n := fun i j hij hj => by
        show K (mirror (arrOf st2) _ _ _) _ ≤ K (mirror (arrOf st2) _ _ _) _
        rw [K_mirror hsz, K_mirror hsz, if_pos (by omega), if_pos (by omega)]
        have := g2 (n - 1 - j) (n - 1 - i) (by omega) (by omega)
        rw [show lo + (lo + n) - 1 - (lo + i) = lo + (n - 1 - i) by omega, show lo + (lo + n) - 1 - (lo + j) = lo + (n - 1 - j) by omega]
        exact this
      generalize setArr st2 (mirror (arrOf st2) lo (lo + n) ((lo + n - lo) / 2)) = st3 at *
      refine wpS_bind (wpS_mono (wpS_forRange (I := fun x c st' => st' = st3 ∧ c = (none, x) ∧ Seg (arrOf st3) lo x) (Q := fun c st' => st' = st3 ∧ ∃ n, c = (none, n) ∧ 1 ≤ n ∧ n ≤ nrem ∧ Seg (arrOf st3) lo n) ?s3 ?f3 ⟨rfl, rfl, g3⟩) ?p3)
      case f3 =>
        rintro c st' ⟨rfl, rfl, g⟩
        rw [show max n nrem = nrem by omega] at g ⊢
        exact ⟨rfl, _, rfl, by omega, by omega, g⟩
      case s3 =>
        rintro x c st' hx hxn ⟨rfl, rfl, g⟩
        dsimp only
        refine wpS_bind (wpS_ltI B3 h0 (by omega) (by omega) ?_)
        by_cases hless : K (arrOf st') (lo + x) < K (arrOf st') (lo + x - 1)
        · simp only [hless, decide_true, if_true]
          exact wpS_pure ⟨rfl, x, rfl, by omega, by omega, g⟩
        · simp only [hless, decide_false, Bool.false_eq_true, if_false]
          exact wpS_pure ⟨rfl, rfl, g.more (by omega) (by omega)⟩
      case p3 =>
        rintro c st4 ⟨rfl, m, rfl, q1, q2, g⟩
        exact wpS_pure (h m st4 B3 hpre q1 q2 g)
theorem wpS_bSort {lo n ok : Nat} {Q : Bool → SortSt → Prop} (B : Sk a₀ pd st) (h0 : Keys a₀) (hn : lo + n ≤ a₀.size) (h1 : 1 ≤ ok) (hok : ok ≤ n) (g : Seg (arrOf st) lo ok)
    (h : ∀ st', Sk a₀ pd st' → (∀ i, i < lo → K (arrOf st') i = K (arrOf st) i) → Seg (arrOf st') lo n → Q true st') : wpS (model prog w) A E s (binarySort' lo n ok) Q st := by
  refine wpS_bind (wpS_mono (wpS_forRange (I := fun k c st' => c = (none, ()) ∧ Sk a₀ pd st' ∧ (∀ i, i < lo → K (arrOf st') i = K (arrOf st) i) ∧ Seg (arrOf st') lo k)
    (Q := fun c st' => c = (none, ()) ∧ Sk a₀ pd st' ∧ (∀ i, i < lo → K (arrOf st') i = K (arrOf st) i) ∧ Seg (arrOf st') lo n) ?step ?fin ⟨rfl, B, fun _ _ => rfl, by rw [show max ok 1 = ok by omega]; exact g⟩) ?post)
  case post =>
    rintro c st' ⟨rfl, B', hp, g'⟩
    exact wpS_pure (h st' B' hp g')
  case fin =>
    rintro c st' ⟨hc, B', hp, g'⟩
    rw [show max (max ok 1) n = n by omega] at g'
    exact ⟨hc, B', hp, g'⟩
  case step =>
    rintro k c st1 hak hkn ⟨rfl, B1, hp1, g1⟩
    have hk : lo + k < a₀.size := by omega
    refine wpS_bind (wpS_mono (wpS_forRange (I := fun x c st' => st' = st1 ∧ ∃ l r, c = (none, l, r) ∧ l ≤ r ∧ r ≤ k ∧ r - l ≤ k - x ∧ (∀ i, i < l → K (arrOf st1) (lo + i) ≤ K (arrOf st1) (lo + k)) ∧ (∀ i, r ≤ i → i < k → K (arrOf st1) (lo + k) < K (arrOf st1) (lo + i)))
      (Q := fun c st' => st' = st1 ∧ ∃ l r, c = (none, l, r) ∧ l ≤ k ∧ (∀ i, i < l → K (arrOf st1) (lo + i) ≤ K (arrOf st1) (lo + k)) ∧ (∀ i, l ≤ i → i < k → K (arrOf st1) (lo + k) < K (arrOf st1) (lo + i))) ?bs ?bf ⟨rfl, 0, k, rfl, by omega, by omega, by omega, fun i hi => by omega, fun i q1 q2 => by omega⟩) ?bp)
    case bf =>
      rintro c st' ⟨rfl, l, r, rfl, q1, q2, q3, q4, q5⟩
      exact ⟨rfl, l, r, rfl, by omega, q4, fun i a b => q5 i (by omega) b⟩
    case bs =>
      rintro x c st' _ hx ⟨rfl, l, r, rfl, q1, q2, q3, q4, q5⟩
      dsimp only
      by_cases hge : l ≥ r
      · rw [if_pos hge]
        exact wpS_pure ⟨rfl, l, r, rfl, by omega, q4, fun i a b => q5 i (by omega) b⟩
      · rw [if_neg hge]
        refine wpS_bind (wpS_ltI B1 h0 hk (by omega) ?_)
        by_cases hless : K (arrOf st') (lo + k) < K (arrOf st') (lo + (l + r) / 2)
        · simp only [hless, decide_true, if_true]
          exact wpS_pure ⟨rfl, l, _, rfl, by omega, by omega, by omega, q4, fun i a b => Int.lt_of_lt_of_le hless (g1 _ _ a b)⟩
        · simp only [hless, decide_false, Bool.false_eq_true, if_false]
          exact wpS_pure ⟨rfl, _, r, rfl, by omega, by omega, by omega, fun i a => Int.le_trans (g1 i ((l + r) / 2) (by omega) (by omega)) (Int.not_lt.mp hless), q5⟩
    case bp =>
      rintro c st2 ⟨rfl, l, r, rfl, q1, q4, q5⟩
      show wpS _ _ _ _ (do moveDown' (lo + k) (lo + l); pure (ForInStep.yield (none, ()))) _ _
      rw [moveDown'_eq]
      have hks : lo + k < (arrOf st2).size := by rw [B1.size]; exact hk
      refine wpS_bind (wpS_modify (wpS_pure ⟨rfl, B1.setArr (bubble_perm _ _ _), fun i hi => ?_, fun i j hij hj => ?_⟩))
      · show K (bubble (arrOf st2) _ _) i = _
        rw [K_bubble hks (by omega), if_neg (by omega), if_neg (by omega)]
        exact hp1 i hi
      · show K (bubble (arrOf st2) _ _) _ ≤ K (bubble (arrOf st2) _ _) _
        rw [K_bubble hks (by omega), K_bubble hks (by omega), show lo + k - (lo + k - (lo + l)) = lo + l by omega]
        have f1 : ∀ i, i < l → K (arrOf st2) (lo + i) ≤ K (arrOf st2) (lo + k) := q4
        have f2 : ∀ z, lo + l ≤ z → z < lo + k → K (arrOf st2) (lo + k) ≤ K (arrOf st2) z := fun z z1 z2 => by
          have := q5 (z - lo) (by omega) (by omega)
          rw [show lo + (z - lo) = z by omega] at this
          exact Int.le_of_lt this
        have f3 : ∀ y z, lo ≤ y → y ≤ z → z < lo + k → K (arrOf st2) y ≤ K (arrOf st2) z := fun y z y1 y2 y3 => by
          have := g1 (y - lo) (z - lo) (by omega) (by omega)
          rwa [show lo + (y - lo) = y by omega, show lo + (z - lo) = z by omega] at this
        repeat' split
        all_goals first
          | (exfalso; omega)
          | exact Int.le_refl _
          | exact f1 _ (by omega)
          | exact f2 _ (by omega) (by omega)
          | exact f3 _ _ (by omega) (by omega) (by omega)
end
end
end TM

end
section
set_option Elab.async false
set_option linter.all false
set_option maxRecDepth 100000
namespace TM
open PySem PyProof.Rows
/-! ### the runs that wait, one behind the other -/
abbrev Run := Nat × Nat × Nat
def Chain : Nat → List Run → Nat → Prop
  | lo, [], hi => lo = hi
  | lo, a :: t, hi => a.1 = lo ∧ 1 ≤ a.2.1 ∧ Chain (lo + a.2.1) t hi
theorem Chain.le : ∀ {l : List Run} {lo hi : Nat}, Chain lo l hi → lo + l.length ≤ hi
  | [], lo, hi, h => by have : lo = hi := h; simp; omega
  | a :: t, lo, hi, ⟨_, h1, h2⟩ => by have := Chain.le h2; rw [List.length_cons]; omega
theorem Chain.mem : ∀ {l : List Run} {lo hi : Nat}, Chain lo l hi → ∀ e ∈ l, lo ≤ e.1 ∧ e.1 + e.2.1 ≤ hi
  | [], lo, hi, h, e, he => by simp at he
  | a :: t, lo, hi, ⟨h0, h1, h2⟩, e, he => by
    rcases List.mem_cons.mp he with rfl | he
    · have := Chain.le h2; exact ⟨by omega, by omega⟩
    · have := Chain.mem h2 e he; exact ⟨by omega, by omega⟩
theorem Chain.app : ∀ {l : List Run} {lo mid : Nat} {n p : Nat}, Chain lo l mid → 1 ≤ n → Chain lo (l ++ [(mid, n, p)]) (mid + n)
  | [], lo, mid, n, p, h, hn => by have : lo = mid := h; subst this; exact ⟨rfl, hn, rfl⟩
  | a :: t, lo, mid, n, p, ⟨h0, h1, h2⟩, hn => ⟨h0, h1, Chain.app h2 hn⟩
theorem Chain.like : ∀ {l l' : List Run} {lo hi : Nat}, Chain lo l hi → l'.map (fun e => (e.1, e.2.1)) = l.map (fun e => (e.1, e.2.1)) → Chain lo l' hi
  | [], l', lo, hi, h, e => by have : l' = [] := List.map_eq_nil_iff.mp e; subst this; exact h
  | a :: t, [], lo, hi, h, e => by simp at e
  | a :: t, a' :: t', lo, hi, ⟨h0, h1, h2⟩, e => by
    simp only [List.map_cons, List.cons.injEq, Prod.mk.injEq] at e
    refine ⟨by rw [e.1.1]; exact h0, by rw [e.1.2]; exact h1, ?_⟩
    rw [e.1.2]
    exact Chain.like h2 e.2
theorem Chain.at : ∀ {l : List Run} {lo hi i : Nat}, Chain lo l hi → i + 1 < l.length → ∃ s1 n1 p n2 q, l[i]? = some (s1, n1, p) ∧ l[i + 1]? = some (s1 + n1, n2, q) ∧ 1 ≤ n1 ∧ 1 ≤ n2 ∧ lo ≤ s1 ∧ s1 + n1 + n2 ≤ hi ∧
    Chain lo ((l.set i (s1, n1 + n2, p)).eraseIdx (i + 1)) hi ∧ ∀ e ∈ (l.set i (s1, n1 + n2, p)).eraseIdx (i + 1), e = (s1, n1 + n2, p) ∨ (e ∈ l ∧ (e.1 + e.2.1 ≤ s1 ∨ s1 + n1 + n2 ≤ e.1))
  | [], lo, hi, i, h, hi' => by simp at hi'
  | [a], lo, hi, i, h, hi' => by simp at hi'
  | (s, n, p) :: (s', n', q) :: t, lo, hi, 0, ⟨h0, h1, h2, h3, h4⟩, hi' => by
    replace h0 : s = lo := h0
    replace h2 : s' = lo + n := h2
    replace h4 : Chain (lo + n + n') t hi := h4
    subst h0 h2
    have hle := Chain.le h4
    refine ⟨s, n, p, n', q, rfl, rfl, h1, h3, Nat.le_refl _, by omega, ?_, fun e he => ?_⟩
    · show Chain s ((s, n + n', p) :: t) hi
      refine ⟨rfl, Nat.le_trans h1 (Nat.le_add_right _ _), ?_⟩
      show Chain (s + (n + n')) t hi
      rw [← Nat.add_assoc]; exact h4
    · have he' : e ∈ (s, n + n', p) :: t := he
      rcases List.mem_cons.mp he' with rfl | he'
      · exact .inl rfl
      · exact .inr ⟨by simp [he'], .inr (Chain.mem h4 e he').1⟩
  | a :: b :: t, lo, hi, i + 1, ⟨h0, h1, h2⟩, hi' => by
    obtain ⟨s1, n1, p, n2, q, e1, e2, q1, q2, q3, q4, q5, q6⟩ := Chain.at (i := i) h2 (by simp at hi' ⊢; omega)
    refine ⟨s1, n1, p, n2, q, e1, e2, q1, q2, by omega, q4, ⟨h0, h1, q5⟩, fun e he => ?_⟩
    have he' : e ∈ a :: ((b :: t).set i (s1, n1 + n2, p)).eraseIdx (i + 1) := he
    rcases List.mem_cons.mp he' with rfl | he'
    · exact .inr ⟨by simp, .inl (by omega)⟩
    · rcases q6 e he' with h | ⟨h, h'⟩
      · exact .inl h
      · exact .inr ⟨List.mem_cons_of_mem _ h, h'⟩
theorem toList_joined {pd : Array Run} {i s1 n p : Nat} (h : i + 1 < pd.size) : (joined pd i s1 n p).toList = (pd.toList.set i (s1, n, p)).eraseIdx (i + 1) := by
  unfold joined
  rw [Array.eraseIdxIfInBounds, dif_pos (by rw [Array.size_setIfInBounds]; exact h), Array.toList_eraseIdx, Array.toList_setIfInBounds]
section
variable [Cmp]
structure Wait (a₀ : Array Keyed) (hi : Nat) (st : SortSt) : Prop where
  perm : (arrOf st).Perm a₀
  kind : kindOf st = oneType'
  failed : failedOf st = none
  chain : Chain 0 (pendingOf st).toList hi
  seg : ∀ e ∈ (pendingOf st).toList, Seg (arrOf st) e.1 e.2.1
section
variable {a₀ : Array Keyed} {st : SortSt} {prog : Program} {w : World} {A : Around} {E : Value → Shared → Prop} {s : Shared} {hi : Nat}
theorem Wait.sk (B : Wait a₀ hi st) : Sk a₀ (pendingOf st) st := ⟨B.perm, B.kind, B.failed, rfl⟩
theorem Seg.like {xs ys : Array Keyed} {lo n m : Nat} (g : Seg xs lo n) (h : ∀ i, i < m → K ys i = K xs i) (hm : lo + n ≤ m) : Seg ys lo n := fun i j hij hj => by
  rw [h _ (by omega), h _ (by omega)]; exact g i j hij hj
theorem Wait.next {st' : SortSt} (B : Wait a₀ hi st) (B' : Sk a₀ (pendingOf st) st') (h : ∀ i, i < hi → K (arrOf st') i = K (arrOf st) i) : Wait a₀ hi st' :=
  ⟨B'.perm, B'.kind, B'.failed, by rw [B'.pend]; exact B.chain, fun e he => by
    rw [B'.pend] at he
    exact (B.seg e he).like h (B.chain.mem e he).2⟩
theorem wpS_mAtW {i : Nat} {Q : Bool → SortSt → Prop} (B : Wait a₀ hi st) (h0 : Keys a₀) (hi' : i + 1 < (pendingOf st).size) (hh : hi ≤ a₀.size)
    (h : ∀ st', Wait a₀ hi st' → (pendingOf st').size + 1 = (pendingOf st).size → (∀ j, hi ≤ j → K (arrOf st') j = K (arrOf st) j) → Q true st') : wpS (model prog w) A E s (mAt i) Q st := by
  obtain ⟨s1, n1, p, n2, q, e1, e2, q1, q2, q3, q4, q5, q6⟩ := B.chain.at (i := i) (by simpa using hi')
  have sz : (arrOf st).size = a₀.size := B.perm.size_eq
  refine wpS_mAt (s1 := s1) (n1 := n1) (n2 := n2) (p := p) (q := q) B.kind (B.sk.isI h0) (by rw [← Array.getElem?_toList]; exact e1) (by rw [← Array.getElem?_toList]; exact e2) q1 q2 (by omega) (B.seg _ (List.mem_of_getElem? e1)) (B.seg _ (List.mem_of_getElem? e2)) B.failed fun st' k' f' p' g' o' pm' => ?_
  have ej := toList_joined (pd := pendingOf st) (s1 := s1) (n := n1 + n2) (p := p) hi'
  refine h st' ⟨(Array.perm_iff_toList_perm.mpr pm').trans B.perm, k', f', by rw [p', ej]; exact q5, fun e he => ?_⟩ ?_ fun j hj => o' j (.inr (by omega))
  · rw [p', ej] at he
    rcases q6 e he with rfl | ⟨he', hw⟩
    · exact g'
    · intro x y hxy hy
      rw [o' _ (by omega), o' _ (by omega)]
      exact B.seg e he' x y hxy hy
  · rw [← Array.length_toList, p', ej, List.length_eraseIdx, List.length_set, Array.length_toList, if_pos hi']
    omega
end
end
end TM

end
section
set_option Elab.async false
set_option linter.all false
set_option maxRecDepth 100000
namespace TM
open PySem PyProof.Rows
/-! ### list.sort of any number of unlike keys -/
section
variable [Cmp]
section
variable {a₀ : Array Keyed} {st : SortSt} {prog : Program} {w : World} {A : Around} {E : Value → Shared → Prop} {s : Shared} {hi : Nat}
theorem Wait.pw (B : Wait a₀ hi st) (pw : Nat) : Wait a₀ hi (setPending st ((pendingOf st).modify ((pendingOf st).size - 1) fun x => (x.1, x.2.1, pw))) := by
  have em : ((pendingOf st).modify ((pendingOf st).size - 1) fun x => (x.1, x.2.1, pw)).toList.map (fun e => (e.1, e.2.1)) = (pendingOf st).toList.map (fun e => (e.1, e.2.1)) := by
    rw [Array.toList_modify]
    refine List.ext_getElem? fun i => ?_
    rw [List.getElem?_map, List.getElem?_map, List.getElem?_modify]
    cases (pendingOf st).toList[i]? with
    | none => rfl
    | some x => simp only [Option.map_eq_map, Option.map_some]; split <;> rfl
  refine ⟨B.perm, B.kind, B.failed, B.chain.like em, fun e he => ?_⟩
  have he' : e ∈ ((pendingOf st).modify ((pendingOf st).size - 1) fun x => (x.1, x.2.1, pw)).toList := he
  have : (e.1, e.2.1) ∈ (pendingOf st).toList.map (fun e => (e.1, e.2.1)) := by rw [← em]; exact List.mem_map_of_mem he'
  obtain ⟨e2, he2, e3⟩ := List.mem_map.mp this
  simp only [Prod.mk.injEq] at e3
  have := B.seg e2 he2
  rw [e3.1, e3.2] at this
  exact this
theorem Wait.push {n : Nat} (B : Wait a₀ hi st) (hn : 1 ≤ n) (g : Seg (arrOf st) hi n) : Wait a₀ (hi + n) (setPending st ((pendingOf st).push (hi, n, 0))) := by
  refine ⟨B.perm, B.kind, B.failed, ?_, fun e he => ?_⟩
  · show Chain 0 ((pendingOf st).push (hi, n, 0)).toList (hi + n)
    rw [Array.toList_push]; exact B.chain.app hn
  · have he' : e ∈ ((pendingOf st).push (hi, n, 0)).toList := he
    rw [Array.toList_push] at he'
    rcases List.mem_append.mp he' with h | h
    · exact B.seg e h
    · rw [List.mem_singleton.mp h]; exact g
theorem ite_lt {c : Prop} [Decidable c] {a n : Nat} (h : a + 1 < n) : (if c then a - 1 else a) + 1 < n := by split <;> omega
theorem Chain.one {l : List Run} {hi : Nat} (h : Chain 0 l hi) (h1 : l.length ≤ 1) (hh : 1 ≤ hi) : ∃ p, l = [(0, hi, p)] := by
  match l, h, h1 with
  | [], h, _ => have : 0 = hi := h; omega
  | [(s, n, p)], ⟨h0, _, h2⟩, _ =>
    replace h0 : s = 0 := h0
    replace h2 : 0 + n = hi := h2
    subst h0
    exact ⟨p, by rw [← h2, Nat.zero_add]⟩
  | _ :: _ :: _, _, h1 => simp at h1
theorem wpS_sortAll {Q : Unit → SortSt → Prop} (B : Sk a₀ #[] st) (h0 : Keys a₀) (hd : DK a₀) (h1 : 1 ≤ a₀.size)
    (h : ∀ st', (arrOf st').Perm a₀ → failedOf st' = none → SortedTo (arrOf st') a₀.size → Q () st') : wpS (model prog w) A E s sortRuns' Q st := by
  refine wpS_bind (wpS_get ?_)
  dsimp only
  have es : (arrOf st).size = a₀.size := B.size
  generalize hz : (arrOf st).size = z at es
  subst es
  clear hz
  obtain ⟨mr, emr⟩ : ∃ m, m = (sortPriv% PySem.Builtin.minRun) a₀.size a₀.size 0 := ⟨_, rfl⟩
  rw [← emr]
  clear emr
  have B0 : Wait a₀ 0 st := ⟨B.perm, B.kind, B.failed, by rw [B.pend]; exact rfl, fun e he => by rw [B.pend] at he; simp at he⟩
  refine wpS_bind (wpS_mono (wpS_forRange (I := fun x c st' => ∃ lo, c = (none, lo) ∧ x ≤ lo ∧ lo ≤ a₀.size ∧ Wait a₀ lo st')
    (Q := fun c st' => c = (none, a₀.size) ∧ Wait a₀ a₀.size st') ?step ?fin ⟨0, rfl, Nat.le_refl _, by omega, B0⟩) ?post)
  case fin =>
    rintro c st' ⟨lo, rfl, q1, q2, B1⟩
    have : lo = a₀.size := by omega
    subst this
    exact ⟨rfl, B1⟩
  case step =>
    rintro x c st1 _ hx ⟨lo, rfl, q1, q2, B1⟩
    dsimp only
    by_cases hge : lo ≥ a₀.size
    · rw [if_pos hge]
      have : lo = a₀.size := by omega
      subst this
      exact wpS_pure ⟨rfl, B1⟩
    rw [if_neg hge]
    refine wpS_bind (wpS_cRun B1.sk h0 hd (by omega) (by omega) fun m st2 B2 pre2 m1 m2 g2 => ?_)
    dsimp only
    have W2 := B1.next B2 pre2
    clear B2 pre2 B1
    by_cases hlt : m < mr
    case' pos =>
      rw [if_pos hlt]
      refine wpS_bind (wpS_lift (wpAny_rule ⟨rfl, ?_⟩))
      refine wpS_bind (wpS_bSort W2.sk h0 (by omega) m1 (by omega) g2 fun st3 B3 pre3 g3 => ?_)
      rw [if_neg (by decide)]
      have W3 := W2.next B3 pre3
      have n1 : 1 ≤ min (a₀.size - lo) mr := by omega
      have n2 : min (a₀.size - lo) mr ≤ a₀.size - lo := by omega
      generalize min (a₀.size - lo) mr = n at *
      clear g2 W2 B3 pre3
    case' neg =>
      rw [if_neg hlt]
      have W3 := W2
      have n1 := m1
      have n2 := m2
      have g3 := g2
      clear g2 W2
      generalize st2 = st3 at *
      generalize m = n at *
    all_goals
      refine wpS_bind (wpS_get ?_)
      have done : ∀ st4 : SortSt, Wait a₀ lo st4 → Seg (arrOf st4) lo n → ∃ lo', ((none, lo + n) : Option Unit × Nat) = (none, lo') ∧ x + 1 ≤ lo' ∧ lo' ≤ a₀.size ∧ Wait a₀ lo' (setPending st4 ((pendingOf st4).push (lo, n, 0))) := fun st4 W4 g4 => ⟨lo + n, rfl, by omega, by omega, W4.push n1 g4⟩
      cases hb : (pendingOf st3).back? with
      | none => exact wpS_bind (wpS_modify (wpS_pure (done st3 W3 g3)))
      | some r =>
        obtain ⟨s1, l1, p1⟩ := r
        dsimp only
        refine wpS_bind (wpS_mono (wpS_forRange (I := fun y c st' => c = (none, ()) ∧ Wait a₀ lo st' ∧ Seg (arrOf st') lo n) (Q := fun c st' => c = (none, ()) ∧ Wait a₀ lo st' ∧ Seg (arrOf st') lo n) ?is ?if' ⟨rfl, W3, g3⟩) ?ip)
        case if' => intro c st' z; exact z
        case is =>
          rintro y c st' _ _ ⟨rfl, W4, g4⟩
          refine wpS_bind (wpS_get ?_)
          by_cases hp : (pendingOf st').size > 1
          · rw [if_pos hp]
            have hlt2 : (pendingOf st').size - 2 < (pendingOf st').size := by omega
            rw [getElem?_pos (pendingOf st') _ hlt2]
            dsimp only
            split
            · exact wpS_pure ⟨rfl, W4, g4⟩
            · refine wpS_bind (wpS_mAtW (i := (pendingOf st').size - 2) W4 h0 (by omega) (by omega) fun st5 W5 _ k5 => ?_)
              rw [if_neg (by decide)]
              refine wpS_pure ⟨rfl, W5, fun i j hij hj => ?_⟩
              rw [k5 _ (by omega), k5 _ (by omega)]
              exact g4 i j hij hj
          · rw [if_neg hp]
            exact wpS_pure ⟨rfl, W4, g4⟩
        case ip =>
          rintro c st' ⟨rfl, W4, g4⟩
          dsimp only
          exact wpS_bind (wpS_modify (wpS_bind (wpS_modify (wpS_pure (done _ (W4.pw _) g4)))))
  case post =>
    rintro c st1 ⟨rfl, W1⟩
    dsimp only
    have hle := W1.chain.le
    rw [Array.length_toList, Nat.zero_add] at hle
    refine wpS_bind (wpS_mono (wpS_forRange (I := fun x c st' => c = (none, ()) ∧ Wait a₀ a₀.size st' ∧ ((pendingOf st').size ≤ 1 ∨ (pendingOf st').size + x ≤ a₀.size)) (Q := fun c st' => c = (none, ()) ∧ Wait a₀ a₀.size st' ∧ (pendingOf st').size ≤ 1) ?s9 ?f9 ⟨rfl, W1, .inr (by omega)⟩) ?p9)
    case f9 =>
      rintro c st' ⟨rfl, W2, h2⟩
      exact ⟨rfl, W2, by omega⟩
    case p9 =>
      rintro c st' ⟨rfl, W2, h2⟩
      refine wpS_pure (h st' W2.perm W2.failed fun i j hij hj => ?_)
      obtain ⟨p, e⟩ := W2.chain.one (by rw [Array.length_toList]; exact h2) h1
      have := W2.seg _ (by rw [e]; exact List.mem_singleton.mpr rfl) i j hij hj
      simpa only [Nat.zero_add] using this
    case s9 =>
      rintro x c st' _ hx ⟨rfl, W2, h2⟩
      refine wpS_bind (wpS_get ?_)
      by_cases hp : (pendingOf st').size ≤ 1
      · rw [if_pos hp]
        exact wpS_pure ⟨rfl, W2, hp⟩
      rw [if_neg hp]
      refine wpS_bind (wpS_mAtW W2 h0 ?_ (Nat.le_refl _) fun st5 W5 e5 _ => ?_)
      · exact ite_lt (by show (pendingOf st').size - 2 + 1 < (pendingOf st').size; omega)
      · rw [if_neg (by decide)]
        exact wpS_pure ⟨rfl, W5, by omega⟩
end
end
end TM

end
section
set_option Elab.async false
set_option linter.all false
set_option maxRecDepth 100000
set_option maxHeartbeats 4000000
namespace TM
open PySem PySem.Spec PyProof.Rows
/-! ### texts: how many of the given ones are less -/
def cnt (ks : List Str) (x : Str) : Nat := (ks.filter fun y => decide (y.cps.toList < x.cps.toList)).length
theorem cnt_le {ks : List Str} {x y : Str} (h : ¬ y.cps.toList < x.cps.toList) : cnt ks x ≤ cnt ks y := by
  unfold cnt
  induction ks with
  | nil => exact Nat.le_refl _
  | cons k ks ih =>
    rw [List.filter_cons, List.filter_cons]
    by_cases h1 : k.cps.toList < x.cps.toList
    · have h2 : k.cps.toList < y.cps.toList := Decidable.byContradiction fun g => h (List.lt_of_le_of_lt (List.not_lt.mp g) h1)
      rw [if_pos (decide_eq_true h1), if_pos (decide_eq_true h2)]
      simp only [List.length_cons]; omega
    · rw [if_neg (by simpa using h1)]
      split
      · simp only [List.length_cons]; omega
      · exact ih
theorem cnt_lt {x y : Str} (h : x.cps.toList < y.cps.toList) : ∀ {ks : List Str}, x ∈ ks → cnt ks x < cnt ks y
  | [], hx => by simp at hx
  | k :: ks, hx => by
    have hxy : ¬ y.cps.toList < x.cps.toList := fun g => List.lt_irrefl _ (List.lt_trans h g)
    have le : cnt ks x ≤ cnt ks y := cnt_le hxy
    unfold cnt at le ⊢
    rw [List.filter_cons, List.filter_cons]
    rcases List.mem_cons.mp hx with rfl | hx
    · rw [if_neg (by simp), if_pos (decide_eq_true h)]
      simp only [List.length_cons]; omega
    · have ih := cnt_lt h hx
      unfold cnt at ih
      by_cases h1 : k.cps.toList < x.cps.toList
      · rw [if_pos (decide_eq_true h1), if_pos (decide_eq_true (List.lt_trans h1 h))]
        simp only [List.length_cons]; omega
      · rw [if_neg (by simpa using h1)]
        split
        · simp only [List.length_cons]; omega
        · exact ih
theorem cnt_iff {ks : List Str} {x y : Str} (hx : x ∈ ks) : (cnt ks x < cnt ks y) ↔ x.cps.toList < y.cps.toList :=
  ⟨fun h => Decidable.byContradiction fun g => absurd (cnt_le (ks := ks) g) (by omega), fun h => cnt_lt h hx⟩
@[reducible] def textCmp (ks : List Str) : Cmp where
  kn p := (cnt ks (strOf p.1) : Int)
  isI p := ∃ x t, p.1 = .str x t ∧ x ∈ ks
  lt := by
    rintro prog w A E s ⟨_, p⟩ ⟨_, q⟩ Q ⟨x, t, rfl, hx⟩ ⟨y, u, rfl, hy⟩ h
    refine oneLt_str ?_
    have e : decide (x.cps.toList < y.cps.toList) = decide (((cnt ks x : Nat) : Int) < (cnt ks y : Nat)) := by
      rw [decide_eq_decide, ← cnt_iff hx]; omega
    rw [e]; exact h
section
variable {prog : Program} {w : World} {A : Around} {E : Value → Shared → Prop} {s : Shared}
theorem mem_pairs {vs : List Value} {p : Keyed} (hp : p ∈ (pairsOf vs).toList) : p.1 ∈ vs := by
  rw [pairsOf_toList] at hp
  exact (List.of_mem_zip (a := p.1) (b := p.2) hp).1
theorem sort_texts {a : Addr} {vs : List Value} {ks : List Str} {n : Nat} {P : Fin → Shared → Prop} (ho : s.heap.get? a = some (seqObj "list" vs.toArray n)) (hS : StrsAre vs ks) (hnd : ks.Nodup) (hlen : vs.length ≤ 1000)
    (h : ∀ st' : SortSt, (arrOf st').Perm (pairsOf vs) → SortedToK strKind (arrOf st') (pairsOf vs).size → P (.done (.ret .none)) { s with heap := sortedHeap s.heap a vs ((arrOf st').map (·.2)) }) :
    wpAny (model prog w) A (Builtin.«list.sort» ⟨[.ref a], []⟩) P E s := by
  have line : 1000 ≤ sizeLine := by rw [sizeLine_eq]; omega
  rcases Nat.lt_or_ge vs.length 64 with hlt | hge
  · exact list_sort_treeK strKind_oneLt ho hS.keysOf (fun v₁ v₂ rest e => keyKind_strs (by rw [← e]; exact hS)) hlt h
  letI C : Cmp := textCmp ks
  rw [list_sort_plain]
  have ha : a < s.heap.objs.size := Heap.lt_size ho
  refine wpAny_bind (listItems_at ho rfl (wpAny_bind (listUpdate_at ho rfl ?_ (by simp only [List.size_toArray]; omega))))
  obtain ⟨e1, ho1⟩ : ∃ e1, (s.heap.update a (Obj.mapSeq fun _ => #[])).get? a = some (seqObj "list" #[] e1) := ⟨_, get?_update_seq ho (fun _ => #[])⟩
  refine wpAny_bind (seqEpoch_at ho1 rfl (wpAny_bind (wpAny_newTuple (wpAny_bind (wpAny_newList (wpAny_holding ?_))) (by simp only [List.toList_toArray]; omega))))
  have ho6 : (((s.heap.update a (Obj.mapSeq fun _ => #[])).push (seqObj "tuple" vs.toArray 0)).push (seqObj "list" #[] 0)).get? a = some (seqObj "list" #[] e1) := Heap.get?_push_of_some _ (Heap.get?_push_of_some _ ho1)
  show wpAny (model prog w) A _ P E { s with heap := ((s.heap.update a (Obj.mapSeq fun _ => #[])).push (seqObj "tuple" vs.toArray 0)).push (seqObj "list" #[] 0) }
  dsimp only
  have h2 : ¬vs.toArray.size < 2 := by simp; omega
  rw [if_neg h2, if_neg h2]
  obtain ⟨v₁, v₂, rest, rfl⟩ : ∃ v₁ v₂ rest, vs = v₁ :: v₂ :: rest := by
    match vs, hge with
    | [], e => simp at e
    | [_], e => simp at e
    | v₁ :: v₂ :: rest, _ => exact ⟨v₁, v₂, rest, rfl⟩
  rw [keyKind_strs hS]
  refine wpAny_bind (wpAny_pure ?_)
  generalize hvs : v₁ :: v₂ :: rest = vs at *
  have mem : ∀ p ∈ (pairsOf vs).toList, ∃ x t, p.1 = .str x t ∧ x ∈ ks := fun p hp => by
    have hv := mem_pairs hp
    obtain ⟨x, t, e⟩ := hS.all _ hv
    refine ⟨x, t, e, ?_⟩
    rw [← hS.strs]
    refine List.mem_map.mpr ⟨_, hv, ?_⟩
    rw [e]; rfl
  have hK : Keys (pairsOf vs) := mem
  have hD : DK (pairsOf vs) := by
    unfold DK
    have e1 : (pairsOf vs).toList.map TM.kn = ks.map fun x => ((cnt ks x : Nat) : Int) := by
      rw [pairsOf_toList]
      have : (vs.zip vs).map TM.kn = (((vs.zip vs).map Prod.fst).map strOf).map fun x => ((cnt ks x : Nat) : Int) := by rw [List.map_map, List.map_map]; rfl
      rw [this, List.map_fst_zip (Nat.le_refl _), hS.strs]
    rw [e1]
    refine List.pairwise_map.mpr (hnd.imp_of_mem fun {x y} hx hy hne he => hne ?_)
    have he' : cnt ks x = cnt ks y := by omega
    have f1 : ¬ x.cps.toList < y.cps.toList := fun g => absurd (cnt_lt g hx) (by omega)
    have f2 : ¬ y.cps.toList < x.cps.toList := fun g => absurd (cnt_lt g hy) (by omega)
    have f3 : x.cps.toList = y.cps.toList := List.le_antisymm (List.not_lt.mp f2) (List.not_lt.mp f1)
    obtain ⟨x⟩ := x
    obtain ⟨y⟩ := y
    exact congrArg _ (Array.toList_inj.mp f3)
  refine wpAny_bind (wpAny_mono (wpS_sortAll (a₀ := pairsOf vs) (st := SortSt.mk' oneType' (pairsOf vs) #[] 7 none) (Q := fun _ st' => (arrOf st').Perm (pairsOf vs) ∧ failedOf st' = none ∧ SortedTo (arrOf st') (pairsOf vs).size)
    ⟨Array.Perm.refl _, rfl, rfl, rfl⟩ hK hD (by rw [pairsOf_size]; omega) fun st' a1 a2 a3 => ⟨a1, a2, a3⟩) ?_ fun _ _ e => e)
  rintro ⟨⟨⟩, st'⟩ s' ⟨rfl, hp, hf, hs⟩
  dsimp only
  refine wpAny_bind (seqEpoch_at ho6 rfl ?_)
  refine wpAny_bind (listUpdate_at ho6 rfl ?_ (hsz2 := by
    rw [Array.size_map, hp.size_eq, pairsOf_size]
    omega))
  rw [hf]
  simp only [bne_self_eq_false, Bool.false_eq_true, if_false]
  refine wpAny_pure (h _ hp fun i j hij hj => ?_)
  have hsz : (arrOf st').size = (pairsOf vs).size := hp.size_eq
  have at' : ∀ i (hi : i < (arrOf st').size), ∃ x t q, (arrOf st')[i] = (.str x t, q) ∧ x ∈ ks ∧ TM.K (arrOf st') i = ((cnt ks x : Nat) : Int) := fun i hi => by
    obtain ⟨x, t, e, hx⟩ := mem _ ((Array.perm_iff_toList_perm.mp hp).mem_iff.mp (show (arrOf st')[i] ∈ (arrOf st').toList by simp))
    refine ⟨x, t, (arrOf st')[i].2, Prod.ext e rfl, hx, ?_⟩
    rw [K_at hi]
    show ((cnt ks (strOf (arrOf st')[i].1) : Nat) : Int) = _
    rw [e]; rfl
  obtain ⟨x, t, q, e1, hx, k1⟩ := at' i (by omega)
  obtain ⟨y, u, r, e2, hy, k2⟩ := at' j (by omega)
  rw [KK_str (by omega) e1, KK_str (by omega) e2]
  have le := hs i j hij hj
  rw [k1, k2] at le
  show decide (y.cps.toList < x.cps.toList) = false
  rw [decide_eq_false_iff_not]
  exact fun g => absurd (cnt_lt g hy) (by omega)
end
end TM
namespace L2
open PySem PySem.Spec PyProof.Rows
/-! ### sorted(d): d's keys are texts, no more than 1000 -/
def rSortedA : List V → Hp → VK → Prop := fun vs H Q => match vs with
  | [.ref a] => ∃ kvs ks, Rd H a (.dK kvs) ∧ KeysS kvs ks ∧ ks.length ≤ 1000 ∧ ks.Nodup ∧ ∀ l ss, H l = none → ss.Perm ks → upS ss → Q (.ref l) (upd H l (.lst (ss.map V.str)))
  | _ => False
section
variable {X : Cx}
theorem call_sortedA (hd : X.A.handled = none) : CallR X (.builtin "sorted") rSortedA := by
  intro pins s σ H xs us Q I rv h
  unfold rSortedA at h
  split at h
  rotate_left
  · exact h.elim
  rename_i a
  obtain ⟨kvs, ks, e, ek, h64, knd, q⟩ := h
  obtain ⟨u, rfl, ru⟩ := vals1 rv
  cases ru
  obtain ⟨z, lo, vs, rel, dd⟩ := dk_rd I.hok e
  have line : 1000 ≤ sizeLine := Nat.le_trans (by decide) line_ge
  have lk : kvs.length = ks.length := by have := congrArg List.length ek; simpa using this
  have lv : vs.length = kvs.length := rel.length.symm
  have keys : vs.map (·.1) = ks.map strK := by rw [← rel.keys]; exact ek
  obtain ⟨ep, da⟩ : ∃ ep, s.heap.DictAt (mixKind X.prog X.w) a vs ep := by obtain ⟨o, es, ep, r⟩ := dd; exact ⟨ep, o, es, r⟩
  refine Calls.call_function_entry kind_sorted plain_sorted entry_sorted (args_sorted1 _) ?_
  unfold Builtin.«sorted»
  refine wpAny_bind (m := checkCount "sorted" 1 1 _) (wpAny_pure ?_)
  refine wpAny_bind (PySem.W.kdu_collect (PySem.W.kdl_dict (knd := mixKind X.prog X.w) lo) (by simp [hd]) da (by omega) fun h' tk acc hk ia => ?_)
  obtain ⟨asz, ait⟩ := ia
  have hS : StrsAre acc.toList ks := by
    refine strsAre_of _ _ (by rw [Array.length_toList, asz, lv, lk]) fun j v hj => ?_
    obtain ⟨k, x, e1, e2⟩ := ait j v (by rw [← Array.getElem?_toList]; exact hj)
    have e3 : (vs.map (·.1))[j]? = some k := by rw [List.getElem?_map, e1]; rfl
    rw [keys, List.getElem?_map] at e3
    cases e4 : ks[j]? with
    | none => rw [e4] at e3; cases e3
    | some y =>
      rw [e4] at e3
      cases e3
      obtain ⟨t, rfl⟩ := mix_str e2
      exact ⟨y, t, rfl, rfl⟩
  have hz : acc.toList.length ≤ sizeLine := by rw [Array.length_toList, asz]; omega
  have hlen : acc.toList.length ≤ 1000 := by rw [Array.length_toList, asz]; omega
  refine wpAny_bind (wpAny_newList ?_ hz)
  have hoL : (h'.push (seqObj "list" acc.toList.toArray 0)).get? h'.objs.size = some (seqObj "list" acc.toList.toArray 0) := Heap.get?_push_size _ rfl
  refine wpAny_bind (wpAny_holding (wpAny_call_entry slot_list_sort ⟨_, hoL, rfl⟩ entry_list_sort (TM.sort_texts hoL hS knd hlen fun st' hp hs => ⟨_, rfl, ?_⟩) (args_list_sort _)))
  obtain ⟨ss, b1, b2, b3⟩ := sorted_out_str hS hp hs
  obtain ⟨ec, he⟩ := sortedHeap_at (out := (arrOf st').map (·.2)) hoL
  refine wpAny_pure ⟨_, rfl, ?_⟩
  have hz2 : (ss.map V.str).length ≤ sizeLine := by rw [List.length_map, b2.length_eq]; omega
  have lt' : ∀ b ob, s.heap.get? b = some ob → b < h'.objs.size := fun b ob w => Heap.lt_size (hk b ob w)
  have I2 := I.kept (t' := tk) (h' := sortedHeap (h'.push (seqObj "list" acc.toList.toArray 0)) h'.objs.size acc.toList ((arrOf st').map (·.2))) fun b ob w => by
    have hb := lt' b ob w
    rw [sortedHeap_old (Nat.ne_of_lt hb) (by rw [size_push']; exact Nat.lt_succ_of_lt hb)]
    exact Heap.get?_push_of_some _ (hk b ob w)
  have hloc : X.env.locals < h'.objs.size := by obtain ⟨m, ⟨o, _, _, ho, _⟩, _⟩ := I.loc; exact lt' _ _ ho
  have hn : H h'.objs.size = none := by
    cases w : H h'.objs.size with
    | none => rfl
    | some o =>
      obtain ⟨ob, hob⟩ := ObjOk.there (I.hok _ _ w)
      exact absurd (lt' _ _ hob) (Nat.lt_irrefl _)
  have h0 : X.s₀.heap.get? h'.objs.size = none := Heap.get?_none_of_le (Nat.le_trans I.ok.above (Nat.le_of_lt hloc))
  refine ⟨.ref h'.objs.size, _, I2.track (o := .lst (ss.map V.str)) hn h0 (Nat.ne_of_gt hloc) (fun x c ec => ?_) (fun p hp => ?_) ⟨hz2, _, ec, vals_strs b1, by rw [Array.toArray_toList]; exact he⟩, rfl, q _ ss hn b2 (sorted_pw b3)⟩
  · obtain ⟨v, o, ho, _⟩ := I.cell x c ec
    exact Nat.ne_of_lt (lt' _ _ ho)
  · exact Nat.ne_of_lt (lt' _ _ (I.pin p hp).1)
end
end L2

end
section
set_option Elab.async false
set_option linter.all false
set_option maxRecDepth 100000
namespace L2
open PySem PyProof.Rows

/-! ### the places of a set's table rise -/
def Rise (xs : Array Nat) : Prop := xs.toList.Pairwise (· < ·)
theorem Rise.at {xs : Array Nat} (u : Rise xs) {i j : Nat} (hij : i < j) (hj : j < xs.size) : xs[i]'(Nat.lt_trans hij hj) < xs[j] := by
  have := List.pairwise_iff_getElem.mp u i j (by simp; omega) (by simpa using hj) hij
  simpa using this
def Cut (xs : Array Nat) (j p : Nat) : Prop := p ≤ xs.size ∧ (∀ i (h : i < xs.size), i < p → xs[i] < j) ∧ ∀ i (h : i < xs.size), p ≤ i → j ≤ xs[i]
theorem below_go {xs : Array Nat} (u : Rise xs) (j : Nat) : ∀ (fuel lo hi : Nat), lo ≤ hi → hi ≤ xs.size → hi - lo ≤ fuel → (∀ i (h : i < xs.size), i < lo → xs[i] < j) → (∀ i (h : i < xs.size), hi ≤ i → j ≤ xs[i]) → Cut xs j (SetTable.below.go xs j fuel lo hi)
  | 0, lo, hi, h1, h2, h3, h4, h5 => by
    unfold SetTable.below.go
    exact ⟨by omega, h4, fun i h hi => h5 i h (by omega)⟩
  | fuel + 1, lo, hi, h1, h2, h3, h4, h5 => by
    unfold SetTable.below.go
    by_cases hl : lo < hi
    · rw [if_pos hl]
      dsimp only
      have hm : (lo + hi) / 2 < xs.size := by omega
      have eg : xs.getD ((lo + hi) / 2) j = xs[(lo + hi) / 2] := by simp [Array.getD, hm]
      rw [eg]
      by_cases hv : xs[(lo + hi) / 2] < j
      · rw [if_pos hv]
        refine below_go u j fuel _ hi (by omega) h2 (by omega) (fun i h hi' => ?_) h5
        rcases Nat.lt_or_ge i ((lo + hi) / 2) with hc | hc
        · exact Nat.lt_trans (u.at hc hm) hv
        · have : i = (lo + hi) / 2 := by omega
          subst this; exact hv
      · rw [if_neg hv]
        refine below_go u j fuel lo _ (by omega) (by omega) (by omega) h4 (fun i h hi' => ?_)
        rcases Nat.lt_or_ge ((lo + hi) / 2) i with hc | hc
        · have := u.at hc h; omega
        · have : i = (lo + hi) / 2 := by omega
          subst this; omega
    · rw [if_neg hl]
      exact ⟨by omega, h4, fun i h hi => h5 i h (by omega)⟩
theorem below_cut {xs : Array Nat} (u : Rise xs) (j : Nat) : Cut xs j (SetTable.below xs j) := below_go u j _ 0 xs.size (Nat.zero_le _) (Nat.le_refl _) (by omega) (fun i h hi => absurd hi (by omega)) fun i h hi => absurd h (by omega)
theorem below_next {xs : Array Nat} (u : Rise xs) {i : Nat} (h : i < xs.size) : SetTable.below xs (xs[i] + 1) = i + 1 := by
  obtain ⟨p1, p2, p3⟩ := below_cut u (xs[i] + 1)
  generalize SetTable.below xs (xs[i] + 1) = p at *
  have a1 : i < p := by
    rcases Nat.lt_or_ge i p with q | q
    · exact q
    · have := p3 i h q; omega
  rcases Nat.lt_or_ge (i + 1) p with q | q
  · have b1 := p2 (i + 1) (by omega) q
    have b2 := u.at (show i < i + 1 by omega) (by omega)
    omega
  · omega
theorem below_zero {xs : Array Nat} (u : Rise xs) : SetTable.below xs 0 = 0 := by
  obtain ⟨p1, p2, p3⟩ := below_cut u 0
  generalize SetTable.below xs 0 = p at *
  rcases Nat.eq_zero_or_pos p with q | q
  · exact q
  · have := p2 0 (by omega) q; omega
structure PlOk (L : Bool) (t : SetTable) : Prop where
  dum : t.dummies = #[]
  rise : Rise t.place
  led : t.led = L
theorem has_nil (j : Nat) : SetTable.has #[] j = false := by simp [SetTable.has]
theorem slot_empty {t : SetTable} {L : Bool} (T : PlOk L t) {j : Nat} (h : t.slot j = .empty) : ∀ i (hi : i < t.place.size), t.place[i] ≠ j := by
  intro i hi e
  obtain ⟨p1, p2, p3⟩ := below_cut T.rise j
  unfold SetTable.slot at h
  dsimp only at h
  generalize SetTable.below t.place j = p at *
  have a1 : p ≤ i := by
    rcases Nat.lt_or_ge i p with q | q
    · have := p2 i hi q; omega
    · exact q
  have a2 : p = i := by
    rcases Nat.lt_or_ge p i with q | q
    · have b1 := T.rise.at q hi
      have b2 := p3 p (by omega) (Nat.le_refl _)
      omega
    · omega
  subst a2
  rw [getElem?_pos t.place p hi, e] at h
  simp at h
theorem insert_rise {xs : Array Nat} (u : Rise xs) {j : Nat} (hj : ∀ i (hi : i < xs.size), xs[i] ≠ j) : Rise (SetTable.insertAt xs (SetTable.below xs j) j) := by
  obtain ⟨p1, p2, p3⟩ := below_cut u j
  generalize SetTable.below xs j = p at *
  unfold Rise
  rw [SetTable.toList_insertAt]
  have sp : (xs.toList.take p ++ xs.toList.drop p).Pairwise (· < ·) := by rw [List.take_append_drop]; exact u
  have sp := List.pairwise_append.mp sp
  have f1 : ∀ x ∈ xs.toList.take p, x < j := fun x hx => by
    obtain ⟨i, hi, e⟩ := List.getElem_of_mem hx
    rw [List.length_take] at hi
    rw [List.getElem_take] at e
    have h' : i < xs.size := by simp at hi; omega
    have := p2 i h' (by omega)
    have e' : xs[i] = x := by simpa using e
    omega
  have f2 : ∀ x ∈ xs.toList.drop p, j < x := fun x hx => by
    obtain ⟨i, hi, e⟩ := List.getElem_of_mem hx
    rw [List.length_drop] at hi
    rw [List.getElem_drop] at e
    have h' : p + i < xs.size := by simp at hi; omega
    have b1 := p3 (p + i) h' (by omega)
    have b2 := hj (p + i) h'
    have e' : xs[p + i] = x := by simpa using e
    omega
  refine List.pairwise_append.mpr ⟨sp.1, List.pairwise_cons.mpr ⟨fun x hx => f2 x hx, sp.2.1⟩, fun x hx y hy => ?_⟩
  rcases List.mem_cons.mp hy with rfl | hy
  · exact f1 x hx
  · exact sp.2.2 x hx y hy
theorem probe_go {t : SetTable} {L : Bool} (T : PlOk L t) (hashAt : Nat → Int) (h : Int) : ∀ (fuel : Nat) (p : SetTable.Probe) (j : Nat) (d : Option Nat), p.dummy = none → SetTable.probe.go t hashAt h fuel p = some (.empty j d) → d = none ∧ t.slot j = .empty
  | 0, p, j, d, _, e => by simp [SetTable.probe.go] at e
  | fuel + 1, p, j, d, hp, e => by
    have adv : ∀ q : SetTable.Probe, q.dummy = none → (t.advance q).dummy = none := fun q hq => by
      unfold SetTable.advance; split
      · exact hq
      · exact hq
    unfold SetTable.probe.go at e
    cases hs : t.slot p.j with
    | empty =>
      rw [hs] at e
      simp only [Option.some.injEq, SetTable.Met.empty.injEq] at e
      exact ⟨by rw [← e.2, hp], by rw [← e.1]; exact hs⟩
    | dummy =>
      exfalso
      unfold SetTable.slot at hs
      rw [T.dum, has_nil] at hs
      dsimp only at hs
      split at hs <;> simp at hs
    | live i =>
      rw [hs] at e
      dsimp only at e
      split at e
      · simp at e
      · exact probe_go T hashAt h fuel _ j d (adv p hp) e
theorem PlOk.standIn {t : SetTable} {L : Bool} (T : PlOk L t) (n : Nat) : PlOk L (t.standIn n) := by
  refine ⟨rfl, ?_, T.led⟩
  show (Array.range n).toList.Pairwise (· < ·)
  rw [Array.toList_range]
  exact List.pairwise_lt_range
theorem PlOk.orStandIn {t : SetTable} {L : Bool} (T : PlOk L t) (n : Nat) : PlOk L (t.orStandIn n) := by
  unfold SetTable.orStandIn
  split
  · exact T
  · exact T.standIn n
theorem PlOk.layNew {t : SetTable} {L : Bool} (T : PlOk L t) (es : Array (Int × Value)) (h : Int) (x : Value) : PlOk L (layNew t es h x).2.1 ∧ (PySem.layNew t es h x).2.2.1 = false := by
  unfold PySem.layNew
  cases hf : t.freeSlot h with
  | none => exact ⟨T.standIn _, rfl⟩
  | some sl =>
    obtain ⟨slot, wd⟩ := sl
    unfold SetTable.freeSlot at hf
    split at hf
    · rename_i j dummy hp
      have := probe_go T _ _ _ _ j dummy rfl hp
      obtain ⟨rfl, hs⟩ := this
      simp only [Option.getD_none, Option.isSome_none, Option.some.injEq, Prod.mk.injEq] at hf
      obtain ⟨rfl, rfl⟩ := hf
      refine ⟨?_, rfl⟩
      dsimp only
      refine PlOk.orStandIn ?_ _
      unfold SetTable.put
      refine ⟨?_, insert_rise T.rise (slot_empty T hs), T.led⟩
      show (if SetTable.has t.dummies j = true then _ else t.dummies) = #[]
      rw [T.dum, has_nil]; rfl
    · simp at hf
theorem PlOk.relayAll {t : SetTable} {L : Bool} (T : PlOk L t) (es : Array (Int × Value)) (n : Nat) : PlOk L (relayAll t es n).2.1 := by
  unfold PySem.relayAll
  split
  · rename_i t' order hr
    dsimp only
    split
    · unfold SetTable.relaid SetTable.laid at hr
      simp only [Option.bind_eq_bind, Option.bind_eq_some_iff] at hr
      obtain ⟨owner, _, hr⟩ := hr
      have hr := congrArg Prod.fst (Option.some.inj hr)
      dsimp only at hr
      subst hr
      refine ⟨rfl, ?_, T.led⟩
      unfold Rise
      dsimp only
      rw [List.pairwise_map, List.pairwise_filterMap]
      refine List.pairwise_lt_range.imp fun hab b hb c hc => ?_
      simp only [Option.mem_def, Option.map_eq_some_iff] at hb hc
      obtain ⟨_, _, rfl⟩ := hb
      obtain ⟨_, _, rfl⟩ := hc
      exact hab
    · exact T.standIn _
  · exact T.standIn _
end L2

end
section
set_option Elab.async false
set_option linter.all false
set_option maxRecDepth 100000
namespace L2
open PySem PyProof.Rows

section
variable {prog : Program} {w : World} {A : Around} {E : Value → Shared → Prop} {s : Shared}
def IntE (prog : Program) (w : World) (es : List (Int × Value)) : Prop := ∀ e ∈ es, ∃ n t, e = ((intKind prog w).hash n, Value.int n t)
structure SetI (prog : Program) (w : World) (h : Heap) (a : Addr) (L : Bool) (o : Obj) (es : Array (Int × Value)) (ep : Nat) (t : SetTable) : Prop where
  at' : h.get? a = some o
  ex : o.ExactSet
  dat : o.data = .set es ep t
  tab : PlOk L t
  fits : t.fits es.size = true
  allI : IntE prog w es.toList
  nd : (es.toList.map fun e => numOf e.2).Nodup
  few : es.size < scanBound
def SetN (prog : Program) (w : World) (h : Heap) (a : Addr) (L : Bool) (ns : List Int) : Prop := ∃ o es ep t, SetI prog w h a L o es ep t ∧ (es.toList.map fun e => numOf e.2).Perm ns
def stp (ns : List Int) (n : Int) : List Int := if n ∈ ns then ns else ns ++ [n]
theorem IntE.elems {es : List (Int × Value)} (h : IntE prog w es) : ElemsOf (intKind prog w) es := fun e he => by
  obtain ⟨n, t, rfl⟩ := h e he
  exact ⟨⟨n, intKind_is _ _ _ _, rfl⟩, rfl⟩
theorem is_num {es : List (Int × Value)} (h : IntE prog w es) {e : Int × Value} (he : e ∈ es) (n : Int) : (intKind prog w).is n e.2 = true ↔ numOf e.2 = n := by
  obtain ⟨m, t, rfl⟩ := h e he
  constructor
  · intro q
    exact (intKind prog w).inj _ m n (intKind_is _ _ _ _) q
  · intro q
    have : m = n := q
    subst this
    exact intKind_is _ _ _ _
theorem SetI.kept {h h' : Heap} {a : Addr} {L : Bool} {o : Obj} {es : Array (Int × Value)} {ep : Nat} {t : SetTable} (S : SetI prog w h a L o es ep t) (e : h'.get? a = some o) : SetI prog w h' a L o es ep t := ⟨e, S.ex, S.dat, S.tab, S.fits, S.allI, S.nd, S.few⟩
theorem SetI.store {h : Heap} {a : Addr} {L : Bool} {o : Obj} {es es' : Array (Int × Value)} {ep : Nat} {t t' : SetTable} (S : SetI prog w h a L o es ep t) (T : PlOk L t') (hf : t'.fits es'.size = true) (hi : IntE prog w es'.toList) (hn : (es'.toList.map fun e => numOf e.2).Nodup) (hw : es'.size < scanBound) :
    SetI prog w (h.update a (Obj.putSet es' t')) a L { o with data := .set es' (ep + 1) t' } es' (ep + 1) t' := by
  refine ⟨?_, S.ex, rfl, T, hf, hi, hn, hw⟩
  have := Heap.get?_update_self (Obj.putSet es' t') S.at' (by rw [putSet_of es' t' S.dat]; rfl)
  rwa [putSet_of es' t' S.dat] at this
theorem wpAny_addI {a : Addr} {L : Bool} {ns : List Int} {n : Int} {tk : Tok} {Q : Bool → Shared → Prop} (hS : SetN prog w s.heap a L ns) (hroom : ns.length + 1 < scanBound)
    (h : ∀ b h', Heap.SameBut a s.heap h' → SetN prog w h' a L (stp ns n) → Q b { s with heap := h' }) :
    wpAny (model prog w) A (setAddHashed a (.int n tk) ((intKind prog w).hash n)) Q E s := by
  obtain ⟨o, es, ep, t, S, hm⟩ := hS
  have hlen : es.size = ns.length := by have := hm.length_eq; simpa using this
  have hel := S.allI.elems
  unfold setAddHashed setAddHashedIn
  refine wpAny_holding (wpAny_bind (wpAny_setState_of S.at' S.dat S.fits ?_))
  dsimp only
  rw [byScan_of (by rfl) S.few hel]
  simp only [↓reduceIte]
  unfold setAddByScan
  refine wpAny_bind ?_
  refine wpAny_bind (wpAny_rule ?_)
  refine wpAny_bind (wpAny_setScan_of (intKind_is _ _ _ _) S.at' S.dat S.fits hel ?_)
  cases hr : List.findIdx? (fun e => (intKind prog w).is n e.2) es.toList with
  | some j =>
    dsimp only
    obtain ⟨hj, hpj, _⟩ := List.findIdx?_eq_some_iff_getElem.mp hr
    refine wpAny_pure (wpAny_pure ?_)
    have e : s = { s with heap := s.heap } := by cases s; rfl
    rw [e]
    have hin : n ∈ ns := hm.mem_iff.mp (List.mem_map.mpr ⟨_, List.getElem_mem hj, (is_num S.allI (List.getElem_mem hj) n).mp hpj⟩)
    refine h _ s.heap (Heap.SameBut.refl a s.heap) ⟨o, es, ep, t, S, ?_⟩
    rw [stp, if_pos hin]; exact hm
  | none =>
    dsimp only
    have hnin : n ∉ ns := fun hin => by
      obtain ⟨e, he, en⟩ := List.mem_map.mp (hm.mem_iff.mpr hin)
      have := List.findIdx?_eq_none_iff.mp hr e he
      rw [(is_num S.allI he n).mpr en] at this
      exact Bool.noConfusion this
    have hgw : ∀ (b : Bool) {s₁ : Shared} {Q' : Unit → Shared → Prop}, Q' () s₁ → wpAny (model prog w) A (match b with | true => rule "set.scan.the-table-gave-way" | false => pure ()) Q' E s₁ := fun b s₁ Q' hq => by cases b <;> first | exact wpAny_pure hq | exact wpAny_rule hq
    have hperm := layNew_perm t es ((intKind prog w).hash n) (.int n tk)
    have hfits := layNew_fits t es ((intKind prog w).hash n) (.int n tk)
    have htab := S.tab.layNew es ((intKind prog w).hash n) (.int n tk)
    generalize hL : layNew t es ((intKind prog w).hash n) (.int n tk) = La at hperm hfits htab ⊢
    obtain ⟨es1, t1, wasDummy, gave⟩ := La
    dsimp only at hperm hfits htab ⊢
    rw [Array.toList_push] at hperm
    have hi1 : IntE prog w es1.toList := fun e he => by
      rcases List.mem_append.mp (hperm.mem_iff.mp he) with q | q
      · exact S.allI e q
      · exact ⟨n, tk, List.mem_singleton.mp q⟩
    have hm1 : (es1.toList.map fun e => numOf e.2).Perm (stp ns n) := by
      rw [stp, if_neg hnin]
      refine (hperm.map _).trans ?_
      rw [List.map_append]
      exact hm.append_right [n]
    have hnd : (stp ns n).Nodup := by
      rw [stp, if_neg hnin, List.nodup_append]
      refine ⟨hm.nodup_iff.mp S.nd, by simp, fun x hx y hy e => hnin ?_⟩
      rw [List.mem_singleton] at hy
      rw [← hy, ← e]; exact hx
    have hn1 := hm1.nodup_iff.mpr hnd
    have hz1 : es1.size < scanBound := by
      have := hperm.length_eq
      simp only [Array.length_toList, List.length_append, List.length_singleton] at this
      omega
    refine wpAny_bind (hgw _ ?_)
    have tail : ∀ t2, t1 = t2 → wpAny (model prog w) A (do
        storeSet a es1 t2
        if (!wasDummy && t2.tooFull) = true then (match relayAll t2 es1 (SetTable.grown es1.size) with
            | (es, t, gave) => do
              (match gave with | true => rule "set.scan.the-table-gave-way" | false => pure ())
              storeSet a es t
              pure (some true))
          else pure (some true)) (fun a_1 s' => wpAny (model prog w) A (match a_1 with
            | some added => pure added
            | none => setAddHashedIn a (Value.int n tk) ((intKind prog w).hash n) 99999) Q E s') E s := by
      intro t2 e2
      subst e2
      refine wpAny_bind (wpAny_storeSet_of S.at' S.dat ?_ (fits_of_scanBound hz1))
      have S1 := S.store htab.1 hfits hi1 hn1 hz1
      have sb1 := Heap.SameBut.update s.heap a (Obj.putSet es1 t1)
      split
      · have hp := relayAll_perm t1 es1 (SetTable.grown es1.size)
        have hfr := relayAll_fits t1 es1 (SetTable.grown es1.size)
        have htr := htab.1.relayAll es1 (SetTable.grown es1.size)
        generalize relayAll t1 es1 (SetTable.grown es1.size) = Rl at hp hfr htr ⊢
        obtain ⟨es2, t3, gave2⟩ := Rl
        dsimp only at hp hfr htr ⊢
        have hz2 : es2.size < scanBound := by
          have := hp.length_eq
          simp only [Array.length_toList] at this
          omega
        refine wpAny_bind (hgw _ ?_)
        refine wpAny_bind (wpAny_storeSet_of S1.at' S1.dat ?_ (fits_of_scanBound hz2))
        have S2 := S1.store htr hfr (fun e he => hi1 e (hp.mem_iff.mp he)) ((hp.map _).nodup_iff.mpr hn1) hz2
        exact wpAny_pure (wpAny_pure (h true _ (sb1.trans (Heap.SameBut.update _ a _)) ⟨_, _, _, _, S2, (hp.map _).trans hm1⟩))
      · exact wpAny_pure (wpAny_pure (h true _ sb1 ⟨_, _, _, _, S1, hm1⟩))
    split
    · refine wpAny_bind ?_
      rw [hashByValue_scannable 8 (by rfl)]
      exact wpAny_pure (tail _ rfl)
    · exact wpAny_bind (wpAny_pure (tail _ rfl))
end
end L2

end
section
set_option Elab.async false
set_option linter.all false
set_option maxRecDepth 100000
namespace L2
open PySem PyProof.Rows

section
variable {prog : Program} {w : World} {A : Around} {E : Value → Shared → Prop} {s : Shared}
def ledOf (w : World) : Bool := !(w.params.followText "set-order")
def newSetO (w : World) : Obj := { cls := .type "set", dict := none, data := .set #[] 0 (.fresh 0 0 (ledOf w)) }
theorem setN_new {h : Heap} {a : Addr} (e : h.get? a = some (newSetO w)) : SetN prog w h a (ledOf w) [] :=
  ⟨_, #[], 0, _, ⟨e, ⟨rfl, rfl, rfl⟩, rfl, ⟨rfl, .nil, rfl⟩, by rfl, fun e he => by simp at he, .nil, by decide⟩, by simp⟩
theorem code_newL (a : Value) {Q₁ : Value → Shared → Prop} (h : Q₁ (.ref s.heap.objs.size) { s with heap := s.heap.push (newSetO w) }) :
    codeAny (model prog w) A (.call (.builtin "set.__new__") ⟨[.type "set", a], []⟩) (wants Q₁ E) s := by
  refine codeAny_of_tree ?_
  show wpAny _ A.in1 (do checkBuiltinCall "set.__new__" ⟨[.type "set", a], []⟩; again (.builtin "set.__new__" ⟨[.type "set", a], []⟩)) _ _ s
  refine wpAny_bind (wpAny_of_eq (F.newCall_set_1 a) (wpAny_pure ⟨plainId_quiet F.plain_set_new _, codeAny_builtin F.entry_set_new ?_⟩)); rw [Around.under_plainId F.plain_set_new _]
  unfold Builtin.«set.__new__» Builtin.Frozenset.newClass; have hsub := sub_set_self; obtain ⟨hp, g, d, tk, os⟩ := s; dsimp only
  wp_walk
  refine wpAny_askSetting (wpAny_pure ?_); dsimp only; simp only [newObj]
  refine wpAny_bind (wpAny_alloc (wpAny_pure ?_)); exact wpAny_pure h
theorem loopL {R : Result → Shared → Prop} {I : Addr} {fp wr : List Addr} {G : Array GenState → Array GenState → Prop} {n : Nat} {P : Nat → Value → Prop} {St : Nat → Shared → Prop} {L : Bool}
    (W : WalksS prog w A.in1 I fp wr G n P St) (S : Addr) (hSf : S ∉ fp) (ms : List Int) (hml : ms.length = n) (hval : ∀ i v, P i v → ∃ t, v = .int (ms.getD i 0) t) (hb : n + 1 < scanBound) :
    ∀ (k i : Nat) (s : Shared) (acc : List Int), n - i = k → i ≤ n → St i s → acc.length ≤ i → SetN prog w s.heap S L acc → (∀ s', Moved (S :: wr) G s s' → SetN prog w s'.heap S L ((ms.drop i).foldl stp acc) → R (.ok (.ret .none)) s') →
      codeAny (model prog w) A (.builtin "set.update.loop" ⟨[.ref S, .ref I], []⟩) R s := by
  have hSw : S ∉ wr := fun h => hSf (W.sub _ h)
  have hsub : ∀ b ∈ wr, b ∈ S :: wr := fun b hb => List.mem_cons_of_mem _ hb
  have kept : ∀ (s s' : Shared) acc, SetN prog w s.heap S L acc → Moved wr G s s' → SetN prog w s'.heap S L acc := fun s s' acc ⟨o, es, ep, t, q, pm⟩ hm => ⟨o, es, ep, t, q.kept (hm.heap S _ hSw q.at'), pm⟩
  intro k
  induction k with
  | zero =>
    intro i s acc hk hi hst hl hS hR
    have hin : i = n := by omega
    subst hin
    refine codeAny_builtin F.entry_set_update_loop ?_; rw [Around.under_plainId F.plain_set_update_loop _]
    show wpAny _ A.in1 (pyNext (.ref I) >>= _) _ _ s
    refine wpAny_bind (W.done s _ _ hst fun s' hm => ?_)
    show wpAny _ A.in1 (ret Value.none) _ _ s'
    refine wpAny_pure (hR s' (hm.mono hsub) ?_)
    rw [List.drop_of_length_le (by omega)]
    exact kept s s' _ hS hm
  | succ k ih =>
    intro i s acc hk hi hst hl hS hR
    have hlt : i < n := by omega
    refine codeAny_builtin F.entry_set_update_loop ?_; rw [Around.under_plainId F.plain_set_update_loop _]
    show wpAny _ A.in1 (pyNext (.ref I) >>= _) _ _ s
    refine wpAny_bind (W.item i s _ _ hlt hst fun v s' hP hst' hm => ?_)
    obtain ⟨t, rfl⟩ := hval i v hP
    have hS' := kept s s' _ hS hm
    show wpAny _ A.in1 (holding [Value.int (ms.getD i 0) t] (setAdd S (.int (ms.getD i 0) t)) >>= _) _ _ s'
    refine wpAny_bind (wpAny_holding ?_)
    unfold setAdd
    refine wpAny_holding (wpAny_bind ((intKind prog w).pyHash (k := ms.getD i 0) (intKind_is _ _ _ _) ?_))
    refine wpAny_addI (s := { s' with toks := s'.toks + 1 }) hS' (by omega) fun b h' hsb hS2 => ?_
    have hd : ms.drop i = ms.getD i 0 :: ms.drop (i + 1) := by
      rw [List.drop_eq_getElem_cons (by omega), List.getD_eq_getElem?_getD, List.getElem?_eq_getElem (by omega)]; rfl
    refine wpAny_pure ⟨plainId_quiet F.plain_set_update_loop _, ih (i + 1) _ _ (by omega) hlt (W.frame _ s' _ _ hst' (Nat.le_succ _) fun b hb o e => ?_) ?_ hS2 fun s'' hm'' hS'' => ?_⟩
    · rw [hsb.2 b (fun h : b = S => hSf (by rw [← h]; exact hb))]; exact e
    · unfold stp; split
      · omega
      · rw [List.length_append, List.length_singleton]; omega
    · refine hR s'' (Moved.trans W.gtrans ((hm.mono hsub).then_heap (Nat.le_succ _) fun b o hb e => ?_) hm'') ?_
      · rw [hsb.2 b (fun h : b = S => hb (by rw [h]; exact List.mem_cons_self))]; exact e
      · rw [hd, List.foldl_cons]; exact hS''
end
section
variable {prog : Program} {w : World} {A : Around} {E : Value → Shared → Prop} {s : Shared}
set_option maxHeartbeats 3200000 in
theorem call_setL {l : Addr} {items : Array Value} {ns : List Int} {Q : Value → Shared → Prop}
    (hh : A.handled = none) (hl : s.heap.IsList l items) (hi : PyProof.Rows.IntsAre items.toList ns) (hb : items.size + 1 < scanBound)
    (h : ∀ (h' : Heap) (tk : Nat), SetN prog w h' s.heap.objs.size (ledOf w) (ns.foldl stp []) → (∀ b o, b < s.heap.objs.size → s.heap.get? b = some o → h'.get? b = some o) → Q (.ref s.heap.objs.size) { s with heap := h', toks := tk }) :
    wpAny (model prog w) A (call (.type "set") [.ref l]) Q E s := by
  obtain ⟨c, tl, hmro⟩ := F.called_set.mro; have hmade := F.called_set.made; have hsub := F.called_set.sub
  refine wpAny_call (codeAny_of_tree ?_)
  show wpAny _ _ (callAny (.type "set") _) _ _ _
  refine wpAny_pure ⟨Code.quiet_builtin _ (by decide +kernel), codeAny_builtin F.entry_type_call ?_⟩; rw [Around.under_plain (weight_type_call_type "set" [.ref l] []) rfl]
  have h1 := F.called_set.notType; have h2 := F.called_set.canCreate; have hct := F.typeCall_set_1 (.ref l)
  repeat (any_goals (first | assumption | wp_step))
  refine codeAny_mono (code_newL (.ref l) (E := E) (Q₁ := fun obj s₁ => obj = .ref s.heap.objs.size ∧ s₁ = { s with heap := s.heap.push (newSetO w) }) ⟨rfl, rfl⟩) fun r s₁ hr => ?_
  cases r with
  | error e => exact hr
  | ok fl =>
    cases fl with
    | ret obj =>
      obtain ⟨rfl, rfl⟩ := hr
      have hS : (s.heap.push (newSetO w)).get? s.heap.objs.size = some (newSetO w) := Heap.get?_push_size _ rfl
      have hT : Shared.TypeIs { s with heap := s.heap.push (newSetO w) } (.ref s.heap.objs.size) "set" := ⟨_, hS, rfl⟩
      have hli := F.called_set.init.lookup; have hbi := F.called_set.init.bind (.ref s.heap.objs.size)
      repeat (any_goals (first | assumption | wp_step))
      refine codeAny_mono (codeAny_call_builtin (R := wants (fun r s₂ => r = .none ∧ ∃ h' tk, s₂ = { s with heap := h', toks := tk } ∧ SetN prog w h' s.heap.objs.size (ledOf w) (ns.foldl stp []) ∧
          (∀ b o, b < s.heap.objs.size → s.heap.get? b = some o → h'.get? b = some o)) E) F.called_set.init.plain F.entry_set_init (check_set_init_1 hT ?_)) fun r₂ s₂ hr₂ => ?_
      · obtain ⟨ol, hol, hcl, nl, hdl⟩ := hl; obtain ⟨ocls, odict, odata, oslots⟩ := ol; simp only at hcl hdl; subst hcl; subst hdl
        have hol' : (s.heap.push (newSetO w)).get? l = some { cls := .type "list", dict := odict, data := .seq items nl, slots := oslots } := Heap.get?_push_of_some _ hol
        have hsls := F.sub_list_set; have hslf := F.sub_list_frozenset; have hne : (Value.type "list" == Value.type "dict") = false := by decide
        have hl1 : (s.heap.push (newSetO w)).IsList l items := ⟨_, hol', rfl, nl, rfl⟩
        unfold Builtin.«set.__init__» noKeywords Builtin.Frozenset.updateFrom; generalize hPI : pyIter = PI
        unfold newSetO at hS hT hol' hl1 ⊢
        wp_walk
        subst hPI
        refine wpAny_pyIter_list hl1 (wpAny_bind (wpAny_runValue ?_))
        have hlS : l < s.heap.objs.size := Heap.lt_size hol
        have hh3 : A.in1.in1.in1.handled = none := by simp [hh]
        generalize hO : ({ cls := .type "set", dict := none, data := .set #[] 0 (.fresh 0 0 (ledOf w)) } : Obj) = O at *
        have eO : newSetO w = O := hO
        have hneI : l ≠ (s.heap.push O).objs.size := by rw [Heap.size_push]; exact Nat.ne_of_lt (Nat.lt_succ_of_lt hlS)
        have hSf : s.heap.objs.size ∉ [(s.heap.push O).objs.size, l] := by
          rw [Heap.size_push]; simp only [List.mem_cons, List.mem_singleton, List.not_mem_nil, or_false, not_or]
          exact ⟨Nat.ne_of_lt (Nat.lt_succ_self _), Nat.ne_of_gt hlS⟩
        have hval : ∀ (i : Nat) (v : Value), items[i]? = some v → ∃ t, v = .int (ns.getD i 0) t := fun i v hv => PyProof.Rows.IntsAre.int_at hi i v (by rw [Array.getElem?_toList]; exact hv)
        have hlen : ns.length = items.size := by have := hi.nums; rw [← this, List.length_map, Array.length_toList]
        refine loopL (L := ledOf w) ((Walks.list hh3 _ l hneI items).toS) s.heap.objs.size hSf ns hlen hval hb (items.size - 0) 0 _ [] (by omega) (Nat.zero_le _) ⟨⟨_, Heap.get?_push_size _ rfl, rfl, rfl⟩, (hl1.push _)⟩ (Nat.le_refl _) ?hS0 ?hR
        case hS0 => exact setN_new (by rw [eO]; exact Heap.get?_push_of_some _ hS)
        case hR =>
          intro s' hm hS'
          obtain ⟨h', g', d', tk', os'⟩ := s'
          have eg : g' = s.gens := hm.gens
          have ed : d' = s.drawn := hm.drawn
          have eo : os' = s.os := hm.os
          subst eg ed eo
          show wpAny _ _ _ _ _ _
          refine wpAny_pure ?_
          show wpAny _ _ (ret Value.none) _ _ _
          refine wpAny_pure ⟨rfl, h', tk', rfl, hS', fun b o hb e => ?_⟩
          have hb2 : b ≠ (s.heap.push O).objs.size := by rw [Heap.size_push]; exact Nat.ne_of_lt (Nat.lt_succ_of_lt hb)
          exact hm.heap b o (by simp only [List.mem_cons, List.mem_singleton, List.not_mem_nil, or_false, not_or]; exact ⟨Nat.ne_of_lt hb, hb2⟩) (Heap.get?_push_of_some _ (Heap.get?_push_of_some _ e))
      · cases r₂ with
        | error e => exact hr₂
        | ok fl₂ =>
          cases fl₂ with
          | ret r =>
            obtain ⟨rfl, h', tk, rfl, hS', hk'⟩ := hr₂
            repeat (any_goals (first | assumption | wp_step))
            exact h _ _ hS' hk'
          | _ => exact hr₂.elim
    | _ => exact hr.elim
end
end L2

end
section
set_option Elab.async false
set_option linter.all false
set_option maxRecDepth 100000
namespace L2
open PySem PyProof.Rows

theorem slot_si_next : Slot "set_iterator" "__next__" "set_iterator.__next__" :=
  .of (owner := "set_iterator") (n := "__next__") (by rw [typeLookup_type, builtinLookup_eq_fast]; kernel_rfl) (by decide +kernel) (by decide +kernel) (by decide +kernel) (by first | exact .inl (by decide +kernel) | exact .inr (by decide +kernel)) (by rw [isSubtype_type]; kernel_rfl)
theorem slot_si_iter : Slot "set_iterator" "__iter__" "set_iterator.__iter__" :=
  .of (owner := "set_iterator") (n := "__iter__") (by rw [typeLookup_type, builtinLookup_eq_fast]; kernel_rfl) (by decide +kernel) (by decide +kernel) (by decide +kernel) (by first | exact .inl (by decide +kernel) | exact .inr (by decide +kernel)) (by rw [isSubtype_type]; kernel_rfl)
theorem entry_si_next : entryFor table "set_iterator.__next__" = some Builtin.«set_iterator.__next__» := entryFor_of_fast (by kernel_rfl)
theorem entry_si_iter : entryFor table "set_iterator.__iter__" = some Builtin.«dict_keyiterator.__iter__» := entryFor_alias (id' := "dict_keyiterator.__iter__") (by kernel_rfl) rfl (by decide +kernel) (by kernel_rfl)
theorem args_si_next (a : Value) : argsOk "set_iterator.__next__" ⟨[a], []⟩ := by unfold argsOk; kernel_rfl
theorem args_si_iter (a : Value) : argsOk "set_iterator.__iter__" ⟨[a], []⟩ := by unfold argsOk; kernel_rfl
theorem entry_set_it : entryFor table "set.__iter__" = some Builtin.«frozenset.__iter__» := entryFor_alias (id' := "frozenset.__iter__") (by kernel_rfl) rfl (by decide +kernel) (by kernel_rfl)
theorem args_set_it (a : Value) : argsOk "set.__iter__" ⟨[a], []⟩ := by unfold argsOk; kernel_rfl

/-! ### orders that are drawn or picked -/
theorem perm_out {α : Type} {l : List α} {i : Nat} (h : i < l.length) : (l[i] :: l.eraseIdx i).Perm l := by
  rw [List.eraseIdx_eq_take_drop_succ]
  refine List.perm_middle.symm.trans ?_
  rw [← List.drop_eq_getElem_cons h, List.take_append_drop]
theorem go_perm {α : Type} (next : Nat → Nat) : ∀ (fuel k : Nat) (left : List α) (out : Array α), fuel = left.length → (pickOrder.go next fuel k left out).toList.Perm (out.toList ++ left)
  | 0, k, left, out, e => by
    have : left = [] := List.eq_nil_of_length_eq_zero e.symm
    subst this
    simp [pickOrder.go]
  | fuel + 1, k, left, out, e => by
    unfold pickOrder.go
    have hlt : next k % left.length < left.length := Nat.mod_lt _ (by omega)
    rw [List.getElem?_eq_getElem hlt]
    dsimp only
    refine (go_perm next fuel (k + 1) _ _ (by rw [List.length_eraseIdx_of_lt hlt]; omega)).trans ?_
    rw [Array.toList_push, List.append_assoc]
    refine List.Perm.append_left _ ?_
    exact perm_out hlt
theorem pick_perm {α : Type} (next : Nat → Nat) (xs : Array α) : (pickOrder next xs).toList.Perm xs.toList := by
  have := go_perm next xs.size 0 xs.toList #[] (by simp)
  simpa [pickOrder] using this
section
variable {prog : Program} {w : World} {A : Around} {E : Value → Shared → Prop} {s : Shared}
theorem wpAny_choose {src : Source} {n : Nat} {Q : Nat → Shared → Prop} (hn : n ≠ 0) (h : ∀ i d, i < n → Q i { s with drawn := d }) : wpAny (model prog w) A (choose src n) Q E s := by
  intro Γ p hΓ
  unfold choose
  exact ⟨hn, h _ _ (Nat.mod_lt _ (Nat.pos_of_ne_zero hn))⟩
theorem wpAny_draw {α : Type} : ∀ (n : Nat) (xs : List α) (s : Shared) (Q : List α → Shared → Prop), n = xs.length → (∀ ys d, ys.Perm xs → Q ys { s with drawn := d }) → wpAny (model prog w) A (drawOrder n xs) Q E s
  | 0, xs, s, Q, e, h => by
    have : xs = [] := List.eq_nil_of_length_eq_zero e.symm
    subst this
    exact wpAny_pure (h [] s.drawn .nil)
  | n + 1, [], s, Q, e, h => by simp at e
  | n + 1, x :: xs, s, Q, e, h => by
    unfold drawOrder
    refine wpAny_bind (wpAny_choose (by simp) fun i d hi => ?_)
    rw [List.getElem?_eq_getElem hi]
    dsimp only
    refine wpAny_bind (wpAny_draw n ((x :: xs).eraseIdx i) _ _ (by rw [List.length_eraseIdx_of_lt hi]; simp at e ⊢; omega) fun ys d' hy => ?_)
    refine wpAny_pure (h _ d' ?_)
    exact (List.Perm.cons _ hy).trans (perm_out hi)
end
end L2

end
section
set_option Elab.async false
set_option linter.all false
set_option maxRecDepth 100000
namespace L2
open PySem PyProof.Rows

def drw (es : Array (Int × Value)) (t : SetTable) : Bool := !t.plain && decide (es.size > 1)
def itO (f : Value) (i : Nat) (a : Addr) (n ep : Nat) : Obj := { cls := .type "set_iterator", data := .fields #[f, .int i 0, .ref a, .int n 0, .int ep 0] }
section
variable {prog : Program} {w : World} {A : Around} {E : Value → Shared → Prop} {s : Shared} {a : Addr} {L : Bool} {o : Obj} {es : Array (Int × Value)} {ep : Nat} {t : SetTable}
theorem SetI.typeIs (S : SetI prog w s.heap a L o es ep t) : s.TypeIs (.ref a) "set" := ⟨o, S.at', S.ex.1⟩
theorem wpAny_byText {Q : Bool → Shared → Prop} (h : Q (!ledOf w) s) : wpAny (model prog w) A setsByText Q E s := by
  unfold setsByText
  refine wpAny_bind (wpAny_askSetting (wpAny_pure ?_))
  have e : (!ledOf w) = w.params.followText "set-order" := by simp [ledOf]
  rw [e] at h
  exact h
theorem wpAny_entries (S : SetI prog w s.heap a L o es ep t) {Q : Array (Int × Value) → Shared → Prop} (h : Q es s) : wpAny (model prog w) A (setEntries a) Q E s := by
  unfold setEntries
  exact wpAny_bind (wpAny_setState_of S.at' S.dat S.fits (wpAny_pure h))
theorem wpAny_drawn (S : SetI prog w s.heap a L o es ep t) {Q : Bool → Shared → Prop} (h : Q (ledOf w && drw es t) s) : wpAny (model prog w) A (setDrawn a) Q E s := by
  unfold setDrawn
  refine wpAny_bind (wpAny_setState_of S.at' S.dat S.fits ?_)
  refine wpAny_bind (wpAny_byText (wpAny_pure ?_))
  rw [Bool.not_not]
  exact h
theorem wpAny_iterSet (S : SetI prog w s.heap a L o es ep t) {Q : Value → Shared → Prop} (hA : (ledOf w && drw es t) = false → Q (.ref s.heap.objs.size) { s with heap := s.heap.push (itO (.int 0 0) 0 a es.size ep) })
    (hB : (ledOf w && drw es t) = true → ∀ (ps : List Nat) d, ps.Perm (List.range es.size) → Q (.ref (s.heap.objs.size + 1)) { s with heap := (s.heap.push (seqObj "tuple" (ps.map fun i => Value.int (i : Nat) 0).toArray 0)).push (itO (.ref s.heap.objs.size) 0 a es.size ep), drawn := d }) :
    wpAny (model prog w) A (pyIter (.ref a)) Q E s := by
  refine wpAny_pyIter_slot S.typeIs F.slot_set_iter (wpAny_call_entry F.slot_set_iter S.typeIs entry_set_it ?_ (args_set_it _))
  unfold Builtin.«frozenset.__iter__»
  refine wpAny_bind (wpAny_pure ?_)
  unfold Builtin.Frozenset.sizeOf
  refine wpAny_bind (wpAny_bind (wpAny_entries S (wpAny_pure ?_)))
  refine wpAny_bind (wpAny_drawn S ?_)
  cases hd : (ledOf w && drw es t) with
  | false =>
    simp only [Bool.false_eq_true, if_false]
    refine wpAny_bind (wpAny_pure ?_)
    refine wpAny_bind (wpAny_setEpoch_of S.at' S.dat S.fits ?_)
    exact wpAny_bind (wpAny_newObj_type (wpAny_pure ⟨_, rfl, "set_iterator", _, ⟨_, Heap.get?_push_size _ rfl, rfl⟩, slot_si_next.lookup, hA hd⟩))
  | true =>
    simp only [if_true]
    have hfit : ∀ ps : List Nat, ps.Perm (List.range es.size) → (ps.map fun i => Value.int (i : Nat) 0).length ≤ sizeLine := fun ps hp => by
      rw [List.length_map, hp.length_eq, List.length_range]
      exact fits_of_scanBound S.few
    refine wpAny_bind (wpAny_draw es.size (List.range es.size) _ _ (List.length_range).symm fun ps d hp => wpAny_bind (wpAny_newTuple ?_ (hfit ps hp)))
    have S' : SetI prog w (s.heap.push (seqObj "tuple" (ps.map fun i => Value.int (i : Nat) 0).toArray 0)) a L o es ep t := S.kept (Heap.get?_push_of_some _ S.at')
    refine wpAny_bind (wpAny_setEpoch_of S'.at' S'.dat S'.fits ?_)
    have hq := hB hd ps d hp
    refine wpAny_bind (wpAny_newObj_type (wpAny_pure ⟨_, rfl, "set_iterator", _, ⟨_, Heap.get?_push_size _ rfl, rfl⟩, slot_si_next.lookup, ?_⟩))
    show Q (.ref (s.heap.push (seqObj "tuple" (ps.map fun i => Value.int (i : Nat) 0).toArray 0)).objs.size) _
    rw [size_push']
    exact hq
def IsIt (h : Heap) (I : Addr) (f : Value) (i : Nat) (a : Addr) (n ep : Nat) : Prop := h.get? I = some (itO f i a n ep)
theorem IsIt.typeIs {I : Addr} {f : Value} {i n ep : Nat} (h : IsIt s.heap I f i a n ep) : s.TypeIs (.ref I) "set_iterator" := ⟨_, h, rfl⟩
/-- what is found next, by the table -/
theorem wpAny_nextA {I : Addr} {sl i : Nat} {Q : Option Value → Shared → Prop} (hit : IsIt s.heap I (.int sl 0) i a es.size ep) (S : SetI prog w s.heap a L o es ep t) {x : Value} {nx : Nat}
    (hn : ∀ (A : Around) (E : Value → Shared → Prop) (R : Option (Value × Nat) → Shared → Prop), R (some (x, nx)) s → wpAny (model prog w) A (setNext a sl i ep) R E s)
    (h : ∀ h', IsIt h' I (.int nx 0) (i + 1) a es.size ep → Heap.SameBut I s.heap h' → Q (some x) { s with heap := h' }) : wpAny (model prog w) A (pyNext (.ref I)) Q E s := by
  unfold pyNext
  refine wpAny_bind (wpAny_attempt (wpAny_callSpecial?_slot (name := Str.ofString "__next__") hit.typeIs slot_si_next (wpAny_call_entry slot_si_next hit.typeIs entry_si_next ?_ (args_si_next _))))
  unfold Builtin.«set_iterator.__next__»
  refine wpAny_bind (wpAny_pure (wpAny_bind (wpAny_fieldsOf hit rfl ?_)))
  show wpAny _ _ (setEntries a >>= _) _ _ s
  refine wpAny_bind (wpAny_entries S ?_)
  rw [show (((es.size : Nat) : Int) != ((es.size : Nat) : Int)) = false by simp]
  simp only [Bool.false_eq_true, if_false, Int.toNat_natCast]
  refine wpAny_bind (hn _ _ _ ?_)
  dsimp only
  refine wpAny_bind (wpAny_setField_rec hit (by simp) fun h1 e1 sb1 => wpAny_bind (wpAny_setField_rec e1 (by simp) fun h2 e2 sb2 => wpAny_pure ⟨x, rfl, wpAny_pure (h h2 ?_ (sb1.trans sb2))⟩))
  unfold IsIt
  rw [e2]
  simp [itO, rawInt]
theorem stop_it {h0 : Heap} {Q : Option Value → Shared → Prop} (hh : A.handled = none) (hQ : ∀ h', (∀ b o, h0.get? b = some o → h'.get? b = some o) → Q none { s with heap := h' }) :
    wpAny (model prog w) A.in1 (do let x ← newExc (.type "StopIteration") []; raiseNew x) (fun (fin : Fin) s' => ∃ v, fin = .done (.ret v) ∧ wpAny (model prog w) A (pure (some v)) Q E s') (fun e s' => wpAny (model prog w) A (do
      let r ← isInstance e (.type "StopIteration")
      if r = true then pure none else throw e) Q E s') { s with heap := h0 } := by
  refine wpAny_bind ?_
  simp only [newExc, newTuple]
  refine wpAny_bind (wpAny_newObj_type ?_ (by size_fits))
  refine wpAny_bind (m := firstArgMember _ _) (wpAny_of_eq (a := Value.none) (by first | rfl | (simp only [firstArgMember]; rfl)) ?_); refine wpAny_newObj_type ?_ (by size_fits)
  simp only [raiseNew]; refine wpAny_bind (wpAny_handled ?_); rw [show A.in1.handled = none from hh]
  refine wpAny_bind (wpAny_pure (wpAny_throw ?_))
  refine wpAny_bind (wpAny_isInstance (T := "StopIteration") (b := true) ⟨_, Heap.get?_push_size _ rfl, rfl⟩ isSubtype_stop ?_)
  exact wpAny_pure (hQ _ fun b o e => Heap.get?_push_of_some _ (Heap.get?_push_of_some _ e))
theorem wpAny_endA {I : Addr} {sl i : Nat} {Q : Option Value → Shared → Prop} (hh : A.handled = none) (hit : IsIt s.heap I (.int sl 0) i a es.size ep) (S : SetI prog w s.heap a L o es ep t)
    (hn : ∀ (A : Around) (E : Value → Shared → Prop) (R : Option (Value × Nat) → Shared → Prop), R none s → wpAny (model prog w) A (setNext a sl i ep) R E s)
    (h : ∀ h', Heap.ExtBut I s.heap h' → Q none { s with heap := h' }) : wpAny (model prog w) A (pyNext (.ref I)) Q E s := by
  unfold pyNext
  refine wpAny_bind (wpAny_attempt (wpAny_callSpecial?_slot (name := Str.ofString "__next__") hit.typeIs slot_si_next (wpAny_call_entry slot_si_next hit.typeIs entry_si_next ?_ (args_si_next _))))
  unfold Builtin.«set_iterator.__next__»
  refine wpAny_bind (wpAny_pure (wpAny_bind (wpAny_fieldsOf hit rfl ?_)))
  show wpAny _ _ (setEntries a >>= _) _ _ s
  refine wpAny_bind (wpAny_entries S ?_)
  rw [show (((es.size : Nat) : Int) != ((es.size : Nat) : Int)) = false by simp]
  simp only [Bool.false_eq_true, if_false, Int.toNat_natCast]
  refine wpAny_bind (hn _ _ _ ?_)
  dsimp only
  refine wpAny_bind (wpAny_setField_rec hit (by simp) fun h1 e1 sb1 => ?_)
  exact stop_it hh fun h' hk => h h' fun b o hb e => hk b o (sb1.extBut b o hb e)
/-- .. by the places that were drawn -/
theorem wpAny_nextB {I T : Addr} {i p : Nat} {ps : List Nat} {Q : Option Value → Shared → Prop} (hit : IsIt s.heap I (.ref T) i a es.size ep) (S : SetI prog w s.heap a L o es ep t)
    (hT : s.heap.get? T = some (seqObj "tuple" (ps.map fun i => Value.int (i : Nat) 0).toArray 0)) (hp : ps[i]? = some p) {e : Int × Value} (he : es[p]? = some e)
    (h : ∀ h', IsIt h' I (.ref T) (i + 1) a es.size ep → Heap.SameBut I s.heap h' → Q (some e.2) { s with heap := h' }) : wpAny (model prog w) A (pyNext (.ref I)) Q E s := by
  unfold pyNext
  refine wpAny_bind (wpAny_attempt (wpAny_callSpecial?_slot (name := Str.ofString "__next__") hit.typeIs slot_si_next (wpAny_call_entry slot_si_next hit.typeIs entry_si_next ?_ (args_si_next _))))
  unfold Builtin.«set_iterator.__next__»
  refine wpAny_bind (wpAny_pure (wpAny_bind (wpAny_fieldsOf hit rfl ?_)))
  show wpAny _ _ (setEntries a >>= _) _ _ s
  refine wpAny_bind (wpAny_entries S ?_)
  rw [show (((es.size : Nat) : Int) != ((es.size : Nat) : Int)) = false by simp]
  simp only [Bool.false_eq_true, if_false, Int.toNat_natCast]
  refine wpAny_bind (wpAny_seqItems hT rfl ?_)
  have e0 : (ps.map fun i => Value.int (i : Nat) 0).toArray[i]? = some (.int (p : Nat) 0) := by simp [hp]
  dsimp only
  rw [e0]
  dsimp only
  refine wpAny_bind ?_
  unfold setNextDrawn
  refine wpAny_bind (wpAny_setState_of S.at' S.dat S.fits ?_)
  dsimp only
  rw [show (ep != ep) = false by simp]
  simp only [Bool.false_eq_true, if_false, Int.toNat_natCast, he]
  refine wpAny_pure (wpAny_bind (wpAny_setField_rec hit (by simp) fun h1 e1 sb1 => wpAny_pure ⟨_, rfl, wpAny_pure (h h1 ?_ sb1)⟩))
  unfold IsIt
  rw [e1]
  simp [itO, rawInt]
theorem wpAny_endB {I T : Addr} {i : Nat} {ps : List Nat} {Q : Option Value → Shared → Prop} (hh : A.handled = none) (hit : IsIt s.heap I (.ref T) i a es.size ep) (S : SetI prog w s.heap a L o es ep t)
    (hT : s.heap.get? T = some (seqObj "tuple" (ps.map fun i => Value.int (i : Nat) 0).toArray 0)) (hp : ps[i]? = none)
    (h : ∀ h', Heap.ExtBut I s.heap h' → Q none { s with heap := h' }) : wpAny (model prog w) A (pyNext (.ref I)) Q E s := by
  unfold pyNext
  refine wpAny_bind (wpAny_attempt (wpAny_callSpecial?_slot (name := Str.ofString "__next__") hit.typeIs slot_si_next (wpAny_call_entry slot_si_next hit.typeIs entry_si_next ?_ (args_si_next _))))
  unfold Builtin.«set_iterator.__next__»
  refine wpAny_bind (wpAny_pure (wpAny_bind (wpAny_fieldsOf hit rfl ?_)))
  show wpAny _ _ (setEntries a >>= _) _ _ s
  refine wpAny_bind (wpAny_entries S ?_)
  rw [show (((es.size : Nat) : Int) != ((es.size : Nat) : Int)) = false by simp]
  simp only [Bool.false_eq_true, if_false, Int.toNat_natCast]
  refine wpAny_bind (wpAny_seqItems hT rfl ?_)
  have e0 : (ps.map fun i => Value.int (i : Nat) 0).toArray[i]? = none := by simp [hp]
  dsimp only
  rw [e0]
  dsimp only
  refine wpAny_bind (wpAny_setField_rec hit (by simp) fun h1 e1 sb1 => wpAny_bind (wpAny_setField_rec e1 (by simp) fun h2 e2 sb2 => ?_))
  exact stop_it hh fun h' hk => h h' fun b o hb e => hk b o ((sb1.trans sb2).extBut b o hb e)
end
end L2

end
section
set_option Elab.async false
set_option linter.all false
set_option maxRecDepth 100000
namespace L2
open PySem PyProof.Rows

section
variable {prog : Program} {w : World} {A : Around} {E : Value → Shared → Prop} {s : Shared} {a : Addr} {L : Bool} {o : Obj} {es : Array (Int × Value)} {ep : Nat} {t : SetTable}
theorem wpAny_walkText (S : SetI prog w s.heap a L o es ep t) (hl : ledOf w = false) {Q : Array (Int × Value) → Shared → Prop} (h : Q (pickOrder (w.params.setOrder a ep) es) s) : wpAny (model prog w) A (setWalk a) Q E s := by
  unfold setWalk
  refine wpAny_bind (wpAny_setState_of S.at' S.dat S.fits ?_)
  dsimp only
  refine wpAny_bind (wpAny_byText ?_)
  rw [hl]
  simp only [Bool.not_false, if_true]
  exact wpAny_bind (wpAny_askSetting (wpAny_pure h))
theorem wpAny_nextText (S : SetI prog w s.heap a L o es ep t) (hl : ledOf w = false) {sl i : Nat} {R : Option (Value × Nat) → Shared → Prop} (h : R (((pickOrder (w.params.setOrder a ep) es)[i]?).map fun e => (e.2, sl)) s) : wpAny (model prog w) A (setNext a sl i ep) R E s := by
  unfold setNext
  refine wpAny_bind (wpAny_setState_of S.at' S.dat S.fits ?_)
  dsimp only
  refine wpAny_bind (wpAny_byText ?_)
  rw [hl]
  simp only [Bool.not_false, if_true, bne_self_eq_false, Bool.false_eq_true, if_false]
  exact wpAny_bind (wpAny_walkText S hl (wpAny_pure h))
theorem wpAny_nextLed (S : SetI prog w s.heap a L o es ep t) (hl : ledOf w = true) (hL : L = ledOf w) (hd : drw es t = false) {sl i : Nat} {R : Option (Value × Nat) → Shared → Prop}
    (h : R (match es[SetTable.below t.place sl]?, t.place[SetTable.below t.place sl]? with
      | some (_, x), some j => some (x, j + 1)
      | _, _ => none) s) : wpAny (model prog w) A (setNext a sl i ep) R E s := by
  unfold setNext
  refine wpAny_bind (wpAny_setState_of S.at' S.dat S.fits ?_)
  dsimp only
  refine wpAny_bind (wpAny_byText ?_)
  rw [hl]
  simp only [Bool.not_true, Bool.false_eq_true, if_false]
  have hd' : (!t.plain && decide (es.size > 1)) = false := hd
  have hled : t.led = true := S.tab.led.trans (hL.trans hl)
  refine wpAny_ite_split (fun hab => absurd (show drw es t = true from hab) (by rw [hd]; decide)) fun _ => ?_
  refine wpAny_bind (wpAny_of_eq (a := ()) ?_ (wpAny_pure h))
  show (if (!t.led && !es.isEmpty) = true then _ else pure ()) = pure ()
  rw [hled]
  rfl
/-! ### the three walks -/
theorem it_self {I : Addr} {f : Value} {i n ep : Nat} {Q : Value → Shared → Prop} (hit : IsIt s.heap I f i a n ep) (h : Q (.ref I) s) : wpAny (model prog w) A (pyIter (.ref I)) Q E s := by
  refine wpAny_pyIter_slot hit.typeIs slot_si_iter (wpAny_call_entry slot_si_iter hit.typeIs entry_si_iter ?_ (args_si_iter _))
  show wpAny _ _ (ret (.ref I)) _ _ s
  exact wpAny_pure ⟨_, rfl, "set_iterator", _, hit.typeIs, slot_si_next.lookup, h⟩
def slotAt (t : SetTable) (i : Nat) : Nat := if i = 0 then 0 else t.place.getD (i - 1) 0 + 1
theorem below_slotAt {t : SetTable} (T : PlOk L t) {i : Nat} (h : i ≤ t.place.size) : SetTable.below t.place (slotAt t i) = i := by
  unfold slotAt
  split
  · rename_i e; subst e; exact below_zero T.rise
  · rename_i e
    have hi : i - 1 < t.place.size := by omega
    have : t.place.getD (i - 1) 0 = t.place[i - 1] := by simp [Array.getD, hi]
    rw [this, below_next T.rise hi]
    omega
theorem SetI.places (S : SetI prog w s.heap a L o es ep t) : t.place.size = es.size := by
  have := S.fits
  simp only [SetTable.fits, Bool.and_eq_true, beq_iff_eq] at this
  exact this.1
def StA (prog : Program) (w : World) (I a : Addr) (L : Bool) (o : Obj) (es : Array (Int × Value)) (ep : Nat) (t : SetTable) (sl : Nat → Nat) (i : Nat) (s : Shared) : Prop := IsIt s.heap I (.int (sl i : Nat) 0) i a es.size ep ∧ SetI prog w s.heap a L o es ep t
theorem walkA {I : Addr} (hne : a ≠ I) (hh : A.handled = none) (sl : Nat → Nat) (ord : Nat → Option Value)
    (hin : ∀ i (s : Shared), i < es.size → SetI prog w s.heap a L o es ep t → ∃ x, ord i = some x ∧ ∀ (A : Around) (E : Value → Shared → Prop) (R : Option (Value × Nat) → Shared → Prop), R (some (x, sl (i + 1))) s → wpAny (model prog w) A (setNext a (sl i) i ep) R E s)
    (hend : ∀ (s : Shared), SetI prog w s.heap a L o es ep t → ∀ (A : Around) (E : Value → Shared → Prop) (R : Option (Value × Nat) → Shared → Prop), R none s → wpAny (model prog w) A (setNext a (sl es.size) es.size ep) R E s) :
    WalksS prog w A I [I, a] [I] (fun x y => y = x) es.size (fun i v => ord i = some v) (StA prog w I a L o es ep t sl) where
  sub := fun b hb => by simp at hb; simp [hb]
  grefl := fun _ => rfl
  gtrans := fun a b c h1 h2 => h2.trans h1
  frame := fun i s h' tk st _ hk => ⟨hk I (by simp) _ st.1, st.2.kept (hk a (by simp) _ st.2.at')⟩
  item := fun i s Q E hi st hQ => by
    obtain ⟨x, ex, hn⟩ := hin i s hi st.2
    refine wpAny_nextA st.1 st.2 (fun A E R h => hn A E R h) fun h' hit' sb => ?_
    exact hQ x _ ex ⟨hit', st.2.kept (sb.extBut a _ hne st.2.at')⟩ ⟨fun b o hb e => sb.extBut b o (fun h => hb (by simp [h])) e, rfl, rfl, rfl, Nat.le_refl _⟩
  done := fun s Q E st hQ => wpAny_endA hh st.1 st.2 (hend s st.2) fun h' he => hQ _ ⟨fun b o hb e => he b o (fun h => hb (by simp [h])) e, rfl, rfl, rfl, Nat.le_refl _⟩
  self := fun i s Q E st hQ => it_self st.1 hQ
def StB (prog : Program) (w : World) (I T a : Addr) (L : Bool) (o : Obj) (es : Array (Int × Value)) (ep : Nat) (t : SetTable) (ps : List Nat) (i : Nat) (s : Shared) : Prop := IsIt s.heap I (.ref T) i a es.size ep ∧ SetI prog w s.heap a L o es ep t ∧ s.heap.get? T = some (seqObj "tuple" (ps.map fun i => Value.int (i : Nat) 0).toArray 0)
theorem walkB {I T : Addr} (hne : a ≠ I) (hT : T ≠ I) (hh : A.handled = none) {ps : List Nat} (hp : ps.Perm (List.range es.size)) :
    WalksS prog w A I [I, a, T] [I] (fun x y => y = x) es.size (fun i v => (ps[i]?.bind fun p => es[p]?.map (·.2)) = some v) (StB prog w I T a L o es ep t ps) where
  sub := fun b hb => by simp at hb; simp [hb]
  grefl := fun _ => rfl
  gtrans := fun a b c h1 h2 => h2.trans h1
  frame := fun i s h' tk st _ hk => ⟨hk I (by simp) _ st.1, st.2.1.kept (hk a (by simp) _ st.2.1.at'), hk T (by simp) _ st.2.2⟩
  item := fun i s Q E hi st hQ => by
    have hl : ps.length = es.size := by rw [hp.length_eq, List.length_range]
    obtain ⟨p, h1, h2⟩ : ∃ p, ps[i]? = some p ∧ p < es.size := ⟨ps[i]'(by omega), List.getElem?_eq_getElem _, List.mem_range.mp (hp.mem_iff.mp (List.getElem_mem _))⟩
    have h3 : es[p]? = some es[p] := getElem?_pos es p h2
    refine wpAny_nextB st.1 st.2.1 st.2.2 h1 h3 fun h' hit' sb => ?_
    exact hQ _ _ (by rw [h1]; simp [h3]) ⟨hit', st.2.1.kept (sb.extBut a _ hne st.2.1.at'), sb.extBut T _ hT st.2.2⟩ ⟨fun b o hb e => sb.extBut b o (fun h => hb (by simp [h])) e, rfl, rfl, rfl, Nat.le_refl _⟩
  done := fun s Q E st hQ => wpAny_endB hh st.1 st.2.1 st.2.2 (by simp [hp.length_eq]) fun h' he => hQ _ ⟨fun b o hb e => he b o (fun h => hb (by simp [h])) e, rfl, rfl, rfl, Nat.le_refl _⟩
  self := fun i s Q E st hQ => it_self st.1 hQ
theorem hint_set {r : Addr} {Q : Bool → Shared → Prop} (hT : s.TypeIs (.ref r) "set") (h : Q false s) : wpAny (model prog w) A (Builtin.List.listLengthHint (.ref r)) Q E s := by
  unfold Builtin.List.listLengthHint
  refine wpAny_bind (wpAny_specialOf hT PySem.F.slot_set_len.lookup ?_)
  generalize hid : ("set.__len__" : String) = id0
  wp_delta
  rw [show splitId id0 = some ("set", "__len__") from by subst hid; decide +kernel]
  subst hid
  refine wpAny_bind (wpAny_isInstance (T := "set") (b := true) hT (by rw [isSubtype_type]; kernel_rfl) ?_)
  refine wpAny_ite_split (fun hab => absurd hab (by decide)) (fun _ => ?_)
  refine wpAny_ite_split (fun _ => ?_) (fun hab => absurd (by decide +kernel) hab)
  refine wpAny_bind (wpAny_typeOf hT ?_)
  exact wpAny_pure h
end
end L2

end
section
set_option Elab.async false
set_option linter.all false
set_option maxRecDepth 100000
namespace L2
open PySem PyProof.Rows

section
variable {prog : Program} {w : World} {A : Around} {E : Value → Shared → Prop} {s : Shared} {a : Addr} {L : Bool} {o : Obj} {es : Array (Int × Value)} {ep : Nat} {t : SetTable}
abbrev nilList : Obj := { cls := .type "list", data := .seq ([] : List Value).toArray }
theorem ext_tail {I Ls : Addr} {Qf : Fin → Shared → Prop} {E' : Value → Shared → Prop} (hS : s.heap.get? Ls = some nilList) (hT : s.TypeIs (.ref a) "set")
    (hR : ∀ h' c, (∀ b o, b ≠ Ls → s.heap.get? b = some o → h'.get? b = some o) → h'.get? Ls = some { cls := .type "list", dict := none, data := .seq #[] c, slots := #[] } → Qf (.again (.builtin "list.extend.loop" ⟨[.ref Ls, .ref I, .ref Ls], []⟩)) { s with heap := h' }) :
    wpAny (model prog w) A (do
      let room ← holding [.ref I] (Builtin.List.listLengthHint (.ref a))
      if (room || (["set", "frozenset", "dict", "dict_keys", "dict_values", "dict_items"] : List String).any (Value.type "set" == .type ·)) = true then do
        rule "list.extend.makes-room"
        Builtin.List.listTouch (.ref Ls)
        again (.builtin "list.extend.loop" ⟨[.ref Ls, .ref I, .ref Ls], []⟩)
      else again (.builtin "list.extend.loop" ⟨[.ref Ls, .ref I, .ref Ls], []⟩)) Qf E' s := by
  refine wpAny_bind (wpAny_holding (hint_set hT ?_))
  rw [if_pos (by decide)]
  refine wpAny_bind (wpAny_rule ?_)
  refine wpAny_bind ?_
  show wpAny _ A (updateSeq Ls (·.push .none) >>= fun _ => updateSeq Ls (·.pop)) _ _ _
  refine wpAny_bind (wpAny_updateSeq hS rfl ?_)
  have hS2 := Heap.get?_update_self (Obj.mapSeq (·.push Value.none)) hS rfl
  refine wpAny_updateSeq hS2 rfl ?_
  have hS3 := Heap.get?_update_self (Obj.mapSeq (·.pop)) hS2 rfl
  exact wpAny_pure (hR _ _ (fun b o hb e => (Heap.get?_update_other _ _ (Ne.symm hb)).trans ((Heap.get?_update_other _ _ (Ne.symm hb)).trans e)) hS3)
theorem loop_tail {I Ls : Addr} {fp : List Addr} {n : Nat} {P : Nat → Value → Prop} {St : Nat → Shared → Prop} {R : Result → Shared → Prop} (W : WalksS prog w A.in1 I fp [I] (fun x y => y = x) n P St) (hn : n ≤ sizeLine) (hLf : Ls ∉ fp) (hst : St 0 s) {h' : Heap} {c : Nat}
    (oth : ∀ b o, b ≠ Ls → s.heap.get? b = some o → h'.get? b = some o) (hS3 : h'.get? Ls = some { cls := .type "list", dict := none, data := .seq #[] c, slots := #[] })
    (hR : ∀ s' acc' c', Moved [Ls, I] (fun x y => y = x) s s' → s'.heap.get? Ls = some { cls := .type "list", dict := none, data := .seq acc' c', slots := #[] } → ItemsOf P acc' n → R (.ok (.ret (.ref Ls))) s') :
    Code.quiet (.builtin "list.extend.loop" ⟨[.ref Ls, .ref I, .ref Ls], []⟩) = true ∧ codeAny (model prog w) A (.builtin "list.extend.loop" ⟨[.ref Ls, .ref I, .ref Ls], []⟩) R { s with heap := h' } := by
  refine ⟨plainId_quiet F.plain_extend_loop _, codeAny_extend_loopS W hn _ hLf _ n 0 _ _ _ rfl (Nat.zero_le _) (W.frame 0 s _ s.toks hst (Nat.le_refl _) fun b hb o e => oth b o (fun h => hLf (h ▸ hb)) e) hS3 (ItemsOf.nil P) fun s' acc' c' hm hS' hacc => ?_⟩
  exact hR s' acc' c' (Moved.trans W.gtrans ((Moved.refl (wr := [Ls, I]) (G := fun x y => y = x) fun _ => rfl).then_heap (Nat.le_refl _) fun b o hb e => oth b o (fun h => hb (by rw [h]; exact List.mem_cons_self)) e) hm) hS' hacc
/-- what was gathered is what the set holds -/
theorem gath_perm {n : Nat} {P : Nat → Value → Prop} {acc : Array Value} {vs : List Value} (h : ItemsOf P acc n) (hn : vs.length = n) (hP : ∀ i v, P i v → vs[i]? = some v) : acc.toList = vs := by
  refine List.ext_getElem? fun i => ?_
  rw [Array.getElem?_toList]
  rcases Nat.lt_or_ge i n with hi | hi
  · have e : acc[i]? = some (acc[i]'(by rw [h.1]; exact hi)) := getElem?_pos acc i _
    rw [e, hP i _ (h.2 i _ e)]
  · have e1 : acc[i]? = none := getElem?_neg acc i (by rw [h.1]; omega)
    rw [e1, List.getElem?_eq_none (by omega)]
theorem wpAny_collectSet (hh : A.handled = none) (S : SetI prog w s.heap a L o es ep t) (hL : L = ledOf w) {Q : List Value → Shared → Prop}
    (h : ∀ s' vs, (∀ b o, s.heap.get? b = some o → s'.heap.get? b = some o) → s'.gens = s.gens → s'.os = s.os → vs.Perm (es.toList.map (·.2)) → Q vs s') : wpAny (model prog w) A (collect (.ref a)) Q E s := by
  unfold collect
  refine wpAny_bind (wpAny_runValue (codeAny_builtin F.entry_proto_collect ?_)); rw [Around.under_plainId F.plain_proto_collect _]
  show wpAny _ A.in1 (newList [] >>= fun l => again (.builtin "list.__iadd__" ⟨[l, .ref a], []⟩)) _ _ s
  refine wpAny_bind (wpAny_newObj_type (wpAny_pure ⟨plainId_quiet F.plain_list_iadd _, codeAny_builtin F.entry_list_iadd ?_⟩)); rw [Around.under_plainId F.plain_list_iadd _]
  have S1 : SetI prog w (s.heap.push nilList) a L o es ep t := S.kept (Heap.get?_push_of_some _ S.at')
  have hlt : a < s.heap.objs.size := Heap.lt_size S.at'
  show wpAny _ A.in1 (Builtin.List.listExtendWith (.ref s.heap.objs.size) (.ref a) (.ref s.heap.objs.size)) _ _ _
  unfold Builtin.List.listExtendWith
  have hT1 : Shared.TypeIs { s with heap := s.heap.push nilList } (.ref a) "set" := ⟨_, S1.at', S1.ex.1⟩
  refine wpAny_bind (wpAny_typeOf hT1 ?_)
  have h1 : Builtin.List.listSameRef (.ref s.heap.objs.size) (.ref a) = false := by simp [Builtin.List.listSameRef, Nat.ne_of_gt hlt]
  have h2 : (Value.type "set" == Value.type "list") = false := by decide
  have h3 : (Value.type "set" == Value.type "tuple") = false := by decide
  simp only [h1, h2, h3, Bool.or_false, Bool.false_eq_true, if_false]
  have hz : (s.heap.push nilList).objs.size = s.heap.objs.size + 1 := size_push' _ _
  have hfew : es.size ≤ sizeLine := fits_of_scanBound S.few
  have fin : ∀ (s2 : Shared) (I : Addr) (s' : Shared) (acc' : Array Value) (c' : Nat) (vs : List Value), s.heap.objs.size < I → (∀ b o, s.heap.get? b = some o → s2.heap.get? b = some o) → s2.gens = s.gens → s2.os = s.os → Moved [s.heap.objs.size, I] (fun x y => y = x) s2 s' →
      s'.heap.get? s.heap.objs.size = some { cls := .type "list", dict := none, data := .seq acc' c', slots := #[] } → acc'.toList = vs → vs.Perm (es.toList.map (·.2)) → wpAny (model prog w) A (do
        let o ← load s.heap.objs.size
        match o.data with
        | .seq xs _ => pure xs.toList
        | _ => unsupported "internal:collect") Q E s' := by
    intro s2 I s' acc' c' vs hI k2 g2 o2 hm hS' e hp
    refine wpAny_bind (wpAny_load hS' (wpAny_pure ?_))
    refine h s' _ (fun b o e' => hm.heap b o ?_ (k2 b o e')) (hm.gens.trans g2) (hm.os.trans o2) (e ▸ hp)
    have hb := Heap.lt_size e'
    simp only [List.mem_cons, List.mem_singleton, List.not_mem_nil, or_false, not_or]
    exact ⟨Nat.ne_of_lt hb, Nat.ne_of_lt (Nat.lt_trans hb hI)⟩
  refine wpAny_bind (wpAny_iterSet S1 (fun hd => ?_) fun hd ps d hp => ?_)
  · have hneI : a ≠ (s.heap.push nilList).objs.size := by rw [hz]; exact Nat.ne_of_lt (Nat.lt_succ_of_lt hlt)
    have hLf : s.heap.objs.size ∉ [(s.heap.push nilList).objs.size, a] := by
      rw [hz]; simp only [List.mem_cons, List.mem_singleton, List.not_mem_nil, or_false, not_or]
      exact ⟨by omega, Nat.ne_of_gt hlt⟩
    have S2 : SetI prog w ((s.heap.push nilList).push (itO (.int 0 0) 0 a es.size ep)) a L o es ep t := S1.kept (Heap.get?_push_of_some _ S1.at')
    have hS2 : ((s.heap.push nilList).push (itO (.int 0 0) 0 a es.size ep)).get? s.heap.objs.size = some nilList := Heap.get?_push_of_some _ (Heap.get?_push_size _ rfl)
    have hI2 : ((s.heap.push nilList).push (itO (.int 0 0) 0 a es.size ep)).get? (s.heap.push nilList).objs.size = some (itO (.int 0 0) 0 a es.size ep) := Heap.get?_push_size _ rfl
    have k2 : ∀ b o, s.heap.get? b = some o → ((s.heap.push nilList).push (itO (.int 0 0) 0 a es.size ep)).get? b = some o := fun b o e => Heap.get?_push_of_some _ (Heap.get?_push_of_some _ e)
    have hT2 : Shared.TypeIs { s with heap := (s.heap.push nilList).push (itO (.int 0 0) 0 a es.size ep) } (.ref a) "set" := ⟨_, S2.at', S2.ex.1⟩
    have hh1 : A.in1.handled = none := by simp [hh]
    cases hl : ledOf w with
    | false =>
      have pp := pick_perm (w.params.setOrder a ep) es
      have sp : (pickOrder (w.params.setOrder a ep) es).size = es.size := by have := pp.length_eq; simpa using this
      refine ext_tail hS2 hT2 fun h' c oth hS3 => loop_tail (A := A) (s := { s with heap := (s.heap.push nilList).push (itO (.int 0 0) 0 a es.size ep) }) (walkA (A := A.in1) (o := o) (t := t) (L := L) hneI hh1 (fun _ => 0) (fun i => ((pickOrder (w.params.setOrder a ep) es)[i]?).map (·.2)) (fun i s' hi S' => ?_) fun s' S' A' E' R hR => ?_) hfew hLf ⟨hI2, S2⟩ oth hS3 fun s' acc' c' hm hS' hacc => ?_
      · have hi' : i < (pickOrder (w.params.setOrder a ep) es).size := by omega
        refine ⟨((pickOrder (w.params.setOrder a ep) es)[i]'hi').2, by rw [getElem?_pos _ i hi']; rfl, fun A' E' R hR => wpAny_nextText S' hl ?_⟩
        rw [getElem?_pos _ i hi']
        exact hR
      · refine wpAny_nextText S' hl ?_
        rw [getElem?_neg _ es.size (by omega)]
        exact hR
      · refine fin { s with heap := (s.heap.push nilList).push (itO (.int 0 0) 0 a es.size ep) } (s.heap.push nilList).objs.size s' acc' c' ((pickOrder (w.params.setOrder a ep) es).toList.map (·.2)) (by rw [hz]; omega) k2 rfl rfl hm hS' (gath_perm hacc (by simp [sp]) fun i v hv => ?_) (pp.map _)
        rw [List.getElem?_map, Array.getElem?_toList]; exact hv
    | true =>
      have hd' : drw es t = false := by rw [hl] at hd; simpa using hd
      have sp := S.places
      refine ext_tail hS2 hT2 fun h' c oth hS3 => loop_tail (A := A) (s := { s with heap := (s.heap.push nilList).push (itO (.int 0 0) 0 a es.size ep) }) (walkA (A := A.in1) (o := o) (t := t) (L := L) hneI hh1 (slotAt t) (fun i => es[i]?.map (·.2)) (fun i s' hi S' => ?_) fun s' S' A' E' R hR => ?_) hfew hLf ⟨hI2, S2⟩ oth hS3 fun s' acc' c' hm hS' hacc => ?_
      · refine ⟨es[i].2, by rw [getElem?_pos es i hi]; rfl, fun A' E' R hR => wpAny_nextLed S' hl hL hd' ?_⟩
        have hip : i < t.place.size := by omega
        rw [below_slotAt S.tab (by omega), getElem?_pos es i hi, getElem?_pos t.place i hip]
        have e1 : slotAt t (i + 1) = t.place[i] + 1 := by unfold slotAt; rw [if_neg (by omega)]; simp [Array.getD, hip]
        rw [e1] at hR
        exact hR
      · refine wpAny_nextLed S' hl hL hd' ?_
        rw [below_slotAt S.tab (by omega), getElem?_neg es es.size (by omega)]
        exact hR
      · refine fin { s with heap := (s.heap.push nilList).push (itO (.int 0 0) 0 a es.size ep) } (s.heap.push nilList).objs.size s' acc' c' (es.toList.map (·.2)) (by rw [hz]; omega) k2 rfl rfl hm hS' (gath_perm hacc (by simp) fun i v hv => ?_) .rfl
        rw [List.getElem?_map, Array.getElem?_toList]; exact hv
  · generalize hTo : seqObj "tuple" (ps.map fun i => Value.int (i : Nat) 0).toArray 0 = To
    have hneI : a ≠ (s.heap.push nilList).objs.size + 1 := by rw [hz]; exact Nat.ne_of_lt (Nat.lt_succ_of_lt (Nat.lt_succ_of_lt hlt))
    have hLf : s.heap.objs.size ∉ [(s.heap.push nilList).objs.size + 1, a, (s.heap.push nilList).objs.size] := by
      rw [hz]; simp only [List.mem_cons, List.mem_singleton, List.not_mem_nil, or_false, not_or]
      exact ⟨by omega, Nat.ne_of_gt hlt, by omega⟩
    have k2 : ∀ b o, (s.heap.push nilList).get? b = some o → (((s.heap.push nilList).push To).push (itO (.ref (s.heap.push nilList).objs.size) 0 a es.size ep)).get? b = some o := fun b o e => Heap.get?_push_of_some _ (Heap.get?_push_of_some _ e)
    have S2 := S1.kept (k2 _ _ S1.at')
    have hS2 := k2 _ _ (Heap.get?_push_size s.heap (o := nilList) rfl)
    have hI2 : (((s.heap.push nilList).push To).push (itO (.ref (s.heap.push nilList).objs.size) 0 a es.size ep)).get? ((s.heap.push nilList).objs.size + 1) = some (itO (.ref (s.heap.push nilList).objs.size) 0 a es.size ep) := by
      rw [← size_push' (s.heap.push nilList) To]; exact Heap.get?_push_size _ rfl
    have hT3 : (((s.heap.push nilList).push To).push (itO (.ref (s.heap.push nilList).objs.size) 0 a es.size ep)).get? (s.heap.push nilList).objs.size = some To := Heap.get?_push_of_some _ (Heap.get?_push_size _ (by rw [← hTo]; rfl))
    have hh1 : A.in1.handled = none := by simp [hh]
    refine ext_tail hS2 ⟨_, S2.at', S2.ex.1⟩ fun h' c oth hS3 => loop_tail (A := A) (s := { s with heap := ((s.heap.push nilList).push To).push (itO (.ref (s.heap.push nilList).objs.size) 0 a es.size ep), drawn := d }) (walkB (A := A.in1) (o := o) (t := t) (L := L) hneI (Nat.ne_of_lt (Nat.lt_succ_self _)) hh1 hp) hfew hLf ⟨hI2, S2, by rw [hTo]; exact hT3⟩ oth hS3 fun s' acc' c' hm hS' hacc => ?_
    have pp : (ps.filterMap fun p => es[p]?.map (·.2)).Perm (es.toList.map (·.2)) := by
      refine (hp.filterMap _).trans ?_
      have e := PySem.filterMap_getElem?_range es
      have e2 : ((List.range es.size).filterMap fun i => es[i]?).map (·.2) = es.toList.map (·.2) := by rw [e]
      rw [List.map_filterMap] at e2
      rw [e2]
    have allin : ∀ p ∈ ps, p < es.size := fun p h => List.mem_range.mp (hp.mem_iff.mp h)
    have em : (ps.filterMap fun p => es[p]?.map (·.2)) = ps.map fun p => (es.getD p (0, .none)).2 := by
      clear hp hm hS' hacc hT3 hI2 hS2 S2 k2 hTo pp
      induction ps with
      | nil => rfl
      | cons q r ih =>
        have hq := allin q List.mem_cons_self
        rw [List.filterMap_cons_some (b := es[q].2) (by rw [getElem?_pos es q hq]; rfl), ih fun p h => allin p (List.mem_cons_of_mem _ h), List.map_cons]
        simp [Array.getD, hq]
    refine fin { s with heap := ((s.heap.push nilList).push To).push (itO (.ref (s.heap.push nilList).objs.size) 0 a es.size ep), drawn := d } ((s.heap.push nilList).objs.size + 1) s' acc' c' (ps.filterMap fun p => es[p]?.map (·.2)) (by rw [hz]; omega) (fun b o e => k2 b o (Heap.get?_push_of_some _ e)) rfl rfl hm hS' (gath_perm hacc (by rw [em, List.length_map, hp.length_eq, List.length_range]) fun i v hv => ?_) pp
    rw [em, List.getElem?_map]
    cases hpi : ps[i]? with
    | none => rw [hpi] at hv; simp at hv
    | some p =>
      rw [hpi] at hv
      have hq := allin p (List.mem_of_getElem? hpi)
      simp only [Option.bind_some, getElem?_pos es p hq, Option.map_some] at hv
      simp [Array.getD, hq, ← hv]
end
end L2

end
section
set_option Elab.async false
set_option linter.all false
set_option maxRecDepth 100000
namespace L2
open PySem PyProof.Rows

section
variable {prog : Program} {w : World} {A : Around} {E : Value → Shared → Prop} {s : Shared}
@[reducible] def intCmp : TM.Cmp where
  kn p := numOf p.1
  isI p := ∃ n t, p.1 = .int n t
  lt := by
    rintro prog w A E s ⟨_, p⟩ ⟨_, q⟩ Q ⟨x, t, rfl⟩ ⟨y, u, rfl⟩ h
    exact oneLt_int h
theorem pairs_kn {vs : List Value} {ns : List Int} (hI : IntsAre vs ns) : (pairsOf vs).toList.map (fun p => numOf p.1) = ns := by
  rw [pairsOf_toList]
  have : (vs.zip vs).map (fun p => numOf p.1) = ((vs.zip vs).map Prod.fst).map numOf := by rw [List.map_map]; rfl
  rw [this, List.map_fst_zip (Nat.le_refl _), hI.nums]
theorem K_int (xs : Array Keyed) (i : Nat) : @TM.K intCmp xs i = PyProof.Rows.K xs i := by
  unfold TM.K PyProof.Rows.K
  cases xs[i]? <;> rfl
theorem sort64 {a : Addr} {vs : List Value} {ns : List Int} {n : Nat} {P : Fin → Shared → Prop} (ho : s.heap.get? a = some (seqObj "list" vs.toArray n)) (hI : IntsAre vs ns) (hnd : ns.Nodup) (h64 : vs.length ≤ 64)
    (h : ∀ (out : Array Value) (ns' : List Int), IntsAre out.toList ns' → ns'.Perm ns → ns'.Pairwise (· ≤ ·) → P (.done (.ret .none)) { s with heap := sortedHeap s.heap a vs out }) :
    wpAny (model prog w) A (Builtin.«list.sort» ⟨[.ref a], []⟩) P E s := by
  rcases Nat.lt_or_ge vs.length 64 with hlt | hge
  · exact list_sort_tree ho hI hlt h
  letI C : TM.Cmp := intCmp
  have e64 : vs.length = 64 := by omega
  rw [list_sort_plain]
  have ha : a < s.heap.objs.size := Heap.lt_size ho
  refine wpAny_bind (listItems_at ho rfl (wpAny_bind (listUpdate_at ho rfl ?_ (by simp only [List.size_toArray]; have := sizeLine_eq; omega))))
  obtain ⟨e1, ho1⟩ : ∃ e1, (s.heap.update a (Obj.mapSeq fun _ => #[])).get? a = some (seqObj "list" #[] e1) := ⟨_, get?_update_seq ho (fun _ => #[])⟩
  refine wpAny_bind (seqEpoch_at ho1 rfl (wpAny_bind (wpAny_newTuple (wpAny_bind (wpAny_newList (wpAny_holding ?_))) (by have := sizeLine_eq; simp only [List.toList_toArray]; omega))))
  have ho6 : (((s.heap.update a (Obj.mapSeq fun _ => #[])).push (seqObj "tuple" vs.toArray 0)).push (seqObj "list" #[] 0)).get? a = some (seqObj "list" #[] e1) := Heap.get?_push_of_some _ (Heap.get?_push_of_some _ ho1)
  show wpAny (model prog w) A _ P E { s with heap := ((s.heap.update a (Obj.mapSeq fun _ => #[])).push (seqObj "tuple" vs.toArray 0)).push (seqObj "list" #[] 0) }
  dsimp only
  have h2 : ¬vs.toArray.size < 2 := by simp; omega
  rw [if_neg h2, if_neg h2]
  obtain ⟨v₁, v₂, rest, rfl⟩ : ∃ v₁ v₂ rest, vs = v₁ :: v₂ :: rest := by
    match vs, e64 with
    | [], e => simp at e
    | [_], e => simp at e
    | v₁ :: v₂ :: rest, _ => exact ⟨v₁, v₂, rest, rfl⟩
  rw [keyKind_ints hI]
  refine wpAny_bind (wpAny_pure ?_)
  have hD : TM.DK (pairsOf (v₁ :: v₂ :: rest)) := by unfold TM.DK; rw [show (pairsOf (v₁ :: v₂ :: rest)).toList.map TM.kn = ns from pairs_kn hI]; exact hnd
  refine wpAny_bind (wpAny_mono (TM.wpS_sortAll (a₀ := pairsOf (v₁ :: v₂ :: rest)) (st := SortSt.mk' oneType' (pairsOf (v₁ :: v₂ :: rest)) #[] 7 none) (Q := fun _ st' => (arrOf st').Perm (pairsOf (v₁ :: v₂ :: rest)) ∧ failedOf st' = none ∧ TM.SortedTo (arrOf st') (pairsOf (v₁ :: v₂ :: rest)).size)
    ⟨Array.Perm.refl _, rfl, rfl, rfl⟩ hI.intKeys hD (by rw [pairsOf_size]; omega) fun st' a1 a2 a3 => ⟨a1, a2, a3⟩) ?_ fun _ _ e => e)
  rintro ⟨⟨⟩, st'⟩ s' ⟨rfl, hp, hf, hs⟩
  dsimp only
  refine wpAny_bind (seqEpoch_at ho6 rfl ?_)
  refine wpAny_bind (listUpdate_at ho6 rfl ?_ (hsz2 := by
    rw [Array.size_map, hp.size_eq, pairsOf_size]
    have := sizeLine_eq
    omega))
  rw [hf]
  simp only [bne_self_eq_false, Bool.false_eq_true, if_false]
  obtain ⟨ns', b1, b2, b3⟩ := sorted_out hI hp fun i j hij hj => by have := hs i j hij hj; rwa [K_int, K_int] at this
  exact wpAny_pure (h _ ns' b1 b2 b3)
theorem sortedSet_call {a : Addr} {ns : List Int} {Q : Value → Shared → Prop} (hh : A.handled = none) (hS : SetN prog w s.heap a (ledOf w) ns) (h64 : ns.length ≤ 64)
    (h : ∀ s' l out ns' e, (∀ b o, s.heap.get? b = some o → s'.heap.get? b = some o) → s'.gens = s.gens → s'.os = s.os → a < l → s'.heap.get? l = some (seqObj "list" out e) → IntsAre out.toList ns' → ns'.Perm ns → ns'.Pairwise (· ≤ ·) → Q (.ref l) s') :
    wpAny (model prog w) A (call (.builtin "sorted") [.ref a]) Q E s := by
  obtain ⟨o, es, ep, t, S, hm⟩ := hS
  refine Calls.call_function_entry kind_sorted plain_sorted entry_sorted (args_sorted1 _) ?_
  unfold Builtin.«sorted»
  refine wpAny_bind (m := checkCount "sorted" 1 1 _) (wpAny_pure ?_)
  refine wpAny_bind (wpAny_collectSet (by simp [hh]) S rfl fun s1 vs k1 g1 o1 pv => ?_)
  have hlen : es.size = ns.length := by have := hm.length_eq; simpa using this
  have hvl : vs.length = es.size := by rw [pv.length_eq]; simp
  have hI : IntsAre vs (vs.map numOf) := intsAre_map vs fun v hv => by
    obtain ⟨e, he, rfl⟩ := List.mem_map.mp (pv.mem_iff.mp hv)
    obtain ⟨n, tk, rfl⟩ := S.allI e he
    exact ⟨n, tk, rfl⟩
  have hpm : (vs.map numOf).Perm ns := (pv.map numOf).trans (by rw [List.map_map]; exact hm)
  have hnd : (vs.map numOf).Nodup := hpm.nodup_iff.mpr (hm.nodup_iff.mp S.nd)
  have hz : vs.length ≤ sizeLine := by have := sizeLine_eq; omega
  refine wpAny_bind (wpAny_newList ?_ hz)
  have hoL : (s1.heap.push (seqObj "list" vs.toArray 0)).get? s1.heap.objs.size = some (seqObj "list" vs.toArray 0) := Heap.get?_push_size _ rfl
  refine wpAny_bind (wpAny_holding (wpAny_call_entry slot_list_sort ⟨_, hoL, rfl⟩ entry_list_sort (sort64 hoL hI hnd (by omega) fun out ns' a1 a2 a3 => ⟨_, rfl, ?_⟩) (args_list_sort _)))
  obtain ⟨e, he⟩ := sortedHeap_at (out := out) hoL
  refine wpAny_pure ⟨_, rfl, h _ s1.heap.objs.size out ns' e (fun b o e' => ?_) g1 o1 ?_ he a1 (a2.trans hpm) a3⟩
  · have hb := Heap.lt_size (k1 b o e')
    rw [sortedHeap_old (Nat.ne_of_lt hb) (by rw [size_push']; exact Nat.lt_succ_of_lt hb)]
    exact Heap.get?_push_of_some _ (k1 b o e')
  · exact Heap.lt_size (k1 _ _ S.at')
end
end L2

end
section
set_option Elab.async false
set_option linter.all false
set_option maxRecDepth 100000
namespace L2
open PySem PySem.Spec PyProof.Rows

/-! ### sorted(set(xs)): xs numbers, at most 64 unlike ones -/
theorem ints_of_vals : ∀ {ns : List Int} {us : List Value}, Vals (ns.map V.int) us → IntsAre us ns
  | [], _, .nil => .nil
  | n :: r, _, .cons ⟨tk, h⟩ t => by subst h; exact .cons n tk (ints_of_vals t)
theorem vals_of_ints : ∀ {us : List Value} {ns : List Int}, IntsAre us ns → Vals (ns.map V.int) us
  | _, _, .nil => .nil
  | _, _, .cons n t h => .cons ⟨t, rfl⟩ (vals_of_ints h)
/-- each number once -/
def once (ns : List Int) : List Int := ns.foldl stp []
def tSortedSet (K : PySem.W.Frag) (t : TA) : TE := fun σ H Q => t σ H fun as H1 => ∃ a ns, as = [.ref a] ∧ SqL K H1 a (ns.map V.int) ∧ ns.length < 4000 ∧ (once ns).length ≤ 64 ∧ ∀ l (ms : List Int), H1 l = none → ms.Perm (once ns) → ms.Pairwise (· ≤ ·) → Q (.ref l) (upd H1 l (.lst (ms.map V.int)))
section
variable {X : Cx} {pins : List (Addr × Obj)} {σ : St} {H : Hp} {s : Shared}
theorem Inv.redrawn {d : Drawn} (I : Inv X pins σ H s) : Inv X pins σ H { s with drawn := d } := ⟨I.ok, I.os, I.bare, I.base, I.loc, I.cell, I.free, I.freeC, I.pin, I.hok, I.len⟩
variable {p p2 pos pos2 : Pos} {e : Expr} {t : TA}
theorem pe_sortedSet (hd : X.A.handled = none) (hs : X.mg "sorted" = none) (hs2 : X.mg "set" = none) (ha : PA X [e] t) (hg : Gl X "sorted" := by rfl) (hg2 : Gl X "set" := by rfl)
    (he : starEach [.Call (.Name "set" p2) [e] [] pos2] X.env = (false, eval (.Call (.Name "set" p2) [e] [] pos2) X.env) :: starEach [] X.env := by rfl) (hpl : (backTo pos (starEach [] X.env)).any (·.1) = false := by rfl)
    (he2 : starEach [e] X.env = (false, eval e X.env) :: starEach [] X.env := by rfl) (hpl2 : (backTo pos2 (starEach [] X.env)).any (·.1) = false := by rfl) :
    PE X (.Call (.Name "sorted" p) [.Call (.Name "set" p2) [e] [] pos2] [] pos) (tSortedSet X.K t) := by
  intro pins s σ H Q I h
  refine wpAny_Call_Name_kw (ld_blt I hg hs bt_sorted ?_)
  refine PyProof.Rows.callWith_builtin1 ?_ he hpl
  rw [he]
  show wpAny _ _ (spliced ((false, eval (.Call (.Name "set" p2) [e] [] pos2) X.env) :: backTo pos (starEach [] X.env))) _ _ s
  refine Calls.spliced_cons ?_
  refine wpAny_Call_Name_kw (ld_blt I hg2 hs2 bt_set ?_)
  refine PyProof.Rows.callWith_type1 (thn (ha pos2 pins s σ H _ I h) fun us s1 ⟨as, H1, I1, r1, a, ns, ea, ql, hn, h64, q⟩ => ?_) he2 hpl2
  subst ea
  obtain ⟨u, rfl, ru⟩ := vals1 r1
  cases ru
  obtain ⟨its, rv, ⟨o, n, ho, hc, _, hdt⟩, _⟩ := I1.list ql
  have hI := ints_of_vals rv
  have hlen : its.length = ns.length := by have := Vals.length rv; simpa using this.symm
  refine call_setL (items := its.toArray) (ns := ns) hd ⟨o, ho, hc, n, hdt⟩ (by simpa using hI) (by simp only [List.size_toArray]; unfold scanBound; omega) fun h2 tk S k2 => ?_
  refine Calls.spliced_nil ?_
  refine sortedSet_call hd S h64 fun s3 l out ms ec k3 g3 o3 fr hl3 hI3 hp3 hs3 => ?_
  have hz : (ms.map V.int).length ≤ sizeLine := by rw [List.length_map, hp3.length_eq]; have := sizeLine_eq; unfold once at h64; omega
  have hle : s1.heap.objs.size ≤ l := Nat.le_of_lt fr
  obtain ⟨h3, gg, dd, tt, oo⟩ := s3
  replace g3 : gg = s1.gens := g3
  replace o3 : oo = s1.os := o3
  subst g3 o3
  have I3 := (I1.laid (a := l) (o := .lst (ms.map V.int)) (h' := h3) (t' := tt) (fun b ob z => k3 b ob (k2 b ob (Heap.lt_size z) z)) hle ⟨hz, out.toList, ec, vals_of_ints hI3, hl3⟩).redrawn (d := dd)
  exact ⟨.ref l, _, I3, rfl, q l ms (I1.hok.fresh hle) hp3 hs3⟩
end
end L2

end
section
set_option Elab.async false
set_option linter.all false
set_option maxRecDepth 100000
namespace L2
open PySem PySem.Spec PyProof.Rows

/-! ### list(reversed(xs)) -/
section
variable {prog : Program} {w : World} {A : Around} {E : Value → Shared → Prop} {s : Shared} {R : Result → Shared → Prop} {I l : Addr} {items : Array Value}
end
section
variable {prog : Program} {w : World} {A : Around} {E : Value → Shared → Prop} {s : Shared} {I l : Addr} {items : Array Value}
end
section
variable {X : Cx} {p p2 pos pos2 : Pos} {e : Expr} {t : TA}
end
end L2

end
section
set_option Elab.async false
set_option linter.all false
set_option maxRecDepth 100000
set_option maxHeartbeats 2000000
namespace L2
open PySem PySem.Spec PyProof.Rows
/-! ### a def that may raise, by its name -/
structure OwnX (P : Program) (w : World) (K : PySem.W.Frag) (mg : Str → Option Value) (base : Heap) (k : Nat) (x : Str) (ps : List Str) (sp : Sp) : Prop where
  ex : ∃ f fd, FnOk P w K mg base (CX1 P w) k f fd ps sp ∧ mg x = some (.ref f) ∧ PySem.W.keepIn K (.ref f) = true ∧ Binds K fd ps []
theorem OwnX.mk' {P : Program} {w : World} {K : PySem.W.Frag} {mg : Str → Option Value} {base : Heap} {k : Nat} {x : Str} {ps : List Str} {sp : Sp} {f : Addr} {fd : FuncData} (G : FnOk P w K mg base (CX1 P w) k f fd ps sp) (hm : mg x = some (.ref f)) (hk : PySem.W.keepIn K (.ref f) = true) (hb : Binds K fd ps []) : OwnX P w K mg base k x ps sp := ⟨f, fd, G, hm, hk, hb⟩
section
variable {P : Program} {w : World} {K : PySem.W.Frag} {mg : Str → Option Value} {base : Heap}
end
section
variable {X : Cx} {k : Nat} {x : Str} {ps : List Str} {sp : Sp} {p pos : Pos} {e : Expr} {es : List Expr} {t : TA} {E : XK}
/-! ### at one frame: what may raise -/
end
/-! ### try: .. except R as n: .. -/
section
variable {X : Cx} {body : List Stmt} {b0 : Stmt} {suite : List Stmt} {x n : Str} {R : Addr} {i : Nat} {np hpos pos : Pos} {tb : XK → TS} {th : TS}
end
end L2

end
section
set_option Elab.async false
set_option linter.all false
set_option maxRecDepth 100000
set_option maxHeartbeats 2000000
namespace L2
open PySem PySem.Spec PyProof.Rows Builtin Builtin.ObjectAttr Builtin.Getset_descriptor
/-! ### isinstance(e, C), e an exception of an own class -/
structure ExcK (K : PySem.W.Frag) (C : Addr) : Prop where
  ga : PySem.W.findIn K (.ref C) "__getattribute__" = some (some (.builtin "BaseException.__getattribute__"))
  gn : PySem.W.findIn K (.ref C) "__getattr__" = some none
  cl : PySem.W.findIn K (.ref C) "__class__" = some (some (.builtin "object.__class__"))
  sg : PySem.W.specialIn K (.builtin "object.__class__") "__get__" = some (some (.builtin "getset_descriptor.__get__"))
  tk : PySem.W.takesIn K (.builtin "object.__class__") = some true
  mo : PySem.W.mroIn K C (.type "object") = some true
  mb : PySem.W.mroIn K C (.type "BaseException") = some true
section
variable {K : PySem.W.Frag} {a C : Addr}
theorem isExc.ty {M : Model} {h : Heap} (p : isExc a C h) : PySem.W.Looks M h (typeOf (.ref a)) (.ref C) := by
  obtain ⟨o, vs, h1, h2, _⟩ := p
  exact h2 ▸ (PySem.W.Looks.ld h1).andThen .now
theorem ExcK.cls (F : ExcK K C) : ∃ c d cd sl, K.lookup C = some ⟨c, d, .cls cd, sl⟩ := by
  have e := F.mo
  unfold PySem.W.mroIn at e
  obtain ⟨cd, h, _⟩ := Option.bind_eq_some_iff.mp e
  unfold PySem.W.clsIn at h
  split at h
  · rename_i lk; exact ⟨_, _, _, _, lk⟩
  · cases h
end
end L2

end
section
set_option Elab.async false
set_option linter.all false
set_option maxRecDepth 100000
set_option maxHeartbeats 4000000
namespace L2
open PySem PySem.Spec PyProof.Rows
/-! ### methods of an own class -/
structure OwnM (P : Program) (w : World) (K : PySem.W.Frag) (mg : Str → Option Value) (base : Heap) (CX : CXT) (k : Nat) (C : Addr) (m : Str) (ps : List Str) (sp : Sp) : Prop where
  ex : ∃ f fd, Meth K C m f ∧ FnOk P w K mg base CX k f fd ps sp ∧ Binds K fd ps []
theorem OwnM.mk' {P : Program} {w : World} {K : PySem.W.Frag} {mg : Str → Option Value} {base : Heap} {CX : CXT} {k : Nat} {C : Addr} {m : Str} {ps : List Str} {sp : Sp} {f : Addr} {fd : FuncData} (M : Meth K C m f) (G : FnOk P w K mg base CX k f fd ps sp) (hb : Binds K fd ps []) : OwnM P w K mg base CX k C m ps sp := ⟨f, fd, M, G, hb⟩
/-- the class, made with __init__ -/
structure OwnC (P : Program) (w : World) (K : PySem.W.Frag) (mg : Str → Option Value) (base : Heap) (k : Nat) (x : Str) (C : Addr) (ps : List Str) (sp : Sp) : Prop where
  ex : ∃ f fd, Mk K C f ∧ FnOk P w K mg base CX0 k f fd ps sp ∧ mg x = some (.ref C) ∧ Binds K fd ps []
theorem OwnC.mk' {P : Program} {w : World} {K : PySem.W.Frag} {mg : Str → Option Value} {base : Heap} {k : Nat} {x : Str} {C : Addr} {ps : List Str} {sp : Sp} {f : Addr} {fd : FuncData} (M : Mk K C f) (G : FnOk P w K mg base CX0 k f fd ps sp) (hm : mg x = some (.ref C)) (hb : Binds K fd ps []) : OwnC P w K mg base k x C ps sp := ⟨f, fd, M, G, hm, hb⟩
section
variable {X : Cx} {CX : CXT} {k : Nat} {x m : Str} {C : Addr} {ps : List Str} {sp : Sp} {p pos apos : Pos} {o e : Expr} {es : List Expr} {ta : TE} {t : TA} {E : XK} {pl : Sem Bool}
end
end L2

end
section
set_option Elab.async false
set_option linter.all false
set_option maxRecDepth 100000
set_option maxHeartbeats 4000000
namespace L2
open PySem PySem.Spec PyProof.Rows
/-! ### for x in reversed(xs) -/
def Itv (K : PySem.W.Frag) (a : Addr) (xs : List V) : It :=
  ⟨fun i H => SqL K H a xs ∧ i < xs.length, fun i H x H' => H' = H ∧ xs.reverse[i]? = some x, fun i _ => xs.length = i⟩
theorem turn_rev {P : Program} {w : World} {K : PySem.W.Frag} {tg : Expr} (a it : Addr) (xs : List V) : Turn P w K tg (Itv K a xs) [it] it (fun i h => h.IsRevIter it a ((xs.length : Int) - 1 - (i : Nat))) where
  mem := by simp
  obj := fun i h st b hb => by
    have e : b = it := by simpa using hb
    subst e
    obtain ⟨o, e, c, d⟩ := st
    exact ⟨o, e, fun v z => by rw [d] at z; cases z⟩
  keep := fun i h h' st k => st.at fun o e => k it (by simp) o e
  item := by
    intro X hP hw hK hc i pins s σ H E I hf st hg
    subst hP hw hK
    obtain ⟨hq, hi⟩ := hg
    obtain ⟨its, rv, p, hz⟩ := I.list hq
    have hj : xs.length - 1 - i < xs.length := by omega
    have hx : xs[xs.length - 1 - i]? = some xs[xs.length - 1 - i] := List.getElem?_eq_getElem hj
    obtain ⟨u, hu, ru⟩ := rv.get hx
    obtain ⟨f0, f1, f2, f3, f4, f5⟩ := hf it (by simp)
    have e : (xs.length : Int) - 1 - (i : Nat) = ((xs.length - 1 - i : Nat) : Int) := by omega
    rw [e] at st
    refine wpAny_pyNext_rev_item st p.isList (x := u) (by simpa using hu) fun h' st' sb => ?_
    have I1 : Inv X pins σ H { s with heap := h' } := I.turned (t' := s.toks) (fun b o hb e => (sb.2 b hb).trans e) f0 f1 f3 f4 f5
    have e2 : ((xs.length - 1 - i : Nat) : Int) - 1 = (xs.length : Int) - 1 - ((i + 1 : Nat) : Int) := by omega
    rw [e2] at st'
    obtain ⟨o, e3, c, d⟩ := id st'
    refine ⟨u, rfl, go_of (s := { s with heap := h' }) e3 c d (by decide) ⟨_, H, I1, ru, ⟨rfl, ?_⟩, st', fun b hb => (hf b hb).1⟩⟩
    rw [List.getElem?_reverse hi]; exact hx
  done := by
    intro X hP hw hK hc i pins s σ H E I hf st hg
    subst hP hw hK
    have hg : xs.length = i := hg
    obtain ⟨f0, f1, f2, f3, f4, f5⟩ := hf it (by simp)
    have e : (xs.length : Int) - 1 - (i : Nat) = -1 := by omega
    rw [e] at st
    exact wpAny_pyNext_rev_end (I.ok.hd hc) st fun h' eb => ⟨rfl, I.turned (t' := s.toks) (fun b o hb e => eb b o hb e) f0 f1 f3 f4 f5⟩
  self := fun _ _ _ _ _ st h => wpAny_pyIter_revIter st h
def iRev (K : PySem.W.Frag) (ta : TA) : TI := fun σ H R => ta σ H fun vs H1 => ∃ a xs, vs = [.ref a] ∧ SqL K H1 a xs ∧ R (Itv K a xs) H1
section
variable {X : Cx} {tg : Expr}
theorem pi_rev {a : Expr} {ta : TA} {p pos : Pos} (hg : Gl X "reversed") (hm : X.mg "reversed" = none) (ha : PA X [a] ta) (hs : starEach [a] X.env = [(false, eval a X.env)] := by rfl) : PI X tg (.Call (.Name "reversed" p) [a] [] pos) (iRev X.K ta) := by
  intro pins s σ H R I h
  refine Call_ (ld_blt I hg hm bt_reversed (PyProof.Rows.callWith_type1 (thn (ha pos pins s σ H _ I h) fun us s1 ⟨vs, H1, I1, r1, q1⟩ => ?_) hs rfl))
  obtain ⟨l, xs, e, hq, q⟩ := q1
  subst e
  obtain ⟨u, rfl, ru⟩ := vals1 r1
  cases ru
  obtain ⟨its, rv, p, hz⟩ := I1.list hq
  have hl : its.toArray.size = xs.length := by rw [List.size_toArray]; exact rv.length.symm
  refine call_reversed_list p.isList ?_
  have st : (s1.heap.push (revObj l ((its.toArray.size : Int) - 1))).IsRevIter s1.heap.objs.size l ((xs.length : Int) - 1 - ((0 : Nat) : Int)) := ⟨_, Heap.get?_push_size _ rfl, rfl, by rw [hl]; simp [revObj]⟩
  refine wpAny_pyIter_revIter (s := { s1 with heap := s1.heap.push (revObj l ((its.toArray.size : Int) - 1)) }) st ?_
  refine ⟨s1.heap.objs.size, [s1.heap.objs.size], _, _, H1, rfl, I1.kept (t' := s1.toks) fun b o e => Heap.get?_push_of_some _ e, turn_rev l _ xs, st, fun b hb => ?_, q⟩
  have e : b = s1.heap.objs.size := by simpa using hb
  subst e
  exact I1.fpOk (Nat.le_refl _) (I1.hok.fresh (Nat.le_refl _))
end
/-- a loop over reversed(xs): J says what holds when the items pre are done (pre a beginning of xs.reverse) -/
theorem tFor_rev {K : PySem.W.Frag} {σ : St} {H : Hp} {g : TG} {tb : TS} {D : Ends} {ta : TA} (a : Addr) (xs : List V) (J : List V → St → Hp → Prop) (ht : ∀ R : List V → Hp → Prop, R [.ref a] H → ta σ H R) (hs : SqL K H a xs) (h0 : J [] σ H)
    (keep : ∀ pre σ' H', J pre σ' H' → SqL K H' a xs)
    (body : ∀ pre x suf σ' H', xs.reverse = pre ++ x :: suf → J pre σ' H' → g x σ' H' fun σ2 H2 => tb { D with nx := J (pre ++ [x]), ct := J (pre ++ [x]), bk := D.nx } σ2 H2)
    (fin : ∀ σ' H', J xs.reverse σ' H' → D.nx σ' H') : tFor (iRev K ta) g tb D σ H := by
  refine ht _ ⟨a, xs, rfl, hs, ?_⟩
  refine ⟨fun i m σ' H' => m = xs.length - i ∧ i ≤ xs.length ∧ J (xs.reverse.take i) σ' H', ⟨xs.length, by simp [h0]⟩, ?_⟩
  rintro i m σ' H' ⟨rfl, hi, hJ⟩
  by_cases hlt : i < xs.length
  · refine .inr ⟨⟨keep _ _ _ hJ, hlt⟩, J (xs.reverse.take (i + 1)), fun σ2 H2 z => ⟨xs.length - (i + 1), by omega, rfl, hlt, z⟩, fun x H'' y => ?_⟩
    obtain ⟨e, y⟩ := y
    subst e
    have hl : i < xs.reverse.length := by rw [List.length_reverse]; exact hlt
    have ex : xs.reverse[i] = x := by rw [List.getElem?_eq_getElem hl] at y; exact Option.some.inj y
    have e1 : xs.reverse.take (i + 1) = xs.reverse.take i ++ [x] := by rw [List.take_succ_eq_append_getElem hl, ex]
    have e2 : xs.reverse = xs.reverse.take i ++ x :: xs.reverse.drop (i + 1) := by
      conv => lhs; rw [← List.take_append_drop i xs.reverse, List.drop_eq_getElem_cons hl, ex]
    rw [e1]
    exact body _ x _ σ' _ e2 hJ
  · have e : i = xs.length := by omega
    refine .inl ⟨e.symm, fin σ' H' ?_⟩
    rw [List.take_of_length_le (by rw [List.length_reverse]; omega)] at hJ
    exact hJ
end L2

end
section
set_option Elab.async false
set_option linter.all false
set_option maxRecDepth 100000
set_option maxHeartbeats 4000000
namespace L2
open PySem PySem.Spec PyProof.Rows
/-! ### more of texts: in, count, partition, index; a list's truth; a module's constants -/
def hasS (x y : Str) : Bool := !(Builtin.Str.occurrences x y 0 x.length 1).isEmpty
def rInS (neg : Bool) : R2 := fun x y H Q => match x, y with
  | .str a, .str b => Q (.bl (if neg then !hasS b a else hasS b a)) H
  | _, _ => False
section
variable {X : Cx}
theorem op_notInS : OpR X (compareOp .NotIn) (rInS true) := by
  intro pins s σ H x y v u Q I rx ry h
  unfold rInS at h
  split at h
  · obtain ⟨t, rfl⟩ := rx
    obtain ⟨t', rfl⟩ := ry
    exact notIn_str ⟨.bl _, H, I, rfl, h⟩
  · exact h.elim
/-- a list's truth -/
def tTruL (K : PySem.W.Frag) (t : TE) : TT := fun σ H Q => t σ H fun x H1 => ∃ a xs, x = .ref a ∧ SqL K H1 a xs ∧ Q (!xs.isEmpty) H1
theorem pt_lst {e : Expr} {t : TE} (h : PE X e t) (he : ∀ whole, isTrue e X.env whole = (do let v ← whole; standAt e.pos; holding [v] (truthy v)) := by intro _; rfl) : PT X e (tTruL X.K t) := by
  intro pins s σ H Q I hq
  refine isTrue_plain (thn (h pins s σ H _ I hq) fun u s1 ⟨x, H1, I1, rx, a, xs, ex, ql, q⟩ => ?_) (he _)
  subst ex
  obtain rfl : u = Value.ref a := rx
  obtain ⟨its, rv, ⟨o, n, ho, hc, _, hd⟩, hz⟩ := I1.list ql
  have lits : its.length = xs.length := (Vals.length rv).symm
  refine wpAny_truthy_list (items := its.toArray) ⟨o, ho, hc, n, hd⟩ (by rw [List.size_toArray, lits]; rw [sizeLine_eq] at hz; omega) ?_
  have e : its.toArray.isEmpty = xs.isEmpty := by
    rw [List.isEmpty_toArray]
    cases rv <;> rfl
  rw [e]
  exact ⟨H1, I1.tok _, q⟩
end
end L2

end
section
set_option Elab.async false
set_option linter.all false
set_option maxRecDepth 100000
namespace L2
/-! ### the addresses of k signs that a head begins: the first one's number, how many -/
def lo (k : Nat) (h : List Bool) : Int := val h * 2 ^ (k - h.length)
def wd (k : Nat) (h : List Bool) : Int := 2 ^ (k - h.length)
theorem wd_pos (k : Nat) (h : List Bool) : 0 < wd k h := pow_pos' _
theorem lo_snoc {k : Nat} {p : List Bool} {b : Bool} (hk : p.length + 1 ≤ k) :
    lo k p = val p * 2 * 2 ^ (k - (p.length + 1)) ∧ wd k p = 2 * 2 ^ (k - (p.length + 1)) ∧ lo k (p ++ [b]) = (val p * 2 + (if b then 1 else 0)) * 2 ^ (k - (p.length + 1)) ∧ wd k (p ++ [b]) = 2 ^ (k - (p.length + 1)) := by
  have e : k - p.length = (k - (p.length + 1)) + 1 := by omega
  have e2 : (2 : Int) ^ (k - p.length) = 2 * 2 ^ (k - (p.length + 1)) := by rw [e, Int.pow_succ, Int.mul_comm]
  refine ⟨?_, ?_, ?_, ?_⟩
  · unfold lo; rw [e2, Int.mul_assoc]
  · unfold wd; rw [e2]
  · unfold lo; rw [val_snoc, List.length_append, List.length_singleton]
  · unfold wd; rw [List.length_append, List.length_singleton]
/-- the widest head whose addresses begin at s and don't pass high -/
structure Wid (k : Nat) (high s : Int) (h : List Bool) : Prop where
  len : h.length ≤ k
  fst : lo k h = s
  top : s + wd k h - 1 ≤ high
  max : ∀ p, h = p ++ [false] → high < lo k p + wd k p - 1
/-- no stretch of a head within low and high has s strictly within it -/
def NoCut (low high s : Int) : Prop := ∀ (m : Nat) (c : Int), low ≤ c * 2 ^ m → (c + 1) * 2 ^ m - 1 ≤ high → ¬ (c * 2 ^ m < s ∧ s < (c + 1) * 2 ^ m)
theorem NoCut.first (low high : Int) : NoCut low high low := fun m c h1 _ h => by omega
theorem lt_of_mul {a b w : Int} (hw : 0 < w) (h : a * w < b * w) : a < b := Int.lt_of_mul_lt_mul_right h (Int.le_of_lt hw)
theorem NoCut.next {low high s : Int} {k : Nat} {h : List Bool} (n : NoCut low high s) (w : Wid k high s h) (hk : high < 2 ^ k) : NoCut low high (s + wd k h) := by
  intro m c h1 h2 ⟨h3, h4⟩
  have hj := pow_pos' (k - h.length)
  have hm := pow_pos' m
  have es : s = val h * 2 ^ (k - h.length) := w.fst.symm
  have ew : wd k h = 2 ^ (k - h.length) := rfl
  have e1 : s + wd k h = (val h + 1) * 2 ^ (k - h.length) := by rw [es, ew, Int.add_mul, Int.one_mul]
  rw [e1] at h3 h4
  by_cases hmj : m ≤ k - h.length
  · obtain ⟨d, hd⟩ := Nat.le.dest hmj
    have e2 : (2 : Int) ^ (k - h.length) = 2 ^ d * 2 ^ m := by rw [← hd, Int.pow_add, Int.mul_comm]
    rw [e2, ← Int.mul_assoc] at h3 h4
    have := lt_of_mul hm h3
    have := lt_of_mul hm h4
    omega
  · obtain ⟨d, hd⟩ := Nat.le.dest (Nat.le_of_lt (Nat.lt_of_not_le hmj))
    obtain ⟨d', rfl⟩ : ∃ d', d = d' + 1 := ⟨d - 1, by omega⟩
    have e2 : (2 : Int) ^ m = 2 ^ (d' + 1) * 2 ^ (k - h.length) := by rw [← hd, Int.pow_add, Int.mul_comm]
    have n1 := n m c h1 h2
    have e3 : c * 2 ^ m = c * 2 ^ (d' + 1) * 2 ^ (k - h.length) := by rw [e2, Int.mul_assoc]
    have e4 : (c + 1) * 2 ^ m = (c * 2 ^ (d' + 1) + 2 ^ (d' + 1)) * 2 ^ (k - h.length) := by rw [e2, ← Int.mul_assoc, Int.add_mul c 1, Int.one_mul]
    rw [es, e3, e4] at n1
    rw [e3] at h3
    rw [e4] at h4 h2
    have a1 := lt_of_mul hj h3
    have a2 := lt_of_mul hj h4
    have a3 : ¬ c * 2 ^ (d' + 1) < val h := fun z => n1 ⟨Int.mul_lt_mul_of_pos_right z hj, Int.mul_lt_mul_of_pos_right (by omega) hj⟩
    have a4 : val h = c * 2 ^ (d' + 1) := by omega
    have hd' := pow_pos' d'
    have a5 : (2 : Int) ^ (d' + 1) = 2 * 2 ^ d' := by rw [Int.pow_succ, Int.mul_comm]
    -- the stretch begins at s and is twice as wide at least
    have a6 : s + 2 * 2 ^ (k - h.length) - 1 ≤ high := by
      have : (c * 2 ^ (d' + 1) + 2 ^ (d' + 1)) * 2 ^ (k - h.length) = s + 2 ^ (d' + 1) * 2 ^ (k - h.length) := by rw [Int.add_mul, ← a4, ← es]
      rw [this] at h2
      have : 2 * 2 ^ (k - h.length) ≤ (2 : Int) ^ (d' + 1) * 2 ^ (k - h.length) := Int.mul_le_mul_of_nonneg_right (by omega) (Int.le_of_lt hj)
      omega
    rcases List.eq_nil_or_concat h with rfl | ⟨p, b, rfl⟩
    · simp only [List.length_nil, Nat.sub_zero] at *
      have : val [] = 0 := rfl
      rw [this, Int.zero_mul] at es
      omega
    · rw [List.concat_eq_append] at *
      have hl : p.length + 1 ≤ k := by have := w.len; simpa using this
      obtain ⟨l1, l2, l3, l4⟩ := lo_snoc (k := k) (p := p) (b := b) hl
      cases b with
      | false =>
        have := w.max p rfl
        have f := w.fst
        rw [l3] at f
        simp only [List.length_append, List.length_singleton] at a6
        rw [l1, l2] at this
        simp at f
        omega
      | true =>
        rw [val_snoc] at a4
        have : c * 2 ^ (d' + 1) = 2 * (c * 2 ^ d') := by rw [a5, ← Int.mul_assoc, Int.mul_comm c 2, Int.mul_assoc]
        rw [this] at a4
        simp at a4
        omega
/-- what a head of the span's heads must be -/
structure HeadAt (k : Nat) (low high s : Int) (h : List Bool) : Prop where
  len : h.length ≤ k
  fst : lo k h = s
  wide : ∀ p b, h = p ++ [b] → ¬ (low ≤ lo k p ∧ lo k p + wd k p - 1 ≤ high)
/-- the heads cover the numbers from s to below e -/
def Cov (k : Nat) (low high : Int) : Int → List (List Bool) → Int → Prop
  | s, [], e => s = e
  | s, h :: t, e => HeadAt k low high s h ∧ Cov k low high (s + wd k h) t e
theorem Cov.append {k : Nat} {low high : Int} : ∀ {s e : Int} {l r : List (List Bool)}, Cov k low high s (l ++ r) e ↔ ∃ m, Cov k low high s l m ∧ Cov k low high m r e
  | s, e, [], r => ⟨fun h => ⟨s, rfl, h⟩, fun ⟨m, h1, h2⟩ => by cases h1; exact h2⟩
  | s, e, h :: t, r => by
    show HeadAt k low high s h ∧ Cov k low high (s + wd k h) (t ++ r) e ↔ _
    rw [Cov.append (l := t)]
    exact ⟨fun ⟨a, m, b, c⟩ => ⟨m, ⟨a, b⟩, c⟩, fun ⟨m, ⟨a, b⟩, c⟩ => ⟨a, m, b, c⟩⟩
theorem Cov.snoc {k : Nat} {low high s e : Int} {l : List (List Bool)} {h : List Bool} (c : Cov k low high s l e) (a : HeadAt k low high e h) : Cov k low high s (l ++ [h]) (e + wd k h) := Cov.append.mpr ⟨e, c, a, rfl⟩
theorem Cov.inj {k : Nat} {low high : Int} : ∀ {s e e' : Int} {l : List (List Bool)}, Cov k low high s l e → Cov k low high s l e' → e = e'
  | s, e, e', [], h, h' => by cases h; cases h'; rfl
  | s, e, e', h :: t, a, b => Cov.inj a.2 b.2
end L2

end
section
set_option Elab.async false
set_option linter.all false
set_option maxRecDepth 100000
namespace L2
/-! ### a head begins an address: by numbers -/
theorem addr_add (a : Nat) : ∀ (b : Nat) (n : Int), addr (a + b) n = addr a (n / 2 ^ b) ++ addr b n
  | 0, n => by simp [addr]
  | b + 1, n => by
    show addr (a + b) (n / 2) ++ [decide (n % 2 = 1)] = addr a (n / 2 ^ (b + 1)) ++ (addr b (n / 2) ++ [decide (n % 2 = 1)])
    rw [addr_add a b (n / 2), List.append_assoc, Int.ediv_ediv_of_nonneg (by omega), Int.pow_succ, Int.mul_comm (2 ^ b) 2]
theorem addr_val : ∀ (h : List Bool), addr h.length (val h) = h := by
  intro h
  rcases List.eq_nil_or_concat h with rfl | ⟨p, b, rfl⟩
  · rfl
  · rw [List.concat_eq_append, List.length_append, List.length_singleton]
    show addr p.length (val (p ++ [b]) / 2) ++ [decide (val (p ++ [b]) % 2 = 1)] = p ++ [b]
    have e1 : val (p ++ [b]) / 2 = val p := by rw [val_snoc]; cases b <;> simp <;> omega
    have e2 : decide (val (p ++ [b]) % 2 = 1) = b := by rw [val_snoc]; cases b <;> simp <;> omega
    rw [e1, e2, addr_val p]
termination_by h => h.length
decreasing_by simp_all
theorem val_inj {a b : List Bool} (hl : a.length = b.length) (h : val a = val b) : a = b := by
  rw [← addr_val a, ← addr_val b, hl, h]
theorem begins_iff {k : Nat} {h : List Bool} {n : Int} (hk : h.length ≤ k) (h0 : 0 ≤ n) (h1 : n < 2 ^ k) : h.isPrefixOf (addr k n) = decide (lo k h ≤ n ∧ n < lo k h + wd k h) := by
  rw [Bool.eq_iff_iff, decide_eq_true_iff, List.isPrefixOf_iff_prefix, List.prefix_iff_eq_take]
  obtain ⟨b, hb⟩ := Nat.le.dest hk
  have hw := pow_pos' b
  have e : (addr k n).take h.length = addr h.length (n / 2 ^ b) := by
    rw [← hb, addr_add, List.take_append_of_le_length (by rw [addr_len]; exact Nat.le_refl _), List.take_of_length_le (by rw [addr_len]; exact Nat.le_refl _)]
  have eb : k - h.length = b := by omega
  have hv : val (addr h.length (n / 2 ^ b)) = n / 2 ^ b := by
    rw [val_addr]
    refine Int.emod_eq_of_lt (Int.ediv_nonneg h0 (Int.le_of_lt hw)) ?_
    refine Int.ediv_lt_of_lt_mul hw ?_
    rw [← Int.pow_add, hb]; exact h1
  rw [e]
  unfold lo wd
  rw [eb]
  constructor
  · intro z
    rw [← z] at hv
    have d := Int.mul_ediv_add_emod n (2 ^ b)
    have m0 := Int.emod_nonneg n (Int.ne_of_gt hw)
    have m1 := Int.emod_lt_of_pos n hw
    rw [← hv, Int.mul_comm] at d
    omega
  · intro ⟨z1, z2⟩
    refine val_inj (by rw [addr_len]) ?_
    rw [hv]
    have a1 : val h ≤ n / 2 ^ b := Int.le_ediv_of_mul_le hw z1
    have a2 : n / 2 ^ b < val h + 1 := Int.ediv_lt_of_lt_mul hw (by rw [Int.add_mul, Int.one_mul]; exact z2)
    omega
theorem lead_congr {rs : List Row} {a b : List Bool} (h : ∀ r ∈ rs, r.1.isPrefixOf a = r.1.isPrefixOf b) : lead rs a = lead rs b := by
  have : ∀ (l : List Row) (acc : Option Row), (∀ r ∈ l, r.1.isPrefixOf a = r.1.isPrefixOf b) → l.foldl (leadStep a) acc = l.foldl (leadStep b) acc := by
    intro l
    induction l with
    | nil => intro acc _; rfl
    | cons r l ih =>
      intro acc h
      have e : leadStep a acc r = leadStep b acc r := by unfold leadStep; rw [h r List.mem_cons_self]
      rw [List.foldl_cons, List.foldl_cons, e]
      exact ih _ fun r hr => h r (List.mem_cons_of_mem _ hr)
  exact this rs none h
/-- where a head's addresses begin, and where they are over -/
def cutsOf (k : Nat) (r : Row) : List Int := if lo k r.1 + wd k r.1 < 2 ^ k then [lo k r.1, lo k r.1 + wd k r.1] else [lo k r.1]
def cutsL (k : Nat) (rs : List Row) : List Int := 0 :: rs.flatMap (cutsOf k)
theorem cutsL_snoc (k : Nat) (rs : List Row) (r : Row) : cutsL k (rs ++ [r]) = cutsL k rs ++ cutsOf k r := by
  unfold cutsL; rw [List.flatMap_append]; simp
theorem cutsOf_len (k : Nat) (r : Row) : (cutsOf k r).length ≤ 2 := by unfold cutsOf; split <;> simp
theorem cutsL_len (k : Nat) (rs : List Row) : (cutsL k rs).length ≤ 1 + 2 * rs.length := by
  unfold cutsL
  rw [List.length_cons]
  have : (rs.flatMap (cutsOf k)).length ≤ 2 * rs.length := by
    induction rs with
    | nil => simp
    | cons r rs ih => rw [List.flatMap_cons, List.length_append, List.length_cons]; have := cutsOf_len k r; omega
  omega
theorem lo_nonneg (k : Nat) (h : List Bool) : 0 ≤ lo k h := Int.mul_nonneg (val_nonneg h).1 (Int.le_of_lt (pow_pos' _))
theorem lo_top {k : Nat} {h : List Bool} (hk : h.length ≤ k) : lo k h + wd k h ≤ 2 ^ k := by
  unfold lo wd
  have h1 := (val_nonneg h).2
  have hw := pow_pos' (k - h.length)
  have : (val h + 1) * 2 ^ (k - h.length) ≤ 2 ^ h.length * 2 ^ (k - h.length) := Int.mul_le_mul_of_nonneg_right (by omega) (Int.le_of_lt hw)
  rw [← Int.pow_add, show h.length + (k - h.length) = k by omega, Int.add_mul, Int.one_mul] at this
  exact this
theorem cutsL_range {k : Nat} {rs : List Row} (hl : ∀ r ∈ rs, r.1.length ≤ k) {c : Int} (hc : c ∈ cutsL k rs) : 0 ≤ c ∧ c < 2 ^ k := by
  unfold cutsL at hc
  rcases List.mem_cons.mp hc with rfl | hc
  · exact ⟨Int.le_refl _, pow_pos' k⟩
  · obtain ⟨r, hr, hc⟩ := List.mem_flatMap.mp hc
    have h0 := lo_nonneg k r.1
    have h1 := lo_top (hl r hr)
    have h2 := wd_pos k r.1
    unfold cutsOf at hc
    split at hc
    · simp at hc; omega
    · simp at hc; omega
/-- no cut between: led alike -/
theorem led_between {k : Nat} {rs : List Row} (hl : ∀ r ∈ rs, r.1.length ≤ k) {c n : Int} (h0 : 0 ≤ c) (hcn : c ≤ n) (h1 : n < 2 ^ k) (h : ∀ x ∈ cutsL k rs, ¬ (c < x ∧ x ≤ n)) : led rs (addr k n) = led rs (addr k c) := by
  unfold led
  rw [lead_congr fun r hr => ?_]
  rw [begins_iff (hl r hr) (by omega) h1, begins_iff (hl r hr) h0 (by omega)]
  have m : ∀ x ∈ cutsOf k r, x ∈ cutsL k rs := fun x hx => List.mem_cons_of_mem _ (List.mem_flatMap.mpr ⟨r, hr, hx⟩)
  have m1 : lo k r.1 ∈ cutsOf k r := by unfold cutsOf; split <;> simp
  have n1 := h _ (m _ m1)
  have n2 : ¬ (c < lo k r.1 + wd k r.1 ∧ lo k r.1 + wd k r.1 ≤ n) := fun z => by
    have m2 : lo k r.1 + wd k r.1 ∈ cutsOf k r := by unfold cutsOf; rw [if_pos (by omega)]; simp
    exact h _ (m _ m2) z
  rw [Bool.eq_iff_iff, decide_eq_true_iff, decide_eq_true_iff]
  omega
/-- the same members, rising -/
structure SortD (l cs : List Int) : Prop where
  up : cs.Pairwise (· < ·)
  mem : ∀ x, x ∈ cs ↔ x ∈ l
theorem rising_unique : ∀ {a b : List Int}, a.Pairwise (· < ·) → b.Pairwise (· < ·) → (∀ x, x ∈ a ↔ x ∈ b) → a = b
  | [], [], _, _, _ => rfl
  | [], y :: b, _, _, h => by have := (h y).mpr List.mem_cons_self; cases this
  | x :: a, [], _, _, h => by have := (h x).mp List.mem_cons_self; cases this
  | x :: a, y :: b, ha, hb, h => by
    rw [List.pairwise_cons] at ha hb
    have e : x = y := by
      have h1 := (h x).mp List.mem_cons_self
      have h2 := (h y).mpr List.mem_cons_self
      rcases List.mem_cons.mp h1 with e | h1
      · exact e
      · rcases List.mem_cons.mp h2 with e | h2
        · exact e.symm
        · have := ha.1 y h2; have := hb.1 x h1; omega
    subst e
    congr 1
    refine rising_unique ha.2 hb.2 fun z => ⟨fun hz => ?_, fun hz => ?_⟩
    · rcases List.mem_cons.mp ((h z).mp (List.mem_cons_of_mem _ hz)) with e | e
      · have := ha.1 z hz; omega
      · exact e
    · rcases List.mem_cons.mp ((h z).mpr (List.mem_cons_of_mem _ hz)) with e | e
      · have := hb.1 z hz; omega
      · exact e
theorem SortD.unique {l l' a b : List Int} (x : SortD l a) (y : SortD l' b) (h : ∀ z, z ∈ l ↔ z ∈ l') : a = b := rising_unique x.up y.up fun z => by rw [x.mem, y.mem, h]
/-- spans behind one another from s to below e; pw: the way ahead of them -/
abbrev Span := Int × Int × Option Int
def Spans (k : Nat) (rs : List Row) : Int → Option (Option Int) → List Span → Int → Prop
  | s, _, [], e => s = e
  | s, pw, (a, b, w) :: t, e => a = s ∧ a ≤ b ∧ pw ≠ some w ∧ (∀ n, a ≤ n → n ≤ b → led rs (addr k n) = w) ∧ Spans k rs (b + 1) (some w) t e
def lastWay : Option (Option Int) → List Span → Option (Option Int)
  | pw, [] => pw
  | _, (_, _, w) :: t => lastWay (some w) t
theorem lastWay_snoc : ∀ (pw : Option (Option Int)) (l : List Span) (x : Span), lastWay pw (l ++ [x]) = some x.2.2
  | _, [], _ => rfl
  | _, (_, _, w) :: t, x => lastWay_snoc (some w) t x
theorem Spans.append {k : Nat} {rs : List Row} : ∀ {s e : Int} {pw : Option (Option Int)} {l r : List Span}, Spans k rs s pw (l ++ r) e ↔ ∃ m, Spans k rs s pw l m ∧ Spans k rs m (lastWay pw l) r e
  | s, e, pw, [], r => ⟨fun h => ⟨s, rfl, h⟩, fun ⟨m, h1, h2⟩ => by cases h1; exact h2⟩
  | s, e, pw, (a, b, w) :: t, r => by
    show (a = s ∧ a ≤ b ∧ pw ≠ some w ∧ (∀ n, a ≤ n → n ≤ b → led rs (addr k n) = w) ∧ Spans k rs (b + 1) (some w) (t ++ r) e) ↔ _
    rw [Spans.append (l := t)]
    exact ⟨fun ⟨h1, h2, h3, h4, m, h5, h6⟩ => ⟨m, ⟨h1, h2, h3, h4, h5⟩, h6⟩, fun ⟨m, ⟨h1, h2, h3, h4, h5⟩, h6⟩ => ⟨h1, h2, h3, h4, m, h5, h6⟩⟩
theorem Spans.snoc {k : Nat} {rs : List Row} {s e b : Int} {pw : Option (Option Int)} {l : List Span} {w : Option Int} (h : Spans k rs s pw l e) (h1 : e ≤ b) (h2 : lastWay pw l ≠ some w) (h3 : ∀ n, e ≤ n → n ≤ b → led rs (addr k n) = w) :
    Spans k rs s pw (l ++ [(e, b, w)]) (b + 1) := Spans.append.mpr ⟨e, h, rfl, h1, h2, h3, rfl⟩
/-- the state of the loop over the cuts -/
structure SpanInv (k : Nat) (rs : List Row) (pre post : List Int) (told : List Span) (low : Int) (way : Option Int) : Prop where
  spans : Spans k rs 0 none told low
  last : lastWay none told ≠ some way
  wayIs : way = led rs (addr k low)
  lowIn : 0 ≤ low ∧ low < 2 ^ k
  here : (pre = [] ∧ low = 0) ∨ low ∈ pre
  rest : ∀ n, low ≤ n → n < 2 ^ k → (∀ c ∈ post, n < c) → led rs (addr k n) = way
theorem SpanInv.start {k : Nat} {rs : List Row} {cs : List Int} (h : SortD (cutsL k rs) cs) : SpanInv k rs [] cs [] 0 (led rs (addr k 0)) :=
  ⟨rfl, by simp [lastWay], rfl, ⟨Int.le_refl _, pow_pos' k⟩, .inl ⟨rfl, rfl⟩, fun n hn _ hc => by
    have : n < 0 := hc 0 ((h.mem 0).mpr List.mem_cons_self)
    omega⟩
theorem SpanInv.step {k : Nat} {rs : List Row} {pre post : List Int} {c : Int} {told : List Span} {low : Int} {way : Option Int} (hl : ∀ r ∈ rs, r.1.length ≤ k) (hs : SortD (cutsL k rs) (pre ++ c :: post)) (I : SpanInv k rs pre (c :: post) told low way) :
    (led rs (addr k c) = way → SpanInv k rs (pre ++ [c]) post told low way) ∧ (led rs (addr k c) ≠ way → SpanInv k rs (pre ++ [c]) post (told ++ [(low, c - 1, way)]) c (led rs (addr k c))) := by
  have hc := cutsL_range hl ((hs.mem c).mp (by simp))
  have hpw := hs.up
  rw [List.pairwise_append] at hpw
  obtain ⟨_, hpc, hpp⟩ := hpw
  rw [List.pairwise_cons] at hpc
  have hpre : ∀ x ∈ pre, x < c := fun x hx => hpp x hx c List.mem_cons_self
  have key : ∀ n, c ≤ n → n < 2 ^ k → (∀ x ∈ post, n < x) → led rs (addr k n) = led rs (addr k c) := fun n h1 h2 h3 => by
    refine led_between hl hc.1 h1 h2 fun x hx ⟨z1, z2⟩ => ?_
    rcases List.mem_append.mp ((hs.mem x).mpr hx) with hx | hx
    · have := hpre x hx; omega
    · rcases List.mem_cons.mp hx with rfl | hx
      · omega
      · have := h3 x hx; omega
  have hlc : low ≤ c := by
    rcases I.here with ⟨_, e⟩ | e
    · omega
    · have := hpre _ e; omega
  constructor
  · intro e
    refine ⟨I.spans, I.last, I.wayIs, I.lowIn, ?_, fun n h1 h2 h3 => ?_⟩
    · rcases I.here with ⟨e1, e2⟩ | e1
      · right
        have z : (0 : Int) ∈ pre ++ c :: post := (hs.mem 0).mpr List.mem_cons_self
        subst e1
        rcases List.mem_cons.mp z with z | z
        · rw [e2, z]; simp
        · have := hpc.1 0 z; omega
      · exact .inr (List.mem_append_left _ e1)
    · by_cases hn : n < c
      · refine I.rest n h1 h2 fun x hx => ?_
        rcases List.mem_cons.mp hx with rfl | hx
        · exact hn
        · exact h3 x hx
      · rw [key n (by omega) h2 h3, e]
  · intro e
    have hlt : low < c := by
      rcases Int.lt_or_eq_of_le hlc with h | h
      · exact h
      · exact absurd (by rw [← h, ← I.wayIs]) e
    refine ⟨?_, ?_, rfl, hc, .inr (by simp), fun n h1 h2 h3 => key n h1 h2 h3⟩
    · have := I.spans.snoc (b := c - 1) (w := way) (by omega) I.last fun n h1 h2 => I.rest n h1 (by omega) fun x hx => by
        rcases List.mem_cons.mp hx with rfl | hx
        · omega
        · have := hpc.1 x hx; omega
      rw [Int.sub_add_cancel] at this
      exact this
    · rw [lastWay_snoc]
      intro z
      exact e (Option.some.inj z).symm
theorem SpanInv.done {k : Nat} {rs : List Row} {pre : List Int} {told : List Span} {low : Int} {way : Option Int} (I : SpanInv k rs pre [] told low way) : Spans k rs 0 none (told ++ [(low, 2 ^ k - 1, way)]) (2 ^ k) := by
  have := I.spans.snoc (b := 2 ^ k - 1) (w := way) (by have := I.lowIn; omega) I.last fun n h1 h2 => I.rest n h1 (by omega) (by simp)
  rw [Int.sub_add_cancel] at this
  exact this
end L2

end
section
set_option Elab.async false
set_option linter.all false
namespace L2
open PySem
/-! ### the longest head, and one table laid over another -/
def Leads (rs : List Row) (a : List Bool) : Option Row → Prop
  | none => ∀ r ∈ rs, r.1.isPrefixOf a = false
  | some r => r ∈ rs ∧ r.1.isPrefixOf a = true ∧ ∀ q ∈ rs, q.1.isPrefixOf a = true → q.1.length ≤ r.1.length
theorem leads_step {pre : List Row} {a : List Bool} {acc : Option Row} (r : Row) (h : Leads pre a acc) : Leads (pre ++ [r]) a (leadStep a acc r) := by
  unfold leadStep
  cases hp : r.1.isPrefixOf a with
  | false =>
    rw [Bool.false_and, if_neg Bool.false_ne_true]
    cases acc with
    | none =>
      intro q hq
      rcases List.mem_append.mp hq with hq | hq
      · exact h q hq
      · rw [List.mem_singleton.mp hq]; exact hp
    | some z =>
      obtain ⟨h1, h2, h3⟩ := h
      refine ⟨List.mem_append_left _ h1, h2, fun q hq e => ?_⟩
      rcases List.mem_append.mp hq with hq | hq
      · exact h3 q hq e
      · rw [List.mem_singleton.mp hq, hp] at e; cases e
  | true =>
    rw [Bool.true_and]
    cases acc with
    | none =>
      dsimp only
      rw [if_pos rfl]
      refine ⟨List.mem_append_right _ (List.mem_singleton.mpr rfl), hp, fun q hq e => ?_⟩
      rcases List.mem_append.mp hq with hq | hq
      · rw [h q hq] at e; cases e
      · rw [List.mem_singleton.mp hq]; exact Nat.le_refl _
    | some z =>
      obtain ⟨h1, h2, h3⟩ := h
      dsimp only
      by_cases hl : z.1.length < r.1.length
      · rw [if_pos (decide_eq_true hl)]
        refine ⟨List.mem_append_right _ (List.mem_singleton.mpr rfl), hp, fun q hq e => ?_⟩
        rcases List.mem_append.mp hq with hq | hq
        · have := h3 q hq e; omega
        · rw [List.mem_singleton.mp hq]; exact Nat.le_refl _
      · rw [if_neg (by simp [hl])]
        refine ⟨List.mem_append_left _ h1, h2, fun q hq e => ?_⟩
        rcases List.mem_append.mp hq with hq | hq
        · exact h3 q hq e
        · rw [List.mem_singleton.mp hq]; omega
theorem leads_fold (a : List Bool) : ∀ (l pre : List Row) (acc : Option Row), Leads pre a acc → Leads (pre ++ l) a (l.foldl (leadStep a) acc)
  | [], pre, acc, h => by rw [List.append_nil]; exact h
  | r :: l, pre, acc, h => by
    have := leads_fold a l (pre ++ [r]) (leadStep a acc r) (leads_step r h)
    rw [List.append_assoc] at this
    exact this
theorem lead_leads (rs : List Row) (a : List Bool) : Leads rs a (lead rs a) := leads_fold a rs [] none (fun r hr => by cases hr)
theorem heads_row : ∀ {rs : List Row} {a b : Row}, (rs.map (·.1)).Nodup → a ∈ rs → b ∈ rs → a.1 = b.1 → a = b
  | [], _, _, _, h, _, _ => by cases h
  | r :: rs, a, b, hn, ha, hb, e => by
    rw [List.map_cons, List.nodup_cons] at hn
    rcases List.mem_cons.mp ha with rfl | ha'
    · rcases List.mem_cons.mp hb with rfl | hb
      · rfl
      · exact absurd (List.mem_map.mpr ⟨b, hb, e.symm⟩) hn.1
    · rcases List.mem_cons.mp hb with rfl | hb
      · exact absurd (List.mem_map.mpr ⟨a, ha', e⟩) hn.1
      · exact heads_row hn.2 ha' hb e
theorem pre_pre {x y a : List Bool} (hx : x.isPrefixOf a = true) (hy : y.isPrefixOf a = true) (h : x.length ≤ y.length) : x.isPrefixOf y = true :=
  List.isPrefixOf_iff_prefix.mpr (List.prefix_of_prefix_length_le (List.isPrefixOf_iff_prefix.mp hx) (List.isPrefixOf_iff_prefix.mp hy) h)
theorem pre_eq {x y a : List Bool} (hx : x.isPrefixOf a = true) (hy : y.isPrefixOf a = true) (h : x.length = y.length) : x = y :=
  (List.isPrefixOf_iff_prefix.mp (pre_pre hx hy (Nat.le_of_eq h))).eq_of_length h
theorem pre_trans {x y a : List Bool} (hx : x.isPrefixOf y = true) (hy : y.isPrefixOf a = true) : x.isPrefixOf a = true :=
  List.isPrefixOf_iff_prefix.mpr ((List.isPrefixOf_iff_prefix.mp hx).trans (List.isPrefixOf_iff_prefix.mp hy))
theorem Leads.unique {rs : List Row} {a : List Bool} {o o' : Option Row} (hn : (rs.map (·.1)).Nodup) (h : Leads rs a o) (h' : Leads rs a o') : o = o' := by
  cases o with
  | none =>
    cases o' with
    | none => rfl
    | some r => have := h r h'.1; rw [h'.2.1] at this; cases this
  | some q =>
    cases o' with
    | none => have := h' q h.1; rw [h.2.1] at this; cases this
    | some r =>
      obtain ⟨q1, q2, q3⟩ := h
      obtain ⟨r1, r2, r3⟩ := h'
      have e : q.1 = r.1 := pre_eq q2 r2 (Nat.le_antisymm (r3 q q1 q2) (q3 r r1 r2))
      rw [heads_row hn q1 r1 e]
theorem Leads.mem {rs ts : List Row} {a : List Bool} {o : Option Row} (h : Leads rs a o) (e : ∀ r, r ∈ rs ↔ r ∈ ts) : Leads ts a o := by
  cases o with
  | none => exact fun r hr => h r ((e r).mpr hr)
  | some r => exact ⟨(e r).mp h.1, h.2.1, fun q hq z => h.2.2 q ((e q).mpr hq) z⟩
end L2

end
section
set_option Elab.async false
set_option linter.all false
namespace L2
open PySem
/-! ### thinning a table: the tree of places, the best ways, and how many rows are told -/
namespace Th
abbrev W := Option Int
abbrev Pl := List Bool
/-- some head goes on behind this place -/
def inn (rs : List Row) (p : Pl) : Bool := rs.any fun r => p.isPrefixOf r.1 && decide (p.length < r.1.length)
def share (a b : List W) : List W := a.filter fun w => b.contains w
def both (a b : List W) : List W := if (share a b).isEmpty then a ++ b else share a b
def bestF (rs : List Row) : Nat → Pl → List W
  | 0, p => [led rs p]
  | n + 1, p => if inn rs p then both (bestF rs n (p ++ [false])) (bestF rs n (p ++ [true])) else [led rs p]
def best (rs : List Row) (D : Nat) (p : Pl) : List W := bestF rs (D - p.length) p
def pick (l : List W) (w : W) : W := if l.contains w then w else l.headD none
def costF (rs : List Row) (D : Nat) : Nat → Pl → W → Nat
  | 0, p, w => if (best rs D p).contains w then 0 else 1
  | n + 1, p, w => (if (best rs D p).contains w then 0 else 1) + if inn rs p then costF rs D n (p ++ [false]) (pick (best rs D p) w) + costF rs D n (p ++ [true]) (pick (best rs D p) w) else 0
def cost (rs : List Row) (D : Nat) (p : Pl) (w : W) : Nat := costF rs D (D - p.length) p w
def preF (rs : List Row) : Nat → Pl → List Pl
  | 0, p => [p]
  | n + 1, p => p :: if inn rs p then preF rs n (p ++ [false]) ++ preF rs n (p ++ [true]) else []
def pre (rs : List Row) (D : Nat) (p : Pl) : List Pl := preF rs (D - p.length) p
def ldR (rs : List Row) (D : Nat) : List Bool → W
  | [] => pick (best rs D []) none
  | b :: q => pick (best rs D (b :: q).reverse) (ldR rs D q)
def ld (rs : List Row) (D : Nat) (p : Pl) : W := ldR rs D p.reverse
def above (rs : List Row) (D : Nat) (p : Pl) : W := if p = [] then none else ld rs D p.dropLast
def hit (rs : List Row) (D : Nat) (p : Pl) : Bool := !(best rs D p).contains (above rs D p)
def thin (rs : List Row) (D : Nat) (ps : List Pl) : List Row := (ps.filter (hit rs D)).map fun p => (p, ld rs D p)
/-- a place of the tree -/
def isPl (rs : List Row) (p : Pl) : Prop := p = [] ∨ ∃ q b, p = q ++ [b] ∧ inn rs q = true
theorem nil_or_snoc (p : Pl) : p = [] ∨ ∃ q b, p = q ++ [b] := by
  rcases List.eq_nil_or_concat p with h | ⟨q, b, h⟩
  · exact .inl h
  · exact .inr ⟨q, b, by rw [h, List.concat_eq_append]⟩
section
variable {rs : List Row} {D : Nat}
theorem inn_iff {p : Pl} : inn rs p = true ↔ ∃ r ∈ rs, p <+: r.1 ∧ p.length < r.1.length := by
  unfold inn
  rw [List.any_eq_true]
  simp only [Bool.and_eq_true, List.isPrefixOf_iff_prefix, decide_eq_true_eq]
theorem inn_up {p q : Pl} (h : inn rs q = true) (hp : p <+: q) : inn rs p = true := by
  obtain ⟨r, hr, h1, h2⟩ := inn_iff.mp h
  exact inn_iff.mpr ⟨r, hr, hp.trans h1, by have := hp.length_le; omega⟩
theorem inn_deep (hD : ∀ r ∈ rs, r.1.length ≤ D) {p : Pl} (h : inn rs p = true) : p.length < D := by
  obtain ⟨r, hr, h1, h2⟩ := inn_iff.mp h
  have := hD r hr; omega
theorem isPl_up {p : Pl} {b : Bool} (h : isPl rs (p ++ [b])) : inn rs p = true := by
  rcases h with h | ⟨q, c, e, h⟩
  · simp at h
  · have := (List.append_inj_left' e rfl); subst this; exact h
theorem isPl_inn {p : Pl} (h : inn rs p = true) : isPl rs p := by
  rcases nil_or_snoc p with rfl | ⟨q, b, rfl⟩
  · exact .inl rfl
  · exact .inr ⟨q, b, rfl, inn_up h (List.prefix_append _ _)⟩
theorem isPl_of {p : Pl} {b : Bool} (h : inn rs p = true) : isPl rs (p ++ [b]) := .inr ⟨p, b, rfl, h⟩
theorem fuel (hD : ∀ r ∈ rs, r.1.length ≤ D) (p : Pl) : (inn rs p = false) ∨ ∃ n, D - p.length = n + 1 ∧ ∀ b : Bool, D - (p ++ [b]).length = n := by
  cases h : inn rs p with
  | false => exact .inl rfl
  | true =>
    have := inn_deep hD h
    exact .inr ⟨D - p.length - 1, by omega, fun b => by rw [List.length_append]; simp; omega⟩
theorem best_eq (hD : ∀ r ∈ rs, r.1.length ≤ D) (p : Pl) : best rs D p = if inn rs p then both (best rs D (p ++ [false])) (best rs D (p ++ [true])) else [led rs p] := by
  rcases fuel hD p with h | ⟨n, e, e2⟩
  · rw [h, if_neg Bool.false_ne_true]
    unfold best
    cases D - p.length with
    | zero => rfl
    | succ n => unfold bestF; rw [h, if_neg Bool.false_ne_true]
  · unfold best
    rw [e, e2, e2]
    rfl
theorem cost_eq (hD : ∀ r ∈ rs, r.1.length ≤ D) (p : Pl) (w : W) : cost rs D p w = (if (best rs D p).contains w then 0 else 1) + if inn rs p then cost rs D (p ++ [false]) (pick (best rs D p) w) + cost rs D (p ++ [true]) (pick (best rs D p) w) else 0 := by
  rcases fuel hD p with h | ⟨n, e, e2⟩
  · rw [h, if_neg Bool.false_ne_true]
    unfold cost
    cases D - p.length with
    | zero => rfl
    | succ n => unfold costF; rw [h, if_neg Bool.false_ne_true]
  · unfold cost
    rw [e, e2, e2]
    rfl
theorem pre_eqn (hD : ∀ r ∈ rs, r.1.length ≤ D) (p : Pl) : pre rs D p = p :: if inn rs p then pre rs D (p ++ [false]) ++ pre rs D (p ++ [true]) else [] := by
  rcases fuel hD p with h | ⟨n, e, e2⟩
  · rw [h, if_neg Bool.false_ne_true]
    unfold pre
    cases D - p.length with
    | zero => rfl
    | succ n => unfold preF; rw [h, if_neg Bool.false_ne_true]
  · unfold pre
    rw [e, e2, e2]
    rfl
theorem tree_ind (hD : ∀ r ∈ rs, r.1.length ≤ D) {P : Pl → Prop} (h : ∀ p, (inn rs p = true → ∀ b : Bool, P (p ++ [b])) → P p) (p : Pl) : P p := by
  have : ∀ n p, D - p.length = n → P p := by
    intro n
    induction n with
    | zero => intro p e; exact h p fun hi => by have := inn_deep hD hi; omega
    | succ n ih => intro p e; exact h p fun hi b => ih _ (by rw [List.length_append]; simp; omega)
  exact this _ p rfl
/-! ### the places -/
theorem snoc_prefix {p q : Pl} : p <+: q ↔ q = p ∨ ∃ b : Bool, p ++ [b] <+: q := by
  constructor
  · rintro ⟨t, rfl⟩
    cases t with
    | nil => exact .inl (List.append_nil _)
    | cons b t => exact .inr ⟨b, t, by rw [List.append_assoc]; rfl⟩
  · rintro (rfl | ⟨b, t, rfl⟩)
    · exact List.prefix_refl _
    · exact ⟨b :: t, by rw [List.append_assoc]; rfl⟩
theorem mem_pre (hD : ∀ r ∈ rs, r.1.length ≤ D) (p : Pl) : ∀ q, q ∈ pre rs D p ↔ q = p ∨ ∃ q' b, q = q' ++ [b] ∧ p <+: q' ∧ inn rs q' = true := by
  refine tree_ind hD (P := fun p => ∀ q, q ∈ pre rs D p ↔ q = p ∨ ∃ q' b, q = q' ++ [b] ∧ p <+: q' ∧ inn rs q' = true) (fun p ih q => ?_) p
  rw [pre_eqn hD, List.mem_cons]
  cases h : inn rs p with
  | false =>
    rw [if_neg Bool.false_ne_true]
    constructor
    · rintro (rfl | h1)
      · exact .inl rfl
      · cases h1
    · rintro (rfl | ⟨q', b, rfl, h1, h2⟩)
      · exact .inl rfl
      · rw [inn_up h2 h1] at h; cases h
  | true =>
    rw [if_pos rfl, List.mem_append, ih h false, ih h true]
    constructor
    · rintro (rfl | (rfl | ⟨q', b, rfl, h1, h2⟩) | (rfl | ⟨q', b, rfl, h1, h2⟩))
      · exact .inl rfl
      · exact .inr ⟨p, false, rfl, List.prefix_refl _, h⟩
      · exact .inr ⟨q', b, rfl, (List.prefix_append _ _).trans h1, h2⟩
      · exact .inr ⟨p, true, rfl, List.prefix_refl _, h⟩
      · exact .inr ⟨q', b, rfl, (List.prefix_append _ _).trans h1, h2⟩
    · rintro (rfl | ⟨q', b, rfl, h1, h2⟩)
      · exact .inl rfl
      · rcases snoc_prefix.mp h1 with rfl | ⟨c, hc⟩
        · cases b
          · exact .inr (.inl (.inl rfl))
          · exact .inr (.inr (.inl rfl))
        · cases c
          · exact .inr (.inl (.inr ⟨q', b, rfl, hc, h2⟩))
          · exact .inr (.inr (.inr ⟨q', b, rfl, hc, h2⟩))
theorem pre_prefix (hD : ∀ r ∈ rs, r.1.length ≤ D) {p q : Pl} (h : q ∈ pre rs D p) : p <+: q := by
  rcases (mem_pre hD p q).mp h with rfl | ⟨q', b, rfl, h1, _⟩
  · exact List.prefix_refl _
  · exact h1.trans (List.prefix_append _ _)
theorem nodup_pre (hD : ∀ r ∈ rs, r.1.length ≤ D) (p : Pl) : (pre rs D p).Nodup := by
  refine tree_ind hD (P := fun p => (pre rs D p).Nodup) (fun p ih => ?_) p
  rw [pre_eqn hD]
  cases h : inn rs p with
  | false => simp
  | true =>
    rw [if_pos rfl, List.nodup_cons, List.nodup_append]
    have long : ∀ b : Bool, p ∉ pre rs D (p ++ [b]) := fun b hm => by
      have := (pre_prefix hD hm).length_le
      simp at this
      omega
    refine ⟨fun hm => ?_, ih h false, ih h true, fun a ha b hb e => ?_⟩
    · rcases List.mem_append.mp hm with hm | hm
      · exact long _ hm
      · exact long _ hm
    · subst e
      have h1 := pre_prefix hD ha
      have h2 := pre_prefix hD hb
      have := List.prefix_of_prefix_length_le h1 h2 (by simp)
      have := this.eq_of_length (by simp)
      simp at this
theorem mem_root (hD : ∀ r ∈ rs, r.1.length ≤ D) (q : Pl) : q ∈ pre rs D [] ↔ isPl rs q := by
  rw [mem_pre hD]
  unfold isPl
  constructor
  · rintro (h | ⟨q', b, e, _, h⟩)
    · exact .inl h
    · exact .inr ⟨q', b, e, h⟩
  · rintro (h | ⟨q', b, e, h⟩)
    · exact .inl h
    · exact .inr ⟨q', b, e, List.nil_prefix, h⟩
/-! ### how a place is led by the told rows -/
theorem ld_snoc (q : Pl) (b : Bool) : ld rs D (q ++ [b]) = pick (best rs D (q ++ [b])) (ld rs D q) := by
  unfold ld
  rw [List.reverse_append]
  show pick (best rs D (b :: q.reverse).reverse) (ldR rs D q.reverse) = _
  rw [List.reverse_cons, List.reverse_reverse]
theorem above_snoc (q : Pl) (b : Bool) : above rs D (q ++ [b]) = ld rs D q := by
  unfold above
  rw [if_neg (by simp), List.dropLast_concat]
theorem ld_eq (p : Pl) : ld rs D p = pick (best rs D p) (above rs D p) := by
  rcases nil_or_snoc p with rfl | ⟨q, b, rfl⟩
  · rfl
  · rw [ld_snoc, above_snoc]
theorem count_pre (hD : ∀ r ∈ rs, r.1.length ≤ D) (p : Pl) : ((pre rs D p).filter (hit rs D)).length = cost rs D p (above rs D p) := by
  refine tree_ind hD (P := fun p => ((pre rs D p).filter (hit rs D)).length = cost rs D p (above rs D p)) (fun p ih => ?_) p
  rw [pre_eqn hD, cost_eq hD, List.filter_cons]
  have rest : ∀ l : List Pl, (l.filter (hit rs D)).length = (if inn rs p then cost rs D (p ++ [false]) (pick (best rs D p) (above rs D p)) + cost rs D (p ++ [true]) (pick (best rs D p) (above rs D p)) else 0) → (if hit rs D p = true then p :: l.filter (hit rs D) else l.filter (hit rs D)).length = (if (best rs D p).contains (above rs D p) then 0 else 1) + (if inn rs p then cost rs D (p ++ [false]) (pick (best rs D p) (above rs D p)) + cost rs D (p ++ [true]) (pick (best rs D p) (above rs D p)) else 0) := by
    intro l hl
    have eh : hit rs D p = !(best rs D p).contains (above rs D p) := rfl
    rw [eh]
    cases (best rs D p).contains (above rs D p) with
    | true => simp only [Bool.not_true, Bool.false_eq_true, if_false, if_true, Nat.zero_add]; exact hl
    | false => simp only [Bool.not_false, if_true, Bool.false_eq_true, if_false, List.length_cons]; rw [hl, Nat.add_comm]
  refine rest _ ?_
  cases h : inn rs p with
  | false => simp
  | true =>
    rw [if_pos rfl, if_pos rfl, List.filter_append, List.length_append, ih h false, ih h true, above_snoc, above_snoc, ← ld_eq]
/-! ### the best ways -/
theorem contains_iff {l : List W} {w : W} : l.contains w = true ↔ w ∈ l := by simp
theorem mem_share {a b : List W} {w : W} : w ∈ share a b ↔ w ∈ a ∧ w ∈ b := by unfold share; rw [List.mem_filter]; simp
def off (l : List W) (w : W) : Nat := if l.contains w then 0 else 1
theorem off_mem {l : List W} {w : W} (h : w ∈ l) : off l w = 0 := by unfold off; rw [if_pos (contains_iff.mpr h)]
theorem off_not {l : List W} {w : W} (h : w ∉ l) : off l w = 1 := by unfold off; rw [if_neg (fun z => h (contains_iff.mp z))]
def split (a b : List W) : Nat := if (share a b).isEmpty then 1 else 0
theorem both_in {a b : List W} {v : W} (h : v ∈ both a b) : off a v + off b v = split a b := by
  unfold both at h
  unfold split
  cases e : (share a b).isEmpty with
  | true =>
    rw [e, if_pos rfl] at h
    rw [if_pos rfl]
    have no : ∀ v, ¬ (v ∈ a ∧ v ∈ b) := fun v z => by have := mem_share.mpr z; rw [List.isEmpty_iff.mp e] at this; cases this
    rcases List.mem_append.mp h with h | h
    · rw [off_mem h, off_not fun z => no v ⟨h, z⟩]
    · rw [off_mem h, off_not fun z => no v ⟨z, h⟩]
  | false =>
    rw [e, if_neg Bool.false_ne_true] at h
    obtain ⟨h1, h2⟩ := mem_share.mp h
    rw [off_mem h1, off_mem h2]; rfl
theorem both_le (a b : List W) (w : W) : off (both a b) w + split a b ≤ off a w + off b w := by
  by_cases h : w ∈ both a b
  · rw [off_mem h, both_in h]; omega
  · rw [off_not h]
    unfold both at h
    unfold split
    cases e : (share a b).isEmpty with
    | true =>
      rw [e, if_pos rfl] at h
      rw [if_pos rfl, off_not fun z => h (List.mem_append_left _ z), off_not fun z => h (List.mem_append_right _ z)]
      exact Nat.le_refl _
    | false =>
      rw [e, if_neg Bool.false_ne_true] at h
      rw [if_neg Bool.false_ne_true]
      by_cases h1 : w ∈ a
      · rw [off_not fun z => h (mem_share.mpr ⟨h1, z⟩)]; omega
      · rw [off_not h1]; omega
theorem both_ne {a b : List W} (h : a ≠ []) : both a b ≠ [] := by
  unfold both
  cases e : (share a b).isEmpty with
  | true => rw [if_pos rfl]; exact fun z => h (List.append_eq_nil_iff.mp z).1
  | false => rw [if_neg Bool.false_ne_true]; exact fun z => by rw [z] at e; cases e
theorem best_ne (hD : ∀ r ∈ rs, r.1.length ≤ D) (p : Pl) : best rs D p ≠ [] := by
  refine tree_ind hD (P := fun p => best rs D p ≠ []) (fun p ih => ?_) p
  rw [best_eq hD]
  cases h : inn rs p with
  | false => simp
  | true => rw [if_pos rfl]; exact both_ne (ih h false)
theorem pick_mem {l : List W} (h : l ≠ []) (w : W) : pick l w ∈ l := by
  unfold pick
  split
  · rename_i z; exact contains_iff.mp z
  · cases l with
    | nil => exact absurd rfl h
    | cons a t => exact List.mem_cons_self
theorem pick_in {l : List W} {w : W} (h : w ∈ l) : pick l w = w := by unfold pick; rw [if_pos (contains_iff.mpr h)]
/-- the fewest rows at a place and behind it -/
def base (rs : List Row) (D : Nat) (p : Pl) : Nat := cost rs D p ((best rs D p).headD none)
theorem head_mem {l : List W} (h : l ≠ []) : l.headD none ∈ l := by
  cases l with
  | nil => exact absurd rfl h
  | cons a t => exact List.mem_cons_self
theorem cost_base (hD : ∀ r ∈ rs, r.1.length ≤ D) (p : Pl) : (∀ w, cost rs D p w = base rs D p + off (best rs D p) w) ∧ (inn rs p = true → base rs D p = base rs D (p ++ [false]) + base rs D (p ++ [true]) + split (best rs D (p ++ [false])) (best rs D (p ++ [true]))) ∧ (inn rs p = false → base rs D p = 0) := by
  refine tree_ind hD (P := fun p => (∀ w, cost rs D p w = base rs D p + off (best rs D p) w) ∧ (inn rs p = true → base rs D p = base rs D (p ++ [false]) + base rs D (p ++ [true]) + split (best rs D (p ++ [false])) (best rs D (p ++ [true]))) ∧ (inn rs p = false → base rs D p = 0)) (fun p ih => ?_) p
  have hm := head_mem (best_ne hD p)
  cases h : inn rs p with
  | false =>
    have b0 : base rs D p = 0 := by unfold base; rw [cost_eq hD, h, if_neg Bool.false_ne_true, if_pos (contains_iff.mpr hm)]
    refine ⟨fun w => ?_, fun z => (by cases z), fun _ => b0⟩
    rw [b0, Nat.zero_add, cost_eq hD, h, if_neg Bool.false_ne_true]; rfl
  | true =>
    have key : ∀ v ∈ best rs D p, cost rs D (p ++ [false]) v + cost rs D (p ++ [true]) v = base rs D (p ++ [false]) + base rs D (p ++ [true]) + split (best rs D (p ++ [false])) (best rs D (p ++ [true])) := fun v hv => by
      rw [best_eq hD, h, if_pos rfl] at hv
      have := both_in hv
      rw [(ih h false).1 v, (ih h true).1 v]
      omega
    have b0 : base rs D p = base rs D (p ++ [false]) + base rs D (p ++ [true]) + split (best rs D (p ++ [false])) (best rs D (p ++ [true])) := by
      unfold base
      rw [cost_eq hD, h, if_pos rfl, if_pos (contains_iff.mpr hm), Nat.zero_add]
      exact key _ (pick_mem (best_ne hD p) _)
    refine ⟨fun w => ?_, fun _ => b0, fun z => (by cases z)⟩
    rw [cost_eq hD, h, if_pos rfl, key _ (pick_mem (best_ne hD p) w), b0, Nat.add_comm]
    rfl
theorem cost_le (hD : ∀ r ∈ rs, r.1.length ≤ D) {p : Pl} (h : inn rs p = true) (w : W) : cost rs D p w ≤ cost rs D (p ++ [false]) w + cost rs D (p ++ [true]) w := by
  have q := cost_base hD p
  rw [q.1 w, q.2.1 h, (cost_base hD (p ++ [false])).1 w, (cost_base hD (p ++ [true])).1 w]
  have e : best rs D p = both (best rs D (p ++ [false])) (best rs D (p ++ [true])) := by rw [best_eq hD, h, if_pos rfl]
  have := both_le (best rs D (p ++ [false])) (best rs D (p ++ [true])) w
  rw [← e] at this
  omega
end
end Th
end L2

end
section
set_option Elab.async false
set_option linter.all false
namespace L2
open PySem
namespace Th
section
variable {rs : List Row} {D : Nat}
/-! ### how a table leads a place, from place to place -/
theorem atH_mem {p : Pl} {r : Row} (h : atH rs p = some r) : r ∈ rs ∧ r.1 = p :=
  ⟨List.mem_of_find?_eq_some h, by have := List.find?_some (p := fun q : Row => q.1 == p) h; simpa using this⟩
theorem led_of {a : List Bool} {o : Option Row} (hn : (rs.map (·.1)).Nodup) (h : Leads rs a o) : led rs a = o.bind (·.2) := by
  unfold led; rw [Leads.unique hn (lead_leads rs a) h]
theorem self_pre (p : Pl) : p.isPrefixOf p = true := List.isPrefixOf_iff_prefix.mpr (List.prefix_refl _)
theorem led_here (hn : (rs.map (·.1)).Nodup) {p : Pl} {r : Row} (h : atH rs p = some r) : led rs p = r.2 := by
  obtain ⟨h1, h2⟩ := atH_mem h
  subst h2
  rw [led_of hn (o := some r) ⟨h1, self_pre _, fun q hq z => (List.isPrefixOf_iff_prefix.mp z).length_le⟩]; rfl
theorem led_nil (hn : (rs.map (·.1)).Nodup) (h : atH rs [] = none) : led rs [] = none := by
  rw [led_of hn (o := none) fun r hr => ?_]; rfl
  have := atH_none.mp h r hr
  cases e : r.1 with
  | nil => exact absurd e this
  | cons a t => rfl
theorem snoc_pre {x p : Pl} {b : Bool} (h : x.isPrefixOf (p ++ [b]) = true) : x = p ++ [b] ∨ x.isPrefixOf p = true := by
  have h := List.isPrefixOf_iff_prefix.mp h
  rcases List.prefix_concat_iff.mp (by simpa using h) with h | h
  · exact .inl (by simpa using h)
  · exact .inr (List.isPrefixOf_iff_prefix.mpr h)
theorem led_up (hn : (rs.map (·.1)).Nodup) {p : Pl} {b : Bool} (h : atH rs (p ++ [b]) = none) : led rs (p ++ [b]) = led rs p := by
  unfold led
  rw [lead_congr fun r hr => ?_]
  have := atH_none.mp h r hr
  rw [Bool.eq_iff_iff]
  constructor
  · intro z
    rcases snoc_pre z with z | z
    · exact absurd z this
    · exact z
  · intro z
    exact pre_trans z (List.isPrefixOf_iff_prefix.mpr (List.prefix_append _ _))
theorem led_leaf {ts : List Row} {l a : Pl} (hl : l <+: a) (h : ∀ r ∈ ts, l <+: r.1 → r.1.length ≤ l.length) : led ts a = led ts l := by
  unfold led
  rw [lead_congr fun r hr => ?_]
  rw [Bool.eq_iff_iff]
  constructor
  · intro z
    have z := List.isPrefixOf_iff_prefix.mp z
    rcases Nat.le_total r.1.length l.length with hc | hc
    · exact List.isPrefixOf_iff_prefix.mpr (List.prefix_of_prefix_length_le z hl hc)
    · have q := List.prefix_of_prefix_length_le hl z hc
      have := h r hr q
      rw [q.eq_of_length (by omega)]; exact self_pre _
  · intro z; exact pre_trans z (List.isPrefixOf_iff_prefix.mpr hl)
theorem leaf_of (hD : ∀ r ∈ rs, r.1.length ≤ D) {a : Pl} (ha : D ≤ a.length) (p : Pl) : isPl rs p → p <+: a → ∃ l, isPl rs l ∧ l <+: a ∧ inn rs l = false := by
  refine tree_ind hD (P := fun p => isPl rs p → p <+: a → ∃ l, isPl rs l ∧ l <+: a ∧ inn rs l = false) (fun p ih hp hpa => ?_) p
  cases h : inn rs p with
  | false => exact ⟨p, hp, hpa, h⟩
  | true =>
    rcases snoc_prefix.mp hpa with e | ⟨b, hb⟩
    · have := inn_deep hD h
      rw [← e] at this
      omega
    · exact ih h b (isPl_of h) hb
/-! ### the told table -/
variable {ps : List Pl}
theorem thin_heads : (thin rs D ps).map (·.1) = ps.filter (hit rs D) := by
  unfold thin
  rw [List.map_map]
  show (ps.filter (hit rs D)).map id = _
  rw [List.map_id]
theorem thin_nodup (hp : ps.Nodup) : ((thin rs D ps).map (·.1)).Nodup := by rw [thin_heads]; exact hp.sublist List.filter_sublist
theorem mem_thin {r : Row} : r ∈ thin rs D ps ↔ r.1 ∈ ps ∧ hit rs D r.1 = true ∧ r.2 = ld rs D r.1 := by
  unfold thin
  rw [List.mem_map]
  constructor
  · rintro ⟨p, hp, rfl⟩
    have := List.mem_filter.mp hp
    exact ⟨this.1, this.2, rfl⟩
  · rintro ⟨h1, h2, h3⟩
    exact ⟨r.1, List.mem_filter.mpr ⟨h1, h2⟩, by rw [← h3]⟩
theorem led_thin (hp : ps.Nodup) (hm : ∀ p, p ∈ ps ↔ isPl rs p) (p : Pl) (h : isPl rs p) : led (thin rs D ps) p = ld rs D p := by
  have nd := thin_nodup (rs := rs) (D := D) hp
  have yes : ∀ p, isPl rs p → hit rs D p = true → led (thin rs D ps) p = ld rs D p := fun p h e => by
    have m : (p, ld rs D p) ∈ thin rs D ps := mem_thin.mpr ⟨(hm p).mpr h, e, rfl⟩
    exact led_here nd (atH_some (r := (p, ld rs D p)) nd m)
  have no : ∀ p, hit rs D p = false → atH (thin rs D ps) p = none ∧ ld rs D p = above rs D p := fun p e => by
    refine ⟨atH_none.mpr fun r hr z => ?_, ?_⟩
    · have := (mem_thin.mp hr).2.1; rw [z, e] at this; cases this
    · rw [ld_eq]
      refine pick_in (contains_iff.mp ?_)
      unfold hit at e
      simpa using e
  have all : ∀ n (p : Pl), p.length = n → isPl rs p → led (thin rs D ps) p = ld rs D p := by
    intro n
    induction n with
    | zero =>
      intro p e h
      have : p = [] := List.length_eq_zero_iff.mp e
      subst this
      cases eh : hit rs D [] with
      | true => exact yes _ h eh
      | false => rw [led_nil nd (no _ eh).1, (no _ eh).2]; rfl
    | succ n ih =>
      intro p e h
      rcases nil_or_snoc p with rfl | ⟨q, b, rfl⟩
      · simp at e
      · cases eh : hit rs D (q ++ [b]) with
        | true => exact yes _ h eh
        | false =>
          rw [led_up nd (no _ eh).1, (no _ eh).2, above_snoc]
          exact ih q (by simpa using e) (isPl_inn (isPl_up h))
  exact all _ p rfl h
theorem thin_alike (hD : ∀ r ∈ rs, r.1.length ≤ D) (hp : ps.Nodup) (hm : ∀ p, p ∈ ps ↔ isPl rs p) {a : Pl} (ha : D ≤ a.length) : led (thin rs D ps) a = led rs a := by
  obtain ⟨l, h1, h2, h3⟩ := leaf_of hD ha [] (.inl rfl) List.nil_prefix
  have e1 : led rs a = led rs l := led_leaf h2 fun r hr z => by
    rcases Nat.lt_or_ge l.length r.1.length with q | q
    · rw [inn_iff.mpr ⟨r, hr, z, q⟩] at h3; cases h3
    · exact q
  have e2 : led (thin rs D ps) a = led (thin rs D ps) l := led_leaf h2 fun r hr z => by
    rcases Nat.lt_or_ge l.length r.1.length with q | q
    · have m := (hm _).mp (mem_thin.mp hr).1
      rcases nil_or_snoc r.1 with e | ⟨p, b, e⟩
      · rw [e] at q; simp at q
      · rw [e] at m q z
        have : l <+: p := by
          rcases List.prefix_concat_iff.mp (by simpa using z) with z | z
          · rw [z] at q; simp at q
          · exact z
        rw [inn_up (isPl_up m) this] at h3; cases h3
    · exact q
  rw [e1, e2, led_thin hp hm l h1]
  have := pick_mem (best_ne hD l) (above rs D l)
  rw [← ld_eq, best_eq hD, h3, if_neg Bool.false_ne_true] at this
  exact List.mem_singleton.mp this
theorem thin_length (hD : ∀ r ∈ rs, r.1.length ≤ D) (hp : ps.Nodup) (hm : ∀ p, p ∈ ps ↔ isPl rs p) : (thin rs D ps).length = cost rs D [] none := by
  unfold thin
  rw [List.length_map]
  have pm : ps.Perm (pre rs D []) := (List.perm_ext_iff_of_nodup hp (nodup_pre hD [])).mpr fun p => by rw [hm, mem_root hD]
  rw [(pm.filter _).length_eq, count_pre hD]; rfl
/-! ### no more rows than were given -/
def sub (rs : List Row) (p : Pl) : Nat := rs.countP fun r => p.isPrefixOf r.1
def below (rs : List Row) (p : Pl) : Nat := rs.countP fun r => p.isPrefixOf r.1 && decide (p.length < r.1.length)
theorem below_le (rs : List Row) (p : Pl) : below rs p ≤ sub rs p := by
  unfold below sub
  exact List.countP_mono_left fun r _ h => by simp only [Bool.and_eq_true] at h; exact h.1
theorem below_lt {p : Pl} : ∀ {rs : List Row}, (∃ r ∈ rs, r.1 = p) → below rs p + 1 ≤ sub rs p
  | [], h => by obtain ⟨r, hr, _⟩ := h; cases hr
  | q :: rs, h => by
    unfold below sub
    rw [List.countP_cons, List.countP_cons]
    have le := below_le rs p
    unfold below sub at le
    by_cases e : q.1 = p
    · have e1 : p.isPrefixOf q.1 = true := by rw [e]; exact self_pre p
      have e2 : (p.isPrefixOf q.1 && decide (p.length < q.1.length)) = false := by rw [e]; simp
      rw [if_neg (by rw [e2]; decide), if_pos e1]; omega
    · obtain ⟨r, hr, er⟩ := h
      rcases List.mem_cons.mp hr with rfl | hr
      · exact absurd er e
      · have ih := below_lt ⟨r, hr, er⟩
        unfold below sub at ih
        have : (if (p.isPrefixOf q.1 && decide (p.length < q.1.length)) = true then 1 else 0) ≤ (if p.isPrefixOf q.1 = true then 1 else 0) := by
          cases p.isPrefixOf q.1 with
          | false => simp
          | true => split <;> simp
        omega
theorem sub_two (p : Pl) : ∀ rs : List Row, sub rs (p ++ [false]) + sub rs (p ++ [true]) ≤ below rs p
  | [] => Nat.le_refl _
  | r :: rs => by
    have ih := sub_two p rs
    unfold sub below at ih ⊢
    rw [List.countP_cons, List.countP_cons, List.countP_cons]
    have hb : ∀ b : Bool, (p ++ [b]).isPrefixOf r.1 = true → (p.isPrefixOf r.1 && decide (p.length < r.1.length)) = true := fun b h => by
      have h := List.isPrefixOf_iff_prefix.mp h
      have hl := h.length_le
      rw [Bool.and_eq_true]
      exact ⟨List.isPrefixOf_iff_prefix.mpr ((List.prefix_append _ _).trans h), decide_eq_true (by simp at hl; omega)⟩
    cases e0 : (p ++ [false]).isPrefixOf r.1 with
    | true =>
      have e1 : (p ++ [true]).isPrefixOf r.1 = false := by
        cases e1 : (p ++ [true]).isPrefixOf r.1 with
        | false => rfl
        | true =>
          have := pre_eq e0 e1 (by simp)
          simp at this
      rw [e1, hb false e0]
      simp only [if_true, Bool.false_eq_true, if_false]; omega
    | false =>
      cases e1 : (p ++ [true]).isPrefixOf r.1 with
      | true => rw [hb true e1]; simp only [if_true, Bool.false_eq_true, if_false]; omega
      | false => simp only [Bool.false_eq_true, if_false]; omega
theorem cost_sub (hD : ∀ r ∈ rs, r.1.length ≤ D) {c : Pl} {w : W} (h : cost rs D c (led rs c) ≤ below rs c) (hw : atH rs c = none → led rs c = w) : cost rs D c w ≤ sub rs c := by
  cases e : atH rs c with
  | none => rw [← hw e]; exact Nat.le_trans h (below_le rs c)
  | some r =>
    have := below_lt ⟨r, atH_mem e⟩
    have q := (cost_base hD c).1
    rw [q] at h ⊢
    have : off (best rs D c) w ≤ 1 := by unfold off; split <;> simp
    omega
theorem cost_below (hn : (rs.map (·.1)).Nodup) (hD : ∀ r ∈ rs, r.1.length ≤ D) (p : Pl) : cost rs D p (led rs p) ≤ below rs p := by
  refine tree_ind hD (P := fun p => cost rs D p (led rs p) ≤ below rs p) (fun p ih => ?_) p
  cases h : inn rs p with
  | false =>
    rw [cost_eq hD, h, if_neg Bool.false_ne_true, best_eq hD, h, if_neg Bool.false_ne_true]
    simp
  | true =>
    refine Nat.le_trans (cost_le hD h _) (Nat.le_trans ?_ (sub_two p rs))
    exact Nat.add_le_add (cost_sub hD (ih h false) fun z => led_up hn z) (cost_sub hD (ih h true) fun z => led_up hn z)
theorem thin_few (hn : (rs.map (·.1)).Nodup) (hD : ∀ r ∈ rs, r.1.length ≤ D) (hp : ps.Nodup) (hm : ∀ p, p ∈ ps ↔ isPl rs p) : (thin rs D ps).length ≤ rs.length := by
  rw [thin_length hD hp hm]
  refine Nat.le_trans (cost_sub hD (cost_below hn hD []) fun z => led_nil hn z) ?_
  exact List.countP_le_length
/-! ### the best ways are ways of the table, or nowhere -/
theorem led_ways {a : Pl} (w : W) (h : led rs a = w) : w = none ∨ ∃ r ∈ rs, r.2 = w := by
  unfold led at h
  cases e : lead rs a with
  | none => rw [e] at h; exact .inl h.symm
  | some r => rw [e] at h; exact .inr ⟨r, (lead_mem e).1, h⟩
theorem best_ways (hD : ∀ r ∈ rs, r.1.length ≤ D) (p : Pl) : ∀ w ∈ best rs D p, w = none ∨ ∃ r ∈ rs, r.2 = w := by
  refine tree_ind hD (P := fun p => ∀ w ∈ best rs D p, w = none ∨ ∃ r ∈ rs, r.2 = w) (fun p ih w hw => ?_) p
  rw [best_eq hD] at hw
  cases h : inn rs p with
  | false =>
    rw [h, if_neg Bool.false_ne_true] at hw
    exact led_ways w (List.mem_singleton.mp hw).symm
  | true =>
    rw [h, if_pos rfl] at hw
    unfold both at hw
    split at hw
    · rcases List.mem_append.mp hw with q | q
      · exact ih h false w q
      · exact ih h true w q
    · exact ih h false w (mem_share.mp hw).1
end
end Th
end L2

end
section
set_option Elab.async false
set_option linter.all false
set_option maxRecDepth 100000
set_option maxHeartbeats 4000000
namespace L2
open PySem PySem.Spec PyProof.Rows Th
local macro_rules | `(tactic| walk_at "rd") => `(tactic| try simp only [tVar, tC, tOp, tUn, tSeq, tAsg, gName, tRet, tRetN, tIfS, tDrop, tNext, tCons, tNil, tCall, tCB, tTest, tB, tAnd, tOr, tNot, tAndV, tOrV, tNotV, tIf, tTup, tLst, tSl, tPart, tNoPart, tBM, tBM0, L2.start, rI2, rI3, rAddA, rMulA, rSubI, rDivI, rModI, rPowI, rNegI, rLt, rLe, rGt, rGe, rIsN, rNotN, rEqS, rNeS, rLen, rIxA, rIntA, rMax2, rMin2, rStrI, rListOf, rIsi2, isiF, isiO, rSlA, rStarts2, rEnds2, CDiv,
  List.map_cons, List.map_nil, List.length_cons, List.length_nil, List.replicate_succ, List.replicate_zero, List.cons_append, List.nil_append, List.append_nil, List.getElem?_cons_zero, List.getElem?_cons_succ, List.set_cons_zero, List.set_cons_succ, Option.some.injEq, V.int.injEq, V.str.injEq, V.bl.injEq, V.ref.injEq, V.ty.injEq, reduceCtorEq, exists_eq_left', exists_eq_left, exists_eq_right, exists_eq_right', exists_eq', exists_eq, exists_and_left, exists_and_right, false_and, and_false, true_and, and_true, exists_const, exists_false, false_or, or_false, List.cons.injEq, and_assoc, decide_eq_true_eq, decide_true, decide_false, Int.reduceLT, Int.reduceLE, Nat.reduceLT, Nat.reduceLeDiff, Nat.reduceSub, Nat.reduceAdd, Nat.sub_self, Nat.sub_zero, enc_eq, enc_nil, enc_0, enc_1, enc_01, enc_append, enc_len, Bool.not_true, Bool.not_false, Bool.false_eq_true, if_true, if_false, ↓reduceIte, String.reduceEq, or_true, true_or, Nat.one_mul, addr_len, bitsBy_len, List.length_append, List.length_replicate, List.length_map])
local macro_rules | `(tactic| walk_at "sz") => `(tactic| (have hline := line_ge; first | omega | (simp; omega)))
local macro_rules | `(tactic| walk_at "rb") => `(tactic| (walk_at "rd"; (try simp only [tDGet, sDPut, tDNewK, kV]); walk_at "rd"; (try simp only [tDGet, sDPut, tDNewK]); walk_at "rd"))
/-- over a list that is made for the loop (as Lib3 has it) -/
theorem tFor_made {K : PySem.W.Frag} {tl : TE} {g : TG} {tb : TS} {D : Ends} {σ : St} {H : Hp}
    (h : ∀ G : V → Hp → Prop, (∀ (a : Addr) (xs : List V) (H1 : Hp) (Pv : List V → St → Hp → Prop), Pv [] σ H1 → (∀ pre post σ H, xs = pre ++ post → Pv pre σ H → SqL K H a xs) →
      (∀ pre x post σ H, xs = pre ++ x :: post → Pv pre σ H → g x σ H fun σ2 H2 => tb { D with nx := Pv (pre ++ [x]), ct := Pv (pre ++ [x]), bk := D.nx } σ2 H2) → (∀ σ H, Pv xs σ H → D.nx σ H) → G (.ref a) H1) → tl σ H G) : tFor (iList K tl) g tb D σ H :=
  h _ fun a xs H1 Pv h0 hl hs hd => ⟨a, rfl, ⟨xs, hl [] xs σ H1 rfl h0⟩, for_listP (xs := xs) Pv h0 hl hs hd⟩
/-! ### dicts of places -/
def dk (ps : List Pl) (f : Pl → V) : List (Key × V) := ps.map fun p => (strK (enc p), f p)
def txt (p : Pl) : V := V.str (enc p)
theorem dk_val (f : Pl → V) (p : Pl) : ∀ ps : List Pl, valV (dk ps f) (strK (enc p)) = if p ∈ ps then some (f p) else none
  | [] => rfl
  | q :: ps => by
    show valV ((strK (enc q), f q) :: dk ps f) _ = _
    by_cases e : q = p
    · subst e; rw [valV_pos rfl, if_pos List.mem_cons_self]
    · rw [valV_neg (fun z => e (enc_inj (strK_inj z))), dk_val f p ps]
      by_cases h : p ∈ ps
      · rw [if_pos h, if_pos (List.mem_cons_of_mem _ h)]
      · rw [if_neg h, if_neg fun z => (List.mem_cons.mp z).elim (fun z => e z.symm) h]
theorem dk_had {ps : List Pl} {f : Pl → V} {p : Pl} {v : V} (h : p ∈ ps) (e : f p = v) : putK (dk ps f) (strK (enc p)) v = dk ps f := by
  unfold putK
  rw [valV_any, dk_val, if_pos h, if_pos (show (some (f p)).isSome = true from rfl)]
  unfold dk
  rw [List.map_map]
  refine List.map_congr_left fun q _ => ?_
  show (if strK (enc q) = strK (enc p) then (strK (enc q), v) else (strK (enc q), f q)) = _
  by_cases z : q = p
  · rw [if_pos (by rw [z]), ← e, z]
  · rw [if_neg fun y => z (enc_inj (strK_inj y))]
theorem dk_add {ps : List Pl} {f : Pl → V} {p : Pl} {v : V} (h : p ∉ ps) (e : f p = v) : putK (dk ps f) (strK (enc p)) v = dk (ps ++ [p]) f := by
  rw [putK_new v (by rw [dk_val, if_neg h])]
  unfold dk
  rw [List.map_append, ← e]; rfl
theorem dk_congr {ps : List Pl} {f g : Pl → V} (h : ∀ p ∈ ps, f p = g p) : dk ps f = dk ps g := List.map_congr_left fun p hp => by rw [h p hp]
theorem dk_keys (ps : List Pl) (f : Pl → V) : KeysS (dk ps f) (ps.map enc) := by
  unfold KeysS dk
  rw [List.map_map, List.map_map]; rfl
theorem dk_len (ps : List Pl) (f : Pl → V) : (dk ps f).length = ps.length := by unfold dk; rw [List.length_map]
theorem enc_nodup {ps : List Pl} (h : ps.Nodup) : (ps.map enc).Nodup := h.map enc fun a b ne z => ne (enc_inj z)
def ins (ps : List Pl) (p : Pl) : List Pl := if p ∈ ps then ps else ps ++ [p]
theorem dk_ins (ps : List Pl) (p : Pl) (v : V) : putK (dk ps fun _ => v) (strK (enc p)) v = dk (ins ps p) fun _ => v := by
  unfold ins
  split
  · rename_i h; exact dk_had h rfl
  · rename_i h; exact dk_add h rfl
theorem mem_ins {ps : List Pl} {p q : Pl} : q ∈ ins ps p ↔ q ∈ ps ∨ q = p := by
  unfold ins
  split
  · rename_i h
    exact ⟨.inl, fun z => z.elim id fun z => z ▸ h⟩
  · simp
theorem nodup_ins {ps : List Pl} {p : Pl} (h : ps.Nodup) : (ins ps p).Nodup := by
  unfold ins
  split
  · exact h
  · rename_i hp
    rw [List.nodup_append]
    refine ⟨h, by simp, fun a ha b hb e => ?_⟩
    rw [e, List.mem_singleton.mp hb] at ha
    exact hp ha
theorem len_ins (ps : List Pl) (p : Pl) : (ins ps p).length ≤ ps.length + 1 := by
  unfold ins
  split
  · omega
  · simp
theorem txts_split {ps : List Pl} {pre : List V} {x : V} {post : List V} (e : ps.map txt = pre ++ x :: post) : ∃ a c b, ps = a ++ c :: b ∧ pre = a.map txt ∧ x = txt c ∧ post = b.map txt := by
  obtain ⟨p, r, e1, e2, e3⟩ := List.map_eq_append_iff.mp e
  obtain ⟨c, q, e4, e5, e6⟩ := List.map_eq_cons_iff.mp e3
  exact ⟨p, c, q, by rw [e1, e4], e2.symm, e5.symm, e6.symm⟩
theorem txt_inj {a b : List Pl} (h : a.map txt = b.map txt) : a = b := List.map_inj_right (fun x y e => enc_inj (V.str.inj e)) |>.mp h
theorem perm_map : ∀ {ps : List Pl} {ss : List Str}, ss.Perm (ps.map enc) → ∃ ps2 : List Pl, ss = ps2.map enc ∧ ps2.Perm ps := by
  intro ps ss h
  have dec : ∀ s ∈ ss, ∃ p, s = enc p := fun s hs => by
    obtain ⟨p, _, e⟩ := List.mem_map.mp (h.mem_iff.mp hs)
    exact ⟨p, e.symm⟩
  have : ∀ ss : List Str, (∀ s ∈ ss, ∃ p, s = enc p) → ∃ ps2 : List Pl, ss = ps2.map enc := by
    intro ss
    induction ss with
    | nil => intro _; exact ⟨[], rfl⟩
    | cons s ss ih =>
      intro hd
      obtain ⟨p, e⟩ := hd s List.mem_cons_self
      obtain ⟨ps2, e2⟩ := ih fun s hs => hd s (List.mem_cons_of_mem _ hs)
      exact ⟨p :: ps2, by rw [e, e2]; rfl⟩
  obtain ⟨ps2, rfl⟩ := this ss dec
  refine ⟨ps2, rfl, ?_⟩
  rw [List.perm_iff_count] at h ⊢
  intro p
  have := h (enc p)
  have inj : ∀ l : List Pl, (l.map enc).count (enc p) = l.count p := fun l => by
    rw [List.count, List.countP_map]
    refine List.countP_congr fun x _ => ?_
    simp [enc_eq]
  rwa [inj, inj] at this
/-! ### the order of places: a shorter one stands ahead of those that it begins -/
def Par (ps : List Pl) : Prop := ∀ pre q b post, ps = pre ++ (q ++ [b]) :: post → q ∈ pre
theorem enc_lt (q : Pl) (b : Bool) : (enc q).cps.toList < (enc (q ++ [b])).cps.toList := by
  rw [enc_cps, enc_cps, List.map_append]
  generalize q.map sg = l
  induction l with
  | nil => exact List.Lex.nil
  | cons a l ih => exact List.Lex.cons ih
theorem par_of {rs : List Row} {ps : List Pl} (hm : ∀ p, p ∈ ps ↔ isPl rs p) (hu : upS (ps.map enc)) : Par ps := by
  intro pre q b post e
  have h1 : isPl rs (q ++ [b]) := (hm _).mp (by rw [e]; simp)
  have h2 : q ∈ ps := (hm _).mpr (isPl_inn (isPl_up h1))
  rw [e] at h2
  rcases List.mem_append.mp h2 with h | h
  · exact h
  · rcases List.mem_cons.mp h with h | h
    · have := congrArg List.length h; simp at this
    · unfold upS at hu
      rw [e, List.map_append, List.map_cons] at hu
      have := (List.pairwise_cons.mp (List.pairwise_append.mp hu).2.1).1 (enc q) (List.mem_map.mpr ⟨q, h, rfl⟩)
      exact absurd (enc_lt q b) this
theorem kids_of {rs : List Row} {ps pd suf : List Pl} {p : Pl} (hn : ps.Nodup) (hm : ∀ p, p ∈ ps ↔ isPl rs p) (hp : Par ps) (e : ps.reverse = pd ++ p :: suf) (b : Bool) : (p ++ [b] ∈ pd) ↔ inn rs p = true := by
  have e2 : ps = suf.reverse ++ p :: pd.reverse := by
    have := congrArg List.reverse e
    rw [List.reverse_reverse, List.reverse_append, List.reverse_cons, List.append_assoc] at this
    exact this
  constructor
  · intro h
    exact isPl_up (b := b) ((hm _).mp (by rw [e2]; exact List.mem_append_right _ (List.mem_cons_of_mem _ (List.mem_reverse.mpr h))))
  · intro h
    have hc : p ++ [b] ∈ ps := (hm _).mpr (isPl_of h)
    obtain ⟨x, y, exy⟩ := List.append_of_mem hc
    have hq := hp x p b y exy
    rw [e2] at hc
    rcases List.mem_append.mp hc with z | z
    · exfalso
      obtain ⟨u, v, euv⟩ := List.append_of_mem z
      have e3 : ps = u ++ (p ++ [b]) :: (v ++ p :: pd.reverse) := by rw [e2, euv]; simp
      have hu := hp u p b _ e3
      rw [e3] at hn
      have := (List.nodup_append.mp hn).2.2 p hu p (by simp)
      exact this rfl
    · rcases List.mem_cons.mp z with z | z
      · have := congrArg List.length z; simp at this
      · exact List.mem_reverse.mp z
/-! ### the places of a table -/
def rb_places_of_1 (K : PySem.W.Frag) : TS :=
  (tSeq (sDPut (tVar 1) (tOp rAddA (tSl (rSlA K) (tOp (rIxA K) (tVar 2) (tC (.int 0))) tNoPart (tPart (tVar 3))) (tC (.str (Str.ofString "0")))) (tC (.bl true)))
  (sDPut (tVar 1) (tOp rAddA (tSl (rSlA K) (tOp (rIxA K) (tVar 2) (tC (.int 0))) tNoPart (tPart (tVar 3))) (tC (.str (Str.ofString "1")))) (tC (.bl true))))
def rb_places_of_2 (K : PySem.W.Frag) : TS :=
  (tFor (iRng1 (tCons (tCB (rLen K) (tCons (tOp (rIxA K) (tVar 2) (tC (.int 0))) tNil)) tNil)) (gName 3) (rb_places_of_1 K))
def rd_places_of (K : PySem.W.Frag) : TS :=
  (tSeq (tAsg (tDisp (((tC (.str (Str.ofString ""))), (tC (.bl true))) :: [])) (gName 1))
  (tSeq (tFor (iList K (tVar 0)) (gName 2) (rb_places_of_2 K))
  (tRet (tCB rSortedA (tCons (tVar 1) tNil)))))
def nm_places_of : List Str := ["rows", "places", "row", "length"]
theorem isPl_app {pr : List Row} {r : Row} {p : Pl} : isPl (pr ++ [r]) p ↔ isPl pr p ∨ ∃ l, l < r.1.length ∧ ∃ b, p = r.1.take l ++ [b] := by
  have inn_app : ∀ q, inn (pr ++ [r]) q = true ↔ inn pr q = true ∨ (q <+: r.1 ∧ q.length < r.1.length) := fun q => by
    rw [inn_iff, inn_iff]
    constructor
    · rintro ⟨x, hx, h⟩
      rcases List.mem_append.mp hx with hx | hx
      · exact .inl ⟨x, hx, h⟩
      · rw [List.mem_singleton.mp hx] at h; exact .inr h
    · rintro (⟨x, hx, h⟩ | h)
      · exact ⟨x, List.mem_append_left _ hx, h⟩
      · exact ⟨r, by simp, h⟩
  unfold isPl
  constructor
  · rintro (h | ⟨q, b, e, h⟩)
    · exact .inl (.inl h)
    · rcases (inn_app q).mp h with h | ⟨h1, h2⟩
      · exact .inl (.inr ⟨q, b, e, h⟩)
      · exact .inr ⟨q.length, h2, b, by rw [← List.prefix_iff_eq_take.mp h1]; exact e⟩
  · rintro ((h | ⟨q, b, e, h⟩) | ⟨l, hl, b, e⟩)
    · exact .inl h
    · exact .inr ⟨q, b, e, (inn_app q).mpr (.inl h)⟩
    · exact .inr ⟨_, b, e, (inn_app _).mpr (.inr ⟨List.take_prefix _ _, by rw [List.length_take]; omega⟩)⟩
/-- a table that is not too big for its places -/
structure TabD (rs : List Row) (D : Nat) : Prop where
  nd : (rs.map (·.1)).Nodup
  len : ∀ r ∈ rs, r.1.length ≤ D
  few : 2 * (rs.length * D) + 1 ≤ 900
  d : D ≤ 100
def sp_places_of (K : PySem.W.Frag) : Sp := fun vs H Q _ => ∃ (a : Addr) (xs : List V) (rs : List Row) (D : Nat), vs = [.ref a] ∧ H a = some (.lst xs) ∧ RowsAre H xs rs ∧ TabD rs D ∧
  ∀ l H' (ps : List Pl), Same H H' → H l = none → H' l = some (.lst (ps.map txt)) → ps.Nodup → (∀ p, p ∈ ps ↔ isPl rs p) → upS (ps.map enc) → ps.length ≤ 900 → Q (.ref l) H'
theorem len_places_of {K vs H Q E} (h : sp_places_of K vs H Q E) : vs.length = 1 := by obtain ⟨_, _, _, _, rfl, _⟩ := h; rfl
def PlO (H : Hp) (a d : Addr) (D : Nat) (pre : List V) (σ : St) (H' : Hp) : Prop := ∃ pr ps o1 o2, RowsAre H pre pr ∧ H' = upd H d (.dK (dk ps fun _ => .bl true)) ∧ σ = [some (.ref a), some (.ref d), o1, o2] ∧ ps.Nodup ∧ (∀ p, p ∈ ps ↔ isPl pr p) ∧ ps.length ≤ 1 + 2 * (pr.length * D)
def PlN (H : Hp) (a d pp : Addr) (D : Nat) (m1 : List Row) (h : Pl) (i : Nat) (σ : St) (H' : Hp) : Prop := ∃ ps o, H' = upd H d (.dK (dk ps fun _ => .bl true)) ∧ σ = [some (.ref a), some (.ref d), some (.ref pp), o] ∧ ps.Nodup ∧ (∀ p, p ∈ ps ↔ isPl m1 p ∨ ∃ l, l < i ∧ ∃ b, p = h.take l ++ [b]) ∧ ps.length ≤ 1 + 2 * (m1.length * D) + 2 * i
theorem rdok_places_of {K vs H Q E} (h : sp_places_of K vs H Q E) : rd_places_of K { nx := fun _ H' => Q .non H', rt := Q } (start nm_places_of vs) H := by
  obtain ⟨a, xs, rs, D, rfl, ha, hr, T, q⟩ := h
  simp only [rd_places_of, nm_places_of, L2.start]
  refine tSeq_gen fun U hU => ?_
  simp only [tAsg, tDisp, tPairs]
  intro d hd
  walk_at "rd"
  refine ⟨upd_same, [(strK (enc []), .bl true)], rfl, by decide, ?_⟩
  rw [upd_upd]
  show U { nx := fun x H' => Q V.non H', rt := Q } [some (.ref a), some (.ref d), none, none] (upd H d (.dK (dk [[]] fun _ => .bl true)))
  subst hU
  refine tSeq_gen fun U hU => ?_
  have na : a ≠ d := fun z => by rw [z, hd] at ha; cases ha
  have sd : ∀ o, Same H (upd H d o) := fun o => Same.upd hd
  refine tFor_lst a xs (PlO H a d D) (fun R z => by walk_at "rd"; exact z) ?_ ?_ ?_ ?_
  · refine ⟨[], [[]], none, none, .nil, rfl, rfl, by simp, fun p => ?_, by simp⟩
    unfold isPl inn
    simp
  · rintro pre post σ H' e ⟨pr, ps, o1, o2, _, rfl, _⟩
    exact SqL.of (sd _ _ _ ha)
  · rintro pre x post σ H' e ⟨pr, ps, o1, o2, hp, rfl, rfl, nd, hm, hl⟩
    rw [e] at hr
    obtain ⟨m1, r, m2, em, h1, h2, h3⟩ := Paired.split1 hr
    have e1 : m1 = pr := Paired.inj_left (F := RowIs H) (fun _ _ _ a b => RowIs.inj a b) h1 hp
    subst e1
    have hrm : r ∈ rs := by rw [em]; simp
    have lr := T.len r hrm
    have lm : m1.length + 1 ≤ rs.length := by rw [em]; simp
    have big : (m1.length + 1) * D ≤ rs.length * D := Nat.mul_le_mul_right D lm
    have big2 : (m1.length + 1) * D = m1.length * D + D := Nat.succ_mul _ _
    have few := T.few
    obtain ⟨pp, rfl, hpp⟩ := id h2
    walk_at "rd"
    refine tFor_rng1 r.1.length (by have := T.d; omega) (PlN H a d pp D m1 r.1) (fun R z => ?_) ?_ ?_ ?_
    · walk_at "rd"
      refine ⟨_, .inr (SqT.of (sd _ _ _ hpp)), _, rfl, ?_⟩
      walk_at "rd"
      exact ⟨by walk_at "sz", z⟩
    · refine ⟨ps, o2, rfl, rfl, nd, fun p => ?_, by omega⟩
      rw [hm]
      exact ⟨.inl, fun z => z.elim id fun ⟨l, hl, _⟩ => absurd hl (by omega)⟩
    · rintro i σ' H' hi ⟨ps', o, rfl, rfl, nd', hm', hl'⟩
      walk_at "rd"
      simp only [rb_places_of_1]
      refine tSeq_gen fun U2 hU2 => ?_
      walk_at "rb"
      refine ⟨_, .inr (SqT.of (sd _ _ _ hpp)), _, rfl, ?_⟩
      walk_at "rd"
      refine ⟨by walk_at "sz", ?_⟩
      rw [cut_to]
      walk_at "rd"
      refine ⟨by rw [List.length_take]; walk_at "sz", _, .inl ⟨dk ps' (fun _ => .bl true), strK (enc (r.1.take i ++ [false])), upd_same, rfl, by rw [dk_len]; walk_at "sz", by rw [dk_ins]⟩, ?_⟩
      rw [upd_upd]
      subst hU2
      walk_at "rb"
      refine ⟨_, .inr (SqT.of (sd _ _ _ hpp)), _, rfl, ?_⟩
      walk_at "rd"
      refine ⟨by walk_at "sz", ?_⟩
      rw [cut_to]
      walk_at "rd"
      have l1 := len_ins ps' (r.1.take i ++ [false])
      have l2 := len_ins (ins ps' (r.1.take i ++ [false])) (r.1.take i ++ [true])
      refine ⟨by rw [List.length_take]; walk_at "sz", _, .inl ⟨dk (ins ps' (r.1.take i ++ [false])) (fun _ => .bl true), strK (enc (r.1.take i ++ [true])), upd_same, rfl, by rw [dk_len]; walk_at "sz", by rw [dk_ins]⟩, ?_⟩
      rw [upd_upd]
      refine ⟨_, _, rfl, rfl, nodup_ins (nodup_ins nd'), fun p => ?_, by omega⟩
      rw [mem_ins, mem_ins, hm']
      constructor
      · rintro (((h | ⟨l, hl, b, e⟩) | h) | h)
        · exact .inl h
        · exact .inr ⟨l, by omega, b, e⟩
        · exact .inr ⟨i, by omega, false, h⟩
        · exact .inr ⟨i, by omega, true, h⟩
      · rintro (h | ⟨l, hl, b, e⟩)
        · exact .inl (.inl (.inl h))
        · by_cases hli : l = i
          · subst hli
            cases b
            · exact .inl (.inr e)
            · exact .inr e
          · exact .inl (.inl (.inr ⟨l, by omega, b, e⟩))
    · rintro σ' H' ⟨ps', o, rfl, rfl, nd', hm', hl'⟩
      refine ⟨m1 ++ [r], ps', some (.ref pp), o, Paired.append h1 (.cons h2 .nil), rfl, rfl, nd', fun p => ?_, ?_⟩
      · rw [hm', isPl_app]
      · rw [List.length_append]
        simp only [List.length_cons, List.length_nil, Nat.zero_add]
        omega
  · rintro σ H' ⟨pr, ps, o1, o2, hp, rfl, rfl, nd, hm, hl⟩
    have e1 : pr = rs := Paired.inj_left (F := RowIs H) (fun _ _ _ a b => RowIs.inj a b) hp hr
    subst e1
    have few := T.few
    dsimp only
    subst hU
    walk_at "rd"
    refine ⟨dk ps (fun _ => .bl true), ps.map enc, .inl upd_same, dk_keys ps _, by rw [List.length_map]; omega, enc_nodup nd, fun l ss hl2 pm up => ?_⟩
    obtain ⟨ps2, rfl, pm2⟩ : ∃ ps2 : List Pl, ss = ps2.map enc ∧ ps2.Perm ps := perm_map pm
    have n2 : ps2.Nodup := pm2.nodup_iff.mpr nd
    refine q l _ ps2 ((sd _).trans (Same.upd hl2)) ((sd _).free hl2) ?_ n2 (fun p => by rw [pm2.mem_iff, hm]) up (by rw [pm2.length_eq]; omega)
    rw [upd_same, List.map_map]; rfl
/-! ### the way above a place -/
theorem cut_init (q : Pl) (b : Bool) : cutS (enc (q ++ [b])) none (some (-1)) = enc q := by
  have e : cutS (enc (q ++ [b])) none (some (-1)) = cutS (enc (q ++ [b])) none (some (q.length : Int)) := by
    unfold cutS
    rw [HT.sIx_nat]
    have h1 : HT.sIx (enc (q ++ [b])).length (enc (q ++ [b])).length (some (-1)) = min q.length (enc (q ++ [b])).length := by
      rw [enc_len]
      show (if (-1 : Int) < 0 then ((-1 : Int) + ((q ++ [b]).length : Int)).toNat else min (-1 : Int).toNat (q ++ [b]).length) = _
      rw [if_pos (by decide), List.length_append]
      simp only [List.length_cons, List.length_nil]
      omega
    rw [h1]
  rw [e, cut_to, List.take_append_of_le_length (Nat.le_refl _), List.take_length]
def rd_way_above (K : PySem.W.Frag) : TS :=
  (tRet (tIf (tTest (tOp rEqS (tVar 1) (tC (.str (Str.ofString ""))))) (tC .non) (tDGet (tVar 0) (tSl (rSlA K) (tVar 1) tNoPart (tPart (tUn rNegI (tC (.int 1))))))))
def nm_way_above : List Str := ["ways", "place"]
def sp_way_above (K : PySem.W.Frag) : Sp := fun vs H Q _ => ∃ (d : Addr) (kvs : List (Key × V)) (p : Pl), vs = [.ref d, txt p] ∧ H d = some (.dK kvs) ∧ p.length ≤ 1000 ∧ ((p = [] ∧ Q .non H) ∨ ∃ q b v, p = q ++ [b] ∧ valV kvs (strK (enc q)) = some v ∧ Q v H)
theorem len_way_above {K vs H Q E} (h : sp_way_above K vs H Q E) : vs.length = 2 := by obtain ⟨_, _, _, rfl, _⟩ := h; rfl
theorem rdok_way_above {K vs H Q E} (h : sp_way_above K vs H Q E) : rd_way_above K { nx := fun _ H' => Q .non H', rt := Q } (start nm_way_above vs) H := by
  obtain ⟨d, kvs, p, rfl, hd, hl, q⟩ := h
  simp only [rd_way_above, nm_way_above, L2.start, txt]
  walk_at "rd"
  rcases q with ⟨rfl, q⟩ | ⟨q0, b, v, rfl, hv, q⟩
  · rw [if_pos rfl]
    exact q
  · rw [if_neg (by simp)]
    walk_at "rb"
    simp only [List.length_append, List.length_cons, List.length_nil] at hl
    refine ⟨by walk_at "sz", ?_⟩
    rw [show -(1 : Int) = -1 from rfl, cut_init]
    exact ⟨v, .inl ⟨kvs, strK (enc q0), .inl hd, rfl, hv.symm⟩, q⟩
/-! ### the ways of the places -/
def rb_ways_at_1 (K : PySem.W.Frag) : TS :=
  (sDPut (tVar 3) (tVar 4) (tIf (tTest (tOp (rInK false) (tVar 4) (tVar 2))) (tDGet (tVar 2) (tVar 4)) (tCall (sp_way_above K) [] E0 (tCons (tVar 3) (tCons (tVar 4) tNil)))))
def rd_ways_at (K : PySem.W.Frag) : TS :=
  (tSeq (tAsg (tCB (rDictOf K) (tCons (tVar 0) tNil)) (gName 2))
  (tSeq (tAsg tDNewK (gName 3))
  (tSeq (tFor (iList K (tVar 1)) (gName 4) (rb_ways_at_1 K))
  (tRet (tVar 3)))))
def nm_ways_at : List Str := ["rows", "places", "told", "ways", "place"]
def sp_ways_at (K : PySem.W.Frag) : Sp := fun vs H Q _ => ∃ (a l : Addr) (xs : List V) (rs : List Row) (ps : List Pl), vs = [.ref a, .ref l] ∧ H a = some (.lst xs) ∧ RowsAre H xs rs ∧ (rs.map (·.1)).Nodup ∧ rs.length ≤ 1000 ∧ H l = some (.lst (ps.map txt)) ∧ ps.Nodup ∧ Par ps ∧ ps.length ≤ 900 ∧ (∀ p ∈ ps, p.length ≤ 1000) ∧
  ∀ d H', Same H H' → H d = none → H' d = some (.dK (dk ps fun p => wayV (led rs p))) → Q (.ref d) H'
theorem len_ways_at {K vs H Q E} (h : sp_ways_at K vs H Q E) : vs.length = 2 := by obtain ⟨_, _, _, _, _, rfl, _⟩ := h; rfl
def WaI (H1 : Hp) (a l t d : Addr) (rs : List Row) (pre : List V) (σ : St) (H' : Hp) : Prop := ∃ pd o, pre = pd.map txt ∧ H' = upd H1 d (.dK (dk pd fun p => wayV (led rs p))) ∧ σ = [some (.ref a), some (.ref l), some (.ref t), some (.ref d), o]
theorem rdok_ways_at {K vs H Q E} (h : sp_ways_at K vs H Q E) : rd_ways_at K { nx := fun _ H' => Q .non H', rt := Q } (start nm_ways_at vs) H := by
  obtain ⟨a, l, xs, rs, ps, rfl, ha, hr, nd, hrl, hl, np, par, hpl, hlen, q⟩ := h
  simp only [rd_ways_at, nm_ways_at, L2.start]
  refine tSeq_gen fun U hU => ?_
  walk_at "rd"
  refine ⟨xs, tabK rs, SqL.of ha, tabK_pairs hr, tabK_nodup nd, by unfold tabK; rw [List.length_map]; exact hrl, fun t ht => ?_⟩
  have s1 : Same H (upd H t (.dK (tabK rs))) := Same.upd ht
  have h1 : upd H t (.dK (tabK rs)) t = some (.dK (tabK rs)) := upd_same
  generalize upd H t (.dK (tabK rs)) = H1 at s1 h1 ⊢
  subst hU
  refine tSeq_gen fun U hU => ?_
  simp only [tAsg, tDNewK]
  intro d hd
  walk_at "rd"
  have nl : l ≠ d := fun z => by have := s1 _ _ hl; rw [z, hd] at this; cases this
  have nt : t ≠ d := fun z => by rw [z, hd] at h1; cases h1
  have sd : ∀ o, Same H1 (upd H1 d o) := fun o => Same.upd hd
  show U { nx := fun x H' => Q V.non H', rt := Q } [some (.ref a), some (.ref l), some (.ref t), some (.ref d), none] (upd H1 d (.dK (dk [] fun p => wayV (led rs p))))
  subst hU
  refine tSeq_gen fun U hU => ?_
  refine tFor_lst l (ps.map txt) (WaI H1 a l t d rs) (fun R z => by walk_at "rd"; exact z) ⟨[], none, rfl, rfl, rfl⟩ ?_ ?_ ?_
  · rintro pre post σ H' e ⟨pd, o, _, rfl, _⟩
    exact SqL.of (sd _ _ _ (s1 _ _ hl))
  · rintro pre x post σ H' e ⟨pd, o, rfl, rfl, rfl⟩
    obtain ⟨pd', p, suf, e1, e2, rfl, e3⟩ := txts_split e
    have := txt_inj e2
    subst this
    have hpn : p ∉ pd := fun z => by
      rw [e1] at np
      exact (List.nodup_append.mp np).2.2 p z p (by simp) rfl
    have lpd : pd.length < ps.length := by rw [e1]; simp
    walk_at "rd"
    simp only [rb_ways_at_1]
    simp only [sDPut, tIf]
    walk_at "rd"
    simp only [txt]
    refine ⟨t, tabK rs, strK (enc p), rfl, .inl (by rw [upd_ne nt]; exact h1), rfl, ?_⟩
    rw [valV_tabK, Option.isSome_map]
    have put : ∀ v, v = wayV (led rs p) → ∃ a_1 H4, V.ref d = V.ref a_1 ∧ DPut (upd H1 d (.dK (dk pd fun p => wayV (led rs p)))) a_1 (.str (enc p)) v H4 ∧ WaI H1 a l t d rs (pd.map txt ++ [.str (enc p)]) [some (.ref a), some (.ref l), some (.ref t), some (.ref d), some (.str (enc p))] H4 := fun v ev => by
      refine ⟨d, _, rfl, .inl ⟨dk pd fun p => wayV (led rs p), strK (enc p), upd_same, rfl, by rw [dk_len]; walk_at "sz", rfl⟩, pd ++ [p], _, by rw [List.map_append]; rfl, ?_, rfl⟩
      rw [upd_upd, dk_add hpn ev.symm]
    cases hat : atH rs p with
    | some r =>
      simp only [Option.isSome_some, if_true]
      simp only [tDGet]
      walk_at "rd"
      refine ⟨wayV r.2, .inl ⟨tabK rs, strK (enc p), .inl (by rw [upd_ne nt]; exact h1), rfl, by rw [valV_tabK, hat]; rfl⟩, ?_⟩
      have := put (wayV r.2) (by rw [led_here nd hat])
      simpa using this
    | none =>
      simp only [Option.isSome_none, Bool.false_eq_true, if_false]
      walk_at "rd"
      refine ⟨d, dk pd fun p => wayV (led rs p), p, rfl, upd_same, hlen p (by rw [e1]; simp), ?_⟩
      rcases nil_or_snoc p with rfl | ⟨q0, b, rfl⟩
      · refine .inl ⟨rfl, ?_⟩
        have := put .non (by rw [led_nil nd hat]; rfl)
        simpa using this
      · refine .inr ⟨q0, b, wayV (led rs q0), rfl, ?_, ?_⟩
        · rw [dk_val, if_pos (par pd q0 b suf e1)]
        · have := put (wayV (led rs q0)) (by rw [led_up nd hat])
          simpa using this
  · rintro σ H' ⟨pd, o, e, rfl, rfl⟩
    have := txt_inj e
    subst this
    dsimp only
    subst hU
    walk_at "rd"
    exact q d _ (s1.trans (sd _)) (s1.free hd) upd_same
/-! ### the best ways -/
theorem eqV_way (a b : W) : eqV (wayV a) (wayV b) = (b == a) := by
  cases a <;> cases b <;> simp [wayV, eqV]
  rw [Bool.eq_iff_iff, beq_iff_eq, beq_iff_eq]
  exact eq_comm
theorem flat_way (a : W) : flatV (wayV a) = true := by cases a <;> rfl
theorem flat_ways (ws : List W) : (ws.map wayV).all flatV = true := by
  rw [List.all_map, List.all_eq_true]
  exact fun w _ => flat_way w
theorem inV_ways (w : W) (ws : List W) : inV (wayV w) (ws.map wayV) = ws.contains w := by
  unfold inV
  rw [List.any_map, List.contains_eq_any_beq]
  congr 1
  funext x
  exact eqV_way x w
def rd_best_of_both (K : PySem.W.Frag) : TS :=
  (tSeq (tAsg (tComp [(1, "others")] (iList K (tVar 0)) (tTest (tOp (rIn K false) (tVar 0) (tVar 1))) (tVar 0)) (gName 2))
  (tRet (tIf (tTruL K (tVar 2)) (tVar 2) (tOp rAddA (tVar 0) (tVar 1)))))
def nm_best_of_both : List Str := ["ones", "others", "shared"]
def sp_best_of_both (K : PySem.W.Frag) : Sp := fun vs H Q _ => ∃ (a b : Addr) (us ws : List W), vs = [.ref a, .ref b] ∧ H a = some (.lst (us.map wayV)) ∧ H b = some (.lst (ws.map wayV)) ∧ us.length + ws.length ≤ 1000 ∧
  ∀ l H', Same H H' → H l = none → H' l = some (.lst ((both us ws).map wayV)) → Q (.ref l) H'
theorem len_best_of_both {K vs H Q E} (h : sp_best_of_both K vs H Q E) : vs.length = 2 := by obtain ⟨_, _, _, _, rfl, _⟩ := h; rfl
theorem filter_ways (us ws : List W) (p : V → Bool) (hp : ∀ w, p (wayV w) = ws.contains w) : ((us.map wayV).filter p).map id = (share us ws).map wayV := by
  rw [List.map_id, List.filter_map]
  unfold share
  congr 1
  exact List.filter_congr fun w _ => hp w
theorem rdok_best_of_both {K vs H Q E} (h : sp_best_of_both K vs H Q E) : rd_best_of_both K { nx := fun _ H' => Q .non H', rt := Q } (start nm_best_of_both vs) H := by
  obtain ⟨a, b, us, ws, rfl, ha, hb, hl, q⟩ := h
  simp only [rd_best_of_both, nm_best_of_both, L2.start]
  refine tSeq_gen fun U hU => ?_
  simp only [tAsg]
  refine tComp_lst a (us.map wayV) (fun v => inV v (ws.map wayV)) id (fun R z => by walk_at "rd"; exact z) (SqL.of ha) (by rw [List.length_map]; walk_at "sz") (fun v hv H' R sm z => ?_) (fun v hv _ H' R sm z => ?_) (fun l hl0 => ?_)
  · obtain ⟨w, _, rfl⟩ := List.mem_map.mp hv
    simp only [capt]
    walk_at "rd"
    exact ⟨_, rfl, b, ws.map wayV, rfl, .inl (SqL.of (sm _ _ hb)), flat_way w, flat_ways ws, _, rfl, z⟩
  · simp only [capt]
    walk_at "rd"
    exact z
  · rw [filter_ways us ws _ fun w => inV_ways w ws]
    have s1 : Same H (upd H l (.lst ((share us ws).map wayV))) := Same.upd hl0
    have h1 : upd H l (.lst ((share us ws).map wayV)) l = some (.lst ((share us ws).map wayV)) := upd_same
    generalize upd H l (.lst ((share us ws).map wayV)) = H1 at s1 h1 ⊢
    walk_at "rd"
    subst hU
    simp only [tRet, tIf, tTruL]
    walk_at "rd"
    refine ⟨_, SqL.of h1, ?_⟩
    rw [List.isEmpty_map]
    cases e : (share us ws).isEmpty with
    | true =>
      simp only [Bool.not_true, Bool.false_eq_true, if_false]
      refine ⟨_, s1 _ _ ha, _, s1 _ _ hb, by (try rw [List.length_map, List.length_map]); walk_at "sz", fun p hp => ?_⟩
      refine q p _ (s1.trans (Same.upd hp)) (s1.free hp) ?_
      rw [upd_same]
      unfold both
      rw [e, if_pos rfl, List.map_append]
    | false =>
      simp only [Bool.not_false, if_true]
      refine q l _ s1 hl0 ?_
      rw [h1]
      unfold both
      rw [e, if_neg Bool.false_ne_true]
theorem len_both (a b : List W) : (both a b).length ≤ a.length + b.length := by
  unfold both share
  split
  · rw [List.length_append]; exact Nat.le_refl _
  · exact Nat.le_trans (List.length_filter_le _ _) (Nat.le_add_right _ _)
theorem best_pre {rs : List Row} {D : Nat} (hD : ∀ r ∈ rs, r.1.length ≤ D) (p : Pl) : (best rs D p).length ≤ (pre rs D p).length := by
  refine tree_ind hD (P := fun p => (best rs D p).length ≤ (pre rs D p).length) (fun p ih => ?_) p
  rw [best_eq hD, pre_eqn hD]
  cases h : inn rs p with
  | false => simp
  | true =>
    rw [if_pos rfl, if_pos rfl, List.length_cons, List.length_append]
    have := len_both (best rs D (p ++ [false])) (best rs D (p ++ [true]))
    have h1 := ih h false
    have h2 := ih h true
    omega
theorem two_pre {rs : List Row} {D : Nat} (hD : ∀ r ∈ rs, r.1.length ≤ D) : ∀ (n : Nat) (p : Pl), p.length = n → isPl rs p → (pre rs D p).length ≤ (pre rs D []).length := by
  intro n
  induction n with
  | zero =>
    intro p e _
    rw [List.length_eq_zero_iff.mp e]
    exact Nat.le_refl _
  | succ n ih =>
    intro p e h
    rcases nil_or_snoc p with rfl | ⟨q, b, rfl⟩
    · simp at e
    · have hi := isPl_up h
      refine Nat.le_trans ?_ (ih q (by simpa using e) (isPl_inn hi))
      rw [pre_eqn hD q, hi, if_pos rfl, List.length_cons, List.length_append]
      cases b <;> omega
def rb_best_ways_1 (K : PySem.W.Frag) : TS :=
  (tIfS (tTest (tOp (rInK false) (tOp rAddA (tVar 4) (tC (.str (Str.ofString "0")))) (tVar 3))) (sDPut (tVar 3) (tVar 4) (tCall (sp_best_of_both K) [] E0 (tCons (tDGet (tVar 3) (tOp rAddA (tVar 4) (tC (.str (Str.ofString "0"))))) (tCons (tDGet (tVar 3) (tOp rAddA (tVar 4) (tC (.str (Str.ofString "1"))))) tNil)))) (sDPut (tVar 3) (tVar 4) (tLst (tCons (tDGet (tVar 2) (tVar 4)) tNil))))
def rd_best_ways (K : PySem.W.Frag) : TS :=
  (tSeq (tAsg (tCall (sp_places_of K) [] E0 (tCons (tVar 0) tNil)) (gName 1))
  (tSeq (tAsg (tCall (sp_ways_at K) [] E0 (tCons (tVar 0) (tCons (tVar 1) tNil))) (gName 2))
  (tSeq (tAsg tDNewK (gName 3))
  (tSeq (tFor (iRev K (tCons (tVar 1) tNil)) (gName 4) (rb_best_ways_1 K))
  (tRet (tVar 3))))))
def nm_best_ways : List Str := ["rows", "places", "ways", "best", "place"]
def sp_best_ways (K : PySem.W.Frag) : Sp := fun vs H Q _ => ∃ (a : Addr) (xs : List V) (rs : List Row) (D : Nat), vs = [.ref a] ∧ H a = some (.lst xs) ∧ RowsAre H xs rs ∧ TabD rs D ∧
  ∀ d H' (ps : List Pl) (A : Pl → Addr), Same H H' → H d = none → H' d = some (.dK (dk ps fun p => .ref (A p))) → ps.Nodup → (∀ p, p ∈ ps ↔ isPl rs p) → ps.length ≤ 900 → (∀ p ∈ ps, H' (A p) = some (.lst ((best rs D p).map wayV))) → Q (.ref d) H'
theorem len_best_ways {K vs H Q E} (h : sp_best_ways K vs H Q E) : vs.length = 1 := by obtain ⟨_, _, _, _, rfl, _⟩ := h; rfl
def BeI (H2 : Hp) (a l w d : Addr) (rs : List Row) (D : Nat) (done : List V) (σ : St) (H' : Hp) : Prop := ∃ (pd : List Pl) (A : Pl → Addr) (o : Option V), done = pd.map txt ∧ Same H2 H' ∧ H' d = some (.dK (dk pd fun p => .ref (A p))) ∧ (∀ p ∈ pd, H' (A p) = some (.lst ((best rs D p).map wayV))) ∧ σ = [some (.ref a), some (.ref l), some (.ref w), some (.ref d), o]
theorem BeI.add {H2 H' : Hp} {a l w d p' : Addr} {rs : List Row} {D : Nat} {pd : List Pl} {A : Pl → Addr} {p : Pl} {H4 : Hp} (hd2 : H2 d = none) (sm : Same H2 H') (hd : H' d = some (.dK (dk pd fun p => .ref (A p)))) (hA : ∀ p ∈ pd, H' (A p) = some (.lst ((best rs D p).map wayV))) (hp : p ∉ pd) (s4 : Same H' H4) (h4 : H4 p' = some (.lst ((best rs D p).map wayV))) (lz : pd.length < sizeLine) :
    ∃ H5, DPut H4 d (txt p) (.ref p') H5 ∧ BeI H2 a l w d rs D (pd.map txt ++ [txt p]) [some (.ref a), some (.ref l), some (.ref w), some (.ref d), some (txt p)] H5 := by
  have e4 := s4 _ _ hd
  refine ⟨_, .inl ⟨_, strK (enc p), e4, rfl, by rw [dk_len]; exact lz, rfl⟩, pd ++ [p], fun q => if q = p then p' else A q, _, by rw [List.map_append]; rfl, (sm.trans s4).upd' hd2, ?_, fun q hq => ?_, rfl⟩
  · rw [upd_same]
    have e : dk pd (fun p => V.ref (A p)) = dk pd (fun q => V.ref (if q = p then p' else A q)) := dk_congr fun q hq => by rw [if_neg fun z : q = p => hp (by rw [← z]; exact hq)]
    rw [e, dk_add hp (by rw [if_pos rfl])]
  · have nd : ∀ x ys, H4 x = some (.lst ys) → x ≠ d := fun x ys hx z => by rw [z, e4] at hx; cases hx
    dsimp only
    rcases List.mem_append.mp hq with hq | hq
    · rw [if_neg fun z : q = p => hp (by rw [← z]; exact hq)]
      have := s4 _ _ (hA q hq)
      rw [upd_ne (nd _ _ this)]; exact this
    · rw [List.mem_singleton.mp hq, if_pos rfl, upd_ne (nd _ _ h4)]; exact h4
theorem rdok_best_ways {K vs H Q E} (h : sp_best_ways K vs H Q E) : rd_best_ways K { nx := fun _ H' => Q .non H', rt := Q } (start nm_best_ways vs) H := by
  obtain ⟨a, xs, rs, D, rfl, ha, hr, T, q⟩ := h
  have hD := T.len
  have lrs : rs.length ≤ 900 ∨ D = 0 := by
    rcases Nat.eq_zero_or_pos D with z | z
    · exact .inr z
    · have := Nat.mul_le_mul_left rs.length z
      have := T.few
      exact .inl (by omega)
  have lr2 : rs.length ≤ 1000 := by
    rcases lrs with z | z
    · omega
    · subst z
      have : rs.length ≤ 1 := by
        match rs, T.nd, hD with
        | [], _, _ => simp
        | [_], _, _ => simp
        | r :: s :: t, nd, hD =>
          have h1 := hD r (by simp)
          have h2 := hD s (by simp)
          have e1 := List.length_eq_zero_iff.mp (Nat.le_zero.mp h1)
          have e2 := List.length_eq_zero_iff.mp (Nat.le_zero.mp h2)
          simp [e1, e2] at nd
      omega
  simp only [rd_best_ways, nm_best_ways, L2.start]
  refine tSeq_gen fun U hU => ?_
  walk_at "rd"
  refine ⟨a, xs, rs, D, rfl, ha, hr, T, fun l H1 ps s1 hl0 hl np hm up hpl => ?_⟩
  have par := par_of hm up
  have pdeep : ∀ p ∈ ps, p.length ≤ 1000 := fun p hp => by
    have d := T.d
    rcases nil_or_snoc p with rfl | ⟨q0, b, rfl⟩
    · simp
    · have := inn_deep hD (isPl_up ((hm _).mp hp))
      rw [List.length_append]; simp; omega
  subst hU
  refine tSeq_gen fun U hU => ?_
  walk_at "rd"
  refine ⟨a, l, xs, rs, ps, rfl, s1 _ _ ha, RowsAre.mono hr s1.tp, T.nd, lr2, hl, np, par, hpl, pdeep, fun w H2 s2 hw0 hw => ?_⟩
  subst hU
  refine tSeq_gen fun U hU => ?_
  simp only [tAsg, tDNewK]
  intro d hd
  walk_at "rd"
  show U { nx := fun x H' => Q V.non H', rt := Q } [some (.ref a), some (.ref l), some (.ref w), some (.ref d), none] (upd H2 d (.dK (dk [] fun p => .ref 0)))
  subst hU
  refine tSeq_gen fun U hU => ?_
  have pbest : ∀ p ∈ ps, inn rs p = true → (best rs D (p ++ [false])).length + (best rs D (p ++ [true])).length ≤ 900 := fun p hp hi => by
    have h0 := best_pre hD (p ++ [false])
    have h1 := best_pre hD (p ++ [true])
    have h2 := two_pre hD _ p rfl ((hm p).mp hp)
    rw [pre_eqn hD p, hi, if_pos rfl, List.length_cons, List.length_append] at h2
    have pm : ps.Perm (pre rs D []) := (List.perm_ext_iff_of_nodup np (nodup_pre hD [])).mpr fun p => by rw [hm, mem_root hD]
    have h3 := pm.length_eq
    omega
  refine tFor_rev l (ps.map txt) (BeI H2 a l w d rs D) (fun R z => by walk_at "rd"; exact z) (SqL.of ((s2.trans (Same.upd hd)) _ _ hl)) ⟨[], fun _ => 0, none, rfl, Same.upd hd, upd_same, fun p hp => by (cases hp), rfl⟩ ?_ ?_ ?_
  · rintro pre σ' H' ⟨pd, A, o, _, sm, _⟩
    exact SqL.of (sm _ _ (s2 _ _ hl))
  · rintro pre x suf σ' H' e ⟨pd, A, o, rfl, sm, hd', hA, rfl⟩
    rw [← List.map_reverse] at e
    obtain ⟨pd', p, sf, e1, e2, rfl, e3⟩ := txts_split e
    have := txt_inj e2
    subst this
    have kids := kids_of np hm par e1
    have npr : ps.reverse.Nodup := (List.reverse_perm ps).nodup_iff.mpr np
    have hpn : p ∉ pd := fun z => by
      rw [e1] at npr
      exact (List.nodup_append.mp npr).2.2 p z p (by simp) rfl
    have hps : p ∈ ps := List.mem_reverse.mp (by rw [e1]; simp)
    have hsub : ∀ q ∈ pd, q ∈ ps := fun q hq => List.mem_reverse.mp (by rw [e1]; simp [hq])
    have lpd : pd.length < ps.length := by have := congrArg List.length e1; rw [List.length_reverse, List.length_append, List.length_cons] at this; omega
    have lz : pd.length < sizeLine := by walk_at "sz"
    have lp := pdeep p hps
    walk_at "rd"
    simp only [rb_best_ways_1, txt]
    walk_at "rd"
    refine ⟨by walk_at "sz", d, _, strK (enc (p ++ [false])), rfl, .inl hd', rfl, ?_⟩
    rw [dk_val]
    cases hi : inn rs p with
    | true =>
      have k0 := (kids false).mpr hi
      have k1 := (kids true).mpr hi
      rw [if_pos k0]
      simp only [Option.isSome_some, if_true, Bool.false_eq_true, if_false]
      walk_at "rb"
      refine ⟨by walk_at "sz", _, .inl ⟨_, strK (enc (p ++ [false])), .inl hd', rfl, by rw [dk_val, if_pos k0]⟩, by walk_at "sz", _, .inl ⟨_, strK (enc (p ++ [true])), .inl hd', rfl, by rw [dk_val, if_pos k1]⟩, ?_⟩
      refine ⟨_, _, best rs D (p ++ [false]), best rs D (p ++ [true]), rfl, hA _ k0, hA _ k1, ?_, fun p' H4 s4 _ h4 => ?_⟩
      · have h1 := pbest _ hps hi
        omega
      · rw [show both (best rs D (p ++ [false])) (best rs D (p ++ [true])) = best rs D p by rw [best_eq hD p, hi, if_pos rfl]] at h4
        exact BeI.add hd sm hd' hA hpn s4 h4 lz
    | false =>
      rw [if_neg (show ¬ (p ++ [false] ∈ pd) from fun z => by rw [(kids false).mp z] at hi; cases hi)]
      simp only [Option.isSome_none, if_true, Bool.false_eq_true, if_false]
      walk_at "rb"
      refine ⟨wayV (led rs p), .inl ⟨_, strK (enc p), .inl (sm _ _ hw), rfl, by rw [dk_val, if_pos hps]⟩, by walk_at "sz", fun p' hp' => ?_⟩
      refine BeI.add hd sm hd' hA hpn (Same.upd hp') ?_ lz
      rw [upd_same, best_eq hD, hi, if_neg Bool.false_ne_true]; rfl
  · rintro σ' H' ⟨pd, A, o, e, sm, hd', hA, rfl⟩
    rw [← List.map_reverse] at e
    have := txt_inj e
    subst this
    dsimp only
    subst hU
    walk_at "rd"
    exact q d H' ps.reverse A ((s1.trans s2).trans sm) ((s1.trans s2).free hd) hd' ((List.reverse_perm ps).nodup_iff.mpr np) (fun p => by rw [List.mem_reverse, hm]) (by rw [List.length_reverse]; exact hpl) hA
/-! ### thinned -/
def rb_thinned_1 (K : PySem.W.Frag) : TS :=
  (tSeq (tAsg (tCall (sp_way_above K) [] E0 (tCons (tVar 2) (tCons (tVar 4) tNil))) (gName 5))
  (tSeq (tIfS (tTest (tOp (rIn K true) (tVar 5) (tDGet (tVar 1) (tVar 4)))) (tSeq (tAsg (tOp (rIxA K) (tDGet (tVar 1) (tVar 4)) (tC (.int 0))) (gName 5))
  (tDrop (tBM K "list" rAppend (tVar 3) (tCons (tTup (tCons (tVar 4) (tCons (tVar 5) tNil))) tNil)))) tNext)
  (sDPut (tVar 2) (tVar 4) (tVar 5))))
def rd_thinned (K : PySem.W.Frag) : TS :=
  (tSeq (tAsg (tCall (sp_best_ways K) [] E0 (tCons (tVar 0) tNil)) (gName 1))
  (tSeq (tAsg tDNewK (gName 2))
  (tSeq (tAsg (tLst tNil) (gName 3))
  (tSeq (tFor (iList K (tCB rSortedA (tCons (tVar 1) tNil))) (gName 4) (rb_thinned_1 K))
  (tRet (tVar 3))))))
def nm_thinned : List Str := ["rows", "best", "led", "told", "place", "way"]
def sp_thinned (K : PySem.W.Frag) : Sp := fun vs H Q _ => ∃ (a : Addr) (xs : List V) (rs : List Row) (D : Nat), vs = [.ref a] ∧ H a = some (.lst xs) ∧ RowsAre H xs rs ∧ TabD rs D ∧
  ∀ l H' ys (ps : List Pl), Same H H' → H l = none → H' l = some (.lst ys) → RowsAre H' ys (thin rs D ps) → ps.Nodup → (∀ p, p ∈ ps ↔ isPl rs p) → upS (ps.map enc) → Q (.ref l) H'
theorem len_thinned {K vs H Q E} (h : sp_thinned K vs H Q E) : vs.length = 1 := by obtain ⟨_, _, _, _, rfl, _⟩ := h; rfl
def ThI (H1 : Hp) (a b d t : Addr) (rs : List Row) (D : Nat) (pre : List V) (σ : St) (H' : Hp) : Prop := ∃ (pd : List Pl) (ys : List V) (o1 o2 : Option V), pre = pd.map txt ∧ Same H1 H' ∧ H' d = some (.dK (dk pd fun p => wayV (ld rs D p))) ∧ H' t = some (.lst ys) ∧ RowsAre H' ys (thin rs D pd) ∧ σ = [some (.ref a), some (.ref b), some (.ref d), some (.ref t), o1, o2]
theorem thin_app (rs : List Row) (D : Nat) (pd : List Pl) (p : Pl) : thin rs D (pd ++ [p]) = thin rs D pd ++ (if hit rs D p then [(p, ld rs D p)] else []) := by
  unfold thin
  rw [List.filter_append, List.map_append]
  congr 1
  cases h : hit rs D p <;> simp [h]
theorem rdok_thinned {K vs H Q E} (h : sp_thinned K vs H Q E) : rd_thinned K { nx := fun _ H' => Q .non H', rt := Q } (start nm_thinned vs) H := by
  obtain ⟨a, xs, rs, D, rfl, ha, hr, T, q⟩ := h
  have hD := T.len
  simp only [rd_thinned, nm_thinned, L2.start]
  refine tSeq_gen fun U hU => ?_
  walk_at "rd"
  refine ⟨a, xs, rs, D, rfl, ha, hr, T, fun b H1 qs A s1 hb0 hb nq mq lq hA => ?_⟩
  subst hU
  refine tSeq_gen fun U hU => ?_
  simp only [tAsg, tDNewK]
  intro d hd
  walk_at "rd"
  have nbd : b ≠ d := fun z => by rw [z, hd] at hb; cases hb
  subst hU
  refine tSeq_gen fun U hU => ?_
  walk_at "rd"
  refine ⟨by walk_at "sz", fun t ht => ?_⟩
  have ntd : t ≠ d := fun z => by rw [z, upd_same] at ht; cases ht
  have ht1 : H1 t = none := by rw [upd_ne ntd] at ht; exact ht
  have s2 : Same H1 (upd (upd H1 d (.dK [])) t (.lst [])) := ((Same.refl H1).upd' hd).upd' ht1
  have hd2 : upd (upd H1 d (.dK [])) t (.lst []) d = some (.dK []) := by rw [upd_ne ntd.symm]; exact upd_same
  have ht2 : upd (upd H1 d (.dK [])) t (.lst []) t = some (.lst []) := upd_same
  generalize upd (upd H1 d (.dK [])) t (.lst []) = H2 at s2 hd2 ht2 ⊢
  subst hU
  refine tSeq_gen fun U hU => ?_
  refine tFor_made fun G hG => ?_
  walk_at "rd"
  refine ⟨_, qs.map enc, .inl (s2 _ _ hb), dk_keys qs _, by rw [List.length_map]; omega, enc_nodup nq, fun l ss hl pm up => ?_⟩
  obtain ⟨ps, rfl, pm2⟩ : ∃ ps : List Pl, ss = ps.map enc ∧ ps.Perm qs := perm_map pm
  have np : ps.Nodup := pm2.nodup_iff.mpr nq
  have hm : ∀ p, p ∈ ps ↔ isPl rs p := fun p => by rw [pm2.mem_iff, mq]
  have par := par_of hm up
  have el : (ps.map enc).map V.str = ps.map txt := by rw [List.map_map]; rfl
  rw [el]
  have hpl : ps.length ≤ 900 := by rw [pm2.length_eq]; exact lq
  have ld1 : l ≠ d := fun z => by rw [z, hd2] at hl; cases hl
  have lt1 : l ≠ t := fun z => by rw [z, ht2] at hl; cases hl
  have s3 : Same H2 (upd H2 l (.lst (ps.map txt))) := Same.upd hl
  have hl3 : upd H2 l (.lst (ps.map txt)) l = some (.lst (ps.map txt)) := upd_same
  have hl1 : H1 l = none := s2.free hl
  have s13 := s2.trans s3
  have hd3 := s3 _ _ hd2
  have ht3 := s3 _ _ ht2
  generalize upd H2 l (.lst (ps.map txt)) = H3 at s3 hl3 s13 hd3 ht3 ⊢
  have pdeep : ∀ p ∈ ps, p.length ≤ 1000 := fun p hp => by
    have d := T.d
    rcases nil_or_snoc p with rfl | ⟨q0, b, rfl⟩
    · simp
    · have := inn_deep hD (isPl_up ((hm _).mp hp))
      rw [List.length_append]; simp; omega
  refine hG l (ps.map txt) H3 (fun pre σ H' => ThI H1 a b d t rs D pre σ H' ∧ H' l = some (.lst (ps.map txt))) ⟨⟨[], [], none, none, rfl, s13, hd3, ht3, .nil, rfl⟩, hl3⟩ (fun pre post σ H' _ z => SqL.of z.2) ?_ ?_
  · rintro pre x post σ H' e ⟨⟨pd, ys, o1, o2, rfl, sm, hd', ht', hys, rfl⟩, hl'⟩
    obtain ⟨pd', p, sf, e1, e2, rfl, e3⟩ := txts_split e
    have := txt_inj e2
    subst this
    have hpn : p ∉ pd := fun z => by
      rw [e1] at np
      exact (List.nodup_append.mp np).2.2 p z p (by simp) rfl
    have hps : p ∈ ps := by rw [e1]; simp
    have lpd : pd.length < ps.length := by have := congrArg List.length e1; rw [List.length_append, List.length_cons] at this; omega
    have lp := pdeep p hps
    have hbest : H' (A p) = some (.lst ((best rs D p).map wayV)) := sm _ _ (hA p ((mq p).mpr ((hm p).mp hps)))
    have hb' := sm _ _ hb
    have lys : ys.length ≤ 900 := by
      have := Paired.length hys
      rw [this]
      unfold thin
      rw [List.length_map]
      have := List.length_filter_le (hit rs D) pd
      omega
    have bval : valV (dk qs fun p => V.ref (A p)) (strK (enc p)) = some (.ref (A p)) := by rw [dk_val, if_pos ((mq p).mpr ((hm p).mp hps))]
    walk_at "rd"
    simp only [rb_thinned_1]
    have cont : ∀ (v : V) (H5 : Hp) (ys' : List V), v = wayV (ld rs D p) → Same H1 H5 → H5 d = some (.dK (dk pd fun p => wayV (ld rs D p))) → H5 t = some (.lst ys') → RowsAre H5 ys' (thin rs D (pd ++ [p])) → H5 l = some (.lst (ps.map txt)) →
        ∃ H6, DPut H5 d (txt p) v H6 ∧ (ThI H1 a b d t rs D (pd.map txt ++ [txt p]) [some (.ref a), some (.ref b), some (.ref d), some (.ref t), some (txt p), some v] H6 ∧ H6 l = some (.lst (ps.map txt))) := by
      intro v H5 ys' ev s5 h5d h5t r5 h5l
      refine ⟨_, .inl ⟨_, strK (enc p), h5d, rfl, by rw [dk_len]; walk_at "sz", rfl⟩, ⟨pd ++ [p], ys', _, _, by rw [List.map_append]; rfl, s5.upd' hd, ?_, by rw [upd_ne ntd]; exact h5t, ?_, rfl⟩, by rw [upd_ne ld1]; exact h5l⟩
      · rw [upd_same, dk_add hpn ev.symm]
      · exact RowsAre.mono r5 (Tp.upd fun xs z => by rw [h5d] at z; cases z)
    refine tSeq_gen fun U2 hU2 => ?_
    walk_at "rd"
    refine ⟨d, _, p, rfl, hd', lp, ?_⟩
    have go : ∀ v, v = wayV (above rs D p) → U2 { nx := fun σ H' => ThI H1 a b d t rs D (pd.map txt ++ [txt p]) σ H' ∧ H' l = some (.lst (ps.map txt)), ct := fun σ H' => ThI H1 a b d t rs D (pd.map txt ++ [txt p]) σ H' ∧ H' l = some (.lst (ps.map txt)), bk := U { nx := fun x H' => Q V.non H', rt := Q }, rt := Q } [some (.ref a), some (.ref b), some (.ref d), some (.ref t), some (txt p), some v] H' := by
      intro v ev
      subst ev hU2
      refine tSeq_gen fun U3 hU3 => ?_
      simp only [txt]
      walk_at "rb"
      refine ⟨.ref (A p), .inl ⟨_, strK (enc p), .inl hb', rfl, bval.symm⟩, ?_⟩
      refine ⟨A p, _, rfl, .inl (SqL.of hbest), flat_way _, flat_ways _, _, rfl, ?_⟩
      rw [inV_ways]
      simp only [if_true]
      have eh : hit rs D p = !(best rs D p).contains (above rs D p) := rfl
      have ths := thin_app rs D pd p
      cases hc : (best rs D p).contains (above rs D p) with
      | true =>
        rw [hc] at eh
        rw [eh] at ths
        simp only [Bool.not_true, Bool.false_eq_true, if_false, List.append_nil] at ths ⊢
        subst hU3
        walk_at "rb"
        refine cont _ H' ys ?_ sm hd' ht' (by rw [ths]; exact hys) hl'
        rw [ld_eq, pick_in (contains_iff.mp hc)]
      | false =>
        rw [hc] at eh
        rw [eh] at ths
        simp only [Bool.not_false, if_true] at ths ⊢
        refine ⟨.ref (A p), .inl ⟨_, strK (enc p), .inl hb', rfl, bval.symm⟩, ?_⟩
        walk_at "rd"
        have hne := best_ne hD p
        have h0 : atI ((best rs D p).map wayV) 0 = some (wayV (ld rs D p)) := by
          have : ld rs D p = (best rs D p).headD none := by rw [ld_eq]; unfold pick; rw [hc, if_neg Bool.false_ne_true]
          rw [this]
          cases hb9 : best rs D p with
          | nil => exact absurd hb9 hne
          | cons x y => exact atI_nat (j := 0) rfl
        refine ⟨_, .inl (SqL.of hbest), _, h0, tyV_lst ht', by walk_at "sz", fun p' hp' => ?_⟩
        have nt' : t ≠ p' := fun z => by rw [← z, ht'] at hp'; cases hp'
        have s4 : Same H' (upd H' p' (.tup [.str (enc p), wayV (ld rs D p)])) := Same.upd hp'
        have h4 : upd H' p' (.tup [.str (enc p), wayV (ld rs D p)]) p' = some (.tup [.str (enc p), wayV (ld rs D p)]) := upd_same
        generalize upd H' p' (.tup [.str (enc p), wayV (ld rs D p)]) = H4 at s4 h4 ⊢
        have ht4 := s4 _ _ ht'
        refine ⟨t, ys, .ref p', rfl, rfl, ht4, by walk_at "sz", ?_⟩
        subst hU3
        walk_at "rb"
        have tp5 : Tp H4 (upd H4 t (.lst (ys ++ [.ref p']))) := Tp.upd fun xs z => by rw [ht4] at z; cases z
        refine cont _ _ (ys ++ [.ref p']) rfl ((sm.trans s4).upd' ht1) ?_ upd_same ?_ ?_
        · rw [upd_ne ntd.symm]; exact s4 _ _ hd'
        · rw [ths]
          refine Paired.append (RowsAre.mono hys (s4.tp.trans tp5)) (.cons ⟨p', rfl, tp5 _ _ h4⟩ .nil)
        · rw [upd_ne lt1]; exact s4 _ _ hl'
    rcases nil_or_snoc p with rfl | ⟨q0, c, rfl⟩
    · refine .inl ⟨rfl, ?_⟩
      exact go .non rfl
    · refine .inr ⟨q0, c, wayV (ld rs D q0), rfl, ?_, ?_⟩
      · rw [dk_val, if_pos (par pd q0 c sf e1)]
      · exact go _ (by rw [above_snoc])
  · rintro σ H' ⟨⟨pd, ys, o1, o2, e, sm, hd', ht', hys, rfl⟩, hl'⟩
    have := txt_inj e
    subst this
    dsimp only
    subst hU
    walk_at "rd"
    exact q t H' ys ps (s1.trans sm) (s1.free ht1) ht' hys np hm up
end L2

end
section
set_option Elab.async false
set_option linter.all false
set_option maxRecDepth 100000
set_option maxHeartbeats 4000000
namespace L2
open PySem PySem.Spec
local macro_rules | `(tactic| walk_at "rd") => `(tactic| try simp only [tVar, tC, tOp, tUn, tSeq, tAsg, gName, tRet, tRetN, tIfS, tDrop, tNext, tCons, tNil, tCall, tCB, tTest, tB, tAnd, tOr, tNot, tAndV, tOrV, tNotV, tIf, tTup, tLst, tSl, tPart, tNoPart, tBM, tBM0, L2.start, rI2, rI3, rAddA, rMulA, rSubI, rDivI, rModI, rPowI, rNegI, rLt, rLe, rGt, rGe, rIsN, rNotN, rEqS, rNeS, rLen, rIxA, rIntA, rMax2, rMin2, rStrI, rListOf, rIsi2, isiF, isiO, rSlA, rStarts2, rEnds2, CDiv,
  List.map_cons, List.map_nil, List.length_cons, List.length_nil, List.replicate_succ, List.replicate_zero, List.cons_append, List.nil_append, List.append_nil, List.getElem?_cons_zero, List.getElem?_cons_succ, List.set_cons_zero, List.set_cons_succ, Option.some.injEq, V.int.injEq, V.str.injEq, V.bl.injEq, V.ref.injEq, V.ty.injEq, reduceCtorEq, exists_eq_left', exists_eq_left, exists_eq_right, exists_eq_right', exists_eq', exists_eq, exists_and_left, exists_and_right, false_and, and_false, true_and, and_true, exists_const, exists_false, false_or, or_false, List.cons.injEq, and_assoc, decide_eq_true_eq, decide_true, decide_false, Int.reduceLT, Int.reduceLE, Nat.reduceLT, Nat.reduceLeDiff, Nat.reduceSub, Nat.reduceAdd, Nat.sub_self, Nat.sub_zero, enc_eq, enc_nil, enc_0, enc_1, enc_01, enc_append, enc_len, Bool.not_true, Bool.not_false, Bool.false_eq_true, if_true, if_false, ↓reduceIte, String.reduceEq, or_true, true_or, Nat.one_mul, addr_len, bitsBy_len, List.length_append, List.length_replicate, List.length_map])
local macro_rules | `(tactic| walk_at "sz") => `(tactic| (have hline := line_ge; first | omega | (simp; omega)))
end L2

end
section
set_option Elab.async false
set_option linter.all false
set_option maxRecDepth 100000
set_option maxHeartbeats 4000000
namespace L2
open PySem PySem.Spec
local macro_rules | `(tactic| walk_at "rd") => `(tactic| try simp only [tVar, tC, tOp, tUn, tSeq, tAsg, gName, tRet, tRetN, tIfS, tDrop, tNext, tCons, tNil, tCall, tCB, tTest, tB, tAnd, tOr, tNot, tAndV, tOrV, tNotV, tIf, tTup, tLst, tSl, tPart, tNoPart, tBM, tBM0, L2.start, rI2, rI3, rAddA, rMulA, rSubI, rDivI, rModI, rPowI, rNegI, rLt, rLe, rGt, rGe, rIsN, rNotN, rEqS, rNeS, rLen, rIxA, rIntA, rMax2, rMin2, rStrI, rListOf, rIsi2, isiF, isiO, rSlA, rStarts2, rEnds2, CDiv,
  List.map_cons, List.map_nil, List.length_cons, List.length_nil, List.replicate_succ, List.replicate_zero, List.cons_append, List.nil_append, List.append_nil, List.getElem?_cons_zero, List.getElem?_cons_succ, List.set_cons_zero, List.set_cons_succ, Option.some.injEq, V.int.injEq, V.str.injEq, V.bl.injEq, V.ref.injEq, V.ty.injEq, reduceCtorEq, exists_eq_left', exists_eq_left, exists_eq_right, exists_eq_right', exists_eq', exists_eq, exists_and_left, exists_and_right, false_and, and_false, true_and, and_true, exists_const, exists_false, false_or, or_false, List.cons.injEq, and_assoc, decide_eq_true_eq, decide_true, decide_false, Int.reduceLT, Int.reduceLE, Nat.reduceLT, Nat.reduceLeDiff, Nat.reduceSub, Nat.reduceAdd, Nat.sub_self, Nat.sub_zero, enc_eq, enc_nil, enc_0, enc_1, enc_01, enc_append, enc_len, Bool.not_true, Bool.not_false, Bool.false_eq_true, if_true, if_false, ↓reduceIte, String.reduceEq, or_true, true_or, Nat.one_mul, addr_len, bitsBy_len, List.length_append, List.length_replicate, List.length_map])
local macro_rules | `(tactic| walk_at "sz") => `(tactic| (have hline := line_ge; first | omega | (simp; omega)))
/-- over a list that is made for the loop -/
theorem tFor_go {K : PySem.W.Frag} {tl : TE} {g : TG} {tb : TS} {D : Ends} {σ : St} {H : Hp}
    (h : ∀ G : V → Hp → Prop, (∀ (a : Addr) (xs : List V) (H1 : Hp) (Pv : List V → St → Hp → Prop), Pv [] σ H1 → (∀ pre post σ H, xs = pre ++ post → Pv pre σ H → SqL K H a xs) →
      (∀ pre x post σ H, xs = pre ++ x :: post → Pv pre σ H → g x σ H fun σ2 H2 => tb { D with nx := Pv (pre ++ [x]), ct := Pv (pre ++ [x]), bk := D.nx } σ2 H2) → (∀ σ H, Pv xs σ H → D.nx σ H) → G (.ref a) H1) → tl σ H G) : tFor (iList K tl) g tb D σ H :=
  h _ fun a xs H1 Pv h0 hl hs hd => ⟨a, rfl, ⟨xs, hl [] xs σ H1 rfl h0⟩, for_listP (xs := xs) Pv h0 hl hs hd⟩
theorem ints_split {cs : List Int} {pre : List V} {x : V} {post : List V} (e : cs.map V.int = pre ++ x :: post) : ∃ p c q, cs = p ++ c :: q ∧ pre = p.map V.int ∧ x = V.int c ∧ post = q.map V.int := by
  obtain ⟨p, r, e1, e2, e3⟩ := List.map_eq_append_iff.mp e
  obtain ⟨c, q, e4, e5, e6⟩ := List.map_eq_cons_iff.mp e3
  exact ⟨p, c, q, by rw [e1, e4], e2.symm, e5.symm, e6.symm⟩
/-! ### each number once, rising -/
theorem mem_stp (l : List Int) (n x : Int) : x ∈ stp l n ↔ x ∈ l ∨ x = n := by
  unfold stp
  split
  · rename_i h
    exact ⟨.inl, fun q => q.elim id fun e => e ▸ h⟩
  · rw [List.mem_append, List.mem_singleton]
theorem nd_stp {l : List Int} (n : Int) (h : l.Nodup) : (stp l n).Nodup := by
  unfold stp
  split
  · exact h
  · rename_i hn
    rw [List.nodup_append]
    exact ⟨h, by simp, fun x hx y hy e => hn (by rw [List.mem_singleton] at hy; rw [← hy, ← e]; exact hx)⟩
theorem fold_stp : ∀ (ns l : List Int), l.Nodup → (ns.foldl stp l).Nodup ∧ (∀ x, x ∈ ns.foldl stp l ↔ x ∈ l ∨ x ∈ ns) ∧ (ns.foldl stp l).length ≤ l.length + ns.length
  | [], l, h => ⟨h, by simp, by simp⟩
  | n :: ns, l, h => by
    obtain ⟨a, b, c⟩ := fold_stp ns (stp l n) (nd_stp n h)
    refine ⟨a, fun x => ?_, ?_⟩
    · rw [List.foldl_cons, b, mem_stp, List.mem_cons, or_assoc]
    · have : (stp l n).length ≤ l.length + 1 := by
        unfold stp
        split
        · omega
        · rw [List.length_append, List.length_singleton]; omega
      rw [List.foldl_cons, List.length_cons]
      omega
theorem once_nd (ns : List Int) : (once ns).Nodup := (fold_stp ns [] .nil).1
theorem once_mem (ns : List Int) (x : Int) : x ∈ once ns ↔ x ∈ ns := by have := (fold_stp ns [] .nil).2.1 x; simpa [once] using this
theorem once_len (ns : List Int) : (once ns).length ≤ ns.length := by have := (fold_stp ns [] .nil).2.2; simpa [once] using this
theorem sortD_of {ns ms : List Int} (hp : ms.Perm (once ns)) (hs : ms.Pairwise (· ≤ ·)) : SortD ns ms := by
  refine ⟨?_, fun x => by rw [hp.mem_iff, once_mem]⟩
  have hn : ms.Nodup := hp.nodup_iff.mpr (once_nd ns)
  have : ms.Pairwise fun a b => a ≤ b ∧ a ≠ b := List.Pairwise.and hs hn
  exact this.imp fun h => by omega
theorem few_range : ∀ (m : Nat) (l : List Int), l.Nodup → (∀ x ∈ l, 0 ≤ x ∧ x < m) → l.length ≤ m
  | 0, l, _, h => by
    cases l with
    | nil => simp
    | cons x t => have := h x List.mem_cons_self; omega
  | m + 1, l, hn, h => by
    have ih := few_range m (l.erase m) (hn.erase _) fun x hx => by
      have h1 := h x (List.mem_of_mem_erase hx)
      have h2 : x ≠ m := fun e => by subst e; exact (List.Nodup.not_mem_erase hn) hx
      omega
    have := List.length_erase_le (a := (m : Int)) (l := l)
    by_cases hm : (m : Int) ∈ l
    · have := List.length_erase_of_mem hm; omega
    · rw [List.erase_of_not_mem hm] at ih; omega
/-- few enough cuts -/
def FewC (k : Nat) (rs : List Row) : Prop := (once (cutsL k rs)).length ≤ 64
theorem fewC_small {k : Nat} {rs : List Row} (hk : k ≤ 6) (hl : ∀ r ∈ rs, r.1.length ≤ k) : FewC k rs := by
  have h := few_range (2 ^ k) (once (cutsL k rs)) (once_nd _) fun x hx => by
    have := cutsL_range hl ((once_mem _ _).mp hx)
    exact ⟨this.1, by have := this.2; rw [Int.natCast_pow]; exact this⟩
  have h2 : 2 ^ k ≤ 2 ^ 6 := Nat.pow_le_pow_right (by decide) hk
  unfold FewC
  omega
theorem fewC_short {k : Nat} {rs : List Row} (h : rs.length ≤ 31) : FewC k rs := by
  have h1 := once_len (cutsL k rs)
  have h2 := cutsL_len k rs
  unfold FewC
  omega
theorem cutsOf_eq (k : Nat) (r : Row) : cutsOf k r = if lo k r.1 + wd k r.1 < 2 ^ k then [lo k r.1] ++ [lo k r.1 + wd k r.1] else [lo k r.1] := rfl
def sp_cuts_of (K : PySem.W.Frag) : Sp := fun vs H Q _ => ∃ (a : Addr) (xs : List V) (rs : List Row) (k : Int), vs = [.ref a, .int k] ∧ H a = some (.lst xs) ∧ RowsAre H xs rs ∧ 0 ≤ k ∧ k ≤ 16 ∧ (∀ r ∈ rs, r.1.length ≤ k.toNat) ∧ rs.length ≤ 1000 ∧ FewC k.toNat rs ∧
  ∀ l H' cs, Same H H' → H l = none → H' l = some (.lst (cs.map V.int)) → cs.length ≤ 64 → SortD (cutsL k.toNat rs) cs → Q (.ref l) H'
theorem len_cuts_of {K vs H Q E} (h : sp_cuts_of K vs H Q E) : vs.length = 2 := by obtain ⟨_, _, _, _, rfl, _⟩ := h; rfl
def rb_law_cuts_1 (K : PySem.W.Frag) : TS :=
  (tAsg (tOp rAddA (tOp rAddA (tVar 4) (tVar 4)) (tCB rIntA (tCons (tOp rEqS (tVar 5) (tC (.str (Str.ofString "1")))) tNil))) (gName 4))
def rb_law_cuts_2 (K : PySem.W.Frag) : TS :=
  (tSeq (tAsg (tC (.int 0)) (gName 4))
  (tSeq (tFor (iStr (tOp (rIxA K) (tVar 3) (tC (.int 0)))) (gName 5) (rb_law_cuts_1 K))
  (tSeq (tAsg (tCall (sp_law_many K) [] E0 (tCons (tOp rSubI (tVar 1) (tCB (rLen K) (tCons (tOp (rIxA K) (tVar 3) (tC (.int 0))) tNil))) tNil)) (gName 6))
  (tSeq (tDrop (tBM K "list" rAppend (tVar 2) (tCons (tOp rMulA (tVar 4) (tVar 6)) tNil)))
  (tIfS (tTest (tOp rLt (tOp rAddA (tOp rMulA (tVar 4) (tVar 6)) (tVar 6)) (tCall (sp_law_many K) [] E0 (tCons (tVar 1) tNil)))) (tDrop (tBM K "list" rAppend (tVar 2) (tCons (tOp rAddA (tOp rMulA (tVar 4) (tVar 6)) (tVar 6)) tNil))) tNext)))))
def rd_law_cuts (K : PySem.W.Frag) : TS :=
  (tSeq (tAsg (tLst (tCons (tC (.int 0)) tNil)) (gName 2))
  (tSeq (tFor (iList K (tVar 0)) (gName 3) (rb_law_cuts_2 K))
  (tRet (tSortedSet K (tCons (tVar 2) tNil)))))
def nm_law_cuts : List Str := ["rows", "size", "found", "row", "low", "sign", "wide"]
def sp_law_cuts (K : PySem.W.Frag) : Sp := sp_cuts_of K
theorem len_law_cuts {K vs H Q E} (h : sp_law_cuts K vs H Q E) : vs.length = 2 := len_cuts_of h
theorem rdok_law_cuts {K vs H Q E} (h : sp_law_cuts K vs H Q E) : rd_law_cuts K { nx := fun _ H' => Q .non H', rt := Q } (start nm_law_cuts vs) H := by
  obtain ⟨a, xs, rs, k', rfl, ha, hr, hk0, hk, hlen, hrl, hfew, q⟩ := h
  obtain ⟨k, rfl⟩ := Int.eq_ofNat_of_zero_le hk0
  rw [Int.toNat_natCast] at hlen hfew q
  simp only [rd_law_cuts, nm_law_cuts]
  walk_at "rd"
  refine ⟨by walk_at "sz", fun c hc => ?_⟩
  refine tFor_lst a xs (fun pre σ H' => Same H H' ∧ ∃ o1 o2 o3 o4 pr, Paired (RowIs H) pre pr ∧ σ = [some (.ref a), some (.int k), some (.ref c), o1, o2, o3, o4] ∧ H' c = some (.lst ((cutsL k pr).map V.int))) ?_ ⟨Same.upd hc, none, none, none, none, [], .nil, rfl, upd_same⟩ ?_ ?_ ?_
  · intro R h; walk_at "rd"; exact h
  · rintro pre post σ H' _ ⟨sm, _⟩; exact SqL.of (sm _ _ ha)
  · rintro pre x post σ H' e ⟨sm, o1, o2, o3, o4, pr, hp, rfl, hcc⟩
    have hr' := hr
    rw [e] at hr'
    obtain ⟨r1, r, r2, er, hr1, hrx, _⟩ := Paired.split1 hr'
    have epr : r1 = pr := RowsAre.inj hr1 hp
    subst epr
    have hlr : r.1.length ≤ k := hlen r (by rw [er]; simp)
    have hprl : r1.length < 1000 := by
      have := congrArg List.length er
      rw [List.length_append, List.length_cons] at this
      omega
    have hcl := cutsL_len k r1
    obtain ⟨p, rfl, hp0⟩ := id hrx
    have hp1 := sm _ _ hp0
    simp only [rb_law_cuts_2]
    refine tSeq_gen fun U hU => ?_
    walk_at "rd"
    subst hU
    refine tSeq_gen fun U hU => ?_
    refine tFor_enc r.1 (fun pre σ H'' => H'' = H' ∧ ∃ o, σ = [some (.ref a), some (.int k), some (.ref c), some (.ref p), some (.int (val pre)), o, o4]) ?_ ⟨rfl, o3, rfl⟩ ?_ ?_
    · intro R h; walk_at "rd"; exact ⟨_, .inr (SqT.of hp1), _, rfl, h⟩
    · rintro pre b post σ H'' e ⟨rfl, o, rfl⟩
      simp only [rb_law_cuts_1]
      walk_at "rd"
      rw [val_snoc]
      cases b <;> simp <;> omega
    rintro σ H'' ⟨rfl, o, rfl⟩
    dsimp only
    subst hU
    refine tSeq_gen fun U hU => ?_
    walk_at "rd"
    refine ⟨_, .inr (SqT.of hp1), _, rfl, ?_⟩
    walk_at "rd"
    refine ⟨by walk_at "sz", (k : Int) - r.1.length, rfl, by omega, by omega, ?_⟩
    rw [show ((k : Int) - (r.1.length : Int)).toNat = k - r.1.length by omega]
    have e2 : (2 : Int) ^ (k - r.1.length) = wd k r.1 := rfl
    rw [e2]
    have e1 : val r.1 * wd k r.1 = lo k r.1 := rfl
    subst hU
    refine tSeq_gen fun U hU => ?_
    walk_at "rd"
    have hwd : CMul (val r.1) (wd k r.1) := by
      have h1 := wd_pos k r.1
      have h2 : wd k r.1 ≤ 2 ^ 16 := pow_mono2 (by omega)
      exact .inr ⟨by omega, by omega⟩
    refine ⟨tyV_lst hcc, hwd, c, _, _, rfl, rfl, hcc, by walk_at "sz", ?_⟩
    rw [e1]
    have sm3 : Same H (upd H'' c (.lst ((cutsL k r1).map V.int ++ [V.int (lo k r.1)]))) := sm.upd' hc
    have hc3 : upd H'' c (.lst ((cutsL k r1).map V.int ++ [V.int (lo k r.1)])) c = some (.lst ((cutsL k r1).map V.int ++ [V.int (lo k r.1)])) := upd_same
    generalize upd H'' c (.lst ((cutsL k r1).map V.int ++ [V.int (lo k r.1)])) = H3 at sm3 hc3 ⊢
    subst hU
    walk_at "rd"
    refine ⟨hwd, k, rfl, by omega, by omega, ?_⟩
    rw [Int.toNat_natCast]
    walk_at "rd"
    rw [e1]
    have hsn := cutsL_snoc k r1 r
    rw [cutsOf_eq] at hsn
    split
    · rename_i h1
      rw [if_pos h1] at hsn
      refine ⟨tyV_lst hc3, hwd, c, _, _, rfl, rfl, hc3, by walk_at "sz", sm3.upd' hc, ?_⟩
      refine ⟨_, _, _, _, r1 ++ [r], Paired.snoc hr1 hrx, rfl, rfl, rfl, rfl, ?_⟩
      rw [upd_same, hsn]
      simp [List.map_append]
    · rename_i h1
      rw [if_neg h1] at hsn
      refine ⟨sm3, _, _, _, _, r1 ++ [r], Paired.snoc hr1 hrx, rfl, rfl, rfl, rfl, ?_⟩
      rw [hc3, hsn]
      simp [List.map_append]
  · rintro σ H' ⟨sm, o1, o2, o3, o4, pr, hp, rfl, hcc⟩
    have epr : rs = pr := RowsAre.inj hr hp
    subst epr
    simp only [tRet, tSortedSet, tCons, tNil]
    walk_at "rd"
    have hcl := cutsL_len k rs
    refine ⟨cutsL k rs, SqL.of hcc, by omega, hfew, fun l ms hl hpm hs => ?_⟩
    exact q l _ ms (sm.upd' (sm.free hl)) (sm.free hl) upd_same (by rw [hpm.length_eq]; exact hfew) (sortD_of hpm hs)
def rd_law_led (K : PySem.W.Frag) : TS :=
  (tSeq (tAsg (tCall (sp_law_head_for K) [] E0 (tCons (tVar 0) (tCons (tVar 1) tNil))) (gName 2))
  (tSeq (tIfS (tTest (tOp rIsN (tVar 2) (tC .non))) (tRet (tC .non)) tNext)
  (tRet (tOp (rIxA K) (tVar 2) (tC (.int 1))))))
def nm_law_led : List Str := ["rows", "address", "row"]
def sp_law_led (K : PySem.W.Frag) : Sp := fun vs H Q _ => ∃ a xs rs ad, vs = [.ref a, .str (enc ad)] ∧ H a = some (.lst xs) ∧ RowsAre H xs rs ∧ (∀ r ∈ rs, r.1.length ≤ 1000) ∧ ad.length ≤ 1000 ∧ Q (wayV (led rs ad)) H
theorem len_law_led {K vs H Q E} (h : sp_law_led K vs H Q E) : vs.length = 2 := by obtain ⟨_, _, _, _, rfl, _⟩ := h; rfl
theorem rdok_law_led {K vs H Q E} (h : sp_law_led K vs H Q E) : rd_law_led K { nx := fun _ H' => Q .non H', rt := Q } (start nm_law_led vs) H := by
  obtain ⟨a, xs, rs, ad, rfl, ha, hr, hlen, had, q⟩ := h
  simp only [rd_law_led, nm_law_led]
  walk_at "rd"
  refine ⟨a, xs, rs, ad, rfl, ha, hr, hlen, had, fun v hv => ?_⟩
  unfold led at q
  cases hl : lead rs ad with
  | none =>
    rw [hl] at hv q
    cases hv
    walk_at "rd"
    exact q
  | some r =>
    rw [hl] at hv q
    obtain ⟨p, rfl, hp⟩ := hv
    walk_at "rd"
    exact ⟨_, .inr (SqT.of hp), _, rfl, q⟩
/-! ### spans -/
def SpanIs (H : Hp) (v : V) (x : Span) : Prop := ∃ p, v = .ref p ∧ H p = some (.tup [.int x.1, .int x.2.1, wayV x.2.2])
abbrev SpansAre (H : Hp) : List V → List Span → Prop := Paired (SpanIs H)
theorem SpanIs.mono {H H' : Hp} {v : V} {x : Span} (h : SpanIs H v x) (t : Tp H H') : SpanIs H' v x := let ⟨p, e, q⟩ := h; ⟨p, e, t _ _ q⟩
theorem SpansAre.mono {H H' : Hp} {vs : List V} {xs : List Span} (h : SpansAre H vs xs) (t : Tp H H') : SpansAre H' vs xs := Paired.mono h fun _ _ q => q.mono t
end L2

end
section
set_option Elab.async false
set_option linter.all false
set_option maxRecDepth 100000
set_option maxHeartbeats 4000000
namespace L2
open PySem PySem.Spec PyProof.Rows
/-! ### len(set(xs)): xs unlike texts -/
theorem strs_at : ∀ {vs : List Value} {ks : List Str}, StrsAre vs ks → ∀ (i : Nat) (v : Value), vs[i]? = some v → ∃ x t, ks[i]? = some x ∧ v = .str x t
  | _, _, .nil, i, v, h => by simp at h
  | _, _, .cons n t hr, 0, v, h => by simp at h; exact ⟨n, t, rfl, h.symm⟩
  | _, _, .cons n t hr, i + 1, v, h => by
    simp only [List.getElem?_cons_succ] at h ⊢
    exact strs_at hr i v h
section
variable {prog : Program} {w : World} {A : Around} {E : Value → Shared → Prop} {s : Shared}
theorem setS_new {h : Heap} {a : Addr} (e : h.get? a = some (newSetO w)) : h.SetOf (mixKind prog w) a (fun k' => (([] : List Str).take 0).any fun x => decide (strK x = k')) 0 :=
  ⟨_, #[], 0, _, e, ⟨rfl, rfl, rfl⟩, rfl, fun x hx => by simp at hx, fun k => ⟨fun z => by simp at z, fun ⟨x, hx, _⟩ => by simp at hx⟩, by decide, by rfl, rfl⟩
theorem setS_congr {h : Heap} {a : Addr} {F F' : Key → Bool} {n n' : Nat} (hS : h.SetOf (mixKind prog w) a F n) (e : ∀ k, F k = F' k) (en : n = n') : h.SetOf (mixKind prog w) a F' n' := by
  have : F = F' := funext e
  subst this en
  exact hS
theorem loopS {R : Result → Shared → Prop} {I : Addr} {fp wr : List Addr} {G : Array GenState → Array GenState → Prop} {n : Nat} {P : Nat → Value → Prop} {St : Nat → Shared → Prop}
    (W : WalksS prog w A.in1 I fp wr G n P St) (S : Addr) (hSf : S ∉ fp) (ks : List Str) (hml : ks.length = n) (nd : ks.Nodup) (hval : ∀ i v, P i v → ∃ x t, ks[i]? = some x ∧ v = .str x t) (hb : n + 1 < scanBound) :
    ∀ (k i : Nat) (s : Shared), n - i = k → i ≤ n → St i s → s.heap.SetOf (mixKind prog w) S (fun k' => (ks.take i).any fun x => decide (strK x = k')) i → (∀ s', Moved (S :: wr) G s s' → (∃ F, s'.heap.SetOf (mixKind prog w) S F ks.length) → R (.ok (.ret .none)) s') →
      codeAny (model prog w) A (.builtin "set.update.loop" ⟨[.ref S, .ref I], []⟩) R s := by
  have hSw : S ∉ wr := fun h => hSf (W.sub _ h)
  have hsub : ∀ b ∈ wr, b ∈ S :: wr := fun b hb => List.mem_cons_of_mem _ hb
  have kept : ∀ (s s' : Shared) F m, s.heap.SetOf (mixKind prog w) S F m → Moved wr G s s' → s'.heap.SetOf (mixKind prog w) S F m := fun s s' F m ⟨o, es, ep, t, ho, q⟩ hm => ⟨o, es, ep, t, hm.heap S _ hSw ho, q⟩
  intro k
  induction k with
  | zero =>
    intro i s hk hi hst hS hR
    have hin : i = n := by omega
    subst hin
    refine codeAny_builtin F.entry_set_update_loop ?_; rw [Around.under_plainId F.plain_set_update_loop _]
    show wpAny _ A.in1 (pyNext (.ref I) >>= _) _ _ s
    refine wpAny_bind (W.done s _ _ hst fun s' hm => ?_)
    show wpAny _ A.in1 (ret Value.none) _ _ s'
    exact wpAny_pure (hR s' (hm.mono hsub) ⟨_, by rw [hml]; exact kept s s' _ _ hS hm⟩)
  | succ k ih =>
    intro i s hk hi hst hS hR
    have hlt : i < n := by omega
    refine codeAny_builtin F.entry_set_update_loop ?_; rw [Around.under_plainId F.plain_set_update_loop _]
    show wpAny _ A.in1 (pyNext (.ref I) >>= _) _ _ s
    refine wpAny_bind (W.item i s _ _ hlt hst fun v s' hP hst' hm => ?_)
    obtain ⟨x, t, hx, rfl⟩ := hval i v hP
    have hS' := kept s s' _ _ hS hm
    show wpAny _ A.in1 (holding [Value.str x t] (setAdd S (.str x t)) >>= _) _ _ s'
    refine wpAny_bind (wpAny_holding ?_)
    unfold setAdd
    have hkey : (mixKind prog w).is (strK x) (.str x t) = true := kV_is (k := strK x) ⟨t, rfl⟩
    refine wpAny_holding (wpAny_bind ((mixKind prog w).pyHash (k := strK x) hkey ?_))
    refine wpAny_setAddHashed_of (knd := mixKind prog w) (s := { s' with toks := s'.toks + 1 }) hkey rfl hS' (by omega) fun h' hsb hS2 => ?_
    have hnew : ((ks.take i).any fun y => decide (strK y = strK x)) = false := by
      rw [List.any_eq_false]
      intro y hy
      simp only [decide_eq_true_eq]
      intro e
      have e : y = x := by unfold strK at e; cases e; rfl
      subst e
      obtain ⟨hj, ej⟩ := List.getElem?_eq_some_iff.mp hx
      have hn := nd
      rw [← List.take_append_drop i ks, List.nodup_append] at hn
      exact hn.2.2 y hy y (by rw [List.drop_eq_getElem_cons hj, ej]; exact List.mem_cons_self) rfl
    have hS3 : h'.SetOf (mixKind prog w) S (fun k' => (ks.take (i + 1)).any fun y => decide (strK y = k')) (i + 1) := by
      refine setS_congr hS2 (fun k' => ?_) (by rw [hnew]; rfl)
      rw [List.take_add_one, hx, List.any_append]
      simp only [Option.toList_some, List.any_cons, List.any_nil, Bool.or_false]
      congr 1
      rw [decide_eq_decide]
      exact eq_comm
    refine wpAny_pure ⟨plainId_quiet F.plain_set_update_loop _, ih (i + 1) _ (by omega) hlt (W.frame _ s' _ _ hst' (Nat.le_succ _) fun b hb o e => ?_) hS3 fun s'' hm'' hS'' => ?_⟩
    · rw [hsb.2 b (fun h : b = S => hSf (by rw [← h]; exact hb))]; exact e
    · refine hR s'' (Moved.trans W.gtrans ((hm.mono hsub).then_heap (Nat.le_succ _) fun b o hb e => ?_) hm'') hS''
      rw [hsb.2 b (fun h : b = S => hb (by rw [h]; exact List.mem_cons_self))]; exact e
end
section
variable {prog : Program} {w : World} {A : Around} {E : Value → Shared → Prop} {s : Shared}
set_option maxHeartbeats 3200000 in
theorem call_setS {l : Addr} {items : Array Value} {ks : List Str} {Q : Value → Shared → Prop}
    (hh : A.handled = none) (hl : s.heap.IsList l items) (hi : PyProof.Rows.StrsAre items.toList ks) (nd : ks.Nodup) (hb : items.size + 1 < scanBound)
    (h : ∀ (h' : Heap) (tk : Nat), (∃ F, h'.SetOf (mixKind prog w) s.heap.objs.size F ks.length) → (∀ b o, b < s.heap.objs.size → s.heap.get? b = some o → h'.get? b = some o) → Q (.ref s.heap.objs.size) { s with heap := h', toks := tk }) :
    wpAny (model prog w) A (call (.type "set") [.ref l]) Q E s := by
  obtain ⟨c, tl, hmro⟩ := F.called_set.mro; have hmade := F.called_set.made; have hsub := F.called_set.sub
  refine wpAny_call (codeAny_of_tree ?_)
  show wpAny _ _ (callAny (.type "set") _) _ _ _
  refine wpAny_pure ⟨Code.quiet_builtin _ (by decide +kernel), codeAny_builtin F.entry_type_call ?_⟩; rw [Around.under_plain (weight_type_call_type "set" [.ref l] []) rfl]
  have h1 := F.called_set.notType; have h2 := F.called_set.canCreate; have hct := F.typeCall_set_1 (.ref l)
  repeat (any_goals (first | assumption | wp_step))
  refine codeAny_mono (code_newL (.ref l) (E := E) (Q₁ := fun obj s₁ => obj = .ref s.heap.objs.size ∧ s₁ = { s with heap := s.heap.push (newSetO w) }) ⟨rfl, rfl⟩) fun r s₁ hr => ?_
  cases r with
  | error e => exact hr
  | ok fl =>
    cases fl with
    | ret obj =>
      obtain ⟨rfl, rfl⟩ := hr
      have hS : (s.heap.push (newSetO w)).get? s.heap.objs.size = some (newSetO w) := Heap.get?_push_size _ rfl
      have hT : Shared.TypeIs { s with heap := s.heap.push (newSetO w) } (.ref s.heap.objs.size) "set" := ⟨_, hS, rfl⟩
      have hli := F.called_set.init.lookup; have hbi := F.called_set.init.bind (.ref s.heap.objs.size)
      repeat (any_goals (first | assumption | wp_step))
      refine codeAny_mono (codeAny_call_builtin (R := wants (fun r s₂ => r = .none ∧ ∃ h' tk, s₂ = { s with heap := h', toks := tk } ∧ (∃ F, h'.SetOf (mixKind prog w) s.heap.objs.size F ks.length) ∧
          (∀ b o, b < s.heap.objs.size → s.heap.get? b = some o → h'.get? b = some o)) E) F.called_set.init.plain F.entry_set_init (check_set_init_1 hT ?_)) fun r₂ s₂ hr₂ => ?_
      · obtain ⟨ol, hol, hcl, nl, hdl⟩ := hl; obtain ⟨ocls, odict, odata, oslots⟩ := ol; simp only at hcl hdl; subst hcl; subst hdl
        have hol' : (s.heap.push (newSetO w)).get? l = some { cls := .type "list", dict := odict, data := .seq items nl, slots := oslots } := Heap.get?_push_of_some _ hol
        have hsls := F.sub_list_set; have hslf := F.sub_list_frozenset; have hne : (Value.type "list" == Value.type "dict") = false := by decide
        have hl1 : (s.heap.push (newSetO w)).IsList l items := ⟨_, hol', rfl, nl, rfl⟩
        unfold Builtin.«set.__init__» noKeywords Builtin.Frozenset.updateFrom; generalize hPI : pyIter = PI
        unfold newSetO at hS hT hol' hl1 ⊢
        wp_walk
        subst hPI
        refine wpAny_pyIter_list hl1 (wpAny_bind (wpAny_runValue ?_))
        have hlS : l < s.heap.objs.size := Heap.lt_size hol
        have hh3 : A.in1.in1.in1.handled = none := by simp [hh]
        generalize hO : ({ cls := .type "set", dict := none, data := .set #[] 0 (.fresh 0 0 (ledOf w)) } : Obj) = O at *
        have eO : newSetO w = O := hO
        have hneI : l ≠ (s.heap.push O).objs.size := by rw [Heap.size_push]; exact Nat.ne_of_lt (Nat.lt_succ_of_lt hlS)
        have hSf : s.heap.objs.size ∉ [(s.heap.push O).objs.size, l] := by
          rw [Heap.size_push]; simp only [List.mem_cons, List.mem_singleton, List.not_mem_nil, or_false, not_or]
          exact ⟨Nat.ne_of_lt (Nat.lt_succ_self _), Nat.ne_of_gt hlS⟩
        have hlen : ks.length = items.size := by have := hi.strs; rw [← this, List.length_map, Array.length_toList]
        have hval : ∀ (i : Nat) (v : Value), items[i]? = some v → ∃ x t, ks[i]? = some x ∧ v = .str x t := fun i v hv => strs_at hi i v (by rw [Array.getElem?_toList]; exact hv)
        refine loopS ((Walks.list hh3 _ l hneI items).toS) s.heap.objs.size hSf ks hlen nd hval hb (items.size - 0) 0 _ (by omega) (Nat.zero_le _) ⟨⟨_, Heap.get?_push_size _ rfl, rfl, rfl⟩, (hl1.push _)⟩ ?hS0 ?hR
        case hS0 => exact setS_new (w := w) (by rw [eO]; exact Heap.get?_push_of_some _ hS)
        case hR =>
          intro s' hm hS'
          obtain ⟨h', g', d', tk', os'⟩ := s'
          have eg : g' = s.gens := hm.gens
          have ed : d' = s.drawn := hm.drawn
          have eo : os' = s.os := hm.os
          subst eg ed eo
          show wpAny _ _ _ _ _ _
          refine wpAny_pure ?_
          show wpAny _ _ (ret Value.none) _ _ _
          refine wpAny_pure ⟨rfl, h', tk', rfl, hS', fun b o hb e => ?_⟩
          have hb2 : b ≠ (s.heap.push O).objs.size := by rw [Heap.size_push]; exact Nat.ne_of_lt (Nat.lt_succ_of_lt hb)
          exact hm.heap b o (by simp only [List.mem_cons, List.mem_singleton, List.not_mem_nil, or_false, not_or]; exact ⟨Nat.ne_of_lt hb, hb2⟩) (Heap.get?_push_of_some _ (Heap.get?_push_of_some _ e))
      · cases r₂ with
        | error e => exact hr₂
        | ok fl₂ =>
          cases fl₂ with
          | ret r =>
            obtain ⟨rfl, h', tk, rfl, hS', hk'⟩ := hr₂
            repeat (any_goals (first | assumption | wp_step))
            exact h _ _ hS' hk'
          | _ => exact hr₂.elim
    | _ => exact hr.elim
end

theorem strs_vals' : ∀ {ks : List Str} {its : List Value}, Vals (ks.map V.str) its → StrsAre its ks
  | [], _, .nil => .nil
  | k :: ks, _, .cons rx rr => by
    obtain ⟨t, rfl⟩ := rx
    exact .cons k t (strs_vals' rr)
def tLenSet (K : PySem.W.Frag) (t : TA) : TE := fun σ H Q => t σ H fun as H1 => ∃ (a : Addr) (ks : List Str), as = [.ref a] ∧ SqL K H1 a (ks.map V.str) ∧ ks.Nodup ∧ ks.length ≤ 1000 ∧ Q (.int ks.length) H1
section
variable {X : Cx} {p p2 pos pos2 : Pos} {e : Expr} {t : TA}
theorem pe_lenSet (hd : X.A.handled = none) (hs : X.mg "len" = none) (hs2 : X.mg "set" = none) (ha : PA X [e] t) (hg : Gl X "len" := by rfl) (hg2 : Gl X "set" := by rfl)
    (he : starEach [.Call (.Name "set" p2) [e] [] pos2] X.env = (false, eval (.Call (.Name "set" p2) [e] [] pos2) X.env) :: starEach [] X.env := by rfl) (hpl : (backTo pos (starEach [] X.env)).any (·.1) = false := by rfl)
    (he2 : starEach [e] X.env = (false, eval e X.env) :: starEach [] X.env := by rfl) (hpl2 : (backTo pos2 (starEach [] X.env)).any (·.1) = false := by rfl) :
    PE X (.Call (.Name "len" p) [.Call (.Name "set" p2) [e] [] pos2] [] pos) (tLenSet X.K t) := by
  intro pins s σ H Q I h
  refine wpAny_Call_Name_kw (ld_blt I hg hs bt_len ?_)
  refine PyProof.Rows.callWith_builtin1 ?_ he hpl
  rw [he]
  show wpAny _ _ (spliced ((false, eval (.Call (.Name "set" p2) [e] [] pos2) X.env) :: backTo pos (starEach [] X.env))) _ _ s
  refine Calls.spliced_cons ?_
  refine wpAny_Call_Name_kw (ld_blt I hg2 hs2 bt_set ?_)
  refine PyProof.Rows.callWith_type1 (thn (ha pos2 pins s σ H _ I h) fun us s1 ⟨as, H1, I1, r1, a, ks, ea, ql, nd, hn, q⟩ => ?_) he2 hpl2
  subst ea
  obtain ⟨u, rfl, ru⟩ := vals1 r1
  cases ru
  obtain ⟨its, rv, ⟨o, n, ho, hc, _, hdt⟩, _⟩ := I1.list ql
  have hI := strs_vals' rv
  have hlen : its.length = ks.length := by have := Vals.length rv; simpa using this.symm
  refine call_setS (items := its.toArray) (ks := ks) hd ⟨o, ho, hc, n, hdt⟩ (by simpa using hI) nd (by simp only [List.size_toArray]; unfold scanBound; omega) fun h2 tk S k2 => ?_
  refine Calls.spliced_nil ?_
  obtain ⟨F, o3, es, ep, t3, ho3, hex, hd3, _, _, hb3, hf3, hn3⟩ := S
  refine call_len_set (s := { s1 with heap := h2, toks := tk }) ho3 hex hd3 hf3 (by rw [hn3]; omega) ?_
  rw [hn3]
  exact ⟨.int ks.length, _, I1.kept fun b ob z => k2 b ob (Heap.lt_size z) z, ⟨_, rfl⟩, q⟩
end
end L2

end
section
set_option Elab.async false
set_option linter.all false
set_option maxRecDepth 100000
set_option maxHeartbeats 4000000
namespace L2
open PySem PySem.Spec PyProof.Rows
/-! ### x is not True, x is not False: x a bool -/
section
variable {X : Cx}
end
/-! ### sorted(xs): texts, fewer than 64 -/
def rSortedS (K : PySem.W.Frag) : List V → Hp → VK → Prop := fun vs H Q => match vs with
  | [.ref a] => ∃ ks : List Str, SqL K H a (ks.map V.str) ∧ ks.length < 64 ∧ ∀ l ss, H l = none → ss.Perm ks → upS ss → Q (.ref l) (upd H l (.lst (ss.map V.str)))
  | _ => False
theorem strs_vals : ∀ {ks : List Str} {its : List Value}, Vals (ks.map V.str) its → StrsAre its ks
  | [], _, .nil => .nil
  | k :: ks, _, .cons rx rr => by
    obtain ⟨t, rfl⟩ := rx
    exact .cons k t (strs_vals rr)
section
variable {X : Cx}
theorem call_sortedS : CallR X (.builtin "sorted") (rSortedS X.K) := by
  intro pins s σ H xs us Q I rv h
  unfold rSortedS at h
  split at h
  rotate_left
  · exact h.elim
  rename_i a
  obtain ⟨ks, ql, h64, q⟩ := h
  obtain ⟨u, rfl, ru⟩ := vals1 rv
  cases ru
  have line : 64 ≤ sizeLine := Nat.le_trans (by decide) line_ge
  obtain ⟨its, ri, ⟨o, n, ho, hc, _, hd⟩, _⟩ := I.list ql
  have lits : its.length = ks.length := by have := Vals.length ri; rw [List.length_map] at this; omega
  have hS : StrsAre its ks := strs_vals ri
  refine Calls.call_function_entry kind_sorted plain_sorted entry_sorted (args_sorted1 _) ?_
  unfold Builtin.«sorted»
  refine wpAny_bind (m := checkCount "sorted" 1 1 _) (wpAny_pure (wpAny_bind (collect_list (vs := its) ⟨o, ho, hc, n, hd⟩ (wpAny_bind (wpAny_newList ?_ (by omega))) (by omega))))
  have hsz : ((s.heap.push (seqObj "list" #[] 0)).update s.heap.objs.size (Obj.mapSeq (· ++ its.toArray))).objs.size = s.heap.objs.size + 1 := by rw [Heap.size_update, size_push']
  have keep : ∀ b ob, s.heap.get? b = some ob → ((s.heap.push (seqObj "list" #[] 0)).update s.heap.objs.size (Obj.mapSeq (· ++ its.toArray))).get? b = some ob := fun b ob z => by
    have lt : b < s.heap.objs.size := Heap.lt_size z
    rw [Heap.get?_update_other _ _ (Ne.symm (Nat.ne_of_lt lt))]
    exact Heap.get?_push_of_some _ z
  generalize (s.heap.push (seqObj "list" #[] 0)).update s.heap.objs.size (Obj.mapSeq (· ++ its.toArray)) = h' at hsz keep ⊢
  have hoL : (h'.push (seqObj "list" its.toArray 0)).get? h'.objs.size = some (seqObj "list" its.toArray 0) := Heap.get?_push_size _ rfl
  refine wpAny_bind (wpAny_holding (wpAny_call_entry slot_list_sort ⟨_, hoL, rfl⟩ entry_list_sort (list_sort_treeK strKind_oneLt hoL hS.keysOf (fun v₁ v₂ rest e => keyKind_strs (by rw [← e]; exact hS)) (by omega) fun st' hp hs => ⟨_, rfl, ?_⟩) (args_list_sort _)))
  obtain ⟨ss, b1, b2, b3⟩ := sorted_out_str hS hp hs
  obtain ⟨ec, he⟩ := sortedHeap_at (out := (arrOf st').map (·.2)) hoL
  refine wpAny_pure ⟨_, rfl, ?_⟩
  have hz2 : (ss.map V.str).length ≤ sizeLine := by rw [List.length_map, b2.length_eq]; omega
  have lt' : ∀ b ob, s.heap.get? b = some ob → b < h'.objs.size := fun b ob w => Heap.lt_size (keep b ob w)
  have I2 := I.kept (t' := s.toks) (h' := sortedHeap (h'.push (seqObj "list" its.toArray 0)) h'.objs.size its ((arrOf st').map (·.2))) fun b ob w => by
    have hb := lt' b ob w
    rw [sortedHeap_old (Nat.ne_of_lt hb) (by rw [size_push']; exact Nat.lt_succ_of_lt hb)]
    exact Heap.get?_push_of_some _ (keep b ob w)
  have hloc : X.env.locals < h'.objs.size := by obtain ⟨m, ⟨o, _, _, ho, _⟩, _⟩ := I.loc; exact lt' _ _ ho
  have hn : H h'.objs.size = none := by
    cases w : H h'.objs.size with
    | none => rfl
    | some o =>
      obtain ⟨ob, hob⟩ := ObjOk.there (I.hok _ _ w)
      exact absurd (lt' _ _ hob) (Nat.lt_irrefl _)
  have h0 : X.s₀.heap.get? h'.objs.size = none := Heap.get?_none_of_le (Nat.le_trans I.ok.above (Nat.le_of_lt hloc))
  refine ⟨.ref h'.objs.size, _, I2.track (o := .lst (ss.map V.str)) hn h0 (Nat.ne_of_gt hloc) (fun x c ec => ?_) (fun p hp => ?_) ⟨hz2, _, ec, vals_strs b1, by exact he⟩, rfl, q _ ss hn b2 (sorted_pw b3)⟩
  · obtain ⟨v, o, ho, _⟩ := I.cell x c ec
    exact Nat.ne_of_lt (lt' _ _ ho)
  · exact Nat.ne_of_lt (lt' _ _ (I.pin p hp).1)
end
end L2

end
section
set_option Elab.async false
set_option linter.all false
set_option maxRecDepth 100000
namespace L2
open PySem PySem.Spec PyProof.Rows
/-! ### tables as data -/
def wayD : Option Int → PyData
  | none => .none
  | some i => .int i
def rowD (r : Row) : PyData := .tuple [.str (enc r.1), wayD r.2]
theorem enc_ok (bs : List Bool) : PyData.strOk (enc bs) = true := by
  show ((bs.map sg).toArray).all (· < 0x110000) = true
  rw [List.all_toArray, List.all_map, List.all_eq_true]
  intro b _
  cases b <;> decide
theorem rowD_ok (r : Row) : PyData.canLay0 (rowD r) = true ∧ PyData.depth (rowD r) ≤ 1 := by
  obtain ⟨h, w⟩ := r
  cases w <;> exact ⟨by simp [rowD, wayD, PyData.canLay0, PyData.canLayAll0, enc_ok], by simp [rowD, wayD, PyData.depth, PyData.depthAll]⟩
theorem rowsD_ok (rs : List Row) : PyData.canLayAll0 (rs.map rowD) = true ∧ PyData.depthAll (rs.map rowD) ≤ 1 := by
  induction rs with
  | nil => exact ⟨by simp [PyData.canLayAll0], by simp [PyData.depthAll]⟩
  | cons r rs ih =>
    have h := rowD_ok r
    refine ⟨by simp only [List.map_cons, PyData.canLayAll0, h.1, ih.1, Bool.and_true], ?_⟩
    have e : PyData.depthAll ((r :: rs).map rowD) = max (PyData.depth (rowD r)) (PyData.depthAll (rs.map rowD)) := by simp only [List.map_cons, PyData.depthAll]
    rw [e]
    exact Nat.max_le.mpr ⟨h.2, ih.2⟩
theorem tab_lay (rs : List Row) : PyData.canLay0 (.list (rs.map rowD)) = true := by simp only [PyData.canLay0, (rowsD_ok rs).1]
theorem tab_shaped (rs : List Row) : SeqAt.shaped (.list (rs.map rowD)) = true := by
  unfold SeqAt.shaped
  rw [tab_lay, Bool.true_and, decide_eq_true_iff]
  have := (rowsD_ok rs).2
  simp only [PyData.depth]
  omega
theorem wayV_rep {K : PySem.W.Frag} {H : Hp} (w : Option Int) : Rep K H (wayV w) (wayD w) := by
  cases w with
  | none => exact .non
  | some i => exact .int i
theorem RowIs.rep {K : PySem.W.Frag} {H : Hp} {v : V} {r : Row} (h : RowIs H v r) : Rep K H v (rowD r) := by
  obtain ⟨p, rfl, hp⟩ := h
  exact .tup (SqT.of hp) (.cons (.str _) (.cons (wayV_rep _) .nil))
theorem RowsAre.reps {K : PySem.W.Frag} {H : Hp} {vs : List V} {rs : List Row} (h : RowsAre H vs rs) : Reps K H vs (rs.map rowD) := by
  induction h with
  | nil => exact .nil
  | cons h _ ih => exact .cons h.rep ih
theorem tab_rep {K : PySem.W.Frag} {H : Hp} {a : Addr} {vs : List V} {rs : List Row} (ha : H a = some (.lst vs)) (h : RowsAre H vs rs) : Rep K H (.ref a) (.list (rs.map rowD)) := .lst (SqL.of ha) h.reps
theorem tab_eqv (rs : List Row) : PyData.eqv (.list (rs.map rowD)) (.list (rs.map rowD)) = true := PySem.SeqAt.eqv_refl _ (tab_lay rs)
end L2

end
section
set_option Elab.async false
set_option linter.all false
set_option maxRecDepth 100000
set_option maxHeartbeats 4000000
namespace K06
open PySem L2 L2.Th
local macro_rules | `(tactic| walk_at "rd") => `(tactic| try simp only [tVar, tC, tOp, tUn, tSeq, tAsg, gName, tRet, tRetN, tIfS, tDrop, tNext, tCons, tNil, tCall, tCB, tTest, tB, tAnd, tOr, tNot, tAndV, tOrV, tNotV, tIf, tTup, tLst, tSl, tPart, tNoPart, tBM, tBM0, L2.start, rI2, rI3, rAddA, rMulA, rSubI, rDivI, rModI, rPowI, rNegI, rLt, rLe, rGt, rGe, rIsN, rNotN, rEqS, rNeS, rLen, rIxA, rIntA, rMax2, rMin2, rStrI, rListOf, rIsi2, isiF, isiO, rSlA, rStarts2, rEnds2, CDiv,
  List.map_cons, List.map_nil, List.length_cons, List.length_nil, List.replicate_succ, List.replicate_zero, List.cons_append, List.nil_append, List.append_nil, List.getElem?_cons_zero, List.getElem?_cons_succ, List.set_cons_zero, List.set_cons_succ, Option.some.injEq, V.int.injEq, V.str.injEq, V.bl.injEq, V.ref.injEq, V.ty.injEq, reduceCtorEq, exists_eq_left', exists_eq_left, exists_eq_right, exists_eq_right', exists_eq', exists_eq, exists_and_left, exists_and_right, false_and, and_false, true_and, and_true, exists_const, exists_false, false_or, or_false, List.cons.injEq, and_assoc, decide_eq_true_eq, decide_true, decide_false, Int.reduceLT, Int.reduceLE, Nat.reduceLT, Nat.reduceLeDiff, Nat.reduceSub, Nat.reduceAdd, Nat.sub_self, Nat.sub_zero, enc_eq, enc_nil, enc_0, enc_1, enc_01, enc_append, enc_len, Bool.not_true, Bool.not_false, Bool.false_eq_true, if_true, if_false, ↓reduceIte, String.reduceEq, or_true, true_or, Nat.one_mul, addr_len, bitsBy_len, List.length_append, List.length_replicate, List.length_map])
local macro_rules | `(tactic| walk_at "sz") => `(tactic| (have hline := line_ge; first | omega | (simp; omega)))
theorem has_bits (b : Bool) : hasS (enc [false, true]) (enc [b]) = true := by
  have e : enc [b] = ⟨#[sg b]⟩ := rfl
  rw [e]
  unfold hasS
  rw [StrLaws.found_one]
  have : (enc [false, true]).cps.toList = [48, 49] := rfl
  rw [this]
  cases b <;> decide
theorem strs_reps {K : PySem.W.Frag} {H : Hp} : ∀ (ss : List Row), Reps K H (ss.map fun r => V.str (enc r.1)) (ss.map fun r => PyData.str (enc r.1))
  | [] => .nil
  | r :: ss => .cons (.str _) (strs_reps ss)
theorem strs_lay : ∀ (ss : List Row), PyData.canLayAll0 (ss.map fun r => PyData.str (enc r.1)) = true ∧ PyData.depthAll (ss.map fun r => PyData.str (enc r.1)) ≤ 1
  | [] => ⟨by simp [PyData.canLayAll0], by simp [PyData.depthAll]⟩
  | r :: ss => by
    have ih := strs_lay ss
    refine ⟨by simp only [List.map_cons, PyData.canLayAll0, ih.1, PyData.canLay0, enc_ok, Bool.and_true], ?_⟩
    have e : PyData.depthAll ((r :: ss).map fun r => PyData.str (enc r.1)) = max (PyData.depth (.str (enc r.1))) (PyData.depthAll (ss.map fun r => PyData.str (enc r.1))) := by simp only [List.map_cons, PyData.depthAll]
    rw [e]
    exact Nat.max_le.mpr ⟨by simp [PyData.depth], ih.2⟩
theorem strs_shaped (ss : List Row) : SeqAt.shaped (.list (ss.map fun r => .str (enc r.1))) = true := by
  unfold SeqAt.shaped
  have := strs_lay ss
  rw [show PyData.canLay0 (.list (ss.map fun r => .str (enc r.1))) = true by simp only [PyData.canLay0, this.1], Bool.true_and, decide_eq_true_iff]
  simp only [PyData.depth]
  omega

/-! ### a table as it should be -/
def rb_law_is_table_1 (K : PySem.W.Frag) : TS :=
  (tIfS (tTest (tOp (rInS true) (tVar 2) (tC (.str (Str.ofString "01"))))) (tRet (tC (.bl false))) tNext)
def rb_law_is_table_2 (K : PySem.W.Frag) : TS :=
  (tSeq (tIfS (tOr (tNot (tB (tCB rIsi2 (tCons (tVar 1) (tCons (tC (.ty "tuple")) tNil))))) (tOr (tTest (tOp rNeS (tCB (rLen K) (tCons (tVar 1) tNil)) (tC (.int 2)))) (tNot (tB (tCB rIsi2 (tCons (tOp (rIxA K) (tVar 1) (tC (.int 0))) (tCons (tC (.ty "str")) tNil))))))) (tRet (tC (.bl false))) tNext)
  (tSeq (tIfS (tAnd (tTest (tOp rNotN (tOp (rIxA K) (tVar 1) (tC (.int 1))) (tC .non))) (tNot (tB (tCall (sp_law_whole K) [] E0 (tCons (tOp (rIxA K) (tVar 1) (tC (.int 1))) tNil))))) (tRet (tC (.bl false))) tNext)
  (tFor (iStr (tOp (rIxA K) (tVar 1) (tC (.int 0)))) (gName 2) (rb_law_is_table_1 K))))
def rd_law_is_table (K : PySem.W.Frag) : TS :=
  (tSeq (tIfS (tNot (tB (tCB rIsi2 (tCons (tVar 0) (tCons (tC (.ty "list")) tNil))))) (tRet (tC (.bl false))) tNext)
  (tSeq (tFor (iList K (tVar 0)) (gName 1) (rb_law_is_table_2 K))
  (tSeq (tAsg (tComp [] (iList K (tVar 0)) tAlways (tOp (rIxA K) (tVar 0) (tC (.int 0)))) (gName 3))
  (tRet (tAndV (tOp rEqS (tLenSet K (tCons (tVar 3) tNil)) (tCB (rLen K) (tCons (tVar 3) tNil))) (tOp (rEqD K) (tCB (rSortedS K) (tCons (tVar 3) tNil)) (tVar 3)))))))
def nm_law_is_table : List Str := ["rows", "row", "sign", "heads"]
def sp_law_is_table (K : PySem.W.Frag) : Sp := fun vs H Q _ => ∃ (l : Addr) (ys : List V) (ts : List Row), vs = [.ref l] ∧ H l = some (.lst ys) ∧ RowsAre H ys ts ∧ (ts.map (·.1)).Nodup ∧ SortR ts ts ∧ ts.length < 64 ∧ (∀ r ∈ ts, r.1.length ≤ 1000) ∧ ∀ H', Same H H' → Q (.bl true) H'
theorem len_law_is_table {K vs H Q E} (h : sp_law_is_table K vs H Q E) : vs.length = 1 := by obtain ⟨_, _, _, rfl, _⟩ := h; rfl
def TaI (H : Hp) (l : Addr) (pre : List V) (σ : St) (H' : Hp) : Prop := H' = H ∧ ∃ o1 o2, σ = [some (.ref l), o1, o2, none]
def TaJ (H : Hp) (l p : Addr) (pre : List Bool) (σ : St) (H' : Hp) : Prop := H' = H ∧ ∃ o2, σ = [some (.ref l), some (.ref p), o2, none]
theorem rdok_law_is_table {K vs H Q E} (h : sp_law_is_table K vs H Q E) : rd_law_is_table K { nx := fun _ H' => Q .non H', rt := Q } (start nm_law_is_table vs) H := by
  obtain ⟨l, ys, ts, rfl, hl, hr, nd, so, hf, hlen, q⟩ := h
  have lys := Paired.length hr
  simp only [rd_law_is_table, nm_law_is_table, L2.start]
  refine tSeq_gen fun U hU => ?_
  walk_at "rd"
  refine ⟨_, hl, true, rfl, ?_⟩
  simp only [Bool.not_true, Bool.false_eq_true, if_false]
  subst hU
  refine tSeq_gen fun U hU => ?_
  refine tFor_lst l ys (TaI H l) (fun R z => by walk_at "rd"; exact z) ⟨rfl, none, none, rfl⟩ ?_ ?_ ?_
  · rintro pre post σ H' _ ⟨rfl, _⟩
    exact SqL.of hl
  · rintro pre x post σ H' e ⟨rfl, o1, o2, rfl⟩
    have hxm : x ∈ ys := by rw [e]; simp
    obtain ⟨i, hi⟩ := List.getElem?_of_mem hxm
    obtain ⟨r, hr', p, rfl, hp⟩ := Paired.get i x hr hi
    have lr := hlen r (List.mem_of_getElem? hr')
    simp only [gName, rb_law_is_table_2, List.set_cons_succ, List.set_cons_zero]
    refine tSeq_gen fun U2 hU2 => ?_
    walk_at "rd"
    refine ⟨_, hp, true, rfl, ?_⟩
    simp only [Bool.not_true, Bool.false_eq_true, if_false]
    refine ⟨_, .inr (SqT.of hp), ?_⟩
    walk_at "rd"
    refine ⟨_, .inr (SqT.of hp), _, rfl, ?_⟩
    walk_at "rd"
    subst hU2
    refine tSeq_gen fun U2 hU2 => ?_
    have go : U2 { nx := TaI H' l (pre ++ [V.ref p]), rt := Q, bk := U { nx := fun x H' => Q V.non H', rt := Q }, ct := TaI H' l (pre ++ [V.ref p]) } [some (.ref l), some (.ref p), o2, none] H' := by
      subst hU2
      refine tFor_enc r.1 (TaJ H' l p) (fun R z => ?_) ⟨rfl, o2, rfl⟩ ?_ ?_
      · walk_at "rd"
        exact ⟨_, .inr (SqT.of hp), _, rfl, z⟩
      · rintro pr b po σ H2 _ ⟨rfl, o3, rfl⟩
        simp only [rb_law_is_table_1]
        walk_at "rd"
        simp only [rInS]
        walk_at "rd"
        rw [has_bits]
        simp only [Bool.not_true, Bool.false_eq_true, if_false, if_true]
        exact ⟨rfl, _, rfl⟩
      · rintro σ H2 ⟨rfl, o3, rfl⟩
        exact ⟨rfl, _, _, rfl⟩
    walk_at "rd"
    refine ⟨_, .inr (SqT.of hp), _, rfl, ?_⟩
    cases hw : r.2 with
    | none =>
      simp only [wayV]
      walk_at "rd"
      exact go
    | some w =>
      simp only [wayV]
      walk_at "rd"
      refine ⟨_, .inr (SqT.of hp), _, rfl, ?_⟩
      rw [hw]
      simp only [wayV, sp_law_whole]
      walk_at "rd"
      exact go
  · rintro σ H' ⟨rfl, o1, o2, rfl⟩
    dsimp only
    subst hU
    refine tSeq_gen fun U hU => ?_
    simp only [tAsg]
    refine tComp_lst l ys (fun _ => true) (fstOf H') (fun R z => by walk_at "rd"; exact z) (SqL.of hl) (by walk_at "sz") (fun v hv H2 R sm z => ?_) (fun v hv _ H2 R sm z => ?_) (fun a hn => ?_)
    · simp only [tAlways]; exact z
    · obtain ⟨i, hi⟩ := List.getElem?_of_mem hv
      obtain ⟨r, hr', p, rfl, hp⟩ := Paired.get i v hr hi
      simp only [capt]
      walk_at "rd"
      refine ⟨_, .inr (SqT.of (sm _ _ hp)), _, rfl, ?_⟩
      rw [fstOf_row ⟨p, rfl, hp⟩] at z
      exact z
    · rw [List.filter_eq_self.mpr (fun _ _ => rfl), map_fstOf hr]
      have s1 : Same H' (upd H' a (.lst (ts.map fun r => V.str (enc r.1)))) := Same.upd hn
      have h1 : upd H' a (.lst (ts.map fun r => V.str (enc r.1))) a = some (.lst (ts.map fun r => V.str (enc r.1))) := upd_same
      generalize upd H' a (.lst (ts.map fun r => V.str (enc r.1))) = H1 at s1 h1 ⊢
      have em : (ts.map fun r => V.str (enc r.1)) = (ts.map fun r => enc r.1).map V.str := by rw [List.map_map]; rfl
      have nde : (ts.map fun r => enc r.1).Nodup := by
        have : (ts.map fun r => enc r.1) = (ts.map (·.1)).map enc := by rw [List.map_map]; rfl
        rw [this]
        exact nd.map enc fun a b ne z => ne (enc_inj z)
      walk_at "rd"
      subst hU
      simp only [tRet, tAndV, tOp, tLenSet]
      walk_at "rd"
      refine ⟨ts.map fun r => enc r.1, by rw [← em]; exact SqL.of h1, nde, by rw [List.length_map]; omega, ?_⟩
      walk_at "rd"
      refine ⟨_, .inl (SqL.of h1), ?_⟩
      rw [if_pos (by rw [List.length_map])]
      refine ⟨ts.map fun r => enc r.1, by rw [← em]; exact SqL.of h1, by rw [List.length_map]; exact hf, fun a2 ss hn2 pm up => ?_⟩
      have es := sorted_heads so pm up
      subst es
      have s2 : Same H1 (upd H1 a2 (.lst ((ts.map fun r => enc r.1).map V.str))) := Same.upd hn2
      refine ⟨.list (ts.map fun r => .str (enc r.1)), .list (ts.map fun r => .str (enc r.1)), .lst (SqL.of upd_same) (by rw [List.map_map]; exact strs_reps ts), .lst (SqL.of (s2 _ _ h1)) (strs_reps ts), strs_shaped ts, strs_shaped ts, ?_⟩
      rw [PySem.SeqAt.eqv_refl _ (by have := (strs_lay ts).1; simp only [PyData.canLay0, this])]
      exact q _ (s1.trans s2)
/-! ### a told table is right -/
def rb_law_right06_1 (K : PySem.W.Frag) : TS :=
  (tSeq (tAsg (tCall (sp_law_text K) [] E0 (tCons (tVar 4) (tCons (tVar 2) tNil))) (gName 5))
  (tIfS (tNot (tB (tCall (sp_law_way_is K) [] E0 (tCons (tCall (sp_law_led K) [] E0 (tCons (tVar 0) (tCons (tVar 5) tNil))) (tCons (tCall (sp_law_led K) [] E0 (tCons (tVar 1) (tCons (tVar 5) tNil))) tNil))))) (tRet (tC (.bl false))) tNext))
def rb_law_right06_2 (K : PySem.W.Frag) : TS :=
  (tIfS (tTest (tOp rGt (tCB (rLen K) (tCons (tOp (rIxA K) (tVar 3) (tC (.int 0))) tNil)) (tVar 2))) (tRet (tC (.bl false))) tNext)
def rd_law_right06 (K : PySem.W.Frag) : TS :=
  (tSeq (tIfS (tOr (tNot (tB (tCall (sp_law_is_table K) [] E0 (tCons (tVar 0) tNil)))) (tTest (tOp rGt (tCB (rLen K) (tCons (tVar 0) tNil)) (tCB (rLen K) (tCons (tVar 1) tNil))))) (tRet (tC (.bl false))) tNext)
  (tSeq (tFor (iList K (tVar 0)) (gName 3) (rb_law_right06_2 K))
  (tSeq (tFor (iList K (tCall (sp_law_cuts K) [] E0 (tCons (tOp rAddA (tVar 1) (tVar 0)) (tCons (tVar 2) tNil)))) (gName 4) (rb_law_right06_1 K))
  (tRet (tC (.bl true))))))
def nm_law_right06 : List Str := ["found", "rows", "size", "row", "number", "address"]
structure Rt (ts rs : List Row) (S : Int) : Prop where
  s0 : 1 ≤ S
  s1 : S ≤ 16
  lent : ∀ r ∈ ts, r.1.length ≤ S.toNat
  lenr : ∀ r ∈ rs, r.1.length ≤ S.toNat
  few : ts.length ≤ rs.length
  few2 : rs.length ≤ 60
  nd : (ts.map (·.1)).Nodup
  so : SortR ts ts
  cuts : FewC S.toNat (rs ++ ts)
  led : ∀ ad : List Bool, ad.length = S.toNat → L2.led ts ad = L2.led rs ad
def sp_law_right06 (K : PySem.W.Frag) : Sp := fun vs H Q _ => ∃ (f l : Addr) (ys xs : List V) (ts rs : List Row) (S : Int), vs = [.ref f, .ref l, .int S] ∧ H f = some (.lst ys) ∧ H l = some (.lst xs) ∧ RowsAre H ys ts ∧ RowsAre H xs rs ∧ Rt ts rs S ∧ ∀ H', Same H H' → Q (.bl true) H'
theorem len_law_right06 {K vs H Q E} (h : sp_law_right06 K vs H Q E) : vs.length = 3 := by obtain ⟨_, _, _, _, _, _, _, rfl, _⟩ := h; rfl
def RiI (H1 : Hp) (f l : Addr) (S : Int) (pre : List V) (σ : St) (H' : Hp) : Prop := H' = H1 ∧ ∃ o, σ = [some (.ref f), some (.ref l), some (.int S), o, none, none]
def RiJ (H1 : Hp) (f l : Addr) (S : Int) (pre : List V) (σ : St) (H' : Hp) : Prop := H' = H1 ∧ ∃ o o1 o2, σ = [some (.ref f), some (.ref l), some (.int S), o, o1, o2]
theorem rdok_law_right06 {K vs H Q E} (h : sp_law_right06 K vs H Q E) : rd_law_right06 K { nx := fun _ H' => Q .non H', rt := Q } (start nm_law_right06 vs) H := by
  obtain ⟨f, l, ys, xs, ts, rs, S, rfl, hf, hl, ht, hr, R, q⟩ := h
  have s0 := R.s0
  have s1 := R.s1
  have l1 := Paired.length ht
  have l2 := Paired.length hr
  have few := R.few
  have few2 := R.few2
  have lt : ∀ r ∈ ts, r.1.length ≤ 1000 := fun r hr => by have := R.lent r hr; omega
  have lr : ∀ r ∈ rs, r.1.length ≤ 1000 := fun r hr => by have := R.lenr r hr; omega
  simp only [rd_law_right06, nm_law_right06, L2.start]
  refine tSeq_gen fun U hU => ?_
  walk_at "rd"
  refine ⟨f, ys, ts, rfl, hf, ht, R.nd, R.so, by omega, lt, fun H1 sm => ?_⟩
  have hf1 := sm _ _ hf
  have hl1 := sm _ _ hl
  have ht1 := RowsAre.mono ht sm.tp
  have hr1 := RowsAre.mono hr sm.tp
  walk_at "rd"
  refine ⟨_, .inl (SqL.of hf1), _, .inl (SqL.of hl1), ?_⟩
  rw [if_neg (by omega)]
  subst hU
  refine tSeq_gen fun U hU => ?_
  refine tFor_lst f ys (RiI H1 f l S) (fun R z => by walk_at "rd"; exact z) ⟨rfl, none, rfl⟩ ?_ ?_ ?_
  · rintro pre post σ H' _ ⟨rfl, _⟩
    exact SqL.of hf1
  · rintro pre x post σ H' e ⟨rfl, o1, rfl⟩
    have hxm : x ∈ ys := by rw [e]; simp
    obtain ⟨i, hi⟩ := List.getElem?_of_mem hxm
    obtain ⟨r, hr', p, rfl, hp⟩ := Paired.get i x ht1 hi
    have lr' := R.lent r (List.mem_of_getElem? hr')
    simp only [gName, rb_law_right06_2, List.set_cons_succ, List.set_cons_zero]
    walk_at "rd"
    refine ⟨_, .inr (SqT.of hp), _, rfl, ?_⟩
    walk_at "rd"
    refine ⟨by walk_at "sz", ?_⟩
    rw [if_neg (by omega)]
    exact ⟨rfl, _, rfl⟩
  · rintro σ H' ⟨rfl, o1, rfl⟩
    dsimp only
    subst hU
    refine tSeq_gen fun U hU => ?_
    refine tFor_go fun G hG => ?_
    walk_at "rd"
    refine ⟨_, hl1, _, hf1, by walk_at "sz", fun a ha => ?_⟩
    have s2 : Same H' (upd H' a (.lst (xs ++ ys))) := Same.upd ha
    have h2 : upd H' a (.lst (xs ++ ys)) a = some (.lst (xs ++ ys)) := upd_same
    generalize upd H' a (.lst (xs ++ ys)) = H2 at s2 h2 ⊢
    refine ⟨a, xs ++ ys, rs ++ ts, S, rfl, h2, Paired.append (RowsAre.mono hr1 s2.tp) (RowsAre.mono ht1 s2.tp), by omega, s1, fun r hr => ?_, by rw [List.length_append]; omega, R.cuts, fun c H3 cs s3 hc0 hc hcl hsd => ?_⟩
    · rcases List.mem_append.mp hr with hr | hr
      · exact R.lenr r hr
      · exact R.lent r hr
    · have hf3 := s3 _ _ (s2 _ _ hf1)
      have hl3 := s3 _ _ (s2 _ _ hl1)
      have ht3 := RowsAre.mono ht1 (s2.trans s3).tp
      have hr3 := RowsAre.mono hr1 (s2.trans s3).tp
      refine hG c (cs.map V.int) H3 (RiJ H3 f l S) ⟨rfl, _, _, _, rfl⟩ ?_ ?_ ?_
      · rintro pre post σ H' _ ⟨rfl, _⟩; exact SqL.of hc
      · rintro pre x post σ H4 e2 ⟨rfl, o3, o4, o5, rfl⟩
        obtain ⟨pn, n, qn, _, _, rfl, _⟩ := ints_split e2
        simp only [gName, rb_law_right06_1, List.set_cons_succ, List.set_cons_zero]
        refine tSeq_gen fun U2 hU2 => ?_
        walk_at "rd"
        refine ⟨n, S, rfl, by omega, by omega, ?_⟩
        subst hU2
        walk_at "rd"
        refine ⟨f, ys, ts, addr S.toNat n, rfl, hf3, ht3, lt, by rw [addr_len]; omega, ?_⟩
        refine ⟨l, xs, rs, addr S.toNat n, rfl, hl3, hr3, lr, by rw [addr_len]; omega, ?_⟩
        rw [R.led _ (addr_len _ _)]
        refine ⟨_, _, rfl, ?_⟩
        walk_at "rd"
        exact ⟨rfl, _, _, _, rfl⟩
      · rintro σ H4 ⟨rfl, o3, o4, o5, rfl⟩
        dsimp only
        subst hU
        walk_at "rd"
        exact q _ ((sm.trans s2).trans s3)
def rd_law06 (K : PySem.W.Frag) : TS :=
  (tSeq (tAsg (tOp rAddA (tC (.int 1)) (tOp rModI (tCall (sp_law_cell_at K) [] E0 (tCons (tVar 0) (tCons (tC (.int 0)) tNil))) (tC (.int 16)))) (gName 1))
  (tSeq (tAsg (tOp (rIxA K) (tLst (tCons (tC (.int 2)) (tCons (tC (.int 4)) tNil))) (tOp rModI (tOp rDivI (tCall (sp_law_cell_at K) [] E0 (tCons (tVar 0) (tCons (tC (.int 0)) tNil))) (tC (.int 16))) (tC (.int 2)))) (gName 2))
  (tSeq (tAsg (tCall (sp_law_table_by K) [] E0 (tCons (tVar 0) (tCons (tC (.int 2)) (tCons (tOp rModI (tCall (sp_law_cell_at K) [] E0 (tCons (tVar 0) (tCons (tC (.int 1)) tNil))) (tC (.int 11))) (tCons (tVar 1) (tCons (tVar 2) tNil)))))) (gName 3))
  (tSeq (tIfS (tTest (tOp rEqS (tOp rModI (tOp rDivI (tCall (sp_law_cell_at K) [] E0 (tCons (tVar 0) (tCons (tC (.int 1)) tNil))) (tC (.int 11))) (tC (.int 6))) (tC (.int 1)))) (tSeq (tAsg (tOp rAddA (tC (.int 1)) (tOp rModI (tCall (sp_law_cell_at K) [] E0 (tCons (tVar 0) (tCons (tC (.int 0)) tNil))) (tC (.int 6)))) (gName 1))
  (tAsg (tCall (sp_law_far_table K) [] E0 (tCons (tCall (sp_law_cell_at K) [] E0 (tCons (tVar 0) (tCons (tC (.int 2)) tNil))) (tCons (tOp rAddA (tC (.int 11)) (tOp rModI (tOp rDivI (tCall (sp_law_cell_at K) [] E0 (tCons (tVar 0) (tCons (tC (.int 1)) tNil))) (tC (.int 66))) (tC (.int 50)))) (tCons (tVar 1) (tCons (tVar 2) tNil))))) (gName 3))) tNext)
  (tSeq (tAsg (tCB (rListOf K) (tCons (tVar 3) tNil)) (gName 4))
  (tSeq (tAsg (tCall (sp_thinned K) [] E0 (tCons (tVar 4) tNil)) (gName 5))
  (tSeq (tIfS (tOr (tTest (tOp (rNeD K) (tVar 4) (tVar 3))) (tNot (tB (tCall (sp_law_right06 K) [] E0 (tCons (tVar 5) (tCons (tVar 3) (tCons (tVar 1) tNil))))))) (tRet (tC (.bl false))) tNext)
  (tSeq (tDrop (tBM K "list" rAppend (tVar 5) (tCons (tTup (tCons (tC (.str (Str.ofString "1"))) (tCons (tC (.int 5)) tNil))) tNil)))
  (tRet (tAndV (tOp (rEqD K) (tVar 4) (tVar 3)) (tCall (sp_law_right06 K) [] E0 (tCons (tCall (sp_thinned K) [] E0 (tCons (tVar 4) tNil)) (tCons (tVar 3) (tCons (tVar 1) tNil))))))))))))))
def nm_law06 : List Str := ["script", "size", "few", "rows", "handed", "found"]
def sp_law06 (K : PySem.W.Frag) : Sp := fun vs H Q _ => ∃ (a : Addr) (ns : List Int), vs = [.ref a] ∧ SqL K H a (ns.map V.int) ∧ ns.length ≤ 63 ∧ ∀ H', Q (.bl true) H'
theorem len_law06 {K vs H Q E} (h : sp_law06 K vs H Q E) : vs.length = 1 := by obtain ⟨_, _, rfl, _⟩ := h; rfl
/-- a table as the law makes it -/
structure Tb (S : Int) (l : Addr) (H1 : Hp) (xs : List V) (rs : List Row) : Prop where
  s0 : 1 ≤ S
  s1 : S ≤ 16
  lst : H1 l = some (.lst xs)
  rows : RowsAre H1 xs rs
  nd : (rs.map (·.1)).Nodup
  len : ∀ r ∈ rs, r.1.length ≤ S.toNat
  few : 2 * (rs.length * S.toNat) + 1 ≤ 900
  few2 : rs.length ≤ 60
  cuts : ∀ ts : List Row, ts.length ≤ rs.length → (∀ r ∈ ts, r.1.length ≤ S.toNat) → FewC S.toNat (rs ++ ts)
theorem Tb.right {S : Int} {l : Addr} {H1 : Hp} {xs : List V} {rs : List Row} {ps : List Pl} (T : Tb S l H1 xs rs) (np : ps.Nodup) (hm : ∀ p, p ∈ ps ↔ isPl rs p) (up : upS (ps.map enc)) : Rt (thin rs S.toNat ps) rs S := by
  have few := thin_few T.nd T.len np hm
  have lent : ∀ r ∈ thin rs S.toNat ps, r.1.length ≤ S.toNat := fun r hr => by
    have h1 := (hm _).mp (mem_thin.mp hr).1
    rcases nil_or_snoc r.1 with e | ⟨q, b, e⟩
    · rw [e]; exact Nat.zero_le _
    · rw [e] at h1 ⊢
      have := inn_deep T.len (isPl_up h1)
      rw [List.length_append]; simp; omega
  refine ⟨T.s0, T.s1, lent, T.len, few, T.few2, thin_nodup np, ⟨.refl _, ?_⟩, T.cuts _ few lent, fun ad e => thin_alike T.len np hm (by omega)⟩
  unfold thin
  rw [List.pairwise_map]
  unfold upS at up
  rw [List.pairwise_map] at up
  exact (up.filter _).imp fun h => h
theorem rdok_law06 {K vs H Q E} (h : sp_law06 K vs H Q E) : rd_law06 K { nx := fun _ H' => Q .non H', rt := Q } (start nm_law06 vs) H := by
  obtain ⟨a, ns, rfl, hs, _, q⟩ := h
  simp only [rd_law06, nm_law06, L2.start]
  refine tSeq_gen fun U hU => ?_
  walk_at "rd"
  refine cell_app hs (by decide) ?_
  walk_at "rd"
  subst hU
  have hS0 : 1 ≤ 1 + cell ns 0 % 16 := by omega
  have hS1 : 1 + cell ns 0 % 16 ≤ 16 := by omega
  generalize 1 + cell ns 0 % 16 = S at hS0 hS1 ⊢
  refine tSeq_gen fun U hU => ?_
  walk_at "rd"
  refine ⟨by walk_at "sz", fun w hw => ?_⟩
  have sw : Same H (upd H w (.lst [.int 2, .int 4])) := Same.upd hw
  have hw1 : upd H w (.lst [.int 2, .int 4]) w = some (.lst [.int 2, .int 4]) := upd_same
  generalize upd H w (.lst [.int 2, .int 4]) = H0 at sw hw1 ⊢
  have hs0 := sw.seq hs
  refine cell_app hs0 (by decide) ?_
  walk_at "rd"
  obtain ⟨fw, f0, f1, hfw⟩ : ∃ fw : Int, 0 < fw ∧ fw ≤ 9999 ∧ atI [V.int 2, V.int 4] (cell ns 0 / 16 % 2) = some (.int fw) := by
    rcases Int.emod_two_eq (cell ns 0 / 16) with e | e
    · rw [e]; exact ⟨2, by decide, by decide, atI_nat (j := 0) rfl⟩
    · rw [e]; exact ⟨4, by decide, by decide, atI_nat (j := 1) rfl⟩
  refine ⟨_, .inl (SqL.of hw1), _, hfw, ?_⟩
  subst hU
  clear hs sw hw hw1 hfw
  refine tSeq_gen fun U hU => ?_
  walk_at "rd"
  refine cell_app hs0 (by decide) ?_
  walk_at "rd"
  refine ⟨a, ns, 2, _, S, fw, rfl, hs0, by decide, by omega, by omega, by omega, by omega, f0, f1, fun l H1 xs hl s1 h1 r1 => ?_⟩
  have t1 := tableBy_ok (ns := ns) (start := 2) (size := S) (few := fw) (by omega) f0 f1 (cell ns 1 % 11).toNat
  have ln1 : ∀ r ∈ tableBy ns 2 S fw (cell ns 1 % 11).toNat, r.1.length ≤ S.toNat := fun r hr => by have := t1.len r hr; omega
  have few1 : (tableBy ns 2 S fw (cell ns 1 % 11).toNat).length ≤ 10 := by have := t1.few; omega
  have T1 : Tb S l H1 xs (tableBy ns 2 S fw (cell ns 1 % 11).toNat) := ⟨hS0, hS1, h1, r1, t1.nd, ln1, by
    have := Nat.mul_le_mul few1 (show S.toNat ≤ 16 by omega)
    omega, by omega, fun ts h1 h2 => fewC_short (by rw [List.length_append]; omega)⟩
  have hs1 := s1.seq hs0
  generalize tableBy ns 2 S fw (cell ns 1 % 11).toNat = rs at T1
  clear t1 r1 h1 s1 hl hs0 hS0 hS1 ln1 few1
  subst hU
  refine tSeq_gen fun U1 hU1 => ?_
  have cont : ∀ S l H1 xs rs, Tb S l H1 xs rs → U1 { nx := fun x H' => Q V.non H', rt := Q } [some (V.ref a), some (V.int S), some (.int fw), some (V.ref l), none, none] H1 := by
    clear T1 hs1
    intro S l H1 xs rs T
    have T0 : TabD rs S.toNat := ⟨T.nd, T.len, T.few, by have := T.s1; omega⟩
    have lx := Paired.length T.rows
    have few2 := T.few2
    subst hU1
    refine tSeq_gen fun U hU => ?_
    walk_at "rd"
    refine ⟨xs, .inl (SqL.of T.lst), fun l2 hl2 => ?_⟩
    have sm2 : Same H1 (upd H1 l2 (.lst xs)) := Same.upd hl2
    have h2 : upd H1 l2 (.lst xs) l2 = some (.lst xs) := upd_same
    generalize upd H1 l2 (.lst xs) = H2 at sm2 h2 ⊢
    have r2 := RowsAre.mono T.rows sm2.tp
    have hl1 := sm2 _ _ T.lst
    subst hU
    refine tSeq_gen fun U hU => ?_
    walk_at "rd"
    refine ⟨l2, xs, rs, S.toNat, rfl, h2, r2, T0, fun f H3 ys ps sm3 hf hfl hy np hm up => ?_⟩
    have R1 := T.right np hm up
    have r3 := RowsAre.mono r2 sm3.tp
    subst hU
    refine tSeq_gen fun U hU => ?_
    walk_at "rd"
    refine ⟨_, _, tab_rep (sm3 _ _ h2) r3, tab_rep (sm3 _ _ hl1) r3, tab_shaped rs, tab_shaped rs, ?_⟩
    rw [tab_eqv]
    walk_at "rd"
    refine ⟨f, l, ys, xs, _, rs, S, rfl, hfl, sm3 _ _ hl1, hy, r3, R1, fun H4 sm4 => ?_⟩
    walk_at "rd"
    subst hU
    refine tSeq_gen fun U hU => ?_
    walk_at "rd"
    refine ⟨tyV_lst (sm4 _ _ hfl), by walk_at "sz", fun p hp => ?_⟩
    have n1 : l ≠ f := ne_of_none hl1 hf
    have n2 : l2 ≠ f := ne_of_none h2 hf
    have s5 : Same H4 (upd H4 p (.tup [.str (enc [true]), .int 5])) := Same.upd hp
    generalize upd H4 p (.tup [.str (enc [true]), .int 5]) = H5 at s5 ⊢
    have hf5 := s5 _ _ (sm4 _ _ hfl)
    have ly : ys.length ≤ 60 := by have := Paired.length hy; have := R1.few; omega
    refine ⟨f, ys, .ref p, rfl, rfl, hf5, by walk_at "sz", ?_⟩
    have tp6 : Tp H5 (upd H5 f (.lst (ys ++ [.ref p]))) := Tp.upd fun xs z => by rw [hf5] at z; cases z
    have hl6 : upd H5 f (.lst (ys ++ [.ref p])) l = some (.lst xs) := by rw [upd_ne n1]; exact s5 _ _ (sm4 _ _ (sm3 _ _ hl1))
    have h6 : upd H5 f (.lst (ys ++ [.ref p])) l2 = some (.lst xs) := by rw [upd_ne n2]; exact s5 _ _ (sm4 _ _ (sm3 _ _ h2))
    have r6 := RowsAre.mono r3 ((sm4.trans s5).tp.trans tp6)
    generalize upd H5 f (.lst (ys ++ [.ref p])) = H6 at hl6 h6 r6 ⊢
    subst hU
    walk_at "rd"
    refine ⟨_, _, tab_rep h6 r6, tab_rep hl6 r6, tab_shaped rs, tab_shaped rs, ?_⟩
    rw [tab_eqv]
    walk_at "rd"
    refine ⟨l2, xs, rs, S.toNat, rfl, h6, r6, T0, fun g H7 zs ps2 sm7 hg hgl hz np2 hm2 up2 => ?_⟩
    exact ⟨g, l, zs, xs, _, rs, S, rfl, hgl, sm7 _ _ hl6, hz, RowsAre.mono r6 sm7.tp, T.right np2 hm2 up2, fun H8 _ => q _⟩
  walk_at "rd"
  refine cell_app hs1 (by decide) ?_
  walk_at "rd"
  split
  · refine cell_app hs1 (by decide) ?_
    walk_at "rd"
    refine cell_app hs1 (by decide) ?_
    walk_at "rd"
    refine cell_app hs1 (by decide) ?_
    walk_at "rd"
    have z0 : 1 ≤ 1 + cell ns 0 % 6 := by omega
    have z1 : 1 + cell ns 0 % 6 ≤ 6 := by omega
    generalize 1 + cell ns 0 % 6 = S2 at z0 z1 ⊢
    refine ⟨_, _, S2, fw, rfl, by omega, by omega, by omega, by omega, f0, f1, fun l2 H2 xs2 hl2 s2 h2 r2 => ?_⟩
    have t2 := farTable_ok (c := cell ns 2) (size := S2) (few := fw) (by omega) f0 f1 (11 + cell ns 1 / 66 % 50).toNat
    have hln : ∀ r ∈ farTable (cell ns 2) S2 fw (11 + cell ns 1 / 66 % 50).toNat, r.1.length ≤ S2.toNat := fun r hr => by have := t2.len r hr; omega
    have few3 : (farTable (cell ns 2) S2 fw (11 + cell ns 1 / 66 % 50).toNat).length ≤ 60 := by have := t2.few; omega
    exact cont S2 l2 H2 xs2 _ ⟨z0, by omega, h2, r2, t2.nd, hln, by
      have := Nat.mul_le_mul few3 (show S2.toNat ≤ 6 by omega)
      omega, few3, fun ts h1 h2 => fewC_small (by omega) fun r hr => by
        rcases List.mem_append.mp hr with hr | hr
        · exact hln r hr
        · exact h2 r hr⟩
  · exact cont S l H1 xs rs T1
def top (i : Nat) : Stmt := PySem.Challenge.pw_headroad_k06_whole_thinned_leads_alike.main.body.getD i (.Pass ⟨0, 0, 0, 0⟩)
abbrev s_places_of : Stmt := top 1
theorem sc_places_of : FnScope ["rows", "places", "row", "length"] ["rows"] (defScope s_places_of) := ⟨rfl, rfl, rfl, by decide +kernel, rfl, by decide +kernel, by decide +kernel⟩
abbrev s_way_above : Stmt := top 2
theorem sc_way_above : FnScope ["ways", "place"] ["ways", "place"] (defScope s_way_above) := ⟨rfl, rfl, rfl, by decide +kernel, rfl, by decide +kernel, by decide +kernel⟩
abbrev s_ways_at : Stmt := top 3
theorem sc_ways_at : FnScope ["rows", "places", "told", "ways", "place"] ["rows", "places"] (defScope s_ways_at) := ⟨rfl, rfl, rfl, by decide +kernel, rfl, by decide +kernel, by decide +kernel⟩
abbrev s_best_of_both : Stmt := top 4
theorem sc_best_of_both : FnScope ["ones", "others", "shared"] ["ones", "others"] (defScope s_best_of_both) := ⟨rfl, rfl, rfl, by decide +kernel, rfl, by decide +kernel, by decide +kernel⟩
abbrev s_best_ways : Stmt := top 5
theorem sc_best_ways : FnScope ["rows", "places", "ways", "best", "place"] ["rows"] (defScope s_best_ways) := ⟨rfl, rfl, rfl, by decide +kernel, rfl, by decide +kernel, by decide +kernel⟩
abbrev s_thinned : Stmt := top 6
theorem sc_thinned : FnScope ["rows", "best", "led", "told", "place", "way"] ["rows"] (defScope s_thinned) := ⟨rfl, rfl, rfl, by decide +kernel, rfl, by decide +kernel, by decide +kernel⟩
abbrev s__law_cell_at : Stmt := top 8
theorem sc__law_cell_at : FnScope ["script", "k"] ["script", "k"] (defScope s__law_cell_at) := ⟨rfl, rfl, rfl, by decide +kernel, rfl, by decide +kernel, by decide +kernel⟩
abbrev s__law_whole : Stmt := top 9
theorem sc__law_whole : FnScope ["found"] ["found"] (defScope s__law_whole) := ⟨rfl, rfl, rfl, by decide +kernel, rfl, by decide +kernel, by decide +kernel⟩
abbrev s__law_bits_by : Stmt := top 10
theorem sc__law_bits_by : FnScope ["cell", "size", "text", "k"] ["cell", "size"] (defScope s__law_bits_by) := ⟨rfl, rfl, rfl, by decide +kernel, rfl, by decide +kernel, by decide +kernel⟩
abbrev s__law_way_by : Stmt := top 11
theorem sc__law_way_by : FnScope ["cell", "few"] ["cell", "few"] (defScope s__law_way_by) := ⟨rfl, rfl, rfl, by decide +kernel, rfl, by decide +kernel, by decide +kernel⟩
abbrev s__law_far_table : Stmt := top 12
theorem sc__law_far_table : FnScope ["cell", "count", "size", "few", "rows", "heads", "k", "head"] ["cell", "count", "size", "few"] (defScope s__law_far_table) := ⟨rfl, rfl, rfl, by decide +kernel, rfl, by decide +kernel, by decide +kernel⟩
abbrev s__law_table_by : Stmt := top 13
theorem sc__law_table_by : FnScope ["script", "start", "count", "size", "few", "rows", "k", "cell", "head"] ["script", "start", "count", "size", "few"] (defScope s__law_table_by) := ⟨rfl, rfl, rfl, by decide +kernel, rfl, by decide +kernel, by decide +kernel⟩
abbrev s__law_head_for : Stmt := top 14
theorem sc__law_head_for : FnScope ["rows", "address", "found", "row"] ["rows", "address"] (defScope s__law_head_for) := ⟨rfl, rfl, rfl, by decide +kernel, rfl, by decide +kernel, by decide +kernel⟩
abbrev s__law_led : Stmt := top 15
theorem sc__law_led : FnScope ["rows", "address", "row"] ["rows", "address"] (defScope s__law_led) := ⟨rfl, rfl, rfl, by decide +kernel, rfl, by decide +kernel, by decide +kernel⟩
abbrev s__law_text : Stmt := top 16
theorem sc__law_text : FnScope ["number", "size", "text", "k"] ["number", "size"] (defScope s__law_text) := ⟨rfl, rfl, rfl, by decide +kernel, rfl, by decide +kernel, by decide +kernel⟩
abbrev s__law_many : Stmt := top 17
theorem sc__law_many : FnScope ["size", "total", "k"] ["size"] (defScope s__law_many) := ⟨rfl, rfl, rfl, by decide +kernel, rfl, by decide +kernel, by decide +kernel⟩
abbrev s__law_cuts : Stmt := top 18
theorem sc__law_cuts : FnScope ["rows", "size", "found", "row", "low", "sign", "wide"] ["rows", "size"] (defScope s__law_cuts) := ⟨rfl, rfl, rfl, by decide +kernel, rfl, by decide +kernel, by decide +kernel⟩
abbrev s__law_way_is : Stmt := top 19
theorem sc__law_way_is : FnScope ["found", "due"] ["found", "due"] (defScope s__law_way_is) := ⟨rfl, rfl, rfl, by decide +kernel, rfl, by decide +kernel, by decide +kernel⟩
abbrev s__law_is_table : Stmt := top 20
theorem sc__law_is_table : FnScope ["rows", "row", "sign", "heads"] ["rows"] (defScope s__law_is_table) := ⟨rfl, rfl, rfl, by decide +kernel, rfl, by decide +kernel, by decide +kernel⟩
abbrev s__law_right : Stmt := top 21
theorem sc__law_right : FnScope ["found", "rows", "size", "row", "number", "address"] ["found", "rows", "size"] (defScope s__law_right) := ⟨rfl, rfl, rfl, by decide +kernel, rfl, by decide +kernel, by decide +kernel⟩
abbrev s_law : Stmt := top 22
theorem sc_law : FnScope ["script", "size", "few", "rows", "handed", "found"] ["script"] (defScope s_law) := ⟨rfl, rfl, rfl, by decide +kernel, rfl, by decide +kernel, by decide +kernel⟩
structure Txt (K : PySem.W.Frag) (mg : Str → Option Value) : Prop where
  b_bool : mg "bool" = none
  b_dict : mg "dict" = none
  b_int : mg "int" = none
  b_isinstance : mg "isinstance" = none
  b_len : mg "len" = none
  b_list : mg "list" = none
  b_range : mg "range" = none
  b_reversed : mg "reversed" = none
  b_set : mg "set" = none
  b_sorted : mg "sorted" = none
  b_str : mg "str" = none
  b_tuple : mg "tuple" = none
seal L2.PS L2.PE L2.PA L2.PSs L2.PT in
theorem tm_places_of {P : Program} {w : World} {K : PySem.W.Frag} {mg : Str → Option Value} {base : Heap} {f : Addr} {cdv : Value} {A : Around} {outer : List Env} {s : Shared} {H : Hp} {E : XK} (T : Txt K mg)  (hr : Room 0 (A.deeper (PyProof.Rows.envOfC "places_of" (defScope s_places_of) s.heap.objs.size f cdv))) :
    PSs (cxOf CX0 P w K mg base ["rows", "places", "row", "length"] "places_of" (defScope s_places_of) f cdv A outer s H E).nox (defBody s_places_of) (rd_places_of K) :=
  (pss_cons (ps_set (i := 1) sc_places_of.nd rfl (Or.inl rfl) (pe_disp (pps_cons pe_str pe_bl pps_nil) rfl rfl (by simp) (by decide)))
      (pss_cons (ps_for PassesOwn.never rfl (pi_list (pv 0)) (pg_name (i := 2) sc_places_of.nd rfl (Or.inl rfl))
      (pss_one (ps_for PassesOwn.never rfl (pi_range1 rfl T.b_range (pa_cons (pe_callB call_lenB rfl T.b_len bt_len (pa_cons (pe_ix ix_B (pv 2) pe_int (fun _ _ => rfl)) pa_nil)) pa_nil)) (pg_name (i := 3) sc_places_of.nd rfl (Or.inl rfl))
      (pss_cons (ps_dput (hu_of hr) (pv 1) (pe_op op_addB (pe_slice sl_B (pe_ix ix_B (pv 2) pe_int (fun _ _ => rfl)) po_none (po_some (pv 3))) pe_str) pe_bl rfl)
      (pss_one (ps_dput (hu_of hr) (pv 1) (pe_op op_addB (pe_slice sl_B (pe_ix ix_B (pv 2) pe_int (fun _ _ => rfl)) po_none (po_some (pv 3))) pe_str) pe_bl rfl))))))
      (pss_one (ps_ret (pe_callB (call_sortedA hr.hd) rfl T.b_sorted bt_sorted (pa_cons (pv 1) pa_nil))))))
seal L2.PS L2.PE L2.PA L2.PSs L2.PT in
theorem ok_places_of {P : Program} {w : World} {K : PySem.W.Frag} {mg : Str → Option Value} {base : Heap} {f : Addr} {fd : FuncData} (F : Fun K "places_of" "places_of" s_places_of f fd) (T : Txt K mg)  : FnOk P w K mg base CX0 1 f fd ["rows"] (sp_places_of K) :=
  F.ok sc_places_of (k := 0) (fun vs H Q E h => len_places_of h) (fun cdv A outer s H vs Q E hr h => ⟨_, tm_places_of T  hr, rdok_places_of h⟩)

seal L2.PS L2.PE L2.PA L2.PSs L2.PT in
theorem tm_way_above {P : Program} {w : World} {K : PySem.W.Frag} {mg : Str → Option Value} {base : Heap} {f : Addr} {cdv : Value} {A : Around} {outer : List Env} {s : Shared} {H : Hp} {E : XK} (T : Txt K mg)  (hr : Room 0 (A.deeper (PyProof.Rows.envOfC "way_above" (defScope s_way_above) s.heap.objs.size f cdv))) :
    PSs (cxOf CX0 P w K mg base ["ways", "place"] "way_above" (defScope s_way_above) f cdv A outer s H E).nox (defBody s_way_above) (rd_way_above K) :=
  (pss_one (ps_ret (pe_ifExp (pt_cmpR op_eqB (pv 1) pe_str (nomark _)) pe_non (pe_dget (hu_of hr) (pv 0) (pe_slice sl_B (pv 1) po_none (po_some (pe_un un_negB pe_int))) (fun _ _ => rfl)))))
seal L2.PS L2.PE L2.PA L2.PSs L2.PT in
theorem ok_way_above {P : Program} {w : World} {K : PySem.W.Frag} {mg : Str → Option Value} {base : Heap} {f : Addr} {fd : FuncData} (F : Fun K "way_above" "way_above" s_way_above f fd) (T : Txt K mg)  : FnOk P w K mg base CX0 1 f fd ["ways", "place"] (sp_way_above K) :=
  F.ok sc_way_above (k := 0) (fun vs H Q E h => len_way_above h) (fun cdv A outer s H vs Q E hr h => ⟨_, tm_way_above T  hr, rdok_way_above h⟩)

seal L2.PS L2.PE L2.PA L2.PSs L2.PT in
theorem tm_best_of_both {P : Program} {w : World} {K : PySem.W.Frag} {mg : Str → Option Value} {base : Heap} {f : Addr} {cdv : Value} {A : Around} {outer : List Env} {s : Shared} {H : Hp} {E : XK} (T : Txt K mg)  (hr : Room 0 (A.deeper (PyProof.Rows.envOfC "best_of_both" (defScope s_best_of_both) s.heap.objs.size f cdv))) :
    PSs (cxOf CX0 P w K mg base ["ones", "others", "shared"] "best_of_both" (defScope s_best_of_both) f cdv A outer s H E).nox (defBody s_best_of_both) (rd_best_of_both K) :=
  (pss_cons (ps_setComp (i := 2) sc_best_of_both.nd rfl (Or.inl rfl) (CompSc.cap (js := [(1, "others")]) (fs := defScope s_best_of_both) rfl rfl rfl rfl (by decide +kernel) (by decide +kernel) rfl (by decide) rfl rfl) (pi_list (pv 0)) (fun _ _ _ _ => (pv 0)) (fun _ _ _ _ => (.one (pt_cmpR op_in_seq (pv 0) (pv 1) (by with_unfolding_all rfl)))))
      (pss_one (ps_ret (pe_ifExp (pt_lst (pv 2)) (pv 2) (pe_op op_addB (pv 0) (pv 1))))))
seal L2.PS L2.PE L2.PA L2.PSs L2.PT in
theorem ok_best_of_both {P : Program} {w : World} {K : PySem.W.Frag} {mg : Str → Option Value} {base : Heap} {f : Addr} {fd : FuncData} (F : Fun K "best_of_both" "best_of_both" s_best_of_both f fd) (T : Txt K mg)  : FnOk P w K mg base CX0 1 f fd ["ones", "others"] (sp_best_of_both K) :=
  F.ok sc_best_of_both (k := 0) (fun vs H Q E h => len_best_of_both h) (fun cdv A outer s H vs Q E hr h => ⟨_, tm_best_of_both T  hr, rdok_best_of_both h⟩)

seal L2.PS L2.PE L2.PA L2.PSs L2.PT in
theorem tm__law_cell_at {P : Program} {w : World} {K : PySem.W.Frag} {mg : Str → Option Value} {base : Heap} {f : Addr} {cdv : Value} {A : Around} {outer : List Env} {s : Shared} {H : Hp} {E : XK} (T : Txt K mg)  (hr : Room 0 (A.deeper (PyProof.Rows.envOfC "_law_cell_at" (defScope s__law_cell_at) s.heap.objs.size f cdv))) :
    PSs (cxOf CX0 P w K mg base ["script", "k"] "_law_cell_at" (defScope s__law_cell_at) f cdv A outer s H E).nox (defBody s__law_cell_at) (rd_law_cell_at K) :=
  (pss_cons (ps_if (pt_cmpR op_ltB (pv 1) (pe_callB call_lenB rfl T.b_len bt_len (pa_cons (pv 0) pa_nil)) (nomark _)) (pss_one (ps_ret (pe_ix ix_B (pv 0) (pv 1) (fun _ _ => rfl)))) pss_nil)
      (pss_one (ps_ret pe_int)))
seal L2.PS L2.PE L2.PA L2.PSs L2.PT in
theorem ok__law_cell_at {P : Program} {w : World} {K : PySem.W.Frag} {mg : Str → Option Value} {base : Heap} {f : Addr} {fd : FuncData} (F : Fun K "_law_cell_at" "_law_cell_at" s__law_cell_at f fd) (T : Txt K mg)  : FnOk P w K mg base CX0 1 f fd ["script", "k"] (sp_law_cell_at K) :=
  F.ok sc__law_cell_at (k := 0) (fun vs H Q E h => len_law_cell_at h) (fun cdv A outer s H vs Q E hr h => ⟨_, tm__law_cell_at T  hr, rdok_law_cell_at h⟩)

seal L2.PS L2.PE L2.PA L2.PSs L2.PT in
theorem tm__law_whole {P : Program} {w : World} {K : PySem.W.Frag} {mg : Str → Option Value} {base : Heap} {f : Addr} {cdv : Value} {A : Around} {outer : List Env} {s : Shared} {H : Hp} {E : XK} (T : Txt K mg)  (hr : Room 0 (A.deeper (PyProof.Rows.envOfC "_law_whole" (defScope s__law_whole) s.heap.objs.size f cdv))) :
    PSs (cxOf CX0 P w K mg base ["found"] "_law_whole" (defScope s__law_whole) f cdv A outer s H E).nox (defBody s__law_whole) (rd_law_whole K) :=
  (pss_one (ps_ret (pe_and (pe_callB call_isiB rfl T.b_isinstance bt_isinstance (pa_cons (pv 0) (pa_cons (pe_bltn rfl T.b_int bt_int rfl) pa_nil))) (pe_one (pe_not (pe_callB call_isiB rfl T.b_isinstance bt_isinstance (pa_cons (pv 0) (pa_cons (pe_bltn rfl T.b_bool bt_bool rfl) pa_nil))))))))
seal L2.PS L2.PE L2.PA L2.PSs L2.PT in
theorem ok__law_whole {P : Program} {w : World} {K : PySem.W.Frag} {mg : Str → Option Value} {base : Heap} {f : Addr} {fd : FuncData} (F : Fun K "_law_whole" "_law_whole" s__law_whole f fd) (T : Txt K mg)  : FnOk P w K mg base CX0 1 f fd ["found"] (sp_law_whole K) :=
  F.ok sc__law_whole (k := 0) (fun vs H Q E h => len_law_whole h) (fun cdv A outer s H vs Q E hr h => ⟨_, tm__law_whole T  hr, rdok_law_whole h⟩)

seal L2.PS L2.PE L2.PA L2.PSs L2.PT in
theorem tm__law_bits_by {P : Program} {w : World} {K : PySem.W.Frag} {mg : Str → Option Value} {base : Heap} {f : Addr} {cdv : Value} {A : Around} {outer : List Env} {s : Shared} {H : Hp} {E : XK} (T : Txt K mg)  (hr : Room 0 (A.deeper (PyProof.Rows.envOfC "_law_bits_by" (defScope s__law_bits_by) s.heap.objs.size f cdv))) :
    PSs (cxOf CX0 P w K mg base ["cell", "size", "text", "k"] "_law_bits_by" (defScope s__law_bits_by) f cdv A outer s H E).nox (defBody s__law_bits_by) (rd_law_bits_by K) :=
  (pss_cons (ps_set (i := 2) sc__law_bits_by.nd rfl (Or.inl rfl) pe_str)
      (pss_cons (ps_for PassesOwn.never rfl (pi_range1 rfl T.b_range (pa_cons (pv 1) pa_nil)) (pg_name (i := 3) sc__law_bits_by.nd rfl (Or.inl rfl))
      (pss_cons (ps_set (i := 2) sc__law_bits_by.nd rfl (Or.inl rfl) (pe_op op_addB (pv 2) (pe_ix ix_B pe_str (pe_op op_modB (pv 0) pe_int) (fun _ _ => rfl))))
      (pss_one (ps_set (i := 0) sc__law_bits_by.nd rfl (Or.inl rfl) (pe_op op_divB (pv 0) pe_int)))))
      (pss_one (ps_ret (pv 2)))))
seal L2.PS L2.PE L2.PA L2.PSs L2.PT in
theorem ok__law_bits_by {P : Program} {w : World} {K : PySem.W.Frag} {mg : Str → Option Value} {base : Heap} {f : Addr} {fd : FuncData} (F : Fun K "_law_bits_by" "_law_bits_by" s__law_bits_by f fd) (T : Txt K mg)  : FnOk P w K mg base CX0 1 f fd ["cell", "size"] (sp_law_bits_by K) :=
  F.ok sc__law_bits_by (k := 0) (fun vs H Q E h => len_law_bits_by h) (fun cdv A outer s H vs Q E hr h => ⟨_, tm__law_bits_by T  hr, rdok_law_bits_by h⟩)

seal L2.PS L2.PE L2.PA L2.PSs L2.PT in
theorem tm__law_way_by {P : Program} {w : World} {K : PySem.W.Frag} {mg : Str → Option Value} {base : Heap} {f : Addr} {cdv : Value} {A : Around} {outer : List Env} {s : Shared} {H : Hp} {E : XK} (T : Txt K mg)  (hr : Room 0 (A.deeper (PyProof.Rows.envOfC "_law_way_by" (defScope s__law_way_by) s.heap.objs.size f cdv))) :
    PSs (cxOf CX0 P w K mg base ["cell", "few"] "_law_way_by" (defScope s__law_way_by) f cdv A outer s H E).nox (defBody s__law_way_by) (rd_law_way_by K) :=
  (pss_cons (ps_if (pt_cmpR op_eqB (pe_op op_modB (pv 0) pe_int) pe_int (nomark _)) (pss_one (ps_ret pe_non)) pss_nil)
      (pss_cons (ps_if (pt_cmpR op_eqB (pe_op op_modB (pe_op op_divB (pv 0) pe_int) pe_int) pe_int (nomark _)) (pss_one (ps_ret (pe_op op_modB (pe_op op_divB (pv 0) pe_int) pe_int))) pss_nil)
      (pss_one (ps_ret (pe_op op_modB (pe_op op_divB (pv 0) pe_int) (pv 1))))))
seal L2.PS L2.PE L2.PA L2.PSs L2.PT in
theorem ok__law_way_by {P : Program} {w : World} {K : PySem.W.Frag} {mg : Str → Option Value} {base : Heap} {f : Addr} {fd : FuncData} (F : Fun K "_law_way_by" "_law_way_by" s__law_way_by f fd) (T : Txt K mg)  : FnOk P w K mg base CX0 1 f fd ["cell", "few"] (sp_law_way_by K) :=
  F.ok sc__law_way_by (k := 0) (fun vs H Q E h => len_law_way_by h) (fun cdv A outer s H vs Q E hr h => ⟨_, tm__law_way_by T  hr, rdok_law_way_by h⟩)

seal L2.PS L2.PE L2.PA L2.PSs L2.PT in
theorem tm__law_head_for {P : Program} {w : World} {K : PySem.W.Frag} {mg : Str → Option Value} {base : Heap} {f : Addr} {cdv : Value} {A : Around} {outer : List Env} {s : Shared} {H : Hp} {E : XK} (T : Txt K mg)  (hr : Room 0 (A.deeper (PyProof.Rows.envOfC "_law_head_for" (defScope s__law_head_for) s.heap.objs.size f cdv))) :
    PSs (cxOf CX0 P w K mg base ["rows", "address", "found", "row"] "_law_head_for" (defScope s__law_head_for) f cdv A outer s H E).nox (defBody s__law_head_for) (rd_law_head_for K) :=
  (pss_cons (ps_set (i := 2) sc__law_head_for.nd rfl (Or.inl rfl) pe_non)
      (pss_cons (ps_for PassesOwn.never rfl (pi_list (pv 0)) (pg_name (i := 3) sc__law_head_for.nd rfl (Or.inl rfl))
      (pss_one (ps_if (pt_cmpR op_eqB (pe_slice sl_B (pv 1) po_none (po_some (pe_callB call_lenB rfl T.b_len bt_len (pa_cons (pe_ix ix_B (pv 3) pe_int (fun _ _ => rfl)) pa_nil)))) (pe_ix ix_B (pv 3) pe_int (fun _ _ => rfl)) (nomark _)) (pss_one (ps_if (PW.pt (pw_or (pt_cmpR op_isNB (pv 2) pe_non (nomark _)) (pw_or1 (pt_cmpR op_gtB (pe_callB call_lenB rfl T.b_len bt_len (pa_cons (pe_ix ix_B (pv 3) pe_int (fun _ _ => rfl)) pa_nil)) (pe_callB call_lenB rfl T.b_len bt_len (pa_cons (pe_ix ix_B (pv 2) pe_int (fun _ _ => rfl)) pa_nil)) (nomark _))))) (pss_one (ps_set (i := 2) sc__law_head_for.nd rfl (Or.inl rfl) (pv 3))) pss_nil)) pss_nil)))
      (pss_one (ps_ret (pv 2)))))
seal L2.PS L2.PE L2.PA L2.PSs L2.PT in
theorem ok__law_head_for {P : Program} {w : World} {K : PySem.W.Frag} {mg : Str → Option Value} {base : Heap} {f : Addr} {fd : FuncData} (F : Fun K "_law_head_for" "_law_head_for" s__law_head_for f fd) (T : Txt K mg)  : FnOk P w K mg base CX0 1 f fd ["rows", "address"] (sp_law_head_for K) :=
  F.ok sc__law_head_for (k := 0) (fun vs H Q E h => len_law_head_for h) (fun cdv A outer s H vs Q E hr h => ⟨_, tm__law_head_for T  hr, rdok_law_head_for h⟩)

seal L2.PS L2.PE L2.PA L2.PSs L2.PT in
theorem tm__law_text {P : Program} {w : World} {K : PySem.W.Frag} {mg : Str → Option Value} {base : Heap} {f : Addr} {cdv : Value} {A : Around} {outer : List Env} {s : Shared} {H : Hp} {E : XK} (T : Txt K mg)  (hr : Room 0 (A.deeper (PyProof.Rows.envOfC "_law_text" (defScope s__law_text) s.heap.objs.size f cdv))) :
    PSs (cxOf CX0 P w K mg base ["number", "size", "text", "k"] "_law_text" (defScope s__law_text) f cdv A outer s H E).nox (defBody s__law_text) (rd_law_text K) :=
  (pss_cons (ps_set (i := 2) sc__law_text.nd rfl (Or.inl rfl) pe_str)
      (pss_cons (ps_for PassesOwn.never rfl (pi_range1 rfl T.b_range (pa_cons (pv 1) pa_nil)) (pg_name (i := 3) sc__law_text.nd rfl (Or.inl rfl))
      (pss_cons (ps_set (i := 2) sc__law_text.nd rfl (Or.inl rfl) (pe_op op_addB (pe_ix ix_B pe_str (pe_op op_modB (pv 0) pe_int) (fun _ _ => rfl)) (pv 2)))
      (pss_one (ps_set (i := 0) sc__law_text.nd rfl (Or.inl rfl) (pe_op op_divB (pv 0) pe_int)))))
      (pss_one (ps_ret (pv 2)))))
seal L2.PS L2.PE L2.PA L2.PSs L2.PT in
theorem ok__law_text {P : Program} {w : World} {K : PySem.W.Frag} {mg : Str → Option Value} {base : Heap} {f : Addr} {fd : FuncData} (F : Fun K "_law_text" "_law_text" s__law_text f fd) (T : Txt K mg)  : FnOk P w K mg base CX0 1 f fd ["number", "size"] (sp_law_text K) :=
  F.ok sc__law_text (k := 0) (fun vs H Q E h => len_law_text h) (fun cdv A outer s H vs Q E hr h => ⟨_, tm__law_text T  hr, rdok_law_text h⟩)

seal L2.PS L2.PE L2.PA L2.PSs L2.PT in
theorem tm__law_many {P : Program} {w : World} {K : PySem.W.Frag} {mg : Str → Option Value} {base : Heap} {f : Addr} {cdv : Value} {A : Around} {outer : List Env} {s : Shared} {H : Hp} {E : XK} (T : Txt K mg)  (hr : Room 0 (A.deeper (PyProof.Rows.envOfC "_law_many" (defScope s__law_many) s.heap.objs.size f cdv))) :
    PSs (cxOf CX0 P w K mg base ["size", "total", "k"] "_law_many" (defScope s__law_many) f cdv A outer s H E).nox (defBody s__law_many) (rd_law_many K) :=
  (pss_cons (ps_set (i := 1) sc__law_many.nd rfl (Or.inl rfl) pe_int)
      (pss_cons (ps_for PassesOwn.never rfl (pi_range1 rfl T.b_range (pa_cons (pv 0) pa_nil)) (pg_name (i := 2) sc__law_many.nd rfl (Or.inl rfl))
      (pss_one (ps_set (i := 1) sc__law_many.nd rfl (Or.inl rfl) (pe_op op_addB (pv 1) (pv 1)))))
      (pss_one (ps_ret (pv 1)))))
seal L2.PS L2.PE L2.PA L2.PSs L2.PT in
theorem ok__law_many {P : Program} {w : World} {K : PySem.W.Frag} {mg : Str → Option Value} {base : Heap} {f : Addr} {fd : FuncData} (F : Fun K "_law_many" "_law_many" s__law_many f fd) (T : Txt K mg)  : FnOk P w K mg base CX0 1 f fd ["size"] (sp_law_many K) :=
  F.ok sc__law_many (k := 0) (fun vs H Q E h => len_law_many h) (fun cdv A outer s H vs Q E hr h => ⟨_, tm__law_many T  hr, rdok_law_many h⟩)

seal L2.PS L2.PE L2.PA L2.PSs L2.PT in
theorem tm_ways_at {P : Program} {w : World} {K : PySem.W.Frag} {mg : Str → Option Value} {base : Heap} {f : Addr} {cdv : Value} {A : Around} {outer : List Env} {s : Shared} {H : Hp} {E : XK} (T : Txt K mg) (O_way_above : Own P w K mg base 1 "way_above" ["ways", "place"] (sp_way_above K)) (hr : Room 1 (A.deeper (PyProof.Rows.envOfC "ways_at" (defScope s_ways_at) s.heap.objs.size f cdv))) :
    PSs (cxOf CX0 P w K mg base ["rows", "places", "told", "ways", "place"] "ways_at" (defScope s_ways_at) f cdv A outer s H E).nox (defBody s_ways_at) (rd_ways_at K) :=
  (pss_cons (ps_set (i := 2) sc_ways_at.nd rfl (Or.inl rfl) (pe_callTy (call_dictOf hr.hd) rfl T.b_dict bt_dict (pa_cons (pv 0) pa_nil)))
      (pss_cons (ps_set (i := 3) sc_ways_at.nd rfl (Or.inl rfl) pe_dnewK)
      (pss_cons (ps_for PassesOwn.never rfl (pi_list (pv 1)) (pg_name (i := 4) sc_ways_at.nd rfl (Or.inl rfl))
      (pss_one (ps_dput (hu_of hr) (pv 3) (pv 4) (pe_ifExp (pt_cmpR (op_inK (hu_of hr)) (pv 4) (pv 2) (by with_unfolding_all rfl)) (pe_dget (hu_of hr) (pv 2) (pv 4) (fun _ _ => rfl)) (pe_own O_way_above (hr.mono (by decide)) (pa_cons (pv 3) (pa_cons (pv 4) pa_nil)))) rfl)))
      (pss_one (ps_ret (pv 3))))))
seal L2.PS L2.PE L2.PA L2.PSs L2.PT in
theorem ok_ways_at {P : Program} {w : World} {K : PySem.W.Frag} {mg : Str → Option Value} {base : Heap} {f : Addr} {fd : FuncData} (F : Fun K "ways_at" "ways_at" s_ways_at f fd) (T : Txt K mg) (O_way_above : Own P w K mg base 1 "way_above" ["ways", "place"] (sp_way_above K)) : FnOk P w K mg base CX0 2 f fd ["rows", "places"] (sp_ways_at K) :=
  F.ok sc_ways_at (k := 1) (fun vs H Q E h => len_ways_at h) (fun cdv A outer s H vs Q E hr h => ⟨_, tm_ways_at T O_way_above hr, rdok_ways_at h⟩)

seal L2.PS L2.PE L2.PA L2.PSs L2.PT in
theorem tm__law_far_table {P : Program} {w : World} {K : PySem.W.Frag} {mg : Str → Option Value} {base : Heap} {f : Addr} {cdv : Value} {A : Around} {outer : List Env} {s : Shared} {H : Hp} {E : XK} (T : Txt K mg) (O__law_bits_by : Own P w K mg base 1 "_law_bits_by" ["cell", "size"] (sp_law_bits_by K)) (O__law_way_by : Own P w K mg base 1 "_law_way_by" ["cell", "few"] (sp_law_way_by K)) (hr : Room 1 (A.deeper (PyProof.Rows.envOfC "_law_far_table" (defScope s__law_far_table) s.heap.objs.size f cdv))) :
    PSs (cxOf CX0 P w K mg base ["cell", "count", "size", "few", "rows", "heads", "k", "head"] "_law_far_table" (defScope s__law_far_table) f cdv A outer s H E).nox (defBody s__law_far_table) (rd_law_far_table K) :=
  (pss_cons (ps_set (i := 4) sc__law_far_table.nd rfl (Or.inl rfl) (pe_lst pa_nil))
      (pss_cons (ps_set (i := 5) sc__law_far_table.nd rfl (Or.inl rfl) (pe_lst pa_nil))
      (pss_cons (ps_for PassesOwn.never rfl (pi_range1 rfl T.b_range (pa_cons (pv 1) pa_nil)) (pg_name (i := 6) sc__law_far_table.nd rfl (Or.inl rfl))
      (pss_cons (ps_set (i := 0) sc__law_far_table.nd rfl (Or.inl rfl) (pe_op op_modB (pe_op op_addB (pe_op op_mulB (pv 0) pe_int) pe_int) pe_int))
      (pss_cons (ps_set (i := 7) sc__law_far_table.nd rfl (Or.inl rfl) (pe_own O__law_bits_by (hr.mono (by decide)) (pa_cons (pe_op op_divB (pv 0) pe_int) (pa_cons (pe_op op_modB (pv 0) (pe_op op_addB (pv 2) pe_int)) pa_nil))))
      (pss_one (ps_if (pt_cmpR op_notIn_seq (pv 7) (pv 5) (by with_unfolding_all rfl)) (pss_cons (ps_expr (pe_bm PySem.F.plainAttrs_list PySem.F.slot_list_append PySem.F.type_list_append mt_append (pv 5) (pa_cons (pv 7) pa_nil)))
      (pss_one (ps_expr (pe_bm PySem.F.plainAttrs_list PySem.F.slot_list_append PySem.F.type_list_append mt_append (pv 4) (pa_cons (pe_tup (pa_cons (pv 7) (pa_cons (pe_own O__law_way_by (hr.mono (by decide)) (pa_cons (pe_op op_divB (pv 0) pe_int) (pa_cons (pv 3) pa_nil))) pa_nil))) pa_nil))))) pss_nil)))))
      (pss_one (ps_ret (pv 4))))))
seal L2.PS L2.PE L2.PA L2.PSs L2.PT in
theorem ok__law_far_table {P : Program} {w : World} {K : PySem.W.Frag} {mg : Str → Option Value} {base : Heap} {f : Addr} {fd : FuncData} (F : Fun K "_law_far_table" "_law_far_table" s__law_far_table f fd) (T : Txt K mg) (O__law_bits_by : Own P w K mg base 1 "_law_bits_by" ["cell", "size"] (sp_law_bits_by K)) (O__law_way_by : Own P w K mg base 1 "_law_way_by" ["cell", "few"] (sp_law_way_by K)) : FnOk P w K mg base CX0 2 f fd ["cell", "count", "size", "few"] (sp_law_far_table K) :=
  F.ok sc__law_far_table (k := 1) (fun vs H Q E h => len_law_far_table h) (fun cdv A outer s H vs Q E hr h => ⟨_, tm__law_far_table T O__law_bits_by O__law_way_by hr, rdok_law_far_table h⟩)

seal L2.PS L2.PE L2.PA L2.PSs L2.PT in
theorem tm__law_table_by {P : Program} {w : World} {K : PySem.W.Frag} {mg : Str → Option Value} {base : Heap} {f : Addr} {cdv : Value} {A : Around} {outer : List Env} {s : Shared} {H : Hp} {E : XK} (T : Txt K mg) (O__law_bits_by : Own P w K mg base 1 "_law_bits_by" ["cell", "size"] (sp_law_bits_by K)) (O__law_cell_at : Own P w K mg base 1 "_law_cell_at" ["script", "k"] (sp_law_cell_at K)) (O__law_way_by : Own P w K mg base 1 "_law_way_by" ["cell", "few"] (sp_law_way_by K)) (hr : Room 1 (A.deeper (PyProof.Rows.envOfC "_law_table_by" (defScope s__law_table_by) s.heap.objs.size f cdv))) :
    PSs (cxOf CX0 P w K mg base ["script", "start", "count", "size", "few", "rows", "k", "cell", "head"] "_law_table_by" (defScope s__law_table_by) f cdv A outer s H E).nox (defBody s__law_table_by) (rd_law_table_by K) :=
  (pss_cons (ps_set (i := 5) sc__law_table_by.nd rfl (Or.inl rfl) (pe_lst pa_nil))
      (pss_cons (ps_for PassesOwn.never rfl (pi_range1 rfl T.b_range (pa_cons (pv 2) pa_nil)) (pg_name (i := 6) sc__law_table_by.nd rfl (Or.inl rfl))
      (pss_cons (ps_set (i := 7) sc__law_table_by.nd rfl (Or.inl rfl) (pe_own O__law_cell_at (hr.mono (by decide)) (pa_cons (pv 0) (pa_cons (pe_op op_addB (pv 1) (pv 6)) pa_nil))))
      (pss_cons (ps_set (i := 8) sc__law_table_by.nd rfl (Or.inl rfl) (pe_own O__law_bits_by (hr.mono (by decide)) (pa_cons (pe_op op_divB (pv 7) (pe_op op_addB (pv 3) pe_int)) (pa_cons (pe_op op_modB (pv 7) (pe_op op_addB (pv 3) pe_int)) pa_nil))))
      (pss_one (ps_if (pt_cmpR op_notIn_seq (pv 8) (pe_comp (CompSc.plain (by decide +kernel) rfl (by decide +kernel) rfl) (pi_list (pv 5)) (fun _ _ _ _ => (pe_ix ix_B (pv 0) pe_int (fun _ _ => rfl))) (fun _ _ _ _ => .nil)) (by with_unfolding_all rfl)) (pss_one (ps_expr (pe_bm PySem.F.plainAttrs_list PySem.F.slot_list_append PySem.F.type_list_append mt_append (pv 5) (pa_cons (pe_tup (pa_cons (pv 8) (pa_cons (pe_own O__law_way_by (hr.mono (by decide)) (pa_cons (pe_op op_modB (pe_op op_addB (pe_op op_mulB (pv 7) pe_int) pe_int) pe_int) (pa_cons (pv 4) pa_nil))) pa_nil))) pa_nil)))) pss_nil)))))
      (pss_one (ps_ret (pv 5)))))
seal L2.PS L2.PE L2.PA L2.PSs L2.PT in
theorem ok__law_table_by {P : Program} {w : World} {K : PySem.W.Frag} {mg : Str → Option Value} {base : Heap} {f : Addr} {fd : FuncData} (F : Fun K "_law_table_by" "_law_table_by" s__law_table_by f fd) (T : Txt K mg) (O__law_bits_by : Own P w K mg base 1 "_law_bits_by" ["cell", "size"] (sp_law_bits_by K)) (O__law_cell_at : Own P w K mg base 1 "_law_cell_at" ["script", "k"] (sp_law_cell_at K)) (O__law_way_by : Own P w K mg base 1 "_law_way_by" ["cell", "few"] (sp_law_way_by K)) : FnOk P w K mg base CX0 2 f fd ["script", "start", "count", "size", "few"] (sp_law_table_by K) :=
  F.ok sc__law_table_by (k := 1) (fun vs H Q E h => len_law_table_by h) (fun cdv A outer s H vs Q E hr h => ⟨_, tm__law_table_by T O__law_bits_by O__law_cell_at O__law_way_by hr, rdok_law_table_by h⟩)

seal L2.PS L2.PE L2.PA L2.PSs L2.PT in
theorem tm__law_led {P : Program} {w : World} {K : PySem.W.Frag} {mg : Str → Option Value} {base : Heap} {f : Addr} {cdv : Value} {A : Around} {outer : List Env} {s : Shared} {H : Hp} {E : XK} (T : Txt K mg) (O__law_head_for : Own P w K mg base 1 "_law_head_for" ["rows", "address"] (sp_law_head_for K)) (hr : Room 1 (A.deeper (PyProof.Rows.envOfC "_law_led" (defScope s__law_led) s.heap.objs.size f cdv))) :
    PSs (cxOf CX0 P w K mg base ["rows", "address", "row"] "_law_led" (defScope s__law_led) f cdv A outer s H E).nox (defBody s__law_led) (rd_law_led K) :=
  (pss_cons (ps_set (i := 2) sc__law_led.nd rfl (Or.inl rfl) (pe_own O__law_head_for (hr.mono (by decide)) (pa_cons (pv 0) (pa_cons (pv 1) pa_nil))))
      (pss_cons (ps_if (pt_cmpR op_isNB (pv 2) pe_non (nomark _)) (pss_one (ps_ret pe_non)) pss_nil)
      (pss_one (ps_ret (pe_ix ix_B (pv 2) pe_int (fun _ _ => rfl))))))
seal L2.PS L2.PE L2.PA L2.PSs L2.PT in
theorem ok__law_led {P : Program} {w : World} {K : PySem.W.Frag} {mg : Str → Option Value} {base : Heap} {f : Addr} {fd : FuncData} (F : Fun K "_law_led" "_law_led" s__law_led f fd) (T : Txt K mg) (O__law_head_for : Own P w K mg base 1 "_law_head_for" ["rows", "address"] (sp_law_head_for K)) : FnOk P w K mg base CX0 2 f fd ["rows", "address"] (sp_law_led K) :=
  F.ok sc__law_led (k := 1) (fun vs H Q E h => len_law_led h) (fun cdv A outer s H vs Q E hr h => ⟨_, tm__law_led T O__law_head_for hr, rdok_law_led h⟩)

seal L2.PS L2.PE L2.PA L2.PSs L2.PT in
theorem tm__law_cuts {P : Program} {w : World} {K : PySem.W.Frag} {mg : Str → Option Value} {base : Heap} {f : Addr} {cdv : Value} {A : Around} {outer : List Env} {s : Shared} {H : Hp} {E : XK} (T : Txt K mg) (O__law_many : Own P w K mg base 1 "_law_many" ["size"] (sp_law_many K)) (hr : Room 1 (A.deeper (PyProof.Rows.envOfC "_law_cuts" (defScope s__law_cuts) s.heap.objs.size f cdv))) :
    PSs (cxOf CX0 P w K mg base ["rows", "size", "found", "row", "low", "sign", "wide"] "_law_cuts" (defScope s__law_cuts) f cdv A outer s H E).nox (defBody s__law_cuts) (rd_law_cuts K) :=
  (pss_cons (ps_set (i := 2) sc__law_cuts.nd rfl (Or.inl rfl) (pe_lst (pa_cons pe_int pa_nil)))
      (pss_cons (ps_for PassesOwn.never rfl (pi_list (pv 0)) (pg_name (i := 3) sc__law_cuts.nd rfl (Or.inl rfl))
      (pss_cons (ps_set (i := 4) sc__law_cuts.nd rfl (Or.inl rfl) pe_int)
      (pss_cons (ps_for PassesOwn.never rfl (pi_str (pe_ix ix_B (pv 3) pe_int (fun _ _ => rfl))) (pg_name (i := 5) sc__law_cuts.nd rfl (Or.inl rfl))
      (pss_one (ps_set (i := 4) sc__law_cuts.nd rfl (Or.inl rfl) (pe_op op_addB (pe_op op_addB (pv 4) (pv 4)) (pe_callTy call_intB rfl T.b_int bt_int (pa_cons (pe_cmpR op_eqB (pv 5) pe_str (nomark _)) pa_nil))))))
      (pss_cons (ps_set (i := 6) sc__law_cuts.nd rfl (Or.inl rfl) (pe_own O__law_many (hr.mono (by decide)) (pa_cons (pe_op op_subB (pv 1) (pe_callB call_lenB rfl T.b_len bt_len (pa_cons (pe_ix ix_B (pv 3) pe_int (fun _ _ => rfl)) pa_nil))) pa_nil)))
      (pss_cons (ps_expr (pe_bm PySem.F.plainAttrs_list PySem.F.slot_list_append PySem.F.type_list_append mt_append (pv 2) (pa_cons (pe_op op_mulB (pv 4) (pv 6)) pa_nil)))
      (pss_one (ps_if (pt_cmpR op_ltB (pe_op op_addB (pe_op op_mulB (pv 4) (pv 6)) (pv 6)) (pe_own O__law_many (hr.mono (by decide)) (pa_cons (pv 1) pa_nil)) (nomark _)) (pss_one (ps_expr (pe_bm PySem.F.plainAttrs_list PySem.F.slot_list_append PySem.F.type_list_append mt_append (pv 2) (pa_cons (pe_op op_addB (pe_op op_mulB (pv 4) (pv 6)) (pv 6)) pa_nil)))) pss_nil)))))))
      (pss_one (ps_ret (pe_sortedSet hr.hd T.b_sorted T.b_set (pa_cons (pv 2) pa_nil))))))
seal L2.PS L2.PE L2.PA L2.PSs L2.PT in
theorem ok__law_cuts {P : Program} {w : World} {K : PySem.W.Frag} {mg : Str → Option Value} {base : Heap} {f : Addr} {fd : FuncData} (F : Fun K "_law_cuts" "_law_cuts" s__law_cuts f fd) (T : Txt K mg) (O__law_many : Own P w K mg base 1 "_law_many" ["size"] (sp_law_many K)) : FnOk P w K mg base CX0 2 f fd ["rows", "size"] (sp_law_cuts K) :=
  F.ok sc__law_cuts (k := 1) (fun vs H Q E h => len_law_cuts h) (fun cdv A outer s H vs Q E hr h => ⟨_, tm__law_cuts T O__law_many hr, rdok_law_cuts h⟩)

seal L2.PS L2.PE L2.PA L2.PSs L2.PT in
theorem tm__law_way_is {P : Program} {w : World} {K : PySem.W.Frag} {mg : Str → Option Value} {base : Heap} {f : Addr} {cdv : Value} {A : Around} {outer : List Env} {s : Shared} {H : Hp} {E : XK} (T : Txt K mg) (O__law_whole : Own P w K mg base 1 "_law_whole" ["found"] (sp_law_whole K)) (hr : Room 1 (A.deeper (PyProof.Rows.envOfC "_law_way_is" (defScope s__law_way_is) s.heap.objs.size f cdv))) :
    PSs (cxOf CX0 P w K mg base ["found", "due"] "_law_way_is" (defScope s__law_way_is) f cdv A outer s H E).nox (defBody s__law_way_is) (rd_law_way_is K) :=
  (pss_cons (ps_if (pt_cmpR op_isNB (pv 1) pe_non (nomark _)) (pss_one (ps_ret (pe_cmpR op_isNB (pv 0) pe_non (nomark _)))) pss_nil)
      (pss_one (ps_ret (pe_and (pe_own O__law_whole (hr.mono (by decide)) (pa_cons (pv 0) pa_nil)) (pe_one (pe_cmpR op_eqB (pv 0) (pv 1) (nomark _)))))))
seal L2.PS L2.PE L2.PA L2.PSs L2.PT in
theorem ok__law_way_is {P : Program} {w : World} {K : PySem.W.Frag} {mg : Str → Option Value} {base : Heap} {f : Addr} {fd : FuncData} (F : Fun K "_law_way_is" "_law_way_is" s__law_way_is f fd) (T : Txt K mg) (O__law_whole : Own P w K mg base 1 "_law_whole" ["found"] (sp_law_whole K)) : FnOk P w K mg base CX0 2 f fd ["found", "due"] (sp_law_way_is K) :=
  F.ok sc__law_way_is (k := 1) (fun vs H Q E h => len_law_way_is h) (fun cdv A outer s H vs Q E hr h => ⟨_, tm__law_way_is T O__law_whole hr, rdok_law_way_is h⟩)

seal L2.PS L2.PE L2.PA L2.PSs L2.PT in
theorem tm__law_is_table {P : Program} {w : World} {K : PySem.W.Frag} {mg : Str → Option Value} {base : Heap} {f : Addr} {cdv : Value} {A : Around} {outer : List Env} {s : Shared} {H : Hp} {E : XK} (T : Txt K mg) (O__law_whole : Own P w K mg base 1 "_law_whole" ["found"] (sp_law_whole K)) (hr : Room 1 (A.deeper (PyProof.Rows.envOfC "_law_is_table" (defScope s__law_is_table) s.heap.objs.size f cdv))) :
    PSs (cxOf CX0 P w K mg base ["rows", "row", "sign", "heads"] "_law_is_table" (defScope s__law_is_table) f cdv A outer s H E).nox (defBody s__law_is_table) (rd_law_is_table K) :=
  (pss_cons (ps_if (pt_not (pt_val (pe_callB call_isiB rfl T.b_isinstance bt_isinstance (pa_cons (pv 0) (pa_cons (pe_bltn rfl T.b_list bt_list rfl) pa_nil))))) (pss_one (ps_ret pe_bl)) pss_nil)
      (pss_cons (ps_for PassesOwn.never rfl (pi_list (pv 0)) (pg_name (i := 1) sc__law_is_table.nd rfl (Or.inl rfl))
      (pss_cons (ps_if (PW.pt (pw_or (pt_not (pt_val (pe_callB call_isiB rfl T.b_isinstance bt_isinstance (pa_cons (pv 1) (pa_cons (pe_bltn rfl T.b_tuple bt_tuple rfl) pa_nil))))) (pw_or (pt_cmpR op_neB (pe_callB call_lenB rfl T.b_len bt_len (pa_cons (pv 1) pa_nil)) pe_int (nomark _)) (pw_or1 (pt_not (pt_val (pe_callB call_isiB rfl T.b_isinstance bt_isinstance (pa_cons (pe_ix ix_B (pv 1) pe_int (fun _ _ => rfl)) (pa_cons (pe_bltn rfl T.b_str bt_str rfl) pa_nil))))))))) (pss_one (ps_ret pe_bl)) pss_nil)
      (pss_cons (ps_if (PW.pt (pw_and (pt_cmpR op_notNB (pe_ix ix_B (pv 1) pe_int (fun _ _ => rfl)) pe_non (nomark _)) (pw_and1 (pt_not (pt_val (pe_own O__law_whole (hr.mono (by decide)) (pa_cons (pe_ix ix_B (pv 1) pe_int (fun _ _ => rfl)) pa_nil))))))) (pss_one (ps_ret pe_bl)) pss_nil)
      (pss_one (ps_for PassesOwn.never rfl (pi_str (pe_ix ix_B (pv 1) pe_int (fun _ _ => rfl))) (pg_name (i := 2) sc__law_is_table.nd rfl (Or.inl rfl))
      (pss_one (ps_if (pt_cmpR op_notInS (pv 2) pe_str (by with_unfolding_all rfl)) (pss_one (ps_ret pe_bl)) pss_nil)))))))
      (pss_cons (ps_setComp (i := 3) sc__law_is_table.nd rfl (Or.inl rfl) (CompSc.plain (by decide +kernel) rfl (by decide +kernel) rfl) (pi_list (pv 0)) (fun _ _ _ _ => (pe_ix ix_B (pv 0) pe_int (fun _ _ => rfl))) (fun _ _ _ _ => .nil))
      (pss_one (ps_ret (pe_and (pe_cmpR op_eqB (pe_lenSet hr.hd T.b_len T.b_set (pa_cons (pv 3) pa_nil)) (pe_callB call_lenB rfl T.b_len bt_len (pa_cons (pv 3) pa_nil)) (nomark _)) (pe_one (pe_cmpR (op_eqD hr.units) (pe_callB call_sortedS rfl T.b_sorted bt_sorted (pa_cons (pv 3) pa_nil)) (pv 3) (nomark _)))))))))
seal L2.PS L2.PE L2.PA L2.PSs L2.PT in
theorem ok__law_is_table {P : Program} {w : World} {K : PySem.W.Frag} {mg : Str → Option Value} {base : Heap} {f : Addr} {fd : FuncData} (F : Fun K "_law_is_table" "_law_is_table" s__law_is_table f fd) (T : Txt K mg) (O__law_whole : Own P w K mg base 1 "_law_whole" ["found"] (sp_law_whole K)) : FnOk P w K mg base CX0 2 f fd ["rows"] (sp_law_is_table K) :=
  F.ok sc__law_is_table (k := 1) (fun vs H Q E h => len_law_is_table h) (fun cdv A outer s H vs Q E hr h => ⟨_, tm__law_is_table T O__law_whole hr, rdok_law_is_table h⟩)

seal L2.PS L2.PE L2.PA L2.PSs L2.PT in
theorem tm_best_ways {P : Program} {w : World} {K : PySem.W.Frag} {mg : Str → Option Value} {base : Heap} {f : Addr} {cdv : Value} {A : Around} {outer : List Env} {s : Shared} {H : Hp} {E : XK} (T : Txt K mg) (O_best_of_both : Own P w K mg base 1 "best_of_both" ["ones", "others"] (sp_best_of_both K)) (O_places_of : Own P w K mg base 1 "places_of" ["rows"] (sp_places_of K)) (O_ways_at : Own P w K mg base 2 "ways_at" ["rows", "places"] (sp_ways_at K)) (hr : Room 2 (A.deeper (PyProof.Rows.envOfC "best_ways" (defScope s_best_ways) s.heap.objs.size f cdv))) :
    PSs (cxOf CX0 P w K mg base ["rows", "places", "ways", "best", "place"] "best_ways" (defScope s_best_ways) f cdv A outer s H E).nox (defBody s_best_ways) (rd_best_ways K) :=
  (pss_cons (ps_set (i := 1) sc_best_ways.nd rfl (Or.inl rfl) (pe_own O_places_of (hr.mono (by decide)) (pa_cons (pv 0) pa_nil)))
      (pss_cons (ps_set (i := 2) sc_best_ways.nd rfl (Or.inl rfl) (pe_own O_ways_at (hr.mono (by decide)) (pa_cons (pv 0) (pa_cons (pv 1) pa_nil))))
      (pss_cons (ps_set (i := 3) sc_best_ways.nd rfl (Or.inl rfl) pe_dnewK)
      (pss_cons (ps_for PassesOwn.never rfl (pi_rev rfl T.b_reversed (pa_cons (pv 1) pa_nil)) (pg_name (i := 4) sc_best_ways.nd rfl (Or.inl rfl))
      (pss_one (ps_if (pt_cmpR (op_inK (hu_of hr)) (pe_op op_addB (pv 4) pe_str) (pv 3) (by with_unfolding_all rfl)) (pss_one (ps_dput (hu_of hr) (pv 3) (pv 4) (pe_own O_best_of_both (hr.mono (by decide)) (pa_cons (pe_dget (hu_of hr) (pv 3) (pe_op op_addB (pv 4) pe_str) (fun _ _ => rfl)) (pa_cons (pe_dget (hu_of hr) (pv 3) (pe_op op_addB (pv 4) pe_str) (fun _ _ => rfl)) pa_nil))) rfl)) (pss_one (ps_dput (hu_of hr) (pv 3) (pv 4) (pe_lst (pa_cons (pe_dget (hu_of hr) (pv 2) (pv 4) (fun _ _ => rfl)) pa_nil)) rfl)))))
      (pss_one (ps_ret (pv 3)))))))
seal L2.PS L2.PE L2.PA L2.PSs L2.PT in
theorem ok_best_ways {P : Program} {w : World} {K : PySem.W.Frag} {mg : Str → Option Value} {base : Heap} {f : Addr} {fd : FuncData} (F : Fun K "best_ways" "best_ways" s_best_ways f fd) (T : Txt K mg) (O_best_of_both : Own P w K mg base 1 "best_of_both" ["ones", "others"] (sp_best_of_both K)) (O_places_of : Own P w K mg base 1 "places_of" ["rows"] (sp_places_of K)) (O_ways_at : Own P w K mg base 2 "ways_at" ["rows", "places"] (sp_ways_at K)) : FnOk P w K mg base CX0 3 f fd ["rows"] (sp_best_ways K) :=
  F.ok sc_best_ways (k := 2) (fun vs H Q E h => len_best_ways h) (fun cdv A outer s H vs Q E hr h => ⟨_, tm_best_ways T O_best_of_both O_places_of O_ways_at hr, rdok_best_ways h⟩)

seal L2.PS L2.PE L2.PA L2.PSs L2.PT in
theorem tm__law_right {P : Program} {w : World} {K : PySem.W.Frag} {mg : Str → Option Value} {base : Heap} {f : Addr} {cdv : Value} {A : Around} {outer : List Env} {s : Shared} {H : Hp} {E : XK} (T : Txt K mg) (O__law_cuts : Own P w K mg base 2 "_law_cuts" ["rows", "size"] (sp_law_cuts K)) (O__law_is_table : Own P w K mg base 2 "_law_is_table" ["rows"] (sp_law_is_table K)) (O__law_led : Own P w K mg base 2 "_law_led" ["rows", "address"] (sp_law_led K)) (O__law_text : Own P w K mg base 1 "_law_text" ["number", "size"] (sp_law_text K)) (O__law_way_is : Own P w K mg base 2 "_law_way_is" ["found", "due"] (sp_law_way_is K)) (hr : Room 2 (A.deeper (PyProof.Rows.envOfC "_law_right" (defScope s__law_right) s.heap.objs.size f cdv))) :
    PSs (cxOf CX0 P w K mg base ["found", "rows", "size", "row", "number", "address"] "_law_right" (defScope s__law_right) f cdv A outer s H E).nox (defBody s__law_right) (rd_law_right06 K) :=
  (pss_cons (ps_if (PW.pt (pw_or (pt_not (pt_val (pe_own O__law_is_table (hr.mono (by decide)) (pa_cons (pv 0) pa_nil)))) (pw_or1 (pt_cmpR op_gtB (pe_callB call_lenB rfl T.b_len bt_len (pa_cons (pv 0) pa_nil)) (pe_callB call_lenB rfl T.b_len bt_len (pa_cons (pv 1) pa_nil)) (nomark _))))) (pss_one (ps_ret pe_bl)) pss_nil)
      (pss_cons (ps_for PassesOwn.never rfl (pi_list (pv 0)) (pg_name (i := 3) sc__law_right.nd rfl (Or.inl rfl))
      (pss_one (ps_if (pt_cmpR op_gtB (pe_callB call_lenB rfl T.b_len bt_len (pa_cons (pe_ix ix_B (pv 3) pe_int (fun _ _ => rfl)) pa_nil)) (pv 2) (nomark _)) (pss_one (ps_ret pe_bl)) pss_nil)))
      (pss_cons (ps_for PassesOwn.never rfl (pi_list (pe_own O__law_cuts (hr.mono (by decide)) (pa_cons (pe_op op_addB (pv 1) (pv 0)) (pa_cons (pv 2) pa_nil)))) (pg_name (i := 4) sc__law_right.nd rfl (Or.inl rfl))
      (pss_cons (ps_set (i := 5) sc__law_right.nd rfl (Or.inl rfl) (pe_own O__law_text (hr.mono (by decide)) (pa_cons (pv 4) (pa_cons (pv 2) pa_nil))))
      (pss_one (ps_if (pt_not (pt_val (pe_own O__law_way_is (hr.mono (by decide)) (pa_cons (pe_own O__law_led (hr.mono (by decide)) (pa_cons (pv 0) (pa_cons (pv 5) pa_nil))) (pa_cons (pe_own O__law_led (hr.mono (by decide)) (pa_cons (pv 1) (pa_cons (pv 5) pa_nil))) pa_nil))))) (pss_one (ps_ret pe_bl)) pss_nil))))
      (pss_one (ps_ret pe_bl)))))
seal L2.PS L2.PE L2.PA L2.PSs L2.PT in
theorem ok__law_right {P : Program} {w : World} {K : PySem.W.Frag} {mg : Str → Option Value} {base : Heap} {f : Addr} {fd : FuncData} (F : Fun K "_law_right" "_law_right" s__law_right f fd) (T : Txt K mg) (O__law_cuts : Own P w K mg base 2 "_law_cuts" ["rows", "size"] (sp_law_cuts K)) (O__law_is_table : Own P w K mg base 2 "_law_is_table" ["rows"] (sp_law_is_table K)) (O__law_led : Own P w K mg base 2 "_law_led" ["rows", "address"] (sp_law_led K)) (O__law_text : Own P w K mg base 1 "_law_text" ["number", "size"] (sp_law_text K)) (O__law_way_is : Own P w K mg base 2 "_law_way_is" ["found", "due"] (sp_law_way_is K)) : FnOk P w K mg base CX0 3 f fd ["found", "rows", "size"] (sp_law_right06 K) :=
  F.ok sc__law_right (k := 2) (fun vs H Q E h => len_law_right06 h) (fun cdv A outer s H vs Q E hr h => ⟨_, tm__law_right T O__law_cuts O__law_is_table O__law_led O__law_text O__law_way_is hr, rdok_law_right06 h⟩)

seal L2.PS L2.PE L2.PA L2.PSs L2.PT in
theorem tm_thinned {P : Program} {w : World} {K : PySem.W.Frag} {mg : Str → Option Value} {base : Heap} {f : Addr} {cdv : Value} {A : Around} {outer : List Env} {s : Shared} {H : Hp} {E : XK} (T : Txt K mg) (O_best_ways : Own P w K mg base 3 "best_ways" ["rows"] (sp_best_ways K)) (O_way_above : Own P w K mg base 1 "way_above" ["ways", "place"] (sp_way_above K)) (hr : Room 3 (A.deeper (PyProof.Rows.envOfC "thinned" (defScope s_thinned) s.heap.objs.size f cdv))) :
    PSs (cxOf CX0 P w K mg base ["rows", "best", "led", "told", "place", "way"] "thinned" (defScope s_thinned) f cdv A outer s H E).nox (defBody s_thinned) (rd_thinned K) :=
  (pss_cons (ps_set (i := 1) sc_thinned.nd rfl (Or.inl rfl) (pe_own O_best_ways (hr.mono (by decide)) (pa_cons (pv 0) pa_nil)))
      (pss_cons (ps_set (i := 2) sc_thinned.nd rfl (Or.inl rfl) pe_dnewK)
      (pss_cons (ps_set (i := 3) sc_thinned.nd rfl (Or.inl rfl) (pe_lst pa_nil))
      (pss_cons (ps_for PassesOwn.never rfl (pi_list (pe_callB (call_sortedA hr.hd) rfl T.b_sorted bt_sorted (pa_cons (pv 1) pa_nil))) (pg_name (i := 4) sc_thinned.nd rfl (Or.inl rfl))
      (pss_cons (ps_set (i := 5) sc_thinned.nd rfl (Or.inl rfl) (pe_own O_way_above (hr.mono (by decide)) (pa_cons (pv 2) (pa_cons (pv 4) pa_nil))))
      (pss_cons (ps_if (pt_cmpR op_notIn_seq (pv 5) (pe_dget (hu_of hr) (pv 1) (pv 4) (fun _ _ => rfl)) (by with_unfolding_all rfl)) (pss_cons (ps_set (i := 5) sc_thinned.nd rfl (Or.inl rfl) (pe_ix ix_B (pe_dget (hu_of hr) (pv 1) (pv 4) (fun _ _ => rfl)) pe_int (fun _ _ => rfl)))
      (pss_one (ps_expr (pe_bm PySem.F.plainAttrs_list PySem.F.slot_list_append PySem.F.type_list_append mt_append (pv 3) (pa_cons (pe_tup (pa_cons (pv 4) (pa_cons (pv 5) pa_nil))) pa_nil))))) pss_nil)
      (pss_one (ps_dput (hu_of hr) (pv 2) (pv 4) (pv 5) rfl)))))
      (pss_one (ps_ret (pv 3)))))))
seal L2.PS L2.PE L2.PA L2.PSs L2.PT in
theorem ok_thinned {P : Program} {w : World} {K : PySem.W.Frag} {mg : Str → Option Value} {base : Heap} {f : Addr} {fd : FuncData} (F : Fun K "thinned" "thinned" s_thinned f fd) (T : Txt K mg) (O_best_ways : Own P w K mg base 3 "best_ways" ["rows"] (sp_best_ways K)) (O_way_above : Own P w K mg base 1 "way_above" ["ways", "place"] (sp_way_above K)) : FnOk P w K mg base CX0 4 f fd ["rows"] (sp_thinned K) :=
  F.ok sc_thinned (k := 3) (fun vs H Q E h => len_thinned h) (fun cdv A outer s H vs Q E hr h => ⟨_, tm_thinned T O_best_ways O_way_above hr, rdok_thinned h⟩)

seal L2.PS L2.PE L2.PA L2.PSs L2.PT in
theorem tm_law {P : Program} {w : World} {K : PySem.W.Frag} {mg : Str → Option Value} {base : Heap} {f : Addr} {cdv : Value} {A : Around} {outer : List Env} {s : Shared} {H : Hp} {E : XK} (T : Txt K mg) (O__law_cell_at : Own P w K mg base 1 "_law_cell_at" ["script", "k"] (sp_law_cell_at K)) (O__law_far_table : Own P w K mg base 2 "_law_far_table" ["cell", "count", "size", "few"] (sp_law_far_table K)) (O__law_right : Own P w K mg base 3 "_law_right" ["found", "rows", "size"] (sp_law_right06 K)) (O__law_table_by : Own P w K mg base 2 "_law_table_by" ["script", "start", "count", "size", "few"] (sp_law_table_by K)) (O_thinned : Own P w K mg base 4 "thinned" ["rows"] (sp_thinned K)) (hr : Room 4 (A.deeper (PyProof.Rows.envOfC "law" (defScope s_law) s.heap.objs.size f cdv))) :
    PSs (cxOf CX0 P w K mg base ["script", "size", "few", "rows", "handed", "found"] "law" (defScope s_law) f cdv A outer s H E).nox (defBody s_law) (rd_law06 K) :=
  (pss_cons (ps_set (i := 1) sc_law.nd rfl (Or.inl rfl) (pe_op op_addB pe_int (pe_op op_modB (pe_own O__law_cell_at (hr.mono (by decide)) (pa_cons (pv 0) (pa_cons pe_int pa_nil))) pe_int)))
      (pss_cons (ps_set (i := 2) sc_law.nd rfl (Or.inl rfl) (pe_ix ix_B (pe_lst (pa_cons pe_int (pa_cons pe_int pa_nil))) (pe_op op_modB (pe_op op_divB (pe_own O__law_cell_at (hr.mono (by decide)) (pa_cons (pv 0) (pa_cons pe_int pa_nil))) pe_int) pe_int) (fun _ _ => rfl)))
      (pss_cons (ps_set (i := 3) sc_law.nd rfl (Or.inl rfl) (pe_own O__law_table_by (hr.mono (by decide)) (pa_cons (pv 0) (pa_cons pe_int (pa_cons (pe_op op_modB (pe_own O__law_cell_at (hr.mono (by decide)) (pa_cons (pv 0) (pa_cons pe_int pa_nil))) pe_int) (pa_cons (pv 1) (pa_cons (pv 2) pa_nil)))))))
      (pss_cons (ps_if (pt_cmpR op_eqB (pe_op op_modB (pe_op op_divB (pe_own O__law_cell_at (hr.mono (by decide)) (pa_cons (pv 0) (pa_cons pe_int pa_nil))) pe_int) pe_int) pe_int (nomark _)) (pss_cons (ps_set (i := 1) sc_law.nd rfl (Or.inl rfl) (pe_op op_addB pe_int (pe_op op_modB (pe_own O__law_cell_at (hr.mono (by decide)) (pa_cons (pv 0) (pa_cons pe_int pa_nil))) pe_int)))
      (pss_one (ps_set (i := 3) sc_law.nd rfl (Or.inl rfl) (pe_own O__law_far_table (hr.mono (by decide)) (pa_cons (pe_own O__law_cell_at (hr.mono (by decide)) (pa_cons (pv 0) (pa_cons pe_int pa_nil))) (pa_cons (pe_op op_addB pe_int (pe_op op_modB (pe_op op_divB (pe_own O__law_cell_at (hr.mono (by decide)) (pa_cons (pv 0) (pa_cons pe_int pa_nil))) pe_int) pe_int)) (pa_cons (pv 1) (pa_cons (pv 2) pa_nil)))))))) pss_nil)
      (pss_cons (ps_set (i := 4) sc_law.nd rfl (Or.inl rfl) (pe_callTy call_listB rfl T.b_list bt_list (pa_cons (pv 3) pa_nil)))
      (pss_cons (ps_set (i := 5) sc_law.nd rfl (Or.inl rfl) (pe_own O_thinned (hr.mono (by decide)) (pa_cons (pv 4) pa_nil)))
      (pss_cons (ps_if (PW.pt (pw_or (pt_cmpR (op_neD hr.units) (pv 4) (pv 3) (nomark _)) (pw_or1 (pt_not (pt_val (pe_own O__law_right (hr.mono (by decide)) (pa_cons (pv 5) (pa_cons (pv 3) (pa_cons (pv 1) pa_nil))))))))) (pss_one (ps_ret pe_bl)) pss_nil)
      (pss_cons (ps_expr (pe_bm PySem.F.plainAttrs_list PySem.F.slot_list_append PySem.F.type_list_append mt_append (pv 5) (pa_cons (pe_tup (pa_cons pe_str (pa_cons pe_int pa_nil))) pa_nil)))
      (pss_one (ps_ret (pe_and (pe_cmpR (op_eqD hr.units) (pv 4) (pv 3) (nomark _)) (pe_one (pe_own O__law_right (hr.mono (by decide)) (pa_cons (pe_own O_thinned (hr.mono (by decide)) (pa_cons (pv 4) pa_nil)) (pa_cons (pv 3) (pa_cons (pv 1) pa_nil))))))))))))))))
seal L2.PS L2.PE L2.PA L2.PSs L2.PT in
theorem ok_law {P : Program} {w : World} {K : PySem.W.Frag} {mg : Str → Option Value} {base : Heap} {f : Addr} {fd : FuncData} (F : Fun K "law" "law" s_law f fd) (T : Txt K mg) (O__law_cell_at : Own P w K mg base 1 "_law_cell_at" ["script", "k"] (sp_law_cell_at K)) (O__law_far_table : Own P w K mg base 2 "_law_far_table" ["cell", "count", "size", "few"] (sp_law_far_table K)) (O__law_right : Own P w K mg base 3 "_law_right" ["found", "rows", "size"] (sp_law_right06 K)) (O__law_table_by : Own P w K mg base 2 "_law_table_by" ["script", "start", "count", "size", "few"] (sp_law_table_by K)) (O_thinned : Own P w K mg base 4 "thinned" ["rows"] (sp_thinned K)) : FnOk P w K mg base CX0 5 f fd ["script"] (sp_law06 K) :=
  F.ok sc_law (k := 4) (fun vs H Q E h => len_law06 h) (fun cdv A outer s H vs Q E hr h => ⟨_, tm_law T O__law_cell_at O__law_far_table O__law_right O__law_table_by O_thinned hr, rdok_law06 h⟩)

theorem all_mk {l : PySem.W.OpenLaw} {w : World} {K : PySem.W.Frag} {h : Heap} {mg : Str → Option Value} {fa f0 f1 f2 f3 f4 f5 f6 f7 f8 f9 f10 f11 f12 f13 f14 f15 f16 f17 f18 f19 f20 : Addr} (X : K.In h) (G : h.Ns mainGlobals mg) (hfa : mg "law" = some (.ref fa))
    {od0 an0 od1 an1 od2 an2 od3 an3 od4 an4 od5 an5 od6 an6 od7 an7 od8 an8 od9 an9 od10 an10 od11 an11 od12 an12 od13 an13 od14 an14 od15 an15 od16 an16 od17 an17 od18 an18 od19 an19 od20 an20 : Option Addr} {sl0 sl1 sl2 sl3 sl4 sl5 sl6 sl7 sl8 sl9 sl10 sl11 sl12 sl13 sl14 sl15 sl16 sl17 sl18 sl19 sl20 : Array (Option Value)} {oc0 kV0 dc0 pm0 cd0 ct0 oc1 kV1 dc1 pm1 cd1 ct1 oc2 kV2 dc2 pm2 cd2 ct2 oc3 kV3 dc3 pm3 cd3 ct3 oc4 kV4 dc4 pm4 cd4 ct4 oc5 kV5 dc5 pm5 cd5 ct5 oc6 kV6 dc6 pm6 cd6 ct6 oc7 kV7 dc7 pm7 cd7 ct7 oc8 kV8 dc8 pm8 cd8 ct8 oc9 kV9 dc9 pm9 cd9 ct9 oc10 kV10 dc10 pm10 cd10 ct10 oc11 kV11 dc11 pm11 cd11 ct11 oc12 kV12 dc12 pm12 cd12 ct12 oc13 kV13 dc13 pm13 cd13 ct13 oc14 kV14 dc14 pm14 cd14 ct14 oc15 kV15 dc15 pm15 cd15 ct15 oc16 kV16 dc16 pm16 cd16 ct16 oc17 kV17 dc17 pm17 cd17 ct17 oc18 kV18 dc18 pm18 cd18 ct18 oc19 kV19 dc19 pm19 cd19 ct19 oc20 kV20 dc20 pm20 cd20 ct20 : Value}
    (a0 : PySem.W.nsIn K mainGlobals "places_of" = some (some (.ref f0))) (l0 : K.lookup f0 = some ⟨oc0, od0, .func (PySem.W.fnOf "places_of" "places_of" (defArgs s_places_of) (defBody s_places_of) (defScope s_places_of) .none kV0 dc0 pm0 an0 cd0 ct0), sl0⟩) (c0 : PySem.W.codeIn K cd0 "places_of" = true) (k0 : PySem.W.keepIn K (.ref f0) = true)
    (a1 : PySem.W.nsIn K mainGlobals "way_above" = some (some (.ref f1))) (l1 : K.lookup f1 = some ⟨oc1, od1, .func (PySem.W.fnOf "way_above" "way_above" (defArgs s_way_above) (defBody s_way_above) (defScope s_way_above) .none kV1 dc1 pm1 an1 cd1 ct1), sl1⟩) (c1 : PySem.W.codeIn K cd1 "way_above" = true) (k1 : PySem.W.keepIn K (.ref f1) = true)
    (a2 : PySem.W.nsIn K mainGlobals "ways_at" = some (some (.ref f2))) (l2 : K.lookup f2 = some ⟨oc2, od2, .func (PySem.W.fnOf "ways_at" "ways_at" (defArgs s_ways_at) (defBody s_ways_at) (defScope s_ways_at) .none kV2 dc2 pm2 an2 cd2 ct2), sl2⟩) (c2 : PySem.W.codeIn K cd2 "ways_at" = true) (k2 : PySem.W.keepIn K (.ref f2) = true)
    (a3 : PySem.W.nsIn K mainGlobals "best_of_both" = some (some (.ref f3))) (l3 : K.lookup f3 = some ⟨oc3, od3, .func (PySem.W.fnOf "best_of_both" "best_of_both" (defArgs s_best_of_both) (defBody s_best_of_both) (defScope s_best_of_both) .none kV3 dc3 pm3 an3 cd3 ct3), sl3⟩) (c3 : PySem.W.codeIn K cd3 "best_of_both" = true) (k3 : PySem.W.keepIn K (.ref f3) = true)
    (a4 : PySem.W.nsIn K mainGlobals "best_ways" = some (some (.ref f4))) (l4 : K.lookup f4 = some ⟨oc4, od4, .func (PySem.W.fnOf "best_ways" "best_ways" (defArgs s_best_ways) (defBody s_best_ways) (defScope s_best_ways) .none kV4 dc4 pm4 an4 cd4 ct4), sl4⟩) (c4 : PySem.W.codeIn K cd4 "best_ways" = true) (k4 : PySem.W.keepIn K (.ref f4) = true)
    (a5 : PySem.W.nsIn K mainGlobals "thinned" = some (some (.ref f5))) (l5 : K.lookup f5 = some ⟨oc5, od5, .func (PySem.W.fnOf "thinned" "thinned" (defArgs s_thinned) (defBody s_thinned) (defScope s_thinned) .none kV5 dc5 pm5 an5 cd5 ct5), sl5⟩) (c5 : PySem.W.codeIn K cd5 "thinned" = true) (k5 : PySem.W.keepIn K (.ref f5) = true)
    (a6 : PySem.W.nsIn K mainGlobals "_law_cell_at" = some (some (.ref f6))) (l6 : K.lookup f6 = some ⟨oc6, od6, .func (PySem.W.fnOf "_law_cell_at" "_law_cell_at" (defArgs s__law_cell_at) (defBody s__law_cell_at) (defScope s__law_cell_at) .none kV6 dc6 pm6 an6 cd6 ct6), sl6⟩) (c6 : PySem.W.codeIn K cd6 "_law_cell_at" = true) (k6 : PySem.W.keepIn K (.ref f6) = true)
    (a7 : PySem.W.nsIn K mainGlobals "_law_whole" = some (some (.ref f7))) (l7 : K.lookup f7 = some ⟨oc7, od7, .func (PySem.W.fnOf "_law_whole" "_law_whole" (defArgs s__law_whole) (defBody s__law_whole) (defScope s__law_whole) .none kV7 dc7 pm7 an7 cd7 ct7), sl7⟩) (c7 : PySem.W.codeIn K cd7 "_law_whole" = true) (k7 : PySem.W.keepIn K (.ref f7) = true)
    (a8 : PySem.W.nsIn K mainGlobals "_law_bits_by" = some (some (.ref f8))) (l8 : K.lookup f8 = some ⟨oc8, od8, .func (PySem.W.fnOf "_law_bits_by" "_law_bits_by" (defArgs s__law_bits_by) (defBody s__law_bits_by) (defScope s__law_bits_by) .none kV8 dc8 pm8 an8 cd8 ct8), sl8⟩) (c8 : PySem.W.codeIn K cd8 "_law_bits_by" = true) (k8 : PySem.W.keepIn K (.ref f8) = true)
    (a9 : PySem.W.nsIn K mainGlobals "_law_way_by" = some (some (.ref f9))) (l9 : K.lookup f9 = some ⟨oc9, od9, .func (PySem.W.fnOf "_law_way_by" "_law_way_by" (defArgs s__law_way_by) (defBody s__law_way_by) (defScope s__law_way_by) .none kV9 dc9 pm9 an9 cd9 ct9), sl9⟩) (c9 : PySem.W.codeIn K cd9 "_law_way_by" = true) (k9 : PySem.W.keepIn K (.ref f9) = true)
    (a10 : PySem.W.nsIn K mainGlobals "_law_far_table" = some (some (.ref f10))) (l10 : K.lookup f10 = some ⟨oc10, od10, .func (PySem.W.fnOf "_law_far_table" "_law_far_table" (defArgs s__law_far_table) (defBody s__law_far_table) (defScope s__law_far_table) .none kV10 dc10 pm10 an10 cd10 ct10), sl10⟩) (c10 : PySem.W.codeIn K cd10 "_law_far_table" = true) (k10 : PySem.W.keepIn K (.ref f10) = true)
    (a11 : PySem.W.nsIn K mainGlobals "_law_table_by" = some (some (.ref f11))) (l11 : K.lookup f11 = some ⟨oc11, od11, .func (PySem.W.fnOf "_law_table_by" "_law_table_by" (defArgs s__law_table_by) (defBody s__law_table_by) (defScope s__law_table_by) .none kV11 dc11 pm11 an11 cd11 ct11), sl11⟩) (c11 : PySem.W.codeIn K cd11 "_law_table_by" = true) (k11 : PySem.W.keepIn K (.ref f11) = true)
    (a12 : PySem.W.nsIn K mainGlobals "_law_head_for" = some (some (.ref f12))) (l12 : K.lookup f12 = some ⟨oc12, od12, .func (PySem.W.fnOf "_law_head_for" "_law_head_for" (defArgs s__law_head_for) (defBody s__law_head_for) (defScope s__law_head_for) .none kV12 dc12 pm12 an12 cd12 ct12), sl12⟩) (c12 : PySem.W.codeIn K cd12 "_law_head_for" = true) (k12 : PySem.W.keepIn K (.ref f12) = true)
    (a13 : PySem.W.nsIn K mainGlobals "_law_led" = some (some (.ref f13))) (l13 : K.lookup f13 = some ⟨oc13, od13, .func (PySem.W.fnOf "_law_led" "_law_led" (defArgs s__law_led) (defBody s__law_led) (defScope s__law_led) .none kV13 dc13 pm13 an13 cd13 ct13), sl13⟩) (c13 : PySem.W.codeIn K cd13 "_law_led" = true) (k13 : PySem.W.keepIn K (.ref f13) = true)
    (a14 : PySem.W.nsIn K mainGlobals "_law_text" = some (some (.ref f14))) (l14 : K.lookup f14 = some ⟨oc14, od14, .func (PySem.W.fnOf "_law_text" "_law_text" (defArgs s__law_text) (defBody s__law_text) (defScope s__law_text) .none kV14 dc14 pm14 an14 cd14 ct14), sl14⟩) (c14 : PySem.W.codeIn K cd14 "_law_text" = true) (k14 : PySem.W.keepIn K (.ref f14) = true)
    (a15 : PySem.W.nsIn K mainGlobals "_law_many" = some (some (.ref f15))) (l15 : K.lookup f15 = some ⟨oc15, od15, .func (PySem.W.fnOf "_law_many" "_law_many" (defArgs s__law_many) (defBody s__law_many) (defScope s__law_many) .none kV15 dc15 pm15 an15 cd15 ct15), sl15⟩) (c15 : PySem.W.codeIn K cd15 "_law_many" = true) (k15 : PySem.W.keepIn K (.ref f15) = true)
    (a16 : PySem.W.nsIn K mainGlobals "_law_cuts" = some (some (.ref f16))) (l16 : K.lookup f16 = some ⟨oc16, od16, .func (PySem.W.fnOf "_law_cuts" "_law_cuts" (defArgs s__law_cuts) (defBody s__law_cuts) (defScope s__law_cuts) .none kV16 dc16 pm16 an16 cd16 ct16), sl16⟩) (c16 : PySem.W.codeIn K cd16 "_law_cuts" = true) (k16 : PySem.W.keepIn K (.ref f16) = true)
    (a17 : PySem.W.nsIn K mainGlobals "_law_way_is" = some (some (.ref f17))) (l17 : K.lookup f17 = some ⟨oc17, od17, .func (PySem.W.fnOf "_law_way_is" "_law_way_is" (defArgs s__law_way_is) (defBody s__law_way_is) (defScope s__law_way_is) .none kV17 dc17 pm17 an17 cd17 ct17), sl17⟩) (c17 : PySem.W.codeIn K cd17 "_law_way_is" = true) (k17 : PySem.W.keepIn K (.ref f17) = true)
    (a18 : PySem.W.nsIn K mainGlobals "_law_is_table" = some (some (.ref f18))) (l18 : K.lookup f18 = some ⟨oc18, od18, .func (PySem.W.fnOf "_law_is_table" "_law_is_table" (defArgs s__law_is_table) (defBody s__law_is_table) (defScope s__law_is_table) .none kV18 dc18 pm18 an18 cd18 ct18), sl18⟩) (c18 : PySem.W.codeIn K cd18 "_law_is_table" = true) (k18 : PySem.W.keepIn K (.ref f18) = true)
    (a19 : PySem.W.nsIn K mainGlobals "_law_right" = some (some (.ref f19))) (l19 : K.lookup f19 = some ⟨oc19, od19, .func (PySem.W.fnOf "_law_right" "_law_right" (defArgs s__law_right) (defBody s__law_right) (defScope s__law_right) .none kV19 dc19 pm19 an19 cd19 ct19), sl19⟩) (c19 : PySem.W.codeIn K cd19 "_law_right" = true) (k19 : PySem.W.keepIn K (.ref f19) = true)
    (a20 : PySem.W.nsIn K mainGlobals "law" = some (some (.ref f20))) (l20 : K.lookup f20 = some ⟨oc20, od20, .func (PySem.W.fnOf "law" "law" (defArgs s_law) (defBody s_law) (defScope s_law) .none kV20 dc20 pm20 an20 cd20 ct20), sl20⟩) (c20 : PySem.W.codeIn K cd20 "law" = true) (k20 : PySem.W.keepIn K (.ref f20) = true)
    (z_bool : PySem.W.nsIn K mainGlobals "bool" = some none)
    (z_dict : PySem.W.nsIn K mainGlobals "dict" = some none)
    (z_int : PySem.W.nsIn K mainGlobals "int" = some none)
    (z_isinstance : PySem.W.nsIn K mainGlobals "isinstance" = some none)
    (z_len : PySem.W.nsIn K mainGlobals "len" = some none)
    (z_list : PySem.W.nsIn K mainGlobals "list" = some none)
    (z_range : PySem.W.nsIn K mainGlobals "range" = some none)
    (z_reversed : PySem.W.nsIn K mainGlobals "reversed" = some none)
    (z_set : PySem.W.nsIn K mainGlobals "set" = some none)
    (z_sorted : PySem.W.nsIn K mainGlobals "sorted" = some none)
    (z_str : PySem.W.nsIn K mainGlobals "str" = some none)
    (z_tuple : PySem.W.nsIn K mainGlobals "tuple" = some none)
    : ∃ fd : FuncData, (∀ (s : Shared) (v : Value), BindsTo s fd ⟨[v], []⟩ [("script", v)]) ∧ ∀ base : Heap, K.In base → base.Ns mainGlobals mg → FnOk l.prog w K mg base CX0 5 fa fd ["script"] (sp_law06 K) := by
  have e := hfa.symm.trans (PySem.W.mg_of X G a20)
  cases e
  have T : Txt K mg := ⟨PySem.W.mg_none_of X G z_bool, PySem.W.mg_none_of X G z_dict, PySem.W.mg_none_of X G z_int, PySem.W.mg_none_of X G z_isinstance, PySem.W.mg_none_of X G z_len, PySem.W.mg_none_of X G z_list, PySem.W.mg_none_of X G z_range, PySem.W.mg_none_of X G z_reversed, PySem.W.mg_none_of X G z_set, PySem.W.mg_none_of X G z_sorted, PySem.W.mg_none_of X G z_str, PySem.W.mg_none_of X G z_tuple⟩
  have F0 := fun_mk (st := s_places_of) l0 c0 k0
  have b0 := F0.binds (ps := ["rows"]) fun _ _ _ _ _ _ us hl => match us, hl with | [_], _ => rfl
  have F1 := fun_mk (st := s_way_above) l1 c1 k1
  have b1 := F1.binds (ps := ["ways", "place"]) fun _ _ _ _ _ _ us hl => match us, hl with | [_, _], _ => rfl
  have F3 := fun_mk (st := s_best_of_both) l3 c3 k3
  have b3 := F3.binds (ps := ["ones", "others"]) fun _ _ _ _ _ _ us hl => match us, hl with | [_, _], _ => rfl
  have F6 := fun_mk (st := s__law_cell_at) l6 c6 k6
  have b6 := F6.binds (ps := ["script", "k"]) fun _ _ _ _ _ _ us hl => match us, hl with | [_, _], _ => rfl
  have F7 := fun_mk (st := s__law_whole) l7 c7 k7
  have b7 := F7.binds (ps := ["found"]) fun _ _ _ _ _ _ us hl => match us, hl with | [_], _ => rfl
  have F8 := fun_mk (st := s__law_bits_by) l8 c8 k8
  have b8 := F8.binds (ps := ["cell", "size"]) fun _ _ _ _ _ _ us hl => match us, hl with | [_, _], _ => rfl
  have F9 := fun_mk (st := s__law_way_by) l9 c9 k9
  have b9 := F9.binds (ps := ["cell", "few"]) fun _ _ _ _ _ _ us hl => match us, hl with | [_, _], _ => rfl
  have F12 := fun_mk (st := s__law_head_for) l12 c12 k12
  have b12 := F12.binds (ps := ["rows", "address"]) fun _ _ _ _ _ _ us hl => match us, hl with | [_, _], _ => rfl
  have F14 := fun_mk (st := s__law_text) l14 c14 k14
  have b14 := F14.binds (ps := ["number", "size"]) fun _ _ _ _ _ _ us hl => match us, hl with | [_, _], _ => rfl
  have F15 := fun_mk (st := s__law_many) l15 c15 k15
  have b15 := F15.binds (ps := ["size"]) fun _ _ _ _ _ _ us hl => match us, hl with | [_], _ => rfl
  have F2 := fun_mk (st := s_ways_at) l2 c2 k2
  have b2 := F2.binds (ps := ["rows", "places"]) fun _ _ _ _ _ _ us hl => match us, hl with | [_, _], _ => rfl
  have F10 := fun_mk (st := s__law_far_table) l10 c10 k10
  have b10 := F10.binds (ps := ["cell", "count", "size", "few"]) fun _ _ _ _ _ _ us hl => match us, hl with | [_, _, _, _], _ => rfl
  have F11 := fun_mk (st := s__law_table_by) l11 c11 k11
  have b11 := F11.binds (ps := ["script", "start", "count", "size", "few"]) fun _ _ _ _ _ _ us hl => match us, hl with | [_, _, _, _, _], _ => rfl
  have F13 := fun_mk (st := s__law_led) l13 c13 k13
  have b13 := F13.binds (ps := ["rows", "address"]) fun _ _ _ _ _ _ us hl => match us, hl with | [_, _], _ => rfl
  have F16 := fun_mk (st := s__law_cuts) l16 c16 k16
  have b16 := F16.binds (ps := ["rows", "size"]) fun _ _ _ _ _ _ us hl => match us, hl with | [_, _], _ => rfl
  have F17 := fun_mk (st := s__law_way_is) l17 c17 k17
  have b17 := F17.binds (ps := ["found", "due"]) fun _ _ _ _ _ _ us hl => match us, hl with | [_, _], _ => rfl
  have F18 := fun_mk (st := s__law_is_table) l18 c18 k18
  have b18 := F18.binds (ps := ["rows"]) fun _ _ _ _ _ _ us hl => match us, hl with | [_], _ => rfl
  have F4 := fun_mk (st := s_best_ways) l4 c4 k4
  have b4 := F4.binds (ps := ["rows"]) fun _ _ _ _ _ _ us hl => match us, hl with | [_], _ => rfl
  have F19 := fun_mk (st := s__law_right) l19 c19 k19
  have b19 := F19.binds (ps := ["found", "rows", "size"]) fun _ _ _ _ _ _ us hl => match us, hl with | [_, _, _], _ => rfl
  have F5 := fun_mk (st := s_thinned) l5 c5 k5
  have b5 := F5.binds (ps := ["rows"]) fun _ _ _ _ _ _ us hl => match us, hl with | [_], _ => rfl
  have F20 := fun_mk (st := s_law) l20 c20 k20
  refine ⟨PySem.W.fnOf "law" "law" (defArgs s_law) (defBody s_law) (defScope s_law) .none kV20 dc20 pm20 an20 cd20 ct20, fun s v => .of_eq rfl, fun base _ _ => ?_⟩
  have O_places_of : Own l.prog w K mg base 1 "places_of" ["rows"] (sp_places_of K) := .mk' (ok_places_of F0 T ) (PySem.W.mg_of X G a0) k0 b0
  have O_way_above : Own l.prog w K mg base 1 "way_above" ["ways", "place"] (sp_way_above K) := .mk' (ok_way_above F1 T ) (PySem.W.mg_of X G a1) k1 b1
  have O_best_of_both : Own l.prog w K mg base 1 "best_of_both" ["ones", "others"] (sp_best_of_both K) := .mk' (ok_best_of_both F3 T ) (PySem.W.mg_of X G a3) k3 b3
  have O__law_cell_at : Own l.prog w K mg base 1 "_law_cell_at" ["script", "k"] (sp_law_cell_at K) := .mk' (ok__law_cell_at F6 T ) (PySem.W.mg_of X G a6) k6 b6
  have O__law_whole : Own l.prog w K mg base 1 "_law_whole" ["found"] (sp_law_whole K) := .mk' (ok__law_whole F7 T ) (PySem.W.mg_of X G a7) k7 b7
  have O__law_bits_by : Own l.prog w K mg base 1 "_law_bits_by" ["cell", "size"] (sp_law_bits_by K) := .mk' (ok__law_bits_by F8 T ) (PySem.W.mg_of X G a8) k8 b8
  have O__law_way_by : Own l.prog w K mg base 1 "_law_way_by" ["cell", "few"] (sp_law_way_by K) := .mk' (ok__law_way_by F9 T ) (PySem.W.mg_of X G a9) k9 b9
  have O__law_head_for : Own l.prog w K mg base 1 "_law_head_for" ["rows", "address"] (sp_law_head_for K) := .mk' (ok__law_head_for F12 T ) (PySem.W.mg_of X G a12) k12 b12
  have O__law_text : Own l.prog w K mg base 1 "_law_text" ["number", "size"] (sp_law_text K) := .mk' (ok__law_text F14 T ) (PySem.W.mg_of X G a14) k14 b14
  have O__law_many : Own l.prog w K mg base 1 "_law_many" ["size"] (sp_law_many K) := .mk' (ok__law_many F15 T ) (PySem.W.mg_of X G a15) k15 b15
  have O_ways_at : Own l.prog w K mg base 2 "ways_at" ["rows", "places"] (sp_ways_at K) := .mk' (ok_ways_at F2 T O_way_above) (PySem.W.mg_of X G a2) k2 b2
  have O__law_far_table : Own l.prog w K mg base 2 "_law_far_table" ["cell", "count", "size", "few"] (sp_law_far_table K) := .mk' (ok__law_far_table F10 T O__law_bits_by O__law_way_by) (PySem.W.mg_of X G a10) k10 b10
  have O__law_table_by : Own l.prog w K mg base 2 "_law_table_by" ["script", "start", "count", "size", "few"] (sp_law_table_by K) := .mk' (ok__law_table_by F11 T O__law_bits_by O__law_cell_at O__law_way_by) (PySem.W.mg_of X G a11) k11 b11
  have O__law_led : Own l.prog w K mg base 2 "_law_led" ["rows", "address"] (sp_law_led K) := .mk' (ok__law_led F13 T O__law_head_for) (PySem.W.mg_of X G a13) k13 b13
  have O__law_cuts : Own l.prog w K mg base 2 "_law_cuts" ["rows", "size"] (sp_law_cuts K) := .mk' (ok__law_cuts F16 T O__law_many) (PySem.W.mg_of X G a16) k16 b16
  have O__law_way_is : Own l.prog w K mg base 2 "_law_way_is" ["found", "due"] (sp_law_way_is K) := .mk' (ok__law_way_is F17 T O__law_whole) (PySem.W.mg_of X G a17) k17 b17
  have O__law_is_table : Own l.prog w K mg base 2 "_law_is_table" ["rows"] (sp_law_is_table K) := .mk' (ok__law_is_table F18 T O__law_whole) (PySem.W.mg_of X G a18) k18 b18
  have O_best_ways : Own l.prog w K mg base 3 "best_ways" ["rows"] (sp_best_ways K) := .mk' (ok_best_ways F4 T O_best_of_both O_places_of O_ways_at) (PySem.W.mg_of X G a4) k4 b4
  have O__law_right : Own l.prog w K mg base 3 "_law_right" ["found", "rows", "size"] (sp_law_right06 K) := .mk' (ok__law_right F19 T O__law_cuts O__law_is_table O__law_led O__law_text O__law_way_is) (PySem.W.mg_of X G a19) k19 b19
  have O_thinned : Own l.prog w K mg base 4 "thinned" ["rows"] (sp_thinned K) := .mk' (ok_thinned F5 T O_best_ways O_way_above) (PySem.W.mg_of X G a5) k5 b5
  exact ok_law F20 T O__law_cell_at O__law_far_table O__law_right O__law_table_by O_thinned
theorem walk {l : PySem.W.OpenLaw} {q : Program} {loose : List Str} {XP : (Str → Option Value) → Heap → Prop} {YP : World → Heap → Prop} {d : DefRec} {K : Params → PySem.W.Frag} (hn : l.most = some 63) (hdf : d.params.defaults = [])
    (hY : ∀ (w : World) (h : Heap), YP w h → (K w.params).In h)
    (F : ∀ (w : World) (mg : Str → Option Value) (fa : Addr) (h : Heap), (K w.params).In h → h.Ns mainGlobals mg → mg d.name = some (.ref fa) →
      ∃ fd : FuncData, (∀ (s : Shared) (u : Value), BindsTo s fd ⟨[u], []⟩ [("script", u)]) ∧ ∀ base : Heap, (K w.params).In base → base.Ns mainGlobals mg → FnOk l.prog w (K w.params) mg base CX0 5 fa fd ["script"] (sp_law06 (K w.params))) :
    PySem.W.WalkO q loose XP YP l.row.toRowW d [] (fun f vs => PySem.call f vs) :=
  L2.walk_of (n := 63) (k := 5) (x := "script") (CX := fun _ => CX0) (sp := fun w => sp_law06 (K w.params)) hn (by decide) hdf ⟨rfl, by decide, by decide⟩ hY F (fun _ _ a ns hl _ hS => ⟨a, ns, rfl, hS, hl, fun _ => rfl⟩) fun _ _ _ _ _ z => z
end K06
open PySem PySem.W PyProof.Rows
set_option maxRecDepth 100000 in
set_option maxHeartbeats 0 in
theorem PySem.Challenge.cw_headroad_k06_whole_thinned_leads_alike_holds : PySem.Challenge.rw_headroad_k06_whole_thinned_leads_alike.Holds := by
  w_on; o_law; k_head; (case hw => w_witness2)
  k_fill
  refine K06.walk (l := PySem.Challenge.rw_headroad_k06_whole_thinned_leads_alike) rfl rfl (fun w h Y => PySem.W.kIn_of Y) ?F
  case F =>
    intro w mg fa h KX G hmg
    refine' K06.all_mk KX G hmg ?a0 ?l0 ?c0 ?k0 ?a1 ?l1 ?c1 ?k1 ?a2 ?l2 ?c2 ?k2 ?a3 ?l3 ?c3 ?k3 ?a4 ?l4 ?c4 ?k4 ?a5 ?l5 ?c5 ?k5 ?a6 ?l6 ?c6 ?k6 ?a7 ?l7 ?c7 ?k7 ?a8 ?l8 ?c8 ?k8 ?a9 ?l9 ?c9 ?k9 ?a10 ?l10 ?c10 ?k10 ?a11 ?l11 ?c11 ?k11 ?a12 ?l12 ?c12 ?k12 ?a13 ?l13 ?c13 ?k13 ?a14 ?l14 ?c14 ?k14 ?a15 ?l15 ?c15 ?k15 ?a16 ?l16 ?c16 ?k16 ?a17 ?l17 ?c17 ?k17 ?a18 ?l18 ?c18 ?k18 ?a19 ?l19 ?c19 ?k19 ?a20 ?l20 ?c20 ?k20 ?z_bool ?z_dict ?z_int ?z_isinstance ?z_len ?z_list ?z_range ?z_reversed ?z_set ?z_sorted ?z_str ?z_tuple
    (case a0 => first | k_is | kit_is)
    (case l0 => first | k_is | kit_is)
    (case c0 => first | k_is | kit_is)
    (case k0 => first | k_is | kit_is)
    (case a1 => first | k_is | kit_is)
    (case l1 => first | k_is | kit_is)
    (case c1 => first | k_is | kit_is)
    (case k1 => first | k_is | kit_is)
    (case a2 => first | k_is | kit_is)
    (case l2 => first | k_is | kit_is)
    (case c2 => first | k_is | kit_is)
    (case k2 => first | k_is | kit_is)
    (case a3 => first | k_is | kit_is)
    (case l3 => first | k_is | kit_is)
    (case c3 => first | k_is | kit_is)
    (case k3 => first | k_is | kit_is)
    (case a4 => first | k_is | kit_is)
    (case l4 => first | k_is | kit_is)
    (case c4 => first | k_is | kit_is)
    (case k4 => first | k_is | kit_is)
    (case a5 => first | k_is | kit_is)
    (case l5 => first | k_is | kit_is)
    (case c5 => first | k_is | kit_is)
    (case k5 => first | k_is | kit_is)
    (case a6 => first | k_is | kit_is)
    (case l6 => first | k_is | kit_is)
    (case c6 => first | k_is | kit_is)
    (case k6 => first | k_is | kit_is)
    (case a7 => first | k_is | kit_is)
    (case l7 => first | k_is | kit_is)
    (case c7 => first | k_is | kit_is)
    (case k7 => first | k_is | kit_is)
    (case a8 => first | k_is | kit_is)
    (case l8 => first | k_is | kit_is)
    (case c8 => first | k_is | kit_is)
    (case k8 => first | k_is | kit_is)
    (case a9 => first | k_is | kit_is)
    (case l9 => first | k_is | kit_is)
    (case c9 => first | k_is | kit_is)
    (case k9 => first | k_is | kit_is)
    (case a10 => first | k_is | kit_is)
    (case l10 => first | k_is | kit_is)
    (case c10 => first | k_is | kit_is)
    (case k10 => first | k_is | kit_is)
    (case a11 => first | k_is | kit_is)
    (case l11 => first | k_is | kit_is)
    (case c11 => first | k_is | kit_is)
    (case k11 => first | k_is | kit_is)
    (case a12 => first | k_is | kit_is)
    (case l12 => first | k_is | kit_is)
    (case c12 => first | k_is | kit_is)
    (case k12 => first | k_is | kit_is)
    (case a13 => first | k_is | kit_is)
    (case l13 => first | k_is | kit_is)
    (case c13 => first | k_is | kit_is)
    (case k13 => first | k_is | kit_is)
    (case a14 => first | k_is | kit_is)
    (case l14 => first | k_is | kit_is)
    (case c14 => first | k_is | kit_is)
    (case k14 => first | k_is | kit_is)
    (case a15 => first | k_is | kit_is)
    (case l15 => first | k_is | kit_is)
    (case c15 => first | k_is | kit_is)
    (case k15 => first | k_is | kit_is)
    (case a16 => first | k_is | kit_is)
    (case l16 => first | k_is | kit_is)
    (case c16 => first | k_is | kit_is)
    (case k16 => first | k_is | kit_is)
    (case a17 => first | k_is | kit_is)
    (case l17 => first | k_is | kit_is)
    (case c17 => first | k_is | kit_is)
    (case k17 => first | k_is | kit_is)
    (case a18 => first | k_is | kit_is)
    (case l18 => first | k_is | kit_is)
    (case c18 => first | k_is | kit_is)
    (case k18 => first | k_is | kit_is)
    (case a19 => first | k_is | kit_is)
    (case l19 => first | k_is | kit_is)
    (case c19 => first | k_is | kit_is)
    (case k19 => first | k_is | kit_is)
    (case a20 => first | k_is | kit_is)
    (case l20 => first | k_is | kit_is)
    (case c20 => first | k_is | kit_is)
    (case k20 => first | k_is | kit_is)
    (case z_bool => first | k_is | kit_is)
    (case z_dict => first | k_is | kit_is)
    (case z_int => first | k_is | kit_is)
    (case z_isinstance => first | k_is | kit_is)
    (case z_len => first | k_is | kit_is)
    (case z_list => first | k_is | kit_is)
    (case z_range => first | k_is | kit_is)
    (case z_reversed => first | k_is | kit_is)
    (case z_set => first | k_is | kit_is)
    (case z_sorted => first | k_is | kit_is)
    (case z_str => first | k_is | kit_is)
    (case z_tuple => first | k_is | kit_is)
#print axioms PySem.Challenge.cw_headroad_k06_whole_thinned_leads_alike_holds


end
