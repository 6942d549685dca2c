import PyProof.Rows.All
import Wide.All
import OpenK.AllK
import Wide.FinOn
import Lean
import PyProof.EqAt
import PyProof.EqKinds
import PyProof.TupleCall
import PyProof.WalksEnum
import PyProof.EnumMake
import PyProof.Rows.EnumRows
import PyProof.Rows.Range3
import PyProof.Rows.SetFrom
import PyProof.CollectStr
import PyProof.ZipIter
import PyProof.ExcAttrAll.ValueError
import PyProof.P3Eq
import PyProof.NeKinds
import PyProof.Draws
import PyProof.StrLawsIn
import PySem.Challenge.RW_chainhouse_k31_what_is_no_letter
set_option Elab.async false
set_option linter.all false
set_option maxRecDepth 100000
/-! THE HAND LAYER, for ints, bools, texts, own classes, DICTS (int and text keys), calls, loops. Paste it whole ahead of your own text; what your proof does not reach may be deleted. -/
namespace L2
open PySem PySem.Spec PyProof.Rows

/-- a key: an int or a str -/
abbrev Key := Sum Int Str
def keyIs : Key → Value → Bool
  | .inl k, v => Value.isInt k v
  | .inr x, v => Value.isStrOf x v
def keyH (w : World) : Key → Int
  | .inl k => hashInt k
  | .inr x => hashStr w x
theorem keyIs_shape : ∀ {k : Key} {v : Value}, keyIs k v = true → (∃ i t, k = Sum.inl i ∧ v = Value.int i t) ∨ (∃ x t, k = Sum.inr x ∧ v = Value.str x t)
  | .inl i, v, h => by
    obtain ⟨t, e⟩ := Value.isInt_shape (k := i) (v := v) h
    exact .inl ⟨i, t, rfl, e⟩
  | .inr x, v, h => by
    obtain ⟨t, e⟩ := Value.isStrOf_shape (x := x) (v := v) h
    exact .inr ⟨x, t, rfl, e⟩
theorem keyIs_int (i : Int) (t : Tok) : keyIs (.inl i) (.int i t) = true := by simp [keyIs, Value.isInt]
theorem keyIs_str (x : Str) (t : Tok) : keyIs (.inr x) (.str x t) = true := by simp [keyIs, Value.isStrOf]
theorem key_ll (a b : Int) : decide ((Sum.inl a : Key) = Sum.inl b) = (a == b) := by
  by_cases e : a = b
  · subst e; simp
  · have h : ¬ (Sum.inl a : Key) = Sum.inl b := fun q => e (Sum.inl.inj q)
    rw [decide_eq_false h]
    exact (beq_eq_false_iff_ne.mpr e).symm
theorem key_rr (a b : Str) : decide ((Sum.inr a : Key) = Sum.inr b) = decide (a = b) := by
  by_cases e : a = b
  · subst e; simp
  · have h : ¬ (Sum.inr a : Key) = Sum.inr b := fun q => e (Sum.inr.inj q)
    rw [decide_eq_false h, decide_eq_false e]
theorem key_lr (a : Int) (b : Str) : decide ((Sum.inl a : Key) = Sum.inr b) = false := decide_eq_false (fun q => nomatch q)
theorem key_rl (a : Str) (b : Int) : decide ((Sum.inr a : Key) = Sum.inl b) = false := decide_eq_false (fun q => nomatch q)

def mixKind (prog : Program) (w : World) : PySem.KeyKind prog w Key where
  is := keyIs
  hash := keyH w
  inj := fun v a b ha hb => by
    rcases keyIs_shape ha with ⟨i, t, rfl, rfl⟩ | ⟨x, t, rfl, rfl⟩
    · rcases keyIs_shape hb with ⟨j, u, rfl, e⟩ | ⟨y, u, rfl, e⟩
      · injection e with e1 _; rw [e1]
      · exact nomatch e
    · rcases keyIs_shape hb with ⟨j, u, rfl, e⟩ | ⟨y, u, rfl, e⟩
      · exact nomatch e
      · injection e with e1 _; rw [e1]
  byValue := fun k v h => by
    rcases keyIs_shape h with ⟨i, t, rfl, rfl⟩ | ⟨x, t, rfl, rfl⟩ <;> rfl
  pyHash := fun hv h => by
    rcases keyIs_shape hv with ⟨i, t, rfl, rfl⟩ | ⟨x, t, rfl, rfl⟩
    · exact wpAny_pyHash_int h
    · exact wpAny_pyHash_str h
  eqBool := fun hu hv h => by
    rcases keyIs_shape hu with ⟨i, t, rfl, rfl⟩ | ⟨x, t, rfl, rfl⟩
    · rcases keyIs_shape hv with ⟨j, u, rfl, rfl⟩ | ⟨y, u, rfl, rfl⟩
      · rw [key_ll] at h; exact wpAny_eqBool_int h
      · rw [key_lr] at h; exact SeqAt.EqAt.int_str i t y u _ _ _ _ h
    · rcases keyIs_shape hv with ⟨j, u, rfl, rfl⟩ | ⟨y, u, rfl, rfl⟩
      · rw [key_rl] at h; exact SeqAt.EqAt.str_int x t j u _ _ _ _ h
      · rw [key_rr] at h; exact wpAny_eqBool_str h
  «strs» := fun k x t v h => by
    rcases keyIs_shape h with ⟨i, u, rfl, e⟩ | ⟨y, u, rfl, e⟩
    · exact nomatch e
    · injection e with e1 _
      subst e1
      cases v <;> rfl

theorem mixKind_int (prog : Program) (w : World) (i : Int) (t : Tok) : (mixKind prog w).is (.inl i) (.int i t) = true := keyIs_int i t
theorem mixKind_str (prog : Program) (w : World) (x : Str) (t : Tok) : (mixKind prog w).is (.inr x) (.str x t) = true := keyIs_str x t
end L2

namespace L2
open PySem PySem.Spec PyProof.Rows

/-- a value, without the heap -/
inductive V where
  | non | bl (b : Bool) | int (i : Int) | str (x : Str) | byt (b : Array UInt8) | flt (b : UInt64) | ref (a : Addr) | ty (n : String)
  deriving DecidableEq

def RelV : V → Value → Prop
  | .non, u => u = Value.none
  | .bl b, u => u = Value.bool b
  | .int i, u => ∃ t, u = Value.int i t
  | .str x, u => ∃ t, u = Value.str x t
  | .byt b, u => ∃ t, u = Value.bytes b t
  | .flt b, u => ∃ t, u = Value.float b t
  | .ref a, u => u = Value.ref a
  | .ty n, u => u = Value.type n

abbrev Vals : List V → List Value → Prop := Paired RelV
theorem Vals.length {xs : List V} {us : List Value} (r : Vals xs us) : xs.length = us.length := Paired.length r
theorem Vals.get : ∀ {xs : List V} {us : List Value} {i : Nat} {x : V}, Vals xs us → xs[i]? = some x → ∃ u, us[i]? = some u ∧ RelV x u
  | _, _, _, _, .nil, e => by simp at e
  | _, _, 0, _, .cons r _, e => by simp at e; subst e; exact ⟨_, rfl, r⟩
  | _, _, i + 1, x, .cons _ t, e => by
    obtain ⟨u, h1, h2⟩ := Vals.get (i := i) (x := x) t (by simpa using e)
    exact ⟨u, by simpa using h1, h2⟩
theorem Vals.set {x : V} {u : Value} (r : RelV x u) : ∀ {xs : List V} {us : List Value} (i : Nat), Vals xs us → Vals (xs.set i x) (us.set i u)
  | _, _, _, .nil => .nil
  | _, _, 0, .cons _ t => .cons r t
  | _, _, i + 1, .cons q t => .cons q (Vals.set r i t)
theorem Vals.append : ∀ {xs ys : List V} {us ws : List Value}, Vals xs us → Vals ys ws → Vals (xs ++ ys) (us ++ ws)
  | _, _, _, _, .nil, s => s
  | _, _, _, _, .cons r t, s => .cons r (Vals.append t s)
theorem Vals.take : ∀ {xs : List V} {us : List Value} (n : Nat), Vals xs us → Vals (xs.take n) (us.take n)
  | _, _, 0, _ => .nil
  | _, _, _ + 1, .nil => .nil
  | _, _, n + 1, .cons r t => .cons r (Vals.take n t)
theorem Vals.drop : ∀ {xs : List V} {us : List Value} (n : Nat), Vals xs us → Vals (xs.drop n) (us.drop n)
  | _, _, 0, r => r
  | _, _, _ + 1, .nil => .nil
  | _, _, n + 1, .cons _ t => Vals.drop n t
def RelO : Option V → Option Value → Prop
  | some v, some u => RelV v u
  | none, none => True
  | _, _ => False
def KV {κ : Type} : List (κ × V) → List (κ × Value) → Prop := Paired fun (p : κ × V) (q : κ × Value) => p.1 = q.1 ∧ RelV p.2 q.2

/-- a key of a dict (00_mix): an int or a text -/
def kV : Key → V
  | .inl i => .int i
  | .inr x => .str x

/-- what stands at a tracked address -/
inductive HO where
  /-- a list -/
  | lst (xs : List V)
  /-- a tuple (never changes) -/
  | tup (xs : List V)
  /-- a dict whose keys are ints and texts; one whose keys are tuples of ints and texts (the empty one is both) -/
  | dK (kvs : List (Key × V)) | dT (kvs : List (List Key × V))
  /-- a set of ints: its members, its size -/
  | set (S : Int → Bool) (n : Nat)
  /-- an instance of the class at C, its dict at dx, its attributes -/
  | ins (C dx : Addr) (fs : List (Str × V))
  /-- the dict of the instance at x -/
  | own (x : Addr)
  /-- the dict of an exception -/
  | xd (fs : List (Str × V))
  /-- a bound method, f of x -/
  | met (f x : Addr)
  /-- a range object lo, lo + 1, .. below hi -/
  | rng (lo hi : Int)
  /-- a thing that is known to the object (the script; a dict while a loop walks it): read, never written while it is so -/
  | frz (o : Obj) (u : HO)
  /-- a code object's table -/
  | tbl (ps : Array Value)
  /-- any other thing, by what is true of its one object (a def of one's own: SetO a S n := HO.ext fun h => ..) -/
  | ext (φ : Heap → Prop)

abbrev Hp := Addr → Option HO
def upd (H : Hp) (a : Addr) (o : HO) : Hp := fun b => if b = a then some o else H b
theorem upd_same {H : Hp} {a : Addr} {o : HO} : upd H a o a = some o := by unfold upd; rw [if_pos rfl]
theorem upd_ne {H : Hp} {a b : Addr} {o : HO} (h : b ≠ a) : upd H a o b = H b := by unfold upd; rw [if_neg h]
theorem upd_upd {H : Hp} {a : Addr} {o u : HO} : upd (upd H a o) a u = upd H a u := by
  funext b; unfold upd; split <;> rfl
/-- two objects of different content stand apart -/
theorem ne_of {H : Hp} {a b : Addr} {o u : HO} (h : H a = some o) (h' : H b = some u) (d : o ≠ u) : a ≠ b := by
  intro e; subst e; rw [h] at h'; exact d (Option.some.inj h')
theorem ne_of_none {H : Hp} {a b : Addr} {o : HO} (h : H a = some o) (h' : H b = none) : a ≠ b := by
  intro e; subst e; rw [h] at h'; cases h'

section
variable (P : Program) (w : World)
def ObjOk (H : Hp) (h : Heap) (a : Addr) : HO → Prop
  | .lst xs => xs.length ≤ sizeLine ∧ ∃ (its : List Value) (n : Nat), Vals xs its ∧ h.get? a = some { cls := .type "list", data := .seq its.toArray n }
  | .tup xs => xs.length ≤ sizeLine ∧ ∃ its : List Value, Vals xs its ∧ IsTup h a its.toArray
  | .dK kvs => kvs.length ≤ sizeLine ∧ (a == sysModules) = false ∧ ∃ vs, KV kvs vs ∧ h.DictOf (mixKind P w) a vs
  | .dT kvs => kvs.length ≤ sizeLine ∧ (a == sysModules) = false ∧ ∃ xs : List (List Key × Addr × Value),
      Paired (fun (p : List Key × V) (q : List Key × Addr × Value) => p.1 = q.1 ∧ H q.2.1 = some (.tup (p.1.map kV)) ∧ RelV p.2 q.2.2) kvs xs ∧
      ∃ o es ep, h.get? a = some o ∧ o.ExactDict ∧ o.data = .dict es ep ∧ es.toList = xs.map (entryOfKey (tupleKind (mixKind P w))) ∧ (xs.map (·.1)).Nodup
  | .set S n => h.SetOf (intKind P w) a S n
  | .ins C dx fs => H dx = some (.own a) ∧ fs.length ≤ 1000 ∧ dx ≠ a ∧ h.get? a = some (PySem.W.instObj C dx) ∧
      ∃ mA, h.Ns1 dx mA ∧ (∀ f, RelO (fs.lookup f) (mA f)) ∧ PySem.Within mA (fs.map (·.1))
  | .own _ => ∃ o, h.get? a = some o
  | .xd fs => ∃ mA, h.Ns1 a mA ∧ ∀ f, RelO (fs.lookup f) (mA f)
  | .rng lo hi => ∃ t u v, h.get? a = some { cls := .type "range", data := .fields #[.int lo t, .int hi u, .int 1 v] }
  | .frz o u => h.get? a = some o ∧ ObjOk H h a u
  | .tbl ps => h.get? a = some { cls := .none, data := .fields ps }
  | .met f x => h.get? a = some (PySem.W.methodObj (.ref f) (.ref x))
  | .ext φ => φ h ∧ (∃ o, h.get? a = some o) ∧ ∀ h1 h2 : Heap, φ h1 → (∀ o, h1.get? a = some o → h2.get? a = some o) → φ h2
/-- the abstract heap is held -/
def HOk (H : Hp) (h : Heap) : Prop := ∀ a o, H a = some o → ObjOk P w H h a o
end

section
variable {P : Program} {w : World} {H H' : Hp} {h h' : Heap} {a : Addr} {o : HO}
theorem ObjOk.lt (x : ObjOk P w H h a o) : a < h.objs.size := by
  cases o with
  | lst xs => obtain ⟨_, _, _, _, e⟩ := x; exact Heap.lt_size e
  | tup xs => obtain ⟨_, _, _, p⟩ := x; exact p.lt
  | dK kvs => obtain ⟨_, _, _, _, o, _, _, e, _⟩ := x; exact Heap.lt_size e
  | dT kvs => obtain ⟨_, _, _, _, o, _, _, e, _⟩ := x; exact Heap.lt_size e
  | set S n => obtain ⟨o, _, _, _, e, _⟩ := x; exact Heap.lt_size e
  | ins C dx fs => obtain ⟨_, _, _, e, _⟩ := x; exact Heap.lt_size e
  | own y => obtain ⟨_, e⟩ := x; exact Heap.lt_size e
  | xd fs => obtain ⟨_, ⟨_, _, _, e, _⟩, _⟩ := x; exact Heap.lt_size e
  | rng lo hi => obtain ⟨_, _, _, e⟩ := x; exact Heap.lt_size e
  | frz ob u => obtain ⟨e, _⟩ := x; exact Heap.lt_size e
  | tbl ps => exact Heap.lt_size (show h.get? a = some _ from x)
  | met f y => exact Heap.lt_size (show h.get? a = some _ from x)
  | ext φ => obtain ⟨_, ⟨_, e⟩, _⟩ := x; exact Heap.lt_size e
theorem Paired.mapP {α β : Type} {F G : α → β → Prop} : ∀ {l₁ : List α} {l₂ : List β}, Paired F l₁ l₂ → (∀ a b, F a b → G a b) → Paired G l₁ l₂
  | _, _, .nil, _ => .nil
  | _, _, .cons r t, f => .cons (f _ _ r) (Paired.mapP t f)
/-- what an object's description leans on: its own object, its own dict, the tuples -/
theorem ObjOk.stay (x : ObjOk P w H h a o) (k : ∀ b u, (b = a ∨ H b = some (.own a)) → h.get? b = some u → h'.get? b = some u)
    (ho : ∀ b, H b = some (.own a) → H' b = some (.own a)) (ht : ∀ b xs, H b = some (.tup xs) → H' b = some (.tup xs)) : ObjOk P w H' h' a o := by
  induction o with
  | lst xs => obtain ⟨z, its, n, r, e⟩ := x; exact ⟨z, its, n, r, k _ _ (.inl rfl) e⟩
  | tup xs => obtain ⟨z, its, r, ob, e, c⟩ := x; exact ⟨z, its, r, ob, k _ _ (.inl rfl) e, c⟩
  | dK kvs => obtain ⟨z, y, vs, r, ob, es, ep, e, c⟩ := x; exact ⟨z, y, vs, r, ob, es, ep, k _ _ (.inl rfl) e, c⟩
  | dT kvs =>
    obtain ⟨z, y, xs, r, ob, es, ep, e, c⟩ := x
    exact ⟨z, y, xs, Paired.mapP r fun p q z => ⟨z.1, ht _ _ z.2.1, z.2.2⟩, ob, es, ep, k _ _ (.inl rfl) e, c⟩
  | set S n => obtain ⟨ob, es, ep, t, e, c⟩ := x; exact ⟨ob, es, ep, t, k _ _ (.inl rfl) e, c⟩
  | ins C dx fs =>
    obtain ⟨d, z, ne, e, mA, ⟨od, es, ep, e2, c⟩, r⟩ := x
    exact ⟨ho _ d, z, ne, k _ _ (.inl rfl) e, mA, ⟨od, es, ep, k _ _ (.inr d) e2, c⟩, r⟩
  | own y => obtain ⟨ob, e⟩ := x; exact ⟨ob, k _ _ (.inl rfl) e⟩
  | xd fs => obtain ⟨mA, ⟨od, es, ep, e, c⟩, r⟩ := x; exact ⟨mA, ⟨od, es, ep, k _ _ (.inl rfl) e, c⟩, r⟩
  | rng lo hi => obtain ⟨t, u, v, e⟩ := x; exact ⟨t, u, v, k _ _ (.inl rfl) e⟩
  | frz ob u ih => obtain ⟨e, q⟩ := x; exact ⟨k _ _ (.inl rfl) e, ih q⟩
  | tbl ps =>
    have e : h.get? a = some { cls := .none, data := .fields ps } := x
    show h'.get? a = some { cls := .none, data := .fields ps }
    exact k a _ (.inl rfl) e
  | met f y =>
    have e : h.get? a = some (PySem.W.methodObj (.ref f) (.ref y)) := x
    show h'.get? a = some (PySem.W.methodObj (.ref f) (.ref y))
    exact k a _ (.inl rfl) e
  | ext φ => obtain ⟨p, ⟨o, e⟩, st⟩ := x; exact ⟨st _ _ p fun o q => k _ _ (.inl rfl) q, ⟨o, k _ _ (.inl rfl) e⟩, st⟩
theorem HOk.lt (x : HOk P w H h) (e : H a = some o) : a < h.objs.size := (x a o e).lt
theorem HOk.fresh (x : HOk P w H h) (e : h.objs.size ≤ a) : H a = none := by
  cases q : H a with
  | none => rfl
  | some u => exact absurd (Nat.lt_of_lt_of_le (x.lt q) e) (Nat.lt_irrefl _)
/-- every object of the heap is kept -/
theorem HOk.kept (x : HOk P w H h) (k : ∀ b u, h.get? b = some u → h'.get? b = some u) : HOk P w H h' := fun a o e =>
  (x a o e).stay (fun b u _ q => k b u q) (fun _ q => q) fun _ _ q => q
/-- a new object is laid and tracked -/
theorem HOk.laid (x : HOk P w H h) (k : ∀ b u, h.get? b = some u → h'.get? b = some u) (hp : h.objs.size ≤ a) (new : ObjOk P w (upd H a o) h' a o) : HOk P w (upd H a o) h' := fun b u e => by
  have hn := x.fresh hp
  by_cases hb : b = a
  · subst hb; rw [upd_same] at e; cases e; exact new
  · rw [upd_ne hb] at e
    exact (x b u e).stay (fun c v _ q => k c v q) (fun c q => by rw [upd_ne (ne_of_none q hn)]; exact q) fun c xs q => by rw [upd_ne (ne_of_none q hn)]; exact q
end

/-- what may be read as u: it is u, or a known u -/
def Rd (H : Hp) (a : Addr) (u : HO) : Prop := H a = some u ∨ ∃ o, H a = some (.frz o u)
theorem Rd.of {H : Hp} {a : Addr} {u : HO} (h : H a = some u) : Rd H a u := .inl h
theorem Rd.ok {P : Program} {w : World} {H : Hp} {h : Heap} {a : Addr} {u : HO} (r : Rd H a u) (x : HOk P w H h) : ObjOk P w H h a u := by
  rcases r with r | ⟨o, r⟩
  · exact x a u r
  · obtain ⟨_, q⟩ := x a _ r
    exact q
/-- what may be written -/
def Mut : Option HO → Prop
  | some (.lst _) => True
  | some (.dK _) => True
  | some (.dT _) => True
  | some (.set _ _) => True
  | some (.ins _ _ _) => True
  | some (.ext _) => True
  | _ => False
section
variable {P : Program} {w : World} {H : Hp} {h h' : Heap} {x e : Addr} {o' : HO}
/-- the object at e is changed: x itself, or the dict of the instance x -/
theorem HOk.write (ok : HOk P w H h) (mu : Mut (H x)) (he : e = x ∨ H e = some (.own x)) (k : ∀ b u, b ≠ e → h.get? b = some u → h'.get? b = some u) (heo : ∃ u, h'.get? e = some u)
    (new : ObjOk P w (upd H x o') h' x o') : HOk P w (upd H x o') h' := fun b u q => by
  have nown : ∀ c y, H c = some (.own y) → c ≠ x := fun c y r z => by subst z; rw [r] at mu; exact mu
  have ntup : ∀ c xs, H c = some (.tup xs) → c ≠ x := fun c xs r z => by subst z; rw [r] at mu; exact mu
  by_cases hb : b = x
  · subst hb; rw [upd_same] at q; cases q; exact new
  · rw [upd_ne hb] at q
    by_cases hbe : b = e
    · have q' : H b = some (.own x) := by
        rcases he with z | z
        · exact absurd (hbe.trans z) hb
        · rw [hbe]; exact z
      rw [q] at q'; cases q'
      obtain ⟨v, hv⟩ := heo
      exact ⟨v, by rw [hbe]; exact hv⟩
    · refine (ok b u q).stay (fun c v hc r => k c v ?_ r) (fun c r => by rw [upd_ne (nown c b r)]; exact r) fun c xs r => by rw [upd_ne (ntup c xs r)]; exact r
      rcases hc with rfl | hc
      · exact hbe
      · rintro rfl
        rcases he with z | z
        · exact nown c b hc z
        · rw [hc] at z; cases z; exact hb rfl
end

/-! ### kept unless tracked; of the frames at fs (the callers') the slots may change (an exception that passes writes there); of the records at ex (iterators) nothing is said -/
structure Un (fs ex : List Addr) (H H' : Hp) (h h' : Heap) : Prop where
  keep : ∀ b o, h.get? b = some o → H b = none → b ∉ fs → b ∉ ex → h'.get? b = some o
  slot : ∀ b o, h.get? b = some o → H b = none → b ∈ fs → b ∉ ex → ∃ sl, h'.get? b = some { o with slots := sl }
  free : ∀ b o, h.get? b = some o → H b = none → b ∉ ex → H' b = none
  there : ∀ b o, h.get? b = some o → b ∉ ex → ∃ o', h'.get? b = some o'
  tups : ∀ b xs, H b = some (.tup xs) → H' b = some (.tup xs)
  frzs : ∀ b o u, H b = some (.frz o u) → H' b = some (.frz o u)
  tbls : ∀ b ps, H b = some (.tbl ps) → ∃ more, H' b = some (.tbl (ps ++ more))
section
variable {fs fs' ex ex' : List Addr} {H H1 H2 : Hp} {h h1 h2 h' : Heap} {a x e : Addr} {o : HO}
theorem Un.any (u : Un fs ex H H1 h h1) {b : Addr} {ob : Obj} (q : h.get? b = some ob) (n : H b = none) (hx : b ∉ ex) : ∃ sl, h1.get? b = some { ob with slots := sl } := by
  by_cases hb : b ∈ fs
  · exact u.slot b ob q n hb hx
  · exact ⟨ob.slots, u.keep b ob q n hb hx⟩
theorem Un.trans (a : Un fs ex H H1 h h1) (b : Un fs ex H1 H2 h1 h2) : Un fs ex H H2 h h2 where
  keep := fun c ob q n hc hx => b.keep c ob (a.keep c ob q n hc hx) (a.free c ob q n hx) hc hx
  slot := fun c ob q n hc hx => by
    obtain ⟨sl, e1⟩ := a.slot c ob q n hc hx
    obtain ⟨sl', e2⟩ := b.slot c _ e1 (a.free c ob q n hx) hc hx
    exact ⟨sl', e2⟩
  free := fun c ob q n hx => by
    obtain ⟨o', e1⟩ := a.there c ob q hx
    exact b.free c o' e1 (a.free c ob q n hx) hx
  there := fun c ob q hx => by
    obtain ⟨o', e1⟩ := a.there c ob q hx
    exact b.there c o' e1 hx
  tups := fun c xs q => b.tups c xs (a.tups c xs q)
  frzs := fun c ob xs q => b.frzs c ob xs (a.frzs c ob xs q)
  tbls := fun c ps q => by
    obtain ⟨m1, e1⟩ := a.tbls c ps q
    obtain ⟨m2, e2⟩ := b.tbls c _ e1
    exact ⟨m1 ++ m2, by rw [e2, Array.append_assoc]⟩
theorem Un.kept (k : ∀ b u, h.get? b = some u → h'.get? b = some u) : Un fs ex H H h h' :=
  ⟨fun b ob q _ _ _ => k b ob q, fun b ob q _ _ _ => ⟨ob.slots, k b ob q⟩, fun _ _ _ n _ => n, fun b ob q _ => ⟨ob, k b ob q⟩, fun _ _ q => q, fun _ _ _ q => q, fun _ ps q => ⟨#[], by rw [q]; simp⟩⟩
theorem Un.refl : Un fs ex H H h h := Un.kept fun _ _ q => q
theorem Un.laid (k : ∀ b u, h.get? b = some u → h'.get? b = some u) (hp : h.objs.size ≤ a) (hn : H a = none) : Un fs ex H (upd H a o) h h' where
  keep := fun b u q _ _ _ => k b u q
  slot := fun b u q _ _ _ => ⟨u.slots, k b u q⟩
  free := fun b u q n _ => by rw [upd_ne (Nat.ne_of_lt (Nat.lt_of_lt_of_le (Heap.lt_size q) hp))]; exact n
  there := fun b u q _ => ⟨u, k b u q⟩
  tups := fun b xs q => by rw [upd_ne (ne_of_none q hn)]; exact q
  frzs := fun b u xs q => by rw [upd_ne (ne_of_none q hn)]; exact q
  tbls := fun b ps q => ⟨#[], by rw [upd_ne (ne_of_none q hn), q]; simp⟩
theorem Un.write (mu : Mut (H x)) (he : e = x ∨ H e = some (.own x)) (k : ∀ b u, b ≠ e → h.get? b = some u → h'.get? b = some u) (heo : ∃ u, h'.get? e = some u) : Un fs ex H (upd H x o) h h' := by
  have hx : ∀ b, H b = none → b ≠ x := fun b n z => by subst z; rw [n] at mu; exact mu
  have hb : ∀ b, H b = none → b ≠ e := fun b n z => by
    subst z
    rcases he with r | r
    · exact hx b n r
    · rw [n] at r; cases r
  have hm : ∀ b u, H b = some u → ¬ Mut (some u) → b ≠ x := fun b u q nm z => by subst z; rw [q] at mu; exact nm mu
  refine ⟨fun b u q n _ _ => k b u (hb b n) q, fun b u q n _ _ => ⟨u.slots, k b u (hb b n) q⟩, fun b u q n _ => by rw [upd_ne (hx b n)]; exact n, fun b u q _ => ?_,
    fun b xs q => by rw [upd_ne (hm b _ q fun z => z)]; exact q, fun b u xs q => by rw [upd_ne (hm b _ q fun z => z)]; exact q, fun b ps q => ⟨#[], by rw [upd_ne (hm b _ q fun z => z), q]; simp⟩⟩
  by_cases hbe : b = e
  · subst hbe; exact heo
  · exact ⟨u, k b u hbe q⟩
theorem Un.mono (u : Un fs ex H H1 h h1) (hs : ∀ b ∈ fs, b ∈ fs') (hx : ∀ b ∈ ex, b ∈ ex') : Un fs' ex' H H1 h h1 :=
  ⟨fun b ob q n hb he => u.keep b ob q n (fun z => hb (hs b z)) fun z => he (hx b z), fun _ _ q n _ he => u.any q n fun z => he (hx _ z), fun b ob q n he => u.free b ob q n fun z => he (hx b z), fun b ob q he => u.there b ob q fun z => he (hx b z), u.tups, u.frzs, u.tbls⟩
end

/-! ### the heap without what is tracked -/
def trk (h : Heap) (H : Hp) : List Addr := (List.range h.objs.size).filter fun a => (H a).isSome
def hidT (h : Heap) (H : Hp) : Heap := PySem.W.hideAll h (trk h H)
theorem hidT_size (h : Heap) (H : Hp) : (hidT h H).objs.size = h.objs.size := PySem.W.hideAll_size _ _
theorem hidT_get {h : Heap} {H : Hp} {b : Addr} {o : Obj} (e : h.get? b = some o) (n : H b = none) : (hidT h H).get? b = some o :=
  PySem.W.hideAll_get _ e fun hm => by
    have q : (H b).isSome = true := (List.mem_filter.mp hm).2
    rw [n] at q; simp at q
theorem of_hidT {h : Heap} {H : Hp} {b : Addr} {o : Obj} (e : (hidT h H).get? b = some o) : h.get? b = some o ∧ H b = none := by
  have e' : h.get? b = some o := PySem.W.of_hideAll (trk h H) e
  refine ⟨e', ?_⟩
  cases q : H b with
  | none => rfl
  | some x =>
    have hm : b ∈ trk h H := List.mem_filter.mpr ⟨List.mem_range.mpr (Heap.lt_size e'), by simp [q]⟩
    have z : (hidT h H).get? b = none := PySem.W.hideAll_none (trk h H) hm
    rw [z] at e; cases e

/-! ### OpenK's ledger, filled with every new object but one -/
def allNews (g h : Heap) (L : Addr) : List (Addr × Obj) := (List.range h.objs.size).filterMap fun a => if a = L ∨ (g.get? a).isSome = true then none else (h.get? a).map fun o => (a, o)
def rest (g h : Heap) (L d : Addr) : List (Addr × Obj) := (allNews g h L).filter fun p => decide (p.1 ≠ d)
end L2

namespace L2
open PySem PySem.Spec PyProof.Rows

/-- the module's facts, over the base: the heap at the law's entry without what is tracked there -/
structure Mod (K : PySem.W.Frag) (mg : Str → Option Value) (base : Heap) : Prop where
  kin : K.In base
  glob : base.Ns mainGlobals mg
  blt : ∃ mb, base.Ns builtinsNs mb ∧ ∀ x : Str, x ≠ "__name__" → mb x = bootBuiltins x
  nolimit : base.NoLimit

/-- the context: a def's body (or a comprehension's block) running. base: fixed through the whole law; s₀, H₀: the entry; outer: the frames whose slots others may change (a def's callers); stack: all frames that run;
   ex: iterators that were made ahead of the entry and are walked here (a comprehension's); fn: the names whose cells were made at the entry (a def: all; a comprehension's block: its own); calm: not within an except suite; pn: pins that every state bears; xe: what is wanted of an exception that leaves the code -/
structure Cx where
  prog : Program
  w : World
  K : PySem.W.Frag
  mg : Str → Option Value
  base : Heap
  A : Around
  N : List Str
  s₀ : Shared
  H₀ : Hp
  env : Env
  outer : List Env
  stack : List Env
  ex : List Addr
  fn : Str → Bool
  calm : Bool
  pn : List (Addr × Obj)
  xe : Value → Shared → Prop
/-- the callers' frames -/
def frs (l : List Env) : List Addr := l.filterMap (·.frame)
abbrev Cx.fs (X : Cx) : List Addr := frs X.outer

def Vis (sc : Scope) (x : Str) : Prop := sc.names.lookup x = some .local ∨ sc.names.lookup x = some .cell ∨ sc.names.lookup x = some .free
def Loc (sc : Scope) (x : Str) : Prop := sc.names.lookup x = some .local ∨ sc.names.lookup x = some .cell
def Look (env : Env) (h : Heap) (m : Str → Option Value) (x : Str) (u : Value) : Prop :=
  (env.kindOf x = some .local ∧ m x = some u) ∨ ((env.kindOf x = some .cell ∨ env.kindOf x = some .free) ∧ ∃ c, env.cells.lookup x = some c ∧ h.IsCell c (some u))

structure Cx.Ok (X : Cx) : Prop where
  mod : Mod X.K X.mg X.base
  kind : X.env.scope.kind = .function
  glob : X.env.globals = mainGlobals
  blt : X.env.builtins = builtinsNs
  above : X.s₀.heap.objs.size ≤ X.env.locals
  inj : ∀ x y c, X.env.cells.lookup x = some c → X.env.cells.lookup y = some c → x = y
  has : ∀ x, (X.env.kindOf x = some .cell ∨ X.env.kindOf x = some .free) → ∃ c, X.env.cells.lookup x = some c
  cab : ∀ x c, X.fn x = true → X.env.cells.lookup x = some c → X.s₀.heap.objs.size ≤ c
  hd : X.calm = true → X.A.handled = none
  frames : X.A.frames = some X.stack
  stk : X.stack = X.outer ∨ (X.stack = X.env :: X.outer ∧ X.env.frame = some X.env.locals)
  exf : ∀ b ∈ X.ex, b ≠ X.env.locals ∧ ∀ x c, X.env.cells.lookup x = some c → c ≠ b
  bs : ∀ b o, X.base.get? b = some o → X.s₀.heap.get? b = some o ∧ X.H₀ b = none
  bsz : X.base.objs.size ≤ X.s₀.heap.objs.size
  noex : ∀ b o, X.base.get? b = some o → b ∉ X.ex
  exfs : ∀ b ∈ X.ex, b ∉ X.fs
  funs : X.s₀.heap.FunFrames X.base X.outer
  frf : ∀ b ∈ X.fs, X.H₀ b = none

structure Inv (X : Cx) (pins : List (Addr × Obj)) (σ : List (Option V)) (H : Hp) (s : Shared) : Prop where
  ok : X.Ok
  os : s.os = X.s₀.os
  bare : AllBare s.gens
  base : Un X.fs X.ex X.H₀ H X.s₀.heap s.heap
  loc : ∃ m, s.heap.Ns X.env.locals m ∧ ∀ (i : Nat) (x : Str) (v : V), X.N[i]? = some x → σ[i]? = some (some v) → Vis X.env.scope x → ∃ u, RelV v u ∧ Look X.env s.heap m x u
  cell : ∀ x c, X.env.cells.lookup x = some c → ∃ v, s.heap.IsCell c v
  free : H X.env.locals = none
  freeC : ∀ x c, X.env.cells.lookup x = some c → H c = none
  pin : ∀ p ∈ X.pn ++ pins, s.heap.get? p.1 = some p.2 ∧ H p.1 = none ∧ p.1 ≠ X.env.locals ∧ p.1 ∉ X.fs ∧ ∀ v, p.2.data ≠ .cell v
  hok : HOk X.prog X.w H s.heap
  len : σ.length = X.N.length

section
variable {X : Cx} {pins : List (Addr × Obj)} {σ : List (Option V)} {H H' : Hp} {s : Shared} {h' : Heap}

theorem Cx.Ok.nofr (ok : X.Ok) {b : Addr} {o : Obj} (e : X.base.get? b = some o) : b ∉ X.fs := fun hb => by
  have := (ok.funs.mem hb).1
  rw [e] at this; cases this
theorem Inv.bs (I : Inv X pins σ H s) : ∀ b o, X.base.get? b = some o → s.heap.get? b = some o ∧ H b = none := fun b o e =>
  ⟨I.base.keep b o (I.ok.bs b o e).1 (I.ok.bs b o e).2 (I.ok.nofr e) (I.ok.noex b o e), I.base.free b o (I.ok.bs b o e).1 (I.ok.bs b o e).2 (I.ok.noex b o e)⟩
theorem Inv.bk (I : Inv X pins σ H s) : ∀ b o, X.base.get? b = some o → s.heap.get? b = some o := fun b o e => (I.bs b o e).1
theorem Inv.mod (I : Inv X pins σ H s) : Mod X.K X.mg X.base := I.ok.mod
theorem Inv.kIn (I : Inv X pins σ H s) : X.K.In s.heap := I.ok.mod.kin.keeps I.bk
theorem Inv.nolimit (I : Inv X pins σ H s) : s.heap.NoLimit := I.ok.mod.nolimit.keeps I.bk
/-- the frame over the base: for OpenK's rules (K.In X.base is I.mod.kin) -/
theorem Inv.fr (I : Inv X pins σ H s) : ∃ m, Fr X.base X.env.locals s.heap m :=
  let ⟨m, hn, _⟩ := I.loc
  ⟨m, hn, I.bk, Nat.le_trans I.ok.bsz I.ok.above⟩
theorem Inv.lt (I : Inv X pins σ H s) : X.env.locals < s.heap.objs.size := let ⟨_, hn, _⟩ := I.loc; hn.lt
theorem Inv.sz (I : Inv X pins σ H s) : X.s₀.heap.objs.size ≤ s.heap.objs.size := Nat.le_trans I.ok.above (Nat.le_of_lt I.lt)
theorem Inv.nofs (I : Inv X pins σ H s) {a : Addr} (h : s.heap.objs.size ≤ a) : a ∉ X.fs := fun hb => by
  obtain ⟨_, o, ho, _⟩ := I.ok.funs.mem hb
  exact absurd (Nat.lt_of_lt_of_le (Heap.lt_size ho) (Nat.le_trans I.sz h)) (Nat.lt_irrefl _)
theorem Inv.cne (I : Inv X pins σ H s) : ∀ x c, X.env.cells.lookup x = some c → c ≠ X.env.locals := fun x c e z => by
  obtain ⟨v, o, ho, hd⟩ := I.cell x c e
  obtain ⟨m, ⟨o', es, ep, ho', hd', _⟩, _⟩ := I.loc
  rw [z, ho'] at ho; cases ho; rw [hd'] at hd; cases hd
theorem Inv.funs (I : Inv X pins σ H s) : s.heap.FunFrames X.base X.outer := by
  have all : ∀ (l : List Env), (∀ b ∈ frs l, b ∈ X.fs) → X.s₀.heap.FunFrames X.base l → s.heap.FunFrames X.base l := by
    intro l
    induction l with
    | nil => intro _ _; trivial
    | cons env r ih =>
      intro hs hl
      obtain ⟨hk, ⟨L, o, hf, hn, ho, hd⟩, hr⟩ := hl
      have hL : L ∈ X.fs := hs L (by unfold frs; rw [List.filterMap_cons, hf]; exact List.mem_cons_self)
      obtain ⟨sl, e⟩ := I.base.slot L o ho (I.ok.frf L hL) hL fun z => I.ok.exfs L z hL
      exact ⟨hk, ⟨L, _, hf, hn, e, hd⟩, ih (fun b hb => hs b (by unfold frs; rw [List.filterMap_cons, hf]; exact List.mem_cons_of_mem _ hb)) hr⟩
  exact all X.outer (fun _ hb => hb) I.ok.funs

/-- the frames that run, for a call -/
theorem Inv.stack (I : Inv X pins σ H s) : s.heap.FunFrames X.base X.stack := by
  rcases I.ok.stk with e | ⟨e, hf⟩
  · rw [e]; exact I.funs
  · rw [e]
    obtain ⟨m, hn, _⟩ := I.loc
    refine .cons (by rw [I.ok.kind]; decide) hf hn ?_ I.funs
    exact Heap.get?_none_of_le (Nat.le_trans I.ok.bsz I.ok.above)
theorem Inv.stkSub (I : Inv X pins σ H s) : ∀ b ∈ frs X.stack, b ∈ X.env.locals :: X.fs := fun b hb => by
  rcases I.ok.stk with e | ⟨e, hf⟩
  · rw [e] at hb; exact List.mem_cons_of_mem _ hb
  · rw [e] at hb
    unfold frs at hb
    rw [List.filterMap_cons, hf] at hb
    exact hb
theorem Inv.stkFree (I : Inv X pins σ H s) : ∀ b ∈ frs X.stack, H b = none := fun b hb => by
  rcases List.mem_cons.mp (I.stkSub b hb) with e | hb
  · rw [e]; exact I.free
  · obtain ⟨_, o, ho, _⟩ := I.ok.funs.mem hb
    exact I.base.free b o ho (I.ok.frf b hb) fun z => I.ok.exfs b z hb

/-- THE STEP: the untracked objects but the frame and the records at ch are kept (the callers' frames up to slots), the frame's map is kept, the new abstract heap is held -/
theorem Inv.step {g' : Array GenState} {t' : Nat} {d' : Drawn} {ch : List Addr} (I : Inv X pins σ H s)
    (hch : ∀ b ∈ ch, (b ∈ X.ex ∨ X.s₀.heap.objs.size ≤ b) ∧ b ≠ X.env.locals ∧ (∀ x c, X.env.cells.lookup x = some c → c ≠ b) ∧ ∀ p ∈ X.pn ++ pins, p.1 ≠ b)
    (keep : ∀ b o, b ≠ X.env.locals → b ∉ X.fs → b ∉ ch → s.heap.get? b = some o → H b = none → h'.get? b = some o)
    (slot : ∀ b o, b ≠ X.env.locals → b ∈ X.fs → b ∉ ch → s.heap.get? b = some o → H b = none → ∃ sl, h'.get? b = some { o with slots := sl }) (free : ∀ b o, b ∉ ch → s.heap.get? b = some o → H b = none → H' b = none)
    (there : ∀ b o, b ∉ ch → s.heap.get? b = some o → ∃ o', h'.get? b = some o')
    (tups : ∀ b xs, H b = some (.tup xs) → H' b = some (.tup xs)) (frzs : ∀ b o u, H b = some (.frz o u) → H' b = some (.frz o u)) (tbls : ∀ b ps, H b = some (.tbl ps) → ∃ more, H' b = some (.tbl (ps ++ more)))
    (ns : ∀ m, s.heap.Ns X.env.locals m → h'.Ns X.env.locals m) (hok : HOk X.prog X.w H' h') (hg : AllBare g') :
    Inv X pins σ H' { s with heap := h', gens := g', drawn := d', toks := t' } := by
  have neL : ∀ b o, X.s₀.heap.get? b = some o → b ≠ X.env.locals := fun b o e => Nat.ne_of_lt (Nat.lt_of_lt_of_le (Heap.lt_size e) I.ok.above)
  have neC : ∀ b o, X.s₀.heap.get? b = some o → b ∉ X.ex → b ∉ ch := fun b o e hx hb => by
    rcases (hch b hb).1 with z | z
    · exact hx z
    · exact absurd (Nat.lt_of_lt_of_le (Heap.lt_size e) z) (Nat.lt_irrefl _)
  have cellK : ∀ x c, X.env.cells.lookup x = some c → ∀ v, s.heap.IsCell c v → h'.IsCell c v := fun x c e v ⟨o, ho, hd⟩ => by
    have nch : c ∉ ch := fun z => (hch c z).2.2.1 x c e rfl
    by_cases hc : c ∈ X.fs
    · obtain ⟨sl, q⟩ := slot c o (I.cne x c e) hc nch ho (I.freeC x c e)
      exact ⟨_, q, hd⟩
    · exact ⟨o, keep c o (I.cne x c e) hc nch ho (I.freeC x c e), hd⟩
  refine ⟨I.ok, I.os, hg, ⟨fun b o e n hb hx => ?_, fun b o e n hb hx => ?_, fun b o e n hx => ?_, fun b o e hx => ?_, fun b xs e => tups b xs (I.base.tups b xs e), fun b o xs e => frzs b o xs (I.base.frzs b o xs e), fun b ps e => ?_⟩, ?_, fun x c e => ?_, ?_, fun x c e => ?_, fun p hp => ?_, hok, I.len⟩
  · exact keep b o (neL b o e) hb (neC b o e hx) (I.base.keep b o e n hb hx) (I.base.free b o e n hx)
  · obtain ⟨sl, e1⟩ := I.base.slot b o e n hb hx
    obtain ⟨sl', e2⟩ := slot b _ (neL b o e) hb (neC b o e hx) e1 (I.base.free b o e n hx)
    exact ⟨sl', e2⟩
  · obtain ⟨o', e1⟩ := I.base.there b o e hx
    exact free b o' (neC b o e hx) e1 (I.base.free b o e n hx)
  · obtain ⟨o', e1⟩ := I.base.there b o e hx
    exact there b o' (neC b o e hx) e1
  · obtain ⟨m1, e1⟩ := I.base.tbls b ps e
    obtain ⟨m2, e2⟩ := tbls b _ e1
    exact ⟨m1 ++ m2, by rw [e2, Array.append_assoc]⟩
  · obtain ⟨m, hn, hl⟩ := I.loc
    refine ⟨m, ns m hn, fun i x v e1 e2 e3 => ?_⟩
    obtain ⟨u, r, l⟩ := hl i x v e1 e2 e3
    refine ⟨u, r, ?_⟩
    rcases l with l | ⟨k, c, e, z⟩
    · exact .inl l
    · exact .inr ⟨k, c, e, cellK x c e _ z⟩
  · obtain ⟨v, z⟩ := I.cell x c e
    exact ⟨v, cellK x c e v z⟩
  · obtain ⟨m, ⟨o, _, _, ho, _⟩, _⟩ := I.loc
    exact free _ o (fun z => (hch _ z).2.1 rfl) ho I.free
  · obtain ⟨v, o, ho, hd⟩ := I.cell x c e
    exact free c o (fun z => (hch c z).2.2.1 x c e rfl) ho (I.freeC x c e)
  · obtain ⟨e, n, ne, nf, d⟩ := I.pin p hp
    have nch : p.1 ∉ ch := fun z => (hch p.1 z).2.2.2 p hp rfl
    exact ⟨keep p.1 p.2 ne nf nch e n, free p.1 p.2 nch e n, ne, nf, d⟩
/-- .. where the frame's own object is kept too -/
theorem Inv.un {t' : Nat} (I : Inv X pins σ H s) (u : Un X.fs [] H H' s.heap h') (hok : HOk X.prog X.w H' h') : Inv X pins σ H' { s with heap := h', toks := t' } := by
  obtain ⟨m, ⟨o, es, ep, ho, r⟩, _⟩ := id I.loc
  obtain ⟨sl, hL⟩ := u.any ho I.free (by simp)
  exact I.step (g' := s.gens) (d' := s.drawn) (ch := []) (fun _ z => nomatch z) (fun b o _ hb _ e n => u.keep b o e n hb (by simp)) (fun b o _ hb _ e n => u.slot b o e n hb (by simp)) (fun b o _ e n => u.free b o e n (by simp)) (fun b o _ e => u.there b o e (by simp)) u.tups u.frzs u.tbls (fun m' hm => by
    obtain ⟨o', es', ep', ho', r'⟩ := hm
    rw [ho] at ho'; cases ho'
    exact ⟨_, es', ep', hL, r'⟩) hok I.bare
/-- behind a call (or a comprehension's block): the slots of this frame may have changed too, the records at ch may have turned -/
theorem Inv.call {g' : Array GenState} {t' : Nat} {d' : Drawn} {ch : List Addr} (I : Inv X pins σ H s) (u : Un (frs X.stack) ch H H' s.heap h') (hok : HOk X.prog X.w H' h') (hg : AllBare g')
    (hch : ∀ b ∈ ch, (b ∈ X.ex ∨ X.s₀.heap.objs.size ≤ b) ∧ b ≠ X.env.locals ∧ (∀ x c, X.env.cells.lookup x = some c → c ≠ b) ∧ ∀ p ∈ X.pn ++ pins, p.1 ≠ b) :
    Inv X pins σ H' { s with heap := h', gens := g', drawn := d', toks := t' } := by
  obtain ⟨m, ⟨o, es, ep, ho, r⟩, _⟩ := id I.loc
  obtain ⟨sl, hL⟩ := u.any ho I.free fun z => (hch _ z).2.1 rfl
  exact I.step (ch := ch) hch (fun b o hL hb hc e n => u.keep b o e n (fun z => (List.mem_cons.mp (I.stkSub b z)).elim hL hb) hc) (fun b o _ _ hc e n => u.any e n hc) (fun b o hc e n => u.free b o e n hc) (fun b o hc e => u.there b o e hc) u.tups u.frzs u.tbls (fun m' hm => by
    obtain ⟨o', es', ep', ho', r'⟩ := hm
    rw [ho] at ho'; cases ho'
    exact ⟨_, es', ep', hL, r'⟩) hok hg
/-- an untracked record of ours (an iterator) has turned -/
theorem Inv.turned {t' : Nat} {it : Addr} (I : Inv X pins σ H s) (k : ∀ b o, b ≠ it → s.heap.get? b = some o → h'.get? b = some o) (hn : H it = none) (hL : it ≠ X.env.locals)
    (h1 : it ∈ X.ex ∨ X.s₀.heap.objs.size ≤ it) (h2 : ∀ x c, X.env.cells.lookup x = some c → c ≠ it) (h3 : ∀ p ∈ X.pn ++ pins, p.1 ≠ it) : Inv X pins σ H { s with heap := h', toks := t' } := by
  have nit : ∀ b u, H b = some u → b ≠ it := fun b u e z => by rw [z, hn] at e; cases e
  refine I.step (g' := s.gens) (d' := s.drawn) (ch := [it]) (fun b hb => ?_) (fun b o _ _ hc e _ => k b o (fun z => hc (by simp [z])) e) (fun b o _ _ hc e _ => ⟨o.slots, k b o (fun z => hc (by simp [z])) e⟩) (fun _ _ _ _ n => n)
    (fun b o hc e => ⟨o, k b o (fun z => hc (by simp [z])) e⟩) (fun _ _ e => e) (fun _ _ _ e => e) (fun b ps e => ⟨#[], by rw [e]; simp⟩) (fun m hm => ?_) (fun b u e => ?_) I.bare
  · have e : b = it := by simpa using hb
    subst e
    exact ⟨h1, hL, h2, h3⟩
  · obtain ⟨o, es, ep, ho, r⟩ := hm
    exact ⟨o, es, ep, k _ o (Ne.symm hL) ho, r⟩
  · refine (I.hok b u e).stay (fun c v hc q => k c v ?_ q) (fun _ q => q) fun _ _ q => q
    rcases hc with z | z
    · rw [z]; exact nit b u e
    · exact nit c _ z
theorem Inv.tok (I : Inv X pins σ H s) (t : Nat) : Inv X pins σ H { s with toks := t } := I.un (h' := s.heap) (t' := t) Un.refl I.hok
/-- all objects kept -/
theorem Inv.kept {t' : Nat} (I : Inv X pins σ H s) (k : ∀ b u, s.heap.get? b = some u → h'.get? b = some u) : Inv X pins σ H { s with heap := h', toks := t' } := I.un (Un.kept k) (I.hok.kept k)
/-- a new object laid and tracked -/
theorem Inv.laid {a : Addr} {o : HO} {t' : Nat} (I : Inv X pins σ H s) (k : ∀ b u, s.heap.get? b = some u → h'.get? b = some u) (hp : s.heap.objs.size ≤ a) (new : ObjOk X.prog X.w (upd H a o) h' a o) :
    Inv X pins σ (upd H a o) { s with heap := h', toks := t' } := I.un (Un.laid k hp (I.hok.fresh hp)) (I.hok.laid k hp new)
/-- an object written -/
theorem Inv.write {x e : Addr} {o : HO} {t' : Nat} (I : Inv X pins σ H s) (mu : Mut (H x)) (he : e = x ∨ H e = some (.own x)) (k : ∀ b u, b ≠ e → s.heap.get? b = some u → h'.get? b = some u) (heo : ∃ u, h'.get? e = some u)
    (new : ObjOk X.prog X.w (upd H x o) h' x o) : Inv X pins σ (upd H x o) { s with heap := h', toks := t' } := I.un (Un.write mu he k heo) (I.hok.write mu he k heo new)
/-- forgetting slots, pins -/
theorem Inv.weak {σ' : List (Option V)} (I : Inv X pins σ H s) (hl : σ'.length = σ.length) (w : ∀ (i : Nat) v, σ'[i]? = some (some v) → σ[i]? = some (some v)) : Inv X pins σ' H s :=
  ⟨I.ok, I.os, I.bare, I.base, let ⟨m, hn, hl'⟩ := I.loc; ⟨m, hn, fun i x v e1 e2 e3 => hl' i x v e1 (w i v e2) e3⟩, I.cell, I.free, I.freeC, I.pin, I.hok, hl.trans I.len⟩
theorem Inv.pins_of {pins' : List (Addr × Obj)} (I : Inv X pins σ H s) (h : ∀ p ∈ pins', s.heap.get? p.1 = some p.2 ∧ H p.1 = none ∧ p.1 ≠ X.env.locals ∧ p.1 ∉ X.fs ∧ ∀ v, p.2.data ≠ .cell v) : Inv X pins' σ H s :=
  ⟨I.ok, I.os, I.bare, I.base, I.loc, I.cell, I.free, I.freeC, fun p hp => (List.mem_append.mp hp).elim (fun z => I.pin p (List.mem_append_left _ z)) (h p), I.hok, I.len⟩

theorem nodup_ix {N : List Str} (hN : N.Nodup) {i j : Nat} {x : Str} (a : N[i]? = some x) (b : N[j]? = some x) : i = j := by
  obtain ⟨h1, e1⟩ := List.getElem?_eq_some_iff.mp a
  obtain ⟨h2, e2⟩ := List.getElem?_eq_some_iff.mp b
  exact (List.getElem_inj hN).mp (e1.trans e2.symm)

/-- a name is stored; what changed -/
theorem store_ok2 {M : Model} {A : Around} {E : Value → Shared → Prop} {i : Nat} {x : Str} {v : V} {u : Value} {Q : Unit → Shared → Prop} (I : Inv X pins σ H s) (hN : X.N.Nodup) (hi : X.N[i]? = some x) (hx : Loc X.env.scope x) (r : RelV v u)
    (h : ∀ s', Inv X pins (σ.set i (some v)) H s' → (∃ a, Heap.SameBut a s.heap s'.heap ∧ (a = X.env.locals ∨ X.env.cells.lookup x = some a)) → Q () s') (hf : X.fn x = true ∨ X.env.scope.names.lookup x = some .local := by first | exact .inl rfl | exact .inr rfl | assumption) : wpAny M A (storeName X.env x u) Q E s := by
  obtain ⟨m, hn, hl⟩ := id I.loc
  have hcls : (X.env.scope.kind == .class || (X.env.scope.kind == .module && X.env.locals != X.env.globals)) = false := by rw [I.ok.kind]; rfl
  have hiσ : i < σ.length := by rw [I.len]; exact (List.getElem?_eq_some_iff.mp hi).1
  have cne := I.cne
  have tracked : ∀ {a : Addr} {h' : Heap}, (∃ o, s.heap.get? a = some o ∧ H a = none) → Heap.SameBut a s.heap h' → HOk X.prog X.w H h' := fun {a h'} ha hs b ob e => by
    obtain ⟨_, _, hfree⟩ := ha
    refine (I.hok b ob e).stay (fun c w' hc q => (hs.2 c ?_).trans q) (fun _ q => q) fun _ _ q => q
    rintro rfl
    rcases hc with rfl | hc
    · rw [hfree] at e; cases e
    · rw [hfree] at hc; cases hc
  rcases hx with hk | hk
  · refine wpAny_storeName_local hk hn (fun h' hn' hs => ?_) hcls
    obtain ⟨oL, _, _, hoL, _⟩ := id hn
    refine h _ ⟨I.ok, I.os, I.bare, ⟨fun b o e n hb hx => ?_, fun b o e n hb hx => ?_, I.base.free, fun b o e hx => ?_, I.base.tups, I.base.frzs, I.base.tbls⟩, ⟨_, hn', fun j y v' e1 e2 e3 => ?_⟩, fun y c e => ?_, I.free, I.freeC, fun p hp => ?_, tracked ⟨oL, hoL, I.free⟩ hs, by simpa using I.len⟩ ⟨_, hs, .inl rfl⟩
    · exact (hs.2 b (Nat.ne_of_lt (Nat.lt_of_lt_of_le (Heap.lt_size e) I.ok.above))).trans (I.base.keep b o e n hb hx)
    · obtain ⟨sl, e1⟩ := I.base.slot b o e n hb hx
      exact ⟨sl, (hs.2 b (Nat.ne_of_lt (Nat.lt_of_lt_of_le (Heap.lt_size e) I.ok.above))).trans e1⟩
    · obtain ⟨o', e1⟩ := I.base.there b o e hx
      exact ⟨o', (hs.2 b (Nat.ne_of_lt (Nat.lt_of_lt_of_le (Heap.lt_size e) I.ok.above))).trans e1⟩
    · by_cases hj : j = i
      · subst hj
        rw [hi] at e1; cases e1
        rw [List.getElem?_set_self hiσ] at e2
        cases e2
        exact ⟨u, r, .inl ⟨hk, by simp⟩⟩
      · rw [List.getElem?_set_ne (Ne.symm hj)] at e2
        obtain ⟨u', r', q⟩ := hl j y v' e1 e2 e3
        refine ⟨u', r', ?_⟩
        rcases q with ⟨k, e⟩ | ⟨k, c, e, z⟩
        · refine .inl ⟨k, ?_⟩
          have : y ≠ x := fun e => hj (nodup_ix hN e1 (e ▸ hi))
          simp [this, e]
        · exact .inr ⟨k, c, e, z.sameBut hs (cne y c e)⟩
    · obtain ⟨w', z⟩ := I.cell y c e
      exact ⟨w', z.sameBut hs (cne y c e)⟩
    · obtain ⟨e, n, ne, nf, d⟩ := I.pin p hp
      exact ⟨(hs.2 p.1 ne).trans e, n, ne, nf, d⟩
  · have hfn : X.fn x = true := by
      rcases hf with z | z
      · exact z
      · rw [z] at hk; cases hk
    obtain ⟨c, hc⟩ := I.ok.has x (.inl hk)
    obtain ⟨w', z⟩ := I.cell x c hc
    refine wpAny_storeName_cell I.ok.kind hk hc z (fun h' hc' hs => ?_)
    obtain ⟨oc, hoc, hocd⟩ := id z
    refine h { s with heap := h' } ⟨I.ok, I.os, I.bare, ⟨fun b o e n hb hx => ?_, fun b o e n hb hx => ?_, I.base.free, fun b o e hx => ?_, I.base.tups, I.base.frzs, I.base.tbls⟩, ⟨m, hn.sameBut hs (Ne.symm (cne x c hc)), fun j y v' e1 e2 e3 => ?_⟩, fun y c' e => ?_, I.free, I.freeC, fun p hp => ?_, tracked ⟨oc, hoc, I.freeC x c hc⟩ hs, by simpa using I.len⟩ ⟨c, hs, .inr hc⟩
    · exact (hs.2 b (Nat.ne_of_lt (Nat.lt_of_lt_of_le (Heap.lt_size e) (I.ok.cab x c hfn hc)))).trans (I.base.keep b o e n hb hx)
    · obtain ⟨sl, e1⟩ := I.base.slot b o e n hb hx
      exact ⟨sl, (hs.2 b (Nat.ne_of_lt (Nat.lt_of_lt_of_le (Heap.lt_size e) (I.ok.cab x c hfn hc)))).trans e1⟩
    · obtain ⟨o', e1⟩ := I.base.there b o e hx
      exact ⟨o', (hs.2 b (Nat.ne_of_lt (Nat.lt_of_lt_of_le (Heap.lt_size e) (I.ok.cab x c hfn hc)))).trans e1⟩
    · by_cases hj : j = i
      · subst hj
        rw [hi] at e1; cases e1
        rw [List.getElem?_set_self hiσ] at e2
        cases e2
        exact ⟨u, r, .inr ⟨.inl hk, c, hc, hc'⟩⟩
      · rw [List.getElem?_set_ne (Ne.symm hj)] at e2
        obtain ⟨u', r', q⟩ := hl j y v' e1 e2 e3
        refine ⟨u', r', ?_⟩
        rcases q with q | ⟨k, c', e, z'⟩
        · exact .inl q
        · refine .inr ⟨k, c', e, z'.sameBut hs ?_⟩
          rintro rfl
          exact hj (nodup_ix hN e1 (I.ok.inj _ _ _ e hc ▸ hi))
    · by_cases hcc : c' = c
      · subst hcc; exact ⟨_, hc'⟩
      · obtain ⟨w2, z2⟩ := I.cell y c' e
        exact ⟨w2, z2.sameBut hs hcc⟩
    · obtain ⟨e, n, ne, nf, d⟩ := I.pin p hp
      refine ⟨(hs.2 p.1 ?_).trans e, n, ne, nf, d⟩
      intro q
      rw [q, hoc] at e
      have q' : oc = p.2 := Option.some.inj e
      exact d w' (by rw [← q']; exact hocd)
theorem store_ok {M : Model} {A : Around} {E : Value → Shared → Prop} {i : Nat} {x : Str} {v : V} {u : Value} {Q : Unit → Shared → Prop} (I : Inv X pins σ H s) (hN : X.N.Nodup) (hi : X.N[i]? = some x) (hx : Loc X.env.scope x) (r : RelV v u)
    (h : ∀ s', Inv X pins (σ.set i (some v)) H s' → Q () s') (hf : X.fn x = true ∨ X.env.scope.names.lookup x = some .local := by first | exact .inl rfl | exact .inr rfl | assumption) : wpAny M A (storeName X.env x u) Q E s :=
  store_ok2 I hN hi hx r (fun s' I' _ => h s' I') hf
/-- behind a call or a block, the state as it is -/
theorem Inv.call' {s' : Shared} {ch : List Addr} (I : Inv X pins σ H s) (ho : s'.os = s.os) (u : Un (frs X.stack) ch H H' s.heap s'.heap) (hok : HOk X.prog X.w H' s'.heap) (hg : AllBare s'.gens)
    (hch : ∀ b ∈ ch, (b ∈ X.ex ∨ X.s₀.heap.objs.size ≤ b) ∧ b ≠ X.env.locals ∧ (∀ x c, X.env.cells.lookup x = some c → c ≠ b) ∧ ∀ p ∈ X.pn ++ pins, p.1 ≠ b) : Inv X pins σ H' s' := by
  obtain ⟨h', g', d', t', o'⟩ := s'
  have e : o' = s.os := ho
  subst e
  exact I.call (g' := g') (t' := t') (d' := d') u hok hg hch
end

/-! ### the judgements -/
/-- an exception: its class, its own dict's address (where it has one), the abstract heap behind it -/
abbrev XK := Value → Option Addr → Hp → Prop
abbrev St := List (Option V)
abbrev VK := V → Hp → Prop
/-- an expression's reading; a test's; an argument list's -/
abbrev TE := St → Hp → VK → Prop
abbrev TT := St → Hp → (Bool → Hp → Prop) → Prop
abbrev TA := St → Hp → (List V → Hp → Prop) → Prop
/-- what is wanted behind a statement -/
structure Ends where
  nx : St → Hp → Prop
  rt : VK
  bk : St → Hp → Prop := fun _ _ => False
  ct : St → Hp → Prop := fun _ _ => False
abbrev TS := Ends → St → Hp → Prop

def EP (X : Cx) (pins : List (Addr × Obj)) (σ : St) (Q : VK) (u : Value) (s' : Shared) : Prop := ∃ v H', Inv X pins σ H' s' ∧ RelV v u ∧ Q v H'
def TP (X : Cx) (pins : List (Addr × Obj)) (σ : St) (Q : Bool → Hp → Prop) (b : Bool) (s' : Shared) : Prop := ∃ H', Inv X pins σ H' s' ∧ Q b H'
def AP (X : Cx) (pins : List (Addr × Obj)) (σ : St) (Q : List V → Hp → Prop) (us : List Value) (s' : Shared) : Prop := ∃ vs H', Inv X pins σ H' s' ∧ Vals vs us ∧ Q vs H'
def SP (X : Cx) (pins : List (Addr × Obj)) (D : Ends) (f : Flow) (s' : Shared) : Prop :=
  match f with
  | .next => ∃ σ' H', Inv X pins σ' H' s' ∧ D.nx σ' H'
  | .brk => ∃ σ' H', Inv X pins σ' H' s' ∧ D.bk σ' H'
  | .cont => ∃ σ' H', Inv X pins σ' H' s' ∧ D.ct σ' H'
  | .ret u => ∃ v σ' H', Inv X pins σ' H' s' ∧ RelV v u ∧ D.rt v H'

def PE (X : Cx) (e : Expr) (t : TE) : Prop :=
  ∀ (pins : List (Addr × Obj)) (s : Shared) (σ : St) (H : Hp) (Q : VK), Inv X pins σ H s → t σ H Q → wpAny (model X.prog X.w) X.A (eval e X.env) (EP X pins σ Q) X.xe s
def PT (X : Cx) (e : Expr) (t : TT) : Prop :=
  ∀ (pins : List (Addr × Obj)) (s : Shared) (σ : St) (H : Hp) (Q : Bool → Hp → Prop), Inv X pins σ H s → t σ H Q → wpAny (model X.prog X.w) X.A (isTrue e X.env (eval e X.env)) (TP X pins σ Q) X.xe s
/-- a test whatever its 'whole' is (and, or) -/
def PW (X : Cx) (e : Expr) (t : TT) : Prop :=
  ∀ (whole : Sem Value) (pins : List (Addr × Obj)) (s : Shared) (σ : St) (H : Hp) (Q : Bool → Hp → Prop), Inv X pins σ H s → t σ H Q → wpAny (model X.prog X.w) X.A (isTrue e X.env whole) (TP X pins σ Q) X.xe s
theorem PW.pt {X : Cx} {e : Expr} {t : TT} (h : PW X e t) : PT X e t := h _
/-- an argument list (no star), from the left -/
def PA (X : Cx) (es : List Expr) (t : TA) : Prop :=
  ∀ (pos : Pos) (pins : List (Addr × Obj)) (s : Shared) (σ : St) (H : Hp) (Q : List V → Hp → Prop), Inv X pins σ H s → t σ H Q → wpAny (model X.prog X.w) X.A (spliced (backTo pos (starEach es X.env))) (AP X pins σ Q) X.xe s
def PS (X : Cx) (st : Stmt) (t : TS) : Prop :=
  ∀ (pins : List (Addr × Obj)) (s : Shared) (σ : St) (H : Hp) (D : Ends), Inv X pins σ H s → t D σ H → wpAny (model X.prog X.w) X.A (exec st X.env) (SP X pins D) X.xe s
def PSs (X : Cx) (st : List Stmt) (t : TS) : Prop :=
  ∀ (pins : List (Addr × Obj)) (s : Shared) (σ : St) (H : Hp) (D : Ends), Inv X pins σ H s → t D σ H → wpAny (model X.prog X.w) X.A (execs st X.env) (SP X pins D) X.xe s
/-- weaken the end -/
theorem thn {α : Type} {t : Sem α} {Q Q' : α → Shared → Prop} {M : Model} {A : Around} {E : Value → Shared → Prop} {s : Shared} (h : wpAny M A t Q E s) (hQ : ∀ a s, Q a s → Q' a s) : wpAny M A t Q' E s := wpAny_mono h hQ fun _ _ x => x
end L2

namespace L2
open PySem PySem.Spec PyProof.Rows
section
variable {X : Cx}

/-! ### names and constants -/
def tVar (i : Nat) : TE := fun σ H Q => ∃ v, σ[i]? = some (some v) ∧ Q v H
def tC (v : V) : TE := fun _ H Q => Q v H
theorem pe_var {i : Nat} {x : Str} {pos : Pos} (hN : X.N[i]? = some x) (hv : Vis X.env.scope x) (hd : (x == ("__debug__" : Str)) = false := by decide) (hcd : (x == ("__classdict__" : Str)) = false := by decide) : PE X (.Name x pos) (tVar i) := by
  intro pins s σ H Q I h
  obtain ⟨v, e, h⟩ := h
  obtain ⟨m, hn, hl⟩ := I.loc
  obtain ⟨u, r, l⟩ := hl i x v hN e hv
  have fin : EP X pins σ Q u s := ⟨v, H, I, r, h⟩
  rcases l with ⟨hk, hm⟩ | ⟨hk, c, hc, hcell⟩
  · exact wpAny_Name (wpAny_loadName_local I.ok.kind hk hn hm fin) hd
  · rcases hk with hk | hk
    · exact wpAny_Name (wpAny_loadName_cell I.ok.kind hk hc hcell fin) hd
    · exact wpAny_Name (wpAny_loadName_free I.ok.kind hk hc hcell fin hcd) hd
theorem pe_int {i j pos} : PE X (.Constant (.int i) j pos) (tC (.int i)) := fun _ _ _ H _ I h => wpAny_Constant_int ⟨.int i, H, I.tok _, ⟨_, rfl⟩, h⟩
theorem pe_bl {b j pos} : PE X (.Constant (.bool b) j pos) (tC (.bl b)) := fun _ _ _ H _ I h => Constant_bool ⟨.bl b, H, I, rfl, h⟩
theorem pe_non {j pos} : PE X (.Constant .none j pos) (tC .non) := fun _ _ _ H _ I h => Constant_none ⟨.non, H, I, rfl, h⟩
theorem pe_str {x j pos} : PE X (.Constant (.str x) j pos) (tC (.str x)) := fun _ _ _ H _ I h => Calls.Constant_str ⟨.str x, H, I.tok _, ⟨_, rfl⟩, h⟩

/-- a global name of the def -/
def Gl (X : Cx) (x : Str) : Prop := X.env.kindOf x = some .globalImplicit
theorem ld_glob {E : Value → Shared → Prop} {pins : List (Addr × Obj)} {s : Shared} {σ : St} {H : Hp} {x : Str} {u : Value} {pos : Pos} {Q : Value → Shared → Prop} (I : Inv X pins σ H s) (hg : Gl X x) (hm : X.mg x = some u) (h : Q u s)
    (hd : (x == ("__debug__" : Str)) = false := by decide) : wpAny (model X.prog X.w) X.A (eval (.Name x pos) X.env) Q E s :=
  Calls.Name_function_global I.ok.kind hg (Calls.loadGlobal_global (by rw [I.ok.glob]; exact I.mod.glob.keeps I.bk) hm h) hd
theorem ld_blt {E : Value → Shared → Prop} {pins : List (Addr × Obj)} {s : Shared} {σ : St} {H : Hp} {x : Str} {u : Value} {pos : Pos} {Q : Value → Shared → Prop} (I : Inv X pins σ H s) (hg : Gl X x) (hm : X.mg x = none) (hv : bootBuiltins x = some u) (h : Q u s)
    (hn : x ≠ "__name__" := by decide) (hd : (x == ("__debug__" : Str)) = false := by decide) : wpAny (model X.prog X.w) X.A (eval (.Name x pos) X.env) Q E s := by
  obtain ⟨mb, h1, h2⟩ := I.mod.blt
  exact Calls.Name_function_global I.ok.kind hg (Calls.loadGlobal_builtin (by rw [I.ok.glob]; exact I.mod.glob.keeps I.bk) hm (by rw [I.ok.blt]; exact h1.keeps I.bk) ((h2 x hn).trans hv) h) hd
/-- a module's constant, a class, a function, as a value -/
theorem pe_glob {x : Str} {v : V} {u : Value} {pos : Pos} (hg : Gl X x) (hm : X.mg x = some u) (r : RelV v u) (hd : (x == ("__debug__" : Str)) = false := by decide) : PE X (.Name x pos) (tC v) :=
  fun _ _ _ H _ I h => ld_glob I hg hm ⟨v, H, I, r, h⟩ hd
theorem pe_bltn {x : Str} {v : V} {u : Value} {pos : Pos} (hg : Gl X x) (hm : X.mg x = none) (hv : bootBuiltins x = some u) (r : RelV v u) (hn : x ≠ "__name__" := by decide) (hd : (x == ("__debug__" : Str)) = false := by decide) : PE X (.Name x pos) (tC v) :=
  fun _ _ _ H _ I h => ld_blt I hg hm hv ⟨v, H, I, r, h⟩ hn hd

/-! ### arithmetic -/
variable {a b : Expr} {ta tb : TE} {pos : Pos}
/-! ### comparisons -/
def PC (X : Cx) (op : CmpOp) (a b : Expr) (t : TE) : Prop :=
  ∀ (pins : List (Addr × Obj)) (s : Shared) (σ : St) (H : Hp) (Q : VK), Inv X pins σ H s → t σ H Q →
    wpAny (model X.prog X.w) X.A (eval a X.env) (fun v s₁ => wpAny (model X.prog X.w) X.A (eval b X.env) (fun u s₂ => wpAny (model X.prog X.w) X.A (compareOp op v u) (EP X pins σ Q) X.xe s₂) X.xe s₁) X.xe s
theorem nobehind (b : Expr) {op : CmpOp} (h : op ≠ .In) (h2 : op ≠ .NotIn) : behindInMarks op b = false := by
  have e1 : (op == CmpOp.In) = false := by cases op <;> first | rfl | exact absurd rfl h
  have e2 : (op == CmpOp.NotIn) = false := by cases op <;> first | rfl | exact absurd rfl h2
  cases b <;> simp [behindInMarks, e1, e2]
/-- a comparison as a value, as a test -/
def tB (t : TE) : TT := fun σ H Q => t σ H fun x H1 => ∃ c, x = .bl c ∧ Q c H1
theorem pt_cmp {op : CmpOp} {t : TE} (h : PC X op a b t) (h1 : behindInMarks op b = false := by first | exact nobehind _ (by decide) (by decide) | rfl) : PT X (.Compare a [op] [b] pos) (tB t) := by
  intro pins s σ H Q I hw
  refine wpAny_isTrue_Compare1 (thn (h pins s σ H _ I hw) fun v s1 h1 => thn h1 fun u s2 h2 => thn h2 fun c s3 ⟨x, H1, I1, r1, q1⟩ => ?_) h1
  obtain ⟨d, rfl, q⟩ := q1
  cases r1
  exact wpAny_truthy_bool ⟨H1, I1, q⟩
/-- an expression whose value is a bool, as a test -/
theorem pt_val {e : Expr} {t : TE} (h : PE X e t) (he : ∀ whole, isTrue e X.env whole = (do let v ← whole; standAt e.pos; holding [v] (truthy v)) := by intro _; rfl) : PT X e (tB t) := by
  intro pins s σ H Q I hw
  refine isTrue_plain (thn (h pins s σ H _ I hw) fun v s1 ⟨x, H1, I1, r1, q1⟩ => ?_) (he _)
  obtain ⟨d, rfl, q⟩ := q1
  cases r1
  exact wpAny_truthy_bool ⟨H1, I1, q⟩

/-! ### and, or, not -/
variable {tA tB' : TT} {rest : List Expr}
def tAnd (t u : TT) : TT := fun σ H Q => t σ H fun c H1 => if c = true then u σ H1 Q else Q false H1
def tOr (t u : TT) : TT := fun σ H Q => t σ H fun c H1 => if c = true then Q true H1 else u σ H1 Q
def tNot (t : TT) : TT := fun σ H Q => t σ H fun c H1 => Q (!c) H1
theorem pw_and1 (ha : PT X a tA) : PW X (.BoolOp .And [a] pos) tA := by
  intro wh pins s σ H Q I h
  refine isTrue_and (thn (ha pins s σ H Q I h) fun c s1 e => ?_)
  cases c with
  | true => exact isTrue_and_nil e
  | false => exact e
theorem pw_or1 (ha : PT X a tA) : PW X (.BoolOp .Or [a] pos) tA := by
  intro wh pins s σ H Q I h
  refine isTrue_or (thn (ha pins s σ H Q I h) fun c s1 e => ?_)
  cases c with
  | false => exact isTrue_or_nil e
  | true => exact e
theorem pw_and (ha : PT X a tA) (hb : PW X (.BoolOp .And (b :: rest) pos) tB') : PW X (.BoolOp .And (a :: b :: rest) pos) (tAnd tA tB') := by
  intro wh pins s σ H Q I h
  refine isTrue_and (thn (ha pins s σ H _ I h) fun c s1 ⟨H1, I1, q1⟩ => ?_)
  cases c with
  | true => exact hb wh pins s1 σ H1 Q I1 q1
  | false => exact ⟨H1, I1, q1⟩
theorem pw_or (ha : PT X a tA) (hb : PW X (.BoolOp .Or (b :: rest) pos) tB') : PW X (.BoolOp .Or (a :: b :: rest) pos) (tOr tA tB') := by
  intro wh pins s σ H Q I h
  refine isTrue_or (thn (ha pins s σ H _ I h) fun c s1 ⟨H1, I1, q1⟩ => ?_)
  cases c with
  | true => exact ⟨H1, I1, q1⟩
  | false => exact hb wh pins s1 σ H1 Q I1 q1
theorem pt_not (ha : PT X a tA) : PT X (.UnaryOp .Not a pos) (tNot tA) := by
  intro pins s σ H Q I h
  exact isTrue_not (ha pins s σ H (fun c H1 => Q (!c) H1) I h)
/-- .. as values (bools) -/
def tAndV (ta tb : TE) : TE := fun σ H Q => ta σ H fun x H1 => ∃ c, x = .bl c ∧ if c = true then tb σ H1 Q else Q (.bl false) H1
def tOrV (ta tb : TE) : TE := fun σ H Q => ta σ H fun x H1 => ∃ c, x = .bl c ∧ if c = true then Q (.bl true) H1 else tb σ H1 Q
def tNotV (ta : TE) : TE := fun σ H Q => ta σ H fun x H1 => ∃ c, x = .bl c ∧ Q (.bl (!c)) H1
theorem pe_one {op} {t : TE} (h : PE X a t) : PE X (.BoolOp op [a] pos) t := fun pins s σ H Q I hw => BoolOp_one (h pins s σ H Q I hw)
theorem pe_and (ha : PE X a ta) (hb : PE X (.BoolOp .And (b :: rest) pos) tb) : PE X (.BoolOp .And (a :: b :: rest) pos) (tAndV ta tb) := by
  intro pins s σ H Q I h
  refine BoolOp_and (thn (ha pins s σ H _ I h) fun v s1 ⟨x, H1, I1, r1, q1⟩ => ?_)
  obtain ⟨c, rfl, q1⟩ := q1
  cases r1
  refine wpAny_truthy_bool ?_
  cases c with
  | true => exact hb pins s1 σ H1 Q I1 q1
  | false => exact ⟨.bl false, H1, I1, rfl, q1⟩
theorem pe_or (ha : PE X a ta) (hb : PE X (.BoolOp .Or (b :: rest) pos) tb) : PE X (.BoolOp .Or (a :: b :: rest) pos) (tOrV ta tb) := by
  intro pins s σ H Q I h
  refine BoolOp_or (thn (ha pins s σ H _ I h) fun v s1 ⟨x, H1, I1, r1, q1⟩ => ?_)
  obtain ⟨c, rfl, q1⟩ := q1
  cases r1
  refine wpAny_truthy_bool ?_
  cases c with
  | false => exact hb pins s1 σ H1 Q I1 q1
  | true => exact ⟨.bl true, H1, I1, rfl, q1⟩
theorem pe_not (ha : PE X a ta) : PE X (.UnaryOp .Not a pos) (tNotV ta) := by
  intro pins s σ H Q I h
  refine UnaryOp_ (thn (ha pins s σ H _ I h) fun v s1 ⟨x, H1, I1, r1, q1⟩ => ?_)
  obtain ⟨c, rfl, q1⟩ := q1
  cases r1
  exact not_of (wpAny_truthy_bool ⟨.bl (!c), H1, I1, rfl, q1⟩)
/-- a if t else b -/
def tIf (t : TT) (ta tb : TE) : TE := fun σ H Q => t σ H fun c H1 => if c = true then ta σ H1 Q else tb σ H1 Q
theorem pe_ifExp {c : Expr} (hc : PT X c tA) (ha : PE X a ta) (hb : PE X b tb) : PE X (.IfExp c a b pos) (tIf tA ta tb) := by
  intro pins s σ H Q I h
  refine wpAny_IfExp (thn (hc pins s σ H _ I h) fun d s1 ⟨H1, I1, q1⟩ => ?_)
  cases d with
  | true => exact ha pins s1 σ H1 Q I1 q1
  | false => exact hb pins s1 σ H1 Q I1 q1
end
end L2

namespace L2
open PySem PySem.Spec PyProof.Rows

/-! ### a list, a tuple that is read: tracked, frozen, or an object of the module -/
def SqL (K : PySem.W.Frag) (H : Hp) (a : Addr) (xs : List V) : Prop :=
  Rd H a (.lst xs) ∨
    ∃ (o : Obj) (its : Array Value) (n : Nat), K.lookup a = some o ∧ o.cls = .type "list" ∧ o.dict = none ∧ o.data = .seq its n ∧ its.size ≤ sizeLine ∧ Vals xs its.toList
def SqT (K : PySem.W.Frag) (H : Hp) (a : Addr) (xs : List V) : Prop :=
  Rd H a (.tup xs) ∨
    ∃ (o : Obj) (its : Array Value) (n : Nat), K.lookup a = some o ∧ o.cls = .type "tuple" ∧ o.data = .seq its n ∧ its.size ≤ sizeLine ∧ Vals xs its.toList
def absV : Value → Option V
  | .none => some .non
  | .bool b => some (.bl b)
  | .int i _ => some (.int i)
  | .str x _ => some (.str x)
  | .bytes b _ => some (.byt b)
  | .float b _ => some (.flt b)
  | .ref a => some (.ref a)
  | .type n => some (.ty n)
  | _ => none
theorem RelV.abs {x : V} {u : Value} (r : RelV x u) : absV u = some x := by
  cases x with
  | non => cases r; rfl
  | bl _ => cases r; rfl
  | int _ => obtain ⟨t, rfl⟩ := r; rfl
  | str _ => obtain ⟨t, rfl⟩ := r; rfl
  | byt _ => obtain ⟨t, rfl⟩ := r; rfl
  | flt _ => obtain ⟨t, rfl⟩ := r; rfl
  | ref _ => cases r; rfl
  | ty _ => cases r; rfl
theorem RelV.inj {x y : V} {u : Value} (r : RelV x u) (q : RelV y u) : x = y := Option.some.inj (r.abs.symm.trans q.abs)
theorem Vals.inj : ∀ {xs ys : List V} {us : List Value}, Vals xs us → Vals ys us → xs = ys
  | _, _, _, .nil, .nil => rfl
  | _, _, _, .cons r t, .cons r' t' => by rw [r.inj r', Vals.inj t t']
section
variable {X : Cx} {pins : List (Addr × Obj)} {σ : St} {H : Hp} {s : Shared} {a : Addr} {xs ys : List V}
theorem SqL.of {K : PySem.W.Frag} (h : H a = some (.lst xs)) : SqL K H a xs := .inl (.inl h)
theorem SqT.of {K : PySem.W.Frag} (h : H a = some (.tup xs)) : SqT K H a xs := .inl (.inl h)
theorem Inv.list (I : Inv X pins σ H s) (h : SqL X.K H a xs) : ∃ its : List Value, Vals xs its ∧ PlainL s.heap a its.toArray ∧ xs.length ≤ sizeLine := by
  rcases h with h | ⟨o, its, n, hk, hc, hd, hs, hz, r⟩
  · obtain ⟨z, its, n, r, e⟩ := h.ok I.hok
    exact ⟨its, r, ⟨_, n, e, rfl, rfl, rfl⟩, z⟩
  · refine ⟨its.toList, r, ⟨o, n, I.kIn a o hk, hc, hd, by simpa using hs⟩, ?_⟩
    have e := r.length
    simp only [Array.length_toList] at e
    lia
theorem Inv.tuple (I : Inv X pins σ H s) (h : SqT X.K H a xs) : ∃ its : List Value, Vals xs its ∧ IsTup s.heap a its.toArray ∧ xs.length ≤ sizeLine := by
  rcases h with h | ⟨o, its, n, hk, hc, hs, hz, r⟩
  · obtain ⟨z, its, r, p⟩ := h.ok I.hok
    exact ⟨its, r, p, z⟩
  · refine ⟨its.toList, r, ⟨o, I.kIn a o hk, hc, n, by simpa using hs⟩, ?_⟩
    have e := r.length
    simp only [Array.length_toList] at e
    lia
theorem Inv.list_inj (I : Inv X pins σ H s) (h : SqL X.K H a xs) (h' : SqL X.K H a ys) : xs = ys := by
  obtain ⟨its, r, ⟨o, n, e, _, _, d⟩, _⟩ := I.list h
  obtain ⟨its', r', ⟨o', n', e', _, _, d'⟩, _⟩ := I.list h'
  rw [e] at e'; cases e'
  rw [d] at d'
  injection d' with d1 _
  have : its = its' := by simpa using congrArg Array.toList d1
  subst this
  exact r.inj r'
theorem Inv.tuple_inj (I : Inv X pins σ H s) (h : SqT X.K H a xs) (h' : SqT X.K H a ys) : xs = ys := by
  obtain ⟨its, r, ⟨o, e, _, n, d⟩, _⟩ := I.tuple h
  obtain ⟨its', r', ⟨o', e', _, n', d'⟩, _⟩ := I.tuple h'
  rw [e] at e'; cases e'
  rw [d] at d'
  injection d' with d1 _
  have : its = its' := by simpa using congrArg Array.toList d1
  subst this
  exact r.inj r'
end

/-! ### another wish about exceptions -/
abbrev Cx.wish (X : Cx) (E : Value → Shared → Prop) : Cx := { X with xe := E }
/-- no exception leaves -/
abbrev Cx.nox (X : Cx) : Cx := X.wish fun _ _ => False
theorem Cx.Ok.wish {X : Cx} (ok : X.Ok) (E : Value → Shared → Prop) : (X.wish E).Ok :=
  ⟨ok.mod, ok.kind, ok.glob, ok.blt, ok.above, ok.inj, ok.has, ok.cab, ok.hd, ok.frames, ok.stk, ok.exf, ok.bs, ok.bsz, ok.noex, ok.exfs, ok.funs, ok.frf⟩
theorem Cx.Ok.unwish {X : Cx} {E : Value → Shared → Prop} (ok : (X.wish E).Ok) : X.Ok :=
  ⟨ok.mod, ok.kind, ok.glob, ok.blt, ok.above, ok.inj, ok.has, ok.cab, ok.hd, ok.frames, ok.stk, ok.exf, ok.bs, ok.bsz, ok.noex, ok.exfs, ok.funs, ok.frf⟩
section
variable {X : Cx} {pins : List (Addr × Obj)} {σ : St} {H : Hp} {s : Shared} {E : Value → Shared → Prop}
theorem Inv.wish (I : Inv X pins σ H s) (E : Value → Shared → Prop) : Inv (X.wish E) pins σ H s := ⟨I.ok.wish E, I.os, I.bare, I.base, I.loc, I.cell, I.free, I.freeC, I.pin, I.hok, I.len⟩
theorem Inv.unwish (I : Inv (X.wish E) pins σ H s) : Inv X pins σ H s := ⟨I.ok.unwish, I.os, I.bare, I.base, I.loc, I.cell, I.free, I.freeC, I.pin, I.hok, I.len⟩
theorem SP.unwish {D : Ends} {f : Flow} {s' : Shared} (h : SP (X.wish E) pins D f s') : SP X pins D f s' := by
  cases f with
  | next => obtain ⟨σ', H', I, q⟩ := h; exact ⟨σ', H', I.unwish, q⟩
  | brk => obtain ⟨σ', H', I, q⟩ := h; exact ⟨σ', H', I.unwish, q⟩
  | cont => obtain ⟨σ', H', I, q⟩ := h; exact ⟨σ', H', I.unwish, q⟩
  | ret u => obtain ⟨v, σ', H', I, r, q⟩ := h; exact ⟨v, σ', H', I.unwish, r, q⟩
theorem PE.nox {e : Expr} {t : TE} (h : PE X.nox e t) : PE X e t := fun pins s σ H Q I hw =>
  wpAny_mono (h pins s σ H Q (I.wish _) hw) (fun _ _ ⟨v, H', I', r, q⟩ => ⟨v, H', I'.unwish, r, q⟩) fun _ _ z => False.elim z
theorem PT.nox {e : Expr} {t : TT} (h : PT X.nox e t) : PT X e t := fun pins s σ H Q I hw =>
  wpAny_mono (h pins s σ H Q (I.wish _) hw) (fun _ _ ⟨H', I', q⟩ => ⟨H', I'.unwish, q⟩) fun _ _ z => False.elim z
theorem PSs.nox {st : List Stmt} {t : TS} (h : PSs X.nox st t) : PSs X st t := fun pins s σ H D I hw =>
  wpAny_mono (h pins s σ H D (I.wish _) hw) (fun _ _ q => q.unwish) fun _ _ z => False.elim z
end

/-! ### blocks and small statements -/
section
variable {X : Cx} {st : Stmt} {rest : List Stmt} {t u : TS} {e : Expr} {te : TE} {pos : Pos}
def tNext : TS := fun D σ H => D.nx σ H
def tSeq (t u : TS) : TS := fun D σ H => t { D with nx := u D } σ H
theorem pss_nil : PSs X [] tNext := fun _ _ σ H _ I h => wpAny_execs_nil ⟨σ, H, I, h⟩
theorem pss_cons (h1 : PS X st t) (h2 : PSs X rest u) : PSs X (st :: rest) (tSeq t u) := by
  intro pins s σ H D I h
  refine wpAny_execs_cons (thn (h1 pins s σ H { D with nx := u D } I h) fun f s1 q => ?_)
  cases f with
  | next =>
    obtain ⟨σ', H', I', q⟩ := q
    exact h2 pins s1 σ' H' D I' q
  | ret v => exact q
  | brk => exact q
  | cont => exact q
theorem pss_one (h1 : PS X st t) : PSs X [st] t := by
  intro pins s σ H D I h
  refine wpAny_execs_cons (thn (h1 pins s σ H D I h) fun f s1 q => ?_)
  cases f with
  | next => exact wpAny_execs_nil q
  | ret v => exact q
  | brk => exact q
  | cont => exact q
/-- in a def's body nothing is shown -/
theorem Inv.quiet {pins : List (Addr × Obj)} {σ : St} {H : Hp} {s : Shared} (I : Inv X pins σ H s) : interactive X.env = false := by simp [interactive, I.ok.kind]
/-- an expression whose value is dropped -/
def tDrop (te : TE) : TS := fun D σ H => te σ H fun _ H1 => D.nx σ H1
theorem ps_expr (he : PE X e te) (hs : swapsWith e none pos.line X.env = pure false := by rfl) : PS X (.Expr e pos) (tDrop te) := by
  intro pins s σ H D I h
  exact wpAny_Expr_any (thn (he pins s σ H _ I h) fun v s1 ⟨x, H1, I1, r1, q1⟩ => ⟨σ, H1, I1, q1⟩) I.quiet hs
def tRet (te : TE) : TS := fun D σ H => te σ H D.rt
theorem ps_ret (he : PE X e te) : PS X (.Return (some e) pos) (tRet te) := by
  intro pins s σ H D I h
  exact wpAny_Return_some (thn (he pins s σ H _ I h) fun v s1 ⟨x, H1, I1, r1, q1⟩ => ⟨x, σ, H1, I1, r1, q1⟩)
def tIfS (c : TT) (t u : TS) : TS := fun D σ H => c σ H fun b H1 => if b = true then t D σ H1 else u D σ H1
theorem ps_if {c : Expr} {a b : List Stmt} {tc : TT} (hc : PT X c tc) (ha : PSs X a t) (hb : PSs X b u) : PS X (.If c a b pos) (tIfS tc t u) := by
  intro pins s σ H D I h
  refine wpAny_If (thn (hc pins s σ H _ I h) fun d s1 ⟨H1, I1, q1⟩ => ?_)
  cases d with
  | true => exact ha pins s1 σ H1 D I1 q1
  | false => exact hb pins s1 σ H1 D I1 q1
end

/-! ### targets -/
abbrev TG := V → St → Hp → (St → Hp → Prop) → Prop
abbrev TGs := List V → St → Hp → (St → Hp → Prop) → Prop
def PG (X : Cx) (target : Expr) (t : TG) : Prop :=
  ∀ (pins : List (Addr × Obj)) (s : Shared) (σ : St) (H : Hp) (v : V) (u : Value) (Q : St → Hp → Prop), Inv X pins σ H s → RelV v u → t v σ H Q →
    wpAny (model X.prog X.w) X.A (assign target X.env u) (fun _ s' => ∃ σ' H', Inv X pins σ' H' s' ∧ Q σ' H') X.xe s
/-- several targets, one after another -/
def PGs (X : Cx) (ts : List Expr) (t : TGs) : Prop :=
  ∀ (pins : List (Addr × Obj)) (s : Shared) (σ : St) (H : Hp) (vs : List V) (us : List Value) (Q : St → Hp → Prop), Inv X pins σ H s → Vals vs us → t vs σ H Q →
    wpAny (model X.prog X.w) X.A (assignInOrder ((assignEach ts X.env).map (·.2)) us) (fun _ s' => ∃ σ' H', Inv X pins σ' H' s' ∧ Q σ' H') X.xe s
section
variable {X : Cx} {pos : Pos}
def gName (i : Nat) : TG := fun v σ H Q => Q (σ.set i (some v)) H
theorem pg_name {i : Nat} {x : Str} (hN : X.N.Nodup) (hi : X.N[i]? = some x) (hx : Loc X.env.scope x) (hf : X.fn x = true ∨ X.env.scope.names.lookup x = some .local := by first | exact .inl rfl | exact .inr rfl | assumption) : PG X (.Name x pos) (gName i) := by
  intro pins s σ H v u Q I r h
  exact wpAny_assign_Name (store_ok I hN hi hx r (fun s' I' => ⟨_, H, I', h⟩) hf)
def gNil : TGs := fun vs σ H Q => vs = [] ∧ Q σ H
def gCons (t : TG) (u : TGs) : TGs := fun vs σ H Q => ∃ v r, vs = v :: r ∧ t v σ H fun σ' H' => u r σ' H' Q
theorem pgs_nil : PGs X [] gNil := by
  intro pins s σ H vs us Q I r h
  obtain ⟨e, h⟩ := h
  subst e
  cases r
  exact assignInOrder_nil ⟨σ, H, I, h⟩
theorem pgs_cons {e : Expr} {es : List Expr} {t : TG} {u : TGs} (h1 : PG X e t) (h2 : PGs X es u)
    (hs : (assignEach (e :: es) X.env).map (·.2) = assign e X.env :: (assignEach es X.env).map (·.2) := by rfl) : PGs X (e :: es) (gCons t u) := by
  intro pins s σ H vs us Q I r h
  obtain ⟨v, vr, e1, h⟩ := h
  subst e1
  cases r with
  | cons r rr =>
    rw [hs]
    refine assignInOrder_cons (thn (h1 pins s σ H _ _ _ I r h) fun _ s1 ⟨σ1, H1, I1, q1⟩ => ?_)
    exact h2 pins s1 σ1 H1 _ _ Q I1 rr q1
/-- (a, b, ..) = a tuple of that length -/
def gTup (K : PySem.W.Frag) (n : Nat) (t : TGs) : TG := fun v σ H Q => ∃ a xs, v = .ref a ∧ SqT K H a xs ∧ xs.length = n ∧ t xs σ H Q
theorem pg_tup {es : List Expr} {k : Nat} {t : TGs} {n : Nat} (hc : X.calm = true) (h : PGs X es t)
    (hn : (assignEach es X.env).length = n := by rfl) (hst : (assignEach es X.env).findIdx? (·.1) = none := by rfl) : PG X (.Tuple es k pos) (gTup X.K n t) := by
  intro pins s σ H v u Q I r hw
  obtain ⟨a, xs, e1, hq, hl, hw⟩ := hw
  subst e1
  cases r
  obtain ⟨its, rv, ht, hz⟩ := I.tuple hq
  refine assign_Tuple_tuple (I.ok.hd hc) ht (by simp [hn, ← hl, rv.length]) hst fun h' hx => ?_
  have I1 : Inv X pins σ H { s with heap := h' } := I.kept (t' := s.toks) fun b o e => hx b o (Nat.ne_of_lt (Heap.lt_size e)) e
  exact h pins _ σ H xs _ Q I1 (by simpa using rv) hw
/-- target = value -/
def tAsg (te : TE) (g : TG) : TS := fun D σ H => te σ H fun x H1 => g x σ H1 D.nx
/-- name = value -/
theorem ps_set {i : Nat} {x : Str} {e : Expr} {te : TE} {pos' : Pos} (hN : X.N.Nodup) (hi : X.N[i]? = some x) (hx : Loc X.env.scope x) (he : PE X e te) (hs : swapsWith e (some (.Name x pos')) pos.line X.env = pure false := by rfl) (hf : X.fn x = true ∨ X.env.scope.names.lookup x = some .local := by first | exact .inl rfl | exact .inr rfl | assumption) :
    PS X (.Assign [.Name x pos'] e pos) (tAsg te (gName i)) := by
  intro pins s σ H D I h
  refine wpAny_Assign_Name (thn (he pins s σ H _ I h) fun v s1 ⟨y, H1, I1, r1, q1⟩ => ?_) hs
  exact store_ok I1 hN hi hx r1 (fun s2 I2 => ⟨_, H1, I2, q1⟩) hf
end

/-! ### while -/
section
variable {X : Cx} {pos : Pos}
end

/-! ### what a loop or a comprehension walks -/
/-- at turn i: it yields x (the heap may grow), or it stops -/
structure It where
  go : Nat → Hp → Prop
  yld : Nat → Hp → V → Hp → Prop
  stop : Nat → Hp → Prop
/-- the iterator's own objects may turn: they are not the frame's, not pinned, younger than the entry (or a comprehension's own) -/
def FpOk (X : Cx) (pins : List (Addr × Obj)) (H : Hp) (b : Addr) : Prop :=
  H b = none ∧ b ≠ X.env.locals ∧ b ∉ X.fs ∧ (b ∈ X.ex ∨ X.s₀.heap.objs.size ≤ b) ∧ (∀ x c, X.env.cells.lookup x = some c → c ≠ b) ∧ ∀ p ∈ X.pn ++ pins, p.1 ≠ b
theorem Inv.fpOk {X : Cx} {pins : List (Addr × Obj)} {σ : St} {H H' : Hp} {s : Shared} {b : Addr} (I : Inv X pins σ H s) (hb : s.heap.objs.size ≤ b) (hn : H' b = none) : FpOk X pins H' b := by
  refine ⟨hn, Nat.ne_of_gt (Nat.lt_of_lt_of_le I.lt hb), I.nofs hb, .inr (Nat.le_trans I.sz hb), fun x c e z => ?_, fun p hp z => ?_⟩
  · obtain ⟨v, q⟩ := I.cell x c e
    exact absurd (Nat.lt_of_lt_of_le q.lt (by rw [z]; exact hb)) (Nat.lt_irrefl _)
  · exact absurd (Nat.lt_of_lt_of_le (Heap.lt_size (I.pin p hp).1) (by rw [z]; exact hb)) (Nat.lt_irrefl _)
structure Turn (P : Program) (w : World) (K : PySem.W.Frag) (tg : Expr) (J : It) (fp : List Addr) (it : Addr) (tn : Nat → Heap → Prop) : Prop where
  mem : it ∈ fp
  obj : ∀ i h, tn i h → ∀ b ∈ fp, ∃ o, h.get? b = some o ∧ ∀ v, o.data ≠ .cell v
  keep : ∀ i h h', tn i h → (∀ b ∈ fp, ∀ o, h.get? b = some o → h'.get? b = some o) → tn i h'
  item : ∀ (X : Cx), X.prog = P → X.w = w → X.K = K → X.calm = true → ∀ (i : Nat) (pins : List (Addr × Obj)) (s : Shared) (σ : St) (H : Hp) (E : Value → Shared → Prop), Inv X pins σ H s → (∀ b ∈ fp, FpOk X pins H b) → tn i s.heap → J.go i H →
    wpAny (model P w) X.A (pyNext (.ref it)) (fun r s1 => ∃ u, r = some u ∧
      wpAny (model P w) X.A (letOwnedTupleGo tg (.ref it) u) (fun _ s2 => ∃ x H', Inv X pins σ H' s2 ∧ RelV x u ∧ J.yld i H x H' ∧ tn (i + 1) s2.heap ∧ ∀ b ∈ fp, H' b = none) E s1) E s
  done : ∀ (X : Cx), X.prog = P → X.w = w → X.K = K → X.calm = true → ∀ (i : Nat) (pins : List (Addr × Obj)) (s : Shared) (σ : St) (H : Hp) (E : Value → Shared → Prop), Inv X pins σ H s → (∀ b ∈ fp, FpOk X pins H b) → tn i s.heap → J.stop i H →
    wpAny (model P w) X.A (pyNext (.ref it)) (fun r s1 => r = none ∧ Inv X pins σ H s1) E s
  self : ∀ (A : Around) (i : Nat) (s : Shared) (Q : Value → Shared → Prop) (E : Value → Shared → Prop), tn i s.heap → Q (.ref it) s → wpAny (model P w) A (pyIter (.ref it)) Q E s
abbrev TI := St → Hp → (It → Hp → Prop) → Prop
/-- an iterator has come -/
def PIE (X : Cx) (pins : List (Addr × Obj)) (σ : St) (tg : Expr) (R : It → Hp → Prop) (itv : Value) (s2 : Shared) : Prop :=
  ∃ (it : Addr) (fp : List Addr) (tn : Nat → Heap → Prop) (J : It) (H' : Hp), itv = .ref it ∧ Inv X pins σ H' s2 ∧ Turn X.prog X.w X.K tg J fp it tn ∧ tn 0 s2.heap ∧ (∀ b ∈ fp, FpOk X pins H' b) ∧ R J H'
def PI (X : Cx) (tg iter : Expr) (wi : TI) : Prop :=
  ∀ (pins : List (Addr × Obj)) (s : Shared) (σ : St) (H : Hp) (R : It → Hp → Prop), Inv X pins σ H s → wi σ H R →
    wpAny (model X.prog X.w) X.A (eval iter X.env) (fun v s1 => wpAny (model X.prog X.w) X.A (pyIter v) (PIE X pins σ tg R) X.xe s1) X.xe s

/-- the step ahead of the store is nothing for an iterator that keeps no tuple -/
theorem go_of {M : Model} {A : Around} {E : Value → Shared → Prop} {s : Shared} {tg : Expr} {it : Addr} {u : Value} {o : Obj} {n : String} {vs : Array Value} {Q : Unit → Shared → Prop} (ho : s.heap.get? it = some o) (hc : o.cls = .type n) (hd : o.data = .fields vs)
    (hn : ["enumerate", "zip", "dict_itemiterator", "dict_reverseitemiterator", "odict_iterator", "itertools.zip_longest", "itertools.pairwise"].contains n = false) (hQ : Q () s) : wpAny M A (letOwnedTupleGo tg (.ref it) u) Q E s := by
  unfold letOwnedTupleGo
  cases tg <;> first
    | exact wpAny_pure hQ
    | (cases u <;> first
        | exact wpAny_pure hQ
        | (refine wpAny_bind (wpAny_load ho ?_)
           rw [hc, hd]
           show wpAny M A (if (["enumerate", "zip", "dict_itemiterator", "dict_reverseitemiterator", "odict_iterator", "itertools.zip_longest", "itertools.pairwise"].contains n && vs[0]? == some (rawInt _)) = true then _ else _) Q E s
           rw [if_neg (by intro h; rw [hn, Bool.false_and] at h; cases h)]
           exact wpAny_pure hQ))

/-- the list at a, as it stands at each turn (a loop may append to it) -/
def Itl (K : PySem.W.Frag) (a : Addr) : It :=
  ⟨fun i H => ∃ xs x, SqL K H a xs ∧ xs[i]? = some x, fun i H x H' => H' = H ∧ ∀ xs, SqL K H a xs → xs[i]? = some x, fun i H => ∃ xs, SqL K H a xs ∧ xs.length ≤ i⟩
def Itt (K : PySem.W.Frag) (a : Addr) : It :=
  ⟨fun i H => ∃ xs x, SqT K H a xs ∧ xs[i]? = some x, fun i H x H' => H' = H ∧ ∀ xs, SqT K H a xs → xs[i]? = some x, fun i H => ∃ xs, SqT K H a xs ∧ xs.length ≤ i⟩
/-- lo, lo + 1, .. (n of them) -/
def Itr (lo : Int) (n : Nat) : It := ⟨fun i _ => i < n, fun i H x H' => H' = H ∧ x = .int (lo + i), fun i _ => n ≤ i⟩
theorem turn_list {P : Program} {w : World} {K : PySem.W.Frag} {tg : Expr} (a it : Addr) : Turn P w K tg (Itl K a) [it] it (fun i h => h.IsListIter it a i) where
  mem := by simp
  obj := fun i h st b hb => by
    have e : b = it := by simpa using hb
    subst e
    obtain ⟨o, e, c, d⟩ := st
    exact ⟨o, e, fun v z => by rw [d] at z; cases z⟩
  keep := fun i h h' st k => st.at fun o e => k it (by simp) o e
  item := by
    intro X hP hw hK hc i pins s σ H E I hf st hg
    subst hP hw hK
    obtain ⟨xs, x, hq, hx⟩ := hg
    obtain ⟨its, rv, p, hz⟩ := I.list hq
    obtain ⟨u, hu, ru⟩ := rv.get hx
    obtain ⟨f0, f1, f2, f3, f4, f5⟩ := hf it (by simp)
    refine wpAny_pyNext_list_item st p.isList (x := u) (by simpa using hu) fun h' st' sb => ?_
    have I1 : Inv X pins σ H { s with heap := h' } := I.turned (t' := s.toks) (fun b o hb e => (sb.2 b hb).trans e) f0 f1 f3 f4 f5
    obtain ⟨o, e, c, d⟩ := id st'
    exact ⟨u, rfl, go_of (s := { s with heap := h' }) e c d (by decide) ⟨x, H, I1, ru, ⟨rfl, fun ys hy => by rw [I.list_inj hy hq]; exact hx⟩, st', fun b hb => (hf b hb).1⟩⟩
  done := by
    intro X hP hw hK hc i pins s σ H E I hf st hg
    subst hP hw hK
    obtain ⟨xs, hq, hx⟩ := hg
    obtain ⟨its, rv, p, hz⟩ := I.list hq
    obtain ⟨f0, f1, f2, f3, f4, f5⟩ := hf it (by simp)
    have hl := rv.length
    exact wpAny_pyNext_list_end (I.ok.hd hc) st p.isList (by simp; lia) fun h' eb => ⟨rfl, I.turned (t' := s.toks) (fun b o hb e => eb b o hb e) f0 f1 f3 f4 f5⟩
  self := fun _ _ _ _ _ st h => wpAny_pyIter_listiter st h
theorem turn_tuple {P : Program} {w : World} {K : PySem.W.Frag} {tg : Expr} (a it : Addr) : Turn P w K tg (Itt K a) [it] it (fun i h => h.IsTupleIter it a i) where
  mem := by simp
  obj := fun i h st b hb => by
    have e : b = it := by simpa using hb
    subst e
    obtain ⟨o, e, c, d⟩ := st
    exact ⟨o, e, fun v z => by rw [d] at z; cases z⟩
  keep := fun i h h' st k => st.at fun o e => k it (by simp) o e
  item := by
    intro X hP hw hK hc i pins s σ H E I hf st hg
    subst hP hw hK
    obtain ⟨xs, x, hq, hx⟩ := hg
    obtain ⟨its, rv, p, hz⟩ := I.tuple hq
    obtain ⟨u, hu, ru⟩ := rv.get hx
    obtain ⟨f0, f1, f2, f3, f4, f5⟩ := hf it (by simp)
    refine wpAny_pyNext_tuple_item st (show s.heap.IsTuple a its.toArray from p) (x := u) (by simpa using hu) fun h' st' sb => ?_
    have I1 : Inv X pins σ H { s with heap := h' } := I.turned (t' := s.toks) (fun b o hb e => (sb.2 b hb).trans e) f0 f1 f3 f4 f5
    obtain ⟨o, e, c, d⟩ := id st'
    exact ⟨u, rfl, go_of (s := { s with heap := h' }) e c d (by decide) ⟨x, H, I1, ru, ⟨rfl, fun ys hy => by rw [I.tuple_inj hy hq]; exact hx⟩, st', fun b hb => (hf b hb).1⟩⟩
  done := by
    intro X hP hw hK hc i pins s σ H E I hf st hg
    subst hP hw hK
    obtain ⟨xs, hq, hx⟩ := hg
    obtain ⟨its, rv, p, hz⟩ := I.tuple hq
    obtain ⟨f0, f1, f2, f3, f4, f5⟩ := hf it (by simp)
    have hl := rv.length
    exact wpAny_pyNext_tuple_end (I.ok.hd hc) st (show s.heap.IsTuple a its.toArray from p) (by simp; lia) fun h' eb => ⟨rfl, I.turned (t' := s.toks) (fun b o hb e => eb b o hb e) f0 f1 f3 f4 f5⟩
  self := fun _ _ _ _ _ st h => wpAny_pyIter_tupleiter st h
theorem turn_range {P : Program} {w : World} {K : PySem.W.Frag} {tg : Expr} (it : Addr) (lo : Int) (n : Nat) : Turn P w K tg (Itr lo n) [it] it (fun i h => IsRangeIter h it (lo + (i : Nat) * 1) ((n : Int) - (i : Nat)) 1) where
  mem := by simp
  obj := fun i h st b hb => by
    have e : b = it := by simpa using hb
    subst e
    exact ⟨_, st, fun v z => by
      have z' : Data.fields _ = Data.cell v := z
      cases z'⟩
  keep := fun i h h' st k => k it (by simp) _ st
  item := by
    intro X hP hw hK hc i pins s σ H E I hf st hg
    subst hP hw hK
    obtain ⟨f0, f1, f2, f3, f4, f5⟩ := hf it (by simp)
    have W := Walks.range (prog := X.prog) (w := X.w) (I.ok.hd hc) it lo 1 n
    refine W.item i s _ _ hg st fun v h' tk hv st' kk => ?_
    obtain ⟨t, rfl⟩ := hv
    have I1 : Inv X pins σ H { s with heap := h', toks := tk } := I.turned (fun b o hb e => kk b o (by simpa using hb) e) f0 f1 f3 f4 f5
    refine ⟨_, rfl, go_of (s := { s with heap := h', toks := tk }) (n := "range_iterator") st' rfl rfl (by decide) ⟨.int (lo + i), H, I1, ⟨t, ?_⟩, ⟨rfl, rfl⟩, st', fun b hb => (hf b hb).1⟩⟩
    rw [Int.mul_one]
  done := by
    intro X hP hw hK hc i pins s σ H E I hf st hg
    subst hP hw hK
    obtain ⟨f0, f1, f2, f3, f4, f5⟩ := hf it (by simp)
    exact wpAny_pyNext_range_end (I.ok.hd hc) st (by have : n ≤ i := hg; lia) fun h' eb => ⟨rfl, I.turned (t' := s.toks) (fun b o hb e => eb b o hb e) f0 f1 f3 f4 f5⟩
  self := fun _ _ _ _ _ st h => wpAny_pyIter_rangeiter st h
end L2

namespace L2
open PySem PySem.Spec PyProof.Rows
section
variable {X : Cx} {tg : Expr}
def iList (K : PySem.W.Frag) (tl : TE) : TI := fun σ H R => tl σ H fun x H1 => ∃ a, x = .ref a ∧ (∃ xs, SqL K H1 a xs) ∧ R (Itl K a) H1
def iTup (K : PySem.W.Frag) (tl : TE) : TI := fun σ H R => tl σ H fun x H1 => ∃ a, x = .ref a ∧ (∃ xs, SqT K H1 a xs) ∧ R (Itt K a) H1
theorem pi_list {l : Expr} {tl : TE} (hl : PE X l tl) : PI X tg l (iList X.K tl) := by
  intro pins s σ H R I h
  refine thn (hl pins s σ H _ I h) fun v s1 ⟨x, H1, I1, r1, q1⟩ => ?_
  obtain ⟨a, e, ⟨xs, hq⟩, q⟩ := q1
  subst e
  cases r1
  obtain ⟨its, rv, p, hz⟩ := I1.list hq
  refine wpAny_pyIter_list p.isList ?_
  refine ⟨s1.heap.objs.size, [s1.heap.objs.size], _, _, H1, rfl, I1.kept (t' := s1.toks) fun b o e => Heap.get?_push_of_some _ e, turn_list a _, ⟨_, Heap.get?_push_size _ rfl, rfl, rfl⟩, fun b hb => ?_, q⟩
  have e : b = s1.heap.objs.size := by simpa using hb
  subst e
  exact I1.fpOk (Nat.le_refl _) (I1.hok.fresh (Nat.le_refl _))
theorem pi_tup {l : Expr} {tl : TE} (hl : PE X l tl) : PI X tg l (iTup X.K tl) := by
  intro pins s σ H R I h
  refine thn (hl pins s σ H _ I h) fun v s1 ⟨x, H1, I1, r1, q1⟩ => ?_
  obtain ⟨a, e, ⟨xs, hq⟩, q⟩ := q1
  subst e
  cases r1
  obtain ⟨its, rv, p, hz⟩ := I1.tuple hq
  refine wpAny_pyIter_tuple (show s1.heap.IsTuple a its.toArray from p) ?_
  refine ⟨s1.heap.objs.size, [s1.heap.objs.size], _, _, H1, rfl, I1.kept (t' := s1.toks) fun b o e => Heap.get?_push_of_some _ e, turn_tuple a _, ⟨_, Heap.get?_push_size _ rfl, rfl, rfl⟩, fun b hb => ?_, q⟩
  have e : b = s1.heap.objs.size := by simpa using hb
  subst e
  exact I1.fpOk (Nat.le_refl _) (I1.hok.fresh (Nat.le_refl _))
/-- a range object just made, walked -/
theorem range_it {pins : List (Addr × Obj)} {σ : St} {H : Hp} {s : Shared} {R : It → Hp → Prop} {E : Value → Shared → Prop} {lo hi : Int} {t u v : Tok} {tk : Nat} (I : Inv X pins σ H s) (h1 : -(2 ^ 62) ≤ lo) (h2 : lo < 2 ^ 62) (h3 : -(2 ^ 62) ≤ hi) (h4 : hi < 2 ^ 62)
    (q : R (Itr lo (hi - lo).toNat) H) : wpAny (model X.prog X.w) X.A (pyIter (.ref s.heap.objs.size)) (PIE X pins σ tg R) E { s with heap := s.heap.push { cls := .type "range", data := .fields #[.int lo t, .int hi u, .int 1 v] }, toks := tk } := by
  refine wpAny_pyIter_range (IsRange.new ..) (small_one h1 h2 h3 h4) ?_
  have I1 : Inv X pins σ H { s with heap := s.heap.push { cls := .type "range", data := .fields #[.int lo t, .int hi u, .int 1 v] }, toks := tk } := I.kept fun b o e => Heap.get?_push_of_some _ e
  refine ⟨(s.heap.push { cls := .type "range", data := .fields #[.int lo t, .int hi u, .int 1 v] }).objs.size, [(s.heap.push { cls := .type "range", data := .fields #[.int lo t, .int hi u, .int 1 v] }).objs.size], _, _, H, rfl,
    I1.kept (t' := tk) fun b o e => Heap.get?_push_of_some _ e, turn_range _ lo (hi - lo).toNat, ?_, fun b hb => ?_, q⟩
  · have e1 : lo + ((0 : Nat) : Int) * 1 = lo := by simp
    have e2 : (((hi - lo).toNat : Nat) : Int) - ((0 : Nat) : Int) = Builtin.Range.rangeSize lo hi 1 := by rw [rangeSize_one]; split <;> lia
    show IsRangeIter _ _ (lo + ((0 : Nat) : Int) * 1) ((((hi - lo).toNat : Nat) : Int) - ((0 : Nat) : Int)) 1
    rw [e1, e2]
    exact Heap.get?_push_size _ rfl
  · have e : b = (s.heap.push { cls := .type "range", data := .fields #[.int lo t, .int hi u, .int 1 v] }).objs.size := by simpa using hb
    subst e
    exact I1.fpOk (Nat.le_refl _) (I1.hok.fresh (Nat.le_refl _))
def iRng1 (ta : TA) : TI := fun σ H R => ta σ H fun vs H1 => ∃ j : Int, vs = [.int j] ∧ -(2 ^ 62) ≤ j ∧ j < 2 ^ 62 ∧ R (Itr 0 j.toNat) H1
theorem pi_range1 {a : Expr} {ta : TA} {p pos : Pos} (hg : Gl X "range") (hm : X.mg "range" = none) (ha : PA X [a] ta) (hs : starEach [a] X.env = [(false, eval a X.env)] := by rfl) : PI X tg (.Call (.Name "range" p) [a] [] pos) (iRng1 ta) := by
  intro pins s σ H R I h
  refine Call_ (ld_blt I hg hm boot_range (PyProof.Rows.callWith_type1 (thn (ha pos pins s σ H _ I h) fun us s1 ⟨vs, H1, I1, r1, q1⟩ => ?_) hs rfl))
  obtain ⟨j, e, q1, q2, q⟩ := q1
  subst e
  cases r1 with
  | cons r rr =>
    cases rr
    obtain ⟨t, rfl⟩ := r
    exact call_range_1 (range_it I1 (by lia) (by lia) q1 q2 (by simpa using q))
/-! ### for -/
/-- W: the invariant by the turn and a measure; N: what the body is to reach -/
def tFor (wi : TI) (g : TG) (tb : TS) : TS := fun D σ H => wi σ H fun J H1 => ∃ W : Nat → Nat → St → Hp → Prop, (∃ m, W 0 m σ H1) ∧ ∀ i m σ H, W i m σ H →
  (J.stop i H ∧ D.nx σ H) ∨ (J.go i H ∧ ∃ N : St → Hp → Prop, (∀ σ' H', N σ' H' → ∃ m', m' < m ∧ W (i + 1) m' σ' H') ∧ ∀ x H', J.yld i H x H' → g x σ H' fun σ2 H2 => tb { D with nx := N, ct := N, bk := D.nx } σ2 H2)
/-- the records at fp as they stand -/
def pinsAt (fp : List Addr) (h : Heap) : List (Addr × Obj) := fp.filterMap fun b => (h.get? b).map fun o => (b, o)
theorem mem_pinsAt {fp : List Addr} {h : Heap} {b : Addr} {o : Obj} (hb : b ∈ fp) (e : h.get? b = some o) : (b, o) ∈ pinsAt fp h := List.mem_filterMap.mpr ⟨b, hb, by rw [e]; rfl⟩
theorem of_pinsAt {fp : List Addr} {h : Heap} {p : Addr × Obj} (hp : p ∈ pinsAt fp h) : p.1 ∈ fp ∧ h.get? p.1 = some p.2 := by
  obtain ⟨b, hb, e⟩ := List.mem_filterMap.mp hp
  cases q : h.get? b with
  | none => rw [q] at e; cases e
  | some o =>
    rw [q] at e
    have e' : (b, o) = p := Option.some.inj e
    subst e'
    exact ⟨hb, q⟩
theorem Inv.pinned {pins : List (Addr × Obj)} {σ : St} {H : Hp} {s : Shared} {fp : List Addr} (I : Inv X pins σ H s) (hf : ∀ b ∈ fp, FpOk X pins H b) (ho : ∀ b ∈ fp, ∃ o, s.heap.get? b = some o ∧ ∀ v, o.data ≠ .cell v) : Inv X (pins ++ pinsAt fp s.heap) σ H s :=
  I.pins_of fun p hp => (List.mem_append.mp hp).elim (fun z => I.pin p (List.mem_append_right _ z)) fun z => by
    obtain ⟨hb, e⟩ := of_pinsAt z
    obtain ⟨f0, f1, f2, _⟩ := hf p.1 hb
    obtain ⟨o, e', d⟩ := ho p.1 hb
    rw [e] at e'; cases e'
    exact ⟨e, f0, f1, f2, d⟩
theorem Inv.unpinned {pins pl : List (Addr × Obj)} {σ : St} {H : Hp} {s : Shared} (I : Inv X (pins ++ pl) σ H s) : Inv X pins σ H s := I.pins_of fun p hp => I.pin p (List.mem_append_right _ (List.mem_append_left _ hp))
theorem ps_for {iter : Expr} {body : List Stmt} {wi : TI} {g : TG} {tb : TS} {pos : Pos} (hp : PassesOwn (model X.prog X.w) X.A X.env X.xe) (hc : X.calm = true) (hi : PI X tg iter wi) (hg : PG X tg g) (hb : PSs X body tb)
    (hs : ∀ x, foldedSetIterable iter X.env x = pure x := by intro _; rfl) : PS X (.For tg iter body [] pos) (tFor wi g tb) := by
  intro pins s σ H D I h
  refine wpAny_For (thn (hi pins s σ H _ I h) fun v s1 h1 => thn h1 fun itv s2 h2 => ?_) hs
  obtain ⟨it, fp, tn, J, H2, e, I2, T, st2, f2, W, ⟨m0, w0⟩, turn⟩ := h2
  subst e
  -- what stays true of the iterator's objects through the loop
  have stat : ∀ {H' : Hp}, (∀ b ∈ fp, H' b = none) → ∀ b ∈ fp, FpOk X pins H' b := fun hn b hb => ⟨hn b hb, (f2 b hb).2⟩
  refine codeAny_forLoop_any (fun n s' => ∃ i σ' H', Inv X pins σ' H' s' ∧ tn i s'.heap ∧ (∀ b ∈ fp, H' b = none) ∧ W i n σ' H') ?_ m0 ⟨0, σ, H2, I2, st2, fun b hb => (f2 b hb).1, w0⟩
  rintro n s3 ⟨i, σ3, H3, I3, st3, fr3, w3⟩
  rcases turn i n σ3 H3 w3 with ⟨stop, qn⟩ | ⟨go, N, hN, step⟩
  · refine wpAny_passesOwn hp (thn (T.done X rfl rfl rfl hc i pins s3 σ3 H3 X.xe I3 (stat fr3) st3 stop) fun r s4 ⟨hr, I4⟩ => ?_)
    subst hr
    exact wpAny_execs_nil ⟨σ3, H3, I4, qn⟩
  · refine wpAny_passesOwn hp (thn (T.item X rfl rfl rfl hc i pins s3 σ3 H3 X.xe I3 (stat fr3) st3 go) fun r s4 ⟨u, hr, h4⟩ => ?_)
    subst hr
    refine wpAny_passesOwn hp (thn h4 fun _ s5 ⟨x, H5, I5, r5, y5, st5, fr5⟩ => ?_)
    have I5' := I5.pinned (stat fr5) (T.obj _ _ st5)
    refine wpAny_passesOwn hp (thn (hg _ s5 σ3 H5 x u _ I5' r5 (step x H5 y5)) fun _ s6 ⟨σ6, H6, I6, q6⟩ => ?_)
    refine wpAny_passesOwn hp (thn (hb _ s6 σ6 H6 _ I6 q6) fun f s7 q7 => ?_)
    have again : ∀ {σ7 : St} {H7 : Hp}, Inv X (pins ++ pinsAt fp s5.heap) σ7 H7 s7 → N σ7 H7 → ∃ m, m < n ∧ ∃ i σ' H', Inv X pins σ' H' s7 ∧ tn i s7.heap ∧ (∀ b ∈ fp, H' b = none) ∧ W i m σ' H' := fun {σ7 H7} I7 n7 => by
      obtain ⟨m', hm, w7⟩ := hN σ7 H7 n7
      refine ⟨m', hm, i + 1, σ7, H7, I7.unpinned, T.keep _ _ _ st5 fun b hb o e => (I7.pin (b, o) (List.mem_append_right _ (List.mem_append_right _ (mem_pinsAt hb e)))).1, fun b hb => ?_, w7⟩
      obtain ⟨o, e, d⟩ := T.obj _ _ st5 b hb
      exact (I7.pin (b, o) (List.mem_append_right _ (List.mem_append_right _ (mem_pinsAt hb e)))).2.1
    cases f with
    | next => obtain ⟨σ7, H7, I7, n7⟩ := q7; exact again I7 n7
    | cont => obtain ⟨σ7, H7, I7, n7⟩ := q7; exact again I7 n7
    | brk => obtain ⟨σ7, H7, I7, q7⟩ := q7; exact ⟨σ7, H7, I7.unpinned, q7⟩
    | ret v => obtain ⟨x7, σ7, H7, I7, r7, q7⟩ := q7; exact ⟨x7, σ7, H7, I7.unpinned, r7, q7⟩
end

/-! ### the forms one uses -/
theorem for_range {lo : Int} {n : Nat} {g : TG} {tb : TS} {D : Ends} {σ : St} {H : Hp} (Pv : Nat → St → Hp → Prop) (h0 : Pv 0 σ H)
    (hs : ∀ i σ H, i < n → Pv i σ H → g (.int (lo + i)) σ H fun σ2 H2 => tb { D with nx := Pv (i + 1), ct := Pv (i + 1), bk := D.nx } σ2 H2) (hd : ∀ σ H, Pv n σ H → D.nx σ H) :
    ∃ W : Nat → Nat → St → Hp → Prop, (∃ m, W 0 m σ H) ∧ ∀ i m σ H, W i m σ H →
      ((Itr lo n).stop i H ∧ D.nx σ H) ∨ ((Itr lo n).go i H ∧ ∃ N : St → Hp → Prop, (∀ σ' H', N σ' H' → ∃ m', m' < m ∧ W (i + 1) m' σ' H') ∧ ∀ x H', (Itr lo n).yld i H x H' → g x σ H' fun σ2 H2 => tb { D with nx := N, ct := N, bk := D.nx } σ2 H2) := by
  refine ⟨fun i m σ H => m = n - i ∧ i ≤ n ∧ Pv i σ H, ⟨n, by simp, Nat.zero_le _, h0⟩, ?_⟩
  rintro i m σ H ⟨rfl, hi, p⟩
  by_cases hlt : i < n
  · refine .inr ⟨hlt, Pv (i + 1), fun σ' H' p' => ⟨n - (i + 1), by lia, rfl, hlt, p'⟩, fun x H' y => ?_⟩
    obtain ⟨e, y⟩ := y
    subst e y
    exact hs i σ _ hlt p
  · have e : i = n := by lia
    subst e
    exact .inl ⟨Nat.le_refl _, hd σ H p⟩
end L2

namespace L2
open PySem PySem.Spec PyProof.Rows

abbrev R2 := V → V → Hp → VK → Prop
/-- a two-place operation on values: f is binaryOp op, inplaceOp op or compareOp op -/
def OpR (X : Cx) (f : Value → Value → Sem Value) (r : R2) : Prop :=
  ∀ (pins : List (Addr × Obj)) (s : Shared) (σ : St) (H : Hp) (x y : V) (v u : Value) (Q : VK), Inv X pins σ H s → RelV x v → RelV y u → r x y H Q →
    wpAny (model X.prog X.w) X.A (f v u) (EP X pins σ Q) X.xe s
/-- a one-place operation -/
def UnR (X : Cx) (f : Value → Sem Value) (r : V → Hp → VK → Prop) : Prop :=
  ∀ (pins : List (Addr × Obj)) (s : Shared) (σ : St) (H : Hp) (x : V) (v : Value) (Q : VK), Inv X pins σ H s → RelV x v → r x H Q →
    wpAny (model X.prog X.w) X.A (f v) (EP X pins σ Q) X.xe s
/-- a call of a value that is known (a builtin, a type) with values -/
def CallR (X : Cx) (f : Value) (r : List V → Hp → VK → Prop) : Prop :=
  ∀ (pins : List (Addr × Obj)) (s : Shared) (σ : St) (H : Hp) (xs : List V) (us : List Value) (Q : VK), Inv X pins σ H s → Vals xs us → r xs H Q →
    wpAny (model X.prog X.w) X.A (call f us) (EP X pins σ Q) X.xe s
def tOp (r : R2) (ta tb : TE) : TE := fun σ H Q => ta σ H fun x H1 => tb σ H1 fun y H2 => r x y H2 Q
def tUn (r : V → Hp → VK → Prop) (ta : TE) : TE := fun σ H Q => ta σ H fun x H1 => r x H1 Q
/-- ints in, under C, and a value out -/
def rI (C : Int → Int → Prop) (g : Int → Int → V) : R2 := fun x y H Q => ∃ i j, x = .int i ∧ y = .int j ∧ C i j ∧ Q (g i j) H
def rI0 (g : Int → Int → V) : R2 := fun x y H Q => ∃ i j, x = .int i ∧ y = .int j ∧ Q (g i j) H
def rU (g : Int → V) : V → Hp → VK → Prop := fun x H Q => ∃ i, x = .int i ∧ Q (g i) H

section
variable {X : Cx} {a b c : Expr} {ta tb tc : TE} {pos : Pos}

theorem binT (ha : PE X a ta) (hb : PE X b tb) {pins : List (Addr × Obj)} {s : Shared} {σ : St} {H : Hp} {R : V → V → Hp → Prop} (I : Inv X pins σ H s)
    (h : ta σ H fun x H1 => tb σ H1 fun y H2 => R x y H2) {Q : Value → Shared → Prop} {f : Value → Value → Sem Value}
    (hf : ∀ v u s2 x y H2, Inv X pins σ H2 s2 → RelV x v → RelV y u → R x y H2 → wpAny (model X.prog X.w) X.A (f v u) Q X.xe s2) :
    wpAny (model X.prog X.w) X.A (eval a X.env) (fun v s₁ => wpAny (model X.prog X.w) X.A (eval b X.env) (fun u s₂ => wpAny (model X.prog X.w) X.A (f v u) Q X.xe s₂) X.xe s₁) X.xe s := by
  refine thn (ha pins s σ H _ I h) fun v s1 ⟨x, H1, I1, r1, q1⟩ => ?_
  refine thn (hb pins s1 σ H1 _ I1 q1) fun u s2 ⟨y, H2, I2, r2, q2⟩ => ?_
  exact hf v u s2 x y H2 I2 r1 r2 q2

theorem pe_op {op : Operator} {r : R2} (ho : OpR X (binaryOp op) r) (ha : PE X a ta) (hb : PE X b tb) : PE X (.BinOp a op b pos) (tOp r ta tb) := by
  intro pins s σ H Q I h
  exact wpAny_BinOp (binT ha hb I h fun v u s2 x y H2 I2 rx ry q => ho pins s2 σ H2 x y v u Q I2 rx ry q)
theorem pe_un {op : UnaryOp} {r : V → Hp → VK → Prop} (ho : UnR X (unaryOp op) r) (ha : PE X a ta) : PE X (.UnaryOp op a pos) (tUn r ta) := by
  intro pins s σ H Q I h
  exact UnaryOp_ (thn (ha pins s σ H _ I h) fun v s1 ⟨x, H1, I1, r1, q1⟩ => ho pins s1 σ H1 x v Q I1 r1 q1)
/-! ### ints -/
theorem opI {f : Value → Value → Sem Value} {C : Int → Int → Prop} {g : Int → Int → Int}
    (rule : ∀ (i j : Int) (t u : Tok) (s : Shared) (Q : Value → Shared → Prop) (E : Value → Shared → Prop), C i j → Q (.int (g i j) s.toks) { s with toks := s.toks + 1 } → wpAny (model X.prog X.w) X.A (f (.int i t) (.int j u)) Q E s) :
    OpR X f (rI C fun i j => .int (g i j)) := by
  intro pins s σ H x y v u Q I rx ry h
  obtain ⟨i, j, rfl, rfl, hc, q⟩ := h
  obtain ⟨t, rfl⟩ := rx
  obtain ⟨t', rfl⟩ := ry
  exact rule i j t t' s _ _ hc ⟨.int (g i j), H, I.tok _, ⟨_, rfl⟩, q⟩
theorem opI0 {f : Value → Value → Sem Value} {g : Int → Int → Int}
    (rule : ∀ (i j : Int) (t u : Tok) (s : Shared) (Q : Value → Shared → Prop) (E : Value → Shared → Prop), Q (.int (g i j) s.toks) { s with toks := s.toks + 1 } → wpAny (model X.prog X.w) X.A (f (.int i t) (.int j u)) Q E s) :
    OpR X f (rI0 fun i j => .int (g i j)) := by
  intro pins s σ H x y v u Q I rx ry h
  obtain ⟨i, j, rfl, rfl, q⟩ := h
  obtain ⟨t, rfl⟩ := rx
  obtain ⟨t', rfl⟩ := ry
  exact rule i j t t' s _ _ ⟨.int (g i j), H, I.tok _, ⟨_, rfl⟩, q⟩
theorem opB0 {f : Value → Value → Sem Value} {g : Int → Int → Bool}
    (rule : ∀ (i j : Int) (t u : Tok) (s : Shared) (Q : Value → Shared → Prop) (E : Value → Shared → Prop), Q (.bool (g i j)) s → wpAny (model X.prog X.w) X.A (f (.int i t) (.int j u)) Q E s) :
    OpR X f (rI0 fun i j => .bl (g i j)) := by
  intro pins s σ H x y v u Q I rx ry h
  obtain ⟨i, j, rfl, rfl, q⟩ := h
  obtain ⟨t, rfl⟩ := rx
  obtain ⟨t', rfl⟩ := ry
  exact rule i j t t' s _ _ ⟨.bl (g i j), H, I, rfl, q⟩

def CDiv (i j : Int) : Prop := 0 < j ∧ j < 1073741824
def CPow (i j : Int) : Prop := 0 ≤ j ∧ j ≤ 1000000 ∧ i.natAbs < 2 ^ 64
def CMul (i j : Int) : Prop := (-(2 ^ 64) < i ∧ i < 2 ^ 64) ∨ (-(2 ^ 64) < j ∧ j < 2 ^ 64)
theorem CMul.ok {i j : Int} (h : CMul i j) : IntMulOk i j := by
  rcases h with ⟨h1, h2⟩ | ⟨h1, h2⟩
  · exact .of_left (intBits_le_64 h1 h2)
  · exact .of_right (intBits_le_64 h1 h2)
theorem op_add : OpR X (binaryOp .Add) (rI0 fun i j => .int (i + j)) := opI0 fun _ _ _ _ _ _ _ q => add_int q
theorem op_sub : OpR X (binaryOp .Sub) (rI0 fun i j => .int (i - j)) := opI0 fun _ _ _ _ _ _ _ q => sub_int q
theorem op_mul : OpR X (binaryOp .Mult) (rI CMul fun i j => .int (i * j)) := opI fun _ _ _ _ _ _ _ hc q => mul_int q hc.ok
/-- // by a positive divisor -/
theorem op_fdiv : OpR X (binaryOp .FloorDiv) (rI CDiv fun i j => .int (i / j)) := opI fun i j _ _ _ _ _ hc q => by
  have h1 : (0 : Int) < j := hc.1
  have h2 : j < 1073741824 := hc.2
  exact floordiv_int (by lia) (by rw [Int.fdiv_eq_ediv_of_nonneg i (by lia)]; exact q) (.inl (PyProof.noPylong_small (by lia)))
/-- % by a positive divisor of any size -/
theorem op_mod : OpR X (binaryOp .Mod) (rI (fun _ j => 0 < j) fun i j => .int (i % j)) := opI fun i j _ _ _ _ _ hc q => by
  have h1 : (0 : Int) < j := hc
  exact mod_int' (by lia) (by rw [Int.fmod_eq_emod_of_nonneg i (by lia)]; exact q)
theorem op_pow : OpR X (binaryOp .Pow) (rI CPow fun i j => .int (i ^ j.toNat)) := opI fun _ _ _ _ _ _ _ hc q => pow_int_small hc.1 hc.2.1 hc.2.2 q
theorem unI {f : Value → Sem Value} {g : Int → Int}
    (rule : ∀ (i : Int) (t : Tok) (s : Shared) (Q : Value → Shared → Prop) (E : Value → Shared → Prop), Q (.int (g i) s.toks) { s with toks := s.toks + 1 } → wpAny (model X.prog X.w) X.A (f (.int i t)) Q E s) :
    UnR X f (rU fun i => .int (g i)) := by
  intro pins s σ H x v Q I rx h
  obtain ⟨i, rfl, q⟩ := h
  obtain ⟨t, rfl⟩ := rx
  exact rule i t s _ _ ⟨.int (g i), H, I.tok _, ⟨_, rfl⟩, q⟩
theorem un_neg : UnR X (unaryOp .USub) (rU fun i => .int (-i)) := unI fun _ _ _ _ _ q => neg_int q
/-! ### bools among ints: n += (a < b) -/
end

/-! ### comparisons -/
/-- the scalars that == tells apart as data does -/
def scal : V → V → Bool
  | .non, .non => true | .non, .int _ => true | .int _, .non => true | .non, .bl _ => true | .bl _, .non => true | .non, .str _ => true | .str _, .non => true
  | .int _, .int _ => true | .bl _, .bl _ => true | .str _, .str _ => true | .byt _, .byt _ => true
  | .int _, .str _ => true | .str _, .int _ => true | .bl _, .str _ => true | .str _, .bl _ => true
  | _, _ => false
def rEq : R2 := fun x y H Q => scal x y = true ∧ Q (.bl (decide (x = y))) H
def rNe : R2 := fun x y H Q => scal x y = true ∧ Q (.bl (!decide (x = y))) H

theorem dec_int {i j : Int} : decide (V.int i = V.int j) = (i == j) := by
  rw [Bool.eq_iff_iff]
  simp
theorem dec_bl {i j : Bool} : decide (V.bl i = V.bl j) = (i == j) := by
  rw [Bool.eq_iff_iff]
  simp
theorem dec_str {i j : Str} : decide (V.str i = V.str j) = (i == j) := by
  rw [Bool.eq_iff_iff]
  simp
theorem dec_byt {i j : Array UInt8} : decide (V.byt i = V.byt j) = (i.toList == j.toList) := by
  rw [Bool.eq_iff_iff]
  cases i
  cases j
  simp

section
variable {X : Cx} {a b c : Expr} {ta tb tc : TE} {pos : Pos}
theorem fin_bl {pins : List (Addr × Obj)} {σ : St} {H : Hp} {s : Shared} {Q : VK} {k k' : Bool} (I : Inv X pins σ H s) (q : Q (.bl k) H) (e : k = k') : EP X pins σ Q (.bool k') s := by
  subst e
  exact ⟨.bl k, H, I, rfl, q⟩
theorem op_eq : OpR X (compareOp .Eq) rEq := by
  intro pins s σ H x y v u Q I rx ry h
  obtain ⟨hs, q⟩ := h
  cases x with
  | non =>
    cases rx
    cases y with
    | non => cases ry; exact PySem.EqNone.eq_none_none (fin_bl I q (by simp))
    | bl j => cases ry; exact PySem.EqNone.eq_none_bool (fin_bl I q (by simp))
    | int j => obtain ⟨t', rfl⟩ := ry; exact PySem.EqNone.eq_none_int (fin_bl I q (by simp))
    | str j => obtain ⟨t', rfl⟩ := ry; exact PySem.EqNone.eq_none_str (fin_bl I q (by simp))
    | _ => exact absurd (show false = true from hs) Bool.false_ne_true
  | bl i =>
    cases rx
    cases y with
    | non => cases ry; exact PySem.EqNone.eq_bool_none (fin_bl I q (by simp))
    | bl j => cases ry; exact eq_bool (fin_bl I q dec_bl)
    | str j => obtain ⟨t', rfl⟩ := ry; exact PySem.EqMixed.eq_bool_str (fin_bl I q (by simp))
    | _ => exact absurd (show false = true from hs) Bool.false_ne_true
  | int i =>
    obtain ⟨t, rfl⟩ := rx
    cases y with
    | non => cases ry; exact PySem.EqNone.eq_int_none (fin_bl I q (by simp))
    | int j => obtain ⟨t', rfl⟩ := ry; exact eq_int (fin_bl I q dec_int)
    | str j => obtain ⟨t', rfl⟩ := ry; exact PySem.EqMixed.eq_int_str (fin_bl I q (by simp))
    | _ => exact absurd (show false = true from hs) Bool.false_ne_true
  | str i =>
    obtain ⟨t, rfl⟩ := rx
    cases y with
    | non => cases ry; exact PySem.EqNone.eq_str_none (fin_bl I q (by simp))
    | bl j => cases ry; exact PySem.EqMixed.eq_str_bool (fin_bl I q (by simp))
    | int j => obtain ⟨t', rfl⟩ := ry; exact PySem.EqMixed.eq_str_int (fin_bl I q (by simp))
    | str j => obtain ⟨t', rfl⟩ := ry; exact eq_str (fin_bl I q dec_str)
    | _ => exact absurd (show false = true from hs) Bool.false_ne_true
  | byt i =>
    obtain ⟨t, rfl⟩ := rx
    cases y with
    | byt j => obtain ⟨t', rfl⟩ := ry; exact PySem.W.eq_bytes (fin_bl I q dec_byt)
    | _ => exact absurd (show false = true from hs) Bool.false_ne_true
  | _ => cases y <;> exact absurd (show false = true from hs) Bool.false_ne_true
theorem op_ne : OpR X (compareOp .NotEq) rNe := by
  intro pins s σ H x y v u Q I rx ry h
  obtain ⟨hs, q⟩ := h
  cases x with
  | non =>
    cases rx
    cases y with
    | non => cases ry; exact PySem.EqNone.ne_none_none (fin_bl I q (by simp))
    | bl j => cases ry; exact PySem.EqNone.ne_none_bool (fin_bl I q (by simp))
    | int j => obtain ⟨t', rfl⟩ := ry; exact PySem.EqNone.ne_none_int (fin_bl I q (by simp))
    | str j => obtain ⟨t', rfl⟩ := ry; exact PySem.EqNone.ne_none_str (fin_bl I q (by simp))
    | _ => exact absurd (show false = true from hs) Bool.false_ne_true
  | bl i =>
    cases rx
    cases y with
    | non => cases ry; exact PySem.EqNone.ne_bool_none (fin_bl I q (by simp))
    | bl j => cases ry; exact ne_bool (fin_bl I q (congrArg not dec_bl))
    | str j => obtain ⟨t', rfl⟩ := ry; exact PySem.EqMixed.ne_bool_str (fin_bl I q (by simp))
    | _ => exact absurd (show false = true from hs) Bool.false_ne_true
  | int i =>
    obtain ⟨t, rfl⟩ := rx
    cases y with
    | non => cases ry; exact PySem.EqNone.ne_int_none (fin_bl I q (by simp))
    | int j => obtain ⟨t', rfl⟩ := ry; exact ne_int (fin_bl I q (congrArg not dec_int))
    | str j => obtain ⟨t', rfl⟩ := ry; exact PySem.EqMixed.ne_int_str (fin_bl I q (by simp))
    | _ => exact absurd (show false = true from hs) Bool.false_ne_true
  | str i =>
    obtain ⟨t, rfl⟩ := rx
    cases y with
    | non => cases ry; exact PySem.EqNone.ne_str_none (fin_bl I q (by simp))
    | bl j => cases ry; exact PySem.EqMixed.ne_str_bool (fin_bl I q (by simp))
    | int j => obtain ⟨t', rfl⟩ := ry; exact PySem.EqMixed.ne_str_int (fin_bl I q (by simp))
    | str j => obtain ⟨t', rfl⟩ := ry; exact ne_str (fin_bl I q (congrArg not dec_str))
    | _ => exact absurd (show false = true from hs) Bool.false_ne_true
  | byt i =>
    obtain ⟨t, rfl⟩ := rx
    cases y with
    | byt j => obtain ⟨t', rfl⟩ := ry; exact PySem.W.ne_bytes (fin_bl I q (congrArg not dec_byt))
    | _ => exact absurd (show false = true from hs) Bool.false_ne_true
  | _ => cases y <;> exact absurd (show false = true from hs) Bool.false_ne_true

theorem op_lt : OpR X (compareOp .Lt) (rI0 fun i j => .bl (decide (i < j))) := opB0 fun _ _ _ _ _ _ _ q => lt_int q
theorem op_le : OpR X (compareOp .LtE) (rI0 fun i j => .bl (decide (i ≤ j))) := opB0 fun _ _ _ _ _ _ _ q => le_int q
theorem op_gt : OpR X (compareOp .Gt) (rI0 fun i j => .bl (decide (j < i))) := opB0 fun _ _ _ _ _ _ _ q => gt_int q
theorem op_ge : OpR X (compareOp .GtE) (rI0 fun i j => .bl (decide (j ≤ i))) := opB0 fun _ _ _ _ _ _ _ q => ge_int q
theorem op_lt_str : OpR X (compareOp .Lt) (fun x y H Q => ∃ i j, x = .str i ∧ y = .str j ∧ Q (.bl (decide (i.cps.toList < j.cps.toList))) H) := by
  intro pins s σ H x y v u Q I rx ry h
  obtain ⟨i, j, rfl, rfl, q⟩ := h
  obtain ⟨t, rfl⟩ := rx
  obtain ⟨t', rfl⟩ := ry
  exact lt_str (fin_bl I q rfl)
/-- the one string within the other -/
theorem op_in_str : OpR X (compareOp .In) (fun x y H Q => ∃ i j, x = .str i ∧ y = .str j ∧ Q (.bl (!(Builtin.Str.occurrences j i 0 j.length 1).isEmpty)) H) := by
  intro pins s σ H x y v u Q I rx ry h
  obtain ⟨i, j, rfl, rfl, q⟩ := h
  obtain ⟨t, rfl⟩ := rx
  obtain ⟨t', rfl⟩ := ry
  exact in_str (fin_bl I q rfl)

theorem op_notN : OpR X (compareOp .IsNot) (fun x y H Q => y = .non ∧ Q (.bl (!decide (x = .non))) H) := by
  intro pins s σ H x y v u Q I rx ry h
  obtain ⟨rfl, q⟩ := h
  cases ry
  refine isnot_none_gen (fin_bl I q ?_)
  cases x <;> first
    | (cases rx; rfl)
    | (obtain ⟨t, rfl⟩ := rx; rfl)

/-- two rules for one operation: by cases -/
theorem OpR.or {f : Value → Value → Sem Value} {r r' : R2} (h : OpR X f r) (h' : OpR X f r') : OpR X f (fun x y H Q => r x y H Q ∨ r' x y H Q) := by
  intro pins s σ H x y v u Q I rx ry q
  rcases q with q | q
  · exact h pins s σ H x y v u Q I rx ry q
  · exact h' pins s σ H x y v u Q I rx ry q

theorem nomark (b : Expr) {op : CmpOp} (h : op ≠ .In := by decide) (h2 : op ≠ .NotIn := by decide) : behindInMarks op b = false := by
  have e1 : (op == CmpOp.In) = false := by cases op <;> first | rfl | exact absurd rfl h
  have e2 : (op == CmpOp.NotIn) = false := by cases op <;> first | rfl | exact absurd rfl h2
  cases b <;> simp [behindInMarks, e1, e2]
/-- a comparison as a value; hm: nomark b, or (for in, not in) by with_unfolding_all rfl -/
theorem pe_cmpR {op : CmpOp} {r : R2} (ho : OpR X (compareOp op) r) (ha : PE X a ta) (hb : PE X b tb) (hm : behindInMarks op b = false) : PE X (.Compare a [op] [b] pos) (tOp r ta tb) := by
  intro pins s σ H Q I h
  exact wpAny_Compare1 (binT ha hb I h fun v u s2 x y H2 I2 rx ry q => ho pins s2 σ H2 x y v u Q I2 rx ry q) hm
/-- a reading of a value as a test -/
def tTest (t : TE) : TT := fun σ H Q => t σ H fun x H' => ∃ k, x = .bl k ∧ Q k H'
theorem pt_cmpR {op : CmpOp} {r : R2} (ho : OpR X (compareOp op) r) (ha : PE X a ta) (hb : PE X b tb) (hm : behindInMarks op b = false) : PT X (.Compare a [op] [b] pos) (tTest (tOp r ta tb)) := by
  intro pins s σ H Q I h
  refine wpAny_isTrue_Compare1 (thn (ha pins s σ H _ I h) fun v s1 ⟨x, H1, I1, r1, q1⟩ => thn (hb pins s1 σ H1 _ I1 q1) fun u s2 ⟨y, H2, I2, r2, q2⟩ =>
    thn (ho pins s2 σ H2 x y v u _ I2 r1 r2 q2) fun c s3 ⟨z, H3, I3, r3, k, e, q3⟩ => ?_) hm
  subst e
  cases r3
  exact wpAny_truthy_bool ⟨H3, I3, q3⟩
/-- a op1 b op2 c -/
def tChain (r r' : R2) (ta tb tc : TE) : TE := fun σ H Q => ta σ H fun x H1 => tb σ H1 fun y H2 => r x y H2 fun z H3 => ∃ k, z = .bl k ∧
  (if k = true then tc σ H3 fun w' H4 => r' y w' H4 Q else Q (.bl false) H3)
theorem pt_chain {op op' : CmpOp} {r r' : R2} (ho : OpR X (compareOp op) r) (ho' : OpR X (compareOp op') r') (ha : PE X a ta) (hb : PE X b tb) (hc : PE X c tc)
    (hm : lastMarks [op, op'] [b, c] = false := by with_unfolding_all rfl) : PT X (.Compare a [op, op'] [b, c] pos) (tTest (tChain r r' ta tb tc)) := by
  intro pins s σ H Q I h
  refine isTrue_chain (thn (ha pins s σ H _ I h) fun v s1 ⟨x, H1, I1, r1, q1⟩ => test_link (thn (hb pins s1 σ H1 _ I1 q1) fun u s2 ⟨y, H2, I2, r2, q2⟩ =>
    thn (ho pins s2 σ H2 x y v u _ I2 r1 r2 q2) fun d s3 ⟨z, H3, I3, r3, k, e, q3⟩ => ?_)) hm
  subst e
  cases r3
  refine wpAny_truthy_bool ?_
  cases k with
  | false =>
    obtain ⟨k', e', q'⟩ := q3
    cases e'
    exact ite_ff ⟨H3, I3, q'⟩
  | true =>
    refine ite_tt (test_last (thn (hc pins s3 σ H3 _ I3 q3) fun w' s4 ⟨z', H4, I4, r4, q4⟩ => thn (ho' pins s4 σ H4 y z' u w' _ I4 r2 r4 q4) fun d' s5 ⟨z2, H5, I5, r5, k2, e2, q5⟩ => ?_))
    subst e2
    cases r5
    exact wpAny_truthy_bool ⟨H5, I5, q5⟩

/-! ### truth -/
theorem line63 : (sizeLine : Nat) < 2 ^ 63 := by rw [sizeLine_eq]; decide
/-! ### strs and bytes -/
theorem op_add_str : OpR X (binaryOp .Add) (fun x y H Q => ∃ i j, x = .str i ∧ y = .str j ∧ i.length + j.length ≤ sizeLine ∧ Q (.str (i ++ j)) H) := by
  intro pins s σ H x y v u Q I rx ry h
  obtain ⟨i, j, rfl, rfl, hz, q⟩ := h
  obtain ⟨t, rfl⟩ := rx
  obtain ⟨t', rfl⟩ := ry
  exact add_str (fun t' tk => ⟨.str (i ++ j), H, I.tok _, ⟨_, rfl⟩, q⟩) hz
/-! ### scalar builtins, by CallR -/
theorem vals1 {x : V} {us : List Value} (r : Vals [x] us) : ∃ u, us = [u] ∧ RelV x u := by
  cases r with
  | cons r1 r2 => cases r2; exact ⟨_, rfl, r1⟩
theorem vals2 {x y : V} {us : List Value} (r : Vals [x, y] us) : ∃ u w', us = [u, w'] ∧ RelV x u ∧ RelV y w' := by
  cases r with
  | cons r1 r2 =>
    cases r2 with
    | cons r3 r4 => cases r4; exact ⟨_, _, rfl, r1, r3⟩
theorem call_abs : CallR X (.builtin "abs") (fun xs H Q => ∃ i, xs = [.int i] ∧ Q (.int (if i < 0 then -i else i)) H) := by
  intro pins s σ H xs us Q I r h
  obtain ⟨i, rfl, q⟩ := h
  obtain ⟨u, rfl, t, rfl⟩ := vals1 r
  exact call_abs_int fun u tk => ⟨.int (if i < 0 then -i else i), H, I.tok _, ⟨_, rfl⟩, q⟩
theorem call_max2 (hc : X.calm = true) : CallR X (.builtin "max") (fun xs H Q => ∃ i j, xs = [.int i, .int j] ∧ Q (.int (if j > i then j else i)) H) := by
  intro pins s σ H xs us Q I r h
  obtain ⟨i, j, rfl, q⟩ := h
  obtain ⟨u, w', rfl, ⟨t, rfl⟩, ⟨t', rfl⟩⟩ := vals2 r
  refine max_two_ints (I.ok.hd hc) fun h' tk k => ⟨_, H, I.kept k, ?_, q⟩
  by_cases hj : j > i
  · rw [if_pos hj, if_pos hj]; exact ⟨_, rfl⟩
  · rw [if_neg hj, if_neg hj]; exact ⟨_, rfl⟩
theorem call_min2 (hc : X.calm = true) : CallR X (.builtin "min") (fun xs H Q => ∃ i j, xs = [.int i, .int j] ∧ Q (.int (if j < i then j else i)) H) := by
  intro pins s σ H xs us Q I r h
  obtain ⟨i, j, rfl, q⟩ := h
  obtain ⟨u, w', rfl, ⟨t, rfl⟩, ⟨t', rfl⟩⟩ := vals2 r
  refine min_two_ints (I.ok.hd hc) fun h' tk k => ⟨_, H, I.kept k, ?_, q⟩
  by_cases hj : j < i
  · rw [if_pos hj, if_pos hj]; exact ⟨_, rfl⟩
  · rw [if_neg hj, if_neg hj]; exact ⟨_, rfl⟩
theorem call_int1 : CallR X (.type "int") (fun xs H Q => (∃ i, xs = [.int i] ∧ Q (.int i) H) ∨ ∃ k, xs = [.bl k] ∧ Q (.int (if k then 1 else 0)) H) := by
  intro pins s σ H xs us Q I r h
  rcases h with ⟨i, rfl, q⟩ | ⟨k, rfl, q⟩
  · obtain ⟨u, rfl, t, rfl⟩ := vals1 r
    exact call_int_int ⟨.int i, H, I, ⟨_, rfl⟩, q⟩
  · obtain ⟨u, rfl, r1⟩ := vals1 r
    cases r1
    exact call_int_bool ⟨.int (if k then 1 else 0), H, I.tok _, ⟨_, rfl⟩, q⟩
end
end L2

namespace L2
open PySem PySem.Spec PyProof.Rows

/-! ### an instance, its attributes a map -/
structure ObjM (h : Heap) (x dx C : Addr) (mA : Str → Option Value) : Prop where
  obj : h.get? x = some (PySem.W.instObj C dx)
  ns : h.Ns1 dx mA
  ne : dx ≠ x

theorem lookIn_ns {h : Heap} {dx : Addr} {mA : Str → Option Value} (n : h.Ns1 dx mA) : ∃ od, h.get? dx = some od ∧ ∀ name, PySem.W.lookIn name od = some (mA name) := by
  obtain ⟨o, es, ep, ho, hd, hk, _, hm⟩ := n
  refine ⟨o, ho, fun name => ?_⟩
  have e := hm name
  unfold nsFind findBy at e
  rw [← Array.find?_toList] at e
  unfold PySem.W.lookIn
  rw [hd]
  dsimp only
  split
  · rename_i y q
    rw [q] at e
    exact congrArg some e
  · rename_i q
    rw [q] at e
    have a : es.toList.any (·.refKey) = false := by
      rw [List.any_eq_false]
      intro y hy
      obtain ⟨z, t, hkey⟩ := hk y (Array.mem_toList_iff.mp hy)
      simp [DictEntry.refKey, hkey]
    have a' : ¬ es.toList.any (·.refKey) = true := by rw [a]; exact Bool.false_ne_true
    rw [if_neg a']
    exact congrArg some e

theorem ObjM.look {h : Heap} {x dx C : Addr} {mA : Str → Option Value} (I : ObjM h x dx C mA) : ∃ od, PySem.W.InstAt h x (PySem.W.instObj C dx) C (some od) ∧ ∀ name, PySem.W.lookIn name od = some (mA name) :=
  let ⟨od, ho, hl⟩ := lookIn_ns I.ns
  ⟨od, ⟨I.obj, rfl, rfl, ho⟩, hl⟩

section
variable {prog : Program} {w : World} {A : Around} {E : Value → Shared → Prop} {s : Shared} {K : PySem.W.Frag} {x dx C f : Addr} {mA : Str → Option Value} {name : Str} {v : Value}

end

/-! ### the attributes as a list of pairs -/
theorem RelO.some_of {v : V} {o : Option Value} (r : RelO (some v) o) : ∃ u, o = some u ∧ RelV v u := by
  cases o with
  | none => exact (show False from r).elim
  | some u => exact ⟨u, rfl, r⟩
section
variable {P : Program} {w : World} {H H' : Hp} {h h' : Heap} {a C dx : Addr} {fs fs' : List (Str × V)}
end

/-! ### what of the text a class must have -/
structure Cls (K : PySem.W.Frag) (C : Addr) : Prop where
  pg : PySem.W.plainGet K C Str.empty = true
  hd : PySem.W.hasDictIn K C = true
  po : PySem.W.plainOver K C = true
  sa : PySem.W.findIn K (.ref C) "__setattr__" = some (some (.builtin "object.__setattr__"))
theorem Cls.get {K : PySem.W.Frag} {C : Addr} (c : Cls K C) (f : Str) : PySem.W.plainGet K C f = true := c.pg
/-- a constant of the class -/
structure Con (K : PySem.W.Frag) (C : Addr) (f : Str) (v : V) (u : Value) : Prop where
  at_ : PySem.W.findIn K (.ref C) f = some (some u)
  rel : RelV v u
  get : PySem.W.specialIn K u "__get__" = some none
  cp : PySem.W.copiedNames.contains f = false
/-- a method: a plain def of the class or of one above it -/
structure Meth (K : PySem.W.Frag) (C : Addr) (m : Str) (f : Addr) : Prop where
  at_ : PySem.W.findIn K (.ref C) m = some (some (.ref f))
  fn : PySem.W.isFn K (.ref f) = true
  kp : PySem.W.keepIn K (.ref f) = true

section
variable {X : Cx} {pins : List (Addr × Obj)} {σ : St} {H : Hp} {s : Shared} {a C dx : Addr} {fs : List (Str × V)} {f : Str} {v : V} {A : Around} {E : Value → Shared → Prop}

/-- a new instance, tracked, without attributes -/
theorem Inv.made (I : Inv X pins σ H s) : Inv X pins σ (upd (upd H s.heap.objs.size (.own (s.heap.objs.size + 1))) (s.heap.objs.size + 1) (.ins C s.heap.objs.size []))
    { s with heap := (s.heap.push PySem.W.emptyDict).push (PySem.W.instObj C s.heap.objs.size) } := by
  have e1 : (s.heap.push PySem.W.emptyDict).get? s.heap.objs.size = some PySem.W.emptyDict := Heap.get?_push_size s.heap rfl
  have e2 : ((s.heap.push PySem.W.emptyDict).push (PySem.W.instObj C s.heap.objs.size)).get? (s.heap.objs.size + 1) = some (PySem.W.instObj C s.heap.objs.size) := by
    have := Heap.get?_push_size (s.heap.push PySem.W.emptyDict) (o := PySem.W.instObj C s.heap.objs.size) rfl
    rwa [Heap.size_push] at this
  have e3 : (s.heap.push PySem.W.emptyDict).Ns s.heap.objs.size (fun _ => none) := ⟨PySem.W.emptyDict, #[], _, e1, rfl, (fun e he => absurd he (by simp)), fun _ => rfl⟩
  have I1 := I.laid (a := s.heap.objs.size) (o := .own (s.heap.objs.size + 1)) (h' := s.heap.push PySem.W.emptyDict) (t' := s.toks) (fun b u q => Heap.get?_push_of_some _ q) (Nat.le_refl _) ⟨_, e1⟩
  refine I1.laid (a := s.heap.objs.size + 1) (o := .ins C s.heap.objs.size []) (t' := s.toks) (fun b u q => Heap.get?_push_of_some _ q) (Nat.le_of_eq (Heap.size_push _ _)) ?_
  have ne : s.heap.objs.size ≠ s.heap.objs.size + 1 := Nat.ne_of_lt (Nat.lt_succ_self _)
  refine ⟨by rw [upd_ne ne, upd_same], Nat.zero_le _, ne, e2, fun _ => none, (Heap.Ns1.of_empty e3).at fun o q => Heap.get?_push_of_some _ q, fun _ => True.intro, fun y hy => absurd rfl hy⟩

end

/-! ### readings and rules -/
section
variable {X : Cx} {o e value : Expr} {f : Str} {pos pos' tpos : Pos} {ta tv : TE}
end

/-! ### isinstance -/
section
variable {X : Cx} {pins : List (Addr × Obj)} {σ : St} {H : Hp} {s : Shared} {A : Around} {E : Value → Shared → Prop} {Q : Value → Shared → Prop} {c : Value} {b : Bool}
/-- the type of a value, as the fragment's deciders take it; for an instance its class -/
inductive TyOf (K : PySem.W.Frag) (H : Hp) : V → Value → Prop where
  | non : TyOf K H .non (.type "NoneType")
  | bl (x : Bool) : TyOf K H (.bl x) (.type "bool")
  | int (i : Int) : TyOf K H (.int i) (.type "int")
  | str (x : Str) : TyOf K H (.str x) (.type "str")
  | flt (x : UInt64) : TyOf K H (.flt x) (.type "float")
  | lst {a : Addr} {xs : List V} (e : H a = some (.lst xs)) : TyOf K H (.ref a) (.type "list")
  | frz {a : Addr} {o : Obj} {xs : List V} (e : H a = some (.frz o (.lst xs))) : TyOf K H (.ref a) (.type "list")
  | tup {a : Addr} {xs : List V} (e : H a = some (.tup xs)) : TyOf K H (.ref a) (.type "tuple")
  | dK {a : Addr} {kvs : List (Key × V)} (e : H a = some (.dK kvs)) : TyOf K H (.ref a) (.type "dict")
  | dT {a : Addr} {kvs : List (List Key × V)} (e : H a = some (.dT kvs)) : TyOf K H (.ref a) (.type "dict")
  | ins {a C dx : Addr} {fs : List (Str × V)} (e : H a = some (.ins C dx fs)) (cl : Cls K C) (ha : PySem.W.findIn K (.ref C) "__class__" = some (some (.builtin "object.__class__")))
      (hn : PySem.W.specialIn K (.builtin "object.__class__") "__get__" = some (some (.builtin "getset_descriptor.__get__"))) (htk : PySem.W.takesIn K (.builtin "object.__class__") = some true)
      (hm : PySem.W.mroIn K C (.type "object") = some true) : TyOf K H (.ref a) (.ref C)
end
end L2

namespace L2
open PySem PySem.Spec PyProof.Rows

/-! ### room -/
structure Room (k : Nat) (A : Around) : Prop where
  hd : A.handled = none
  dp : A.depth + 3 * k + 5 < recursionLimit
  un : A.units + 16 * k + 200 < cLine
theorem Room.mono {j k : Nat} {A : Around} (r : Room k A) (h : j ≤ k) : Room j A := ⟨r.hd, by have := r.dp; lia, by have := r.un; lia⟩
theorem Room.deeper {k : Nat} {A : Around} (r : Room (k + 1) A) (env : Env) : Room k (A.deeper env) :=
  ⟨r.hd, by have := r.dp; show A.depth + 1 + 3 * k + 5 < _; lia, by have := r.un; show A.units + 3 + 16 * k + 200 < _; lia⟩
theorem Room.in1 {k : Nat} {A : Around} (r : Room (k + 1) A) : Room k A.in1 :=
  ⟨r.hd, by have := r.dp; show A.depth + 3 * k + 5 < _; lia, by have := r.un; show A.units + 1 + 16 * k + 200 < _; lia⟩
theorem make_depth {A : Around} {C : Addr} {us : List Value} {kw : List (Str × Value)} : (A.under (.builtin "type.__call__" ⟨.ref C :: us, kw⟩)).depth = A.depth + 1 := by
  first | rfl | simp [Around.under, Code.weight, Code.isCreation, Code.isGuard, Code.isCaller, Code.frames, Code.isFrame, guardIds]
theorem make_units {A : Around} {C : Addr} {us : List Value} {kw : List (Str × Value)} : (A.under (.builtin "type.__call__" ⟨.ref C :: us, kw⟩)).units = A.units + 1 := by
  first | rfl | simp [Around.under, Code.cUnits, Code.frames, Code.isFrame]
theorem Room.make {k : Nat} {A : Around} (r : Room (k + 1) A) (C : Addr) (us : List Value) (kw : List (Str × Value)) : Room k (A.under (.builtin "type.__call__" ⟨.ref C :: us, kw⟩)) :=
  ⟨r.hd, by have := r.dp; rw [make_depth]; lia, by have := r.un; rw [make_units]; lia⟩
theorem Room.depth {k : Nat} {A : Around} (r : Room k A) : A.depth < recursionLimit := by have := r.dp; lia
theorem Room.units {k : Nat} {A : Around} (r : Room k A) : A.units + 64 < cLine := by have := r.un; lia
/-! ### argument lists and displays -/
def tNil : TA := fun _ H Q => Q [] H
def tCons (ta : TE) (tr : TA) : TA := fun σ H Q => ta σ H fun x H1 => tr σ H1 fun xs H2 => Q (x :: xs) H2
section
variable {X : Cx} {e : Expr} {es : List Expr} {te : TE} {t : TA} {pos : Pos}
theorem pa_nil : PA X [] tNil := fun _ _ _ _ H Q I h => Calls.spliced_nil ⟨[], H, I, .nil, h⟩
theorem pa_cons (ha : PE X e te) (hr : PA X es t) (hs : starEach (e :: es) X.env = (false, eval e X.env) :: starEach es X.env := by rfl) : PA X (e :: es) (tCons te t) := by
  intro pos pins s σ H Q I h
  rw [hs]
  show wpAny _ _ (spliced ((false, eval e X.env) :: backTo pos (starEach es X.env))) _ _ s
  refine Calls.spliced_cons (thn (ha pins s σ H _ I h) fun u s1 ⟨x, H1, I1, r1, q1⟩ => ?_)
  exact thn (hr pos pins s1 σ H1 _ I1 q1) fun us s2 ⟨xs, H2, I2, r2, q2⟩ => ⟨x :: xs, H2, I2, .cons r1 r2, q2⟩

end

/-! ### what a def promises -/
/-- a def's promise: the bound arguments in the parameters' order, the heap, the wanted end, the wanted exception -/
abbrev Sp := List V → Hp → VK → XK → Prop
/-- how an exception lies behind a call (file 08 gives it): the callers' frames, abstract heap and state ahead of the call, the wish, the exception, the state -/
abbrev CXT := List Env → Hp → Shared → XK → Value → Shared → Prop

/-- the state at a call -/
structure Env0 (P : Program) (w : World) (K : PySem.W.Frag) (mg : Str → Option Value) (base : Heap) (A : Around) (outer : List Env) (s : Shared) (H : Hp) : Prop where
  frames : A.frames = some outer
  mod : Mod K mg base
  bs : ∀ b o, base.get? b = some o → s.heap.get? b = some o ∧ H b = none
  bsz : base.objs.size ≤ s.heap.objs.size
  funs : s.heap.FunFrames base outer
  frf : ∀ b ∈ frs outer, H b = none
  hok : HOk P w H s.heap
  bare : AllBare s.gens
/-- a call's end -/
def CE (outer : List Env) (P : Program) (w : World) (H : Hp) (s : Shared) (Q : VK) (u : Value) (s' : Shared) : Prop :=
  ∃ v H', s'.os = s.os ∧ AllBare s'.gens ∧ Un (frs outer) [] H H' s.heap s'.heap ∧ HOk P w H' s'.heap ∧ RelV v u ∧ Q v H'
def CR (CX : CXT) (outer : List Env) (P : Program) (w : World) (H : Hp) (s : Shared) (Q : VK) (E : XK) (r : Result) (s' : Shared) : Prop :=
  match r with
  | .ok (.ret u) => CE outer P w H s Q u s'
  | .ok _ => False
  | .error e => CX outer H s E e s'
structure FnOk (P : Program) (w : World) (K : PySem.W.Frag) (mg : Str → Option Value) (base : Heap) (CX : CXT) (k : Nat) (f : Addr) (fd : FuncData) (ps : List Str) (sp : Sp) : Prop where
  len : ∀ vs H Q E, sp vs H Q E → vs.length = ps.length
  run : ∀ (A : Around) (outer : List Env) (s : Shared) (H : Hp) (args : Args) (us : List Value) (vs : List V) (Q : VK) (E : XK), Room k A → Env0 P w K mg base A outer s H → BindsTo s fd args (ps.zip us) → Vals vs us → sp vs H Q E →
    codeAny (model P w) A (.call (.ref f) args) (CR CX outer P w H s Q E) s
theorem FnOk.mono {P : Program} {w : World} {K : PySem.W.Frag} {mg : Str → Option Value} {base : Heap} {CX : CXT} {j k : Nat} {f : Addr} {fd : FuncData} {ps : List Str} {sp : Sp} (F : FnOk P w K mg base CX j f fd ps sp) (h : j ≤ k) :
    FnOk P w K mg base CX k f fd ps sp := ⟨F.len, fun A outer s H args us vs Q E hr => F.run A outer s H args us vs Q E (hr.mono h)⟩
theorem Env0.make {P : Program} {w : World} {K : PySem.W.Frag} {mg : Str → Option Value} {base : Heap} {A : Around} {outer : List Env} {s : Shared} {H : Hp} (e : Env0 P w K mg base A outer s H) (C : Addr) (us : List Value) (kw : List (Str × Value)) :
    Env0 P w K mg base (A.under (.builtin "type.__call__" ⟨.ref C :: us, kw⟩)) outer s H := ⟨by first | exact e.frames | (simpa [Around.under, Code.envs, Code.isFrame, pushEnvs] using e.frames), e.mod, e.bs, e.bsz, e.funs, e.frf, e.hok, e.bare⟩
theorem Env0.in1 {P : Program} {w : World} {K : PySem.W.Frag} {mg : Str → Option Value} {base : Heap} {A : Around} {outer : List Env} {s : Shared} {H : Hp} (e : Env0 P w K mg base A outer s H) :
    Env0 P w K mg base A.in1 outer s H := ⟨e.frames, e.mod, e.bs, e.bsz, e.funs, e.frf, e.hok, e.bare⟩

section
variable {X : Cx} {pins : List (Addr × Obj)} {σ : St} {H : Hp} {s s' : Shared}
/-- from a body: what a callee wants -/
theorem Inv.env0 (I : Inv X pins σ H s) : Env0 X.prog X.w X.K X.mg X.base X.A X.stack s H :=
  ⟨I.ok.frames, I.ok.mod, I.bs, Nat.le_trans I.ok.bsz I.sz, I.stack, I.stkFree, I.hok, I.bare⟩
/-- behind a call -/
theorem Inv.after {Q : VK} {u : Value} (I : Inv X pins σ H s) (h : CE X.stack X.prog X.w H s Q u s') : EP X pins σ Q u s' := by
  obtain ⟨v, H', os, bare, un, hok, r, q⟩ := h
  obtain ⟨hh, g, d, t, os'⟩ := s'
  obtain rfl : os' = s.os := os
  exact ⟨v, H', I.call (h' := hh) (g' := g) (d' := d) (t' := t) (ch := []) un hok bare (fun b z => absurd z (by simp)), r, q⟩
end

/-! ### calls -/
/-- f(..): the written arguments, then the defaults dvs; E: what is wanted of an exception -/
def tCall (sp : Sp) (dvs : List V) (E : XK) (t : TA) : TE := fun σ H Q => t σ H fun vs H1 => sp (vs ++ dvs) H1 Q E
/-- how the parameters are bound: us the positional arguments, kw the keywords' values by name, ds the defaults that fill up -/
def Binds (K : PySem.W.Frag) (fd : FuncData) (ps : List Str) (ds : List Value) : Prop :=
  ∀ (s : Shared) (us : List Value), K.In s.heap → (us ++ ds).length = ps.length → BindsTo s fd ⟨us, []⟩ (ps.zip (us ++ ds))
/-- every parameter is given -/
theorem Binds.all {K : PySem.W.Frag} {fd : FuncData} {ps : List Str} (h : ∀ us : List Value, us.length = ps.length → bindArgs fd ⟨us, []⟩ = pure (ps.zip us)) : Binds K fd ps [] := fun s us _ hl => by
  rw [List.append_nil] at hl ⊢
  exact .of_eq (h us hl)

/-- an exception of a callee reaches what this body wants of exceptions -/
def Passes (CX : CXT) (X : Cx) (E : XK) : Prop := ∀ (pins : List (Addr × Obj)) (σ : St) (H : Hp) (s : Shared) (e : Value) (s' : Shared), Inv X pins σ H s → CX X.stack H s E e s' → X.xe e s'

section
variable {X : Cx} {CX : CXT} {k : Nat} {f C : Addr} {fd : FuncData} {ps : List Str} {sp : Sp} {dvs : List V} {ds : List Value} {E : XK} {x m : Str} {p pos apos : Pos} {e o : Expr} {es : List Expr} {ta : TE} {t : TA}

/-- the callee runs -/
theorem run_fn {pins : List (Addr × Obj)} {σ : St} {H : Hp} {s : Shared} {Q : VK} {us : List Value} {vs : List V} (F : FnOk X.prog X.w X.K X.mg X.base CX k f fd ps sp) (hr : Room k X.A) (hb : Binds X.K fd ps ds) (hd : Vals dvs ds) (hx : Passes CX X E)
    (I : Inv X pins σ H s) (r : Vals vs us) (h : sp (vs ++ dvs) H Q E) : wpAny (model X.prog X.w) X.A (call (.ref f) us) (EP X pins σ Q) X.xe s := by
  have r2 : Vals (vs ++ dvs) (us ++ ds) := r.append hd
  have hl : (us ++ ds).length = ps.length := by rw [← r2.length]; exact F.len _ _ _ _ h
  refine wpAny_call (codeAny_mono (F.run X.A X.stack s H ⟨us, []⟩ (us ++ ds) (vs ++ dvs) Q E hr I.env0 (hb s us I.kIn hl) r2 h) fun r s' hq => ?_)
  cases r with
  | error e => exact hx pins σ H s e s' I hq
  | ok fl =>
    cases fl with
    | ret u => exact I.after hq
    | next => exact False.elim hq
    | brk => exact False.elim hq
    | cont => exact False.elim hq

theorem pe_call (F : FnOk X.prog X.w X.K X.mg X.base CX k f fd ps sp) (hr : Room k X.A) (hg : Gl X x) (hm : X.mg x = some (.ref f)) (hk : PySem.W.keepIn X.K (.ref f) = true) (hb : Binds X.K fd ps ds) (hd : Vals dvs ds) (hx : Passes CX X E)
    (ha : PA X (e :: es) t) (hdb : (x == ("__debug__" : Str)) = false := by decide) (he : starEach (e :: es) X.env = (false, eval e X.env) :: starEach es X.env := by rfl) (hpl : (backTo pos (starEach es X.env)).any (·.1) = false := by rfl) :
    PE X (.Call (.Name x p) (e :: es) [] pos) (tCall sp dvs E t) := by
  intro pins s σ H Q I h
  refine wpAny_Call_Name_kw (ld_glob I hg hm ?_ hdb)
  refine PySem.W.callWith_K (h₀ := X.base) I.ok.mod.kin hk (thn (ha pos pins s σ H _ I h) fun us s1 ⟨vs, H1, I1, r, q⟩ => ⟨I1.kIn, ?_⟩) he hpl
  exact run_fn F hr hb hd hx I1 r q
/-- what a class must have to be made -/
structure Mk (K : PySem.W.Frag) (C f : Addr) : Prop where
  makes : PySem.W.makesIn K C = true
  init : PySem.W.findIn K (.ref C) "__init__" = some (some (.ref f))
  fn : PySem.W.isFn K (.ref f) = true
  kp : PySem.W.keepIn K (.ref C) = true

end

/-! ### keywords -/
section
variable {X : Cx} {CX : CXT} {k : Nat} {f C : Addr} {fd : FuncData} {ps ks : List Str} {sp : Sp} {E : XK} {x m : Str} {p pos apos kpos : Pos} {e o : Expr} {es : List Expr} {kws : List Keyword} {te ta : TE} {t tk : TA} {nm : Option Str}
/-- how a call with keywords binds: g puts the positional values us and the keywords' values ws (names ks) in the parameters' order, defaults among them -/
structure KBinds (K : PySem.W.Frag) (fd : FuncData) (ps ks : List Str) (g : List Value → List Value → List Value) (gV : List V → List V → List V) : Prop where
  to : ∀ (s : Shared) (us ws : List Value), K.In s.heap → (g us ws).length = ps.length → BindsTo s fd ⟨us, ks.zip ws⟩ (ps.zip (g us ws))
  rel : ∀ {vs : List V} {us : List Value} {zs : List V} {ws : List Value}, Vals vs us → Vals zs ws → Vals (gV vs zs) (g us ws)
variable {g : List Value → List Value → List Value} {gV : List V → List V → List V}
end

/-! ### a def's body keeps its promise -/
/-- names: the parameters first -/
structure FnScope (N P : List Str) (sc : Scope) : Prop where
  kind : sc.kind = .function
  co : sc.isCoroutine = false
  gen : sc.isGenerator = false
  nd : N.Nodup
  pre : N.take P.length = P
  par : ∀ x ∈ P, sc.names.lookup x = some .local ∨ sc.names.lookup x = some .cell
  nofree : ∀ y ∈ sc.names, y.2 ≠ .free

theorem bindL_out {kindOf : Str → Option NameKind} {x : Str} : ∀ {binds : List (Str × Value)} {m : Str → Option Value}, (∀ v, (x, v) ∉ binds) → bindL kindOf binds m x = m x
  | [], _, _ => rfl
  | (n, v) :: r, m, h => by
    unfold bindL
    rw [bindL_out fun w hw => h w (List.mem_cons_of_mem _ hw)]
    split
    · have : x ≠ n := by rintro rfl; exact h v List.mem_cons_self
      simp [this]
    · rfl
theorem bindC_out {kindOf : Str → Option NameKind} {x : Str} : ∀ {binds : List (Str × Value)} {m : Str → Option Value}, (∀ v, (x, v) ∉ binds) → bindC kindOf binds m x = m x
  | [], _, _ => rfl
  | (n, v) :: r, m, h => by
    unfold bindC
    rw [bindC_out fun w hw => h w (List.mem_cons_of_mem _ hw)]
    split
    · rfl
    · have : x ≠ n := by rintro rfl; exact h v List.mem_cons_self
      simp [this]
theorem bindL_get {kindOf : Str → Option NameKind} {x : Str} {v : Value} : ∀ {P : List Str} {vs : List Value} {i : Nat} {m : Str → Option Value}, P.Nodup → P[i]? = some x → vs[i]? = some v → kindOf x = some .local →
    bindL kindOf (P.zip vs) m x = some v
  | [], _, _, _, _, h, _, _ => by simp at h
  | _ :: _, [], _, _, _, _, h, _ => by simp at h
  | p :: P, w :: vs, 0, m, nd, h1, h2, hk => by
    simp at h1 h2; subst h1; subst h2
    show bindL kindOf ((p, w) :: P.zip vs) m p = _
    unfold bindL
    rw [bindL_out fun v hv => (List.nodup_cons.mp nd).1 (List.of_mem_zip hv).1, if_pos hk]
    simp
  | p :: P, w :: vs, i + 1, m, nd, h1, h2, hk => by
    show bindL kindOf ((p, w) :: P.zip vs) m x = _
    unfold bindL
    exact bindL_get (i := i) (List.nodup_cons.mp nd).2 (by simpa using h1) (by simpa using h2) hk
theorem bindC_get {kindOf : Str → Option NameKind} {x : Str} {v : Value} : ∀ {P : List Str} {vs : List Value} {i : Nat} {m : Str → Option Value}, P.Nodup → P[i]? = some x → vs[i]? = some v → kindOf x ≠ some .local →
    bindC kindOf (P.zip vs) m x = some v
  | [], _, _, _, _, h, _, _ => by simp at h
  | _ :: _, [], _, _, _, _, h, _ => by simp at h
  | p :: P, w :: vs, 0, m, nd, h1, h2, hk => by
    simp at h1 h2; subst h1; subst h2
    show bindC kindOf ((p, w) :: P.zip vs) m p = _
    unfold bindC
    rw [bindC_out fun v hv => (List.nodup_cons.mp nd).1 (List.of_mem_zip hv).1, if_neg hk]
    simp
  | p :: P, w :: vs, i + 1, m, nd, h1, h2, hk => by
    show bindC kindOf ((p, w) :: P.zip vs) m x = _
    unfold bindC
    exact bindC_get (i := i) (List.nodup_cons.mp nd).2 (by simpa using h1) (by simpa using h2) hk

/-- the names' values at the entry -/
def start (N : List Str) (vs : List V) : St := vs.map some ++ List.replicate (N.length - vs.length) none

/-- the context of a def's body, at its entry; an exception leaves the frame, then lies as CX says -/
def cxOf (CX : CXT) (P : Program) (w : World) (K : PySem.W.Frag) (mg : Str → Option Value) (base : Heap) (N : List Str) (qual : Str) (scope : Scope) (f : Addr) (cd : Value) (A : Around) (outer : List Env) (s : Shared) (H : Hp) (E : XK) : Cx where
  prog := P
  w := w
  K := K
  mg := mg
  base := base
  A := A.deeper (envOfC qual scope s.heap.objs.size f cd)
  N := N
  s₀ := s
  H₀ := H
  env := envOfC qual scope s.heap.objs.size f cd
  outer := outer
  stack := envOfC qual scope s.heap.objs.size f cd :: outer
  ex := []
  calm := true
  fn := fun _ => true
  pn := []
  xe := fun e s' => wpAny (model P w) (A.deeper (envOfC qual scope s.heap.objs.size f cd)) (leaving (envOfC qual scope s.heap.objs.size f cd) e) (fun _ s'' => CX outer H s E e s'') (fun e' s'' => CX outer H s E e' s'') s'

theorem cell_has {sc : Scope} {n : Nat} {x : Str} (h : sc.names.lookup x = some .cell) : ∃ c, (cellsFrom n sc.names []).lookup x = some c := by
  have q := PySem.W.cellsFrom_some sc.names n [] (.inl h)
  exact Option.isSome_iff_exists.mp q

theorem inv_start {CX : CXT} {P : Program} {w : World} {K : PySem.W.Frag} {mg : Str → Option Value} {base : Heap} {N ps : List Str} {qual : Str} {scope : Scope} {f : Addr} {cd : Value} {A : Around} {outer : List Env} {s s1 : Shared} {H : Hp} {E : XK} {us : List Value} {vs : List V}
    (S : FnScope N ps scope) (hd : A.handled = none) (e0 : Env0 P w K mg base A outer s H) (hl : vs.length = ps.length) (r : Vals vs us)
    (x : InCallC s s.heap.objs.size (bindL (envOfC qual scope s.heap.objs.size f cd).kindOf (ps.zip us) fun _ => none) (cellsFrom (s.heap.objs.size + 1) scope.names []) (bindC (envOfC qual scope s.heap.objs.size f cd).kindOf (ps.zip us) fun _ => none) s1) :
    Inv (cxOf CX P w K mg base N qual scope f cd A outer s H E) [] (start N vs) H s1 := by
  have hpl : ps.length ≤ N.length := by have := congrArg List.length S.pre; rw [List.length_take] at this; lia
  obtain ⟨h1, tk, rfl, hk⟩ := x.done
  have noA : ∀ b : Addr, b ∉ (cxOf CX P w K mg base N qual scope f cd A outer s H E).ex := fun b z => absurd (show b ∈ ([] : List Addr) from z) (by simp)
  refine ⟨⟨e0.mod, S.kind, rfl, rfl, Nat.le_refl _, fun y z c h1 h2 => ?_, fun y hy => ?_, fun y c _ h => ?_, fun _ => hd, Around.frames_deeper e0.frames, .inr ⟨rfl, rfl⟩, fun b z => absurd z (noA b), e0.bs, e0.bsz, fun b _ _ => noA b, fun b z => absurd z (noA b), e0.funs, e0.frf⟩,
    rfl, e0.bare, Un.kept hk, ⟨_, x.toInCall.ns, fun i y v h1 h2 h3 => ?_⟩, fun y c h => ⟨_, x.cell y c h⟩, e0.hok.fresh (Nat.le_refl _), fun y c h => ?_, fun p hp => absurd (show p ∈ ([] : List (Addr × Obj)) from hp) (by simp), e0.hok.kept hk, ?_⟩
  · exact name_of_addr x.apart (PySem.mem_of_lookup h1) (PySem.mem_of_lookup h2)
  · have hy : scope.names.lookup y = some .cell ∨ scope.names.lookup y = some .free := hy
    rcases hy with hy | hy
    · exact cell_has hy
    · exact absurd rfl (S.nofree _ (PySem.mem_of_lookup hy))
  · exact Nat.le_of_lt (x.above y c (PySem.mem_of_lookup h))
  · have hi : i < vs.length := by
      unfold start at h2
      by_cases hi : i < vs.length
      · exact hi
      · rw [List.getElem?_append_right (by simpa using hi)] at h2
        rw [List.getElem?_replicate] at h2
        split at h2 <;> cases h2
    have ha : vs[i]? = some v := by
      unfold start at h2
      rw [List.getElem?_append_left (by simpa using hi), List.getElem?_map] at h2
      cases e : vs[i]? with
      | none => rw [e] at h2; cases h2
      | some a => rw [e] at h2; cases h2; rfl
    obtain ⟨u, hu, rv⟩ := r.get ha
    have hp : ps[i]? = some y := by
      rw [← S.pre, List.getElem?_take_of_lt (by lia)]; exact h1
    have ndP : ps.Nodup := by rw [← S.pre]; exact S.nd.sublist (List.take_sublist _ _)
    refine ⟨u, rv, ?_⟩
    rcases S.par y (List.mem_of_getElem? hp) with k | k
    · exact .inl ⟨k, bindL_get ndP hp hu k⟩
    · obtain ⟨c, e⟩ := cell_has (n := s.heap.objs.size + 1) k
      refine .inr ⟨.inl k, c, e, ?_⟩
      have q := x.cell y c e
      rw [bindC_get ndP hp hu (by show scope.names.lookup y ≠ _; rw [k]; decide)] at q
      exact q
  · exact e0.hok.fresh (Nat.le_of_lt (x.above y c (PySem.mem_of_lookup h)))
  · unfold start
    show _ = N.length
    rw [List.length_append, List.length_map, List.length_replicate]
    lia

/-- THE RULE: a def (or a method) of the text, by its body. The body's reading t is chosen for each entry; it is run at the parameters' values -/
theorem fn_of {CX : CXT} {P : Program} {w : World} {K : PySem.W.Frag} {mg : Str → Option Value} {base : Heap} {k : Nat} {f : Addr} {name qual : Str} {params : Arguments} {body : List Stmt} {scope : Scope} {dV kV doc pm cdv ct oc : Value} {an od : Option Addr}
    {osl : Array (Option Value)} {N ps : List Str} {sp : Sp} (lk : K.lookup f = some ⟨oc, od, .func (PySem.W.fnOf name qual params body scope dV kV doc pm an cdv ct), osl⟩) (hcd : PySem.W.codeIn K cdv qual = true) (S : FnScope N ps scope)
    (len : ∀ vs H Q E, sp vs H Q E → vs.length = ps.length)
    (hbody : ∀ (A : Around) (outer : List Env) (s : Shared) (H : Hp) (vs : List V) (Q : VK) (E : XK), Room k (A.deeper (envOfC qual scope s.heap.objs.size f cdv)) → sp vs H Q E →
      ∃ t, PSs (cxOf CX P w K mg base N qual scope f cdv A outer s H E) body t ∧ t { nx := fun _ H' => Q .non H', rt := Q } (start N vs) H) :
    FnOk P w K mg base CX (k + 1) f (PySem.W.fnOf name qual params body scope dV kV doc pm an cdv ct) ps sp := by
  refine ⟨len, fun A outer s H args us vs Q E hr e0 hb r hsp => ?_⟩
  have hl := len _ _ _ _ hsp
  have KX : K.In s.heap := e0.mod.kin.keeps fun b o e => (e0.bs b o e).1
  have lim : s.heap.NoLimit := e0.mod.nolimit.keeps fun b o e => (e0.bs b o e).1
  have hkind : ∀ y ∈ ps.zip us, scope.names.lookup y.1 = some .local ∨ (scope.names.lookup y.1 = some .cell ∧ ((cellsFrom (s.heap.objs.size + 1) scope.names []).lookup y.1).isSome = true) := fun ⟨n, v⟩ hy => by
    rcases S.par n (List.of_mem_zip hy).1 with q | q
    · exact .inl q
    · exact .inr ⟨q, PySem.W.cellsFrom_some _ _ _ (.inl q)⟩
  refine codeAny_call_function hr.depth (KX _ _ lk) rfl S.co S.gen rfl (PySem.W.codeRec_of KX hcd) (hb _ _ _ _ ?_)
  refine wpAny_newFunctionEnv_cells S.kind hkind fun env he s1 x => ?_
  subst he
  refine ⟨lim.keeps x.toInCall.keep, codeAny_func ?_⟩
  obtain ⟨t, ht, hq⟩ := hbody A outer s H vs Q E (hr.deeper _) hsp
  have I : Inv (cxOf CX P w K mg base N qual scope f cdv A outer s H E) [] (start N vs) H s1 := inv_start S hr.hd e0 hl r x
  refine wpAny_mono (ht [] s1 (start N vs) H _ I hq) (fun fl s' hs => ?_) fun e s' hs => hs
  have fin : ∀ {σ' : St} {H' : Hp} {v : V} {u : Value}, Inv (cxOf CX P w K mg base N qual scope f cdv A outer s H E) [] σ' H' s' → RelV v u → Q v H' → CE outer P w H s Q u s' :=
    fun {σ' H' v u} J rv q => ⟨v, H', J.os, J.bare, J.base, J.hok, rv, q⟩
  cases fl with
  | ret u =>
    obtain ⟨v, σ', H', J, rv, q⟩ := hs
    exact fin J rv q
  | next =>
    obtain ⟨σ', H', J, q⟩ := hs
    exact fin (v := V.non) (u := Value.none) J rfl q
  | brk =>
    obtain ⟨_, _, _, q⟩ := hs
    exact False.elim q
  | cont =>
    obtain ⟨_, _, _, q⟩ := hs
    exact False.elim q
end L2

namespace L2
open PySem PySem.Spec PyProof.Rows
section
variable {X : Cx} {x : Str} {p pos : Pos} {e : Expr} {es : List Expr} {t : TA} {id T : String} {r : List V → Hp → VK → Prop}

def tCB (r : List V → Hp → VK → Prop) (t : TA) : TE := fun σ H Q => t σ H fun vs H1 => r vs H1 Q
/-- f(e, ..), f a built-in function -/
theorem pe_callB (hc : CallR X (.builtin id) r) (hg : Gl X x) (hm : X.mg x = none) (hv : bootBuiltins x = some (.builtin id)) (ha : PA X (e :: es) t) (hn : x ≠ "__name__" := by decide) (hdb : (x == ("__debug__" : Str)) = false := by decide)
    (he : starEach (e :: es) X.env = (false, eval e X.env) :: starEach es X.env := by rfl) (hpl : (backTo pos (starEach es X.env)).any (·.1) = false := by rfl) : PE X (.Call (.Name x p) (e :: es) [] pos) (tCB r t) := by
  intro pins s σ H Q I h
  refine wpAny_Call_Name_kw (ld_blt I hg hm hv ?_ hn hdb)
  exact PyProof.Rows.callWith_builtin1 (thn (ha pos pins s σ H _ I h) fun us s1 ⟨vs, H1, I1, r1, q1⟩ => hc pins s1 σ H1 vs us Q I1 r1 q1) he hpl
/-- T(e, ..), T a built-in type -/
theorem pe_callTy (hc : CallR X (.type T) r) (hg : Gl X x) (hm : X.mg x = none) (hv : bootBuiltins x = some (.type T)) (ha : PA X (e :: es) t) (hn : x ≠ "__name__" := by decide) (hdb : (x == ("__debug__" : Str)) = false := by decide)
    (he : starEach (e :: es) X.env = (false, eval e X.env) :: starEach es X.env := by rfl) (hpl : (backTo pos (starEach es X.env)).any (·.1) = false := by rfl) : PE X (.Call (.Name x p) (e :: es) [] pos) (tCB r t) := by
  intro pins s σ H Q I h
  refine wpAny_Call_Name_kw (ld_blt I hg hm hv ?_ hn hdb)
  exact PyProof.Rows.callWith_type1 (thn (ha pos pins s σ H _ I h) fun us s1 ⟨vs, H1, I1, r1, q1⟩ => hc pins s1 σ H1 vs us Q I1 r1 q1) he hpl
end
end L2

namespace L2
open PySem PySem.Spec PyProof.Rows

/-! ### lists of pairs as tables -/
section
variable {κ : Type} [DecidableEq κ]
def valV (kvs : List (κ × V)) (k : κ) : Option V := (kvs.find? fun kv => decide (kv.1 = k)).map (·.2)
/-- in its place, or at the end -/
def putK (kvs : List (κ × V)) (k : κ) (v : V) : List (κ × V) :=
  if (kvs.any fun kv => decide (kv.1 = k)) = true then kvs.map (fun kv => if kv.1 = k then (kv.1, v) else kv) else kvs ++ [(k, v)]
def dropK (kvs : List (κ × V)) (k : κ) : List (κ × V) := kvs.filter fun kv => decide (kv.1 ≠ k)

theorem valV_pos {p : κ × V} {r : List (κ × V)} {k : κ} (e : p.1 = k) : valV (p :: r) k = some p.2 := by simp [valV, List.find?_cons, e]
theorem valV_neg {p : κ × V} {r : List (κ × V)} {k : κ} (e : ¬ p.1 = k) : valV (p :: r) k = valV r k := by simp [valV, List.find?_cons, e]
theorem valV_any (k : κ) : ∀ kvs : List (κ × V), (kvs.any fun kv => decide (kv.1 = k)) = (valV kvs k).isSome
  | [] => rfl
  | p :: r => by
    rw [List.any_cons]
    by_cases e : p.1 = k
    · simp only [valV_pos e, decide_eq_true e, Bool.true_or, Option.isSome_some]
    · rw [valV_neg e, decide_eq_false e, Bool.false_or]; exact valV_any k r
theorem length_putK (kvs : List (κ × V)) (k : κ) (v : V) : (putK kvs k v).length ≤ kvs.length + 1 := by
  unfold putK
  split
  · rw [List.length_map]; lia
  · rw [List.length_append, List.length_cons, List.length_nil]; lia
theorem RelO.isSome_eq {o : Option V} {u : Option Value} (r : RelO o u) : o.isSome = u.isSome := by
  cases o with
  | none => cases u with
    | none => rfl
    | some _ => exact (show False from r).elim
  | some _ => cases u with
    | none => exact (show False from r).elim
    | some _ => rfl
theorem RelO.getD {o : Option V} {u : Option Value} {d : V} {d' : Value} (r : RelO o u) (rd : RelV d d') : RelV (o.getD d) (u.getD d') := by
  cases o with
  | none => cases u with
    | none => exact rd
    | some _ => exact (show False from r).elim
  | some _ => cases u with
    | none => exact (show False from r).elim
    | some _ => exact r

/-- raw tables of the same keys -/
theorem KV.val {kvs : List (κ × V)} {vs : List (κ × Value)} (r : KV kvs vs) (k : κ) : RelO (valV kvs k) (valueAt vs k) := by
  unfold KV at r
  induction r with
  | nil => exact True.intro
  | @cons p q ps qs h t ih =>
    obtain ⟨h1, h2⟩ := h
    by_cases e : p.1 = k
    · have e' : q.1 = k := h1.symm.trans e
      have b : valueAt (q :: qs) k = some q.2 := by simp [valueAt, List.find?_cons, e']
      rw [valV_pos e, b]; exact h2
    · have e' : ¬ q.1 = k := fun z => e (h1.trans z)
      have b : valueAt (q :: qs) k = valueAt qs k := by simp [valueAt, List.find?_cons, e']
      rw [valV_neg e, b]; exact ih
theorem KV.any {kvs : List (κ × V)} {vs : List (κ × Value)} (r : KV kvs vs) (k : κ) : (kvs.any fun kv => decide (kv.1 = k)) = vs.any fun kv => decide (kv.1 = k) := by
  unfold KV at r
  induction r with
  | nil => rfl
  | cons h t ih => rw [List.any_cons, List.any_cons, ih, h.1]
theorem KV.repl {kvs : List (κ × V)} {vs : List (κ × Value)} (r : KV kvs vs) (k : κ) {y : V} {u : Value} (ry : RelV y u) :
    KV (kvs.map fun kv => if kv.1 = k then (kv.1, y) else kv) (vs.map fun kv => if kv.1 = k then (kv.1, u) else kv) := by
  unfold KV at r ⊢
  induction r with
  | nil => exact .nil
  | @cons p q ps qs h t ih =>
    rw [List.map_cons, List.map_cons]
    refine .cons ?_ ih
    obtain ⟨h1, h2⟩ := h
    by_cases e : p.1 = k
    · rw [if_pos e, if_pos (h1.symm.trans e)]; exact ⟨h1, ry⟩
    · rw [if_neg e, if_neg (fun z => e (h1.trans z))]; exact ⟨h1, h2⟩
theorem KV.put {kvs : List (κ × V)} {vs : List (κ × Value)} (r : KV kvs vs) (k : κ) {y : V} {u : Value} (ry : RelV y u) : KV (putK kvs k y) (stored vs k u) := by
  unfold putK stored
  rw [r.any k]
  by_cases e : (vs.any fun kv => decide (kv.1 = k)) = true
  · rw [if_pos e, if_pos e]; exact r.repl k ry
  · rw [if_neg e, if_neg e]; exact Paired.snoc r ⟨rfl, ry⟩
theorem KV.drop {kvs : List (κ × V)} {vs : List (κ × Value)} (r : KV kvs vs) (k : κ) : KV (dropK kvs k) (without vs k) := by
  unfold KV at r ⊢
  unfold dropK without
  induction r with
  | nil => exact .nil
  | @cons p q ps qs h t ih =>
    obtain ⟨h1, h2⟩ := h
    rw [List.filter_cons, List.filter_cons]
    by_cases e : p.1 = k
    · have a : ¬ decide (p.1 ≠ k) = true := by simp [e]
      have b : ¬ decide (q.1 ≠ k) = true := by simp [h1.symm.trans e]
      rw [if_neg a, if_neg b]; exact ih
    · have e' : ¬ q.1 = k := fun z => e (h1.trans z)
      have a : decide (p.1 ≠ k) = true := by simp [e]
      have b : decide (q.1 ≠ k) = true := by simp [e']
      rw [if_pos a, if_pos b]; exact .cons ⟨h1, h2⟩ ih
theorem KV.keys {kvs : List (κ × V)} {vs : List (κ × Value)} (r : KV kvs vs) : kvs.map (·.1) = vs.map (·.1) := by
  unfold KV at r
  induction r with
  | nil => rfl
  | cons h t ih => rw [List.map_cons, List.map_cons, ih, h.1]
theorem KV.length {kvs : List (κ × V)} {vs : List (κ × Value)} (r : KV kvs vs) : kvs.length = vs.length := Paired.length r
end


/-! ### a tracked dict, its keys ints and texts or tuples of these -/
theorem kV_is {P : Program} {w : World} {k : Key} {u : Value} (r : RelV (kV k) u) : (mixKind P w).is k u = true := by
  cases k with
  | inl i => obtain ⟨t, e⟩ := (show ∃ t, u = Value.int i t from r); subst e; exact mixKind_int P w i t
  | inr x => obtain ⟨t, e⟩ := (show ∃ t, u = Value.str x t from r); subst e; exact mixKind_str P w x t
theorem items_are {P : Program} {w : World} : ∀ {ks : List Key} {us : List Value}, Vals (ks.map kV) us → ItemsAre (mixKind P w) ks us
  | [], _, r => by rw [List.map_nil] at r; cases r; exact .nil
  | k :: ks, _, r => by
    rw [List.map_cons] at r
    cases r with
    | cons h t => exact .cons (kV_is h) (items_are t)

/-- raw entries of a dict with tuple keys -/
abbrev KT (H : Hp) : List (List Key × V) → List (List Key × Addr × Value) → Prop := Paired fun p q => p.1 = q.1 ∧ H q.2.1 = some (.tup (p.1.map kV)) ∧ RelV p.2 q.2.2
theorem KT.val {H : Hp} {kvs : List (List Key × V)} {xs : List (List Key × Addr × Value)} (r : KT H kvs xs) (k : List Key) : RelO (valV kvs k) ((atKey xs k).map (·.2)) := by
  induction r with
  | nil => exact True.intro
  | @cons p q ps qs h t ih =>
    obtain ⟨h1, _, h2⟩ := h
    by_cases e : p.1 = k
    · have e' : q.1 = k := h1.symm.trans e
      have b : atKey (q :: qs) k = some q.2 := by simp [atKey, List.find?_cons, e']
      rw [valV_pos e, b]; exact h2
    · have e' : ¬ q.1 = k := fun z => e (h1.trans z)
      have b : atKey (q :: qs) k = atKey qs k := by simp [atKey, List.find?_cons, e']
      rw [valV_neg e, b]; exact ih
theorem KT.repl {H : Hp} {kvs : List (List Key × V)} {xs : List (List Key × Addr × Value)} (r : KT H kvs xs) (k : List Key) {y : V} {u : Value} (ry : RelV y u) :
    KT H (kvs.map fun kv => if kv.1 = k then (kv.1, y) else kv) (xs.map (putAt k u)) := by
  induction r with
  | nil => exact .nil
  | @cons p q ps qs h t ih =>
    rw [List.map_cons, List.map_cons]
    refine .cons ?_ ih
    obtain ⟨h1, h2, h3⟩ := h
    unfold putAt
    by_cases e : p.1 = k
    · rw [if_pos e, if_pos (h1.symm.trans e)]; exact ⟨h1, h2, ry⟩
    · rw [if_neg e, if_neg (fun z => e (h1.trans z))]; exact ⟨h1, h2, h3⟩
theorem KT.put {H : Hp} {kvs : List (List Key × V)} {xs : List (List Key × Addr × Value)} (r : KT H kvs xs) (k : List Key) {b : Addr} {y : V} {u : Value} (hb : H b = some (.tup (k.map kV))) (ry : RelV y u) :
    KT H (putK kvs k y) (storedH xs k b u) := by
  have e : (kvs.any fun kv => decide (kv.1 = k)) = (atKey xs k).isSome := by
    rw [valV_any, (r.val k).isSome_eq, Option.isSome_map]
  unfold putK storedH
  rw [e]
  by_cases q : (atKey xs k).isSome = true
  · rw [if_pos q, if_pos q]; exact r.repl k ry
  · rw [if_neg q, if_neg q]; exact Paired.snoc r ⟨rfl, hb, ry⟩
theorem KT.keeps {H H' : Hp} {kvs : List (List Key × V)} {xs : List (List Key × Addr × Value)} (r : KT H kvs xs) (ht : ∀ b ys, H b = some (.tup ys) → H' b = some (.tup ys)) : KT H' kvs xs :=
  Paired.mapP r fun _ _ z => ⟨z.1, ht _ _ z.2.1, z.2.2⟩

section
variable {P : Program} {w : World} {H : Hp} {h : Heap} {a : Addr}
theorem rd_of {u : HO} (ok : HOk P w H h) (e : Rd H a u) : ObjOk P w H h a u := e.ok ok
theorem dk_rd {kvs : List (Key × V)} (ok : HOk P w H h) (e : Rd H a (.dK kvs)) : kvs.length ≤ sizeLine ∧ (a == sysModules) = false ∧ ∃ vs, KV kvs vs ∧ h.DictOf (mixKind P w) a vs :=
  show ObjOk P w H h a (.dK kvs) from rd_of ok e
theorem dk_of {kvs : List (Key × V)} (ok : HOk P w H h) (e : H a = some (.dK kvs)) : kvs.length ≤ sizeLine ∧ (a == sysModules) = false ∧ ∃ vs, KV kvs vs ∧ h.DictOf (mixKind P w) a vs := dk_rd ok (.inl e)
/-- a tracked tuple of ints and texts is a key -/
theorem key_of {ks : List Key} (ok : HOk P w H h) (e : H a = some (.tup (ks.map kV))) : (tupleKind (mixKind P w)).is h ks a := by
  obtain ⟨_, its, r, o, h1, h2, n, h3⟩ := (show ObjOk P w H h a (.tup (ks.map kV)) from ok a _ e)
  exact ⟨o, its.toArray, n, h1, h2, h3, by simpa using items_are r⟩
theorem dt_rd {kvs : List (List Key × V)} (ok : HOk P w H h) (e : Rd H a (.dT kvs)) : kvs.length ≤ sizeLine ∧ (a == sysModules) = false ∧
    ∃ xs, KT H kvs xs ∧ h.DictOfH (tupleKind (mixKind P w)) a xs := by
  obtain ⟨z, y, xs, r, o, es, ep, h1, h2, h3, h4, h5⟩ := (show ObjOk P w H h a (.dT kvs) from rd_of ok e)
  refine ⟨z, y, xs, r, o, es, ep, h1, h2, h3, h4, fun x hx => ?_, h5⟩
  have all : ∀ {l : List (List Key × V)} {m : List (List Key × Addr × Value)}, KT H l m → ∀ x ∈ m, (tupleKind (mixKind P w)).is h x.1 x.2.1 := by
    intro l m q
    induction q with
    | nil => intro x hx; exact nomatch hx
    | @cons p q ps qs hq t ih =>
      intro x hx
      rcases List.mem_cons.mp hx with e | hx
      · subst e
        exact key_of ok (by rw [← hq.1]; exact hq.2.1)
      · exact ih x hx
  exact all r x hx
theorem dt_of {kvs : List (List Key × V)} (ok : HOk P w H h) (e : H a = some (.dT kvs)) : kvs.length ≤ sizeLine ∧ (a == sysModules) = false ∧
    ∃ xs, KT H kvs xs ∧ h.DictOfH (tupleKind (mixKind P w)) a xs := dt_rd ok (.inl e)
end

/-- what the dict at a holds at the key y -/
def DGet (H : Hp) (a : Addr) (y : V) (r : Option V) : Prop :=
  (∃ kvs k, Rd H a (.dK kvs) ∧ y = kV k ∧ r = valV kvs k) ∨ ∃ kvs k b, Rd H a (.dT kvs) ∧ y = .ref b ∧ H b = some (.tup (k.map kV)) ∧ r = valV kvs k
/-- the heap behind a[y] = v -/
def DPut (H : Hp) (a : Addr) (y v : V) (H' : Hp) : Prop :=
  (∃ kvs k, H a = some (.dK kvs) ∧ y = kV k ∧ kvs.length < sizeLine ∧ H' = upd H a (.dK (putK kvs k v))) ∨
  ∃ kvs k b, H a = some (.dT kvs) ∧ y = .ref b ∧ H b = some (.tup (k.map kV)) ∧ kvs.length < sizeLine ∧ H' = upd H a (.dT (putK kvs k v))
theorem DGet.k {H : Hp} {a : Addr} {kvs : List (Key × V)} {k : Key} (e : H a = some (.dK kvs)) : DGet H a (kV k) (valV kvs k) := .inl ⟨kvs, k, .inl e, rfl, rfl⟩
theorem DGet.t {H : Hp} {a b : Addr} {kvs : List (List Key × V)} {k : List Key} (e : H a = some (.dT kvs)) (eb : H b = some (.tup (k.map kV))) : DGet H a (.ref b) (valV kvs k) := .inr ⟨kvs, k, b, .inl e, rfl, eb, rfl⟩
theorem DPut.k {H : Hp} {a : Addr} {kvs : List (Key × V)} {k : Key} {v : V} (e : H a = some (.dK kvs)) (hl : kvs.length < sizeLine) : DPut H a (kV k) v (upd H a (.dK (putK kvs k v))) := .inl ⟨kvs, k, e, rfl, hl, rfl⟩
theorem DPut.t {H : Hp} {a b : Addr} {kvs : List (List Key × V)} {k : List Key} {v : V} (e : H a = some (.dT kvs)) (eb : H b = some (.tup (k.map kV))) (hl : kvs.length < sizeLine) :
    DPut H a (.ref b) v (upd H a (.dT (putK kvs k v))) := .inr ⟨kvs, k, b, e, rfl, eb, hl, rfl⟩


section
variable {X : Cx} {pins : List (Addr × Obj)} {σ : St} {H : Hp} {s : Shared} {a : Addr} {y v : V} {u r : Value} {o : Option V} {A : Around} {E : Value → Shared → Prop}

theorem Inv.big (I : Inv X pins σ H s) : sysModules < s.heap.objs.size := by
  have h : mainGlobals < s.heap.objs.size := (I.mod.glob.keeps I.bk).lt
  exact Nat.lt_trans (by decide) h

/-- d[y], there -/
theorem d_getItem {Q : Value → Shared → Prop} (hu : A.units + 1 < cLine) (I : Inv X pins σ H s) (g : DGet H a y (some v)) (ry : RelV y u) (h : ∀ w' s', Inv X pins σ H s' → RelV v w' → Q w' s') :
    wpAny (model X.prog X.w) A (getItem (.ref a) u) Q E s := by
  rcases g with ⟨kvs, k, e, ey, l⟩ | ⟨kvs, k, b, e, ey, eb, l⟩
  · subst ey
    obtain ⟨z, hd, vs, rel, dd⟩ := dk_rd I.hok e
    obtain ⟨w', hw, rw'⟩ := RelO.some_of (v := v) (o := valueAt vs k) (by rw [l]; exact rel.val k)
    exact wpAny_getItem_of (kV_is ry) dd.mapOf hw (h w' _ (I.tok _) rw')
  · subst ey
    cases (show u = Value.ref b from ry)
    obtain ⟨z, hd, xs, rel, dd⟩ := dt_rd I.hok e
    obtain ⟨w', hw, rw'⟩ := RelO.some_of (v := v) (o := (atKey xs k).map (·.2)) (by rw [l]; exact rel.val k)
    obtain ⟨p, hp, hp2⟩ := Option.map_eq_some_iff.mp hw
    refine wpAny_getItem_heap (tupleKind_room_in1 hu) (key_of I.hok eb) dd hp ?_
    rw [hp2]
    exact h w' _ (I.tok _) rw'
theorem d_notIn {Q : Value → Shared → Prop} (hu : A.units + 1 < cLine) (I : Inv X pins σ H s) (g : DGet H a y o) (ry : RelV y u) (h : ∀ s', Inv X pins σ H s' → Q (.bool (!o.isSome)) s') :
    wpAny (model X.prog X.w) A (compareOp .NotIn u (.ref a)) Q E s := by
  rcases g with ⟨kvs, k, e, ey, l⟩ | ⟨kvs, k, b, e, ey, eb, l⟩
  · subst ey
    obtain ⟨z, hd, vs, rel, dd⟩ := dk_rd I.hok e
    refine wpAny_notIn_of (kV_is ry) hd dd.mapOf ?_
    rw [← (rel.val k).isSome_eq, ← l]
    exact h _ (I.tok _)
  · subst ey
    cases (show u = Value.ref b from ry)
    obtain ⟨z, hd, xs, rel, dd⟩ := dt_rd I.hok e
    refine wpAny_notIn_heap (tupleKind_room_in1 hu) (key_of I.hok eb) hd dd ?_
    have q := (rel.val k).isSome_eq
    rw [Option.isSome_map] at q
    rw [← q, ← l]
    exact h _ (I.tok _)
/-- a dict's object is replaced -/
theorem d_write {h' : Heap} {t' : Nat} {ob : HO} (I : Inv X pins σ H s) (mu : Mut (H a)) (hs : Heap.SameBut a s.heap h') (he : ∃ q, h'.get? a = some q) (new : ObjOk X.prog X.w (upd H a ob) h' a ob) :
    Inv X pins σ (upd H a ob) { s with heap := h', toks := t' } :=
  I.write (x := a) (e := a) mu (.inl rfl) (fun b q hb z => (hs.2 b hb).trans z) he new
theorem dk_new {P : Program} {w : World} {H' : Hp} {h' : Heap} {kvs : List (Key × V)} {vs : List (Key × Value)} (z : kvs.length ≤ sizeLine) (hd : (a == sysModules) = false) (rel : KV kvs vs) (dd : h'.DictOf (mixKind P w) a vs) :
    ObjOk P w H' h' a (.dK kvs) := ⟨z, hd, vs, rel, dd⟩
/-- d[y] = v -/
theorem d_setItem {H' : Hp} {Q : Unit → Shared → Prop} (hu : A.units + 1 < cLine) (I : Inv X pins σ H s) (g : DPut H a y v H') (ry : RelV y u) (rv : RelV v r) (h : ∀ s', Inv X pins σ H' s' → Q () s') :
    wpAny (model X.prog X.w) A (setItem (.ref a) u r) Q E s := by
  rcases g with ⟨kvs, k, e, ey, l, eH⟩ | ⟨kvs, k, b, e, ey, eb, l, eH⟩
  · subst ey eH
    obtain ⟨z, hd, vs, rel, dd⟩ := dk_of I.hok e
    have hz : vs.length ≤ sizeLine := by rw [← rel.length]; exact z
    have hl : (putK kvs k v).length ≤ sizeLine := by have := length_putK kvs k v; lia
    refine wpAny_setItem_pairs (hsz := hz) (kV_is ry) dd fun h' dd' hs => h _ ?_
    have he : ∃ q, h'.get? a = some q := let ⟨q, _, _, hq, _⟩ := dd'; ⟨q, hq⟩
    exact d_write I (by rw [e]; exact True.intro) hs he (dk_new hl hd (rel.put k rv) dd')
  · subst ey eH
    cases (show u = Value.ref b from ry)
    obtain ⟨z, hd, xs, rel, dd⟩ := dt_of I.hok e
    have hz : xs.length ≤ sizeLine := by rw [← Paired.length rel]; exact z
    have hl : (putK kvs k v).length ≤ sizeLine := by have := length_putK kvs k v; lia
    refine wpAny_setItem_heap (hsz := hz) (tupleKind_room_in1 hu) (key_of I.hok eb) dd fun h' dd' hs => h _ ?_
    obtain ⟨q, es, ep, hq, h2, h3, h4, _, h5⟩ := dd'
    refine d_write I (by rw [e]; exact True.intro) hs ⟨q, hq⟩ ⟨hl, hd, _, (rel.put k eb rv).keeps fun c ys ec => ?_, q, es, ep, hq, h2, h3, h4, h5⟩
    rw [upd_ne (ne_of ec e (fun z => nomatch z))]
    exact ec
end

section
variable {X : Cx} {pins : List (Addr × Obj)} {σ : St} {H : Hp} {s : Shared} {a : Addr} {kvs : List (Key × V)} {k : Key} {u : Value} {A : Around} {E : Value → Shared → Prop}
end


/-! ### readings and rules -/
/-- the element of a subscription, not a slice -/
def NoSl (i : Expr) : Prop := ∀ ov iv, subscripted i false ov iv = operate [ov, iv] (getItem ov iv)
theorem subD_of {prog : Program} {w : World} {A : Around} {E : Value → Shared → Prop} {s : Shared} {env : Env} {value slice : Expr} {pos : Pos} {T id : String} {Q : Value → Shared → Prop}
    (hl : typeLookup (.type T) "__getitem__" = pure (some (.builtin id))) (hs : NoSl slice)
    (h : wpAny (model prog w) A (eval value env) (fun o s₁ => wpAny (model prog w) A (eval slice env) (fun i s₂ => s₂.TypeIs o T ∧ wpAny (model prog w) A (getItem o i) Q E s₂) E s₁) E s) :
    wpAny (model prog w) A (eval (.Subscript value slice pos) env) Q E s := by
  refine Subscript_ (wpAny_mono h (fun o s₁ h₁ => wpAny_mono h₁ (fun i s₂ h₂ => ?_) fun _ _ x => x) fun _ _ x => x)
  obtain ⟨hT, h₂⟩ := h₂
  unfold subscriptTail
  refine wpAny_bind ?_
  rw [getitemInPython_of_ne hT.not_modules]
  refine wpAny_bind (wpAny_specialOf hT hl ?_)
  have fin : wpAny (model prog w) A (subscripted slice false o i) (fun r s₃ => wpAny (model prog w) A (letTemporaryGo value o r >>= fun _ => pure r) Q E s₃) E s₂ := by
    rw [hs o i]
    exact wpAny_operating (wpAny_mono h₂ (fun r s₃ h₃ => wpAny_bind (wpAny_letTemporaryGo (wpAny_pure h₃))) fun _ _ x => x)
  first
    | exact wpAny_pure (wpAny_bind fin)
    | exact wpAny_bind (wpAny_pure (wpAny_bind fin))
    | exact wpAny_bind fin

theorem dict_typeIs {X : Cx} {pins : List (Addr × Obj)} {σ : St} {H : Hp} {s : Shared} {a : Addr} {y : V} {o : Option V} (I : Inv X pins σ H s) (g : DGet H a y o) : s.TypeIs (.ref a) "dict" := by
  rcases g with ⟨kvs, k, e, _, _⟩ | ⟨kvs, k, b, e, _, _, _⟩
  · obtain ⟨_, _, vs, _, dd⟩ := dk_rd I.hok e
    exact dd.typeIs
  · obtain ⟨_, _, xs, _, dd⟩ := dt_rd I.hok e
    exact dd.typeIs
/-- d[y] -/
def tDGet (td ty : TE) : TE := fun σ H Q => td σ H fun x H1 => ty σ H1 fun y H2 => ∃ a v, x = .ref a ∧ DGet H2 a y (some v) ∧ Q v H2
def tDNotIn (ty td : TE) : TE := fun σ H Q => ty σ H fun y H1 => td σ H1 fun x H2 => ∃ a o, x = .ref a ∧ DGet H2 a y o ∧ Q (.bl (!o.isSome)) H2
/-- d[y] = v -/
def sDPut (td ty tv : TE) : TS := fun D σ H => tv σ H fun v H1 => td σ H1 fun x H2 => ty σ H2 fun y H3 => ∃ a H4, x = .ref a ∧ DPut H3 a y v H4 ∧ D.nx σ H4
section
variable {X : Cx} {o i e value : Expr} {pos pos' tpos : Pos} {td ty tv : TE}
theorem pe_dget (hu : X.A.units + 1 < cLine) (ho : PE X o td) (hi : PE X i ty) (hs : NoSl i) : PE X (.Subscript o i pos) (tDGet td ty) := by
  intro pins s σ H Q I h
  refine subD_of PySem.F.slot_dict_getitem.lookup hs (thn (ho pins s σ H _ I h) fun u s1 ⟨x, H1, I1, rx, q1⟩ => thn (hi pins s1 σ H1 _ I1 q1) fun iv s2 ⟨y, H2, I2, ry, a, v, ex, g, q2⟩ => ?_)
  subst ex
  obtain rfl : u = Value.ref a := rx
  exact ⟨dict_typeIs I2 g, d_getItem hu I2 g ry fun w' s3 I3 rw' => ⟨v, H2, I3, rw', q2⟩⟩
theorem pc_dnotin (hu : X.A.units + 1 < cLine) (hi : PE X i ty) (ho : PE X o td) : PC X .NotIn i o (tDNotIn ty td) := by
  intro pins s σ H Q I h
  refine thn (hi pins s σ H _ I h) fun iv s1 ⟨y, H1, I1, ry, q1⟩ => thn (ho pins s1 σ H1 _ I1 q1) fun u s2 ⟨x, H2, I2, rx, a, ov, ex, g, q2⟩ => ?_
  subst ex
  obtain rfl : u = Value.ref a := rx
  exact d_notIn hu I2 g ry fun s3 I3 => ⟨.bl (!ov.isSome), H2, I3, rfl, q2⟩
theorem ps_dput (hu : X.A.units + 1 < cLine) (ho : PE X o td) (hi : PE X i ty) (hv : PE X value tv) (hs : swapsWith value (some (.Subscript o i pos')) pos.line X.env = pure false) :
    PS X (.Assign [.Subscript o i pos'] value pos) (sDPut td ty tv) := by
  intro pins s σ H D I h
  refine wpAny_Assign_Subscript (thn (hv pins s σ H _ I h) fun r s1 ⟨v, H1, I1, rv, q1⟩ => thn (ho pins s1 σ H1 _ I1 q1) fun u s2 ⟨x, H2, I2, rx, q2⟩ => thn (hi pins s2 σ H2 _ I2 q2) fun iv s3 ⟨y, H3, I3, ry, a, H4, ex, g, q3⟩ => ?_) hs
  subst ex
  obtain rfl : u = Value.ref a := rx
  exact d_setItem hu I3 g ry rv fun s4 I4 => ⟨σ, H4, I4, q3⟩
end


/-! ### displays -/
theorem dk_empty {P : Program} {w : World} {H : Hp} (h : Heap) (hb : sysModules < h.objs.size) : ObjOk P w H (h.push { cls := .type "dict", data := .dict #[] }) h.objs.size (.dK []) :=
  ⟨Nat.zero_le _, beq_eq_false_iff_ne.mpr (Ne.symm (Nat.ne_of_lt hb)), [], .nil, Heap.DictOf.new h⟩
section
variable {X : Cx} {pos : Pos}
end

/-- the pairs of a display, from the left -/
def tPairs : List (TE × TE) → St → Hp → (List (V × V) → Hp → Prop) → Prop
  | [], _, H, Q => Q [] H
  | (tk, tv) :: r, σ, H, Q => tk σ H fun x H1 => tv σ H1 fun y H2 => tPairs r σ H2 fun ps H3 => Q ((x, y) :: ps) H3
abbrev VV : List (V × V) → List (Value × Value) → Prop := Paired fun p q => RelV p.1 q.1 ∧ RelV p.2 q.2
def PPs (X : Cx) (pos : Pos) (keys : List (Option Expr)) (values : List Expr) (trs : List (TE × TE)) : Prop :=
  ∀ (pins : List (Addr × Obj)) (s : Shared) (σ : St) (H : Hp) (Q : List (V × V) → Hp → Prop), Inv X pins σ H s → tPairs trs σ H Q →
    wpAny (model X.prog X.w) X.A (evalPairs (pairTrees keys values X.env pos)) (fun vs s' => ∃ ps H', Inv X pins σ H' s' ∧ VV ps vs ∧ Q ps H') X.xe s
theorem pps_nil {X : Cx} {pos : Pos} : PPs X pos [] [] [] := fun pins s σ H Q I h => pairTrees_nil_walk ⟨[], H, I, .nil, h⟩
theorem pps_cons {X : Cx} {pos : Pos} {k v : Expr} {ks : List (Option Expr)} {vs : List Expr} {tk tv : TE} {trs : List (TE × TE)} (hk : PE X k tk) (hv : PE X v tv) (hr : PPs X pos ks vs trs) :
    PPs X pos (some k :: ks) (v :: vs) ((tk, tv) :: trs) := fun pins s σ H Q I h =>
  pairTrees_cons_walk (thn (hk pins s σ H _ I h) fun u s1 ⟨x, H1, I1, rx, q1⟩ => thn (hv pins s1 σ H1 _ I1 q1) fun w2 s2 ⟨y, H2, I2, ry, q2⟩ =>
    thn (hr pins s2 σ H2 _ I2 q2) fun ws s3 ⟨ps, H3, I3, rel, q3⟩ => ⟨(x, y) :: ps, H3, I3, .cons ⟨rx, ry⟩ rel, q3⟩)

def mergeK (kvs more : List (Key × V)) : List (Key × V) := more.foldl (fun acc kv => putK acc kv.1 kv.2) kvs
theorem KV.merge : ∀ {more : List (Key × V)} {rs : List (Key × Value)} {kvs : List (Key × V)} {vs : List (Key × Value)}, KV more rs → KV kvs vs → KV (mergeK kvs more) (merged vs rs) := by
  intro more rs kvs vs r
  unfold KV at r
  induction r generalizing kvs vs with
  | nil => intro q; exact q
  | @cons p q ps qs h t ih =>
    intro r0
    have e : KV (putK kvs p.1 p.2) (stored vs q.1 q.2) := by
      have := r0.put p.1 h.2
      rw [← h.1]; exact this
    exact ih e
theorem length_mergeK : ∀ (more kvs : List (Key × V)), (mergeK kvs more).length ≤ kvs.length + more.length
  | [], kvs => by show kvs.length ≤ kvs.length + 0; lia
  | p :: r, kvs => by
    have h1 := length_mergeK r (putK kvs p.1 p.2)
    have h2 := length_putK kvs p.1 p.2
    show (mergeK (putK kvs p.1 p.2) r).length ≤ _
    rw [List.length_cons]; lia
theorem carries_of {P : Program} {w : World} : ∀ {kvs : List (Key × V)} {ws : List (Value × Value)}, VV (kvs.map fun kv => (kV kv.1, kv.2)) ws → ∃ rs, Carries (mixKind P w) ws rs ∧ KV kvs rs
  | [], _, r => by rw [List.map_nil] at r; cases r; exact ⟨[], True.intro, .nil⟩
  | p :: kvs, _, r => by
    rw [List.map_cons] at r
    cases r with
    | @cons a b as bs h t =>
      obtain ⟨rs, c, q⟩ := carries_of (P := P) (w := w) t
      obtain ⟨b1, b2⟩ := b
      exact ⟨(p.1, b2) :: rs, ⟨kV_is h.1, rfl, c⟩, .cons ⟨rfl, h.2⟩ q⟩
/-- {k: v, ..} with keys ints and texts; the new dict stands empty while the pairs are made -/
def tDisp (trs : List (TE × TE)) : TE := fun σ H Q => ∀ p, H p = none → tPairs trs σ (upd H p (.dK [])) fun ps H2 => H2 p = some (.dK []) ∧ ∃ kvs : List (Key × V), ps = kvs.map (fun kv => (kV kv.1, kv.2)) ∧ kvs.length ≤ 15 ∧ Q (.ref p) (upd H2 p (.dK (mergeK [] kvs)))
theorem pe_disp {X : Cx} {pos : Pos} {keys : List (Option Expr)} {values : List Expr} {trs : List (TE × TE)} (h : PPs X pos keys values trs) (hall : keys.all (·.isSome) = true) (hl : keys.length = values.length) (h0 : keys ≠ [])
    (h15 : keys.length ≤ 15) : PE X (.Dict keys values pos) (tDisp trs) := by
  intro pins s σ H Q I q
  have hn := I.hok.fresh (Nat.le_refl s.heap.objs.size)
  have I1 := I.laid (a := s.heap.objs.size) (o := .dK []) (h' := s.heap.push { cls := .type "dict", data := .dict #[] }) (t' := s.toks) (fun _ _ q => Heap.get?_push_of_some _ q) (Nat.le_refl _) (dk_empty s.heap I.big)
  refine wpAny_Dict_walk (knd := mixKind X.prog X.w) hall hl h0 h15 (thn (h pins _ σ _ _ I1 (q _ hn)) fun ws s2 ⟨ps, H2, I2, rel, e, kvs, ep, lk, q2⟩ => ?_)
  subst ep
  obtain ⟨rs, c, rk⟩ := carries_of (P := X.prog) (w := X.w) rel
  obtain ⟨z, hd, vs0, r0, dd⟩ := dk_of I2.hok e
  cases r0
  refine ⟨rs, c, dd, fun h' dd' hs => ⟨.ref s.heap.objs.size, _, ?_, rfl, q2⟩⟩
  have hz : (mergeK [] kvs).length ≤ sizeLine := by
    have h1 := length_mergeK kvs []
    rw [List.length_nil] at h1
    rw [sizeLine_eq]; lia
  have he : ∃ q, h'.get? s.heap.objs.size = some q := let ⟨q, _, _, hq, _⟩ := dd'; ⟨q, hq⟩
  exact d_write I2 (by rw [e]; exact True.intro) hs he (dk_new hz hd (rk.merge .nil) dd')


/-! ### methods -/
/-- a method call o.m(e) of a built-in, with one argument: what must be seen of the text -/
structure M1 (X : Cx) (o : Expr) (m : Str) (apos : Pos) (e : Expr) (cpos : Pos) : Prop where
  base : attributeBase o m X.env (eval o X.env) = eval o X.env
  few : ((backTo cpos (starEach [e] X.env)).all (fun x => !x.1) && (backToKw cpos (keywordEach [] X.env)).all (fun x => x.1.isSome)
    && decide (([e] : List Expr).length + ([] : List Keyword).length + (if ([] : List Keyword).isEmpty then 0 else 1) < 30)) = true
  line : (apos.endLine == cpos.line) = true
  trees : backTo cpos (starEach [e] X.env) = [(false, eval e X.env)]
structure M2 (X : Cx) (o : Expr) (m : Str) (apos : Pos) (e f : Expr) (cpos : Pos) : Prop where
  base : attributeBase o m X.env (eval o X.env) = eval o X.env
  few : ((backTo cpos (starEach [e, f] X.env)).all (fun x => !x.1) && (backToKw cpos (keywordEach [] X.env)).all (fun x => x.1.isSome)
    && decide (([e, f] : List Expr).length + ([] : List Keyword).length + (if ([] : List Keyword).isEmpty then 0 else 1) < 30)) = true
  line : (apos.endLine == cpos.line) = true
  trees : backTo cpos (starEach [e, f] X.env) = [(false, eval e X.env), (false, eval f X.env)]

section
variable {X : Cx} {pins : List (Addr × Obj)} {σ : St} {H : Hp} {s : Shared} {a : Addr} {y d : V} {u r : Value} {o : Option V} {A : Around} {E : Value → Shared → Prop}
end

section
variable {X : Cx} {o e f : Expr} {apos cpos : Pos} {td ty tx : TE}
end

/-! ### dict(d): a copy -/
section
variable {X : Cx} {pins : List (Addr × Obj)} {σ : St} {H : Hp} {s : Shared} {a : Addr} {kvs : List (Key × V)} {A : Around} {E : Value → Shared → Prop}
end


section
variable {X : Cx} {pins : List (Addr × Obj)} {σ : St} {H : Hp} {s : Shared} {a : Addr} {y : V} {u : Value} {A : Around} {E : Value → Shared → Prop}
end
end L2

namespace HT
open PySem PyProof.Rows

section
open PySem.SeqAt
open PySem.AutoSeq1 (wpAny_loadPart')
open PySem.MeetsSeq PySem.MeetsSeq2 PySem.MeetsSeq3

end

section
variable {prog : Program} {w : World} {A : Around} {E : Value → Shared → Prop} {s : Shared}

/-- t + u, t not empty -/
theorem cat_tup {t b : Addr} {vs ws : List Value} {Q : Value → Shared → Prop} (ht : IsTup s.heap t vs.toArray) (hb : IsTup s.heap b ws.toArray) (hv : vs ≠ [])
    (h1 : ws = [] → Q (.ref t) s) (h2 : ws ≠ [] → Q (.ref s.heap.objs.size) { s with heap := s.heap.push { cls := .type "tuple", data := .seq (vs ++ ws).toArray } })
    (hsz : vs.length + ws.length ≤ sizeLine) : wpAny (model prog w) A (binaryOp .Add (.ref t) (.ref b)) Q E s := by
  obtain ⟨⟨cls, dd, data, sl⟩, ho, hc, n, hd⟩ := id ht
  obtain ⟨⟨cls2, dd2, data2, sl2⟩, ho2, hc2, n2, hd2⟩ := id hb
  simp only at hc hd hc2 hd2
  subst hc hd hc2 hd2
  have e : vs.toArray ++ ws.toArray = (vs ++ ws).toArray := by simp
  by_cases hw : ws = []
  · exact concat_meets ⟨_, ho, rfl⟩ ⟨_, ho2, rfl⟩ noFill_tuple_add seq_tuple_add PySem.F.slot_tuple_add PySem.F.entry_tuple_add (PySem.F.args_tuple_add_2 _ _)
      (tuple_addW1 t b vs.toArray ws.toArray n n2 dd dd2 sl sl2 (by simpa using hv) (by simp [hw])) ⟨ho, ho2, h1 hw⟩
  · refine concat_meets ⟨_, ho, rfl⟩ ⟨_, ho2, rfl⟩ noFill_tuple_add seq_tuple_add PySem.F.slot_tuple_add PySem.F.entry_tuple_add (PySem.F.args_tuple_add_2 _ _)
      (tuple_addW2 t b vs.toArray ws.toArray n n2 dd dd2 sl sl2 (by simpa using hv) (by simpa using hw) (by rw [List.size_toArray, List.size_toArray]; exact hsz)) ⟨ho, ho2, ?_⟩
    rw [e]
    exact h2 hw

/-! ### t[a:b], not the whole -/
/-- a slice's bound as a place among n (d where it is left out) -/
def sIx (n d : Nat) : Option Int → Nat
  | none => d
  | some v => if v < 0 then (v + (n : Int)).toNat else min v.toNat n
theorem sIx_none (n d : Nat) : sIx n d none = d := rfl
theorem sIx_nat (n d k : Nat) : sIx n d (some (k : Int)) = min k n := by
  show (if (k : Int) < 0 then ((k : Int) + (n : Int)).toNat else min (k : Int).toNat n) = min k n
  rw [if_neg (by lia), Int.toNat_natCast]
theorem sIx_le (n d : Nat) (hd : d ≤ n) (o : Option Int) : sIx n d o ≤ n := by
  cases o with
  | none => exact hd
  | some v =>
    show (if v < 0 then (v + (n : Int)).toNat else min v.toNat n) ≤ n
    by_cases hv : v < 0
    · rw [if_pos hv]; lia
    · rw [if_neg hv]; exact Nat.min_le_right _ _
theorem clip_eq (v : Int) (n d : Nat) : (if v < 0 then max (v + (n : Int)) 0 else min v (n : Int)) = ((sIx n d (some v) : Nat) : Int) := by
  show (if v < 0 then max (v + (n : Int)) 0 else min v (n : Int)) = (((if v < 0 then (v + (n : Int)).toNat else min v.toNat n) : Nat) : Int)
  by_cases hv : v < 0
  · simp only [if_pos hv]; lia
  · simp only [if_neg hv]; lia
theorem adjust_gen (lo hi : Option Int) (n : Nat) : Builtin.Slice.sliceAdjust lo hi 1 (n : Int) = (((sIx n 0 lo : Nat) : Int), ((sIx n n hi : Nat) : Int)) := by
  have h1 : ¬ ((1 : Int) < 0) := by lia
  unfold Builtin.Slice.sliceAdjust
  simp only [h1, if_false]
  refine Prod.ext ?_ ?_
  · cases lo with
    | none => rfl
    | some v => exact clip_eq v n 0
  · cases hi with
    | none => rfl
    | some v => exact clip_eq v n n
theorem places_gen (i j : Nat) : Builtin.Slice.slicePlaces (i : Int) (j : Int) 1 = j - i := by
  unfold Builtin.Slice.slicePlaces
  have h1 : (1 : Int) > 0 := by lia
  simp only [h1, if_true, Int.ediv_one]
  split <;> lia
theorem slicePart_ {v : Value} {o : Option Int} {Q : Option Int → Shared → Prop} (p : IsPart v o) (h : Q o s) : wpAny (model prog w) A (Builtin.Slice.slicePartIndex v) Q E s := by
  cases p with
  | none => exact slicePart_none h
  | int i t => exact slicePart_int h
theorem sliceApplied_gen {sl : Addr} {vl vu : Value} {lo hi : Option Int} {n : Nat} {Q : Int × Int × Nat → Shared → Prop} (hs : s.heap.IsSliceOf sl vl vu .none) (pl : IsPart vl lo) (pu : IsPart vu hi)
    (h : Q (((sIx n 0 lo : Nat) : Int), 1, sIx n n hi - sIx n 0 lo) s) : wpAny (model prog w) A (Builtin.Slice.sliceApplied (.ref sl) (pure (n : Int))) Q E s := by
  obtain ⟨os, hos, hcs, hds⟩ := id hs
  unfold Builtin.Slice.sliceApplied Builtin.Slice.sliceFields
  refine wpAny_bind (wpAny_bind (wpAny_field hos hds (x := vl) rfl (wpAny_bind (wpAny_field hos hds (x := vu) rfl (wpAny_bind (wpAny_field hos hds (x := .none) rfl (wpAny_pure ?_)))))))
  refine wpAny_bind (slicePart_none ?_)
  show wpAny _ _ (if ((1 : Int) == 0) = true then _ else _) _ _ s
  rw [if_neg (by decide)]
  refine wpAny_bind (slicePart_ pl (wpAny_bind (slicePart_ pu (wpAny_bind (wpAny_pure ?_)))))
  show wpAny _ _ (match Builtin.Slice.sliceAdjust lo hi 1 (n : Int) with | (lo, hi) => pure (lo, (1 : Int), Builtin.Slice.slicePlaces lo hi 1)) _ _ s
  rw [adjust_gen lo hi n]
  show wpAny _ _ (pure (((sIx n 0 lo : Nat) : Int), (1 : Int), Builtin.Slice.slicePlaces ((sIx n 0 lo : Nat) : Int) ((sIx n n hi : Nat) : Int) 1)) _ _ s
  rw [places_gen]
  exact wpAny_pure h
theorem pick_gen (xs : Array Value) (i k : Nat) : ((List.range k).filterMap fun (m : Nat) => xs[((i : Int) + (m : Int) * 1).toNat]?).toArray = ((xs.toList.drop i).take k).toArray := by
  have e : (fun (m : Nat) => xs[((i : Int) + (m : Int) * 1).toNat]?) = fun m => xs[i + m]? := by
    funext m
    have : ((i : Int) + (m : Int) * 1).toNat = i + m := by lia
    rw [this]
  rw [e]
  have := pick_run xs i k
  rw [List.filterMap_map] at this
  have e2 : ((fun x => xs[x]?) ∘ fun x => i + x) = fun m => xs[i + m]? := rfl
  rw [e2] at this
  rw [this]

theorem getItem_tuple_cut {t sl : Addr} {items : Array Value} {vl vu : Value} {lo hi : Option Int} {Q : Value → Shared → Prop} (ht : IsTup s.heap t items) (hs : s.heap.IsSliceOf sl vl vu .none) (pl : IsPart vl lo) (pu : IsPart vu hi)
    (hw : ¬ (sIx items.size 0 lo = 0 ∧ sIx items.size items.size hi = items.size))
    (h : Q (.ref s.heap.objs.size) { s with heap := s.heap.push { cls := .type "tuple", data := .seq ((items.toList.drop (sIx items.size 0 lo)).take (sIx items.size items.size hi - sIx items.size 0 lo)).toArray } })
    (hsz : items.size ≤ sizeLine) : wpAny (model prog w) A (getItem (.ref t) (.ref sl)) Q E s := by
  have htake : sizeOk (.seq ((items.toList.drop (sIx items.size 0 lo)).take (sIx items.size items.size hi - sIx items.size 0 lo)).toArray) := by
    show ((items.toList.drop (sIx items.size 0 lo)).take (sIx items.size items.size hi - sIx items.size 0 lo)).toArray.size ≤ sizeLine
    rw [List.size_toArray, List.length_take, List.length_drop, Array.length_toList]
    lia
  have hj : sIx items.size items.size hi ≤ items.size := sIx_le _ _ (Nat.le_refl _) hi
  obtain ⟨os, hos, hcs, hds⟩ := id hs
  have hTs : s.TypeIs (.ref sl) "slice" := ⟨os, hos, hcs⟩
  unfold getItem
  try with_reducible refine wpAny_holding ?_
  first | refine wpAny_bind (wpAny_pure ?_) | skip
  refine wpAny_bind (wpAny_sequenceKey ht.typeIs (by decide) ?_)
  refine wpAny_bind (wpAny_callSpecial?_slot (name := Str.ofString "__getitem__") ht.typeIs PyProof.Rows.slot_tuple_getitem
    (wpAny_call_entry PyProof.Rows.slot_tuple_getitem ht.typeIs entry_tuple_getitem ?_ (args_tuple_getitem _ _)))
  show wpAny _ _ (Builtin.Tuple.tupleItemsOf (.ref t) >>= _) _ _ s
  refine wpAny_bind (tupleItemsOf_ ht ?_)
  refine wpAny_bind (wpAny_typeOf hTs ?_)
  rw [if_pos (by decide)]
  refine wpAny_bind (sliceApplied_gen hs pl pu ?_)
  have hno : ¬ ((((sIx items.size 0 lo : Nat) : Int) == 0 && (1 : Int) == 1 && (sIx items.size items.size hi - sIx items.size 0 lo) == items.size) = true) := by
    intro q
    rw [Bool.and_eq_true, Bool.and_eq_true] at q
    have q1 : ((sIx items.size 0 lo : Nat) : Int) = 0 := eq_of_beq q.1.1
    have q2 : sIx items.size items.size hi - sIx items.size 0 lo = items.size := eq_of_beq q.2
    exact hw ⟨by lia, by lia⟩
  show wpAny _ _ (if (((sIx items.size 0 lo : Nat) : Int) == 0 && (1 : Int) == 1 && (sIx items.size items.size hi - sIx items.size 0 lo) == items.size) = true then _ else _) _ _ s
  rw [if_neg hno, pick_gen]
  first
    | exact wpAny_bind (m := Builtin.Tuple.tupleExact _) (wpAny_newObj_type (wpAny_pure ⟨_, rfl, wpAny_pure h⟩) htake)
    | exact wpAny_bind (m := Builtin.Tuple.tupleExact _) (wpAny_newObj_type (wpAny_bind (wpAny_pure (wpAny_pure ⟨_, rfl, wpAny_pure h⟩))) htake)
    | exact wpAny_bind (wpAny_bind (m := Builtin.Tuple.tupleExact _) (wpAny_newObj_type (wpAny_pure (wpAny_pure ⟨_, rfl, wpAny_pure h⟩)) htake))
    | exact wpAny_bind (wpAny_bind (m := Builtin.Tuple.tupleExact _) (wpAny_newObj_type (wpAny_pure ⟨_, rfl, wpAny_pure h⟩) htake))
end
end HT

namespace L2
open PySem PySem.Spec PyProof.Rows

/-! ### the parts of a slice -/
abbrev TO := St → Hp → (Option Int → Hp → Prop) → Prop
/-- a slice's part (left out, or an int) -/
def PO (X : Cx) (e : Option Expr) (t : TO) : Prop :=
  ∀ (pins : List (Addr × Obj)) (s : Shared) (σ : St) (H : Hp) (Q : Option Int → Hp → Prop), Inv X pins σ H s → t σ H Q →
    wpAny (model X.prog X.w) X.A (evalPart e X.env) (fun u s' => ∃ o H', Inv X pins σ H' s' ∧ IsPart u o ∧ Q o H') X.xe s
def tNoPart : TO := fun _ H Q => Q none H
def tPart (t : TE) : TO := fun σ H Q => t σ H fun x H1 => ∃ i, x = .int i ∧ Q (some i) H1

section
variable {X : Cx} {e : Expr} {te : TE} {lo hi : Option Expr} {tl th : TO} {pos p2 : Pos}

theorem po_none : PO X none tNoPart := by
  intro pins s σ H Q I h
  rw [evalPart_none]
  exact wpAny_pure ⟨none, H, I, .none, h⟩
theorem po_some (h : PE X e te) : PO X (some e) (tPart te) := by
  intro pins s σ H Q I hw
  rw [evalPart_some]
  refine thn (h pins s σ H _ I hw) fun u s1 ⟨x, H1, I1, r1, q1⟩ => ?_
  obtain ⟨i, rfl, q⟩ := q1
  obtain ⟨t, rfl⟩ := r1
  exact ⟨some i, H1, I1, .int i t, q⟩

/-- what a slice of a value is, by values: the slice object stands at sl -/
def SlR (X : Cx) (r : V → Option Int → Option Int → Hp → VK → Prop) : Prop :=
  ∀ (pins : List (Addr × Obj)) (s : Shared) (σ : St) (H : Hp) (x : V) (v vl vu : Value) (lo hi : Option Int) (sl : Addr) (Q : VK), Inv X pins σ H s → RelV x v → s.heap.IsSliceOf sl vl vu .none → IsPart vl lo → IsPart vu hi → r x lo hi H Q →
    ∃ T id, typeLookup (.type T) "__getitem__" = pure (some (.builtin id)) ∧ s.TypeIs v T ∧ wpAny (model X.prog X.w) X.A (getItem v (.ref sl)) (EP X pins σ Q) X.xe s
theorem SlR.or {r r' : V → Option Int → Option Int → Hp → VK → Prop} (h : SlR X r) (h' : SlR X r') : SlR X (fun x lo hi H Q => r x lo hi H Q ∨ r' x lo hi H Q) := by
  intro pins s σ H x v vl vu lo hi sl Q I rx hs pl pu q
  rcases q with q | q
  · exact h pins s σ H x v vl vu lo hi sl Q I rx hs pl pu q
  · exact h' pins s σ H x v vl vu lo hi sl Q I rx hs pl pu q
def tSl (r : V → Option Int → Option Int → Hp → VK → Prop) (te : TE) (tl th : TO) : TE := fun σ H Q => te σ H fun x H1 => tl σ H1 fun l H2 => th σ H2 fun u H3 => r x l u H3 Q
/-- a[lo:hi], any a -/
theorem pe_slice {r : V → Option Int → Option Int → Hp → VK → Prop} (hr : SlR X r) (he : PE X e te) (hl : PO X lo tl) (hu : PO X hi th) : PE X (.Subscript e (.Slice lo hi none p2) pos) (tSl r te tl th) := by
  intro pins s σ H Q I h
  refine Subscript_ (thn (he pins s σ H _ I h) fun v s1 ⟨x, H1, I1, r1, q1⟩ => ?_)
  refine wpAny_Slice (thn (hl pins s1 σ H1 _ I1 q1) fun vl s2 ⟨l, H2, I2, pl, q2⟩ => thn (hu pins s2 σ H2 _ I2 q2) fun vu s3 ⟨u, H3, I3, pu, q3⟩ => ?_)
  rw [evalPart_none]
  refine wpAny_pure ?_
  have I4 : Inv X pins σ H3 { s3 with heap := s3.heap.push { cls := .type "slice", data := .fields #[vl, vu, .none] } } := I3.kept (t' := s3.toks) fun b ob q => Heap.get?_push_of_some _ q
  obtain ⟨T, id, hT, ht, hg⟩ := hr pins { s3 with heap := s3.heap.push { cls := .type "slice", data := .fields #[vl, vu, .none] } } σ H3 x v vl vu l u s3.heap.objs.size Q I4 r1 (Heap.IsSliceOf.new ..) pl pu q3
  show wpAny (model X.prog X.w) X.A (subscriptTail e (.Slice lo hi none p2) v (.ref s3.heap.objs.size)) (EP X pins σ Q) X.xe { s3 with heap := s3.heap.push { cls := .type "slice", data := .fields #[vl, vu, .none] } }
  exact tail_any (ops := [.ref s3.heap.objs.size, v]) ht hT hg (by with_unfolding_all rfl)

/-- the items of xs[lo:hi] -/
def cutV (xs : List V) (lo hi : Option Int) : List V := (xs.drop (HT.sIx xs.length 0 lo)).take (HT.sIx xs.length xs.length hi - HT.sIx xs.length 0 lo)
theorem cutV_length (xs : List V) (lo hi : Option Int) : (cutV xs lo hi).length ≤ xs.length := by
  unfold cutV
  rw [List.length_take, List.length_drop]
  lia
/-- t[lo:hi], not the whole of it (the whole would be t itself) -/
def rSlT (K : PySem.W.Frag) : V → Option Int → Option Int → Hp → VK → Prop := fun x lo hi H Q => ∃ a xs, x = .ref a ∧ SqT K H a xs ∧
  ¬ (HT.sIx xs.length 0 lo = 0 ∧ HT.sIx xs.length xs.length hi = xs.length) ∧ ∀ p, H p = none → Q (.ref p) (upd H p (.tup (cutV xs lo hi)))
theorem sl_tup : SlR X (rSlT X.K) := by
  intro pins s σ H x v vl vu lo hi sl Q I rx hs pl pu h
  obtain ⟨a, xs, rfl, hx, hw, q⟩ := h
  cases rx
  obtain ⟨its, r, ht, hz⟩ := I.tuple hx
  have hlen : its.toArray.size = xs.length := by rw [List.size_toArray]; exact r.length.symm
  refine ⟨"tuple", _, PyProof.Rows.slot_tuple_getitem.lookup, ht.typeIs, ?_⟩
  refine HT.getItem_tuple_cut ht hs pl pu (by rw [hlen]; exact hw) ?_ (by rw [hlen]; exact hz)
  rw [hlen]
  refine ⟨.ref s.heap.objs.size, _, I.laid (t' := s.toks) (o := .tup (cutV xs lo hi)) (fun b ob q => Heap.get?_push_of_some _ q) (Nat.le_refl _) ?_, rfl, q _ (I.hok.fresh (Nat.le_refl _))⟩
  exact ⟨Nat.le_trans (cutV_length xs lo hi) hz, _, (r.drop (HT.sIx xs.length 0 lo)).take (HT.sIx xs.length xs.length hi - HT.sIx xs.length 0 lo), IsTup.new _ _⟩

/-! ### t < u, t + u -/
/-- t + u, t not empty: u empty gives t itself -/
def rCatT (K : PySem.W.Frag) : R2 := fun x y H Q => ∃ a b xs ys, x = .ref a ∧ y = .ref b ∧ SqT K H a xs ∧ SqT K H b ys ∧ xs ≠ [] ∧ xs.length + ys.length ≤ sizeLine ∧
  (ys = [] → Q (.ref a) H) ∧ (ys ≠ [] → ∀ p, H p = none → Q (.ref p) (upd H p (.tup (xs ++ ys))))
theorem Vals.nil_iff {xs : List V} {us : List Value} (r : Vals xs us) : us = [] ↔ xs = [] := by
  cases r with
  | nil => simp
  | cons _ _ => simp
theorem op_catT : OpR X (binaryOp .Add) (rCatT X.K) := by
  intro pins s σ H x y v u Q I rx ry h
  obtain ⟨a, b, xs, ys, rfl, rfl, ha, hb, hx, hz, q1, q2⟩ := h
  cases rx
  cases ry
  obtain ⟨its, r1, p1, _⟩ := I.tuple ha
  obtain ⟨its2, r2, p2, _⟩ := I.tuple hb
  refine HT.cat_tup p1 p2 (fun z => hx (r1.nil_iff.mp z)) (fun z => ⟨.ref a, H, I, rfl, q1 (r2.nil_iff.mp z)⟩) (fun z => ?_) (by rw [← r1.length, ← r2.length]; exact hz)
  refine ⟨.ref s.heap.objs.size, _, I.laid (t' := s.toks) (o := .tup (xs ++ ys)) (fun b ob q => Heap.get?_push_of_some _ q) (Nat.le_refl _) ?_, rfl, q2 (fun w => z (r2.nil_iff.mpr w)) _ (I.hok.fresh (Nat.le_refl _))⟩
  exact ⟨by rw [List.length_append]; exact hz, _, r1.append r2, IsTup.new _ _⟩
end
end L2

namespace L2
open PySem PySem.Spec PyProof.Rows

/-! ### places -/
/-- the place that an index of any sign means -/
def ixN (n : Nat) (i : Int) : Option Nat := if 0 ≤ i then (if i < n then some i.toNat else none) else if -(n : Int) ≤ i then some (i + n).toNat else none
def atI {α : Type} (xs : List α) (i : Int) : Option α := (ixN xs.length i).bind fun j => xs[j]?
theorem ixN_seq {n : Nat} {i : Int} {j : Nat} (h : ixN n i = some j) : seqIndex? i n = some j ∧ j < n ∧ -(n : Int) ≤ i ∧ i < n := by
  unfold ixN at h
  by_cases h0 : 0 ≤ i
  · rw [if_pos h0] at h
    by_cases h1 : i < n
    · rw [if_pos h1] at h
      have e : i.toNat = j := Option.some.inj h
      exact ⟨by rw [seqIndex_of h0 h1, e], by lia, by lia, h1⟩
    · rw [if_neg h1] at h; cases h
  · rw [if_neg h0] at h
    by_cases h1 : -(n : Int) ≤ i
    · rw [if_pos h1] at h
      have e : (i + n).toNat = j := Option.some.inj h
      exact ⟨by rw [seqIndex_neg (by lia) h1, e], by lia, h1, by lia⟩
    · rw [if_neg h1] at h; cases h
theorem atI_get {α : Type} {xs : List α} {i : Int} {v : α} (h : atI xs i = some v) : ∃ j, seqIndex? i xs.length = some j ∧ xs[j]? = some v ∧ j < xs.length ∧ -(xs.length : Int) ≤ i ∧ i < xs.length := by
  unfold atI at h
  cases e : ixN xs.length i with
  | none => rw [e] at h; cases h
  | some j =>
    rw [e] at h
    obtain ⟨h1, h2, h3, h4⟩ := ixN_seq e
    exact ⟨j, h1, h, h2, h3, h4⟩
theorem atI_nat {α : Type} {xs : List α} {j : Nat} {v : α} (h : xs[j]? = some v) : atI xs (j : Int) = some v := by
  have hj : j < xs.length := (List.getElem?_eq_some_iff.mp h).1
  have e : ixN xs.length (j : Int) = some j := by
    unfold ixN
    rw [if_pos (by lia), if_pos (by lia)]; simp
  unfold atI; rw [e]; exact h
/-! ### what may be subscripted -/
/-- what stands as an index of a plain subscript -/
def PlainIx (b : Expr) : Prop := ∀ o i, subscripted b false o i = operate [o, i] (getItem o i)
/-- a subscript by values -/
def IxR (X : Cx) (r : R2) : Prop :=
  ∀ (value slice : Expr) (pins : List (Addr × Obj)) (s : Shared) (σ : St) (H : Hp) (x y : V) (v u : Value) (Q : VK), Inv X pins σ H s → RelV x v → RelV y u → r x y H Q →
    subscripted slice false v u = operate [v, u] (getItem v u) → wpAny (model X.prog X.w) X.A (subscriptTail value slice v u) (EP X pins σ Q) X.xe s
/-- a call of a builtin's method by values: the receiver, the arguments -/
def MtR (X : Cx) (id : String) (r : V → List V → Hp → VK → Prop) : Prop :=
  ∀ (pins : List (Addr × Obj)) (s : Shared) (σ : St) (H : Hp) (x : V) (xs : List V) (v : Value) (us : List Value) (Q : VK), Inv X pins σ H s → RelV x v → Vals xs us → r x xs H Q →
    wpAny (model X.prog X.w) X.A (call (.builtin id) (v :: us)) (EP X pins σ Q) X.xe s
section
variable {X : Cx} {a b : Expr} {ta tb : TE} {pos : Pos}
theorem IxR.or {r r' : R2} (h : IxR X r) (h' : IxR X r') : IxR X (fun x y H Q => r x y H Q ∨ r' x y H Q) := by
  intro value slice pins s σ H x y v u Q I rx ry q hs
  rcases q with q | q
  · exact h value slice pins s σ H x y v u Q I rx ry q hs
  · exact h' value slice pins s σ H x y v u Q I rx ry q hs
theorem MtR.or {id : String} {r r' : V → List V → Hp → VK → Prop} (h : MtR X id r) (h' : MtR X id r') : MtR X id (fun x xs H Q => r x xs H Q ∨ r' x xs H Q) := by
  intro pins s σ H x xs v us Q I rx rs q
  rcases q with q | q
  · exact h pins s σ H x xs v us Q I rx rs q
  · exact h' pins s σ H x xs v us Q I rx rs q
/-- a[b] -/
theorem pe_ix {r : R2} (hr : IxR X r) (ha : PE X a ta) (hb : PE X b tb) (hs : PlainIx b) : PE X (.Subscript a b pos) (tOp r ta tb) := by
  intro pins s σ H Q I h
  exact Subscript_ (binT ha hb I h fun v u s2 x y H2 I2 rx ry q => hr a b pins s2 σ H2 x y v u Q I2 rx ry q (hs _ _))

def rIxL (K : PySem.W.Frag) : R2 := fun x y H Q => ∃ p xs i v, x = .ref p ∧ y = .int i ∧ SqL K H p xs ∧ atI xs i = some v ∧ Q v H
def rIxT (K : PySem.W.Frag) : R2 := fun x y H Q => ∃ p xs i v, x = .ref p ∧ y = .int i ∧ SqT K H p xs ∧ atI xs i = some v ∧ Q v H
def rIxS : R2 := fun x y H Q => ∃ z i c, x = .str z ∧ y = .int i ∧ z.length ≤ sizeLine ∧ atI z.cps.toList i = some c ∧ Q (.str ⟨#[c]⟩) H
theorem ix_list : IxR X (rIxL X.K) := by
  intro value slice pins s σ H x y v u Q I rx ry h hs
  obtain ⟨p, xs, i, z, rfl, rfl, hq, he, q⟩ := h
  cases rx
  obtain ⟨t, rfl⟩ := ry
  obtain ⟨its, r, pl, hz⟩ := I.list hq
  obtain ⟨j, h1, h2, h3, h4, h5⟩ := atI_get he
  obtain ⟨w, ew, rw'⟩ := r.get h2
  have hl := r.length
  have hn := line63
  have fin : EP X pins σ Q w s := ⟨z, H, I, rw', q⟩
  by_cases h0 : 0 ≤ i
  · have hj : i.toNat = j := by
      rw [seqIndex_of h0 h5] at h1
      exact Option.some.inj h1
    exact item_listR pl.isList h0 (by lia) (by rw [hj]; simpa using ew) fin hs
  · have hj : (i + (its.toArray.size : Int)).toNat = j := by
      rw [seqIndex_neg (by lia) h4] at h1
      rw [List.size_toArray, ← hl]
      exact Option.some.inj h1
    exact subscriptTail_builtinR (x := w) pl.isList.typeIs slot_list_getitem.lookup
      (wpAny_getItem_list_neg (Q := fun r s' => r = w ∧ EP X pins σ Q r s') pl.isList (by lia) (by rw [List.size_toArray] <;> lia) (by lia) (by rw [hj]; simpa using ew) ⟨rfl, fin⟩) hs
theorem ix_tup : IxR X (rIxT X.K) := by
  intro value slice pins s σ H x y v u Q I rx ry h hs
  obtain ⟨p, xs, i, z, rfl, rfl, hq, he, q⟩ := h
  cases rx
  obtain ⟨t, rfl⟩ := ry
  obtain ⟨its, r, pl, hz⟩ := I.tuple hq
  obtain ⟨j, h1, h2, h3, h4, h5⟩ := atI_get he
  obtain ⟨w, ew, rw'⟩ := r.get h2
  have hl := r.length
  have hn := line63
  have fin : EP X pins σ Q w s := ⟨z, H, I, rw', q⟩
  exact subscriptTail_builtinR (x := w) pl.typeIs slot_tuple_getitem.lookup
    (getItem_tuple (j := j) (Q := fun r s' => r = w ∧ EP X pins σ Q r s') pl (by lia) (by lia) (by rw [List.size_toArray, ← hl]; exact h1) (by simpa using ew) ⟨rfl, fin⟩) hs
theorem ix_str : IxR X rIxS := by
  intro value slice pins s σ H x y v u Q I rx ry h hs
  obtain ⟨z, i, c, rfl, rfl, hz, he, q⟩ := h
  obtain ⟨t, rfl⟩ := rx
  obtain ⟨t', rfl⟩ := ry
  obtain ⟨j, h1, h2, h3, h4, h5⟩ := atI_get he
  have hl : z.cps.toList.length = z.length := by simp [Str.length]
  rw [hl] at h1 h4 h5
  have hn := line63
  exact tail_any (typeIs_str s z t) slot_str_getitem.lookup (getItem_str (c := c) (by
    have e1 : decide (i < -(2 ^ 63 : Int)) = false := decide_eq_false (by lia)
    have e2 : decide (i ≥ 2 ^ 63) = false := decide_eq_false (by lia)
    rw [e1, e2, Bool.or_false]) (by rw [h1]; simpa using h2) ⟨.str ⟨#[c]⟩, H, I.tok _, ⟨_, rfl⟩, q⟩) hs
/-! ### xs[i] = v, any sign -/
theorem Inv.lst {pins : List (Addr × Obj)} {σ : St} {H : Hp} {s : Shared} {p : Addr} {xs : List V} (I : Inv X pins σ H s) (h : H p = some (.lst xs)) :
    ∃ (its : List Value) (n : Nat), Vals xs its ∧ s.heap.get? p = some { cls := .type "list", data := .seq its.toArray n } ∧ xs.length ≤ sizeLine := by
  obtain ⟨z, its, n, r, e⟩ := I.hok p _ h
  exact ⟨its, n, r, e, z⟩
/-! ### slices -/
theorem slice_bounds (lo hi : Option Int) (n : Nat) : (sliceBounds lo hi none n).1 = ((HT.sIx n 0 lo : Nat) : Int) ∧ (sliceBounds lo hi none n).2.1 = ((HT.sIx n n hi : Nat) : Int) ∧ (sliceBounds lo hi none n).2.2 = 1 := by
  refine ⟨?_, ?_, rfl⟩
  · cases lo with
    | none => simp [sliceBounds, HT.sIx]
    | some i =>
      simp only [sliceBounds, HT.sIx, Option.getD_none, show (1 : Int) > 0 by decide, if_true]
      by_cases h : i < 0
      · simp only [h, if_true] <;> lia
      · simp only [h, if_false] <;> lia
  · cases hi with
    | none => simp [sliceBounds, HT.sIx]
    | some i =>
      simp only [sliceBounds, HT.sIx, Option.getD_none, show (1 : Int) > 0 by decide, if_true]
      by_cases h : i < 0
      · simp only [h, if_true] <;> lia
      · simp only [h, if_false] <;> lia
theorem slicePick_cut (its : List Value) (lo hi : Option Int) : slicePick its.toArray lo hi none = ((its.drop (HT.sIx its.length 0 lo)).take (HT.sIx its.length its.length hi - HT.sIx its.length 0 lo)).toArray := by
  obtain ⟨h1, h2, h3⟩ := slice_bounds lo hi its.toArray.size
  unfold slicePick
  rw [h1, h2, h3]
  simp only [sliceRange_one, pick_run, List.size_toArray] <;> rfl
/-- xs[lo:hi] of a list: a new list -/
def rSlL (K : PySem.W.Frag) : V → Option Int → Option Int → Hp → VK → Prop := fun x lo hi H Q => ∃ a xs, x = .ref a ∧ SqL K H a xs ∧ ∀ p, H p = none → Q (.ref p) (upd H p (.lst (cutV xs lo hi)))
theorem sl_list : SlR X (rSlL X.K) := by
  intro pins s σ H x v vl vu lo hi sl Q I rx hs pl pu h
  obtain ⟨a, xs, rfl, hx, q⟩ := h
  cases rx
  obtain ⟨its, r, ht, hz⟩ := I.list hx
  have hlen := r.length
  refine ⟨"list", _, slot_list_getitem.lookup, ht.isList.typeIs, ?_⟩
  refine wpAny_getItem_list_slice ht.isList hs pl pu .none (by simp) ?_ (by rw [List.size_toArray] <;> lia)
  rw [slicePick_cut, ← hlen]
  refine ⟨.ref s.heap.objs.size, _, I.laid (t' := s.toks) (o := .lst (cutV xs lo hi)) (fun b ob q => Heap.get?_push_of_some _ q) (Nat.le_refl _) ?_, rfl, q _ (I.hok.fresh (Nat.le_refl _))⟩
  exact ⟨Nat.le_trans (cutV_length xs lo hi) hz, _, 0, (r.drop (HT.sIx xs.length 0 lo)).take (HT.sIx xs.length xs.length hi - HT.sIx xs.length 0 lo), Heap.get?_push_size _ rfl⟩

/-! ### in, not in: flat items -/
def flatV : V → Bool
  | .non => true
  | .bl _ => true
  | .int _ => true
  | .str _ => true
  | _ => false
/-- == of flat values -/
def eqV : V → V → Bool
  | .non, .non => true
  | .bl a, .bl b => a == b
  | .bl a, .int b => (if a then 1 else 0) == b
  | .int a, .bl b => a == (if b then 1 else 0)
  | .int a, .int b => a == b
  | .str a, .str b => a == b
  | _, _ => false
theorem eqAt_V {A : Around} {s : Shared} {y x : V} {u v : Value} (ry : RelV y u) (rx : RelV x v) (fy : flatV y = true) (fx : flatV x = true) : SeqAt.EqAt A s u v (eqV y x) := by
  cases y with
  | non =>
    cases ry
    cases x with
    | non => cases rx; exact SeqAt.EqAt.same _
    | bl b => cases rx; exact SeqAt.EqAt.none_bool b
    | int b => obtain ⟨t, rfl⟩ := rx; exact SeqAt.EqAt.none_int b t
    | str b => obtain ⟨t, rfl⟩ := rx; exact SeqAt.EqAt.none_str b t
    | _ => exact absurd (show false = true from fx) Bool.false_ne_true
  | bl a =>
    cases ry
    cases x with
    | non => cases rx; exact SeqAt.EqAt.bool_none a
    | bl b => cases rx; exact SeqAt.EqAt.bool_bool a b
    | int b => obtain ⟨t, rfl⟩ := rx; exact SeqAt.EqAt.bool_int a b t
    | str b => obtain ⟨t, rfl⟩ := rx; exact SeqAt.EqAt.bool_str a b t
    | _ => exact absurd (show false = true from fx) Bool.false_ne_true
  | int a =>
    obtain ⟨t', rfl⟩ := ry
    cases x with
    | non => cases rx; exact SeqAt.EqAt.int_none a t'
    | bl b => cases rx; exact SeqAt.EqAt.int_bool a t' b
    | int b => obtain ⟨t, rfl⟩ := rx; exact SeqAt.EqAt.int_int a t' b t
    | str b => obtain ⟨t, rfl⟩ := rx; exact SeqAt.EqAt.int_str a t' b t
    | _ => exact absurd (show false = true from fx) Bool.false_ne_true
  | str a =>
    obtain ⟨t', rfl⟩ := ry
    cases x with
    | non => cases rx; exact SeqAt.EqAt.str_none a t'
    | bl b => cases rx; exact SeqAt.EqAt.str_bool a t' b
    | int b => obtain ⟨t, rfl⟩ := rx; exact SeqAt.EqAt.str_int a t' b t
    | str b => obtain ⟨t, rfl⟩ := rx; exact SeqAt.EqAt.str_str a t' b t
    | _ => exact absurd (show false = true from fx) Bool.false_ne_true
  | _ => exact absurd (show false = true from fy) Bool.false_ne_true
/-- the items' answers, read off the values (a value's own answer does not lean on its token) -/
def eqU (x : V) (u : Value) : Bool := match u with
  | .none => eqV .non x
  | .bool b => eqV (.bl b) x
  | .int i _ => eqV (.int i) x
  | .str z _ => eqV (.str z) x
  | _ => false
theorem eqU_of {x y : V} {u : Value} (r : RelV y u) (f : flatV y = true) : eqU x u = eqV y x := by
  cases y with
  | non => cases r; rfl
  | bl b => cases r; rfl
  | int i => obtain ⟨t, rfl⟩ := r; rfl
  | str z => obtain ⟨t, rfl⟩ := r; rfl
  | _ => exact absurd (show false = true from f) Bool.false_ne_true
theorem any_eqU {x : V} : ∀ {xs : List V} {us : List Value}, Vals xs us → xs.all flatV = true → us.any (eqU x) = xs.any fun y => eqV y x
  | _, _, .nil, _ => rfl
  | y :: xs, u :: us, .cons r t, f => by
    rw [List.all_cons, Bool.and_eq_true] at f
    rw [List.any_cons, List.any_cons, eqU_of r f.1, any_eqU t f.2]
theorem mem_eqAt {A : Around} {s : Shared} {x : V} {v : Value} (rx : RelV x v) (fx : flatV x = true) : ∀ {xs : List V} {us : List Value}, Vals xs us → xs.all flatV = true → ∀ u ∈ us, SeqAt.EqAt A s u v (eqU x u)
  | _, _, .nil, _ => fun u hu => by cases hu
  | y :: xs, u :: us, .cons r t, f => fun u' hu => by
    rw [List.all_cons, Bool.and_eq_true] at f
    rcases List.mem_cons.mp hu with rfl | hu
    · rw [eqU_of r f.1]; exact eqAt_V r rx f.1 fx
    · exact mem_eqAt rx fx t f.2 u' hu
def inV (x : V) (xs : List V) : Bool := xs.any fun y => eqV y x
/-- x in a list or tuple of flat items -/
def rIn (K : PySem.W.Frag) (neg : Bool) : R2 := fun x y H Q => ∃ p xs, y = .ref p ∧ (SqL K H p xs ∨ SqT K H p xs) ∧ flatV x = true ∧ xs.all flatV = true ∧ Q (.bl (if neg then !inV x xs else inV x xs)) H
theorem op_in_seq : OpR X (compareOp .In) (rIn X.K false) := by
  intro pins s σ H x y v u Q I rx ry h
  obtain ⟨p, xs, rfl, hq, fx, fs, q⟩ := h
  cases ry
  rcases hq with hq | hq
  · obtain ⟨its, r, pl, hz⟩ := I.list hq
    refine SeqAt.in_listAt (eqU x) pl.isList (fun w hw => mem_eqAt rx fx r fs w (by simpa using hw)) ⟨.bl _, H, I, rfl, ?_⟩
    rw [show its.toArray.any (eqU x) = its.any (eqU x) by simp, any_eqU r fs]
    exact q
  · obtain ⟨its, r, pl, hz⟩ := I.tuple hq
    refine SeqAt.in_tupleAt (eqU x) pl (fun w hw => mem_eqAt rx fx r fs w (by simpa using hw)) ⟨.bl _, H, I, rfl, ?_⟩
    rw [show its.toArray.any (eqU x) = its.any (eqU x) by simp, any_eqU r fs]
    exact q
theorem op_notIn_seq : OpR X (compareOp .NotIn) (rIn X.K true) := by
  intro pins s σ H x y v u Q I rx ry h
  obtain ⟨p, xs, rfl, hq, fx, fs, q⟩ := h
  cases ry
  rcases hq with hq | hq
  · obtain ⟨its, r, pl, hz⟩ := I.list hq
    refine SeqAt.notIn_listAt (eqU x) pl.isList (fun w hw => mem_eqAt rx fx r fs w (by simpa using hw)) ⟨.bl _, H, I, rfl, ?_⟩
    rw [show its.toArray.any (eqU x) = its.any (eqU x) by simp, any_eqU r fs]
    exact q
  · obtain ⟨its, r, pl, hz⟩ := I.tuple hq
    refine SeqAt.notIn_tupleAt (eqU x) pl (fun w hw => mem_eqAt rx fx r fs w (by simpa using hw)) ⟨.bl _, H, I, rfl, ?_⟩
    rw [show its.toArray.any (eqU x) = its.any (eqU x) by simp, any_eqU r fs]
    exact q
theorem op_notIn_str : OpR X (compareOp .NotIn) (fun x y H Q => ∃ i j, x = .str i ∧ y = .str j ∧ Q (.bl (!(!(Builtin.Str.occurrences j i 0 j.length 1).isEmpty))) H) := by
  intro pins s σ H x y v u Q I rx ry h
  obtain ⟨i, j, rfl, rfl, q⟩ := h
  obtain ⟨t, rfl⟩ := rx
  obtain ⟨t', rfl⟩ := ry
  exact notIn_str ⟨.bl _, H, I, rfl, q⟩

/-! ### len, list(x), tuple(x) of any list or tuple that is read -/
theorem call_len_seq : CallR X (.builtin "len") (fun xs H Q => ∃ p ys, xs = [.ref p] ∧ (SqL X.K H p ys ∨ SqT X.K H p ys) ∧ Q (.int ys.length) H) := by
  intro pins s σ H xs us Q I r h
  obtain ⟨p, ys, rfl, hq, q⟩ := h
  obtain ⟨u, rfl, rx⟩ := vals1 r
  cases rx
  have hn := line63
  rcases hq with hq | hq
  · obtain ⟨its, r', pl, hz⟩ := I.list hq
    have hlen := r'.length
    exact Calls.call_len_list pl.isList (by simp only [List.size_toArray] <;> lia) ⟨.int ys.length, H, I.tok _, ⟨s.toks + 1, by rw [List.size_toArray, hlen]⟩, q⟩
  · obtain ⟨its, r', pl, hz⟩ := I.tuple hq
    have hlen := r'.length
    exact len_tuple pl (by simp only [List.size_toArray] <;> lia) ⟨.int ys.length, H, I.tok _, ⟨s.toks + 1, by rw [List.size_toArray, hlen]⟩, q⟩
theorem call_len_str : CallR X (.builtin "len") (fun xs H Q => ∃ z, xs = [.str z] ∧ z.length ≤ sizeLine ∧ Q (.int z.length) H) := by
  intro pins s σ H xs us Q I r h
  obtain ⟨z, rfl, hz, q⟩ := h
  obtain ⟨u, rfl, t, rfl⟩ := vals1 r
  have hn := line63
  exact len_str (by lia) ⟨.int z.length, H, I.tok _, ⟨_, rfl⟩, q⟩
theorem CallR.or {f : Value} {r r' : List V → Hp → VK → Prop} (h : CallR X f r) (h' : CallR X f r') : CallR X f (fun xs H Q => r xs H Q ∨ r' xs H Q) := by
  intro pins s σ H xs us Q I rs q
  rcases q with q | q
  · exact h pins s σ H xs us Q I rs q
  · exact h' pins s σ H xs us Q I rs q
theorem call_tuple_of : CallR X (.type "tuple") (fun xs H Q => ∃ p ys, xs = [.ref p] ∧ ((SqL X.K H p ys ∧ ∀ l, H l = none → Q (.ref l) (upd H l (.tup ys))) ∨ (SqT X.K H p ys ∧ Q (.ref p) H))) := by
  intro pins s σ H xs us Q I r h
  obtain ⟨p, ys, rfl, h⟩ := h
  obtain ⟨u, rfl, rx⟩ := vals1 r
  cases rx
  rcases h with ⟨hq, q⟩ | ⟨hq, q⟩
  · obtain ⟨its, r', pl, hz⟩ := I.list hq
    have hlen := r'.length
    refine call_tuple_list pl.isList (fun h' kp => ?_) (by simp only [List.size_toArray] <;> lia)
    have I1 : Inv X pins σ H { s with heap := h' } := I.kept (t' := s.toks) kp
    have I2 : Inv X pins σ (upd H h'.objs.size (.tup ys)) { s with heap := h'.push { cls := .type "tuple", data := .seq its.toArray } } :=
      I1.laid (t' := s.toks) (fun b o e => Heap.get?_push_of_some _ e) (Nat.le_refl _) (show ObjOk X.prog X.w _ _ _ (.tup ys) from ⟨hz, its, r', IsTup.new _ _⟩)
    exact ⟨.ref h'.objs.size, _, I2, rfl, q _ (I1.hok.fresh (Nat.le_refl _))⟩
  · obtain ⟨its, r', pl, hz⟩ := I.tuple hq
    exact call_tuple_same pl ⟨.ref p, H, I, rfl, q⟩

/-! ### the call of a builtin's method: o.m(..) -/
/-- the value is of that builtin type -/
def tyV (K : PySem.W.Frag) (T : String) (x : V) (H : Hp) : Prop := match x with
  | .str _ => T = "str"
  | .int _ => T = "int"
  | .ref p => (T = "list" ∧ ∃ xs, SqL K H p xs) ∨ (T = "tuple" ∧ ∃ o, K.lookup p = some o ∧ o.cls = .type "tuple" ∧ o.dict = none) ∨
      (T = "dict" ∧ ((∃ kvs, H p = some (.dK kvs)) ∨ ∃ kvs, H p = some (.dT kvs))) ∨ (T = "set" ∧ ∃ S n, H p = some (.set S n))
  | _ => False
theorem tyV_is {pins : List (Addr × Obj)} {σ : St} {H : Hp} {s : Shared} {T : String} {x : V} {v : Value} (I : Inv X pins σ H s) (r : RelV x v) (ty : tyV X.K T x H) :
    s.TypeIs v T ∧ ∀ a, v = .ref a → ∃ ob, s.heap.get? a = some ob ∧ ob.dict = none := by
  cases x with
  | str z =>
    obtain ⟨t, rfl⟩ := r
    cases (show T = "str" from ty)
    exact ⟨typeIs_str s z t, fun _ e => nomatch e⟩
  | int i =>
    obtain ⟨t, rfl⟩ := r
    cases (show T = "int" from ty)
    exact ⟨typeIs_int s i t, fun _ e => nomatch e⟩
  | ref p =>
    cases r
    rcases ty with ⟨rfl, xs, hq⟩ | ⟨rfl, o, hk, hc, hd⟩ | ⟨rfl, hk⟩ | ⟨rfl, S, n, hk⟩
    · obtain ⟨its, _, pl, _⟩ := I.list hq
      refine ⟨pl.isList.typeIs, fun a e => ?_⟩
      cases e
      obtain ⟨o, n, e, c, hd, _⟩ := pl
      exact ⟨o, e, hd⟩
    · refine ⟨⟨o, I.kIn p o hk, hc⟩, fun a e => ?_⟩
      cases e
      exact ⟨o, I.kIn _ o hk, hd⟩
    · have z : ∃ o, s.heap.get? p = some o ∧ o.ExactDict := by
        rcases hk with ⟨kvs, hk⟩ | ⟨kvs, hk⟩
        · obtain ⟨_, _, _, _, o, _, _, e, ex, _⟩ := I.hok p _ hk
          exact ⟨o, e, ex⟩
        · obtain ⟨_, _, _, _, o, _, _, e, ex, _⟩ := I.hok p _ hk
          exact ⟨o, e, ex⟩
      obtain ⟨o, e, ex⟩ := z
      refine ⟨⟨o, e, ex.1⟩, fun a e2 => ?_⟩
      cases e2
      exact ⟨o, e, ex.2.1⟩
    · obtain ⟨o, _, _, _, e, ex, _⟩ := I.hok p _ hk
      refine ⟨⟨o, e, ex.1⟩, fun a e2 => ?_⟩
      cases e2
      exact ⟨o, e, ex.2.1⟩
  | _ => exact False.elim ty
def tBM (K : PySem.W.Frag) (T : String) (r : V → List V → Hp → VK → Prop) (to : TE) (t : TA) : TE := fun σ H Q => to σ H fun x H1 => tyV K T x H1 ∧ t σ H1 fun xs H2 => r x xs H2 Q
variable {o e : Expr} {es : List Expr} {to : TE} {t : TA} {name : Str} {apos cpos : Pos} {T id : String} {r : V → List V → Hp → VK → Prop}
theorem pe_bm (pa : PlainAttrs T) (slot : Slot T name id) (hty : typeOf (.builtin id) = pure (.type "method_descriptor")) (hm : MtR X id r) (ho : PE X o to) (ha : PA X (e :: es) t)
    (hbase : attributeBase o name X.env (eval o X.env) = eval o X.env := by rfl)
    (hfew : ((backTo cpos (starEach (e :: es) X.env)).all (fun x => !x.1) && (backToKw cpos (keywordEach [] X.env)).all (fun x => x.1.isSome)
      && decide ((e :: es).length + ([] : List Keyword).length + (if ([] : List Keyword).isEmpty then 0 else 1) < 30)) = true := by rfl)
    (hline : (apos.endLine == cpos.line) = true := by rfl) (hs : starEach (e :: es) X.env = (false, eval e X.env) :: starEach es X.env := by rfl) (hplain : (backTo cpos (starEach es X.env)).any (·.1) = false := by rfl) :
    PE X (.Call (.Attribute o name apos) (e :: es) [] cpos) (tBM X.K T r to t) := by
  intro pins s σ H Q I h
  refine wpAny_Call_method_late hbase hfew hline rfl (thn (ho pins s σ H _ I h) fun v s1 ⟨x, H1, I1, r1, ty, q1⟩ => ?_)
  obtain ⟨h1, h2⟩ := tyV_is I1 r1 ty
  refine ⟨T, id, pa, slot, hty, h1, h2, ?_⟩
  have hA := ha cpos pins s1 σ H1 _ I1 q1
  rw [hs] at hA ⊢
  refine Calls.callWith_builtin (by show (false || (backTo cpos (starEach es X.env)).any (·.1)) = false; rw [hplain] <;> rfl) (Calls.evalArgs_plain ?_)
  exact thn hA fun us s2 ⟨vs, H2, I2, r2, q2⟩ => hm pins s2 σ H2 x vs v us Q I2 r1 r2 q2
/- xs.append(e), list.index on a module's tuple .. are MtR facts of 06m -/
end
end L2

namespace L2
open PySem PySem.Spec PyProof.Rows

def MtM (X : Cx) (id : String) (r : V → List V → Hp → VK → Prop) : Prop :=
  ∀ (pins : List (Addr × Obj)) (s : Shared) (σ : St) (H : Hp) (x : V) (xs : List V) (v : Value) (us : List Value) (Q : VK), Inv X pins σ H s → RelV x v → Vals xs us → r x xs H Q →
    wpAny (model X.prog X.w) X.A (call (.builtin id) (v :: us)) (EP X pins σ Q) X.xe s

/-! ### lists of values -/
theorem Vals.one : ∀ {x : V} {us : List Value}, Vals [x] us → ∃ u, us = [u] ∧ RelV x u
  | _, _, .cons r .nil => ⟨_, rfl, r⟩
theorem Vals.two : ∀ {x y : V} {us : List Value}, Vals [x, y] us → ∃ u v, us = [u, v] ∧ RelV x u ∧ RelV y v
  | _, _, _, .cons r (.cons q .nil) => ⟨_, _, rfl, r, q⟩
theorem Vals.zero : ∀ {us : List Value}, Vals [] us → us = []
  | _, .nil => rfl
theorem Vals.dropLast {xs : List V} {us : List Value} (h : Vals xs us) : Vals xs.dropLast us.dropLast := by
  induction h with
  | nil => exact .nil
  | cons r t ih =>
    cases t with
    | nil => exact .nil
    | cons q t' => exact .cons r ih
theorem Vals.eraseIdx : ∀ {xs : List V} {us : List Value} (i : Nat), Vals xs us → Vals (xs.eraseIdx i) (us.eraseIdx i)
  | _, _, _, .nil => .nil
  | _, _, 0, .cons _ t => t
  | _, _, i + 1, .cons r t => .cons r (Vals.eraseIdx i t)
theorem Vals.reverse {xs : List V} {us : List Value} (h : Vals xs us) : Vals xs.reverse us.reverse := by
  induction h with
  | nil => exact .nil
  | cons r t ih => rw [List.reverse_cons, List.reverse_cons]; exact Vals.append ih (.cons r .nil)
section
variable {X : Cx} {pins : List (Addr × Obj)} {σ : St} {H : Hp} {s : Shared} {l b : Addr} {xs ys zs : List V}

/-! ### the two steps: a tracked list is rewritten, a new list is laid -/
theorem Inv.lset {its its' : List Value} {n : Nat} {f : Array Value → Array Value} {t' : Nat} (I : Inv X pins σ H s) (hH : H l = some (.lst xs))
    (e : s.heap.get? l = some { cls := .type "list", data := .seq its.toArray n }) (hf : f its.toArray = its'.toArray) (hv : Vals ys its') (hz : ys.length ≤ sizeLine) :
    Inv X pins σ (upd H l (.lst ys)) { s with heap := s.heap.update l (Obj.mapSeq f), toks := t' } := by
  have q := PySem.IsL.update e f
  rw [hf] at q
  refine I.write (x := l) (e := l) (by rw [hH]; exact trivial) (.inl rfl) (fun b' u hb hu => (Heap.get?_update_other s.heap (Obj.mapSeq f) (Ne.symm hb)).trans hu) ⟨_, q⟩ ?_
  exact ⟨hz, its', _, hv, q⟩
theorem Inv.lnew {its : List Value} {t' : Nat} (I : Inv X pins σ H s) (hv : Vals ys its) (hz : ys.length ≤ sizeLine) :
    Inv X pins σ (upd H s.heap.objs.size (.lst ys)) { s with heap := s.heap.push { cls := .type "list", data := .seq its.toArray }, toks := t' } :=
  I.laid (fun _ _ q => Heap.get?_push_of_some _ q) (Nat.le_refl _) ⟨hz, its, 0, hv, Heap.get?_push_size _ rfl⟩
theorem Inv.fresh (I : Inv X pins σ H s) : H s.heap.objs.size = none := I.hok.fresh (Nat.le_refl _)
theorem Inv.lstM (I : Inv X pins σ H s) (hH : H l = some (.lst xs)) : xs.length ≤ sizeLine ∧ ∃ (its : List Value) (n : Nat), Vals xs its ∧ xs.length = its.length ∧ s.heap.get? l = some { cls := .type "list", data := .seq its.toArray n } := by
  obtain ⟨z, its, n, r, e⟩ := I.hok l _ hH
  exact ⟨z, its, n, r, r.length, e⟩

end

section
variable {X : Cx}

/-! ### methods -/
def rAppend : V → List V → Hp → VK → Prop := fun x vs H Q => ∃ l xs y, x = .ref l ∧ vs = [y] ∧ H l = some (.lst xs) ∧ xs.length < sizeLine ∧ Q .non (upd H l (.lst (xs ++ [y])))
theorem mt_append : MtM X "list.append" rAppend := by
  intro pins s σ H x vs v us Q I rx rv h
  obtain ⟨l, xs, y, rfl, rfl, hH, hz, q⟩ := h
  cases rx
  obtain ⟨u, rfl, ru⟩ := rv.one
  obtain ⟨z, its, n, r, hl, e⟩ := I.lstM hH
  refine call_meets F.slot_list_append ⟨_, e, rfl⟩ F.entry_list_append (F.args_list_append_2 _ _) (PySem.list_append l its.toArray n u (by rw [List.size_toArray]; lia)) ⟨e, ?_⟩
  refine ⟨.non, _, I.lset (its' := its ++ [u]) hH e (by simp) (r.append (.cons ru .nil)) ?_, rfl, q⟩
  rw [List.length_append, List.length_singleton]
  lia

/-! ### list + list, list += list, list * int -/
def rCat : R2 := fun x y H Q => ∃ l b xs zs, x = .ref l ∧ y = .ref b ∧ H l = some (.lst xs) ∧ H b = some (.lst zs) ∧ xs.length + zs.length ≤ sizeLine ∧ ∀ p, H p = none → Q (.ref p) (upd H p (.lst (xs ++ zs)))
theorem op_cat : OpR X (binaryOp .Add) rCat := by
  intro pins s σ H x y v u Q I rx ry h
  obtain ⟨l, b, xs, zs, rfl, rfl, hH, hB, hz, q⟩ := h
  cases rx
  cases ry
  obtain ⟨z, its, n, r, hl, e⟩ := I.lstM hH
  obtain ⟨z2, its2, n2, r2, hl2, e2⟩ := I.lstM hB
  refine PySem.P.add_list e e2 ?_ (by rw [List.size_toArray, List.size_toArray]; lia)
  have ea : its.toArray ++ its2.toArray = (its ++ its2).toArray := by simp
  rw [ea]
  exact ⟨.ref _, _, I.lnew (t' := s.toks) (r.append r2) (by rw [List.length_append]; lia), rfl, q _ I.fresh⟩
/-! ### del xs[i] -/
end

/-! ### xs[a:b] = ys -/
section
variable {prog : Program} {w : World} {A : Around} {E : Value → Shared → Prop} {s : Shared}
end

section
variable {X : Cx}
end
end L2

namespace Att
open PySem PySem.W PySem.Calls PyProof.Rows

/-! ### the script -/
theorem ints_of_wellAll {P : Params} {h : Heap} : ∀ (ns : List Int) (vs : List Value), WellAll P h vs (ns.map WData.int) → IntsAre vs ns := by
  intro ns
  induction ns with
  | nil =>
    intro vs w
    rw [List.map_nil] at w
    cases w
    exact .nil
  | cons n ns ih =>
    intro vs w
    rw [List.map_cons] at w
    cases w with
    | cons a b =>
      cases a
      exact .cons _ _ (ih _ b)

theorem script_of {l : OpenLaw} {n : Nat} (hn : l.most = some n) {P : Params} {h : Heap} {args : List WData} {vals : List Value}
    (hpre : l.row.toRowW.claim.pre args = true) (hwl : WellAll P h vals args) :
    ∃ a vs ns, vals = [Value.ref a] ∧ args = [WData.list (ns.map WData.int)] ∧ h.get? a = some { cls := .type "list", data := .seq vs.toArray } ∧ IntsAre vs ns ∧ ns.length ≤ n := by
  have hsh : WShape.hasAll [] args [.list .int] = true := (pre_splitW hpre).1
  have hc : l.pre.holds [] { args := args } = true := (pre_splitW hpre).2
  obtain ⟨d, r, rfl, h1, h2⟩ := hasAllW_cons hsh
  obtain rfl := hasAllW_nil h2
  obtain ⟨xs, rfl, h3⟩ := hasW_list h1
  obtain ⟨ns, rfl⟩ := items_int h3
  have hlen : ns.length ≤ n := by
    unfold OpenLaw.pre at hc
    have h4 : (WTm.not (.lt (.lit (.int (n : Int))) (.len (.arg 0)))).holds [] { args := [.list (ns.map .int)] } = true := by
      have h4 := (holds_andW hc).1
      rw [hn] at h4
      exact h4
    have h5 := condW_of h4 (w_not (w_lt w_lit (w_len_list (w_arg rfl))))
    rw [List.length_map] at h5
    refine Nat.le_of_not_lt fun q => ?_
    have q' : (n : Int) < ((ns.length : Nat) : Int) := by lia
    first
      | (rw [decide_eq_true q'] at h5; exact absurd h5 (by decide))
      | (simp at h5; lia)
  cases hwl with
  | cons w1 w2 =>
    cases w2
    cases w1 with
    | list ho hall => exact ⟨_, _, ns, rfl, rfl, ho, ints_of_wellAll ns _ hall, hlen⟩

theorem post_true (l : OpenLaw) (args : List WData) : l.row.toRowW.claim.post args (.bool true) args = true :=
  postW_of (r := l.row.toRowW) (X := (true == true))
    (show WShape.has [] (.bool true) .bool = true by first | rfl | decide | simp [WShape.has, WShape.arms, WShape.armsAll])
    (show (WTm.eq .res (.lit (.bool true))).value [] { args := args, res := some (.bool true), after := args } = some (.bool (true == true)) from w_eq_bool (w_res rfl) w_lit) rfl

/-! ### the attachment: holds_open's last premise (the goal 'hc' behind k_head) from a wpAny of the law's body -/
/-- the same from a codeAny of the CALL (for a layer whose function contracts speak of calls) -/
theorem attach_call {l : OpenLaw} {n : Nat} {q : Program} {loose : List Str} {XP : (Str → Option Value) → Heap → Prop} {YP : World → Heap → Prop} {d : DefRec}
    (hn : l.most = some n) (hdf : d.params.defaults = [])
    (call : ∀ (w : World) (s₀ s₁ : Shared) (mg mb : Str → Option Value) (fa : Addr) (o : Obj) (pm cd doc : Value) (a : Addr) (vs : List Value) (ns : List Int),
      Ground q loose [] XP w s₀ mg mb s₁.heap → YP w s₁.heap →
      s₁.heap.get? fa = some o → o.data = .func (docDef d.name d.params d.body d.scope pm cd doc) → s₁.heap.CodeRec cd d.name → mg d.name = some (.ref fa) →
      s₁.heap.get? a = some { cls := .type "list", data := .seq vs.toArray } → IntsAre vs ns → ns.length ≤ n → s₁.gens = #[] →
      codeAny (model l.prog w) callerA (.call (.ref fa) ⟨[.ref a], []⟩) (fun r s' => r = .ok (.ret (.bool true)) ∧ OldK s₁.heap s'.heap ∧ s'.os = s₁.os ∧ AllBare s'.gens) s₁) :
    WalkO q loose XP YP l.row.toRowW d [] (fun f vs => PySem.call f vs) := by
  intro w s₀ s₁ mg mb G Y fa o pm cd doc dV kV ho hd hcd hD hmg hg args vals as hpre hlay hrd hwl hlo
  obtain rfl : dV = .none := Dflts.none hD hdf
  obtain rfl : kV = .none := Dflts.noKw hD
  obtain ⟨a, vs, ns, rfl, rfl, hobj, hints, hlen⟩ := script_of hn hpre hwl
  refine enter_call (codeAny_mono (call w s₀ s₁ mg mb fa o pm cd doc a vs ns G Y ho (fd_plain hd) hcd hmg hobj hints hlen hg) fun r s' hq => ?_)
  obtain ⟨rfl, h2, h3, h4⟩ := hq
  exact ⟨.inl ⟨.bool true, .bool true, [], rfl, fun _ => rfl, .bool true, post_true l _, fun _ => ⟨List.Pairwise.nil, fun _ hm => (nomatch hm)⟩⟩, h2, h3, h4⟩

/-! ### rules over ANY heap (no ledger) from facts about the written part K: the library's own take a ledger (News) for what they write -/
section
variable {prog : Program} {w : World} {A : Around} {E : Value → Shared → Prop} {s : Shared} {K : Frag}

/-! the whole heap as the ledger: makes every rule that writes through a ledger a rule over any heap -/
end
end Att

namespace L2
open PySem PySem.Spec PyProof.Rows

theorem vals_ints : ∀ {vs : List Value} {ns : List Int}, IntsAre vs ns → Vals (ns.map V.int) vs
  | _, _, .nil => .nil
  | _, _, .cons n t h => .cons ⟨t, rfl⟩ (vals_ints h)

/-- nothing is tracked but the script, known to the object (or it is an object of the module) -/
def Only (H : Hp) : Prop := ∀ b, H b = none ∨ ∃ o xs, H b = some (.frz o (.lst xs))

/-- THE HEAD: the law's promise, at the heap behind the top. F, the promise of the law's def, may use that base is part of the heap (so K.In base, base.Ns mainGlobals mg stand in Mod) -/
theorem law_call {P : Program} {w : World} {K : PySem.W.Frag} {mg mb : Str → Option Value} {CX : CXT} {k : Nat} {fa a : Addr} {fd : FuncData} {x : Str} {sp : Sp} {s₁ : Shared} {vs : List Value} {ns : List Int}
    (KX : K.In s₁.heap) (hns : s₁.heap.Ns mainGlobals mg) (hb : s₁.heap.Ns builtinsNs mb) (hbb : ∀ x : Str, x ≠ "__name__" → mb x = bootBuiltins x) (hlim : s₁.heap.NoLimit) (hg : s₁.gens = #[])
    (ha : s₁.heap.get? a = some { cls := .type "list", data := .seq vs.toArray }) (hi : IntsAre vs ns) (hl : ns.length ≤ sizeLine) (hr : Room k callerA)
    (F : ∀ base : Heap, K.In base → base.Ns mainGlobals mg → FnOk P w K mg base CX k fa fd [x] sp) (hbind : ∀ (s : Shared) (u : Value), BindsTo s fd ⟨[u], []⟩ [(x, u)])
    (hsp : ∀ H : Hp, Only H → SqL K H a (ns.map V.int) → sp [.ref a] H (fun v _ => v = .bl true) fun _ _ _ => False)
    (hCX : ∀ H e s', CX [] H s₁ (fun _ _ _ => False) e s' → False) :
    codeAny (model P w) callerA (.call (.ref fa) ⟨[.ref a], []⟩) (fun r s' => r = .ok (.ret (.bool true)) ∧ OldK s₁.heap s'.heap ∧ s'.os = s₁.os ∧ AllBare s'.gens) s₁ := by
  have rv := vals_ints hi
  have lenV := hi.length
  -- from an abstract heap in which nothing but the script may be tracked
  have core : ∀ H : Hp, Only H → SqL K H a (ns.map V.int) → HOk P w H s₁.heap → (∀ b, H b ≠ none → b = a) → (H a ≠ none → K.lookup a = none) →
      codeAny (model P w) callerA (.call (.ref fa) ⟨[.ref a], []⟩) (fun r s' => r = .ok (.ret (.bool true)) ∧ OldK s₁.heap s'.heap ∧ s'.os = s₁.os ∧ AllBare s'.gens) s₁ := by
    intro H hO hS hok hA hK
    have base_of : ∀ {b : Addr} {o : Obj}, s₁.heap.get? b = some o → H b = none → (hidT s₁.heap H).get? b = some o := fun e n => hidT_get e n
    have noA : ∀ {b : Addr} {o : Obj} {es : Array DictEntry} {ep : Nat}, s₁.heap.get? b = some o → o.data = .dict es ep → H b = none := fun {b o es ep} e d => by
      cases q : H b with
      | none => rfl
      | some u =>
        have e' : b = a := hA b (by rw [q]; simp)
        subst e'
        rw [ha] at e; cases e
        have d' : Data.seq vs.toArray _ = Data.dict es ep := d
        cases d'
    have nsK : ∀ {b : Addr} {m : Str → Option Value}, s₁.heap.Ns b m → (hidT s₁.heap H).Ns b m := fun {b m} ⟨o, es, ep, e, d, r⟩ => ⟨o, es, ep, base_of e (noA e d), d, r⟩
    have hKb : K.In (hidT s₁.heap H) := fun b o e => base_of (KX b o e) (by
      cases q : H b with
      | none => rfl
      | some u =>
        have e' : b = a := hA b (by rw [q]; simp)
        subst e'
        rw [hK (by rw [q]; simp)] at e; cases e)
    have hM : Mod K mg (hidT s₁.heap H) := ⟨hKb, nsK hns, ⟨mb, nsK hb, hbb⟩, let ⟨mc, h1, h2⟩ := hlim; ⟨mc, nsK h1, h2⟩⟩
    have e0 : Env0 P w K mg (hidT s₁.heap H) callerA [] s₁ H := ⟨rfl, hM, fun b o e => of_hidT e, Nat.le_of_eq (hidT_size _ _), trivial, fun b hb => absurd (show b ∈ ([] : List Addr) from hb) (by simp), hok, .of_eq hg⟩
    refine codeAny_mono ((F _ hKb (nsK hns)).run callerA [] s₁ H ⟨[.ref a], []⟩ [.ref a] [.ref a] _ _ hr e0 (hbind s₁ (.ref a)) (.cons rfl .nil) (hsp H hO hS)) fun r s' h => ?_
    cases r with
    | error e => exact (hCX H e s' h).elim
    | ok fl =>
      cases fl with
      | next => exact False.elim h
      | brk => exact False.elim h
      | cont => exact False.elim h
      | ret u =>
        obtain ⟨v, H', os, bare, un, hok', r', q⟩ := h
        have q' : v = .bl true := q
        subst q'
        obtain rfl : u = Value.bool true := r'
        refine ⟨rfl, OldK.of_keep fun b o e => ?_, os, bare⟩
        cases q : H b with
        | none => exact un.keep b o e q (by intro z; exact absurd (show b ∈ ([] : List Addr) from z) (by simp)) (by simp)
        | some u =>
          rcases hO b with z | ⟨ob, xs, z⟩
          · rw [q] at z; cases z
          · have z2 := un.frzs b ob _ z
            obtain ⟨e1, _⟩ := hok b _ z
            obtain ⟨e2, _⟩ := hok' b _ z2
            rw [e] at e1; cases e1
            exact e2
  cases hk : K.lookup a with
  | some o =>
    -- the script is one of the module's own objects
    have e := KX a o hk
    rw [ha] at e
    cases e
    refine core (fun _ => none) (fun _ => .inl rfl) (.inr ⟨_, vs.toArray, _, hk, rfl, rfl, rfl, by rw [List.size_toArray, lenV]; exact hl, by simpa using rv⟩) (fun b u z => by have z' : (none : Option HO) = some u := z; cases z') (fun b z => absurd rfl z) fun z => absurd rfl z
  | none =>
    refine core (fun b => if b = a then some (.frz { cls := .type "list", data := .seq vs.toArray } (.lst (ns.map V.int))) else none) (fun b => ?_) (.inl (.inr ⟨{ cls := .type "list", data := .seq vs.toArray }, if_pos rfl⟩)) (fun b u z => ?_) (fun b z => ?_) fun _ => hk
    · by_cases hb : b = a
      · exact .inr ⟨_, _, if_pos hb⟩
      · exact .inl (if_neg hb)
    · by_cases hb : b = a
      · have z' := (if_pos hb).symm.trans z
        cases z'
        subst hb
        exact ⟨ha, by rw [List.length_map]; exact hl, vs, _, rv, ha⟩
      · have z' := (if_neg hb).symm.trans z
        cases z'
    · by_cases hb : b = a
      · exact hb
      · exact absurd (if_neg hb) z
end L2

namespace L2
open PySem PySem.Spec PyProof.Rows

abbrev KOf {K : PySem.W.Frag} {h : Heap} (_ : K.In h) : PySem.W.Frag := K

/-- the goal that k_head leaves (case hc), from the law's promise. F gives the function object fd (K's own) once, then the promise over every base -/
theorem walk_of {l : PySem.W.OpenLaw} {n k : Nat} {q : Program} {loose : List Str} {XP : (Str → Option Value) → Heap → Prop} {YP : World → Heap → Prop} {d : DefRec} {K : Params → PySem.W.Frag} {CX : World → CXT} {sp : World → Sp} {x : Str}
    (hn : l.most = some n) (hn2 : n ≤ sizeLine) (hdf : d.params.defaults = []) (hr : Room k callerA)
    (hY : ∀ (w : World) (h : Heap), YP w h → (K w.params).In h)
    (F : ∀ (w : World) (mg : Str → Option Value) (fa : Addr) (h : Heap), (K w.params).In h → h.Ns mainGlobals mg → mg d.name = some (.ref fa) →
      ∃ fd : FuncData, (∀ (s : Shared) (u : Value), BindsTo s fd ⟨[u], []⟩ [(x, u)]) ∧
        ∀ base : Heap, (K w.params).In base → base.Ns mainGlobals mg → FnOk l.prog w (K w.params) mg base (CX w) k fa fd [x] (sp w))
    (hsp : ∀ (w : World) (H : Hp) (a : Addr) (ns : List Int), ns.length ≤ n → Only H → SqL (K w.params) H a (ns.map V.int) → sp w [.ref a] H (fun v _ => v = .bl true) fun _ _ _ => False)
    (hCX : ∀ (w : World) (H : Hp) (s : Shared) (e : Value) (s' : Shared), CX w [] H s (fun _ _ _ => False) e s' → False) :
    PySem.W.WalkO q loose XP YP l.row.toRowW d [] (fun f vs => PySem.call f vs) := by
  refine Att.attach_call hn hdf fun w s₀ s₁ mg mb fa o pm cd doc a vs ns G Y ho hd hcd hmg hobj hints hlen hg => ?_
  have KX := hY w _ Y
  obtain ⟨fd, hb, hF⟩ := F w mg fa _ KX G.T.g hmg
  exact law_call KX G.T.g G.T.b G.T.builtins G.T.nolimit hg hobj hints (Nat.le_trans hlen hn2) hr hF hb (fun H hO hS => hsp w H a ns hlen hO hS) fun H e s' => hCX w H s₁ e s'
end L2

/- THE LAST THEOREM (shape; LID, My.* are yours):
   My.Adr: a structure of the addresses that your layer names (classes, functions); My.Txt K t: a structure (Prop) of the equations over K;
   My.txt_mk : {K} {implicit addresses ..} (e1 : nsIn K mainGlobals "law" = some (some (.ref f))) (e2 : K.lookup f = some ⟨oc, od, .func (fnOf "law" "law" params body scope dV kV doc pm an cdv ct), sl⟩) (e3 : codeIn K cdv "law" = true) .. : ∃ t, My.Txt K t

set_option maxRecDepth 100000 in
set_option maxHeartbeats 0 in
theorem PySem.Challenge.cw_LID_holds : PySem.Challenge.rw_LID.Holds := by
  w_on; o_law; k_head; (case hw => w_witness2)
  k_fill
  refine L2.walk_of (l := PySem.Challenge.rw_LID) (n := 63) (k := 40) (x := "script") (CX := fun w => ..) (sp := fun _ => My.sp_law) rfl (by decide) rfl ⟨rfl, by decide, by decide⟩ (fun w h Y => PySem.W.kIn_of Y) ?F ?S ?C
  case F =>
    intro w mg fa h KX G hmg
    have T : ∃ t, My.Txt (L2.KOf KX) t := by
      dsimp only [L2.KOf]                          -- K must stand as «<heap const> w.params» for k_is
      refine' My.txt_mk ?e1 ?e2 ?e3 ..
      (case e1 => PySem.W.k_is)                    -- in the order: a name -> its address -> its object -> its parts
      (case e2 => PySem.W.k_is)
      ..
    obtain ⟨t, T⟩ := T
    have e0 := hmg.symm.trans (PySem.W.mg_of KX G T.law)
    cases e0                                       -- fa is the law's own address
    exact ⟨_, fun s u => .of_eq rfl, fun base kb nb => My.law_fn T kb nb⟩     -- if «.of_eq rfl» comes too early: refine' ⟨_, ?b, fun base kb nb => My.law_fn T kb nb⟩; exact fun s u => .of_eq rfl
  case S => exact fun w H a ns hl hO hS => ..
  case C => exact ..
(the tactic k_is has no namespace: write k_is) -/

/-! SHORT WORDS over the layer: a def of the text, its body, what a loop and a test want. -/
namespace L2
open PySem PySem.Spec PyProof.Rows

/-! ### the text by places -/
def defArgs (s : Stmt) : Arguments := match s with
  | .FunctionDef _ a _ _ _ _ _ _ _ _ => a
  | _ => { posonlyargs := [], args := [], vararg := none, kwonlyargs := [], kw_defaults := [], kwarg := none, defaults := [] }
def defBody (s : Stmt) : List Stmt := match s with
  | .FunctionDef _ _ b _ _ _ _ _ _ _ => b
  | _ => []
def defScope (s : Stmt) : Scope := match s with
  | .FunctionDef _ _ _ _ _ _ sc _ _ _ => sc
  | _ => { kind := .function, names := [], isGenerator := false, isCoroutine := false }

/-! ### no exception leaves a def -/
abbrev CX0 : CXT := fun _ _ _ _ _ _ => False
abbrev E0 : XK := fun _ _ _ => False
theorem pass0 {X : Cx} : Passes CX0 X E0 := fun _ _ _ _ _ _ _ h => h.elim

/-! ### a def (or method) of the text as it stands behind the top -/
structure Fun (K : PySem.W.Frag) (x qual : Str) (st : Stmt) (f : Addr) (fd : FuncData) : Prop where
  ex : ∃ (oc : Value) (od : Option Addr) (kV doc pm : Value) (an : Option Addr) (cdv ct : Value) (osl : Array (Option Value)),
    fd = PySem.W.fnOf x qual (defArgs st) (defBody st) (defScope st) .none kV doc pm an cdv ct ∧ K.lookup f = some ⟨oc, od, .func fd, osl⟩ ∧ PySem.W.codeIn K cdv qual = true
  kp : PySem.W.keepIn K (.ref f) = true
section
variable {P : Program} {w : World} {K : PySem.W.Frag} {mg : Str → Option Value} {base : Heap}
/-- THE RULE for a def: its body as a term of rules, and the reading of that term -/
theorem Fun.ok {x qual : Str} {st : Stmt} {f : Addr} {fd : FuncData} {N ps : List Str} {k : Nat} {sp : Sp} (F : Fun K x qual st f fd) (S : FnScope N ps (defScope st)) (len : ∀ vs H Q E, sp vs H Q E → vs.length = ps.length)
    (hbody : ∀ (cdv : Value) (A : Around) (outer : List Env) (s : Shared) (H : Hp) (vs : List V) (Q : VK) (E : XK), Room k (A.deeper (envOfC qual (defScope st) s.heap.objs.size f cdv)) → sp vs H Q E →
      ∃ t, PSs (cxOf CX0 P w K mg base N qual (defScope st) f cdv A outer s H E).nox (defBody st) t ∧ t { nx := fun _ H' => Q .non H', rt := Q } (start N vs) H) : FnOk P w K mg base CX0 (k + 1) f fd ps sp := by
  obtain ⟨oc, od, kV, doc, pm, an, cdv, ct, osl, rfl, lk, hcd⟩ := F.ex
  refine fn_of lk hcd S len fun A outer s H vs Q E hr hsp => ?_
  obtain ⟨t, h, q⟩ := hbody cdv A outer s H vs Q E hr hsp
  exact ⟨t, h.nox, q⟩
/-- how its arguments bind (no defaults): h is «fun _ _ _ _ _ _ us hl => match us, hl with | [_, _], _ => rfl», one _ a parameter -/
theorem Fun.binds {x qual : Str} {st : Stmt} {f : Addr} {fd : FuncData} {ps : List Str} (F : Fun K x qual st f fd)
    (h : ∀ (kV doc pm : Value) (an : Option Addr) (cdv ct : Value) (us : List Value), us.length = ps.length → bindArgs (PySem.W.fnOf x qual (defArgs st) (defBody st) (defScope st) .none kV doc pm an cdv ct) ⟨us, []⟩ = pure (ps.zip us)) : Binds K fd ps [] := by
  obtain ⟨oc, od, kV, doc, pm, an, cdv, ct, osl, rfl, lk, hcd⟩ := F.ex
  exact .all (h kV doc pm an cdv ct)
theorem fun_mk {x qual : Str} {st : Stmt} {f : Addr} {oc : Value} {od an : Option Addr} {osl : Array (Option Value)} {kV doc pm cdv ct : Value} (l : K.lookup f = some ⟨oc, od, .func (PySem.W.fnOf x qual (defArgs st) (defBody st) (defScope st) .none kV doc pm an cdv ct), osl⟩)
    (c : PySem.W.codeIn K cdv qual = true) (k : PySem.W.keepIn K (.ref f) = true) : Fun K x qual st f (PySem.W.fnOf x qual (defArgs st) (defBody st) (defScope st) .none kV doc pm an cdv ct) := ⟨⟨oc, od, kV, doc, pm, an, cdv, ct, osl, rfl, l, c⟩, k⟩
end
theorem hu_of {A : Around} {k : Nat} (hr : Room k A) : A.units + 1 < cLine := Nat.lt_of_le_of_lt (Nat.add_le_add_left (by decide : 1 ≤ 64) _) hr.units
theorem small1000 {n : Nat} (h : n ≤ 1000) : n < sizeLine := Nat.lt_of_le_of_lt h (by decide)

/-! ### expressions in short: the name that stands in the i-th slot -/
section
variable {X : Cx}
theorem pv (i : Nat) {x : Str} {pos : Pos} (hN : X.N[i]? = some x := by rfl) (hv : Vis X.env.scope x := by first | exact Or.inl rfl | exact Or.inr (Or.inl rfl) | exact Or.inr (Or.inr rfl)) (hd : (x == ("__debug__" : Str)) = false := by decide)
    (hcd : (x == ("__classdict__" : Str)) = false := by decide) : PE X (.Name x pos) (tVar i) := pe_var hN hv hd hcd
end

/-! ### tests -/
theorem iteF {A B : Prop} (h : B) : if false = true then A else B := by
  rw [if_neg Bool.false_ne_true]
  exact h
theorem iteT {A B : Prop} (h : A) : if true = true then A else B := by
  rw [if_pos rfl]
  exact h
theorem ite2 {c A B : Prop} [Decidable c] (h1 : c → A) (h2 : ¬ c → B) : if c then A else B := by
  by_cases h : c
  · rw [if_pos h]
    exact h1 h
  · rw [if_neg h]
    exact h2 h
theorem iteNS {c A B : Prop} [Decidable c] (hc : c) (h : B) : if (!decide c) = true then A else B := by
  rw [decide_eq_true hc]
  exact iteF h

/-! ### heaps -/
/-- all that was tracked is as it was -/
def Same (H H' : Hp) : Prop := ∀ b o, H b = some o → H' b = some o
theorem Same.refl (H : Hp) : Same H H := fun _ _ h => h
theorem Same.trans {H H1 H2 : Hp} (a : Same H H1) (b : Same H1 H2) : Same H H2 := fun c o h => b c o (a c o h)
theorem Same.free {H H' : Hp} (e : Same H H') {l : Addr} (h : H' l = Option.none) : H l = Option.none := by
  cases q : H l with
  | none => rfl
  | some o =>
    rw [e l o q] at h
    cases h
theorem Same.seq {K : PySem.W.Frag} {H H' : Hp} {a : Addr} {xs : List V} (e : Same H H') (h : SqL K H a xs) : SqL K H' a xs := by
  rcases h with (h | ⟨o, h⟩) | h
  · exact .inl (.inl (e _ _ h))
  · exact .inl (.inr ⟨o, e _ _ h⟩)
  · exact .inr h

/-! ### a dict's pairs: keys that differ -/
section
variable {κ : Type} [DecidableEq κ]
end
end L2




set_option maxHeartbeats 4000000
namespace L2
open PySem PySem.Spec PyProof.Rows

/-! ### comprehensions -/
theorem closure_go {env : Env} : ∀ (l : List (Str × NameKind)) (acc : List (Str × Addr)), (∀ x ∈ l, x.2 = NameKind.free → ∃ c, env.cells.lookup x.1 = some c) → (∀ x c, acc.lookup x = some c → env.cells.lookup x = some c) →
    ∃ cl : List (Str × Addr), (forIn l acc (fun (p : Str × NameKind) (cs : List (Str × Addr)) => if (p.2 == NameKind.free) = true then (do let c ← cellOf env p.1; pure (ForInStep.yield ((p.1, c) :: cs))) else pure (ForInStep.yield cs)) : Sem (List (Str × Addr))) = pure cl ∧
      (∀ x c, cl.lookup x = some c → env.cells.lookup x = some c) ∧ (∀ x, (x, NameKind.free) ∈ l → ∃ c, cl.lookup x = some c) ∧ ∀ x c, acc.lookup x = some c → ∃ c', cl.lookup x = some c'
  | [], acc, _, ha => ⟨acc, rfl, ha, fun _ z => (nomatch z), fun x c e => ⟨c, e⟩⟩
  | (n, k) :: r, acc, h, ha => by
    by_cases hk : k = NameKind.free
    · subst hk
      obtain ⟨c, hc⟩ := h (n, NameKind.free) List.mem_cons_self rfl
      obtain ⟨cl, e1, e2, e3, e4⟩ := closure_go r ((n, c) :: acc) (fun x hx => h x (List.mem_cons_of_mem _ hx)) (fun x c' e => by
        by_cases hx : x = n
        · subst hx
          simp only [List.lookup_cons, beq_self_eq_true] at e
          cases e
          exact hc
        · have hb : (x == n) = false := by simpa using hx
          simp only [List.lookup_cons, hb] at e
          exact ha x c' e)
      have hn : ∃ c', cl.lookup n = some c' := e4 n c (by simp only [List.lookup_cons, beq_self_eq_true])
      refine ⟨cl, ?_, e2, fun x hx => ?_, fun x c' e => ?_⟩
      · have hcell : cellOf env n = pure c := by unfold cellOf; rw [hc]
        rw [List.forIn_cons]
        show ((if (NameKind.free == NameKind.free) = true then (do let c ← cellOf env n; pure (ForInStep.yield ((n, c) :: acc))) else pure (ForInStep.yield acc)) >>= _) = pure cl
        rw [if_pos (by decide), hcell, pure_bind, pure_bind]
        exact e1
      · rcases List.mem_cons.mp hx with q | q
        · cases q; exact hn
        · exact e3 x q
      · by_cases hx : x = n
        · subst hx; exact hn
        · refine e4 x c' ?_
          have hb : (x == n) = false := by simpa using hx
          simp only [List.lookup_cons, hb]
          exact e
    · obtain ⟨cl, e1, e2, e3, e4⟩ := closure_go r acc (fun x hx => h x (List.mem_cons_of_mem _ hx)) ha
      refine ⟨cl, ?_, e2, fun x hx => ?_, e4⟩
      · have hb : (k == NameKind.free) = false := by simpa using hk
        rw [List.forIn_cons]
        show ((if (k == NameKind.free) = true then (do let c ← cellOf env n; pure (ForInStep.yield ((n, c) :: acc))) else pure (ForInStep.yield acc)) >>= _) = pure cl
        rw [hb, if_neg (by decide), pure_bind]
        exact e1
      · rcases List.mem_cons.mp hx with q | q
        · cases q; exact absurd rfl hk
        · exact e3 x q
theorem closure_of {scope : Scope} {env : Env} (h : ∀ x ∈ scope.names, x.2 = NameKind.free → ∃ c, env.cells.lookup x.1 = some c) :
    ∃ cl : List (Str × Addr), closureFor scope env = pure cl ∧ (∀ x c, cl.lookup x = some c → env.cells.lookup x = some c) ∧ ∀ x, (x, NameKind.free) ∈ scope.names → ∃ c, cl.lookup x = some c := by
  obtain ⟨cl, e1, e2, e3, _⟩ := closure_go scope.names [] h (fun x c e => by simp at e)
  refine ⟨cl, ?_, e2, e3⟩
  unfold closureFor
  show (forIn scope.names [] _ >>= fun cs => pure cs) = pure cl
  have e1' : (forIn scope.names ([] : List (Str × Addr)) (fun (x : Str × NameKind) (cs : List (Str × Addr)) => if (x.2 == NameKind.free) = true then (do let c ← cellOf env x.1; pure (ForInStep.yield ((x.1, c) :: cs))) else pure (ForInStep.yield cs)) : Sem (List (Str × Addr))) = pure cl := e1
  have e5 : ∀ (m : Sem (List (Str × Addr))), m = pure cl → (m >>= fun cs => pure cs) = pure cl := fun m e => by rw [e, pure_bind]
  exact e5 _ e1'

/-- the context of a comprehension's block: the enclosing names first, then the block's own -/
def cxC (X : Cx) (scope : Scope) (cl : List (Str × Addr)) (N2 ys : List Str) (C : Addr) (s : Shared) (H : Hp) (fp : List Addr) : Cx :=
  { prog := X.prog, w := X.w, K := X.K, mg := X.mg, base := X.base, A := X.A, N := N2 ++ ys, s₀ := s, H₀ := H, env := compEnvC scope cl C X.env, outer := X.stack, stack := X.stack, ex := fp, fn := fun _ => false, calm := X.calm, pn := [], xe := fun _ _ => False }

/-- the tests of a clause -/
def PTs (X : Cx) (ifs : List Expr) (t : TT) : Prop :=
  ∀ (pins : List (Addr × Obj)) (s : Shared) (σ : St) (H : Hp) (Q : Bool → Hp → Prop), Inv X pins σ H s → t σ H Q →
    wpAny (model X.prog X.w) X.A (forIn ifs true fun c r => if r = true then do let ok ← isTrue c X.env (eval c X.env); pure (ForInStep.yield ok) else pure (ForInStep.yield r)) (TP X pins σ Q) X.xe s
def tYes : TT := fun _ H Q => Q true H
theorem pts_nil {X : Cx} : PTs X [] tYes := fun _ _ _ H _ I h => wpAny_tests_nil ⟨H, I, h⟩
theorem pts_one {X : Cx} {c : Expr} {t : TT} (h : PT X c t) : PTs X [c] t := fun pins s σ H Q I q => wpAny_tests_one (h pins s σ H Q I q)

theorem compLoop_go {prog : Program} {w : World} {A : Around} {R : Result → Shared → Prop} {s : Shared} {elt target iter : Expr} {ifs : List Expr} {scope : Scope} {pos : Pos} {it acc : Value} {env : Env} (I : Nat → Shared → Prop)
    (turn : ∀ n s, I n s → wpAny (model prog w) A (pyNext it) (fun r s₁ => match r with
      | none => R (.ok .next) s₁
      | some v => wpAny (model prog w) A (letOwnedTupleGo target it v) (fun _ s₁' => wpAny (model prog w) A (assign target env v) (fun _ s₂ =>
          wpAny (model prog w) A (forIn ifs true fun c r => if r = true then do let ok ← isTrue c env (eval c env); pure (ForInStep.yield ok) else pure (ForInStep.yield r)) (fun ok s₃ =>
            if ok = true then wpAny (model prog w) A (eval elt env) (fun x s₄ =>
              wpAny (model prog w) A (call (.builtin "list.append") [acc, x]) (fun _ s₅ => ∃ m, m < n ∧ I m s₅) (notedBy (model prog w) A env fun e s' => R (.error e) s') s₄) (notedBy (model prog w) A env fun e s' => R (.error e) s') s₃
            else ∃ m, m < n ∧ I m s₃) (notedBy (model prog w) A env fun e s' => R (.error e) s') s₂) (notedBy (model prog w) A env fun e s' => R (.error e) s') s₁') (notedBy (model prog w) A env fun e s' => R (.error e) s') s₁) (notedBy (model prog w) A env fun e s' => R (.error e) s') s)
    (n : Nat) (h : I n s) :
    codeAny (model prog w) A (.compLoop (.ListComp elt [⟨target, iter, ifs, 0⟩] scope pos) 0 it acc env) R s := by
  refine codeAny_loop rfl I (fun n s hI => ?_) n h
  show wpAny _ A ((compTurn (.ListComp elt [⟨target, iter, ifs, 0⟩] scope pos) 0 it acc env).onRaise (fun x => do noteFrame x env; theTreesLotGoes x)) _ _ s
  refine wpAny_noted ?_
  rw [compTurn_list]
  refine wpAny_bind (wpAny_standAt (wpAny_bind (wpAny_mono (turn n s hI) (fun r s₁ h₁ => ?_) fun _ _ h' => h')))
  cases r with
  | none => exact wpAny_pure h₁
  | some v =>
    refine wpAny_bind (wpAny_mono h₁ (fun _ s₁' h₁' => ?_) fun _ _ h' => h')
    refine wpAny_bind (wpAny_mono h₁' (fun _ s₂ h₂ => wpAny_bind (wpAny_mono h₂ (fun ok s₃ h₃ => ?_) fun _ _ h' => h')) fun _ _ h' => h')
    cases ok with
    | false => exact wpAny_pure ⟨rfl, h₃⟩
    | true =>
      exact wpAny_bind (wpAny_bind (wpAny_mono h₃ (fun x s₄ h₄ => wpAny_bind (wpAny_mono h₄ (fun _ s₅ h₅ => wpAny_pure (wpAny_pure ⟨rfl, h₅⟩)) fun _ _ h' => h')) fun _ _ h' => h'))

/-- [elt for tg in iter if ..]: k names of its own -/
def LCT (k : Nat) (g : TG) (tt : TT) (te : TE) (σ : St) (Q : VK) (J : It) (H1 : Hp) : Prop := ∀ D, H1 D = none → ∃ W : Nat → Nat → List V → Hp → Prop, (∃ m, W 0 m [] (upd H1 D (.lst []))) ∧ ∀ i m ys H, W i m ys H →
  (J.stop i H ∧ Q (.ref D) H) ∨ (J.go i H ∧ ∀ x H', J.yld i H x H' → g x (σ ++ List.replicate k none) H' fun σ2 H2 => (∃ τ : St, σ2 = σ ++ τ ∧ τ.length = k) ∧
    tt σ2 H2 fun b H3 => if b = true then te σ2 H3 fun y H4 => H4 D = some (.lst ys) ∧ ys.length < sizeLine ∧ ∃ m', m' < m ∧ W (i + 1) m' (ys ++ [y]) (upd H4 D (.lst (ys ++ [y]))) else ∃ m', m' < m ∧ W (i + 1) m' ys H3)
def tLC (k : Nat) (wi : TI) (g : TG) (tt : TT) (te : TE) : TE := fun σ H Q => wi σ H (LCT k g tt te σ Q)

theorem lookup_relabel {env : Env} : ∀ {names : List (Str × NameKind)} {x : Str} {k : NameKind}, (names.map fun (n, k) => if (k == NameKind.free && env.scope.kind == .function && env.kindOf n == some .cell) then (n, NameKind.cell) else (n, k)).lookup x = some k →
    (names.lookup x = some k) ∨ (names.lookup x = some .free ∧ k = .cell)
  | [], _, _, h => by simp at h
  | (n, k0) :: r, x, k, h => by
    have ih := @lookup_relabel env r x k
    have h : List.lookup x ((if (k0 == NameKind.free && env.scope.kind == .function && env.kindOf n == some .cell) = true then (n, NameKind.cell) else (n, k0)) :: r.map fun (n, k) => if (k == NameKind.free && env.scope.kind == .function && env.kindOf n == some .cell) then (n, NameKind.cell) else (n, k)) = some k := h
    cases hx : x == n with
    | true =>
      by_cases hc : (k0 == NameKind.free && env.scope.kind == .function && env.kindOf n == some .cell) = true
      · rw [if_pos hc] at h
        simp only [List.lookup_cons, hx] at h
        cases h
        have hf : k0 = .free := by
          have := hc
          simp only [Bool.and_eq_true, beq_iff_eq] at this
          exact this.1.1
        right
        simp only [List.lookup_cons, hx, hf, and_self]
      · rw [if_neg hc] at h
        simp only [List.lookup_cons, hx] at h
        cases h
        left
        simp only [List.lookup_cons, hx]
    | false =>
      have h' : List.lookup x (r.map fun (n, k) => if (k == NameKind.free && env.scope.kind == .function && env.kindOf n == some .cell) then (n, NameKind.cell) else (n, k)) = some k := by
        by_cases hc : (k0 == NameKind.free && env.scope.kind == .function && env.kindOf n == some .cell) = true
        · rw [if_pos hc] at h
          simp only [List.lookup_cons, hx] at h
          exact h
        · rw [if_neg hc] at h
          simp only [List.lookup_cons, hx] at h
          exact h
      rcases ih h' with q | q
      · left; simp only [List.lookup_cons, hx]; exact q
      · right; simp only [List.lookup_cons, hx]; exact q

/-- the tail of a comprehension's reading, by an invariant: one name of its own, no test -/
theorem lcJ {J : It} {n k : Nat} {σ : St} {H1 : Hp} {te : TE} {Q : VK} (xv : Nat → V) (Pv : Addr → Nat → List V → Hp → Prop) (hk : σ.length = k)
    (hgo : ∀ D i ys H, i < n → Pv D i ys H → J.go i H) (hyld : ∀ D i ys H x H', i < n → Pv D i ys H → J.yld i H x H' → H' = H ∧ x = xv i) (hstop : ∀ D ys H, Pv D n ys H → J.stop n H)
    (h0 : ∀ D, H1 D = none → Pv D 0 [] (upd H1 D (.lst [])))
    (turn : ∀ D i ys H (post : VK), i < n → Pv D i ys H → (∀ y H4, H4 D = some (.lst ys) → ys.length < sizeLine → Pv D (i + 1) (ys ++ [y]) (upd H4 D (.lst (ys ++ [y]))) → post y H4) → te (σ ++ [some (xv i)]) H post)
    (fin : ∀ D ys H, Pv D n ys H → Q (.ref D) H) :
    LCT 1 (gName k) tYes te σ Q J H1 := by
  intro D hD
  refine ⟨fun i m ys H => m = n - i ∧ i ≤ n ∧ Pv D i ys H, ⟨n, by simp, Nat.zero_le _, h0 D hD⟩, ?_⟩
  rintro i m ys H ⟨rfl, hi, p⟩
  by_cases hlt : i < n
  · refine .inr ⟨hgo D i ys H hlt p, fun x H' y => ?_⟩
    obtain ⟨rfl, rfl⟩ := hyld D i ys H x H' hlt p y
    have e : (σ ++ List.replicate 1 (none : Option V)).set k (some (xv i)) = σ ++ [some (xv i)] := by
      subst hk
      simp [List.set_append]
    unfold gName
    rw [e]
    unfold tYes
    refine ⟨⟨_, rfl, rfl⟩, ?_⟩
    refine iteT ?_
    exact turn D i ys H' _ hlt p fun y H4 h1 h2 h3 => ⟨h1, h2, n - (i + 1), by lia, rfl, hlt, h3⟩
  · have e : i = n := by lia
    subst e
    exact .inl ⟨hstop D ys H p, fin D ys H p⟩
/-- elements that make nothing: over a list, over a range -/
theorem lcL0 {K : PySem.W.Frag} {a : Addr} {xs : List V} {k : Nat} {σ : St} {H1 : Hp} {te : TE} {Q : VK} (R : Nat → V → Prop) (hk : σ.length = k) (hq : SqL K H1 a xs) (hz : xs.length ≤ 1000)
    (turn : ∀ D i x ys (post : VK), xs[i]? = some x → H1 D = none → (∀ y, R i y → post y (upd H1 D (.lst ys))) → te (σ ++ [some x]) (upd H1 D (.lst ys)) post)
    (fin : ∀ D ys, H1 D = none → ys.length = xs.length → (∀ i y, ys[i]? = some y → R i y) → Q (.ref D) (upd H1 D (.lst ys))) :
    LCT 1 (gName k) tYes te σ Q (Itl K a) H1 := by
  have sq : ∀ D ys, H1 D = none → SqL K (upd H1 D (.lst ys)) a xs := fun D ys h => Same.seq (fun b u e => by rw [upd_ne (ne_of_none e h)]; exact e) hq
  refine lcJ (n := xs.length) (fun i => xs.getD i .non) (fun D i ys H => H1 D = none ∧ ys.length = i ∧ (∀ j y, ys[j]? = some y → R j y) ∧ H = upd H1 D (.lst ys)) hk ?_ ?_ ?_ ?_ ?_ ?_
  · rintro D i ys H hi ⟨h1, h2, h3, rfl⟩
    exact ⟨xs, xs[i], sq D ys h1, by simp [hi]⟩
  · rintro D i ys H x H' hi ⟨h1, h2, h3, rfl⟩ ⟨e, y⟩
    refine ⟨e, ?_⟩
    have := y xs (sq D ys h1)
    rw [List.getD_eq_getElem?_getD, this]; rfl
  · rintro D ys H ⟨h1, h2, h3, rfl⟩
    exact ⟨xs, sq D ys h1, Nat.le_refl _⟩
  · intro D hD
    exact ⟨hD, rfl, fun j y e => by simp at e, rfl⟩
  · rintro D i ys H post hi ⟨h1, h2, h3, rfl⟩ hp
    have hx : xs[i]? = some (xs.getD i .non) := by rw [List.getD_eq_getElem?_getD, List.getElem?_eq_getElem hi]; rfl
    refine turn D i _ ys post hx h1 fun y hy => hp y _ upd_same (small1000 (by lia)) ⟨h1, by rw [List.length_append, h2]; rfl, fun j z e => ?_, by rw [upd_upd]⟩
    by_cases hj : j < ys.length
    · rw [List.getElem?_append_left hj] at e
      exact h3 j z e
    · rw [List.getElem?_append_right (by lia)] at e
      have hj2 : j = i := by
        have := (List.getElem?_eq_some_iff.mp e).1
        simp at this
        lia
      subst hj2
      rw [h2, Nat.sub_self] at e
      cases e
      exact hy
  · rintro D ys H ⟨h1, h2, h3, rfl⟩
    exact fin D ys h1 h2 h3
end L2

namespace L2
open PySem PySem.Spec PyProof.Rows PySem.Builtin PySem.Builtin.Str

section
variable {X : Cx}
/-! ### isinstance -/
theorem kit_self {K : PySem.W.Frag} {T : String} : PySem.W.kitOne K (.type T) (.type T) = some true := by
  unfold PySem.W.kitOne
  rw [if_pos (by simp)]

/-! ### texts -/
theorem op_mul_str : OpR X (binaryOp .Mult) (fun x y H Q => ∃ z n, x = .str z ∧ y = .int n ∧ MulOk z n ∧ Q (.str (Txt.mul z n)) H) := by
  intro pins s σ H x y v u Q I rx ry h
  obtain ⟨z, n, rfl, rfl, hok, q⟩ := h
  obtain ⟨t, rfl⟩ := rx
  obtain ⟨t', rfl⟩ := ry
  exact SB.mul hok fun t2 k => ⟨.str _, H, I.tok _, ⟨_, rfl⟩, q⟩
theorem mulOk_small {z : Str} {n : Int} (h0 : 0 ≤ n) (h1 : n ≤ 1000) (hz : z.length ≤ 1000) : MulOk z n := by
  have e : (2 : Int) ^ 63 = 9223372036854775808 := by decide
  refine ⟨?_, fun h2 _ => ?_, fun _ _ => ?_⟩
  · rw [e]
    simp only [Bool.or_eq_false_iff, decide_eq_false_iff_not]
    lia
  · rw [e]
    have h3 : (9223372036854775808 - 1 : Int) / n ≥ 9223372036854775807 / 1000 := by
      have hn : 0 < n := by lia
      rw [ge_iff_le, Int.le_ediv_iff_mul_le hn]
      have : (9223372036854775807 / 1000 : Int) * n ≤ (9223372036854775807 / 1000 : Int) * 1000 := Int.mul_le_mul_of_nonneg_left h1 (by decide)
      have e2 : (9223372036854775807 / 1000 : Int) * 1000 ≤ 9223372036854775808 - 1 := by decide
      lia
    lia
  · have hn : n.toNat ≤ 1000 := by lia
    have h4 : z.length * n.toNat ≤ 1000 * 1000 := Nat.mul_le_mul hz hn
    have hs : sizeLine = 16777216 := sizeLine_eq
    unfold tooLong
    rw [hs]
    exact decide_eq_false (by lia)
theorem len_mulS {z : Str} {n : Int} {L N : Nat} (hz : z.length ≤ L) (hn : n ≤ N) : (Txt.mul z n).length ≤ L * N := len_mul_leN hz hn

def rSlS : V → Option Int → Option Int → Hp → VK → Prop := fun x lo hi H Q => ∃ z, x = .str z ∧ z.length ≤ sizeLine ∧ Q (.str (Txt.slice z lo hi)) H
theorem sl_str : SlR X rSlS := by
  intro pins s σ H x v vl vu lo hi sl Q I rx hs pl pu h
  obtain ⟨z, rfl, hz, q⟩ := h
  obtain ⟨t, rfl⟩ := rx
  refine ⟨"str", _, F.slot_str_getitem.lookup, typeIs_str _ _ _, ?_⟩
  have key : ∀ (l u : Option (Int × Tok)), vl = partValue l → vu = partValue u → lo = l.map (·.1) → hi = u.map (·.1) → wpAny (model X.prog X.w) X.A (getItem (.str z t) (.ref sl)) (EP X pins σ Q) X.xe s := by
    rintro l u rfl rfl rfl rfl
    refine wpAny_getItem_str_slice (l := l) (u := u) (st := none) ?_ rfl (post_val_or_str ⟨Nat.le_trans (Txt.slice_le z _ _) hz, fun t' k => ⟨.str _, H, I.tok _, ⟨_, rfl⟩, q⟩⟩)
    obtain ⟨o, h1, h2, h3⟩ := hs
    exact ⟨o, h1, h2, h3⟩
  cases pl with
  | none =>
    cases pu with
    | none => exact key none none rfl rfl rfl rfl
    | int j t2 => exact key none (some (j, t2)) rfl rfl rfl rfl
  | int i t1 =>
    cases pu with
    | none => exact key (some (i, t1)) none rfl rfl rfl rfl
    | int j t2 => exact key (some (i, t1)) (some (j, t2)) rfl rfl rfl rfl

/-! ### the empty tuple, known to the object; dict(()) -/
end

end L2

namespace L2
open PySem PySem.Spec PyProof.Rows

theorem SqT.upd {K : PySem.W.Frag} {H : Hp} {d b : Addr} {m : List (Key × V)} {o : HO} {xs : List V} (h : SqT K H b xs) (e : H d = some (.dK m)) : SqT K (L2.upd H d o) b xs := by
  rcases h with (h | ⟨o', h⟩) | h
  · exact .inl (.inl (by rw [upd_ne (ne_of h e (by intro z; cases z))]; exact h))
  · exact .inl (.inr ⟨o', by rw [upd_ne (ne_of h e (by intro z; cases z))]; exact h⟩)
  · exact .inr h
theorem SqT.new {K : PySem.W.Frag} {H : Hp} {d b : Addr} {o : HO} {xs : List V} (h : SqT K H b xs) (e : H d = none) : SqT K (L2.upd H d o) b xs := by
  rcases h with (h | ⟨o', h⟩) | h
  · exact .inl (.inl (by rw [upd_ne (ne_of_none h e)]; exact h))
  · exact .inl (.inr ⟨o', by rw [upd_ne (ne_of_none h e)]; exact h⟩)
  · exact .inr h
end L2

namespace L2
open PySem PySem.Spec PyProof.Rows

section
variable {X : Cx}
theorem bls_get {bs : List Bool} {us : List Value} (r : Vals (bs.map V.bl) us) {i : Nat} {v : Value} (h : us[i]? = some v) : ∃ b, bs[i]? = some b ∧ v = .bool b := by
  have hl := r.length
  rw [List.length_map] at hl
  have hi : i < bs.length := by have := (List.getElem?_eq_some_iff.mp h).1; lia
  obtain ⟨u, e, ru⟩ := r.get (i := i) (x := V.bl bs[i]) (by rw [List.getElem?_map, List.getElem?_eq_getElem hi]; rfl)
  rw [h] at e; cases e
  exact ⟨_, List.getElem?_eq_getElem hi, ru⟩
theorem range_allG (bs : List Bool) : ((List.range bs.length).all fun i => (bs[i]?).getD true) = bs.all id := by
  rw [Bool.eq_iff_iff, List.all_eq_true, List.all_eq_true]
  constructor
  · intro h b hb
    obtain ⟨i, hi, rfl⟩ := List.mem_iff_getElem.mp hb
    have := h i (List.mem_range.mpr hi)
    rw [List.getElem?_eq_getElem hi] at this
    exact this
  · intro h i hi
    have hi := List.mem_range.mp hi
    rw [List.getElem?_eq_getElem hi]
    exact h _ (List.getElem_mem hi)
theorem call_allB (hc : X.calm = true) : CallR X (.builtin "all") (fun xs H Q => ∃ (p : Addr) (bs : List Bool), xs = [.ref p] ∧ SqL X.K H p (bs.map V.bl) ∧ Q (.bl (bs.all id)) H) := by
  intro pins s σ H xs us Q I rv h
  obtain ⟨p, bs, rfl, hS, q⟩ := h
  obtain ⟨u, rfl, ru⟩ := rv.one
  cases ru
  obtain ⟨its, r, hp, _⟩ := I.list hS
  have hlen : its.length = bs.length := by have := r.length; rw [List.length_map] at this; lia
  have hl := hp.isList
  have hlt : p < s.heap.objs.size := by obtain ⟨_, e, _⟩ := hl; exact Heap.lt_size e
  refine call_all_walk (wpAny_pyIter_list hl ?_)
  refine ⟨s.heap.objs.size, [s.heap.objs.size, p], [s.heap.objs.size], its.toArray.size, _, _, fun i => (bs[i]?).getD true, rfl, Walks.list (A := X.A.in1) (I.ok.hd hc) _ p (Nat.ne_of_lt hlt) its.toArray,
    ⟨⟨_, Heap.get?_push_size _ rfl, rfl, rfl⟩, hl.push _⟩, fun i v s' Q' E' hP hQ => ?_, fun h' tk hk => ?_⟩
  · obtain ⟨b, e, rfl⟩ := bls_get r (i := i) (v := v) (by simpa using hP)
    simp only [e, Option.getD_some] at hQ
    exact wpAny_truthy_bool hQ
  · rw [List.size_toArray, hlen, range_allG]
    refine ⟨.bl _, H, I.kept (t' := tk) fun b o e => hk b o (fun hm => ?_) (Heap.get?_push_of_some _ e), rfl, q⟩
    rw [List.mem_singleton.mp hm] at e
    exact Nat.lt_irrefl _ (Heap.lt_size e)
end

/-- the tail of a comprehension's reading, any target, any test -/
theorem lcP {J : It} {n k : Nat} {σ : St} {H1 : Hp} {g : TG} {tt : TT} {te : TE} {Q : VK} (xv : Nat → V) (Pv : Addr → Nat → List V → Hp → Prop)
    (hgo : ∀ D i ys H, i < n → Pv D i ys H → J.go i H) (hyld : ∀ D i ys H x H', i < n → Pv D i ys H → J.yld i H x H' → H' = H ∧ x = xv i) (hstop : ∀ D ys H, Pv D n ys H → J.stop n H)
    (h0 : ∀ D, H1 D = none → Pv D 0 [] (upd H1 D (.lst [])))
    (turn : ∀ D i ys H (yes : VK) (no : Hp → Prop), i < n → Pv D i ys H → (∀ y H4, H4 D = some (.lst ys) → ys.length < sizeLine → Pv D (i + 1) (ys ++ [y]) (upd H4 D (.lst (ys ++ [y]))) → yes y H4) → (∀ H3, Pv D (i + 1) ys H3 → no H3) →
      g (xv i) (σ ++ List.replicate k none) H fun σ2 H2 => (∃ τ : St, σ2 = σ ++ τ ∧ τ.length = k) ∧ tt σ2 H2 fun b H3 => if b = true then te σ2 H3 yes else no H3)
    (fin : ∀ D ys H, Pv D n ys H → Q (.ref D) H) : LCT k g tt te σ Q J H1 := by
  intro D hD
  refine ⟨fun i m ys H => m = n - i ∧ i ≤ n ∧ Pv D i ys H, ⟨n, by simp, Nat.zero_le _, h0 D hD⟩, ?_⟩
  rintro i m ys H ⟨rfl, hi, p⟩
  by_cases hlt : i < n
  · refine .inr ⟨hgo D i ys H hlt p, fun x H' y => ?_⟩
    obtain ⟨rfl, rfl⟩ := hyld D i ys H x H' hlt p y
    exact turn D i ys H' _ _ hlt p (fun y H4 h1 h2 h3 => ⟨h1, h2, n - (i + 1), by lia, rfl, hlt, h3⟩) fun H3 h3 => ⟨n - (i + 1), by lia, rfl, hlt, h3⟩
  · have e : i = n := by lia
    subst e
    exact .inl ⟨hstop D ys H p, fin D ys H p⟩
end L2

namespace L2
open PySem PySem.Spec PyProof.Rows
theorem lc_core {X : Cx} {elt tg iter : Expr} {ifs : List Expr} {scope : Scope} {pos cpos : Pos} {use : Option (Value → Sem Unit)} {QQ : Value → Shared → Prop} {pins : List (Addr × Obj)} {s : Shared} {σ : St} {H : Hp} {Q : VK} {wi : TI} {g : TG} {tt : TT} {te : TE}
    (N N2 ys : List Str) (sc : Scope) (hc : X.calm = true) (hNe : X.N = N) (hNl : N2.length = N.length) (hsub : ∀ p ∈ N2.zip N, p.1 = p.2 ∨ ¬ scope.names.lookup p.1 = some .free) (hsc : X.env.scope = sc) (hkind : scope.kind = .function) (hcell : ∀ y ∈ scope.names, y.2 ≠ .cell) (hnames : ∀ y ∈ scope.names, y.2 = .local → scope.names.lookup y.1 = some .local)
    (hfr : ∀ y ∈ scope.names, y.2 = .free → sc.names.lookup y.1 = some .cell) (hloc : ∀ y ∈ N2, scope.names.lookup y ≠ some .local)
    (hi : PI X tg iter wi) (hg : ∀ cl C s H fp, PG (cxC X scope cl N2 ys C s H fp) tg g) (ht : ∀ cl C s H fp, PTs (cxC X scope cl N2 ys C s H fp) ifs tt) (he : ∀ cl C s H fp, PE (cxC X scope cl N2 ys C s H fp) elt te)
    (I : Inv X pins σ H s) (h : tLC ys.length wi g tt te σ H Q)
    (fin0 : ∀ (D C : Addr) (H' : Hp) (s' : Shared), Inv X pins σ H' s' → FpOk X pins H' C → (∃ m, s'.heap.Ns C m) → Q (.ref D) H' → compPost (model X.prog X.w) X.A X.xe use QQ (.ref D) C (.ok .next) s')
    (hs : ∀ x, foldedSetIterable iter X.env x = pure x := by intro _; rfl) :
    wpAny (model X.prog X.w) X.A (comprehension (.ListComp elt [⟨tg, iter, ifs, 0⟩] scope pos) scope X.env cpos (newList []) false (eval iter X.env) use) QQ X.xe s := by
  obtain ⟨cl, hclos, cl1, cl2⟩ := closure_of (scope := scope) (env := X.env) (fun x hx hf => I.ok.has x.1 (.inl (by
    show X.env.scope.names.lookup x.1 = _
    rw [hsc]; exact hfr x hx hf)))
  refine wpAny_comprehension_free (use := use) rfl hs hclos hkind hnames (thn (hi pins s σ H _ I h) fun v s1 h1 => thn h1 fun itv s2 h2 => ?_)
  obtain ⟨it, fp, tn, J, H2, e, I2, T, st2, f2, hD⟩ := h2
  subst e
  refine wpAny_newObj_type (wpAny_newFunctionEnv hcell (by intro y hy; simp at hy) (fun h₁ hns₁ hsb₁ => ?_) hkind)
  have I3 : Inv X pins σ (upd H2 s2.heap.objs.size (.lst [])) { s2 with heap := s2.heap.push { cls := .type "list", data := .seq ([] : List Value).toArray }, toks := s2.toks } := I2.lnew (ys := []) (its := []) .nil (Nat.zero_le _)
  have fD : H2 s2.heap.objs.size = none := I2.hok.fresh (Nat.le_refl _)
  obtain ⟨W, ⟨m0, w0⟩, turn⟩ := hD _ fD
  have hfp2 : ∀ b ∈ fp, b < s2.heap.objs.size := fun b hb => by
    obtain ⟨o, e, _⟩ := T.obj 0 s2.heap st2 b hb
    exact Heap.lt_size e
  dsimp only at hns₁ hsb₁ I3 ⊢
  generalize hH2 : s2.heap.push { cls := .type "list", dict := none, data := .seq ([] : List Value).toArray } = H3h at hns₁ hsb₁ I3 ⊢
  generalize hDd : s2.heap.objs.size = D at *
  have hC : H3h.objs.size = D + 1 := by rw [← hH2, Heap.size_push, hDd]
  generalize hCc : H3h.objs.size = C at *
  have hDC : D < C := by rw [hC]; exact Nat.lt_succ_self _
  have hCD : C ≠ D := Nat.ne_of_gt hDC
  have hfpC : ∀ b ∈ fp, b ≠ C := fun b hb => Nat.ne_of_lt (Nat.lt_trans (hfp2 b hb) hDC)
  have hfpD : ∀ b ∈ fp, b ≠ D := fun b hb => Nat.ne_of_lt (hfp2 b hb)
  have old2 : ∀ b o, s2.heap.get? b = some o → H3h.get? b = some o := fun b o e => by rw [← hH2]; exact Heap.get?_push_of_some _ e
  have old : ∀ b o, H3h.get? b = some o → h₁.get? b = some o := fun b o e => hsb₁.extBut b o (Nat.ne_of_lt (by have := Heap.lt_size e; rw [hCc] at this; exact this)) (Heap.get?_push_of_some _ e)
  have frH : upd H2 D (.lst []) C = none := by rw [upd_ne hCD]; exact I2.hok.fresh (by rw [hDd]; exact Nat.le_of_lt hDC)
  -- the block's context
  have ok' : (cxC X scope cl N2 ys C { s2 with heap := H3h } (upd H2 D (.lst [])) fp).Ok := by
    refine ⟨I.ok.mod, hkind, I.ok.glob, I.ok.blt, ?_, ?_, ?_, ?_, I.ok.hd, I.ok.frames, .inl rfl, ?_, ?_, ?_, ?_, ?_, ?_, ?_⟩
    · show H3h.objs.size ≤ C
      exact Nat.le_of_eq hCc
    · intro x y c h1 h2
      exact I.ok.inj x y c (cl1 x c h1) (cl1 y c h2)
    · intro x hx
      have hx : (relabel scope X.env).names.lookup x = some .cell ∨ (relabel scope X.env).names.lookup x = some .free := hx
      have key : scope.names.lookup x = some .free ∨ scope.names.lookup x = some .cell := by
        rcases hx with q | q
        · rcases lookup_relabel q with z | z
          · exact .inr z
          · exact .inl z.1
        · rcases lookup_relabel q with z | z
          · exact .inl z
          · exact .inl z.1
      rcases key with q | q
      · exact cl2 x (PySem.mem_of_lookup q)
      · exact absurd rfl (hcell _ (PySem.mem_of_lookup q))
    · intro x c z _
      exact absurd (show false = true from z) (by decide)
    · intro b hb
      refine ⟨fun z => ?_, fun x c e => ?_⟩
      · exact hfpC b hb z
      · exact (f2 b hb).2.2.2.2.1 x c (cl1 x c e)
    · intro b o e
      exact ⟨I3.bk b o e, (I3.bs b o e).2⟩
    · exact Nat.le_trans I.ok.bsz I3.sz
    · intro b o e hb
      rcases (f2 b hb).2.2.2.1 with q | q
      · exact I.ok.noex b o e q
      · exact absurd (Nat.lt_of_lt_of_le (Heap.lt_size e) (Nat.le_trans I.ok.bsz q)) (Nat.lt_irrefl _)
    · intro b hb hz
      rcases List.mem_cons.mp (I.stkSub b hz) with q | q
      · exact (f2 b hb).2.1 q
      · exact (f2 b hb).2.2.1 q
    · exact I3.stack
    · intro b hb
      exact I3.stkFree b hb
  have lenN : N2.length = X.N.length := by rw [hNl, hNe]
  have lenR : (σ ++ List.replicate ys.length (none : Option V)).length = (N2 ++ ys).length := by
    rw [List.length_append, List.length_append, List.length_replicate, I.len, lenN]
  have I4 : Inv (cxC X scope cl N2 ys C { s2 with heap := H3h } (upd H2 D (.lst [])) fp) [] (σ ++ List.replicate ys.length none) (upd H2 D (.lst [])) { s2 with heap := h₁, toks := s2.toks + ([] : List (Str × Value)).length } := by
    refine ⟨ok', rfl, I2.bare, Un.kept old, ⟨_, hns₁, ?_⟩, ?_, frH, ?_, ?_, I3.hok.kept old, lenR⟩
    · intro i x v h1 h2 h3
      have hi : i < X.N.length := by
        by_cases hi : i < X.N.length
        · exact hi
        · exfalso
          rw [List.getElem?_append_right (by rw [I.len]; lia), List.getElem?_replicate] at h2
          split at h2 <;> cases h2
      have h1 : N2[i]? = some x := by
        have h1 : (N2 ++ ys)[i]? = some x := h1
        rw [List.getElem?_append_left (by rw [lenN]; exact hi)] at h1
        exact h1
      have h2 : σ[i]? = some (some v) := by
        rw [List.getElem?_append_left (by rw [I.len]; exact hi)] at h2
        exact h2
      have h3 : Vis (relabel scope X.env) x := h3
      have hx : x ∈ N2 := List.mem_of_getElem? h1
      have hfree : scope.names.lookup x = some .free := by
        rcases h3 with q | q | q
        · rcases lookup_relabel q with z | z
          · exact absurd z (hloc x hx)
          · exact z.1
        · rcases lookup_relabel q with z | z
          · exact absurd rfl (hcell _ (PySem.mem_of_lookup z))
          · exact z.1
        · rcases lookup_relabel q with z | z
          · exact z
          · exact z.1
      have h1 : X.N[i]? = some x := by
        rw [hNe] at hi ⊢
        have h1z : (N2.zip N)[i]? = some (x, N[i]) := by
          rw [List.getElem?_zip_eq_some]
          exact ⟨h1, List.getElem?_eq_getElem hi⟩
        rcases hsub _ (List.mem_of_getElem? h1z) with e | e
        · rw [List.getElem?_eq_getElem hi]
          exact congrArg some e.symm
        · exact absurd hfree e
      have hk : X.env.scope.names.lookup x = some .cell := by rw [hsc]; exact hfr _ (PySem.mem_of_lookup hfree) rfl
      obtain ⟨m, hn, hl⟩ := I3.loc
      obtain ⟨u, r, l⟩ := hl i x v h1 h2 (.inr (.inl hk))
      refine ⟨u, r, .inr ⟨?_, ?_⟩⟩
      · show (relabel scope X.env).names.lookup x = some .cell ∨ (relabel scope X.env).names.lookup x = some .free
        rcases h3 with q | q | q
        · rcases lookup_relabel q with z | z
          · exact absurd z (hloc x hx)
          · cases z.2
        · exact .inl q
        · exact .inr q
      · rcases l with ⟨q, _⟩ | ⟨_, c, e, z⟩
        · have q : X.env.scope.names.lookup x = some .local := q
          rw [hk] at q; cases q
        · obtain ⟨c', e'⟩ := cl2 x (PySem.mem_of_lookup hfree)
          have := cl1 x c' e'
          rw [e] at this; cases this
          obtain ⟨o, ho, hd⟩ := z
          exact ⟨c, e', o, old c o ho, hd⟩
    · intro x c e
      obtain ⟨v, o, ho, hd⟩ := I3.cell x c (cl1 x c e)
      exact ⟨v, o, old c o ho, hd⟩
    · intro x c e
      exact I3.freeC x c (cl1 x c e)
    · intro p hp
      exact absurd (show p ∈ ([] : List (Addr × Obj)) from hp) (by simp)
  have stat : ∀ {H' : Hp}, (∀ b ∈ fp, H' b = none) → ∀ b ∈ fp, FpOk (cxC X scope cl N2 ys C { s2 with heap := H3h } (upd H2 D (.lst [])) fp) [] H' b := fun hn b hb => by
    refine ⟨hn b hb, fun z => ?_, ok'.exfs b hb, .inl hb, fun x c e => (f2 b hb).2.2.2.2.1 x c (cl1 x c e), fun p hp => absurd (show p ∈ ([] : List (Addr × Obj)) from hp) (by simp)⟩
    exact hfpC b hb z
  have frD : ∀ b ∈ fp, upd H2 D (.lst []) b = none := fun b hb => by
    rw [upd_ne (hfpD b hb)]
    exact (f2 b hb).1
  have tn4 : tn 0 h₁ := T.keep _ _ _ st2 fun b _ o e => old b o (old2 b o e)
  -- behind the block
  have fin : ∀ {σ' : St} {H' : Hp} {s' : Shared}, Inv (cxC X scope cl N2 ys C { s2 with heap := H3h } (upd H2 D (.lst [])) fp) [] σ' H' s' → Q (.ref D) H' →
      compPost (model X.prog X.w) X.A X.xe use QQ (.ref D) C (.ok .next) s' := fun {σ' H' s'} I' q => by
    obtain ⟨m, hn, _⟩ := I'.loc
    have uab : Un (frs X.stack) fp H2 H' s2.heap s'.heap := (Un.laid (fs := frs X.stack) (ex := fp) (h := s2.heap) (h' := H3h) (a := D) (o := .lst []) old2 (Nat.le_of_eq hDd) fD).trans I'.base
    have I'' : Inv X pins σ H' s' := I2.call' (ch := fp) I'.os uab I'.hok I'.bare (fun b hb => by
      obtain ⟨f0, f1, _, f3, f4, f5⟩ := f2 b hb
      exact ⟨f3, f1, f4, f5⟩)
    exact fin0 D C H' s' I'' (I2.fpOk (by rw [hDd]; exact Nat.le_of_lt hDC) I'.free) ⟨m, hn⟩ q
  have loop : codeAny (model X.prog X.w) X.A (.compLoop (.ListComp elt [⟨tg, iter, ifs, 0⟩] scope pos) 0 (.ref it) (.ref D) (compEnvC scope cl C X.env)) (compPost (model X.prog X.w) X.A X.xe use QQ (.ref D) C) { s2 with heap := h₁, toks := s2.toks + ([] : List (Str × Value)).length } := by
    refine compLoop_go (fun n s' => ∃ i zs H', Inv (cxC X scope cl N2 ys C { s2 with heap := H3h } (upd H2 D (.lst [])) fp) [] (σ ++ List.replicate ys.length none) H' s' ∧ tn i s'.heap ∧ (∀ b ∈ fp, H' b = none) ∧ W i n zs H') ?_ m0
      ⟨0, [], _, I4, tn4, frD, w0⟩
    rintro n s3 ⟨i, zs, H3, J3, st3, fr3, w3⟩
    rcases turn i n zs H3 w3 with ⟨stop, qn⟩ | ⟨go, step⟩
    · refine thn (T.done (cxC X scope cl N2 ys C { s2 with heap := H3h } (upd H2 D (.lst [])) fp) rfl rfl rfl hc i [] s3 _ H3 _ J3 (stat fr3) st3 stop) fun r s4 ⟨hr, J4⟩ => ?_
      subst hr
      exact fin J4 qn
    · refine thn (T.item (cxC X scope cl N2 ys C { s2 with heap := H3h } (upd H2 D (.lst [])) fp) rfl rfl rfl hc i [] s3 _ H3 _ J3 (stat fr3) st3 go) fun r s4 ⟨u, hr, h4⟩ => ?_
      subst hr
      refine thn h4 fun _ s5 ⟨x, H5, J5, r5, y5, st5, fr5⟩ => ?_
      have J5' := J5.pinned (stat fr5) (T.obj _ _ st5)
      refine wpAny_mono (hg cl C _ _ fp _ s5 _ H5 x u _ J5' r5 (step x H5 y5)) (fun _ s6 ⟨σ6, H6, J6, ⟨τ, eτ, lτ⟩, q6⟩ => ?_) fun _ _ z => False.elim z
      refine wpAny_mono (ht cl C _ _ fp _ s6 σ6 H6 _ J6 q6) (fun b s7 ⟨H7, J7, q7⟩ => ?_) fun _ _ z => False.elim z
      have again : ∀ {H8 : Hp} {s8 : Shared} {zs' : List V}, Inv (cxC X scope cl N2 ys C { s2 with heap := H3h } (upd H2 D (.lst [])) fp) ([] ++ pinsAt fp s5.heap) σ6 H8 s8 → (∃ m', m' < n ∧ W (i + 1) m' zs' H8) →
          ∃ m, m < n ∧ ∃ i zs H', Inv (cxC X scope cl N2 ys C { s2 with heap := H3h } (upd H2 D (.lst [])) fp) [] (σ ++ List.replicate ys.length none) H' s8 ∧ tn i s8.heap ∧ (∀ b ∈ fp, H' b = none) ∧ W i m zs H' := fun {H8 s8 zs'} J8 ⟨m', hm, w8⟩ => by
        refine ⟨m', hm, i + 1, zs', H8, J8.unpinned.weak (by rw [eτ, List.length_append, List.length_append, List.length_replicate, lτ]) (fun j v e => ?_), T.keep _ _ _ st5 fun b hb o e => (J8.pin (b, o) (List.mem_append_right _ (List.mem_append_right _ (mem_pinsAt hb e)))).1, fun b hb => ?_, w8⟩
        · rw [eτ]
          by_cases hj : j < σ.length
          · rw [List.getElem?_append_left hj] at e ⊢
            exact e
          · exfalso
            rw [List.getElem?_append_right (by lia), List.getElem?_replicate] at e
            split at e <;> cases e
        · obtain ⟨o, e, d⟩ := T.obj _ _ st5 b hb
          exact (J8.pin (b, o) (List.mem_append_right _ (List.mem_append_right _ (mem_pinsAt hb e)))).2.1
      cases b with
      | false =>
        rw [if_neg (by decide)] at q7 ⊢
        exact again J7 q7
      | true =>
        rw [if_pos rfl] at q7 ⊢
        refine wpAny_mono (he cl C _ _ fp _ s7 σ6 H7 _ J7 q7) (fun y s8 ⟨yv, H8, J8, r8, hD8, hz8, w8⟩ => ?_) fun _ _ z => False.elim z
        refine wpAny_mono (mt_append (X := (cxC X scope cl N2 ys C { s2 with heap := H3h } (upd H2 D (.lst [])) fp)) _ s8 σ6 H8 (.ref D) [yv] (.ref D) [y] (fun _ H9 => ∃ m', m' < n ∧ W (i + 1) m' (zs ++ [yv]) H9) J8 rfl (.cons r8 .nil) ⟨D, zs, yv, rfl, rfl, hD8, hz8, w8⟩) (fun _ s9 ⟨_, H9, J9, _, w9⟩ => ?_) fun _ _ z => False.elim z
        exact again J9 w9
  exact codeAny_compStart_list loop (T.self _ 0 _ _ _ tn4 loop)


theorem pe_lc {X : Cx} {elt tg iter : Expr} {ifs : List Expr} {scope : Scope} {pos : Pos} {wi : TI} {g : TG} {tt : TT} {te : TE}
    (N N2 ys : List Str) (sc : Scope) (hc : X.calm = true) (hNe : X.N = N) (hNl : N2.length = N.length) (hsub : ∀ p ∈ N2.zip N, p.1 = p.2 ∨ ¬ scope.names.lookup p.1 = some .free) (hsc : X.env.scope = sc) (hkind : scope.kind = .function) (hcell : ∀ y ∈ scope.names, y.2 ≠ .cell) (hnames : ∀ y ∈ scope.names, y.2 = .local → scope.names.lookup y.1 = some .local)
    (hfr : ∀ y ∈ scope.names, y.2 = .free → sc.names.lookup y.1 = some .cell) (hloc : ∀ y ∈ N2, scope.names.lookup y ≠ some .local)
    (hi : PI X tg iter wi) (hg : ∀ cl C s H fp, PG (cxC X scope cl N2 ys C s H fp) tg g) (ht : ∀ cl C s H fp, PTs (cxC X scope cl N2 ys C s H fp) ifs tt) (he : ∀ cl C s H fp, PE (cxC X scope cl N2 ys C s H fp) elt te)
    (hs : ∀ x, foldedSetIterable iter X.env x = pure x := by intro _; rfl) :
    PE X (.ListComp elt [⟨tg, iter, ifs, 0⟩] scope pos) (tLC ys.length wi g tt te) := by
  intro pins s σ H Q I h
  rw [eval_ListComp]
  refine lc_core (use := none) N N2 ys sc hc hNe hNl hsub hsc hkind hcell hnames hfr hloc hi hg ht he I h (fun D C H' s' I' cf hns q => ?_) hs
  obtain ⟨m, hn⟩ := hns
  obtain ⟨f0, f1, f2, f3, f4, f5⟩ := cf
  exact ⟨m, hn, fun h' hs' => ⟨.ref D, H', I'.turned (t' := s'.toks) (it := C) (fun b o hb e => (hs'.2 b hb).trans e) f0 f1 f3 f4 f5, rfl, q⟩⟩
/-- x = [..], x stored within the comprehension's own steps -/
theorem ps_setC {X : Cx} {elt tg iter : Expr} {ifs : List Expr} {scope : Scope} {pos spos py : Pos} {wi : TI} {g : TG} {tt : TT} {te : TE} {i : Nat} {y : Str} (hN : X.N.Nodup) (hiy : X.N[i]? = some y) (hy : Loc X.env.scope y)
    (N N2 ys : List Str) (sc : Scope) (hc : X.calm = true) (hNe : X.N = N) (hNl : N2.length = N.length) (hsub : ∀ p ∈ N2.zip N, p.1 = p.2 ∨ ¬ scope.names.lookup p.1 = some .free) (hsc : X.env.scope = sc) (hkind : scope.kind = .function) (hcell : ∀ y ∈ scope.names, y.2 ≠ .cell) (hnames : ∀ y ∈ scope.names, y.2 = .local → scope.names.lookup y.1 = some .local)
    (hfr : ∀ y ∈ scope.names, y.2 = .free → sc.names.lookup y.1 = some .cell) (hloc : ∀ y ∈ N2, scope.names.lookup y ≠ some .local)
    (hi : PI X tg iter wi) (hg : ∀ cl C s H fp, PG (cxC X scope cl N2 ys C s H fp) tg g) (ht : ∀ cl C s H fp, PTs (cxC X scope cl N2 ys C s H fp) ifs tt) (he : ∀ cl C s H fp, PE (cxC X scope cl N2 ys C s H fp) elt te)
    (hsw : swapsWith (.ListComp elt [⟨tg, iter, ifs, 0⟩] scope pos) (some (.Name y py)) spos.line X.env = pure true)
    (hs : ∀ x, foldedSetIterable iter X.env x = pure x := by intro _; rfl) (hf : X.fn y = true ∨ X.env.scope.names.lookup y = some .local := by first | exact .inl rfl | exact .inr rfl | assumption) :
    PS X (.Assign [.Name y py] (.ListComp elt [⟨tg, iter, ifs, 0⟩] scope pos) spos) (tAsg (tLC ys.length wi g tt te) (gName i)) := by
  intro pins s σ H D I h
  rw [exec_Assign_Name_used _ _ _ _ hsw]
  refine wpAny_bind (wpAny_standAt (wpAny_bind ?_))
  show wpAny _ X.A (do let _ ← comprehension (.ListComp elt [⟨tg, iter, ifs, 0⟩] scope pos) scope X.env _ (newList []) false (eval iter X.env) (some (assign (.Name y py) X.env))) _ _ s
  refine wpAny_bind (wpAny_mono (lc_core (use := some (assign (.Name y py) X.env)) (QQ := fun _ s' => SP X pins D .next s') N N2 ys sc hc hNe hNl hsub hsc hkind hcell hnames hfr hloc hi hg ht he I h (fun D' C H' s' I' cf hns q => ?_) hs) (fun _ s' hq => wpAny_pure (wpAny_pure hq)) fun _ _ e => e)
  obtain ⟨m, hn⟩ := hns
  obtain ⟨f0, f1, f2, f3, f4, f5⟩ := cf
  show wpAny _ X.A (assign (.Name y py) X.env (.ref D')) _ _ s'
  refine wpAny_assign_Name (store_ok2 I' hN hiy hy (show RelV (V.ref D') (Value.ref D') from rfl) (fun s'' I'' hsb => ?_) hf)
  obtain ⟨a, sb, ha⟩ := hsb
  have hCa : C ≠ a := by
    rcases ha with e | e
    · rw [e]; exact f1
    · exact (f4 y a e).symm
  refine ⟨m, hn.sameBut sb hCa, fun h' hs' => ⟨_, H', ?_, q⟩⟩
  exact I''.turned (t' := s''.toks) (it := C) (fun b o hb e => (hs'.2 b hb).trans e) f0 f1 f3 f4 f5

/-! ### sorted(d), d a dict of texts -/
theorem strs_vals {us : List Value} {ss : List Str} (h : StrsAre us ss) : Vals (ss.map V.str) us := by
  induction h with
  | nil => exact .nil
  | cons y t r ih => exact .cons ⟨t, rfl⟩ ih
def leS (a b : Str) : Prop := ltCps b.cps.toList a.cps.toList = false
theorem sorted_out_pw {vs : List Value} {ss : List Str} (hS : StrsAre vs ss) {xs : Array Keyed} (hp : xs.Perm (pairsOf vs)) (hs : SortedToK strKind xs (pairsOf vs).size) :
    ∃ ss', StrsAre (xs.map (·.2)).toList ss' ∧ ss'.Perm ss ∧ ss'.Pairwise leS := by
  have hl : xs.toList.Perm (vs.zip vs) := by rw [← pairsOf_toList]; exact Array.perm_iff_toList_perm.mp hp
  have hmem : ∀ p, p ∈ xs.toList → p.1 = p.2 ∧ p.1 ∈ vs := fun p hp' => mem_zip_self (hl.mem_iff.mp hp')
  refine ⟨xs.toList.map (fun p => strOf p.1), ?_, ?_, ?_⟩
  · have e : (xs.map (·.2)).toList = xs.toList.map (·.1) := by
      rw [Array.toList_map]; exact List.map_congr_left fun p hp' => (hmem p hp').1.symm
    rw [e]
    have h1 := strsAre_map (xs.toList.map (·.1)) (by
      intro v hv
      obtain ⟨p, hp', rfl⟩ := List.mem_map.mp hv
      exact hS.all _ (hmem p hp').2)
    rwa [List.map_map] at h1
  · have h1 := hl.map (fun p => strOf p.1)
    have e2 : (vs.zip vs).map (fun p => strOf p.1) = ss := by
      have : (vs.zip vs).map (fun p => strOf p.1) = ((vs.zip vs).map Prod.fst).map strOf := by rw [List.map_map]; rfl
      rw [this, List.map_fst_zip (Nat.le_refl _), hS.strs]
    rwa [e2] at h1
  · rw [List.pairwise_iff_getElem]
    intro i j hi hj hij
    have hi' : i < xs.size := by simpa using hi
    have hj' : j < xs.size := by simpa using hj
    have h1 := hs i j (Nat.le_of_lt hij) (by rw [← hp.size_eq]; exact hj')
    obtain ⟨x, t, ex⟩ := hS.all _ (hmem xs[i] (by simp)).2
    obtain ⟨y, u, ey⟩ := hS.all _ (hmem xs[j] (by simp)).2
    rw [KK_str hi' (x := x) (t := t) (q := xs[i].2) (Prod.ext ex rfl), KK_str hj' (x := y) (t := u) (q := xs[j].2) (Prod.ext ey rfl)] at h1
    change decide (y.cps.toList < x.cps.toList) = false at h1
    unfold leS
    simp only [List.getElem_map, Array.getElem_toList]
    rw [show strOf xs[i].1 = x by rw [ex]; rfl, show strOf xs[j].1 = y by rw [ey]; rfl, ltCps_eq]
    exact h1
end L2

namespace L2
open PySem PySem.Spec PyProof.Rows
section
variable {X : Cx}
/-- records of ours have turned, and a tuple has come -/
theorem Inv.turnedT {pins : List (Addr × Obj)} {σ : St} {H : Hp} {s : Shared} {h' : Heap} {t' : Nat} {ch : List Addr} {T : Addr} {xs : List V} {us : List Value} (I : Inv X pins σ H s) (k : ∀ b o, b ∉ ch → s.heap.get? b = some o → h'.get? b = some o)
    (hf : ∀ b ∈ ch, FpOk X pins H b) (hT : s.heap.objs.size ≤ T) (hz : xs.length ≤ sizeLine) (hv : Vals xs us) (ht : IsTup h' T us.toArray) : Inv X pins σ (upd H T (.tup xs)) { s with heap := h', toks := t' } := by
  have hn : H T = none := I.hok.fresh hT
  have nch : ∀ b u, H b = some u → b ∉ ch := fun b u e z => by rw [(hf b z).1] at e; cases e
  refine I.step (g' := s.gens) (d' := s.drawn) (ch := ch) (fun b hb => ?_) (fun b o _ _ hc e _ => k b o hc e) (fun b o _ _ hc e _ => ⟨o.slots, k b o hc e⟩) (fun b o _ e n => ?_)
    (fun b o hc e => ⟨o, k b o hc e⟩) (fun b ys e => ?_) (fun b o u e => ?_) (fun b ps e => ⟨#[], ?_⟩) (fun m hm => ?_) (fun b u e => ?_) I.bare
  · obtain ⟨_, h1, _, h3, h4, h5⟩ := hf b hb
    exact ⟨h3, h1, h4, h5⟩
  · rw [upd_ne (Nat.ne_of_lt (Nat.lt_of_lt_of_le (Heap.lt_size e) hT))]
    exact n
  · rw [upd_ne (ne_of_none e hn)]; exact e
  · rw [upd_ne (ne_of_none e hn)]; exact e
  · rw [upd_ne (ne_of_none e hn), e]; simp
  · obtain ⟨o, es, ep, ho, r⟩ := hm
    exact ⟨o, es, ep, k _ o (fun z => (hf _ z).2.1 rfl) ho, r⟩
  · by_cases hb : b = T
    · subst hb
      rw [upd_same] at e
      cases e
      exact ⟨hz, us, hv, ht⟩
    · rw [upd_ne hb] at e
      refine (I.hok b u e).stay (fun c v hc q => k c v ?_ q) (fun c q => by rw [upd_ne (ne_of_none q hn)]; exact q) fun c ys q => by rw [upd_ne (ne_of_none q hn)]; exact q
      rcases hc with z | z
      · rw [z]; exact nch b u e
      · exact nch c _ z
theorem Inv.turnedL {pins : List (Addr × Obj)} {σ : St} {H : Hp} {s : Shared} {h' : Heap} {t' : Nat} {ch : List Addr} (I : Inv X pins σ H s) (k : ∀ b o, b ∉ ch → s.heap.get? b = some o → h'.get? b = some o)
    (hf : ∀ b ∈ ch, FpOk X pins H b) : Inv X pins σ H { s with heap := h', toks := t' } := by
  have nch : ∀ b u, H b = some u → b ∉ ch := fun b u e z => by rw [(hf b z).1] at e; cases e
  refine I.step (g' := s.gens) (d' := s.drawn) (ch := ch) (fun b hb => ?_) (fun b o _ _ hc e _ => k b o hc e) (fun b o _ _ hc e _ => ⟨o.slots, k b o hc e⟩) (fun b o _ e n => n)
    (fun b o hc e => ⟨o, k b o hc e⟩) (fun b ys e => e) (fun b o u e => e) (fun b ps e => ⟨#[], by rw [e]; simp⟩) (fun m hm => ?_) (fun b u e => ?_) I.bare
  · obtain ⟨_, h1, _, h3, h4, h5⟩ := hf b hb
    exact ⟨h3, h1, h4, h5⟩
  · obtain ⟨o, es, ep, ho, r⟩ := hm
    exact ⟨o, es, ep, k _ o (fun z => (hf _ z).2.1 rfl) ho, r⟩
  · refine (I.hok b u e).stay (fun c v hc q => k c v ?_ q) (fun c q => q) fun c ys q => q
    rcases hc with z | z
    · rw [z]; exact nch b u e
    · exact nch c _ z
/-! ### list(range(n)) -/
/-! ### lists of tuples, compared -/
end
end L2

/-! lists walked backwards -/
namespace KR
open PySem
section
variable {prog : Program} {w : World} {A : Around} {E : Value → Shared → Prop} {s : Shared}
end
end KR
namespace L2
open PySem PySem.Spec PyProof.Rows
section
variable {X : Cx}
theorem one_raw {e : Expr} {pos : Pos} {s : Shared} {R : List Value → Shared → Prop} (hs : starEach [e] X.env = [(false, eval e X.env)]) (h : wpAny (model X.prog X.w) X.A (eval e X.env) (fun u s1 => R [u] s1) X.xe s) : wpAny (model X.prog X.w) X.A (spliced (backTo pos (starEach [e] X.env))) R X.xe s := by
  rw [hs]
  show wpAny _ _ (spliced ((false, eval e X.env) :: backTo pos [])) _ _ s
  exact Calls.spliced_cons (thn h fun u s1 q => Calls.spliced_nil q)
/-! sum of ints -/
/-! a list against the empty one; truths by `is`; great factors -/
theorem op_eqE (hu : X.A.units + 1 < cLine) : OpR X (compareOp .Eq) (fun x y H Q => ∃ a b xs, x = .ref a ∧ y = .ref b ∧ SqL X.K H a xs ∧ SqL X.K H b [] ∧ Q (.bl xs.isEmpty) H) := by
  intro pins s σ H x y v u Q I rx ry h
  obtain ⟨a, b, xs, rfl, rfl, ha, hb, q⟩ := h
  cases rx
  cases ry
  obtain ⟨its, rv, p, _⟩ := I.list ha
  obtain ⟨its2, rv2, p2, _⟩ := I.list hb
  cases rv2
  have hl := rv.length
  cases xs with
  | nil =>
    cases rv
    exact SeqAt.RcAt.lists (e := fun _ => true) p.isList p2.isList rfl (Nat.lt_of_succ_lt hu) (fun j h1 _ => absurd h1 (by simp)) _ _ _ _ (fin_bl I q (by rfl))
  | cons z r =>
    exact SeqAt.RcAt.lists_lengths p.isList p2.isList (by simp only [List.size_toArray, ← hl, List.length_cons, List.length_nil]; simp) (Nat.lt_of_succ_lt hu) _ _ _ _ (fin_bl I q (by rfl))
/-! the signs of a text -/
def Itx (x : Str) : It := ⟨fun i _ => i < x.cps.size, fun i H v H' => H' = H ∧ ∃ c, x.cps[i]? = some c ∧ v = .str ⟨#[c]⟩, fun i _ => i = x.cps.size⟩
theorem turn_str {P : Program} {w : World} {K : PySem.W.Frag} {tg : Expr} (it : Addr) (x : Str) (t : Tok) {ty : String} (hty : ty = "str_ascii_iterator" ∨ ty = "str_iterator") : Turn P w K tg (Itx x) [it] it (fun i h => h.IsStrIter it ty x t i) where
  mem := by simp
  obj := fun i h st b hb => by
    have e : b = it := by simpa using hb
    subst e
    obtain ⟨o, e, c, d⟩ := st
    exact ⟨o, e, fun v z => by rw [d] at z; cases z⟩
  keep := fun i h h' st k => by
    obtain ⟨o, e, c⟩ := st
    exact ⟨o, k it (by simp) o e, c⟩
  item := by
    intro X hP hw hK hc i pins s σ H E I hf st hg
    subst hP hw hK
    have W : Walks X.prog X.w X.A it [it] [it] x.cps.size (SignAt x) (fun i h => h.IsStrIter it ty x t i) := by
      rcases hty with rfl | rfl
      · exact Walks.strAscii (I.ok.hd hc) it x t
      · exact Walks.strWide (I.ok.hd hc) it x t
    refine W.item i s _ _ hg st fun v h' tk hv st' kk => ?_
    obtain ⟨c, u, e1, rfl⟩ := hv
    have I1 : Inv X pins σ H { s with heap := h', toks := tk } := I.turnedL (ch := [it]) kk (fun b hb => hf b hb)
    obtain ⟨o, eo, co, d⟩ := id st'
    refine ⟨_, rfl, go_of (s := { s with heap := h', toks := tk }) (n := ty) eo co d (by rcases hty with rfl | rfl <;> decide) ⟨.str ⟨#[c]⟩, H, I1, ⟨u, rfl⟩, ⟨rfl, c, e1, rfl⟩, st', fun b hb => (hf b hb).1⟩⟩
  done := by
    intro X hP hw hK hc i pins s σ H E I hf st hg
    subst hP hw hK
    have W : Walks X.prog X.w X.A it [it] [it] x.cps.size (SignAt x) (fun i h => h.IsStrIter it ty x t i) := by
      rcases hty with rfl | rfl
      · exact Walks.strAscii (I.ok.hd hc) it x t
      · exact Walks.strWide (I.ok.hd hc) it x t
    have hg : i = x.cps.size := hg
    subst hg
    exact W.done s _ _ st fun h' tk kk => ⟨rfl, I.turnedL (ch := [it]) kk (fun b hb => hf b hb)⟩
  self := fun _ _ _ _ _ st h => by
    rcases hty with rfl | rfl
    · exact wpAny_pyIter_striter_ascii st h
    · exact wpAny_pyIter_striter_wide st h
def iStr (te : TE) : TI := fun σ H R => te σ H fun x H1 => ∃ z : Str, x = .str z ∧ R (Itx z) H1
theorem pi_str {tg e : Expr} {te : TE} (he : PE X e te) : PI X tg e (iStr te) := by
  intro pins s σ H R I h
  refine thn (he pins s σ H _ I h) fun v s1 ⟨x, H1, I1, r1, q1⟩ => ?_
  obtain ⟨z, e, q⟩ := q1
  subst e
  obtain ⟨t, rfl⟩ := r1
  refine wpAny_pyIter_strU ?_
  have hty : strIterType z = "str_ascii_iterator" ∨ strIterType z = "str_iterator" := by
    unfold strIterType
    split
    · exact .inl rfl
    · exact .inr rfl
  refine ⟨s1.heap.objs.size, [s1.heap.objs.size], _, _, H1, rfl, I1.kept (t' := s1.toks) fun b o e => Heap.get?_push_of_some _ e, turn_str s1.heap.objs.size z t hty, ⟨_, Heap.get?_push_size _ rfl, rfl, rfl⟩, fun b hb => ?_, q⟩
  have e : b = s1.heap.objs.size := by simpa using hb
  subst e
  exact I1.fpOk (Nat.le_refl _) (I1.hok.fresh (Nat.le_refl _))
/-! things: a scalar, or a tuple, or a list -/
def Th1 (H : Hp) (x : V) : Prop := flatV x = true ∨ ∃ (a : Addr) (xs : List V), x = .ref a ∧ (Rd H a (.tup xs) ∨ Rd H a (.lst xs))
theorem Th1.same {H H' : Hp} {x : V} (e : Same H H') (h : Th1 H x) : Th1 H' x := by
  rcases h with h | ⟨a, xs, rfl, h⟩
  · exact .inl h
  · refine .inr ⟨a, xs, rfl, ?_⟩
    rcases h with (h | ⟨o, h⟩) | (h | ⟨o, h⟩)
    · exact .inl (.inl (e _ _ h))
    · exact .inl (.inr ⟨o, e _ _ h⟩)
    · exact .inr (.inl (e _ _ h))
    · exact .inr (.inr ⟨o, e _ _ h⟩)
theorem rc_th {A : Around} {pins : List (Addr × Obj)} {σ : St} {H : Hp} {s : Shared} {x : V} {u : Value} {z : Str} {t : Tok} (hu : A.units < cLine) (I : Inv X pins σ H s) (hx : Th1 H x) (r : RelV x u) : SeqAt.RcAt A s u (.str z t) (decide (x = .str z)) := by
  rcases hx with hx | ⟨a, xs, rfl, hx⟩
  · cases x with
    | non => cases r; rw [decide_eq_false (by intro h; cases h)]; exact SeqAt.RcAt.none_str _ _
    | bl b => cases r; rw [decide_eq_false (by intro h; cases h)]; exact SeqAt.RcAt.bool_str _ _ _
    | int i => obtain ⟨t', rfl⟩ := r; rw [decide_eq_false (by intro h; cases h)]; exact SeqAt.RcAt.int_str _ _ _ _
    | str y => obtain ⟨t', rfl⟩ := r; rw [dec_str]; exact SeqAt.RcAt.str_str _ _ _ _
    | _ => exact absurd hx (by simp [flatV])
  · cases r
    rw [decide_eq_false (by intro h; cases h)]
    rcases hx with hx | hx
    · obtain ⟨_, its, rv, p⟩ := hx.ok I.hok
      exact SeqAt.RcAt.tuple_str _ _ (show s.heap.IsTuple a its.toArray from p) hu
    · obtain ⟨_, its, n, rv, p⟩ := hx.ok I.hok
      exact SeqAt.RcAt.list_str (l := a) (items := its.toArray) _ _ ⟨_, p, rfl, _, rfl⟩ hu
/-- a thing == a text -/
theorem op_eqTS (hu : X.A.units + 1 < cLine) : OpR X (compareOp .Eq) (fun x y H Q => ∃ z : Str, y = .str z ∧ Th1 H x ∧ Q (.bl (decide (x = .str z))) H) := by
  intro pins s σ H x y v u Q I rx ry h
  obtain ⟨z, rfl, hx, q⟩ := h
  obtain ⟨t, rfl⟩ := ry
  exact rc_th (Nat.lt_of_succ_lt hu) I hx rx _ _ _ _ (fin_bl I q rfl)
theorem beq_swap (y z : Str) : (y == z) = (z == y) := by
  by_cases h : y = z
  · rw [h]
  · rw [beq_eq_false_iff_ne.mpr h, beq_eq_false_iff_ne.mpr (Ne.symm h)]
theorem eq_ht {A : Around} {pins : List (Addr × Obj)} {σ : St} {H : Hp} {s : Shared} {x : V} {u : Value} {z : Str} {t : Tok} (hu : A.units < cLine) (I : Inv X pins σ H s) (hx : Th1 H x) (r : RelV x u) : SeqAt.EqAt A s (.str z t) u (decide (x = .str z)) := by
  rcases hx with hx | ⟨a, xs, rfl, hx⟩
  · cases x with
    | non => cases r; rw [decide_eq_false (by intro h; cases h)]; exact SeqAt.EqAt.str_none _ _
    | bl b => cases r; rw [decide_eq_false (by intro h; cases h)]; exact SeqAt.EqAt.str_bool _ _ _
    | int i => obtain ⟨t', rfl⟩ := r; rw [decide_eq_false (by intro h; cases h)]; exact SeqAt.EqAt.str_int _ _ _ _
    | str y =>
      obtain ⟨t', rfl⟩ := r
      rw [dec_str, beq_swap y z]
      exact SeqAt.EqAt.str_str _ _ _ _
    | _ => exact absurd hx (by simp [flatV])
  · cases r
    rw [decide_eq_false (by intro h; cases h)]
    rcases hx with hx | hx
    · obtain ⟨_, its, rv, p⟩ := hx.ok I.hok
      exact SeqAt.EqAt.str_tuple _ _ (show s.heap.IsTuple a its.toArray from p) hu
    · obtain ⟨_, its, n, rv, p⟩ := hx.ok I.hok
      exact SeqAt.EqAt.str_list (l := a) (items := its.toArray) _ _ ⟨_, p, rfl, _, rfl⟩ hu
def eqT (x : V) : Value → Bool
  | .str z _ => decide (x = .str z)
  | _ => false
theorem any_eqT (x : V) : ∀ {zs : List Str} {us : List Value}, Vals (zs.map V.str) us → us.any (eqT x) = zs.any fun z => decide (x = .str z)
  | [], _, .nil => rfl
  | z :: zs, _, .cons r t => by
    obtain ⟨t', rfl⟩ := r
    rw [List.any_cons, List.any_cons, any_eqT x t]
    rfl
/-- a thing in a tuple of texts -/
theorem op_inTS (hu : X.A.units + 1 < cLine) : OpR X (compareOp .In) (fun x y H Q => ∃ (p : Addr) (zs : List Str), y = .ref p ∧ SqT X.K H p (zs.map V.str) ∧ Th1 H x ∧ Q (.bl (zs.any fun z => decide (x = .str z))) H) := by
  intro pins s σ H x y v u Q I rx ry h
  obtain ⟨p, zs, rfl, hp, hx, q⟩ := h
  cases ry
  obtain ⟨its, r, pl, hz⟩ := I.tuple hp
  refine SeqAt.in_tupleAt (eqT x) pl (fun w hw => ?_) ⟨.bl _, H, I, rfl, ?_⟩
  · have hw : w ∈ its := by simpa using hw
    obtain ⟨i, hi, e⟩ := List.mem_iff_getElem.mp hw
    have hl := r.length
    rw [List.length_map] at hl
    obtain ⟨u', e1, e2⟩ := r.get (i := i) (x := .str (zs[i]'(by lia))) (by rw [List.getElem?_map, List.getElem?_eq_getElem (by lia)]; rfl)
    rw [List.getElem?_eq_getElem hi, e] at e1
    cases e1
    obtain ⟨t', rfl⟩ := e2
    exact eq_ht (A := X.A.in1) hu I hx rx
  · rw [show its.toArray.any (eqT x) = its.any (eqT x) by simp, any_eqT x r]
    exact q
/-! the kinds of things -/
inductive Kd : Hp → V → String → Prop
  | non {H : Hp} : Kd H .non "NoneType"
  | bl {H : Hp} (b : Bool) : Kd H (.bl b) "bool"
  | int {H : Hp} (i : Int) : Kd H (.int i) "int"
  | str {H : Hp} (x : Str) : Kd H (.str x) "str"
  | lst {H : Hp} {a : Addr} {xs : List V} : Rd H a (.lst xs) → Kd H (.ref a) "list"
  | tup {H : Hp} {a : Addr} {xs : List V} : Rd H a (.tup xs) → Kd H (.ref a) "tuple"
theorem Th1.kd {H : Hp} {x : V} (h : Th1 H x) : ∃ k, Kd H x k := by
  rcases h with h | ⟨a, xs, rfl, h⟩
  · cases x with
    | non => exact ⟨_, .non⟩
    | bl b => exact ⟨_, .bl b⟩
    | int i => exact ⟨_, .int i⟩
    | str y => exact ⟨_, .str y⟩
    | _ => exact absurd h (by simp [flatV])
  · rcases h with h | h
    · exact ⟨_, .tup h⟩
    · exact ⟨_, .lst h⟩
theorem Kd.kit {pins : List (Addr × Obj)} {σ : St} {H : Hp} {s : Shared} {x : V} {u : Value} {k : String} (I : Inv X pins σ H s) (h : Kd H x k) (r : RelV x u) : ∃ Y : Heap → Prop, PySem.W.KitX X.K u (.type k) Y ∧ Y s.heap ∧ u ≠ Value.builtin "__main__.__loader__#opaque" := by
  cases h with
  | non => cases r; exact ⟨_, PySem.W.kitx_none, trivial, fun z => nomatch z⟩
  | bl b => cases r; exact ⟨_, PySem.W.kitx_bool, trivial, fun z => nomatch z⟩
  | int i => obtain ⟨t, rfl⟩ := r; exact ⟨_, PySem.W.kitx_int, trivial, fun z => nomatch z⟩
  | str y => obtain ⟨t, rfl⟩ := r; exact ⟨_, PySem.W.kitx_str, trivial, fun z => nomatch z⟩
  | lst h =>
    cases r
    obtain ⟨_, its, n, rv, p⟩ := h.ok I.hok
    exact ⟨_, PySem.W.kitx_list, ⟨_, p, rfl⟩, fun z => nomatch z⟩
  | tup h =>
    cases r
    obtain ⟨_, its, rv, o, e1, e2, _⟩ := h.ok I.hok
    exact ⟨_, PySem.W.kitx_tuple, ⟨o, e1, e2⟩, fun z => nomatch z⟩
/-- isinstance(thing, class) -/
theorem call_isT : CallR X (.builtin "isinstance") (fun xs H Q => ∃ x c k b, xs = [x, .ty c] ∧ Kd H x k ∧ PySem.W.kitOne X.K (.type k) (.type c) = some b ∧ Q (.bl b) H) := by
  intro pins s σ H xs us Q I rv h
  obtain ⟨x, c, k, b, rfl, hk, e, q⟩ := h
  obtain ⟨u, u2, rfl, r1, r2⟩ := vals2 rv
  cases r2
  obtain ⟨Y, kx, hy, ne⟩ := hk.kit I r1
  exact PySem.W.kia_one kx I.kIn hy e ne fun tk => ⟨.bl b, H, I.tok tk, rfl, q⟩
end
end L2

/-! the whole of a tuple by a slice; a tuple turned about; sums of tuples -/
namespace HT
open PySem PySem.Spec PyProof.Rows
section
variable {prog : Program} {w : World} {A : Around} {E : Value → Shared → Prop} {s : Shared}
theorem whole_tup {t sl : Addr} {items : Array Value} {vl vu : Value} {lo hi : Option Int} {Q : Value → Shared → Prop} (ht : IsTup s.heap t items) (hs : s.heap.IsSliceOf sl vl vu .none) (pl : IsPart vl lo) (pu : IsPart vu hi)
    (h1 : sIx items.size 0 lo = 0) (h2 : sIx items.size items.size hi = items.size) (h : Q (.ref t) s) : wpAny (model prog w) A (getItem (.ref t) (.ref sl)) Q E s := by
  obtain ⟨os, hos, hcs, hds⟩ := id hs
  have hTs : s.TypeIs (.ref sl) "slice" := ⟨os, hos, hcs⟩
  unfold getItem
  try with_reducible refine wpAny_holding ?_
  first | refine wpAny_bind (wpAny_pure ?_) | skip
  refine wpAny_bind (wpAny_sequenceKey ht.typeIs (by decide) ?_)
  refine wpAny_bind (wpAny_callSpecial?_slot (name := Str.ofString "__getitem__") ht.typeIs PyProof.Rows.slot_tuple_getitem
    (wpAny_call_entry PyProof.Rows.slot_tuple_getitem ht.typeIs entry_tuple_getitem ?_ (args_tuple_getitem _ _)))
  show wpAny _ _ (Builtin.Tuple.tupleItemsOf (.ref t) >>= _) _ _ s
  refine wpAny_bind (tupleItemsOf_ ht ?_)
  refine wpAny_bind (wpAny_typeOf hTs ?_)
  rw [if_pos (by decide)]
  refine wpAny_bind (sliceApplied_gen hs pl pu ?_)
  rw [h1, h2]
  show wpAny _ _ (if (((0 : Nat) : Int) == 0 && (1 : Int) == 1 && (items.size - 0) == items.size) = true then _ else _) _ _ s
  rw [if_pos (by simp)]
  unfold Builtin.Tuple.tupleIsExact
  refine wpAny_bind (wpAny_bind (wpAny_typeOf ht.typeIs (wpAny_pure ?_)))
  rw [if_pos (by decide)]
  exact wpAny_bind (wpAny_rule (wpAny_pure ⟨_, rfl, wpAny_pure h⟩))
/-- t + u, t empty -/
theorem cat_tup0 {t b : Addr} {vs ws : List Value} {Q : Value → Shared → Prop} (ht : IsTup s.heap t vs.toArray) (hb : IsTup s.heap b ws.toArray) (hv : vs = []) (h1 : Q (.ref b) s) : wpAny (model prog w) A (binaryOp .Add (.ref t) (.ref b)) Q E s := by
  obtain ⟨⟨cls, dd, data, sl⟩, ho, hc, n, hd⟩ := id ht
  obtain ⟨⟨cls2, dd2, data2, sl2⟩, ho2, hc2, n2, hd2⟩ := id hb
  simp only at hc hd hc2 hd2
  subst hc hd hc2 hd2
  exact concat_meets ⟨_, ho, rfl⟩ ⟨_, ho2, rfl⟩ noFill_tuple_add seq_tuple_add PySem.F.slot_tuple_add PySem.F.entry_tuple_add (PySem.F.args_tuple_add_2 _ _)
    (tuple_addW0 t b vs.toArray ws.toArray n n2 dd dd2 sl sl2 (by simp [hv])) ⟨ho, ho2, h1⟩
end
end HT
namespace L2
open PySem PySem.Spec PyProof.Rows
theorem same_new {H : Hp} {a : Addr} {o : HO} (h : H a = none) : Same H (upd H a o) := fun b u e => by rw [upd_ne (ne_of_none e h)]; exact e
theorem PI.or {X : Cx} {tg e : Expr} {wi wi' : TI} (h : PI X tg e wi) (h' : PI X tg e wi') : PI X tg e (fun σ H R => wi σ H R ∨ wi' σ H R) := by
  intro pins s σ H R I q
  rcases q with q | q
  · exact h pins s σ H R I q
  · exact h' pins s σ H R I q
section
variable {X : Cx}
/-- t[lo:hi] of a tuple of ours, the whole of it or a part -/
theorem sl_tupU : SlR X (fun x lo hi H Q => ∃ a xs, x = .ref a ∧ H a = some (.tup xs) ∧ ∀ p H', Same H H' → H' p = some (.tup (cutV xs lo hi)) → Q (.ref p) H') := by
  intro pins s σ H x v vl vu lo hi sl Q I rx hs pl pu h
  obtain ⟨a, xs, rfl, hx, q⟩ := h
  by_cases hw : HT.sIx xs.length 0 lo = 0 ∧ HT.sIx xs.length xs.length hi = xs.length
  · cases rx
    obtain ⟨its, r, ht, hz⟩ := I.tuple (SqT.of (K := X.K) hx)
    have hlen : its.toArray.size = xs.length := by rw [List.size_toArray]; exact r.length.symm
    refine ⟨"tuple", _, PyProof.Rows.slot_tuple_getitem.lookup, ht.typeIs, ?_⟩
    refine HT.whole_tup ht hs pl pu (by rw [hlen]; exact hw.1) (by rw [hlen]; exact hw.2) ⟨.ref a, H, I, rfl, q a H (Same.refl H) ?_⟩
    rw [hx]
    unfold cutV
    rw [hw.1, hw.2]
    simp
  · exact sl_tup pins s σ H (.ref a) v vl vu lo hi sl Q I rx hs pl pu ⟨a, xs, rfl, SqT.of hx, hw, fun p hp => q p _ (same_new hp) upd_same⟩
/-- t + u of tuples of ours -/
theorem op_catU : OpR X (binaryOp .Add) (fun x y H Q => ∃ a b xs ys, x = .ref a ∧ y = .ref b ∧ H a = some (.tup xs) ∧ H b = some (.tup ys) ∧ xs.length + ys.length ≤ sizeLine ∧ ∀ p H', Same H H' → H' p = some (.tup (xs ++ ys)) → Q (.ref p) H') := by
  intro pins s σ H x y v u Q I rx ry h
  obtain ⟨a, b, xs, ys, rfl, rfl, ha, hb, hz, q⟩ := h
  by_cases hx : xs = []
  · subst hx
    cases rx
    cases ry
    obtain ⟨its, r1, p1, _⟩ := I.tuple (SqT.of (K := X.K) ha)
    obtain ⟨its2, r2, p2, _⟩ := I.tuple (SqT.of (K := X.K) hb)
    exact HT.cat_tup0 p1 p2 (r1.nil_iff.mpr rfl) ⟨.ref b, H, I, rfl, q b H (Same.refl H) hb⟩
  · exact op_catT pins s σ H _ _ v u Q I rx ry ⟨a, b, xs, ys, rfl, rfl, SqT.of ha, SqT.of hb, hx, hz, fun e => q a H (Same.refl H) (by rw [ha, e, List.append_nil]), fun _ p hp => q p _ (same_new hp) upd_same⟩
/-! displays, with the heap left open -/
def tLstA (t : TA) : TE := fun σ H Q => t σ H fun xs H1 => xs.length ≤ sizeLine ∧ ∀ p H2, H1 p = none → Same H1 H2 → H2 p = some (.lst xs) → Q (.ref p) H2
def tTupA (t : TA) : TE := fun σ H Q => t σ H fun xs H1 => xs.length ≤ sizeLine ∧ ∀ p H2, H1 p = none → Same H1 H2 → H2 p = some (.tup xs) → Q (.ref p) H2
theorem pe_lstA {es : List Expr} {t : TA} {pos : Pos} (h : PA X es t) : PE X (.List es pos) (tLstA t) := by
  intro pins s σ H Q I hq
  refine wpAny_List_spliced (thn (h pos pins s σ H _ I hq) fun us s1 ⟨xs, H1, I1, r, z, q⟩ => ⟨by rw [← r.length]; exact z, ?_⟩)
  have hf : H1 s1.heap.objs.size = none := I1.hok.fresh (Nat.le_refl _)
  refine ⟨.ref s1.heap.objs.size, upd H1 s1.heap.objs.size (.lst xs), I1.laid (t' := s1.toks) (fun b u e => Heap.get?_push_of_some _ e) (Nat.le_refl _) ?_, rfl, q _ _ hf (same_new hf) upd_same⟩
  exact ⟨z, us, 0, r, Heap.get?_push_size _ rfl⟩
theorem pe_tupA {es : List Expr} {t : TA} {pos : Pos} {x1 : Nat} (h : PA X es t) : PE X (.Tuple es x1 pos) (tTupA t) := by
  intro pins s σ H Q I hq
  refine wpAny_Tuple_spliced (thn (h pos pins s σ H _ I hq) fun us s1 ⟨xs, H1, I1, r, z, q⟩ => ⟨by rw [← r.length]; exact z, ?_⟩)
  have hf : H1 s1.heap.objs.size = none := I1.hok.fresh (Nat.le_refl _)
  refine ⟨.ref s1.heap.objs.size, upd H1 s1.heap.objs.size (.tup xs), I1.laid (t' := s1.toks) (fun b u e => Heap.get?_push_of_some _ e) (Nat.le_refl _) ?_, rfl, q _ _ hf (same_new hf) upd_same⟩
  exact ⟨z, us, r, ⟨_, Heap.get?_push_size _ rfl, rfl, _, rfl⟩⟩
theorem op_catA : OpR X (binaryOp .Add) (fun x y H Q => ∃ l b xs zs, x = .ref l ∧ y = .ref b ∧ H l = some (.lst xs) ∧ H b = some (.lst zs) ∧ xs.length + zs.length ≤ sizeLine ∧ ∀ p H2, H p = none → Same H H2 → H2 p = some (.lst (xs ++ zs)) → Q (.ref p) H2) := by
  intro pins s σ H x y v u Q I rx ry h
  obtain ⟨l, b, xs, zs, h1, h2, h3, h4, h5, q⟩ := h
  exact op_cat pins s σ H x y v u Q I rx ry ⟨l, b, xs, zs, h1, h2, h3, h4, h5, fun p hp => q p _ hp (same_new hp) upd_same⟩
/-! copies that are alike -/
end
/-! comprehensions over the signs of a text -/
theorem lcT {x : Str} {k : Nat} {σ : St} {H1 : Hp} {te : TE} {Q : VK} (f : Nat → V) (hk : σ.length = k) (hz : x.cps.size ≤ 1000)
    (turn : ∀ D c ys (post : VK), H1 D = none → post (f c) (upd H1 D (.lst ys)) → te (σ ++ [some (.str ⟨#[c]⟩)]) (upd H1 D (.lst ys)) post)
    (fin : ∀ D, H1 D = none → Q (.ref D) (upd H1 D (.lst (x.cps.toList.map f)))) : LCT 1 (gName k) tYes te σ Q (Itx x) H1 := by
  have hl : x.cps.toList.length = x.cps.size := Array.length_toList
  refine lcJ (n := x.cps.size) (fun i => .str ⟨#[x.cps.toList.getD i 0]⟩) (fun D i ys H => H1 D = none ∧ ys = (x.cps.toList.take i).map f ∧ H = upd H1 D (.lst ys)) hk ?_ ?_ ?_ ?_ ?_ ?_
  · rintro D i ys H hi _
    exact hi
  · rintro D i ys H y H' hi _ ⟨e, c, hc, rfl⟩
    refine ⟨e, ?_⟩
    rw [← Array.getElem?_toList] at hc
    rw [List.getD_eq_getElem?_getD, hc]; rfl
  · rintro D ys H _
    exact rfl
  · intro D hD
    exact ⟨hD, by simp, rfl⟩
  · rintro D i ys H post hi ⟨h1, h2, rfl⟩ hp
    have hx : x.cps.toList[i]? = some (x.cps.toList.getD i 0) := by rw [List.getD_eq_getElem?_getD, List.getElem?_eq_getElem (by lia)]; rfl
    refine turn D _ ys post h1 (hp _ _ upd_same ?_ ⟨h1, ?_, by rw [upd_upd]⟩)
    · rw [h2, List.length_map, List.length_take]; exact small1000 (by lia)
    · rw [h2, List.take_add_one, hx]; simp
  · rintro D ys H ⟨h1, h2, rfl⟩
    rw [h2, List.take_of_length_le (by lia)]
    exact fin D h1
theorem lcFT {x : Str} {k : Nat} {σ : St} {H1 : Hp} {tt : TT} {Q : VK} (t : Nat → Bool) (hk : σ.length = k) (hz : x.cps.size ≤ 1000)
    (turn : ∀ D c ys (post : Bool → Hp → Prop), H1 D = none → post (t c) (upd H1 D (.lst ys)) → tt (σ ++ [some (.str ⟨#[c]⟩)]) (upd H1 D (.lst ys)) post)
    (fin : ∀ D, H1 D = none → Q (.ref D) (upd H1 D (.lst ((x.cps.toList.filter t).map fun c => .str ⟨#[c]⟩)))) : LCT 1 (gName k) tt (tVar k) σ Q (Itx x) H1 := by
  have hl : x.cps.toList.length = x.cps.size := Array.length_toList
  refine lcP (n := x.cps.size) (fun i => .str ⟨#[x.cps.toList.getD i 0]⟩) (fun D i ys H => H1 D = none ∧ ys = ((x.cps.toList.take i).filter t).map (fun c => .str ⟨#[c]⟩) ∧ H = upd H1 D (.lst ys)) ?_ ?_ ?_ ?_ ?_ ?_
  · rintro D i ys H hi _
    exact hi
  · rintro D i ys H y H' hi _ ⟨e, c, hc, rfl⟩
    refine ⟨e, ?_⟩
    rw [← Array.getElem?_toList] at hc
    rw [List.getD_eq_getElem?_getD, hc]; rfl
  · rintro D ys H _
    exact rfl
  · intro D hD
    exact ⟨hD, by simp, rfl⟩
  · rintro D i ys H yes no hi ⟨h1, h2, rfl⟩ hp hn
    have hx : x.cps.toList[i]? = some (x.cps.toList.getD i 0) := by rw [List.getD_eq_getElem?_getD, List.getElem?_eq_getElem (by lia)]; rfl
    generalize hc : x.cps.toList.getD i 0 = c at hx ⊢
    have e : (σ ++ List.replicate 1 (none : Option V)).set k (some (.str ⟨#[c]⟩)) = σ ++ [some (.str ⟨#[c]⟩)] := by
      subst hk
      simp [List.set_append]
    unfold gName
    rw [e]
    refine ⟨⟨_, rfl, rfl⟩, turn D c ys _ h1 ?_⟩
    cases hb : t c with
    | true =>
      refine iteT ⟨.str ⟨#[c]⟩, by subst hk; simp, hp _ _ upd_same ?_ ⟨h1, ?_, by rw [upd_upd]⟩⟩
      · rw [h2, List.length_map]
        have h3 : ((x.cps.toList.take i).filter t).length ≤ (x.cps.toList.take i).length := List.length_filter_le _ _
        rw [List.length_take] at h3
        exact small1000 (by lia)
      · rw [h2, List.take_add_one, hx]; simp [List.filter_append, hb]
    | false =>
      refine iteF (hn _ ⟨h1, ?_, rfl⟩)
      rw [h2, List.take_add_one, hx]; simp [List.filter_append, hb]
  · rintro D ys H ⟨h1, h2, rfl⟩
    rw [h2, List.take_of_length_le (by lia)]
    exact fin D h1
end L2

/-! lists of texts in order; a or b of tuples; texts cut and put together -/
namespace L2
open PySem PySem.Spec PyProof.Rows
section
variable {X : Cx}
theorem call_tupleA : CallR X (.type "tuple") (fun xs H Q => ∃ p ys, xs = [.ref p] ∧ SqL X.K H p ys ∧ ∀ l H2, H l = none → Same H H2 → H2 l = some (.tup ys) → Q (.ref l) H2) := by
  intro pins s σ H xs us Q I r h
  obtain ⟨p, ys, h1, h2, q⟩ := h
  exact call_tuple_of pins s σ H xs us Q I r ⟨p, ys, h1, .inl ⟨h2, fun l hl => q l _ hl (same_new hl) upd_same⟩⟩
/-- l.append(y), the heap left open -/
theorem mt_appA : MtR X "list.append" (fun x vs H Q => ∃ (l : Addr) (xs : List V) (y : V), x = .ref l ∧ vs = [y] ∧ H l = some (.lst xs) ∧ xs.length ≤ 1000 ∧ ∀ H1, (∀ b o, b ≠ l → H b = some o → H1 b = some o) → H1 l = some (.lst (xs ++ [y])) → Q .non H1) := by
  intro pins s σ H x vs v us Q I rx rv h
  obtain ⟨l, xs, y, h1, h2, hl, hn, q⟩ := h
  exact mt_append pins s σ H x vs v us Q I rx rv ⟨l, xs, y, h1, h2, hl, small1000 hn, q _ (fun b o hb e => by rw [upd_ne hb]; exact e) upd_same⟩
end
end L2

/-! tuples of texts compared -/
namespace L2
open PySem PySem.Spec PyProof.Rows
section
variable {X : Cx}
end
end L2

/-! the keys of a dict of texts, walked -/
namespace L2
open PySem PySem.Spec PyProof.Rows
section
variable {X : Cx}
end
end L2

/-! a list walked with its places -/
namespace L2
open PySem PySem.Spec PyProof.Rows
section
variable {X : Cx}
end
end L2

set_option maxHeartbeats 2000000
/-! a function of the text, known by its promise -/
namespace L2
open PySem PySem.Spec PyProof.Rows
structure FnAt (P : Program) (w : World) (K : PySem.W.Frag) (mg : Str → Option Value) (base : Heap) (k : Nat) (x : Str) (ps : List Str) (sp : Sp) : Prop where
  ex : ∃ f fd, FnOk P w K mg base CX0 k f fd ps sp ∧ mg x = some (.ref f) ∧ PySem.W.keepIn K (.ref f) = true ∧ Binds K fd ps []
theorem pe_callF {X : Cx} {k : Nat} {x : Str} {ps : List Str} {sp : Sp} {e : Expr} {es : List Expr} {t : TA} {p pos : Pos} (F : FnAt X.prog X.w X.K X.mg X.base k x ps sp) (hr : Room k X.A) (ha : PA X (e :: es) t) (hg : Gl X x := by rfl)
    (hdb : (x == ("__debug__" : Str)) = false := by decide) (he : starEach (e :: es) X.env = (false, eval e X.env) :: starEach es X.env := by rfl) (hpl : (backTo pos (starEach es X.env)).any (·.1) = false := by rfl) :
    PE X (.Call (.Name x p) (e :: es) [] pos) (tCall sp [] E0 t) := by
  obtain ⟨f, fd, G, m, kp, b⟩ := F.ex
  exact pe_call G hr hg m kp b .nil pass0 ha hdb he hpl
theorem Same.new {H : Hp} {a : Addr} {o : HO} (h : H a = none) : Same H (upd H a o) := fun b u e => by rw [upd_ne (ne_of_none e h)]; exact e
theorem Same.up {H H1 : Hp} {a : Addr} {o : HO} (e : Same H H1) (h : H a = none) : Same H (upd H1 a o) := fun b u q => by rw [upd_ne (ne_of_none q h)]; exact e b u q
theorem Same.none {H H' : Hp} (e : Same H H') {a : Addr} (h : H' a = Option.none) : H a = Option.none := e.free h
/-! which kind is which -/
theorem kit_is {K : PySem.W.Frag} {T c : String} {b : Bool} (h1 : (Value.type T == Value.type c) = false) (h2 : PySem.W.kitMeta c = true) (h3 : (PySem.W.subIn K (.type T) (.type c)) = some b) : PySem.W.kitOne K (.type T) (.type c) = some b := by
  unfold PySem.W.kitOne
  rw [if_neg (by rw [h1]; decide)]
  unfold PySem.W.kitCls
  dsimp only
  rw [if_pos h2]
  exact h3
def isStrV : V → Bool | .str _ => true | _ => false
def isIntV : V → Bool | .int _ => true | .bl _ => true | _ => false
def isBlV : V → Bool | .bl _ => true | _ => false
theorem kit_str {K : PySem.W.Frag} {H : Hp} {x : V} {k : String} (h : Kd H x k) : PySem.W.kitOne K (.type k) (.type "str") = some (isStrV x) := by cases h <;> first | exact kit_self | exact kit_is (by decide +kernel) (by decide +kernel) (by with_unfolding_all rfl)
theorem kit_int {K : PySem.W.Frag} {H : Hp} {x : V} {k : String} (h : Kd H x k) : PySem.W.kitOne K (.type k) (.type "int") = some (isIntV x) := by cases h <;> first | exact kit_self | exact kit_is (by decide +kernel) (by decide +kernel) (by with_unfolding_all rfl)
theorem kit_bl {K : PySem.W.Frag} {H : Hp} {x : V} {k : String} (h : Kd H x k) : PySem.W.kitOne K (.type k) (.type "bool") = some (isBlV x) := by cases h <;> first | exact kit_self | exact kit_is (by decide +kernel) (by decide +kernel) (by with_unfolding_all rfl)
theorem kit_lt {K : PySem.W.Frag} : PySem.W.kitOne K (.type "list") (.type "tuple") = some false := by first | exact kit_self | exact kit_is (by decide +kernel) (by decide +kernel) (by with_unfolding_all rfl)
theorem kit_ft {K : PySem.W.Frag} {H : Hp} {x : V} {k : String} (f : flatV x = true) (h : Kd H x k) : PySem.W.kitOne K (.type k) (.type "tuple") = some false := by
  cases h with
  | lst _ => exact absurd f (by simp [flatV])
  | tup _ => exact absurd f (by simp [flatV])
  | non => first | exact kit_self | exact kit_is (by decide +kernel) (by decide +kernel) (by with_unfolding_all rfl)
  | bl b => first | exact kit_self | exact kit_is (by decide +kernel) (by decide +kernel) (by with_unfolding_all rfl)
  | int i => first | exact kit_self | exact kit_is (by decide +kernel) (by decide +kernel) (by with_unfolding_all rfl)
  | str x => first | exact kit_self | exact kit_is (by decide +kernel) (by decide +kernel) (by with_unfolding_all rfl)
end L2

set_option maxHeartbeats 2000000
/-! texts cut and put together; lists without repeats -/
namespace L2
open PySem PySem.Spec PyProof.Rows
theorem slice_ab {x : Str} {a b : Nat} (hab : a ≤ b) (hb : b ≤ x.length) : (Txt.slice x (some (a : Int)) (some (b : Int))).cps.toList = (x.cps.toList.drop a).take (b - a) := by
  have hx : x.cps.toList.length = x.length := by simp [Str.length]
  unfold Txt.slice
  have e : (Builtin.Str.strSliceIndices (some (a : Int)) (some (b : Int)) 1 x.length).length = b - a := by rw [StrLaws.strSliceIndices_plain hab hb, List.length_map, List.length_range]
  by_cases c : b - a = x.length
  · rw [if_pos (by rw [e, c]; simp)]
    have ea : a = 0 := by lia
    have eb : b = x.length := by lia
    subst ea eb
    rw [List.drop_zero, Nat.sub_zero, ← hx, List.take_length]
  · rw [if_neg (by rw [e]; simp [c])]
    show ((Builtin.Str.strSliceIndices (some (a : Int)) (some (b : Int)) 1 x.length).filterMap (x.cps[·]?)).toArray.toList = _
    rw [StrLaws.sliced_plain x hab hb]
theorem slice_congr {x : Str} {lo hi lo' hi' : Option Int} (h : Builtin.Str.strSliceIndices lo hi 1 x.length = Builtin.Str.strSliceIndices lo' hi' 1 x.length) : Txt.slice x lo hi = Txt.slice x lo' hi' := by
  unfold Txt.slice
  rw [h]
theorem cps_app (x y : Str) : (x ++ y).cps.toList = x.cps.toList ++ y.cps.toList := by rw [Str.cps_append, Array.toList_append]
theorem nodup_le {α : Type} [DecidableEq α] : ∀ {xs ys : List α}, xs.Nodup → (∀ x ∈ xs, x ∈ ys) → xs.length ≤ ys.length
  | [], _, _, _ => Nat.zero_le _
  | x :: xs, ys, hn, h => by
    have hx := h x List.mem_cons_self
    have hn' := List.nodup_cons.mp hn
    have := nodup_le (xs := xs) (ys := ys.erase x) hn'.2 fun y hy => (List.mem_erase_of_ne (by rintro rfl; exact hn'.1 hy)).mpr (h y (List.mem_cons_of_mem _ hy))
    rw [List.length_erase_of_mem hx] at this
    have hpos : 0 < ys.length := List.length_pos_of_mem hx
    rw [List.length_cons]
    lia
/-- rising: none twice, in order -/
def ltS (a b : Str) : Prop := leS a b ∧ a ≠ b
theorem rising_of {zs : List Str} (h : zs.Pairwise leS) (hn : zs.Nodup) : zs.Pairwise ltS := List.Pairwise.and h hn
end L2

set_option maxHeartbeats 2000000
namespace L2
open PySem PySem.Spec PyProof.Rows
theorem op_notIn_seqC {X : Cx} {scope : Scope} {cl : List (Str × Addr)} {N2 ys : List Str} {C : Addr} {s : Shared} {H : Hp} {fp : List Addr} : OpR (cxC X scope cl N2 ys C s H fp) (compareOp .NotIn) (rIn X.K true) := op_notIn_seq
/-- those of a list that pass a test that makes nothing -/
theorem lcFL {K : PySem.W.Frag} {a : Addr} {xs : List V} {k : Nat} {σ : St} {H1 : Hp} {tt : TT} {Q : VK} (t : V → Bool) (hk : σ.length = k) (hq : SqL K H1 a xs) (hz : xs.length ≤ 1000)
    (turn : ∀ D x ys (post : Bool → Hp → Prop), H1 D = none → x ∈ xs → post (t x) (upd H1 D (.lst ys)) → tt (σ ++ [some x]) (upd H1 D (.lst ys)) post)
    (fin : ∀ D, H1 D = none → Q (.ref D) (upd H1 D (.lst (xs.filter t)))) : LCT 1 (gName k) tt (tVar k) σ Q (Itl K a) H1 := by
  have sq : ∀ D ys, H1 D = none → SqL K (upd H1 D (.lst ys)) a xs := fun D ys h => Same.seq (same_new h) hq
  refine lcP (n := xs.length) (fun i => xs.getD i .non) (fun D i ys H => H1 D = none ∧ ys = (xs.take i).filter t ∧ H = upd H1 D (.lst ys)) ?_ ?_ ?_ ?_ ?_ ?_
  · rintro D i ys H hi ⟨h1, h2, rfl⟩
    exact ⟨xs, xs[i], sq D ys h1, by simp [hi]⟩
  · rintro D i ys H x H' hi ⟨h1, h2, rfl⟩ ⟨e, y⟩
    refine ⟨e, ?_⟩
    have := y xs (sq D ys h1)
    rw [List.getD_eq_getElem?_getD, this]; rfl
  · rintro D ys H ⟨h1, h2, rfl⟩
    exact ⟨xs, sq D ys h1, Nat.le_refl _⟩
  · intro D hD
    exact ⟨hD, by simp, rfl⟩
  · rintro D i ys H yes no hi ⟨h1, h2, rfl⟩ hp hn
    have hx : xs[i]? = some (xs.getD i .non) := by rw [List.getD_eq_getElem?_getD, List.getElem?_eq_getElem hi]; rfl
    generalize xs.getD i .non = x at hx ⊢
    have e : (σ ++ List.replicate 1 (none : Option V)).set k (some x) = σ ++ [some x] := by
      subst hk
      simp [List.set_append]
    unfold gName
    rw [e]
    refine ⟨⟨_, rfl, rfl⟩, turn D x ys _ h1 (List.mem_of_getElem? hx) ?_⟩
    cases hb : t x with
    | true =>
      refine iteT ⟨x, by subst hk; simp, hp _ _ upd_same ?_ ⟨h1, ?_, by rw [upd_upd]⟩⟩
      · rw [h2]
        have h3 : ((xs.take i).filter t).length ≤ (xs.take i).length := List.length_filter_le _ _
        rw [List.length_take] at h3
        exact small1000 (by lia)
      · rw [h2, List.take_add_one, hx]; simp [List.filter_append, hb]
    | false =>
      refine iteF (hn _ ⟨h1, ?_, rfl⟩)
      rw [h2, List.take_add_one, hx]; simp [List.filter_append, hb]
  · rintro D ys H ⟨h1, h2, rfl⟩
    rw [h2, List.take_of_length_le (Nat.le_refl _)]
    exact fin D h1
theorem inV_str {x : Str} {zs : List Str} : inV (.str x) (zs.map V.str) = decide (x ∈ zs) := by
  unfold inV
  rw [Bool.eq_iff_iff, List.any_eq_true, decide_eq_true_iff]
  constructor
  · rintro ⟨y, hy, e⟩
    obtain ⟨z, hz, rfl⟩ := List.mem_map.mp hy
    have e : z = x := beq_iff_eq.mp (show (z == x) = true from e)
    exact e ▸ hz
  · intro h
    exact ⟨.str x, List.mem_map.mpr ⟨x, h, rfl⟩, show (x == x) = true from beq_self_eq_true x⟩
theorem flat_strs (zs : List Str) : (zs.map V.str).all flatV = true := by
  rw [List.all_map]
  exact List.all_eq_true.mpr fun _ _ => rfl
end L2
namespace L2
open PySem PySem.Spec PyProof.Rows
theorem filter_strs (ds : List Str) : ∀ zs : List Str, (zs.map V.str).filter (fun v => !inV v (ds.map V.str)) = (zs.filter fun x => !decide (x ∈ ds)).map V.str
  | [] => rfl
  | z :: zs => by
    rw [List.map_cons, List.filter_cons, List.filter_cons, inV_str, filter_strs ds zs]
    cases decide (z ∈ ds) <;> rfl
end L2

set_option maxHeartbeats 2000000
namespace L2
open PySem PySem.Spec PyProof.Rows
/-- a word kept shut (the elaborator would else run through a long display again and again) -/
structure Wd (p : Prop) : Prop where
  h : p
section
variable {X : Cx} {es : List Expr} {te : TE} {t : TA}
theorem wss_cons {s : Stmt} {ss : List Stmt} {ts tss : TS} (h : Wd (PS X s ts)) (h' : Wd (PSs X ss tss)) : Wd (PSs X (s :: ss) (tSeq ts tss)) := ⟨pss_cons h.h h'.h⟩
end
end L2

set_option maxHeartbeats 2000000
/-! ranges with a step, tuples walked, texts of a tuple put together -/
namespace L2
open PySem PySem.Spec PyProof.Rows
theorem op_in_seqC {X : Cx} {scope : Scope} {cl : List (Str × Addr)} {N2 ys : List Str} {C : Addr} {s : Shared} {H : Hp} {fp : List Addr} : OpR (cxC X scope cl N2 ys C s H fp) (compareOp .In) (rIn X.K false) := op_in_seq
theorem atI_map {α β : Type} {f : α → β} {xs : List α} {i : Int} {x : α} (h0 : 0 ≤ i) (h : xs[i.toNat]? = some x) : atI (xs.map f) i = some (f x) := by
  obtain ⟨n, rfl⟩ := Int.eq_ofNat_of_zero_le h0
  have hn : n < xs.length := by
    have := (List.getElem?_eq_some_iff.mp h).1
    simpa using this
  unfold atI ixN
  rw [if_pos h0, if_pos (by rw [List.length_map]; lia)]
  show (xs.map f)[(n : Int).toNat]? = _
  rw [List.getElem?_map, h]; rfl
/-- a text cut at two places, the later one perhaps beyond its end -/
theorem slice_cl {x : Str} {a b : Nat} (hab : a ≤ b) (ha : a ≤ x.length) : (Txt.slice x (some (a : Int)) (some (b : Int))).cps.toList = (x.cps.toList.drop a).take (b - a) := by
  by_cases hb : b ≤ x.length
  · exact slice_ab hab hb
  · have hx : x.cps.toList.length = x.length := by simp [Str.length]
    have e : Builtin.Str.strSliceIndices (some (a : Int)) (some (b : Int)) 1 x.length = Builtin.Str.strSliceIndices (some (a : Int)) (some (x.length : Int)) 1 x.length := by
      have h1 : ¬ ((b : Int) < 0) := by lia
      have h2 : ¬ ((x.length : Int) < 0) := by lia
      have e1 : min (b : Int) (x.length : Int) = x.length := by lia
      have e2 : min (x.length : Int) (x.length : Int) = x.length := by lia
      unfold Builtin.Str.strSliceIndices
      have e0 : ((1 : Int) > 0) := by decide
      simp only [h1, h2, if_false, e1, e2, if_pos e0]
    rw [slice_congr e, slice_ab ha (Nat.le_refl _), List.take_of_length_le (by rw [List.length_drop]; lia), List.take_of_length_le (by rw [List.length_drop]; lia)]
end L2

set_option maxHeartbeats 2000000
/-! methods by their promises; tuples that have the same things in them -/
namespace L2
open PySem PySem.Spec PyProof.Rows
structure MeAt (P : Program) (w : World) (K : PySem.W.Frag) (mg : Str → Option Value) (base : Heap) (C : Addr) (k : Nat) (x : Str) (ps : List Str) (sp : Sp) : Prop where
  ex : ∃ f fd, FnOk P w K mg base CX0 k f fd ps sp ∧ Binds K fd ps [] ∧ Meth K C x f
structure MkAt (P : Program) (w : World) (K : PySem.W.Frag) (mg : Str → Option Value) (base : Heap) (C : Addr) (k : Nat) (ps : List Str) (sp : Sp) : Prop where
  ex : ∃ f fd, FnOk P w K mg base CX0 k f fd ps sp ∧ Binds K fd ps [] ∧ Mk K C f
section
variable {X : Cx} {k : Nat} {C : Addr} {m x : Str} {ps : List Str} {sp : Sp} {o e : Expr} {es : List Expr} {ta : TE} {t : TA} {p pos apos : Pos}
end
/-- a thing that equals itself -/
def smV : V → Bool
  | .ref _ => true
  | v => flatV v
section
variable {X : Cx}
end
theorem pg_tupC {X : Cx} {scope : Scope} {cl : List (Str × Addr)} {N2 ys : List Str} {C : Addr} {s : Shared} {H : Hp} {fp : List Addr} {pos : Pos} {es : List Expr} {k : Nat} {t : TGs} {n : Nat} (hc : X.calm = true) (h : PGs (cxC X scope cl N2 ys C s H fp) es t)
    (hn : (assignEach es (cxC X scope cl N2 ys C s H fp).env).length = n := by rfl) (hst : (assignEach es (cxC X scope cl N2 ys C s H fp).env).findIdx? (·.1) = none := by rfl) : PG (cxC X scope cl N2 ys C s H fp) (.Tuple es k pos) (gTup X.K n t) :=
  pg_tup (X := cxC X scope cl N2 ys C s H fp) hc h hn hst
end L2

set_option maxHeartbeats 2000000
/-! tuples walked from the end -/
namespace L2.RV
open PySem PySem.Spec PyProof.Rows
theorem owner_rv : Manifest.owners.lookup (String.ofList ['d', 'e', 's', 'r', 'e', 'v', 'e', 'r'].reverse) = some Manifest.sig_reversed := by kernel_rfl
theorem slot_next : Slot "reversed" "__next__" "reversed.__next__" :=
  .of (owner := "reversed") (n := "__next__") (by rw [typeLookup_type, builtinLookup_eq_fast]; kernel_rfl) (by decide +kernel) (by decide +kernel) (by decide +kernel)
    (by first | exact .inl (by decide +kernel) | exact .inr (by decide +kernel)) (by rw [isSubtype_type]; kernel_rfl)
theorem entry_next : entryFor table "reversed.__next__" = some Builtin.«reversed.__next__» := entryFor_of_tree (by kernel_rfl)
theorem args_next (a : Value) : argsOk "reversed.__next__" ⟨[a], []⟩ := by
  unfold argsOk; rw [signature?_of (id := "reversed.__next__") (n := ['_', '_', 't', 'x', 'e', 'n', '_', '_']) (o := ['d', 'e', 's', 'r', 'e', 'v', 'e', 'r']) (by kernel_rfl) owner_rv]; kernel_rfl
theorem slot_iter : Slot "reversed" "__iter__" "reversed.__iter__" :=
  .of (owner := "reversed") (n := "__iter__") (by rw [typeLookup_type, builtinLookup_eq_fast]; kernel_rfl) (by decide +kernel) (by decide +kernel) (by decide +kernel)
    (by first | exact .inl (by decide +kernel) | exact .inr (by decide +kernel)) (by rw [isSubtype_type]; kernel_rfl)
theorem args_iter (a : Value) : argsOk "reversed.__iter__" ⟨[a], []⟩ := by
  unfold argsOk; rw [signature?_of (id := "reversed.__iter__") (n := ['_', '_', 'r', 'e', 't', 'i', '_', '_']) (o := ['d', 'e', 's', 'r', 'e', 'v', 'e', 'r']) (by kernel_rfl) owner_rv]; kernel_rfl
theorem entry_iter : entryFor table "reversed.__iter__" = some Builtin.«dict_keyiterator.__iter__» :=
  entryFor_alias (id' := "dict_keyiterator.__iter__") (by kernel_rfl) (by first | rfl | decide +kernel | (unfold String.splitOn; simp +decide [String.splitOnAux])) (by decide +kernel) (by kernel_rfl)
theorem no_rev : typeLookup (.type "tuple") "__reversed__" = pure none := by rw [typeLookup_type, builtinLookup_eq_fast]; kernel_rfl
theorem sub_td : isSubtype (.type "tuple") (.type "dict") = pure false := by rw [isSubtype_type]; kernel_rfl
theorem slot_init : Slot "reversed" "__init__" "object.__init__" :=
  .of (owner := "object") (n := "__init__") (by rw [typeLookup_type, builtinLookup_eq_fast]; kernel_rfl) (by decide +kernel) (by decide +kernel) (by decide +kernel)
    (by first | exact .inl (by decide +kernel) | exact .inr (by decide +kernel)) (by rw [isSubtype_type]; kernel_rfl)
theorem called : TypeCalled "reversed" "reversed.__new__" "object.__init__" :=
  ⟨by decide +kernel, by decide +kernel, ⟨_, _, F.mro_reversed⟩, F.made_reversed, by decide +kernel, by rw [isSubtype_type]; kernel_rfl, slot_init⟩
def rvObj (l : Addr) (i : Int) : Obj := { cls := .type "reversed", data := .fields #[.ref l, rawInt i] }
def IsRv (h : Heap) (a l : Addr) (i : Int) : Prop := ∃ o, h.get? a = some o ∧ o.cls = .type "reversed" ∧ o.data = .fields #[.ref l, rawInt i]
section
variable {prog : Program} {w : World} {A : Around} {E : Value → Shared → Prop} {s : Shared}
theorem IsRv.typeIs {a l : Addr} {i : Int} (x : IsRv s.heap a l i) : s.TypeIs (.ref a) "reversed" := let ⟨o, ho, hc, _⟩ := x; ⟨o, ho, hc⟩
theorem code_new {l : Addr} {items : Array Value} {Q₁ : Value → Shared → Prop} (hl : IsTup s.heap l items) (hfit : (items.size : Int) < 2 ^ 63)
    (h : ∀ t', Q₁ (.ref s.heap.objs.size) { s with heap := s.heap.push (rvObj l ((items.size : Int) - 1)), toks := t' }) :
    codeAny (model prog w) A (.call (.builtin "reversed.__new__") ⟨[.type "reversed", .ref l], []⟩) (wants Q₁ E) s := by
  refine codeAny_of_tree ?_
  show wpAny _ A.in1 (do checkBuiltinCall "reversed.__new__" ⟨[.type "reversed", .ref l], []⟩; again (.builtin "reversed.__new__" ⟨[.type "reversed", .ref l], []⟩)) _ _ s
  refine wpAny_bind (wpAny_of_eq (F.newCall_reversed_1 _) (wpAny_pure ⟨plainId_quiet F.plain_reversed_new _, codeAny_builtin F.entry_reversed_new ?_⟩))
  rw [Around.under_plainId F.plain_reversed_new _]
  unfold Builtin.«reversed.__new__»
  refine wpAny_bind (wpAny_of_eq (newClass_reversed _) ?_)
  try dsimp only
  refine wpAny_bind (wpAny_of_eq (a := ()) (by first | rfl | kernel_rfl) ?_)
  refine wpAny_bind (wpAny_of_eq (a := ()) (by first | rfl | kernel_rfl) ?_)
  try dsimp only
  refine wpAny_bind (wpAny_specialOf hl.typeIs no_rev ?_)
  try dsimp only
  refine wpAny_bind ?_
  refine wpAny_mono (Q := fun b s' => b = true ∧ s' = s) (?_ : wpAny _ _ (do
      if ← isInstance (Value.ref l) (.type "dict") then return false
      match ← specialOf (Value.ref l) "__getitem__" with
      | none => return false
      | some (.builtin id) =>
        if ["tuple.__getitem__", "str.__getitem__", "bytes.__getitem__", "bytearray.__getitem__", "memoryview.__getitem__", "numpy.ndarray.__getitem__", "sqlite3.Row.__getitem__"].contains id then return true
        if id == "sqlite3.Blob.__getitem__" then return false
        unsupported "reversed.__new__:is-it-a-sequence"
      | some _ => return true) _ _ s) ?_ (fun _ _ e => e)
  · refine wpAny_bind (wpAny_isInstance hl.typeIs sub_td ?_)
    show wpAny _ _ (specialOf (Value.ref l) "__getitem__" >>= _) _ _ s
    refine wpAny_bind (wpAny_specialOf hl.typeIs slot_tuple_getitem.lookup ?_)
    dsimp only
    rw [if_pos (by decide)]
    exact wpAny_pure ⟨rfl, rfl⟩
  · rintro b s' ⟨rfl, rfl⟩
    show wpAny _ _ (call (Value.builtin "len") [Value.ref l] >>= _) _ _ s'
    refine wpAny_bind (len_tuple hl hfit ?_)
    refine wpAny_bind (wpAny_of_eq (a := some (items.size : Int)) rfl ?_)
    dsimp only
    refine wpAny_bind (m := newObj (.type "reversed") (.fields #[.ref l, rawInt ((items.size : Int) - 1)])) (wpAny_newObj_type (wpAny_pure (h _)))
theorem next_item {it l : Addr} {i : Nat} {items : Array Value} {x : Value} {Q : Option Value → Shared → Prop} (hit : IsRv s.heap it l (i : Int)) (hl : IsTup s.heap l items) (hx : items[i]? = some x) (hfit : (items.size : Int) < 2 ^ 63)
    (hQ : ∀ h' t', IsRv h' it l ((i : Int) - 1) → Heap.SameBut it s.heap h' → Q (some x) { s with heap := h', toks := t' }) : wpAny (model prog w) A (pyNext (.ref it)) Q E s := by
  obtain ⟨o, ho, hc, hd⟩ := id hit
  unfold pyNext
  refine wpAny_bind (wpAny_attempt (wpAny_callSpecial?_slot (name := Str.ofString "__next__") hit.typeIs slot_next
    (wpAny_call_entry slot_next hit.typeIs entry_next ?_ (args_next _))))
  unfold Builtin.«reversed.__next__»
  refine wpAny_bind (wpAny_of_eq (a := (Value.ref it, [])) rfl ?_)
  try dsimp only
  refine wpAny_bind (wpAny_field ho hd (x := .ref l) rfl ?_)
  refine wpAny_bind (wpAny_field ho hd (x := rawInt (i : Int)) rfl ?_)
  show wpAny _ _ (if (i : Int) < 0 then _ else _) _ _ s
  rw [if_neg (by lia)]
  show wpAny _ _ (specialOf (Value.ref l) "__getitem__" >>= _) _ _ s
  refine wpAny_bind (wpAny_specialOf hl.typeIs slot_tuple_getitem.lookup ?_)
  simp only [Option.isNone_some, Bool.false_eq_true, if_false]
  refine wpAny_bind (wpAny_mkInt ?_)
  have hi := (Array.getElem?_eq_some_iff.mp hx).1
  refine wpAny_bind (wpAny_attempt (getItem_tuple (x := x) (j := i) hl (by lia) (by lia) ?_ hx ?_))
  · unfold seqIndex?
    simp
    lia
  dsimp only
  refine wpAny_bind (wpAny_field ho hd (x := rawInt (i : Int)) rfl ?_)
  show wpAny _ _ (setField (Value.ref it) 1 (rawInt ((i : Int) - 1)) >>= _) _ _ _
  refine wpAny_bind (wpAny_setField ho hd (by simp) ?_)
  refine wpAny_pure ⟨x, rfl, wpAny_pure (hQ _ _ ?_ (Heap.SameBut.update ..))⟩
  exact ⟨_, Heap.get?_update_self _ ho (Obj.isFreed_of_fields (Obj.data_mapFields hd _)), (Obj.cls_mapFields ..).trans hc, by
    rw [Obj.data_mapFields hd]; simp⟩
theorem next_end {it l : Addr} {Q : Option Value → Shared → Prop} (hh : A.handled = none) (hit : IsRv s.heap it l (-1))
    (hQ : ∀ h' t', Heap.ExtBut it s.heap h' → Q none { s with heap := h', toks := t' }) : wpAny (model prog w) A (pyNext (.ref it)) Q E s := by
  obtain ⟨o, ho, hc, hd⟩ := id hit
  unfold pyNext
  refine wpAny_bind (wpAny_attempt (wpAny_callSpecial?_slot (name := Str.ofString "__next__") hit.typeIs slot_next
    (wpAny_call_entry slot_next hit.typeIs entry_next ?_ (args_next _))))
  unfold Builtin.«reversed.__next__»
  refine wpAny_bind (wpAny_of_eq (a := (Value.ref it, [])) rfl ?_)
  try dsimp only
  refine wpAny_bind (wpAny_field ho hd (x := .ref l) rfl ?_)
  refine wpAny_bind (wpAny_field ho hd (x := rawInt (-1)) rfl ?_)
  show wpAny _ _ (if (-1 : Int) < 0 then _ else _) _ _ s
  rw [if_pos (by decide)]
  refine wpAny_bind (wpAny_rule ?_)
  refine wpAny_bind (?_ : wpAny _ _ (do setField (Value.ref it) 1 (rawInt (-1)); setField (Value.ref it) 0 .none) _ _ s)
  refine wpAny_bind (wpAny_setField ho hd (by simp) ?_)
  have ho2 := Heap.get?_update_self _ ho (Obj.isFreed_of_fields (Obj.data_mapFields hd (fun xs => xs.set! 1 (rawInt (-1)))))
  have hd2 := Obj.data_mapFields hd (fun xs => xs.set! 1 (rawInt (-1)))
  refine wpAny_setField ho2 hd2 (by simp) ?_
  refine wpAny_bind ?_
  show wpAny _ _ (newExc (.type "StopIteration") [] >>= _) _ _ _
  refine wpAny_bind ?_
  simp only [newExc, newTuple]
  refine wpAny_bind (wpAny_newObj_type ?_ (by size_fits))
  refine wpAny_bind (m := firstArgMember _ _) (wpAny_of_eq (a := Value.none) (by first | rfl | (simp only [firstArgMember]; rfl)) ?_)
  refine wpAny_newObj_type ?_ (by size_fits)
  simp only [raiseNew]
  refine wpAny_bind (wpAny_handled ?_)
  first | rw [show A.in1.handled = none from hh] | rw [hh]
  refine wpAny_bind (wpAny_pure (wpAny_throw ?_))
  refine wpAny_bind (wpAny_isInstance (T := "StopIteration") (b := true) ⟨_, Heap.get?_push_size _ rfl, rfl⟩ isSubtype_stop ?_)
  refine wpAny_pure (hQ _ _ ?_)
  exact ((((Heap.SameBut.update s.heap it (Obj.mapFields fun xs => xs.set! 1 (rawInt (-1)))).trans (Heap.SameBut.update _ it _)).extBut).push _).push _
theorem iter_self {it l : Addr} {i : Int} {Q : Value → Shared → Prop} (hit : IsRv s.heap it l i) (h : Q (.ref it) s) : wpAny (model prog w) A (pyIter (.ref it)) Q E s := by
  refine wpAny_pyIter_slot hit.typeIs slot_iter (wpAny_call_entry slot_iter hit.typeIs entry_iter ?_ (args_iter _))
  show wpAny _ _ (ret (.ref it)) _ _ s
  exact wpAny_pure ⟨_, rfl, "reversed", _, hit.typeIs, slot_next.lookup, h⟩
end
end L2.RV
namespace L2
open PySem PySem.Spec PyProof.Rows
end L2
namespace L2
open PySem PySem.Spec PyProof.Rows
section
variable {X : Cx} {tg : Expr}
end
/-! a list cut by steps -/
end L2

set_option maxHeartbeats 2000000
/-! sets of texts, made and walked -/
namespace L2.ST
open PySem PySem.Spec PyProof.Rows
def txt : Value → Str
  | .str x _ => x
  | _ => Str.empty
def byT (w : World) : Bool := w.params.followText "set-order"
/-- the set at a has just these texts -/
def SSet (prog : Program) (w : World) (h : Heap) (a : Addr) (ks : List Str) : Prop := ∃ (o : Obj) (es : Array (Int × Value)) (ep : Nat) (t : SetTable), h.get? a = some o ∧ o.ExactSet ∧ o.data = .set es ep t ∧ ElemsOf (PySem.strKind prog w) es.toList ∧
  t.fits es.size = true ∧ (es.size = 0 ∨ t.plain = false) ∧ t.led = !byT w ∧ (es.toList.map fun e => txt e.2).Perm ks ∧ ks.Nodup ∧ ks.length < 1000
theorem layNew_keep (t : SetTable) (es : Array (Int × Value)) (h : Int) (x : Value) : (layNew t es h x).2.1.led = t.led ∧ (t.plain = false → (layNew t es h x).2.1.plain = false) := by
  unfold layNew
  split
  · dsimp only
    unfold SetTable.orStandIn
    split
    · exact ⟨rfl, fun h => h⟩
    · exact ⟨rfl, fun _ => rfl⟩
  · exact ⟨rfl, fun _ => rfl⟩
theorem relayAll_keep (t : SetTable) (es : Array (Int × Value)) (n : Nat) : (relayAll t es n).2.1.led = t.led ∧ (t.plain = false → (relayAll t es n).2.1.plain = false) := by
  unfold relayAll
  split
  · rename_i t' order he
    have h2 : t'.led = t.led ∧ t'.plain = t.plain := by
      unfold SetTable.relaid SetTable.laid at he
      cases hc : SetTable.layClean (SetTable.sizeAbove n - 1) (es.map (·.1)) with
      | none => rw [hc] at he; cases he
      | some ow =>
        rw [hc] at he
        have he := Option.some.inj he
        cases he
        exact ⟨rfl, rfl⟩
    dsimp only
    split
    · exact ⟨h2.1, fun h => h2.2.trans h⟩
    · exact ⟨rfl, fun _ => rfl⟩
  · exact ⟨rfl, fun _ => rfl⟩
theorem is_txt {prog : Program} {w : World} {x : Str} {v : Value} (h : (PySem.strKind prog w).is x v = true) : txt v = x := by
  obtain ⟨t, rfl⟩ := Value.isStrOf_shape h
  rfl
theorem txt_is {prog : Program} {w : World} {es : List (Int × Value)} (hel : ElemsOf (PySem.strKind prog w) es) {e : Int × Value} (he : e ∈ es) : (PySem.strKind prog w).is (txt e.2) e.2 = true := by
  obtain ⟨⟨k, hk, _⟩, _⟩ := hel e he
  rw [is_txt hk]; exact hk
section
variable {prog : Program} {w : World} {A : Around} {E : Value → Shared → Prop} {s : Shared}
theorem tail {g : Bool → Sem Unit} (hg : ∀ (b : Bool) (s₁ : Shared) (Q' : Unit → Shared → Prop), Q' () s₁ → wpAny (model prog w) A (g b) Q' E s₁)
    {a : Addr} {o : Obj} {es es1 : Array (Int × Value)} {ep : Nat} {t t2 : SetTable} (ho : s.heap.get? a = some o) (hex : o.ExactSet) (hd : o.data = .set es ep t) {ks : List Str}
    (hel1 : ElemsOf (PySem.strKind prog w) es1.toList) (hf2 : t2.fits es1.size = true) (hpl : t2.plain = false) (hled : t2.led = !byT w) (hperm : (es1.toList.map fun e => txt e.2).Perm ks) (hnd : ks.Nodup) (hks : ks.length < 1000) {wasDummy : Bool} {R : Option Bool → Shared → Prop}
    (h : ∀ h', Heap.SameBut a s.heap h' → SSet prog w h' a ks → R (some true) { s with heap := h' }) :
    wpAny (model prog w) A (do
        storeSet a es1 t2
        if (!wasDummy && t2.tooFull) = true then do
            g (relayAll t2 es1 (SetTable.grown es1.size)).2.2
            storeSet a (relayAll t2 es1 (SetTable.grown es1.size)).1 (relayAll t2 es1 (SetTable.grown es1.size)).2.1
            pure (some true)
          else pure (some true)) R E s := by
  have hsz1 : es1.size = ks.length := by rw [← hperm.length_eq, List.length_map, Array.length_toList]
  have hb1 : es1.size < scanBound := by unfold scanBound; lia
  refine wpAny_bind (wpAny_storeSet_of ho hd ?_ (fits_of_scanBound hb1))
  obtain ⟨ho1, _⟩ := SetOf_store (knd := PySem.strKind prog w) (S' := fun k => es1.toList.any fun e => (PySem.strKind prog w).is k e.2) ho hex hd hel1 (fun k => by rw [List.any_eq_true]) hb1 hf2
  have hsb1 := Heap.SameBut.update s.heap a (Obj.putSet es1 t2)
  split
  · have hp := relayAll_perm t2 es1 (SetTable.grown es1.size)
    have hfr := relayAll_fits t2 es1 (SetTable.grown es1.size)
    have hkp := relayAll_keep t2 es1 (SetTable.grown es1.size)
    generalize relayAll t2 es1 (SetTable.grown es1.size) = Rl at hp hfr hkp ⊢
    obtain ⟨es2, t3, gave2⟩ := Rl
    dsimp only at hp hfr hkp ⊢
    have hsz : es2.size = es1.size := by rw [← Array.length_toList, hp.length_eq, Array.length_toList]
    refine wpAny_bind (hg _ _ _ ?_)
    refine wpAny_bind (wpAny_storeSet_of ho1 rfl ?_ (fits_of_scanBound (by rw [hsz]; exact hb1)))
    obtain ⟨ho2, _⟩ := SetOf_store (knd := PySem.strKind prog w) (S' := fun k => es2.toList.any fun e => (PySem.strKind prog w).is k e.2) ho1 hex rfl (hel1.perm hp) (fun k => by rw [List.any_eq_true]) (by rw [hsz]; exact hb1) hfr
    exact wpAny_pure (h _ (hsb1.trans (Heap.SameBut.update _ a _)) ⟨_, es2, _, t3, ho2, hex, rfl, hel1.perm hp, hfr, .inr (hkp.2 hpl), hkp.1.trans hled, (hp.map _).trans hperm, hnd, hks⟩)
  · exact wpAny_pure (h _ hsb1 ⟨_, es1, _, t2, ho1, hex, rfl, hel1, hf2, .inr hpl, hled, hperm, hnd, hks⟩)
theorem add {a : Addr} {ks : List Str} {x : Str} {tk : Tok} {Q : Bool → Shared → Prop} (hS : SSet prog w s.heap a ks) (hl : ks.length < 900)
    (h : ∀ h' b, Heap.SameBut a s.heap h' → SSet prog w h' a (if x ∈ ks then ks else ks ++ [x]) → Q b { s with heap := h' }) :
    wpAny (model prog w) A (setAddHashed a (.str x tk) ((PySem.strKind prog w).hash x)) Q E s := by
  obtain ⟨o, es, ep, t, ho, hex, hd, hel, hf, hpl, hled, hperm, hnd, hks⟩ := hS
  have hkey : (PySem.strKind prog w).is x (.str x tk) = true := PySem.strKind_is prog w x tk
  have hsc : (Value.str x tk).scannable = true := rfl
  have hsz : es.size = ks.length := by rw [← hperm.length_eq, List.length_map, Array.length_toList]
  have hb : es.size < scanBound := by unfold scanBound; lia
  unfold setAddHashed setAddHashedIn
  refine wpAny_holding (wpAny_bind (wpAny_setState_of ho hd hf ?_))
  dsimp only
  rw [byScan_of hsc hb hel]
  simp only [↓reduceIte]
  unfold setAddByScan
  refine wpAny_bind ?_
  refine wpAny_bind (wpAny_rule ?_)
  refine wpAny_bind (wpAny_setScan_of hkey ho hd hf hel ?_)
  cases hr : List.findIdx? (fun e => (PySem.strKind prog w).is x e.2) es.toList with
  | some j =>
    dsimp only
    obtain ⟨hj, hpj, _⟩ := List.findIdx?_eq_some_iff_getElem.mp hr
    have hx : x ∈ ks := hperm.mem_iff.mp (List.mem_map.mpr ⟨es.toList[j], List.getElem_mem hj, is_txt hpj⟩)
    refine wpAny_pure (wpAny_pure ?_)
    have := h s.heap false (Heap.SameBut.refl a s.heap) (by rw [if_pos hx]; exact ⟨o, es, ep, t, ho, hex, hd, hel, hf, hpl, hled, hperm, hnd, hks⟩)
    exact this
  | none =>
    dsimp only
    have hx : x ∉ ks := fun hx => by
      obtain ⟨e, he, ex⟩ := List.mem_map.mp (hperm.mem_iff.mpr hx)
      have h1 := List.findIdx?_eq_none_iff.mp hr e he
      have h2 := txt_is hel he
      rw [ex, h1] at h2
      cases h2
    rw [if_neg hx] at h
    have hp1 := layNew_perm t es ((PySem.strKind prog w).hash x) (.str x tk)
    have hf1 := layNew_fits t es ((PySem.strKind prog w).hash x) (.str x tk)
    have hk1 := layNew_keep t es ((PySem.strKind prog w).hash x) (.str x tk)
    generalize layNew t es ((PySem.strKind prog w).hash x) (.str x tk) = L at hp1 hf1 hk1 ⊢
    obtain ⟨es1, t1, wasDummy, gave⟩ := L
    dsimp only at hp1 hf1 hk1 ⊢
    rw [Array.toList_push] at hp1
    have hel1 : ElemsOf (PySem.strKind prog w) es1.toList := (hel.push hkey hsc).perm hp1
    have hperm1 : (es1.toList.map fun e => txt e.2).Perm (ks ++ [x]) := by
      refine (hp1.map _).trans ?_
      rw [List.map_append]
      exact hperm.append_right _
    have hnd1 : (ks ++ [x]).Nodup := List.nodup_append.mpr ⟨hnd, by simp, fun y hy z hz => by rw [List.mem_singleton.mp hz]; exact fun e => hx (e ▸ hy)⟩
    have hks1 : (ks ++ [x]).length < 1000 := by rw [List.length_append]; simp only [List.length_cons, List.length_nil]; lia
    refine wpAny_bind (?_ : wpAny (model prog w) A (match gave with | true => rule "set.scan.the-table-gave-way" | false => pure ()) _ _ _)
    refine (fun z => by cases gave <;> first | exact wpAny_pure z | exact wpAny_rule z) ?_
    split
    · refine wpAny_bind ?_
      rw [hashByValue_scannable 8 hsc]
      refine wpAny_pure ?_
      refine tail (t2 := { t1 with plain := false }) ?_ ho hex hd hel1 (SetTable.fits_plain_off hf1) rfl (hk1.1.trans hled) hperm1 hnd1 hks1 ?_
      · intro b s₁ Q' hq; cases b <;> first | exact wpAny_pure hq | exact wpAny_rule hq
      · intro h' hsb hS'
        exact wpAny_pure (h h' true hsb hS')
    · rename_i hnp
      refine wpAny_bind (wpAny_pure ?_)
      simp only [↓reduceIte]
      refine tail ?_ ho hex hd hel1 hf1 (by simpa using hnp) (hk1.1.trans hled) hperm1 hnd1 hks1 ?_
      · intro b s₁ Q' hq; cases b <;> first | exact wpAny_pure hq | exact wpAny_rule hq
      · intro h' hsb hS'
        exact wpAny_pure (h h' true hsb hS')
/-- those of xs, each once, as they come -/
def dd (xs : List Str) : List Str := xs.foldl (fun ks x => if x ∈ ks then ks else ks ++ [x]) []
theorem dd_succ {xs : List Str} {i : Nat} {x : Str} (h : xs[i]? = some x) : dd (xs.take (i + 1)) = if x ∈ dd (xs.take i) then dd (xs.take i) else dd (xs.take i) ++ [x] := by
  unfold dd
  rw [List.take_add_one, h, List.foldl_append]; rfl
theorem dd_mem (xs : List Str) : ∀ i, ∀ x, x ∈ dd (xs.take i) ↔ x ∈ xs.take i := by
  intro i
  induction i with
  | zero => intro x; exact Iff.rfl
  | succ i ih =>
    intro x
    cases hx : xs[i]? with
    | none =>
      rw [List.take_add_one, hx]
      simpa using ih x
    | some y =>
      rw [dd_succ hx, List.take_add_one, hx]
      show _ ↔ x ∈ xs.take i ++ [y]
      rw [List.mem_append, List.mem_singleton]
      by_cases hy : y ∈ dd (xs.take i)
      · rw [if_pos hy, ih x]
        exact ⟨.inl, fun h => h.elim id fun e => by rw [e]; exact (ih y).mp hy⟩
      · rw [if_neg hy, List.mem_append, List.mem_singleton, ih x]
theorem dd_len (xs : List Str) : ∀ i, (dd (xs.take i)).length ≤ i := by
  intro i
  induction i with
  | zero => exact Nat.le_refl _
  | succ i ih =>
    cases hx : xs[i]? with
    | none =>
      have : xs.take (i + 1) = xs.take i := by rw [List.take_add_one, hx]; simp
      rw [this]; lia
    | some y =>
      rw [dd_succ hx]
      split
      · lia
      · rw [List.length_append]; simp only [List.length_cons, List.length_nil]; lia
end
section
variable {prog : Program} {w : World} {A : Around} {R : Result → Shared → Prop} {I : Addr} {fp wr : List Addr} {G : Array GenState → Array GenState → Prop} {n : Nat} {P : Nat → Value → Prop} {St : Nat → Shared → Prop}
theorem loop (W : WalksS prog w A.in1 I fp wr G n P St) (S : Addr) (hSf : S ∉ fp) (xs : List Str) (hn : xs.length = n) (hval : ∀ i v, P i v → ∃ x t, xs[i]? = some x ∧ v = .str x t) (hb : n < 800) :
    ∀ (k i : Nat) (s : Shared), n - i = k → i ≤ n → St i s → SSet prog w s.heap S (dd (xs.take i)) →
      (∀ s', Moved (S :: wr) G s s' → SSet prog w s'.heap S (dd xs) → R (.ok (.ret .none)) s') → codeAny (model prog w) A (.builtin "set.update.loop" ⟨[.ref S, .ref I], []⟩) R s := by
  have hSw : S ∉ wr := fun h => hSf (W.sub _ h)
  have hsub : ∀ b ∈ wr, b ∈ S :: wr := fun b hb => List.mem_cons_of_mem _ hb
  intro k
  induction k with
  | zero =>
    intro i s hk hi hst hS hR
    have hin : i = n := by lia
    subst hin
    refine codeAny_builtin F.entry_set_update_loop ?_
    rw [Around.under_plainId F.plain_set_update_loop _]
    show wpAny _ A.in1 (pyNext (.ref I) >>= _) _ _ s
    refine wpAny_bind (W.done s _ _ hst fun s' hm => ?_)
    show wpAny _ A.in1 (ret Value.none) _ _ s'
    rw [List.take_of_length_le (by lia)] at hS
    obtain ⟨o, es, ep, t, ho, rest⟩ := hS
    exact wpAny_pure (hR s' (hm.mono hsub) ⟨o, es, ep, t, hm.heap S _ hSw ho, rest⟩)
  | succ k ih =>
    intro i s hk hi hst hS hR
    have hlt : i < n := by lia
    refine codeAny_builtin F.entry_set_update_loop ?_
    rw [Around.under_plainId F.plain_set_update_loop _]
    show wpAny _ A.in1 (pyNext (.ref I) >>= _) _ _ s
    refine wpAny_bind (W.item i s _ _ hlt hst fun v s' hP hst' hm => ?_)
    obtain ⟨x, t, ex, rfl⟩ := hval i v hP
    have hS' : SSet prog w s'.heap S (dd (xs.take i)) := by
      obtain ⟨o, es, ep, tb, ho, rest⟩ := hS
      exact ⟨o, es, ep, tb, hm.heap S _ hSw ho, rest⟩
    show wpAny _ A.in1 (holding [Value.str x t] (setAdd S (.str x t)) >>= _) _ _ s'
    refine wpAny_bind (wpAny_holding ?_)
    unfold setAdd
    refine wpAny_holding ?_
    refine wpAny_bind ((PySem.strKind prog w).pyHash (k := x) (PySem.strKind_is _ _ _ _) ?_)
    refine add (s := { s' with toks := s'.toks + 1 }) hS' (by have := dd_len xs i; lia) fun h' b hsb hS2 => ?_
    rw [← dd_succ ex] at hS2
    refine wpAny_pure ⟨plainId_quiet F.plain_set_update_loop _, ih (i + 1) _ (by lia) hlt (W.frame _ s' _ _ hst' (Nat.le_succ _) fun b hb o e => ?_) hS2 fun s'' hm'' hS'' => ?_⟩
    · rw [hsb.2 b (fun h : b = S => hSf (by rw [← h]; exact hb))]; exact e
    · refine hR s'' (Moved.trans W.gtrans ((hm.mono hsub).then_heap (Nat.le_succ _) fun b o hb e => ?_) hm'') hS''
      rw [hsb.2 b (fun h : b = S => hb (by rw [h]; exact List.mem_cons_self))]; exact e
end
section
variable {prog : Program} {w : World} {A : Around} {E : Value → Shared → Prop} {s : Shared}
theorem fresh_set (h : Heap) (a : Addr) {led : Bool} (hl : led = !byT w) (hg : h.get? a = some { cls := .type "set", dict := none, data := .set #[] 0 (.fresh 0 0 led) }) : SSet prog w h a [] :=
  ⟨_, #[], 0, _, hg, ⟨rfl, rfl, rfl⟩, rfl, fun e he => by simp at he, by cases led <;> rfl, .inl rfl, hl, List.Perm.refl _, List.nodup_nil, by decide⟩
theorem code_new (a : Value) {Q₁ : Value → Shared → Prop}
    (h : Q₁ (.ref s.heap.objs.size) { s with heap := s.heap.push { cls := .type "set", dict := none, data := .set #[] 0 (.fresh 0 0 (!byT w)) } }) :
    codeAny (model prog w) A (.call (.builtin "set.__new__") ⟨[.type "set", a], []⟩) (wants Q₁ E) s := by
  refine codeAny_of_tree ?_
  show wpAny _ A.in1 (do checkBuiltinCall "set.__new__" ⟨[.type "set", a], []⟩; again (.builtin "set.__new__" ⟨[.type "set", a], []⟩)) _ _ s
  refine wpAny_bind (wpAny_of_eq (F.newCall_set_1 a) (wpAny_pure ⟨plainId_quiet F.plain_set_new _, codeAny_builtin F.entry_set_new ?_⟩))
  rw [Around.under_plainId F.plain_set_new _]
  unfold Builtin.«set.__new__» Builtin.Frozenset.newClass
  have hsub := sub_set_self
  obtain ⟨hp, g, d, tk, os⟩ := s
  dsimp only
  wp_walk
  refine wpAny_askSetting (wpAny_pure ?_)
  dsimp only
  simp only [newObj]
  refine wpAny_bind (wpAny_alloc (wpAny_pure ?_))
  exact wpAny_pure h
end
end L2.ST

set_option maxHeartbeats 2000000
namespace L2.ST
open PySem PySem.Spec PyProof.Rows
/-! orders -/
theorem erase_perm {α : Type} : ∀ {ls : List α} {j : Nat} {y : α}, ls[j]? = some y → (y :: ls.eraseIdx j).Perm ls
  | [], _, _, h => by simp at h
  | x :: r, 0, y, h => by
    have h : some x = some y := h
    cases h
    exact List.Perm.refl _
  | x :: r, j + 1, y, h => (List.Perm.swap x y _).trans ((erase_perm (ls := r) (j := j) h).cons x)
theorem pick_go {α : Type} (next : Nat → Nat) : ∀ (fuel k : Nat) (left : List α) (out : Array α), left.length = fuel → (pickOrder.go next fuel k left out).toList.Perm (out.toList ++ left)
  | 0, k, left, out, h => by
    rw [List.eq_nil_of_length_eq_zero h, List.append_nil]
    exact List.Perm.refl _
  | fuel + 1, k, left, out, h => by
    have hm : next k % left.length < left.length := Nat.mod_lt _ (by lia)
    unfold pickOrder.go
    rw [List.getElem?_eq_getElem hm]
    dsimp only
    refine (pick_go next fuel (k + 1) _ _ (by rw [List.length_eraseIdx_of_lt hm]; lia)).trans ?_
    rw [Array.toList_push, List.append_assoc]
    exact (erase_perm (List.getElem?_eq_getElem hm)).append_left _
theorem pick_perm {α : Type} (next : Nat → Nat) (xs : Array α) : (pickOrder next xs).toList.Perm xs.toList := by
  unfold pickOrder
  have := pick_go next xs.size 0 xs.toList #[] Array.length_toList
  simpa using this
section
variable {prog : Program} {w : World} {A : Around} {E : Value → Shared → Prop} {s : Shared}
theorem wp_cho {src : Source} {n : Nat} {Q : Nat → Shared → Prop} (hn : n ≠ 0) (h : ∀ i d', i < n → Q i { s with drawn := d' }) : wpAny (model prog w) A (choose src n) Q E s := fun Γ p hΓ => by
  unfold choose
  rw [Sem.wp_choose]
  exact ⟨hn, h _ _ (Nat.mod_lt _ (Nat.pos_of_ne_zero hn))⟩
theorem draw {α : Type} : ∀ (n : Nat) (xs : List α) (s : Shared) {Q : List α → Shared → Prop}, xs.length = n → (∀ ys d', ys.Perm xs → Q ys { s with drawn := d' }) → wpAny (model prog w) A (drawOrder n xs) Q E s
  | 0, xs, s, Q, hn, h => by
    rw [List.eq_nil_of_length_eq_zero hn] at h ⊢
    exact wpAny_pure (h [] s.drawn (List.Perm.refl _))
  | n + 1, [], s, Q, hn, h => by simp at hn
  | n + 1, x :: r, s, Q, hn, h => by
    show wpAny _ _ (choose .order (x :: r).length >>= _) _ _ s
    refine wpAny_bind (wp_cho (by simp) fun i d' hi => ?_)
    rw [List.getElem?_eq_getElem hi]
    dsimp only
    refine wpAny_bind (draw n ((x :: r).eraseIdx i) { s with drawn := d' } (by rw [List.length_eraseIdx_of_lt hi]; lia) fun ys d'' hp => ?_)
    exact wpAny_pure (h _ d'' ((hp.cons _).trans (erase_perm (List.getElem?_eq_getElem hi))))
end
/-! the iterator -/
theorem slot_iter : Slot "set" "__iter__" "set.__iter__" :=
  .of (owner := "set") (n := "__iter__") (by rw [typeLookup_type, builtinLookup_eq_fast]; kernel_rfl) (by decide +kernel) (by decide +kernel) (by decide +kernel)
    (by first | exact .inl (by decide +kernel) | exact .inr (by decide +kernel)) (by rw [isSubtype_type]; kernel_rfl)
theorem owner_set : Manifest.owners.lookup (String.ofList ['t', 'e', 's'].reverse) = some Manifest.sig_set := by kernel_rfl
theorem args_iter (a : Value) : argsOk "set.__iter__" ⟨[a], []⟩ := by
  unfold argsOk; rw [signature?_of (id := "set.__iter__") (n := ['_', '_', 'r', 'e', 't', 'i', '_', '_']) (o := ['t', 'e', 's']) (by kernel_rfl) owner_set]; kernel_rfl
theorem entry_iter : entryFor table "set.__iter__" = some Builtin.«frozenset.__iter__» :=
  entryFor_alias (id' := "frozenset.__iter__") (by kernel_rfl) (by first | rfl | decide +kernel | (unfold String.splitOn; simp +decide [String.splitOnAux])) (by decide +kernel) (by kernel_rfl)
theorem slot_next : Slot "set_iterator" "__next__" "set_iterator.__next__" :=
  .of (owner := "set_iterator") (n := "__next__") (by rw [typeLookup_type, builtinLookup_eq_fast]; kernel_rfl) (by decide +kernel) (by decide +kernel) (by decide +kernel)
    (by first | exact .inl (by decide +kernel) | exact .inr (by decide +kernel)) (by rw [isSubtype_type]; kernel_rfl)
theorem entry_next : entryFor table "set_iterator.__next__" = some Builtin.«set_iterator.__next__» := entryFor_of_tree (by kernel_rfl)
theorem owner_si : Manifest.owners.lookup (String.ofList ['r', 'o', 't', 'a', 'r', 'e', 't', 'i', '_', 't', 'e', 's'].reverse) = some Manifest.sig_set_iterator := by kernel_rfl
theorem args_next (a : Value) : argsOk "set_iterator.__next__" ⟨[a], []⟩ := by
  unfold argsOk; rw [signature?_of (id := "set_iterator.__next__") (n := ['_', '_', 't', 'x', 'e', 'n', '_', '_']) (o := ['r', 'o', 't', 'a', 'r', 'e', 't', 'i', '_', 't', 'e', 's']) (by kernel_rfl) owner_si]; kernel_rfl
theorem slot_sii : Slot "set_iterator" "__iter__" "set_iterator.__iter__" :=
  .of (owner := "set_iterator") (n := "__iter__") (by rw [typeLookup_type, builtinLookup_eq_fast]; kernel_rfl) (by decide +kernel) (by decide +kernel) (by decide +kernel)
    (by first | exact .inl (by decide +kernel) | exact .inr (by decide +kernel)) (by rw [isSubtype_type]; kernel_rfl)
theorem args_sii (a : Value) : argsOk "set_iterator.__iter__" ⟨[a], []⟩ := by
  unfold argsOk; rw [signature?_of (id := "set_iterator.__iter__") (n := ['_', '_', 'r', 'e', 't', 'i', '_', '_']) (o := ['r', 'o', 't', 'a', 'r', 'e', 't', 'i', '_', 't', 'e', 's']) (by kernel_rfl) owner_si]; kernel_rfl
theorem entry_sii : entryFor table "set_iterator.__iter__" = some Builtin.«dict_keyiterator.__iter__» :=
  entryFor_alias (id' := "dict_keyiterator.__iter__") (by kernel_rfl) (by first | rfl | decide +kernel | (unfold String.splitOn; simp +decide [String.splitOnAux])) (by decide +kernel) (by kernel_rfl)
/-- the first field of the iterator, and the order in which it walks -/
inductive Way (w : World) (h : Heap) (a T : Addr) (es : Array (Int × Value)) (ep : Nat) (t : SetTable) (ord : List Value) : Nat → Value → Prop
  | text (i : Nat) : byT w = true → ord = (pickOrder (w.params.setOrder a ep) es).toList.map (·.2) → Way w h a T es ep t ord i (rawInt 0)
  | drawn (i : Nat) (ps : List Nat) : byT w = false → t.plain = false → 1 < es.size → IsTup h T (ps.map fun (p : Nat) => rawInt p).toArray → ps.length = es.size → (∀ (j p : Nat), ps[j]? = some p → ∃ e : Int × Value, es[p]? = some e ∧ ord[j]? = some e.2) → Way w h a T es ep t ord i (.ref T)
  | small (i sl : Nat) : byT w = false → es.size ≤ 1 → ord = es.toList.map (·.2) → (i = 0 → sl = 0) → (∀ p, 0 < i → t.place[0]? = some p → sl = p + 1) → Way w h a T es ep t ord i (rawInt sl)
/-- the iterator at I over the set at a, i items on -/
def ItAt (prog : Program) (w : World) (I a T : Addr) (o : Obj) (es : Array (Int × Value)) (ep : Nat) (t : SetTable) (ord : List Value) (i : Nat) (h : Heap) : Prop :=
  h.get? a = some o ∧ o.data = .set es ep t ∧ t.fits es.size = true ∧ t.led = !byT w ∧ ord.length = es.size ∧ ∃ f oI, Way w h a T es ep t ord i f ∧ h.get? I = some oI ∧ oI.cls = .type "set_iterator" ∧ oI.data = .fields #[f, rawInt (i : Int), .ref a, rawInt (es.size : Int), rawInt (ep : Int)]
section
variable {prog : Program} {w : World} {A : Around} {E : Value → Shared → Prop} {s : Shared}
theorem ItAt.typeIs {I a T : Addr} {o : Obj} {es : Array (Int × Value)} {ep : Nat} {t : SetTable} {ord : List Value} {i : Nat} (h : ItAt prog w I a T o es ep t ord i s.heap) : s.TypeIs (.ref I) "set_iterator" := by
  obtain ⟨_, _, _, _, _, f, oI, _, h1, h2, _⟩ := h
  exact ⟨oI, h1, h2⟩
theorem entries_of {a : Addr} {o : Obj} {es : Array (Int × Value)} {ep : Nat} {t : SetTable} {Q : Array (Int × Value) → Shared → Prop} (ho : s.heap.get? a = some o) (hd : o.data = .set es ep t) (hf : t.fits es.size = true) (h : Q es s) : wpAny (model prog w) A (setEntries a) Q E s := by
  unfold setEntries
  exact wpAny_bind (wpAny_setState_of ho hd hf (wpAny_pure h))
theorem byText_of {Q : Bool → Shared → Prop} (h : Q (byT w) s) : wpAny (model prog w) A setsByText Q E s := by
  unfold setsByText
  exact wpAny_bind (wpAny_askSetting (wpAny_pure h))
theorem walk_text {a : Addr} {o : Obj} {es : Array (Int × Value)} {ep : Nat} {t : SetTable} {Q : Array (Int × Value) → Shared → Prop} (hb : byT w = true) (ho : s.heap.get? a = some o) (hd : o.data = .set es ep t) (hf : t.fits es.size = true) (h : Q (pickOrder (w.params.setOrder a ep) es) s) : wpAny (model prog w) A (setWalk a) Q E s := by
  unfold setWalk
  refine wpAny_bind (wpAny_setState_of ho hd hf ?_)
  dsimp only
  refine wpAny_bind (byText_of ?_)
  rw [hb]
  exact wpAny_bind (wpAny_askSetting (wpAny_pure h))
theorem next_text {a : Addr} {o : Obj} {es : Array (Int × Value)} {ep sl i : Nat} {t : SetTable} {Q : Option (Value × Nat) → Shared → Prop} (hb : byT w = true) (ho : s.heap.get? a = some o) (hd : o.data = .set es ep t) (hf : t.fits es.size = true)
    (h : Q (((pickOrder (w.params.setOrder a ep) es)[i]?).map fun e => (e.2, sl)) s) : wpAny (model prog w) A (setNext a sl i ep) Q E s := by
  unfold setNext
  refine wpAny_bind (wpAny_setState_of ho hd hf ?_)
  dsimp only
  refine wpAny_bind (byText_of ?_)
  rw [hb]
  simp only [↓reduceIte, bne_self_eq_false, Bool.false_eq_true]
  exact wpAny_bind (walk_text hb ho hd hf (wpAny_pure h))
theorem next_small {a : Addr} {o : Obj} {es : Array (Int × Value)} {ep sl i : Nat} {t : SetTable} {Q : Option (Value × Nat) → Shared → Prop} (hb : byT w = false) (hled : t.led = !byT w) (hs : es.size ≤ 1) (ho : s.heap.get? a = some o) (hd : o.data = .set es ep t) (hf : t.fits es.size = true)
    (h : Q (match es[SetTable.below t.place sl]?, t.place[SetTable.below t.place sl]? with | some (_, x), some j => some (x, j + 1) | _, _ => none) s) : wpAny (model prog w) A (setNext a sl i ep) Q E s := by
  unfold setNext
  refine wpAny_bind (wpAny_setState_of ho hd hf ?_)
  dsimp only
  refine wpAny_bind (byText_of ?_)
  rw [hb]
  simp only [Bool.false_eq_true, ↓reduceIte]
  have z : (!t.plain && decide (es.size > 1)) = false := by rw [decide_eq_false (by lia), Bool.and_false]
  show wpAny _ _ (if (!t.plain && decide (es.size > 1)) = true then _ else _) _ _ s
  rw [if_neg (by rw [z]; simp)]
  refine wpAny_bind (?_ : wpAny _ _ (if (!t.led && !es.isEmpty) = true then unsupported "set:maker-not-led" else pure ()) _ _ s)
  rw [hled, hb, if_neg (by simp)]
  exact wpAny_pure (wpAny_pure h)
theorem one_place {t : SetTable} {n : Nat} (hf : t.fits n = true) (hn : n = 1) : ∃ p, t.place = #[p] := by
  have h1 : t.place.size = n := by
    simp only [SetTable.fits, Bool.and_eq_true, beq_iff_eq] at hf
    exact hf.1
  obtain ⟨l, hl⟩ : ∃ l, t.place = ⟨l⟩ := ⟨t.place.toList, rfl⟩
  rw [hl] at h1
  match l, h1 with
  | [p], _ => exact ⟨p, hl⟩
  | [], h => simp at h; lia
  | _ :: _ :: _, h => simp at h; lia
theorem below_first (p : Nat) : SetTable.below #[p] 0 = 0 := by
  unfold SetTable.below
  show SetTable.below.go #[p] 0 1 0 1 = 0
  unfold SetTable.below.go
  simp
  unfold SetTable.below.go
  rfl
theorem below_next (p : Nat) : SetTable.below #[p] (p + 1) = 1 := by
  unfold SetTable.below
  show SetTable.below.go #[p] (p + 1) 1 0 1 = 1
  unfold SetTable.below.go
  simp
  unfold SetTable.below.go
  rfl
/-- the iterator's object, two fields on -/
theorem ItAt.on {I a T : Addr} {o oI : Obj} {es : Array (Int × Value)} {ep : Nat} {t : SetTable} {ord : List Value} {i : Nat} {f' : Value} {h h' : Heap} (hne : a ≠ I) (ho : h.get? a = some o) (hd : o.data = .set es ep t) (hf : t.fits es.size = true) (hled : t.led = !byT w) (hol : ord.length = es.size)
    (sb : Heap.SameBut I h h') (hw : Way w h' a T es ep t ord (i + 1) f') (hI : h'.get? I = some oI) (hc : oI.cls = .type "set_iterator") (hdI : oI.data = .fields #[f', rawInt ((i : Int) + 1), .ref a, rawInt (es.size : Int), rawInt (ep : Int)]) : ItAt prog w I a T o es ep t ord (i + 1) h' :=
  ⟨(sb.2 a hne).trans ho, hd, hf, hled, hol, f', oI, hw, hI, hc, hdI⟩
theorem next_item {I a T : Addr} {o : Obj} {es : Array (Int × Value)} {ep : Nat} {t : SetTable} {ord : List Value} {i : Nat} {Q : Option Value → Shared → Prop} (hI : ItAt prog w I a T o es ep t ord i s.heap) (hne : a ≠ I) (hlt : i < es.size)
    (hQ : ∀ v h', ord[i]? = some v → ItAt prog w I a T o es ep t ord (i + 1) h' → Heap.SameBut I s.heap h' → Q (some v) { s with heap := h' }) : wpAny (model prog w) A (pyNext (.ref I)) Q E s := by
  have hT := hI.typeIs
  obtain ⟨ho, hd, hf, hled, hol, f, oI, hw, hoI, hcI, hdI⟩ := hI
  unfold pyNext
  refine wpAny_bind (wpAny_attempt (wpAny_callSpecial?_slot (name := Str.ofString "__next__") hT slot_next
    (wpAny_call_entry slot_next hT entry_next ?_ (args_next _))))
  unfold Builtin.«set_iterator.__next__»
  refine wpAny_bind (wpAny_of_eq (a := (Value.ref I, [])) rfl ?_)
  dsimp only
  refine wpAny_bind (wpAny_fieldsOf hoI hdI ?_)
  show wpAny _ _ (setEntries a >>= _) _ _ s
  refine wpAny_bind (entries_of ho hd hf ?_)
  rw [if_neg (by simp)]
  cases hw with
  | text hb hord =>
    show wpAny _ _ (setNext a (0 : Int).toNat (i : Int).toNat (ep : Int).toNat >>= _) _ _ s
    simp only [Int.toNat_natCast]
    refine wpAny_bind (next_text hb ho hd hf ?_)
    have hsz : (pickOrder (w.params.setOrder a ep) es).size = es.size := by
      rw [← Array.length_toList, (pick_perm _ _).length_eq, Array.length_toList]
    have hi : i < (pickOrder (w.params.setOrder a ep) es).size := by lia
    rw [Array.getElem?_eq_getElem hi]
    dsimp only [Option.map]
    refine wpAny_bind (wpAny_setField hoI hdI (by simp) ?_)
    have ho2 := Heap.get?_update_self _ hoI (Obj.isFreed_of_fields (Obj.data_mapFields hdI (fun xs => xs.set! 0 (rawInt ((0 : Int).toNat : Nat)))))
    have hd2 := Obj.data_mapFields hdI (fun xs => xs.set! 0 (rawInt ((0 : Int).toNat : Nat)))
    refine wpAny_bind (wpAny_setField ho2 hd2 (by simp) ?_)
    have sb := (Heap.SameBut.update s.heap I (Obj.mapFields fun xs => xs.set! 0 (rawInt ((0 : Int).toNat : Nat)))).trans (Heap.SameBut.update _ I (Obj.mapFields fun xs => xs.set! 1 (rawInt ((i : Int) + 1))))
    have ho3 := Heap.get?_update_self _ ho2 (Obj.isFreed_of_fields (Obj.data_mapFields hd2 (fun xs => xs.set! 1 (rawInt ((i : Int) + 1)))))
    refine wpAny_pure ⟨_, rfl, wpAny_pure (hQ _ _ ?_ (ItAt.on (f' := rawInt 0) hne ho hd hf hled hol sb (.text (i + 1) hb hord) ho3 ((Obj.cls_mapFields ..).trans ((Obj.cls_mapFields ..).trans hcI)) ?_) sb)⟩
    · rw [hord, List.getElem?_map, Array.getElem?_toList, Array.getElem?_eq_getElem hi]; rfl
    · rw [Obj.data_mapFields hd2]; simp
  | drawn ps hb hp h1 hT2 hl hall =>
    obtain ⟨oT, hoT, hcT, nT, hdT⟩ := id hT2
    have hip : i < ps.length := by lia
    obtain ⟨e, he1, he2⟩ := hall i ps[i] (List.getElem?_eq_getElem hip)
    show wpAny _ _ (seqItems? (.ref T) >>= _) _ _ s
    refine wpAny_bind (wpAny_seqItems hoT hdT ?_)
    have hat : (ps.map fun (p : Nat) => rawInt p).toArray[(i : Int).toNat]? = some (rawInt (ps[i] : Nat)) := by
      rw [Int.toNat_natCast, List.getElem?_toArray, List.getElem?_map, List.getElem?_eq_getElem hip]; rfl
    dsimp only
    rw [hat]
    show wpAny _ _ (setNextDrawn a ((ps[i] : Nat) : Int).toNat (ep : Int).toNat >>= _) _ _ s
    rw [Int.toNat_natCast, Int.toNat_natCast]
    refine wpAny_bind ?_
    unfold setNextDrawn
    refine wpAny_bind (wpAny_setState_of ho hd hf ?_)
    dsimp only
    rw [if_neg (by simp), he1]
    refine wpAny_pure ?_
    have hTI : T ≠ I := fun e => by
      subst e
      rw [hoI] at hoT
      cases hoT
      rw [hcI] at hcT
      exact absurd hcT (by decide)
    refine wpAny_bind (wpAny_setField hoI hdI (by simp) ?_)
    have ho2 := Heap.get?_update_self _ hoI (Obj.isFreed_of_fields (Obj.data_mapFields hdI (fun xs => xs.set! 1 (rawInt ((i : Int) + 1)))))
    have sb := Heap.SameBut.update s.heap I (Obj.mapFields fun xs => xs.set! 1 (rawInt ((i : Int) + 1)))
    refine wpAny_pure ⟨_, rfl, wpAny_pure (hQ _ _ he2 (ItAt.on (f' := .ref T) hne ho hd hf hled hol sb (.drawn (i + 1) ps hb hp h1 ⟨oT, (sb.2 T hTI).trans hoT, hcT, nT, hdT⟩ hl hall) ho2 ((Obj.cls_mapFields ..).trans hcI) ?_) sb)⟩
    rw [Obj.data_mapFields hdI]; simp
  | small sl hb hs hord h0 h1 =>
    have hi0 : i = 0 := by lia
    have hes : es.size = 1 := by lia
    subst hi0
    have hsl := h0 rfl
    subst hsl
    obtain ⟨p, hp⟩ := one_place hf hes
    show wpAny _ _ (setNext a ((0 : Nat) : Int).toNat ((0 : Nat) : Int).toNat (ep : Int).toNat >>= _) _ _ s
    simp only [Int.toNat_natCast]
    refine wpAny_bind (next_small hb hled hs ho hd hf ?_)
    rw [hp, below_first, Array.getElem?_eq_getElem (show 0 < es.size by lia)]
    show wpAny _ _ (setField (Value.ref I) 0 (rawInt ((p + 1 : Nat) : Int)) >>= _) _ _ s
    refine wpAny_bind (wpAny_setField hoI hdI (by simp) ?_)
    have ho2 := Heap.get?_update_self _ hoI (Obj.isFreed_of_fields (Obj.data_mapFields hdI (fun xs => xs.set! 0 (rawInt ((p + 1 : Nat) : Int)))))
    have hd2 := Obj.data_mapFields hdI (fun xs => xs.set! 0 (rawInt ((p + 1 : Nat) : Int)))
    refine wpAny_bind (wpAny_setField ho2 hd2 (by simp) ?_)
    have sb := (Heap.SameBut.update s.heap I (Obj.mapFields fun xs => xs.set! 0 (rawInt ((p + 1 : Nat) : Int)))).trans (Heap.SameBut.update _ I (Obj.mapFields fun xs => xs.set! 1 (rawInt (((0 : Nat) : Int) + 1))))
    have ho3 := Heap.get?_update_self _ ho2 (Obj.isFreed_of_fields (Obj.data_mapFields hd2 (fun xs => xs.set! 1 (rawInt (((0 : Nat) : Int) + 1)))))
    refine wpAny_pure ⟨_, rfl, wpAny_pure (hQ _ _ ?_ (ItAt.on (f' := rawInt ((p + 1 : Nat) : Int)) hne ho hd hf hled hol sb (.small 1 (p + 1) hb hs hord (fun h => by lia) (fun q _ hq => ?_)) ho3 ((Obj.cls_mapFields ..).trans ((Obj.cls_mapFields ..).trans hcI)) ?_) sb)⟩
    · rw [hord, List.getElem?_map, Array.getElem?_toList, Array.getElem?_eq_getElem (show 0 < es.size by lia)]; rfl
    · rw [hp] at hq
      have : p = q := by simpa using hq
      lia
    · rw [Obj.data_mapFields hd2]; simp
theorem stop_end {f : Obj → Obj} {I : Addr} {Q : Option Value → Shared → Prop} {h1 : Heap} (hh : A.handled = none) (hx : Heap.ExtBut I s.heap h1)
    (hQ : ∀ h' t', Heap.ExtBut I s.heap h' → Q none { s with heap := h', toks := t' }) :
    wpAny (model prog w) A.in1 (do let e ← newExc (Value.type "StopIteration") []; raiseNew e) (fun (fin : Fin) s' => ∃ v, fin = Fin.done (Flow.ret v) ∧ wpAny (model prog w) A (pure (some v)) Q E s')
      (fun e s' => wpAny (model prog w) A (do if ← isInstance e (Value.type "StopIteration") then pure none else throw e) Q E s') { s with heap := h1 } := by
  refine wpAny_bind ?_
  simp only [newExc, newTuple]
  refine wpAny_bind (wpAny_newObj_type ?_ (by size_fits))
  refine wpAny_bind (m := firstArgMember _ _) (wpAny_of_eq (a := Value.none) (by first | rfl | (simp only [firstArgMember]; rfl)) ?_)
  refine wpAny_newObj_type ?_ (by size_fits)
  simp only [raiseNew]
  refine wpAny_bind (wpAny_handled ?_)
  first | rw [show A.in1.handled = none from hh] | rw [hh]
  refine wpAny_bind (wpAny_pure (wpAny_throw ?_))
  refine wpAny_bind (wpAny_isInstance (T := "StopIteration") (b := true) ⟨_, Heap.get?_push_size _ rfl, rfl⟩ isSubtype_stop ?_)
  exact wpAny_pure (hQ _ _ ((hx.push _).push _))
theorem next_end {I a T : Addr} {o : Obj} {es : Array (Int × Value)} {ep : Nat} {t : SetTable} {ord : List Value} {Q : Option Value → Shared → Prop} (hh : A.handled = none) (hI : ItAt prog w I a T o es ep t ord es.size s.heap)
    (hQ : ∀ h' t', Heap.ExtBut I s.heap h' → Q none { s with heap := h', toks := t' }) : wpAny (model prog w) A (pyNext (.ref I)) Q E s := by
  have hT := hI.typeIs
  obtain ⟨ho, hd, hf, hled, hol, f, oI, hw, hoI, hcI, hdI⟩ := hI
  unfold pyNext
  refine wpAny_bind (wpAny_attempt (wpAny_callSpecial?_slot (name := Str.ofString "__next__") hT slot_next
    (wpAny_call_entry slot_next hT entry_next ?_ (args_next _))))
  unfold Builtin.«set_iterator.__next__»
  refine wpAny_bind (wpAny_of_eq (a := (Value.ref I, [])) rfl ?_)
  dsimp only
  refine wpAny_bind (wpAny_fieldsOf hoI hdI ?_)
  show wpAny _ _ (setEntries a >>= _) _ _ s
  refine wpAny_bind (entries_of ho hd hf ?_)
  rw [if_neg (by simp)]
  cases hw with
  | text hb hord =>
    show wpAny _ _ (setNext a (0 : Int).toNat (es.size : Int).toNat (ep : Int).toNat >>= _) _ _ s
    simp only [Int.toNat_natCast]
    refine wpAny_bind (next_text hb ho hd hf ?_)
    have hsz : (pickOrder (w.params.setOrder a ep) es).size = es.size := by
      rw [← Array.length_toList, (pick_perm _ _).length_eq, Array.length_toList]
    rw [Array.getElem?_eq_none (by lia)]
    show wpAny _ _ (setField (Value.ref I) 2 Value.none >>= _) _ _ s
    refine wpAny_bind (wpAny_setField hoI hdI (by simp) ?_)
    exact stop_end (s := s) (f := id) hh (Heap.SameBut.update s.heap I (Obj.mapFields fun xs => xs.set! 2 Value.none)).extBut hQ
  | drawn ps hb hp h1 hT2 hl hall =>
    obtain ⟨oT, hoT, hcT, nT, hdT⟩ := id hT2
    show wpAny _ _ (seqItems? (.ref T) >>= _) _ _ s
    refine wpAny_bind (wpAny_seqItems hoT hdT ?_)
    have hat : (ps.map fun (p : Nat) => rawInt p).toArray[(es.size : Int).toNat]? = none := by
      rw [Int.toNat_natCast, List.getElem?_toArray, List.getElem?_eq_none (by rw [List.length_map]; lia)]
    dsimp only
    rw [hat]
    show wpAny _ _ (setField (Value.ref I) 0 (rawInt 0) >>= _) _ _ s
    refine wpAny_bind (wpAny_setField hoI hdI (by simp) ?_)
    have ho2 := Heap.get?_update_self _ hoI (Obj.isFreed_of_fields (Obj.data_mapFields hdI (fun xs => xs.set! 0 (rawInt 0))))
    have hd2 := Obj.data_mapFields hdI (fun xs => xs.set! 0 (rawInt 0))
    refine wpAny_bind (wpAny_setField ho2 hd2 (by simp) ?_)
    exact stop_end (s := s) (f := id) hh ((Heap.SameBut.update s.heap I (Obj.mapFields fun xs => xs.set! 0 (rawInt 0))).trans (Heap.SameBut.update _ I (Obj.mapFields fun xs => xs.set! 2 Value.none))).extBut hQ
  | small sl hb hs hord h0 h1 =>
    show wpAny _ _ (setNext a (sl : Int).toNat (es.size : Int).toNat (ep : Int).toNat >>= _) _ _ s
    simp only [Int.toNat_natCast]
    refine wpAny_bind (next_small hb hled hs ho hd hf ?_)
    have hnone : es[SetTable.below t.place sl]? = none := by
      by_cases hes : es.size = 1
      · obtain ⟨p, hp⟩ := one_place hf hes
        have := h1 p (by lia) (by rw [hp]; rfl)
        rw [hp, this, below_next]
        exact Array.getElem?_eq_none (by lia)
      · exact Array.getElem?_eq_none (by lia)
    rw [hnone]
    show wpAny _ _ (setField (Value.ref I) 2 Value.none >>= _) _ _ s
    refine wpAny_bind (wpAny_setField hoI hdI (by simp) ?_)
    exact stop_end (s := s) (f := id) hh (Heap.SameBut.update s.heap I (Obj.mapFields fun xs => xs.set! 2 Value.none)).extBut hQ
theorem iter_self {I a T : Addr} {o : Obj} {es : Array (Int × Value)} {ep : Nat} {t : SetTable} {ord : List Value} {i : Nat} {Q : Value → Shared → Prop} (hI : ItAt prog w I a T o es ep t ord i s.heap) (h : Q (.ref I) s) : wpAny (model prog w) A (pyIter (.ref I)) Q E s := by
  refine wpAny_pyIter_slot hI.typeIs slot_sii (wpAny_call_entry slot_sii hI.typeIs entry_sii ?_ (args_sii _))
  show wpAny _ _ (ret (.ref I)) _ _ s
  exact wpAny_pure ⟨_, rfl, "set_iterator", _, hI.typeIs, slot_next.lookup, h⟩
end
end L2.ST

set_option maxHeartbeats 2000000
namespace L2.ST
open PySem PySem.Spec PyProof.Rows
theorem Way.at {w : World} {h h' : Heap} {a T : Addr} {es : Array (Int × Value)} {ep : Nat} {t : SetTable} {ord : List Value} {i : Nat} {f : Value} (x : Way w h a T es ep t ord i f) (k : ∀ o, h.get? T = some o → h'.get? T = some o) : Way w h' a T es ep t ord i f := by
  cases x with
  | text h1 h2 => exact .text _ h1 h2
  | drawn ps h1 h2 h3 h4 h5 h6 =>
    obtain ⟨o, e, r⟩ := h4
    exact .drawn _ ps h1 h2 h3 ⟨o, k _ e, r⟩ h5 h6
  | small sl h1 h2 h3 h4 h5 => exact .small _ sl h1 h2 h3 h4 h5
theorem walks {prog : Program} {w : World} {A : Around} (hh : A.handled = none) (I a T : Addr) (hne : a ≠ I) (o : Obj) (es : Array (Int × Value)) (ep : Nat) (t : SetTable) (ord : List Value) :
    Walks prog w A I [I, a, T] [I] es.size (fun i v => ord[i]? = some v) (fun i h => ItAt prog w I a T o es ep t ord i h) where
  sub := fun b hb => by simp at hb; simp [hb]
  frame := fun i h h' st hk => by
    obtain ⟨h1, h2, h3, h4, h5, f, oI, h6, h7, h8, h9⟩ := st
    exact ⟨hk a (by simp) _ h1, h2, h3, h4, h5, f, oI, h6.at fun o e => hk T (by simp) o e, hk I (by simp) _ h7, h8, h9⟩
  item := fun i s Q E hi st hQ => next_item st hne hi fun v h' hv st' sb => hQ v h' s.toks hv st' fun b o hb e => (sb.2 b (fun z => hb (by simp [z]))).trans e
  done := fun s Q E st hQ => next_end hh st fun h' t' he => hQ h' t' fun b o hb e => he b o (fun z => hb (by simp [z])) e
  self := fun i s Q E st hQ => iter_self st hQ
section
variable {prog : Program} {w : World} {A : Around} {E : Value → Shared → Prop} {s : Shared}
theorem drawn_of {a : Addr} {o : Obj} {es : Array (Int × Value)} {ep : Nat} {t : SetTable} {Q : Bool → Shared → Prop} (ho : s.heap.get? a = some o) (hd : o.data = .set es ep t) (hf : t.fits es.size = true) (h : Q (!byT w && (!t.plain && decide (es.size > 1))) s) : wpAny (model prog w) A (setDrawn a) Q E s := by
  unfold setDrawn
  refine wpAny_bind (wpAny_setState_of ho hd hf ?_)
  dsimp only
  refine wpAny_bind (byText_of ?_)
  exact wpAny_pure h
theorem vals_txt {es : List (Int × Value)} (hel : ElemsOf (PySem.strKind prog w) es) : StrsAre (es.map (·.2)) (es.map fun e => txt e.2) := by
  induction es with
  | nil => exact .nil
  | cons e r ih =>
    obtain ⟨t, ht⟩ := Value.isStrOf_shape (show Value.isStrOf (txt e.2) e.2 = true from txt_is hel (List.mem_cons_self ..))
    have := ih fun x hx => hel x (List.mem_cons_of_mem _ hx)
    show StrsAre (e.2 :: r.map (·.2)) (txt e.2 :: r.map fun e => txt e.2)
    generalize txt e.2 = y at ht ⊢
    rw [ht]
    exact .cons _ _ this
theorem strs_perm {vs : List Value} {ws : List Value} (hp : vs.Perm ws) : ∀ {ys : List Str}, StrsAre ws ys → ∃ zs, StrsAre vs zs ∧ zs.Perm ys := by
  induction hp with
  | nil => intro ys h; exact ⟨ys, h, List.Perm.refl _⟩
  | cons x _ ih =>
    intro ys h
    cases h with
    | cons y t h =>
      obtain ⟨zs, h1, h2⟩ := ih h
      exact ⟨y :: zs, .cons _ _ h1, h2.cons _⟩
  | swap x y l =>
    intro ys h
    cases h with
    | cons a t h =>
      cases h with
      | cons b u h => exact ⟨b :: a :: _, .cons _ _ (.cons _ _ h), List.Perm.swap _ _ _⟩
  | trans _ _ ih1 ih2 =>
    intro ys h
    obtain ⟨zs, h1, h2⟩ := ih2 h
    obtain ⟨us, h3, h4⟩ := ih1 h1
    exact ⟨us, h3, h4.trans h2⟩
/-- iter(set): a new iterator, some order -/
theorem pyIter_set {a : Addr} {ks : List Str} {Q : Value → Shared → Prop} (hS : SSet prog w s.heap a ks)
    (h : ∀ (o : Obj) (es : Array (Int × Value)) (ep : Nat) (t : SetTable) (ord : List Value) (zs : List Str) (I T : Addr) (h' : Heap) (d' : Drawn), ItAt prog w I a T o es ep t ord 0 h' → es.size = ks.length → StrsAre ord zs → zs.Perm ks → s.heap.objs.size ≤ I → (T = a ∨ s.heap.objs.size ≤ T) → (∀ b o, s.heap.get? b = some o → h'.get? b = some o) → Q (.ref I) { s with heap := h', drawn := d' }) :
    wpAny (model prog w) A (pyIter (.ref a)) Q E s := by
  obtain ⟨o, es, ep, t, ho, hex, hd, hel, hf, hpl, hled, hperm, hnd, hks⟩ := hS
  have hT : s.TypeIs (.ref a) "set" := ⟨o, ho, hex.1⟩
  have hsz : es.size = ks.length := by rw [← hperm.length_eq, List.length_map, Array.length_toList]
  have hst := vals_txt hel
  refine wpAny_pyIter_slot hT slot_iter (wpAny_call_entry slot_iter hT entry_iter ?_ (args_iter _))
  unfold Builtin.«frozenset.__iter__»
  refine wpAny_bind (wpAny_of_eq (a := a) rfl ?_)
  refine wpAny_bind (?_ : wpAny _ _ (Builtin.Frozenset.sizeOf a) _ _ s)
  unfold Builtin.Frozenset.sizeOf
  refine wpAny_bind (entries_of ho hd hf (wpAny_pure ?_))
  refine wpAny_bind (drawn_of ho hd hf ?_)
  by_cases hdr : (!byT w && (!t.plain && decide (es.size > 1))) = true
  · rw [hdr]
    have hb : byT w = false := by
      rw [Bool.and_eq_true] at hdr
      simpa using hdr.1
    have hp : t.plain = false ∧ 1 < es.size := by
      rw [Bool.and_eq_true, Bool.and_eq_true] at hdr
      exact ⟨by simpa using hdr.2.1, by simpa using hdr.2.2⟩
    simp only [↓reduceIte]
    refine wpAny_bind (draw es.size (List.range es.size) s (by rw [List.length_range]) fun ps d' hps => ?_)
    have hpl2 : ps.length = es.size := by rw [hps.length_eq, List.length_range]
    have hlen16 : es.size ≤ sizeLine := by rw [sizeLine_eq]; lia
    refine wpAny_bind (m := newObj (.type "tuple") (.seq (ps.map fun (i : Nat) => rawInt i).toArray)) (wpAny_newObj_type ?_ (by show (List.map (fun (i : Nat) => rawInt i) ps).toArray.size ≤ sizeLine; rw [List.size_toArray, List.length_map]; lia))
    have ho1 : (s.heap.push { cls := .type "tuple", data := .seq (ps.map fun (i : Nat) => rawInt i).toArray }).get? a = some o := Heap.get?_push_of_some _ ho
    refine wpAny_bind (wpAny_setEpoch_of (s := { s with heap := s.heap.push { cls := .type "tuple", data := .seq (ps.map fun (i : Nat) => rawInt i).toArray }, drawn := d' }) ho1 hd hf ?_)
    refine wpAny_bind (m := newObj (.type "set_iterator") (.fields #[.ref s.heap.objs.size, rawInt 0, .ref a, rawInt (es.size : Int), rawInt (ep : Int)])) (wpAny_newObj_type ?_)
    have hperm2 : (ps.map fun p => (es.toList.map (·.2)).getD p .none).Perm (es.toList.map (·.2)) := by
      refine (hps.map _).trans ?_
      have e : (List.range es.size).map (fun p => (es.toList.map (·.2)).getD p Value.none) = es.toList.map (·.2) := by
        refine List.ext_getElem (by simp) fun i h1 h2 => ?_
        rw [List.getElem_map, List.getElem_range, List.getD_eq_getElem?_getD, List.getElem?_eq_getElem h2]; rfl
      rw [e]
    obtain ⟨zs, hz1, hz2⟩ := strs_perm hperm2 hst
    have hi1 := Heap.size_push s.heap { cls := .type "tuple", data := .seq (ps.map fun (i : Nat) => rawInt i).toArray }
    refine wpAny_pure ⟨_, rfl, "set_iterator", _, ⟨_, Heap.get?_push_size _ rfl, rfl⟩, slot_next.lookup, h o es ep t (ps.map fun p => (es.toList.map (·.2)).getD p .none) zs _ s.heap.objs.size _ d' ⟨Heap.get?_push_of_some _ ho1, hd, hf, hled, by rw [List.length_map]; exact hpl2, _, _, .drawn 0 ps hb hp.1 hp.2 ?_ hpl2 (fun j p hj => ?_), Heap.get?_push_size _ rfl, rfl, rfl⟩ hsz hz1 (hz2.trans hperm) (by rw [hi1]; exact Nat.le_succ _) (.inr (Nat.le_refl _)) fun b o e => Heap.get?_push_of_some _ (Heap.get?_push_of_some _ e)⟩
    · exact ⟨_, Heap.get?_push_of_some _ (Heap.get?_push_size _ rfl), rfl, _, rfl⟩
    · have hpr : p < es.size := List.mem_range.mp (hps.mem_iff.mp (List.mem_of_getElem? hj))
      refine ⟨es[p], Array.getElem?_eq_getElem hpr, ?_⟩
      rw [List.getElem?_map, hj]
      show some ((es.toList.map (·.2)).getD p .none) = _
      rw [List.getD_eq_getElem?_getD, List.getElem?_map, Array.getElem?_toList, Array.getElem?_eq_getElem hpr]; rfl
  · rw [Bool.not_eq_true] at hdr
    rw [hdr]
    simp only [Bool.false_eq_true, ↓reduceIte]
    refine wpAny_bind (wpAny_pure ?_)
    refine wpAny_bind (wpAny_setEpoch_of ho hd hf ?_)
    refine wpAny_bind (m := newObj (.type "set_iterator") (.fields #[rawInt 0, rawInt 0, .ref a, rawInt (es.size : Int), rawInt (ep : Int)])) (wpAny_newObj_type ?_)
    cases hb : byT w with
    | true =>
      have hperm2 : ((pickOrder (w.params.setOrder a ep) es).toList.map (·.2)).Perm (es.toList.map (·.2)) := (pick_perm _ es).map _
      obtain ⟨zs, hz1, hz2⟩ := strs_perm hperm2 hst
      exact wpAny_pure ⟨_, rfl, "set_iterator", _, ⟨_, Heap.get?_push_size _ rfl, rfl⟩, slot_next.lookup, h o es ep t _ zs _ a _ s.drawn ⟨Heap.get?_push_of_some _ ho, hd, hf, hled, by rw [hperm2.length_eq, List.length_map, Array.length_toList], _, _, .text 0 hb rfl, Heap.get?_push_size _ rfl, rfl, rfl⟩ hsz hz1 (hz2.trans hperm) (Nat.le_refl _) (.inl rfl) fun b o e => Heap.get?_push_of_some _ e⟩
    | false =>
      have hs1 : es.size ≤ 1 := by
        rw [hb] at hdr
        rcases hpl with h0 | h0
        · lia
        · rw [h0] at hdr
          simpa using hdr
      exact wpAny_pure ⟨_, rfl, "set_iterator", _, ⟨_, Heap.get?_push_size _ rfl, rfl⟩, slot_next.lookup, h o es ep t _ _ _ a _ s.drawn ⟨Heap.get?_push_of_some _ ho, hd, hf, hled, by rw [List.length_map, Array.length_toList], _, _, .small 0 0 hb hs1 rfl (fun _ => rfl) (fun p h0 => by lia), Heap.get?_push_size _ rfl, rfl, rfl⟩ hsz hst hperm (Nat.le_refl _) (.inl rfl) fun b o e => Heap.get?_push_of_some _ e⟩
theorem len_set : typeLookup (.type "set") "__len__" = pure (some (.builtin "set.__len__")) := by rw [typeLookup_type, builtinLookup_eq_fast]; kernel_rfl
theorem hint_set {r : Addr} {Q : Bool → Shared → Prop} (hT : s.TypeIs (.ref r) "set") (h : Q false s) : wpAny (model prog w) A (Builtin.List.listLengthHint (.ref r)) Q E s := by
  unfold Builtin.List.listLengthHint
  refine wpAny_bind (wpAny_specialOf hT len_set ?_)
  generalize hid : ("set.__len__" : String) = id0
  wp_delta
  rw [show splitId id0 = some ("set", "__len__") from by subst hid; decide +kernel]
  subst hid
  refine wpAny_bind (wpAny_isInstance (T := "set") (b := true) hT (by rw [isSubtype_type]; kernel_rfl) ?_)
  refine wpAny_ite_split (fun hab => absurd hab (by decide)) (fun _ => ?_)
  refine wpAny_ite_split (fun _ => ?_) (fun hab => absurd (by decide +kernel) hab)
  refine wpAny_bind (wpAny_typeOf hT ?_)
  exact wpAny_pure h
theorem collect_set {a : Addr} {ks : List Str} {R : List Value → Shared → Prop} (hh : A.handled = none) (hS : SSet prog w s.heap a ks)
    (h : ∀ (h' : Heap) (tk : Nat) (d' : Drawn) (vs : List Value) (zs : List Str), (∀ b o, s.heap.get? b = some o → h'.get? b = some o) → StrsAre vs zs → zs.Perm ks → R vs { s with heap := h', toks := tk, drawn := d' }) :
    wpAny (model prog w) A (collect (.ref a)) R E s := by
  unfold collect
  refine wpAny_bind (wpAny_runValue (codeAny_builtin PyProof.Rows.entry_proto_collect' ?_))
  rw [Around.under_plainId PySem.F.plain_proto_collect _]
  show wpAny _ A.in1 (newList [] >>= fun l => again (.builtin "list.__iadd__" ⟨[l, .ref a], []⟩)) _ _ s
  refine wpAny_bind (wpAny_newObj_type ?_)
  refine wpAny_pure ⟨plainId_quiet PySem.F.plain_list_iadd _, codeAny_builtin PyProof.Rows.entry_list_iadd' ?_⟩
  rw [Around.under_plainId PySem.F.plain_list_iadd _]
  have hL : (s.heap.push { cls := .type "list", data := .seq ([] : List Value).toArray }).get? s.heap.objs.size = some { cls := .type "list", data := .seq #[] } := Heap.get?_push_size _ rfl
  show wpAny _ A.in1 (Builtin.List.listExtendWith (.ref s.heap.objs.size) (.ref a) (.ref s.heap.objs.size)) _ _ _
  have hal : a < s.heap.objs.size := by obtain ⟨o, _, _, _, ho, _⟩ := hS; exact Heap.lt_size ho
  have hS1 : SSet prog w (s.heap.push { cls := .type "list", data := .seq ([] : List Value).toArray }) a ks := by
    obtain ⟨o, es, ep, t, ho, r⟩ := hS
    exact ⟨o, es, ep, t, Heap.get?_push_of_some _ ho, r⟩
  have hT1 : Shared.TypeIs { s with heap := s.heap.push { cls := .type "list", data := .seq ([] : List Value).toArray } } (.ref a) "set" := by
    obtain ⟨o, _, _, _, ho, hex, _⟩ := hS1
    exact ⟨o, ho, hex.1⟩
  unfold Builtin.List.listExtendWith
  refine wpAny_bind (wpAny_typeOf (T := "set") hT1 ?_)
  have h1 : Builtin.List.listSameRef (.ref s.heap.objs.size) (.ref a) = false := by simp [Builtin.List.listSameRef, Nat.ne_of_gt hal]
  have h2 : (Value.type "set" == Value.type "list") = false := by decide
  have h3 : (Value.type "set" == Value.type "tuple") = false := by decide
  simp only [h1, h2, h3, Bool.or_false, Bool.false_eq_true, if_false]
  refine wpAny_bind (pyIter_set hS1 fun o es ep t ord zs I T h' d' hI hsz hst hzp hI1 hT2 hk => ?_)
  have hsz1 := Heap.size_push s.heap { cls := .type "list", data := .seq ([] : List Value).toArray }
  have hI1 : s.heap.objs.size + 1 ≤ I := by rw [← hsz1]; exact hI1
  have hT2 : T = a ∨ s.heap.objs.size + 1 ≤ T := by rw [← hsz1]; exact hT2
  have hks : ks.length < 1000 := by obtain ⟨_, _, _, _, _, _, _, _, _, _, _, _, _, hks⟩ := hS; exact hks
  have hL2 := hk _ _ hL
  have hT3 : Shared.TypeIs { s with heap := h', drawn := d' } (.ref a) "set" := by
    obtain ⟨o, ho, hc⟩ := hT1
    exact ⟨o, hk _ _ ho, hc⟩
  have hne : a ≠ I := Nat.ne_of_lt (Nat.lt_of_lt_of_le hal (Nat.le_of_succ_le hI1))
  have hSf : s.heap.objs.size ∉ [I, a, T] := by
    simp only [List.mem_cons, List.not_mem_nil, or_false, not_or]
    exact ⟨Nat.ne_of_lt hI1, Nat.ne_of_gt hal, by
      cases hT2 with
      | inl e => exact e ▸ Nat.ne_of_gt hal
      | inr e => exact Nat.ne_of_lt e⟩
  refine wpAny_bind (wpAny_holding (hint_set hT3 ?_))
  have key : ∀ (h2 : Heap) (c1 : Nat), ItAt prog w I a T o es ep t ord 0 h2 → (∀ b ob, b ≠ s.heap.objs.size → h'.get? b = some ob → h2.get? b = some ob) → h2.get? s.heap.objs.size = some { cls := .type "list", data := .seq #[] c1 } →
      codeAny (model prog w) A (.builtin "list.extend.loop" ⟨[.ref s.heap.objs.size, .ref I, .ref s.heap.objs.size], []⟩) (fun (q : Result) (s' : Shared) => ∃ (h3 : Heap) (tk : Nat) (acc : Array Value) (c : Nat), q = .ok (.ret (.ref s.heap.objs.size)) ∧ s' = { s with heap := h3, toks := tk, drawn := d' } ∧
        (∀ b ob, s.heap.get? b = some ob → h3.get? b = some ob) ∧ h3.get? s.heap.objs.size = some { cls := .type "list", dict := none, data := .seq acc c, slots := #[] } ∧ acc.toList = ord) { s with heap := h2, drawn := d' } := by
    intro h2 c1 hI2 hk2 hL3
    refine codeAny_extend_loopS (walks (prog := prog) (w := w) (A := A.in1) hh I a T hne o es ep t ord).toS (by rw [sizeLine_eq]; lia) s.heap.objs.size hSf (.ref s.heap.objs.size) es.size 0 _ #[] c1 rfl (Nat.zero_le _) hI2 hL3 (ItemsOf.nil _) fun s' acc' c' hm hS' hacc => ?_
    obtain ⟨h3, g3, d3, tk3, os3⟩ := s'
    have eg : g3 = s.gens := hm.gens
    have ed : d3 = d' := hm.drawn
    have eo : os3 = s.os := hm.os
    subst eg; subst ed; subst eo
    refine ⟨h3, tk3, acc', c', rfl, rfl, fun b ob e => ?_, hS', ?_⟩
    · have hb := Heap.lt_size e
      refine hm.heap b ob ?_ (hk2 b ob (Nat.ne_of_lt hb) (hk b ob (Heap.get?_push_of_some _ e)))
      simp only [List.mem_cons, List.not_mem_nil, or_false, not_or]
      exact ⟨Nat.ne_of_lt hb, Nat.ne_of_lt (Nat.lt_trans hb hI1)⟩
    · obtain ⟨_, _, _, _, hol, _⟩ := hI2
      refine List.ext_getElem? fun j => ?_
      by_cases hj : j < es.size
      · have hj2 : j < acc'.size := by rw [hacc.1]; exact hj
        have := hacc.2 j acc'[j] (Array.getElem?_eq_getElem hj2)
        rw [this, Array.getElem?_toList, Array.getElem?_eq_getElem hj2]
      · rw [List.getElem?_eq_none (by rw [Array.length_toList, hacc.1]; lia), List.getElem?_eq_none (by lia)]
  have fin : ∀ (q : Result) (s' : Shared), (∃ (h3 : Heap) (tk : Nat) (acc : Array Value) (c : Nat), q = .ok (.ret (.ref s.heap.objs.size)) ∧ s' = { s with heap := h3, toks := tk, drawn := d' } ∧
        (∀ b ob, s.heap.get? b = some ob → h3.get? b = some ob) ∧ h3.get? s.heap.objs.size = some { cls := .type "list", dict := none, data := .seq acc c, slots := #[] } ∧ acc.toList = ord) → True := fun _ _ _ => trivial
  refine wpAny_ite_split (fun _ => ?_) (fun hn => absurd (by decide) hn)
  refine wpAny_bind (wpAny_rule ?_)
  refine wpAny_bind ?_
  show wpAny _ _ (updateSeq s.heap.objs.size (·.push .none) >>= fun _ => updateSeq s.heap.objs.size (·.pop)) _ _ _
  refine wpAny_bind (wpAny_updateSeq (s := { s with heap := h', drawn := d' }) hL2 rfl ?_)
  have hL4 := Heap.get?_update_self (Obj.mapSeq (·.push Value.none)) hL2 rfl
  refine wpAny_updateSeq (hz := by seq_fits) hL4 rfl ?_
  have hL5 := Heap.get?_update_self (Obj.mapSeq (·.pop)) hL4 rfl
  have oth : ∀ b ob, b ≠ s.heap.objs.size → h'.get? b = some ob → ((h'.update s.heap.objs.size (Obj.mapSeq (·.push Value.none))).update s.heap.objs.size (Obj.mapSeq (·.pop))).get? b = some ob := fun b ob hb e => (Heap.get?_update_other _ _ (Ne.symm hb)).trans ((Heap.get?_update_other _ _ (Ne.symm hb)).trans e)
  refine wpAny_pure ⟨plainId_quiet PySem.F.plain_extend_loop _, codeAny_mono (key _ _ ((walks (prog := prog) (w := w) (A := A.in1) hh I a T hne o es ep t ord).frame 0 _ _ hI fun b hb ob e => oth b ob (fun z => hSf (z ▸ hb)) e) oth hL5) fun q s' x => ?_⟩
  obtain ⟨h3, tk, acc, c, rfl, rfl, hk3, hL6, hacc⟩ := x
  show wpAny _ A (load s.heap.objs.size >>= _) _ _ _
  refine wpAny_bind (wpAny_load hL6 ?_)
  refine wpAny_pure ?_
  rw [hacc]
  exact h h3 tk d' ord zs hk3 hst hzp
end
end L2.ST

set_option maxHeartbeats 2000000
/-! sorted(set(a tuple of texts)) -/
namespace L2
open PySem PySem.Spec PyProof.Rows
section
variable {X : Cx}
theorem Inv.drawnAs {pins : List (Addr × Obj)} {σ : St} {H : Hp} {s : Shared} {d : Drawn} (I : Inv X pins σ H s) : Inv X pins σ H { s with drawn := d } :=
  ⟨I.ok, I.os, I.bare, I.base, I.loc, I.cell, I.free, I.freeC, I.pin, I.hok, I.len⟩
theorem vals_strs : ∀ {xs : List Str} {us : List Value}, Vals (xs.map V.str) us → StrsAre us xs
  | [], [], _ => .nil
  | x :: xs, [], r => nomatch r
  | [], u :: us, r => nomatch r
  | x :: xs, u :: us, .cons h t => by
    obtain ⟨k, rfl⟩ := h
    exact .cons x k (vals_strs t)
theorem leS_anti {a b : Str} (h1 : leS a b) (h2 : leS b a) : a = b := by
  unfold leS at h1 h2
  rw [ltCps_eq, decide_eq_false_iff_not] at h1 h2
  have : a.cps.toList = b.cps.toList := List.le_antisymm (List.not_lt.mp h1) (List.not_lt.mp h2)
  cases a with | mk x => cases b with | mk y => exact congrArg Str.mk (Array.toList_inj.mp this)
end
end L2

set_option maxHeartbeats 2000000
/-! two tuples walked together -/
namespace L2.ZT
open PySem PySem.Spec PyProof.Rows
section
variable {prog : Program} {w : World} {A : Around} {E : Value → Shared → Prop} {s : Shared}
theorem step_item {q tp : Addr} {j : Nat} {us : Array Value} {y : Value} {R : Value → Shared → Prop} (hq : s.heap.IsTupleIter q tp j) (htp : s.heap.IsTuple tp us) (hy : us[j]? = some y)
    (hR : ∀ g, g.IsTupleIter q tp (j + 1) → Heap.SameBut q s.heap g → R y { s with heap := g }) : wpAny (model prog w) A (Builtin.SmallTypes.nextOf (.ref q)) R E s := by
  obtain ⟨oq, eq1, cq, dq⟩ := id hq
  obtain ⟨ot, et, _, nt, dt⟩ := htp
  unfold Builtin.SmallTypes.nextOf
  refine wpAny_bind (wpAny_callSpecial?_slot (name := Str.ofString "__next__") hq.typeIs F.slot_tuple_iterator_next (wpAny_call_entry F.slot_tuple_iterator_next hq.typeIs F.entry_tuple_iterator_next ?_ (F.args_tuple_iterator_next_1 _)))
  show wpAny _ _ (field (.ref q) 0 >>= _) _ _ s
  refine wpAny_bind (wpAny_field eq1 dq (x := .ref tp) rfl ?_)
  show wpAny _ _ (if (Value.ref tp == Value.none) = true then _ else _) _ _ s
  rw [if_neg (show ¬ ((Value.ref tp == Value.none) = true) from Bool.false_ne_true)]
  show wpAny _ _ (field (.ref q) 1 >>= _) _ _ s
  refine wpAny_bind (wpAny_field eq1 dq (x := .int j 0) rfl ?_)
  show wpAny _ _ (seqItems? (.ref tp) >>= _) _ _ s
  refine wpAny_bind (wpAny_seqItems et dt ?_)
  simp only [Int.toNat_natCast, hy]
  refine wpAny_bind (wpAny_setField eq1 dq (by simp) (wpAny_pure ⟨y, rfl, wpAny_pure (hR _ ?_ (Heap.SameBut.update ..))⟩))
  exact ⟨_, Heap.get?_update_self _ eq1 (Obj.isFreed_of_fields (Obj.data_mapFields dq _)), (Obj.cls_mapFields ..).trans cq, by rw [Obj.data_mapFields dq]; simp [rawInt]⟩
theorem step_end {q tp : Addr} {j : Nat} {us : Array Value} {R : Value → Shared → Prop} (nh : A.handled = none) (hq : s.heap.IsTupleIter q tp j) (htp : s.heap.IsTuple tp us) (hy : us[j]? = none)
    (hX : ∀ g e, Heap.ExtBut q s.heap g → (∃ o, g.get? e = some o ∧ o.cls = .type "StopIteration") → E (.ref e) { s with heap := g }) : wpAny (model prog w) A (Builtin.SmallTypes.nextOf (.ref q)) R E s := by
  obtain ⟨oq, eq1, cq, dq⟩ := id hq
  obtain ⟨ot, et, _, nt, dt⟩ := htp
  unfold Builtin.SmallTypes.nextOf
  refine wpAny_bind (wpAny_callSpecial?_slot (name := Str.ofString "__next__") hq.typeIs F.slot_tuple_iterator_next (wpAny_call_entry F.slot_tuple_iterator_next hq.typeIs F.entry_tuple_iterator_next ?_ (F.args_tuple_iterator_next_1 _)))
  show wpAny _ _ (field (.ref q) 0 >>= _) _ _ s
  refine wpAny_bind (wpAny_field eq1 dq (x := .ref tp) rfl ?_)
  show wpAny _ _ (if (Value.ref tp == Value.none) = true then _ else _) _ _ s
  rw [if_neg (show ¬ ((Value.ref tp == Value.none) = true) from Bool.false_ne_true)]
  show wpAny _ _ (field (.ref q) 1 >>= _) _ _ s
  refine wpAny_bind (wpAny_field eq1 dq (x := .int j 0) rfl ?_)
  show wpAny _ _ (seqItems? (.ref tp) >>= _) _ _ s
  refine wpAny_bind (wpAny_seqItems et dt ?_)
  simp only [Int.toNat_natCast, hy]
  refine wpAny_bind (wpAny_rule (wpAny_bind (wpAny_setField eq1 dq (by simp) (wpAny_bind (m := newExc (.type "StopIteration") []) ?_))))
  simp only [newExc, newTuple]
  refine wpAny_bind (wpAny_newObj_type (wpAny_bind (m := firstArgMember _ _) (wpAny_of_eq (a := Value.none) (by first | rfl | (simp only [firstArgMember]; rfl)) (wpAny_newObj_type ?_ (by size_fits)))) (by size_fits))
  simp only [raiseNew]
  refine wpAny_bind (wpAny_handled ?_)
  rw [show A.in1.handled = none from nh]
  exact wpAny_bind (wpAny_pure (wpAny_throw (hX _ _ (((Heap.SameBut.update ..).extBut.push _).push _) ⟨_, Heap.get?_push_size _ rfl, rfl⟩)))
section
variable {z TI TO p r a b : Addr} {us vs : Array Value} {o1 o2 : Value} {m n : Nat}
theorem zip_item {x y : Value} {R : Value → Shared → Prop} (ap : ZipApart z TI TO p r a b) (hz : IsZip s.heap z TI TO .none) (hI : IsPair s.heap TI (.ref p) (.ref r)) (hO : IsPair s.heap TO o1 o2)
    (hp : s.heap.IsTupleIter p a m) (hr : s.heap.IsTupleIter r b n) (ha : s.heap.IsTuple a us) (hb : s.heap.IsTuple b vs) (hx : us[m]? = some x) (hy : vs[n]? = some y)
    (hR : ∀ g, IsZip g z TI TO (rawInt s.heap.objs.size) → IsPair g TO x y → g.IsTupleIter p a (m + 1) → g.IsTupleIter r b (n + 1) → IsPair g s.heap.objs.size x y → g.objs.size = s.heap.objs.size + 1 →
      (∀ c o, c ≠ z → c ≠ TO → c ≠ p → c ≠ r → s.heap.get? c = some o → g.get? c = some o) → R (.ref s.heap.objs.size) { s with heap := g }) :
    wpAny (model prog w) A (Builtin.«zip.__next__» ⟨[.ref z], []⟩) (fun fin s' => ∃ v, fin = .done (.ret v) ∧ R v s') E s := by
  show wpAny _ _ (field (.ref z) 2 >>= _) _ _ _
  refine wpAny_bind (wpAny_field hz rfl (x := .bool false) rfl (wpAny_bind (m := field (.ref z) 3) (wpAny_field hz rfl (x := .ref TI) rfl (wpAny_bind (wpAny_seqItems hI rfl ?_)))))
  show wpAny _ _ (Builtin.SmallTypes.ownedTupleIsFree (.ref z) >>= _) _ _ _
  unfold Builtin.SmallTypes.ownedTupleIsFree
  refine wpAny_bind (wpAny_bind (wpAny_field hz rfl (x := .none) rfl (wpAny_pure ?_)))
  simp only [if_true]
  refine wpAny_bind (wpAny_rule (wpAny_bind (wpAny_field hz rfl (x := .ref TO) rfl (wpAny_bind (wpAny_setField_rec hz (by simp) fun g1 z1 k1 => wpAny_bind ?_)))))
  have z1 : IsZip g1 z TI TO .ellipsis := z1
  simp only [List.zipIdx_cons, List.zipIdx_nil, List.forIn_cons, List.forIn_nil]
  refine wpAny_bind (wpAny_bind (wpAny_onRaise (wpAny_bind (m := Builtin.SmallTypes.nextOf (.ref p)) (step_item (hp.extBut k1.extBut ap.i1z) (ha.extBut k1.extBut ap.l1z) hx fun g2 p2 k2 => wpAny_pure ?_))))
  have O2 : IsPair g2 TO o1 o2 := k2.extBut _ _ ap.TOi1 (k1.extBut _ _ ap.TOz hO)
  refine wpAny_bind (wpAny_seqItems O2 rfl (wpAny_bind (wpAny_updateSeq_pair O2 fun g3 O3 k3 => wpAny_bind (wpAny_letGo (wpAny_pure ?_)))))
  have O3 : IsPair g3 TO x o2 := O3
  refine wpAny_bind (wpAny_bind (wpAny_onRaise (wpAny_bind (m := Builtin.SmallTypes.nextOf (.ref r)) (step_item (((hr.extBut k1.extBut ap.i2z).extBut k2.extBut ap.i12.symm).extBut k3.extBut ap.TOi2.symm)
    (((hb.extBut k1.extBut ap.l2z).extBut k2.extBut ap.l2i1).extBut k3.extBut ap.l2TO) hy fun g4 r4 k4 => wpAny_pure ?_))))
  have O4 : IsPair g4 TO x o2 := k4.extBut _ _ ap.TOi2 O3
  refine wpAny_bind (wpAny_seqItems O4 rfl (wpAny_bind (wpAny_updateSeq_pair O4 fun g5 O5 k5 => wpAny_bind (wpAny_letGo (wpAny_pure (wpAny_pure ?_))))))
  have O5 : IsPair g5 TO x y := O5
  refine wpAny_bind (wpAny_seqItems O5 rfl (wpAny_bind (wpAny_newTuple ?_)))
  have sz : g5.objs.size = s.heap.objs.size := by rw [k5.1, k4.1, k3.1, k2.1, k1.1]
  have z5 : IsZip g5 z TI TO .ellipsis := k5.extBut _ _ ap.TOz.symm (k4.extBut _ _ ap.i2z.symm (k3.extBut _ _ ap.TOz.symm (k2.extBut _ _ ap.i1z.symm z1)))
  have k05 : ∀ c o, c ≠ z → c ≠ TO → c ≠ p → c ≠ r → s.heap.get? c = some o → g5.get? c = some o := fun c o n1 n2 n3 n4 e => k5.extBut _ _ n2 (k4.extBut _ _ n4 (k3.extBut _ _ n2 (k2.extBut _ _ n3 (k1.extBut _ _ n1 e))))
  have p5 : g5.IsTupleIter p a (m + 1) := ((p2.extBut k3.extBut ap.TOi1.symm).extBut k4.extBut ap.i12).extBut k5.extBut ap.TOi1.symm
  have r5 : g5.IsTupleIter r b (n + 1) := r4.extBut k5.extBut ap.TOi2.symm
  have zl : z < g5.objs.size := Heap.lt_size z5
  show wpAny _ _ (Builtin.SmallTypes.ownedTupleHandOut (.ref z) (.ref g5.objs.size) >>= _) _ _ _
  unfold Builtin.SmallTypes.ownedTupleHandOut
  have z6 : IsZip (g5.push { cls := .type "tuple", data := .seq #[x, y] }) z TI TO .ellipsis := Heap.get?_push_of_some _ z5
  refine wpAny_bind (wpAny_bind (wpAny_setField_rec z6 (by simp) fun g7 z7 k7 => ?_))
  have z7 : IsZip g7 z TI TO (rawInt g5.objs.size) := z7
  refine wpAny_setField_rec z7 (by simp) fun g8 z8 k8 => ?_
  have z8 : IsZip g8 z TI TO (rawInt g5.objs.size) := z8
  have up : ∀ c o, c ≠ z → g5.get? c = some o → g8.get? c = some o := fun c o n1 e => k8.extBut _ _ n1 (k7.extBut _ _ n1 (Heap.get?_push_of_some _ e))
  have T8 : IsPair g8 g5.objs.size x y := k8.extBut _ _ (Nat.ne_of_gt zl) (k7.extBut _ _ (Nat.ne_of_gt zl) (Heap.get?_push_size _ rfl))
  have s8 : g8.objs.size = g5.objs.size + 1 := by rw [k8.1, k7.1, Heap.size_push]
  rw [sz] at z8 T8 s8
  refine wpAny_pure ⟨_, rfl, (?_ : R (.ref g5.objs.size) _)⟩
  rw [sz]
  exact hR g8 z8 (up _ _ ap.TOz O5) (p5.at fun o e => up _ o ap.i1z e) (r5.at fun o e => up _ o ap.i2z e) T8 s8 fun c o n1 n2 n3 n4 e => up c o n1 (k05 c o n1 n2 n3 n4 e)
theorem zip_end {R : Fin → Shared → Prop} (nh : A.handled = none) (ap : ZipApart z TI TO p r a b) (hz : IsZip s.heap z TI TO .none) (hI : IsPair s.heap TI (.ref p) (.ref r)) (hO : IsPair s.heap TO o1 o2)
    (hp : s.heap.IsTupleIter p a m) (hr : s.heap.IsTupleIter r b n) (ha : s.heap.IsTuple a us) (hb : s.heap.IsTuple b vs) (hend : us[m]? = none ∨ vs[n]? = none)
    (hX : ∀ g e, (∀ c o, c ≠ z → c ≠ TO → c ≠ p → c ≠ r → s.heap.get? c = some o → g.get? c = some o) → (∃ o, g.get? e = some o ∧ o.cls = .type "StopIteration") → E (.ref e) { s with heap := g }) :
    wpAny (model prog w) A (Builtin.«zip.__next__» ⟨[.ref z], []⟩) R E s := by
  show wpAny _ _ (field (.ref z) 2 >>= _) _ _ _
  refine wpAny_bind (wpAny_field hz rfl (x := .bool false) rfl (wpAny_bind (m := field (.ref z) 3) (wpAny_field hz rfl (x := .ref TI) rfl (wpAny_bind (wpAny_seqItems hI rfl ?_)))))
  show wpAny _ _ (Builtin.SmallTypes.ownedTupleIsFree (.ref z) >>= _) _ _ _
  unfold Builtin.SmallTypes.ownedTupleIsFree
  refine wpAny_bind (wpAny_bind (wpAny_field hz rfl (x := .none) rfl (wpAny_pure ?_)))
  simp only [if_true]
  refine wpAny_bind (wpAny_rule (wpAny_bind (wpAny_field hz rfl (x := .ref TO) rfl (wpAny_bind (wpAny_setField_rec hz (by simp) fun g1 z1 k1 => wpAny_bind ?_)))))
  have z1 : IsZip g1 z TI TO .ellipsis := z1
  simp only [List.zipIdx_cons, List.zipIdx_nil, List.forIn_cons, List.forIn_nil]
  refine wpAny_bind (wpAny_bind (wpAny_onRaise (wpAny_bind (m := Builtin.SmallTypes.nextOf (.ref p)) ?_)))
  have off : ∀ {g : Heap} {e : Addr} {oe : Obj}, IsZip g z TI TO .ellipsis → g.get? e = some oe → oe.cls = .type "StopIteration" → e ≠ z := fun hg he hc y => by subst y; rw [hg] at he; cases he; simp at hc
  cases hx : us[m]? with
  | none =>
    refine step_end nh (hp.extBut k1.extBut ap.i1z) (ha.extBut k1.extBut ap.l1z) hx fun g2 e k2 ⟨oe, he, ce⟩ => ?_
    have z2 : IsZip g2 z TI TO .ellipsis := k2 _ _ ap.i1z.symm z1
    exact wpAny_setField_rec z2 (by simp) fun g3 _ k3 => hX g3 e (fun c o n1 _ n3 _ q => k3.extBut _ _ n1 (k2 _ _ n3 (k1.extBut _ _ n1 q))) ⟨oe, k3.extBut _ _ (off z2 he ce) he, ce⟩
  | some x =>
    have hy : vs[n]? = none := hend.resolve_left (by rw [hx]; exact fun h => nomatch h)
    refine step_item (hp.extBut k1.extBut ap.i1z) (ha.extBut k1.extBut ap.l1z) hx fun g2 p2 k2 => wpAny_pure ?_
    have O2 : IsPair g2 TO o1 o2 := k2.extBut _ _ ap.TOi1 (k1.extBut _ _ ap.TOz hO)
    refine wpAny_bind (wpAny_seqItems O2 rfl (wpAny_bind (wpAny_updateSeq_pair O2 fun g3 O3 k3 => wpAny_bind (wpAny_letGo (wpAny_pure ?_)))))
    refine wpAny_bind (wpAny_bind (wpAny_onRaise (wpAny_bind (m := Builtin.SmallTypes.nextOf (.ref r)) (step_end nh (((hr.extBut k1.extBut ap.i2z).extBut k2.extBut ap.i12.symm).extBut k3.extBut ap.TOi2.symm)
      (((hb.extBut k1.extBut ap.l2z).extBut k2.extBut ap.l2i1).extBut k3.extBut ap.l2TO) hy fun g4 e k4 ⟨oe, he, ce⟩ => ?_))))
    have z4 : IsZip g4 z TI TO .ellipsis := k4 _ _ ap.i2z.symm (k3.extBut _ _ ap.TOz.symm (k2.extBut _ _ ap.i1z.symm z1))
    exact wpAny_setField_rec z4 (by simp) fun g5 _ k5 => hX g5 e (fun c o n1 n2 n3 n4 q => k5.extBut _ _ n1 (k4 _ _ n4 (k3.extBut _ _ n2 (k2.extBut _ _ n3 (k1.extBut _ _ n1 q))))) ⟨oe, k5.extBut _ _ (off z4 he ce) he, ce⟩
end
abbrev g1 (h : Heap) (a : Addr) : Heap := h.push { cls := .type "tuple_iterator", data := .fields #[.ref a, .int 0 0] }
abbrev g2 (h : Heap) (a b : Addr) : Heap := (g1 h a).push { cls := .type "tuple_iterator", data := .fields #[.ref b, .int 0 0] }
abbrev g3 (h : Heap) (a b : Addr) : Heap := (g2 h a b).push { cls := .type "tuple", data := .seq #[.ref h.objs.size, .ref (g1 h a).objs.size] }
abbrev g4 (h : Heap) (a b : Addr) : Heap := (g3 h a b).push { cls := .type "tuple", data := .seq #[.none, .none] }
abbrev g5 (h : Heap) (a b : Addr) : Heap := (g4 h a b).push { cls := .type "zip", data := .fields #[.none, .bool false, .bool false, .ref (g2 h a b).objs.size, .ref (g3 h a b).objs.size] }
theorem meets_new (a b : Addr) (us vs : Array Value) : Meets (Builtin.«zip.__new__» ⟨[.type "zip", .ref a, .ref b], []⟩) (fun _ R s => s.heap.IsTuple a us ∧ s.heap.IsTuple b vs ∧ R (.ok (.ret (.ref (g4 s.heap a b).objs.size))) { s with heap := g5 s.heap a b }) :=
  .of_wp fun prog w A R s h => by
    obtain ⟨hp, gs, dr, tk, os⟩ := s
    obtain ⟨ha, hb, h⟩ := h
    have sub := sub_zip
    have ha1 : Heap.IsTuple (Shared.heap ⟨hp, gs, dr, tk, os⟩) a us := ha
    have hb1 : Heap.IsTuple (Shared.heap ⟨hp.push { cls := .type "tuple_iterator", data := .fields #[.ref a, .int 0 0] }, gs, dr, tk, os⟩) b vs := Heap.IsTuple.push hb _
    wp_walk using wpAny_pyIter_tuple ha1, wpAny_pyIter_tuple hb1
    exact ⟨_, rfl, h⟩
theorem call_zip {a b : Addr} {us vs : Array Value} {R : Value → Shared → Prop} (ha : s.heap.IsTuple a us) (hb : s.heap.IsTuple b vs)
    (h : ∀ g, IsZip g (s.heap.objs.size + 4) (s.heap.objs.size + 2) (s.heap.objs.size + 3) .none → IsPair g (s.heap.objs.size + 2) (.ref s.heap.objs.size) (.ref (s.heap.objs.size + 1)) → IsPair g (s.heap.objs.size + 3) .none .none →
      g.IsTupleIter s.heap.objs.size a 0 → g.IsTupleIter (s.heap.objs.size + 1) b 0 → (∀ c o, s.heap.get? c = some o → g.get? c = some o) → R (.ref (s.heap.objs.size + 4)) { s with heap := g }) :
    wpAny (model prog w) A (call (.type "zip") [.ref a, .ref b]) R E s := by
  refine callType_new F.called_zip (by decide) (F.typeCall_zip_2 _ _) (F.newCall_zip_2 _ _) (fun obj => F.args_object_init_3 obj _ _) F.entry_zip_new (meets_new a b us vs) ⟨ha, hb, ?_⟩
  have s1 : (g1 s.heap a).objs.size = s.heap.objs.size + 1 := Heap.size_push ..
  have s2 : (g2 s.heap a b).objs.size = s.heap.objs.size + 2 := by rw [Heap.size_push, s1]
  have s3 : (g3 s.heap a b).objs.size = s.heap.objs.size + 3 := by rw [Heap.size_push, s2]
  have s4 : (g4 s.heap a b).objs.size = s.heap.objs.size + 4 := by rw [Heap.size_push, s3]
  have e5 : (g5 s.heap a b).get? (g4 s.heap a b).objs.size = some _ := Heap.get?_push_size _ rfl
  have e4 : (g5 s.heap a b).get? (g3 s.heap a b).objs.size = some _ := Heap.get?_push_of_some _ (Heap.get?_push_size _ rfl)
  have e3 : (g5 s.heap a b).get? (g2 s.heap a b).objs.size = some _ := Heap.get?_push_of_some _ (Heap.get?_push_of_some _ (Heap.get?_push_size _ rfl))
  have e2 : (g5 s.heap a b).get? (g1 s.heap a).objs.size = some _ := Heap.get?_push_of_some _ (Heap.get?_push_of_some _ (Heap.get?_push_of_some _ (Heap.get?_push_size _ rfl)))
  have e1 : (g5 s.heap a b).get? s.heap.objs.size = some _ := Heap.get?_push_of_some _ (Heap.get?_push_of_some _ (Heap.get?_push_of_some _ (Heap.get?_push_of_some _ (Heap.get?_push_size _ rfl))))
  show _ ∧ _
  rw [s2, s3, s4] at e5
  rw [s1, s2] at e3
  rw [s3] at e4
  rw [s1] at e2
  rw [s4]
  exact ⟨⟨_, e5, rfl⟩, h _ e5 e3 e4 ⟨_, e1, rfl, rfl⟩ ⟨_, e2, rfl, rfl⟩ fun c o x => Heap.get?_push_of_some _ (Heap.get?_push_of_some _ (Heap.get?_push_of_some _ (Heap.get?_push_of_some _ (Heap.get?_push_of_some _ x))))⟩
end
end L2.ZT
namespace L2
open PySem PySem.Spec PyProof.Rows
/-- two tuples walked together -/
def Itu (K : PySem.W.Frag) (l1 l2 : Addr) : It :=
  ⟨fun i H => ∃ xs ys x y, SqT K H l1 xs ∧ SqT K H l2 ys ∧ xs[i]? = some x ∧ ys[i]? = some y, fun i H v H' => ∃ p, v = .ref p ∧ H p = none ∧ ∀ xs ys, SqT K H l1 xs → SqT K H l2 ys → ∃ x y, xs[i]? = some x ∧ ys[i]? = some y ∧ H' = upd H p (.tup [x, y]),
    fun i H => ∃ xs ys, SqT K H l1 xs ∧ SqT K H l2 ys ∧ i = min xs.length ys.length⟩
def TnU (z TI TO i1 i2 l1 l2 : Addr) (i : Nat) (h : Heap) : Prop := IsZip h z TI TO Value.none ∧ IsPair h TI (Value.ref i1) (Value.ref i2) ∧ (∃ a b, IsPair h TO a b) ∧ h.IsTupleIter i1 l1 i ∧ h.IsTupleIter i2 l2 i
theorem turn_zipT {P : Program} {w : World} {K : PySem.W.Frag} {elts : List Expr} {k : Nat} {pos : Pos} {z TI TO i1 i2 l1 l2 : Addr} (ap : ZipApart z TI TO i1 i2 l1 l2) : Turn P w K (.Tuple elts k pos) (Itu K l1 l2) [z, TI, TO, i1, i2] z (TnU z TI TO i1 i2 l1 l2) where
  mem := by simp
  obj := fun i h st b hb => by
    obtain ⟨h1, h2, ⟨u, v, h3⟩, h4, h5⟩ := st
    simp only [List.mem_cons, List.not_mem_nil, or_false] at hb
    rcases hb with rfl | rfl | rfl | rfl | rfl
    · exact ⟨_, h1, fun v e => by cases e⟩
    · exact ⟨_, h2, fun v e => by cases e⟩
    · exact ⟨_, h3, fun v e => by cases e⟩
    · obtain ⟨o, e, c, d⟩ := h4
      exact ⟨o, e, fun v z => by rw [d] at z; cases z⟩
    · obtain ⟨o, e, c, d⟩ := h5
      exact ⟨o, e, fun v z => by rw [d] at z; cases z⟩
  keep := fun i h h' st kk => by
    obtain ⟨h1, h2, ⟨u, v, h3⟩, h4, h5⟩ := st
    exact ⟨kk _ (by simp) _ h1, kk _ (by simp) _ h2, ⟨u, v, kk _ (by simp) _ h3⟩, h4.at fun o e => kk _ (by simp) o e, h5.at fun o e => kk _ (by simp) o e⟩
  item := by
    intro X hP hw hK hc i pins s σ H E I hf st hg
    subst hP hw hK
    obtain ⟨xs, ys, x, y, hx, hy, ex, ey⟩ := hg
    obtain ⟨its, rv, p, hz⟩ := I.tuple hx
    obtain ⟨jts, rv', p', hz'⟩ := I.tuple hy
    obtain ⟨u, hu, ru⟩ := rv.get ex
    obtain ⟨v, hv, rv2⟩ := rv'.get ey
    obtain ⟨st1, st2, ⟨oa, ob, st3⟩, st4, st5⟩ := st
    have hT : s.TypeIs (.ref z) "zip" := ⟨_, st1, rfl⟩
    unfold pyNext
    refine wpAny_bind (wpAny_attempt (wpAny_callSpecial?_slot (name := Str.ofString "__next__") hT F.slot_zip_next (wpAny_call_entry F.slot_zip_next hT F.entry_zip_next
      (ZT.zip_item ap st1 st2 st3 st4 st5 (show s.heap.IsTuple l1 its.toArray from p) (show s.heap.IsTuple l2 jts.toArray from p') (x := u) (y := v) (by simpa using hu) (by simpa using hv) fun g a1 a2 a3 a4 a5 a6 kk => wpAny_pure ?_) (F.args_zip_next_1 _))))
    refine ⟨_, rfl, wpAny_letOwnedTupleGo_zip a1 fun g' zz sb => ?_⟩
    have lt : ∀ {c : Addr} {o : Obj}, s.heap.get? c = some o → s.heap.objs.size ≠ c := fun e => Nat.ne_of_gt (Heap.lt_size e)
    have up : ∀ c o, c ≠ z → g.get? c = some o → g'.get? c = some o := fun c o n e => sb.extBut _ _ n e
    have hTup : IsTup g' s.heap.objs.size [u, v].toArray := ⟨_, up _ _ (lt st1) a5, rfl, _, rfl⟩
    have hfw : ∀ b ∈ ([z, TO, i1, i2] : List Addr), FpOk X pins H b := fun b hb => hf b (by simp only [List.mem_cons, List.not_mem_nil, or_false] at hb ⊢; rcases hb with h | h | h | h <;> simp [h])
    have kk2 : ∀ b o, b ∉ ([z, TO, i1, i2] : List Addr) → s.heap.get? b = some o → g'.get? b = some o := fun b o hb e => by
      simp only [List.mem_cons, List.not_mem_nil, or_false, not_or] at hb
      exact up _ _ hb.1 (kk b o hb.1 hb.2.1 hb.2.2.1 hb.2.2.2 e)
    have I1 := I.turnedT (h' := g') (t' := s.toks) (T := s.heap.objs.size) (xs := [x, y]) (us := [u, v]) (ch := [z, TO, i1, i2]) kk2 hfw (Nat.le_refl _) (by show 2 ≤ sizeLine; decide) (.cons ru (.cons rv2 .nil)) hTup
    refine ⟨.ref s.heap.objs.size, _, I1, rfl, ⟨_, rfl, I.hok.fresh (Nat.le_refl _), fun xs' ys' hx' hy' => ⟨x, y, ?_, ?_, rfl⟩⟩, ⟨zz, up _ _ ap.TIz (kk _ _ ap.TIz ap.TITO ap.TIi1 ap.TIi2 st2), ⟨_, _, up _ _ ap.TOz a2⟩, a3.at fun o e => up _ o ap.i1z e, a4.at fun o e => up _ o ap.i2z e⟩, fun b hb => ?_⟩
    · rw [I.tuple_inj hx' hx]; exact ex
    · rw [I.tuple_inj hy' hy]; exact ey
    · have hb' : ∃ o, s.heap.get? b = some o := by
        simp only [List.mem_cons, List.not_mem_nil, or_false] at hb
        obtain ⟨o4, e4, _⟩ := st4
        obtain ⟨o5, e5, _⟩ := st5
        rcases hb with h | h | h | h | h <;> rw [h]
        · exact ⟨_, st1⟩
        · exact ⟨_, st2⟩
        · exact ⟨_, st3⟩
        · exact ⟨_, e4⟩
        · exact ⟨_, e5⟩
      obtain ⟨o, e⟩ := hb'
      rw [upd_ne (Nat.ne_of_lt (Heap.lt_size e))]
      exact (hf b hb).1
  done := by
    intro X hP hw hK hc i pins s σ H E I hf st hg
    subst hP hw hK
    obtain ⟨xs, ys, hx, hy, rfl⟩ := hg
    obtain ⟨its, rv, p, hz⟩ := I.tuple hx
    obtain ⟨jts, rv', p', hz'⟩ := I.tuple hy
    obtain ⟨st1, st2, ⟨oa, ob, st3⟩, st4, st5⟩ := st
    have hfw : ∀ b ∈ ([z, TO, i1, i2] : List Addr), FpOk X pins H b := fun b hb => hf b (by simp only [List.mem_cons, List.not_mem_nil, or_false] at hb ⊢; rcases hb with h | h | h | h <;> simp [h])
    have e1 := rv.length
    have e2 := rv'.length
    have hend : its.toArray[min xs.length ys.length]? = none ∨ jts.toArray[min xs.length ys.length]? = none := by
      by_cases h : xs.length ≤ ys.length
      · exact .inl (Array.getElem?_eq_none (by rw [List.size_toArray]; lia))
      · exact .inr (Array.getElem?_eq_none (by rw [List.size_toArray]; lia))
    have hT : s.TypeIs (.ref z) "zip" := ⟨_, st1, rfl⟩
    unfold pyNext
    refine wpAny_bind (wpAny_attempt (wpAny_callSpecial?_slot (name := Str.ofString "__next__") hT F.slot_zip_next (wpAny_call_entry F.slot_zip_next hT F.entry_zip_next
      (ZT.zip_end (I.ok.hd hc) ap st1 st2 st3 st4 st5 (show s.heap.IsTuple l1 its.toArray from p) (show s.heap.IsTuple l2 jts.toArray from p') hend fun g e kk ⟨oe, he, ce⟩ => ?_) (F.args_zip_next_1 _))))
    refine wpAny_bind (wpAny_isInstance (T := "StopIteration") (b := true) ⟨oe, he, ce⟩ isSubtype_stop (wpAny_pure ⟨rfl, I.turnedL (t' := s.toks) (ch := [z, TO, i1, i2]) (fun b o hb e => ?_) hfw⟩))
    simp only [List.mem_cons, List.not_mem_nil, or_false, not_or] at hb
    exact kk b o hb.1 hb.2.1 hb.2.2.1 hb.2.2.2 e
  self := fun _ _ _ _ _ st h => wpAny_pyIter_zip st.1 h
section
variable {X : Cx}
def iZipT (K : PySem.W.Frag) (ta : TA) : TI := fun σ H R => ta σ H fun vs H1 => ∃ a b xs ys, vs = [.ref a, .ref b] ∧ SqT K H1 a xs ∧ SqT K H1 b ys ∧ R (Itu K a b) H1
theorem pi_zipT {elts : List Expr} {k : Nat} {tpos : Pos} {a b : Expr} {ta : TA} {p pos : Pos} (hg : Gl X "zip") (hm : X.mg "zip" = none) (ha : PA X [a, b] ta) (hs : starEach [a, b] X.env = [(false, eval a X.env), (false, eval b X.env)] := by rfl) (hs2 : starEach [b] X.env = [(false, eval b X.env)] := by rfl) :
    PI X (.Tuple elts k tpos) (.Call (.Name "zip" p) [a, b] [] pos) (iZipT X.K ta) := by
  intro pins s σ H R I h
  refine Call_ (ld_blt I hg hm boot_zip (PyProof.Rows.callWith_type1 (thn (ha pos pins s σ H _ I h) fun us s1 ⟨vs, H1, I1, r1, q1⟩ => ?_) (by rw [hs, hs2]) (by rw [hs2]; rfl)))
  obtain ⟨l1, l2, xs, ys, e, hx, hy, q⟩ := q1
  subst e
  obtain ⟨u, u2, rfl, rr1, rr2⟩ := vals2 r1
  cases rr1
  cases rr2
  obtain ⟨its, rv, p1, hz⟩ := I1.tuple hx
  obtain ⟨jts, rv', p2, hz'⟩ := I1.tuple hy
  have h1 : l1 < s1.heap.objs.size := by obtain ⟨o, e, _⟩ := id p1; exact Heap.lt_size e
  have h2 : l2 < s1.heap.objs.size := by obtain ⟨o, e, _⟩ := id p2; exact Heap.lt_size e
  refine ZT.call_zip (show s1.heap.IsTuple l1 its.toArray from p1) (show s1.heap.IsTuple l2 jts.toArray from p2) fun h' z1 z2 z3 z4 z5 kk => ?_
  refine wpAny_pyIter_zip (s := { s1 with heap := h' }) z1 ?_
  refine ⟨_, [s1.heap.objs.size + 4, s1.heap.objs.size + 2, s1.heap.objs.size + 3, s1.heap.objs.size, s1.heap.objs.size + 1], _, _, H1, rfl, I1.kept (t' := s1.toks) kk, turn_zipT (zipApart_new h1 h2), ⟨z1, z2, ⟨_, _, z3⟩, z4, z5⟩, fun b hb => ?_, q⟩
  have hb' : s1.heap.objs.size ≤ b := by
    simp only [List.mem_cons, List.not_mem_nil, or_false] at hb
    rcases hb with h | h | h | h | h <;> rw [h] <;> first | exact Nat.le_add_right _ _ | exact Nat.le_refl _
  exact I1.fpOk hb' (I1.hok.fresh hb')
end
end L2

set_option maxHeartbeats 2000000
/-! lists made of tuples, element by element; any(a list of truths) -/
namespace L2
open PySem PySem.Spec PyProof.Rows
/-- over a tuple, of things that come of it and leave all as it was -/
theorem lcMU {K : PySem.W.Frag} {a : Addr} {xs : List V} {k : Nat} {σ : St} {H1 : Hp} {te : TE} {Q : VK} (f : V → V) (hk : σ.length = k) (hq : H1 a = some (.tup xs)) (hz : xs.length ≤ 1000)
    (turn : ∀ D x ys H (post : VK), H1 D = none → x ∈ xs → Same H1 H → H D = some (.lst ys) → (∀ H', Same H H' → post (f x) H') → te (σ ++ [some x]) H post)
    (fin : ∀ D H, H1 D = none → Same H1 H → H D = some (.lst (xs.map f)) → Q (.ref D) H) : LCT 1 (gName k) tYes te σ Q (Itt K a) H1 := by
  refine lcJ (n := xs.length) (fun i => xs.getD i .non) (fun D i ys H => H1 D = none ∧ Same H1 H ∧ H D = some (.lst ys) ∧ ys = (xs.take i).map f) hk ?_ ?_ ?_ ?_ ?_ ?_
  · rintro D i ys H hi ⟨h1, h2, h3, rfl⟩
    exact ⟨xs, xs[i], SqT.of (h2 _ _ hq), by simp [hi]⟩
  · rintro D i ys H x H' hi ⟨h1, h2, h3, rfl⟩ ⟨e, y⟩
    refine ⟨e, ?_⟩
    have := y xs (SqT.of (h2 _ _ hq))
    rw [List.getD_eq_getElem?_getD, this]; rfl
  · rintro D ys H ⟨h1, h2, h3, rfl⟩
    exact ⟨xs, SqT.of (h2 _ _ hq), Nat.le_refl _⟩
  · intro D hD
    exact ⟨hD, Same.new hD, upd_same, rfl⟩
  · rintro D i ys H post hi ⟨h1, h2, h3, rfl⟩ hp
    have hx : xs.getD i .non = xs[i] := by simp [hi]
    rw [hx]
    refine turn D xs[i] _ H post h1 (List.getElem_mem hi) h2 h3 fun H' s' => hp _ _ (s' _ _ h3) ?_ ⟨h1, fun b o e => ?_, upd_same, ?_⟩
    · rw [List.length_map, List.length_take]
      exact small1000 (by lia)
    · rw [upd_ne (ne_of_none e h1)]
      exact s' _ _ (h2 _ _ e)
    · rw [List.take_add_one, List.getElem?_eq_getElem hi, List.map_append]; rfl
  · rintro D ys H ⟨h1, h2, h3, rfl⟩
    rw [List.take_length] at h3
    exact fin D H h1 h2 h3
/-- over two tuples together -/
theorem lcZU {K : PySem.W.Frag} {a b : Addr} {xs ys : List V} {g : TG} {σ : St} {H1 : Hp} {te : TE} {Q : VK} (f : V → V → V) (ha : H1 a = some (.tup xs)) (hb : H1 b = some (.tup ys)) (hz : xs.length ≤ 1000)
    (hg : ∀ (p : Addr) (x y : V) (H : Hp) (R : St → Hp → Prop), H p = some (.tup [x, y]) → R (σ ++ [some x, some y]) H → g (.ref p) (σ ++ List.replicate 2 none) H R)
    (turn : ∀ (i : Nat) x y H (post : VK), xs[i]? = some x → ys[i]? = some y → Same H1 H → (∀ H', Same H H' → post (f x y) H') → te (σ ++ [some x, some y]) H post)
    (fin : ∀ D H, H1 D = none → Same H1 H → H D = some (.lst ((xs.zip ys).map fun p => f p.1 p.2)) → Q (.ref D) H) : LCT 2 g tYes te σ Q (Itu K a b) H1 := by
  have hzl : (xs.zip ys).length = min xs.length ys.length := List.length_zip ..
  intro D hD
  refine ⟨fun i m us H => m = (xs.zip ys).length - i ∧ i ≤ (xs.zip ys).length ∧ Same H1 H ∧ H D = some (.lst us) ∧ us = ((xs.zip ys).take i).map fun p => f p.1 p.2, ⟨(xs.zip ys).length, by simp, Nat.zero_le _, Same.new hD, upd_same, rfl⟩, ?_⟩
  rintro i m us H ⟨rfl, hi, sm, hDD, rfl⟩
  by_cases hlt : i < (xs.zip ys).length
  · have h1 : i < xs.length := by lia
    have h2 : i < ys.length := by lia
    refine .inr ⟨⟨xs, ys, xs[i], ys[i], SqT.of (sm _ _ ha), SqT.of (sm _ _ hb), by simp, by simp⟩, fun v H' y => ?_⟩
    obtain ⟨p, rfl, hp, y⟩ := y
    obtain ⟨x', y', ex, ey, rfl⟩ := y xs ys (SqT.of (sm _ _ ha)) (SqT.of (sm _ _ hb))
    have s2 := Same.new (o := .tup [x', y']) hp
    refine hg p x' y' _ _ upd_same ⟨⟨_, rfl, rfl⟩, ?_⟩
    unfold tYes
    refine iteT (turn i x' y' _ _ ex ey (sm.trans s2) fun H4 s4 => ⟨s4 _ _ (s2 _ _ hDD), ?_, (xs.zip ys).length - (i + 1), by lia, rfl, hlt, fun c o e => ?_, upd_same, ?_⟩)
    · rw [List.length_map, List.length_take]
      exact small1000 (by lia)
    · rw [upd_ne (ne_of_none e hD)]
      exact s4 _ _ (s2 _ _ (sm _ _ e))
    · rw [List.take_add_one, List.getElem?_eq_getElem hlt, List.map_append]
      have e1 : (xs.zip ys)[i] = (x', y') := by
        rw [List.getElem_zip]
        rw [List.getElem?_eq_getElem h1] at ex
        rw [List.getElem?_eq_getElem h2] at ey
        rw [Option.some.inj ex, Option.some.inj ey]
      rw [e1]; rfl
  · have e : i = (xs.zip ys).length := by lia
    subst e
    rw [List.take_length] at hDD
    exact .inl ⟨⟨xs, ys, SqT.of (sm _ _ ha), SqT.of (sm _ _ hb), hzl⟩, fin D H hD sm hDD⟩
section
variable {X : Cx}
theorem range_anyG (bs : List Bool) : ((List.range bs.length).any fun i => (bs[i]?).getD false) = bs.any id := by
  rw [Bool.eq_iff_iff, List.any_eq_true, List.any_eq_true]
  constructor
  · rintro ⟨i, hi, h⟩
    have hi := List.mem_range.mp hi
    rw [List.getElem?_eq_getElem hi] at h
    exact ⟨_, List.getElem_mem hi, h⟩
  · rintro ⟨b, hb, h⟩
    obtain ⟨i, hi, e⟩ := List.getElem_of_mem hb
    exact ⟨i, List.mem_range.mpr hi, by rw [List.getElem?_eq_getElem hi, e]; exact h⟩
theorem call_anyB (hc : X.calm = true) : CallR X (.builtin "any") (fun xs H Q => ∃ (p : Addr) (bs : List Bool), xs = [.ref p] ∧ SqL X.K H p (bs.map V.bl) ∧ Q (.bl (bs.any id)) H) := by
  intro pins s σ H xs us Q I rv h
  obtain ⟨p, bs, rfl, hS, q⟩ := h
  obtain ⟨u, rfl, ru⟩ := rv.one
  cases ru
  obtain ⟨its, r, hp, _⟩ := I.list hS
  have hlen : its.length = bs.length := by have := r.length; rw [List.length_map] at this; lia
  have hl := hp.isList
  have hlt : p < s.heap.objs.size := by obtain ⟨_, e, _⟩ := hl; exact Heap.lt_size e
  refine call_any_walk (wpAny_pyIter_list hl ?_)
  refine ⟨s.heap.objs.size, [s.heap.objs.size, p], [s.heap.objs.size], its.toArray.size, _, _, fun i => (bs[i]?).getD false, rfl, Walks.list (A := X.A.in1) (I.ok.hd hc) _ p (Nat.ne_of_lt hlt) its.toArray,
    ⟨⟨_, Heap.get?_push_size _ rfl, rfl, rfl⟩, hl.push _⟩, fun i v s' Q' E' hP hQ => ?_, fun h' tk hk => ?_⟩
  · obtain ⟨b, e, rfl⟩ := bls_get r (i := i) (v := v) (by simpa using hP)
    simp only [e, Option.getD_some] at hQ
    exact wpAny_truthy_bool hQ
  · rw [List.size_toArray, hlen, range_anyG]
    refine ⟨.bl _, H, I.kept (t' := tk) fun b o e => hk b o (fun hm => ?_) (Heap.get?_push_of_some _ e), rfl, q⟩
    rw [List.mem_singleton.mp hm] at e
    exact Nat.lt_irrefl _ (Heap.lt_size e)
end
end L2

namespace L2
open PySem PySem.Spec PyProof.Rows
end L2

set_option maxHeartbeats 2000000
namespace L2
open PySem PySem.Spec PyProof.Rows
section
variable {P : Program} {w : World} {H H' H1 H2 : Hp} {h h0 h1 h2 B : Heap} {a : Addr} {o : HO} {fs : List Addr}
theorem ObjOk.there (x : ObjOk P w H h a o) : ∃ u, h.get? a = some u := by
  cases o with
  | lst xs => obtain ⟨_, _, _, _, e⟩ := x; exact ⟨_, e⟩
  | tup xs => obtain ⟨_, _, _, ob, e, _⟩ := x; exact ⟨_, e⟩
  | dK kvs => obtain ⟨_, _, _, _, o, _, _, e, _⟩ := x; exact ⟨_, e⟩
  | dT kvs => obtain ⟨_, _, _, _, o, _, _, e, _⟩ := x; exact ⟨_, e⟩
  | set S n => obtain ⟨o, _, _, _, e, _⟩ := x; exact ⟨_, e⟩
  | ins C dx fs => obtain ⟨_, _, _, e, _⟩ := x; exact ⟨_, e⟩
  | own y => exact x
  | xd fs => obtain ⟨_, ⟨_, _, _, e, _⟩, _⟩ := x; exact ⟨_, e⟩
  | rng lo hi => obtain ⟨_, _, _, e⟩ := x; exact ⟨_, e⟩
  | frz ob u => obtain ⟨e, _⟩ := x; exact ⟨_, e⟩
  | tbl ps => exact ⟨_, (show h.get? a = some _ from x)⟩
  | met f y => exact ⟨_, (show h.get? a = some _ from x)⟩
  | ext φ => obtain ⟨_, e, _⟩ := x; exact e
/-- a part of the heap that an exception leaves alone: all that was there, and all that is tracked, but the frames -/
def Cov (fs : List Addr) (h0 h1 : Heap) (H' : Hp) (B : Heap) : Prop := ∀ b u, h1.get? b = some u → ((∃ o, h0.get? b = some o) ∨ H' b ≠ none) → b ∉ fs → B.get? b = some u
theorem moved (un : Un fs [] H H2 h0 h1) (hok : HOk P w H2 h1) (cov : Cov fs h0 h1 H2 B) (st : B.StaysIn h2) (up : h1.UpToSlots h2) (nf : ∀ b ∈ fs, H2 b = none) (fd : ∀ b ∈ fs, ∀ o, h1.get? b = some o → ∀ vs, o.data ≠ .fields vs) :
    Un fs [] H H2 h0 h2 ∧ HOk P w H2 h2 ∧ Cov fs h0 h2 H2 B := by
  have one : ∀ b u, h1.get? b = some u → ((∃ o, h0.get? b = some o) ∨ H2 b ≠ none) → b ∉ fs → h2.get? b = some u := fun b u e c n => st b u (cov b u e c n)
  refine ⟨⟨fun b ob e n hb hx => ?_, fun b ob e n hb hx => ?_, un.free, fun b ob e hx => ?_, un.tups, un.frzs, un.tbls⟩, fun b u e => ?_, fun b u e c n => ?_⟩
  · exact one b ob (un.keep b ob e n hb hx) (.inl ⟨ob, e⟩) hb
  · obtain ⟨sl, e1⟩ := un.slot b ob e n hb hx
    obtain ⟨sl', e2⟩ := up b _ e1 (fd b hb _ e1)
    exact ⟨sl', e2⟩
  · obtain ⟨o', e1⟩ := un.there b ob e hx
    by_cases hb : b ∈ fs
    · obtain ⟨sl', e2⟩ := up b _ e1 (fd b hb _ e1)
      exact ⟨_, e2⟩
    · exact ⟨_, one b o' e1 (.inl ⟨ob, e⟩) hb⟩
  · refine (hok b u e).stay (fun c v hc q => ?_) (fun _ q => q) fun _ _ q => q
    have hn : H2 c ≠ none := by
      rcases hc with rfl | hc
      · rw [e]; intro z; cases z
      · rw [hc]; intro z; cases z
    exact one c v q (.inr hn) fun z => hn (nf c z)
  · have : ∃ v, h1.get? b = some v := by
      rcases c with ⟨o', e1⟩ | c
      · exact un.there b o' e1 (by simp)
      · cases hq : H2 b with
        | none => exact absurd hq c
        | some q => exact (hok b q hq).there
    obtain ⟨v, hv⟩ := this
    have := cov b v hv c n
    have e2 := st b v this
    rw [e] at e2
    cases e2
    exact this
end
/-- how an exception of the program's own lies behind a call -/
def CXR (P : Program) (w : World) (base : Heap) : CXT := fun outer H s E e s' => ∃ (ea : Addr) (cls a0 : Value) (H' : Hp) (B : Heap), e = .ref ea ∧ s'.os = s.os ∧ AllBare s'.gens ∧ Un (frs outer) [] H H' s.heap s'.heap ∧ HOk P w H' s'.heap ∧ H' ea = none ∧
  base.StaysIn B ∧ Heap.FlyingW B outer ea cls a0 s'.heap ∧ Cov (frs outer) s.heap s'.heap H' B ∧ E cls none H'
section
variable {X : Cx} {pins : List (Addr × Obj)} {σ : St} {H H2 : Hp} {s s' : Shared}
theorem frs_free (I : Inv X pins σ H s) (un : Un (frs X.stack) [] H H2 s.heap s'.heap) : ∀ b ∈ frs X.stack, H2 b = none := fun b hb => by
  obtain ⟨_, o, ho, _⟩ := I.stack.mem hb
  exact un.free b o ho (I.stkFree b hb) (by simp)
theorem fly_data {B h : Heap} {l : List Env} {e : Addr} {cls a0 : Value} (f : Heap.FlyingW B l e cls a0 h) : ∀ b ∈ frs l, ∀ o, h.get? b = some o → ∀ vs, o.data ≠ .fields vs := fun b hb o ho => by
  obtain ⟨_, o', ho', hd⟩ := f.2.2.1.mem hb
  rw [ho] at ho'
  cases ho'
  exact hd
end
/-- behind the body's own frame -/
theorem un_drop {X : Cx} {pins : List (Addr × Obj)} {σ : St} {H H2 : Hp} {s : Shared} {h : Heap} (I : Inv X pins σ H s) (hex : X.ex = []) (u : Un (frs X.stack) [] H H2 s.heap h) : Un (frs X.outer) [] X.H₀ H2 X.s₀.heap h := by
  have b0 := I.base
  rw [hex] at b0
  have nm : ∀ b o, X.s₀.heap.get? b = some o → b ∉ frs X.outer → b ∉ frs X.stack := fun b o e n z => by
    rcases List.mem_cons.mp (I.stkSub b z) with q | q
    · have h1 := Heap.lt_size e
      have h2 := I.ok.above
      rw [← q] at h2
      exact absurd (Nat.lt_of_lt_of_le h1 h2) (Nat.lt_irrefl _)
    · exact n q
  refine ⟨fun b o e n hb hx => ?_, fun b o e n hb hx => ?_, fun b o e n hx => ?_, fun b o e hx => ?_, fun b xs e => u.tups b xs (b0.tups b xs e), fun b o v e => u.frzs b o v (b0.frzs b o v e), fun b ps e => ?_⟩
  · exact u.keep b o (b0.keep b o e n hb hx) (b0.free b o e n hx) (nm b o e hb) hx
  · obtain ⟨sl, e1⟩ := b0.slot b o e n hb hx
    obtain ⟨sl', e2⟩ := u.any e1 (b0.free b o e n hx) hx
    exact ⟨sl', e2⟩
  · obtain ⟨o', e1⟩ := b0.there b o e hx
    exact u.free b o' e1 (b0.free b o e n hx) hx
  · obtain ⟨o', e1⟩ := b0.there b o e hx
    exact u.there b o' e1 hx
  · obtain ⟨m1, e1⟩ := b0.tbls b ps e
    obtain ⟨m2, e2⟩ := u.tbls b _ e1
    exact ⟨m1 ++ m2, by rw [e2, Array.append_assoc]⟩
theorem cov_drop {X : Cx} {pins : List (Addr × Obj)} {σ : St} {H H2 : Hp} {s : Shared} {h B : Heap} (I : Inv X pins σ H s) (hex : X.ex = []) (nf : ∀ b ∈ frs X.stack, H2 b = none) (c : Cov (frs X.stack) s.heap h H2 B) : Cov (frs X.outer) X.s₀.heap h H2 B := by
  have b0 := I.base
  rw [hex] at b0
  intro b u e q n
  refine c b u e ?_ fun z => ?_
  · rcases q with ⟨o, q⟩ | q
    · exact .inl (b0.there b o q (by simp))
    · exact .inr q
  · rcases q with ⟨o, q⟩ | q
    · rcases List.mem_cons.mp (I.stkSub b z) with y | y
      · have h1 := Heap.lt_size q
        have h2 := I.ok.above
        rw [← y] at h2
        exact absurd (Nat.lt_of_lt_of_le h1 h2) (Nat.lt_irrefl _)
      · exact n y
    · exact q (nf b z)
section
variable {P : Program} {w : World} {K : PySem.W.Frag} {mg : Str → Option Value} {base : Heap} {N : List Str} {qual : Str} {scope : Scope} {f : Addr} {cd : Value} {A : Around} {outer : List Env} {s : Shared} {H : Hp} {E : XK}
/-- an exception that the body makes -/
theorem newR {pins : List (Addr × Obj)} {σ : St} {H1 : Hp} {s1 : Shared} {h' : Heap} {ea : Addr} {cls : Value} {vs : List Value} (I : Inv (cxOf (CXR P w base) P w K mg base N qual scope f cd A outer s H E) pins σ H1 s1) (hx : Heap.MadeExcOf s1.heap h' ea cls vs) (hE : E cls none H1) :
    (cxOf (CXR P w base) P w K mg base N qual scope f cd A outer s H E).xe (.ref ea) { s1 with heap := h' } := by
  have hl := I.stack
  have hin : ∀ env ∈ (cxOf (CXR P w base) P w K mg base N qual scope f cd A outer s H E).stack, ∀ b, env.frame = some b → b ∈ frs (cxOf (CXR P w base) P w K mg base N qual scope f cd A outer s H E).stack := fun env he b hb => List.mem_filterMap.mpr ⟨env, he, hb⟩
  have hst : base.StaysIn (PySem.W.hideAll s1.heap (frs (cxOf (CXR P w base) P w K mg base N qual scope f cd A outer s H E).stack)) := fun b o q => PySem.W.hideAll_get _ ((I.bs b o q).1) fun hm => by
    have z : base.get? b = none := (hl.mem hm).1
    rw [z] at q; cases q
  show wpAny _ _ (leaving _ (.ref ea)) _ _ _
  refine wpAny_leaves_madeW (base := PySem.W.hideAll s1.heap (frs (cxOf (CXR P w base) P w K mg base N qual scope f cd A outer s H E).stack)) (h := s1.heap) I.ok.frames rfl (fun b o q => PySem.W.of_hideAll _ q) (PySem.W.funFrames_hide hl hin) hx fun h2 t fly tup bt up => ?_
  have nf := I.stkFree
  have up2 : s1.heap.UpToSlots h2 := (Heap.UpToSlots.of_keeps hx.keeps).trans up
  have cov : Cov (frs (cxOf (CXR P w base) P w K mg base N qual scope f cd A outer s H E).stack) s1.heap s1.heap H1 (PySem.W.hideAll s1.heap (frs (cxOf (CXR P w base) P w K mg base N qual scope f cd A outer s H E).stack)) := fun b u e _ n => PySem.W.hideAll_get _ e n
  have fd : ∀ b ∈ frs (cxOf (CXR P w base) P w K mg base N qual scope f cd A outer s H E).stack, ∀ o, s1.heap.get? b = some o → ∀ vs, o.data ≠ .fields vs := fun b hb o ho => by
    obtain ⟨_, o', ho', hd⟩ := hl.mem hb
    rw [ho] at ho'
    cases ho'
    exact hd
  obtain ⟨un2, hok2, cov2⟩ := moved (Un.kept fun _ _ e => e) I.hok cov fly.1 up2 nf fd
  have hea : H1 ea = none := by
    cases hq : H1 ea with
    | none => rfl
    | some q =>
      obtain ⟨u, hu⟩ := (I.hok ea q hq).there
      rw [hx.new] at hu
      cases hu
  exact ⟨ea, cls, _, H1, _, rfl, I.os, I.bare, un_drop I rfl un2, hok2, hea, hst, fly, cov_drop I rfl nf cov2, hE⟩
end
end L2

set_option maxHeartbeats 2000000
namespace L2
open PySem PySem.Spec PyProof.Rows
def bmV : List Value := [.type "ValueError", .type "Exception", .type "BaseException", .type "object"]
def ExcAt (h : Heap) (C : Addr) : Prop := ∃ bm N nm qn bs hd sn sub ab col dd k0 k1 k2 k3 k5 mN, h.get? C = some (excClassObj nm qn C N bs bm hd sn sub ab col dd k0 k1 k2 k3 k5 "ValueError.__new__") ∧ h.Ns N mN ∧ mN "__init__" = none ∧ OwnTail h bmV bm
theorem excAt_of {K : PySem.W.Frag} {h : Heap} {C : Addr} (X : K.In h) (q : PySem.W.excIn K C bmV "ValueError.__new__" = true) : ExcAt h C := by
  unfold PySem.W.excIn at q
  split at q
  case h_2 => cases q
  case h_1 dd cd sl ho =>
    split at q
    case h_2 => cases q
    case h_1 C2 tail y0 y1 y2 y3 nn y5 em es =>
      simp only [Bool.and_eq_true, beq_iff_eq, Bool.not_eq_true'] at q
      obtain ⟨⟨⟨⟨⟨c1, c2⟩, c3⟩, c4⟩, c5⟩, c6⟩ := q
      subst c1 c2
      cases cd
      rename_i f1 f2 f3 f4 f5 f6 f7 f8 f9 f10 f11
      simp only at em c3 c5 c6
      subst em c3
      obtain rfl : sl = #[y0, y1, y2, y3, some (.builtin "ValueError.__new__"), y5] := by
        cases sl
        simp only at es
        rw [es]
      refine ⟨tail, f4, f1, f5, f2, f6, f7, f8, f9, f10, dd, y0, y1, y2, y3, y5, h.nsMap f4, X _ _ ho, ?_, ?_, PySem.W.tail_of_in X c4⟩
      · exact .of_isNs (PySem.W.isNs_of_in X c5)
      · exact PySem.W.nsMap_none_of_in X c5 c6
/-- a class of errors: its name, where it lies -/
structure ExcC (K : PySem.W.Frag) (mg : Str → Option Value) (x : Str) (C : Addr) : Prop where
  mgC : mg x = some (.ref C)
  ex : PySem.W.excIn K C bmV "ValueError.__new__" = true
/-- raise C(a, ..) -/
def tRaise (C : Addr) (E : XK) (t : TA) : TS := fun _ σ H => t σ H fun vs H1 => vs.length ≤ sizeLine ∧ E (.ref C) none H1
/-- what the body makes reaches what is wanted -/
def PassN (X : Cx) (E : XK) : Prop := ∀ (pins : List (Addr × Obj)) (σ : St) (H : Hp) (s : Shared) (h' : Heap) (e : Addr) (cls : Value) (vs : List Value), Inv X pins σ H s → Heap.MadeExcOf s.heap h' e cls vs → E cls none H → X.xe (.ref e) { s with heap := h' }
theorem passN {P : Program} {w : World} {K : PySem.W.Frag} {mg : Str → Option Value} {base : Heap} {N : List Str} {qual : Str} {scope : Scope} {f : Addr} {cd : Value} {A : Around} {outer : List Env} {s : Shared} {H : Hp} {E : XK} :
    PassN (cxOf (CXR P w base) P w K mg base N qual scope f cd A outer s H E) E := fun _ _ _ _ _ _ _ _ I hx hE => newR I hx hE
theorem ps_raise {X : Cx} {x : Str} {C : Addr} {E : XK} {e : Expr} {es : List Expr} {t : TA} {np cpos pos : Pos} (hN : PassN X E) (hc : X.calm = true) (T : ExcC X.K X.mg x C) (hg : Gl X x) (ha : PA X (e :: es) t)
    (he : starEach (e :: es) X.env = (false, eval e X.env) :: starEach es X.env := by rfl) (hpl : (backTo cpos (starEach es X.env)).any (·.1) = false := by rfl) (hd : (x == ("__debug__" : Str)) = false := by decide) :
    PS X (.Raise (some (.Call (.Name x np) (e :: es) [] cpos)) none pos) (tRaise C E t) := by
  intro pins s σ H D I h
  obtain ⟨tl, Nn, nm, qn, bs, hdct, sn, sub, ab, col, dd, k0, k1, k2, k3, k5, mN, hC, hNs, hni, TL⟩ := excAt_of I.ok.mod.kin T.ex
  refine wpAny_Raise_call_subT (C := C) (nm := nm) (q := qn) (N := Nn) (bs := bs) (bm := tl) (hdct := hdct) (sn := sn) (sub := sub) (ab := ab) (col := col) (dd := dd) (k0 := k0) (k1 := k1) (k2 := k2) (k3 := k3) (k5 := k5)
    PySem.F.excBase_ValueError (mN := mN) (TL.hasType PySem.F.excBase_ValueError.hasBase) (I.ok.hd hc) (by rw [he]; show (false || _) = false; rw [Bool.false_or]; exact hpl) hni (ld_glob I hg T.mgC ⟨rfl, ?_⟩ hd)
  have h1 := ha cpos pins s σ H _ I h
  rw [he] at h1 ⊢
  refine Calls.evalArgs_plain (wpAny_mono h1 (fun us s2 h2 => ?_) fun _ _ y => y)
  obtain ⟨vs, H1, I1, r1, hl, hE⟩ := h2
  exact ⟨rfl, by rw [← r1.length]; exact hl, I1.bk _ _ hC, hNs.keeps I1.bk, TL.keeps I1.bk, fun h' ea hm => hN pins σ H1 s2 h' ea (.ref C) us I1 hm hE⟩
end L2

set_option maxHeartbeats 2000000
namespace L2
open PySem PySem.Spec PyProof.Rows
/-- the body of a try -/
def cxTry (X : Cx) (pins : List (Addr × Obj)) (xe : Value → Shared → Prop) : Cx := { X with pn := X.pn ++ pins, xe := xe }
/-- a handler's suite -/
def cxH (X : Cx) (ea : Addr) : Cx := { X with A := X.A.mark (some (.ref ea)), calm := false, xe := fun _ _ => False }
section
variable {X : Cx} {pins pins' : List (Addr × Obj)} {xe : Value → Shared → Prop} {σ : St} {H : Hp} {s : Shared} {ea : Addr}
theorem okTry (ok : X.Ok) : (cxTry X pins xe).Ok := ⟨ok.mod, ok.kind, ok.glob, ok.blt, ok.above, ok.inj, ok.has, ok.cab, ok.hd, ok.frames, ok.stk, ok.exf, ok.bs, ok.bsz, ok.noex, ok.exfs, ok.funs, ok.frf⟩
theorem okH (ok : X.Ok) : (cxH X ea).Ok := ⟨ok.mod, ok.kind, ok.glob, ok.blt, ok.above, ok.inj, ok.has, ok.cab, (fun z => nomatch z), ok.frames, ok.stk, ok.exf, ok.bs, ok.bsz, ok.noex, ok.exfs, ok.funs, ok.frf⟩
theorem Inv.toTry (I : Inv X pins σ H s) : Inv (cxTry X pins xe) [] σ H s := ⟨okTry I.ok, I.os, I.bare, I.base, I.loc, I.cell, I.free, I.freeC, fun p hp => I.pin p (by
  have hp : p ∈ (X.pn ++ pins) ++ [] := hp
  rwa [List.append_nil] at hp), I.hok, I.len⟩
theorem Inv.ofTry (ok : X.Ok) (I : Inv (cxTry X pins xe) pins' σ H s) : Inv X pins σ H s := ⟨ok, I.os, I.bare, I.base, I.loc, I.cell, I.free, I.freeC, fun p hp => I.pin p (List.mem_append_left _ (show p ∈ X.pn ++ pins from hp)), I.hok, I.len⟩
theorem Inv.toH (I : Inv X pins σ H s) : Inv (cxH X ea) pins σ H s := ⟨okH I.ok, I.os, I.bare, I.base, I.loc, I.cell, I.free, I.freeC, I.pin, I.hok, I.len⟩
theorem Inv.ofH (ok : X.Ok) (I : Inv (cxH X ea) pins σ H s) : Inv X pins σ H s := ⟨ok, I.os, I.bare, I.base, I.loc, I.cell, I.free, I.freeC, I.pin, I.hok, I.len⟩
/-- nothing known of the names -/
theorem Inv.blank (I : Inv X pins σ H s) : Inv X pins (List.replicate X.N.length none) H s := by
  obtain ⟨m, hm, _⟩ := I.loc
  refine ⟨I.ok, I.os, I.bare, I.base, ⟨m, hm, fun i x v _ h2 => ?_⟩, I.cell, I.free, I.freeC, I.pin, I.hok, List.length_replicate ..⟩
  rw [List.getElem?_replicate] at h2
  split at h2 <;> cases h2
theorem SP.ofTry {D : Ends} {f : Flow} (ok : X.Ok) (h : SP (cxTry X pins xe) [] D f s) : SP X pins D f s := by
  cases f with
  | next => obtain ⟨σ', H', I, q⟩ := h; exact ⟨σ', H', I.ofTry ok, q⟩
  | brk => obtain ⟨σ', H', I, q⟩ := h; exact ⟨σ', H', I.ofTry ok, q⟩
  | cont => obtain ⟨σ', H', I, q⟩ := h; exact ⟨σ', H', I.ofTry ok, q⟩
  | ret u => obtain ⟨v, σ', H', I, r, q⟩ := h; exact ⟨v, σ', H', I.ofTry ok, r, q⟩
theorem SP.ofH {D : Ends} {f : Flow} (ok : X.Ok) (h : SP (cxH X ea) pins D f s) : SP X pins D f s := by
  cases f with
  | next => obtain ⟨σ', H', I, q⟩ := h; exact ⟨σ', H', I.ofH ok, q⟩
  | brk => obtain ⟨σ', H', I, q⟩ := h; exact ⟨σ', H', I.ofH ok, q⟩
  | cont => obtain ⟨σ', H', I, q⟩ := h; exact ⟨σ', H', I.ofH ok, q⟩
  | ret u => obtain ⟨v, σ', H', I, r, q⟩ := h; exact ⟨v, σ', H', I.ofH ok, r, q⟩
end
end L2

set_option maxHeartbeats 2000000
namespace L2
open PySem PySem.Spec PyProof.Rows
/-- a function of the text that may refuse -/
structure FnAtR (P : Program) (w : World) (K : PySem.W.Frag) (mg : Str → Option Value) (base : Heap) (k : Nat) (x : Str) (ps : List Str) (sp : Sp) : Prop where
  ex : ∃ f fd, FnOk P w K mg base (CXR P w base) k f fd ps sp ∧ mg x = some (.ref f) ∧ PySem.W.keepIn K (.ref f) = true ∧ Binds K fd ps []
theorem pe_callR {X : Cx} {k : Nat} {x : Str} {ps : List Str} {sp : Sp} {E : XK} {e : Expr} {es : List Expr} {t : TA} {p pos : Pos} (F : FnAtR X.prog X.w X.K X.mg X.base k x ps sp) (hr : Room k X.A) (hx : Passes (CXR X.prog X.w X.base) X E) (ha : PA X (e :: es) t) (hg : Gl X x := by rfl)
    (hdb : (x == ("__debug__" : Str)) = false := by decide) (he : starEach (e :: es) X.env = (false, eval e X.env) :: starEach es X.env := by rfl) (hpl : (backTo pos (starEach es X.env)).any (·.1) = false := by rfl) :
    PE X (.Call (.Name x p) (e :: es) [] pos) (tCall sp [] E t) := by
  obtain ⟨f, fd, G, m, kp, b⟩ := F.ex
  exact pe_call G hr hg m kp b .nil hx ha hdb he hpl
section
variable {P : Program} {w : World} {K : PySem.W.Frag} {mg : Str → Option Value} {base : Heap}
theorem Fun.okR {x qual : Str} {st : Stmt} {f : Addr} {fd : FuncData} {N ps : List Str} {k : Nat} {sp : Sp} (F : Fun K x qual st f fd) (S : FnScope N ps (defScope st)) (len : ∀ vs H Q E, sp vs H Q E → vs.length = ps.length)
    (hbody : ∀ (cdv : Value) (A : Around) (outer : List Env) (s : Shared) (H : Hp) (vs : List V) (Q : VK) (E : XK), Room k (A.deeper (envOfC qual (defScope st) s.heap.objs.size f cdv)) → sp vs H Q E →
      ∃ t, PSs (cxOf (CXR P w base) P w K mg base N qual (defScope st) f cdv A outer s H E) (defBody st) t ∧ t { nx := fun _ H' => Q .non H', rt := Q } (start N vs) H) : FnOk P w K mg base (CXR P w base) (k + 1) f fd ps sp := by
  obtain ⟨oc, od, kV, doc, pm, an, cdv, ct, osl, rfl, lk, hcd⟩ := F.ex
  exact fn_of lk hcd S len fun A outer s H vs Q E hr hsp => hbody cdv A outer s H vs Q E hr hsp
end
end L2

set_option maxHeartbeats 2000000
namespace L2
open PySem PySem.Spec PyProof.Rows
section
variable {prog : Program} {w : World} {A : Around} {E : Value → Shared → Prop} {h : Heap} {g : Array GenState} {d : Drawn} {t : Nat} {os : OsState} {K : PySem.W.Frag} {x C : Addr} {ox : Obj}
theorem exc_get {R : Result → Shared → Prop} (X : K.In h) (hx : h.get? x = some ox) (hc : ox.cls = .ref C) (hm : PySem.W.mroIn K C (.type "object") = some true) (hq : R (.ok (.ret (.ref C))) ⟨h, g, d, t, os⟩) :
    codeAny (model prog w) A (.call (.builtin "getset_descriptor.__get__") ⟨[.builtin "object.__class__", .ref x, .ref C], []⟩) R ⟨h, g, d, t, os⟩ := by
  have tG : (⟨h, g, d, t, os⟩ : Shared).TypeIs (.builtin "object.__class__") "getset_descriptor" := F.typeOf_object_class
  have lM := PySem.W.looks_mroIn (M := model prog w) X hm
  have eO : (".".intercalate ("object.__class__".cutAt '.').dropLast) = "object" := by
    have z : "object.__class__".cutAt '.' = ["object", "__class__"] := by first | rfl | decide +kernel
    rw [z]
    decide +kernel
  refine codeAny_call_builtin F.slot_gs_get.plain F.entry_gs_get
    (F.slot_gs_get.check _ _ _ _ _ _ _ _ tG (F.args_gs_get _ _ _) ?_)
  rw [← eO] at lM
  repeat (any_goals (first | assumption | (with_reducible refine wpAny_loadPart_at hx ?_; rw [hc]) | with_reducible refine lM.at ?_ | wp_step))
  refine ⟨Code.quiet_builtin _ (by decide +kernel),
    codeAny_builtin F.entry_object_class ?_⟩
  repeat (any_goals (first | assumption | (with_reducible refine wpAny_loadPart_at hx ?_; rw [hc]) | wp_step))
theorem exc_entry {tk : Tok} {Q : Fin → Shared → Prop} (X : K.In h) (hx : h.get? x = some ox) (hc : ox.cls = .ref C) (f3 : PySem.W.findIn K (.ref C) "__class__" = some (some (.builtin "object.__class__"))) (hm : PySem.W.mroIn K C (.type "object") = some true) (hq : Q (.done (.ret (.ref C))) ⟨h, g, d, t, os⟩) :
    wpAny (model prog w) A (Builtin.«object.__getattribute__» ⟨[.ref x, .str "__class__" tk], []⟩) Q E ⟨h, g, d, t, os⟩ := by
  have L3 := PySem.W.looks_findIn (M := model prog w) X f3
  have hT5 : (⟨h, g, d, t, os⟩ : Shared).TypeIs (.builtin "object.__class__") "getset_descriptor" := F.typeOf_object_class
  have f5 := F.typeOf_object_class
  have f6 := F.slot_gs_get.lookup
  have f7 := F.slot_gs_set.lookup
  repeat (any_goals (first | assumption | (with_reducible refine wpAny_loadPart_at hx ?_; rw [hc]) | with_reducible refine L3.at ?_ | wp_step))
  refine exc_get X hx hc hm ?_
  repeat (any_goals (first | assumption | wp_step))
theorem exc_check {M : Model} {nameV : Value} {Q : Unit → Shared → Prop} (EA : ExcAt h C) (hx : h.get? x = some ox) (hc : ox.cls = .ref C) (hq : Q () ⟨h, g, d, t, os⟩) : wpAny M A (checkBuiltinCall "BaseException.__getattribute__" ⟨[.ref x, nameV], []⟩) Q E ⟨h, g, d, t, os⟩ := by
  obtain ⟨tl, Nn, nm, qn, bs, hdct, sn, sub, ab, col, dd, k0, k1, k2, k3, k5, mN, hC, hNs, hni, TL⟩ := EA
  have e1 : builtinKind "BaseException.__getattribute__" = some .slot := by decide +kernel
  have e2 : splitId "BaseException.__getattribute__" = some ("BaseException", "__getattribute__") := by decide +kernel
  have e3 : (Value.ref C :: tl).contains (.type "BaseException") = true := by
    rw [List.contains_cons, TL.hasType PySem.F.excBase_ValueError.hasBase]
    rfl
  have e4 := F.args_bexc_ga (.ref x) nameV
  simp only [checkBuiltinCall, e1, e2]
  refine wpAny_bind ?_
  unfold isInstance
  repeat (first | (with_reducible refine wpAny_loadPart_at hx ?_; rw [hc]) | (with_reducible refine wpAny_isSubtype_exc hC ?_; rw [e3]) | wp_step)
  exact hq
theorem exc_call {tk : Tok} {R : Result → Shared → Prop} (EA : ExcAt h C) (X : K.In h) (hx : h.get? x = some ox) (hc : ox.cls = .ref C) (f3 : PySem.W.findIn K (.ref C) "__class__" = some (some (.builtin "object.__class__"))) (hm : PySem.W.mroIn K C (.type "object") = some true) (hq : R (.ok (.ret (.ref C))) ⟨h, g, d, t, os⟩) :
    codeAny (model prog w) A (.call (.builtin "BaseException.__getattribute__") ⟨[.ref x, .str "__class__" tk], []⟩) R ⟨h, g, d, t, os⟩ :=
  codeAny_call_builtin PySem.F.attrBase_ValueError.ga.plain F.entry_bexc_ga (exc_check EA hx hc (exc_entry X hx hc f3 hm hq))
theorem exc_by {tk : Tok} {fill expr : Bool} {Q : Value → Shared → Prop} (EA : ExcAt h C) (X : K.In h) (hx : h.get? x = some ox) (hc : ox.cls = .ref C) (f1 : PySem.W.findIn K (.ref C) "__getattribute__" = some (some (.builtin "BaseException.__getattribute__"))) (f2 : PySem.W.findIn K (.ref C) "__getattr__" = some none)
    (f3 : PySem.W.findIn K (.ref C) "__class__" = some (some (.builtin "object.__class__"))) (hm : PySem.W.mroIn K C (.type "object") = some true) (hq : Q (.ref C) ⟨h, g, d, t, os⟩) :
    wpAny (model prog w) A (getAttrBy (.ref x) (.str "__class__" tk) fill expr) Q E ⟨h, g, d, t, os⟩ := by
  have L1 := PySem.W.looks_findIn (M := model prog w) X f1
  have L2 := PySem.W.looks_findIn (M := model prog w) X f2
  have b3 := PySem.F.attrBase_ValueError.ga.bind (.ref x)
  have y0 : (expr && onTheHeap (Value.builtin "BaseException.__getattribute__")) = false := by cases expr <;> rfl
  have y2 : (Value.builtin "BaseException.__getattribute__" == Value.builtin "object.__getattribute__") = false := by decide +kernel
  have y1 : (onTheHeap (Value.ref C) && Value.builtin "BaseException.__getattribute__" == Value.builtin "object.__getattribute__") = false := by rw [y2]; rfl
  repeat (any_goals (first | assumption | (with_reducible refine wpAny_loadPart_at hx ?_; rw [hc]) | with_reducible refine L1.at ?_ | with_reducible refine L2.at ?_ | wp_step))
  refine exc_call EA X hx hc f3 hm ?_
  repeat (any_goals (first | assumption | wp_step))
theorem exc_attr {Q : Option Value → Shared → Prop} (EA : ExcAt h C) (X : K.In h) (hx : h.get? x = some ox) (hc : ox.cls = .ref C) (f1 : PySem.W.findIn K (.ref C) "__getattribute__" = some (some (.builtin "BaseException.__getattribute__"))) (f2 : PySem.W.findIn K (.ref C) "__getattr__" = some none)
    (f3 : PySem.W.findIn K (.ref C) "__class__" = some (some (.builtin "object.__class__"))) (hm : PySem.W.mroIn K C (.type "object") = some true) (hq : Q (some (.ref C)) ⟨h, g, d, t + 1, os⟩) :
    wpAny (model prog w) A (getAttr? (.ref x) "__class__") Q E ⟨h, g, d, t, os⟩ := by
  unfold getAttr? getAttrBy?
  refine wpAny_bind (wpAny_mkText (wpAny_bind (wpAny_attempt (exc_by EA X hx hc f1 f2 f3 hm ?_))))
  exact wpAny_pure hq
end
/-- an exception, as it lies -/
def ExcO (x C : Addr) (h : Heap) : Prop := ∃ ox, h.get? x = some ox ∧ ox.cls = .ref C
/-- what is asked of its class -/
structure ExcK (K : PySem.W.Frag) (C : Addr) : Prop where
  ex : PySem.W.excIn K C bmV "ValueError.__new__" = true
  f1 : PySem.W.findIn K (.ref C) "__getattribute__" = some (some (.builtin "BaseException.__getattribute__"))
  f2 : PySem.W.findIn K (.ref C) "__getattr__" = some none
  f3 : PySem.W.findIn K (.ref C) "__class__" = some (some (.builtin "object.__class__"))
  hm : PySem.W.mroIn K C (.type "object") = some true
theorem kitx_exc {K : PySem.W.Frag} {x C : Addr} (T : ExcK K C) : PySem.W.KitX K (.ref x) (.ref C) (ExcO x C) where
  ty := fun _ _ _ hI => by
    obtain ⟨ox, hx, hc⟩ := hI
    exact hc ▸ (PySem.W.Looks.ld hx).andThen .now
  it := fun _ h X _ => by
    obtain ⟨tl, Nn, nm, qn, bs, hdct, sn, sub, ab, col, dd, k0, k1, k2, k3, k5, mN, hC, _⟩ := excAt_of X T.ex
    intro A' Q' E' s' k q
    unfold isType loadHead
    exact wpAny_bind (wpAny_loadPart (k _ _ hC) (wpAny_pure q))
  ne := fun h tp dd its n sl X htp => by
    obtain ⟨tl, Nn, nm, qn, bs, hdct, sn, sub, ab, col, dd', k0, k1, k2, k3, k5, mN, hC, _⟩ := excAt_of X T.ex
    refine Bool.eq_false_iff.mpr fun q => ?_
    have e : C = tp := Value.ref.inj (beq_iff_eq.mp q)
    subst e
    rw [htp] at hC
    have e := congrArg (fun o : Obj => o.data) (Option.some.inj hC)
    cases e
  ca := fun {prog w A E Q s} X hI k => by
    obtain ⟨ox, hx, hc⟩ := hI
    obtain ⟨h, g, d, t, os⟩ := s
    exact exc_attr (excAt_of X T.ex) X hx hc T.f1 T.f2 T.f3 T.hm k
/-- an exception that is known: the thing at x -/
def xcO (x C : Addr) : HO := .ext (ExcO x C)
theorem call_isX {X : Cx} : CallR X (.builtin "isinstance") (fun xs H Q => ∃ (x C D : Addr) (b : Bool), xs = [.ref x, .ref D] ∧ H x = some (xcO x C) ∧ ExcK X.K C ∧ PySem.W.kitOne X.K (.ref C) (.ref D) = some b ∧ Q (.bl b) H) := by
  intro pins s σ H xs us Q I rv h
  obtain ⟨x, C, D, b, rfl, hx, T, e, q⟩ := h
  obtain ⟨u, u2, rfl, r1, r2⟩ := vals2 rv
  cases r1
  cases r2
  obtain ⟨hO, _⟩ := (show ObjOk X.prog X.w H s.heap x (.ext (ExcO x C)) from I.hok x _ hx)
  exact PySem.W.kia_one (kitx_exc T) I.kIn hO e (fun z => nomatch z) fun tk => ⟨.bl b, H, I.tok tk, rfl, q⟩
/-- isinstance(error, a built-in class) -/
theorem call_isXT {X : Cx} : CallR X (.builtin "isinstance") (fun xs H Q => ∃ (x C : Addr) (c : String) (b : Bool), xs = [.ref x, .ty c] ∧ H x = some (xcO x C) ∧ ExcK X.K C ∧ PySem.W.kitOne X.K (.ref C) (.type c) = some b ∧ Q (.bl b) H) := by
  intro pins s σ H xs us Q I rv h
  obtain ⟨x, C, c, b, rfl, hx, T, e, q⟩ := h
  obtain ⟨u, u2, rfl, r1, r2⟩ := vals2 rv
  cases r1
  cases r2
  obtain ⟨hO, _⟩ := (show ObjOk X.prog X.w H s.heap x (.ext (ExcO x C)) from I.hok x _ hx)
  exact PySem.W.kia_one (kitx_exc T) I.kIn hO e (fun z => nomatch z) fun tk => ⟨.bl b, H, I.tok tk, rfl, q⟩
section
end
end L2

set_option maxHeartbeats 2000000
namespace L2
open PySem PySem.Spec PyProof.Rows
/-- an exception is caught by a class that its own one is under -/
theorem exc_matches {M : Model} {A : Around} {E : Value → Shared → Prop} {h : Heap} {g : Array GenState} {d : Drawn} {t : Nat} {os : OsState} {K : PySem.W.Frag} {x C D : Addr} {ox : Obj} {Q : Bool → Shared → Prop} (X : K.In h) (ED : ExcAt h D) (hs : PySem.W.mroIn K C (.ref D) = some true)
    (hx : h.get? x = some ox) (hc : ox.cls = .ref C) (hq : Q true ⟨h, g, d, t, os⟩) : wpAny M A (excMatches (.ref x) (.ref D)) Q E ⟨h, g, d, t, os⟩ := by
  obtain ⟨tl, Nn, nm, qn, bs, hdct, sn, sub, ab, col, dd, k0, k1, k2, k3, k5, mN, hD, _, _, TL⟩ := ED
  have e1 : (Value.ref D :: tl).contains (.type "BaseException") = true := by
    rw [List.contains_cons, TL.hasType PySem.F.excBase_ValueError.hasBase, Bool.or_true]
  have lS := PySem.W.looks_mroIn (M := M) X hs
  have z := tc_notTuple
  unfold excMatches
  repeat (first | (with_reducible refine wpAny_loadPart_at hx ?_; rw [hc]) | with_reducible refine wpAny_loadPart_at hD ?_ | (with_reducible refine wpAny_isSubtype_exc hD ?_; rw [e1]) | with_reducible refine lS.at ?_ | wp_step)
  exact hq
/-- a handler's name goes -/
theorem gone_ok {X : Cx} {pins : List (Addr × Obj)} {σ : St} {H : Hp} {s : Shared} {M : Model} {A : Around} {E : Value → Shared → Prop} {i : Nat} {n : Str} {pos : Pos} {Q : Unit → Shared → Prop} (I : Inv X pins σ H s) (hN : X.N.Nodup) (hi : X.N[i]? = some n) (hk : X.env.scope.names.lookup n = some .local)
    (h : ∀ s', Inv X pins (σ.set i none) H s' → Q () s') : wpAny M A (do bindName X.env n .none; unbindBehindTheSuite X.env n pos) Q E s := by
  obtain ⟨m, hn, hl⟩ := id I.loc
  have hcls : (X.env.scope.kind == .class || (X.env.scope.kind == .module && X.env.locals != X.env.globals)) = false := by
    rw [I.ok.kind]
    rfl
  have hiσ : i < σ.length := by
    rw [I.len]
    exact (List.getElem?_eq_some_iff.mp hi).1
  have cne := I.cne
  refine wpAny_nameGoes_keeps hk hn hcls fun h' v hn' hs => ?_
  obtain ⟨oL, _, _, hoL, _⟩ := id hn
  have far : ∀ b o, X.s₀.heap.get? b = some o → h'.get? b = s.heap.get? b := fun b o e => hs.2 b (Nat.ne_of_lt (Nat.lt_of_lt_of_le (Heap.lt_size e) I.ok.above))
  refine h _ ⟨I.ok, I.os, I.bare, ⟨fun b o e n hb hx => ?_, fun b o e n hb hx => ?_, I.base.free, fun b o e hx => ?_, I.base.tups, I.base.frzs, I.base.tbls⟩, ⟨_, hn', fun j y v' e1 e2 e3 => ?_⟩, fun y c e => ?_, I.free, I.freeC, fun p hp => ?_, fun b ob e => ?_, by simpa using I.len⟩
  · exact (far b o e).trans (I.base.keep b o e n hb hx)
  · obtain ⟨sl, e1⟩ := I.base.slot b o e n hb hx
    exact ⟨sl, (far b o e).trans e1⟩
  · obtain ⟨o', e1⟩ := I.base.there b o e hx
    exact ⟨o', (far b o e).trans e1⟩
  · by_cases hj : j = i
    · subst hj
      rw [List.getElem?_set_self hiσ] at e2
      cases e2
    · rw [List.getElem?_set_ne (Ne.symm hj)] at e2
      obtain ⟨u', r', q⟩ := hl j y v' e1 e2 e3
      refine ⟨u', r', ?_⟩
      rcases q with ⟨k, e⟩ | ⟨k, c, e, z⟩
      · refine .inl ⟨k, ?_⟩
        have : y ≠ n := fun e => hj (nodup_ix hN e1 (e ▸ hi))
        simp [this, e]
      · exact .inr ⟨k, c, e, z.sameBut hs (cne y c e)⟩
  · obtain ⟨w', z⟩ := I.cell y c e
    exact ⟨w', z.sameBut hs (cne y c e)⟩
  · obtain ⟨e, n, ne, nf, dd⟩ := I.pin p hp
    exact ⟨(hs.2 p.1 ne).trans e, n, ne, nf, dd⟩
  · refine (I.hok b ob e).stay (fun c w' hc q => (hs.2 c ?_).trans q) (fun _ q => q) fun _ _ q => q
    rintro rfl
    have hfree := I.free
    rcases hc with rfl | hc
    · rw [hfree] at e; cases e
    · rw [hfree] at hc; cases hc
/-- what is wanted behind the suite: the name is gone -/
def Ends.gone (D : Ends) (i : Nat) : Ends := ⟨fun σ H => D.nx (σ.set i none) H, D.rt, fun σ H => D.bk (σ.set i none) H, fun σ H => D.ct (σ.set i none) H⟩
/-- an exception is known from here on -/
theorem Inv.known {X : Cx} {pins : List (Addr × Obj)} {σ : St} {H : Hp} {s : Shared} {ea C : Addr} {oe : Obj} (I : Inv X pins σ H s) (hn : H ea = none) (ho : s.heap.get? ea = some oe) (hc : oe.cls = .ref C) (hnew : X.s₀.heap.get? ea = none) (hL : ea ≠ X.env.locals) (hcl : ∀ x c, X.env.cells.lookup x = some c → c ≠ ea) (hp : ∀ p ∈ X.pn ++ pins, p.1 ≠ ea) : Inv X pins σ (upd H ea (xcO ea C)) s := by
  have hob : ObjOk X.prog X.w (upd H ea (xcO ea C)) s.heap ea (.ext (ExcO ea C)) := ⟨⟨oe, ho, hc⟩, ⟨oe, ho⟩, fun h1 h2 hφ k => by
    obtain ⟨ox, e1, e2⟩ := hφ
    exact ⟨ox, k _ e1, e2⟩⟩
  refine ⟨I.ok, I.os, I.bare, ⟨I.base.keep, I.base.slot, fun b o e n hx => ?_, I.base.there, fun b xs e => ?_, fun b o u e => ?_, fun b ps e => ?_⟩, I.loc, I.cell, ?_, fun x c e => ?_, fun p hp' => ?_, fun b u e => ?_, I.len⟩
  · have hb : b ≠ ea := fun z => by rw [z, hnew] at e; cases e
    rw [upd_ne hb]
    exact I.base.free b o e n hx
  · rw [upd_ne (ne_of_none (I.base.tups b xs e) hn)]
    exact I.base.tups b xs e
  · rw [upd_ne (ne_of_none (I.base.frzs b o u e) hn)]
    exact I.base.frzs b o u e
  · obtain ⟨m, e1⟩ := I.base.tbls b ps e
    exact ⟨m, by rw [upd_ne (ne_of_none e1 hn)]; exact e1⟩
  · rw [upd_ne (Ne.symm hL)]
    exact I.free
  · rw [upd_ne (hcl x c e)]
    exact I.freeC x c e
  · obtain ⟨e, n, r⟩ := I.pin p hp'
    exact ⟨e, by rw [upd_ne (hp p hp')]; exact n, r⟩
  · by_cases hb : b = ea
    · subst hb
      rw [upd_same] at e
      cases e
      exact hob
    · rw [upd_ne hb] at e
      exact (I.hok b u e).stay (fun c v _ q => q) (fun c q => by rw [upd_ne (ne_of_none q hn)]; exact q) fun c xs q => by rw [upd_ne (ne_of_none q hn)]; exact q
end L2

set_option maxHeartbeats 2000000
namespace L2
open PySem PySem.Spec PyProof.Rows
/-- try: body; except D as n: suite -/
def tTryAs (K : PySem.W.Frag) (m i : Nat) (CE : Addr) (tb : XK → TS) (th : TS) : TS := fun D σ H => tb (fun cls _ H' => ∃ C, cls = .ref C ∧ PySem.W.mroIn K C (.ref CE) = some true ∧ ∀ ea, H' ea = none → th (D.gone i) ((List.replicate m none).set i (some (.ref ea))) (upd H' ea (xcO ea C))) D σ H
theorem SP.ungone {X : Cx} {pins : List (Addr × Obj)} {D : Ends} {f : Flow} {s : Shared} {M : Model} {A : Around} {E : Value → Shared → Prop} {i : Nat} {n : Str} {pos : Pos} (hN : X.N.Nodup) (hi : X.N[i]? = some n) (hk : X.env.scope.names.lookup n = some .local) (h : SP X pins (D.gone i) f s) :
    wpAny M A (do bindName X.env n .none; unbindBehindTheSuite X.env n pos) (fun _ s' => SP X pins D f s') E s := by
  cases f with
  | next => obtain ⟨σ', H', I, q⟩ := h; exact gone_ok I hN hi hk fun s' I' => ⟨_, H', I', q⟩
  | brk => obtain ⟨σ', H', I, q⟩ := h; exact gone_ok I hN hi hk fun s' I' => ⟨_, H', I', q⟩
  | cont => obtain ⟨σ', H', I, q⟩ := h; exact gone_ok I hN hi hk fun s' I' => ⟨_, H', I', q⟩
  | ret u => obtain ⟨v, σ', H', I, r, q⟩ := h; exact gone_ok I hN hi hk fun s' I' => ⟨v, _, H', I', r, q⟩
theorem ps_tryAs {X : Cx} {x n : Str} {CE : Addr} {i : Nat} {body : List Stmt} {b₀ : Stmt} {suite : List Stmt} {np hpos pos : Pos} {tb : XK → TS} {th : TS} (hst : X.stack = X.env :: X.outer) (hfr : X.env.frame = some X.env.locals) (hex : X.ex = []) (T : ExcC X.K X.mg x CE) (hg : Gl X x)
    (hN : X.N.Nodup) (hi : X.N[i]? = some n) (hk : X.env.scope.names.lookup n = some .local)
    (hb : ∀ (pins : List (Addr × Obj)) (xe : Value → Shared → Prop) (E : XK), Passes (CXR X.prog X.w X.base) (cxTry X pins xe) E → PSs (cxTry X pins xe) body (tb E))
    (hh : ∀ ea, PSs (cxH X ea) (b₀ :: suite) th) (hd : (x == ("__debug__" : Str)) = false := by decide) :
    PS X (.Try body [.ExceptHandler (some (.Name x np)) (some n) (b₀ :: suite) hpos] [] [] pos) (tTryAs X.K X.N.length i CE tb th) := by
  intro pins s σ H D I h
  refine wpAny_Try_except ?_
  have hp : Passes (CXR X.prog X.w X.base) (cxTry X pins fun e s₁ => wpAny (model X.prog X.w) X.A (noteFrame e X.env) (fun _ s₂ => wpAny (model X.prog X.w) X.A (setFlight e none) (fun _ s₃ => wpAny (model X.prog X.w) X.A (handleBy e X.env [.ExceptHandler (some (.Name x np)) (some n) (b₀ :: suite) hpos]) (SP X pins D) X.xe s₃) X.xe s₂) X.xe s₁)
      (fun cls _ H' => ∃ C, cls = .ref C ∧ PySem.W.mroIn X.K C (.ref CE) = some true ∧ ∀ ea, H' ea = none → th (D.gone i) ((List.replicate X.N.length none).set i (some (.ref ea))) (upd H' ea (xcO ea C))) := by
    intro pins' σ' H1 s1 e s' I1 hx
    obtain ⟨ea, cls, a0, H2, B, rfl, os, bare, un, hok, hea, hbb, fly, cov, C, rfl, hsub, hth⟩ := hx
    have nf := frs_free I1 un
    have fd := fly_data fly
    have fly0 : Heap.FlyingW B (X.env :: X.outer) ea (.ref C) a0 s'.heap := by rw [← hst]; exact fly
    have hfs : X.A.frames = some (X.env :: X.outer) := by rw [← hst]; exact I.ok.frames
    have nfr : ea ∉ frs X.stack := fun z => by
      obtain ⟨_, _, _, oe, vs, _, _, _, he, _, hd', _⟩ := fly
      exact fd ea z oe he vs hd'
    have fresh : s1.heap.get? ea = none := by
      cases hq : s1.heap.get? ea with
      | none => rfl
      | some o =>
        obtain ⟨u, hu⟩ := un.there ea o hq (by simp)
        have := cov ea u hu (.inl ⟨o, hq⟩) nfr
        rw [fly.2.1] at this
        cases this
    refine wpAny_looks_onW hfs hfr fly0 fun h4 held4 up4 => ?_
    refine wpAny_landsW held4 fun h5 fly5 up5 => ?_
    obtain ⟨un5, hok5, cov5⟩ := moved un hok cov fly5.1 (up4.trans up5) nf fd
    have I5 : Inv X pins σ' H2 { s' with heap := h5 } := (I1.call' (s' := { s' with heap := h5 }) os un5 hok5 bare (fun b z => absurd z (by simp))).ofTry I.ok
    obtain ⟨oe, hoe, hoc⟩ := fly5.there
    refine wpAny_handleBy_cons (codeAny_handlers_test (ld_glob (X := cxH X ea) I5.toH hg T.mgC ?_ hd)) (by intro q; cases q)
    refine exc_matches I5.kIn (excAt_of I5.kIn T.ex) hsub hoe hoc (codeAny_handlers_suite_as ?_)
    refine lands_againW fly5 fun h6 fly6 up6 => ?_
    have fd5 := fly_data fly5
    rw [← hst] at fd5
    obtain ⟨un6, hok6, cov6⟩ := moved un5 hok5 cov5 fly6.1 up6 nf fd5
    have I6 : Inv X pins σ' H2 { s' with heap := h6 } := (I1.call' (s' := { s' with heap := h6 }) os un6 hok6 bare (fun b z => absurd z (by simp))).ofTry I.ok
    obtain ⟨oe6, hoe6, hoc6⟩ := fly6.there
    have I7 : Inv X pins (List.replicate X.N.length none) (upd H2 ea (xcO ea C)) { s' with heap := h6 } := by
      refine I6.blank.known hea hoe6 hoc6 ?_ ?_ ?_ ?_
      · cases hq : X.s₀.heap.get? ea with
        | none => rfl
        | some o =>
          obtain ⟨o', ho'⟩ := I1.base.there ea o hq (show ea ∉ X.ex by rw [hex]; simp)
          rw [fresh] at ho'
          cases ho'
      · intro z
        refine nfr ?_
        rw [hst, z]
        exact List.mem_filterMap.mpr ⟨X.env, List.mem_cons_self .., hfr⟩
      · intro y c hc z
        obtain ⟨v, ⟨o, ho, _⟩⟩ := I1.cell y c hc
        rw [z, fresh] at ho
        cases ho
      · intro p hp' z
        obtain ⟨e, _⟩ := I1.pin p (List.mem_append_left _ hp')
        rw [z, fresh] at e
        cases e
    refine store_ok (X := cxH X ea) (I7.toH (ea := ea)) hN hi (Or.inl hk) (v := .ref ea) rfl (fun s8 I8 => ?_) (Or.inr hk)
    refine wpAny_mono (hh ea pins _ _ _ (D.gone i) I8 (hth ea hea)) (fun f s9 q => ?_) (fun _ _ z => z.elim)
    exact (q.ofH I.ok).ungone hN hi hk
  refine wpAny_mono (hb pins _ _ hp [] s σ H D I.toTry h) (fun f s1 q => ?_) fun _ _ z => z
  have q2 := q.ofTry I.ok
  cases f with
  | next => exact wpAny_execs_nil q2
  | ret u => exact q2
  | brk => exact q2
  | cont => exact q2
end L2

set_option maxHeartbeats 2000000
namespace L2
open PySem PySem.Spec PyProof.Rows
theorem vals_bls {bs : List Bool} : ∀ {its : List Value}, Vals (bs.map V.bl) its → its = bs.map Value.bool := by
  induction bs with
  | nil => intro its r; cases r; rfl
  | cons d r ih =>
    intro its h
    cases h with
    | cons h1 h2 =>
      cases (show _ = Value.bool d from h1)
      rw [ih h2]
      rfl
theorem eq_tr {A : Around} {s : Shared} (b : Bool) : SeqAt.EqAt A s (.bool b) (.bool true) b := by
  have := eqAt_V (A := A) (s := s) (y := .bl b) (x := .bl true) (u := .bool b) (v := .bool true) rfl rfl rfl rfl
  cases b <;> exact this
def isTr : Value → Bool
  | .bool b => b
  | _ => false
theorem mt_count {X : Cx} : MtR X "list.count" (fun x xs H Q => ∃ (l : Addr) (bs : List Bool), x = .ref l ∧ xs = [.bl true] ∧ H l = some (.lst (bs.map V.bl)) ∧ Q (.int (bs.countP id)) H) := by
  intro pins s σ H x vs v us Q I rx rv h
  obtain ⟨l, bs, rfl, rfl, hH, q⟩ := h
  cases rx
  obtain ⟨u, rfl, ru⟩ := rv.one
  cases (show u = Value.bool true from ru)
  obtain ⟨z, its, n, r, hl, e⟩ := I.lstM hH
  have hi := vals_bls r
  subst hi
  refine call_meets F.slot_list_count ⟨_, e, rfl⟩ F.entry_list_count (F.args_list_count_2 _ _) (SeqAt.list_countAt l _ n none _ (.bool true) isTr) ⟨e, fun y hy => ?_, ?_⟩
  · have hy : y ∈ bs.map Value.bool := by simpa using hy
    obtain ⟨b, _, rfl⟩ := List.mem_map.mp hy
    exact eq_tr b
  · have ec : (List.countP isTr (bs.map Value.bool).toArray.toList) = bs.countP id := by
      rw [List.toList_toArray, List.countP_map]
      rfl
    rw [ec]
    exact ⟨.int _, H, I.tok _, ⟨_, rfl⟩, q⟩
theorem mt_index {X : Cx} : MtR X "list.index" (fun x xs H Q => ∃ (l : Addr) (bs : List Bool) (j : Nat), x = .ref l ∧ xs = [.bl true] ∧ H l = some (.lst (bs.map V.bl)) ∧ bs.length ≤ 1000 ∧ bs[j]? = some true ∧ (∀ m, m < j → bs[m]? = some false) ∧ Q (.int j) H) := by
  intro pins s σ H x vs v us Q I rx rv h
  obtain ⟨l, bs, j, rfl, rfl, hH, hz, hj, hno, q⟩ := h
  cases rx
  obtain ⟨u, rfl, ru⟩ := rv.one
  cases (show u = Value.bool true from ru)
  obtain ⟨z, its, n, r, hl, e⟩ := I.lstM hH
  have hi := vals_bls r
  subst hi
  have hjl : j < bs.length := (List.getElem?_eq_some_iff.mp hj).1
  refine call_meets F.slot_list_index ⟨_, e, rfl⟩ F.entry_list_index (F.args_list_index_2 _ _) (SeqAt.list_indexAt l _ n none _ (.bool true) isTr j (by simpa using hjl) (by lia) ?_ ?_) ⟨e, fun y hy => ?_, ?_⟩
  · have := (List.getElem?_eq_some_iff.mp hj).2
    simp [isTr, this]
  · intro m hm hmj
    have h1 := hno m hmj
    have := (List.getElem?_eq_some_iff.mp h1).2
    simp [isTr, this]
  · have hy : y ∈ bs.map Value.bool := by simpa using hy
    obtain ⟨b, _, rfl⟩ := List.mem_map.mp hy
    exact eq_tr b
  · exact ⟨.int _, H, I.tok _, ⟨_, rfl⟩, q⟩
end L2

set_option maxHeartbeats 2000000
/-! things of any kind: texts made great, lists of texts compared, parts picked out by a test that makes new things -/
namespace L2
open PySem PySem.Spec PyProof.Rows
section
variable {X : Cx}
end
end L2

set_option maxHeartbeats 2000000
/-! object[index] = value, of any value; displays of constants, kept shut (their meaning would be walked through each time) -/
namespace L2
open PySem PySem.Spec PyProof.Rows
section
variable {X : Cx}
structure PAW (X : Cx) (es : List Expr) (t : TA) : Prop where
  h : PA X es t
structure PEW (X : Cx) (e : Expr) (t : TE) : Prop where
  h : PE X e t
structure PSsW (X : Cx) (st : List Stmt) (t : TS) : Prop where
  h : PSs X st t
theorem pa_nilW : PAW X [] tNil := ⟨pa_nil⟩
theorem pa_consW {e : Expr} {es : List Expr} {te : TE} {t : TA} (he : PE X e te) (ha : PAW X es t) (hs : starEach (e :: es) X.env = (false, eval e X.env) :: starEach es X.env := by rfl) : PAW X (e :: es) (tCons te t) := ⟨pa_cons he ha.h hs⟩
theorem pe_pickW {es : List Expr} {b : Expr} {t : TA} {tb : TE} {p1 p2 : Pos} (ha : PAW X es t) (hb : PE X b tb) (hs : PlainIx b) : PEW X (.Subscript (.List es p1) b p2) (tOp (rIxL X.K) (tLstA t) tb) := ⟨pe_ix ix_list (pe_lstA ha.h) hb hs⟩
end
end L2

set_option maxHeartbeats 2000000
/-! functions of the text that are called within a handler -/
namespace L2
open PySem PySem.Spec PyProof.Rows
structure FnOkH (P : Program) (w : World) (K : PySem.W.Frag) (mg : Str → Option Value) (base : Heap) (k : Nat) (f : Addr) (fd : FuncData) (ps : List Str) (sp : Sp) : Prop where
  len : ∀ vs H Q E, sp vs H Q E → vs.length = ps.length
  run : ∀ (A : Around) (ea : Addr) (outer : List Env) (s : Shared) (H : Hp) (args : Args) (us : List Value) (vs : List V) (Q : VK) (E : XK), Room k A → Env0 P w K mg base A outer s H → BindsTo s fd args (ps.zip us) → Vals vs us → sp vs H Q E →
    codeAny (model P w) (A.mark (some (.ref ea))) (.call (.ref f) args) (CR CX0 outer P w H s Q E) s
section
variable {P : Program} {w : World} {K : PySem.W.Frag} {mg : Str → Option Value} {base : Heap}
theorem Fun.okH {x qual : Str} {st : Stmt} {f : Addr} {fd : FuncData} {N ps : List Str} {k : Nat} {sp : Sp} (F : Fun K x qual st f fd) (S : FnScope N ps (defScope st)) (len : ∀ vs H Q E, sp vs H Q E → vs.length = ps.length)
    (hbody : ∀ (cdv : Value) (A : Around) (ea : Addr) (outer : List Env) (s : Shared) (H : Hp) (vs : List V) (Q : VK) (E : XK), Room k (A.deeper (envOfC qual (defScope st) s.heap.objs.size f cdv)) → sp vs H Q E →
      ∃ t, PSs (cxH (cxOf CX0 P w K mg base N qual (defScope st) f cdv A outer s H E) ea) (defBody st) t ∧ t { nx := fun _ H' => Q .non H', rt := Q } (start N vs) H) : FnOkH P w K mg base (k + 1) f fd ps sp := by
  obtain ⟨oc, od, kV, doc, pm, an, cdv, ct, osl, rfl, lk, hcd⟩ := F.ex
  refine ⟨len, fun A ea outer s H args us vs Q E hr e0 hb r hsp => ?_⟩
  have hl := len _ _ _ _ hsp
  have KX : K.In s.heap := e0.mod.kin.keeps fun b o e => (e0.bs b o e).1
  have lim : s.heap.NoLimit := e0.mod.nolimit.keeps fun b o e => (e0.bs b o e).1
  have hkind : ∀ y ∈ ps.zip us, (defScope st).names.lookup y.1 = some .local ∨ ((defScope st).names.lookup y.1 = some .cell ∧ ((cellsFrom (s.heap.objs.size + 1) (defScope st).names []).lookup y.1).isSome = true) := fun ⟨n, v⟩ hy => by
    rcases S.par n (List.of_mem_zip hy).1 with q | q
    · exact .inl q
    · exact .inr ⟨q, PySem.W.cellsFrom_some _ _ _ (.inl q)⟩
  refine codeAny_call_function (A := A.mark (some (.ref ea))) hr.depth (KX _ _ lk) rfl S.co S.gen rfl (PySem.W.codeRec_of KX hcd) (hb _ _ _ _ ?_)
  refine wpAny_newFunctionEnv_cells S.kind hkind fun env he s1 x => ?_
  subst he
  refine ⟨lim.keeps x.toInCall.keep, codeAny_func ?_⟩
  obtain ⟨t, ht, hq⟩ := hbody cdv A ea outer s H vs Q E (hr.deeper _) hsp
  have I : Inv (cxOf CX0 P w K mg base N qual (defScope st) f cdv A outer s H E) [] (start N vs) H s1 := inv_start S hr.hd e0 hl r x
  refine wpAny_mono (ht [] s1 (start N vs) H _ (I.toH (ea := ea)) hq) (fun fl s' hs => ?_) fun e s' hs => hs.elim
  have fin : ∀ {σ' : St} {H' : Hp} {v : V} {u : Value}, Inv (cxH (cxOf CX0 P w K mg base N qual (defScope st) f cdv A outer s H E) ea) [] σ' H' s' → RelV v u → Q v H' → CE outer P w H s Q u s' :=
    fun {σ' H' v u} J rv q => ⟨v, H', J.os, J.bare, J.base, J.hok, rv, q⟩
  cases fl with
  | ret u =>
    obtain ⟨v, σ', H', J, rv, q⟩ := hs
    exact fin J rv q
  | next =>
    obtain ⟨σ', H', J, q⟩ := hs
    exact fin (v := V.non) (u := Value.none) J rfl q
  | brk =>
    obtain ⟨_, _, _, q⟩ := hs
    exact False.elim q
  | cont =>
    obtain ⟨_, _, _, q⟩ := hs
    exact False.elim q
end
structure FnAtH (P : Program) (w : World) (K : PySem.W.Frag) (mg : Str → Option Value) (base : Heap) (k : Nat) (x : Str) (ps : List Str) (sp : Sp) : Prop where
  ex : ∃ f fd, FnOkH P w K mg base k f fd ps sp ∧ mg x = some (.ref f) ∧ PySem.W.keepIn K (.ref f) = true ∧ Binds K fd ps []
theorem pe_callH {X : Cx} {ea : Addr} {k : Nat} {x : Str} {ps : List Str} {sp : Sp} {e : Expr} {es : List Expr} {t : TA} {p pos : Pos} (F : FnAtH X.prog X.w X.K X.mg X.base k x ps sp) (hr : Room k X.A) (ha : PA (cxH X ea) (e :: es) t) (hg : Gl (cxH X ea) x := by rfl)
    (hdb : (x == ("__debug__" : Str)) = false := by decide) (he : starEach (e :: es) X.env = (false, eval e X.env) :: starEach es X.env := by rfl) (hpl : (backTo pos (starEach es X.env)).any (·.1) = false := by rfl) :
    PE (cxH X ea) (.Call (.Name x p) (e :: es) [] pos) (tCall sp [] E0 t) := by
  obtain ⟨f, fd, G, hm, hk, hb⟩ := F.ex
  intro pins s σ H Q I h
  refine wpAny_Call_Name_kw (ld_glob I hg hm ?_ hdb)
  refine PySem.W.callWith_K (h₀ := X.base) I.ok.mod.kin hk (thn (ha pos pins s σ H _ I h) fun us s1 ⟨vs, H1, I1, r, q⟩ => ⟨I1.kIn, ?_⟩) he hpl
  have q : sp (vs ++ []) H1 Q E0 := q
  rw [List.append_nil] at q
  have hl : us.length = ps.length := by rw [← r.length]; exact G.len _ _ _ _ q
  have ev := I1.env0
  have e0 : Env0 X.prog X.w X.K X.mg X.base X.A X.stack s1 H1 := ⟨ev.frames, ev.mod, ev.bs, ev.bsz, ev.funs, ev.frf, ev.hok, ev.bare⟩
  have hb' := hb s1 us I1.kIn (by rw [List.append_nil]; exact hl)
  rw [List.append_nil] at hb'
  refine wpAny_call (codeAny_mono (G.run X.A ea X.stack s1 H1 ⟨us, []⟩ us vs Q E0 hr e0 hb' r q) fun r s' hq => ?_)
  cases r with
  | error e => exact pass0 (X := cxH X ea) pins σ H1 s1 e s' I1 hq
  | ok fl =>
    cases fl with
    | ret u => exact I1.after hq
    | next => exact False.elim hq
    | brk => exact False.elim hq
    | cont => exact False.elim hq
end L2

set_option maxHeartbeats 2000000
/-! methods that may refuse; lists made longer by a list or a tuple -/
namespace L2
open PySem PySem.Spec PyProof.Rows
structure MeAtR (P : Program) (w : World) (K : PySem.W.Frag) (mg : Str → Option Value) (base : Heap) (C : Addr) (k : Nat) (x : Str) (ps : List Str) (sp : Sp) : Prop where
  ex : ∃ f fd, FnOk P w K mg base (CXR P w base) k f fd ps sp ∧ Binds K fd ps [] ∧ Meth K C x f
section
variable {X : Cx} {k : Nat} {C : Addr} {m x : Str} {ps : List Str} {sp : Sp} {o e : Expr} {es : List Expr} {ta : TE} {t : TA} {p pos apos : Pos} {E : XK}
theorem pe_lstW {es : List Expr} {t : TA} {p1 : Pos} (ha : PAW X es t) : PEW X (.List es p1) (tLstA t) := ⟨pe_lstA ha.h⟩
theorem ps_setW {i : Nat} {x : Str} {e : Expr} {te : TE} {pos' pos : Pos} (hN : X.N.Nodup) (hi : X.N[i]? = some x) (hx : Loc X.env.scope x) (he : PEW X e te) (hs : swapsWith e (some (.Name x pos')) pos.line X.env = pure false := by rfl) (hf : X.fn x = true ∨ X.env.scope.names.lookup x = some .local := by first | exact .inl rfl | exact .inr rfl | assumption) :
    PS X (.Assign [.Name x pos'] e pos) (tAsg te (gName i)) := ps_set hN hi hx he.h hs hf
end
end L2

set_option maxHeartbeats 2000000
/-! a dict that is an object of the module: texts to objects of the module -/
namespace L2
open PySem PySem.Spec PyProof.Rows
inductive KEnts (w : World) : List DictEntry → List (Str × Addr) → Prop
  | nil : KEnts w [] []
  | cons {x : Str} {t : Tok} {v : Addr} {es : List DictEntry} {kvs : List (Str × Addr)} : KEnts w es kvs → KEnts w ({ hash := PyData.keyHash w.params x, key := .str x t, val := .ref v } :: es) ((x, v) :: kvs)
structure DKat (w : World) (K : PySem.W.Frag) (a : Addr) (kvs : List (Str × Addr)) : Prop where
  ex : ∃ (es : Array DictEntry) (ep : Nat), K.lookup a = some { cls := .type "dict", dict := none, data := .dict es ep, slots := #[] } ∧ KEnts w es.toList kvs
  sys : (a == sysModules) = false
  nod : (kvs.map (·.1)).Nodup
def dkV (kvs : List (Str × Addr)) : List (Key × Value) := kvs.map fun p => (Sum.inr p.1, Value.ref p.2)
def dkGet (kvs : List (Str × Addr)) (x : Str) : Option Addr := (kvs.find? fun p => decide (p.1 = x)).map (·.2)
theorem KEnts.pairs {P : Program} {w : World} : ∀ {es : List DictEntry} {kvs : List (Str × Addr)}, KEnts w es kvs → Pairs (mixKind P w) es (dkV kvs)
  | _, _, .nil => .nil
  | _, _, .cons (x := x) (t := t) r => .cons (kv_str x t) rfl r.pairs
where
  kv_str {P : Program} {w : World} (x : Str) (t : Tok) : (mixKind P w).is (Sum.inr x) (.str x t) = true := kV_is (P := P) (w := w) (k := Sum.inr x) (show RelV (.str x) (.str x t) from ⟨t, rfl⟩)
theorem KEnts.keys {P : Program} {w : World} : ∀ {es : List DictEntry} {kvs : List (Str × Addr)}, KEnts w es kvs → ∀ e ∈ es, ∃ k, (mixKind P w).is k e.key = true ∧ e.hash = (mixKind P w).hash k
  | _, _, .nil, e, h => by cases h
  | _, _, .cons (x := x) (t := t) r, e, h => by
    rcases List.mem_cons.mp h with rfl | h
    · exact ⟨Sum.inr x, KEnts.pairs.kv_str x t, rfl⟩
    · exact r.keys e h
theorem dk_nodup : ∀ {kvs : List (Str × Addr)}, (kvs.map (·.1)).Nodup → ((dkV kvs).map (·.1)).Nodup := fun {kvs} h => by
  unfold dkV
  rw [List.map_map]
  have : (kvs.map ((fun x => x.1) ∘ fun p => ((Sum.inr p.1 : Key), Value.ref p.2))) = (kvs.map (·.1)).map (Sum.inr : Str → Key) := by rw [List.map_map]; rfl
  rw [this]
  exact List.Pairwise.map _ (fun a b hab e => hab (by injection e)) h
theorem dk_value (x : Str) : ∀ kvs : List (Str × Addr), valueAt (dkV kvs) (Sum.inr x : Key) = (dkGet kvs x).map Value.ref
  | [] => rfl
  | p :: r => by
    have ih := dk_value x r
    unfold valueAt dkGet dkV at *
    rw [List.map_cons, List.find?_cons, List.find?_cons]
    by_cases h : p.1 = x
    · rw [decide_eq_true (show ((Sum.inr p.1 : Key) = Sum.inr x) by rw [h]), decide_eq_true h]
      rfl
    · rw [decide_eq_false (show ¬ ((Sum.inr p.1 : Key) = Sum.inr x) from fun e => h (by injection e)), decide_eq_false h]
      exact ih
theorem DKat.dict {P : Program} {w : World} {K : PySem.W.Frag} {a : Addr} {kvs : List (Str × Addr)} {h : Heap} (D : DKat w K a kvs) (X : K.In h) : h.DictOf (mixKind P w) a (dkV kvs) := by
  obtain ⟨es, ep, lk, r⟩ := D.ex
  exact ⟨_, es, ep, X _ _ lk, ⟨rfl, rfl, rfl⟩, rfl, fun e he => r.keys e (by simpa using he), r.pairs, dk_nodup D.nod⟩
section
variable {X : Cx}
theorem op_notInK : OpR X (compareOp .NotIn) (fun x y H Q => ∃ (a : Addr) (z : Str) (kvs : List (Str × Addr)), x = .str z ∧ y = .ref a ∧ DKat X.w X.K a kvs ∧ Q (.bl (!(dkGet kvs z).isSome)) H) := by
  intro pins s σ H x y v u Q I rx ry h
  obtain ⟨a, z, kvs, rfl, rfl, D, q⟩ := h
  cases ry
  refine wpAny_notIn_of (knd := mixKind X.prog X.w) (kV_is (k := Sum.inr z) rx) D.sys (D.dict I.kIn).mapOf ?_
  rw [dk_value, Option.isSome_map]
  exact ⟨.bl _, H, I.tok _, rfl, q⟩
theorem pe_dgetK {o i : Expr} {td ty : TE} {pos : Pos} (ho : PE X o td) (hi : PE X i ty) (hs : NoSl i) : PE X (.Subscript o i pos) (fun σ H Q => td σ H fun x H1 => ty σ H1 fun y H2 => ∃ (a : Addr) (z : Str) (kvs : List (Str × Addr)) (t : Addr), x = .ref a ∧ y = .str z ∧ DKat X.w X.K a kvs ∧ dkGet kvs z = some t ∧ Q (.ref t) H2) := by
  intro pins s σ H Q I h
  refine subD_of PySem.F.slot_dict_getitem.lookup hs (thn (ho pins s σ H _ I h) fun u s1 ⟨x, H1, I1, rx, q1⟩ => thn (hi pins s1 σ H1 _ I1 q1) fun iv s2 ⟨y, H2, I2, ry, a, z, kvs, t, ex, ey, D, g, q2⟩ => ?_)
  subst ex ey
  obtain rfl : u = Value.ref a := rx
  have dd := D.dict (P := X.prog) I2.kIn
  refine ⟨?_, wpAny_getItem_of (knd := mixKind X.prog X.w) (kV_is (k := Sum.inr z) ry) dd.mapOf (v := .ref t) (by rw [dk_value, g]; rfl) ⟨.ref t, H2, I2.tok _, rfl, q2⟩⟩
  obtain ⟨ob, _, _, h1, h2, _⟩ := dd
  exact ⟨ob, h1, h2.1⟩
end
end L2

set_option maxHeartbeats 2000000
/-! sorted(set(a list of texts)) -/
namespace L2.ST
open PySem PySem.Spec PyProof.Rows
section
variable {prog : Program} {w : World} {A : Around} {E : Value → Shared → Prop} {s : Shared}
theorem sub_ls : isSubtype (.type "list") (.type "set") = pure false := by rw [isSubtype_type]; kernel_rfl
theorem sub_lf : isSubtype (.type "list") (.type "frozenset") = pure false := by rw [isSubtype_type]; kernel_rfl
set_option maxHeartbeats 3200000 in
theorem call_setL {l : Addr} {items : Array Value} {xs : List Str} {Q : Value → Shared → Prop} (hh : A.handled = none) (hl : s.heap.IsList l items) (hi : StrsAre items.toList xs) (hb : xs.length < 800)
    (h : ∀ (h' : Heap) (tk : Nat), SSet prog w h' s.heap.objs.size (dd xs) → (∀ b o, b < s.heap.objs.size → s.heap.get? b = some o → h'.get? b = some o) → Q (.ref s.heap.objs.size) { s with heap := h', toks := tk }) :
    wpAny (model prog w) A (call (.type "set") [.ref l]) Q E s := by
  obtain ⟨c, tl, hmro⟩ := F.called_set.mro
  have hmade := F.called_set.made
  have hsub := F.called_set.sub
  refine wpAny_call (codeAny_of_tree ?_)
  show wpAny _ _ (callAny (.type "set") _) _ _ _
  refine wpAny_pure ⟨Code.quiet_builtin _ (by decide +kernel), codeAny_builtin F.entry_type_call ?_⟩
  rw [Around.under_plain (weight_type_call_type "set" [.ref l] []) rfl]
  have h1 := F.called_set.notType
  have h2 := F.called_set.canCreate
  have hct := F.typeCall_set_1 (.ref l)
  repeat (any_goals (first | assumption | wp_step))
  refine codeAny_mono (code_new (.ref l) (E := E) (Q₁ := fun obj s₁ => obj = .ref s.heap.objs.size ∧ s₁ = { s with heap := s.heap.push { cls := .type "set", dict := none, data := .set #[] 0 (.fresh 0 0 (!byT w)) } }) ⟨rfl, rfl⟩) fun r s₁ hr => ?_
  generalize hled : (!byT w) = led at hr
  cases r with
  | error e => exact hr
  | ok fl =>
    cases fl with
    | ret obj =>
      obtain ⟨rfl, rfl⟩ := hr
      have hS : (s.heap.push { cls := .type "set", dict := none, data := .set #[] 0 (.fresh 0 0 led) }).get? s.heap.objs.size = some { cls := .type "set", dict := none, data := .set #[] 0 (.fresh 0 0 led) } := Heap.get?_push_size _ rfl
      have hT : Shared.TypeIs { s with heap := s.heap.push { cls := .type "set", dict := none, data := .set #[] 0 (.fresh 0 0 led) } } (.ref s.heap.objs.size) "set" := ⟨_, hS, rfl⟩
      have hli := F.called_set.init.lookup
      have hbi := F.called_set.init.bind (.ref s.heap.objs.size)
      repeat (any_goals (first | assumption | wp_step))
      refine codeAny_mono (codeAny_call_builtin (R := wants (fun r s₂ => r = .none ∧ ∃ h' tk, s₂ = { s with heap := h', toks := tk } ∧ SSet prog w h' s.heap.objs.size (dd xs) ∧
          (∀ b o, b < s.heap.objs.size → s.heap.get? b = some o → h'.get? b = some o)) E) F.called_set.init.plain F.entry_set_init (check_set_init_1 hT ?_)) fun r₂ s₂ hr₂ => ?_
      · obtain ⟨ol, hol, hcl, nl, hdl⟩ := hl
        obtain ⟨ocls, odict, odata, oslots⟩ := ol
        simp only at hcl hdl
        subst hcl; subst hdl
        have hol' : (s.heap.push { cls := .type "set", dict := none, data := .set #[] 0 (.fresh 0 0 led) }).get? l = some { cls := .type "list", dict := odict, data := .seq items nl, slots := oslots } := Heap.get?_push_of_some _ hol
        have hsls := sub_ls
        have hslf := sub_lf
        have hne : (Value.type "list" == Value.type "dict") = false := by decide
        have hl1 : (s.heap.push { cls := .type "set", dict := none, data := .set #[] 0 (.fresh 0 0 led) }).IsList l items := ⟨_, hol', rfl, nl, rfl⟩
        unfold Builtin.«set.__init__» noKeywords Builtin.Frozenset.updateFrom
        generalize hPI : pyIter = PI
        wp_walk
        subst hPI
        refine wpAny_pyIter_list hl1 ?_
        refine wpAny_bind (wpAny_runValue ?_)
        have hlS : l < s.heap.objs.size := Heap.lt_size hol
        have hh3 : A.in1.in1.in1.handled = none := by simp [hh]
        have hneI : l ≠ (s.heap.push { cls := .type "set", dict := none, data := .set #[] 0 (.fresh 0 0 led) }).objs.size := by
          rw [Heap.size_push]; exact Nat.ne_of_lt (Nat.lt_succ_of_lt hlS)
        have hSf : s.heap.objs.size ∉ [(s.heap.push { cls := .type "set", dict := none, data := .set #[] 0 (.fresh 0 0 led) }).objs.size, l] := by
          rw [Heap.size_push]; simp only [List.mem_cons, List.mem_singleton, List.not_mem_nil, or_false, not_or]
          exact ⟨Nat.ne_of_lt (Nat.lt_succ_self _), Nat.ne_of_gt hlS⟩
        have hil : xs.length = items.size := by rw [← Array.length_toList, StrsAre.length hi]
        have hval : ∀ (i : Nat) (v : Value), items[i]? = some v → ∃ x t, xs[i]? = some x ∧ v = .str x t := fun i v hv => by
          have hi2 := (Array.getElem?_eq_some_iff.mp hv).1
          have hx : i < xs.length := by omega
          obtain ⟨t, et⟩ := StrsAre.at hi (List.getElem?_eq_getElem hx)
          rw [Array.getElem?_toList, hv] at et
          exact ⟨xs[i], t, List.getElem?_eq_getElem hx, Option.some.inj et⟩
        refine loop ((Walks.list (A := A.in1.in1.in1) hh3 _ l hneI items).toS) s.heap.objs.size hSf xs hil hval (by omega) (items.size - 0) 0 _ (by omega) (Nat.zero_le _)
          ⟨⟨_, Heap.get?_push_size _ rfl, rfl, rfl⟩, (hl1.push _)⟩ ?hS0 ?hR
        case hS0 =>
          exact fresh_set _ _ hled.symm (Heap.get?_push_of_some _ hS)
        case hR =>
          intro s' hm hS'
          obtain ⟨h', g', d', tk', os'⟩ := s'
          have eg : g' = s.gens := hm.gens
          have ed : d' = s.drawn := hm.drawn
          have eo : os' = s.os := hm.os
          subst eg; subst ed; subst eo
          show wpAny _ _ _ _ _ _
          refine wpAny_pure ?_
          show wpAny _ _ (ret Value.none) _ _ _
          refine wpAny_pure ⟨rfl, h', tk', rfl, hS', fun b o hb e => ?_⟩
          have hb1 : b ≠ s.heap.objs.size := Nat.ne_of_lt hb
          have hb2 : b ≠ (s.heap.push { cls := .type "set", dict := none, data := .set #[] 0 (.fresh 0 0 led) }).objs.size := by
            rw [Heap.size_push]; exact Nat.ne_of_lt (Nat.lt_succ_of_lt hb)
          exact hm.heap b o (by simp only [List.mem_cons, List.mem_singleton, List.not_mem_nil, or_false, not_or]; exact ⟨hb1, hb2⟩) (Heap.get?_push_of_some _ (Heap.get?_push_of_some _ e))
      · cases r₂ with
        | error e => exact hr₂
        | ok fl₂ =>
          cases fl₂ with
          | ret r =>
            obtain ⟨rfl, h', tk, rfl, hS', hk'⟩ := hr₂
            repeat (any_goals (first | assumption | wp_step))
            exact h _ _ hS' hk'
          | _ => exact hr₂.elim
    | _ => exact hr.elim
end
end L2.ST
namespace L2
open PySem PySem.Spec PyProof.Rows
section
variable {X : Cx}
def tSSL (K : PySem.W.Frag) (te : TE) : TE := fun σ H Q => te σ H fun x H1 => ∃ (p : Addr) (xs : List Str), x = .ref p ∧ SqL K H1 p (xs.map V.str) ∧ xs.length < 64 ∧
  ∀ (l : Addr) (zs : List Str), H1 l = none → zs.Pairwise leS → zs.Nodup → (∀ z, z ∈ zs ↔ z ∈ xs) → Q (.ref l) (upd H1 l (.lst (zs.map V.str)))
theorem pe_sortSetL {e : Expr} {te : TE} {p1 p2 p3 pos : Pos} (hc : X.calm = true) (he : PE X e te) (hg1 : Gl X "sorted") (hm1 : X.mg "sorted" = none) (hg2 : Gl X "set") (hm2 : X.mg "set" = none)
    (hs1 : starEach [.Call (.Name "set" p2) [e] [] p3] X.env = [(false, eval (.Call (.Name "set" p2) [e] [] p3) X.env)] := by rfl) (hs2 : starEach [e] X.env = [(false, eval e X.env)] := by rfl) :
    PE X (.Call (.Name "sorted" p1) [.Call (.Name "set" p2) [e] [] p3] [] pos) (tSSL X.K te) := by
  intro pins s σ H Q I h
  refine Call_ (ld_blt I hg1 hm1 (show bootBuiltins "sorted" = some (.builtin "sorted") by decide +kernel) (PyProof.Rows.callWith_builtin1 (one_raw hs1 ?_) hs1 rfl))
  refine Call_ (ld_blt I hg2 hm2 (show bootBuiltins "set" = some (.type "set") by decide +kernel) (PyProof.Rows.callWith_type1 (one_raw hs2 ?_) hs2 rfl))
  refine thn (he pins s σ H _ I h) fun u s1 ⟨x, H1, I1, r1, p, xs, ex, hp, h64, q⟩ => ?_
  subst ex
  cases r1
  obtain ⟨its, rr, pl, hz⟩ := I1.list hp
  have hh : X.A.handled = none := I1.ok.hd hc
  refine ST.call_setL hh pl.isList (by simpa using vals_strs rr) (by omega) fun h1 tk1 hS hk1 => ?_
  have I2 : Inv X pins σ H1 { s1 with heap := h1, toks := tk1 } := I1.kept (t' := tk1) fun b u e => hk1 b u (Heap.lt_size e) e
  refine Calls.call_function_entry kind_sorted plain_sorted entry_sorted (args_sorted1 _) ?_
  unfold Builtin.«sorted»
  refine wpAny_bind (m := checkCount "sorted" 1 1 _) (wpAny_pure ?_)
  refine wpAny_bind (ST.collect_set (A := X.A.in1) hh hS fun h' tk d' vs ss hk hSt hpm => ?_)
  have hnd : (ST.dd xs).Nodup := by obtain ⟨_, _, _, _, _, _, _, _, _, _, _, _, hn, _⟩ := hS; exact hn
  have hmem : ∀ z, z ∈ ss ↔ z ∈ xs := fun z => by
    rw [hpm.mem_iff]
    have := ST.dd_mem xs xs.length z
    rwa [List.take_length] at this
  have hsl : ss.length ≤ xs.length := nodup_le ((hpm.nodup_iff).mpr hnd) fun z hz => (hmem z).mp hz
  have hvl : vs.length = ss.length := StrsAre.length hSt
  have I3 : Inv X pins σ H1 { s1 with heap := h', toks := tk, drawn := d' } := (I2.kept (h' := h') (t' := tk) hk).drawnAs
  refine wpAny_bind (wpAny_newList ?_ (by rw [hvl, sizeLine_eq]; omega))
  have hoL : (h'.push { cls := .type "list", data := .seq vs.toArray }).get? h'.objs.size = some (seqObj "list" vs.toArray 0) := Heap.get?_push_size _ rfl
  refine wpAny_bind (wpAny_holding (wpAny_call_entry slot_list_sort ⟨_, hoL, rfl⟩ entry_list_sort (list_sort_treeK strKind_oneLt hoL hSt.keysOf (fun v₁ v₂ rest e => keyKind_strs (by rw [← e]; exact hSt)) (by omega) fun st' hp hs => ⟨_, rfl, ?_⟩) (args_list_sort _)))
  obtain ⟨ss', g1, g2, g3⟩ := sorted_out_pw hSt hp hs
  refine wpAny_pure ⟨_, rfl, ?_⟩
  obtain ⟨e, he⟩ := sortedHeap_at (out := (arrOf st').map (·.2)) hoL
  refine ⟨.ref h'.objs.size, _, I3.laid (t' := tk) (a := h'.objs.size) (o := .lst (ss'.map V.str)) (fun b o e => ?_) (Nat.le_refl _) ?_, rfl, q h'.objs.size ss' (I3.hok.fresh (Nat.le_refl _)) g3 ((g2.nodup_iff).mpr ((hpm.nodup_iff).mpr hnd)) fun z => by rw [g2.mem_iff]; exact hmem z⟩
  · have hb := Heap.lt_size e
    rw [sortedHeap_old (Nat.ne_of_lt hb) (by rw [Heap.size_push]; exact Nat.lt_succ_of_lt hb)]
    exact Heap.get?_push_of_some _ e
  · exact ⟨by rw [List.length_map, g2.length_eq, sizeLine_eq]; omega, ((arrOf st').map (·.2)).toList, e, strs_vals g1, by rw [Array.toArray_toList]; exact he⟩
end
end L2

set_option maxHeartbeats 2000000
/-! things compared to their depths -/
namespace L2
open PySem PySem.Spec PyProof.Rows
mutual
inductive Rds (H : Hp) : V → PyData → Prop
  | non : Rds H .non .none
  | bl (b : Bool) : Rds H (.bl b) (.bool b)
  | int (i : Int) : Rds H (.int i) (.int i)
  | str (x : Str) : Rds H (.str x) (.str x)
  | tup {a : Addr} {xs : List V} {ds : List PyData} : H a = some (.tup xs) → RdsAll H xs ds → Rds H (.ref a) (.tuple ds)
  | lst {a : Addr} {xs : List V} {ds : List PyData} : H a = some (.lst xs) → RdsAll H xs ds → Rds H (.ref a) (.list ds)
inductive RdsAll (H : Hp) : List V → List PyData → Prop
  | nil : RdsAll H [] []
  | cons {x : V} {xs : List V} {d : PyData} {ds : List PyData} : Rds H x d → RdsAll H xs ds → RdsAll H (x :: xs) (d :: ds)
end
theorem RdsAll.length {H : Hp} : ∀ {xs : List V} {ds : List PyData}, RdsAll H xs ds → xs.length = ds.length
  | _, _, .nil => rfl
  | _, _, .cons _ r => congrArg (· + 1) r.length
theorem RdsAll.get {H : Hp} : ∀ {xs : List V} {ds : List PyData}, RdsAll H xs ds → ∀ (i : Nat) (x : V), xs[i]? = some x → ∃ d, ds[i]? = some d ∧ Rds H x d
  | _, _, .nil, i, x, h => by simp at h
  | _, _, .cons r t, 0, x, h => by
    simp at h
    subst h
    exact ⟨_, rfl, r⟩
  | _, _, .cons r t, i + 1, x, h => by
    obtain ⟨d, h1, h2⟩ := t.get i x (by simpa using h)
    exact ⟨d, by simpa using h1, h2⟩
theorem RdsAll.app {H : Hp} : ∀ {xs ys : List V} {ds es : List PyData}, RdsAll H xs ds → RdsAll H ys es → RdsAll H (xs ++ ys) (ds ++ es)
  | _, _, _, _, .nil, t => t
  | _, _, _, _, .cons r q, t => .cons r (q.app t)
mutual
theorem Rds.same {H H' : Hp} (e : Same H H') : ∀ {x : V} {d : PyData}, Rds H x d → Rds H' x d
  | _, _, .non => .non
  | _, _, .bl b => .bl b
  | _, _, .int i => .int i
  | _, _, .str x => .str x
  | _, _, .tup h r => .tup (e _ _ h) (r.same e)
  | _, _, .lst h r => .lst (e _ _ h) (r.same e)
theorem RdsAll.same {H H' : Hp} (e : Same H H') : ∀ {xs : List V} {ds : List PyData}, RdsAll H xs ds → RdsAll H' xs ds
  | _, _, .nil => .nil
  | _, _, .cons r t => .cons (r.same e) (t.same e)
end
section
variable {X : Cx}
mutual
theorem Rds.reads {pins : List (Addr × Obj)} {σ : St} {H : Hp} {s : Shared} (I : Inv X pins σ H s) : ∀ {x : V} {d : PyData} {u : Value}, Rds H x d → RelV x u → ∃ as, Reads s.heap u d as
  | _, _, _, .non, r => by cases r; exact ⟨_, .none⟩
  | _, _, _, .bl b, r => by cases r; exact ⟨_, .bool b⟩
  | _, _, _, .int i, r => by obtain ⟨t, rfl⟩ := r; exact ⟨_, .int i t⟩
  | _, _, _, .str x, r => by obtain ⟨t, rfl⟩ := r; exact ⟨_, .str x t⟩
  | _, _, _, .tup h t, r => by
    cases r
    obtain ⟨its, rv, ⟨o, h1, h2, n, h3⟩, _⟩ := I.tuple (SqT.of (K := X.K) h)
    obtain ⟨as, ha⟩ := t.reads I rv
    exact ⟨_, .tuple h1 h2 h3 (by simpa using ha)⟩
  | _, _, _, .lst h t, r => by
    cases r
    obtain ⟨its, rv, p, _⟩ := I.list (SqL.of (K := X.K) h)
    obtain ⟨o, h1, h2, n, h3⟩ := p.isList
    obtain ⟨as, ha⟩ := t.reads I rv
    exact ⟨_, .list h1 h2 h3 (by simpa using ha)⟩
theorem RdsAll.reads {pins : List (Addr × Obj)} {σ : St} {H : Hp} {s : Shared} (I : Inv X pins σ H s) : ∀ {xs : List V} {ds : List PyData} {us : List Value}, RdsAll H xs ds → Vals xs us → ∃ as, ReadsAll s.heap us ds as
  | _, _, _, .nil, .nil => ⟨_, .nil⟩
  | _, _, _, .cons r t, .cons rv tv => by
    obtain ⟨as, ha⟩ := r.reads I rv
    obtain ⟨bs, hb⟩ := t.reads I tv
    exact ⟨_, .cons ha hb⟩
end
/-- a thing and its depth that are told -/
structure Dt (H : Hp) (x : V) (d : PyData) : Prop where
  rds : Rds H x d
  can : d.canLay0 = true
  dep : d.depth ≤ 60
theorem Dt.same {H H' : Hp} {x : V} {d : PyData} (e : Same H H') (h : Dt H x d) : Dt H' x d := ⟨h.rds.same e, h.can, h.dep⟩
end
end L2

set_option maxHeartbeats 2000000
/-! a thing among others, compared to their depths -/
namespace L2
open PySem PySem.Spec PyProof.Rows
open Classical in
noncomputable def eqR (h : Heap) (dx : PyData) (y : Value) : Bool :=
  if c : ∃ d : PyData, d.canLay0 = true ∧ ∃ as, Reads h y d as then PyData.eqv (Classical.choose c) dx else false
theorem eqR_of {h : Heap} {dx d : PyData} {y : Value} {as : List Addr} (hc : d.canLay0 = true) (hr : Reads h y d as) : eqR h dx y = PyData.eqv d dx := by
  have c : ∃ d : PyData, d.canLay0 = true ∧ ∃ as, Reads h y d as := ⟨d, hc, as, hr⟩
  unfold eqR
  rw [dif_pos c]
  obtain ⟨h1, as', h2⟩ := Classical.choose_spec c
  rw [SeqAt.Reads.unique _ _ _ _ _ h1 h2 hr]
theorem any_eqR {h : Heap} {dx : PyData} : ∀ {us : List Value} {ds : List PyData} {as : List Addr}, ReadsAll h us ds as → PyData.canLayAll0 ds = true → us.any (eqR h dx) = ds.any fun d => PyData.eqv d dx
  | _, _, _, .nil, _ => rfl
  | _, _, _, .cons r t, hc => by
    unfold PyData.canLayAll0 at hc
    rw [Bool.and_eq_true] at hc
    rw [List.any_cons, List.any_cons, eqR_of hc.1 r, any_eqR t hc.2]
theorem readsAll_mem {h : Heap} : ∀ {us : List Value} {ds : List PyData} {as : List Addr}, ReadsAll h us ds as → PyData.canLayAll0 ds = true → ∀ u ∈ us, ∃ d bs, Reads h u d bs ∧ d.canLay0 = true ∧ d.depth ≤ PyData.depthAll ds
  | _, _, _, .nil, _, u, hu => by cases hu
  | _, _, _, .cons r t, hc, u, hu => by
    unfold PyData.canLayAll0 at hc
    rw [Bool.and_eq_true] at hc
    rcases List.mem_cons.mp hu with rfl | hu
    · exact ⟨_, _, r, hc.1, by unfold PyData.depthAll; lia⟩
    · obtain ⟨d, bs, h1, h2, h3⟩ := readsAll_mem t hc.2 u hu
      exact ⟨d, bs, h1, h2, by unfold PyData.depthAll; lia⟩
section
variable {X : Cx}
/-- things in a list or a tuple, and their depths -/
structure Ds (H : Hp) (xs : List V) (ds : List PyData) : Prop where
  rds : RdsAll H xs ds
  can : PyData.canLayAll0 ds = true
  dep : PyData.depthAll ds ≤ 60
theorem Ds.same {H H' : Hp} {xs : List V} {ds : List PyData} (e : Same H H') (h : Ds H xs ds) : Ds H' xs ds := ⟨h.rds.same e, h.can, h.dep⟩
theorem op_notInD (hu : X.A.units + 64 < cLine) : OpR X (compareOp .NotIn) (fun x y H Q => ∃ (p : Addr) (xs : List V) (ds : List PyData) (dx : PyData), y = .ref p ∧ (H p = some (.tup xs) ∨ H p = some (.lst xs)) ∧ Ds H xs ds ∧ Dt H x dx ∧ Q (.bl (!(ds.any fun d => PyData.eqv d dx))) H) := by
  intro pins s σ H x y v u Q I rx ry h
  obtain ⟨p, xs, ds, dx, rfl, hp, hD, hx, q⟩ := h
  cases ry
  obtain ⟨bs, rb⟩ := hx.rds.reads I rx
  have hdep := hD.dep
  have eqs : ∀ {us : List Value} {as : List Addr}, ReadsAll s.heap us ds as → ∀ y, y ∈ us → SeqAt.EqAt X.A.in1 s y v (eqR s.heap dx y) := fun {us as} ra y hy => by
    obtain ⟨d, cs, h1, h2, h3⟩ := readsAll_mem ra hD.can y hy
    rw [eqR_of h2 h1]
    exact SeqAt.eqAt_reads d dx X.A.in1 s y v cs bs h1 rb h2 hx.can (by show X.A.units + 1 + min d.depth dx.depth < cLine; lia)
  rcases hp with hp | hp
  · obtain ⟨its, r, pl, hz⟩ := I.tuple (SqT.of (K := X.K) hp)
    obtain ⟨as, ra⟩ := hD.rds.reads I r
    refine SeqAt.notIn_tupleAt (eqR s.heap dx) pl (fun w hw => eqs ra w (by simpa using hw)) ⟨.bl _, H, I, rfl, ?_⟩
    rw [show its.toArray.any (eqR s.heap dx) = its.any (eqR s.heap dx) by simp, any_eqR ra hD.can]
    exact q
  · obtain ⟨its, r, pl, hz⟩ := I.list (SqL.of (K := X.K) hp)
    obtain ⟨as, ra⟩ := hD.rds.reads I r
    refine SeqAt.notIn_listAt (eqR s.heap dx) pl.isList (fun w hw => eqs ra w (by simpa using hw)) ⟨.bl _, H, I, rfl, ?_⟩
    rw [show its.toArray.any (eqR s.heap dx) = its.any (eqR s.heap dx) by simp, any_eqR ra hD.can]
    exact q
end
end L2

set_option maxHeartbeats 2000000
/-! a text and a tuple walked together -/
namespace L2.ZS
open PySem PySem.Spec PyProof.Rows
theorem _root_.PySem.Heap.IsStrIter.at {h h' : Heap} {a : Addr} {ty : String} {x : Str} {t : Tok} {i : Nat} (y : h.IsStrIter a ty x t i) (k : ∀ o, h.get? a = some o → h'.get? a = some o) : h'.IsStrIter a ty x t i :=
  let ⟨o, ho, r⟩ := y; ⟨o, k o ho, r⟩
section
variable {prog : Program} {w : World} {A : Around} {E : Value → Shared → Prop} {s : Shared}
section
variable {z TI TO p r b : Addr} {zs : Str} {t : Tok} {vs : Array Value} {o1 o2 : Value} {m n : Nat}
theorem zip_item {c0 : Nat} {y : Value} {R : Value → Shared → Prop} (ap : ZipApart z TI TO p r b b) (hz : IsZip s.heap z TI TO .none) (hI : IsPair s.heap TI (.ref p) (.ref r)) (hO : IsPair s.heap TO o1 o2)
    (hp : s.heap.IsStrIter p "str_ascii_iterator" zs t m) (hr : s.heap.IsTupleIter r b n) (hb : s.heap.IsTuple b vs) (hx : zs.cps[m]? = some c0) (hy : vs[n]? = some y)
    (hR : ∀ g, IsZip g z TI TO (rawInt s.heap.objs.size) → IsPair g TO (.str ⟨#[c0]⟩ s.toks) y → g.IsStrIter p "str_ascii_iterator" zs t (m + 1) → g.IsTupleIter r b (n + 1) → IsPair g s.heap.objs.size (.str ⟨#[c0]⟩ s.toks) y → g.objs.size = s.heap.objs.size + 1 →
      (∀ c o, c ≠ z → c ≠ TO → c ≠ p → c ≠ r → s.heap.get? c = some o → g.get? c = some o) → R (.ref s.heap.objs.size) { s with heap := g, toks := s.toks + 1 }) :
    wpAny (model prog w) A (Builtin.«zip.__next__» ⟨[.ref z], []⟩) (fun fin s' => ∃ v, fin = .done (.ret v) ∧ R v s') E s := by
  show wpAny _ _ (field (.ref z) 2 >>= _) _ _ _
  refine wpAny_bind (wpAny_field hz rfl (x := .bool false) rfl (wpAny_bind (m := field (.ref z) 3) (wpAny_field hz rfl (x := .ref TI) rfl (wpAny_bind (wpAny_seqItems hI rfl ?_)))))
  show wpAny _ _ (Builtin.SmallTypes.ownedTupleIsFree (.ref z) >>= _) _ _ _
  unfold Builtin.SmallTypes.ownedTupleIsFree
  refine wpAny_bind (wpAny_bind (wpAny_field hz rfl (x := .none) rfl (wpAny_pure ?_)))
  simp only [if_true]
  refine wpAny_bind (wpAny_rule (wpAny_bind (wpAny_field hz rfl (x := .ref TO) rfl (wpAny_bind (wpAny_setField_rec hz (by simp) fun g1 z1 k1 => wpAny_bind ?_)))))
  have z1 : IsZip g1 z TI TO .ellipsis := z1
  simp only [List.zipIdx_cons, List.zipIdx_nil, List.forIn_cons, List.forIn_nil]
  refine wpAny_bind (wpAny_bind (wpAny_onRaise (wpAny_bind (m := Builtin.SmallTypes.nextOf (.ref p)) (wpAny_nextOf_ascii_item (hp.extBut k1.extBut ap.i1z) hx fun g2 p2 k2 => wpAny_pure ?_))))
  have O2 : IsPair g2 TO o1 o2 := k2.extBut _ _ ap.TOi1 (k1.extBut _ _ ap.TOz hO)
  refine wpAny_bind (wpAny_seqItems O2 rfl (wpAny_bind (wpAny_updateSeq_pair O2 fun g3 O3 k3 => wpAny_bind (wpAny_letGo (wpAny_pure ?_)))))
  have O3 : IsPair g3 TO (.str ⟨#[c0]⟩ s.toks) o2 := O3
  refine wpAny_bind (wpAny_bind (wpAny_onRaise (wpAny_bind (m := Builtin.SmallTypes.nextOf (.ref r)) (ZT.step_item (((hr.extBut k1.extBut ap.i2z).extBut k2.extBut ap.i12.symm).extBut k3.extBut ap.TOi2.symm)
    (((hb.extBut k1.extBut ap.l2z).extBut k2.extBut ap.l2i1).extBut k3.extBut ap.l2TO) hy fun g4 r4 k4 => wpAny_pure ?_))))
  have O4 : IsPair g4 TO (.str ⟨#[c0]⟩ s.toks) o2 := k4.extBut _ _ ap.TOi2 O3
  refine wpAny_bind (wpAny_seqItems O4 rfl (wpAny_bind (wpAny_updateSeq_pair O4 fun g5 O5 k5 => wpAny_bind (wpAny_letGo (wpAny_pure (wpAny_pure ?_))))))
  have O5 : IsPair g5 TO (.str ⟨#[c0]⟩ s.toks) y := O5
  refine wpAny_bind (wpAny_seqItems O5 rfl (wpAny_bind (wpAny_newTuple ?_)))
  have sz : g5.objs.size = s.heap.objs.size := by rw [k5.1, k4.1, k3.1, k2.1, k1.1]
  have z5 : IsZip g5 z TI TO .ellipsis := k5.extBut _ _ ap.TOz.symm (k4.extBut _ _ ap.i2z.symm (k3.extBut _ _ ap.TOz.symm (k2.extBut _ _ ap.i1z.symm z1)))
  have k05 : ∀ c o, c ≠ z → c ≠ TO → c ≠ p → c ≠ r → s.heap.get? c = some o → g5.get? c = some o := fun c o n1 n2 n3 n4 e => k5.extBut _ _ n2 (k4.extBut _ _ n4 (k3.extBut _ _ n2 (k2.extBut _ _ n3 (k1.extBut _ _ n1 e))))
  have p5 : g5.IsStrIter p "str_ascii_iterator" zs t (m + 1) := ((p2.extBut k3.extBut ap.TOi1.symm).extBut k4.extBut ap.i12).extBut k5.extBut ap.TOi1.symm
  have r5 : g5.IsTupleIter r b (n + 1) := r4.extBut k5.extBut ap.TOi2.symm
  have zl : z < g5.objs.size := Heap.lt_size z5
  show wpAny _ _ (Builtin.SmallTypes.ownedTupleHandOut (.ref z) (.ref g5.objs.size) >>= _) _ _ _
  unfold Builtin.SmallTypes.ownedTupleHandOut
  have z6 : IsZip (g5.push { cls := .type "tuple", data := .seq #[.str ⟨#[c0]⟩ s.toks, y] }) z TI TO .ellipsis := Heap.get?_push_of_some _ z5
  refine wpAny_bind (wpAny_bind (wpAny_setField_rec z6 (by simp) fun g7 z7 k7 => ?_))
  have z7 : IsZip g7 z TI TO (rawInt g5.objs.size) := z7
  refine wpAny_setField_rec z7 (by simp) fun g8 z8 k8 => ?_
  have z8 : IsZip g8 z TI TO (rawInt g5.objs.size) := z8
  have up : ∀ c o, c ≠ z → g5.get? c = some o → g8.get? c = some o := fun c o n1 e => k8.extBut _ _ n1 (k7.extBut _ _ n1 (Heap.get?_push_of_some _ e))
  have T8 : IsPair g8 g5.objs.size (.str ⟨#[c0]⟩ s.toks) y := k8.extBut _ _ (Nat.ne_of_gt zl) (k7.extBut _ _ (Nat.ne_of_gt zl) (Heap.get?_push_size _ rfl))
  have s8 : g8.objs.size = g5.objs.size + 1 := by rw [k8.1, k7.1, Heap.size_push]
  rw [sz] at z8 T8 s8
  refine wpAny_pure ⟨_, rfl, (?_ : R (.ref g5.objs.size) _)⟩
  rw [sz]
  exact hR g8 z8 (up _ _ ap.TOz O5) (p5.at fun o e => up _ o ap.i1z e) (r5.at fun o e => up _ o ap.i2z e) T8 s8 fun c o n1 n2 n3 n4 e => up c o n1 (k05 c o n1 n2 n3 n4 e)
theorem zip_end {R : Fin → Shared → Prop} (nh : A.handled = none) (ap : ZipApart z TI TO p r b b) (hz : IsZip s.heap z TI TO .none) (hI : IsPair s.heap TI (.ref p) (.ref r)) (hO : IsPair s.heap TO o1 o2)
    (hp : s.heap.IsStrIter p "str_ascii_iterator" zs t m) (hr : s.heap.IsTupleIter r b n) (hb : s.heap.IsTuple b vs) (hend : zs.cps[m]? = none ∨ vs[n]? = none)
    (hX : ∀ g e tk, (∀ c o, c ≠ z → c ≠ TO → c ≠ p → c ≠ r → s.heap.get? c = some o → g.get? c = some o) → (∃ o, g.get? e = some o ∧ o.cls = .type "StopIteration") → E (.ref e) { s with heap := g, toks := tk }) :
    wpAny (model prog w) A (Builtin.«zip.__next__» ⟨[.ref z], []⟩) R E s := by
  show wpAny _ _ (field (.ref z) 2 >>= _) _ _ _
  refine wpAny_bind (wpAny_field hz rfl (x := .bool false) rfl (wpAny_bind (m := field (.ref z) 3) (wpAny_field hz rfl (x := .ref TI) rfl (wpAny_bind (wpAny_seqItems hI rfl ?_)))))
  show wpAny _ _ (Builtin.SmallTypes.ownedTupleIsFree (.ref z) >>= _) _ _ _
  unfold Builtin.SmallTypes.ownedTupleIsFree
  refine wpAny_bind (wpAny_bind (wpAny_field hz rfl (x := .none) rfl (wpAny_pure ?_)))
  simp only [if_true]
  refine wpAny_bind (wpAny_rule (wpAny_bind (wpAny_field hz rfl (x := .ref TO) rfl (wpAny_bind (wpAny_setField_rec hz (by simp) fun g1 z1 k1 => wpAny_bind ?_)))))
  have z1 : IsZip g1 z TI TO .ellipsis := z1
  simp only [List.zipIdx_cons, List.zipIdx_nil, List.forIn_cons, List.forIn_nil]
  refine wpAny_bind (wpAny_bind (wpAny_onRaise (wpAny_bind (m := Builtin.SmallTypes.nextOf (.ref p)) ?_)))
  have off : ∀ {g : Heap} {e : Addr} {oe : Obj}, IsZip g z TI TO .ellipsis → g.get? e = some oe → oe.cls = .type "StopIteration" → e ≠ z := fun hg he hc y => by subst y; rw [hg] at he; cases he; simp at hc
  cases hx : zs.cps[m]? with
  | none =>
    refine wpAny_nextOf_ascii_end nh (hp.extBut k1.extBut ap.i1z) hx fun g2 e k2 ⟨oe, he, ce⟩ => ?_
    have z2 : IsZip g2 z TI TO .ellipsis := k2 _ _ ap.i1z.symm z1
    exact wpAny_setField_rec z2 (by simp) fun g3 _ k3 => hX g3 e _ (fun c o n1 _ n3 _ q => k3.extBut _ _ n1 (k2 _ _ n3 (k1.extBut _ _ n1 q))) ⟨oe, k3.extBut _ _ (off z2 he ce) he, ce⟩
  | some x =>
    have hy : vs[n]? = none := hend.resolve_left (by rw [hx]; exact fun h => nomatch h)
    refine wpAny_nextOf_ascii_item (hp.extBut k1.extBut ap.i1z) hx fun g2 p2 k2 => wpAny_pure ?_
    have O2 : IsPair g2 TO o1 o2 := k2.extBut _ _ ap.TOi1 (k1.extBut _ _ ap.TOz hO)
    refine wpAny_bind (wpAny_seqItems O2 rfl (wpAny_bind (wpAny_updateSeq_pair O2 fun g3 O3 k3 => wpAny_bind (wpAny_letGo (wpAny_pure ?_)))))
    refine wpAny_bind (wpAny_bind (wpAny_onRaise (wpAny_bind (m := Builtin.SmallTypes.nextOf (.ref r)) (ZT.step_end nh (((hr.extBut k1.extBut ap.i2z).extBut k2.extBut ap.i12.symm).extBut k3.extBut ap.TOi2.symm)
      (((hb.extBut k1.extBut ap.l2z).extBut k2.extBut ap.l2i1).extBut k3.extBut ap.l2TO) hy fun g4 e k4 ⟨oe, he, ce⟩ => ?_))))
    have z4 : IsZip g4 z TI TO .ellipsis := k4 _ _ ap.i2z.symm (k3.extBut _ _ ap.TOz.symm (k2.extBut _ _ ap.i1z.symm z1))
    exact wpAny_setField_rec z4 (by simp) fun g5 _ k5 => hX g5 e _ (fun c o n1 n2 n3 n4 q => k5.extBut _ _ n1 (k4 _ _ n4 (k3.extBut _ _ n2 (k2.extBut _ _ n3 (k1.extBut _ _ n1 q))))) ⟨oe, k5.extBut _ _ (off z4 he ce) he, ce⟩
end
abbrev g1 (h : Heap) (zs : Str) (t : Tok) : Heap := h.push { cls := .type "str_ascii_iterator", data := .fields #[.str zs t, .int 0 0] }
abbrev g2 (h : Heap) (zs : Str) (t : Tok) (b : Addr) : Heap := (g1 h zs t).push { cls := .type "tuple_iterator", data := .fields #[.ref b, .int 0 0] }
abbrev g3 (h : Heap) (zs : Str) (t : Tok) (b : Addr) : Heap := (g2 h zs t b).push { cls := .type "tuple", data := .seq #[.ref h.objs.size, .ref (g1 h zs t).objs.size] }
abbrev g4 (h : Heap) (zs : Str) (t : Tok) (b : Addr) : Heap := (g3 h zs t b).push { cls := .type "tuple", data := .seq #[.none, .none] }
abbrev g5 (h : Heap) (zs : Str) (t : Tok) (b : Addr) : Heap := (g4 h zs t b).push { cls := .type "zip", data := .fields #[.none, .bool false, .bool false, .ref (g2 h zs t b).objs.size, .ref (g3 h zs t b).objs.size] }
theorem meets_new (zs : Str) (t : Tok) (hA : zs.cps.all (· < 128) = true) (b : Addr) (vs : Array Value) : Meets (Builtin.«zip.__new__» ⟨[.type "zip", .str zs t, .ref b], []⟩) (fun _ R s => s.heap.IsTuple b vs ∧ R (.ok (.ret (.ref (g4 s.heap zs t b).objs.size))) { s with heap := g5 s.heap zs t b }) :=
  .of_wp fun prog w A R s h => by
    obtain ⟨hp, gs, dr, tk, os⟩ := s
    obtain ⟨hb, h⟩ := h
    have sub := sub_zip
    have hb1 : Heap.IsTuple (Shared.heap ⟨hp.push { cls := .type "str_ascii_iterator", data := .fields #[.str zs t, .int 0 0] }, gs, dr, tk, os⟩) b vs := Heap.IsTuple.push hb _
    wp_walk using wpAny_pyIter_ascii hA, wpAny_pyIter_tuple hb1
    exact ⟨_, rfl, h⟩
theorem call_zip {zs : Str} {t : Tok} {b : Addr} {vs : Array Value} {R : Value → Shared → Prop} (hA : zs.cps.all (· < 128) = true) (hb : s.heap.IsTuple b vs)
    (h : ∀ g, IsZip g (s.heap.objs.size + 4) (s.heap.objs.size + 2) (s.heap.objs.size + 3) .none → IsPair g (s.heap.objs.size + 2) (.ref s.heap.objs.size) (.ref (s.heap.objs.size + 1)) → IsPair g (s.heap.objs.size + 3) .none .none →
      g.IsStrIter s.heap.objs.size "str_ascii_iterator" zs t 0 → g.IsTupleIter (s.heap.objs.size + 1) b 0 → (∀ c o, s.heap.get? c = some o → g.get? c = some o) → R (.ref (s.heap.objs.size + 4)) { s with heap := g }) :
    wpAny (model prog w) A (call (.type "zip") [.str zs t, .ref b]) R E s := by
  refine callType_new F.called_zip (by decide) (F.typeCall_zip_2 _ _) (F.newCall_zip_2 _ _) (fun obj => F.args_object_init_3 obj _ _) F.entry_zip_new (meets_new zs t hA b vs) ⟨hb, ?_⟩
  have s1 : (g1 s.heap zs t).objs.size = s.heap.objs.size + 1 := Heap.size_push ..
  have s2 : (g2 s.heap zs t b).objs.size = s.heap.objs.size + 2 := by rw [Heap.size_push, s1]
  have s3 : (g3 s.heap zs t b).objs.size = s.heap.objs.size + 3 := by rw [Heap.size_push, s2]
  have s4 : (g4 s.heap zs t b).objs.size = s.heap.objs.size + 4 := by rw [Heap.size_push, s3]
  have e5 : (g5 s.heap zs t b).get? (g4 s.heap zs t b).objs.size = some _ := Heap.get?_push_size _ rfl
  have e4 : (g5 s.heap zs t b).get? (g3 s.heap zs t b).objs.size = some _ := Heap.get?_push_of_some _ (Heap.get?_push_size _ rfl)
  have e3 : (g5 s.heap zs t b).get? (g2 s.heap zs t b).objs.size = some _ := Heap.get?_push_of_some _ (Heap.get?_push_of_some _ (Heap.get?_push_size _ rfl))
  have e2 : (g5 s.heap zs t b).get? (g1 s.heap zs t).objs.size = some _ := Heap.get?_push_of_some _ (Heap.get?_push_of_some _ (Heap.get?_push_of_some _ (Heap.get?_push_size _ rfl)))
  have e1 : (g5 s.heap zs t b).get? s.heap.objs.size = some _ := Heap.get?_push_of_some _ (Heap.get?_push_of_some _ (Heap.get?_push_of_some _ (Heap.get?_push_of_some _ (Heap.get?_push_size _ rfl))))
  show _ ∧ _
  rw [s2, s3, s4] at e5
  rw [s1, s2] at e3
  rw [s3] at e4
  rw [s1] at e2
  rw [s4]
  exact ⟨⟨_, e5, rfl⟩, h _ e5 e3 e4 ⟨_, e1, rfl, rfl⟩ ⟨_, e2, rfl, rfl⟩ fun c o x => Heap.get?_push_of_some _ (Heap.get?_push_of_some _ (Heap.get?_push_of_some _ (Heap.get?_push_of_some _ (Heap.get?_push_of_some _ x))))⟩
end
end L2.ZS
namespace L2
open PySem PySem.Spec PyProof.Rows
/-- a text and a tuple walked together -/
def Itw (K : PySem.W.Frag) (zs : Str) (l2 : Addr) : It :=
  ⟨fun i H => ∃ ys c y, SqT K H l2 ys ∧ zs.cps[i]? = some c ∧ ys[i]? = some y, fun i H v H' => ∃ p, v = .ref p ∧ H p = none ∧ ∀ ys, SqT K H l2 ys → ∃ c y, zs.cps[i]? = some c ∧ ys[i]? = some y ∧ H' = upd H p (.tup [.str ⟨#[c]⟩, y]),
    fun i H => ∃ ys, SqT K H l2 ys ∧ i = min zs.cps.size ys.length⟩
def TnW (z TI TO i1 i2 l2 : Addr) (zs : Str) (t : Tok) (i : Nat) (h : Heap) : Prop := IsZip h z TI TO Value.none ∧ IsPair h TI (Value.ref i1) (Value.ref i2) ∧ (∃ a b, IsPair h TO a b) ∧ h.IsStrIter i1 "str_ascii_iterator" zs t i ∧ h.IsTupleIter i2 l2 i
theorem turn_zipW {P : Program} {w : World} {K : PySem.W.Frag} {elts : List Expr} {k : Nat} {pos : Pos} {z TI TO i1 i2 l2 : Addr} {zs : Str} {t : Tok} (ap : ZipApart z TI TO i1 i2 l2 l2) : Turn P w K (.Tuple elts k pos) (Itw K zs l2) [z, TI, TO, i1, i2] z (TnW z TI TO i1 i2 l2 zs t) where
  mem := by simp
  obj := fun i h st b hb => by
    obtain ⟨h1, h2, ⟨u, v, h3⟩, h4, h5⟩ := st
    simp only [List.mem_cons, List.not_mem_nil, or_false] at hb
    rcases hb with rfl | rfl | rfl | rfl | rfl
    · exact ⟨_, h1, fun v e => by cases e⟩
    · exact ⟨_, h2, fun v e => by cases e⟩
    · exact ⟨_, h3, fun v e => by cases e⟩
    · obtain ⟨o, e, c, d⟩ := h4
      exact ⟨o, e, fun v z => by rw [d] at z; cases z⟩
    · obtain ⟨o, e, c, d⟩ := h5
      exact ⟨o, e, fun v z => by rw [d] at z; cases z⟩
  keep := fun i h h' st kk => by
    obtain ⟨h1, h2, ⟨u, v, h3⟩, h4, h5⟩ := st
    exact ⟨kk _ (by simp) _ h1, kk _ (by simp) _ h2, ⟨u, v, kk _ (by simp) _ h3⟩, h4.at fun o e => kk _ (by simp) o e, h5.at fun o e => kk _ (by simp) o e⟩
  item := by
    intro X hP hw hK hc i pins s σ H E I hf st hg
    subst hP hw hK
    obtain ⟨ys, c0, y, hy, ex, ey⟩ := hg
    obtain ⟨jts, rv', p', hz'⟩ := I.tuple hy
    obtain ⟨v, hv, rv2⟩ := rv'.get ey
    obtain ⟨st1, st2, ⟨oa, ob, st3⟩, st4, st5⟩ := st
    have hT : s.TypeIs (.ref z) "zip" := ⟨_, st1, rfl⟩
    unfold pyNext
    refine wpAny_bind (wpAny_attempt (wpAny_callSpecial?_slot (name := Str.ofString "__next__") hT F.slot_zip_next (wpAny_call_entry F.slot_zip_next hT F.entry_zip_next
      (ZS.zip_item ap st1 st2 st3 st4 st5 (show s.heap.IsTuple l2 jts.toArray from p') (c0 := c0) (y := v) ex (by simpa using hv) fun g a1 a2 a3 a4 a5 a6 kk => wpAny_pure ?_) (F.args_zip_next_1 _))))
    refine ⟨_, rfl, wpAny_letOwnedTupleGo_zip a1 fun g' zz sb => ?_⟩
    have lt : ∀ {c : Addr} {o : Obj}, s.heap.get? c = some o → s.heap.objs.size ≠ c := fun e => Nat.ne_of_gt (Heap.lt_size e)
    have up : ∀ c o, c ≠ z → g.get? c = some o → g'.get? c = some o := fun c o n e => sb.extBut _ _ n e
    have hTup : IsTup g' s.heap.objs.size [Value.str ⟨#[c0]⟩ s.toks, v].toArray := ⟨_, up _ _ (lt st1) a5, rfl, _, rfl⟩
    have hfw : ∀ b ∈ ([z, TO, i1, i2] : List Addr), FpOk X pins H b := fun b hb => hf b (by simp only [List.mem_cons, List.not_mem_nil, or_false] at hb ⊢; rcases hb with h | h | h | h <;> simp [h])
    have kk2 : ∀ b o, b ∉ ([z, TO, i1, i2] : List Addr) → s.heap.get? b = some o → g'.get? b = some o := fun b o hb e => by
      simp only [List.mem_cons, List.not_mem_nil, or_false, not_or] at hb
      exact up _ _ hb.1 (kk b o hb.1 hb.2.1 hb.2.2.1 hb.2.2.2 e)
    have I1 := I.turnedT (h' := g') (t' := s.toks + 1) (T := s.heap.objs.size) (xs := [.str ⟨#[c0]⟩, y]) (us := [.str ⟨#[c0]⟩ s.toks, v]) (ch := [z, TO, i1, i2]) kk2 hfw (Nat.le_refl _) (by show 2 ≤ sizeLine; decide) (.cons ⟨_, rfl⟩ (.cons rv2 .nil)) hTup
    refine ⟨.ref s.heap.objs.size, _, I1, rfl, ⟨_, rfl, I.hok.fresh (Nat.le_refl _), fun ys' hy' => ⟨c0, y, ex, ?_, rfl⟩⟩, ⟨zz, up _ _ ap.TIz (kk _ _ ap.TIz ap.TITO ap.TIi1 ap.TIi2 st2), ⟨_, _, up _ _ ap.TOz a2⟩, a3.at fun o e => up _ o ap.i1z e, a4.at fun o e => up _ o ap.i2z e⟩, fun b hb => ?_⟩
    · rw [I.tuple_inj hy' hy]; exact ey
    · have hb' : ∃ o, s.heap.get? b = some o := by
        simp only [List.mem_cons, List.not_mem_nil, or_false] at hb
        obtain ⟨o4, e4, _⟩ := st4
        obtain ⟨o5, e5, _⟩ := st5
        rcases hb with h | h | h | h | h <;> rw [h]
        · exact ⟨_, st1⟩
        · exact ⟨_, st2⟩
        · exact ⟨_, st3⟩
        · exact ⟨_, e4⟩
        · exact ⟨_, e5⟩
      obtain ⟨o, e⟩ := hb'
      rw [upd_ne (Nat.ne_of_lt (Heap.lt_size e))]
      exact (hf b hb).1
  done := by
    intro X hP hw hK hc i pins s σ H E I hf st hg
    subst hP hw hK
    obtain ⟨ys, hy, rfl⟩ := hg
    obtain ⟨jts, rv', p', hz'⟩ := I.tuple hy
    obtain ⟨st1, st2, ⟨oa, ob, st3⟩, st4, st5⟩ := st
    have hfw : ∀ b ∈ ([z, TO, i1, i2] : List Addr), FpOk X pins H b := fun b hb => hf b (by simp only [List.mem_cons, List.not_mem_nil, or_false] at hb ⊢; rcases hb with h | h | h | h <;> simp [h])
    have e2 := rv'.length
    have hend : zs.cps[min zs.cps.size ys.length]? = none ∨ jts.toArray[min zs.cps.size ys.length]? = none := by
      by_cases h : zs.cps.size ≤ ys.length
      · exact .inl (Array.getElem?_eq_none (by omega))
      · exact .inr (Array.getElem?_eq_none (by rw [List.size_toArray]; omega))
    have hT : s.TypeIs (.ref z) "zip" := ⟨_, st1, rfl⟩
    unfold pyNext
    refine wpAny_bind (wpAny_attempt (wpAny_callSpecial?_slot (name := Str.ofString "__next__") hT F.slot_zip_next (wpAny_call_entry F.slot_zip_next hT F.entry_zip_next
      (ZS.zip_end (I.ok.hd hc) ap st1 st2 st3 st4 st5 (show s.heap.IsTuple l2 jts.toArray from p') hend fun g e tk kk ⟨oe, he, ce⟩ => ?_) (F.args_zip_next_1 _))))
    refine wpAny_bind (wpAny_isInstance (T := "StopIteration") (b := true) ⟨oe, he, ce⟩ isSubtype_stop (wpAny_pure ⟨rfl, I.turnedL (t' := tk) (ch := [z, TO, i1, i2]) (fun b o hb e => ?_) hfw⟩))
    simp only [List.mem_cons, List.not_mem_nil, or_false, not_or] at hb
    exact kk b o hb.1 hb.2.1 hb.2.2.1 hb.2.2.2 e
  self := fun _ _ _ _ _ st h => wpAny_pyIter_zip st.1 h
section
variable {X : Cx}
def iZipW (K : PySem.W.Frag) (ta : TA) : TI := fun σ H R => ta σ H fun vs H1 => ∃ (zs : Str) (b : Addr) (ys : List V), vs = [.str zs, .ref b] ∧ zs.cps.all (· < 128) = true ∧ SqT K H1 b ys ∧ R (Itw K zs b) H1
theorem pi_zipW {elts : List Expr} {k : Nat} {tpos : Pos} {a b : Expr} {ta : TA} {p pos : Pos} (hg : Gl X "zip") (hm : X.mg "zip" = none) (ha : PA X [a, b] ta) (hs : starEach [a, b] X.env = [(false, eval a X.env), (false, eval b X.env)] := by rfl) (hs2 : starEach [b] X.env = [(false, eval b X.env)] := by rfl) :
    PI X (.Tuple elts k tpos) (.Call (.Name "zip" p) [a, b] [] pos) (iZipW X.K ta) := by
  intro pins s σ H R I h
  refine Call_ (ld_blt I hg hm boot_zip (PyProof.Rows.callWith_type1 (thn (ha pos pins s σ H _ I h) fun us s1 ⟨vs, H1, I1, r1, q1⟩ => ?_) (by rw [hs, hs2]) (by rw [hs2]; rfl)))
  obtain ⟨zs, l2, ys, e, hA, hy, q⟩ := q1
  subst e
  obtain ⟨u, u2, rfl, rr1, rr2⟩ := vals2 r1
  obtain ⟨t, rfl⟩ := rr1
  cases rr2
  obtain ⟨jts, rv', p2, hz'⟩ := I1.tuple hy
  have h2 : l2 < s1.heap.objs.size := by obtain ⟨o, e, _⟩ := id p2; exact Heap.lt_size e
  refine ZS.call_zip hA (show s1.heap.IsTuple l2 jts.toArray from p2) fun h' z1 z2 z3 z4 z5 kk => ?_
  refine wpAny_pyIter_zip (s := { s1 with heap := h' }) z1 ?_
  refine ⟨_, [s1.heap.objs.size + 4, s1.heap.objs.size + 2, s1.heap.objs.size + 3, s1.heap.objs.size, s1.heap.objs.size + 1], _, _, H1, rfl, I1.kept (t' := s1.toks) kk, turn_zipW (zipApart_new h2 h2), ⟨z1, z2, ⟨_, _, z3⟩, z4, z5⟩, fun b hb => ?_, q⟩
  have hb' : s1.heap.objs.size ≤ b := by
    simp only [List.mem_cons, List.not_mem_nil, or_false] at hb
    rcases hb with h | h | h | h | h <;> rw [h] <;> first | exact Nat.le_add_right _ _ | exact Nat.le_refl _
  exact I1.fpOk hb' (I1.hok.fresh hb')
end
end L2
namespace L2
open PySem PySem.Spec PyProof.Rows
theorem for_zipW {K : PySem.W.Frag} {zs : Str} {b : Addr} {ys : List V} {g : TG} {tb : TS} {D : Ends} {σ : St} {H : Hp} (Pv : Nat → St → Hp → Prop) (h0 : Pv 0 σ H) (hl : ∀ i σ H, Pv i σ H → SqT K H b ys)
    (hs : ∀ (i c : Nat) (y : V) (p : Addr) σ H, zs.cps[i]? = some c → ys[i]? = some y → H p = none → Pv i σ H → g (.ref p) σ (upd H p (.tup [.str ⟨#[c]⟩, y])) fun σ2 H2 => tb { D with nx := Pv (i + 1), ct := Pv (i + 1), bk := D.nx } σ2 H2) (hd : ∀ σ H, Pv (min zs.cps.size ys.length) σ H → D.nx σ H) :
    ∃ W : Nat → Nat → St → Hp → Prop, (∃ m, W 0 m σ H) ∧ ∀ i m σ H, W i m σ H →
      ((Itw K zs b).stop i H ∧ D.nx σ H) ∨ ((Itw K zs b).go i H ∧ ∃ N : St → Hp → Prop, (∀ σ' H', N σ' H' → ∃ m', m' < m ∧ W (i + 1) m' σ' H') ∧ ∀ x H', (Itw K zs b).yld i H x H' → g x σ H' fun σ2 H2 => tb { D with nx := N, ct := N, bk := D.nx } σ2 H2) := by
  refine ⟨fun i m σ H => m = min zs.cps.size ys.length - i ∧ i ≤ min zs.cps.size ys.length ∧ Pv i σ H, ⟨min zs.cps.size ys.length, by simp, Nat.zero_le _, h0⟩, ?_⟩
  rintro i m σ H ⟨rfl, hi, p⟩
  have q := hl i σ H p
  by_cases hlt : i < min zs.cps.size ys.length
  · have h1 : i < zs.cps.size := by omega
    have h2 : i < ys.length := by omega
    refine .inr ⟨⟨ys, zs.cps[i], ys[i], q, by simp [h1], by simp [h2]⟩, Pv (i + 1), fun σ' H' p' => ⟨min zs.cps.size ys.length - (i + 1), by omega, rfl, hlt, p'⟩, fun x H' y => ?_⟩
    obtain ⟨pp, rfl, hp, y⟩ := y
    obtain ⟨c, w, e1, e2, rfl⟩ := y ys q
    exact hs i c w pp σ H e1 e2 hp p
  · have e : i = min zs.cps.size ys.length := by omega
    subst e
    exact .inl ⟨⟨ys, q, rfl⟩, hd σ H p⟩
end L2

set_option maxHeartbeats 2000000
/-! tuples alike to their depths; sorted(list of ints); isinstance(an instance, its own class) -/
namespace L2
open PySem PySem.Spec PyProof.Rows
section
variable {X : Cx}
/-- two things alike: the same one, or tuples of things alike -/
def Alk (K : PySem.W.Frag) : Nat → Hp → V → V → Prop
  | 0, _, v, w => smV v = true ∧ w = v
  | n + 1, H, v, w => (smV v = true ∧ w = v) ∨ ∃ (a b : Addr) (xs ys : List V), v = .ref a ∧ w = .ref b ∧ SqT K H a xs ∧ SqT K H b ys ∧ xs.length = ys.length ∧ ∀ (i : Nat) (x y : V), xs[i]? = some x → ys[i]? = some y → Alk K n H x y
theorem Alk.sm {K : PySem.W.Frag} {n : Nat} {H : Hp} {v : V} (h : smV v = true) : Alk K n H v v := by
  cases n with
  | zero => exact ⟨h, rfl⟩
  | succ n => exact .inl ⟨h, rfl⟩
end
end L2

set_option maxHeartbeats 2000000
/-! rows of statements with displays among them, kept shut -/
namespace L2
open PySem PySem.Spec PyProof.Rows
section
variable {X : Cx}
theorem pa_consV {e : Expr} {es : List Expr} {te : TE} {t : TA} (he : PEW X e te) (ha : PAW X es t) (hs : starEach (e :: es) X.env = (false, eval e X.env) :: starEach es X.env := by rfl) : PAW X (e :: es) (tCons te t) := ⟨pa_cons he.h ha.h hs⟩
theorem pe_tupW {es : List Expr} {t : TA} {k : Nat} {p1 : Pos} (ha : PAW X es t) : PEW X (.Tuple es k p1) (tTupA t) := ⟨pe_tupA ha.h⟩
structure PPsW (X : Cx) (pos : Pos) (keys : List (Option Expr)) (values : List Expr) (trs : List (TE × TE)) : Prop where
  h : PPs X pos keys values trs
theorem pps_nilW {pos : Pos} : PPsW X pos [] [] [] := ⟨pps_nil⟩
theorem pps_consS {pos p1 p2 : Pos} {k v : Str} {j1 j2 : Nat} {ks : List (Option Expr)} {vs : List Expr} {trs : List (TE × TE)} (hr : PPsW X pos ks vs trs) : PPsW X pos (some (.Constant (.str k) j1 p1) :: ks) (.Constant (.str v) j2 p2 :: vs) ((tC (.str k), tC (.str v)) :: trs) := ⟨pps_cons pe_str pe_str hr.h⟩
theorem ws_dictW {i : Nat} {x : Str} {pos pos' p2 : Pos} {keys : List (Option Expr)} {values : List Expr} {trs : List (TE × TE)} (hN : X.N.Nodup) (hi : X.N[i]? = some x) (hx : Loc X.env.scope x) (hf : X.fn x = true ∨ X.env.scope.names.lookup x = some .local) (h : PPsW X p2 keys values trs) (hall : keys.all (·.isSome) = true) (hl : keys.length = values.length) (h0 : keys ≠ []) (h15 : keys.length ≤ 15) :
    Wd (PS X (.Assign [.Name x pos'] (.Dict keys values p2) pos) (tAsg (tDisp trs) (gName i))) := ⟨ps_set hN hi hx (pe_disp h.h hall hl h0 h15) (by rfl) hf⟩
theorem ws_lstW {i : Nat} {x : Str} {l : List Expr} {t : TA} {pos pos' p2 : Pos} (hN : X.N.Nodup) (hi : X.N[i]? = some x) (hx : Loc X.env.scope x) (hf : X.fn x = true ∨ X.env.scope.names.lookup x = some .local) (he : PAW X l t) : Wd (PS X (.Assign [.Name x pos'] (.List l p2) pos) (tAsg (tLstA t) (gName i))) := ⟨ps_set hN hi hx (pe_lstA he.h) (by rfl) hf⟩
/-- x = x + [..] -/
theorem ws_catW {i : Nat} {x : Str} {a : Expr} {l : List Expr} {ta : TE} {t : TA} {pos pos' p2 p3 : Pos} (hN : X.N.Nodup) (hi : X.N[i]? = some x) (hx : Loc X.env.scope x) (hf : X.fn x = true ∨ X.env.scope.names.lookup x = some .local) (ha : PE X a ta) (he : PAW X l t) :
    Wd (PS X (.Assign [.Name x pos'] (.BinOp a .Add (.List l p3) p2) pos) (tAsg (tOp (fun x y H Q => ∃ l b xs zs, x = .ref l ∧ y = .ref b ∧ H l = some (.lst xs) ∧ H b = some (.lst zs) ∧ xs.length + zs.length ≤ sizeLine ∧ ∀ p H2, H p = none → Same H H2 → H2 p = some (.lst (xs ++ zs)) → Q (.ref p) H2) ta (tLstA t)) (gName i))) := ⟨ps_set hN hi hx (pe_op op_catA ha (pe_lstA he.h)) (by rfl) hf⟩
/-- if c: return [..][i] -/
theorem ws_ifPick {c b : Expr} {l : List Expr} {tc : TT} {t : TA} {tb : TE} {u : TS} {bs : List Stmt} {p1 p2 p3 pos : Pos} (hc : PT X c tc) (ha : PAW X l t) (hb : PE X b tb) (hs : PlainIx b) (hn : PSs X bs u) : Wd (PS X (.If c [.Return (some (.Subscript (.List l p1) b p2)) p3] bs pos) (tIfS tc (tRet (tOp (rIxL X.K) (tLstA t) tb)) u)) := ⟨ps_if hc (pss_one (ps_ret (pe_ix ix_list (pe_lstA ha.h) hb hs))) hn⟩
theorem wss_ret {e : Expr} {te : TE} {p : Pos} (h : PE X e te) : Wd (PSs X [.Return (some e) p] (tRet te)) := ⟨pss_one (ps_ret h)⟩
theorem go {st : List Stmt} {t : TS} {D : Ends} {σ : St} {H : Hp} (h : Wd (PSs X st t)) (h2 : t D σ H) : ∃ t, PSs X st t ∧ t D σ H := ⟨t, h.h, h2⟩
end
end L2

set_option maxHeartbeats 4000000
namespace L2
open PySem PySem.Spec PyProof.Rows
theorem op_fdivB {X : Cx} : OpR X (binaryOp .FloorDiv) (rI (fun _ j => 0 < j ∧ j < 2 ^ 250) fun i j => .int (i / j)) := opI fun i j _ _ _ _ _ hc q => by
  have e : i.fdiv j = i / j := Int.fdiv_eq_ediv_of_nonneg _ (Int.le_of_lt hc.1)
  refine floordiv_int (by have := hc.1; lia) (by rw [e]; exact q) (.inl (PyProof.noPylong_of_log2 ?_))
  have h1 := hc.1
  have h2 := hc.2
  have h3 : j.natAbs < 2 ^ 250 := by lia
  have h4 : j.natAbs ≠ 0 := by lia
  have := (Nat.log2_lt h4).mpr h3
  lia
end L2
namespace K31
open PySem L2
def top (i : Nat) : Stmt := PySem.Challenge.pw_chainhouse_k31_what_is_no_letter.main.body.getD i (.Pass ⟨0, 0, 0, 0⟩)
abbrev sCell : Stmt := top 39
abbrev sMixed : Stmt := top 40
abbrev sNumber : Stmt := top 41
abbrev sDigits : Stmt := top 42
theorem bInt0 : bootBuiltins "int" = some (.type "int") := by decide +kernel
theorem bTuple : bootBuiltins "tuple" = some (.type "tuple") := by decide +kernel
theorem bMin : bootBuiltins "min" = some (.builtin "min") := by decide +kernel
theorem bMax : bootBuiltins "max" = some (.builtin "max") := by decide +kernel
theorem bAbs : bootBuiltins "abs" = some (.builtin "abs") := by decide +kernel
abbrev ABC : Str := Str.ofString "abcdefghijklmnopqrstuvwxyz"
def okc (c : Nat) : Bool := !(Builtin.Str.occurrences ABC ⟨#[c]⟩ 0 ABC.length 1).isEmpty
structure Nm (x : Str) : Prop where
  one : 1 ≤ x.length
  eight : x.length ≤ 8
  ok : ∀ c ∈ x.cps.toList, okc c = true
theorem abc_len : ABC.length = 26 := by decide +kernel
theorem abc_le : ABC.length ≤ sizeLine := by rw [abc_len, sizeLine_eq]; decide
theorem abc_ok : ∀ c ∈ ABC.cps.toList, okc c = true := by decide +kernel
theorem at0 {α : Type} {a : α} {r : List α} : atI (a :: r) 0 = some a := atI_nat (j := 0) rfl
theorem at1 {α : Type} {a b : α} {r : List α} : atI (a :: b :: r) 1 = some b := atI_nat (j := 1) rfl
theorem len_cps (x : Str) : x.cps.toList.length = x.length := by simp [Str.length]
theorem at2I (x y : Int) (c : Bool) : ∃ z : Int, atI [V.int x, V.int y] (if c = true then (1 : Int) else 0) = some (.int z) := by
  cases c
  · exact ⟨x, rfl⟩
  · exact ⟨y, rfl⟩
theorem atI_in {α : Type} {xs : List α} {i : Int} (h0 : 0 ≤ i) (h1 : i < xs.length) : ∃ v, atI xs i = some v ∧ v ∈ xs := by
  obtain ⟨n, rfl⟩ := Int.eq_ofNat_of_zero_le h0
  have hn : n < xs.length := by lia
  exact ⟨xs[n], atI_nat (List.getElem?_eq_getElem hn), List.getElem_mem hn⟩
theorem atI_map {α β : Type} {f : α → β} {xs : List α} {i : Int} {x : α} (h0 : 0 ≤ i) (h : xs[i.toNat]? = some x) : atI (xs.map f) i = some (f x) := by
  obtain ⟨n, rfl⟩ := Int.eq_ofNat_of_zero_le h0
  have h : xs[n]? = some x := h
  exact atI_nat (by rw [List.getElem?_map, h]; rfl)
structure Blm (mg : Str → Option Value) : Prop where
  len : mg "len" = none
  range : mg "range" = none
  int : mg "int" = none
def spCell (K : PySem.W.Frag) : Sp := fun vs H Q _ => ∃ (a : Addr) (ns : List Int) (k : Int), vs = [.ref a, .int k] ∧ SqL K H a (ns.map V.int) ∧ 0 ≤ k ∧ ∀ z : Int, Q (.int z) H
def spMixed : Sp := fun vs H Q _ => ∃ x : Int, vs = [.int x] ∧ 0 ≤ x ∧ x < 2 ^ 40 ∧ ∀ z : Int, 0 ≤ z → z < 2147483648 → Q (.int z) H
def spNumber (K : PySem.W.Frag) : Sp := fun vs H Q _ => ∃ (a : Addr) (ns : List Int) (k : Int), vs = [.ref a, .int k] ∧ SqL K H a (ns.map V.int) ∧ 0 ≤ k ∧ k ≤ 100 ∧ ∀ z : Int, Q (.int z) H
def spDigits (K : PySem.W.Frag) : Sp := fun vs H Q _ => ∃ (a : Addr) (ns : List Int) (k b m : Int), vs = [.ref a, .int k, .int b, .int m] ∧ SqL K H a (ns.map V.int) ∧ 0 ≤ k ∧ k ≤ 100 ∧ 0 < b ∧ b < 2 ^ 250 ∧ 0 ≤ m ∧ m ≤ 100 ∧
  ∀ (ds : List Int) (p : Addr) (H' : Hp), Same H H' → H p = none → H' p = some (.lst (ds.map V.int)) → (ds.length : Int) = m → (∀ d ∈ ds, 0 ≤ d ∧ d < b) → Q (.ref p) H'
section
variable {P : Program} {w : World} {K : PySem.W.Frag} {mg : Str → Option Value} {base : Heap}
theorem scCell : FnScope ["_law_script", "_law_k"] ["_law_script", "_law_k"] (defScope sCell) := ⟨rfl, rfl, rfl, by decide +kernel, rfl, by decide +kernel, by decide +kernel⟩
theorem ok_cell {f : Addr} {fd : FuncData} (F : Fun K "_law_cell_at" "_law_cell_at" sCell f fd) (T : Blm mg) : FnOk P w K mg base CX0 1 f fd ["_law_script", "_law_k"] (spCell K) := by
  refine F.ok scCell (fun vs H Q E h => ?_) (fun cdv A outer s H vs Q E hr h => ?_)
  · obtain ⟨a, ns, k, rfl, _⟩ := h
    rfl
  · obtain ⟨a, ns, k, rfl, hS, h0, q⟩ := h
    refine ⟨_, pss_cons (ps_if (pt_cmpR op_lt (pv 1) (pe_callB call_len_seq (by rfl) T.len PySem.boot_len (pa_cons (pv 0) pa_nil)) (nomark _)) (pss_one (ps_ret (pe_ix ix_list (pv 0) (pv 1) (fun _ _ => rfl)))) pss_nil)
      (pss_one (ps_ret pe_int)), ?_⟩
    refine ⟨_, rfl, _, rfl, a, _, rfl, .inl hS, _, _, rfl, rfl, _, rfl, ?_⟩
    refine ite2 (fun h => ?_) (fun _ => q 0)
    have h := of_decide_eq_true h
    rw [List.length_map] at h
    have hk : k.toNat < ns.length := by lia
    exact ⟨_, rfl, _, rfl, a, _, k, _, rfl, rfl, hS, atI_map h0 (List.getElem?_eq_getElem hk), q _⟩
theorem scMixed : FnScope ["_law_x"] ["_law_x"] (defScope sMixed) := ⟨rfl, rfl, rfl, by decide +kernel, rfl, by decide +kernel, by decide +kernel⟩
theorem ok_mixed {f : Addr} {fd : FuncData} (F : Fun K "_law_mixed" "_law_mixed" sMixed f fd) : FnOk P w K mg base CX0 1 f fd ["_law_x"] spMixed := by
  refine F.ok scMixed (fun vs H Q E h => ?_) (fun cdv A outer s H vs Q E hr h => ?_)
  · obtain ⟨x, rfl, _⟩ := h
    rfl
  · obtain ⟨x, rfl, h0, h1, q⟩ := h
    have nd := scMixed.nd
    refine ⟨_, pss_cons (ps_set (i := 0) nd rfl (Or.inl rfl) (pe_op op_mod (pe_op op_add (pe_op op_add (pe_op op_mul (pv 0) (pv 0)) (pe_op op_mul pe_int (pv 0))) pe_int) pe_int))
      (pss_one (ps_ret (pe_op op_mod (pe_op op_add (pe_op op_add (pe_op op_mul (pv 0) (pv 0)) (pe_op op_mul pe_int (pv 0))) pe_int) pe_int))), ?_⟩
    refine ⟨_, rfl, _, rfl, _, _, rfl, rfl, .inl ⟨by lia, by lia⟩, _, rfl, _, _, rfl, rfl, .inl ⟨by decide, by decide⟩, _, _, rfl, rfl, _, _, rfl, rfl, _, _, rfl, rfl, (by dsimp only; decide), ?_⟩
    have y0 := Int.emod_nonneg (x * x + 48271 * x + 11) (show (2147483647 : Int) ≠ 0 by decide)
    have y1 := Int.emod_lt_of_pos (x * x + 48271 * x + 11) (show (0 : Int) < 2147483647 by decide)
    generalize (x * x + 48271 * x + 11) % 2147483647 = y at y0 y1 ⊢
    refine ⟨_, rfl, _, rfl, _, _, rfl, rfl, .inl ⟨by lia, by lia⟩, _, rfl, _, _, rfl, rfl, .inl ⟨by decide, by decide⟩, _, _, rfl, rfl, _, _, rfl, rfl, _, _, rfl, rfl, (by dsimp only; decide), ?_⟩
    exact q _ (Int.emod_nonneg _ (by decide)) (by have := Int.emod_lt_of_pos (y * y + 69621 * y + 5) (show (0 : Int) < 2147483629 by decide); lia)
theorem scNumber : FnScope ["_law_script", "_law_k", "_law_cell"] ["_law_script", "_law_k"] (defScope sNumber) := ⟨rfl, rfl, rfl, by decide +kernel, rfl, by decide +kernel, by decide +kernel⟩
theorem ok_number {f : Addr} {fd : FuncData} (F : Fun K "_law_number" "_law_number" sNumber f fd) (Fc : FnAt P w K mg base 1 "_law_cell_at" ["_law_script", "_law_k"] (spCell K)) (Fm : FnAt P w K mg base 1 "_law_mixed" ["_law_x"] spMixed) :
    FnOk P w K mg base CX0 2 f fd ["_law_script", "_law_k"] (spNumber K) := by
  refine F.ok scNumber (fun vs H Q E h => ?_) (fun cdv A outer s H vs Q E hr h => ?_)
  · obtain ⟨a, ns, k, rfl, _⟩ := h
    rfl
  · obtain ⟨a, ns, k, rfl, hS, h0, h1, q⟩ := h
    refine ⟨_, pss_cons (ps_set (i := 2) scNumber.nd rfl (Or.inl rfl) (pe_callF Fc hr (pa_cons (pv 0) (pa_cons (pv 1) pa_nil))))
      (pss_cons (ps_if (pt_cmpR op_ge (pv 2) (pe_op op_pow pe_int pe_int) (nomark _)) (pss_one (ps_ret (pv 2))) pss_nil)
      (pss_one (ps_ret (pe_callF Fm hr (pa_cons (pe_op op_mod (pe_op op_add (pv 2) (pe_op op_mul (pe_op op_mul pe_int (pv 1)) (pv 1))) pe_int) pa_nil))))), ?_⟩
    refine ⟨_, rfl, _, rfl, a, ns, k, rfl, hS, h0, fun z => ?_⟩
    refine ⟨_, rfl, _, _, rfl, rfl, ⟨by decide, by decide, by decide⟩, _, _, rfl, rfl, _, rfl, ?_⟩
    refine ite2 (fun _ => ?_) (fun _ => ?_)
    · exact ⟨_, rfl, q _⟩
    · refine ⟨_, rfl, _, rfl, _, _, rfl, rfl, .inl ⟨by decide, by decide⟩, _, rfl, _, _, rfl, rfl, .inr ⟨by lia, by lia⟩, _, _, rfl, rfl, _, _, rfl, rfl, (by dsimp only; decide), ?_⟩
      refine ⟨_, rfl, Int.emod_nonneg _ (by decide), ?_, fun y h2 h3 => q y⟩
      have := Int.emod_lt_of_pos (z + 69621 * k * k) (show (0 : Int) < 2147483647 by decide)
      lia
abbrev pDig : List Str := ["_law_script", "_law_k", "_law_base", "_law_many"]
theorem scDigits : FnScope ["_law_script", "_law_k", "_law_base", "_law_many", "_law_left", "_law_found", "_law_x", "_law_j"] pDig (defScope sDigits) := ⟨rfl, rfl, rfl, by decide +kernel, rfl, by decide +kernel, by decide +kernel⟩
theorem ok_digits {f : Addr} {fd : FuncData} (F : Fun K "_law_digits" "_law_digits" sDigits f fd) (T : Blm mg) (Fc : FnAt P w K mg base 1 "_law_cell_at" ["_law_script", "_law_k"] (spCell K)) (Fm : FnAt P w K mg base 1 "_law_mixed" ["_law_x"] spMixed)
    (Fn : FnAt P w K mg base 2 "_law_number" ["_law_script", "_law_k"] (spNumber K)) : FnOk P w K mg base CX0 3 f fd pDig (spDigits K) := by
  refine F.ok scDigits (fun vs H Q E h => ?_) (fun cdv A outer s H vs Q E hr h => ?_)
  · obtain ⟨a, ns, k, b, m, rfl, _⟩ := h
    rfl
  · obtain ⟨a, ns, k, b, m, rfl, hS, h0, h1, hb0, hb1, hm0, hm1, q⟩ := h
    have hr1 : Room 1 _ := hr.mono (by decide)
    have nd := scDigits.nd
    refine ⟨_, pss_cons (ps_set (i := 4) nd rfl (Or.inl rfl) (pe_callF Fn hr (pa_cons (pv 0) (pa_cons (pv 1) pa_nil))))
      (pss_cons (ps_set (i := 5) nd rfl (Or.inl rfl) (pe_lstA pa_nil))
      (pss_cons (ps_set (i := 6) nd rfl (Or.inl rfl) (pe_op op_mod (pv 4) pe_int))
      (pss_cons (ps_for PassesOwn.never rfl (pi_range1 rfl T.range (pa_cons (pv 3) pa_nil)) (pg_name (i := 7) nd rfl (Or.inl rfl))
        (pss_cons (ps_set (i := 6) nd rfl (Or.inl rfl) (pe_callF Fm hr1 (pa_cons (pe_op op_add (pv 6) (pv 7)) pa_nil)))
        (pss_cons (ps_expr (pe_bm PySem.F.plainAttrs_list PySem.F.slot_list_append PySem.F.type_list_append mt_appA (pv 5) (pa_cons (pe_op op_mod (pe_ix ix_list (pe_lstA (pa_cons (pv 6) (pa_cons (pv 4) pa_nil))) (pe_callTy call_int1 (by rfl) T.int bInt0 (pa_cons (pe_cmpR op_ge (pe_callF Fc hr1 (pa_cons (pv 0) (pa_cons (pv 1) pa_nil))) (pe_op op_pow pe_int pe_int) (nomark _)) pa_nil)) (fun _ _ => rfl)) (pv 2)) pa_nil)))
        (pss_one (ps_set (i := 4) nd rfl (Or.inl rfl) (pe_op op_fdivB (pv 4) (pv 2)))))))
      (pss_one (ps_ret (pv 5)))))), ?_⟩
    refine ⟨_, rfl, _, rfl, a, ns, k, rfl, hS, h0, h1, fun z => ?_⟩
    refine ⟨Nat.zero_le _, fun p H1 hp s1 e1 => ?_⟩
    refine ⟨_, rfl, _, _, rfl, rfl, (by dsimp only; decide), ?_⟩
    have hx0 := Int.emod_nonneg z (show (2147483647 : Int) ≠ 0 by decide)
    have hx1 := Int.emod_lt_of_pos z (show (0 : Int) < 2147483647 by decide)
    refine ⟨_, rfl, m, rfl, by lia, by lia, for_range (lo := 0) (n := m.toNat) (fun i σ H2 => ∃ (left x : Int) (jv : Option V) (ds : List Int), σ = [some (V.ref a), some (V.int k), some (V.int b), some (V.int m), some (V.int left), some (V.ref p), some (V.int x), jv] ∧ 0 ≤ x ∧ x < 2147483648 ∧ ds.length = i ∧ (∀ d ∈ ds, 0 ≤ d ∧ d < b) ∧ H2 p = some (.lst (ds.map V.int)) ∧ Same H H2)
      ⟨_, _, none, [], rfl, hx0, by lia, rfl, fun d hd => (by simp at hd), e1, s1⟩ ?_ ?_⟩
    · rintro i σ H2 hi ⟨left, x, jv, ds, rfl, h2, h3, hl, hd, hH, sm⟩
      refine ⟨_, rfl, _, rfl, _, _, rfl, rfl, _, rfl, by lia, by lia, fun y h4 h5 => ?_⟩
      refine ⟨_, rfl, .inl ⟨rfl, _, SqL.of hH⟩, _, rfl, _, rfl, (by show 2 ≤ sizeLine; decide), fun l H3 hl2 s3 e3 => ?_⟩
      refine ⟨_, rfl, _, rfl, a, ns, k, rfl, (sm.trans s3).seq hS, h0, fun ce => ?_⟩
      refine ⟨_, _, rfl, rfl, ⟨by decide, by decide, by decide⟩, _, _, rfl, rfl, .inr ⟨_, rfl, ?_⟩⟩
      obtain ⟨z3, hz3⟩ := at2I y left (decide ((10 : Int) ^ 18 ≤ ce))
      refine ⟨l, _, _, _, rfl, rfl, SqL.of e3, hz3, _, rfl, _, _, rfl, rfl, hb0, ?_⟩
      refine ⟨p, _, _, rfl, rfl, s3 _ _ hH, (by rw [List.length_map]; lia), fun H4 f4 e4 => ?_⟩
      refine ⟨_, rfl, _, rfl, _, _, rfl, rfl, ⟨hb0, hb1⟩, ?_⟩
      refine ⟨_, y, _, ds ++ [z3 % b], rfl, h4, h5, by rw [List.length_append, hl]; rfl, ?_, by rw [e4, List.map_append]; rfl, fun c o e => f4 _ _ (ne_of_none e hp) (s3 _ _ (sm _ _ e))⟩
      intro d hd'
      rcases List.mem_append.mp hd' with q1 | q1
      · exact hd d q1
      · rw [List.mem_singleton.mp q1]
        exact ⟨Int.emod_nonneg _ (by lia), Int.emod_lt_of_pos _ hb0⟩
    · rintro σ H2 ⟨left, x, jv, ds, rfl, h2, h3, hl, hd, hH, sm⟩
      exact ⟨_, rfl, q ds p H2 sm hp hH (by lia) hd⟩
end
end K31

set_option maxHeartbeats 4000000
namespace K31
open PySem L2
abbrev sPName : Stmt := top 19
abbrev sRise : Stmt := top 20
abbrev sIsB : Stmt := top 27
abbrev sJoined : Stmt := top 28
structure Blt (mg : Str → Option Value) : Prop where
  len : mg "len" = none
  list : mg "list" = none
  tuple : mg "tuple" = none
  sorted : mg "sorted" = none
theorem bIsi : bootBuiltins "isinstance" = some (.builtin "isinstance") := by decide +kernel
theorem bStr : bootBuiltins "str" = some (.type "str") := by decide +kernel
theorem bAll : bootBuiltins "all" = some (.builtin "all") := by decide +kernel
structure Bl2 (mg : Str → Option Value) : Prop where
  isi : mg "isinstance" = none
  str : mg "str" = none
  all : mg "all" = none
  any : mg "any" = none
  zip : mg "zip" = none
  set : mg "set" = none
  abc : ∃ t, mg "SMALL_LETTERS" = some (.str ABC t)
  sev : ∃ t, mg "MOST_SPEAKING" = some (.int 7 t)
  fou : ∃ t, mg "MOST_LEARNERS" = some (.int 4 t)
theorem bAny : bootBuiltins "any" = some (.builtin "any") := by decide +kernel
theorem at2 {α : Type} {a b c : α} {r : List α} : atI (a :: b :: c :: r) 2 = some c := atI_nat (j := 2) rfl
/-! names -/
def nmB : V → Bool
  | .str x => (decide (1 ≤ x.length) && decide (x.length ≤ 8)) && x.cps.toList.all okc
  | _ => false
theorem nmB_nm {x : Str} (h : nmB (.str x) = true) : Nm x := by
  have h : ((decide (1 ≤ x.length) && decide (x.length ≤ 8)) && x.cps.toList.all okc) = true := h
  simp only [Bool.and_eq_true, decide_eq_true_iff] at h
  exact ⟨h.1.1, h.1.2, List.all_eq_true.mp h.2⟩
theorem nm_nmB {x : Str} (h : Nm x) : nmB (.str x) = true := by
  show ((decide (1 ≤ x.length) && decide (x.length ≤ 8)) && x.cps.toList.all okc) = true
  simp only [Bool.and_eq_true, decide_eq_true_iff]
  exact ⟨⟨h.one, h.eight⟩, List.all_eq_true.mpr h.ok⟩
theorem nmB_mid {x : Str} (h1 : 1 ≤ x.length) (h2 : x.length ≤ 8) : nmB (.str x) = x.cps.toList.all okc := by
  show ((decide (1 ≤ x.length) && decide (x.length ≤ 8)) && x.cps.toList.all okc) = _
  rw [decide_eq_true h1, decide_eq_true h2]
  rfl
theorem nmB_short {x : Str} (h : ¬ 1 ≤ x.length) : nmB (.str x) = false := by
  show ((decide (1 ≤ x.length) && decide (x.length ≤ 8)) && x.cps.toList.all okc) = _
  rw [decide_eq_false h]
  rfl
theorem nmB_long {x : Str} (h : ¬ x.length ≤ 8) : nmB (.str x) = false := by
  show ((decide (1 ≤ x.length) && decide (x.length ≤ 8)) && x.cps.toList.all okc) = _
  rw [decide_eq_false h, Bool.and_false]
  rfl
/-- an item of a part: any thing -/
def Im (H : Hp) (x : V) : Prop := Th1 H x ∧ ∀ z, x = .str z → z.length ≤ 100
theorem Im.same {H H' : Hp} {x : V} (e : Same H H') (h : Im H x) : Im H' x := ⟨h.1.same e, h.2⟩
theorem Im.str {H : Hp} {x : Str} (h : x.length ≤ 100) : Im H (.str x) := ⟨.inl rfl, fun z e => by cases e; exact h⟩
theorem Im.nm {H : Hp} {x : Str} (h : Nm x) : Im H (.str x) := Im.str (by have := h.eight; lia)
theorem names_of : ∀ {xs : List V}, xs.all nmB = true → ∃ zs : List Str, xs = zs.map V.str ∧ ∀ z ∈ zs, Nm z
  | [], _ => ⟨[], rfl, by simp⟩
  | x :: r, h => by
    rw [List.all_cons, Bool.and_eq_true] at h
    obtain ⟨zs, rfl, hz⟩ := names_of h.2
    cases x with
    | str z => exact ⟨z :: zs, rfl, fun y hy => by
        rcases List.mem_cons.mp hy with rfl | hy
        · exact nmB_nm h.1
        · exact hz y hy⟩
    | _ => exact absurd h.1 (by simp [nmB])
theorem all_names {zs : List Str} (h : ∀ z ∈ zs, Nm z) : (zs.map V.str).all nmB = true := by
  rw [List.all_map]
  exact List.all_eq_true.mpr fun z hz => nm_nmB (h z hz)
def txs : List V → List Str
  | [] => []
  | .str z :: r => z :: txs r
  | _ :: r => txs r
theorem txs_map : ∀ zs : List Str, txs (zs.map V.str) = zs
  | [] => rfl
  | z :: r => by show z :: txs (r.map V.str) = _; rw [txs_map r]
/-! rising -/
def adj : List Str → Bool
  | a :: b :: r => decide (a.cps.toList < b.cps.toList) && adj (b :: r)
  | _ => true
theorem lt_of {x y : Str} (h : ltS x y) : x.cps.toList < y.cps.toList := by
  refine Classical.byContradiction fun hn => h.2 ?_
  have h2 : leS y x := by
    unfold leS
    rw [PyProof.Rows.ltCps_eq, decide_eq_false_iff_not]
    exact hn
  exact leS_anti h.1 h2
theorem pw_adj : ∀ {zs : List Str}, zs.Pairwise ltS → adj zs = true
  | [], _ => rfl
  | [a], _ => rfl
  | a :: b :: r, h => by
    show (decide (a.cps.toList < b.cps.toList) && adj (b :: r)) = true
    rw [decide_eq_true (lt_of ((List.pairwise_cons.mp h).1 b (by simp))), pw_adj (List.pairwise_cons.mp h).2]
    rfl
theorem adj_zip : ∀ zs : List Str, (((zs.zip (zs.drop 1)).map fun p => decide (p.1.cps.toList < p.2.cps.toList)).all id) = adj zs
  | [] => rfl
  | [a] => rfl
  | a :: b :: r => by
    have ih := adj_zip (b :: r)
    show ((decide (a.cps.toList < b.cps.toList)) && ((((b :: r).zip ((b :: r).drop 1)).map fun p => decide (p.1.cps.toList < p.2.cps.toList)).all id)) = _
    rw [ih]
    rfl
/-! parts and benches, and things that are none -/
theorem kit_ntup {K : PySem.W.Frag} {H : Hp} {x : V} {k : String} (h : Kd H x k) (hk : k ≠ "tuple") : PySem.W.kitOne K (.type k) (.type "tuple") = some false := by
  cases h with
  | non => exact kit_ft rfl (Kd.non (H := H))
  | bl b => exact kit_ft rfl (Kd.bl (H := H) b)
  | int i => exact kit_ft rfl (Kd.int (H := H) i)
  | str z => exact kit_ft rfl (Kd.str (H := H) z)
  | lst h => exact kit_lt
  | tup h => exact absurd rfl hk
theorem Kd.same {H H' : Hp} {x : V} {k : String} (e : Same H H') (h : Kd H x k) : Kd H' x k := by
  cases h with
  | non => exact .non
  | bl b => exact .bl b
  | int i => exact .int i
  | str z => exact .str z
  | lst h =>
    rcases h with h | ⟨o, h⟩
    · exact .lst (.inl (e _ _ h))
    · exact .lst (.inr ⟨o, e _ _ h⟩)
  | tup h =>
    rcases h with h | ⟨o, h⟩
    · exact .tup (.inl (e _ _ h))
    · exact .tup (.inr ⟨o, e _ _ h⟩)
inductive PtAt (H : Hp) : V → Option (List V) → Prop
  | no {x : V} {k : String} : Kd H x k → k ≠ "tuple" → PtAt H x none
  | tup {a : Addr} {xs : List V} : H a = some (.tup xs) → xs.length ≤ 60 → (∀ x ∈ xs, Im H x) → PtAt H (.ref a) (some xs)
theorem PtAt.same {H H' : Hp} {x : V} {o : Option (List V)} (e : Same H H') (h : PtAt H x o) : PtAt H' x o := by
  cases h with
  | no h hk => exact .no (Kd.same e h) hk
  | tup h hl hi => exact .tup (e _ _ h) hl fun x hx => (hi x hx).same e
abbrev Tr := Option (Option (List V) × Option (List V) × Option (List V))
inductive BnAt (H : Hp) : V → Tr → Prop
  | no {x : V} {k : String} : Kd H x k → k ≠ "tuple" → BnAt H x none
  | odd {a : Addr} {ps : List V} : H a = some (.tup ps) → ps.length ≤ 60 → ps.length ≠ 3 → BnAt H (.ref a) none
  | tri {a : Addr} {p0 p1 p2 : V} {o0 o1 o2 : Option (List V)} : H a = some (.tup [p0, p1, p2]) → PtAt H p0 o0 → PtAt H p1 o1 → PtAt H p2 o2 → BnAt H (.ref a) (some (o0, o1, o2))
theorem BnAt.same {H H' : Hp} {x : V} {o : Tr} (e : Same H H') (h : BnAt H x o) : BnAt H' x o := by
  cases h with
  | no h hk => exact .no (Kd.same e h) hk
  | odd h hl hi => exact .odd (e _ _ h) hl hi
  | tri h h0 h1 h2 => exact .tri (e _ _ h) (h0.same e) (h1.same e) (h2.same e)
def riseB : Option (List V) → Bool
  | some xs => xs.all nmB && adj (txs xs)
  | none => false
def stro : Option (List V) → List Str
  | some xs => txs xs
  | none => []
def com (vs cs ls : List Str) : Bool := ls.any fun x => decide (x ∈ (if cs = [] then vs else cs))
def fitB (vs cs ls : List Str) : Bool := (((decide (1 ≤ vs.length) && decide (vs.length ≤ 7)) && decide (cs.length ≤ 7)) && decide (ls.length ≤ 4)) && !com vs cs ls
def bnB : Tr → Bool
  | some (a, b, c) => ((riseB a && riseB b) && riseB c) && fitB (stro a) (stro b) (stro c)
  | none => false
theorem rise_inv {H : Hp} {p : V} {o : Option (List V)} (h : PtAt H p o) (hr : riseB o = true) : ∃ (a : Addr) (zs : List Str), p = .ref a ∧ H a = some (.tup (zs.map V.str)) ∧ o = some (zs.map V.str) ∧ zs.length ≤ 60 ∧ (∀ z ∈ zs, Nm z) ∧ adj zs = true := by
  cases h with
  | no h hk => cases hr
  | @tup a xs h hl hi =>
    have hr : (xs.all nmB && adj (txs xs)) = true := hr
    rw [Bool.and_eq_true] at hr
    obtain ⟨zs, rfl, hz⟩ := names_of hr.1
    have h2 := hr.2
    rw [txs_map] at h2
    rw [List.length_map] at hl
    exact ⟨a, zs, rfl, h, rfl, hl, hz, h2⟩
theorem rise_of {zs : List Str} (hz : ∀ z ∈ zs, Nm z) (ha : adj zs = true) : riseB (some (zs.map V.str)) = true := by
  show ((zs.map V.str).all nmB && adj (txs (zs.map V.str))) = true
  rw [all_names hz, txs_map, ha]
  rfl
def spNm : Sp := fun us H Q _ => ∃ x : V, us = [x] ∧ Im H x ∧ ∀ H', Same H H' → Q (.bl (nmB x)) H'
def spRise : Sp := fun us H Q _ => ∃ (x : V) (o : Option (List V)), us = [x] ∧ PtAt H x o ∧ ∀ H', Same H H' → Q (.bl (riseB o)) H'
def spJoined : Sp := fun us H Q _ => ∃ (b v c l : Addr) (cs : List Str), us = [.ref b] ∧ H b = some (.tup [.ref v, .ref c, .ref l]) ∧ H c = some (.tup (cs.map V.str)) ∧ Q (.bl (decide (0 < cs.length))) H
def spIsB : Sp := fun us H Q _ => ∃ (x : V) (o : Tr), us = [x] ∧ BnAt H x o ∧ ∀ H', Same H H' → Q (.bl (bnB o)) H'
theorem cut1 (zs : List Str) : cutV (zs.map V.str) (some 1) none = (zs.drop 1).map V.str := by
  unfold cutV
  rw [List.length_map, HT.sIx_none, show HT.sIx zs.length 0 (some 1) = min 1 zs.length from HT.sIx_nat _ _ 1, List.map_drop, ← List.map_drop, ← List.map_drop]
  by_cases h : 1 ≤ zs.length
  · rw [Nat.min_eq_left h, List.take_of_length_le (by rw [List.length_map, List.length_drop]; lia)]
  · rw [Nat.min_eq_right (by lia), List.drop_of_length_le (Nat.le_refl _), List.drop_of_length_le (by lia)]
    simp
theorem all_okc (xs : List Nat) : (xs.map okc).all id = xs.all okc := by rw [List.all_map]; rfl
theorem bls_okc (xs : List Nat) : xs.map (fun c => V.bl (okc c)) = (xs.map okc).map V.bl := by rw [List.map_map]; rfl
theorem bls_nm (xs : List V) : xs.map (fun c => V.bl (nmB c)) = (xs.map nmB).map V.bl := by rw [List.map_map]; rfl
theorem all_nm (xs : List V) : (xs.map nmB).all id = xs.all nmB := by rw [List.all_map]; rfl
theorem len_pos (n : Nat) : decide ((0 : Int) < (n : Int)) = decide (0 < n) := by
  rw [Bool.eq_iff_iff, decide_eq_true_iff, decide_eq_true_iff]
  lia
def ltV : V → V → Bool
  | .str a, .str b => decide (a.cps.toList < b.cps.toList)
  | _, _ => false
theorem zip_lt (zs ys : List Str) : ((zs.map V.str).zip (ys.map V.str)).map (fun p => V.bl (ltV p.1 p.2)) = ((zs.zip ys).map fun p => decide (p.1.cps.toList < p.2.cps.toList)).map V.bl := by
  rw [List.zip_map, List.map_map, List.map_map]
  rfl
section
variable {P : Program} {w : World} {K : PySem.W.Frag} {mg : Str → Option Value} {base : Heap}
theorem scPName : FnScope ["thing"] ["thing"] (defScope sPName) := ⟨rfl, rfl, rfl, by decide +kernel, rfl, by decide +kernel, by decide +kernel⟩
theorem ndSign : ((["thing"] : List Str) ++ (["sign"] : List Str)).Nodup := by decide +kernel
theorem ok_pname {f : Addr} {fd : FuncData} (F : Fun K "is_name" "is_name" sPName f fd) (B : Blt mg) (T : Bl2 mg) : FnOk P w K mg base CX0 1 f fd ["thing"] spNm := by
  refine F.ok scPName (fun vs H Q E h => ?_) (fun cdv A outer s H vs Q E hr h => ?_)
  · obtain ⟨v, rfl, _⟩ := h
    rfl
  · obtain ⟨v, rfl, hI, q⟩ := h
    obtain ⟨tA, hA⟩ := T.abc
    refine ⟨_, pss_cons (ps_if (PW.pt (pw_or (pt_not (pt_val (pe_callB call_isT (by rfl) T.isi bIsi (pa_cons (pv 0) (pa_cons (pe_bltn (v := .ty "str") (by rfl) T.str bStr rfl) pa_nil))))) <|
        pw_or (pt_cmpR op_lt (pe_callB call_len_str (by rfl) B.len PySem.boot_len (pa_cons (pv 0) pa_nil)) pe_int (nomark _)) <|
        pw_or1 (pt_cmpR op_gt (pe_callB call_len_str (by rfl) B.len PySem.boot_len (pa_cons (pv 0) pa_nil)) pe_int (nomark _)))) (pss_one (ps_ret pe_bl)) pss_nil) <|
      pss_one <| ps_ret <| pe_callB (call_allB rfl) (by rfl) T.all bAll (pa_cons (pe_lc ["thing"] ["thing"] ["sign"] (defScope sPName) rfl rfl rfl (by decide +kernel) rfl rfl (by decide +kernel) (by decide +kernel) (by decide +kernel) (by decide +kernel)
        (pi_str (pv 0)) (fun _ _ _ _ _ => pg_name (i := 1) ndSign rfl (Or.inl rfl)) (fun _ _ _ _ _ => pts_nil)
        (fun _ _ _ _ _ => pe_cmpR op_in_str (pv 1) (pe_glob (v := .str ABC) (by rfl) hA ⟨tA, rfl⟩) (by rfl))) pa_nil), ?_⟩
    obtain ⟨k, hk⟩ := hI.1.kd
    refine ⟨_, rfl, _, _, _, _, rfl, hk, kit_str hk, _, rfl, ?_⟩
    cases v with
    | str x =>
      have hx := hI.2 x rfl
      have hz : x.length ≤ sizeLine := Nat.le_of_lt (small1000 (by lia))
      refine iteF ?_
      refine ⟨_, rfl, x, rfl, hz, _, _, rfl, rfl, _, rfl, ite2 (fun z => ?_) (fun z1 => ?_)⟩
      · have z := of_decide_eq_true z
        rw [nmB_short (by lia)] at q
        exact iteT (q H (Same.refl H))
      have z1 : ¬ (((x.length : Nat) : Int) < 1) := fun y => z1 (decide_eq_true y)
      refine ⟨_, rfl, x, rfl, hz, _, _, rfl, rfl, _, rfl, ite2 (fun z => ?_) (fun z2 => ?_)⟩
      · have z := of_decide_eq_true z
        rw [nmB_long (by lia)] at q
        exact q H (Same.refl H)
      have z2 : ¬ ((8 : Int) < ((x.length : Nat) : Int)) := fun y => z2 (decide_eq_true y)
      rw [nmB_mid (by lia) (by lia)] at q
      refine ⟨_, rfl, x, rfl, ?_⟩
      refine lcT (fun c => V.bl (okc c)) rfl (show x.length ≤ 1000 by lia) (fun D c ys post hD hp => ?_) (fun D hD => ?_)
      · exact ⟨_, rfl, _, _, rfl, rfl, hp⟩
      · rw [bls_okc]
        refine ⟨D, _, rfl, SqL.of upd_same, ?_⟩
        rw [all_okc]
        exact q _ (Same.new hD)
    | _ => exact iteT (iteT (q H (Same.refl H)))
theorem scRise : FnScope ["thing"] ["thing"] (defScope sRise) := ⟨rfl, rfl, rfl, by decide +kernel, rfl, by decide +kernel, by decide +kernel⟩
theorem ndPart : ((["thing"] : List Str) ++ (["part"] : List Str)).Nodup := by decide +kernel
theorem ndTwo : ((["thing"] : List Str) ++ (["name", "following"] : List Str)).Nodup := by decide +kernel
theorem ok_rise {f : Addr} {fd : FuncData} (F : Fun K "is_rising_names" "is_rising_names" sRise f fd) (B : Blt mg) (T : Bl2 mg) (Fn : FnAt P w K mg base 1 "is_name" ["thing"] spNm) : FnOk P w K mg base CX0 2 f fd ["thing"] spRise := by
  refine F.ok scRise (fun vs H Q E h => ?_) (fun cdv A outer s H vs Q E hr h => ?_)
  · obtain ⟨t, xs, rfl, _⟩ := h
    rfl
  · obtain ⟨x, o, rfl, hP, q⟩ := h
    refine ⟨_, pss_cons (ps_if (PW.pt (pw_or (pt_not (pt_val (pe_callB call_isT (by rfl) T.isi bIsi (pa_cons (pv 0) (pa_cons (pe_bltn (v := .ty "tuple") (by rfl) B.tuple bTuple rfl) pa_nil))))) <|
        pw_or1 (pt_not (pt_val (pe_callB (call_allB rfl) (by rfl) T.all bAll (pa_cons (pe_lc ["thing"] ["thing"] ["part"] (defScope sRise) rfl rfl rfl (by decide +kernel) rfl rfl (by decide +kernel) (by decide +kernel) (by decide +kernel) (by decide +kernel)
          (pi_tup (pv 0)) (fun _ _ _ _ _ => pg_name (i := 1) ndPart rfl (Or.inl rfl)) (fun _ _ _ _ _ => pts_nil) (fun _ _ _ _ _ => pe_callF (X := cxC _ _ _ _ _ _ _ _ _) Fn hr (pa_cons (pv 1) pa_nil))) pa_nil)))))) (pss_one (ps_ret pe_bl)) pss_nil) <|
      pss_one <| ps_ret <| pe_callB (call_allB rfl) (by rfl) T.all bAll (pa_cons (pe_lc ["thing"] ["thing"] ["name", "following"] (defScope sRise) rfl rfl rfl (by decide +kernel) rfl rfl (by decide +kernel) (by decide +kernel) (by decide +kernel) (by decide +kernel)
          (pi_zipT (by rfl) T.zip (pa_cons (pv 0) (pa_cons (pe_slice sl_tupU (pv 0) (po_some pe_int) po_none) pa_nil)))
          (fun _ _ _ _ _ => pg_tupC (n := 2) rfl (pgs_cons (pg_name (i := 1) ndTwo rfl (Or.inl rfl)) (pgs_cons (pg_name (i := 2) ndTwo rfl (Or.inl rfl)) pgs_nil))) (fun _ _ _ _ _ => pts_nil)
          (fun _ _ _ _ _ => pe_cmpR op_lt_str (pv 1) (pv 2) (by rfl))) pa_nil), ?_⟩
    cases hP with
    | no hk ne => exact ⟨_, rfl, _, _, _, false, rfl, hk, kit_ntup hk ne, _, rfl, iteT (iteT (q H (Same.refl H)))⟩
    | @tup t xs ht hl hi =>
      refine ⟨_, rfl, _, _, "tuple", true, rfl, Kd.tup (.inl ht), kit_self, _, rfl, iteF ?_⟩
      refine ⟨_, rfl, t, rfl, ⟨_, SqT.of ht⟩, ?_⟩
      refine lcMU (fun x => V.bl (nmB x)) rfl ht (by lia) (fun D x ys H1 post hD hx sm hDD hpost => ?_) (fun D H1 hD sm eD => ?_)
      · exact ⟨_, rfl, x, rfl, (hi x hx).same sm, fun H' s' => hpost H' s'⟩
      rw [bls_nm] at eD
      refine ⟨D, _, rfl, SqL.of eD, ?_⟩
      rw [all_nm]
      cases hn : xs.all nmB with
      | false =>
        rw [show riseB (some xs) = false by show (xs.all nmB && adj (txs xs)) = false; rw [hn]; rfl] at q
        exact ⟨_, rfl, iteT (q _ sm)⟩
      | true =>
        obtain ⟨zs, rfl, hz⟩ := names_of hn
        rw [show riseB (some (zs.map V.str)) = adj zs by show ((zs.map V.str).all nmB && adj (txs (zs.map V.str))) = adj zs; rw [hn, txs_map]; rfl] at q
        refine ⟨_, rfl, iteF ?_⟩
        refine ⟨_, rfl, _, rfl, _, rfl, t, _, rfl, sm _ _ ht, fun p H2 s2 ep => ?_⟩
        rw [cut1] at ep
        refine ⟨t, p, _, _, rfl, SqT.of (s2 _ _ (sm _ _ ht)), SqT.of ep, ?_⟩
        refine lcZU (fun x y => V.bl (ltV x y)) (s2 _ _ (sm _ _ ht)) ep (by lia) (fun p' x y Hx R hp' hR => ?_) (fun i x y Hx post hx hy sx hpost => ?_) (fun D2 H3 hD2 s3 e3 => ?_)
        · exact ⟨p', _, rfl, SqT.of hp', rfl, x, [y], rfl, y, [], rfl, rfl, hR⟩
        · obtain ⟨a, _, rfl⟩ := List.mem_map.mp (List.mem_of_getElem? hx)
          obtain ⟨b, _, rfl⟩ := List.mem_map.mp (List.mem_of_getElem? hy)
          refine ⟨_, rfl, _, rfl, _, _, rfl, rfl, ?_⟩
          exact hpost _ (Same.refl _)
        · rw [zip_lt] at e3
          refine ⟨D2, _, rfl, SqL.of e3, ?_⟩
          rw [adj_zip]
          exact q _ ((sm.trans s2).trans s3)
theorem scJoined : FnScope ["bench"] ["bench"] (defScope sJoined) := ⟨rfl, rfl, rfl, by decide +kernel, rfl, by decide +kernel, by decide +kernel⟩
theorem ok_joined {f : Addr} {fd : FuncData} (F : Fun K "is_joined" "is_joined" sJoined f fd) (hlen : mg "len" = none) : FnOk P w K mg base CX0 1 f fd ["bench"] spJoined := by
  refine F.ok scJoined (fun us H Q E h => ?_) (fun cdv A outer s H us Q E hr h => ?_)
  · obtain ⟨b, v, c, l, cs, rfl, _⟩ := h
    rfl
  · obtain ⟨b, v, c, l, cs, rfl, hb, hc, q⟩ := h
    refine ⟨_, pss_one <| ps_ret <| pe_cmpR op_gt (pe_callB call_len_seq (by rfl) hlen PySem.boot_len (pa_cons (pe_ix ix_tup (pv 0) pe_int (fun _ _ => rfl)) pa_nil)) pe_int (nomark _), ?_⟩
    refine ⟨_, rfl, b, _, _, _, rfl, rfl, SqT.of hb, at1, c, _, rfl, .inr (SqT.of hc), _, _, rfl, rfl, ?_⟩
    rw [List.length_map]
    show Q (.bl (decide ((0 : Int) < (cs.length : Int)))) H
    rw [len_pos]
    exact q
end
end K31

set_option maxHeartbeats 4000000
namespace K31
open PySem L2
theorem bn_not3 {a b c : Option (List V)} (h : ((riseB a && riseB b) && riseB c) = false) : bnB (some (a, b, c)) = false := by
  show (((riseB a && riseB b) && riseB c) && fitB (stro a) (stro b) (stro c)) = false
  rw [h]
  rfl
theorem bn_fit {vs cs ls : List Str} (h : ((riseB (some (vs.map V.str)) && riseB (some (cs.map V.str))) && riseB (some (ls.map V.str))) = true) : bnB (some (some (vs.map V.str), some (cs.map V.str), some (ls.map V.str))) = fitB vs cs ls := by
  show (((riseB (some (vs.map V.str)) && riseB (some (cs.map V.str))) && riseB (some (ls.map V.str))) && fitB (txs (vs.map V.str)) (txs (cs.map V.str)) (txs (ls.map V.str))) = _
  rw [h, txs_map, txs_map, txs_map]
  rfl
def ptO (H : Hp) : V → Option (List V)
  | .ref a => match H a with
    | some (.tup xs) => some xs
    | _ => none
  | _ => none
theorem PtAt.eq {H : Hp} {x : V} {o : Option (List V)} (h : PtAt H x o) : ptO H x = o := by
  cases h with
  | no h hk => cases h with
    | non => rfl
    | bl b => rfl
    | int i => rfl
    | str z => rfl
    | lst h => rcases h with h | ⟨_, h⟩ <;> simp [ptO, h]
    | tup h => exact absurd rfl hk
  | tup h hl hi => simp [ptO, h]
theorem fit_yes {vs cs ls : List Str} (h1 : 1 ≤ vs.length) (h2 : vs.length ≤ 7) (h3 : cs.length ≤ 7) (h4 : ls.length ≤ 4) : fitB vs cs ls = !com vs cs ls := by
  unfold fitB
  rw [decide_eq_true h1, decide_eq_true h2, decide_eq_true h3, decide_eq_true h4]
  rfl
theorem fit_no {vs cs ls : List Str} (h : vs.length < 1 ∨ 7 < vs.length ∨ 7 < cs.length ∨ 4 < ls.length) : fitB vs cs ls = false := by
  unfold fitB
  rcases h with h | h | h | h
  · rw [decide_eq_false (by lia)]; rfl
  · rw [decide_eq_false (show ¬ vs.length ≤ 7 by lia), Bool.and_false]; rfl
  · rw [decide_eq_false (show ¬ cs.length ≤ 7 by lia), Bool.and_false]; rfl
  · rw [decide_eq_false (show ¬ ls.length ≤ 4 by lia), Bool.and_false]; rfl
theorem in_bls (ls vs : List Str) : (ls.map V.str).map (fun x => V.bl (inV x (vs.map V.str))) = (ls.map fun x => decide (x ∈ vs)).map V.bl := by
  rw [List.map_map, List.map_map]
  refine List.map_congr_left fun z _ => ?_
  show V.bl (inV (.str z) (vs.map V.str)) = V.bl (decide (z ∈ vs))
  rw [inV_str]
theorem any_bls (ls vs : List Str) : (ls.map fun x => decide (x ∈ vs)).any id = ls.any fun x => decide (x ∈ vs) := by rw [List.any_map]; rfl
section
variable {P : Program} {w : World} {K : PySem.W.Frag} {mg : Str → Option Value} {base : Heap}
abbrev nIsB : List Str := ["thing", "speaking_then"]
theorem scIsB : FnScope nIsB ["thing"] (defScope sIsB) := ⟨rfl, rfl, rfl, by decide +kernel, rfl, by decide +kernel, by decide +kernel⟩
theorem ndIsB1 : (nIsB ++ (["part"] : List Str)).Nodup := by decide +kernel
theorem ndIsB2 : (nIsB ++ (["name"] : List Str)).Nodup := by decide +kernel
theorem ok_isB {f : Addr} {fd : FuncData} (F : Fun K "is_bench" "is_bench" sIsB f fd) (B : Blt mg) (T : Bl2 mg) (Fr : FnAt P w K mg base 2 "is_rising_names" ["thing"] spRise) (Fj : FnAt P w K mg base 1 "is_joined" ["bench"] spJoined) : FnOk P w K mg base CX0 3 f fd ["thing"] spIsB := by
  refine F.ok scIsB (fun us H Q E h => ?_) (fun cdv A outer s H us Q E hr h => ?_)
  · obtain ⟨x, o, rfl, _⟩ := h
    rfl
  · obtain ⟨x, o, rfl, hB, q⟩ := h
    obtain ⟨t7, h7⟩ := T.sev
    obtain ⟨t4, h4⟩ := T.fou
    have nd := scIsB.nd
    have r1 : Room 1 _ := hr.mono (by decide)
    refine ⟨_, pss_cons (ps_if (PW.pt (pw_or (pt_not (pt_val (pe_callB call_isT (by rfl) T.isi bIsi (pa_cons (pv 0) (pa_cons (pe_bltn (v := .ty "tuple") (by rfl) B.tuple bTuple rfl) pa_nil))))) <|
        pw_or (pt_cmpR op_ne (pe_callB call_len_seq (by rfl) B.len PySem.boot_len (pa_cons (pv 0) pa_nil)) pe_int (nomark _)) <|
        pw_or1 (pt_not (pt_val (pe_callB (call_allB rfl) (by rfl) T.all bAll (pa_cons (pe_lc nIsB nIsB ["part"] (defScope sIsB) rfl rfl rfl (by decide +kernel) rfl rfl (by decide +kernel) (by decide +kernel) (by decide +kernel) (by decide +kernel)
          (pi_tup (pv 0)) (fun _ _ _ _ _ => pg_name (i := 2) ndIsB1 rfl (Or.inl rfl)) (fun _ _ _ _ _ => pts_nil) (fun _ _ _ _ _ => pe_callF (X := cxC _ _ _ _ _ _ _ _ _) Fr hr (pa_cons (pv 2) pa_nil))) pa_nil)))))) (pss_one (ps_ret pe_bl)) pss_nil) <|
      pss_cons (ps_if (PW.pt (pw_or (pt_cmpR op_lt (pe_callB call_len_seq (by rfl) B.len PySem.boot_len (pa_cons (pe_ix ix_tup (pv 0) pe_int (fun _ _ => rfl)) pa_nil)) pe_int (nomark _)) <|
        pw_or (pt_cmpR op_gt (pe_callB call_len_seq (by rfl) B.len PySem.boot_len (pa_cons (pe_ix ix_tup (pv 0) pe_int (fun _ _ => rfl)) pa_nil)) (pe_glob (v := .int 7) (by rfl) h7 ⟨t7, rfl⟩) (nomark _)) <|
        pw_or1 (pt_cmpR op_gt (pe_callB call_len_seq (by rfl) B.len PySem.boot_len (pa_cons (pe_ix ix_tup (pv 0) pe_int (fun _ _ => rfl)) pa_nil)) (pe_glob (v := .int 7) (by rfl) h7 ⟨t7, rfl⟩) (nomark _)))) (pss_one (ps_ret pe_bl)) pss_nil) <|
      pss_cons (ps_set (i := 1) nd rfl (Or.inr rfl) (pe_ifExp (pt_val (pe_callF Fj r1 (pa_cons (pv 0) pa_nil))) (pe_ix ix_tup (pv 0) pe_int (fun _ _ => rfl)) (pe_ix ix_tup (pv 0) pe_int (fun _ _ => rfl)))) <|
      pss_one <| ps_ret <| pe_and (pe_cmpR op_le (pe_callB call_len_seq (by rfl) B.len PySem.boot_len (pa_cons (pe_ix ix_tup (pv 0) pe_int (fun _ _ => rfl)) pa_nil)) (pe_glob (v := .int 4) (by rfl) h4 ⟨t4, rfl⟩) (nomark _))
        (pe_one (pe_not (pe_callB (call_anyB rfl) (by rfl) T.any bAny (pa_cons (pe_lc nIsB nIsB ["name"] (defScope sIsB) rfl rfl rfl (by decide +kernel) rfl rfl (by decide +kernel) (by decide +kernel) (by decide +kernel) (by decide +kernel)
          (pi_tup (pe_ix ix_tup (pv 0) pe_int (fun _ _ => rfl))) (fun _ _ _ _ _ => pg_name (i := 2) ndIsB2 rfl (Or.inl rfl)) (fun _ _ _ _ _ => pts_nil) (fun _ _ _ _ _ => pe_cmpR op_in_seqC (pv 2) (pv 1) (by rfl))) pa_nil)))), ?_⟩
    cases hB with
    | no hk ne => exact ⟨_, rfl, _, _, _, false, rfl, hk, kit_ntup hk ne, _, rfl, iteT (iteT (q H (Same.refl H)))⟩
    | @odd b ps hb hl n3 =>
      refine ⟨_, rfl, _, _, "tuple", true, rfl, Kd.tup (.inl hb), kit_self, _, rfl, iteF ?_⟩
      refine ⟨_, rfl, b, _, rfl, .inr (SqT.of hb), rfl, _, rfl, ?_⟩
      rw [show (!decide (V.int ((ps.length : Nat) : Int) = V.int 3)) = true by rw [decide_eq_false (fun e => by injection e with e; lia)]; rfl]
      exact iteT (iteT (q H (Same.refl H)))
    | @tri b p0 p1 p2 o0 o1 o2 hb hp0 hp1 hp2 =>
      refine ⟨_, rfl, _, _, "tuple", true, rfl, Kd.tup (.inl hb), kit_self, _, rfl, iteF ?_⟩
      refine ⟨_, rfl, b, _, rfl, .inr (SqT.of hb), rfl, _, rfl, iteNS rfl ?_⟩
      refine ⟨_, rfl, b, rfl, ⟨_, SqT.of hb⟩, ?_⟩
      refine lcMU (fun x => V.bl (riseB (ptO H x))) rfl hb (by show 3 ≤ 1000; decide) (fun D x ys H1 post hD hx sm hDD hpost => ?_) (fun D H1 hD sm eD => ?_)
      · simp only [List.mem_cons, List.not_mem_nil, or_false] at hx
        rcases hx with rfl | rfl | rfl
        · rw [hp0.eq] at hpost
          exact ⟨_, rfl, _, o0, rfl, hp0.same sm, fun H' s' => hpost H' s'⟩
        · rw [hp1.eq] at hpost
          exact ⟨_, rfl, _, o1, rfl, hp1.same sm, fun H' s' => hpost H' s'⟩
        · rw [hp2.eq] at hpost
          exact ⟨_, rfl, _, o2, rfl, hp2.same sm, fun H' s' => hpost H' s'⟩
      have e3 : [p0, p1, p2].map (fun x => V.bl (riseB (ptO H x))) = [riseB o0, riseB o1, riseB o2].map V.bl := by
        show [V.bl (riseB (ptO H p0)), V.bl (riseB (ptO H p1)), V.bl (riseB (ptO H p2))] = _
        rw [hp0.eq, hp1.eq, hp2.eq]
        rfl
      rw [e3] at eD
      refine ⟨D, _, rfl, SqL.of eD, ?_⟩
      rw [show [riseB o0, riseB o1, riseB o2].all id = ((riseB o0 && riseB o1) && riseB o2) by simp [Bool.and_assoc]]
      cases h3 : ((riseB o0 && riseB o1) && riseB o2) with
      | false =>
        rw [bn_not3 h3] at q
        exact ⟨_, rfl, iteT (q _ sm)⟩
      | true =>
        have hh := h3
        rw [Bool.and_eq_true, Bool.and_eq_true] at hh
        obtain ⟨v, vs, rfl, hv, rfl, vl, nv, av⟩ := rise_inv hp0 hh.1.1
        obtain ⟨c, cs, rfl, hc, rfl, cl, nc, ac⟩ := rise_inv hp1 hh.1.2
        obtain ⟨l, ls, rfl, hl, rfl, ll, nl, al⟩ := rise_inv hp2 hh.2
        rw [bn_fit h3] at q
        refine ⟨_, rfl, iteF ?_⟩
        refine ⟨_, rfl, b, _, _, _, rfl, rfl, SqT.of (sm _ _ hb), at0, v, _, rfl, .inr (SqT.of (sm _ _ hv)), _, _, rfl, rfl, _, rfl, ite2 (fun z => ?_) (fun z1 => ?_)⟩
        · have z := of_decide_eq_true z
          rw [List.length_map] at z
          rw [fit_no (.inl (by lia))] at q
          exact iteT (q _ sm)
        have z1 : ¬ (((vs.length : Nat) : Int) < 1) := fun y => z1 (decide_eq_true (by rw [List.length_map]; exact y))
        refine ⟨_, rfl, b, _, _, _, rfl, rfl, SqT.of (sm _ _ hb), at0, v, _, rfl, .inr (SqT.of (sm _ _ hv)), _, _, rfl, rfl, _, rfl, ite2 (fun z => ?_) (fun z2 => ?_)⟩
        · have z := of_decide_eq_true z
          rw [List.length_map] at z
          rw [fit_no (.inr (.inl (by lia)))] at q
          exact iteT (q _ sm)
        have z2 : ¬ ((7 : Int) < ((vs.length : Nat) : Int)) := fun y => z2 (decide_eq_true (by rw [List.length_map]; exact y))
        refine ⟨_, rfl, b, _, _, _, rfl, rfl, SqT.of (sm _ _ hb), at1, c, _, rfl, .inr (SqT.of (sm _ _ hc)), _, _, rfl, rfl, _, rfl, ite2 (fun z => ?_) (fun z3 => ?_)⟩
        · have z := of_decide_eq_true z
          rw [List.length_map] at z
          rw [fit_no (.inr (.inr (.inl (by lia))))] at q
          exact q _ sm
        have z3 : ¬ ((7 : Int) < ((cs.length : Nat) : Int)) := fun y => z3 (decide_eq_true (by rw [List.length_map]; exact y))
        refine ⟨_, rfl, b, v, c, l, cs, rfl, sm _ _ hb, sm _ _ hc, _, rfl, ?_⟩
        by_cases hcs : cs = []
        · have hsp : com vs cs ls = ls.any fun x => decide (x ∈ vs) := by unfold com; rw [if_pos hcs]
          rw [decide_eq_false (show ¬ 0 < cs.length by rw [hcs]; simp)]
          refine iteF ⟨_, rfl, b, _, _, _, rfl, rfl, SqT.of (sm _ _ hb), at0, ?_⟩
          refine ⟨_, rfl, b, _, _, _, rfl, rfl, SqT.of (sm _ _ hb), at2, l, _, rfl, .inr (SqT.of (sm _ _ hl)), _, _, rfl, rfl, ?_⟩
          refine ⟨_, rfl, ite2 (fun z4 => ?_) (fun z => ?_)⟩
          · have z4 := of_decide_eq_true z4
            rw [List.length_map] at z4
            rw [fit_yes (by lia) (by lia) (by lia) (by lia), hsp] at q
            refine ⟨_, rfl, b, _, _, _, rfl, rfl, SqT.of (sm _ _ hb), at2, l, rfl, ⟨_, SqT.of (sm _ _ hl)⟩, ?_⟩
            refine lcMU (fun x => V.bl (inV x (vs.map V.str))) rfl (sm _ _ hl) (by rw [List.length_map]; lia) (fun D2 x us H2 post hD2 hx s2 hDD2 hpost => ?_) (fun D2 H2 hD2 s2 e2 => ?_)
            · obtain ⟨z, hz, rfl⟩ := List.mem_map.mp hx
              refine ⟨_, rfl, _, rfl, v, _, rfl, .inr (SqT.of (s2 _ _ (sm _ _ hv))), rfl, flat_strs vs, ?_⟩
              exact hpost _ (Same.refl _)
            · rw [in_bls] at e2
              refine ⟨D2, _, rfl, SqL.of e2, ?_⟩
              rw [any_bls]
              exact ⟨_, rfl, q _ (sm.trans s2)⟩
          · have z4 : ¬ (((ls.length : Nat) : Int) ≤ 4) := fun y => z (decide_eq_true (by rw [List.length_map]; exact y))
            rw [fit_no (.inr (.inr (.inr (by lia))))] at q
            exact q _ sm
        · have hsp : com vs cs ls = ls.any fun x => decide (x ∈ cs) := by unfold com; rw [if_neg hcs]
          rw [decide_eq_true (show 0 < cs.length from List.length_pos_iff.mpr hcs)]
          refine iteT ⟨_, rfl, b, _, _, _, rfl, rfl, SqT.of (sm _ _ hb), at1, ?_⟩
          refine ⟨_, rfl, b, _, _, _, rfl, rfl, SqT.of (sm _ _ hb), at2, l, _, rfl, .inr (SqT.of (sm _ _ hl)), _, _, rfl, rfl, ?_⟩
          refine ⟨_, rfl, ite2 (fun z4 => ?_) (fun z => ?_)⟩
          · have z4 := of_decide_eq_true z4
            rw [List.length_map] at z4
            rw [fit_yes (by lia) (by lia) (by lia) (by lia), hsp] at q
            refine ⟨_, rfl, b, _, _, _, rfl, rfl, SqT.of (sm _ _ hb), at2, l, rfl, ⟨_, SqT.of (sm _ _ hl)⟩, ?_⟩
            refine lcMU (fun x => V.bl (inV x (cs.map V.str))) rfl (sm _ _ hl) (by rw [List.length_map]; lia) (fun D2 x us H2 post hD2 hx s2 hDD2 hpost => ?_) (fun D2 H2 hD2 s2 e2 => ?_)
            · obtain ⟨z, hz, rfl⟩ := List.mem_map.mp hx
              refine ⟨_, rfl, _, rfl, c, _, rfl, .inr (SqT.of (s2 _ _ (sm _ _ hc))), rfl, flat_strs cs, ?_⟩
              exact hpost _ (Same.refl _)
            · rw [in_bls] at e2
              refine ⟨D2, _, rfl, SqL.of e2, ?_⟩
              rw [any_bls]
              exact ⟨_, rfl, q _ (sm.trans s2)⟩
          · have z4 : ¬ (((ls.length : Nat) : Int) ≤ 4) := fun y => z (decide_eq_true (by rw [List.length_map]; exact y))
            rw [fit_no (.inr (.inr (.inr (by lia))))] at q
            exact q _ sm
end
end K31

set_option maxHeartbeats 8000000
namespace K31
open PySem L2
abbrev sWhole : Stmt := top 17
abbrev sFrom : Stmt := top 18
abbrev sWNum : Stmt := top 21
abbrev sPWork : Stmt := top 22
abbrev sAsk : Stmt := top 23
abbrev sPDeed : Stmt := top 30
abbrev sPEntry : Stmt := top 31
structure Bl3 (mg : Str → Option Value) : Prop where
  int : mg "int" = none
  bool : mg "bool" = none
  abs : mg "abs" = none
theorem bInt : bootBuiltins "int" = some (.type "int") := by decide +kernel
theorem bBool : bootBuiltins "bool" = some (.type "bool") := by decide +kernel
theorem at3 {α : Type} {a b c d : α} {r : List α} : atI (a :: b :: c :: d :: r) 3 = some d := atI_nat (j := 3) rfl
def wholeB : V → Bool
  | .int _ => true
  | _ => false
def fromB (l : Int) : V → Bool
  | .int i => decide (l ≤ i)
  | _ => false
/-- a number's bounds -/
def Nb (x : V) : Prop := ∀ i, x = .int i → -(10 ^ 60) < i ∧ i < 10 ^ 60
/-- the parts of a work that may be none -/
inductive WAt (H : Hp) : V → Option (List V) → Prop
  | no {x : V} {k : String} : Kd H x k → k ≠ "tuple" → WAt H x none
  | tup {a : Addr} {xs : List V} : H a = some (.tup xs) → xs.length ≤ 60 → (∀ x ∈ xs, Im H x ∧ Nb x) → WAt H (.ref a) (some xs)
theorem WAt.same {H H' : Hp} {x : V} {o : Option (List V)} (e : Same H H') (h : WAt H x o) : WAt H' x o := by
  cases h with
  | no h hk => exact .no (Kd.same e h) hk
  | tup h hl hi => exact .tup (e _ _ h) hl fun x hx => ⟨(hi x hx).1.same e, (hi x hx).2⟩
def wkB : Option (List V) → Bool
  | some [k, n] => nmB n && decide (k = .str "drop")
  | some [k, n, z] => nmB n && ((decide (k = .str "put") || decide (k = .str "add")) && wholeB z)
  | _ => false
/-- what is told of a deed -/
inductive DdV (H : Hp) : V → Bool → Prop
  | no {x : V} {k : String} : Kd H x k → k ≠ "tuple" → DdV H x false
  | nil {a : Addr} : H a = some (.tup []) → DdV H (.ref a) false
  | first {a : Addr} {r : List V} : H a = some (.tup (.str "first" :: r)) → r.length ≤ 60 → DdV H (.ref a) (decide (r.length = 0))
  | ask4 {a : Addr} {x1 x2 x3 : V} {o : Option (List V)} : H a = some (.tup [.str "ask", x1, x2, x3]) → Im H x1 → Im H x2 → WAt H x3 o → DdV H (.ref a) (nmB x1 && (fromB 1 x2 && wkB o))
  | askn {a : Addr} {r : List V} : H a = some (.tup (.str "ask" :: r)) → r.length ≤ 60 → r.length ≠ 3 → DdV H (.ref a) false
  | bench2 {a : Addr} {x1 : V} {o : Tr} : H a = some (.tup [.str "bench", x1]) → BnAt H x1 o → DdV H (.ref a) (bnB o)
  | benchn {a : Addr} {r : List V} : H a = some (.tup (.str "bench" :: r)) → r.length ≤ 60 → r.length ≠ 1 → DdV H (.ref a) false
  | odd {a : Addr} {k : V} {r : List V} : H a = some (.tup (k :: r)) → r.length ≤ 60 → Th1 H k → k ≠ .str "first" → k ≠ .str "ask" → k ≠ .str "bench" → DdV H (.ref a) false
theorem DdV.same {H H' : Hp} {x : V} {v : Bool} (e : Same H H') (h : DdV H x v) : DdV H' x v := by
  cases h with
  | no h hk => exact .no (Kd.same e h) hk
  | nil h => exact .nil (e _ _ h)
  | first h hl => exact .first (e _ _ h) hl
  | ask4 h h1 h2 h3 => exact .ask4 (e _ _ h) (h1.same e) (h2.same e) (h3.same e)
  | askn h hl hn => exact .askn (e _ _ h) hl hn
  | bench2 h h1 => exact .bench2 (e _ _ h) (h1.same e)
  | benchn h hl hn => exact .benchn (e _ _ h) hl hn
  | odd h hl h1 h2 h3 h4 => exact .odd (e _ _ h) hl (h1.same e) h2 h3 h4
/-- what is told of an entry -/
inductive EnV (H : Hp) : V → Bool → Prop
  | no {x : V} {k : String} : Kd H x k → k ≠ "tuple" → EnV H x false
  | len {a : Addr} {xs : List V} : H a = some (.tup xs) → xs.length ≤ 60 → xs.length ≠ 2 → EnV H (.ref a) false
  | two {a : Addr} {t d : V} {v : Bool} : H a = some (.tup [t, d]) → Im H t → DdV H d v → EnV H (.ref a) (fromB 1 t && v)
theorem EnV.same {H H' : Hp} {x : V} {v : Bool} (e : Same H H') (h : EnV H x v) : EnV H' x v := by
  cases h with
  | no h hk => exact .no (Kd.same e h) hk
  | len h hl hn => exact .len (e _ _ h) hl hn
  | two h h1 h2 => exact .two (e _ _ h) (h1.same e) (h2.same e)
def spWhole : Sp := fun us H Q _ => ∃ x : V, us = [x] ∧ Im H x ∧ Q (.bl (wholeB x)) H
def spFrom : Sp := fun us H Q _ => ∃ (x : V) (l : Int), us = [x, .int l] ∧ Im H x ∧ Q (.bl (fromB l x)) H
def spWNum : Sp := fun us H Q _ => ∃ x : V, us = [x] ∧ Im H x ∧ Nb x ∧ Q (.bl (wholeB x)) H
def spPWork : Sp := fun us H Q _ => ∃ (x : V) (o : Option (List V)), us = [x] ∧ WAt H x o ∧ ∀ H', Same H H' → Q (.bl (wkB o)) H'
def spAsk : Sp := fun us H Q _ => ∃ (x1 x2 x3 : V) (o : Option (List V)), us = [x1, x2, x3] ∧ Im H x1 ∧ Im H x2 ∧ WAt H x3 o ∧ ∀ H', Same H H' → Q (.bl (nmB x1 && (fromB 1 x2 && wkB o))) H'
def spPDeed : Sp := fun us H Q _ => ∃ (x : V) (v : Bool), us = [x] ∧ DdV H x v ∧ ∀ H', Same H H' → Q (.bl v) H'
def spPEntry : Sp := fun us H Q _ => ∃ (x : V) (v : Bool), us = [x] ∧ EnV H x v ∧ ∀ H', Same H H' → Q (.bl v) H'
theorem wk_short {xs : List V} (h : xs.length < 2) : wkB (some xs) = false := by
  match xs, h with
  | [], _ => rfl
  | [_], _ => rfl
theorem wk_noname {k n : V} {r : List V} (h : nmB n = false) : wkB (some (k :: n :: r)) = false := by
  match r with
  | [] => show (nmB n && _) = false; rw [h]; rfl
  | [z] => show (nmB n && _) = false; rw [h]; rfl
  | _ :: _ :: _ => rfl
theorem wk_drop {n : V} {r : List V} (h : nmB n = true) : wkB (some (.str "drop" :: n :: r)) = decide (r.length = 0) := by
  match r with
  | [] => show (nmB n && decide (V.str "drop" = .str "drop")) = _; rw [h, decide_eq_true rfl]; rfl
  | [z] =>
    show (nmB n && ((decide (V.str "drop" = .str "put") || decide (V.str "drop" = .str "add")) && wholeB z)) = _
    rw [show decide (V.str "drop" = .str "put") = false by decide +kernel, show decide (V.str "drop" = .str "add") = false by decide +kernel, h]
    rfl
  | _ :: _ :: _ => rfl
theorem wk_else {k n : V} {r : List V} (h : nmB n = true) (hk : ¬ k = .str "drop") : wkB (some (k :: n :: r)) = ((decide (k = .str "put") || decide (k = .str "add")) && (decide (r.length = 1) && wholeB (r.getD 0 .non))) := by
  match r with
  | [] => show (nmB n && decide (k = .str "drop")) = _; rw [decide_eq_false hk, Bool.and_false]; simp
  | [z] =>
    show (nmB n && ((decide (k = .str "put") || decide (k = .str "add")) && wholeB z)) = _
    rw [h]
    rfl
  | _ :: _ :: r => show false = _; simp
theorem lenI (xs : List V) (n : Nat) : decide (V.int ((xs.length : Nat) : Int) = V.int (n : Int)) = decide (xs.length = n) := by
  rw [Bool.eq_iff_iff, decide_eq_true_iff, decide_eq_true_iff, V.int.injEq]
  lia
section
variable {P : Program} {w : World} {K : PySem.W.Frag} {mg : Str → Option Value} {base : Heap}
theorem scWhole : FnScope ["thing"] ["thing"] (defScope sWhole) := ⟨rfl, rfl, rfl, by decide +kernel, rfl, by decide +kernel, by decide +kernel⟩
theorem ok_whole {f : Addr} {fd : FuncData} (F : Fun K "is_whole" "is_whole" sWhole f fd) (T : Bl2 mg) (U : Bl3 mg) : FnOk P w K mg base CX0 1 f fd ["thing"] spWhole := by
  refine F.ok scWhole (fun vs H Q E h => ?_) (fun cdv A outer s H vs Q E hr h => ?_)
  · obtain ⟨x, rfl, _⟩ := h
    rfl
  · obtain ⟨x, rfl, hI, q⟩ := h
    refine ⟨_, pss_one <| ps_ret <| pe_and (pe_callB call_isT (by rfl) T.isi bIsi (pa_cons (pv 0) (pa_cons (pe_bltn (v := .ty "int") (by rfl) U.int bInt rfl) pa_nil))) (pe_one (pe_not (pe_callB call_isT (by rfl) T.isi bIsi (pa_cons (pv 0) (pa_cons (pe_bltn (v := .ty "bool") (by rfl) U.bool bBool rfl) pa_nil))))), ?_⟩
    obtain ⟨k, hk⟩ := hI.1.kd
    refine ⟨_, rfl, _, _, _, _, rfl, hk, kit_int hk, _, rfl, ?_⟩
    have rest : isIntV x = true → ∃ k b, Kd H x k ∧ PySem.W.kitOne K (.type k) (.type "bool") = some b ∧ b = isBlV x := fun _ => ⟨k, _, hk, kit_bl hk, rfl⟩
    cases x with
    | int i => exact iteT ⟨_, rfl, _, _, _, _, rfl, hk, kit_bl hk, _, rfl, q⟩
    | bl b => exact iteT ⟨_, rfl, _, _, _, _, rfl, hk, kit_bl hk, _, rfl, q⟩
    | _ => exact iteF q
theorem scFrom : FnScope ["thing", "least"] ["thing", "least"] (defScope sFrom) := ⟨rfl, rfl, rfl, by decide +kernel, rfl, by decide +kernel, by decide +kernel⟩
theorem ok_from {f : Addr} {fd : FuncData} (F : Fun K "is_whole_from" "is_whole_from" sFrom f fd) (Fw : FnAt P w K mg base 1 "is_whole" ["thing"] spWhole) : FnOk P w K mg base CX0 2 f fd ["thing", "least"] spFrom := by
  refine F.ok scFrom (fun vs H Q E h => ?_) (fun cdv A outer s H vs Q E hr h => ?_)
  · obtain ⟨x, l, rfl, _⟩ := h
    rfl
  · obtain ⟨x, l, rfl, hI, q⟩ := h
    refine ⟨_, pss_one <| ps_ret <| pe_and (pe_callF Fw hr (pa_cons (pv 0) pa_nil)) (pe_one (pe_cmpR op_ge (pv 0) (pv 1) (nomark _))), ?_⟩
    refine ⟨_, rfl, x, rfl, hI, _, rfl, ?_⟩
    cases x with
    | int i => exact iteT ⟨_, rfl, _, rfl, _, _, rfl, rfl, q⟩
    | _ => exact iteF q
theorem scWNum : FnScope ["thing"] ["thing"] (defScope sWNum) := ⟨rfl, rfl, rfl, by decide +kernel, rfl, by decide +kernel, by decide +kernel⟩
theorem ok_wnum {f : Addr} {fd : FuncData} (F : Fun K "is_work_number" "is_work_number" sWNum f fd) (U : Bl3 mg) (Fw : FnAt P w K mg base 1 "is_whole" ["thing"] spWhole) : FnOk P w K mg base CX0 2 f fd ["thing"] spWNum := by
  refine F.ok scWNum (fun vs H Q E h => ?_) (fun cdv A outer s H vs Q E hr h => ?_)
  · obtain ⟨x, rfl, _⟩ := h
    rfl
  · obtain ⟨x, rfl, hI, hb, q⟩ := h
    refine ⟨_, pss_one <| ps_ret <| pe_and (pe_callF Fw hr (pa_cons (pv 0) pa_nil)) (pe_one (pe_cmpR op_lt (pe_callB call_abs (by rfl) U.abs bAbs (pa_cons (pv 0) pa_nil)) (pe_op op_pow pe_int pe_int) (nomark _))), ?_⟩
    refine ⟨_, rfl, x, rfl, hI, _, rfl, ?_⟩
    cases x with
    | int i =>
      refine iteT ⟨_, rfl, i, rfl, _, _, rfl, rfl, ⟨by decide, by decide, by decide⟩, _, _, rfl, rfl, ?_⟩
      obtain ⟨h1, h2⟩ := hb i rfl
      have this : decide ((if i < 0 then -i else i) < (10 : Int) ^ 60) = true := by
        refine decide_eq_true ?_
        split <;> lia
      show Q (.bl (decide ((if i < 0 then -i else i) < (10 : Int) ^ 60))) H
      rw [this]
      exact q
    | _ => exact iteF q
theorem scPWork : FnScope ["thing"] ["thing"] (defScope sPWork) := ⟨rfl, rfl, rfl, by decide +kernel, rfl, by decide +kernel, by decide +kernel⟩
theorem ok_pwork {f : Addr} {fd : FuncData} (F : Fun K "is_work" "is_work" sPWork f fd) (B : Blt mg) (T : Bl2 mg) (Fn : FnAt P w K mg base 1 "is_name" ["thing"] spNm) (Fw : FnAt P w K mg base 2 "is_work_number" ["thing"] spWNum) : FnOk P w K mg base CX0 3 f fd ["thing"] spPWork := by
  refine F.ok scPWork (fun vs H Q E h => ?_) (fun cdv A outer s H vs Q E hr h => ?_)
  · obtain ⟨x, o, rfl, _⟩ := h
    rfl
  · obtain ⟨x, o, rfl, hW, q⟩ := h
    have hu := hu_of hr
    have r1 : Room 1 _ := hr.mono (by decide)
    refine ⟨_, pss_cons (ps_if (PW.pt (pw_or (pt_not (pt_val (pe_callB call_isT (by rfl) T.isi bIsi (pa_cons (pv 0) (pa_cons (pe_bltn (v := .ty "tuple") (by rfl) B.tuple bTuple rfl) pa_nil))))) <|
        pw_or (pt_cmpR op_lt (pe_callB call_len_seq (by rfl) B.len PySem.boot_len (pa_cons (pv 0) pa_nil)) pe_int (nomark _)) <|
        pw_or1 (pt_not (pt_val (pe_callF Fn r1 (pa_cons (pe_ix ix_tup (pv 0) pe_int (fun _ _ => rfl)) pa_nil)))))) (pss_one (ps_ret pe_bl)) pss_nil) <|
      pss_cons (ps_if (pt_cmpR (op_eqTS hu) (pe_ix ix_tup (pv 0) pe_int (fun _ _ => rfl)) pe_str (nomark _)) (pss_one (ps_ret (pe_cmpR op_eq (pe_callB call_len_seq (by rfl) B.len PySem.boot_len (pa_cons (pv 0) pa_nil)) pe_int (nomark _)))) pss_nil) <|
      pss_one <| ps_ret <| pe_and (pe_cmpR (op_inTS hu) (pe_ix ix_tup (pv 0) pe_int (fun _ _ => rfl)) (pe_tupA (pa_cons pe_str (pa_cons pe_str pa_nil))) (by rfl)) <|
        pe_and (pe_cmpR op_eq (pe_callB call_len_seq (by rfl) B.len PySem.boot_len (pa_cons (pv 0) pa_nil)) pe_int (nomark _)) <|
        pe_one (pe_callF Fw hr (pa_cons (pe_ix ix_tup (pv 0) pe_int (fun _ _ => rfl)) pa_nil)), ?_⟩
    cases hW with
    | no hk ne => exact ⟨_, rfl, _, _, _, false, rfl, hk, kit_ntup hk ne, _, rfl, iteT (iteT (q H (Same.refl H)))⟩
    | @tup t xs ht hl hi =>
      refine ⟨_, rfl, _, _, "tuple", true, rfl, Kd.tup (.inl ht), kit_self, _, rfl, iteF ?_⟩
      refine ⟨_, rfl, t, _, rfl, .inr (SqT.of ht), _, _, rfl, rfl, _, rfl, ite2 (fun z => ?_) (fun z => ?_)⟩
      · have z := of_decide_eq_true z
        rw [wk_short (by lia)] at q
        exact iteT (q H (Same.refl H))
      have z : ¬ (((xs.length : Nat) : Int) < 2) := fun y => z (decide_eq_true y)
      obtain ⟨k, n, r, rfl⟩ : ∃ k n r, xs = k :: n :: r := by
        match xs, z with
        | [], z => exact absurd (show ((0 : Nat) : Int) < 2 by decide) z
        | [_], z => exact absurd (show ((1 : Nat) : Int) < 2 by decide) z
        | k :: n :: r, _ => exact ⟨k, n, r, rfl⟩
      have hk := hi k (by simp)
      have hn := hi n (by simp)
      refine ⟨_, rfl, t, _, _, _, rfl, rfl, SqT.of ht, at1, n, rfl, hn.1, fun H1 s1 => ⟨_, rfl, ?_⟩⟩
      have ht1 := s1 _ _ ht
      cases en : nmB n with
      | false =>
        rw [wk_noname en] at q
        exact iteT (q H1 s1)
      | true =>
        refine iteF ?_
        refine ⟨_, rfl, t, _, _, _, rfl, rfl, SqT.of ht1, at0, _, rfl, hk.1.1.same s1, _, rfl, ?_⟩
        by_cases hd : k = .str "drop"
        · subst hd
          rw [decide_eq_true rfl, wk_drop en] at *
          refine iteT ⟨_, rfl, t, _, rfl, .inr (SqT.of ht1), rfl, ?_⟩
          rw [show decide (V.int (((V.str "drop" :: n :: r).length : Nat) : Int) = V.int 2) = decide (r.length = 0) by rw [show (2 : Int) = ((2 : Nat) : Int) from rfl, lenI]; simp]
          exact q H1 s1
        · rw [decide_eq_false hd]
          rw [wk_else en hd] at q
          refine iteF ⟨_, rfl, t, _, _, _, rfl, rfl, SqT.of ht1, at0, (by show 2 ≤ sizeLine; decide), fun p H2 _ s2 ep => ?_⟩
          refine ⟨p, ["put", "add"], rfl, SqT.of ep, (hk.1.1.same s1).same s2, _, rfl, ?_⟩
          have e2 : ([("put" : Str), "add"].any fun z => decide (k = .str z)) = (decide (k = .str "put") || decide (k = .str "add")) := by simp
          rw [e2]
          have s12 := s1.trans s2
          cases ek : (decide (k = .str "put") || decide (k = .str "add")) with
          | false =>
            rw [ek] at q
            exact iteF (q H2 s12)
          | true =>
            rw [ek] at q
            refine iteT ⟨_, rfl, t, _, rfl, .inr (SqT.of (s2 _ _ ht1)), rfl, ?_⟩
            rw [show decide (V.int (((k :: n :: r).length : Nat) : Int) = V.int 3) = decide (r.length = 1) by rw [show (3 : Int) = ((3 : Nat) : Int) from rfl, lenI]; simp]
            refine ⟨_, rfl, ?_⟩
            by_cases hr1 : r.length = 1
            · rw [decide_eq_true hr1] at q ⊢
              obtain ⟨z', rfl⟩ : ∃ z', r = [z'] := by
                match r, hr1 with
                | [z'], _ => exact ⟨z', rfl⟩
              have hz := hi z' (by simp)
              refine iteT ⟨_, rfl, t, _, _, _, rfl, rfl, SqT.of (s2 _ _ ht1), at2, z', rfl, hz.1.same s12, hz.2, ?_⟩
              exact q H2 s12
            · rw [decide_eq_false hr1] at q ⊢
              exact iteF (q H2 s12)
theorem scAsk : FnScope ["asker", "number", "work"] ["asker", "number", "work"] (defScope sAsk) := ⟨rfl, rfl, rfl, by decide +kernel, rfl, by decide +kernel, by decide +kernel⟩
theorem ok_ask {f : Addr} {fd : FuncData} (F : Fun K "is_ask" "is_ask" sAsk f fd) (Fn : FnAt P w K mg base 1 "is_name" ["thing"] spNm) (Ff : FnAt P w K mg base 2 "is_whole_from" ["thing", "least"] spFrom) (Fw : FnAt P w K mg base 3 "is_work" ["thing"] spPWork) : FnOk P w K mg base CX0 4 f fd ["asker", "number", "work"] spAsk := by
  refine F.ok scAsk (fun vs H Q E h => ?_) (fun cdv A outer s H vs Q E hr h => ?_)
  · obtain ⟨x1, x2, x3, o, rfl, _⟩ := h
    rfl
  · obtain ⟨x1, x2, x3, o, rfl, h1, h2, h3, q⟩ := h
    have r1 : Room 1 _ := hr.mono (by decide)
    have r2 : Room 2 _ := hr.mono (by decide)
    refine ⟨_, pss_one <| ps_ret <| pe_and (pe_callF Fn r1 (pa_cons (pv 0) pa_nil)) (pe_and (pe_callF Ff r2 (pa_cons (pv 1) (pa_cons pe_int pa_nil))) (pe_one (pe_callF Fw hr (pa_cons (pv 2) pa_nil)))), ?_⟩
    refine ⟨_, rfl, x1, rfl, h1, fun H1 s1 => ⟨_, rfl, ?_⟩⟩
    cases e1 : nmB x1 with
    | false =>
      rw [e1] at q
      exact iteF (q H1 s1)
    | true =>
      rw [e1] at q
      refine iteT ⟨_, rfl, x2, 1, rfl, h2.same s1, _, rfl, ?_⟩
      cases e2 : fromB 1 x2 with
      | false =>
        rw [e2] at q
        exact iteF (q H1 s1)
      | true =>
        rw [e2] at q
        exact iteT ⟨_, rfl, x3, o, rfl, h3.same s1, fun H2 s2 => q H2 (s1.trans s2)⟩
theorem scPDeed : FnScope ["thing"] ["thing"] (defScope sPDeed) := ⟨rfl, rfl, rfl, by decide +kernel, rfl, by decide +kernel, by decide +kernel⟩
theorem ok_pdeed {f : Addr} {fd : FuncData} (F : Fun K "is_deed" "is_deed" sPDeed f fd) (B : Blt mg) (T : Bl2 mg) (Fa : FnAt P w K mg base 4 "is_ask" ["asker", "number", "work"] spAsk) (Fb : FnAt P w K mg base 3 "is_bench" ["thing"] spIsB) : FnOk P w K mg base CX0 5 f fd ["thing"] spPDeed := by
  refine F.ok scPDeed (fun vs H Q E h => ?_) (fun cdv A outer s H vs Q E hr h => ?_)
  · obtain ⟨x, v, rfl, _⟩ := h
    rfl
  · obtain ⟨x, v, rfl, hV, q⟩ := h
    have hu := hu_of hr
    have r3 : Room 3 _ := hr.mono (by decide)
    refine ⟨_, pss_cons (ps_if (PW.pt (pw_or (pt_not (pt_val (pe_callB call_isT (by rfl) T.isi bIsi (pa_cons (pv 0) (pa_cons (pe_bltn (v := .ty "tuple") (by rfl) B.tuple bTuple rfl) pa_nil))))) <|
        pw_or1 (pt_cmpR op_eq (pe_callB call_len_seq (by rfl) B.len PySem.boot_len (pa_cons (pv 0) pa_nil)) pe_int (nomark _)))) (pss_one (ps_ret pe_bl)) pss_nil) <|
      pss_cons (ps_if (pt_cmpR (op_eqTS hu) (pe_ix ix_tup (pv 0) pe_int (fun _ _ => rfl)) pe_str (nomark _)) (pss_one (ps_ret (pe_cmpR op_eq (pe_callB call_len_seq (by rfl) B.len PySem.boot_len (pa_cons (pv 0) pa_nil)) pe_int (nomark _)))) pss_nil) <|
      pss_cons (ps_if (pt_cmpR (op_eqTS hu) (pe_ix ix_tup (pv 0) pe_int (fun _ _ => rfl)) pe_str (nomark _)) (pss_one (ps_ret (pe_and (pe_cmpR op_eq (pe_callB call_len_seq (by rfl) B.len PySem.boot_len (pa_cons (pv 0) pa_nil)) pe_int (nomark _)) (pe_one (pe_callF Fa hr (pa_cons (pe_ix ix_tup (pv 0) pe_int (fun _ _ => rfl)) (pa_cons (pe_ix ix_tup (pv 0) pe_int (fun _ _ => rfl)) (pa_cons (pe_ix ix_tup (pv 0) pe_int (fun _ _ => rfl)) pa_nil)))))))) pss_nil) <|
      pss_one <| ps_ret <| pe_and (pe_cmpR (op_eqTS hu) (pe_ix ix_tup (pv 0) pe_int (fun _ _ => rfl)) pe_str (nomark _)) <|
        pe_and (pe_cmpR op_eq (pe_callB call_len_seq (by rfl) B.len PySem.boot_len (pa_cons (pv 0) pa_nil)) pe_int (nomark _)) <|
        pe_one (pe_callF Fb r3 (pa_cons (pe_ix ix_tup (pv 0) pe_int (fun _ _ => rfl)) pa_nil)), ?_⟩
    have l0 : ∀ (k : V) (r : List V), decide (V.int (((k :: r).length : Nat) : Int) = V.int 0) = false := fun k r => by
      rw [show (0 : Int) = ((0 : Nat) : Int) from rfl, lenI]
      simp
    have ln : ∀ (k : V) (r : List V) (n : Nat), decide (V.int (((k :: r).length : Nat) : Int) = V.int (((n + 1 : Nat)) : Int)) = decide (r.length = n) := fun k r n => by
      rw [lenI]
      simp
    cases hV with
    | no hk ne => exact ⟨_, rfl, _, _, _, false, rfl, hk, kit_ntup hk ne, _, rfl, iteT (iteT (q H (Same.refl H)))⟩
    | @nil t ht =>
      refine ⟨_, rfl, _, _, "tuple", true, rfl, Kd.tup (.inl ht), kit_self, _, rfl, iteF ?_⟩
      exact ⟨_, rfl, t, _, rfl, .inr (SqT.of ht), rfl, _, rfl, iteT (q H (Same.refl H))⟩
    | @first t r ht hl =>
      refine ⟨_, rfl, _, _, "tuple", true, rfl, Kd.tup (.inl ht), kit_self, _, rfl, iteF ?_⟩
      refine ⟨_, rfl, t, _, rfl, .inr (SqT.of ht), rfl, _, rfl, ?_⟩
      rw [l0]
      refine iteF ⟨_, rfl, t, _, _, _, rfl, rfl, SqT.of ht, at0, _, rfl, .inl rfl, _, rfl, ?_⟩
      rw [decide_eq_true rfl]
      refine iteT ⟨_, rfl, t, _, rfl, .inr (SqT.of ht), rfl, ?_⟩
      rw [show decide (V.int (((V.str "first" :: r).length : Nat) : Int) = V.int 1) = decide (r.length = 0) from ln _ r 0]
      exact q H (Same.refl H)
    | @ask4 t x1 x2 x3 o ht h1 h2 h3 =>
      refine ⟨_, rfl, _, _, "tuple", true, rfl, Kd.tup (.inl ht), kit_self, _, rfl, iteF ?_⟩
      refine ⟨_, rfl, t, _, rfl, .inr (SqT.of ht), rfl, _, rfl, ?_⟩
      rw [l0]
      refine iteF ⟨_, rfl, t, _, _, _, rfl, rfl, SqT.of ht, at0, _, rfl, .inl rfl, _, rfl, ?_⟩
      rw [show decide (V.str "ask" = V.str "first") = false by decide +kernel]
      refine iteF ⟨_, rfl, t, _, _, _, rfl, rfl, SqT.of ht, at0, _, rfl, .inl rfl, _, rfl, ?_⟩
      rw [decide_eq_true rfl]
      refine iteT ⟨_, rfl, t, _, rfl, .inr (SqT.of ht), rfl, _, rfl, ?_⟩
      rw [show decide (V.int ((([V.str "ask", x1, x2, x3] : List V).length : Nat) : Int) = V.int 4) = true from decide_eq_true rfl]
      refine iteT ⟨_, rfl, t, _, _, _, rfl, rfl, SqT.of ht, at1, _, rfl, t, _, _, _, rfl, rfl, SqT.of ht, at2, _, rfl, t, _, _, _, rfl, rfl, SqT.of ht, at3, x1, x2, x3, o, rfl, h1, h2, h3, fun H' s' => q H' s'⟩
    | @askn t r ht hl hn =>
      refine ⟨_, rfl, _, _, "tuple", true, rfl, Kd.tup (.inl ht), kit_self, _, rfl, iteF ?_⟩
      refine ⟨_, rfl, t, _, rfl, .inr (SqT.of ht), rfl, _, rfl, ?_⟩
      rw [l0]
      refine iteF ⟨_, rfl, t, _, _, _, rfl, rfl, SqT.of ht, at0, _, rfl, .inl rfl, _, rfl, ?_⟩
      rw [show decide (V.str "ask" = V.str "first") = false by decide +kernel]
      refine iteF ⟨_, rfl, t, _, _, _, rfl, rfl, SqT.of ht, at0, _, rfl, .inl rfl, _, rfl, ?_⟩
      rw [decide_eq_true rfl]
      refine iteT ⟨_, rfl, t, _, rfl, .inr (SqT.of ht), rfl, _, rfl, ?_⟩
      rw [show decide (V.int (((V.str "ask" :: r).length : Nat) : Int) = V.int 4) = decide (r.length = 3) from ln _ r 3, decide_eq_false hn]
      exact iteF (q H (Same.refl H))
    | @bench2 t x1 o ht h1 =>
      refine ⟨_, rfl, _, _, "tuple", true, rfl, Kd.tup (.inl ht), kit_self, _, rfl, iteF ?_⟩
      refine ⟨_, rfl, t, _, rfl, .inr (SqT.of ht), rfl, _, rfl, ?_⟩
      rw [l0]
      refine iteF ⟨_, rfl, t, _, _, _, rfl, rfl, SqT.of ht, at0, _, rfl, .inl rfl, _, rfl, ?_⟩
      rw [show decide (V.str "bench" = V.str "first") = false by decide +kernel]
      refine iteF ⟨_, rfl, t, _, _, _, rfl, rfl, SqT.of ht, at0, _, rfl, .inl rfl, _, rfl, ?_⟩
      rw [show decide (V.str "bench" = V.str "ask") = false by decide +kernel]
      refine iteF ⟨_, rfl, t, _, _, _, rfl, rfl, SqT.of ht, at0, _, rfl, .inl rfl, _, rfl, ?_⟩
      rw [decide_eq_true rfl]
      refine iteT ⟨_, rfl, t, _, rfl, .inr (SqT.of ht), rfl, _, rfl, ?_⟩
      rw [show decide (V.int ((([V.str "bench", x1] : List V).length : Nat) : Int) = V.int 2) = true from decide_eq_true rfl]
      exact iteT ⟨_, rfl, t, _, _, _, rfl, rfl, SqT.of ht, at1, x1, o, rfl, h1, fun H' s' => q H' s'⟩
    | @benchn t r ht hl hn =>
      refine ⟨_, rfl, _, _, "tuple", true, rfl, Kd.tup (.inl ht), kit_self, _, rfl, iteF ?_⟩
      refine ⟨_, rfl, t, _, rfl, .inr (SqT.of ht), rfl, _, rfl, ?_⟩
      rw [l0]
      refine iteF ⟨_, rfl, t, _, _, _, rfl, rfl, SqT.of ht, at0, _, rfl, .inl rfl, _, rfl, ?_⟩
      rw [show decide (V.str "bench" = V.str "first") = false by decide +kernel]
      refine iteF ⟨_, rfl, t, _, _, _, rfl, rfl, SqT.of ht, at0, _, rfl, .inl rfl, _, rfl, ?_⟩
      rw [show decide (V.str "bench" = V.str "ask") = false by decide +kernel]
      refine iteF ⟨_, rfl, t, _, _, _, rfl, rfl, SqT.of ht, at0, _, rfl, .inl rfl, _, rfl, ?_⟩
      rw [decide_eq_true rfl]
      refine iteT ⟨_, rfl, t, _, rfl, .inr (SqT.of ht), rfl, _, rfl, ?_⟩
      rw [show decide (V.int (((V.str "bench" :: r).length : Nat) : Int) = V.int 2) = decide (r.length = 1) from ln _ r 1, decide_eq_false hn]
      exact iteF (q H (Same.refl H))
    | @odd t k r ht hl hk n1 n2 n3 =>
      refine ⟨_, rfl, _, _, "tuple", true, rfl, Kd.tup (.inl ht), kit_self, _, rfl, iteF ?_⟩
      refine ⟨_, rfl, t, _, rfl, .inr (SqT.of ht), rfl, _, rfl, ?_⟩
      rw [l0]
      refine iteF ⟨_, rfl, t, _, _, _, rfl, rfl, SqT.of ht, at0, _, rfl, hk, _, rfl, ?_⟩
      rw [decide_eq_false n1]
      refine iteF ⟨_, rfl, t, _, _, _, rfl, rfl, SqT.of ht, at0, _, rfl, hk, _, rfl, ?_⟩
      rw [decide_eq_false n2]
      refine iteF ⟨_, rfl, t, _, _, _, rfl, rfl, SqT.of ht, at0, _, rfl, hk, _, rfl, ?_⟩
      rw [decide_eq_false n3]
      exact iteF (q H (Same.refl H))
theorem scPEntry : FnScope ["thing"] ["thing"] (defScope sPEntry) := ⟨rfl, rfl, rfl, by decide +kernel, rfl, by decide +kernel, by decide +kernel⟩
theorem ok_pentry {f : Addr} {fd : FuncData} (F : Fun K "is_entry" "is_entry" sPEntry f fd) (B : Blt mg) (T : Bl2 mg) (Ff : FnAt P w K mg base 2 "is_whole_from" ["thing", "least"] spFrom) (Fd : FnAt P w K mg base 5 "is_deed" ["thing"] spPDeed) : FnOk P w K mg base CX0 6 f fd ["thing"] spPEntry := by
  refine F.ok scPEntry (fun vs H Q E h => ?_) (fun cdv A outer s H vs Q E hr h => ?_)
  · obtain ⟨x, v, rfl, _⟩ := h
    rfl
  · obtain ⟨x, v, rfl, hV, q⟩ := h
    have r2 : Room 2 _ := hr.mono (by decide)
    refine ⟨_, pss_one <| ps_ret <| pe_and (pe_callB call_isT (by rfl) T.isi bIsi (pa_cons (pv 0) (pa_cons (pe_bltn (v := .ty "tuple") (by rfl) B.tuple bTuple rfl) pa_nil))) <|
        pe_and (pe_cmpR op_eq (pe_callB call_len_seq (by rfl) B.len PySem.boot_len (pa_cons (pv 0) pa_nil)) pe_int (nomark _)) <|
        pe_and (pe_callF Ff r2 (pa_cons (pe_ix ix_tup (pv 0) pe_int (fun _ _ => rfl)) (pa_cons pe_int pa_nil))) <|
        pe_one (pe_callF Fd hr (pa_cons (pe_ix ix_tup (pv 0) pe_int (fun _ _ => rfl)) pa_nil)), ?_⟩
    cases hV with
    | no hk ne => exact ⟨_, rfl, _, _, _, false, rfl, hk, kit_ntup hk ne, _, rfl, iteF (q H (Same.refl H))⟩
    | @len a xs ha hl hn =>
      refine ⟨_, rfl, _, _, "tuple", true, rfl, Kd.tup (.inl ha), kit_self, _, rfl, iteT ?_⟩
      refine ⟨_, rfl, a, _, rfl, .inr (SqT.of ha), rfl, _, rfl, ?_⟩
      rw [show decide (V.int ((xs.length : Nat) : Int) = V.int 2) = false by rw [show (2 : Int) = ((2 : Nat) : Int) from rfl, lenI]; exact decide_eq_false hn]
      exact iteF (q H (Same.refl H))
    | @two a t d v ha ht hd =>
      refine ⟨_, rfl, _, _, "tuple", true, rfl, Kd.tup (.inl ha), kit_self, _, rfl, iteT ?_⟩
      refine ⟨_, rfl, a, _, rfl, .inr (SqT.of ha), rfl, _, rfl, ?_⟩
      rw [show decide (V.int ((([t, d] : List V).length : Nat) : Int) = V.int 2) = true from decide_eq_true rfl]
      refine iteT ⟨_, rfl, a, _, _, _, rfl, rfl, SqT.of ha, at0, t, 1, rfl, ht, _, rfl, ?_⟩
      cases e1 : fromB 1 t with
      | false =>
        rw [e1] at q
        exact iteF (q H (Same.refl H))
      | true =>
        rw [e1] at q
        exact iteT ⟨_, rfl, a, _, _, _, rfl, rfl, SqT.of ha, at1, d, v, rfl, hd, fun H' s' => q H' s'⟩
end
end K31

set_option maxHeartbeats 8000000
namespace K31
open PySem L2
abbrev sPart : Stmt := top 35
abbrev sLet : Stmt := top 36
abbrev sChk : Stmt := top 37
/-- a tuple of texts of the module -/
def KT (K : PySem.W.Frag) (t : Addr) (ss : List Str) : Prop := ∃ (o : Obj) (its : Array Value) (n : Nat), K.lookup t = some o ∧ o.cls = .type "tuple" ∧ o.data = .seq its n ∧ its.size ≤ sizeLine ∧ Vals (ss.map V.str) its.toList
theorem KT.sq {K : PySem.W.Frag} {t : Addr} {ss : List Str} {H : Hp} (h : KT K t ss) : SqT K H t (ss.map V.str) := .inr h
abbrev table : List (Str × List Str) := [("look", ["whole", "whole"]), ("saw", ["truth", "whole"]), ("vote", ["whole", "whole"]), ("gave", ["truth"]), ("rows", ["whole", "whole", "entries", "whole", "whole"]), ("took", ["truth", "whole", "whole"]), ("piece", ["whole", "whole", "whole", "whole", "text", "whole"]), ("got", ["whole", "whole", "whole"])]
inductive Tab (K : PySem.W.Frag) : List (Str × List Str) → List (Str × Addr) → Prop
  | nil : Tab K [] []
  | cons {k : Str} {t : Addr} {ss : List Str} {r : List (Str × List Str)} {q : List (Str × Addr)} : KT K t ss → Tab K r q → Tab K ((k, ss) :: r) ((k, t) :: q)
def tGet (tb : List (Str × List Str)) (x : Str) : Option (List Str) := (tb.find? fun p => decide (p.1 = x)).map (·.2)
theorem dkGet_cons {x y : Str} {t : Addr} {r : List (Str × Addr)} : dkGet ((x, t) :: r) y = if x = y then some t else dkGet r y := by
  unfold dkGet
  rw [List.find?_cons]
  by_cases h : x = y
  · rw [decide_eq_true h, if_pos h]; rfl
  · rw [decide_eq_false h, if_neg h]
theorem tGet_cons {x y : Str} {t : List Str} {r : List (Str × List Str)} : tGet ((x, t) :: r) y = if x = y then some t else tGet r y := by
  unfold tGet
  rw [List.find?_cons]
  by_cases h : x = y
  · rw [decide_eq_true h, if_pos h]; rfl
  · rw [decide_eq_false h, if_neg h]
theorem Tab.get {K : PySem.W.Frag} (kd : Str) : ∀ {tb : List (Str × List Str)} {kvs : List (Str × Addr)}, Tab K tb kvs → (dkGet kvs kd = none ∧ tGet tb kd = none) ∨ ∃ t ss, dkGet kvs kd = some t ∧ tGet tb kd = some ss ∧ KT K t ss
  | _, _, .nil => .inl ⟨rfl, rfl⟩
  | _, _, .cons (k := k) (t := t) (ss := ss) h r => by
    rw [dkGet_cons, tGet_cons]
    by_cases e : k = kd
    · rw [if_pos e, if_pos e]
      exact .inr ⟨t, ss, rfl, rfl, h⟩
    · rw [if_neg e, if_neg e]
      exact r.get kd
structure PartsF (w : World) (K : PySem.W.Frag) (mg : Str → Option Value) : Prop where
  head : ∃ hP, mg "HEAD" = some (.ref hP) ∧ KT K hP ["name", "name", "whole"]
  parts : ∃ dP kvs, mg "PARTS" = some (.ref dP) ∧ DKat w K dP kvs ∧ Tab K table kvs
theorem tGet_mem {x : Str} {ss : List Str} : ∀ {tb : List (Str × List Str)}, tGet tb x = some ss → (x, ss) ∈ tb
  | [], h => by cases h
  | (k, s) :: r, h => by
    rw [tGet_cons] at h
    by_cases e : k = x
    · rw [if_pos e] at h
      cases h
      rw [e]
      exact List.mem_cons_self
    · rw [if_neg e] at h
      exact List.mem_cons_of_mem _ (tGet_mem h)
theorem shape_len {kd : Str} {ss : List Str} (h : tGet table kd = some ss) : 1 ≤ ss.length ∧ ss.length ≤ 6 := by
  have hm := tGet_mem h
  simp only [table, List.mem_cons, List.not_mem_nil, or_false, Prod.mk.injEq] at hm
  rcases hm with ⟨_, rfl⟩ | ⟨_, rfl⟩ | ⟨_, rfl⟩ | ⟨_, rfl⟩ | ⟨_, rfl⟩ | ⟨_, rfl⟩ | ⟨_, rfl⟩ | ⟨_, rfl⟩ <;> decide
abbrev hd3 : List Str := ["name", "name", "whole"]
/-- what is told of a part -/
inductive PV (H : Hp) : V → Bool → Prop
  | no {x : V} {k : String} : Kd H x k → k ≠ "tuple" → PV H x false
  | tup {a : Addr} {xs : List V} (f : V → Bool) : H a = some (.tup xs) → xs.length ≤ 60 → (∀ y ∈ xs, EnV H y (f y)) → PV H (.ref a) (xs.all f)
theorem PV.same {H H' : Hp} {x : V} {b : Bool} (e : Same H H') (h : PV H x b) : PV H' x b := by
  cases h with
  | no h hk => exact .no (Kd.same e h) hk
  | tup f h hl hi => exact .tup f (e _ _ h) hl fun y hy => (hi y hy).same e
structure Pa (H : Hp) (dE : PyData) (x : V) (b : Bool) : Prop where
  im : Im H x
  pv : PV H x b
  dt : ∃ d, Dt H x d ∧ b = (PyData.eqv dE d || PyData.eqv (.tuple []) d)
theorem Pa.same {H H' : Hp} {dE : PyData} {x : V} {b : Bool} (e : Same H H') (h : Pa H dE x b) : Pa H' dE x b := by
  obtain ⟨d, hd, hb⟩ := h.dt
  exact ⟨h.im.same e, h.pv.same e, d, hd.same e, hb⟩
def partB (s : Str) (x : V) (b : Bool) : Bool := if s = "name" then nmB x else if s = "truth" then isBlV x else if s = "text" then isStrV x else if s = "entries" then b else fromB 0 x
def ltI : V → V → Bool
  | .int a, .int b => decide (a < b)
  | _, _ => false
def letB (kd : Str) (ps : List V) (f : V → Bool) : Bool := match tGet table kd with
  | none => false
  | some ss => (decide (ps.length = ss.length + 3) && (((hd3 ++ ss).zip ps).map fun p => partB p.1 p.2 (f p.2)).all id) && (!decide (kd = "piece") || ltI (ps.getD 5 .non) (ps.getD 6 .non))
inductive ThV (H : Hp) (dE : PyData) : V → Bool → Prop
  | no {x : V} {k : String} : Kd H x k → k ≠ "tuple" → ThV H dE x false
  | nil {a : Addr} : H a = some (.tup []) → ThV H dE (.ref a) false
  | odd {a : Addr} {x : V} {ps : List V} {k : String} : H a = some (.tup (x :: ps)) → ps.length ≤ 60 → Kd H x k → k ≠ "str" → ThV H dE (.ref a) false
  | kind {a : Addr} {kd : Str} {ps : List V} (f : V → Bool) : H a = some (.tup (.str kd :: ps)) → ps.length ≤ 60 → (∀ p ∈ ps, Pa H dE p (f p)) → ThV H dE (.ref a) (letB kd ps f)
theorem ThV.same {H H' : Hp} {dE : PyData} {x : V} {v : Bool} (e : Same H H') (h : ThV H dE x v) : ThV H' dE x v := by
  cases h with
  | no h hk => exact .no (Kd.same e h) hk
  | nil h => exact .nil (e _ _ h)
  | odd h hl h1 h2 => exact .odd (e _ _ h) hl (Kd.same e h1) h2
  | kind f h hl hi => exact .kind f (e _ _ h) hl fun p hp => (hi p hp).same e
def spPart : Sp := fun us H Q _ => ∃ (s : Str) (x : V) (b : Bool), us = [.str s, x] ∧ Im H x ∧ PV H x b ∧ ∀ H', Same H H' → Q (.bl (partB s x b)) H'
def spLet : Sp := fun us H Q _ => ∃ (x : V) (dE : PyData) (v : Bool), us = [x] ∧ ThV H dE x v ∧ ∀ H', Same H H' → Q (.bl v) H'
def spChk (CL : Addr) : Sp := fun us H Q E => ∃ (x : V) (dE : PyData) (v : Bool), us = [x] ∧ ThV H dE x v ∧ (v = true → ∀ H', Same H H' → Q .non H') ∧ (v = false → ∀ H', Same H H' → E (.ref CL) none H')
theorem bls_f (f : V → Bool) (xs : List V) : xs.map (fun c => V.bl (f c)) = (xs.map f).map V.bl := by rw [List.map_map]; rfl
theorem all_f (f : V → Bool) (xs : List V) : (xs.map f).all id = xs.all f := by rw [List.all_map]; rfl
def txV : V → Str
  | .str s => s
  | _ => Str.ofString ""
theorem bls_z (f : V → Bool) (ss : List Str) (ps : List V) : (((ss.map V.str).zip ps).map fun p => V.bl (partB (txV p.1) p.2 (f p.2))) = ((ss.zip ps).map fun p => partB p.1 p.2 (f p.2)).map V.bl := by
  have : (ss.map V.str).zip ps = (ss.zip ps).map fun p => (V.str p.1, p.2) := by
    rw [← List.map_id ps, List.zip_map, List.map_id]
    rfl
  rw [this, List.map_map, List.map_map]
  rfl
theorem cutV1 (x : V) (ps : List V) : cutV (x :: ps) (some 1) none = ps := by
  unfold cutV
  rw [HT.sIx_none, show HT.sIx (x :: ps).length 0 (some 1) = min 1 (x :: ps).length from HT.sIx_nat _ _ 1, List.length_cons, Nat.min_eq_left (by lia), List.drop_one, List.tail_cons]
  exact List.take_of_length_le (by lia)
theorem int_of_from {l : Int} {x : V} (h : fromB l x = true) : ∃ i : Int, x = .int i ∧ l ≤ i := by
  cases x with
  | int i => exact ⟨i, rfl, of_decide_eq_true h⟩
  | _ => cases h
/-- the two numbers of a piece -/
theorem piece_ints {ps : List V} {f : V → Bool} {ss : List Str} (hs : tGet table "piece" = some ss) (hl : ps.length = ss.length + 3) (h : (((hd3 ++ ss).zip ps).map fun p => partB p.1 p.2 (f p.2)).all id = true) : ∃ a b : Int, ps[5]? = some (.int a) ∧ ps[6]? = some (.int b) := by
  have e : tGet table "piece" = some ([("whole" : Str), "whole", "whole", "whole", "text", "whole"]) := by decide +kernel
  rw [e] at hs
  cases hs
  match ps, hl with
  | [p0, p1, p2, p3, p4, p5, p6, p7, p8], _ =>
    simp only [hd3, List.cons_append, List.nil_append, List.zip_cons_cons, List.zip_nil_right, List.map_cons, List.map_nil, List.all_cons, List.all_nil, Bool.and_true, id, Bool.and_eq_true] at h
    have w : ∀ x b, partB "whole" x b = fromB 0 x := fun x b => by
      unfold partB
      rw [if_neg (by decide +kernel), if_neg (by decide +kernel), if_neg (by decide +kernel), if_neg (by decide +kernel)]
    obtain ⟨_, _, _, _, _, h5, h6, _⟩ := h
    rw [w] at h5 h6
    obtain ⟨a, rfl, _⟩ := int_of_from h5
    obtain ⟨b, rfl, _⟩ := int_of_from h6
    exact ⟨a, b, rfl, rfl⟩
section
variable {P : Program} {w : World} {K : PySem.W.Frag} {mg : Str → Option Value} {base : Heap}
theorem scPart : FnScope ["sort", "thing"] ["sort", "thing"] (defScope sPart) := ⟨rfl, rfl, rfl, by decide +kernel, rfl, by decide +kernel, by decide +kernel⟩
theorem ndPE : ((["sort", "thing"] : List Str) ++ (["entry"] : List Str)).Nodup := by decide +kernel
theorem ok_part {f : Addr} {fd : FuncData} (F : Fun K "is_part" "is_part" sPart f fd) (B : Blt mg) (T : Bl2 mg) (U : Bl3 mg) (Fn : FnAt P w K mg base 1 "is_name" ["thing"] spNm) (Ff : FnAt P w K mg base 2 "is_whole_from" ["thing", "least"] spFrom) (Fe : FnAt P w K mg base 6 "is_entry" ["thing"] spPEntry) : FnOk P w K mg base CX0 7 f fd ["sort", "thing"] spPart := by
  refine F.ok scPart (fun vs H Q E h => ?_) (fun cdv A outer s H vs Q E hr h => ?_)
  · obtain ⟨s, x, b, rfl, _⟩ := h
    rfl
  · obtain ⟨s, x, b, rfl, hI, hP, q⟩ := h
    have r1 : Room 1 _ := hr.mono (by decide)
    have r2 : Room 2 _ := hr.mono (by decide)
    refine ⟨_, pss_cons (ps_if (pt_cmpR op_eq (pv 0) pe_str (nomark _)) (pss_one (ps_ret (pe_callF Fn r1 (pa_cons (pv 1) pa_nil)))) pss_nil) <|
      pss_cons (ps_if (pt_cmpR op_eq (pv 0) pe_str (nomark _)) (pss_one (ps_ret (pe_callB call_isT (by rfl) T.isi bIsi (pa_cons (pv 1) (pa_cons (pe_bltn (v := .ty "bool") (by rfl) U.bool bBool rfl) pa_nil))))) pss_nil) <|
      pss_cons (ps_if (pt_cmpR op_eq (pv 0) pe_str (nomark _)) (pss_one (ps_ret (pe_callB call_isT (by rfl) T.isi bIsi (pa_cons (pv 1) (pa_cons (pe_bltn (v := .ty "str") (by rfl) T.str bStr rfl) pa_nil))))) pss_nil) <|
      pss_cons (ps_if (pt_cmpR op_eq (pv 0) pe_str (nomark _)) (pss_one (ps_ret (pe_and (pe_callB call_isT (by rfl) T.isi bIsi (pa_cons (pv 1) (pa_cons (pe_bltn (v := .ty "tuple") (by rfl) B.tuple bTuple rfl) pa_nil))) (pe_one (pe_callB (call_allB rfl) (by rfl) T.all bAll (pa_cons (pe_lc ["sort", "thing"] ["sort", "thing"] ["entry"] (defScope sPart) rfl rfl rfl (by decide +kernel) rfl rfl (by decide +kernel) (by decide +kernel) (by decide +kernel) (by decide +kernel)
          (pi_tup (pv 1)) (fun _ _ _ _ _ => pg_name (i := 2) ndPE rfl (Or.inl rfl)) (fun _ _ _ _ _ => pts_nil) (fun _ _ _ _ _ => pe_callF (X := cxC _ _ _ _ _ _ _ _ _) Fe hr (pa_cons (pv 2) pa_nil))) pa_nil)))))) pss_nil) <|
      pss_one (ps_ret (pe_callF Ff r2 (pa_cons (pv 1) (pa_cons pe_int pa_nil)))), ?_⟩
    obtain ⟨k, hk⟩ := hI.1.kd
    have dS : ∀ z : Str, decide (V.str s = V.str z) = decide (s = z) := fun z => by
      rw [Bool.eq_iff_iff, decide_eq_true_iff, decide_eq_true_iff]
      exact ⟨fun e => by injection e, fun e => by rw [e]⟩
    refine ⟨_, rfl, rfl, _, rfl, ?_⟩
    rw [dS]
    by_cases h1 : s = "name"
    · rw [decide_eq_true h1]
      refine iteT ⟨_, rfl, x, rfl, hI, fun H' s' => ?_⟩
      rw [show partB s x b = nmB x by unfold partB; rw [if_pos h1]] at q
      exact q H' s'
    rw [decide_eq_false h1]
    refine iteF ⟨_, rfl, rfl, _, rfl, ?_⟩
    rw [dS]
    by_cases h2 : s = "truth"
    · rw [decide_eq_true h2]
      refine iteT ⟨_, rfl, _, _, _, _, rfl, hk, kit_bl hk, ?_⟩
      rw [show partB s x b = isBlV x by unfold partB; rw [if_neg h1, if_pos h2]] at q
      exact q H (Same.refl H)
    rw [decide_eq_false h2]
    refine iteF ⟨_, rfl, rfl, _, rfl, ?_⟩
    rw [dS]
    by_cases h3 : s = "text"
    · rw [decide_eq_true h3]
      refine iteT ⟨_, rfl, _, _, _, _, rfl, hk, kit_str hk, ?_⟩
      rw [show partB s x b = isStrV x by unfold partB; rw [if_neg h1, if_neg h2, if_pos h3]] at q
      exact q H (Same.refl H)
    rw [decide_eq_false h3]
    refine iteF ⟨_, rfl, rfl, _, rfl, ?_⟩
    rw [dS]
    by_cases h4 : s = "entries"
    · rw [decide_eq_true h4]
      rw [show partB s x b = b by unfold partB; rw [if_neg h1, if_neg h2, if_neg h3, if_pos h4]] at q
      cases hP with
      | no hk' ne => exact iteT ⟨_, rfl, _, _, _, false, rfl, hk', kit_ntup hk' ne, _, rfl, iteF (q H (Same.refl H))⟩
      | @tup a xs f ha hl hi =>
        refine iteT ⟨_, rfl, _, _, _, true, rfl, Kd.tup (.inl ha), kit_self, _, rfl, iteT ?_⟩
        refine ⟨_, rfl, a, rfl, ⟨_, SqT.of ha⟩, ?_⟩
        refine lcMU (fun y => V.bl (f y)) rfl ha (by lia) (fun D x ys H1 post hD hx sm hDD hpost => ?_) (fun D H1 hD sm eD => ?_)
        · exact ⟨_, rfl, x, f x, rfl, (hi x hx).same sm, fun H' s' => hpost H' s'⟩
        rw [bls_f] at eD
        refine ⟨D, _, rfl, SqL.of eD, ?_⟩
        rw [all_f]
        exact q _ sm
    rw [decide_eq_false h4]
    refine iteF ⟨_, rfl, x, 0, rfl, hI, ?_⟩
    rw [show partB s x b = fromB 0 x by unfold partB; rw [if_neg h1, if_neg h2, if_neg h3, if_neg h4]] at q
    exact q H (Same.refl H)
abbrev nLet : List Str := ["thing", "sorts"]
theorem scLet : FnScope nLet ["thing"] (defScope sLet) := ⟨rfl, rfl, rfl, by decide +kernel, rfl, by decide +kernel, by decide +kernel⟩
theorem ndLet : (nLet ++ (["sort", "part"] : List Str)).Nodup := by decide +kernel
theorem at6 {α : Type} {xs : List α} {a : α} {x : α} (h : xs[5]? = some a) : atI (x :: xs) 6 = some a := atI_nat (j := 6) (by simpa using h)
theorem at7 {α : Type} {xs : List α} {a : α} {x : α} (h : xs[6]? = some a) : atI (x :: xs) 7 = some a := atI_nat (j := 7) (by simpa using h)
theorem getD_of {α : Type} {xs : List α} {i : Nat} {a d : α} (h : xs[i]? = some a) : xs.getD i d = a := by rw [List.getD_eq_getElem?_getD, h]; rfl
theorem ok_let {f : Addr} {fd : FuncData} (F : Fun K "is_letter" "is_letter" sLet f fd) (B : Blt mg) (T : Bl2 mg) (G : PartsF w K mg) (Fp : FnAt P w K mg base 7 "is_part" ["sort", "thing"] spPart) : FnOk P w K mg base CX0 8 f fd ["thing"] spLet := by
  refine F.ok scLet (fun vs H Q E h => ?_) (fun cdv A outer s H vs Q E hr h => ?_)
  · obtain ⟨x, dE, v, rfl, _⟩ := h
    rfl
  · obtain ⟨x, dE, v, rfl, hV, q⟩ := h
    obtain ⟨hP, mH, kH⟩ := G.head
    obtain ⟨dP, kvs, mP, kP, tab⟩ := G.parts
    have nd := scLet.nd
    have hs16 : sizeLine = 16777216 := sizeLine_eq
    refine ⟨_, pss_cons (ps_if (PW.pt (pw_or (pt_not (pt_val (pe_callB call_isT (by rfl) T.isi bIsi (pa_cons (pv 0) (pa_cons (pe_bltn (v := .ty "tuple") (by rfl) B.tuple bTuple rfl) pa_nil))))) <|
        pw_or (pt_cmpR op_eq (pe_callB call_len_seq (by rfl) B.len PySem.boot_len (pa_cons (pv 0) pa_nil)) pe_int (nomark _)) <|
        pw_or (pt_not (pt_val (pe_callB call_isT (by rfl) T.isi bIsi (pa_cons (pe_ix ix_tup (pv 0) pe_int (fun _ _ => rfl)) (pa_cons (pe_bltn (v := .ty "str") (by rfl) T.str bStr rfl) pa_nil))))) <|
        pw_or1 (pt_cmpR op_notInK (pe_ix ix_tup (pv 0) pe_int (fun _ _ => rfl)) (pe_glob (v := .ref dP) (by rfl) mP rfl) (by rfl)))) (pss_one (ps_ret pe_bl)) pss_nil) <|
      pss_cons (ps_set (i := 1) nd rfl (Or.inl rfl) (pe_op op_catT (pe_glob (v := .ref hP) (by rfl) mH rfl) (pe_dgetK (pe_glob (v := .ref dP) (by rfl) mP rfl) (pe_ix ix_tup (pv 0) pe_int (fun _ _ => rfl)) (fun _ _ => rfl)))) <|
      pss_cons (ps_if (PW.pt (pw_or (pt_cmpR op_ne (pe_callB call_len_seq (by rfl) B.len PySem.boot_len (pa_cons (pv 0) pa_nil)) (pe_op op_add (pe_callB call_len_seq (by rfl) B.len PySem.boot_len (pa_cons (pv 1) pa_nil)) pe_int) (nomark _)) <|
        pw_or1 (pt_not (pt_val (pe_callB (call_allB rfl) (by rfl) T.all bAll (pa_cons (pe_lc nLet nLet ["sort", "part"] (defScope sLet) rfl rfl rfl (by decide +kernel) rfl rfl (by decide +kernel) (by decide +kernel) (by decide +kernel) (by decide +kernel)
          (pi_zipT (by rfl) T.zip (pa_cons (pv 1) (pa_cons (pe_slice sl_tupU (pv 0) (po_some pe_int) po_none) pa_nil)))
          (fun _ _ _ _ _ => pg_tupC (n := 2) rfl (pgs_cons (pg_name (i := 2) ndLet rfl (Or.inl rfl)) (pgs_cons (pg_name (i := 3) ndLet rfl (Or.inl rfl)) pgs_nil))) (fun _ _ _ _ _ => pts_nil)
          (fun _ _ _ _ _ => pe_callF (X := cxC _ _ _ _ _ _ _ _ _) Fp hr (pa_cons (pv 2) (pa_cons (pv 3) pa_nil)))) pa_nil)))))) (pss_one (ps_ret pe_bl)) pss_nil) <|
      pss_one (ps_ret (pe_or (pe_cmpR op_ne (pe_ix ix_tup (pv 0) pe_int (fun _ _ => rfl)) pe_str (nomark _)) (pe_one (pe_cmpR op_lt (pe_ix ix_tup (pv 0) pe_int (fun _ _ => rfl)) (pe_ix ix_tup (pv 0) pe_int (fun _ _ => rfl)) (nomark _))))), ?_⟩
    have l0 : ∀ (k : V) (r : List V), decide (V.int (((k :: r).length : Nat) : Int) = V.int 0) = false := fun k r => by
      rw [show (0 : Int) = ((0 : Nat) : Int) from rfl, lenI]
      simp
    cases hV with
    | no hk ne => exact ⟨_, rfl, _, _, _, false, rfl, hk, kit_ntup hk ne, _, rfl, iteT (iteT (q H (Same.refl H)))⟩
    | @nil t ht =>
      refine ⟨_, rfl, _, _, "tuple", true, rfl, Kd.tup (.inl ht), kit_self, _, rfl, iteF ?_⟩
      exact ⟨_, rfl, t, _, rfl, .inr (SqT.of ht), rfl, _, rfl, iteT (iteT (q H (Same.refl H)))⟩
    | @odd t x ps k ht hl hk ne =>
      refine ⟨_, rfl, _, _, "tuple", true, rfl, Kd.tup (.inl ht), kit_self, _, rfl, iteF ?_⟩
      refine ⟨_, rfl, t, _, rfl, .inr (SqT.of ht), rfl, _, rfl, ?_⟩
      rw [l0]
      refine iteF ⟨_, rfl, t, _, _, _, rfl, rfl, SqT.of ht, at0, _, _, _, _, rfl, hk, kit_str hk, _, rfl, ?_⟩
      have : isStrV x = false := by
        cases hk with
        | str z => exact absurd rfl ne
        | _ => rfl
      rw [this]
      exact iteT (iteT (q H (Same.refl H)))
    | @kind t kd ps fb ht hl hi =>
      refine ⟨_, rfl, _, _, "tuple", true, rfl, Kd.tup (.inl ht), kit_self, _, rfl, iteF ?_⟩
      refine ⟨_, rfl, t, _, rfl, .inr (SqT.of ht), rfl, _, rfl, ?_⟩
      rw [l0]
      refine iteF ⟨_, rfl, t, _, _, _, rfl, rfl, SqT.of ht, at0, _, _, _, true, rfl, Kd.str kd, kit_self, _, rfl, iteF ?_⟩
      refine ⟨_, rfl, t, _, _, _, rfl, rfl, SqT.of ht, at0, dP, kd, kvs, rfl, rfl, kP, _, rfl, ?_⟩
      rcases tab.get kd with ⟨g1, g2⟩ | ⟨tt, ss, hg, g2, kt⟩
      · rw [g1]
        rw [show letB kd ps fb = false by unfold letB; rw [g2]] at q
        exact iteT (q H (Same.refl H))
      rw [hg]
      refine iteF ?_
      have hss := shape_len g2
      have ne : ss ≠ [] := fun e => by rw [e] at hss; exact absurd hss.1 (by decide)
      have qe : letB kd ps fb = ((decide (ps.length = ss.length + 3) && (((hd3 ++ ss).zip ps).map fun p => partB p.1 p.2 (fb p.2)).all id) && (!decide (kd = "piece") || ltI (ps.getD 5 .non) (ps.getD 6 .non))) := by unfold letB; rw [g2]
      rw [qe] at q
      refine ⟨_, rfl, t, _, _, _, rfl, rfl, SqT.of ht, at0, dP, kd, kvs, tt, rfl, rfl, kP, hg, ?_⟩
      refine ⟨hP, tt, _, _, rfl, rfl, kH.sq, kt.sq, List.cons_ne_nil _ _, (by rw [List.length_map, List.length_map]; show 3 + ss.length ≤ _; lia), fun e => absurd (List.map_eq_nil_iff.mp e) ne, fun _ p hp2 => ?_⟩
      rw [← List.map_append]
      have s1 : Same H _ := same_new (o := .tup ((hd3 ++ ss).map V.str)) hp2
      have e1 : (upd H p (.tup ((hd3 ++ ss).map V.str))) p = _ := upd_same
      generalize upd H p (.tup ((hd3 ++ ss).map V.str)) = H1 at s1 e1 ⊢
      refine ⟨_, rfl, t, _, rfl, .inr (SqT.of (s1 _ _ ht)), _, rfl, p, _, rfl, .inr (SqT.of e1), _, _, rfl, rfl, rfl, _, rfl, ?_⟩
      by_cases hln : ps.length = ss.length + 3
      · rw [show (!decide (V.int (((V.str kd :: ps).length : Nat) : Int) = V.int ((((hd3 ++ ss).map V.str).length : Nat) + 1))) = false by
          rw [List.length_map, List.length_append, List.length_cons, hln, decide_eq_true (by simp; lia)]; rfl]
        rw [decide_eq_true hln, Bool.true_and] at q
        refine iteF ⟨_, rfl, _, rfl, _, rfl, t, _, rfl, s1 _ _ ht, fun p2 H2 s2 ep => ?_⟩
        rw [cutV1] at ep
        refine ⟨p, p2, _, _, rfl, SqT.of (s2 _ _ e1), SqT.of ep, ?_⟩
        refine lcZU (fun x y => V.bl (partB (txV x) y (fb y))) (s2 _ _ e1) ep (by rw [List.length_map, List.length_append]; show 3 + ss.length ≤ 1000; lia) (fun p' x y Hx R hp' hR => ?_) (fun i x y Hx post hx hy sx hpost => ?_) (fun D2 H3 hD2 s3 e3 => ?_)
        · exact ⟨p', _, rfl, SqT.of hp', rfl, x, [y], rfl, y, [], rfl, rfl, hR⟩
        · rw [List.getElem?_map] at hx
          obtain ⟨sx', hx1, rfl⟩ := Option.map_eq_some_iff.mp hx
          have hpa := (hi y (List.mem_of_getElem? hy)).same ((s1.trans s2).trans sx)
          exact ⟨_, rfl, _, rfl, sx', y, fb y, rfl, hpa.im, hpa.pv, fun H' s' => hpost H' s'⟩
        rw [bls_z] at e3
        refine ⟨D2, _, rfl, SqL.of e3, ?_⟩
        have s13 := (s1.trans s2).trans s3
        cases hall : (((hd3 ++ ss).zip ps).map fun p => partB p.1 p.2 (fb p.2)).all id with
        | false =>
          rw [hall, Bool.false_and] at q
          exact ⟨_, rfl, iteT (q _ s13)⟩
        | true =>
          rw [hall, Bool.true_and] at q
          refine ⟨_, rfl, iteF ?_⟩
          refine ⟨_, rfl, t, _, _, _, rfl, rfl, SqT.of (s13 _ _ ht), at0, rfl, _, rfl, ?_⟩
          by_cases hk : kd = "piece"
          · obtain ⟨a, b, ha, hb⟩ := piece_ints (by rw [← hk]; exact g2) hln hall
            rw [decide_eq_true (show V.str kd = V.str "piece" by rw [hk])]
            rw [decide_eq_true hk, getD_of ha, getD_of hb] at q
            exact iteF ⟨_, rfl, t, _, _, _, rfl, rfl, SqT.of (s13 _ _ ht), at6 ha, _, rfl, t, _, _, _, rfl, rfl, SqT.of (s13 _ _ ht), at7 hb, _, _, rfl, rfl, q _ s13⟩
          · rw [decide_eq_false (show ¬ V.str kd = V.str "piece" from fun e => hk (by injection e))]
            rw [decide_eq_false hk] at q
            exact iteT (q _ s13)
      · rw [show (!decide (V.int (((V.str kd :: ps).length : Nat) : Int) = V.int ((((hd3 ++ ss).map V.str).length : Nat) + 1))) = true by
          rw [List.length_map, List.length_append, List.length_cons, decide_eq_false (fun e => by injection e with e; simp at e; lia)]; rfl]
        rw [decide_eq_false hln, Bool.false_and, Bool.false_and] at q
        exact iteT (iteT (q _ s1))
theorem scChk : FnScope ["thing"] ["thing"] (defScope sChk) := ⟨rfl, rfl, rfl, by decide +kernel, rfl, by decide +kernel, by decide +kernel⟩
theorem ok_chk {f CL : Addr} {fd : FuncData} (F : Fun K "check_letter" "check_letter" sChk f fd) (XL : ExcC K mg "NoLetter" CL) (Fl : FnAt P w K mg base 8 "is_letter" ["thing"] spLet) : FnOk P w K mg base (CXR P w base) 9 f fd ["thing"] (spChk CL) := by
  refine F.okR scChk (fun us H Q E h => ?_) (fun cdv A outer s H us Q E hr h => ?_)
  · obtain ⟨x, dE, v, rfl, _⟩ := h
    rfl
  · obtain ⟨x, dE, v, rfl, hV, q1, q2⟩ := h
    refine ⟨_, pss_one (ps_if (pt_not (pt_val (pe_callF Fl hr (pa_cons (pv 0) pa_nil)))) (pss_one (ps_raise passN rfl XL (by rfl) (pa_cons pe_str pa_nil))) pss_nil), ?_⟩
    refine ⟨_, rfl, x, dE, v, rfl, hV, fun H' s' => ⟨_, rfl, ?_⟩⟩
    cases hv : v with
    | true => exact iteF (q1 hv H' s')
    | false => exact iteT ⟨(by show 1 ≤ sizeLine; decide), q2 hv H' s'⟩
end
end K31

set_option maxHeartbeats 8000000
namespace K31
open PySem L2
abbrev sLName : Stmt := top 43
abbrev sLWork : Stmt := top 44
abbrev sLBench : Stmt := top 45
abbrev sLEntry : Stmt := top 46
theorem nm_one {c : Nat} (h : okc c = true) : Nm ⟨#[c]⟩ := ⟨by show 1 ≤ 1; decide, by show 1 ≤ 8; decide, fun d hd => by
  have : d = c := by simpa using hd
  rw [this]; exact h⟩
theorem fold_mem (z : Array Nat) : ∀ (k : Nat) (acc : Array Nat) (d : Nat), d ∈ ((List.replicate k z).foldl (· ++ ·) acc).toList → d ∈ acc.toList ∨ d ∈ z.toList
  | 0, acc, d, h => .inl h
  | k + 1, acc, d, h => by
    rcases fold_mem z k (acc ++ z) d h with h | h
    · rw [Array.toList_append] at h
      exact List.mem_append.mp h
    · exact .inr h
theorem mul_mem {z : Str} {n : Int} {d : Nat} (h : d ∈ (Txt.mul z n).cps.toList) : d ∈ z.cps.toList := by
  unfold Txt.mul at h
  split at h
  · exact absurd h (by simp [show (Str.empty).cps = #[] from rfl])
  · split at h
    · exact h
    · rcases fold_mem z.cps _ _ d h with h | h
      · exact absurd h (by simp)
      · exact h
theorem idx0 (b : Nat) (len : Nat) : Builtin.Str.strSliceIndices none (some (b : Int)) 1 len = Builtin.Str.strSliceIndices (some ((0 : Nat) : Int)) (some (b : Int)) 1 len := by
  unfold Builtin.Str.strSliceIndices
  have e0 : ((1 : Int) > 0) := by decide
  have e1 : ¬ (((0 : Nat) : Int) < 0) := by decide
  have e2 : min (((0 : Nat) : Int)) (len : Int) = 0 := by lia
  simp only [e0, e1, e2, if_true, if_false, Int.max_self]
theorem slice8 {x : Str} (h : x.length ≤ 8) : (Txt.slice x none (some 8)).cps.toList = x.cps.toList := by
  rw [show (8 : Int) = ((8 : Nat) : Int) from rfl, slice_congr (idx0 8 x.length), slice_cl (Nat.zero_le _) (Nat.zero_le _), List.drop_zero, Nat.sub_zero, List.take_of_length_le (by rw [len_cps]; exact h)]
abbrev E21 : Int := 1000000000000000000000
/-- digits in a list -/
structure Dg (H : Hp) (a : Addr) (ds : List Int) (n : Nat) : Prop where
  at' : H a = some (.lst (ds.map V.int))
  le : n ≤ ds.length
  le2 : ds.length ≤ 100
  ok : ∀ d ∈ ds, 0 ≤ d ∧ d < E21
theorem Dg.same {H H' : Hp} {a : Addr} {ds : List Int} {n : Nat} (e : Same H H') (h : Dg H a ds n) : Dg H' a ds n := ⟨e _ _ h.at', h.le, h.le2, h.ok⟩
theorem Dg.ix {H : Hp} {a : Addr} {ds : List Int} {n : Nat} (h : Dg H a ds n) (i : Nat) (hi : i < n) : ∃ d : Int, atI (ds.map V.int) (i : Int) = some (.int d) ∧ 0 ≤ d ∧ d < E21 := by
  have hi2 : i < ds.length := Nat.lt_of_lt_of_le hi h.le
  exact ⟨ds[i], atI_nat (by rw [List.getElem?_map, List.getElem?_eq_getElem hi2]; rfl), h.ok _ (List.getElem_mem hi2)⟩
theorem cutI (ds : List Int) (lo hi : Option Int) : ∃ es : List Int, cutV (ds.map V.int) lo hi = es.map V.int ∧ (∀ d ∈ es, d ∈ ds) ∧ es.length = min (HT.sIx ds.length ds.length hi - HT.sIx ds.length 0 lo) (ds.length - HT.sIx ds.length 0 lo) := by
  unfold cutV
  rw [List.length_map]
  refine ⟨(ds.drop (HT.sIx ds.length 0 lo)).take (HT.sIx ds.length ds.length hi - HT.sIx ds.length 0 lo), ?_, fun d hd => List.mem_of_mem_drop (List.mem_of_mem_take hd), ?_⟩
  · rw [List.map_take, List.map_drop]
  · rw [List.length_take, List.length_drop]
theorem cutN {ds : List Int} {a b : Nat} (hb : b ≤ ds.length) (hab : a ≤ b) : ∃ es : List Int, cutV (ds.map V.int) (some (a : Int)) (some (b : Int)) = es.map V.int ∧ (∀ d ∈ es, d ∈ ds) ∧ es.length = b - a := by
  obtain ⟨es, h1, h2, h3⟩ := cutI ds (some (a : Int)) (some (b : Int))
  rw [HT.sIx_nat, HT.sIx_nat] at h3
  exact ⟨es, h1, h2, by lia⟩
theorem cutE {ds : List Int} {a : Nat} (ha : a ≤ ds.length) : ∃ es : List Int, cutV (ds.map V.int) (some (a : Int)) none = es.map V.int ∧ (∀ d ∈ es, d ∈ ds) ∧ es.length = ds.length - a := by
  obtain ⟨es, h1, h2, h3⟩ := cutI ds (some (a : Int)) none
  rw [HT.sIx_nat, HT.sIx_none] at h3
  exact ⟨es, h1, h2, by lia⟩
theorem cutF {ds : List Int} {b : Nat} (hb : b ≤ ds.length) : ∃ es : List Int, cutV (ds.map V.int) none (some (b : Int)) = es.map V.int ∧ (∀ d ∈ es, d ∈ ds) ∧ es.length = b := by
  obtain ⟨es, h1, h2, h3⟩ := cutI ds none (some (b : Int))
  rw [HT.sIx_nat, HT.sIx_none] at h3
  exact ⟨es, h1, h2, by lia⟩
def isNum (z : Int) : Prop := -(10 ^ 60) < z ∧ z < 10 ^ 60
inductive Wk : List V → Prop
  | drop {x : Str} : Nm x → Wk [.str "drop", .str x]
  | put {x : Str} {z : Int} : Nm x → isNum z → Wk [.str "put", .str x, .int z]
  | add {x : Str} {z : Int} : Nm x → isNum z → Wk [.str "add", .str x, .int z]
def spLName : Sp := fun us H Q _ => ∃ d : Int, us = [.int d] ∧ 0 ≤ d ∧ ∀ x : Str, Nm x → Q (.str x) H
def spLWork : Sp := fun us H Q _ => ∃ (a : Addr) (ds : List Int), us = [.ref a] ∧ Dg H a ds 3 ∧ ∀ (t : Addr) (xs : List V) (H' : Hp), Same H H' → H' t = some (.tup xs) → Wk xs → Q (.ref t) H'
section
variable {P : Program} {w : World} {K : PySem.W.Frag} {mg : Str → Option Value} {base : Heap}
abbrev nLName : List Str := ["_law_digit", "_law_letters"]
theorem scLName : FnScope nLName ["_law_digit"] (defScope sLName) := ⟨rfl, rfl, rfl, by decide +kernel, rfl, by decide +kernel, by decide +kernel⟩
theorem ok_lname {f : Addr} {fd : FuncData} (F : Fun K "_law_name" "_law_name" sLName f fd) : FnOk P w K mg base CX0 1 f fd ["_law_digit"] spLName := by
  refine F.ok scLName (fun vs H Q E h => ?_) (fun cdv A outer s H vs Q E hr h => ?_)
  · obtain ⟨d, rfl, _⟩ := h
    rfl
  · obtain ⟨d, rfl, d0, q⟩ := h
    have nd := scLName.nd
    have hs16 : sizeLine = 16777216 := sizeLine_eq
    refine ⟨_, pss_cons (ps_set (i := 1) nd rfl (Or.inl rfl) pe_str) <|
      pss_cons (ps_if (pt_cmpR op_gt (pe_op op_mod (pv 0) pe_int) pe_int (nomark _)) (pss_one (ps_ret (pe_ix ix_str (pv 1) (pe_op op_mod (pe_op op_fdiv (pv 0) pe_int) pe_int) (fun _ _ => rfl)))) pss_nil) <|
      pss_one (ps_ret (pe_slice sl_str (pe_op op_add_str (pe_ix ix_str (pv 1) (pe_op op_mod (pe_op op_fdiv (pv 0) pe_int) pe_int) (fun _ _ => rfl)) (pe_op op_mul_str (pe_ix ix_str (pv 1) (pe_op op_mod (pe_op op_fdiv (pv 0) pe_int) pe_int) (fun _ _ => rfl)) (pe_op op_mod (pe_op op_fdiv (pv 0) pe_int) pe_int))) po_none (po_some pe_int))), ?_⟩
    have one : ∀ z : Int, ∃ c, atI ABC.cps.toList (z % 26) = some c ∧ okc c = true := fun z => by
      obtain ⟨c, hc, hm⟩ := atI_in (xs := ABC.cps.toList) (Int.emod_nonneg z (show (26 : Int) ≠ 0 by decide)) (by rw [len_cps, abc_len]; exact Int.emod_lt_of_pos z (by decide))
      exact ⟨c, hc, abc_ok c hm⟩
    obtain ⟨c, hc, oc⟩ := one (d / 4)
    obtain ⟨c2, hc2, oc2⟩ := one (d / 104)
    refine ⟨_, rfl, _, _, rfl, rfl, (by dsimp only; decide), _, _, rfl, rfl, _, rfl, ?_⟩
    refine ite2 (fun _ => ?_) (fun _ => ?_)
    · exact ⟨_, rfl, _, rfl, _, _, rfl, rfl, ⟨by decide, by decide⟩, _, _, rfl, rfl, (by dsimp only; decide), _, _, c, rfl, rfl, abc_le, hc, q _ (nm_one oc)⟩
    · refine ⟨_, rfl, _, rfl, _, _, rfl, rfl, ⟨by decide, by decide⟩, _, _, rfl, rfl, (by dsimp only; decide), _, _, c, rfl, rfl, abc_le, hc, ?_⟩
      refine ⟨_, rfl, _, rfl, _, _, rfl, rfl, ⟨by decide, by decide⟩, _, _, rfl, rfl, (by dsimp only; decide), _, _, c2, rfl, rfl, abc_le, hc2, ?_⟩
      have z0 := Int.emod_nonneg (d / 2704) (show (8 : Int) ≠ 0 by decide)
      have z1 := Int.emod_lt_of_pos (d / 2704) (show (0 : Int) < 8 by decide)
      refine ⟨_, rfl, _, _, rfl, rfl, ⟨by decide, by decide⟩, _, _, rfl, rfl, (by dsimp only; decide), ?_⟩
      have ml : (Txt.mul ⟨#[c2]⟩ (d / 2704 % 8)).length ≤ 1 * 7 := len_mulS (Nat.le_refl _) (by lia)
      refine ⟨_, _, rfl, rfl, mulOk_small (by lia) (by lia) (by show 1 ≤ 1000; decide), ?_⟩
      have al : ((⟨#[c]⟩ : Str) ++ Txt.mul ⟨#[c2]⟩ (d / 2704 % 8)).length ≤ 8 := by rw [Str.length_append]; show 1 + _ ≤ 8; lia
      have hm : ∀ e ∈ ((⟨#[c]⟩ : Str) ++ Txt.mul ⟨#[c2]⟩ (d / 2704 % 8)).cps.toList, okc e = true := fun e he => by
        rw [cps_app] at he
        rcases List.mem_append.mp he with h | h
        · have : e = c := by simpa using h
          rw [this]; exact oc
        · have h := mul_mem h
          have : e = c2 := by simpa using h
          rw [this]; exact oc2
      have a1 : 1 ≤ ((⟨#[c]⟩ : Str) ++ Txt.mul ⟨#[c2]⟩ (d / 2704 % 8)).length := by rw [Str.length_append]; exact Nat.le_add_right 1 _
      refine ⟨_, _, rfl, rfl, by show 1 + _ ≤ sizeLine; lia, _, rfl, _, rfl, by lia, ?_⟩
      have e8 := slice8 al
      exact q _ ⟨by rw [← len_cps, e8, len_cps]; exact a1, by rw [← len_cps, e8, len_cps]; exact al, fun e he => hm e (by rw [← e8]; exact he)⟩
abbrev pLD : List Str := ["_law_digits_here"]
abbrev nLWork : List Str := ["_law_digits_here", "_law_key", "_law_number_here"]
theorem scLWork : FnScope nLWork pLD (defScope sLWork) := ⟨rfl, rfl, rfl, by decide +kernel, rfl, by decide +kernel, by decide +kernel⟩
theorem ok_lwork {f : Addr} {fd : FuncData} (F : Fun K "_law_work" "_law_work" sLWork f fd) (Fn : FnAt P w K mg base 1 "_law_name" ["_law_digit"] spLName) : FnOk P w K mg base CX0 2 f fd pLD spLWork := by
  refine F.ok scLWork (fun vs H Q E h => ?_) (fun cdv A outer s H vs Q E hr h => ?_)
  · obtain ⟨a, ds, rfl, _⟩ := h
    rfl
  · obtain ⟨a, ds, rfl, hD, q⟩ := h
    have nd := scLWork.nd
    have hs16 : sizeLine = 16777216 := sizeLine_eq
    refine ⟨_, pss_cons (ps_set (i := 1) nd rfl (Or.inl rfl) (pe_callF Fn hr (pa_cons (pe_ix ix_list (pv 0) pe_int (fun _ _ => rfl)) pa_nil))) <|
      pss_cons (ps_if (pt_cmpR op_eq (pe_op op_mod (pe_ix ix_list (pv 0) pe_int (fun _ _ => rfl)) pe_int) pe_int (nomark _)) (pss_one (ps_ret (pe_tupA (pa_cons pe_str (pa_cons (pv 1) pa_nil))))) pss_nil) <|
      pss_cons (ps_set (i := 2) nd rfl (Or.inl rfl) (pe_ix ix_list (pe_lstA (pa_cons (pe_op op_sub (pe_ix ix_list (pv 0) pe_int (fun _ _ => rfl)) pe_int) (pa_cons (pe_op op_sub (pe_op op_mul (pe_op op_mod (pe_ix ix_list (pv 0) pe_int (fun _ _ => rfl)) (pe_op op_pow pe_int pe_int)) (pe_op op_pow pe_int pe_int)) (pe_op op_pow pe_int pe_int)) pa_nil))) (pe_op op_mod (pe_op op_fdiv (pe_ix ix_list (pv 0) pe_int (fun _ _ => rfl)) pe_int) pe_int) (fun _ _ => rfl))) <|
      pss_one (ps_ret (pe_tupA (pa_cons (pe_ix ix_list (pe_lstA (pa_cons pe_str (pa_cons pe_str pa_nil))) (pe_op op_sub (pe_op op_mod (pe_ix ix_list (pv 0) pe_int (fun _ _ => rfl)) pe_int) pe_int) (fun _ _ => rfl)) (pa_cons (pv 1) (pa_cons (pv 2) pa_nil))))), ?_⟩
    obtain ⟨d0, i0, p0, q0⟩ := hD.ix 0 (by decide)
    obtain ⟨d1, i1, p1, q1⟩ := hD.ix 1 (by decide)
    obtain ⟨d2, i2, p2, q2⟩ := hD.ix 2 (by decide)
    refine ⟨_, rfl, a, _, _, _, rfl, rfl, SqL.of hD.at', i0, d0, rfl, p0, fun x hx => ?_⟩
    refine ⟨_, rfl, a, _, _, _, rfl, rfl, SqL.of hD.at', i1, _, _, rfl, rfl, (by dsimp only; decide), rfl, _, rfl, ?_⟩
    have m0 := Int.emod_nonneg d1 (show (3 : Int) ≠ 0 by decide)
    have m1 := Int.emod_lt_of_pos d1 (show (0 : Int) < 3 by decide)
    by_cases hz : d1 % 3 = 0
    · rw [decide_eq_true (show V.int (d1 % 3) = V.int 0 by rw [hz])]
      exact iteT ⟨_, rfl, (by show 2 ≤ sizeLine; decide), fun t H1 nt s1 et => q t _ H1 s1 et (.drop hx)⟩
    rw [decide_eq_false (show ¬ V.int (d1 % 3) = V.int 0 from fun e => hz (by injection e))]
    refine iteF ?_
    have e60 : (10 : Int) ^ 60 = 1000000000000000000000000000000000000000000000000000000000000 := by decide
    have e50 : (10 : Int) ^ 50 = 100000000000000000000000000000000000000000000000000 := by decide
    have e40 : (10 : Int) ^ 40 = 10000000000000000000000000000000000000000 := by decide
    have e19 : (10 : Int) ^ 19 = 10000000000000000000 := by decide
    have y0 := Int.emod_nonneg d2 (show ((10 : Int) ^ 19) ≠ 0 by decide)
    have y1 := Int.emod_lt_of_pos d2 (show (0 : Int) < (10 : Int) ^ 19 by decide)
    refine ⟨_, rfl, a, _, _, _, rfl, rfl, SqL.of hD.at', i2, _, _, rfl, rfl, ?_⟩
    refine ⟨_, rfl, a, _, _, _, rfl, rfl, SqL.of hD.at', i2, _, _, rfl, rfl, ⟨by decide, by decide, by decide⟩, _, _, rfl, rfl, (by show (0 : Int) < 10 ^ 19; decide), ?_⟩
    have yy : d2 % (10 : Int) ^ 19 < 2 ^ 64 := Int.lt_trans y1 (by decide)
    refine ⟨_, _, rfl, rfl, ⟨by decide, by decide, by decide⟩, _, _, rfl, rfl, .inl ⟨Int.lt_of_lt_of_le (by decide) y0, yy⟩, _, _, rfl, rfl, ⟨by decide, by decide, by decide⟩, _, _, rfl, rfl, ?_⟩
    refine ⟨(by show 2 ≤ sizeLine; decide), fun l H1 nl s1 el => ?_⟩
    have hD1 := hD.same s1
    refine ⟨_, rfl, a, _, _, _, rfl, rfl, SqL.of hD1.at', i1, _, _, rfl, rfl, ⟨by decide, by decide⟩, _, _, rfl, rfl, (by dsimp only; decide), ?_⟩
    have k0 := Int.emod_nonneg (d1 / 3) (show (2 : Int) ≠ 0 by decide)
    have k1 := Int.emod_lt_of_pos (d1 / 3) (show (0 : Int) < 2 by decide)
    obtain ⟨v, hv, hm⟩ := atI_in (xs := [V.int (d2 - 50), V.int (d2 % (10 : Int) ^ 19 * (10 : Int) ^ 40 - (10 : Int) ^ 50)]) k0 k1
    have hv2 : ∃ z : Int, v = .int z ∧ isNum z := by
      simp only [List.mem_cons, List.not_mem_nil, or_false] at hm
      rcases hm with rfl | rfl
      · have q2 : d2 < 1000000000000000000000 := q2
        exact ⟨_, rfl, by rw [e60]; lia, by rw [e60]; lia⟩
      · generalize d2 % (10 : Int) ^ 19 = y at y0 y1
        refine ⟨_, rfl, ?_, ?_⟩ <;> rw [e60, e50, e40] <;> rw [e19] at y1 <;> lia
    obtain ⟨z, rfl, hz2⟩ := hv2
    refine ⟨l, _, _, _, rfl, rfl, SqL.of el, hv, ?_⟩
    refine ⟨(by show 2 ≤ sizeLine; decide), fun l2 H2 nl2 s2 el2 => ?_⟩
    have hD2 := hD1.same s2
    refine ⟨_, rfl, a, _, _, _, rfl, rfl, SqL.of hD2.at', i1, _, _, rfl, rfl, (by dsimp only; decide), _, _, rfl, rfl, ?_⟩
    obtain ⟨u, hu, hm2⟩ := atI_in (xs := [V.str "put", V.str "add"]) (show 0 ≤ d1 % 3 - 1 by lia) (by show d1 % 3 - 1 < 2; lia)
    refine ⟨l2, _, _, _, rfl, rfl, SqL.of el2, hu, _, rfl, _, rfl, (by show 3 ≤ sizeLine; decide), fun t H3 nt s3 et => ?_⟩
    refine q t _ H3 ((s1.trans s2).trans s3) et ?_
    simp only [List.mem_cons, List.not_mem_nil, or_false] at hm2
    rcases hm2 with rfl | rfl
    · exact .put hx hz2
    · exact .add hx hz2
end
end K31

set_option maxHeartbeats 8000000
namespace K31
open PySem L2
theorem strsQ {ys : List V} {R : Str → Prop} (h : ∀ (i : Nat) (y : V), ys[i]? = some y → ∃ x : Str, y = V.str x ∧ R x) : ∃ zs : List Str, ys = zs.map V.str ∧ ∀ z ∈ zs, R z := by
  induction ys with
  | nil => exact ⟨[], rfl, fun z hz => by simp at hz⟩
  | cons y r ih =>
    obtain ⟨x, rfl, hx⟩ := h 0 y rfl
    obtain ⟨zs, e, hz⟩ := ih fun i z e => h (i + 1) z (by simpa using e)
    refine ⟨x :: zs, by rw [e]; rfl, fun z hz' => ?_⟩
    rcases List.mem_cons.mp hz' with rfl | q
    · exact hx
    · exact hz z q
/-- names in order, each once -/
structure Row (zs : List Str) (n : Nat) : Prop where
  pw : zs.Pairwise ltS
  nm : ∀ z ∈ zs, Nm z
  le : zs.length ≤ n
theorem Row.mk' {zs xs : List Str} {n : Nat} (h1 : zs.Pairwise leS) (h2 : zs.Nodup) (hm : ∀ z, z ∈ zs ↔ z ∈ xs) (hx : ∀ x ∈ xs, Nm x) (hl : xs.length ≤ n) : Row zs n :=
  ⟨rising_of h1 h2, fun z hz => hx z ((hm z).mp hz), Nat.le_trans (nodup_le h2 fun z hz => (hm z).mp hz) hl⟩
theorem Row.rise {zs : List Str} {n : Nat} (h : Row zs n) : riseB (some (zs.map V.str)) = true := rise_of h.nm (pw_adj h.pw)
theorem Row.pt {zs : List Str} {n : Nat} {H : Hp} {a : Addr} (h : Row zs n) (hn : n ≤ 7) (ha : H a = some (.tup (zs.map V.str))) : PtAt H (.ref a) (some (zs.map V.str)) := .tup ha (by rw [List.length_map]; have := h.le; lia) fun x hx => by
  obtain ⟨z, hz, rfl⟩ := List.mem_map.mp hx
  exact Im.nm (h.nm z hz)
theorem Row.filter {zs : List Str} {n : Nat} (h : Row zs n) (f : Str → Bool) : Row (zs.filter f) n := ⟨h.pw.filter f, fun z hz => h.nm z (List.mem_filter.mp hz).1, Nat.le_trans (List.length_filter_le _ _) h.le⟩
theorem bench_ok {vs cs ls : List Str} (hv : Row vs 4) (hc : Row cs 2) (hl : Row ls 2) (v1 : 1 ≤ vs.length) (hx : com vs cs ls = false) : bnB (some (some (vs.map V.str), some (cs.map V.str), some (ls.map V.str))) = true := by
  have := hv.le
  have := hc.le
  have := hl.le
  rw [bn_fit (by rw [hv.rise, hc.rise, hl.rise]; rfl), fit_yes v1 (by lia) (by lia) (by lia), hx]
  rfl
theorem com_no (vs cs ls : List Str) {sp : List Str} (h : sp = if cs = [] then vs else cs) : com vs cs (ls.filter fun x => !decide (x ∈ sp)) = false := by
  unfold com
  rw [← h, List.any_eq_false]
  intro x hx
  have := (List.mem_filter.mp hx).2
  simpa using this
def spLBench : Sp := fun us H Q _ => ∃ (a : Addr) (ds : List Int), us = [.ref a] ∧ Dg H a ds 9 ∧ ∀ (t : Addr) (o : Tr) (H' : Hp), Same H H' → BnAt H' (.ref t) o → bnB o = true → Q (.ref t) H'
def spLEntry : Sp := fun us H Q _ => ∃ (a : Addr) (ds : List Int), us = [.ref a] ∧ Dg H a ds 11 ∧ ∀ (t : Addr) (H' : Hp), Same H H' → EnV H' (.ref t) true → Q (.ref t) H'
section
variable {P : Program} {w : World} {K : PySem.W.Frag} {mg : Str → Option Value} {base : Heap}
abbrev nLB : List Str := ["_law_digits_here", "_law_voters", "_law_coming", "_law_speaking", "_law_learners"]
theorem scLB : FnScope nLB pLD (defScope sLBench) := ⟨rfl, rfl, rfl, by decide +kernel, rfl, by decide +kernel, by decide +kernel⟩
theorem ndLB1 : (nLB ++ (["_law_digit"] : List Str)).Nodup := by decide +kernel
theorem ndLB2 : (nLB ++ (["_law_name_here"] : List Str)).Nodup := by decide +kernel
theorem ok_lbench {f : Addr} {fd : FuncData} (F : Fun K "_law_bench" "_law_bench" sLBench f fd) (B : Blt mg) (T : Bl2 mg) (Fn : FnAt P w K mg base 1 "_law_name" ["_law_digit"] spLName) : FnOk P w K mg base CX0 2 f fd pLD spLBench := by
  refine F.ok scLB (fun vs H Q E h => ?_) (fun cdv A outer s H vs Q E hr h => ?_)
  · obtain ⟨a, ds, rfl, _⟩ := h
    rfl
  · obtain ⟨a, ds, rfl, hD, q⟩ := h
    have nd := scLB.nd
    have hu := hu_of hr
    have hs16 : sizeLine = 16777216 := sizeLine_eq
    refine ⟨_, pss_cons (ps_set (i := 1) nd rfl (Or.inl rfl) (pe_sortSetL rfl (pe_lc nLB nLB ["_law_digit"] (defScope sLBench) rfl rfl rfl (by decide +kernel) rfl rfl (by decide +kernel) (by decide +kernel) (by decide +kernel) (by decide +kernel)
          (pi_list (pe_slice sl_list (pv 0) po_none (po_some (pe_op op_add pe_int (pe_op op_mod (pe_ix ix_list (pv 0) pe_int (fun _ _ => rfl)) pe_int))))) (fun _ _ _ _ _ => pg_name (i := 5) ndLB1 rfl (Or.inl rfl)) (fun _ _ _ _ _ => pts_nil) (fun _ _ _ _ _ => pe_callF (X := cxC _ _ _ _ _ _ _ _ _) Fn hr (pa_cons (pv 5) pa_nil))) (by rfl) B.sorted (by rfl) T.set)) <|
      pss_cons (ps_set (i := 2) nd rfl (Or.inl rfl) (pe_sortSetL rfl (pe_lc nLB nLB ["_law_digit"] (defScope sLBench) rfl rfl rfl (by decide +kernel) rfl rfl (by decide +kernel) (by decide +kernel) (by decide +kernel) (by decide +kernel)
          (pi_list (pe_slice sl_list (pv 0) (po_some pe_int) (po_some (pe_op op_add pe_int (pe_op op_mod (pe_op op_fdiv (pe_ix ix_list (pv 0) pe_int (fun _ _ => rfl)) pe_int) pe_int))))) (fun _ _ _ _ _ => pg_name (i := 5) ndLB1 rfl (Or.inl rfl)) (fun _ _ _ _ _ => pts_nil) (fun _ _ _ _ _ => pe_callF (X := cxC _ _ _ _ _ _ _ _ _) Fn hr (pa_cons (pv 5) pa_nil))) (by rfl) B.sorted (by rfl) T.set)) <|
      pss_cons (ps_set (i := 3) nd rfl (Or.inr rfl) (pv 2)) <|
      pss_cons (ps_if (pt_cmpR (op_eqE hu) (pv 2) (pe_lstA pa_nil) (nomark _)) (pss_one (ps_set (i := 3) nd rfl (Or.inr rfl) (pv 1))) pss_nil) <|
      pss_cons (ps_set (i := 4) nd rfl (Or.inl rfl) (pe_sortSetL rfl (pe_lc nLB nLB ["_law_digit"] (defScope sLBench) rfl rfl rfl (by decide +kernel) rfl rfl (by decide +kernel) (by decide +kernel) (by decide +kernel) (by decide +kernel)
          (pi_list (pe_slice sl_list (pv 0) (po_some pe_int) (po_some pe_int))) (fun _ _ _ _ _ => pg_name (i := 5) ndLB1 rfl (Or.inl rfl)) (fun _ _ _ _ _ => pts_nil) (fun _ _ _ _ _ => pe_callF (X := cxC _ _ _ _ _ _ _ _ _) Fn hr (pa_cons (pv 5) pa_nil))) (by rfl) B.sorted (by rfl) T.set)) <|
      pss_one (ps_ret (pe_tupA (pa_cons (pe_callTy call_tupleA (by rfl) B.tuple bTuple (pa_cons (pv 1) pa_nil)) (pa_cons (pe_callTy call_tupleA (by rfl) B.tuple bTuple (pa_cons (pv 2) pa_nil)) (pa_cons (pe_callTy call_tupleA (by rfl) B.tuple bTuple (pa_cons (pe_lc nLB nLB ["_law_name_here"] (defScope sLBench) rfl rfl rfl (by decide +kernel) rfl rfl (by decide +kernel) (by decide +kernel) (by decide +kernel) (by decide +kernel)
          (pi_list (pv 4)) (fun _ _ _ _ _ => pg_name (i := 5) ndLB2 rfl (Or.inl rfl)) (fun _ _ _ _ _ => pts_one (pt_cmpR op_notIn_seqC (pv 5) (pv 3) (by rfl))) (fun _ _ _ _ _ => pv 5)) pa_nil)) pa_nil))))), ?_⟩
    obtain ⟨d8, i8, p8, q8⟩ := hD.ix 8 (by decide)
    have m0 := Int.emod_nonneg d8 (show (4 : Int) ≠ 0 by decide)
    have m1 := Int.emod_lt_of_pos d8 (show (0 : Int) < 4 by decide)
    have k0 := Int.emod_nonneg (d8 / 4) (show (3 : Int) ≠ 0 by decide)
    have k1 := Int.emod_lt_of_pos (d8 / 4) (show (0 : Int) < 3 by decide)
    have dl := hD.le
    obtain ⟨n1, en1⟩ := Int.eq_ofNat_of_zero_le (show 0 ≤ 1 + d8 % 4 by lia)
    obtain ⟨n2, en2⟩ := Int.eq_ofNat_of_zero_le (show 0 ≤ 4 + d8 / 4 % 3 by lia)
    refine ⟨_, rfl, _, rfl, a, _, _, _, rfl, rfl, SqL.of hD.at', i8, _, _, rfl, rfl, (by dsimp only; decide), _, _, rfl, rfl, _, rfl, a, _, rfl, SqL.of hD.at', fun p1 np1 => ?_⟩
    have s1 : Same H _ := Same.new (o := .lst (cutV (ds.map V.int) none (some (1 + d8 % 4)))) np1
    have c1 : upd H p1 (.lst (cutV (ds.map V.int) none (some (1 + d8 % 4)))) p1 = _ := upd_same
    generalize upd H p1 (.lst (cutV (ds.map V.int) none (some (1 + d8 % 4)))) = H1 at s1 c1 ⊢
    obtain ⟨es1, ee1, em1, el1⟩ := cutF (ds := ds) (b := n1) (by lia)
    rw [en1] at c1
    rw [ee1] at c1
    refine ⟨p1, rfl, ⟨_, SqL.of c1⟩, ?_⟩
    refine lcL0 (fun _ y => ∃ x : Str, y = V.str x ∧ Nm x) rfl (SqL.of c1) (by rw [List.length_map]; lia) (fun D i x ys post hx hD' hpost => ?_) (fun D ys hD' hyl hR => ?_)
    · obtain ⟨d, hd, rfl⟩ := List.mem_map.mp (List.mem_of_getElem? hx)
      exact ⟨_, rfl, d, rfl, (hD.ok d (em1 d hd)).1, fun x hx => hpost _ ⟨x, rfl, hx⟩⟩
    obtain ⟨xs1, rfl, nx1⟩ := strsQ (R := Nm) hR
    rw [List.length_map, List.length_map] at hyl
    refine ⟨D, xs1, rfl, SqL.of upd_same, by lia, fun l1 zs1 nl1 pz1 dz1 mz1 => ?_⟩
    have t1 : Same H1 _ := (Same.new (o := .lst (xs1.map V.str)) hD').trans (Same.new (o := .lst (zs1.map V.str)) nl1)
    have f1 : upd (upd H1 D (.lst (xs1.map V.str))) l1 (.lst (zs1.map V.str)) l1 = _ := upd_same
    generalize upd (upd H1 D (.lst (xs1.map V.str))) l1 (.lst (zs1.map V.str)) = H2 at t1 f1 ⊢
    have rz1 : Row zs1 4 := Row.mk' pz1 dz1 mz1 nx1 (by lia)
    have v1 : 1 ≤ zs1.length := by
      have : xs1 ≠ [] := fun e => by rw [e] at hyl; simp at hyl; lia
      obtain ⟨x, r, ex⟩ := List.exists_cons_of_ne_nil this
      exact List.length_pos_of_mem ((mz1 x).mpr (by rw [ex]; exact List.mem_cons_self))
    have hD2 := (hD.same s1).same t1
    refine ⟨_, rfl, _, rfl, _, rfl, a, _, _, _, rfl, rfl, SqL.of hD2.at', i8, _, _, rfl, rfl, ⟨by decide, by decide⟩, _, _, rfl, rfl, (by dsimp only; decide), _, _, rfl, rfl, _, rfl, a, _, rfl, SqL.of hD2.at', fun p2 np2 => ?_⟩
    have s2 : Same H2 _ := Same.new (o := .lst (cutV (ds.map V.int) (some 4) (some (4 + d8 / 4 % 3)))) np2
    have c2 : upd H2 p2 (.lst (cutV (ds.map V.int) (some 4) (some (4 + d8 / 4 % 3)))) p2 = _ := upd_same
    generalize upd H2 p2 (.lst (cutV (ds.map V.int) (some 4) (some (4 + d8 / 4 % 3)))) = H3 at s2 c2 ⊢
    obtain ⟨es2, ee2, em2, el2⟩ := cutN (ds := ds) (a := 4) (b := n2) (by lia) (by lia)
    rw [en2, show (4 : Int) = ((4 : Nat) : Int) from rfl] at c2
    rw [ee2] at c2
    refine ⟨p2, rfl, ⟨_, SqL.of c2⟩, ?_⟩
    refine lcL0 (fun _ y => ∃ x : Str, y = V.str x ∧ Nm x) rfl (SqL.of c2) (by rw [List.length_map]; lia) (fun D i x ys post hx hD' hpost => ?_) (fun D ys hD' hyl hR => ?_)
    · obtain ⟨d, hd, rfl⟩ := List.mem_map.mp (List.mem_of_getElem? hx)
      exact ⟨_, rfl, d, rfl, (hD.ok d (em2 d hd)).1, fun x hx => hpost _ ⟨x, rfl, hx⟩⟩
    obtain ⟨xs2, rfl, nx2⟩ := strsQ (R := Nm) hR
    rw [List.length_map, List.length_map] at hyl
    refine ⟨D, xs2, rfl, SqL.of upd_same, by lia, fun l2 zs2 nl2 pz2 dz2 mz2 => ?_⟩
    have t2 : Same H3 _ := (Same.new (o := .lst (xs2.map V.str)) hD').trans (Same.new (o := .lst (zs2.map V.str)) nl2)
    have f2 : upd (upd H3 D (.lst (xs2.map V.str))) l2 (.lst (zs2.map V.str)) l2 = _ := upd_same
    generalize upd (upd H3 D (.lst (xs2.map V.str))) l2 (.lst (zs2.map V.str)) = H4 at t2 f2 ⊢
    have rz2 : Row zs2 2 := Row.mk' pz2 dz2 mz2 nx2 (by lia)
    refine ⟨_, rfl, _, rfl, Nat.zero_le _, fun l0 H5 n0 s5 e5 => ?_⟩
    refine ⟨l2, l0, _, rfl, rfl, SqL.of (s5 _ _ f2), SqL.of e5, _, rfl, ?_⟩
    have hD5 := ((hD2.same s2).same t2).same s5
    have g1 := s5 _ _ (t2 _ _ (s2 _ _ f1))
    have g2 := s5 _ _ f2
    have s05 := (((s1.trans t1).trans s2).trans t2).trans s5
    by_cases hz : zs2 = []
    · rw [show (zs2.map V.str).isEmpty = true by rw [hz]; rfl]
      refine iteT ?_
      refine ⟨_, rfl, _, rfl, _, rfl, _, rfl, a, _, rfl, SqL.of hD5.at', fun p3 np3 => ?_⟩
      have s6 : Same H5 _ := Same.new (o := .lst (cutV (ds.map V.int) (some 6) (some 8))) np3
      have c3 : upd H5 p3 (.lst (cutV (ds.map V.int) (some 6) (some 8))) p3 = _ := upd_same
      generalize upd H5 p3 (.lst (cutV (ds.map V.int) (some 6) (some 8))) = H6 at s6 c3 ⊢
      obtain ⟨es3, ee3, em3, el3⟩ := cutN (ds := ds) (a := 6) (b := 8) (by lia) (by lia)
      rw [show cutV (ds.map V.int) (some 6) (some 8) = es3.map V.int from ee3] at c3
      refine ⟨p3, rfl, ⟨_, SqL.of c3⟩, ?_⟩
      refine lcL0 (fun _ y => ∃ x : Str, y = V.str x ∧ Nm x) rfl (SqL.of c3) (by rw [List.length_map]; lia) (fun D i x ys post hx hD' hpost => ?_) (fun D ys hD' hyl hR => ?_)
      · obtain ⟨d, hd, rfl⟩ := List.mem_map.mp (List.mem_of_getElem? hx)
        exact ⟨_, rfl, d, rfl, (hD.ok d (em3 d hd)).1, fun x hx => hpost _ ⟨x, rfl, hx⟩⟩
      obtain ⟨xs3, rfl, nx3⟩ := strsQ (R := Nm) hR
      rw [List.length_map, List.length_map] at hyl
      refine ⟨D, xs3, rfl, SqL.of upd_same, by lia, fun l3 zs3 nl3 pz3 dz3 mz3 => ?_⟩
      have t3 : Same H6 _ := (Same.new (o := .lst (xs3.map V.str)) hD').trans (Same.new (o := .lst (zs3.map V.str)) nl3)
      have f3 : upd (upd H6 D (.lst (xs3.map V.str))) l3 (.lst (zs3.map V.str)) l3 = _ := upd_same
      generalize upd (upd H6 D (.lst (xs3.map V.str))) l3 (.lst (zs3.map V.str)) = H7 at t3 f3 ⊢
      have rz3 : Row zs3 2 := Row.mk' pz3 dz3 mz3 nx3 (by lia)
      have s57 := s6.trans t3
      refine ⟨_, rfl, l1, _, rfl, SqL.of (s57 _ _ g1), fun v H8 nv s8 ev => ?_⟩
      refine ⟨_, rfl, l2, _, rfl, SqL.of (s8 _ _ (s57 _ _ g2)), fun c H9 nc s9 ec => ?_⟩
      have s59 := (s57.trans s8).trans s9
      have s79 := s8.trans s9
      refine ⟨_, rfl, l3, rfl, ⟨_, SqL.of (s79 _ _ f3)⟩, ?_⟩
      refine lcFL (fun u => !inV u (zs1.map V.str)) rfl (SqL.of (s79 _ _ f3)) (by rw [List.length_map]; have := rz3.le; lia) (fun D x us post hD' hx hpost => ?_) (fun D hD' => ?_)
      · obtain ⟨z, hz, rfl⟩ := List.mem_map.mp hx
        have e3 : upd H9 D (.lst us) l1 = some (.lst (zs1.map V.str)) := by rw [upd_ne (ne_of_none (s59 _ _ g1) hD')]; exact s59 _ _ g1
        exact ⟨_, rfl, _, rfl, l1, _, rfl, .inl (SqL.of e3), rfl, flat_strs zs1, _, rfl, hpost⟩
      rw [filter_strs]
      have s10 : Same H9 _ := Same.new (o := .lst ((zs3.filter fun x => !decide (x ∈ zs1)).map V.str)) hD'
      have e10 : upd H9 D (.lst ((zs3.filter fun x => !decide (x ∈ zs1)).map V.str)) D = _ := upd_same
      generalize upd H9 D (.lst ((zs3.filter fun x => !decide (x ∈ zs1)).map V.str)) = H10 at s10 e10 ⊢
      refine ⟨D, _, rfl, SqL.of e10, fun lt H11 nlt s11 elt => ?_⟩
      refine ⟨(by show 3 ≤ sizeLine; decide), fun t H12 nt s12 et => ?_⟩
      have sAll := (((s05.trans s59).trans s10).trans s11).trans s12
      have s1012 := (s10.trans s11).trans s12
      refine q t _ H12 sAll (.tri et (rz1.pt (by decide) (s1012 _ _ (s9 _ _ ev))) (rz2.pt (by decide) (s1012 _ _ ec)) ((rz3.filter _).pt (by decide) (s12 _ _ elt))) (bench_ok rz1 rz2 (rz3.filter _) v1 (com_no _ _ _ (by rw [if_pos hz])))
    · rw [show (zs2.map V.str).isEmpty = false by cases zs2 with | nil => exact absurd rfl hz | cons _ _ => rfl]
      refine iteF ?_
      refine ⟨_, rfl, _, rfl, _, rfl, a, _, rfl, SqL.of hD5.at', fun p3 np3 => ?_⟩
      have s6 : Same H5 _ := Same.new (o := .lst (cutV (ds.map V.int) (some 6) (some 8))) np3
      have c3 : upd H5 p3 (.lst (cutV (ds.map V.int) (some 6) (some 8))) p3 = _ := upd_same
      generalize upd H5 p3 (.lst (cutV (ds.map V.int) (some 6) (some 8))) = H6 at s6 c3 ⊢
      obtain ⟨es3, ee3, em3, el3⟩ := cutN (ds := ds) (a := 6) (b := 8) (by lia) (by lia)
      rw [show cutV (ds.map V.int) (some 6) (some 8) = es3.map V.int from ee3] at c3
      refine ⟨p3, rfl, ⟨_, SqL.of c3⟩, ?_⟩
      refine lcL0 (fun _ y => ∃ x : Str, y = V.str x ∧ Nm x) rfl (SqL.of c3) (by rw [List.length_map]; lia) (fun D i x ys post hx hD' hpost => ?_) (fun D ys hD' hyl hR => ?_)
      · obtain ⟨d, hd, rfl⟩ := List.mem_map.mp (List.mem_of_getElem? hx)
        exact ⟨_, rfl, d, rfl, (hD.ok d (em3 d hd)).1, fun x hx => hpost _ ⟨x, rfl, hx⟩⟩
      obtain ⟨xs3, rfl, nx3⟩ := strsQ (R := Nm) hR
      rw [List.length_map, List.length_map] at hyl
      refine ⟨D, xs3, rfl, SqL.of upd_same, by lia, fun l3 zs3 nl3 pz3 dz3 mz3 => ?_⟩
      have t3 : Same H6 _ := (Same.new (o := .lst (xs3.map V.str)) hD').trans (Same.new (o := .lst (zs3.map V.str)) nl3)
      have f3 : upd (upd H6 D (.lst (xs3.map V.str))) l3 (.lst (zs3.map V.str)) l3 = _ := upd_same
      generalize upd (upd H6 D (.lst (xs3.map V.str))) l3 (.lst (zs3.map V.str)) = H7 at t3 f3 ⊢
      have rz3 : Row zs3 2 := Row.mk' pz3 dz3 mz3 nx3 (by lia)
      have s57 := s6.trans t3
      refine ⟨_, rfl, l1, _, rfl, SqL.of (s57 _ _ g1), fun v H8 nv s8 ev => ?_⟩
      refine ⟨_, rfl, l2, _, rfl, SqL.of (s8 _ _ (s57 _ _ g2)), fun c H9 nc s9 ec => ?_⟩
      have s59 := (s57.trans s8).trans s9
      have s79 := s8.trans s9
      refine ⟨_, rfl, l3, rfl, ⟨_, SqL.of (s79 _ _ f3)⟩, ?_⟩
      refine lcFL (fun u => !inV u (zs2.map V.str)) rfl (SqL.of (s79 _ _ f3)) (by rw [List.length_map]; have := rz3.le; lia) (fun D x us post hD' hx hpost => ?_) (fun D hD' => ?_)
      · obtain ⟨z, hz, rfl⟩ := List.mem_map.mp hx
        have e3 : upd H9 D (.lst us) l2 = some (.lst (zs2.map V.str)) := by rw [upd_ne (ne_of_none (s59 _ _ g2) hD')]; exact s59 _ _ g2
        exact ⟨_, rfl, _, rfl, l2, _, rfl, .inl (SqL.of e3), rfl, flat_strs zs2, _, rfl, hpost⟩
      rw [filter_strs]
      have s10 : Same H9 _ := Same.new (o := .lst ((zs3.filter fun x => !decide (x ∈ zs2)).map V.str)) hD'
      have e10 : upd H9 D (.lst ((zs3.filter fun x => !decide (x ∈ zs2)).map V.str)) D = _ := upd_same
      generalize upd H9 D (.lst ((zs3.filter fun x => !decide (x ∈ zs2)).map V.str)) = H10 at s10 e10 ⊢
      refine ⟨D, _, rfl, SqL.of e10, fun lt H11 nlt s11 elt => ?_⟩
      refine ⟨(by show 3 ≤ sizeLine; decide), fun t H12 nt s12 et => ?_⟩
      have sAll := (((s05.trans s59).trans s10).trans s11).trans s12
      have s1012 := (s10.trans s11).trans s12
      refine q t _ H12 sAll (.tri et (rz1.pt (by decide) (s1012 _ _ (s9 _ _ ev))) (rz2.pt (by decide) (s1012 _ _ ec)) ((rz3.filter _).pt (by decide) (s12 _ _ elt))) (bench_ok rz1 rz2 (rz3.filter _) v1 (com_no _ _ _ (by rw [if_neg hz])))
end
end K31

set_option maxHeartbeats 8000000
namespace K31
open PySem L2
theorem Im.int {H : Hp} {i : Int} : Im H (.int i) := ⟨.inl rfl, fun z e => by cases e⟩
theorem Nb.str {x : Str} : Nb (.str x) := fun i e => by cases e
theorem Wk.at' {xs : List V} {H : Hp} {t : Addr} (h : Wk xs) (ht : H t = some (.tup xs)) : WAt H (.ref t) (some xs) ∧ wkB (some xs) = true := by
  cases h with
  | drop hx =>
    refine ⟨.tup ht (by show 2 ≤ 60; decide) fun y hy => ?_, ?_⟩
    · simp only [List.mem_cons, List.not_mem_nil, or_false] at hy
      rcases hy with rfl | rfl
      · exact ⟨Im.str (by decide +kernel), Nb.str⟩
      · exact ⟨Im.nm hx, Nb.str⟩
    · rw [wk_drop (nm_nmB hx)]
      rfl
  | put hx hz =>
    refine ⟨.tup ht (by show 3 ≤ 60; decide) fun y hy => ?_, ?_⟩
    · simp only [List.mem_cons, List.not_mem_nil, or_false] at hy
      rcases hy with rfl | rfl | rfl
      · exact ⟨Im.str (by decide +kernel), Nb.str⟩
      · exact ⟨Im.nm hx, Nb.str⟩
      · exact ⟨Im.int, fun i e => by cases e; exact hz⟩
    · rw [wk_else (nm_nmB hx) (by decide +kernel), decide_eq_true rfl]
      rfl
  | add hx hz =>
    refine ⟨.tup ht (by show 3 ≤ 60; decide) fun y hy => ?_, ?_⟩
    · simp only [List.mem_cons, List.not_mem_nil, or_false] at hy
      rcases hy with rfl | rfl | rfl
      · exact ⟨Im.str (by decide +kernel), Nb.str⟩
      · exact ⟨Im.nm hx, Nb.str⟩
      · exact ⟨Im.int, fun i e => by cases e; exact hz⟩
    · rw [wk_else (nm_nmB hx) (by decide +kernel), show decide (V.str "add" = V.str "add") = true from decide_eq_true rfl, Bool.or_true]
      rfl
theorem fb1 {i : Int} (h : 1 ≤ i) : fromB 1 (.int i) = true := decide_eq_true h
section
variable {P : Program} {w : World} {K : PySem.W.Frag} {mg : Str → Option Value} {base : Heap}
abbrev nLE : List Str := ["_law_digits_here", "_law_term", "_law_way"]
theorem scLE : FnScope nLE pLD (defScope sLEntry) := ⟨rfl, rfl, rfl, by decide +kernel, rfl, by decide +kernel, by decide +kernel⟩
theorem ok_lentry {f : Addr} {fd : FuncData} (F : Fun K "_law_entry" "_law_entry" sLEntry f fd) (Fn : FnAt P w K mg base 1 "_law_name" ["_law_digit"] spLName) (Fw : FnAt P w K mg base 2 "_law_work" pLD spLWork) (Fb : FnAt P w K mg base 2 "_law_bench" pLD spLBench) : FnOk P w K mg base CX0 3 f fd pLD spLEntry := by
  refine F.ok scLE (fun vs H Q E h => ?_) (fun cdv A outer s H vs Q E hr h => ?_)
  · obtain ⟨a, ds, rfl, _⟩ := h
    rfl
  · obtain ⟨a, ds, rfl, hD, q⟩ := h
    have nd := scLE.nd
    have r1 : Room 1 _ := hr.mono (by decide)
    refine ⟨_, pss_cons (ps_set (i := 1) nd rfl (Or.inl rfl) (pe_op op_add pe_int (pe_op op_mod (pe_ix ix_list (pv 0) pe_int (fun _ _ => rfl)) (pe_ix ix_list (pe_lstA (pa_cons pe_int (pa_cons (pe_op op_pow pe_int pe_int) pa_nil))) (pe_op op_mod (pe_ix ix_list (pv 0) pe_int (fun _ _ => rfl)) pe_int) (fun _ _ => rfl))))) <|
      pss_cons (ps_set (i := 2) nd rfl (Or.inl rfl) (pe_op op_mod (pe_op op_fdiv (pe_ix ix_list (pv 0) pe_int (fun _ _ => rfl)) pe_int) pe_int)) <|
      pss_cons (ps_if (pt_cmpR op_eq (pv 2) pe_int (nomark _)) (pss_one (ps_ret (pe_tupA (pa_cons (pv 1) (pa_cons (pe_tupA (pa_cons pe_str pa_nil)) pa_nil))))) pss_nil) <|
      pss_cons (ps_if (pt_cmpR op_eq (pv 2) pe_int (nomark _)) (pss_one (ps_ret (pe_tupA (pa_cons (pv 1) (pa_cons (pe_tupA (pa_cons pe_str (pa_cons (pe_callF Fn r1 (pa_cons (pe_ix ix_list (pv 0) pe_int (fun _ _ => rfl)) pa_nil)) (pa_cons (pe_op op_add pe_int (pe_op op_mod (pe_ix ix_list (pv 0) pe_int (fun _ _ => rfl)) (pe_op op_pow pe_int pe_int))) (pa_cons (pe_callF Fw hr (pa_cons (pe_slice sl_list (pv 0) (po_some pe_int) po_none) pa_nil)) pa_nil))))) pa_nil))))) pss_nil) <|
      pss_one (ps_ret (pe_tupA (pa_cons (pv 1) (pa_cons (pe_tupA (pa_cons pe_str (pa_cons (pe_callF Fb hr (pa_cons (pe_slice sl_list (pv 0) (po_some pe_int) po_none) pa_nil)) pa_nil))) pa_nil)))), ?_⟩
    obtain ⟨d0, i0, p0, q0⟩ := hD.ix 0 (by decide)
    obtain ⟨d1, i1, p1, q1⟩ := hD.ix 1 (by decide)
    obtain ⟨d2, i2, p2, q2⟩ := hD.ix 2 (by decide)
    obtain ⟨d3, i3, p3, q3⟩ := hD.ix 3 (by decide)
    have dl := hD.le
    refine ⟨_, rfl, a, _, _, _, rfl, rfl, SqL.of hD.at', i0, _, _, rfl, rfl, ⟨by decide, by decide, by decide⟩, (by show 2 ≤ sizeLine; decide), fun l H1 nl s1 el => ?_⟩
    have hD1 := hD.same s1
    have k0 := Int.emod_nonneg d1 (show (2 : Int) ≠ 0 by decide)
    have k1 := Int.emod_lt_of_pos d1 (show (0 : Int) < 2 by decide)
    obtain ⟨v, hv, hm⟩ := atI_in (xs := [V.int 9, V.int ((10 : Int) ^ 20)]) k0 k1
    have hv2 : ∃ z : Int, v = .int z ∧ 0 < z := by
      simp only [List.mem_cons, List.not_mem_nil, or_false] at hm
      rcases hm with rfl | rfl
      · exact ⟨_, rfl, by decide⟩
      · exact ⟨_, rfl, by decide⟩
    obtain ⟨z, rfl, hz⟩ := hv2
    refine ⟨_, rfl, a, _, _, _, rfl, rfl, SqL.of hD1.at', i1, _, _, rfl, rfl, (by dsimp only; decide), l, _, _, _, rfl, rfl, SqL.of el, hv, _, _, rfl, rfl, hz, _, _, rfl, rfl, ?_⟩
    have ht : 1 ≤ 1 + d0 % z := by have := Int.emod_nonneg d0 (show z ≠ 0 by lia); lia
    refine ⟨_, rfl, a, _, _, _, rfl, rfl, SqL.of hD1.at', i1, _, _, rfl, rfl, ⟨by decide, by decide⟩, _, _, rfl, rfl, (by dsimp only; decide), ?_⟩
    refine ⟨_, rfl, rfl, _, rfl, ?_⟩
    refine ite2 (fun _ => ?_) (fun _ => ?_)
    · refine ⟨_, rfl, (by show 1 ≤ sizeLine; decide), fun d H2 nd2 s2 ed => ?_⟩
      refine ⟨(by show 2 ≤ sizeLine; decide), fun t H3 nt s3 et => q t H3 ((s1.trans s2).trans s3) ?_⟩
      have := EnV.two (t := .int (1 + d0 % z)) et Im.int (DdV.first (s3 _ _ ed) (Nat.zero_le _))
      rw [fb1 ht] at this
      exact this
    refine ⟨_, rfl, rfl, _, rfl, ?_⟩
    refine ite2 (fun _ => ?_) (fun _ => ?_)
    · refine ⟨_, rfl, _, rfl, a, _, _, _, rfl, rfl, SqL.of hD1.at', i2, d2, rfl, p2, fun x hx => ?_⟩
      refine ⟨_, rfl, a, _, _, _, rfl, rfl, SqL.of hD1.at', i3, _, _, rfl, rfl, ⟨by decide, by decide, by decide⟩, _, _, rfl, rfl, (by show (0 : Int) < 10 ^ 18; decide), _, _, rfl, rfl, ?_⟩
      have hn : 1 ≤ 1 + d3 % (10 : Int) ^ 18 := by have := Int.emod_nonneg d3 (show ((10 : Int) ^ 18) ≠ 0 by decide); lia
      refine ⟨_, rfl, _, rfl, a, _, rfl, SqL.of hD1.at', fun p np => ?_⟩
      obtain ⟨es, ee, em, el2⟩ := cutE (ds := ds) (a := 4) (by lia)
      rw [show cutV (ds.map V.int) (some 4) none = es.map V.int from ee]
      have s2 : Same H1 _ := Same.new (o := .lst (es.map V.int)) np
      have e2 : upd H1 p (.lst (es.map V.int)) p = _ := upd_same
      generalize upd H1 p (.lst (es.map V.int)) = H2 at s2 e2 ⊢
      refine ⟨p, es, rfl, ⟨e2, by lia, by have := hD.le2; lia, fun d hd => hD.ok d (em d hd)⟩, fun wt xs H3 s3 e3 hw => ?_⟩
      refine ⟨(by show 4 ≤ sizeLine; decide), fun d H4 nd4 s4 ed => ?_⟩
      refine ⟨(by show 2 ≤ sizeLine; decide), fun t H5 nt s5 et => q t H5 ((((s1.trans s2).trans s3).trans s4).trans s5) ?_⟩
      have hW := hw.at' (s5 _ _ (s4 _ _ e3))
      have := EnV.two (t := .int (1 + d0 % z)) et Im.int (DdV.ask4 (x2 := .int (1 + d3 % (10 : Int) ^ 18)) (s5 _ _ ed) (Im.nm hx) Im.int hW.1)
      rw [fb1 ht, nm_nmB hx, fb1 hn, hW.2] at this
      exact this
    · refine ⟨_, rfl, _, rfl, _, rfl, a, _, rfl, SqL.of hD1.at', fun p np => ?_⟩
      obtain ⟨es, ee, em, el2⟩ := cutE (ds := ds) (a := 2) (by lia)
      rw [show cutV (ds.map V.int) (some 2) none = es.map V.int from ee]
      have s2 : Same H1 _ := Same.new (o := .lst (es.map V.int)) np
      have e2 : upd H1 p (.lst (es.map V.int)) p = _ := upd_same
      generalize upd H1 p (.lst (es.map V.int)) = H2 at s2 e2 ⊢
      refine ⟨p, es, rfl, ⟨e2, by lia, by have := hD.le2; lia, fun d hd => hD.ok d (em d hd)⟩, fun bt o H3 s3 hb hbn => ?_⟩
      refine ⟨(by show 2 ≤ sizeLine; decide), fun d H4 nd4 s4 ed => ?_⟩
      refine ⟨(by show 2 ≤ sizeLine; decide), fun t H5 nt s5 et => q t H5 ((((s1.trans s2).trans s3).trans s4).trans s5) ?_⟩
      have := EnV.two (t := .int (1 + d0 % z)) et Im.int (DdV.bench2 (s5 _ _ ed) ((hb.same s4).same s5))
      rw [fb1 ht, hbn] at this
      exact this
end
end K31

set_option maxHeartbeats 8000000
namespace K31
open PySem L2
abbrev sLLet : Stmt := top 47
inductive Pok (H : Hp) (es : List V) : Str → V → Prop
  | name {x : Str} : Nm x → Pok H es "name" (.str x)
  | truth (b : Bool) : Pok H es "truth" (.bl b)
  | text {x : Str} : x.length ≤ 100 → PyData.strOk x = true → Pok H es "text" (.str x)
  | entries {a : Addr} : H a = some (.tup es) → Pok H es "entries" (.ref a)
  | whole {i : Int} : 0 ≤ i → Pok H es "whole" (.int i)
theorem Pok.same {H H' : Hp} {es : List V} {s : Str} {x : V} (e : Same H H') (h : Pok H es s x) : Pok H' es s x := by
  cases h with
  | name h => exact .name h
  | truth b => exact .truth b
  | text h h2 => exact .text h h2
  | entries h => exact .entries (e _ _ h)
  | whole h => exact .whole h
inductive Poks (H : Hp) (es : List V) : List Str → List V → Prop
  | nil : Poks H es [] []
  | cons {s : Str} {p : V} {ss : List Str} {ps : List V} : Pok H es s p → Poks H es ss ps → Poks H es (s :: ss) (p :: ps)
theorem Poks.len {H : Hp} {es : List V} : ∀ {ss : List Str} {ps : List V}, Poks H es ss ps → ps.length = ss.length
  | _, _, .nil => rfl
  | _, _, .cons _ r => congrArg (· + 1) r.len
theorem Poks.same {H H' : Hp} {es : List V} (e : Same H H') : ∀ {ss : List Str} {ps : List V}, Poks H es ss ps → Poks H' es ss ps
  | _, _, .nil => .nil
  | _, _, .cons h r => .cons (h.same e) (r.same e)
/-- a letter that was made here -/
structure LetV (H : Hp) (es : List V) (t : Addr) : Prop where
  ex : ∃ (kd : Str) (ss : List Str) (ps : List V), tGet table kd = some ss ∧ H t = some (.tup (.str kd :: ps)) ∧ Poks H es (hd3 ++ ss) ps ∧ PyData.strOk kd = true ∧ kd.length ≤ 100 ∧ (kd = "piece" → ∃ a b : Int, ps[5]? = some (.int a) ∧ ps[6]? = some (.int b) ∧ a < b)
theorem LetV.same {H H' : Hp} {es : List V} {t : Addr} (e : Same H H') (h : LetV H es t) : LetV H' es t := by
  obtain ⟨kd, ss, ps, h1, h2, h3, h4, h5, h6⟩ := h.ex
  exact ⟨kd, ss, ps, h1, e _ _ h2, h3.same e, h4, h5, h6⟩
theorem kd_ok {kd : Str} {ss : List Str} (h : tGet table kd = some ss) : PyData.strOk kd = true ∧ kd.length ≤ 100 := by
  have hm := tGet_mem h
  simp only [table, List.mem_cons, List.not_mem_nil, or_false, Prod.mk.injEq] at hm
  rcases hm with ⟨rfl, _⟩ | ⟨rfl, _⟩ | ⟨rfl, _⟩ | ⟨rfl, _⟩ | ⟨rfl, _⟩ | ⟨rfl, _⟩ | ⟨rfl, _⟩ | ⟨rfl, _⟩ <;> exact ⟨by decide +kernel, by decide +kernel⟩
theorem LetV.of {H : Hp} {es : List V} {t : Addr} {kd : Str} {ss : List Str} {x1 x2 : Str} {n0 : Int} {ps : List V} (hm : tGet table kd = some ss) (ht : H t = some (.tup (.str kd :: .str x1 :: .str x2 :: .int n0 :: ps))) (h1 : Nm x1) (h2 : Nm x2) (h0 : 0 ≤ n0) (hp : Poks H es ss ps)
    (hk : kd = "piece" → ∃ a b : Int, ps[2]? = some (.int a) ∧ ps[3]? = some (.int b) ∧ a < b) : LetV H es t :=
  ⟨kd, ss, _, hm, ht, .cons (.name h1) (.cons (.name h2) (.cons (.whole h0) hp)), (kd_ok hm).1, (kd_ok hm).2, fun e => by
    obtain ⟨a, b, q1, q2, q3⟩ := hk e
    exact ⟨a, b, q1, q2, q3⟩⟩
theorem slice_ok {x : Str} {b : Int} (h0 : 0 ≤ b) (h : PyData.strOk x = true) : PyData.strOk (Txt.slice x none (some b)) = true := by
  obtain ⟨n, rfl⟩ := Int.eq_ofNat_of_zero_le h0
  have e : (Txt.slice x none (some (n : Int))).cps.toList = x.cps.toList.take n := by
    rw [slice_congr (idx0 n x.length), slice_cl (Nat.zero_le _) (Nat.zero_le _), List.drop_zero, Nat.sub_zero]
  unfold PyData.strOk at *
  rw [← Array.all_toList] at h ⊢
  rw [e]
  rw [List.all_eq_true] at h ⊢
  exact fun y hy => h y (List.mem_of_mem_take hy)
def spLLet : Sp := fun us H Q _ => ∃ (a e : Addr) (ds : List Int) (xs : List V), us = [.ref a, .ref e] ∧ Dg H a ds 10 ∧ H e = some (.tup xs) ∧ ∀ (t : Addr) (H' : Hp), Same H H' → LetV H' xs t → Q (.ref t) H'
theorem ints6 {ys : List V} {R : Int → Prop} (h : ∀ (i : Nat) (y : V), ys[i]? = some y → ∃ x : Int, y = V.int x ∧ R x) : ∃ zs : List Int, ys = zs.map V.int ∧ ∀ z ∈ zs, R z := by
  induction ys with
  | nil => exact ⟨[], rfl, fun z hz => by simp at hz⟩
  | cons y r ih =>
    obtain ⟨x, rfl, hx⟩ := h 0 y rfl
    obtain ⟨zs, e, hz⟩ := ih fun i z e => h (i + 1) z (by simpa using e)
    refine ⟨x :: zs, by rw [e]; rfl, fun z hz' => ?_⟩
    rcases List.mem_cons.mp hz' with rfl | q
    · exact hx
    · exact hz z q
theorem six {zs : List Int} (h : zs.length = 6) : ∃ a b c d e f, zs = [a, b, c, d, e, f] := by
  match zs, h with
  | [a, b, c, d, e, f], _ => exact ⟨a, b, c, d, e, f, rfl⟩
theorem at4 {α : Type} {a b c d e : α} {r : List α} : atI (a :: b :: c :: d :: e :: r) 4 = some e := atI_nat (j := 4) rfl
theorem at5 {α : Type} {a b c d e f : α} {r : List α} : atI (a :: b :: c :: d :: e :: f :: r) 5 = some f := atI_nat (j := 5) rfl
section
variable {P : Program} {w : World} {K : PySem.W.Frag} {mg : Str → Option Value} {base : Heap}
abbrev pLL : List Str := ["_law_digits_here", "_law_entries"]
abbrev nLL : List Str := ["_law_digits_here", "_law_entries", "_law_kind", "_law_big", "_law_numbers", "_law_front", "_law_yes", "_law_text"]
theorem scLL : FnScope nLL pLL (defScope sLLet) := ⟨rfl, rfl, rfl, by decide +kernel, rfl, by decide +kernel, by decide +kernel⟩
theorem ndLL : (nLL ++ (["_law_digit"] : List Str)).Nodup := by decide +kernel
theorem ok_llet {f : Addr} {fd : FuncData} (F : Fun K "_law_letter" "_law_letter" sLLet f fd) (Fn : FnAt P w K mg base 1 "_law_name" ["_law_digit"] spLName) : FnOk P w K mg base CX0 2 f fd pLL spLLet := by
  refine F.ok scLL (fun vs H Q E h => ?_) (fun cdv A outer s H vs Q E hr h => ?_)
  · obtain ⟨a, e, ds, xs, rfl, _⟩ := h
    rfl
  · obtain ⟨a, e, ds, xs, rfl, hD, he, q⟩ := h
    have nd := scLL.nd
    have hs16 : sizeLine = 16777216 := sizeLine_eq
    refine ⟨_, pss_cons (ps_setW (i := 2) nd rfl (Or.inl rfl) (pe_pickW (pa_consW pe_str (pa_consW pe_str (pa_consW pe_str (pa_consW pe_str (pa_consW pe_str (pa_consW pe_str (pa_consW pe_str (pa_consW pe_str pa_nilW)))))))) (pe_op op_mod (pe_ix ix_list (pv 0) pe_int (fun _ _ => rfl)) pe_int) (fun _ _ => rfl))) <|
      pss_cons (ps_set (i := 3) nd rfl (Or.inr rfl) (pe_ix ix_list (pe_lstA (pa_cons pe_int (pa_cons (pe_op op_pow pe_int pe_int) pa_nil))) (pe_op op_mod (pe_op op_fdiv (pe_ix ix_list (pv 0) pe_int (fun _ _ => rfl)) pe_int) pe_int) (fun _ _ => rfl))) <|
      pss_cons (ps_setC (i := 4) nd rfl (Or.inl rfl) nLL nLL ["_law_digit"] (defScope sLLet) rfl rfl rfl (by decide +kernel) rfl rfl (by decide +kernel) (by decide +kernel) (by decide +kernel) (by decide +kernel)
          (pi_list (pe_slice sl_list (pv 0) (po_some pe_int) (po_some pe_int))) (fun _ _ _ _ _ => pg_name (i := 8) ndLL rfl (Or.inl rfl)) (fun _ _ _ _ _ => pts_nil) (fun _ _ _ _ _ => pe_op op_mod (pv 8) (pv 3)) rfl) <|
      pss_cons (ps_set (i := 5) nd rfl (Or.inl rfl) (pe_tupA (pa_cons (pv 2) (pa_cons (pe_callF Fn hr (pa_cons (pe_ix ix_list (pv 0) pe_int (fun _ _ => rfl)) pa_nil)) (pa_cons (pe_callF Fn hr (pa_cons (pe_ix ix_list (pv 0) pe_int (fun _ _ => rfl)) pa_nil)) (pa_cons (pe_ix ix_list (pv 4) pe_int (fun _ _ => rfl)) pa_nil)))))) <|
      pss_cons (ps_set (i := 6) nd rfl (Or.inl rfl) (pe_cmpR op_eq (pe_op op_mod (pe_ix ix_list (pv 0) pe_int (fun _ _ => rfl)) pe_int) pe_int (nomark _))) <|
      pss_cons (ps_if (pt_cmpR op_in_seq (pv 2) (pe_tupA (pa_cons pe_str (pa_cons pe_str pa_nil))) (by rfl)) (pss_one (ps_ret (pe_op op_catU (pv 5) (pe_tupA (pa_cons (pe_ix ix_list (pv 4) pe_int (fun _ _ => rfl)) (pa_cons (pe_ix ix_list (pv 4) pe_int (fun _ _ => rfl)) pa_nil)))))) pss_nil) <|
      pss_cons (ps_if (pt_cmpR op_eq (pv 2) pe_str (nomark _)) (pss_one (ps_ret (pe_op op_catU (pv 5) (pe_tupA (pa_cons (pv 6) (pa_cons (pe_ix ix_list (pv 4) pe_int (fun _ _ => rfl)) pa_nil)))))) pss_nil) <|
      pss_cons (ps_if (pt_cmpR op_eq (pv 2) pe_str (nomark _)) (pss_one (ps_ret (pe_op op_catU (pv 5) (pe_tupA (pa_cons (pv 6) pa_nil))))) pss_nil) <|
      pss_cons (ps_if (pt_cmpR op_eq (pv 2) pe_str (nomark _)) (pss_one (ps_ret (pe_op op_catU (pv 5) (pe_tupA (pa_cons (pe_ix ix_list (pv 4) pe_int (fun _ _ => rfl)) (pa_cons (pe_ix ix_list (pv 4) pe_int (fun _ _ => rfl)) (pa_cons (pv 1) (pa_cons (pe_ix ix_list (pv 4) pe_int (fun _ _ => rfl)) (pa_cons (pe_ix ix_list (pv 4) pe_int (fun _ _ => rfl)) pa_nil))))))))) pss_nil) <|
      pss_cons (ps_if (pt_cmpR op_eq (pv 2) pe_str (nomark _)) (pss_one (ps_ret (pe_op op_catU (pv 5) (pe_tupA (pa_cons (pv 6) (pa_cons (pe_ix ix_list (pv 4) pe_int (fun _ _ => rfl)) (pa_cons (pe_ix ix_list (pv 4) pe_int (fun _ _ => rfl)) pa_nil))))))) pss_nil) <|
      pss_cons (ps_if (pt_cmpR op_eq (pv 2) pe_str (nomark _)) (pss_cons (ps_set (i := 7) nd rfl (Or.inl rfl) (pe_slice sl_str pe_str po_none (po_some (pe_op op_mod (pe_ix ix_list (pv 0) pe_int (fun _ _ => rfl)) pe_int)))) <|
        pss_cons (ps_set (i := 5) nd rfl (Or.inl rfl) (pe_op op_catU (pv 5) (pe_tupA (pa_cons (pe_ix ix_list (pv 4) pe_int (fun _ _ => rfl)) (pa_cons (pe_ix ix_list (pv 4) pe_int (fun _ _ => rfl)) (pa_cons (pe_ix ix_list (pv 4) pe_int (fun _ _ => rfl)) pa_nil)))))) <|
        pss_one (ps_ret (pe_op op_catU (pv 5) (pe_tupA (pa_cons (pe_op op_add (pe_op op_add (pe_ix ix_list (pv 4) pe_int (fun _ _ => rfl)) pe_int) (pe_ix ix_list (pv 4) pe_int (fun _ _ => rfl))) (pa_cons (pv 7) (pa_cons (pe_ix ix_list (pv 4) pe_int (fun _ _ => rfl)) pa_nil))))))) pss_nil) <|
      pss_one (ps_ret (pe_op op_catU (pv 5) (pe_tupA (pa_cons (pe_ix ix_list (pv 4) pe_int (fun _ _ => rfl)) (pa_cons (pe_ix ix_list (pv 4) pe_int (fun _ _ => rfl)) (pa_cons (pe_ix ix_list (pv 4) pe_int (fun _ _ => rfl)) pa_nil)))))), ?_⟩
    obtain ⟨d0, i0, p0, q0⟩ := hD.ix 0 (by decide)
    obtain ⟨d1, i1, p1, q1⟩ := hD.ix 1 (by decide)
    obtain ⟨d2, i2, p2, q2⟩ := hD.ix 2 (by decide)
    obtain ⟨d9, i9, p9, q9⟩ := hD.ix 9 (by decide)
    have dl := hD.le
    have k0 := Int.emod_nonneg d0 (show (8 : Int) ≠ 0 by decide)
    have k1 := Int.emod_lt_of_pos d0 (show (0 : Int) < 8 by decide)
    obtain ⟨kv, hkv, hkm⟩ := atI_in (xs := [V.str "look", V.str "saw", V.str "vote", V.str "gave", V.str "rows", V.str "took", V.str "piece", V.str "got"]) k0 k1
    refine ⟨(by show 8 ≤ sizeLine; decide), fun l1 H1 nl1 s1 e1 => ?_⟩
    have hD1 := hD.same s1
    refine ⟨_, rfl, a, _, _, _, rfl, rfl, SqL.of hD1.at', i0, _, _, rfl, rfl, (by dsimp only; decide), l1, _, _, _, rfl, rfl, SqL.of e1, hkv, ?_⟩
    have b0 := Int.emod_nonneg (d0 / 8) (show (2 : Int) ≠ 0 by decide)
    have b1 := Int.emod_lt_of_pos (d0 / 8) (show (0 : Int) < 2 by decide)
    obtain ⟨bv, hbv, hbm⟩ := atI_in (xs := [V.int 9, V.int ((10 : Int) ^ 20)]) b0 b1
    have hb2 : ∃ z : Int, bv = .int z ∧ 0 < z := by
      simp only [List.mem_cons, List.not_mem_nil, or_false] at hbm
      rcases hbm with rfl | rfl
      · exact ⟨_, rfl, by decide⟩
      · exact ⟨_, rfl, by decide⟩
    obtain ⟨big, rfl, hbig⟩ := hb2
    refine ⟨_, _, rfl, rfl, ⟨by decide, by decide, by decide⟩, (by show 2 ≤ sizeLine; decide), fun l2 H2 nl2 s2 e2 => ?_⟩
    have hD2 := hD1.same s2
    refine ⟨_, rfl, a, _, _, _, rfl, rfl, SqL.of hD2.at', i0, _, _, rfl, rfl, ⟨by decide, by decide⟩, _, _, rfl, rfl, (by dsimp only; decide), l2, _, _, _, rfl, rfl, SqL.of e2, hbv, ?_⟩
    refine ⟨_, rfl, _, rfl, _, rfl, a, _, rfl, SqL.of hD2.at', fun p3 np3 => ?_⟩
    obtain ⟨es, ee, em, el⟩ := cutN (ds := ds) (a := 3) (b := 9) (by lia) (by lia)
    rw [show cutV (ds.map V.int) (some 3) (some 9) = es.map V.int from ee]
    have s3 : Same H2 _ := Same.new (o := .lst (es.map V.int)) np3
    have e3 : upd H2 p3 (.lst (es.map V.int)) p3 = _ := upd_same
    generalize upd H2 p3 (.lst (es.map V.int)) = H3 at s3 e3 ⊢
    refine ⟨p3, rfl, ⟨_, SqL.of e3⟩, ?_⟩
    refine lcL0 (fun _ y => ∃ x : Int, y = V.int x ∧ 0 ≤ x) rfl (SqL.of e3) (by rw [List.length_map]; lia) (fun D i x ys post hx hD' hpost => ?_) (fun D ys hD' hyl hR => ?_)
    · obtain ⟨d, hd, rfl⟩ := List.mem_map.mp (List.mem_of_getElem? hx)
      exact ⟨_, rfl, _, rfl, _, _, rfl, rfl, hbig, hpost _ ⟨_, rfl, Int.emod_nonneg _ (by lia)⟩⟩
    obtain ⟨ns, rfl, hns⟩ := ints6 (R := fun x => 0 ≤ x) hR
    rw [List.length_map, List.length_map, el] at hyl
    obtain ⟨n0, n1, n2, n3, n4, n5, rfl⟩ := six hyl
    have g0 := hns n0 (by simp)
    have g1 := hns n1 (by simp)
    have g2 := hns n2 (by simp)
    have g3 := hns n3 (by simp)
    have g4 := hns n4 (by simp)
    have g5 := hns n5 (by simp)
    have s4 : Same H3 _ := Same.new (o := .lst ([n0, n1, n2, n3, n4, n5].map V.int)) hD'
    have e4 : upd H3 D (.lst ([n0, n1, n2, n3, n4, n5].map V.int)) D = some (.lst [.int n0, .int n1, .int n2, .int n3, .int n4, .int n5]) := upd_same
    generalize upd H3 D (.lst ([n0, n1, n2, n3, n4, n5].map V.int)) = H4 at s4 e4 ⊢
    have hD4 := (hD2.same s3).same s4
    have s04 := ((s1.trans s2).trans s3).trans s4
    refine ⟨_, rfl, _, rfl, a, _, _, _, rfl, rfl, SqL.of hD4.at', i1, d1, rfl, p1, fun x1 hx1 => ?_⟩
    refine ⟨_, rfl, a, _, _, _, rfl, rfl, SqL.of hD4.at', i2, d2, rfl, p2, fun x2 hx2 => ?_⟩
    refine ⟨_, rfl, D, _, _, _, rfl, rfl, SqL.of e4, at0, (by show 4 ≤ sizeLine; decide), fun fr H5 nfr s5 efr => ?_⟩
    have hD5 := hD4.same s5
    have e5 := s5 _ _ e4
    have s05 := s04.trans s5
    refine ⟨_, rfl, a, _, _, _, rfl, rfl, SqL.of hD5.at', i9, _, _, rfl, rfl, (by dsimp only; decide), rfl, ?_⟩
    generalize decide (V.int (d9 % 2) = V.int 1) = yes
    simp only [List.mem_cons, List.not_mem_nil, or_false] at hkm
    rcases hkm with rfl | rfl | rfl | rfl | rfl | rfl | rfl | rfl
    · refine ⟨_, rfl, (by show 2 ≤ sizeLine; decide), fun l6 H6 nl6 s6 e6' => ?_⟩
      have e6 := s6 _ _ e5
      refine ⟨l6, _, rfl, .inr (SqT.of e6'), rfl, rfl, _, rfl, ?_⟩
      rw [show (if false = true then !inV (V.str "look") [V.str "look", V.str "vote"] else inV (V.str "look") [V.str "look", V.str "vote"]) = true by decide +kernel]
      refine iteT ?_
      refine ⟨_, rfl, _, rfl, D, _, _, _, rfl, rfl, SqL.of e6, at1, _, rfl, D, _, _, _, rfl, rfl, SqL.of e6, at2, (by show 2 ≤ sizeLine; decide), fun l7 H7 nl7 s7 e7 => ?_⟩
      refine ⟨fr, l7, _, _, rfl, rfl, s7 _ _ (s6 _ _ efr), e7, (by show 6 ≤ sizeLine; decide), fun t H8 s8 e8 => ?_⟩
      have sAll := ((s05.trans s6).trans s7).trans s8
      exact q t H8 sAll (LetV.of (by decide +kernel) e8 hx1 hx2 g0 (.cons (.whole g1) (.cons (.whole g2) (.nil))) (fun e => absurd e (by decide +kernel)))
    · refine ⟨_, rfl, (by show 2 ≤ sizeLine; decide), fun l6 H6 nl6 s6 e6' => ?_⟩
      have e6 := s6 _ _ e5
      refine ⟨l6, _, rfl, .inr (SqT.of e6'), rfl, rfl, _, rfl, ?_⟩
      rw [show (if false = true then !inV (V.str "saw") [V.str "look", V.str "vote"] else inV (V.str "saw") [V.str "look", V.str "vote"]) = false by decide +kernel]
      refine iteF ?_
      refine ⟨_, rfl, rfl, _, rfl, ?_⟩
      rw [decide_eq_true rfl]
      refine iteT ?_
      refine ⟨_, rfl, _, rfl, _, rfl, D, _, _, _, rfl, rfl, SqL.of e6, at1, (by show 2 ≤ sizeLine; decide), fun l7 H7 nl7 s7 e7 => ?_⟩
      refine ⟨fr, l7, _, _, rfl, rfl, s7 _ _ (s6 _ _ efr), e7, (by show 6 ≤ sizeLine; decide), fun t H8 s8 e8 => ?_⟩
      have sAll := ((s05.trans s6).trans s7).trans s8
      exact q t H8 sAll (LetV.of (by decide +kernel) e8 hx1 hx2 g0 (.cons (.truth yes) (.cons (.whole g1) (.nil))) (fun e => absurd e (by decide +kernel)))
    · refine ⟨_, rfl, (by show 2 ≤ sizeLine; decide), fun l6 H6 nl6 s6 e6' => ?_⟩
      have e6 := s6 _ _ e5
      refine ⟨l6, _, rfl, .inr (SqT.of e6'), rfl, rfl, _, rfl, ?_⟩
      rw [show (if false = true then !inV (V.str "vote") [V.str "look", V.str "vote"] else inV (V.str "vote") [V.str "look", V.str "vote"]) = true by decide +kernel]
      refine iteT ?_
      refine ⟨_, rfl, _, rfl, D, _, _, _, rfl, rfl, SqL.of e6, at1, _, rfl, D, _, _, _, rfl, rfl, SqL.of e6, at2, (by show 2 ≤ sizeLine; decide), fun l7 H7 nl7 s7 e7 => ?_⟩
      refine ⟨fr, l7, _, _, rfl, rfl, s7 _ _ (s6 _ _ efr), e7, (by show 6 ≤ sizeLine; decide), fun t H8 s8 e8 => ?_⟩
      have sAll := ((s05.trans s6).trans s7).trans s8
      exact q t H8 sAll (LetV.of (by decide +kernel) e8 hx1 hx2 g0 (.cons (.whole g1) (.cons (.whole g2) (.nil))) (fun e => absurd e (by decide +kernel)))
    · refine ⟨_, rfl, (by show 2 ≤ sizeLine; decide), fun l6 H6 nl6 s6 e6' => ?_⟩
      have e6 := s6 _ _ e5
      refine ⟨l6, _, rfl, .inr (SqT.of e6'), rfl, rfl, _, rfl, ?_⟩
      rw [show (if false = true then !inV (V.str "gave") [V.str "look", V.str "vote"] else inV (V.str "gave") [V.str "look", V.str "vote"]) = false by decide +kernel]
      refine iteF ?_
      refine ⟨_, rfl, rfl, _, rfl, ?_⟩
      rw [show decide (V.str "gave" = V.str "saw") = false by decide +kernel]
      refine iteF ?_
      refine ⟨_, rfl, rfl, _, rfl, ?_⟩
      rw [decide_eq_true rfl]
      refine iteT ?_
      refine ⟨_, rfl, _, rfl, (by show 1 ≤ sizeLine; decide), fun l7 H7 nl7 s7 e7 => ?_⟩
      refine ⟨fr, l7, _, _, rfl, rfl, s7 _ _ (s6 _ _ efr), e7, (by show 5 ≤ sizeLine; decide), fun t H8 s8 e8 => ?_⟩
      have sAll := ((s05.trans s6).trans s7).trans s8
      exact q t H8 sAll (LetV.of (by decide +kernel) e8 hx1 hx2 g0 (.cons (.truth yes) (.nil)) (fun e => absurd e (by decide +kernel)))
    · refine ⟨_, rfl, (by show 2 ≤ sizeLine; decide), fun l6 H6 nl6 s6 e6' => ?_⟩
      have e6 := s6 _ _ e5
      refine ⟨l6, _, rfl, .inr (SqT.of e6'), rfl, rfl, _, rfl, ?_⟩
      rw [show (if false = true then !inV (V.str "rows") [V.str "look", V.str "vote"] else inV (V.str "rows") [V.str "look", V.str "vote"]) = false by decide +kernel]
      refine iteF ?_
      refine ⟨_, rfl, rfl, _, rfl, ?_⟩
      rw [show decide (V.str "rows" = V.str "saw") = false by decide +kernel]
      refine iteF ?_
      refine ⟨_, rfl, rfl, _, rfl, ?_⟩
      rw [show decide (V.str "rows" = V.str "gave") = false by decide +kernel]
      refine iteF ?_
      refine ⟨_, rfl, rfl, _, rfl, ?_⟩
      rw [decide_eq_true rfl]
      refine iteT ?_
      refine ⟨_, rfl, _, rfl, D, _, _, _, rfl, rfl, SqL.of e6, at1, _, rfl, D, _, _, _, rfl, rfl, SqL.of e6, at2, _, rfl, _, rfl, D, _, _, _, rfl, rfl, SqL.of e6, at3, _, rfl, D, _, _, _, rfl, rfl, SqL.of e6, at4, (by show 5 ≤ sizeLine; decide), fun l7 H7 nl7 s7 e7 => ?_⟩
      refine ⟨fr, l7, _, _, rfl, rfl, s7 _ _ (s6 _ _ efr), e7, (by show 9 ≤ sizeLine; decide), fun t H8 s8 e8 => ?_⟩
      have sAll := ((s05.trans s6).trans s7).trans s8
      exact q t H8 sAll (LetV.of (by decide +kernel) e8 hx1 hx2 g0 (.cons (.whole g1) (.cons (.whole g2) (.cons (.entries (sAll _ _ he)) (.cons (.whole g3) (.cons (.whole g4) (.nil)))))) (fun e => absurd e (by decide +kernel)))
    · refine ⟨_, rfl, (by show 2 ≤ sizeLine; decide), fun l6 H6 nl6 s6 e6' => ?_⟩
      have e6 := s6 _ _ e5
      refine ⟨l6, _, rfl, .inr (SqT.of e6'), rfl, rfl, _, rfl, ?_⟩
      rw [show (if false = true then !inV (V.str "took") [V.str "look", V.str "vote"] else inV (V.str "took") [V.str "look", V.str "vote"]) = false by decide +kernel]
      refine iteF ?_
      refine ⟨_, rfl, rfl, _, rfl, ?_⟩
      rw [show decide (V.str "took" = V.str "saw") = false by decide +kernel]
      refine iteF ?_
      refine ⟨_, rfl, rfl, _, rfl, ?_⟩
      rw [show decide (V.str "took" = V.str "gave") = false by decide +kernel]
      refine iteF ?_
      refine ⟨_, rfl, rfl, _, rfl, ?_⟩
      rw [show decide (V.str "took" = V.str "rows") = false by decide +kernel]
      refine iteF ?_
      refine ⟨_, rfl, rfl, _, rfl, ?_⟩
      rw [decide_eq_true rfl]
      refine iteT ?_
      refine ⟨_, rfl, _, rfl, _, rfl, D, _, _, _, rfl, rfl, SqL.of e6, at1, _, rfl, D, _, _, _, rfl, rfl, SqL.of e6, at2, (by show 3 ≤ sizeLine; decide), fun l7 H7 nl7 s7 e7 => ?_⟩
      refine ⟨fr, l7, _, _, rfl, rfl, s7 _ _ (s6 _ _ efr), e7, (by show 7 ≤ sizeLine; decide), fun t H8 s8 e8 => ?_⟩
      have sAll := ((s05.trans s6).trans s7).trans s8
      exact q t H8 sAll (LetV.of (by decide +kernel) e8 hx1 hx2 g0 (.cons (.truth yes) (.cons (.whole g1) (.cons (.whole g2) (.nil)))) (fun e => absurd e (by decide +kernel)))
    · refine ⟨_, rfl, (by show 2 ≤ sizeLine; decide), fun l6 H6 nl6 s6 e6' => ?_⟩
      have e6 := s6 _ _ e5
      refine ⟨l6, _, rfl, .inr (SqT.of e6'), rfl, rfl, _, rfl, ?_⟩
      rw [show (if false = true then !inV (V.str "piece") [V.str "look", V.str "vote"] else inV (V.str "piece") [V.str "look", V.str "vote"]) = false by decide +kernel]
      refine iteF ?_
      refine ⟨_, rfl, rfl, _, rfl, ?_⟩
      rw [show decide (V.str "piece" = V.str "saw") = false by decide +kernel]
      refine iteF ?_
      refine ⟨_, rfl, rfl, _, rfl, ?_⟩
      rw [show decide (V.str "piece" = V.str "gave") = false by decide +kernel]
      refine iteF ?_
      refine ⟨_, rfl, rfl, _, rfl, ?_⟩
      rw [show decide (V.str "piece" = V.str "rows") = false by decide +kernel]
      refine iteF ?_
      refine ⟨_, rfl, rfl, _, rfl, ?_⟩
      rw [show decide (V.str "piece" = V.str "took") = false by decide +kernel]
      refine iteF ?_
      refine ⟨_, rfl, rfl, _, rfl, ?_⟩
      rw [decide_eq_true rfl]
      refine iteT ?_
      have hD6 := hD5.same s6
      refine ⟨_, rfl, a, _, _, _, rfl, rfl, SqL.of hD6.at', i9, _, _, rfl, rfl, (by dsimp only; decide), _, rfl, _, rfl, (by rw [hs16]; decide +kernel), ?_⟩
      have tl : (Txt.slice (Str.ofString "stand 1 2\nbench a / /") none (some (d9 % 23))).length ≤ 100 := Nat.le_trans (Txt.slice_le _ _ _) (by decide +kernel)
      refine ⟨_, rfl, _, rfl, D, _, _, _, rfl, rfl, SqL.of e6, at1, _, rfl, D, _, _, _, rfl, rfl, SqL.of e6, at2, _, rfl, D, _, _, _, rfl, rfl, SqL.of e6, at3, (by show 3 ≤ sizeLine; decide), fun l7 H7 nl7 s7 e7' => ?_⟩
      refine ⟨fr, l7, _, _, rfl, rfl, s7 _ _ (s6 _ _ efr), e7', (by show 7 ≤ sizeLine; decide), fun fr2 H8 s8 efr2 => ?_⟩
      have e8 := s8 _ _ (s7 _ _ e6)
      refine ⟨_, rfl, _, rfl, D, _, _, _, rfl, rfl, SqL.of e8, at3, _, _, rfl, rfl, _, rfl, D, _, _, _, rfl, rfl, SqL.of e8, at4, _, _, rfl, rfl, _, rfl, _, rfl, D, _, _, _, rfl, rfl, SqL.of e8, at5, (by show 3 ≤ sizeLine; decide), fun l9 H9 nl9 s9 e9 => ?_⟩
      refine ⟨fr2, l9, _, _, rfl, rfl, s9 _ _ efr2, e9, (by show 10 ≤ sizeLine; decide), fun t H10 s10 e10 => ?_⟩
      have sAll := ((((s05.trans s6).trans s7).trans s8).trans s9).trans s10
      exact q t H10 sAll (LetV.of (by decide +kernel) e10 hx1 hx2 g0 (.cons (.whole g1) (.cons (.whole g2) (.cons (.whole g3) (.cons (.whole (show 0 ≤ n3 + 1 + n4 by lia)) (.cons (.text tl (slice_ok (Int.emod_nonneg _ (by decide)) (by decide +kernel))) (.cons (.whole g5) .nil)))))) (fun _ => ⟨n3, n3 + 1 + n4, rfl, rfl, by lia⟩))
    · refine ⟨_, rfl, (by show 2 ≤ sizeLine; decide), fun l6 H6 nl6 s6 e6' => ?_⟩
      have e6 := s6 _ _ e5
      refine ⟨l6, _, rfl, .inr (SqT.of e6'), rfl, rfl, _, rfl, ?_⟩
      rw [show (if false = true then !inV (V.str "got") [V.str "look", V.str "vote"] else inV (V.str "got") [V.str "look", V.str "vote"]) = false by decide +kernel]
      refine iteF ?_
      refine ⟨_, rfl, rfl, _, rfl, ?_⟩
      rw [show decide (V.str "got" = V.str "saw") = false by decide +kernel]
      refine iteF ?_
      refine ⟨_, rfl, rfl, _, rfl, ?_⟩
      rw [show decide (V.str "got" = V.str "gave") = false by decide +kernel]
      refine iteF ?_
      refine ⟨_, rfl, rfl, _, rfl, ?_⟩
      rw [show decide (V.str "got" = V.str "rows") = false by decide +kernel]
      refine iteF ?_
      refine ⟨_, rfl, rfl, _, rfl, ?_⟩
      rw [show decide (V.str "got" = V.str "took") = false by decide +kernel]
      refine iteF ?_
      refine ⟨_, rfl, rfl, _, rfl, ?_⟩
      rw [show decide (V.str "got" = V.str "piece") = false by decide +kernel]
      refine iteF ?_
      refine ⟨_, rfl, _, rfl, D, _, _, _, rfl, rfl, SqL.of e6, at1, _, rfl, D, _, _, _, rfl, rfl, SqL.of e6, at2, _, rfl, D, _, _, _, rfl, rfl, SqL.of e6, at3, (by show 3 ≤ sizeLine; decide), fun l7 H7 nl7 s7 e7 => ?_⟩
      refine ⟨fr, l7, _, _, rfl, rfl, s7 _ _ (s6 _ _ efr), e7, (by show 7 ≤ sizeLine; decide), fun t H8 s8 e8 => ?_⟩
      have sAll := ((s05.trans s6).trans s7).trans s8
      exact q t H8 sAll (LetV.of (by decide +kernel) e8 hx1 hx2 g0 (.cons (.whole g1) (.cons (.whole g2) (.cons (.whole g3) (.nil)))) (fun e => absurd e (by decide +kernel)))
end
end K31

set_option maxHeartbeats 4000000
namespace K31
open PySem L2
theorem okc_mem {c : Nat} (h : okc c = true) : c ∈ ABC.cps.toList := by
  unfold okc at h
  rw [StrLaws.found_one] at h
  exact of_decide_eq_true h
theorem abc_small : ∀ c ∈ ABC.cps.toList, c < 1114112 := by decide +kernel
theorem nm_ok {x : Str} (h : Nm x) : PyData.strOk x = true := by
  unfold PyData.strOk
  rw [← Array.all_toList, List.all_eq_true]
  exact fun c hc => decide_eq_true (abc_small c (okc_mem (h.ok c hc)))
/-! depths -/
theorem dtI {H : Hp} {i : Int} : Dt H (.int i) (.int i) := ⟨.int i, rfl, Nat.zero_le _⟩
theorem dtB {H : Hp} {b : Bool} : Dt H (.bl b) (.bool b) := ⟨.bl b, rfl, Nat.zero_le _⟩
theorem dtN {H : Hp} : Dt H .non .none := ⟨.non, rfl, Nat.zero_le _⟩
theorem dtS {H : Hp} {x : Str} (h : PyData.strOk x = true) : Dt H (.str x) (.str x) := ⟨.str x, h, Nat.zero_le _⟩
/-- things, each no deeper than n -/
inductive DL (H : Hp) (n : Nat) : List V → List PyData → Prop
  | nil : DL H n [] []
  | cons {x : V} {xs : List V} {d : PyData} {ds : List PyData} : Rds H x d → d.canLay0 = true → d.depth ≤ n → DL H n xs ds → DL H n (x :: xs) (d :: ds)
theorem DL.all {H : Hp} {n : Nat} : ∀ {xs : List V} {ds : List PyData}, DL H n xs ds → RdsAll H xs ds ∧ PyData.canLayAll0 ds = true ∧ PyData.depthAll ds ≤ n
  | _, _, .nil => ⟨.nil, rfl, Nat.zero_le _⟩
  | _, _, .cons r c d t => by
    obtain ⟨h1, h2, h3⟩ := t.all
    exact ⟨.cons r h1, by unfold PyData.canLayAll0; rw [c, h2]; rfl, by unfold PyData.depthAll; lia⟩
theorem DL.tup {H : Hp} {n : Nat} {a : Addr} {xs : List V} {ds : List PyData} (h : DL H n xs ds) (ha : H a = some (.tup xs)) : Rds H (.ref a) (.tuple ds) ∧ (PyData.tuple ds).canLay0 = true ∧ (PyData.tuple ds).depth ≤ n + 1 := by
  obtain ⟨h1, h2, h3⟩ := h.all
  exact ⟨.tup ha h1, by unfold PyData.canLay0; exact h2, by unfold PyData.depth; lia⟩
theorem DL.lst {H : Hp} {n : Nat} {a : Addr} {xs : List V} {ds : List PyData} (h : DL H n xs ds) (ha : H a = some (.lst xs)) : Rds H (.ref a) (.list ds) ∧ (PyData.list ds).canLay0 = true ∧ (PyData.list ds).depth ≤ n + 1 := by
  obtain ⟨h1, h2, h3⟩ := h.all
  exact ⟨.lst ha h1, by unfold PyData.canLay0; exact h2, by unfold PyData.depth; lia⟩
theorem DL.app {H : Hp} {n : Nat} : ∀ {xs ys : List V} {ds es : List PyData}, DL H n xs ds → DL H n ys es → DL H n (xs ++ ys) (ds ++ es)
  | _, _, _, _, .nil, t => t
  | _, _, _, _, .cons r c d q, t => .cons r c d (q.app t)
theorem DL.length {H : Hp} {n : Nat} : ∀ {xs : List V} {ds : List PyData}, DL H n xs ds → xs.length = ds.length
  | _, _, .nil => rfl
  | _, _, .cons _ _ _ t => congrArg (· + 1) t.length
theorem DL.take {H : Hp} {n : Nat} : ∀ (i : Nat) {xs : List V} {ds : List PyData}, DL H n xs ds → DL H n (xs.take i) (ds.take i)
  | 0, _, _, _ => .nil
  | i + 1, _, _, .nil => .nil
  | i + 1, _, _, .cons r c d t => .cons r c d (t.take i)
theorem DL.drop {H : Hp} {n : Nat} : ∀ (i : Nat) {xs : List V} {ds : List PyData}, DL H n xs ds → DL H n (xs.drop i) (ds.drop i)
  | 0, _, _, h => h
  | i + 1, _, _, .nil => .nil
  | i + 1, _, _, .cons r c d t => t.drop i
theorem DL.same {H H' : Hp} {n : Nat} (e : Same H H') : ∀ {xs : List V} {ds : List PyData}, DL H n xs ds → DL H' n xs ds
  | _, _, .nil => .nil
  | _, _, .cons r c d t => .cons (r.same e) c d (t.same e)
theorem dl_strs {H : Hp} : ∀ {zs : List Str}, (∀ z ∈ zs, Nm z) → DL H 0 (zs.map V.str) (zs.map PyData.str)
  | [], _ => .nil
  | z :: zs, h => .cons (.str z) (nm_ok (h z List.mem_cons_self)) (Nat.zero_le _) (dl_strs fun y hy => h y (List.mem_cons_of_mem _ hy))
theorem nm_of {x : V} (h : nmB x = true) : ∃ z : Str, x = .str z ∧ Nm z := by
  cases x with
  | str z => exact ⟨z, rfl, nmB_nm h⟩
  | _ => cases h
theorem pt_dt {H : Hp} {p : V} {o : Option (List V)} (h : PtAt H p o) (hr : riseB o = true) : ∃ ds, Rds H p (.tuple ds) ∧ (PyData.tuple ds).canLay0 = true ∧ (PyData.tuple ds).depth ≤ 1 := by
  obtain ⟨a, zs, rfl, ha, _, _, hz, _⟩ := rise_inv h hr
  exact ⟨_, (dl_strs hz).tup ha⟩
theorem bn_dt {H : Hp} {x : V} {o : Tr} (h : BnAt H x o) (hb : bnB o = true) : ∃ ds, Rds H x (.tuple ds) ∧ (PyData.tuple ds).canLay0 = true ∧ (PyData.tuple ds).depth ≤ 2 := by
  cases h with
  | no _ _ => cases hb
  | odd _ _ _ => cases hb
  | @tri a p0 p1 p2 o0 o1 o2 ha h0 h1 h2 =>
    have hb : (((riseB o0 && riseB o1) && riseB o2) && fitB (stro o0) (stro o1) (stro o2)) = true := hb
    simp only [Bool.and_eq_true] at hb
    obtain ⟨d0, a0, b0, c0⟩ := pt_dt h0 hb.1.1.1
    obtain ⟨d1, a1, b1, c1⟩ := pt_dt h1 hb.1.1.2
    obtain ⟨d2, a2, b2, c2⟩ := pt_dt h2 hb.1.2
    exact ⟨_, (DL.cons a0 b0 c0 (.cons a1 b1 c1 (.cons a2 b2 c2 .nil))).tup ha⟩
theorem strk {k : V} {s : Str} (h : decide (k = .str s) = true) : k = .str s := of_decide_eq_true h
theorem wk_dt {H : Hp} {x : V} {o : Option (List V)} (h : WAt H x o) (hb : wkB o = true) : ∃ ds, Rds H x (.tuple ds) ∧ (PyData.tuple ds).canLay0 = true ∧ (PyData.tuple ds).depth ≤ 1 := by
  cases h with
  | no _ _ => cases hb
  | @tup a xs ha hl hi =>
    match xs, ha, hb with
    | [k, n], ha, hb =>
      have hb : (nmB n && decide (k = .str "drop")) = true := hb
      rw [Bool.and_eq_true] at hb
      obtain ⟨z, rfl, hz⟩ := nm_of hb.1
      rw [strk hb.2] at ha
      exact ⟨_, (DL.cons (.str _) (by decide +kernel) (Nat.zero_le _) (.cons (.str _) (nm_ok hz) (Nat.zero_le _) .nil)).tup ha⟩
    | [k, n, z], ha, hb =>
      have hb : (nmB n && ((decide (k = .str "put") || decide (k = .str "add")) && wholeB z)) = true := hb
      simp only [Bool.and_eq_true, Bool.or_eq_true] at hb
      obtain ⟨y, rfl, hy⟩ := nm_of hb.1
      have hz : ∃ i : Int, z = .int i := by
        have := hb.2.2
        cases z with
        | int i => exact ⟨i, rfl⟩
        | _ => cases this
      obtain ⟨i, rfl⟩ := hz
      rcases hb.2.1 with e | e
      · rw [strk e] at ha
        exact ⟨_, (DL.cons (.str _) (by decide +kernel) (Nat.zero_le _) (.cons (.str _) (nm_ok hy) (Nat.zero_le _) (.cons (.int i) rfl (Nat.zero_le _) .nil))).tup ha⟩
      · rw [strk e] at ha
        exact ⟨_, (DL.cons (.str _) (by decide +kernel) (Nat.zero_le _) (.cons (.str _) (nm_ok hy) (Nat.zero_le _) (.cons (.int i) rfl (Nat.zero_le _) .nil))).tup ha⟩
    | [], _, hb => cases hb
    | [_], _, hb => cases hb
    | _ :: _ :: _ :: _ :: _, _, hb => cases hb
theorem dd_dt {H : Hp} {x : V} {v : Bool} (h : DdV H x v) (hv : v = true) : ∃ ds, Rds H x (.tuple ds) ∧ (PyData.tuple ds).canLay0 = true ∧ (PyData.tuple ds).depth ≤ 3 := by
  have up : ∀ {n : Nat} {d : PyData}, d.depth ≤ n → n ≤ 2 → d.depth ≤ 2 := fun h1 h2 => Nat.le_trans h1 h2
  cases h with
  | no _ _ => cases hv
  | nil _ => cases hv
  | @first a r ha hl =>
    have hr : r = [] := List.length_eq_zero_iff.mp (of_decide_eq_true hv)
    subst hr
    obtain ⟨h1, h2, h3⟩ := (DL.cons (n := 0) (.str _) (by decide +kernel) (Nat.zero_le _) .nil).tup ha
    exact ⟨_, h1, h2, Nat.le_trans h3 (by decide)⟩
  | @ask4 a x1 x2 x3 o ha h1 h2 h3 =>
    simp only [Bool.and_eq_true] at hv
    obtain ⟨z, rfl, hz⟩ := nm_of hv.1
    obtain ⟨i, rfl, _⟩ := int_of_from hv.2.1
    obtain ⟨dw, w1, w2, w3⟩ := wk_dt h3 hv.2.2
    obtain ⟨k1, k2, k3⟩ := (DL.cons (n := 1) (.str _) (by decide +kernel) (Nat.zero_le _) (.cons (.str _) (nm_ok hz) (Nat.zero_le _) (.cons (.int i) rfl (Nat.zero_le _) (.cons w1 w2 w3 .nil)))).tup ha
    exact ⟨_, k1, k2, Nat.le_trans k3 (by decide)⟩
  | askn _ _ _ => cases hv
  | @bench2 a x1 o ha h1 =>
    obtain ⟨db, w1, w2, w3⟩ := bn_dt h1 hv
    exact ⟨_, (DL.cons (n := 2) (.str _) (by decide +kernel) (Nat.zero_le _) (.cons w1 w2 w3 .nil)).tup ha⟩
  | benchn _ _ _ => cases hv
  | odd _ _ _ _ _ _ => cases hv
theorem en_dt {H : Hp} {x : V} {v : Bool} (h : EnV H x v) (hv : v = true) : ∃ ds, Rds H x (.tuple ds) ∧ (PyData.tuple ds).canLay0 = true ∧ (PyData.tuple ds).depth ≤ 4 := by
  cases h with
  | no _ _ => cases hv
  | len _ _ _ => cases hv
  | @two a t d v ha ht hd =>
    simp only [Bool.and_eq_true] at hv
    obtain ⟨i, rfl, _⟩ := int_of_from hv.1
    obtain ⟨dw, w1, w2, w3⟩ := dd_dt hd hv.2
    exact ⟨_, (DL.cons (n := 3) (.int i) rfl (Nat.zero_le _) (.cons w1 w2 w3 .nil)).tup ha⟩
/-- the entries, told -/
structure Ens (H : Hp) (xs : List V) (es : List PyData) : Prop where
  dl : DL H 4 xs es
  ok : ∀ y ∈ xs, EnV H y true
  tp : ∀ e ∈ es, ∃ l, e = .tuple l
  le : xs.length ≤ 50
theorem Ens.same {H H' : Hp} {xs : List V} {es : List PyData} (e : Same H H') (h : Ens H xs es) : Ens H' xs es := ⟨h.dl.same e, fun y hy => (h.ok y hy).same e, h.tp, h.le⟩
theorem ens_of {H : Hp} : ∀ {xs : List V}, (∀ y ∈ xs, EnV H y true) → xs.length ≤ 50 → ∃ es, Ens H xs es := by
  intro xs h hl
  have : ∃ es, DL H 4 xs es ∧ ∀ e ∈ es, ∃ l, e = PyData.tuple l := by
    clear hl
    induction xs with
    | nil => exact ⟨[], .nil, fun e he => by cases he⟩
    | cons x xs ih =>
      obtain ⟨es, h1, h2⟩ := ih fun y hy => h y (List.mem_cons_of_mem _ hy)
      obtain ⟨d, a, b, c⟩ := en_dt (h x List.mem_cons_self) rfl
      refine ⟨_, .cons a b c h1, fun e he => ?_⟩
      rcases List.mem_cons.mp he with rfl | he
      · exact ⟨d, rfl⟩
      · exact h2 e he
  obtain ⟨es, h1, h2⟩ := this
  exact ⟨es, h1, h, h2, hl⟩
theorem Ens.dt {H : Hp} {xs : List V} {es : List PyData} {a : Addr} (h : Ens H xs es) (ha : H a = some (.tup xs)) : Dt H (.ref a) (.tuple es) := by
  obtain ⟨h1, h2, h3⟩ := h.dl.tup ha
  exact ⟨h1, h2, Nat.le_trans h3 (by decide)⟩
/-! parts -/
theorem ev1 (es : List PyData) (i : Int) : PyData.eqv (.tuple es) (.int i) = false := by simp [PyData.eqv]
theorem ev2 (es : List PyData) (b : Bool) : PyData.eqv (.tuple es) (.bool b) = false := by simp [PyData.eqv]
theorem ev3 (es : List PyData) (x : Str) : PyData.eqv (.tuple es) (.str x) = false := by simp [PyData.eqv]
theorem ev4 (es : List PyData) : PyData.eqv (.tuple es) .none = false := by simp [PyData.eqv]
theorem ev5 (es l : List PyData) : PyData.eqv (.tuple es) (.list l) = false := by simp [PyData.eqv]
theorem ev6 (es l : List PyData) : PyData.eqv (.tuple es) (.tuple l) = PyData.eqvAll es l := by simp [PyData.eqv]
theorem pa_int {H : Hp} {es : List PyData} {i : Int} : Pa H (.tuple es) (.int i) false := ⟨Im.int, .no (Kd.int i) (by decide), _, dtI, by rw [ev1, ev1]; rfl⟩
theorem pa_bl {H : Hp} {es : List PyData} {b : Bool} : Pa H (.tuple es) (.bl b) false := ⟨⟨.inl rfl, fun z e => by cases e⟩, .no (Kd.bl b) (by decide), _, dtB, by rw [ev2, ev2]; rfl⟩
theorem pa_non {H : Hp} {es : List PyData} : Pa H (.tuple es) .non false := ⟨⟨.inl rfl, fun z e => by cases e⟩, .no Kd.non (by decide), _, dtN, by rw [ev4, ev4]; rfl⟩
theorem pa_str {H : Hp} {es : List PyData} {x : Str} (h1 : x.length ≤ 100) (h2 : PyData.strOk x = true) : Pa H (.tuple es) (.str x) false := ⟨Im.str h1, .no (Kd.str x) (by decide), _, dtS h2, by rw [ev3, ev3]; rfl⟩
theorem pa_ens {H : Hp} {xs : List V} {es : List PyData} {a : Addr} (h : Ens H xs es) (ha : H a = some (.tup xs)) : Pa H (.tuple es) (.ref a) true := by
  refine ⟨⟨.inr ⟨a, xs, rfl, .inl (.inl ha)⟩, fun z e => by cases e⟩, ?_, _, h.dt ha, ?_⟩
  · have : PV H (.ref a) (xs.all fun _ => true) := .tup (fun _ => true) ha (by have := h.le; lia) fun y hy => h.ok y hy
    rwa [show (xs.all fun _ => true) = true from List.all_eq_true.mpr fun _ _ => rfl] at this
  · rw [SeqAt.eqv_refl _ (h.dt ha).can]
    rfl
theorem pa_emp {H : Hp} {es : List PyData} {a : Addr} (ha : H a = some (.tup [])) : Pa H (.tuple es) (.ref a) true := by
  refine ⟨⟨.inr ⟨a, [], rfl, .inl (.inl ha)⟩, fun z e => by cases e⟩, .tup (fun _ => true) ha (Nat.zero_le _) (fun y hy => by cases hy), .tuple [], ⟨.tup ha .nil, rfl, by decide⟩, ?_⟩
  rw [ev6, ev6]
  simp [PyData.eqvAll]
/-- a tuple of one text is no row of entries -/
theorem pa_one {H : Hp} {es : List PyData} {a : Addr} {x : Str} (ht : ∀ e ∈ es, ∃ l, e = PyData.tuple l) (h2 : PyData.strOk x = true) (ha : H a = some (.tup [.str x])) : Pa H (.tuple es) (.ref a) false := by
  refine ⟨⟨.inr ⟨a, _, rfl, .inl (.inl ha)⟩, fun z e => by cases e⟩, ?_, .tuple [.str x], ?_, ?_⟩
  · have : PV H (.ref a) ([V.str x].all fun _ => false) := .tup (fun _ => false) ha (by show 1 ≤ 60; decide) fun y hy => by
      rw [List.mem_singleton.mp hy]
      exact .no (Kd.str x) (by decide)
    exact this
  · obtain ⟨k1, k2, k3⟩ := (DL.cons (n := 0) (.str x) h2 (Nat.zero_le _) .nil).tup ha
    exact ⟨k1, k2, Nat.le_trans k3 (by decide)⟩
  · rw [ev6, ev6]
    match es, ht with
    | [], _ => simp [PyData.eqvAll]
    | [e], ht =>
      obtain ⟨l, rfl⟩ := ht e List.mem_cons_self
      simp [PyData.eqvAll, ev3]
    | e :: e2 :: r, ht => simp [PyData.eqvAll]
theorem pa_lst {H : Hp} {es : List PyData} {a : Addr} {x : Str} (h2 : PyData.strOk x = true) (ha : H a = some (.lst [.str x])) : Pa H (.tuple es) (.ref a) false := by
  obtain ⟨k1, k2, k3⟩ := (DL.cons (n := 0) (.str x) h2 (Nat.zero_le _) .nil).lst ha
  exact ⟨⟨.inr ⟨a, _, rfl, .inr (.inl ha)⟩, fun z e => by cases e⟩, .no (Kd.lst (.inl ha)) (by decide), _, ⟨k1, k2, Nat.le_trans k3 (by decide)⟩, by rw [ev5, ev5]; rfl⟩
/-- the entries with another thing among them -/
theorem pa_spoilt {H : Hp} {xs : List V} {es : List PyData} {a : Addr} {o : V} {dO : PyData} {i : Nat} (h : Ens H xs es) (ho : EnV H o false) (hr : Rds H o dO) (hc : dO.canLay0 = true) (hd : dO.depth ≤ 4) (ha : H a = some (.tup (xs.take i ++ o :: xs.drop i))) : Pa H (.tuple es) (.ref a) false := by
  classical
  have hlen : (xs.take i ++ o :: xs.drop i).length = xs.length + 1 := by rw [List.length_append, List.length_cons, List.length_take, List.length_drop]; lia
  refine ⟨⟨.inr ⟨a, _, rfl, .inl (.inl ha)⟩, fun z e => by cases e⟩, ?_, .tuple (es.take i ++ dO :: es.drop i), ?_, ?_⟩
  · have : PV H (.ref a) ((xs.take i ++ o :: xs.drop i).all fun y => if y = o then false else true) := .tup (fun y => if y = o then false else true) ha (by rw [hlen]; have := h.le; lia) fun y hy => by
      by_cases e : y = o
      · rw [if_pos e, e]
        exact ho
      · rw [if_neg e]
        rcases List.mem_append.mp hy with hy | hy
        · exact h.ok y (List.mem_of_mem_take hy)
        · rcases List.mem_cons.mp hy with hy | hy
          · exact absurd hy e
          · exact h.ok y (List.mem_of_mem_drop hy)
    have e : ((xs.take i ++ o :: xs.drop i).all fun y => if y = o then false else true) = false := by
      rw [List.all_eq_false]
      exact ⟨o, by simp, by simp⟩
    rw [e] at this
    exact this
  · obtain ⟨k1, k2, k3⟩ := ((h.dl.take i).app (.cons hr hc hd (h.dl.drop i))).tup ha
    exact ⟨k1, k2, Nat.le_trans k3 (by decide)⟩
  · rw [ev6, ev6, SeqAt.eqvAll_other_length, SeqAt.eqvAll_other_length]
    · rfl
    · rw [List.length_append, List.length_cons]
      show 0 ≠ _
      lia
    · rw [List.length_append, List.length_cons, List.length_take, List.length_drop]
      lia
/-- a tuple of parts -/
theorem thv_all {H : Hp} {dE : PyData} {a : Addr} {ys : List V} (ha : H a = some (.tup ys)) (hl : ys.length ≤ 60) (hy : ∀ y ∈ ys, ∃ b, Pa H dE y b) : ∃ v, ThV H dE (.ref a) v := by
  classical
  match ys, ha, hl, hy with
  | [], ha, _, _ => exact ⟨_, .nil ha⟩
  | y :: ps, ha, hl, hy =>
    have hl : ps.length + 1 ≤ 60 := hl
    obtain ⟨b, hb⟩ := hy y List.mem_cons_self
    obtain ⟨k, hk⟩ := hb.im.1.kd
    by_cases hs : isStrV y = true
    · cases y with
      | str kd =>
        refine ⟨_, .kind (fun p => if c : ∃ b, Pa H dE p b then Classical.choose c else false) ha (by lia) fun p hp => ?_⟩
        have c := hy p (List.mem_cons_of_mem _ hp)
        show Pa H dE p (if c : ∃ b, Pa H dE p b then Classical.choose c else false)
        rw [dif_pos c]
        exact Classical.choose_spec c
      | _ => cases hs
    · refine ⟨_, .odd ha (by lia) hk ?_⟩
      cases hk with
      | str z => exact absurd rfl hs
      | _ => decide
def isRef : V → Bool
  | .ref _ => true
  | _ => false
theorem Pok.pa {H : Hp} {xs : List V} {es : List PyData} {s : Str} {x : V} (he : Ens H xs es) (h : Pok H xs s x) : ∃ b, Pa H (.tuple es) x b ∧ partB s x b = true ∧ b = isRef x := by
  cases h with
  | name h => exact ⟨false, pa_str (by have := h.eight; lia) (nm_ok h), nm_nmB h, rfl⟩
  | truth b => exact ⟨false, pa_bl, rfl, rfl⟩
  | text h1 h2 => exact ⟨false, pa_str h1 h2, rfl, rfl⟩
  | entries h => exact ⟨true, pa_ens he h, rfl, rfl⟩
  | @whole i h => exact ⟨false, pa_int, decide_eq_true h, rfl⟩
theorem Poks.pa {H : Hp} {xs : List V} {es : List PyData} (he : Ens H xs es) : ∀ {ss : List Str} {ps : List V}, Poks H xs ss ps → (∀ p ∈ ps, Pa H (.tuple es) p (isRef p)) ∧ ((ss.zip ps).map fun p => partB p.1 p.2 (isRef p.2)).all id = true
  | _, _, .nil => ⟨(fun p hp => by cases hp), rfl⟩
  | _, _, .cons h r => by
    obtain ⟨h1, h2⟩ := r.pa he
    obtain ⟨b, k1, k2, k3⟩ := h.pa he
    subst k3
    refine ⟨fun p hp => ?_, ?_⟩
    · rcases List.mem_cons.mp hp with rfl | hp
      · exact k1
      · exact h1 p hp
    · rw [List.zip_cons_cons, List.map_cons, List.all_cons, h2, Bool.and_true]
      exact k2
theorem LetV.thv {H : Hp} {xs : List V} {es : List PyData} {t : Addr} (he : Ens H xs es) (h : LetV H xs t) : ThV H (.tuple es) (.ref t) true := by
  obtain ⟨kd, ss, ps, h1, h2, h3, _, _, h5⟩ := h.ex
  obtain ⟨k1, k2⟩ := h3.pa he
  have hlen := h3.len
  rw [List.length_append] at hlen
  have hlen : ps.length = 3 + ss.length := hlen
  have hss := shape_len h1
  have e : letB kd ps isRef = true := by
    unfold letB
    rw [h1]
    show ((decide (ps.length = ss.length + 3) && (((hd3 ++ ss).zip ps).map fun p => partB p.1 p.2 (isRef p.2)).all id) && (!decide (kd = "piece") || ltI (ps.getD 5 .non) (ps.getD 6 .non))) = true
    rw [decide_eq_true (by lia), k2, Bool.true_and, Bool.true_and]
    by_cases hk : kd = "piece"
    · obtain ⟨a, b, ha, hb, hab⟩ := h5 hk
      rw [getD_of ha, getD_of hb]
      show (_ || decide (a < b)) = true
      rw [decide_eq_true hab, Bool.or_true]
    · rw [decide_eq_false hk]
      rfl
  have := ThV.kind (dE := .tuple es) isRef h2 (by lia) k1
  rw [e] at this
  exact this
/-- all that a letter is made of are parts -/
theorem LetV.els {H : Hp} {xs : List V} {es : List PyData} {t : Addr} (he : Ens H xs es) (h : LetV H xs t) : ∃ ys : List V, H t = some (.tup ys) ∧ 5 ≤ ys.length ∧ ys.length ≤ 10 ∧ ∀ y ∈ ys, ∃ b, Pa H (.tuple es) y b := by
  obtain ⟨kd, ss, ps, h1, h2, h3, h4, h5, _⟩ := h.ex
  obtain ⟨k1, _⟩ := h3.pa he
  have hlen := h3.len
  rw [List.length_append] at hlen
  have hlen : ps.length = 3 + ss.length := hlen
  have hss := shape_len h1
  refine ⟨_, h2, by rw [List.length_cons]; lia, by rw [List.length_cons]; lia, fun y hy => ?_⟩
  rcases List.mem_cons.mp hy with rfl | hy
  · exact ⟨_, pa_str h5 h4⟩
  · exact ⟨_, k1 y hy⟩
end K31

set_option maxHeartbeats 8000000
namespace K31
open PySem L2
abbrev sWhich : Stmt := top 48
structure WhF (K : PySem.W.Frag) (mg : Str → Option Value) (CL d1 d2 d3 d4 d6 d7 d8 d9 d10 d11 d12 d13 : Addr) : Prop where
  kl : ExcK K CL
  m1 : mg "Down" = some (.ref d1)
  m2 : mg "NoBench" = some (.ref d2)
  m3 : mg "NoDeed" = some (.ref d3)
  m4 : mg "NoHouse" = some (.ref d4)
  m5 : mg "NoLetter" = some (.ref CL)
  m6 : mg "NoPaper" = some (.ref d6)
  m7 : mg "NoText" = some (.ref d7)
  m8 : mg "NotChair" = some (.ref d8)
  m9 : mg "NotYet" = some (.ref d9)
  m10 : mg "NoTown" = some (.ref d10)
  m11 : mg "Old" = some (.ref d11)
  m12 : mg "Standing" = some (.ref d12)
  m13 : mg "NoJournal" = some (.ref d13)
  isi : mg "isinstance" = none
  val : mg "ValueError" = none
  k1 : PySem.W.kitOne K (.ref CL) (.ref d1) = some false
  k2 : PySem.W.kitOne K (.ref CL) (.ref d2) = some false
  k3 : PySem.W.kitOne K (.ref CL) (.ref d3) = some false
  k4 : PySem.W.kitOne K (.ref CL) (.ref d4) = some false
  k5 : PySem.W.kitOne K (.ref CL) (.ref CL) = some true
  k6 : PySem.W.kitOne K (.ref CL) (.ref d6) = some false
  k7 : PySem.W.kitOne K (.ref CL) (.ref d7) = some false
  k8 : PySem.W.kitOne K (.ref CL) (.ref d8) = some false
  k9 : PySem.W.kitOne K (.ref CL) (.ref d9) = some false
  k10 : PySem.W.kitOne K (.ref CL) (.ref d10) = some false
  k11 : PySem.W.kitOne K (.ref CL) (.ref d11) = some false
  k12 : PySem.W.kitOne K (.ref CL) (.ref d12) = some false
  k13 : PySem.W.kitOne K (.ref CL) (.ref d13) = some false
  kv : PySem.W.kitOne K (.ref CL) (.type "ValueError") = some true
theorem bVal : bootBuiltins "ValueError" = some (.type "ValueError") := by decide +kernel
def spWhich (CL : Addr) : Sp := fun us H Q _ => ∃ x : Addr, us = [.ref x] ∧ H x = some (xcO x CL) ∧ ∀ H', Same H H' → Q (.str "noletter") H'
section
variable {P : Program} {w : World} {K : PySem.W.Frag} {mg : Str → Option Value} {base : Heap} {CL d1 d2 d3 d4 d6 d7 d8 d9 d10 d11 d12 d13 : Addr}
abbrev nWhich : List Str := ["_law_error", "_law_marks", "_law_some"]
theorem scWhich : FnScope nWhich ["_law_error"] (defScope sWhich) := ⟨rfl, rfl, rfl, by decide +kernel, rfl, by decide +kernel, by decide +kernel⟩
theorem ok_which {f : Addr} {fd : FuncData} (F : Fun K "_law_which" "_law_which" sWhich f fd) (T : WhF K mg CL d1 d2 d3 d4 d6 d7 d8 d9 d10 d11 d12 d13) : FnOkH P w K mg base 1 f fd ["_law_error"] (spWhich CL) := by
  refine F.okH scWhich (fun us H Q E h => ?_) (fun cdv A ea outer s H us Q E hr h => ?_)
  · obtain ⟨x, rfl, _⟩ := h
    rfl
  · obtain ⟨x, rfl, hx, q⟩ := h
    have nd := scWhich.nd
    have hs16 : sizeLine = 16777216 := sizeLine_eq
    refine go (wss_cons (ws_lstW (i := 1) nd rfl (Or.inl rfl) (Or.inr rfl) (pa_consW (pe_callB call_isX (by rfl) T.isi bIsi (pa_cons (pv 0) (pa_cons (pe_glob (v := .ref d1) (by rfl) T.m1 rfl) pa_nil))) (pa_consW (pe_callB call_isX (by rfl) T.isi bIsi (pa_cons (pv 0) (pa_cons (pe_glob (v := .ref d2) (by rfl) T.m2 rfl) pa_nil))) (pa_consW (pe_callB call_isX (by rfl) T.isi bIsi (pa_cons (pv 0) (pa_cons (pe_glob (v := .ref d3) (by rfl) T.m3 rfl) pa_nil))) (pa_consW (pe_callB call_isX (by rfl) T.isi bIsi (pa_cons (pv 0) (pa_cons (pe_glob (v := .ref d4) (by rfl) T.m4 rfl) pa_nil))) pa_nilW))))) <|
      wss_cons (ws_catW (i := 1) nd rfl (Or.inl rfl) (Or.inr rfl) (pv 1) (pa_consW (pe_callB call_isX (by rfl) T.isi bIsi (pa_cons (pv 0) (pa_cons (pe_glob (v := .ref CL) (by rfl) T.m5 rfl) pa_nil))) (pa_consW (pe_callB call_isX (by rfl) T.isi bIsi (pa_cons (pv 0) (pa_cons (pe_glob (v := .ref d6) (by rfl) T.m6 rfl) pa_nil))) (pa_consW (pe_callB call_isX (by rfl) T.isi bIsi (pa_cons (pv 0) (pa_cons (pe_glob (v := .ref d7) (by rfl) T.m7 rfl) pa_nil))) pa_nilW)))) <|
      wss_cons (ws_catW (i := 1) nd rfl (Or.inl rfl) (Or.inr rfl) (pv 1) (pa_consW (pe_callB call_isX (by rfl) T.isi bIsi (pa_cons (pv 0) (pa_cons (pe_glob (v := .ref d8) (by rfl) T.m8 rfl) pa_nil))) (pa_consW (pe_callB call_isX (by rfl) T.isi bIsi (pa_cons (pv 0) (pa_cons (pe_glob (v := .ref d9) (by rfl) T.m9 rfl) pa_nil))) (pa_consW (pe_callB call_isX (by rfl) T.isi bIsi (pa_cons (pv 0) (pa_cons (pe_glob (v := .ref d10) (by rfl) T.m10 rfl) pa_nil))) pa_nilW)))) <|
      wss_cons (ws_catW (i := 1) nd rfl (Or.inl rfl) (Or.inr rfl) (pv 1) (pa_consW (pe_callB call_isX (by rfl) T.isi bIsi (pa_cons (pv 0) (pa_cons (pe_glob (v := .ref d11) (by rfl) T.m11 rfl) pa_nil))) (pa_consW (pe_callB call_isX (by rfl) T.isi bIsi (pa_cons (pv 0) (pa_cons (pe_glob (v := .ref d12) (by rfl) T.m12 rfl) pa_nil))) (pa_consW (pe_callB call_isX (by rfl) T.isi bIsi (pa_cons (pv 0) (pa_cons (pe_glob (v := .ref d13) (by rfl) T.m13 rfl) pa_nil))) pa_nilW)))) <|
      wss_cons (Wd.mk (ps_if (PW.pt (pw_or (pt_cmpR op_ne (pe_bm PySem.F.plainAttrs_list PySem.F.slot_list_count PySem.F.type_list_count mt_count (pv 1) (pa_cons pe_bl pa_nil)) pe_int (nomark _)) (pw_or1 (pt_not (pt_val (pe_callB call_isXT (by rfl) T.isi bIsi (pa_cons (pv 0) (pa_cons (pe_bltn (v := .ty "ValueError") (by rfl) T.val bVal rfl) pa_nil)))))))) (pss_one (ps_ret pe_str)) pss_nil)) <|
      wss_cons (ws_lstW (i := 2) nd rfl (Or.inl rfl) (Or.inr rfl) (pa_consW pe_str (pa_consW pe_str (pa_consW pe_str (pa_consW pe_str (pa_consW pe_str (pa_consW pe_str (pa_consW pe_str (pa_consW pe_str (pa_consW pe_str (pa_consW pe_str pa_nilW))))))))))) <|
      wss_ret (pe_ix ix_list (pe_op op_catA (pv 2) (pe_lstA (pa_cons pe_str (pa_cons pe_str (pa_cons pe_str pa_nil))))) (pe_bm PySem.F.plainAttrs_list PySem.F.slot_list_index PySem.F.type_list_index mt_index (pv 1) (pa_cons pe_bl pa_nil)) (fun _ _ => rfl))) ?_
    refine ⟨_, rfl, x, CL, d1, false, rfl, hx, T.kl, T.k1, ?_⟩
    refine ⟨_, rfl, x, CL, d2, false, rfl, hx, T.kl, T.k2, ?_⟩
    refine ⟨_, rfl, x, CL, d3, false, rfl, hx, T.kl, T.k3, ?_⟩
    refine ⟨_, rfl, x, CL, d4, false, rfl, hx, T.kl, T.k4, ?_⟩
    refine ⟨(by show 4 ≤ sizeLine; decide), fun l1 H1 _ s1 e1 => ?_⟩
    have hx1 := s1 _ _ hx
    refine ⟨_, rfl, ?_⟩
    refine ⟨_, rfl, x, CL, CL, true, rfl, hx1, T.kl, T.k5, ?_⟩
    refine ⟨_, rfl, x, CL, d6, false, rfl, hx1, T.kl, T.k6, ?_⟩
    refine ⟨_, rfl, x, CL, d7, false, rfl, hx1, T.kl, T.k7, ?_⟩
    refine ⟨(by show 3 ≤ sizeLine; decide), fun l2 H2 _ s2 e2 => ?_⟩
    refine ⟨l1, l2, _, _, rfl, rfl, s2 _ _ e1, e2, (by show 7 ≤ sizeLine; decide), fun l3 H3 _ s3 e3 => ?_⟩
    have hx3 := s3 _ _ (s2 _ _ hx1)
    refine ⟨_, rfl, ?_⟩
    refine ⟨_, rfl, x, CL, d8, false, rfl, hx3, T.kl, T.k8, ?_⟩
    refine ⟨_, rfl, x, CL, d9, false, rfl, hx3, T.kl, T.k9, ?_⟩
    refine ⟨_, rfl, x, CL, d10, false, rfl, hx3, T.kl, T.k10, ?_⟩
    refine ⟨(by show 3 ≤ sizeLine; decide), fun l4 H4 _ s4 e4 => ?_⟩
    refine ⟨l3, l4, _, _, rfl, rfl, s4 _ _ e3, e4, (by show 10 ≤ sizeLine; decide), fun l5 H5 _ s5 e5 => ?_⟩
    have hx5 := s5 _ _ (s4 _ _ hx3)
    refine ⟨_, rfl, ?_⟩
    refine ⟨_, rfl, x, CL, d11, false, rfl, hx5, T.kl, T.k11, ?_⟩
    refine ⟨_, rfl, x, CL, d12, false, rfl, hx5, T.kl, T.k12, ?_⟩
    refine ⟨_, rfl, x, CL, d13, false, rfl, hx5, T.kl, T.k13, ?_⟩
    refine ⟨(by show 3 ≤ sizeLine; decide), fun l6 H6 _ s6 e6 => ?_⟩
    refine ⟨l5, l6, _, _, rfl, rfl, s6 _ _ e5, e6, (by show 13 ≤ sizeLine; decide), fun l7 H7 _ s7 e7 => ?_⟩
    have hx7 := s7 _ _ (s6 _ _ hx5)
    have e7' : H7 l7 = some (.lst ([false, false, false, false, true, false, false, false, false, false, false, false, false].map V.bl)) := e7
    refine ⟨_, rfl, .inl ⟨rfl, _, SqL.of e7⟩, l7, [false, false, false, false, true, false, false, false, false, false, false, false, false], rfl, rfl, e7', rfl, _, rfl, iteNS rfl ?_⟩
    refine ⟨_, rfl, x, CL, "ValueError", true, rfl, hx7, T.kl, T.kv, _, rfl, iteF ?_⟩
    refine ⟨(by show 10 ≤ sizeLine; decide), fun l8 H8 _ s8 e8 => ?_⟩
    refine ⟨_, rfl, (by show 3 ≤ sizeLine; decide), fun l9 H9 _ s9 e9 => ?_⟩
    refine ⟨l8, l9, _, _, rfl, rfl, s9 _ _ e8, e9, (by show 13 ≤ sizeLine; decide), fun la Ha _ sa ea' => ?_⟩
    have s7a := (s8.trans s9).trans sa
    refine ⟨_, rfl, .inl ⟨rfl, _, SqL.of (s7a _ _ e7)⟩, l7, [false, false, false, false, true, false, false, false, false, false, false, false, false], 4, rfl, rfl, s7a _ _ e7', by decide, rfl, fun m hm => by
      match m, hm with
      | 0, _ => rfl
      | 1, _ => rfl
      | 2, _ => rfl
      | 3, _ => rfl
      | n + 4, h => lia, ?_⟩
    exact ⟨la, _, _, _, rfl, rfl, SqL.of ea', atI_nat (j := 4) rfl, q Ha (((((((s1.trans s2).trans s3).trans s4).trans s5).trans s6).trans s7).trans s7a)⟩
end
end K31

set_option maxHeartbeats 8000000
namespace K31
open PySem L2
abbrev sAsked : Stmt := top 49
abbrev sIsN : Stmt := top 50
abbrev sIsI : Stmt := top 51
abbrev sGood : Stmt := top 52
theorem bInt1 : bootBuiltins "int" = some (.type "int") := by decide +kernel
def wordOf (v : Bool) : Str := if v = true then "none" else "noletter"
def spAsked : Sp := fun us H Q _ => ∃ (x : V) (dE : PyData) (v : Bool), us = [x] ∧ ThV H dE x v ∧ ∀ H', Same H H' → Q (.str (wordOf v)) H'
def spNum : Sp := fun us H Q _ => ∃ x : V, us = [x] ∧ Im H x ∧ Q (.bl (fromB 0 x)) H
def spGood : Sp := fun us H Q _ => ∃ (x : V) (e : Addr) (dE : PyData) (v : Bool), us = [x, .ref e] ∧ ThV H dE x v ∧ Dt H (.ref e) dE ∧ dE.depth ≤ 50 ∧ ∀ H', Same H H' → Q (.bl v) H'
abbrev sh0 : List (Key × V) := [(Sum.inr "look", .str "nn"), (Sum.inr "saw", .str "yn"), (Sum.inr "vote", .str "nn"), (Sum.inr "gave", .str "y"), (Sum.inr "rows", .str "nnenn"), (Sum.inr "took", .str "ynn"), (Sum.inr "got", .str "nnn")]
abbrev shK : List (Key × V) := putK (mergeK [] sh0) (Sum.inr "piece") (.str "nnnntn")
abbrev shL : List (Key × V) := [(Sum.inr "look", .str "nn"), (Sum.inr "saw", .str "yn"), (Sum.inr "vote", .str "nn"), (Sum.inr "gave", .str "y"), (Sum.inr "rows", .str "nnenn"), (Sum.inr "took", .str "ynn"), (Sum.inr "got", .str "nnn"), (Sum.inr "piece", .str "nnnntn")]
theorem shK_eq : shK = shL := by decide +kernel
def cd (s : Str) : Nat := if s = "whole" then 110 else if s = "truth" then 121 else if s = "text" then 116 else 101
abbrev sorts4 : List Str := ["whole", "truth", "text", "entries"]
theorem shape_val (kd : Str) : (tGet table kd = none ∧ valV shK (Sum.inr kd) = none) ∨ ∃ (ss : List Str) (z : Str), tGet table kd = some ss ∧ valV shK (Sum.inr kd) = some (.str z) ∧ z.cps = (ss.map cd).toArray ∧ z.cps.all (· < 128) = true ∧ ∀ s ∈ ss, s ∈ sorts4 := by
  rw [shK_eq]
  by_cases h0 : kd = "look"
  · subst h0
    exact .inr ⟨["whole", "whole"], "nn", by decide +kernel, by decide +kernel, by decide +kernel, by decide +kernel, by decide +kernel⟩
  by_cases h1 : kd = "saw"
  · subst h1
    exact .inr ⟨["truth", "whole"], "yn", by decide +kernel, by decide +kernel, by decide +kernel, by decide +kernel, by decide +kernel⟩
  by_cases h2 : kd = "vote"
  · subst h2
    exact .inr ⟨["whole", "whole"], "nn", by decide +kernel, by decide +kernel, by decide +kernel, by decide +kernel, by decide +kernel⟩
  by_cases h3 : kd = "gave"
  · subst h3
    exact .inr ⟨["truth"], "y", by decide +kernel, by decide +kernel, by decide +kernel, by decide +kernel, by decide +kernel⟩
  by_cases h4 : kd = "rows"
  · subst h4
    exact .inr ⟨["whole", "whole", "entries", "whole", "whole"], "nnenn", by decide +kernel, by decide +kernel, by decide +kernel, by decide +kernel, by decide +kernel⟩
  by_cases h5 : kd = "took"
  · subst h5
    exact .inr ⟨["truth", "whole", "whole"], "ynn", by decide +kernel, by decide +kernel, by decide +kernel, by decide +kernel, by decide +kernel⟩
  by_cases h6 : kd = "got"
  · subst h6
    exact .inr ⟨["whole", "whole", "whole"], "nnn", by decide +kernel, by decide +kernel, by decide +kernel, by decide +kernel, by decide +kernel⟩
  by_cases h7 : kd = "piece"
  · subst h7
    exact .inr ⟨["whole", "whole", "whole", "whole", "text", "whole"], "nnnntn", by decide +kernel, by decide +kernel, by decide +kernel, by decide +kernel, by decide +kernel⟩
  refine .inl ⟨?_, ?_⟩
  · rw [tGet_cons, if_neg (Ne.symm h0), tGet_cons, if_neg (Ne.symm h1), tGet_cons, if_neg (Ne.symm h2), tGet_cons, if_neg (Ne.symm h3), tGet_cons, if_neg (Ne.symm h4), tGet_cons, if_neg (Ne.symm h5), tGet_cons, if_neg (Ne.symm h7), tGet_cons, if_neg (Ne.symm h6)]
    rfl
  · have n0 : ¬ ((Sum.inr "look" : Key) = Sum.inr kd) := fun e => h0 (by injection e with e; exact e.symm)
    have n1 : ¬ ((Sum.inr "saw" : Key) = Sum.inr kd) := fun e => h1 (by injection e with e; exact e.symm)
    have n2 : ¬ ((Sum.inr "vote" : Key) = Sum.inr kd) := fun e => h2 (by injection e with e; exact e.symm)
    have n3 : ¬ ((Sum.inr "gave" : Key) = Sum.inr kd) := fun e => h3 (by injection e with e; exact e.symm)
    have n4 : ¬ ((Sum.inr "rows" : Key) = Sum.inr kd) := fun e => h4 (by injection e with e; exact e.symm)
    have n5 : ¬ ((Sum.inr "took" : Key) = Sum.inr kd) := fun e => h5 (by injection e with e; exact e.symm)
    have n6 : ¬ ((Sum.inr "got" : Key) = Sum.inr kd) := fun e => h6 (by injection e with e; exact e.symm)
    have n7 : ¬ ((Sum.inr "piece" : Key) = Sum.inr kd) := fun e => h7 (by injection e with e; exact e.symm)
    rw [valV_neg n0, valV_neg n1, valV_neg n2, valV_neg n3, valV_neg n4, valV_neg n5, valV_neg n6, valV_neg n7]
    rfl
theorem zip_true {g : Str → V → Bool} : ∀ {ss : List Str} {r : List V}, (∀ (j : Nat) (s : Str) (p : V), ss[j]? = some s → r[j]? = some p → g s p = true) → ((ss.zip r).map fun p => g p.1 p.2).all id = true
  | [], _, _ => rfl
  | _ :: _, [], _ => rfl
  | s :: ss, p :: r, h => by
    rw [List.zip_cons_cons, List.map_cons, List.all_cons, zip_true (ss := ss) (r := r) fun j a b ha hb => h (j + 1) a b (by simpa using ha) (by simpa using hb), Bool.and_true]
    exact h 0 s p rfl rfl
theorem zip_false {g : Str → V → Bool} : ∀ {ss : List Str} {r : List V} (j : Nat) {s : Str} {p : V}, ss[j]? = some s → r[j]? = some p → g s p = false → ((ss.zip r).map fun p => g p.1 p.2).all id = false
  | [], _, j, _, _, h, _, _ => by simp at h
  | _ :: _, [], j, _, _, _, h, _ => by simp at h
  | s :: ss, p :: r, 0, _, _, h1, h2, h3 => by
    simp at h1 h2
    subst h1 h2
    rw [List.zip_cons_cons, List.map_cons, List.all_cons]
    show (g s p && _) = false
    rw [h3]
    rfl
  | s :: ss, p :: r, j + 1, _, _, h1, h2, h3 => by
    rw [List.zip_cons_cons, List.map_cons, List.all_cons, zip_false (ss := ss) (r := r) j (by simpa using h1) (by simpa using h2) h3, Bool.and_false]
theorem let_form {kd : Str} {ss : List Str} {p0 p1 p2 : V} {r : List V} {f : V → Bool} (h : tGet table kd = some ss) (hl : r.length = ss.length) : letB kd (p0 :: p1 :: p2 :: r) f = (((nmB p0 && (nmB p1 && (fromB 0 p2 && ((ss.zip r).map fun p => partB p.1 p.2 (f p.2)).all id)))) && (!decide (kd = "piece") || ltI (r.getD 2 .non) (r.getD 3 .non))) := by
  unfold letB
  rw [h]
  show ((decide ((p0 :: p1 :: p2 :: r).length = ss.length + 3) && _) && _) = _
  rw [decide_eq_true (by simp only [List.length_cons]; lia), Bool.true_and]
  rfl
theorem let_len {kd : Str} {ss : List Str} {ps : List V} {f : V → Bool} (h : tGet table kd = some ss) (hl : ps.length ≠ ss.length + 3) : letB kd ps f = false := by
  unfold letB
  rw [h]
  show ((decide (ps.length = ss.length + 3) && _) && _) = _
  rw [decide_eq_false hl]
  rfl
theorem cutV4 (a b c d : V) (ps : List V) : cutV (a :: b :: c :: d :: ps) (some 4) none = ps := by
  unfold cutV
  rw [HT.sIx_none, show HT.sIx (a :: b :: c :: d :: ps).length 0 (some 4) = min 4 (a :: b :: c :: d :: ps).length from HT.sIx_nat _ _ 4]
  simp only [List.length_cons]
  rw [Nat.min_eq_left (by lia)]
  show List.take _ ps = ps
  exact List.take_of_length_le (by lia)
theorem piece_two {kd : Str} {ss : List Str} {r : List V} {f : V → Bool} (hk : kd = "piece") (h : tGet table kd = some ss) (hl : r.length = ss.length) (ha : ((ss.zip r).map fun p => partB p.1 p.2 (f p.2)).all id = true) : ∃ a b : Int, r[2]? = some (.int a) ∧ r[3]? = some (.int b) := by
  subst hk
  have e : tGet table "piece" = some ([("whole" : Str), "whole", "whole", "whole", "text", "whole"]) := by decide +kernel
  rw [e] at h
  cases h
  match r, hl with
  | [p0, p1, p2, p3, p4, p5], _ =>
    simp only [List.zip_cons_cons, List.zip_nil_right, List.map_cons, List.map_nil, List.all_cons, List.all_nil, Bool.and_true, id, Bool.and_eq_true] at ha
    have w : ∀ x b, partB "whole" x b = fromB 0 x := fun x b => by
      unfold partB
      rw [if_neg (by decide +kernel), if_neg (by decide +kernel), if_neg (by decide +kernel), if_neg (by decide +kernel)]
    obtain ⟨_, _, h5, h6, _⟩ := ha
    rw [w] at h5 h6
    obtain ⟨a, rfl, _⟩ := int_of_from h5
    obtain ⟨b, rfl, _⟩ := int_of_from h6
    exact ⟨a, b, rfl, rfl⟩
theorem pbW (x : V) (b : Bool) : partB "whole" x b = fromB 0 x := by
  unfold partB
  rw [if_neg (by decide +kernel), if_neg (by decide +kernel), if_neg (by decide +kernel), if_neg (by decide +kernel)]
theorem pbY (x : V) (b : Bool) : partB "truth" x b = isBlV x := by
  unfold partB
  rw [if_neg (by decide +kernel), if_pos rfl]
theorem pbT (x : V) (b : Bool) : partB "text" x b = isStrV x := by
  unfold partB
  rw [if_neg (by decide +kernel), if_neg (by decide +kernel), if_pos rfl]
theorem pbE (x : V) (b : Bool) : partB "entries" x b = b := by
  unfold partB
  rw [if_neg (by decide +kernel), if_neg (by decide +kernel), if_neg (by decide +kernel), if_pos rfl]
section
variable {P : Program} {w : World} {K : PySem.W.Frag} {mg : Str → Option Value} {base : Heap} {CL : Addr}
abbrev nAsked : List Str := ["_law_thing", "_law_found", "e"]
theorem scAsked : FnScope nAsked ["_law_thing"] (defScope sAsked) := ⟨rfl, rfl, rfl, by decide +kernel, rfl, by decide +kernel, by decide +kernel⟩
theorem ok_asked {f CE : Addr} {fd : FuncData} (F : Fun K "_law_asked" "_law_asked" sAsked f fd) (XC : ExcC K mg "ChainError" CE) (sl : PySem.W.mroIn K CL (.ref CE) = some true) (Fk : FnAtR P w K mg base 9 "check_letter" ["thing"] (spChk CL)) (Fw : FnAtH P w K mg base 1 "_law_which" ["_law_error"] (spWhich CL)) : FnOk P w K mg base CX0 10 f fd ["_law_thing"] spAsked := by
  refine F.ok scAsked (fun us H Q E h => ?_) (fun cdv A outer s H us Q E hr h => ?_)
  · obtain ⟨x, dE, v, rfl, _⟩ := h
    rfl
  · obtain ⟨x, dE, v, rfl, hV, q⟩ := h
    have nd := scAsked.nd
    have r1 : Room 1 _ := hr.mono (by decide)
    refine ⟨_, pss_cons (ps_set (i := 1) nd rfl (Or.inl rfl) pe_str) <|
      pss_cons (ps_tryAs (i := 2) rfl rfl rfl XC (by rfl) nd rfl rfl (fun pins xe E hE => pss_one (ps_if (X := cxTry _ _ _) (pt_cmpR op_notN (pe_callR (X := cxTry _ _ _) Fk hr hE (pa_cons (pv 0) pa_nil)) pe_non (nomark _))
          (pss_one (ps_set (X := cxTry _ _ _) (i := 1) nd rfl (Or.inl rfl) pe_str)) pss_nil))
        (fun ea => pss_one (ps_set (X := cxH _ _) (i := 1) nd rfl (Or.inl rfl) (pe_callH (ea := ea) Fw r1 (pa_cons (pv 2) pa_nil))))) <|
      pss_one (ps_ret (pv 1)), ?_⟩
    refine ⟨_, rfl, x, dE, v, rfl, hV, fun hv H1 s1 => ?_, fun hv H1 s1 => ⟨CL, rfl, sl, fun ea hea => ?_⟩⟩
    · subst hv
      exact ⟨rfl, _, rfl, iteF ⟨_, rfl, q H1 s1⟩⟩
    · subst hv
      exact ⟨_, rfl, ea, rfl, upd_same, fun H2 s2 => ⟨_, rfl, q H2 ((s1.trans (Same.new hea)).trans s2)⟩⟩
theorem scIsN : FnScope ["_law_thing"] ["_law_thing"] (defScope sIsN) := ⟨rfl, rfl, rfl, by decide +kernel, rfl, by decide +kernel, by decide +kernel⟩
theorem filt_bad (x : Str) : ((x.cps.toList.filter fun c => !okc c).map fun c => V.str ⟨#[c]⟩).isEmpty = x.cps.toList.all okc := by
  induction x.cps.toList with
  | nil => rfl
  | cons c r ih =>
    rw [List.filter_cons, List.all_cons]
    cases h : okc c with
    | true =>
      rw [if_neg (by simp), Bool.true_and]
      exact ih
    | false => rfl
theorem ndLSign : ((["_law_thing"] : List Str) ++ (["_law_sign"] : List Str)).Nodup := by decide +kernel
theorem ok_isN {f : Addr} {fd : FuncData} (F : Fun K "_law_is_name" "_law_is_name" sIsN f fd) (B : Blt mg) (T : Bl2 mg) : FnOk P w K mg base CX0 1 f fd ["_law_thing"] spNm := by
  refine F.ok scIsN (fun vs H Q E h => ?_) (fun cdv A outer s H vs Q E hr h => ?_)
  · obtain ⟨v, rfl, _⟩ := h
    rfl
  · obtain ⟨v, rfl, hI, q⟩ := h
    have hu := hu_of hr
    refine ⟨_, pss_cons (ps_if (PW.pt (pw_or (pt_not (pt_val (pe_callB call_isT (by rfl) T.isi bIsi (pa_cons (pv 0) (pa_cons (pe_bltn (v := .ty "str") (by rfl) T.str bStr rfl) pa_nil))))) <|
        pw_or1 (pt_not (pt_chain op_le op_le pe_int (pe_callB call_len_str (by rfl) B.len PySem.boot_len (pa_cons (pv 0) pa_nil)) pe_int)))) (pss_one (ps_ret pe_bl)) pss_nil) <|
      pss_one <| ps_ret <| pe_cmpR (op_eqE hu) (pe_lc ["_law_thing"] ["_law_thing"] ["_law_sign"] (defScope sIsN) rfl rfl rfl (by decide +kernel) rfl rfl (by decide +kernel) (by decide +kernel) (by decide +kernel) (by decide +kernel)
        (pi_str (pv 0)) (fun _ _ _ _ _ => pg_name (i := 1) ndLSign rfl (Or.inl rfl)) (fun _ _ _ _ _ => pts_one (pt_cmpR op_notIn_str (pv 1) pe_str (by rfl)))
        (fun _ _ _ _ _ => pv 1)) (pe_lstA pa_nil) (nomark _), ?_⟩
    obtain ⟨k, hk⟩ := hI.1.kd
    refine ⟨_, rfl, _, _, _, _, rfl, hk, kit_str hk, _, rfl, ?_⟩
    cases v with
    | str x =>
      have hx := hI.2 x rfl
      have hz : x.length ≤ sizeLine := Nat.le_of_lt (small1000 (by lia))
      refine iteF ?_
      refine ⟨_, rfl, x, rfl, hz, _, _, rfl, rfl, _, rfl, ?_⟩
      refine ite2 (fun z => ?_) (fun z => ?_)
      · have z1 := of_decide_eq_true z
        refine ⟨_, _, rfl, rfl, _, rfl, ?_⟩
        refine ite2 (fun z => ?_) (fun z => ?_)
        · have z2 : ¬ ((x.length : Nat) : Int) ≤ 8 := by
            intro y
            have z : (!decide (((x.length : Nat) : Int) ≤ 8)) = true := z
            rw [decide_eq_true y] at z
            cases z
          rw [nmB_long (by lia)] at q
          exact q H (Same.refl H)
        · have z2 : ((x.length : Nat) : Int) ≤ 8 := by
            cases e : decide (((x.length : Nat) : Int) ≤ 8) with
            | true => exact of_decide_eq_true e
            | false => exact absurd (show (!decide (((x.length : Nat) : Int) ≤ 8)) = true by rw [e]; rfl) z
          rw [nmB_mid (by lia) (by lia)] at q
          refine ⟨_, rfl, x, rfl, ?_⟩
          refine lcFT (fun c => !okc c) rfl (show x.length ≤ 1000 by lia) (fun D c ys post hD hp => ?_) (fun D hD => ?_)
          · exact ⟨_, rfl, _, _, rfl, rfl, _, rfl, hp⟩
          · refine ⟨Nat.zero_le _, fun l Hl hl' sl el => ?_⟩
            refine ⟨D, l, _, rfl, rfl, SqL.of (sl _ _ upd_same), SqL.of el, ?_⟩
            rw [filt_bad]
            exact q _ ((Same.new hD).trans sl)
      · have z1 : ¬ (1 : Int) ≤ ((x.length : Nat) : Int) := fun y => z (decide_eq_true y)
        refine ⟨_, rfl, iteT ?_⟩
        rw [nmB_short (by lia)] at q
        exact q H (Same.refl H)
    | _ => exact iteT (iteT (q H (Same.refl H)))
theorem scIsI : FnScope ["_law_thing"] ["_law_thing"] (defScope sIsI) := ⟨rfl, rfl, rfl, by decide +kernel, rfl, by decide +kernel, by decide +kernel⟩
theorem ok_isI {f : Addr} {fd : FuncData} (F : Fun K "_law_is_number" "_law_is_number" sIsI f fd) (T : Bl2 mg) (U : Bl3 mg) : FnOk P w K mg base CX0 1 f fd ["_law_thing"] spNum := by
  refine F.ok scIsI (fun vs H Q E h => ?_) (fun cdv A outer s H vs Q E hr h => ?_)
  · obtain ⟨x, rfl, _⟩ := h
    rfl
  · obtain ⟨x, rfl, hI, q⟩ := h
    refine ⟨_, pss_one <| ps_ret <| pe_and (pe_callB call_isT (by rfl) T.isi bIsi (pa_cons (pv 0) (pa_cons (pe_bltn (v := .ty "int") (by rfl) U.int bInt1 rfl) pa_nil))) (pe_and (pe_not (pe_callB call_isT (by rfl) T.isi bIsi (pa_cons (pv 0) (pa_cons (pe_bltn (v := .ty "bool") (by rfl) U.bool bBool rfl) pa_nil)))) (pe_one (pe_cmpR op_ge (pv 0) pe_int (nomark _)))), ?_⟩
    obtain ⟨k, hk⟩ := hI.1.kd
    refine ⟨_, rfl, _, _, _, _, rfl, hk, kit_int hk, _, rfl, ?_⟩
    cases x with
    | int i => exact iteT ⟨_, rfl, _, _, _, _, rfl, hk, kit_bl hk, _, rfl, _, rfl, iteT ⟨_, rfl, _, _, rfl, rfl, q⟩⟩
    | bl b => exact iteT ⟨_, rfl, _, _, _, _, rfl, hk, kit_bl hk, _, rfl, _, rfl, iteF q⟩
    | _ => exact iteF q
end
end K31

set_option maxHeartbeats 8000000
namespace K31
open PySem L2
section
variable {P : Program} {w : World} {K : PySem.W.Frag} {mg : Str → Option Value} {base : Heap} {CL : Addr}
abbrev pGood : List Str := ["_law_letter_here", "_law_entries"]
abbrev nGood : List Str := ["_law_letter_here", "_law_entries", "_law_shapes", "_law_sort", "_law_part"]
theorem scGood : FnScope nGood pGood (defScope sGood) := ⟨rfl, rfl, rfl, by decide +kernel, rfl, by decide +kernel, by decide +kernel⟩
theorem ok_good {f : Addr} {fd : FuncData} (F : Fun K "_law_good" "_law_good" sGood f fd) (B : Blt mg) (T : Bl2 mg) (U : Bl3 mg) (Fn : FnAt P w K mg base 1 "_law_is_name" ["_law_thing"] spNm) (Fi : FnAt P w K mg base 1 "_law_is_number" ["_law_thing"] spNum) : FnOk P w K mg base CX0 2 f fd pGood spGood := by
  refine F.ok scGood (fun us H Q E h => ?_) (fun cdv A outer s H us Q E hr h => ?_)
  · obtain ⟨x, e, dE, v, rfl, _⟩ := h
    rfl
  · obtain ⟨x, e, dE, v, rfl, hV, hE, hdep, q⟩ := h
    have nd := scGood.nd
    have hs16 : sizeLine = 16777216 := sizeLine_eq
    have hu := hu_of hr
    have hu64 := hr.units
    refine ⟨_, Wd.h (wss_cons (Wd.mk (ps_if (PW.pt (pw_or (pt_not (pt_val (pe_callB call_isT (by rfl) T.isi bIsi (pa_cons (pv 0) (pa_cons (pe_bltn (v := .ty "tuple") (by rfl) B.tuple bTuple rfl) pa_nil))))) <|
        pw_or (pt_cmpR op_lt (pe_callB call_len_seq (by rfl) B.len PySem.boot_len (pa_cons (pv 0) pa_nil)) pe_int (nomark _)) <|
        pw_or1 (pt_not (pt_val (pe_callB call_isT (by rfl) T.isi bIsi (pa_cons (pe_ix ix_tup (pv 0) pe_int (fun _ _ => rfl)) (pa_cons (pe_bltn (v := .ty "str") (by rfl) T.str bStr rfl) pa_nil))))))) (pss_one (ps_ret pe_bl)) pss_nil)) <|
      wss_cons (ws_dictW (i := 2) nd rfl (Or.inl rfl) (Or.inr rfl) (pps_consS (pps_consS (pps_consS (pps_consS (pps_consS (pps_consS (pps_consS pps_nilW))))))) rfl rfl (by decide) (by decide)) <|
      wss_cons (Wd.mk (ps_dput hu (pv 2) pe_str pe_str rfl)) <|
      wss_cons (Wd.mk (ps_if (PW.pt (pw_or (pt_cmp (pc_dnotin hu (pe_ix ix_tup (pv 0) pe_int (fun _ _ => rfl)) (pv 2))) <|
        pw_or1 (pt_cmpR op_ne (pe_callB call_len_seq (by rfl) B.len PySem.boot_len (pa_cons (pv 0) pa_nil)) (pe_op op_add pe_int (pe_callB call_len_str (by rfl) B.len PySem.boot_len (pa_cons (pe_dget hu (pv 2) (pe_ix ix_tup (pv 0) pe_int (fun _ _ => rfl)) (fun _ _ => rfl)) pa_nil))) (nomark _)))) (pss_one (ps_ret pe_bl)) pss_nil)) <|
      wss_cons (Wd.mk (ps_if (PW.pt (pw_or (pt_not (pt_val (pe_callF Fn hr (pa_cons (pe_ix ix_tup (pv 0) pe_int (fun _ _ => rfl)) pa_nil)))) <|
        pw_or (pt_not (pt_val (pe_callF Fn hr (pa_cons (pe_ix ix_tup (pv 0) pe_int (fun _ _ => rfl)) pa_nil)))) <|
        pw_or1 (pt_not (pt_val (pe_callF Fi hr (pa_cons (pe_ix ix_tup (pv 0) pe_int (fun _ _ => rfl)) pa_nil)))))) (pss_one (ps_ret pe_bl)) pss_nil)) <|
      wss_cons (Wd.mk (ps_for PassesOwn.never rfl (pi_zipW (by rfl) T.zip (pa_cons (pe_dget hu (pv 2) (pe_ix ix_tup (pv 0) pe_int (fun _ _ => rfl)) (fun _ _ => rfl)) (pa_cons (pe_slice sl_tupU (pv 0) (po_some pe_int) po_none) pa_nil))) (pg_tup rfl (pgs_cons (pg_name (i := 3) nd rfl (Or.inl rfl)) (pgs_cons (pg_name (i := 4) nd rfl (Or.inl rfl)) pgs_nil))) <|
        pss_cons (ps_if (PW.pt (pw_or (PW.pt (pw_and (pt_cmpR op_eq (pv 3) pe_str (nomark _)) (pw_and1 (pt_not (pt_val (pe_callF Fi hr (pa_cons (pv 4) pa_nil))))))) <|
            pw_or1 (PW.pt (pw_and (pt_cmpR op_eq (pv 3) pe_str (nomark _)) (pw_and1 (pt_not (pt_val (pe_callB call_isT (by rfl) T.isi bIsi (pa_cons (pv 4) (pa_cons (pe_bltn (v := .ty "bool") (by rfl) U.bool bBool rfl) pa_nil)))))))))) (pss_one (ps_ret pe_bl)) pss_nil) <|
        pss_one (ps_if (PW.pt (pw_or (PW.pt (pw_and (pt_cmpR op_eq (pv 3) pe_str (nomark _)) (pw_and1 (pt_not (pt_val (pe_callB call_isT (by rfl) T.isi bIsi (pa_cons (pv 4) (pa_cons (pe_bltn (v := .ty "str") (by rfl) T.str bStr rfl) pa_nil)))))))) <|
            pw_or1 (PW.pt (pw_and (pt_cmpR op_eq (pv 3) pe_str (nomark _)) (pw_and1 (pt_cmpR (op_notInD hu64) (pv 4) (pe_tupA (pa_cons (pv 1) (pa_cons (pe_tupA pa_nil) pa_nil))) (by rfl))))))) (pss_one (ps_ret pe_bl)) pss_nil))) <|
      wss_ret (pe_or (pe_cmpR op_ne (pe_ix ix_tup (pv 0) pe_int (fun _ _ => rfl)) pe_str (nomark _)) (pe_one (pe_cmpR op_lt (pe_ix ix_tup (pv 0) pe_int (fun _ _ => rfl)) (pe_ix ix_tup (pv 0) pe_int (fun _ _ => rfl)) (nomark _))))), ?_⟩
    cases hV with
    | no hk ne => exact ⟨_, rfl, _, _, _, false, rfl, hk, kit_ntup hk ne, _, rfl, iteT (iteT (q H (Same.refl H)))⟩
    | @nil t ht =>
      refine ⟨_, rfl, _, _, "tuple", true, rfl, Kd.tup (.inl ht), kit_self, _, rfl, iteF ?_⟩
      exact ⟨_, rfl, t, _, rfl, .inr (SqT.of ht), _, _, rfl, rfl, _, rfl, iteT (iteT (q H (Same.refl H)))⟩
    | @odd t x ps k ht hl hk ne =>
      refine ⟨_, rfl, _, _, "tuple", true, rfl, Kd.tup (.inl ht), kit_self, _, rfl, iteF ?_⟩
      refine ⟨_, rfl, t, _, rfl, .inr (SqT.of ht), _, _, rfl, rfl, _, rfl, ?_⟩
      refine ite2 (fun _ => iteT (q H (Same.refl H))) (fun _ => ?_)
      refine ⟨_, rfl, t, _, _, _, rfl, rfl, SqT.of ht, at0, _, _, _, _, rfl, hk, kit_str hk, _, rfl, ?_⟩
      have : isStrV x = false := by
        cases hk with
        | str z => exact absurd rfl ne
        | _ => rfl
      rw [this]
      exact iteT (q H (Same.refl H))
    | @kind t kd ps fb ht hl hi =>
      refine ⟨_, rfl, _, _, "tuple", true, rfl, Kd.tup (.inl ht), kit_self, _, rfl, iteF ?_⟩
      refine ⟨_, rfl, t, _, rfl, .inr (SqT.of ht), _, _, rfl, rfl, _, rfl, ?_⟩
      have hsh := shape_val kd
      by_cases h4 : ((V.str kd :: ps).length : Int) < 4
      · rw [decide_eq_true h4]
        have : letB kd ps fb = false := by
          rcases hsh with ⟨g1, _⟩ | ⟨ss, z, g1, _⟩
          · unfold letB; rw [g1]
          · have := shape_len g1
            rw [List.length_cons] at h4
            exact let_len g1 (by lia)
        rw [this] at q
        exact iteT (iteT (q H (Same.refl H)))
      rw [decide_eq_false h4]
      refine iteF ?_
      refine ⟨_, rfl, t, _, _, _, rfl, rfl, SqT.of ht, at0, _, _, _, true, rfl, Kd.str kd, kit_self, _, rfl, iteF ?_⟩
      match ps, ht, hl, hi, h4, q with
      | [], _, _, _, h4, _ => exact absurd (by show ((0 + 1 : Nat) : Int) < 4; decide) h4
      | [_], _, _, _, h4, _ => exact absurd (by show ((0 + 1 + 1 : Nat) : Int) < 4; decide) h4
      | [_, _], _, _, _, h4, _ => exact absurd (by show ((0 + 1 + 1 + 1 : Nat) : Int) < 4; decide) h4
      | p0 :: p1 :: p2 :: r, ht, hl, hi, _, q =>
        simp only [List.length_cons] at hl
        intro dA ndA
        have s1 : Same H _ := Same.new (o := .dK []) ndA
        refine ⟨upd_same, sh0, rfl, by decide, ?_⟩
        refine ⟨_, rfl, dA, _, rfl, .inl ⟨_, Sum.inr "piece", upd_same, rfl, by decide +kernel, rfl⟩, ?_⟩
        have s2 : Same H _ := fun b o e => by
          have nb : b ≠ dA := fun z => by rw [z, ndA] at e; cases e
          exact (show upd (upd (upd H dA (.dK [])) dA (.dK (mergeK [] sh0))) dA (.dK shK) b = some o by rw [upd_ne nb, upd_ne nb, upd_ne nb]; exact e)
        have eD : upd (upd (upd H dA (.dK [])) dA (.dK (mergeK [] sh0))) dA (.dK shK) dA = some (.dK shK) := upd_same
        show _
        generalize hG : upd (upd (upd H dA (.dK [])) dA (.dK (mergeK [] sh0))) dA (.dK shK) = H1 at s2 eD
        have ht1 := s2 _ _ ht
        refine ⟨_, rfl, t, _, _, _, rfl, rfl, SqT.of ht1, at0, _, rfl, dA, _, rfl, .inl ⟨shK, Sum.inr kd, .inl eD, rfl, rfl⟩, _, rfl, ?_⟩
        rcases hsh with ⟨g1, g2⟩ | ⟨ss, z, g1, g2, gz, ga, gs⟩
        · rw [g2]
          have : letB kd (p0 :: p1 :: p2 :: r) fb = false := by unfold letB; rw [g1]
          rw [this] at q
          exact iteT (iteT (q H1 s2))
        rw [g2]
        refine iteF ?_
        have hzl : z.length = ss.length := by show z.cps.size = _; rw [gz]; simp
        have hss := shape_len g1
        refine ⟨_, rfl, t, _, rfl, .inr (SqT.of ht1), _, rfl, _, rfl, t, _, _, _, rfl, rfl, SqT.of ht1, at0, dA, _, rfl, .inl ⟨shK, Sum.inr kd, .inl eD, rfl, g2.symm⟩, z, rfl, by lia, _, _, rfl, rfl, rfl, _, rfl, ?_⟩
        by_cases hln : r.length = ss.length
        · rw [show (!decide (V.int (((V.str kd :: p0 :: p1 :: p2 :: r).length : Nat) : Int) = V.int (4 + ((z.length : Nat) : Int)))) = false by
            rw [decide_eq_true (by simp only [List.length_cons]; rw [hzl, hln]; congr 1; lia)]; rfl]
          refine iteF ?_
          rw [let_form g1 hln] at q
          have m0 := (hi p0 (by simp)).same s2
          have m1 := (hi p1 (by simp)).same s2
          have m2 := (hi p2 (by simp)).same s2
          refine ⟨_, rfl, t, _, _, _, rfl, rfl, SqT.of ht1, at1, p0, rfl, m0.im, fun H2 s3 => ⟨_, rfl, ?_⟩⟩
          have s23 := s2.trans s3
          cases n0 : nmB p0 with
          | false =>
            rw [n0, Bool.false_and, Bool.false_and] at q
            exact iteT (iteT (q H2 s23))
          | true =>
          rw [n0, Bool.true_and] at q
          refine iteF ?_
          refine ⟨_, rfl, t, _, _, _, rfl, rfl, SqT.of (s3 _ _ ht1), at2, p1, rfl, (m1.same s3).im, fun H3 s4 => ⟨_, rfl, ?_⟩⟩
          have s24 := s23.trans s4
          cases n1 : nmB p1 with
          | false =>
            rw [n1, Bool.false_and, Bool.false_and] at q
            exact iteT (iteT (q H3 s24))
          | true =>
          rw [n1, Bool.true_and] at q
          refine iteF ?_
          have ht3 := s24 _ _ ht
          refine ⟨_, rfl, t, _, _, _, rfl, rfl, SqT.of ht3, at3, p2, rfl, ((m2.same s3).same s4).im, _, rfl, ?_⟩
          cases n2 : fromB 0 p2 with
          | false =>
            rw [n2, Bool.false_and, Bool.false_and] at q
            exact iteT (q H3 s24)
          | true =>
          rw [n2, Bool.true_and] at q
          refine iteF ?_
          have eD3 := s4 _ _ (s3 _ _ eD)
          refine ⟨_, rfl, _, rfl, t, _, _, _, rfl, rfl, SqT.of ht3, at0, dA, _, rfl, .inl ⟨shK, Sum.inr kd, .inl eD3, rfl, g2.symm⟩, ?_⟩
          refine ⟨_, rfl, _, rfl, t, _, rfl, ht3, fun pz H4 s5 ep => ?_⟩
          rw [cutV4] at ep
          have s25 := s24.trans s5
          refine ⟨z, pz, r, rfl, ga, SqT.of ep, ?_⟩
          refine for_zipW (K := K) (zs := z) (b := pz) (ys := r) (fun i σ Hx => ∃ (w3 w4 : Option V), σ = [some (V.ref t), some (V.ref e), some (V.ref dA), w3, w4] ∧ Same H4 Hx ∧ ∀ (j : Nat) (s : Str) (p : V), j < i → ss[j]? = some s → r[j]? = some p → partB s p (fb p) = true) ⟨none, none, rfl, Same.refl _, fun j s p h => absurd h (Nat.not_lt_zero _)⟩ (fun i σ Hx ⟨_, _, _, sm, _⟩ => SqT.of (sm _ _ ep)) ?_ ?_
          · rintro i c y p σ Hx hc hy hp ⟨w3, w4, rfl, sm, hall⟩
            have s6 : Same Hx _ := Same.new (o := .tup [.str ⟨#[c]⟩, y]) hp
            refine ⟨p, _, rfl, SqT.of upd_same, rfl, _, _, rfl, _, _, rfl, rfl, ?_⟩
            generalize upd Hx p (.tup [.str ⟨#[c]⟩, y]) = Hy at s6 ⊢
            have s46 := sm.trans s6
            have s26 := s25.trans s46
            have hpa := (hi y (List.mem_cons_of_mem _ (List.mem_cons_of_mem _ (List.mem_cons_of_mem _ (List.mem_of_getElem? hy))))).same s26
            obtain ⟨k, hk⟩ := hpa.im.1.kd
            obtain ⟨sy, hs1, hs2⟩ : ∃ sy, ss[i]? = some sy ∧ c = cd sy := by
              rw [gz] at hc
              simp only [List.getElem?_toArray, List.getElem?_map] at hc
              obtain ⟨sy, h1, h2⟩ := Option.map_eq_some_iff.mp hc
              exact ⟨sy, h1, h2.symm⟩
            have bad : partB sy y (fb y) = false → ∀ Hz, Same Hy Hz → Q (.bl false) Hz := fun hb Hz sz => by
              rw [show ((ss.zip r).map fun p => partB p.1 p.2 (fb p.2)).all id = false from zip_false (g := fun s p => partB s p (fb p)) i hs1 hy hb, Bool.false_and] at q
              exact q Hz (s26.trans sz)
            have good : partB sy y (fb y) = true → ∀ Hz, Same Hy Hz → ∃ (w3 w4 : Option V), [some (V.ref t), some (V.ref e), some (V.ref dA), some (V.str ⟨#[c]⟩), some y] = [some (V.ref t), some (V.ref e), some (V.ref dA), w3, w4] ∧ Same H4 Hz ∧ ∀ (j : Nat) (s : Str) (p : V), j < i + 1 → ss[j]? = some s → r[j]? = some p → partB s p (fb p) = true := fun hb Hz sz => by
              refine ⟨_, _, rfl, s46.trans sz, fun j s p hj h1 h2 => ?_⟩
              by_cases e' : j = i
              · subst e'
                rw [hs1] at h1
                rw [hy] at h2
                cases h1
                cases h2
                exact hb
              · exact hall j s p (by lia) h1 h2
            have hm := gs sy (List.mem_of_getElem? hs1)
            simp only [List.mem_cons, List.not_mem_nil, or_false] at hm
            have N1 : decide (V.str ⟨#[110]⟩ = V.str "n") = true := by decide +kernel
            have N2 : decide (V.str ⟨#[110]⟩ = V.str "y") = false := by decide +kernel
            have N3 : decide (V.str ⟨#[110]⟩ = V.str "t") = false := by decide +kernel
            have N4 : decide (V.str ⟨#[110]⟩ = V.str "e") = false := by decide +kernel
            have Y1 : decide (V.str ⟨#[121]⟩ = V.str "n") = false := by decide +kernel
            have Y2 : decide (V.str ⟨#[121]⟩ = V.str "y") = true := by decide +kernel
            have Y3 : decide (V.str ⟨#[121]⟩ = V.str "t") = false := by decide +kernel
            have Y4 : decide (V.str ⟨#[121]⟩ = V.str "e") = false := by decide +kernel
            have T1 : decide (V.str ⟨#[116]⟩ = V.str "n") = false := by decide +kernel
            have T2 : decide (V.str ⟨#[116]⟩ = V.str "y") = false := by decide +kernel
            have T3 : decide (V.str ⟨#[116]⟩ = V.str "t") = true := by decide +kernel
            have T4 : decide (V.str ⟨#[116]⟩ = V.str "e") = false := by decide +kernel
            have E1 : decide (V.str ⟨#[101]⟩ = V.str "n") = false := by decide +kernel
            have E2 : decide (V.str ⟨#[101]⟩ = V.str "y") = false := by decide +kernel
            have E3 : decide (V.str ⟨#[101]⟩ = V.str "t") = false := by decide +kernel
            have E4 : decide (V.str ⟨#[101]⟩ = V.str "e") = true := by decide +kernel
            rcases hm with rfl | rfl | rfl | rfl
            · rw [show cd "whole" = 110 by decide +kernel] at hs2
              subst hs2
              rw [pbW] at bad good
              refine ⟨_, rfl, rfl, _, rfl, ?_⟩
              rw [N1]
              refine iteT ⟨_, rfl, y, rfl, hpa.im, _, rfl, ?_⟩
              cases hb : fromB 0 y with
              | false => exact iteT (iteT (bad hb Hy (Same.refl _)))
              | true =>
                refine iteF ⟨_, rfl, rfl, _, rfl, ?_⟩
                rw [N2]
                refine iteF (iteF ⟨_, rfl, rfl, _, rfl, ?_⟩)
                rw [N3]
                refine iteF (iteF ⟨_, rfl, rfl, _, rfl, ?_⟩)
                rw [N4]
                exact iteF (iteF (good hb Hy (Same.refl _)))
            · rw [show cd "truth" = 121 by decide +kernel] at hs2
              subst hs2
              rw [pbY] at bad good
              refine ⟨_, rfl, rfl, _, rfl, ?_⟩
              rw [Y1]
              refine iteF (iteF ⟨_, rfl, rfl, _, rfl, ?_⟩)
              rw [Y2]
              refine iteT ⟨_, rfl, _, _, _, _, rfl, hk, kit_bl hk, _, rfl, ?_⟩
              cases hb : isBlV y with
              | false => exact iteT (bad hb Hy (Same.refl _))
              | true =>
                refine iteF ⟨_, rfl, rfl, _, rfl, ?_⟩
                rw [Y3]
                refine iteF (iteF ⟨_, rfl, rfl, _, rfl, ?_⟩)
                rw [Y4]
                exact iteF (iteF (good hb Hy (Same.refl _)))
            · rw [show cd "text" = 116 by decide +kernel] at hs2
              subst hs2
              rw [pbT] at bad good
              refine ⟨_, rfl, rfl, _, rfl, ?_⟩
              rw [T1]
              refine iteF (iteF ⟨_, rfl, rfl, _, rfl, ?_⟩)
              rw [T2]
              refine iteF (iteF ⟨_, rfl, rfl, _, rfl, ?_⟩)
              rw [T3]
              refine iteT ⟨_, rfl, _, _, _, _, rfl, hk, kit_str hk, _, rfl, ?_⟩
              cases hb : isStrV y with
              | false => exact iteT (iteT (bad hb Hy (Same.refl _)))
              | true =>
                refine iteF ⟨_, rfl, rfl, _, rfl, ?_⟩
                rw [T4]
                exact iteF (iteF (good hb Hy (Same.refl _)))
            · rw [show cd "entries" = 101 by decide +kernel] at hs2
              subst hs2
              rw [pbE] at bad good
              refine ⟨_, rfl, rfl, _, rfl, ?_⟩
              rw [E1]
              refine iteF (iteF ⟨_, rfl, rfl, _, rfl, ?_⟩)
              rw [E2]
              refine iteF (iteF ⟨_, rfl, rfl, _, rfl, ?_⟩)
              rw [E3]
              refine iteF (iteF ⟨_, rfl, rfl, _, rfl, ?_⟩)
              rw [E4]
              refine iteT ⟨_, rfl, _, rfl, Nat.zero_le _, fun a0 Ha na sa ea => ⟨(by show 2 ≤ sizeLine; decide), fun a1 Hb nb sb eb => ?_⟩⟩
              have sab := sa.trans sb
              obtain ⟨d, hd, hbe⟩ := (hpa.same sab).dt
              have hE1 := (hE.same s26).same sab
              refine ⟨a1, _, [dE, .tuple []], d, rfl, .inl eb, ⟨.cons hE1.rds (.cons (.tup (sb _ _ ea) .nil) .nil), ?_, ?_⟩, hd, _, rfl, ?_⟩
              · unfold PyData.canLayAll0
                rw [hE1.can]
                rfl
              · show max dE.depth (max _ _) ≤ 60
                have : (PyData.tuple []).depth ≤ 1 := by decide
                unfold PyData.depthAll
                lia
              · rw [show ([dE, .tuple []].any fun x => PyData.eqv x d) = fb y by rw [hbe]; simp]
                cases hb : fb y with
                | false => exact iteT (bad hb Hb sab)
                | true => exact iteF (good hb Hb sab)
          · rintro σ Hx ⟨w3, w4, rfl, sm, hall⟩
            have e0 : min z.cps.size r.length = r.length := by
              have : z.cps.size = ss.length := hzl
              lia
            rw [e0] at hall
            have hA : ((ss.zip r).map fun p => partB p.1 p.2 (fb p.2)).all id = true := zip_true (g := fun s p => partB s p (fb p)) fun j s p h1 h2 => hall j s p ((List.getElem?_eq_some_iff.mp h2).1) h1 h2
            rw [hA, Bool.true_and] at q
            have s2x := s25.trans sm
            have htx := s2x _ _ ht
            refine ⟨_, rfl, t, _, _, _, rfl, rfl, SqT.of htx, at0, rfl, _, rfl, ?_⟩
            by_cases hk : kd = "piece"
            · obtain ⟨a, b, ha, hb⟩ := piece_two hk g1 hln hA
              rw [decide_eq_true (show V.str kd = V.str "piece" by rw [hk])]
              rw [decide_eq_true hk, getD_of ha, getD_of hb] at q
              exact iteF ⟨_, rfl, t, _, _, _, rfl, rfl, SqT.of htx, at6 (by simpa using ha), _, rfl, t, _, _, _, rfl, rfl, SqT.of htx, at7 (by simpa using hb), _, _, rfl, rfl, q _ s2x⟩
            · rw [decide_eq_false (show ¬ V.str kd = V.str "piece" from fun e => hk (by injection e))]
              rw [decide_eq_false hk] at q
              exact iteT (q _ s2x)
        · rw [show (!decide (V.int (((V.str kd :: p0 :: p1 :: p2 :: r).length : Nat) : Int) = V.int (4 + ((z.length : Nat) : Int)))) = true by
            rw [decide_eq_false (fun e => by injection e with e; simp only [List.length_cons] at e; lia)]; rfl]
          rw [let_len g1 (by simp only [List.length_cons]; lia)] at q
          exact iteT (q _ s2)
end
end K31

set_option maxHeartbeats 8000000
namespace K31
open PySem L2
abbrev sSpE : Stmt := top 53
abbrev sSpl : Stmt := top 54
theorem all_nil {p : V → Prop} : ∀ y ∈ ([] : List V), p y := fun y h => by cases h
theorem all_cons {p : V → Prop} {x : V} {xs : List V} (h : p x) (t : ∀ y ∈ xs, p y) : ∀ y ∈ x :: xs, p y := fun y hy => by
  rcases List.mem_cons.mp hy with rfl | hy
  · exact h
  · exact t y hy
theorem Im.bl {H : Hp} {b : Bool} : Im H (.bl b) := ⟨.inl rfl, fun z e => by cases e⟩
theorem Im.non {H : Hp} : Im H .non := ⟨.inl rfl, fun z e => by cases e⟩
theorem Im.tup {H : Hp} {a : Addr} {xs : List V} (h : H a = some (.tup xs)) : Im H (.ref a) := ⟨.inr ⟨a, xs, rfl, .inl (.inl h)⟩, fun z e => by cases e⟩
theorem dlc {H : Hp} {n m : Nat} {x : V} {xs : List V} {d : PyData} {ds : List PyData} (h : Rds H x d ∧ d.canLay0 = true ∧ d.depth ≤ m) (hm : m ≤ n) (t : DL H n xs ds) : DL H n (x :: xs) (d :: ds) := .cons h.1 h.2.1 (Nat.le_trans h.2.2 hm) t
def OddE (H : Hp) (x : V) : Prop := EnV H x false ∧ ∃ d : PyData, Rds H x d ∧ d.canLay0 = true ∧ d.depth ≤ 4
theorem odd_of {H : Hp} {x : V} {b : Bool} {d : PyData} {m : Nat} (h : EnV H x b) (r : Rds H x d ∧ d.canLay0 = true ∧ d.depth ≤ m) (hb : b = false) (hm : m ≤ 4) : OddE H x := ⟨hb ▸ h, d, r.1, r.2.1, Nat.le_trans r.2.2 hm⟩
theorem cut_take {xs : List V} {n : Nat} (h : n ≤ xs.length) : cutV xs none (some (n : Int)) = xs.take n := by
  unfold cutV
  rw [HT.sIx_none, HT.sIx_nat, Nat.min_eq_left h, List.drop_zero, Nat.sub_zero]
theorem cut_drop {xs : List V} {n : Nat} (h : n ≤ xs.length) : cutV xs (some (n : Int)) none = xs.drop n := by
  unfold cutV
  rw [HT.sIx_none, HT.sIx_nat, Nat.min_eq_left h]
  exact List.take_of_length_le (by rw [List.length_drop]; lia)
theorem mem_cut {xs : List V} {lo hi : Option Int} {y : V} (h : y ∈ cutV xs lo hi) : y ∈ xs := List.mem_of_mem_drop (List.mem_of_mem_take h)
theorem len_cut {xs : List V} {lo hi : Option Int} : (cutV xs lo hi).length ≤ xs.length := by
  unfold cutV
  rw [List.length_take, List.length_drop]
  lia
def spSpE : Sp := fun us H Q _ => ∃ (e : Addr) (xs : List V) (es : List PyData) (x : Int), us = [.ref e, .int x] ∧ H e = some (.tup xs) ∧ Ens H xs es ∧ 0 ≤ x ∧ ∀ (a : Addr) (H' : Hp), Same H H' → Pa H' (.tuple es) (.ref a) false → Q (.ref a) H'
section
variable {P : Program} {w : World} {K : PySem.W.Frag} {mg : Str → Option Value} {base : Heap}
abbrev pSpE : List Str := ["_law_entries", "_law_x"]
abbrev nSpE : List Str := ["_law_entries", "_law_x", "_law_odd", "_law_at"]
theorem scSpE : FnScope nSpE pSpE (defScope sSpE) := ⟨rfl, rfl, rfl, by decide +kernel, rfl, by decide +kernel, by decide +kernel⟩
theorem ok_spE {f : Addr} {fd : FuncData} (F : Fun K "_law_spoiled_entries" "_law_spoiled_entries" sSpE f fd) (B : Blt mg) : FnOk P w K mg base CX0 1 f fd pSpE spSpE := by
  refine F.ok scSpE (fun us H Q E h => ?_) (fun cdv A outer s H us Q E hr h => ?_)
  · obtain ⟨e, xs, es, x, rfl, _⟩ := h
    rfl
  · obtain ⟨e, xs, es, x, rfl, he, hE, x0, q⟩ := h
    have nd := scSpE.nd
    have hs16 : sizeLine = 16777216 := sizeLine_eq
    refine go (wss_cons (ws_lstW (i := 2) nd rfl (Or.inl rfl) (Or.inr rfl) (pa_consV (pe_tupW (pa_consW pe_int (pa_consV (pe_tupW (pa_consW pe_str pa_nilW)) pa_nilW))) (pa_consV (pe_tupW (pa_consW pe_int (pa_consV (pe_tupW (pa_consW pe_str pa_nilW)) pa_nilW))) (pa_consV (pe_tupW (pa_consW pe_int (pa_consV (pe_tupW (pa_consW pe_str (pa_consW pe_str (pa_consW pe_int (pa_consV (pe_tupW (pa_consW pe_str (pa_consW pe_str pa_nilW))) pa_nilW))))) pa_nilW))) (pa_consV (pe_tupW (pa_consW pe_int pa_nilW)) (pa_consW pe_int (pa_consW pe_non pa_nilW))))))) <|
      wss_cons (ws_catW (i := 2) nd rfl (Or.inl rfl) (Or.inr rfl) (pv 2) (pa_consV (pe_tupW (pa_consW pe_bl (pa_consV (pe_tupW (pa_consW pe_str pa_nilW)) pa_nilW))) (pa_consV (pe_tupW (pa_consW pe_int (pa_consV (pe_tupW (pa_consW pe_str pa_nilW)) (pa_consW pe_int pa_nilW)))) (pa_consV (pe_tupW (pa_consW pe_int (pa_consV (pe_tupW (pa_consW pe_str (pa_consW pe_str (pa_consW pe_int (pa_consV (pe_tupW (pa_consW pe_str (pa_consW pe_str pa_nilW))) pa_nilW))))) pa_nilW))) pa_nilW)))) <|
      wss_cons (ws_catW (i := 2) nd rfl (Or.inl rfl) (Or.inr rfl) (pv 2) (pa_consV (pe_tupW (pa_consW pe_int (pa_consV (pe_tupW (pa_consW pe_str (pa_consV (pe_tupW (pa_consV (pe_tupW pa_nilW) (pa_consV (pe_tupW pa_nilW) (pa_consV (pe_tupW pa_nilW) pa_nilW)))) pa_nilW))) pa_nilW))) (pa_consV (pe_tupW (pa_consW pe_str (pa_consV (pe_tupW (pa_consW pe_str pa_nilW)) pa_nilW))) (pa_consV (pe_tupW (pa_consW pe_int (pa_consV (pe_tupW (pa_consW pe_str (pa_consV (pe_tupW (pa_consV (pe_tupW (pa_consW pe_str (pa_consW pe_str pa_nilW))) (pa_consV (pe_tupW pa_nilW) (pa_consV (pe_tupW pa_nilW) pa_nilW)))) pa_nilW))) pa_nilW))) pa_nilW)))) <|
      wss_cons (ws_catW (i := 2) nd rfl (Or.inl rfl) (Or.inr rfl) (pv 2) (pa_consV (pe_tupW (pa_consW pe_int (pa_consW pe_str pa_nilW))) (pa_consV (pe_tupW (pa_consW (pe_un un_neg pe_int) (pa_consV (pe_tupW (pa_consW pe_str pa_nilW)) pa_nilW))) (pa_consV (pe_tupW (pa_consW pe_int (pa_consV (pe_tupW (pa_consW pe_str (pa_consW pe_str (pa_consW pe_int (pa_consV (pe_tupW (pa_consW pe_str (pa_consW pe_str pa_nilW))) pa_nilW))))) pa_nilW))) pa_nilW)))) <|
      wss_cons (Wd.mk (ps_set (i := 3) nd rfl (Or.inl rfl) (pe_op op_mod (pv 1) (pe_op op_add (pe_callB call_len_seq (by rfl) B.len PySem.boot_len (pa_cons (pv 0) pa_nil)) pe_int)))) <|
      wss_ret (pe_op op_catU (pe_op op_catU (pe_slice sl_tupU (pv 0) po_none (po_some (pv 3))) (pe_tupA (pa_cons (pe_ix ix_list (pv 2) (pe_op op_mod (pe_op op_fdiv (pv 1) pe_int) (pe_callB call_len_seq (by rfl) B.len PySem.boot_len (pa_cons (pv 2) pa_nil))) (fun _ _ => rfl)) pa_nil))) (pe_slice sl_tupU (pv 0) (po_some (pv 3)) po_none))) ?_
    refine ⟨(by show 1 ≤ sizeLine; decide), fun p1 G1 n1 z1 e1 => ?_⟩
    refine ⟨(by show 2 ≤ sizeLine; decide), fun p2 G2 n2 z2 e2 => ?_⟩
    refine ⟨(by show 1 ≤ sizeLine; decide), fun p3 G3 n3 z3 e3 => ?_⟩
    refine ⟨(by show 2 ≤ sizeLine; decide), fun p4 G4 n4 z4 e4 => ?_⟩
    refine ⟨(by show 2 ≤ sizeLine; decide), fun p5 G5 n5 z5 e5 => ?_⟩
    refine ⟨(by show 4 ≤ sizeLine; decide), fun p6 G6 n6 z6 e6 => ?_⟩
    refine ⟨(by show 2 ≤ sizeLine; decide), fun p7 G7 n7 z7 e7 => ?_⟩
    refine ⟨(by show 1 ≤ sizeLine; decide), fun p8 G8 n8 z8 e8 => ?_⟩
    refine ⟨(by show 6 ≤ sizeLine; decide), fun p9 G9 n9 z9 e9 => ?_⟩
    refine ⟨_, rfl, ?_⟩
    refine ⟨(by show 1 ≤ sizeLine; decide), fun p10 G10 n10 z10 e10 => ?_⟩
    refine ⟨(by show 2 ≤ sizeLine; decide), fun p11 G11 n11 z11 e11 => ?_⟩
    refine ⟨(by show 1 ≤ sizeLine; decide), fun p12 G12 n12 z12 e12 => ?_⟩
    refine ⟨(by show 3 ≤ sizeLine; decide), fun p13 G13 n13 z13 e13 => ?_⟩
    refine ⟨(by show 2 ≤ sizeLine; decide), fun p14 G14 n14 z14 e14 => ?_⟩
    refine ⟨(by show 4 ≤ sizeLine; decide), fun p15 G15 n15 z15 e15 => ?_⟩
    refine ⟨(by show 2 ≤ sizeLine; decide), fun p16 G16 n16 z16 e16 => ?_⟩
    refine ⟨(by show 3 ≤ sizeLine; decide), fun p17 G17 n17 z17 e17 => ?_⟩
    refine ⟨p9, p17, _, _, rfl, rfl, (z17 _ _ (z16 _ _ (z15 _ _ (z14 _ _ (z13 _ _ (z12 _ _ (z11 _ _ (z10 _ _ e9)))))))), e17, (by show 9 ≤ sizeLine; decide), fun p18 G18 n18 z18 e18 => ?_⟩
    refine ⟨_, rfl, ?_⟩
    refine ⟨Nat.zero_le _, fun p19 G19 n19 z19 e19 => ?_⟩
    refine ⟨Nat.zero_le _, fun p20 G20 n20 z20 e20 => ?_⟩
    refine ⟨Nat.zero_le _, fun p21 G21 n21 z21 e21 => ?_⟩
    refine ⟨(by show 3 ≤ sizeLine; decide), fun p22 G22 n22 z22 e22 => ?_⟩
    refine ⟨(by show 2 ≤ sizeLine; decide), fun p23 G23 n23 z23 e23 => ?_⟩
    refine ⟨(by show 2 ≤ sizeLine; decide), fun p24 G24 n24 z24 e24 => ?_⟩
    refine ⟨(by show 1 ≤ sizeLine; decide), fun p25 G25 n25 z25 e25 => ?_⟩
    refine ⟨(by show 2 ≤ sizeLine; decide), fun p26 G26 n26 z26 e26 => ?_⟩
    refine ⟨(by show 2 ≤ sizeLine; decide), fun p27 G27 n27 z27 e27 => ?_⟩
    refine ⟨Nat.zero_le _, fun p28 G28 n28 z28 e28 => ?_⟩
    refine ⟨Nat.zero_le _, fun p29 G29 n29 z29 e29 => ?_⟩
    refine ⟨(by show 3 ≤ sizeLine; decide), fun p30 G30 n30 z30 e30 => ?_⟩
    refine ⟨(by show 2 ≤ sizeLine; decide), fun p31 G31 n31 z31 e31 => ?_⟩
    refine ⟨(by show 2 ≤ sizeLine; decide), fun p32 G32 n32 z32 e32 => ?_⟩
    refine ⟨(by show 3 ≤ sizeLine; decide), fun p33 G33 n33 z33 e33 => ?_⟩
    refine ⟨p18, p33, _, _, rfl, rfl, (z33 _ _ (z32 _ _ (z31 _ _ (z30 _ _ (z29 _ _ (z28 _ _ (z27 _ _ (z26 _ _ (z25 _ _ (z24 _ _ (z23 _ _ (z22 _ _ (z21 _ _ (z20 _ _ (z19 _ _ e18))))))))))))))), e33, (by show 12 ≤ sizeLine; decide), fun p34 G34 n34 z34 e34 => ?_⟩
    refine ⟨_, rfl, ?_⟩
    refine ⟨(by show 2 ≤ sizeLine; decide), fun p35 G35 n35 z35 e35 => ?_⟩
    refine ⟨_, rfl, ?_⟩
    refine ⟨(by show 1 ≤ sizeLine; decide), fun p36 G36 n36 z36 e36 => ?_⟩
    refine ⟨(by show 2 ≤ sizeLine; decide), fun p37 G37 n37 z37 e37 => ?_⟩
    refine ⟨(by show 2 ≤ sizeLine; decide), fun p38 G38 n38 z38 e38 => ?_⟩
    refine ⟨(by show 4 ≤ sizeLine; decide), fun p39 G39 n39 z39 e39 => ?_⟩
    refine ⟨(by show 2 ≤ sizeLine; decide), fun p40 G40 n40 z40 e40 => ?_⟩
    refine ⟨(by show 3 ≤ sizeLine; decide), fun p41 G41 n41 z41 e41 => ?_⟩
    refine ⟨p34, p41, _, _, rfl, rfl, (z41 _ _ (z40 _ _ (z39 _ _ (z38 _ _ (z37 _ _ (z36 _ _ (z35 _ _ e34))))))), e41, (by show 15 ≤ sizeLine; decide), fun p42 G42 n42 z42 e42 => ?_⟩
    have t42 : Same G42 G42 := Same.refl _
    have t41 : Same G41 G42 := z42.trans t42
    have t40 : Same G40 G42 := z41.trans t41
    have t39 : Same G39 G42 := z40.trans t40
    have t38 : Same G38 G42 := z39.trans t39
    have t37 : Same G37 G42 := z38.trans t38
    have t36 : Same G36 G42 := z37.trans t37
    have t35 : Same G35 G42 := z36.trans t36
    have t34 : Same G34 G42 := z35.trans t35
    have t33 : Same G33 G42 := z34.trans t34
    have t32 : Same G32 G42 := z33.trans t33
    have t31 : Same G31 G42 := z32.trans t32
    have t30 : Same G30 G42 := z31.trans t31
    have t29 : Same G29 G42 := z30.trans t30
    have t28 : Same G28 G42 := z29.trans t29
    have t27 : Same G27 G42 := z28.trans t28
    have t26 : Same G26 G42 := z27.trans t27
    have t25 : Same G25 G42 := z26.trans t26
    have t24 : Same G24 G42 := z25.trans t25
    have t23 : Same G23 G42 := z24.trans t24
    have t22 : Same G22 G42 := z23.trans t23
    have t21 : Same G21 G42 := z22.trans t22
    have t20 : Same G20 G42 := z21.trans t21
    have t19 : Same G19 G42 := z20.trans t20
    have t18 : Same G18 G42 := z19.trans t19
    have t17 : Same G17 G42 := z18.trans t18
    have t16 : Same G16 G42 := z17.trans t17
    have t15 : Same G15 G42 := z16.trans t16
    have t14 : Same G14 G42 := z15.trans t15
    have t13 : Same G13 G42 := z14.trans t14
    have t12 : Same G12 G42 := z13.trans t13
    have t11 : Same G11 G42 := z12.trans t12
    have t10 : Same G10 G42 := z11.trans t11
    have t9 : Same G9 G42 := z10.trans t10
    have t8 : Same G8 G42 := z9.trans t9
    have t7 : Same G7 G42 := z8.trans t8
    have t6 : Same G6 G42 := z7.trans t7
    have t5 : Same G5 G42 := z6.trans t6
    have t4 : Same G4 G42 := z5.trans t5
    have t3 : Same G3 G42 := z4.trans t4
    have t2 : Same G2 G42 := z3.trans t3
    have t1 : Same G1 G42 := z2.trans t2
    have t0 : Same H G42 := z1.trans t1
    have every : ∀ y ∈ [V.ref p2, .ref p4, .ref p7, .ref p8, .int 7, .non, .ref p11, .ref p13, .ref p16, .ref p24, .ref p26, .ref p32, .ref p35, .ref p37, .ref p40], OddE G42 y := (all_cons (odd_of (m := 2) (EnV.two (t2 _ _ e2) Im.int (DdV.first (t1 _ _ e1) (Nat.le_of_ble_eq_true rfl))) (DL.tup (dlc (n := 1) (m := 0) ⟨Rds.int _, rfl, Nat.zero_le _⟩ (by decide) (dlc (n := 1) (m := 1) (DL.tup (dlc (n := 0) (m := 0) ⟨Rds.str _, by decide +kernel, Nat.zero_le _⟩ (by decide) DL.nil) (t1 _ _ e1)) (by decide) DL.nil)) (t2 _ _ e2)) (by decide +kernel) (by decide)) (all_cons (odd_of (m := 2) (EnV.two (t4 _ _ e4) Im.int (DdV.odd (t3 _ _ e3) (Nat.le_of_ble_eq_true rfl) (.inl rfl) (by decide +kernel) (by decide +kernel) (by decide +kernel))) (DL.tup (dlc (n := 1) (m := 0) ⟨Rds.int _, rfl, Nat.zero_le _⟩ (by decide) (dlc (n := 1) (m := 1) (DL.tup (dlc (n := 0) (m := 0) ⟨Rds.str _, by decide +kernel, Nat.zero_le _⟩ (by decide) DL.nil) (t3 _ _ e3)) (by decide) DL.nil)) (t4 _ _ e4)) (by decide +kernel) (by decide)) (all_cons (odd_of (m := 3) (EnV.two (t7 _ _ e7) Im.int (DdV.ask4 (t6 _ _ e6) (Im.str (by decide +kernel)) Im.int (WAt.tup (t5 _ _ e5) (Nat.le_of_ble_eq_true rfl) (all_cons ⟨(Im.str (by decide +kernel)), (fun i e => by cases e)⟩ (all_cons ⟨(Im.str (by decide +kernel)), (fun i e => by cases e)⟩ all_nil))))) (DL.tup (dlc (n := 2) (m := 0) ⟨Rds.int _, rfl, Nat.zero_le _⟩ (by decide) (dlc (n := 2) (m := 2) (DL.tup (dlc (n := 1) (m := 0) ⟨Rds.str _, by decide +kernel, Nat.zero_le _⟩ (by decide) (dlc (n := 1) (m := 0) ⟨Rds.str _, by decide +kernel, Nat.zero_le _⟩ (by decide) (dlc (n := 1) (m := 0) ⟨Rds.int _, rfl, Nat.zero_le _⟩ (by decide) (dlc (n := 1) (m := 1) (DL.tup (dlc (n := 0) (m := 0) ⟨Rds.str _, by decide +kernel, Nat.zero_le _⟩ (by decide) (dlc (n := 0) (m := 0) ⟨Rds.str _, by decide +kernel, Nat.zero_le _⟩ (by decide) DL.nil)) (t5 _ _ e5)) (by decide) DL.nil)))) (t6 _ _ e6)) (by decide) DL.nil)) (t7 _ _ e7)) (by decide +kernel) (by decide)) (all_cons (odd_of (m := 1) (EnV.len (t8 _ _ e8) (Nat.le_of_ble_eq_true rfl) (show 1 ≠ 2 by decide)) (DL.tup (dlc (n := 0) (m := 0) ⟨Rds.int _, rfl, Nat.zero_le _⟩ (by decide) DL.nil) (t8 _ _ e8)) (by decide +kernel) (by decide)) (all_cons (odd_of (m := 0) (EnV.no (Kd.int _) (by decide)) ⟨Rds.int _, rfl, Nat.zero_le _⟩ (by decide +kernel) (by decide)) (all_cons (odd_of (m := 0) (EnV.no Kd.non (by decide)) ⟨Rds.non, rfl, Nat.zero_le _⟩ (by decide +kernel) (by decide)) (all_cons (odd_of (m := 2) (EnV.two (t11 _ _ e11) Im.bl (DdV.first (t10 _ _ e10) (Nat.le_of_ble_eq_true rfl))) (DL.tup (dlc (n := 1) (m := 0) ⟨Rds.bl _, rfl, Nat.zero_le _⟩ (by decide) (dlc (n := 1) (m := 1) (DL.tup (dlc (n := 0) (m := 0) ⟨Rds.str _, by decide +kernel, Nat.zero_le _⟩ (by decide) DL.nil) (t10 _ _ e10)) (by decide) DL.nil)) (t11 _ _ e11)) (by decide +kernel) (by decide)) (all_cons (odd_of (m := 2) (EnV.len (t13 _ _ e13) (Nat.le_of_ble_eq_true rfl) (show 3 ≠ 2 by decide)) (DL.tup (dlc (n := 1) (m := 0) ⟨Rds.int _, rfl, Nat.zero_le _⟩ (by decide) (dlc (n := 1) (m := 1) (DL.tup (dlc (n := 0) (m := 0) ⟨Rds.str _, by decide +kernel, Nat.zero_le _⟩ (by decide) DL.nil) (t12 _ _ e12)) (by decide) (dlc (n := 1) (m := 0) ⟨Rds.int _, rfl, Nat.zero_le _⟩ (by decide) DL.nil))) (t13 _ _ e13)) (by decide +kernel) (by decide)) (all_cons (odd_of (m := 3) (EnV.two (t16 _ _ e16) Im.int (DdV.ask4 (t15 _ _ e15) (Im.str (by decide +kernel)) Im.int (WAt.tup (t14 _ _ e14) (Nat.le_of_ble_eq_true rfl) (all_cons ⟨(Im.str (by decide +kernel)), (fun i e => by cases e)⟩ (all_cons ⟨(Im.str (by decide +kernel)), (fun i e => by cases e)⟩ all_nil))))) (DL.tup (dlc (n := 2) (m := 0) ⟨Rds.int _, rfl, Nat.zero_le _⟩ (by decide) (dlc (n := 2) (m := 2) (DL.tup (dlc (n := 1) (m := 0) ⟨Rds.str _, by decide +kernel, Nat.zero_le _⟩ (by decide) (dlc (n := 1) (m := 0) ⟨Rds.str _, by decide +kernel, Nat.zero_le _⟩ (by decide) (dlc (n := 1) (m := 0) ⟨Rds.int _, rfl, Nat.zero_le _⟩ (by decide) (dlc (n := 1) (m := 1) (DL.tup (dlc (n := 0) (m := 0) ⟨Rds.str _, by decide +kernel, Nat.zero_le _⟩ (by decide) (dlc (n := 0) (m := 0) ⟨Rds.str _, by decide +kernel, Nat.zero_le _⟩ (by decide) DL.nil)) (t14 _ _ e14)) (by decide) DL.nil)))) (t15 _ _ e15)) (by decide) DL.nil)) (t16 _ _ e16)) (by decide +kernel) (by decide)) (all_cons (odd_of (m := 4) (EnV.two (t24 _ _ e24) Im.int (DdV.bench2 (t23 _ _ e23) (BnAt.tri (t22 _ _ e22) (PtAt.tup (t19 _ _ e19) (Nat.le_of_ble_eq_true rfl) all_nil) (PtAt.tup (t20 _ _ e20) (Nat.le_of_ble_eq_true rfl) all_nil) (PtAt.tup (t21 _ _ e21) (Nat.le_of_ble_eq_true rfl) all_nil)))) (DL.tup (dlc (n := 3) (m := 0) ⟨Rds.int _, rfl, Nat.zero_le _⟩ (by decide) (dlc (n := 3) (m := 3) (DL.tup (dlc (n := 2) (m := 0) ⟨Rds.str _, by decide +kernel, Nat.zero_le _⟩ (by decide) (dlc (n := 2) (m := 2) (DL.tup (dlc (n := 1) (m := 1) (DL.tup DL.nil (t19 _ _ e19)) (by decide) (dlc (n := 1) (m := 1) (DL.tup DL.nil (t20 _ _ e20)) (by decide) (dlc (n := 1) (m := 1) (DL.tup DL.nil (t21 _ _ e21)) (by decide) DL.nil))) (t22 _ _ e22)) (by decide) DL.nil)) (t23 _ _ e23)) (by decide) DL.nil)) (t24 _ _ e24)) (by decide +kernel) (by decide)) (all_cons (odd_of (m := 2) (EnV.two (t26 _ _ e26) (Im.str (by decide +kernel)) (DdV.first (t25 _ _ e25) (Nat.le_of_ble_eq_true rfl))) (DL.tup (dlc (n := 1) (m := 0) ⟨Rds.str _, by decide +kernel, Nat.zero_le _⟩ (by decide) (dlc (n := 1) (m := 1) (DL.tup (dlc (n := 0) (m := 0) ⟨Rds.str _, by decide +kernel, Nat.zero_le _⟩ (by decide) DL.nil) (t25 _ _ e25)) (by decide) DL.nil)) (t26 _ _ e26)) (by decide +kernel) (by decide)) (all_cons (odd_of (m := 4) (EnV.two (t32 _ _ e32) Im.int (DdV.bench2 (t31 _ _ e31) (BnAt.tri (t30 _ _ e30) (PtAt.tup (t27 _ _ e27) (Nat.le_of_ble_eq_true rfl) (all_cons (Im.str (by decide +kernel)) (all_cons (Im.str (by decide +kernel)) all_nil))) (PtAt.tup (t28 _ _ e28) (Nat.le_of_ble_eq_true rfl) all_nil) (PtAt.tup (t29 _ _ e29) (Nat.le_of_ble_eq_true rfl) all_nil)))) (DL.tup (dlc (n := 3) (m := 0) ⟨Rds.int _, rfl, Nat.zero_le _⟩ (by decide) (dlc (n := 3) (m := 3) (DL.tup (dlc (n := 2) (m := 0) ⟨Rds.str _, by decide +kernel, Nat.zero_le _⟩ (by decide) (dlc (n := 2) (m := 2) (DL.tup (dlc (n := 1) (m := 1) (DL.tup (dlc (n := 0) (m := 0) ⟨Rds.str _, by decide +kernel, Nat.zero_le _⟩ (by decide) (dlc (n := 0) (m := 0) ⟨Rds.str _, by decide +kernel, Nat.zero_le _⟩ (by decide) DL.nil)) (t27 _ _ e27)) (by decide) (dlc (n := 1) (m := 1) (DL.tup DL.nil (t28 _ _ e28)) (by decide) (dlc (n := 1) (m := 1) (DL.tup DL.nil (t29 _ _ e29)) (by decide) DL.nil))) (t30 _ _ e30)) (by decide) DL.nil)) (t31 _ _ e31)) (by decide) DL.nil)) (t32 _ _ e32)) (by decide +kernel) (by decide)) (all_cons (odd_of (m := 1) (EnV.two (t35 _ _ e35) Im.int (DdV.no (Kd.str _) (by decide))) (DL.tup (dlc (n := 0) (m := 0) ⟨Rds.int _, rfl, Nat.zero_le _⟩ (by decide) (dlc (n := 0) (m := 0) ⟨Rds.str _, by decide +kernel, Nat.zero_le _⟩ (by decide) DL.nil)) (t35 _ _ e35)) (by decide +kernel) (by decide)) (all_cons (odd_of (m := 2) (EnV.two (t37 _ _ e37) Im.int (DdV.first (t36 _ _ e36) (Nat.le_of_ble_eq_true rfl))) (DL.tup (dlc (n := 1) (m := 0) ⟨Rds.int _, rfl, Nat.zero_le _⟩ (by decide) (dlc (n := 1) (m := 1) (DL.tup (dlc (n := 0) (m := 0) ⟨Rds.str _, by decide +kernel, Nat.zero_le _⟩ (by decide) DL.nil) (t36 _ _ e36)) (by decide) DL.nil)) (t37 _ _ e37)) (by decide +kernel) (by decide)) (all_cons (odd_of (m := 3) (EnV.two (t40 _ _ e40) Im.int (DdV.ask4 (t39 _ _ e39) (Im.str (by decide +kernel)) Im.int (WAt.tup (t38 _ _ e38) (Nat.le_of_ble_eq_true rfl) (all_cons ⟨(Im.str (by decide +kernel)), (fun i e => by cases e)⟩ (all_cons ⟨(Im.str (by decide +kernel)), (fun i e => by cases e)⟩ all_nil))))) (DL.tup (dlc (n := 2) (m := 0) ⟨Rds.int _, rfl, Nat.zero_le _⟩ (by decide) (dlc (n := 2) (m := 2) (DL.tup (dlc (n := 1) (m := 0) ⟨Rds.str _, by decide +kernel, Nat.zero_le _⟩ (by decide) (dlc (n := 1) (m := 0) ⟨Rds.str _, by decide +kernel, Nat.zero_le _⟩ (by decide) (dlc (n := 1) (m := 0) ⟨Rds.int _, rfl, Nat.zero_le _⟩ (by decide) (dlc (n := 1) (m := 1) (DL.tup (dlc (n := 0) (m := 0) ⟨Rds.str _, by decide +kernel, Nat.zero_le _⟩ (by decide) (dlc (n := 0) (m := 0) ⟨Rds.str _, by decide +kernel, Nat.zero_le _⟩ (by decide) DL.nil)) (t38 _ _ e38)) (by decide) DL.nil)))) (t39 _ _ e39)) (by decide) DL.nil)) (t40 _ _ e40)) (by decide +kernel) (by decide)) all_nil)))))))))))))))
    have heN := t0 _ _ he
    have hEN := hE.same t0
    have hle := hE.le
    refine ⟨_, rfl, _, rfl, e, _, rfl, .inr (SqT.of heN), _, _, rfl, rfl, _, _, rfl, rfl, (by dsimp only; lia), ?_⟩
    obtain ⟨n, hn⟩ := Int.eq_ofNat_of_zero_le (Int.emod_nonneg x (show ((xs.length : Nat) : Int) + 1 ≠ 0 by lia))
    have hn1 := Int.emod_lt_of_pos x (show (0 : Int) < ((xs.length : Nat) : Int) + 1 by lia)
    have hnl : n ≤ xs.length := by lia
    refine ⟨_, rfl, _, rfl, _, rfl, e, _, rfl, heN, fun a1 H1 s1 e1 => ?_⟩
    have e1 : H1 a1 = some (.tup (xs.take n)) := by rw [← cut_take hnl, ← hn]; exact e1
    refine ⟨_, rfl, _, rfl, _, _, rfl, rfl, ⟨by decide, by decide⟩, _, rfl, p42, _, rfl, .inl (SqL.of (s1 _ _ e42)), _, _, rfl, rfl, (by show (0 : Int) < ((15 : Nat) : Int); decide), ?_⟩
    obtain ⟨y, hy, hm⟩ := atI_in (xs := [V.ref p2, .ref p4, .ref p7, .ref p8, .int 7, .non, .ref p11, .ref p13, .ref p16, .ref p24, .ref p26, .ref p32, .ref p35, .ref p37, .ref p40]) (Int.emod_nonneg (x / 4) (show ((15 : Nat) : Int) ≠ 0 by decide)) (Int.emod_lt_of_pos (x / 4) (show (0 : Int) < ((15 : Nat) : Int) by decide))
    refine ⟨p42, _, _, y, rfl, rfl, SqL.of (s1 _ _ e42), hy, (by show 1 ≤ sizeLine; decide), fun a2 H2 n2 s2 e2 => ?_⟩
    refine ⟨a1, a2, _, _, rfl, rfl, s2 _ _ e1, e2, (by rw [List.length_take]; show _ + 1 ≤ sizeLine; lia), fun a3 H3 s3 e3 => ?_⟩
    have s13 := (s1.trans s2).trans s3
    refine ⟨_, rfl, _, rfl, _, rfl, e, _, rfl, s13 _ _ heN, fun a4 H4 s4 e4 => ?_⟩
    have e4 : H4 a4 = some (.tup (xs.drop n)) := by rw [← cut_drop hnl, ← hn]; exact e4
    refine ⟨a3, a4, _, _, rfl, rfl, s4 _ _ e3, e4, (by rw [List.length_append, List.length_take, List.length_drop]; show _ + 1 + _ ≤ sizeLine; lia), fun a5 H5 s5 e5 => ?_⟩
    have s15 := (s13.trans s4).trans s5
    obtain ⟨o1, dO, o2, o3, o4⟩ := every y hm
    refine q a5 H5 (t0.trans s15) (pa_spoilt (i := n) (hEN.same s15) (o1.same s15) (o2.same s15) o3 o4 ?_)
    rw [e5, List.append_assoc]
    rfl
def spSpl : Sp := fun us H Q _ => ∃ (t e : Addr) (xs : List V) (es : List PyData) (x : Int), us = [.ref t, .int x, .ref e] ∧ H e = some (.tup xs) ∧ Ens H xs es ∧ LetV H xs t ∧ 0 ≤ x ∧ ∀ (y : V) (v : Bool) (H' : Hp), Same H H' → ThV H' (.tuple es) y v → Q y H'
abbrev pSpl : List Str := ["_law_letter_here", "_law_x", "_law_entries"]
abbrev nSpl : List Str := ["_law_letter_here", "_law_x", "_law_entries", "_law_odd", "_law_at"]
theorem scSpl : FnScope nSpl pSpl (defScope sSpl) := ⟨rfl, rfl, rfl, by decide +kernel, rfl, by decide +kernel, by decide +kernel⟩
theorem ok_spl {f : Addr} {fd : FuncData} (F : Fun K "_law_spoiled" "_law_spoiled" sSpl f fd) (B : Blt mg) (Fe : FnAt P w K mg base 1 "_law_spoiled_entries" pSpE spSpE) : FnOk P w K mg base CX0 2 f fd pSpl spSpl := by
  refine F.ok scSpl (fun us H Q E h => ?_) (fun cdv A outer s H us Q E hr h => ?_)
  · obtain ⟨t, e, xs, es, x, rfl, _⟩ := h
    rfl
  · obtain ⟨t, e, xs, es, x, rfl, he, hE, hL, x0, q⟩ := h
    have nd := scSpl.nd
    have hs16 : sizeLine = 16777216 := sizeLine_eq
    refine go (wss_cons (ws_lstW (i := 3) nd rfl (Or.inl rfl) (Or.inr rfl) (pa_consW (pe_un un_neg pe_int) (pa_consW pe_bl (pa_consW pe_bl (pa_consW pe_non (pa_consW pe_str (pa_consW pe_str (pa_consW pe_str (pa_consW pe_str (pa_consV (pe_tupW pa_nilW) (pa_consV (pe_tupW (pa_consW pe_str pa_nilW)) (pa_consW pe_int (pa_consW (pe_op op_pow pe_int pe_int) (pa_consW pe_str (pa_consW (pe_un un_neg (pe_op op_pow pe_int pe_int)) (pa_consW pe_str (pa_consW pe_int pa_nilW))))))))))))))))) <|
      wss_cons (ws_catW (i := 3) nd rfl (Or.inl rfl) (Or.inr rfl) (pv 3) (pa_consV (pe_lstW (pa_consW (pe_ix ix_tup (pv 0) pe_int (fun _ _ => rfl)) pa_nilW)) (pa_consV (pe_lstW (pa_consW pe_str pa_nilW)) pa_nilW))) <|
      wss_cons (Wd.mk (ps_set (i := 4) nd rfl (Or.inl rfl) (pe_op op_mod (pe_op op_fdiv (pv 1) pe_int) (pe_callB call_len_seq (by rfl) B.len PySem.boot_len (pa_cons (pv 0) pa_nil))))) <|
      wss_cons (Wd.mk (ps_if (pt_cmpR op_eq (pe_op op_mod (pv 1) pe_int) pe_int (nomark _)) (pss_one (ps_ret (pe_op op_catU (pe_slice sl_tupU (pv 0) po_none (po_some (pv 4))) (pe_slice sl_tupU (pv 0) (po_some (pe_op op_add (pv 4) pe_int)) po_none)))) pss_nil)) <|
      wss_cons (Wd.mk (ps_if (pt_cmpR op_eq (pe_op op_mod (pv 1) pe_int) pe_int (nomark _)) (pss_one (ps_ret (pe_op op_catU (pe_op op_catU (pe_slice sl_tupU (pv 0) po_none (po_some (pv 4))) (pe_tupA (pa_cons (pe_ix ix_list (pv 3) (pe_op op_mod (pe_op op_fdiv (pv 1) pe_int) (pe_callB call_len_seq (by rfl) B.len PySem.boot_len (pa_cons (pv 3) pa_nil))) (fun _ _ => rfl)) pa_nil))) (pe_slice sl_tupU (pv 0) (po_some (pv 4)) po_none)))) pss_nil)) <|
      wss_cons (ws_ifPick (pt_cmpR op_eq (pe_op op_mod (pv 1) pe_int) pe_int (nomark _)) (pa_consW pe_str (pa_consW pe_non (pa_consW pe_int (pa_consV (pe_tupW pa_nilW) (pa_consV (pe_tupW (pa_consW pe_str pa_nilW)) (pa_consW (pe_slice sl_tupU (pv 0) po_none (po_some pe_int)) (pa_consV (pe_tupW (pa_consW (pv 0) pa_nilW)) (pa_consW pe_bl pa_nilW)))))))) (pe_op op_mod (pe_op op_fdiv (pv 1) pe_int) pe_int) (fun _ _ => rfl) pss_nil) <|
      wss_cons (Wd.mk (ps_if (PW.pt (pw_and (pt_cmpR op_eq (pe_op op_mod (pv 1) pe_int) pe_int (nomark _)) (pw_and1 (pt_cmpR op_eq (pe_ix ix_tup (pv 0) pe_int (fun _ _ => rfl)) pe_str (nomark _))))) (pss_one (ps_ret (pe_op op_catU (pe_op op_catU (pe_slice sl_tupU (pv 0) po_none (po_some pe_int)) (pe_tupA (pa_cons (pe_callF Fe hr (pa_cons (pv 2) (pa_cons (pe_op op_fdiv (pv 1) pe_int) pa_nil))) pa_nil))) (pe_slice sl_tupU (pv 0) (po_some pe_int) po_none)))) pss_nil)) <|
      wss_cons (Wd.mk (ps_if (PW.pt (pw_and (pt_cmpR op_eq (pe_op op_mod (pv 1) pe_int) pe_int (nomark _)) (pw_and1 (pt_cmpR op_eq (pe_ix ix_tup (pv 0) pe_int (fun _ _ => rfl)) pe_str (nomark _))))) (pss_one (ps_ret (pe_op op_catU (pe_op op_catU (pe_slice sl_tupU (pv 0) po_none (po_some pe_int)) (pe_tupA (pa_cons (pe_op op_add (pe_ix ix_tup (pv 0) pe_int (fun _ _ => rfl)) (pe_op op_mod (pe_op op_fdiv (pv 1) pe_int) pe_int)) pa_nil))) (pe_slice sl_tupU (pv 0) (po_some pe_int) po_none)))) pss_nil)) <|
      wss_ret (pe_op op_catU (pe_op op_catU (pe_slice sl_tupU (pv 0) po_none (po_some (pv 4))) (pe_tupA (pa_cons (pe_ix ix_list (pv 3) (pe_op op_mod (pe_op op_fdiv (pv 1) pe_int) (pe_callB call_len_seq (by rfl) B.len PySem.boot_len (pa_cons (pv 3) pa_nil))) (fun _ _ => rfl)) pa_nil))) (pe_slice sl_tupU (pv 0) (po_some (pe_op op_add (pv 4) pe_int)) po_none))) ?_
    obtain ⟨kd, ss, ps, hl1, hle, hl3, hkd, hkl, hl5⟩ := hL.ex
    refine ⟨_, rfl, ?_⟩
    refine ⟨Nat.zero_le _, fun p1 G1 n1 z1 e1 => ?_⟩
    refine ⟨(by show 1 ≤ sizeLine; decide), fun p2 G2 n2 z2 e2 => ?_⟩
    refine ⟨_, _, rfl, rfl, ⟨by decide, by decide, by decide⟩, ?_⟩
    refine ⟨_, _, rfl, rfl, ⟨by decide, by decide, by decide⟩, _, rfl, ?_⟩
    refine ⟨(by show 16 ≤ sizeLine; decide), fun p3 G3 n3 z3 e3 => ?_⟩
    refine ⟨_, rfl, ?_⟩
    refine ⟨_, rfl, t, _, _, _, rfl, rfl, SqT.of (z3 _ _ (z2 _ _ (z1 _ _ hle))), at0, ?_⟩
    refine ⟨(by show 1 ≤ sizeLine; decide), fun p4 G4 n4 z4 e4 => ?_⟩
    refine ⟨(by show 1 ≤ sizeLine; decide), fun p5 G5 n5 z5 e5 => ?_⟩
    refine ⟨(by show 2 ≤ sizeLine; decide), fun p6 G6 n6 z6 e6 => ?_⟩
    refine ⟨p3, p6, _, _, rfl, rfl, (z6 _ _ (z5 _ _ (z4 _ _ e3))), e6, (by show 18 ≤ sizeLine; decide), fun p7 G7 n7 z7 e7 => ?_⟩
    have t7 : Same G7 G7 := Same.refl _
    have t6 : Same G6 G7 := z7.trans t7
    have t5 : Same G5 G7 := z6.trans t6
    have t4 : Same G4 G7 := z5.trans t5
    have t3 : Same G3 G7 := z4.trans t4
    have t2 : Same G2 G7 := z3.trans t3
    have t1 : Same G1 G7 := z2.trans t2
    have t0 : Same H G7 := z1.trans t1
    have heN := t0 _ _ he
    have hEN := hE.same t0
    have hLN := hL.same t0
    have every : ∀ y ∈ [V.int (-1), .bl true, .bl false, .non, .str "", .str "a", .str "aBc", .str "abcdefghi", .ref p1, .ref p2, .int 0, .int ((10 : Int) ^ 30), .str "look", .int (-((10 : Int) ^ 40)), .str "a b", .int 1, .ref p4, .ref p5], ∃ b, Pa G7 (.tuple es) y b := (all_cons ⟨_, pa_int⟩ (all_cons ⟨_, pa_bl⟩ (all_cons ⟨_, pa_bl⟩ (all_cons ⟨_, pa_non⟩ (all_cons ⟨_, pa_str (by decide +kernel) (by decide +kernel)⟩ (all_cons ⟨_, pa_str (by decide +kernel) (by decide +kernel)⟩ (all_cons ⟨_, pa_str (by decide +kernel) (by decide +kernel)⟩ (all_cons ⟨_, pa_str (by decide +kernel) (by decide +kernel)⟩ (all_cons ⟨_, pa_emp (t1 _ _ e1)⟩ (all_cons ⟨_, pa_one hEN.tp (by decide +kernel) (t2 _ _ e2)⟩ (all_cons ⟨_, pa_int⟩ (all_cons ⟨_, pa_int⟩ (all_cons ⟨_, pa_str (by decide +kernel) (by decide +kernel)⟩ (all_cons ⟨_, pa_int⟩ (all_cons ⟨_, pa_str (by decide +kernel) (by decide +kernel)⟩ (all_cons ⟨_, pa_int⟩ (all_cons ⟨_, pa_lst hkd (t4 _ _ e4)⟩ (all_cons ⟨_, pa_lst (by decide +kernel) (t5 _ _ e5)⟩ all_nil))))))))))))))))))
    have htN := t0 _ _ hle
    obtain ⟨ys, hy1, hy5, hy10, hyP⟩ := hLN.els hEN
    rw [htN] at hy1
    obtain rfl : (V.str kd :: ps) = ys := by injection hy1 with hy1; injection hy1
    have hy5 : 5 ≤ ps.length + 1 := hy5
    have hy10 : ps.length + 1 ≤ 10 := hy10
    have hyl : (V.str kd :: ps).length = ps.length + 1 := rfl
    have l0 := Int.emod_nonneg (x / 8) (show (((V.str kd :: ps).length : Nat) : Int) ≠ 0 by lia)
    refine ⟨_, rfl, _, _, rfl, rfl, ⟨by decide, by decide⟩, _, rfl, t, _, rfl, .inr (SqT.of htN), _, _, rfl, rfl, (by dsimp only; lia), ?_⟩
    -- a tuple of parts, told
    have fin : ∀ (zs : List V) (a : Addr) (H' : Hp), Same G7 H' → H' a = some (.tup zs) → zs.length ≤ 60 → (∀ z ∈ zs, ∃ b, Pa H' (.tuple es) z b) → Q (.ref a) H' := fun zs a H' s' ea hl hz => by
      obtain ⟨v, hv⟩ := thv_all ea hl hz
      exact q _ v H' (t0.trans s') hv
    have sub : ∀ {lo hi : Option Int} {H' : Hp}, Same G7 H' → ∀ z ∈ cutV (V.str kd :: ps) lo hi, ∃ b, Pa H' (.tuple es) z b := fun s' z hz => by
      obtain ⟨b, hb⟩ := hyP z (mem_cut hz)
      exact ⟨b, hb.same s'⟩
    have three : ∀ {lo hi lo' hi' : Option Int} {o : V} {H' : Hp} (a : Addr), Same G7 H' → (∃ b, Pa H' (.tuple es) o b) → H' a = some (.tup ((cutV (V.str kd :: ps) lo hi ++ [o]) ++ cutV (V.str kd :: ps) lo' hi')) → Q (.ref a) H' := fun {lo hi lo' hi' o H'} a s' ho ea => by
      refine fin _ a H' s' ea ?_ fun z hz => ?_
      · rw [List.length_append, List.length_append]
        have k1 := len_cut (xs := (V.str kd :: ps)) (lo := lo) (hi := hi)
        have k2 := len_cut (xs := (V.str kd :: ps)) (lo := lo') (hi := hi')
        show _ + 1 + _ ≤ 60
        lia
      · rcases List.mem_append.mp hz with hz | hz
        · rcases List.mem_append.mp hz with hz | hz
          · exact sub s' z hz
          · rw [List.mem_singleton.mp hz]
            exact ho
        · exact sub s' z hz
    have big : ∀ {lo hi lo' hi' : Option Int} {o : V}, ((cutV (V.str kd :: ps) lo hi ++ [o]).length) + (cutV (V.str kd :: ps) lo' hi').length ≤ sizeLine := fun {lo hi lo' hi' o} => by
      rw [List.length_append]
      have k1 := len_cut (xs := (V.str kd :: ps)) (lo := lo) (hi := hi)
      have k2 := len_cut (xs := (V.str kd :: ps)) (lo := lo') (hi := hi')
      show _ + 1 + _ ≤ _
      lia
    have big1 : ∀ {lo hi : Option Int} {o : V}, (cutV (V.str kd :: ps) lo hi).length + [o].length ≤ sizeLine := fun {lo hi o} => by
      have k1 := len_cut (xs := (V.str kd :: ps)) (lo := lo) (hi := hi)
      show _ + 1 ≤ _
      lia
    have oddAt : ∃ y, atI [V.int (-1), .bl true, .bl false, .non, .str "", .str "a", .str "aBc", .str "abcdefghi", .ref p1, .ref p2, .int 0, .int ((10 : Int) ^ 30), .str "look", .int (-((10 : Int) ^ 40)), .str "a b", .int 1, .ref p4, .ref p5] (x / 128 % ((18 : Nat) : Int)) = some y ∧ ∃ b, Pa G7 (.tuple es) y b := by
      obtain ⟨y, hy, hm⟩ := atI_in (xs := [V.int (-1), .bl true, .bl false, .non, .str "", .str "a", .str "aBc", .str "abcdefghi", .ref p1, .ref p2, .int 0, .int ((10 : Int) ^ 30), .str "look", .int (-((10 : Int) ^ 40)), .str "a b", .int 1, .ref p4, .ref p5]) (Int.emod_nonneg (x / 128) (show ((18 : Nat) : Int) ≠ 0 by decide)) (Int.emod_lt_of_pos (x / 128) (show (0 : Int) < ((18 : Nat) : Int) by decide))
      exact ⟨y, hy, every y hm⟩
    obtain ⟨od, hod, bo, hpo⟩ := oddAt
    have m0 := Int.emod_nonneg x (show (8 : Int) ≠ 0 by decide)
    refine ⟨_, rfl, _, _, rfl, rfl, (by dsimp only; decide), rfl, _, rfl, ite2 (fun _ => ?_) (fun _ => ?_)⟩
    · refine ⟨_, rfl, _, rfl, _, rfl, t, _, rfl, htN, fun a1 H1 s1 e1 => ?_⟩
      refine ⟨_, rfl, _, rfl, _, _, rfl, rfl, _, rfl, t, _, rfl, s1 _ _ htN, fun a2 H2 s2 e2 => ?_⟩
      refine ⟨a1, a2, _, _, rfl, rfl, s2 _ _ e1, e2, ?_, fun a3 H3 s3 e3 => ?_⟩
      · have k1 := len_cut (xs := (V.str kd :: ps)) (lo := none) (hi := some (x / 8 % (((V.str kd :: ps).length : Nat) : Int)))
        have k2 := len_cut (xs := (V.str kd :: ps)) (lo := some (x / 8 % (((V.str kd :: ps).length : Nat) : Int) + 1)) (hi := none)
        lia
      · refine fin _ a3 H3 ((s1.trans s2).trans s3) e3 ?_ fun z hz => ?_
        · rw [List.length_append]
          have k1 := len_cut (xs := (V.str kd :: ps)) (lo := none) (hi := some (x / 8 % (((V.str kd :: ps).length : Nat) : Int)))
          have k2 := len_cut (xs := (V.str kd :: ps)) (lo := some (x / 8 % (((V.str kd :: ps).length : Nat) : Int) + 1)) (hi := none)
          lia
        · rcases List.mem_append.mp hz with hz | hz
          · exact sub ((s1.trans s2).trans s3) z hz
          · exact sub ((s1.trans s2).trans s3) z hz
    refine ⟨_, rfl, _, _, rfl, rfl, (by dsimp only; decide), rfl, _, rfl, ite2 (fun _ => ?_) (fun _ => ?_)⟩
    · refine ⟨_, rfl, _, rfl, _, rfl, t, _, rfl, htN, fun a1 H1 s1 e1 => ?_⟩
      refine ⟨_, rfl, _, rfl, _, _, rfl, rfl, ⟨by decide, by decide⟩, _, rfl, p7, _, rfl, .inl (SqL.of (s1 _ _ e7)), _, _, rfl, rfl, (by show (0 : Int) < ((18 : Nat) : Int); decide), ?_⟩
      refine ⟨p7, _, _, od, rfl, rfl, SqL.of (s1 _ _ e7), hod, (by show 1 ≤ sizeLine; decide), fun a2 H2 n2 s2 e2 => ?_⟩
      refine ⟨a1, a2, _, _, rfl, rfl, s2 _ _ e1, e2, big1, fun a3 H3 s3 e3 => ?_⟩
      have s13 := (s1.trans s2).trans s3
      refine ⟨_, rfl, _, rfl, _, rfl, t, _, rfl, s13 _ _ htN, fun a4 H4 s4 e4 => ?_⟩
      refine ⟨a3, a4, _, _, rfl, rfl, s4 _ _ e3, e4, big, fun a5 H5 s5 e5 => ?_⟩
      have s15 := (s13.trans s4).trans s5
      exact three a5 s15 ⟨bo, hpo.same s15⟩ e5
    refine ⟨_, rfl, _, _, rfl, rfl, (by dsimp only; decide), rfl, _, rfl, ite2 (fun _ => ?_) (fun _ => ?_)⟩
    · refine ⟨Nat.zero_le _, fun a1 H1 n1 s1 e1 => ⟨(by show 1 ≤ sizeLine; decide), fun a2 H2 n2 s2 e2 => ?_⟩⟩
      have s12 := s1.trans s2
      refine ⟨_, rfl, _, rfl, t, _, rfl, s12 _ _ htN, fun a3 H3 s3 e3 => ?_⟩
      have s13 := s12.trans s3
      refine ⟨_, rfl, (by show 1 ≤ sizeLine; decide), fun a4 H4 n4 s4 e4 => ?_⟩
      refine ⟨(by show 8 ≤ sizeLine; decide), fun a5 H5 n5 s5 e5 => ?_⟩
      have s35 := s4.trans s5
      have s15 := s13.trans s35
      have k0 := Int.emod_nonneg (x / 8) (show (8 : Int) ≠ 0 by decide)
      have k1 := Int.emod_lt_of_pos (x / 8) (show (0 : Int) < 8 by decide)
      obtain ⟨y, hy, hm⟩ := atI_in (xs := [V.str "look", .non, .int 7, .ref a1, .ref a2, .ref a3, .ref a4, .bl true]) k0 k1
      refine ⟨_, rfl, _, _, rfl, rfl, ⟨by decide, by decide⟩, _, _, rfl, rfl, (by dsimp only; decide), a5, _, _, y, rfl, rfl, SqL.of e5, hy, ?_⟩
      simp only [List.mem_cons, List.not_mem_nil, or_false] at hm
      have sA := t0.trans s15
      rcases hm with rfl | rfl | rfl | rfl | rfl | rfl | rfl | rfl
      · exact q _ _ H5 sA (.no (Kd.str _) (by decide))
      · exact q _ _ H5 sA (.no Kd.non (by decide))
      · exact q _ _ H5 sA (.no (Kd.int _) (by decide))
      · exact q _ _ H5 sA (.nil (s35 _ _ (s3 _ _ (s2 _ _ e1))))
      · exact fin _ a2 H5 s15 (s35 _ _ (s3 _ _ e2)) (by show 1 ≤ 60; decide) (all_cons ⟨_, pa_str (by decide +kernel) (by decide +kernel)⟩ all_nil)
      · exact fin _ a3 H5 s15 (s35 _ _ e3) (Nat.le_trans len_cut (by lia)) (sub s15)
      · exact q _ _ H5 sA (.odd (s5 _ _ e4) (Nat.zero_le _) (Kd.tup (.inl (s15 _ _ htN))) (by decide))
      · exact q _ _ H5 sA (.no (Kd.bl _) (by decide))
    refine ⟨_, rfl, _, _, rfl, rfl, (by dsimp only; decide), rfl, _, rfl, ite2 (fun _ => ⟨_, rfl, t, _, _, _, rfl, rfl, SqT.of htN, at0, rfl, _, rfl, ite2 (fun _ => ?_) (fun _ => ?_)⟩) (fun _ => iteF ?_)⟩
    · refine ⟨_, rfl, _, rfl, t, _, rfl, htN, fun a1 H1 s1 e1 => ?_⟩
      refine ⟨_, rfl, _, rfl, _, _, rfl, rfl, ⟨by decide, by decide⟩, e, xs, es, _, rfl, s1 _ _ heN, hEN.same s1, Int.ediv_nonneg x0 (by decide), fun b2 G2 r2 hb2 => ?_⟩
      refine ⟨(by show 1 ≤ sizeLine; decide), fun a2 H2 n2 s2 e2 => ?_⟩
      have s2' := r2.trans s2
      refine ⟨a1, a2, _, _, rfl, rfl, s2' _ _ e1, e2, big1, fun a3 H3 s3 e3 => ?_⟩
      have s13 := (s1.trans s2').trans s3
      refine ⟨_, rfl, _, rfl, t, _, rfl, s13 _ _ htN, fun a4 H4 s4 e4 => ?_⟩
      refine ⟨a3, a4, _, _, rfl, rfl, s4 _ _ e3, e4, big, fun a5 H5 s5 e5 => ?_⟩
      exact three a5 ((s13.trans s4).trans s5) ⟨false, hb2.same (((s2.trans s3).trans s4).trans s5)⟩ e5
    all_goals
      refine ⟨_, rfl, _, _, rfl, rfl, (by dsimp only; decide), rfl, _, rfl, ite2 (fun _ => ⟨_, rfl, t, _, _, _, rfl, rfl, SqT.of htN, at0, rfl, _, rfl, ite2 (fun hc => ?_) (fun _ => ?_)⟩) (fun _ => iteF ?_)⟩
      · have hk : kd = "piece" := by
          have := of_decide_eq_true hc
          injection this
        obtain ⟨i6, i7, h6, h7, _⟩ := hl5 hk
        refine ⟨_, rfl, _, rfl, t, _, rfl, htN, fun a1 H1 s1 e1 => ?_⟩
        refine ⟨_, rfl, t, _, _, _, rfl, rfl, SqT.of (s1 _ _ htN), at7 h7, _, rfl, _, _, rfl, rfl, ⟨by decide, by decide⟩, _, _, rfl, rfl, (by dsimp only; decide), _, _, rfl, rfl, (by show 1 ≤ sizeLine; decide), fun a2 H2 n2 s2 e2 => ?_⟩
        refine ⟨a1, a2, _, _, rfl, rfl, s2 _ _ e1, e2, big1, fun a3 H3 s3 e3 => ?_⟩
        have s13 := (s1.trans s2).trans s3
        refine ⟨_, rfl, _, rfl, t, _, rfl, s13 _ _ htN, fun a4 H4 s4 e4 => ?_⟩
        refine ⟨a3, a4, _, _, rfl, rfl, s4 _ _ e3, e4, big, fun a5 H5 s5 e5 => ?_⟩
        exact three a5 ((s13.trans s4).trans s5) ⟨_, pa_int⟩ e5
      all_goals
        refine ⟨_, rfl, _, rfl, _, rfl, t, _, rfl, htN, fun a1 H1 s1 e1 => ?_⟩
        refine ⟨_, rfl, _, rfl, _, _, rfl, rfl, ⟨by decide, by decide⟩, _, rfl, p7, _, rfl, .inl (SqL.of (s1 _ _ e7)), _, _, rfl, rfl, (by show (0 : Int) < ((18 : Nat) : Int); decide), ?_⟩
        refine ⟨p7, _, _, od, rfl, rfl, SqL.of (s1 _ _ e7), hod, (by show 1 ≤ sizeLine; decide), fun a2 H2 n2 s2 e2 => ?_⟩
        refine ⟨a1, a2, _, _, rfl, rfl, s2 _ _ e1, e2, big1, fun a3 H3 s3 e3 => ?_⟩
        have s13 := (s1.trans s2).trans s3
        refine ⟨_, rfl, _, rfl, _, _, rfl, rfl, _, rfl, t, _, rfl, s13 _ _ htN, fun a4 H4 s4 e4 => ?_⟩
        refine ⟨a3, a4, _, _, rfl, rfl, s4 _ _ e3, e4, big, fun a5 H5 s5 e5 => ?_⟩
        have s15 := (s13.trans s4).trans s5
        exact three a5 s15 ⟨bo, hpo.same s15⟩ e5
end
end K31

set_option maxHeartbeats 8000000
namespace K31
open PySem L2
abbrev sLaw : Stmt := top 55
def spLaw (K : PySem.W.Frag) : Sp := fun vs H Q _ => ∃ (a : Addr) (ns : List Int), vs = [.ref a] ∧ SqL K H a (ns.map V.int) ∧ ns.length ≤ 63 ∧ ∀ H', Q (.bl true) H'
/-- a list has become longer, all else is as it was -/
structure Ch (H H' : Hp) : Prop where
  tup : ∀ a xs, H a = some (.tup xs) → H' a = some (.tup xs)
  kd : ∀ x k, Kd H x k → Kd H' x k
  th : ∀ x, Th1 H x → Th1 H' x
theorem Ch.app {H H' : Hp} {p : Addr} {ys zs : List V} (hp : H p = some (.lst ys)) (hp' : H' p = some (.lst zs)) (f : ∀ b o, b ≠ p → H b = some o → H' b = some o) : Ch H H' := by
  have ft : ∀ a xs, H a = some (.tup xs) → H' a = some (.tup xs) := fun a xs h => f a _ (by rintro rfl; rw [hp] at h; cases h) h
  have fz : ∀ a o x, H a = some (.frz o x) → H' a = some (.frz o x) := fun a o x h => f a _ (by rintro rfl; rw [hp] at h; cases h) h
  have fl : ∀ a xs, H a = some (.lst xs) → ∃ us, H' a = some (.lst us) := fun a xs h => by
    by_cases e : a = p
    · exact ⟨zs, by rw [e]; exact hp'⟩
    · exact ⟨xs, f a _ e h⟩
  refine ⟨ft, fun x k h => ?_, fun x h => ?_⟩
  · cases h with
    | non => exact .non
    | bl b => exact .bl b
    | int i => exact .int i
    | str z => exact .str z
    | lst h =>
      rcases h with h | ⟨o, h⟩
      · obtain ⟨us, e⟩ := fl _ _ h
        exact .lst (.inl e)
      · exact .lst (.inr ⟨o, fz _ _ _ h⟩)
    | tup h =>
      rcases h with h | ⟨o, h⟩
      · exact .tup (.inl (ft _ _ h))
      · exact .tup (.inr ⟨o, fz _ _ _ h⟩)
  · rcases h with h | ⟨a, xs, rfl, h⟩
    · exact .inl h
    · rcases h with (h | ⟨o, h⟩) | (h | ⟨o, h⟩)
      · exact .inr ⟨a, xs, rfl, .inl (.inl (ft _ _ h))⟩
      · exact .inr ⟨a, xs, rfl, .inl (.inr ⟨o, fz _ _ _ h⟩)⟩
      · obtain ⟨us, e⟩ := fl _ _ h
        exact .inr ⟨a, us, rfl, .inr (.inl e)⟩
      · exact .inr ⟨a, xs, rfl, .inr (.inr ⟨o, fz _ _ _ h⟩)⟩
theorem Im.ch {H H' : Hp} {x : V} (e : Ch H H') (h : Im H x) : Im H' x := ⟨e.th _ h.1, h.2⟩
theorem PtAt.ch {H H' : Hp} {x : V} {o : Option (List V)} (e : Ch H H') (h : PtAt H x o) : PtAt H' x o := by
  cases h with
  | no h hk => exact .no (e.kd _ _ h) hk
  | tup h hl hi => exact .tup (e.tup _ _ h) hl fun x hx => (hi x hx).ch e
theorem BnAt.ch {H H' : Hp} {x : V} {o : Tr} (e : Ch H H') (h : BnAt H x o) : BnAt H' x o := by
  cases h with
  | no h hk => exact .no (e.kd _ _ h) hk
  | odd h hl hi => exact .odd (e.tup _ _ h) hl hi
  | tri h h0 h1 h2 => exact .tri (e.tup _ _ h) (h0.ch e) (h1.ch e) (h2.ch e)
theorem WAt.ch {H H' : Hp} {x : V} {o : Option (List V)} (e : Ch H H') (h : WAt H x o) : WAt H' x o := by
  cases h with
  | no h hk => exact .no (e.kd _ _ h) hk
  | tup h hl hi => exact .tup (e.tup _ _ h) hl fun x hx => ⟨(hi x hx).1.ch e, (hi x hx).2⟩
theorem DdV.ch {H H' : Hp} {x : V} {v : Bool} (e : Ch H H') (h : DdV H x v) : DdV H' x v := by
  cases h with
  | no h hk => exact .no (e.kd _ _ h) hk
  | nil h => exact .nil (e.tup _ _ h)
  | first h hl => exact .first (e.tup _ _ h) hl
  | ask4 h h1 h2 h3 => exact .ask4 (e.tup _ _ h) (h1.ch e) (h2.ch e) (h3.ch e)
  | askn h hl hn => exact .askn (e.tup _ _ h) hl hn
  | bench2 h h1 => exact .bench2 (e.tup _ _ h) (h1.ch e)
  | benchn h hl hn => exact .benchn (e.tup _ _ h) hl hn
  | odd h hl h1 h2 h3 h4 => exact .odd (e.tup _ _ h) hl (e.th _ h1) h2 h3 h4
theorem EnV.ch {H H' : Hp} {x : V} {v : Bool} (e : Ch H H') (h : EnV H x v) : EnV H' x v := by
  cases h with
  | no h hk => exact .no (e.kd _ _ h) hk
  | len h hl hn => exact .len (e.tup _ _ h) hl hn
  | two h h1 h2 => exact .two (e.tup _ _ h) (h1.ch e) (h2.ch e)
theorem cutS {ds : List Int} (hl : ds.length = 40) {a b : Nat} (ha : a ≤ 29) (hb : a + 13 = b) : ∃ es : List Int, cutV (ds.map V.int) (some (a : Int)) (some (b : Int)) = es.map V.int ∧ (∀ d ∈ es, d ∈ ds) ∧ 11 ≤ es.length ∧ es.length ≤ 40 := by
  obtain ⟨es, h1, h2, h3⟩ := cutI ds (some (a : Int)) (some (b : Int))
  rw [HT.sIx_nat, HT.sIx_nat, hl] at h3
  exact ⟨es, h1, h2, by lia, by lia⟩
theorem Ens.dep {H : Hp} {xs : List V} {es : List PyData} (h : Ens H xs es) : (PyData.tuple es).depth ≤ 50 := by
  obtain ⟨_, _, h3⟩ := h.dl.all
  unfold PyData.depth
  lia
section
variable {P : Program} {w : World} {K : PySem.W.Frag} {mg : Str → Option Value} {base : Heap}
abbrev nLaw : List Str := ["_law_script", "_law_k", "_law_digits_here", "_law_entries", "_law_j", "_law_letter_here", "_law_spoiled_here"]
theorem scLaw : FnScope nLaw ["_law_script"] (defScope sLaw) := ⟨rfl, rfl, rfl, by decide +kernel, rfl, by decide +kernel, by decide +kernel⟩
theorem ok_law {f : Addr} {fd : FuncData} (F : Fun K "law" "law" sLaw f fd) (T : Blm mg) (B : Blt mg) (hmin : mg "min" = none) (hmax : mg "max" = none) (Fd : FnAt P w K mg base 3 "_law_digits" pDig (spDigits K)) (Fe : FnAt P w K mg base 3 "_law_entry" pLD spLEntry) (Fl : FnAt P w K mg base 2 "_law_letter" pLL spLLet)
    (Fa : FnAt P w K mg base 10 "_law_asked" ["_law_thing"] spAsked) (Fs : FnAt P w K mg base 2 "_law_spoiled" pSpl spSpl) (Fg : FnAt P w K mg base 2 "_law_good" pGood spGood) : FnOk P w K mg base CX0 11 f fd ["_law_script"] (spLaw K) := by
  refine F.ok scLaw (fun us H Q E h => ?_) (fun cdv A outer s H us Q E hr h => ?_)
  · obtain ⟨a, ns, rfl, _⟩ := h
    rfl
  · obtain ⟨a, ns, rfl, hS, hl, q⟩ := h
    have nd := scLaw.nd
    have hs16 : sizeLine = 16777216 := sizeLine_eq
    have r3 : Room 3 _ := hr.mono (by decide)
    have r2 : Room 2 _ := hr.mono (by decide)
    refine ⟨_, pss_cons (ps_for PassesOwn.never rfl (pi_range1 (by rfl) T.range (pa_cons (pe_callB (call_min2 rfl) (by rfl) hmin bMin (pa_cons (pe_callB (call_max2 rfl) (by rfl) hmax bMax (pa_cons (pe_callB call_len_seq (by rfl) T.len PySem.boot_len (pa_cons (pv 0) pa_nil)) (pa_cons pe_int pa_nil))) (pa_cons pe_int pa_nil))) pa_nil)) (pg_name (i := 1) nd rfl (Or.inl rfl))
        (pss_cons (ps_set (i := 2) nd rfl (Or.inl rfl) (pe_callF Fd r3 (pa_cons (pv 0) (pa_cons (pv 1) (pa_cons (pe_op op_pow pe_int pe_int) (pa_cons pe_int pa_nil)))))) <|
         pss_cons (ps_set (i := 3) nd rfl (Or.inl rfl) (pe_lstA pa_nil)) <|
         pss_cons (ps_for PassesOwn.never rfl (pi_range1 (by rfl) T.range (pa_cons (pe_op op_mod (pe_ix ix_list (pv 2) pe_int (fun _ _ => rfl)) pe_int) pa_nil)) (pg_name (i := 4) nd rfl (Or.inl rfl)) (pss_one (ps_expr (pe_bm PySem.F.plainAttrs_list PySem.F.slot_list_append PySem.F.type_list_append mt_appA (pv 3) (pa_cons (pe_callF Fe r3 (pa_cons (pe_slice sl_list (pv 2) (po_some (pe_op op_add pe_int (pe_op op_mul pe_int (pv 4)))) (po_some (pe_op op_add pe_int (pe_op op_mul pe_int (pv 4))))) pa_nil)) pa_nil))))) <|
         pss_cons (ps_for PassesOwn.never rfl (pi_range1 (by rfl) T.range (pa_cons (pe_op op_mul pe_int (pe_callTy call_int1 (by rfl) T.int bInt0 (pa_cons (pe_cmpR op_eq (pe_op op_mod (pe_op op_fdiv (pe_ix ix_list (pv 2) pe_int (fun _ _ => rfl)) pe_int) pe_int) pe_int (nomark _)) pa_nil))) pa_nil)) (pg_name (i := 4) nd rfl (Or.inl rfl)) (pss_one (ps_expr (pe_bm PySem.F.plainAttrs_list PySem.F.slot_list_append PySem.F.type_list_append mt_appA (pv 3) (pa_cons (pe_callF Fe r3 (pa_cons (pe_slice sl_list (pv 2) (po_some (pe_op op_add pe_int (pe_op op_mul pe_int (pv 4)))) (po_some (pe_op op_add pe_int (pe_op op_mul pe_int (pv 4))))) pa_nil)) pa_nil))))) <|
         pss_cons (ps_set (i := 5) nd rfl (Or.inl rfl) (pe_callF Fl r2 (pa_cons (pv 2) (pa_cons (pe_callTy call_tupleA (by rfl) B.tuple bTuple (pa_cons (pv 3) pa_nil)) pa_nil)))) <|
         pss_cons (ps_set (i := 6) nd rfl (Or.inl rfl) (pe_callF Fs r2 (pa_cons (pv 5) (pa_cons (pe_ix ix_list (pv 2) pe_int (fun _ _ => rfl)) (pa_cons (pe_callTy call_tupleA (by rfl) B.tuple bTuple (pa_cons (pv 3) pa_nil)) pa_nil))))) <|
         pss_cons (ps_if (pt_cmpR op_ne (pe_callF Fa hr (pa_cons (pv 6) pa_nil)) (pe_ix ix_list (pe_lstA (pa_cons pe_str (pa_cons pe_str pa_nil))) (pe_callTy call_int1 (by rfl) T.int bInt0 (pa_cons (pe_callF Fg r2 (pa_cons (pv 6) (pa_cons (pe_callTy call_tupleA (by rfl) B.tuple bTuple (pa_cons (pv 3) pa_nil)) pa_nil))) pa_nil)) (fun _ _ => rfl)) (nomark _)) (pss_one (ps_ret pe_bl)) pss_nil) <|
         pss_one (ps_if (pt_cmpR op_ne (pe_callF Fa hr (pa_cons (pv 5) pa_nil)) pe_str (nomark _)) (pss_one (ps_ret pe_bl)) pss_nil))) <|
      pss_one (ps_ret pe_bl), ?_⟩
    refine ⟨_, rfl, a, _, rfl, .inl hS, _, _, rfl, _, _, rfl, ?_⟩
    refine ⟨_, rfl, ?_, ?_, for_range (lo := 0) (n := _) (fun i σ Hx => ∃ (w1 w2 w3 w4 w5 w6 : Option V), σ = [some (V.ref a), w1, w2, w3, w4, w5, w6] ∧ Same H Hx) ⟨none, none, none, none, none, none, rfl, Same.refl H⟩ ?_ ?_⟩
    · split <;> split <;> lia
    · split <;> split <;> lia
    · rintro i σ Hx hi ⟨w1, w2, w3, w4, w5, w6, rfl, sm⟩
      have hi56 : i < 56 := by
        revert hi
        split <;> split <;> lia
      refine ⟨_, rfl, _, rfl, _, _, rfl, rfl, ⟨by decide, by decide, by decide⟩, a, ns, _, _, _, rfl, sm.seq hS, by lia, by lia, by decide, by decide, by decide, by decide, fun ds dg H1 s1 ndg edg hdl hdo => ?_⟩
      have hdl : ds.length = 40 := by lia
      have hD : Dg H1 dg ds 40 := ⟨edg, by lia, by lia, fun d hd => hdo d hd⟩
      obtain ⟨d10, i10, p10, q10⟩ := hD.ix 10 (by decide)
      obtain ⟨d39, i39, p39, q39⟩ := hD.ix 39 (by decide)
      refine ⟨Nat.zero_le _, fun ea H2 nea s2 eea => ?_⟩
      have hD2 := hD.same s2
      refine ⟨_, rfl, dg, _, _, _, rfl, rfl, SqL.of hD2.at', i10, _, _, rfl, rfl, (by dsimp only; decide), ?_⟩
      have m0 := Int.emod_nonneg d10 (show (3 : Int) ≠ 0 by decide)
      have m1 := Int.emod_lt_of_pos d10 (show (0 : Int) < 3 by decide)
      refine ⟨_, rfl, by lia, by lia, for_range (lo := 0) (n := (d10 % 3).toNat) (fun j σ Hy => ∃ (u4 u5 u6 : Option V) (ys : List V), σ = [some (V.ref a), some (V.int (0 + (i : Int))), some (V.ref dg), some (V.ref ea), u4, u5, u6] ∧ Hy ea = some (.lst ys) ∧ ys.length = j ∧ (∀ y ∈ ys, EnV Hy y true) ∧ Same H1 Hy) ⟨w4, w5, w6, [], rfl, eea, rfl, fun y hy => (by cases hy), s2⟩ ?_ ?_⟩
      · rintro j σ Hy hj ⟨u4, u5, u6, ys, rfl, ey, ly, oy, sy⟩
        have hDy := hD.same sy
        refine ⟨_, rfl, .inl ⟨rfl, _, SqL.of ey⟩, _, rfl, _, rfl, _, _, rfl, rfl, .inl ⟨by decide, by decide⟩, _, _, rfl, rfl, _, rfl, _, rfl, _, _, rfl, rfl, .inl ⟨by decide, by decide⟩, _, _, rfl, rfl, _, rfl, dg, _, rfl, SqL.of hDy.at', fun p np => ?_⟩
        obtain ⟨es, ee, em, el1, el2⟩ := cutS hdl (a := 11 + 9 * j) (b := 24 + 9 * j) (by lia) (by lia)
        rw [show (11 : Int) + 9 * (0 + (j : Int)) = ((11 + 9 * j : Nat) : Int) by lia, show (24 : Int) + 9 * (0 + (j : Int)) = ((24 + 9 * j : Nat) : Int) by lia, ee]
        have s3 : Same Hy _ := Same.new (o := .lst (es.map V.int)) np
        have e3 : upd Hy p (.lst (es.map V.int)) p = _ := upd_same
        generalize upd Hy p (.lst (es.map V.int)) = H3 at s3 e3 ⊢
        refine ⟨p, es, rfl, ⟨e3, el1, by lia, fun d hd => hD.ok d (em d hd)⟩, fun t H4 s4 ent => ?_⟩
        have s34 := s3.trans s4
        refine ⟨ea, _, _, rfl, rfl, s34 _ _ ey, (by lia), fun H5 f5 e5 => ?_⟩
        have ch : Ch H4 H5 := Ch.app (s34 _ _ ey) e5 f5
        refine ⟨_, _, _, ys ++ [.ref t], rfl, e5, by rw [List.length_append]; simp only [List.length_cons, List.length_nil]; lia, fun y hy => ?_, fun b o e => f5 _ _ (ne_of_none e nea) (s34 _ _ (sy _ _ e))⟩
        rcases List.mem_append.mp hy with h | h
        · exact ((oy y h).same s34).ch ch
        · rw [List.mem_singleton.mp h]
          exact ent.ch ch
      · rintro σ Hy ⟨u4, u5, u6, ys, rfl, ey, ly, oy, sy⟩
        have hDy := hD.same sy
        refine ⟨_, rfl, dg, _, _, _, rfl, rfl, SqL.of hDy.at', i10, _, _, rfl, rfl, ⟨by decide, by decide⟩, _, _, rfl, rfl, (by dsimp only; decide), rfl, .inr ⟨_, rfl, _, _, rfl, rfl, .inl ⟨by decide, by decide⟩, ?_⟩⟩
        generalize decide (V.int (d10 / 8 % 8) = V.int 1) = c
        refine ⟨_, rfl, ?_, ?_, for_range (lo := 0) (n := _) (fun j σ Hy => ∃ (u4 u5 u6 : Option V) (ys : List V), σ = [some (V.ref a), some (V.int (0 + (i : Int))), some (V.ref dg), some (V.ref ea), u4, u5, u6] ∧ Hy ea = some (.lst ys) ∧ ys.length ≤ 3 + j ∧ (∀ y ∈ ys, EnV Hy y true) ∧ Same H1 Hy) ⟨u4, u5, u6, ys, rfl, ey, by lia, oy, sy⟩ ?_ ?_⟩
        · cases c <;> decide
        · cases c <;> decide
        · rintro j σ Hy hj ⟨u4, u5, u6, ys, rfl, ey, ly, oy, sy⟩
          have hj : j < 4 := by cases c with | true => exact hj | false => exact absurd hj (Nat.not_lt_zero _)
          have hDy := hD.same sy
          refine ⟨_, rfl, .inl ⟨rfl, _, SqL.of ey⟩, _, rfl, _, rfl, _, _, rfl, rfl, .inl ⟨by decide, by decide⟩, _, _, rfl, rfl, _, rfl, _, rfl, _, _, rfl, rfl, .inl ⟨by decide, by decide⟩, _, _, rfl, rfl, _, rfl, dg, _, rfl, SqL.of hDy.at', fun p np => ?_⟩
          obtain ⟨es, ee, em, el1, el2⟩ := cutS hdl (a := 11 + 2 * j) (b := 24 + 2 * j) (by lia) (by lia)
          rw [show (11 : Int) + 2 * (0 + (j : Int)) = ((11 + 2 * j : Nat) : Int) by lia, show (24 : Int) + 2 * (0 + (j : Int)) = ((24 + 2 * j : Nat) : Int) by lia, ee]
          have s3 : Same Hy _ := Same.new (o := .lst (es.map V.int)) np
          have e3 : upd Hy p (.lst (es.map V.int)) p = _ := upd_same
          generalize upd Hy p (.lst (es.map V.int)) = H3 at s3 e3 ⊢
          refine ⟨p, es, rfl, ⟨e3, el1, by lia, fun d hd => hD.ok d (em d hd)⟩, fun t H4 s4 ent => ?_⟩
          have s34 := s3.trans s4
          refine ⟨ea, _, _, rfl, rfl, s34 _ _ ey, (by lia), fun H5 f5 e5 => ?_⟩
          have ch : Ch H4 H5 := Ch.app (s34 _ _ ey) e5 f5
          refine ⟨_, _, _, ys ++ [.ref t], rfl, e5, by rw [List.length_append]; simp only [List.length_cons, List.length_nil]; lia, fun y hy => ?_, fun b o e => f5 _ _ (ne_of_none e nea) (s34 _ _ (sy _ _ e))⟩
          rcases List.mem_append.mp hy with h | h
          · exact ((oy y h).same s34).ch ch
          · rw [List.mem_singleton.mp h]
            exact ent.ch ch
        · rintro σ Hy ⟨u4, u5, u6, ys, rfl, ey, ly, oy, sy⟩
          have ly : ys.length ≤ 7 := by cases c with | true => exact ly | false => exact Nat.le_trans ly (by decide)
          have hDy := hD.same sy
          obtain ⟨es, hE⟩ := ens_of (H := Hy) oy (by lia)
          refine ⟨_, rfl, _, rfl, ea, _, rfl, SqL.of ey, fun tt H4 ntt s4 ett => ?_⟩
          refine ⟨dg, tt, ds, ys, rfl, ⟨(hDy.same s4).at', by lia, by lia, hD.ok⟩, ett, fun t H5 s5 hL => ?_⟩
          have s45 := s4.trans s5
          refine ⟨_, rfl, _, rfl, dg, _, _, _, rfl, rfl, SqL.of (hDy.same s45).at', i39, _, rfl, ea, _, rfl, SqL.of (s45 _ _ ey), fun t6 H6 n6 s6 e6 => ?_⟩
          have s46 := s45.trans s6
          refine ⟨t, t6, ys, es, d39, rfl, e6, hE.same s46, hL.same s6, p39, fun y v H7 s7 hV => ?_⟩
          have s47 := s46.trans s7
          refine ⟨_, rfl, y, _, v, rfl, hV, fun H8 s8 => ?_⟩
          refine ⟨(by show 2 ≤ sizeLine; decide), fun l9 H9 n9 s9 e9 => ?_⟩
          have s79 := s8.trans s9
          have s49 := s47.trans s79
          refine ⟨_, rfl, _, rfl, ea, _, rfl, SqL.of (s49 _ _ ey), fun ta Ha na sa ea' => ?_⟩
          have s4a := s49.trans sa
          refine ⟨y, ta, _, v, rfl, (hV.same s79).same sa, (hE.same s4a).dt ea', hE.dep, fun Hb sb => .inr ⟨v, rfl, ?_⟩⟩
          have s4b := s4a.trans sb
          have hLb : LetV Hb ys t := hL.same (((s6.trans s7).trans s79).trans (sa.trans sb))
          have hTb := hLb.thv (hE.same s4b)
          have fin : ∀ Hc, Same Hb Hc → Same H Hc := fun Hc sc => (((sm.trans s1).trans sy).trans s4b).trans sc
          have e9b := sb _ _ (sa _ _ e9)
          cases v with
          | true =>
            refine ⟨l9, _, _, _, rfl, rfl, SqL.of e9b, at1, rfl, _, rfl, iteNS rfl ?_⟩
            refine ⟨_, rfl, _, _, true, rfl, hTb, fun Hc sc => ⟨rfl, _, rfl, iteNS rfl ?_⟩⟩
            exact ⟨_, _, _, _, _, _, rfl, fin Hc sc⟩
          | false =>
            refine ⟨l9, _, _, _, rfl, rfl, SqL.of e9b, at0, rfl, _, rfl, iteNS rfl ?_⟩
            refine ⟨_, rfl, _, _, true, rfl, hTb, fun Hc sc => ⟨rfl, _, rfl, iteNS rfl ?_⟩⟩
            exact ⟨_, _, _, _, _, _, rfl, fin Hc sc⟩
    · rintro σ Hx ⟨w1, w2, w3, w4, w5, w6, rfl, sm⟩
      exact q Hx
end
end K31

set_option maxHeartbeats 4000000
namespace K31
open PySem L2
theorem all_mk {l : PySem.W.OpenLaw} {w : World} {K : PySem.W.Frag} {h : Heap} {mg : Str → Option Value} {fa : Addr} (X : K.In h) (G : h.Ns mainGlobals mg) (hfa : mg "law" = some (.ref fa))
    {fwhole : Addr} {odwhole anwhole : Option Addr} {slwhole : Array (Option Value)} {ocwhole kVwhole dcwhole pmwhole cdwhole ctwhole : Value} (awhole : PySem.W.nsIn K mainGlobals "is_whole" = some (some (.ref fwhole))) (lwhole : K.lookup fwhole = some ⟨ocwhole, odwhole, .func (PySem.W.fnOf "is_whole" "is_whole" (defArgs sWhole) (defBody sWhole) (defScope sWhole) .none kVwhole dcwhole pmwhole anwhole cdwhole ctwhole), slwhole⟩) (cwhole : PySem.W.codeIn K cdwhole "is_whole" = true) (kwhole : PySem.W.keepIn K (.ref fwhole) = true)
    {ffrom : Addr} {odfrom anfrom : Option Addr} {slfrom : Array (Option Value)} {ocfrom kVfrom dcfrom pmfrom cdfrom ctfrom : Value} (afrom : PySem.W.nsIn K mainGlobals "is_whole_from" = some (some (.ref ffrom))) (lfrom : K.lookup ffrom = some ⟨ocfrom, odfrom, .func (PySem.W.fnOf "is_whole_from" "is_whole_from" (defArgs sFrom) (defBody sFrom) (defScope sFrom) .none kVfrom dcfrom pmfrom anfrom cdfrom ctfrom), slfrom⟩) (cfrom : PySem.W.codeIn K cdfrom "is_whole_from" = true) (kfrom : PySem.W.keepIn K (.ref ffrom) = true)
    {fpname : Addr} {odpname anpname : Option Addr} {slpname : Array (Option Value)} {ocpname kVpname dcpname pmpname cdpname ctpname : Value} (apname : PySem.W.nsIn K mainGlobals "is_name" = some (some (.ref fpname))) (lpname : K.lookup fpname = some ⟨ocpname, odpname, .func (PySem.W.fnOf "is_name" "is_name" (defArgs sPName) (defBody sPName) (defScope sPName) .none kVpname dcpname pmpname anpname cdpname ctpname), slpname⟩) (cpname : PySem.W.codeIn K cdpname "is_name" = true) (kpname : PySem.W.keepIn K (.ref fpname) = true)
    {frise : Addr} {odrise anrise : Option Addr} {slrise : Array (Option Value)} {ocrise kVrise dcrise pmrise cdrise ctrise : Value} (arise : PySem.W.nsIn K mainGlobals "is_rising_names" = some (some (.ref frise))) (lrise : K.lookup frise = some ⟨ocrise, odrise, .func (PySem.W.fnOf "is_rising_names" "is_rising_names" (defArgs sRise) (defBody sRise) (defScope sRise) .none kVrise dcrise pmrise anrise cdrise ctrise), slrise⟩) (crise : PySem.W.codeIn K cdrise "is_rising_names" = true) (krise : PySem.W.keepIn K (.ref frise) = true)
    {fwnum : Addr} {odwnum anwnum : Option Addr} {slwnum : Array (Option Value)} {ocwnum kVwnum dcwnum pmwnum cdwnum ctwnum : Value} (awnum : PySem.W.nsIn K mainGlobals "is_work_number" = some (some (.ref fwnum))) (lwnum : K.lookup fwnum = some ⟨ocwnum, odwnum, .func (PySem.W.fnOf "is_work_number" "is_work_number" (defArgs sWNum) (defBody sWNum) (defScope sWNum) .none kVwnum dcwnum pmwnum anwnum cdwnum ctwnum), slwnum⟩) (cwnum : PySem.W.codeIn K cdwnum "is_work_number" = true) (kwnum : PySem.W.keepIn K (.ref fwnum) = true)
    {fpwork : Addr} {odpwork anpwork : Option Addr} {slpwork : Array (Option Value)} {ocpwork kVpwork dcpwork pmpwork cdpwork ctpwork : Value} (apwork : PySem.W.nsIn K mainGlobals "is_work" = some (some (.ref fpwork))) (lpwork : K.lookup fpwork = some ⟨ocpwork, odpwork, .func (PySem.W.fnOf "is_work" "is_work" (defArgs sPWork) (defBody sPWork) (defScope sPWork) .none kVpwork dcpwork pmpwork anpwork cdpwork ctpwork), slpwork⟩) (cpwork : PySem.W.codeIn K cdpwork "is_work" = true) (kpwork : PySem.W.keepIn K (.ref fpwork) = true)
    {fask : Addr} {odask anask : Option Addr} {slask : Array (Option Value)} {ocask kVask dcask pmask cdask ctask : Value} (aask : PySem.W.nsIn K mainGlobals "is_ask" = some (some (.ref fask))) (lask : K.lookup fask = some ⟨ocask, odask, .func (PySem.W.fnOf "is_ask" "is_ask" (defArgs sAsk) (defBody sAsk) (defScope sAsk) .none kVask dcask pmask anask cdask ctask), slask⟩) (cask : PySem.W.codeIn K cdask "is_ask" = true) (kask : PySem.W.keepIn K (.ref fask) = true)
    {fisb : Addr} {odisb anisb : Option Addr} {slisb : Array (Option Value)} {ocisb kVisb dcisb pmisb cdisb ctisb : Value} (aisb : PySem.W.nsIn K mainGlobals "is_bench" = some (some (.ref fisb))) (lisb : K.lookup fisb = some ⟨ocisb, odisb, .func (PySem.W.fnOf "is_bench" "is_bench" (defArgs sIsB) (defBody sIsB) (defScope sIsB) .none kVisb dcisb pmisb anisb cdisb ctisb), slisb⟩) (cisb : PySem.W.codeIn K cdisb "is_bench" = true) (kisb : PySem.W.keepIn K (.ref fisb) = true)
    {fjoined : Addr} {odjoined anjoined : Option Addr} {sljoined : Array (Option Value)} {ocjoined kVjoined dcjoined pmjoined cdjoined ctjoined : Value} (ajoined : PySem.W.nsIn K mainGlobals "is_joined" = some (some (.ref fjoined))) (ljoined : K.lookup fjoined = some ⟨ocjoined, odjoined, .func (PySem.W.fnOf "is_joined" "is_joined" (defArgs sJoined) (defBody sJoined) (defScope sJoined) .none kVjoined dcjoined pmjoined anjoined cdjoined ctjoined), sljoined⟩) (cjoined : PySem.W.codeIn K cdjoined "is_joined" = true) (kjoined : PySem.W.keepIn K (.ref fjoined) = true)
    {fpdeed : Addr} {odpdeed anpdeed : Option Addr} {slpdeed : Array (Option Value)} {ocpdeed kVpdeed dcpdeed pmpdeed cdpdeed ctpdeed : Value} (apdeed : PySem.W.nsIn K mainGlobals "is_deed" = some (some (.ref fpdeed))) (lpdeed : K.lookup fpdeed = some ⟨ocpdeed, odpdeed, .func (PySem.W.fnOf "is_deed" "is_deed" (defArgs sPDeed) (defBody sPDeed) (defScope sPDeed) .none kVpdeed dcpdeed pmpdeed anpdeed cdpdeed ctpdeed), slpdeed⟩) (cpdeed : PySem.W.codeIn K cdpdeed "is_deed" = true) (kpdeed : PySem.W.keepIn K (.ref fpdeed) = true)
    {fpentry : Addr} {odpentry anpentry : Option Addr} {slpentry : Array (Option Value)} {ocpentry kVpentry dcpentry pmpentry cdpentry ctpentry : Value} (apentry : PySem.W.nsIn K mainGlobals "is_entry" = some (some (.ref fpentry))) (lpentry : K.lookup fpentry = some ⟨ocpentry, odpentry, .func (PySem.W.fnOf "is_entry" "is_entry" (defArgs sPEntry) (defBody sPEntry) (defScope sPEntry) .none kVpentry dcpentry pmpentry anpentry cdpentry ctpentry), slpentry⟩) (cpentry : PySem.W.codeIn K cdpentry "is_entry" = true) (kpentry : PySem.W.keepIn K (.ref fpentry) = true)
    {fpart : Addr} {odpart anpart : Option Addr} {slpart : Array (Option Value)} {ocpart kVpart dcpart pmpart cdpart ctpart : Value} (apart : PySem.W.nsIn K mainGlobals "is_part" = some (some (.ref fpart))) (lpart : K.lookup fpart = some ⟨ocpart, odpart, .func (PySem.W.fnOf "is_part" "is_part" (defArgs sPart) (defBody sPart) (defScope sPart) .none kVpart dcpart pmpart anpart cdpart ctpart), slpart⟩) (cpart : PySem.W.codeIn K cdpart "is_part" = true) (kpart : PySem.W.keepIn K (.ref fpart) = true)
    {flet : Addr} {odlet anlet : Option Addr} {sllet : Array (Option Value)} {oclet kVlet dclet pmlet cdlet ctlet : Value} (alet : PySem.W.nsIn K mainGlobals "is_letter" = some (some (.ref flet))) (llet : K.lookup flet = some ⟨oclet, odlet, .func (PySem.W.fnOf "is_letter" "is_letter" (defArgs sLet) (defBody sLet) (defScope sLet) .none kVlet dclet pmlet anlet cdlet ctlet), sllet⟩) (clet : PySem.W.codeIn K cdlet "is_letter" = true) (klet : PySem.W.keepIn K (.ref flet) = true)
    {fchk : Addr} {odchk anchk : Option Addr} {slchk : Array (Option Value)} {occhk kVchk dcchk pmchk cdchk ctchk : Value} (achk : PySem.W.nsIn K mainGlobals "check_letter" = some (some (.ref fchk))) (lchk : K.lookup fchk = some ⟨occhk, odchk, .func (PySem.W.fnOf "check_letter" "check_letter" (defArgs sChk) (defBody sChk) (defScope sChk) .none kVchk dcchk pmchk anchk cdchk ctchk), slchk⟩) (cchk : PySem.W.codeIn K cdchk "check_letter" = true) (kchk : PySem.W.keepIn K (.ref fchk) = true)
    {fcell : Addr} {odcell ancell : Option Addr} {slcell : Array (Option Value)} {occell kVcell dccell pmcell cdcell ctcell : Value} (acell : PySem.W.nsIn K mainGlobals "_law_cell_at" = some (some (.ref fcell))) (lcell : K.lookup fcell = some ⟨occell, odcell, .func (PySem.W.fnOf "_law_cell_at" "_law_cell_at" (defArgs sCell) (defBody sCell) (defScope sCell) .none kVcell dccell pmcell ancell cdcell ctcell), slcell⟩) (ccell : PySem.W.codeIn K cdcell "_law_cell_at" = true) (kcell : PySem.W.keepIn K (.ref fcell) = true)
    {fmixed : Addr} {odmixed anmixed : Option Addr} {slmixed : Array (Option Value)} {ocmixed kVmixed dcmixed pmmixed cdmixed ctmixed : Value} (amixed : PySem.W.nsIn K mainGlobals "_law_mixed" = some (some (.ref fmixed))) (lmixed : K.lookup fmixed = some ⟨ocmixed, odmixed, .func (PySem.W.fnOf "_law_mixed" "_law_mixed" (defArgs sMixed) (defBody sMixed) (defScope sMixed) .none kVmixed dcmixed pmmixed anmixed cdmixed ctmixed), slmixed⟩) (cmixed : PySem.W.codeIn K cdmixed "_law_mixed" = true) (kmixed : PySem.W.keepIn K (.ref fmixed) = true)
    {fnumber : Addr} {odnumber annumber : Option Addr} {slnumber : Array (Option Value)} {ocnumber kVnumber dcnumber pmnumber cdnumber ctnumber : Value} (anumber : PySem.W.nsIn K mainGlobals "_law_number" = some (some (.ref fnumber))) (lnumber : K.lookup fnumber = some ⟨ocnumber, odnumber, .func (PySem.W.fnOf "_law_number" "_law_number" (defArgs sNumber) (defBody sNumber) (defScope sNumber) .none kVnumber dcnumber pmnumber annumber cdnumber ctnumber), slnumber⟩) (cnumber : PySem.W.codeIn K cdnumber "_law_number" = true) (knumber : PySem.W.keepIn K (.ref fnumber) = true)
    {fdigits : Addr} {oddigits andigits : Option Addr} {sldigits : Array (Option Value)} {ocdigits kVdigits dcdigits pmdigits cddigits ctdigits : Value} (adigits : PySem.W.nsIn K mainGlobals "_law_digits" = some (some (.ref fdigits))) (ldigits : K.lookup fdigits = some ⟨ocdigits, oddigits, .func (PySem.W.fnOf "_law_digits" "_law_digits" (defArgs sDigits) (defBody sDigits) (defScope sDigits) .none kVdigits dcdigits pmdigits andigits cddigits ctdigits), sldigits⟩) (cdigits : PySem.W.codeIn K cddigits "_law_digits" = true) (kdigits : PySem.W.keepIn K (.ref fdigits) = true)
    {flname : Addr} {odlname anlname : Option Addr} {sllname : Array (Option Value)} {oclname kVlname dclname pmlname cdlname ctlname : Value} (alname : PySem.W.nsIn K mainGlobals "_law_name" = some (some (.ref flname))) (llname : K.lookup flname = some ⟨oclname, odlname, .func (PySem.W.fnOf "_law_name" "_law_name" (defArgs sLName) (defBody sLName) (defScope sLName) .none kVlname dclname pmlname anlname cdlname ctlname), sllname⟩) (clname : PySem.W.codeIn K cdlname "_law_name" = true) (klname : PySem.W.keepIn K (.ref flname) = true)
    {flwork : Addr} {odlwork anlwork : Option Addr} {sllwork : Array (Option Value)} {oclwork kVlwork dclwork pmlwork cdlwork ctlwork : Value} (alwork : PySem.W.nsIn K mainGlobals "_law_work" = some (some (.ref flwork))) (llwork : K.lookup flwork = some ⟨oclwork, odlwork, .func (PySem.W.fnOf "_law_work" "_law_work" (defArgs sLWork) (defBody sLWork) (defScope sLWork) .none kVlwork dclwork pmlwork anlwork cdlwork ctlwork), sllwork⟩) (clwork : PySem.W.codeIn K cdlwork "_law_work" = true) (klwork : PySem.W.keepIn K (.ref flwork) = true)
    {flbench : Addr} {odlbench anlbench : Option Addr} {sllbench : Array (Option Value)} {oclbench kVlbench dclbench pmlbench cdlbench ctlbench : Value} (albench : PySem.W.nsIn K mainGlobals "_law_bench" = some (some (.ref flbench))) (llbench : K.lookup flbench = some ⟨oclbench, odlbench, .func (PySem.W.fnOf "_law_bench" "_law_bench" (defArgs sLBench) (defBody sLBench) (defScope sLBench) .none kVlbench dclbench pmlbench anlbench cdlbench ctlbench), sllbench⟩) (clbench : PySem.W.codeIn K cdlbench "_law_bench" = true) (klbench : PySem.W.keepIn K (.ref flbench) = true)
    {flentry : Addr} {odlentry anlentry : Option Addr} {sllentry : Array (Option Value)} {oclentry kVlentry dclentry pmlentry cdlentry ctlentry : Value} (alentry : PySem.W.nsIn K mainGlobals "_law_entry" = some (some (.ref flentry))) (llentry : K.lookup flentry = some ⟨oclentry, odlentry, .func (PySem.W.fnOf "_law_entry" "_law_entry" (defArgs sLEntry) (defBody sLEntry) (defScope sLEntry) .none kVlentry dclentry pmlentry anlentry cdlentry ctlentry), sllentry⟩) (clentry : PySem.W.codeIn K cdlentry "_law_entry" = true) (klentry : PySem.W.keepIn K (.ref flentry) = true)
    {fllet : Addr} {odllet anllet : Option Addr} {slllet : Array (Option Value)} {ocllet kVllet dcllet pmllet cdllet ctllet : Value} (allet : PySem.W.nsIn K mainGlobals "_law_letter" = some (some (.ref fllet))) (lllet : K.lookup fllet = some ⟨ocllet, odllet, .func (PySem.W.fnOf "_law_letter" "_law_letter" (defArgs sLLet) (defBody sLLet) (defScope sLLet) .none kVllet dcllet pmllet anllet cdllet ctllet), slllet⟩) (cllet : PySem.W.codeIn K cdllet "_law_letter" = true) (kllet : PySem.W.keepIn K (.ref fllet) = true)
    {fwhich : Addr} {odwhich anwhich : Option Addr} {slwhich : Array (Option Value)} {ocwhich kVwhich dcwhich pmwhich cdwhich ctwhich : Value} (awhich : PySem.W.nsIn K mainGlobals "_law_which" = some (some (.ref fwhich))) (lwhich : K.lookup fwhich = some ⟨ocwhich, odwhich, .func (PySem.W.fnOf "_law_which" "_law_which" (defArgs sWhich) (defBody sWhich) (defScope sWhich) .none kVwhich dcwhich pmwhich anwhich cdwhich ctwhich), slwhich⟩) (cwhich : PySem.W.codeIn K cdwhich "_law_which" = true) (kwhich : PySem.W.keepIn K (.ref fwhich) = true)
    {fasked : Addr} {odasked anasked : Option Addr} {slasked : Array (Option Value)} {ocasked kVasked dcasked pmasked cdasked ctasked : Value} (aasked : PySem.W.nsIn K mainGlobals "_law_asked" = some (some (.ref fasked))) (lasked : K.lookup fasked = some ⟨ocasked, odasked, .func (PySem.W.fnOf "_law_asked" "_law_asked" (defArgs sAsked) (defBody sAsked) (defScope sAsked) .none kVasked dcasked pmasked anasked cdasked ctasked), slasked⟩) (casked : PySem.W.codeIn K cdasked "_law_asked" = true) (kasked : PySem.W.keepIn K (.ref fasked) = true)
    {fisn : Addr} {odisn anisn : Option Addr} {slisn : Array (Option Value)} {ocisn kVisn dcisn pmisn cdisn ctisn : Value} (aisn : PySem.W.nsIn K mainGlobals "_law_is_name" = some (some (.ref fisn))) (lisn : K.lookup fisn = some ⟨ocisn, odisn, .func (PySem.W.fnOf "_law_is_name" "_law_is_name" (defArgs sIsN) (defBody sIsN) (defScope sIsN) .none kVisn dcisn pmisn anisn cdisn ctisn), slisn⟩) (cisn : PySem.W.codeIn K cdisn "_law_is_name" = true) (kisn : PySem.W.keepIn K (.ref fisn) = true)
    {fisi : Addr} {odisi anisi : Option Addr} {slisi : Array (Option Value)} {ocisi kVisi dcisi pmisi cdisi ctisi : Value} (aisi : PySem.W.nsIn K mainGlobals "_law_is_number" = some (some (.ref fisi))) (lisi : K.lookup fisi = some ⟨ocisi, odisi, .func (PySem.W.fnOf "_law_is_number" "_law_is_number" (defArgs sIsI) (defBody sIsI) (defScope sIsI) .none kVisi dcisi pmisi anisi cdisi ctisi), slisi⟩) (cisi : PySem.W.codeIn K cdisi "_law_is_number" = true) (kisi : PySem.W.keepIn K (.ref fisi) = true)
    {fgood : Addr} {odgood angood : Option Addr} {slgood : Array (Option Value)} {ocgood kVgood dcgood pmgood cdgood ctgood : Value} (agood : PySem.W.nsIn K mainGlobals "_law_good" = some (some (.ref fgood))) (lgood : K.lookup fgood = some ⟨ocgood, odgood, .func (PySem.W.fnOf "_law_good" "_law_good" (defArgs sGood) (defBody sGood) (defScope sGood) .none kVgood dcgood pmgood angood cdgood ctgood), slgood⟩) (cgood : PySem.W.codeIn K cdgood "_law_good" = true) (kgood : PySem.W.keepIn K (.ref fgood) = true)
    {fspe : Addr} {odspe anspe : Option Addr} {slspe : Array (Option Value)} {ocspe kVspe dcspe pmspe cdspe ctspe : Value} (aspe : PySem.W.nsIn K mainGlobals "_law_spoiled_entries" = some (some (.ref fspe))) (lspe : K.lookup fspe = some ⟨ocspe, odspe, .func (PySem.W.fnOf "_law_spoiled_entries" "_law_spoiled_entries" (defArgs sSpE) (defBody sSpE) (defScope sSpE) .none kVspe dcspe pmspe anspe cdspe ctspe), slspe⟩) (cspe : PySem.W.codeIn K cdspe "_law_spoiled_entries" = true) (kspe : PySem.W.keepIn K (.ref fspe) = true)
    {fspl : Addr} {odspl anspl : Option Addr} {slspl : Array (Option Value)} {ocspl kVspl dcspl pmspl cdspl ctspl : Value} (aspl : PySem.W.nsIn K mainGlobals "_law_spoiled" = some (some (.ref fspl))) (lspl : K.lookup fspl = some ⟨ocspl, odspl, .func (PySem.W.fnOf "_law_spoiled" "_law_spoiled" (defArgs sSpl) (defBody sSpl) (defScope sSpl) .none kVspl dcspl pmspl anspl cdspl ctspl), slspl⟩) (cspl : PySem.W.codeIn K cdspl "_law_spoiled" = true) (kspl : PySem.W.keepIn K (.ref fspl) = true)
    {flaw : Addr} {odlaw anlaw : Option Addr} {sllaw : Array (Option Value)} {oclaw kVlaw dclaw pmlaw cdlaw ctlaw : Value} (alaw : PySem.W.nsIn K mainGlobals "law" = some (some (.ref flaw))) (llaw : K.lookup flaw = some ⟨oclaw, odlaw, .func (PySem.W.fnOf "law" "law" (defArgs sLaw) (defBody sLaw) (defScope sLaw) .none kVlaw dclaw pmlaw anlaw cdlaw ctlaw), sllaw⟩) (claw : PySem.W.codeIn K cdlaw "law" = true) (klaw : PySem.W.keepIn K (.ref flaw) = true)
    {tabc : Tok} (gabc : PySem.W.nsIn K mainGlobals "SMALL_LETTERS" = some (some (.str ABC tabc))) {tsev : Tok} (gsev : PySem.W.nsIn K mainGlobals "MOST_SPEAKING" = some (some (.int 7 tsev))) {tfou : Tok} (gfou : PySem.W.nsIn K mainGlobals "MOST_LEARNERS" = some (some (.int 4 tfou))) (zmin : PySem.W.nsIn K mainGlobals "min" = some none) (zmax : PySem.W.nsIn K mainGlobals "max" = some none) (zrange : PySem.W.nsIn K mainGlobals "range" = some none) (ztuple : PySem.W.nsIn K mainGlobals "tuple" = some none) (zsorted : PySem.W.nsIn K mainGlobals "sorted" = some none) (zabs : PySem.W.nsIn K mainGlobals "abs" = some none) (zlen : PySem.W.nsIn K mainGlobals "len" = some none) (zlist : PySem.W.nsIn K mainGlobals "list" = some none) (zisinstance : PySem.W.nsIn K mainGlobals "isinstance" = some none) (zstr : PySem.W.nsIn K mainGlobals "str" = some none) (zall : PySem.W.nsIn K mainGlobals "all" = some none) (zany : PySem.W.nsIn K mainGlobals "any" = some none) (zzip : PySem.W.nsIn K mainGlobals "zip" = some none) (zset : PySem.W.nsIn K mainGlobals "set" = some none) (zint : PySem.W.nsIn K mainGlobals "int" = some none) (zbool : PySem.W.nsIn K mainGlobals "bool" = some none) (zValueError : PySem.W.nsIn K mainGlobals "ValueError" = some none) {CL : Addr} (aCL : PySem.W.nsIn K mainGlobals "NoLetter" = some (some (.ref CL))) {CE : Addr} (aCE : PySem.W.nsIn K mainGlobals "ChainError" = some (some (.ref CE))) {d1 : Addr} (ad1 : PySem.W.nsIn K mainGlobals "Down" = some (some (.ref d1))) {d2 : Addr} (ad2 : PySem.W.nsIn K mainGlobals "NoBench" = some (some (.ref d2))) {d3 : Addr} (ad3 : PySem.W.nsIn K mainGlobals "NoDeed" = some (some (.ref d3))) {d4 : Addr} (ad4 : PySem.W.nsIn K mainGlobals "NoHouse" = some (some (.ref d4))) {d6 : Addr} (ad6 : PySem.W.nsIn K mainGlobals "NoPaper" = some (some (.ref d6))) {d7 : Addr} (ad7 : PySem.W.nsIn K mainGlobals "NoText" = some (some (.ref d7))) {d8 : Addr} (ad8 : PySem.W.nsIn K mainGlobals "NotChair" = some (some (.ref d8))) {d9 : Addr} (ad9 : PySem.W.nsIn K mainGlobals "NotYet" = some (some (.ref d9))) {d10 : Addr} (ad10 : PySem.W.nsIn K mainGlobals "NoTown" = some (some (.ref d10))) {d11 : Addr} (ad11 : PySem.W.nsIn K mainGlobals "Old" = some (some (.ref d11))) {d12 : Addr} (ad12 : PySem.W.nsIn K mainGlobals "Standing" = some (some (.ref d12))) {d13 : Addr} (ad13 : PySem.W.nsIn K mainGlobals "NoJournal" = some (some (.ref d13))) (xCL : PySem.W.excIn K CL bmV "ValueError.__new__" = true) (xCE : PySem.W.excIn K CE bmV "ValueError.__new__" = true) (f1CL : PySem.W.findIn K (.ref CL) "__getattribute__" = some (some (.builtin "BaseException.__getattribute__"))) (f2CL : PySem.W.findIn K (.ref CL) "__getattr__" = some none) (f3CL : PySem.W.findIn K (.ref CL) "__class__" = some (some (.builtin "object.__class__"))) (hmCL : PySem.W.mroIn K CL (.type "object") = some true) (slE : PySem.W.mroIn K CL (.ref CE) = some true) (kd1 : PySem.W.kitOne K (.ref CL) (.ref d1) = some false) (kd2 : PySem.W.kitOne K (.ref CL) (.ref d2) = some false) (kd3 : PySem.W.kitOne K (.ref CL) (.ref d3) = some false) (kd4 : PySem.W.kitOne K (.ref CL) (.ref d4) = some false) (kd6 : PySem.W.kitOne K (.ref CL) (.ref d6) = some false) (kd7 : PySem.W.kitOne K (.ref CL) (.ref d7) = some false) (kd8 : PySem.W.kitOne K (.ref CL) (.ref d8) = some false) (kd9 : PySem.W.kitOne K (.ref CL) (.ref d9) = some false) (kd10 : PySem.W.kitOne K (.ref CL) (.ref d10) = some false) (kd11 : PySem.W.kitOne K (.ref CL) (.ref d11) = some false) (kd12 : PySem.W.kitOne K (.ref CL) (.ref d12) = some false) (kd13 : PySem.W.kitOne K (.ref CL) (.ref d13) = some false) (kv : PySem.W.kitOne K (.ref CL) (.type "ValueError") = some true) {hP : Addr} (aHP : PySem.W.nsIn K mainGlobals "HEAD" = some (some (.ref hP))) {kHP0 kHP1 kHP2 : Tok} {odHP : Option Addr} {slHP : Array (Option Value)} {nHP : Nat} (lHP : K.lookup hP = some ⟨.type "tuple", odHP, .seq #[.str "name" kHP0, .str "name" kHP1, .str "whole" kHP2] nHP, slHP⟩) {dP : Addr} (aDP : PySem.W.nsIn K mainGlobals "PARTS" = some (some (.ref dP))) {t0 t1 t2 t3 t4 t5 t6 t7 : Addr} {kk0 kk1 kk2 kk3 kk4 kk5 kk6 kk7 : Tok} {epP : Nat} (lDP : K.lookup dP = some { cls := .type "dict", dict := none, data := .dict #[{ hash := PyData.keyHash w.params "look", key := .str "look" kk0, val := .ref t0 }, { hash := PyData.keyHash w.params "saw", key := .str "saw" kk1, val := .ref t1 }, { hash := PyData.keyHash w.params "vote", key := .str "vote" kk2, val := .ref t2 }, { hash := PyData.keyHash w.params "gave", key := .str "gave" kk3, val := .ref t3 }, { hash := PyData.keyHash w.params "rows", key := .str "rows" kk4, val := .ref t4 }, { hash := PyData.keyHash w.params "took", key := .str "took" kk5, val := .ref t5 }, { hash := PyData.keyHash w.params "piece", key := .str "piece" kk6, val := .ref t6 }, { hash := PyData.keyHash w.params "got", key := .str "got" kk7, val := .ref t7 }] epP, slots := #[] }) (sDP : (dP == sysModules) = false) {kt00 kt01 : Tok} {odt0 : Option Addr} {slt0 : Array (Option Value)} {nt0 : Nat} (lt0 : K.lookup t0 = some ⟨.type "tuple", odt0, .seq #[.str "whole" kt00, .str "whole" kt01] nt0, slt0⟩) {kt10 kt11 : Tok} {odt1 : Option Addr} {slt1 : Array (Option Value)} {nt1 : Nat} (lt1 : K.lookup t1 = some ⟨.type "tuple", odt1, .seq #[.str "truth" kt10, .str "whole" kt11] nt1, slt1⟩) {kt20 kt21 : Tok} {odt2 : Option Addr} {slt2 : Array (Option Value)} {nt2 : Nat} (lt2 : K.lookup t2 = some ⟨.type "tuple", odt2, .seq #[.str "whole" kt20, .str "whole" kt21] nt2, slt2⟩) {kt30 : Tok} {odt3 : Option Addr} {slt3 : Array (Option Value)} {nt3 : Nat} (lt3 : K.lookup t3 = some ⟨.type "tuple", odt3, .seq #[.str "truth" kt30] nt3, slt3⟩) {kt40 kt41 kt42 kt43 kt44 : Tok} {odt4 : Option Addr} {slt4 : Array (Option Value)} {nt4 : Nat} (lt4 : K.lookup t4 = some ⟨.type "tuple", odt4, .seq #[.str "whole" kt40, .str "whole" kt41, .str "entries" kt42, .str "whole" kt43, .str "whole" kt44] nt4, slt4⟩) {kt50 kt51 kt52 : Tok} {odt5 : Option Addr} {slt5 : Array (Option Value)} {nt5 : Nat} (lt5 : K.lookup t5 = some ⟨.type "tuple", odt5, .seq #[.str "truth" kt50, .str "whole" kt51, .str "whole" kt52] nt5, slt5⟩) {kt60 kt61 kt62 kt63 kt64 kt65 : Tok} {odt6 : Option Addr} {slt6 : Array (Option Value)} {nt6 : Nat} (lt6 : K.lookup t6 = some ⟨.type "tuple", odt6, .seq #[.str "whole" kt60, .str "whole" kt61, .str "whole" kt62, .str "whole" kt63, .str "text" kt64, .str "whole" kt65] nt6, slt6⟩) {kt70 kt71 kt72 : Tok} {odt7 : Option Addr} {slt7 : Array (Option Value)} {nt7 : Nat} (lt7 : K.lookup t7 = some ⟨.type "tuple", odt7, .seq #[.str "whole" kt70, .str "whole" kt71, .str "whole" kt72] nt7, slt7⟩) :
    ∃ fd : FuncData, (∀ (s : Shared) (v : Value), BindsTo s fd ⟨[v], []⟩ [("_law_script", v)]) ∧ ∀ base : Heap, K.In base → base.Ns mainGlobals mg → FnOk l.prog w K mg base CX0 11 fa fd ["_law_script"] (spLaw K) := by
  have e := hfa.symm.trans (PySem.W.mg_of X G alaw)
  cases e
  have nmin := PySem.W.mg_none_of X G zmin
  have nmax := PySem.W.mg_none_of X G zmax
  have nrange := PySem.W.mg_none_of X G zrange
  have ntuple := PySem.W.mg_none_of X G ztuple
  have nsorted := PySem.W.mg_none_of X G zsorted
  have nabs := PySem.W.mg_none_of X G zabs
  have nlen := PySem.W.mg_none_of X G zlen
  have nlist := PySem.W.mg_none_of X G zlist
  have nisinstance := PySem.W.mg_none_of X G zisinstance
  have nstr := PySem.W.mg_none_of X G zstr
  have nall := PySem.W.mg_none_of X G zall
  have nany := PySem.W.mg_none_of X G zany
  have nzip := PySem.W.mg_none_of X G zzip
  have nset := PySem.W.mg_none_of X G zset
  have nint := PySem.W.mg_none_of X G zint
  have nbool := PySem.W.mg_none_of X G zbool
  have nValueError := PySem.W.mg_none_of X G zValueError
  have mabc := PySem.W.mg_of X G gabc
  have msev := PySem.W.mg_of X G gsev
  have mfou := PySem.W.mg_of X G gfou
  have B : Blt mg := { len := nlen, list := nlist, tuple := ntuple, sorted := nsorted }
  have T : Bl2 mg := { isi := nisinstance, str := nstr, all := nall, any := nany, zip := nzip, set := nset, abc := ⟨_, mabc⟩, sev := ⟨_, msev⟩, fou := ⟨_, mfou⟩ }
  have U : Bl3 mg := { int := nint, bool := nbool, abs := nabs }
  have M : Blm mg := { len := nlen, range := nrange, int := nint }
  have XL : ExcC K mg "NoLetter" CL := ⟨PySem.W.mg_of X G aCL, xCL⟩
  have XC : ExcC K mg "ChainError" CE := ⟨PySem.W.mg_of X G aCE, xCE⟩
  have W : WhF K mg CL d1 d2 d3 d4 d6 d7 d8 d9 d10 d11 d12 d13 := ⟨⟨xCL, f1CL, f2CL, f3CL, hmCL⟩, PySem.W.mg_of X G ad1, PySem.W.mg_of X G ad2, PySem.W.mg_of X G ad3, PySem.W.mg_of X G ad4, PySem.W.mg_of X G aCL, PySem.W.mg_of X G ad6, PySem.W.mg_of X G ad7, PySem.W.mg_of X G ad8, PySem.W.mg_of X G ad9, PySem.W.mg_of X G ad10, PySem.W.mg_of X G ad11, PySem.W.mg_of X G ad12, PySem.W.mg_of X G ad13, nisinstance, nValueError, kd1, kd2, kd3, kd4, by unfold PySem.W.kitOne; rw [if_pos (by simp)], kd6, kd7, kd8, kd9, kd10, kd11, kd12, kd13, kv⟩
  have GP : PartsF w K mg := ⟨⟨hP, PySem.W.mg_of X G aHP, ⟨_, _, _, lHP, rfl, rfl, (by show 3 ≤ sizeLine; rw [sizeLine_eq]; decide), .cons ⟨_, rfl⟩ (.cons ⟨_, rfl⟩ (.cons ⟨_, rfl⟩ (.nil)))⟩⟩, dP, ([("look", t0), ("saw", t1), ("vote", t2), ("gave", t3), ("rows", t4), ("took", t5), ("piece", t6), ("got", t7)] : List (Str × Addr)), PySem.W.mg_of X G aDP, ⟨⟨_, epP, lDP, .cons (.cons (.cons (.cons (.cons (.cons (.cons (.cons (.nil))))))))⟩, sDP, (by show (["look", "saw", "vote", "gave", "rows", "took", "piece", "got"] : List Str).Nodup; decide +kernel)⟩, .cons ⟨_, _, _, lt0, rfl, rfl, (by show 2 ≤ sizeLine; rw [sizeLine_eq]; decide), .cons ⟨_, rfl⟩ (.cons ⟨_, rfl⟩ (.nil))⟩ (.cons ⟨_, _, _, lt1, rfl, rfl, (by show 2 ≤ sizeLine; rw [sizeLine_eq]; decide), .cons ⟨_, rfl⟩ (.cons ⟨_, rfl⟩ (.nil))⟩ (.cons ⟨_, _, _, lt2, rfl, rfl, (by show 2 ≤ sizeLine; rw [sizeLine_eq]; decide), .cons ⟨_, rfl⟩ (.cons ⟨_, rfl⟩ (.nil))⟩ (.cons ⟨_, _, _, lt3, rfl, rfl, (by show 1 ≤ sizeLine; rw [sizeLine_eq]; decide), .cons ⟨_, rfl⟩ (.nil)⟩ (.cons ⟨_, _, _, lt4, rfl, rfl, (by show 5 ≤ sizeLine; rw [sizeLine_eq]; decide), .cons ⟨_, rfl⟩ (.cons ⟨_, rfl⟩ (.cons ⟨_, rfl⟩ (.cons ⟨_, rfl⟩ (.cons ⟨_, rfl⟩ (.nil)))))⟩ (.cons ⟨_, _, _, lt5, rfl, rfl, (by show 3 ≤ sizeLine; rw [sizeLine_eq]; decide), .cons ⟨_, rfl⟩ (.cons ⟨_, rfl⟩ (.cons ⟨_, rfl⟩ (.nil)))⟩ (.cons ⟨_, _, _, lt6, rfl, rfl, (by show 6 ≤ sizeLine; rw [sizeLine_eq]; decide), .cons ⟨_, rfl⟩ (.cons ⟨_, rfl⟩ (.cons ⟨_, rfl⟩ (.cons ⟨_, rfl⟩ (.cons ⟨_, rfl⟩ (.cons ⟨_, rfl⟩ (.nil))))))⟩ (.cons ⟨_, _, _, lt7, rfl, rfl, (by show 3 ≤ sizeLine; rw [sizeLine_eq]; decide), .cons ⟨_, rfl⟩ (.cons ⟨_, rfl⟩ (.cons ⟨_, rfl⟩ (.nil)))⟩ (.nil))))))))⟩
  have Fwhole := fun_mk (st := sWhole) lwhole cwhole kwhole
  have bwhole := Fwhole.binds (ps := ["thing"]) fun _ _ _ _ _ _ us hl => match us, hl with | [_], _ => rfl
  have Ffrom := fun_mk (st := sFrom) lfrom cfrom kfrom
  have bfrom := Ffrom.binds (ps := ["thing", "least"]) fun _ _ _ _ _ _ us hl => match us, hl with | [_, _], _ => rfl
  have Fpname := fun_mk (st := sPName) lpname cpname kpname
  have bpname := Fpname.binds (ps := ["thing"]) fun _ _ _ _ _ _ us hl => match us, hl with | [_], _ => rfl
  have Frise := fun_mk (st := sRise) lrise crise krise
  have brise := Frise.binds (ps := ["thing"]) fun _ _ _ _ _ _ us hl => match us, hl with | [_], _ => rfl
  have Fwnum := fun_mk (st := sWNum) lwnum cwnum kwnum
  have bwnum := Fwnum.binds (ps := ["thing"]) fun _ _ _ _ _ _ us hl => match us, hl with | [_], _ => rfl
  have Fpwork := fun_mk (st := sPWork) lpwork cpwork kpwork
  have bpwork := Fpwork.binds (ps := ["thing"]) fun _ _ _ _ _ _ us hl => match us, hl with | [_], _ => rfl
  have Fask := fun_mk (st := sAsk) lask cask kask
  have bask := Fask.binds (ps := ["asker", "number", "work"]) fun _ _ _ _ _ _ us hl => match us, hl with | [_, _, _], _ => rfl
  have Fisb := fun_mk (st := sIsB) lisb cisb kisb
  have bisb := Fisb.binds (ps := ["thing"]) fun _ _ _ _ _ _ us hl => match us, hl with | [_], _ => rfl
  have Fjoined := fun_mk (st := sJoined) ljoined cjoined kjoined
  have bjoined := Fjoined.binds (ps := ["bench"]) fun _ _ _ _ _ _ us hl => match us, hl with | [_], _ => rfl
  have Fpdeed := fun_mk (st := sPDeed) lpdeed cpdeed kpdeed
  have bpdeed := Fpdeed.binds (ps := ["thing"]) fun _ _ _ _ _ _ us hl => match us, hl with | [_], _ => rfl
  have Fpentry := fun_mk (st := sPEntry) lpentry cpentry kpentry
  have bpentry := Fpentry.binds (ps := ["thing"]) fun _ _ _ _ _ _ us hl => match us, hl with | [_], _ => rfl
  have Fpart := fun_mk (st := sPart) lpart cpart kpart
  have bpart := Fpart.binds (ps := ["sort", "thing"]) fun _ _ _ _ _ _ us hl => match us, hl with | [_, _], _ => rfl
  have Flet := fun_mk (st := sLet) llet clet klet
  have blet := Flet.binds (ps := ["thing"]) fun _ _ _ _ _ _ us hl => match us, hl with | [_], _ => rfl
  have Fchk := fun_mk (st := sChk) lchk cchk kchk
  have bchk := Fchk.binds (ps := ["thing"]) fun _ _ _ _ _ _ us hl => match us, hl with | [_], _ => rfl
  have Fcell := fun_mk (st := sCell) lcell ccell kcell
  have bcell := Fcell.binds (ps := ["_law_script", "_law_k"]) fun _ _ _ _ _ _ us hl => match us, hl with | [_, _], _ => rfl
  have Fmixed := fun_mk (st := sMixed) lmixed cmixed kmixed
  have bmixed := Fmixed.binds (ps := ["_law_x"]) fun _ _ _ _ _ _ us hl => match us, hl with | [_], _ => rfl
  have Fnumber := fun_mk (st := sNumber) lnumber cnumber knumber
  have bnumber := Fnumber.binds (ps := ["_law_script", "_law_k"]) fun _ _ _ _ _ _ us hl => match us, hl with | [_, _], _ => rfl
  have Fdigits := fun_mk (st := sDigits) ldigits cdigits kdigits
  have bdigits := Fdigits.binds (ps := ["_law_script", "_law_k", "_law_base", "_law_many"]) fun _ _ _ _ _ _ us hl => match us, hl with | [_, _, _, _], _ => rfl
  have Flname := fun_mk (st := sLName) llname clname klname
  have blname := Flname.binds (ps := ["_law_digit"]) fun _ _ _ _ _ _ us hl => match us, hl with | [_], _ => rfl
  have Flwork := fun_mk (st := sLWork) llwork clwork klwork
  have blwork := Flwork.binds (ps := ["_law_digits_here"]) fun _ _ _ _ _ _ us hl => match us, hl with | [_], _ => rfl
  have Flbench := fun_mk (st := sLBench) llbench clbench klbench
  have blbench := Flbench.binds (ps := ["_law_digits_here"]) fun _ _ _ _ _ _ us hl => match us, hl with | [_], _ => rfl
  have Flentry := fun_mk (st := sLEntry) llentry clentry klentry
  have blentry := Flentry.binds (ps := ["_law_digits_here"]) fun _ _ _ _ _ _ us hl => match us, hl with | [_], _ => rfl
  have Fllet := fun_mk (st := sLLet) lllet cllet kllet
  have bllet := Fllet.binds (ps := ["_law_digits_here", "_law_entries"]) fun _ _ _ _ _ _ us hl => match us, hl with | [_, _], _ => rfl
  have Fwhich := fun_mk (st := sWhich) lwhich cwhich kwhich
  have bwhich := Fwhich.binds (ps := ["_law_error"]) fun _ _ _ _ _ _ us hl => match us, hl with | [_], _ => rfl
  have Fasked := fun_mk (st := sAsked) lasked casked kasked
  have basked := Fasked.binds (ps := ["_law_thing"]) fun _ _ _ _ _ _ us hl => match us, hl with | [_], _ => rfl
  have Fisn := fun_mk (st := sIsN) lisn cisn kisn
  have bisn := Fisn.binds (ps := ["_law_thing"]) fun _ _ _ _ _ _ us hl => match us, hl with | [_], _ => rfl
  have Fisi := fun_mk (st := sIsI) lisi cisi kisi
  have bisi := Fisi.binds (ps := ["_law_thing"]) fun _ _ _ _ _ _ us hl => match us, hl with | [_], _ => rfl
  have Fgood := fun_mk (st := sGood) lgood cgood kgood
  have bgood := Fgood.binds (ps := ["_law_letter_here", "_law_entries"]) fun _ _ _ _ _ _ us hl => match us, hl with | [_, _], _ => rfl
  have Fspe := fun_mk (st := sSpE) lspe cspe kspe
  have bspe := Fspe.binds (ps := ["_law_entries", "_law_x"]) fun _ _ _ _ _ _ us hl => match us, hl with | [_, _], _ => rfl
  have Fspl := fun_mk (st := sSpl) lspl cspl kspl
  have bspl := Fspl.binds (ps := ["_law_letter_here", "_law_x", "_law_entries"]) fun _ _ _ _ _ _ us hl => match us, hl with | [_, _, _], _ => rfl
  have Flaw := fun_mk (st := sLaw) llaw claw klaw
  refine ⟨PySem.W.fnOf "law" "law" (defArgs sLaw) (defBody sLaw) (defScope sLaw) .none kVlaw dclaw pmlaw anlaw cdlaw ctlaw, fun s v => .of_eq rfl, fun base _ _ => ?_⟩
  have Awhole : FnAt l.prog w K mg base 1 "is_whole" ["thing"] spWhole := ⟨_, _, ok_whole Fwhole T U, PySem.W.mg_of X G awhole, kwhole, bwhole⟩
  have Afrom : FnAt l.prog w K mg base 2 "is_whole_from" ["thing", "least"] spFrom := ⟨_, _, ok_from Ffrom Awhole, PySem.W.mg_of X G afrom, kfrom, bfrom⟩
  have Apname : FnAt l.prog w K mg base 1 "is_name" ["thing"] spNm := ⟨_, _, ok_pname Fpname B T, PySem.W.mg_of X G apname, kpname, bpname⟩
  have Arise : FnAt l.prog w K mg base 2 "is_rising_names" ["thing"] spRise := ⟨_, _, ok_rise Frise B T Apname, PySem.W.mg_of X G arise, krise, brise⟩
  have Awnum : FnAt l.prog w K mg base 2 "is_work_number" ["thing"] spWNum := ⟨_, _, ok_wnum Fwnum U Awhole, PySem.W.mg_of X G awnum, kwnum, bwnum⟩
  have Apwork : FnAt l.prog w K mg base 3 "is_work" ["thing"] spPWork := ⟨_, _, ok_pwork Fpwork B T Apname Awnum, PySem.W.mg_of X G apwork, kpwork, bpwork⟩
  have Aask : FnAt l.prog w K mg base 4 "is_ask" ["asker", "number", "work"] spAsk := ⟨_, _, ok_ask Fask Apname Afrom Apwork, PySem.W.mg_of X G aask, kask, bask⟩
  have Ajoined : FnAt l.prog w K mg base 1 "is_joined" ["bench"] spJoined := ⟨_, _, ok_joined Fjoined nlen, PySem.W.mg_of X G ajoined, kjoined, bjoined⟩
  have Aisb : FnAt l.prog w K mg base 3 "is_bench" ["thing"] spIsB := ⟨_, _, ok_isB Fisb B T Arise Ajoined, PySem.W.mg_of X G aisb, kisb, bisb⟩
  have Apdeed : FnAt l.prog w K mg base 5 "is_deed" ["thing"] spPDeed := ⟨_, _, ok_pdeed Fpdeed B T Aask Aisb, PySem.W.mg_of X G apdeed, kpdeed, bpdeed⟩
  have Apentry : FnAt l.prog w K mg base 6 "is_entry" ["thing"] spPEntry := ⟨_, _, ok_pentry Fpentry B T Afrom Apdeed, PySem.W.mg_of X G apentry, kpentry, bpentry⟩
  have Apart : FnAt l.prog w K mg base 7 "is_part" ["sort", "thing"] spPart := ⟨_, _, ok_part Fpart B T U Apname Afrom Apentry, PySem.W.mg_of X G apart, kpart, bpart⟩
  have Alet : FnAt l.prog w K mg base 8 "is_letter" ["thing"] spLet := ⟨_, _, ok_let Flet B T GP Apart, PySem.W.mg_of X G alet, klet, blet⟩
  have Achk : FnAtR l.prog w K mg base 9 "check_letter" ["thing"] (spChk CL) := ⟨_, _, ok_chk Fchk XL Alet, PySem.W.mg_of X G achk, kchk, bchk⟩
  have Acell : FnAt l.prog w K mg base 1 "_law_cell_at" ["_law_script", "_law_k"] (spCell K) := ⟨_, _, ok_cell Fcell M, PySem.W.mg_of X G acell, kcell, bcell⟩
  have Amixed : FnAt l.prog w K mg base 1 "_law_mixed" ["_law_x"] spMixed := ⟨_, _, ok_mixed Fmixed, PySem.W.mg_of X G amixed, kmixed, bmixed⟩
  have Anumber : FnAt l.prog w K mg base 2 "_law_number" ["_law_script", "_law_k"] (spNumber K) := ⟨_, _, ok_number Fnumber Acell Amixed, PySem.W.mg_of X G anumber, knumber, bnumber⟩
  have Adigits : FnAt l.prog w K mg base 3 "_law_digits" ["_law_script", "_law_k", "_law_base", "_law_many"] (spDigits K) := ⟨_, _, ok_digits Fdigits M Acell Amixed Anumber, PySem.W.mg_of X G adigits, kdigits, bdigits⟩
  have Alname : FnAt l.prog w K mg base 1 "_law_name" ["_law_digit"] spLName := ⟨_, _, ok_lname Flname, PySem.W.mg_of X G alname, klname, blname⟩
  have Alwork : FnAt l.prog w K mg base 2 "_law_work" ["_law_digits_here"] spLWork := ⟨_, _, ok_lwork Flwork Alname, PySem.W.mg_of X G alwork, klwork, blwork⟩
  have Albench : FnAt l.prog w K mg base 2 "_law_bench" ["_law_digits_here"] spLBench := ⟨_, _, ok_lbench Flbench B T Alname, PySem.W.mg_of X G albench, klbench, blbench⟩
  have Alentry : FnAt l.prog w K mg base 3 "_law_entry" ["_law_digits_here"] spLEntry := ⟨_, _, ok_lentry Flentry Alname Alwork Albench, PySem.W.mg_of X G alentry, klentry, blentry⟩
  have Allet : FnAt l.prog w K mg base 2 "_law_letter" ["_law_digits_here", "_law_entries"] spLLet := ⟨_, _, ok_llet Fllet Alname, PySem.W.mg_of X G allet, kllet, bllet⟩
  have Awhich : FnAtH l.prog w K mg base 1 "_law_which" ["_law_error"] (spWhich CL) := ⟨_, _, ok_which Fwhich W, PySem.W.mg_of X G awhich, kwhich, bwhich⟩
  have Aasked : FnAt l.prog w K mg base 10 "_law_asked" ["_law_thing"] spAsked := ⟨_, _, ok_asked Fasked XC slE Achk Awhich, PySem.W.mg_of X G aasked, kasked, basked⟩
  have Aisn : FnAt l.prog w K mg base 1 "_law_is_name" ["_law_thing"] spNm := ⟨_, _, ok_isN Fisn B T, PySem.W.mg_of X G aisn, kisn, bisn⟩
  have Aisi : FnAt l.prog w K mg base 1 "_law_is_number" ["_law_thing"] spNum := ⟨_, _, ok_isI Fisi T U, PySem.W.mg_of X G aisi, kisi, bisi⟩
  have Agood : FnAt l.prog w K mg base 2 "_law_good" ["_law_letter_here", "_law_entries"] spGood := ⟨_, _, ok_good Fgood B T U Aisn Aisi, PySem.W.mg_of X G agood, kgood, bgood⟩
  have Aspe : FnAt l.prog w K mg base 1 "_law_spoiled_entries" ["_law_entries", "_law_x"] spSpE := ⟨_, _, ok_spE Fspe B, PySem.W.mg_of X G aspe, kspe, bspe⟩
  have Aspl : FnAt l.prog w K mg base 2 "_law_spoiled" ["_law_letter_here", "_law_x", "_law_entries"] spSpl := ⟨_, _, ok_spl Fspl B Aspe, PySem.W.mg_of X G aspl, kspl, bspl⟩
  exact ok_law Flaw M B nmin nmax Adigits Alentry Allet Aasked Aspl Agood
theorem walk {l : PySem.W.OpenLaw} {q : Program} {loose : List Str} {XP : (Str → Option Value) → Heap → Prop} {YP : World → Heap → Prop} {d : DefRec} {K : Params → PySem.W.Frag} (hn : l.most = some 63) (hdf : d.params.defaults = [])
    (hY : ∀ (w : World) (h : Heap), YP w h → (K w.params).In h)
    (F : ∀ (w : World) (mg : Str → Option Value) (fa : Addr) (h : Heap), (K w.params).In h → h.Ns mainGlobals mg → mg d.name = some (.ref fa) →
      ∃ fd : FuncData, (∀ (s : Shared) (u : Value), BindsTo s fd ⟨[u], []⟩ [("_law_script", u)]) ∧ ∀ base : Heap, (K w.params).In base → base.Ns mainGlobals mg → FnOk l.prog w (K w.params) mg base CX0 11 fa fd ["_law_script"] (spLaw (K w.params))) :
    PySem.W.WalkO q loose XP YP l.row.toRowW d [] (fun f vs => PySem.call f vs) :=
  L2.walk_of (n := 63) (k := 11) (x := "_law_script") (CX := fun _ => CX0) (sp := fun w => spLaw (K w.params)) hn (by decide) hdf ⟨rfl, by decide, by decide⟩ hY F (fun _ _ a ns hl _ hS => ⟨a, ns, rfl, hS, hl, fun _ => rfl⟩) fun _ _ _ _ _ z => z
end K31
def PySem.W.Fast.tw5196853784593486389 : Nat := 0
def PySem.W.Fast.tw3764339797118355687 : Nat := 0
def PySem.W.Fast.tw7408845302526847322 : Nat := 0
def PySem.W.Fast.tw11369665122046790595 : Nat := 0
def PySem.W.Fast.tw11811119136013202498 : Nat := 0
def PySem.W.Fast.tw15233952326536106402 : Nat := 0
def PySem.W.Fast.tw16298096248364652471 : Nat := 0
def PySem.W.Fast.tw5549571382549596883 : Nat := 0
def PySem.W.Fast.tw2729355188989906670 : Nat := 0
def PySem.W.Fast.tw725559658508885185 : Nat := 0
def PySem.W.Fast.tw8183615361082897238 : Nat := 0
def PySem.W.Fast.tw6309002313186049177 : Nat := 0
def PySem.W.Fast.tw15698753406894839207 : Nat := 0
def PySem.W.Fast.tw10566476794094434251 : Nat := 0
def PySem.W.Fast.tw10104883729872930019 : Nat := 0
open PySem PySem.W PyProof.Rows
set_option maxRecDepth 100000 in
set_option maxHeartbeats 0 in
theorem PySem.Challenge.cw_chainhouse_k31_what_is_no_letter_holds : PySem.Challenge.rw_chainhouse_k31_what_is_no_letter.Holds := by
  w_on; o_law; k_head; (case hw => w_witness2)
  k_fill
  refine K31.walk (l := PySem.Challenge.rw_chainhouse_k31_what_is_no_letter) rfl rfl (fun w h Y => PySem.W.kIn_of Y) ?F
  case F =>
    intro w mg fa h KX G hmg
    refine' K31.all_mk KX G hmg ?awhole ?lwhole ?cwhole ?kwhole ?afrom ?lfrom ?cfrom ?kfrom ?apname ?lpname ?cpname ?kpname ?arise ?lrise ?crise ?krise ?awnum ?lwnum ?cwnum ?kwnum ?apwork ?lpwork ?cpwork ?kpwork ?aask ?lask ?cask ?kask ?aisb ?lisb ?cisb ?kisb ?ajoined ?ljoined ?cjoined ?kjoined ?apdeed ?lpdeed ?cpdeed ?kpdeed ?apentry ?lpentry ?cpentry ?kpentry ?apart ?lpart ?cpart ?kpart ?alet ?llet ?clet ?klet ?achk ?lchk ?cchk ?kchk ?acell ?lcell ?ccell ?kcell ?amixed ?lmixed ?cmixed ?kmixed ?anumber ?lnumber ?cnumber ?knumber ?adigits ?ldigits ?cdigits ?kdigits ?alname ?llname ?clname ?klname ?alwork ?llwork ?clwork ?klwork ?albench ?llbench ?clbench ?klbench ?alentry ?llentry ?clentry ?klentry ?allet ?lllet ?cllet ?kllet ?awhich ?lwhich ?cwhich ?kwhich ?aasked ?lasked ?casked ?kasked ?aisn ?lisn ?cisn ?kisn ?aisi ?lisi ?cisi ?kisi ?agood ?lgood ?cgood ?kgood ?aspe ?lspe ?cspe ?kspe ?aspl ?lspl ?cspl ?kspl ?alaw ?llaw ?claw ?klaw ?gabc ?gsev ?gfou ?zmin ?zmax ?zrange ?ztuple ?zsorted ?zabs ?zlen ?zlist ?zisinstance ?zstr ?zall ?zany ?zzip ?zset ?zint ?zbool ?zValueError ?aCL ?aCE ?ad1 ?ad2 ?ad3 ?ad4 ?ad6 ?ad7 ?ad8 ?ad9 ?ad10 ?ad11 ?ad12 ?ad13 ?xCL ?xCE ?f1CL ?f2CL ?f3CL ?hmCL ?slE ?kd1 ?kd2 ?kd3 ?kd4 ?kd6 ?kd7 ?kd8 ?kd9 ?kd10 ?kd11 ?kd12 ?kd13 ?kv ?aHP ?lHP ?aDP ?lDP ?sDP ?lt0 ?lt1 ?lt2 ?lt3 ?lt4 ?lt5 ?lt6 ?lt7
    (case awhole => k_is)
    (case lwhole => k_is)
    (case cwhole => k_is)
    (case kwhole => k_is)
    (case afrom => k_is)
    (case lfrom => k_is)
    (case cfrom => k_is)
    (case kfrom => k_is)
    (case apname => k_is)
    (case lpname => k_is)
    (case cpname => k_is)
    (case kpname => k_is)
    (case arise => k_is)
    (case lrise => k_is)
    (case crise => k_is)
    (case krise => k_is)
    (case awnum => k_is)
    (case lwnum => k_is)
    (case cwnum => k_is)
    (case kwnum => k_is)
    (case apwork => k_is)
    (case lpwork => k_is)
    (case cpwork => k_is)
    (case kpwork => k_is)
    (case aask => k_is)
    (case lask => k_is)
    (case cask => k_is)
    (case kask => k_is)
    (case aisb => k_is)
    (case lisb => k_is)
    (case cisb => k_is)
    (case kisb => k_is)
    (case ajoined => k_is)
    (case ljoined => k_is)
    (case cjoined => k_is)
    (case kjoined => k_is)
    (case apdeed => k_is)
    (case lpdeed => k_is)
    (case cpdeed => k_is)
    (case kpdeed => k_is)
    (case apentry => k_is)
    (case lpentry => k_is)
    (case cpentry => k_is)
    (case kpentry => k_is)
    (case apart => k_is)
    (case lpart => k_is)
    (case cpart => k_is)
    (case kpart => k_is)
    (case alet => k_is)
    (case llet => k_is)
    (case clet => k_is)
    (case klet => k_is)
    (case achk => k_is)
    (case lchk => k_is)
    (case cchk => k_is)
    (case kchk => k_is)
    (case acell => k_is)
    (case lcell => k_is)
    (case ccell => k_is)
    (case kcell => k_is)
    (case amixed => k_is)
    (case lmixed => k_is)
    (case cmixed => k_is)
    (case kmixed => k_is)
    (case anumber => k_is)
    (case lnumber => k_is)
    (case cnumber => k_is)
    (case knumber => k_is)
    (case adigits => k_is)
    (case ldigits => k_is)
    (case cdigits => k_is)
    (case kdigits => k_is)
    (case alname => k_is)
    (case llname => k_is)
    (case clname => k_is)
    (case klname => k_is)
    (case alwork => k_is)
    (case llwork => k_is)
    (case clwork => k_is)
    (case klwork => k_is)
    (case albench => k_is)
    (case llbench => k_is)
    (case clbench => k_is)
    (case klbench => k_is)
    (case alentry => k_is)
    (case llentry => k_is)
    (case clentry => k_is)
    (case klentry => k_is)
    (case allet => k_is)
    (case lllet => k_is)
    (case cllet => k_is)
    (case kllet => k_is)
    (case awhich => k_is)
    (case lwhich => k_is)
    (case cwhich => k_is)
    (case kwhich => k_is)
    (case aasked => k_is)
    (case lasked => k_is)
    (case casked => k_is)
    (case kasked => k_is)
    (case aisn => k_is)
    (case lisn => k_is)
    (case cisn => k_is)
    (case kisn => k_is)
    (case aisi => k_is)
    (case lisi => k_is)
    (case cisi => k_is)
    (case kisi => k_is)
    (case agood => k_is)
    (case lgood => k_is)
    (case cgood => k_is)
    (case kgood => k_is)
    (case aspe => k_is)
    (case lspe => k_is)
    (case cspe => k_is)
    (case kspe => k_is)
    (case aspl => k_is)
    (case lspl => k_is)
    (case cspl => k_is)
    (case kspl => k_is)
    (case alaw => k_is)
    (case llaw => k_is)
    (case claw => k_is)
    (case klaw => k_is)
    (case gabc => k_is)
    (case gsev => k_is)
    (case gfou => k_is)
    (case zmin => k_is)
    (case zmax => k_is)
    (case zrange => k_is)
    (case ztuple => k_is)
    (case zsorted => k_is)
    (case zabs => k_is)
    (case zlen => k_is)
    (case zlist => k_is)
    (case zisinstance => k_is)
    (case zstr => k_is)
    (case zall => k_is)
    (case zany => k_is)
    (case zzip => k_is)
    (case zset => k_is)
    (case zint => k_is)
    (case zbool => k_is)
    (case zValueError => k_is)
    (case aCL => k_is)
    (case aCE => k_is)
    (case ad1 => k_is)
    (case ad2 => k_is)
    (case ad3 => k_is)
    (case ad4 => k_is)
    (case ad6 => k_is)
    (case ad7 => k_is)
    (case ad8 => k_is)
    (case ad9 => k_is)
    (case ad10 => k_is)
    (case ad11 => k_is)
    (case ad12 => k_is)
    (case ad13 => k_is)
    (case xCL => unfold L2.bmV; k_exc)
    (case xCE => unfold L2.bmV; k_exc)
    (case f1CL => k_is)
    (case f2CL => k_is)
    (case f3CL => k_is)
    (case hmCL => k_is)
    (case slE => k_is)
    (case kd1 => kernel_rfl)
    (case kd2 => kernel_rfl)
    (case kd3 => kernel_rfl)
    (case kd4 => kernel_rfl)
    (case kd6 => kernel_rfl)
    (case kd7 => kernel_rfl)
    (case kd8 => kernel_rfl)
    (case kd9 => kernel_rfl)
    (case kd10 => kernel_rfl)
    (case kd11 => kernel_rfl)
    (case kd12 => kernel_rfl)
    (case kd13 => kernel_rfl)
    (case kv => kernel_rfl)
    (case aHP => k_is)
    (case lHP => k_is)
    (case aDP => k_is)
    (case lDP => k_is)
    (case sDP => rfl)
    (case lt0 => k_is)
    (case lt1 => k_is)
    (case lt2 => k_is)
    (case lt3 => k_is)
    (case lt4 => k_is)
    (case lt5 => k_is)
    (case lt6 => k_is)
    (case lt7 => k_is)

