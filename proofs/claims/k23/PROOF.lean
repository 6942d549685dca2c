import PyProof.Rows.All
import Wide.All
import OpenK.AllK
import Wide.FinOn
import Lean
import PyProof.EqAt
import PyProof.EqKinds
import PyProof.TupleCall
import PyProof.WalksEnum
import PyProof.EnumMake
import PyProof.Rows.EnumRows
import PyProof.Rows.Range3
import PyProof.ZipIter
import PyProof.LongRange
import PySem.Challenge.RW_chainhouse_k23_rows_cut
set_option Elab.async false
set_option linter.all false
set_option maxRecDepth 100000
/-! THE HAND LAYER, for ints, bools, texts, own classes, DICTS (int and text keys), calls, loops. Paste it whole ahead of your own text; what your proof does not reach may be deleted. -/
namespace L2
open PySem PySem.Spec PyProof.Rows

/-- a key: an int or a str -/
abbrev Key := Sum Int Str
def keyIs : Key → Value → Bool
  | .inl k, v => Value.isInt k v
  | .inr x, v => Value.isStrOf x v
def keyH (w : World) : Key → Int
  | .inl k => hashInt k
  | .inr x => hashStr w x
theorem keyIs_shape : ∀ {k : Key} {v : Value}, keyIs k v = true → (∃ i t, k = Sum.inl i ∧ v = Value.int i t) ∨ (∃ x t, k = Sum.inr x ∧ v = Value.str x t)
  | .inl i, v, h => by
    obtain ⟨t, e⟩ := Value.isInt_shape (k := i) (v := v) h
    exact .inl ⟨i, t, rfl, e⟩
  | .inr x, v, h => by
    obtain ⟨t, e⟩ := Value.isStrOf_shape (x := x) (v := v) h
    exact .inr ⟨x, t, rfl, e⟩
theorem keyIs_int (i : Int) (t : Tok) : keyIs (.inl i) (.int i t) = true := by simp [keyIs, Value.isInt]
theorem keyIs_str (x : Str) (t : Tok) : keyIs (.inr x) (.str x t) = true := by simp [keyIs, Value.isStrOf]
theorem key_ll (a b : Int) : decide ((Sum.inl a : Key) = Sum.inl b) = (a == b) := by
  by_cases e : a = b
  · subst e; simp
  · have h : ¬ (Sum.inl a : Key) = Sum.inl b := fun q => e (Sum.inl.inj q)
    rw [decide_eq_false h]
    exact (beq_eq_false_iff_ne.mpr e).symm
theorem key_rr (a b : Str) : decide ((Sum.inr a : Key) = Sum.inr b) = decide (a = b) := by
  by_cases e : a = b
  · subst e; simp
  · have h : ¬ (Sum.inr a : Key) = Sum.inr b := fun q => e (Sum.inr.inj q)
    rw [decide_eq_false h, decide_eq_false e]
theorem key_lr (a : Int) (b : Str) : decide ((Sum.inl a : Key) = Sum.inr b) = false := decide_eq_false (fun q => nomatch q)
theorem key_rl (a : Str) (b : Int) : decide ((Sum.inr a : Key) = Sum.inl b) = false := decide_eq_false (fun q => nomatch q)

def mixKind (prog : Program) (w : World) : PySem.KeyKind prog w Key where
  is := keyIs
  hash := keyH w
  inj := fun v a b ha hb => by
    rcases keyIs_shape ha with ⟨i, t, rfl, rfl⟩ | ⟨x, t, rfl, rfl⟩
    · rcases keyIs_shape hb with ⟨j, u, rfl, e⟩ | ⟨y, u, rfl, e⟩
      · injection e with e1 _; rw [e1]
      · exact nomatch e
    · rcases keyIs_shape hb with ⟨j, u, rfl, e⟩ | ⟨y, u, rfl, e⟩
      · exact nomatch e
      · injection e with e1 _; rw [e1]
  byValue := fun k v h => by
    rcases keyIs_shape h with ⟨i, t, rfl, rfl⟩ | ⟨x, t, rfl, rfl⟩ <;> rfl
  pyHash := fun hv h => by
    rcases keyIs_shape hv with ⟨i, t, rfl, rfl⟩ | ⟨x, t, rfl, rfl⟩
    · exact wpAny_pyHash_int h
    · exact wpAny_pyHash_str h
  eqBool := fun hu hv h => by
    rcases keyIs_shape hu with ⟨i, t, rfl, rfl⟩ | ⟨x, t, rfl, rfl⟩
    · rcases keyIs_shape hv with ⟨j, u, rfl, rfl⟩ | ⟨y, u, rfl, rfl⟩
      · rw [key_ll] at h; exact wpAny_eqBool_int h
      · rw [key_lr] at h; exact SeqAt.EqAt.int_str i t y u _ _ _ _ h
    · rcases keyIs_shape hv with ⟨j, u, rfl, rfl⟩ | ⟨y, u, rfl, rfl⟩
      · rw [key_rl] at h; exact SeqAt.EqAt.str_int x t j u _ _ _ _ h
      · rw [key_rr] at h; exact wpAny_eqBool_str h
  «strs» := fun k x t v h => by
    rcases keyIs_shape h with ⟨i, u, rfl, e⟩ | ⟨y, u, rfl, e⟩
    · exact nomatch e
    · injection e with e1 _
      subst e1
      cases v <;> rfl

theorem mixKind_int (prog : Program) (w : World) (i : Int) (t : Tok) : (mixKind prog w).is (.inl i) (.int i t) = true := keyIs_int i t
theorem mixKind_str (prog : Program) (w : World) (x : Str) (t : Tok) : (mixKind prog w).is (.inr x) (.str x t) = true := keyIs_str x t
end L2

namespace L2
open PySem PySem.Spec PyProof.Rows

/-- a value, without the heap -/
inductive V where
  | non | bl (b : Bool) | int (i : Int) | str (x : Str) | byt (b : Array UInt8) | flt (b : UInt64) | ref (a : Addr) | ty (n : String)
  deriving DecidableEq

def RelV : V → Value → Prop
  | .non, u => u = Value.none
  | .bl b, u => u = Value.bool b
  | .int i, u => ∃ t, u = Value.int i t
  | .str x, u => ∃ t, u = Value.str x t
  | .byt b, u => ∃ t, u = Value.bytes b t
  | .flt b, u => ∃ t, u = Value.float b t
  | .ref a, u => u = Value.ref a
  | .ty n, u => u = Value.type n

abbrev Vals : List V → List Value → Prop := Paired RelV
theorem Vals.length {xs : List V} {us : List Value} (r : Vals xs us) : xs.length = us.length := Paired.length r
theorem Vals.get : ∀ {xs : List V} {us : List Value} {i : Nat} {x : V}, Vals xs us → xs[i]? = some x → ∃ u, us[i]? = some u ∧ RelV x u
  | _, _, _, _, .nil, e => by simp at e
  | _, _, 0, _, .cons r _, e => by simp at e; subst e; exact ⟨_, rfl, r⟩
  | _, _, i + 1, x, .cons _ t, e => by
    obtain ⟨u, h1, h2⟩ := Vals.get (i := i) (x := x) t (by simpa using e)
    exact ⟨u, by simpa using h1, h2⟩
theorem Vals.set {x : V} {u : Value} (r : RelV x u) : ∀ {xs : List V} {us : List Value} (i : Nat), Vals xs us → Vals (xs.set i x) (us.set i u)
  | _, _, _, .nil => .nil
  | _, _, 0, .cons _ t => .cons r t
  | _, _, i + 1, .cons q t => .cons q (Vals.set r i t)
theorem Vals.append : ∀ {xs ys : List V} {us ws : List Value}, Vals xs us → Vals ys ws → Vals (xs ++ ys) (us ++ ws)
  | _, _, _, _, .nil, s => s
  | _, _, _, _, .cons r t, s => .cons r (Vals.append t s)
theorem Vals.take : ∀ {xs : List V} {us : List Value} (n : Nat), Vals xs us → Vals (xs.take n) (us.take n)
  | _, _, 0, _ => .nil
  | _, _, _ + 1, .nil => .nil
  | _, _, n + 1, .cons r t => .cons r (Vals.take n t)
theorem Vals.drop : ∀ {xs : List V} {us : List Value} (n : Nat), Vals xs us → Vals (xs.drop n) (us.drop n)
  | _, _, 0, r => r
  | _, _, _ + 1, .nil => .nil
  | _, _, n + 1, .cons _ t => Vals.drop n t
def RelO : Option V → Option Value → Prop
  | some v, some u => RelV v u
  | none, none => True
  | _, _ => False
def KV {κ : Type} : List (κ × V) → List (κ × Value) → Prop := Paired fun (p : κ × V) (q : κ × Value) => p.1 = q.1 ∧ RelV p.2 q.2

/-- a key of a dict (00_mix): an int or a text -/
def kV : Key → V
  | .inl i => .int i
  | .inr x => .str x

/-- what stands at a tracked address -/
inductive HO where
  /-- a list -/
  | lst (xs : List V)
  /-- a tuple (never changes) -/
  | tup (xs : List V)
  /-- a dict whose keys are ints and texts; one whose keys are tuples of ints and texts (the empty one is both) -/
  | dK (kvs : List (Key × V)) | dT (kvs : List (List Key × V))
  /-- a set of ints: its members, its size -/
  | set (S : Int → Bool) (n : Nat)
  /-- an instance of the class at C, its dict at dx, its attributes -/
  | ins (C dx : Addr) (fs : List (Str × V))
  /-- the dict of the instance at x -/
  | own (x : Addr)
  /-- the dict of an exception -/
  | xd (fs : List (Str × V))
  /-- a bound method, f of x -/
  | met (f x : Addr)
  /-- a range object lo, lo + 1, .. below hi -/
  | rng (lo hi : Int)
  /-- a thing that is known to the object (the script; a dict while a loop walks it): read, never written while it is so -/
  | frz (o : Obj) (u : HO)
  /-- a code object's table -/
  | tbl (ps : Array Value)
  /-- any other thing, by what is true of its one object (a def of one's own: SetO a S n := HO.ext fun h => ..) -/
  | ext (φ : Heap → Prop)

abbrev Hp := Addr → Option HO
def upd (H : Hp) (a : Addr) (o : HO) : Hp := fun b => if b = a then some o else H b
theorem upd_same {H : Hp} {a : Addr} {o : HO} : upd H a o a = some o := by unfold upd; rw [if_pos rfl]
theorem upd_ne {H : Hp} {a b : Addr} {o : HO} (h : b ≠ a) : upd H a o b = H b := by unfold upd; rw [if_neg h]
theorem upd_upd {H : Hp} {a : Addr} {o u : HO} : upd (upd H a o) a u = upd H a u := by
  funext b; unfold upd; split <;> rfl
/-- two objects of different content stand apart -/
theorem ne_of {H : Hp} {a b : Addr} {o u : HO} (h : H a = some o) (h' : H b = some u) (d : o ≠ u) : a ≠ b := by
  intro e; subst e; rw [h] at h'; exact d (Option.some.inj h')
theorem ne_of_none {H : Hp} {a b : Addr} {o : HO} (h : H a = some o) (h' : H b = none) : a ≠ b := by
  intro e; subst e; rw [h] at h'; cases h'

section
variable (P : Program) (w : World)
def ObjOk (H : Hp) (h : Heap) (a : Addr) : HO → Prop
  | .lst xs => xs.length ≤ sizeLine ∧ ∃ (its : List Value) (n : Nat), Vals xs its ∧ h.get? a = some { cls := .type "list", data := .seq its.toArray n }
  | .tup xs => xs.length ≤ sizeLine ∧ ∃ its : List Value, Vals xs its ∧ IsTup h a its.toArray
  | .dK kvs => kvs.length ≤ sizeLine ∧ (a == sysModules) = false ∧ ∃ vs, KV kvs vs ∧ h.DictOf (mixKind P w) a vs
  | .dT kvs => kvs.length ≤ sizeLine ∧ (a == sysModules) = false ∧ ∃ xs : List (List Key × Addr × Value),
      Paired (fun (p : List Key × V) (q : List Key × Addr × Value) => p.1 = q.1 ∧ H q.2.1 = some (.tup (p.1.map kV)) ∧ RelV p.2 q.2.2) kvs xs ∧
      ∃ o es ep, h.get? a = some o ∧ o.ExactDict ∧ o.data = .dict es ep ∧ es.toList = xs.map (entryOfKey (tupleKind (mixKind P w))) ∧ (xs.map (·.1)).Nodup
  | .set S n => h.SetOf (intKind P w) a S n
  | .ins C dx fs => H dx = some (.own a) ∧ fs.length ≤ 1000 ∧ dx ≠ a ∧ h.get? a = some (PySem.W.instObj C dx) ∧
      ∃ mA, h.Ns1 dx mA ∧ (∀ f, RelO (fs.lookup f) (mA f)) ∧ PySem.Within mA (fs.map (·.1))
  | .own _ => ∃ o, h.get? a = some o
  | .xd fs => ∃ mA, h.Ns1 a mA ∧ ∀ f, RelO (fs.lookup f) (mA f)
  | .rng lo hi => ∃ t u v, h.get? a = some { cls := .type "range", data := .fields #[.int lo t, .int hi u, .int 1 v] }
  | .frz o u => h.get? a = some o ∧ ObjOk H h a u
  | .tbl ps => h.get? a = some { cls := .none, data := .fields ps }
  | .met f x => h.get? a = some (PySem.W.methodObj (.ref f) (.ref x))
  | .ext φ => φ h ∧ (∃ o, h.get? a = some o) ∧ ∀ h1 h2 : Heap, φ h1 → (∀ o, h1.get? a = some o → h2.get? a = some o) → φ h2
/-- the abstract heap is held -/
def HOk (H : Hp) (h : Heap) : Prop := ∀ a o, H a = some o → ObjOk P w H h a o
end

section
variable {P : Program} {w : World} {H H' : Hp} {h h' : Heap} {a : Addr} {o : HO}
theorem ObjOk.lt (x : ObjOk P w H h a o) : a < h.objs.size := by
  cases o with
  | lst xs => obtain ⟨_, _, _, _, e⟩ := x; exact Heap.lt_size e
  | tup xs => obtain ⟨_, _, _, p⟩ := x; exact p.lt
  | dK kvs => obtain ⟨_, _, _, _, o, _, _, e, _⟩ := x; exact Heap.lt_size e
  | dT kvs => obtain ⟨_, _, _, _, o, _, _, e, _⟩ := x; exact Heap.lt_size e
  | set S n => obtain ⟨o, _, _, _, e, _⟩ := x; exact Heap.lt_size e
  | ins C dx fs => obtain ⟨_, _, _, e, _⟩ := x; exact Heap.lt_size e
  | own y => obtain ⟨_, e⟩ := x; exact Heap.lt_size e
  | xd fs => obtain ⟨_, ⟨_, _, _, e, _⟩, _⟩ := x; exact Heap.lt_size e
  | rng lo hi => obtain ⟨_, _, _, e⟩ := x; exact Heap.lt_size e
  | frz ob u => obtain ⟨e, _⟩ := x; exact Heap.lt_size e
  | tbl ps => exact Heap.lt_size (show h.get? a = some _ from x)
  | met f y => exact Heap.lt_size (show h.get? a = some _ from x)
  | ext φ => obtain ⟨_, ⟨_, e⟩, _⟩ := x; exact Heap.lt_size e
theorem Paired.mapP {α β : Type} {F G : α → β → Prop} : ∀ {l₁ : List α} {l₂ : List β}, Paired F l₁ l₂ → (∀ a b, F a b → G a b) → Paired G l₁ l₂
  | _, _, .nil, _ => .nil
  | _, _, .cons r t, f => .cons (f _ _ r) (Paired.mapP t f)
/-- what an object's description leans on: its own object, its own dict, the tuples -/
theorem ObjOk.stay (x : ObjOk P w H h a o) (k : ∀ b u, (b = a ∨ H b = some (.own a)) → h.get? b = some u → h'.get? b = some u)
    (ho : ∀ b, H b = some (.own a) → H' b = some (.own a)) (ht : ∀ b xs, H b = some (.tup xs) → H' b = some (.tup xs)) : ObjOk P w H' h' a o := by
  induction o with
  | lst xs => obtain ⟨z, its, n, r, e⟩ := x; exact ⟨z, its, n, r, k _ _ (.inl rfl) e⟩
  | tup xs => obtain ⟨z, its, r, ob, e, c⟩ := x; exact ⟨z, its, r, ob, k _ _ (.inl rfl) e, c⟩
  | dK kvs => obtain ⟨z, y, vs, r, ob, es, ep, e, c⟩ := x; exact ⟨z, y, vs, r, ob, es, ep, k _ _ (.inl rfl) e, c⟩
  | dT kvs =>
    obtain ⟨z, y, xs, r, ob, es, ep, e, c⟩ := x
    exact ⟨z, y, xs, Paired.mapP r fun p q z => ⟨z.1, ht _ _ z.2.1, z.2.2⟩, ob, es, ep, k _ _ (.inl rfl) e, c⟩
  | set S n => obtain ⟨ob, es, ep, t, e, c⟩ := x; exact ⟨ob, es, ep, t, k _ _ (.inl rfl) e, c⟩
  | ins C dx fs =>
    obtain ⟨d, z, ne, e, mA, ⟨od, es, ep, e2, c⟩, r⟩ := x
    exact ⟨ho _ d, z, ne, k _ _ (.inl rfl) e, mA, ⟨od, es, ep, k _ _ (.inr d) e2, c⟩, r⟩
  | own y => obtain ⟨ob, e⟩ := x; exact ⟨ob, k _ _ (.inl rfl) e⟩
  | xd fs => obtain ⟨mA, ⟨od, es, ep, e, c⟩, r⟩ := x; exact ⟨mA, ⟨od, es, ep, k _ _ (.inl rfl) e, c⟩, r⟩
  | rng lo hi => obtain ⟨t, u, v, e⟩ := x; exact ⟨t, u, v, k _ _ (.inl rfl) e⟩
  | frz ob u ih => obtain ⟨e, q⟩ := x; exact ⟨k _ _ (.inl rfl) e, ih q⟩
  | tbl ps =>
    have e : h.get? a = some { cls := .none, data := .fields ps } := x
    show h'.get? a = some { cls := .none, data := .fields ps }
    exact k a _ (.inl rfl) e
  | met f y =>
    have e : h.get? a = some (PySem.W.methodObj (.ref f) (.ref y)) := x
    show h'.get? a = some (PySem.W.methodObj (.ref f) (.ref y))
    exact k a _ (.inl rfl) e
  | ext φ => obtain ⟨p, ⟨o, e⟩, st⟩ := x; exact ⟨st _ _ p fun o q => k _ _ (.inl rfl) q, ⟨o, k _ _ (.inl rfl) e⟩, st⟩
theorem HOk.lt (x : HOk P w H h) (e : H a = some o) : a < h.objs.size := (x a o e).lt
theorem HOk.fresh (x : HOk P w H h) (e : h.objs.size ≤ a) : H a = none := by
  cases q : H a with
  | none => rfl
  | some u => exact absurd (Nat.lt_of_lt_of_le (x.lt q) e) (Nat.lt_irrefl _)
/-- every object of the heap is kept -/
theorem HOk.kept (x : HOk P w H h) (k : ∀ b u, h.get? b = some u → h'.get? b = some u) : HOk P w H h' := fun a o e =>
  (x a o e).stay (fun b u _ q => k b u q) (fun _ q => q) fun _ _ q => q
/-- a new object is laid and tracked -/
theorem HOk.laid (x : HOk P w H h) (k : ∀ b u, h.get? b = some u → h'.get? b = some u) (hp : h.objs.size ≤ a) (new : ObjOk P w (upd H a o) h' a o) : HOk P w (upd H a o) h' := fun b u e => by
  have hn := x.fresh hp
  by_cases hb : b = a
  · subst hb; rw [upd_same] at e; cases e; exact new
  · rw [upd_ne hb] at e
    exact (x b u e).stay (fun c v _ q => k c v q) (fun c q => by rw [upd_ne (ne_of_none q hn)]; exact q) fun c xs q => by rw [upd_ne (ne_of_none q hn)]; exact q
end

/-- what may be read as u: it is u, or a known u -/
def Rd (H : Hp) (a : Addr) (u : HO) : Prop := H a = some u ∨ ∃ o, H a = some (.frz o u)
theorem Rd.ok {P : Program} {w : World} {H : Hp} {h : Heap} {a : Addr} {u : HO} (r : Rd H a u) (x : HOk P w H h) : ObjOk P w H h a u := by
  rcases r with r | ⟨o, r⟩
  · exact x a u r
  · obtain ⟨_, q⟩ := x a _ r
    exact q
/-- what may be written -/
def Mut : Option HO → Prop
  | some (.lst _) => True
  | some (.dK _) => True
  | some (.dT _) => True
  | some (.set _ _) => True
  | some (.ins _ _ _) => True
  | some (.ext _) => True
  | _ => False
section
variable {P : Program} {w : World} {H : Hp} {h h' : Heap} {x e : Addr} {o' : HO}
/-- the object at e is changed: x itself, or the dict of the instance x -/
theorem HOk.write (ok : HOk P w H h) (mu : Mut (H x)) (he : e = x ∨ H e = some (.own x)) (k : ∀ b u, b ≠ e → h.get? b = some u → h'.get? b = some u) (heo : ∃ u, h'.get? e = some u)
    (new : ObjOk P w (upd H x o') h' x o') : HOk P w (upd H x o') h' := fun b u q => by
  have nown : ∀ c y, H c = some (.own y) → c ≠ x := fun c y r z => by subst z; rw [r] at mu; exact mu
  have ntup : ∀ c xs, H c = some (.tup xs) → c ≠ x := fun c xs r z => by subst z; rw [r] at mu; exact mu
  by_cases hb : b = x
  · subst hb; rw [upd_same] at q; cases q; exact new
  · rw [upd_ne hb] at q
    by_cases hbe : b = e
    · have q' : H b = some (.own x) := by
        rcases he with z | z
        · exact absurd (hbe.trans z) hb
        · rw [hbe]; exact z
      rw [q] at q'; cases q'
      obtain ⟨v, hv⟩ := heo
      exact ⟨v, by rw [hbe]; exact hv⟩
    · refine (ok b u q).stay (fun c v hc r => k c v ?_ r) (fun c r => by rw [upd_ne (nown c b r)]; exact r) fun c xs r => by rw [upd_ne (ntup c xs r)]; exact r
      rcases hc with rfl | hc
      · exact hbe
      · rintro rfl
        rcases he with z | z
        · exact nown c b hc z
        · rw [hc] at z; cases z; exact hb rfl
end

/-! ### kept unless tracked; of the frames at fs (the callers') the slots may change (an exception that passes writes there); of the records at ex (iterators) nothing is said -/
structure Un (fs ex : List Addr) (H H' : Hp) (h h' : Heap) : Prop where
  keep : ∀ b o, h.get? b = some o → H b = none → b ∉ fs → b ∉ ex → h'.get? b = some o
  slot : ∀ b o, h.get? b = some o → H b = none → b ∈ fs → b ∉ ex → ∃ sl, h'.get? b = some { o with slots := sl }
  free : ∀ b o, h.get? b = some o → H b = none → b ∉ ex → H' b = none
  there : ∀ b o, h.get? b = some o → b ∉ ex → ∃ o', h'.get? b = some o'
  tups : ∀ b xs, H b = some (.tup xs) → H' b = some (.tup xs)
  frzs : ∀ b o u, H b = some (.frz o u) → H' b = some (.frz o u)
  tbls : ∀ b ps, H b = some (.tbl ps) → ∃ more, H' b = some (.tbl (ps ++ more))
section
variable {fs fs' ex ex' : List Addr} {H H1 H2 : Hp} {h h1 h2 h' : Heap} {a x e : Addr} {o : HO}
theorem Un.any (u : Un fs ex H H1 h h1) {b : Addr} {ob : Obj} (q : h.get? b = some ob) (n : H b = none) (hx : b ∉ ex) : ∃ sl, h1.get? b = some { ob with slots := sl } := by
  by_cases hb : b ∈ fs
  · exact u.slot b ob q n hb hx
  · exact ⟨ob.slots, u.keep b ob q n hb hx⟩
theorem Un.trans (a : Un fs ex H H1 h h1) (b : Un fs ex H1 H2 h1 h2) : Un fs ex H H2 h h2 where
  keep := fun c ob q n hc hx => b.keep c ob (a.keep c ob q n hc hx) (a.free c ob q n hx) hc hx
  slot := fun c ob q n hc hx => by
    obtain ⟨sl, e1⟩ := a.slot c ob q n hc hx
    obtain ⟨sl', e2⟩ := b.slot c _ e1 (a.free c ob q n hx) hc hx
    exact ⟨sl', e2⟩
  free := fun c ob q n hx => by
    obtain ⟨o', e1⟩ := a.there c ob q hx
    exact b.free c o' e1 (a.free c ob q n hx) hx
  there := fun c ob q hx => by
    obtain ⟨o', e1⟩ := a.there c ob q hx
    exact b.there c o' e1 hx
  tups := fun c xs q => b.tups c xs (a.tups c xs q)
  frzs := fun c ob xs q => b.frzs c ob xs (a.frzs c ob xs q)
  tbls := fun c ps q => by
    obtain ⟨m1, e1⟩ := a.tbls c ps q
    obtain ⟨m2, e2⟩ := b.tbls c _ e1
    exact ⟨m1 ++ m2, by rw [e2, Array.append_assoc]⟩
theorem Un.kept (k : ∀ b u, h.get? b = some u → h'.get? b = some u) : Un fs ex H H h h' :=
  ⟨fun b ob q _ _ _ => k b ob q, fun b ob q _ _ _ => ⟨ob.slots, k b ob q⟩, fun _ _ _ n _ => n, fun b ob q _ => ⟨ob, k b ob q⟩, fun _ _ q => q, fun _ _ _ q => q, fun _ ps q => ⟨#[], by rw [q]; simp⟩⟩
theorem Un.refl : Un fs ex H H h h := Un.kept fun _ _ q => q
theorem Un.laid (k : ∀ b u, h.get? b = some u → h'.get? b = some u) (hp : h.objs.size ≤ a) (hn : H a = none) : Un fs ex H (upd H a o) h h' where
  keep := fun b u q _ _ _ => k b u q
  slot := fun b u q _ _ _ => ⟨u.slots, k b u q⟩
  free := fun b u q n _ => by rw [upd_ne (Nat.ne_of_lt (Nat.lt_of_lt_of_le (Heap.lt_size q) hp))]; exact n
  there := fun b u q _ => ⟨u, k b u q⟩
  tups := fun b xs q => by rw [upd_ne (ne_of_none q hn)]; exact q
  frzs := fun b u xs q => by rw [upd_ne (ne_of_none q hn)]; exact q
  tbls := fun b ps q => ⟨#[], by rw [upd_ne (ne_of_none q hn), q]; simp⟩
theorem Un.write (mu : Mut (H x)) (he : e = x ∨ H e = some (.own x)) (k : ∀ b u, b ≠ e → h.get? b = some u → h'.get? b = some u) (heo : ∃ u, h'.get? e = some u) : Un fs ex H (upd H x o) h h' := by
  have hx : ∀ b, H b = none → b ≠ x := fun b n z => by subst z; rw [n] at mu; exact mu
  have hb : ∀ b, H b = none → b ≠ e := fun b n z => by
    subst z
    rcases he with r | r
    · exact hx b n r
    · rw [n] at r; cases r
  have hm : ∀ b u, H b = some u → ¬ Mut (some u) → b ≠ x := fun b u q nm z => by subst z; rw [q] at mu; exact nm mu
  refine ⟨fun b u q n _ _ => k b u (hb b n) q, fun b u q n _ _ => ⟨u.slots, k b u (hb b n) q⟩, fun b u q n _ => by rw [upd_ne (hx b n)]; exact n, fun b u q _ => ?_,
    fun b xs q => by rw [upd_ne (hm b _ q fun z => z)]; exact q, fun b u xs q => by rw [upd_ne (hm b _ q fun z => z)]; exact q, fun b ps q => ⟨#[], by rw [upd_ne (hm b _ q fun z => z), q]; simp⟩⟩
  by_cases hbe : b = e
  · subst hbe; exact heo
  · exact ⟨u, k b u hbe q⟩
end

/-! ### the heap without what is tracked -/
def trk (h : Heap) (H : Hp) : List Addr := (List.range h.objs.size).filter fun a => (H a).isSome
def hidT (h : Heap) (H : Hp) : Heap := PySem.W.hideAll h (trk h H)
theorem hidT_size (h : Heap) (H : Hp) : (hidT h H).objs.size = h.objs.size := PySem.W.hideAll_size _ _
theorem hidT_get {h : Heap} {H : Hp} {b : Addr} {o : Obj} (e : h.get? b = some o) (n : H b = none) : (hidT h H).get? b = some o :=
  PySem.W.hideAll_get _ e fun hm => by
    have q : (H b).isSome = true := (List.mem_filter.mp hm).2
    rw [n] at q; simp at q
theorem of_hidT {h : Heap} {H : Hp} {b : Addr} {o : Obj} (e : (hidT h H).get? b = some o) : h.get? b = some o ∧ H b = none := by
  have e' : h.get? b = some o := PySem.W.of_hideAll (trk h H) e
  refine ⟨e', ?_⟩
  cases q : H b with
  | none => rfl
  | some x =>
    have hm : b ∈ trk h H := List.mem_filter.mpr ⟨List.mem_range.mpr (Heap.lt_size e'), by simp [q]⟩
    have z : (hidT h H).get? b = none := PySem.W.hideAll_none (trk h H) hm
    rw [z] at e; cases e

/-! ### OpenK's ledger, filled with every new object but one -/
end L2

namespace L2
open PySem PySem.Spec PyProof.Rows

/-- the module's facts, over the base: the heap at the law's entry without what is tracked there -/
structure Mod (K : PySem.W.Frag) (mg : Str → Option Value) (base : Heap) : Prop where
  kin : K.In base
  glob : base.Ns mainGlobals mg
  blt : ∃ mb, base.Ns builtinsNs mb ∧ ∀ x : Str, x ≠ "__name__" → mb x = bootBuiltins x
  nolimit : base.NoLimit

/-- the context: a def's body (or a comprehension's block) running. base: fixed through the whole law; s₀, H₀: the entry; outer: the frames whose slots others may change (a def's callers); stack: all frames that run;
   ex: iterators that were made ahead of the entry and are walked here (a comprehension's); fn: the names whose cells were made at the entry (a def: all; a comprehension's block: its own); calm: not within an except suite; pn: pins that every state bears; xe: what is wanted of an exception that leaves the code -/
structure Cx where
  prog : Program
  w : World
  K : PySem.W.Frag
  mg : Str → Option Value
  base : Heap
  A : Around
  N : List Str
  s₀ : Shared
  H₀ : Hp
  env : Env
  outer : List Env
  stack : List Env
  ex : List Addr
  fn : Str → Bool
  calm : Bool
  pn : List (Addr × Obj)
  xe : Value → Shared → Prop
/-- the callers' frames -/
def frs (l : List Env) : List Addr := l.filterMap (·.frame)
abbrev Cx.fs (X : Cx) : List Addr := frs X.outer

def Vis (sc : Scope) (x : Str) : Prop := sc.names.lookup x = some .local ∨ sc.names.lookup x = some .cell ∨ sc.names.lookup x = some .free
def Loc (sc : Scope) (x : Str) : Prop := sc.names.lookup x = some .local ∨ sc.names.lookup x = some .cell
def Look (env : Env) (h : Heap) (m : Str → Option Value) (x : Str) (u : Value) : Prop :=
  (env.kindOf x = some .local ∧ m x = some u) ∨ ((env.kindOf x = some .cell ∨ env.kindOf x = some .free) ∧ ∃ c, env.cells.lookup x = some c ∧ h.IsCell c (some u))

structure Cx.Ok (X : Cx) : Prop where
  mod : Mod X.K X.mg X.base
  kind : X.env.scope.kind = .function
  glob : X.env.globals = mainGlobals
  blt : X.env.builtins = builtinsNs
  above : X.s₀.heap.objs.size ≤ X.env.locals
  inj : ∀ x y c, X.env.cells.lookup x = some c → X.env.cells.lookup y = some c → x = y
  has : ∀ x, (X.env.kindOf x = some .cell ∨ X.env.kindOf x = some .free) → ∃ c, X.env.cells.lookup x = some c
  cab : ∀ x c, X.fn x = true → X.env.cells.lookup x = some c → X.s₀.heap.objs.size ≤ c
  hd : X.calm = true → X.A.handled = none
  frames : X.A.frames = some X.stack
  stk : X.stack = X.outer ∨ (X.stack = X.env :: X.outer ∧ X.env.frame = some X.env.locals)
  exf : ∀ b ∈ X.ex, b ≠ X.env.locals ∧ ∀ x c, X.env.cells.lookup x = some c → c ≠ b
  bs : ∀ b o, X.base.get? b = some o → X.s₀.heap.get? b = some o ∧ X.H₀ b = none
  bsz : X.base.objs.size ≤ X.s₀.heap.objs.size
  noex : ∀ b o, X.base.get? b = some o → b ∉ X.ex
  exfs : ∀ b ∈ X.ex, b ∉ X.fs
  funs : X.s₀.heap.FunFrames X.base X.outer
  frf : ∀ b ∈ X.fs, X.H₀ b = none

structure Inv (X : Cx) (pins : List (Addr × Obj)) (σ : List (Option V)) (H : Hp) (s : Shared) : Prop where
  ok : X.Ok
  os : s.os = X.s₀.os
  bare : AllBare s.gens
  base : Un X.fs X.ex X.H₀ H X.s₀.heap s.heap
  loc : ∃ m, s.heap.Ns X.env.locals m ∧ ∀ (i : Nat) (x : Str) (v : V), X.N[i]? = some x → σ[i]? = some (some v) → Vis X.env.scope x → ∃ u, RelV v u ∧ Look X.env s.heap m x u
  cell : ∀ x c, X.env.cells.lookup x = some c → ∃ v, s.heap.IsCell c v
  free : H X.env.locals = none
  freeC : ∀ x c, X.env.cells.lookup x = some c → H c = none
  pin : ∀ p ∈ X.pn ++ pins, s.heap.get? p.1 = some p.2 ∧ H p.1 = none ∧ p.1 ≠ X.env.locals ∧ p.1 ∉ X.fs ∧ ∀ v, p.2.data ≠ .cell v
  hok : HOk X.prog X.w H s.heap
  len : σ.length = X.N.length

section
variable {X : Cx} {pins : List (Addr × Obj)} {σ : List (Option V)} {H H' : Hp} {s : Shared} {h' : Heap}

theorem Cx.Ok.nofr (ok : X.Ok) {b : Addr} {o : Obj} (e : X.base.get? b = some o) : b ∉ X.fs := fun hb => by
  have := (ok.funs.mem hb).1
  rw [e] at this; cases this
theorem Inv.bs (I : Inv X pins σ H s) : ∀ b o, X.base.get? b = some o → s.heap.get? b = some o ∧ H b = none := fun b o e =>
  ⟨I.base.keep b o (I.ok.bs b o e).1 (I.ok.bs b o e).2 (I.ok.nofr e) (I.ok.noex b o e), I.base.free b o (I.ok.bs b o e).1 (I.ok.bs b o e).2 (I.ok.noex b o e)⟩
theorem Inv.bk (I : Inv X pins σ H s) : ∀ b o, X.base.get? b = some o → s.heap.get? b = some o := fun b o e => (I.bs b o e).1
theorem Inv.mod (I : Inv X pins σ H s) : Mod X.K X.mg X.base := I.ok.mod
theorem Inv.kIn (I : Inv X pins σ H s) : X.K.In s.heap := I.ok.mod.kin.keeps I.bk
theorem Inv.lt (I : Inv X pins σ H s) : X.env.locals < s.heap.objs.size := let ⟨_, hn, _⟩ := I.loc; hn.lt
theorem Inv.sz (I : Inv X pins σ H s) : X.s₀.heap.objs.size ≤ s.heap.objs.size := Nat.le_trans I.ok.above (Nat.le_of_lt I.lt)
theorem Inv.nofs (I : Inv X pins σ H s) {a : Addr} (h : s.heap.objs.size ≤ a) : a ∉ X.fs := fun hb => by
  obtain ⟨_, o, ho, _⟩ := I.ok.funs.mem hb
  exact absurd (Nat.lt_of_lt_of_le (Heap.lt_size ho) (Nat.le_trans I.sz h)) (Nat.lt_irrefl _)
theorem Inv.cne (I : Inv X pins σ H s) : ∀ x c, X.env.cells.lookup x = some c → c ≠ X.env.locals := fun x c e z => by
  obtain ⟨v, o, ho, hd⟩ := I.cell x c e
  obtain ⟨m, ⟨o', es, ep, ho', hd', _⟩, _⟩ := I.loc
  rw [z, ho'] at ho; cases ho; rw [hd'] at hd; cases hd
theorem Inv.funs (I : Inv X pins σ H s) : s.heap.FunFrames X.base X.outer := by
  have all : ∀ (l : List Env), (∀ b ∈ frs l, b ∈ X.fs) → X.s₀.heap.FunFrames X.base l → s.heap.FunFrames X.base l := by
    intro l
    induction l with
    | nil => intro _ _; trivial
    | cons env r ih =>
      intro hs hl
      obtain ⟨hk, ⟨L, o, hf, hn, ho, hd⟩, hr⟩ := hl
      have hL : L ∈ X.fs := hs L (by unfold frs; rw [List.filterMap_cons, hf]; exact List.mem_cons_self)
      obtain ⟨sl, e⟩ := I.base.slot L o ho (I.ok.frf L hL) hL fun z => I.ok.exfs L z hL
      exact ⟨hk, ⟨L, _, hf, hn, e, hd⟩, ih (fun b hb => hs b (by unfold frs; rw [List.filterMap_cons, hf]; exact List.mem_cons_of_mem _ hb)) hr⟩
  exact all X.outer (fun _ hb => hb) I.ok.funs

/-- the frames that run, for a call -/
theorem Inv.stack (I : Inv X pins σ H s) : s.heap.FunFrames X.base X.stack := by
  rcases I.ok.stk with e | ⟨e, hf⟩
  · rw [e]; exact I.funs
  · rw [e]
    obtain ⟨m, hn, _⟩ := I.loc
    refine .cons (by rw [I.ok.kind]; decide) hf hn ?_ I.funs
    exact Heap.get?_none_of_le (Nat.le_trans I.ok.bsz I.ok.above)
theorem Inv.stkSub (I : Inv X pins σ H s) : ∀ b ∈ frs X.stack, b ∈ X.env.locals :: X.fs := fun b hb => by
  rcases I.ok.stk with e | ⟨e, hf⟩
  · rw [e] at hb; exact List.mem_cons_of_mem _ hb
  · rw [e] at hb
    unfold frs at hb
    rw [List.filterMap_cons, hf] at hb
    exact hb
theorem Inv.stkFree (I : Inv X pins σ H s) : ∀ b ∈ frs X.stack, H b = none := fun b hb => by
  rcases List.mem_cons.mp (I.stkSub b hb) with e | hb
  · rw [e]; exact I.free
  · obtain ⟨_, o, ho, _⟩ := I.ok.funs.mem hb
    exact I.base.free b o ho (I.ok.frf b hb) fun z => I.ok.exfs b z hb

/-- THE STEP: the untracked objects but the frame and the records at ch are kept (the callers' frames up to slots), the frame's map is kept, the new abstract heap is held -/
theorem Inv.step {g' : Array GenState} {t' : Nat} {d' : Drawn} {ch : List Addr} (I : Inv X pins σ H s)
    (hch : ∀ b ∈ ch, (b ∈ X.ex ∨ X.s₀.heap.objs.size ≤ b) ∧ b ≠ X.env.locals ∧ (∀ x c, X.env.cells.lookup x = some c → c ≠ b) ∧ ∀ p ∈ X.pn ++ pins, p.1 ≠ b)
    (keep : ∀ b o, b ≠ X.env.locals → b ∉ X.fs → b ∉ ch → s.heap.get? b = some o → H b = none → h'.get? b = some o)
    (slot : ∀ b o, b ≠ X.env.locals → b ∈ X.fs → b ∉ ch → s.heap.get? b = some o → H b = none → ∃ sl, h'.get? b = some { o with slots := sl }) (free : ∀ b o, b ∉ ch → s.heap.get? b = some o → H b = none → H' b = none)
    (there : ∀ b o, b ∉ ch → s.heap.get? b = some o → ∃ o', h'.get? b = some o')
    (tups : ∀ b xs, H b = some (.tup xs) → H' b = some (.tup xs)) (frzs : ∀ b o u, H b = some (.frz o u) → H' b = some (.frz o u)) (tbls : ∀ b ps, H b = some (.tbl ps) → ∃ more, H' b = some (.tbl (ps ++ more)))
    (ns : ∀ m, s.heap.Ns X.env.locals m → h'.Ns X.env.locals m) (hok : HOk X.prog X.w H' h') (hg : AllBare g') :
    Inv X pins σ H' { s with heap := h', gens := g', drawn := d', toks := t' } := by
  have neL : ∀ b o, X.s₀.heap.get? b = some o → b ≠ X.env.locals := fun b o e => Nat.ne_of_lt (Nat.lt_of_lt_of_le (Heap.lt_size e) I.ok.above)
  have neC : ∀ b o, X.s₀.heap.get? b = some o → b ∉ X.ex → b ∉ ch := fun b o e hx hb => by
    rcases (hch b hb).1 with z | z
    · exact hx z
    · exact absurd (Nat.lt_of_lt_of_le (Heap.lt_size e) z) (Nat.lt_irrefl _)
  have cellK : ∀ x c, X.env.cells.lookup x = some c → ∀ v, s.heap.IsCell c v → h'.IsCell c v := fun x c e v ⟨o, ho, hd⟩ => by
    have nch : c ∉ ch := fun z => (hch c z).2.2.1 x c e rfl
    by_cases hc : c ∈ X.fs
    · obtain ⟨sl, q⟩ := slot c o (I.cne x c e) hc nch ho (I.freeC x c e)
      exact ⟨_, q, hd⟩
    · exact ⟨o, keep c o (I.cne x c e) hc nch ho (I.freeC x c e), hd⟩
  refine ⟨I.ok, I.os, hg, ⟨fun b o e n hb hx => ?_, fun b o e n hb hx => ?_, fun b o e n hx => ?_, fun b o e hx => ?_, fun b xs e => tups b xs (I.base.tups b xs e), fun b o xs e => frzs b o xs (I.base.frzs b o xs e), fun b ps e => ?_⟩, ?_, fun x c e => ?_, ?_, fun x c e => ?_, fun p hp => ?_, hok, I.len⟩
  · exact keep b o (neL b o e) hb (neC b o e hx) (I.base.keep b o e n hb hx) (I.base.free b o e n hx)
  · obtain ⟨sl, e1⟩ := I.base.slot b o e n hb hx
    obtain ⟨sl', e2⟩ := slot b _ (neL b o e) hb (neC b o e hx) e1 (I.base.free b o e n hx)
    exact ⟨sl', e2⟩
  · obtain ⟨o', e1⟩ := I.base.there b o e hx
    exact free b o' (neC b o e hx) e1 (I.base.free b o e n hx)
  · obtain ⟨o', e1⟩ := I.base.there b o e hx
    exact there b o' (neC b o e hx) e1
  · obtain ⟨m1, e1⟩ := I.base.tbls b ps e
    obtain ⟨m2, e2⟩ := tbls b _ e1
    exact ⟨m1 ++ m2, by rw [e2, Array.append_assoc]⟩
  · obtain ⟨m, hn, hl⟩ := I.loc
    refine ⟨m, ns m hn, fun i x v e1 e2 e3 => ?_⟩
    obtain ⟨u, r, l⟩ := hl i x v e1 e2 e3
    refine ⟨u, r, ?_⟩
    rcases l with l | ⟨k, c, e, z⟩
    · exact .inl l
    · exact .inr ⟨k, c, e, cellK x c e _ z⟩
  · obtain ⟨v, z⟩ := I.cell x c e
    exact ⟨v, cellK x c e v z⟩
  · obtain ⟨m, ⟨o, _, _, ho, _⟩, _⟩ := I.loc
    exact free _ o (fun z => (hch _ z).2.1 rfl) ho I.free
  · obtain ⟨v, o, ho, hd⟩ := I.cell x c e
    exact free c o (fun z => (hch c z).2.2.1 x c e rfl) ho (I.freeC x c e)
  · obtain ⟨e, n, ne, nf, d⟩ := I.pin p hp
    have nch : p.1 ∉ ch := fun z => (hch p.1 z).2.2.2 p hp rfl
    exact ⟨keep p.1 p.2 ne nf nch e n, free p.1 p.2 nch e n, ne, nf, d⟩
/-- .. where the frame's own object is kept too -/
theorem Inv.un {t' : Nat} (I : Inv X pins σ H s) (u : Un X.fs [] H H' s.heap h') (hok : HOk X.prog X.w H' h') : Inv X pins σ H' { s with heap := h', toks := t' } := by
  obtain ⟨m, ⟨o, es, ep, ho, r⟩, _⟩ := id I.loc
  obtain ⟨sl, hL⟩ := u.any ho I.free (by simp)
  exact I.step (g' := s.gens) (d' := s.drawn) (ch := []) (fun _ z => nomatch z) (fun b o _ hb _ e n => u.keep b o e n hb (by simp)) (fun b o _ hb _ e n => u.slot b o e n hb (by simp)) (fun b o _ e n => u.free b o e n (by simp)) (fun b o _ e => u.there b o e (by simp)) u.tups u.frzs u.tbls (fun m' hm => by
    obtain ⟨o', es', ep', ho', r'⟩ := hm
    rw [ho] at ho'; cases ho'
    exact ⟨_, es', ep', hL, r'⟩) hok I.bare
/-- behind a call (or a comprehension's block): the slots of this frame may have changed too, the records at ch may have turned -/
theorem Inv.call {g' : Array GenState} {t' : Nat} {d' : Drawn} {ch : List Addr} (I : Inv X pins σ H s) (u : Un (frs X.stack) ch H H' s.heap h') (hok : HOk X.prog X.w H' h') (hg : AllBare g')
    (hch : ∀ b ∈ ch, (b ∈ X.ex ∨ X.s₀.heap.objs.size ≤ b) ∧ b ≠ X.env.locals ∧ (∀ x c, X.env.cells.lookup x = some c → c ≠ b) ∧ ∀ p ∈ X.pn ++ pins, p.1 ≠ b) :
    Inv X pins σ H' { s with heap := h', gens := g', drawn := d', toks := t' } := by
  obtain ⟨m, ⟨o, es, ep, ho, r⟩, _⟩ := id I.loc
  obtain ⟨sl, hL⟩ := u.any ho I.free fun z => (hch _ z).2.1 rfl
  exact I.step (ch := ch) hch (fun b o hL hb hc e n => u.keep b o e n (fun z => (List.mem_cons.mp (I.stkSub b z)).elim hL hb) hc) (fun b o _ _ hc e n => u.any e n hc) (fun b o hc e n => u.free b o e n hc) (fun b o hc e => u.there b o e hc) u.tups u.frzs u.tbls (fun m' hm => by
    obtain ⟨o', es', ep', ho', r'⟩ := hm
    rw [ho] at ho'; cases ho'
    exact ⟨_, es', ep', hL, r'⟩) hok hg
/-- an untracked record of ours (an iterator) has turned -/
theorem Inv.turned {t' : Nat} {it : Addr} (I : Inv X pins σ H s) (k : ∀ b o, b ≠ it → s.heap.get? b = some o → h'.get? b = some o) (hn : H it = none) (hL : it ≠ X.env.locals)
    (h1 : it ∈ X.ex ∨ X.s₀.heap.objs.size ≤ it) (h2 : ∀ x c, X.env.cells.lookup x = some c → c ≠ it) (h3 : ∀ p ∈ X.pn ++ pins, p.1 ≠ it) : Inv X pins σ H { s with heap := h', toks := t' } := by
  have nit : ∀ b u, H b = some u → b ≠ it := fun b u e z => by rw [z, hn] at e; cases e
  refine I.step (g' := s.gens) (d' := s.drawn) (ch := [it]) (fun b hb => ?_) (fun b o _ _ hc e _ => k b o (fun z => hc (by simp [z])) e) (fun b o _ _ hc e _ => ⟨o.slots, k b o (fun z => hc (by simp [z])) e⟩) (fun _ _ _ _ n => n)
    (fun b o hc e => ⟨o, k b o (fun z => hc (by simp [z])) e⟩) (fun _ _ e => e) (fun _ _ _ e => e) (fun b ps e => ⟨#[], by rw [e]; simp⟩) (fun m hm => ?_) (fun b u e => ?_) I.bare
  · have e : b = it := by simpa using hb
    subst e
    exact ⟨h1, hL, h2, h3⟩
  · obtain ⟨o, es, ep, ho, r⟩ := hm
    exact ⟨o, es, ep, k _ o (Ne.symm hL) ho, r⟩
  · refine (I.hok b u e).stay (fun c v hc q => k c v ?_ q) (fun _ q => q) fun _ _ q => q
    rcases hc with z | z
    · rw [z]; exact nit b u e
    · exact nit c _ z
theorem Inv.tok (I : Inv X pins σ H s) (t : Nat) : Inv X pins σ H { s with toks := t } := I.un (h' := s.heap) (t' := t) Un.refl I.hok
/-- all objects kept -/
theorem Inv.kept {t' : Nat} (I : Inv X pins σ H s) (k : ∀ b u, s.heap.get? b = some u → h'.get? b = some u) : Inv X pins σ H { s with heap := h', toks := t' } := I.un (Un.kept k) (I.hok.kept k)
/-- a new object laid and tracked -/
theorem Inv.laid {a : Addr} {o : HO} {t' : Nat} (I : Inv X pins σ H s) (k : ∀ b u, s.heap.get? b = some u → h'.get? b = some u) (hp : s.heap.objs.size ≤ a) (new : ObjOk X.prog X.w (upd H a o) h' a o) :
    Inv X pins σ (upd H a o) { s with heap := h', toks := t' } := I.un (Un.laid k hp (I.hok.fresh hp)) (I.hok.laid k hp new)
/-- an object written -/
theorem Inv.write {x e : Addr} {o : HO} {t' : Nat} (I : Inv X pins σ H s) (mu : Mut (H x)) (he : e = x ∨ H e = some (.own x)) (k : ∀ b u, b ≠ e → s.heap.get? b = some u → h'.get? b = some u) (heo : ∃ u, h'.get? e = some u)
    (new : ObjOk X.prog X.w (upd H x o) h' x o) : Inv X pins σ (upd H x o) { s with heap := h', toks := t' } := I.un (Un.write mu he k heo) (I.hok.write mu he k heo new)
/-- forgetting slots, pins -/
theorem Inv.weak {σ' : List (Option V)} (I : Inv X pins σ H s) (hl : σ'.length = σ.length) (w : ∀ (i : Nat) v, σ'[i]? = some (some v) → σ[i]? = some (some v)) : Inv X pins σ' H s :=
  ⟨I.ok, I.os, I.bare, I.base, let ⟨m, hn, hl'⟩ := I.loc; ⟨m, hn, fun i x v e1 e2 e3 => hl' i x v e1 (w i v e2) e3⟩, I.cell, I.free, I.freeC, I.pin, I.hok, hl.trans I.len⟩
theorem Inv.pins_of {pins' : List (Addr × Obj)} (I : Inv X pins σ H s) (h : ∀ p ∈ pins', s.heap.get? p.1 = some p.2 ∧ H p.1 = none ∧ p.1 ≠ X.env.locals ∧ p.1 ∉ X.fs ∧ ∀ v, p.2.data ≠ .cell v) : Inv X pins' σ H s :=
  ⟨I.ok, I.os, I.bare, I.base, I.loc, I.cell, I.free, I.freeC, fun p hp => (List.mem_append.mp hp).elim (fun z => I.pin p (List.mem_append_left _ z)) (h p), I.hok, I.len⟩

theorem nodup_ix {N : List Str} (hN : N.Nodup) {i j : Nat} {x : Str} (a : N[i]? = some x) (b : N[j]? = some x) : i = j := by
  obtain ⟨h1, e1⟩ := List.getElem?_eq_some_iff.mp a
  obtain ⟨h2, e2⟩ := List.getElem?_eq_some_iff.mp b
  exact (List.getElem_inj hN).mp (e1.trans e2.symm)

/-- a name is stored; what changed -/
theorem store_ok2 {M : Model} {A : Around} {E : Value → Shared → Prop} {i : Nat} {x : Str} {v : V} {u : Value} {Q : Unit → Shared → Prop} (I : Inv X pins σ H s) (hN : X.N.Nodup) (hi : X.N[i]? = some x) (hx : Loc X.env.scope x) (r : RelV v u)
    (h : ∀ s', Inv X pins (σ.set i (some v)) H s' → (∃ a, Heap.SameBut a s.heap s'.heap ∧ (a = X.env.locals ∨ X.env.cells.lookup x = some a)) → Q () s') (hf : X.fn x = true ∨ X.env.scope.names.lookup x = some .local := by first | exact .inl rfl | exact .inr rfl | assumption) : wpAny M A (storeName X.env x u) Q E s := by
  obtain ⟨m, hn, hl⟩ := id I.loc
  have hcls : (X.env.scope.kind == .class || (X.env.scope.kind == .module && X.env.locals != X.env.globals)) = false := by rw [I.ok.kind]; rfl
  have hiσ : i < σ.length := by rw [I.len]; exact (List.getElem?_eq_some_iff.mp hi).1
  have cne := I.cne
  have tracked : ∀ {a : Addr} {h' : Heap}, (∃ o, s.heap.get? a = some o ∧ H a = none) → Heap.SameBut a s.heap h' → HOk X.prog X.w H h' := fun {a h'} ha hs b ob e => by
    obtain ⟨_, _, hfree⟩ := ha
    refine (I.hok b ob e).stay (fun c w' hc q => (hs.2 c ?_).trans q) (fun _ q => q) fun _ _ q => q
    rintro rfl
    rcases hc with rfl | hc
    · rw [hfree] at e; cases e
    · rw [hfree] at hc; cases hc
  rcases hx with hk | hk
  · refine wpAny_storeName_local hk hn (fun h' hn' hs => ?_) hcls
    obtain ⟨oL, _, _, hoL, _⟩ := id hn
    refine h _ ⟨I.ok, I.os, I.bare, ⟨fun b o e n hb hx => ?_, fun b o e n hb hx => ?_, I.base.free, fun b o e hx => ?_, I.base.tups, I.base.frzs, I.base.tbls⟩, ⟨_, hn', fun j y v' e1 e2 e3 => ?_⟩, fun y c e => ?_, I.free, I.freeC, fun p hp => ?_, tracked ⟨oL, hoL, I.free⟩ hs, by simpa using I.len⟩ ⟨_, hs, .inl rfl⟩
    · exact (hs.2 b (Nat.ne_of_lt (Nat.lt_of_lt_of_le (Heap.lt_size e) I.ok.above))).trans (I.base.keep b o e n hb hx)
    · obtain ⟨sl, e1⟩ := I.base.slot b o e n hb hx
      exact ⟨sl, (hs.2 b (Nat.ne_of_lt (Nat.lt_of_lt_of_le (Heap.lt_size e) I.ok.above))).trans e1⟩
    · obtain ⟨o', e1⟩ := I.base.there b o e hx
      exact ⟨o', (hs.2 b (Nat.ne_of_lt (Nat.lt_of_lt_of_le (Heap.lt_size e) I.ok.above))).trans e1⟩
    · by_cases hj : j = i
      · subst hj
        rw [hi] at e1; cases e1
        rw [List.getElem?_set_self hiσ] at e2
        cases e2
        exact ⟨u, r, .inl ⟨hk, by simp⟩⟩
      · rw [List.getElem?_set_ne (Ne.symm hj)] at e2
        obtain ⟨u', r', q⟩ := hl j y v' e1 e2 e3
        refine ⟨u', r', ?_⟩
        rcases q with ⟨k, e⟩ | ⟨k, c, e, z⟩
        · refine .inl ⟨k, ?_⟩
          have : y ≠ x := fun e => hj (nodup_ix hN e1 (e ▸ hi))
          simp [this, e]
        · exact .inr ⟨k, c, e, z.sameBut hs (cne y c e)⟩
    · obtain ⟨w', z⟩ := I.cell y c e
      exact ⟨w', z.sameBut hs (cne y c e)⟩
    · obtain ⟨e, n, ne, nf, d⟩ := I.pin p hp
      exact ⟨(hs.2 p.1 ne).trans e, n, ne, nf, d⟩
  · have hfn : X.fn x = true := by
      rcases hf with z | z
      · exact z
      · rw [z] at hk; cases hk
    obtain ⟨c, hc⟩ := I.ok.has x (.inl hk)
    obtain ⟨w', z⟩ := I.cell x c hc
    refine wpAny_storeName_cell I.ok.kind hk hc z (fun h' hc' hs => ?_)
    obtain ⟨oc, hoc, hocd⟩ := id z
    refine h { s with heap := h' } ⟨I.ok, I.os, I.bare, ⟨fun b o e n hb hx => ?_, fun b o e n hb hx => ?_, I.base.free, fun b o e hx => ?_, I.base.tups, I.base.frzs, I.base.tbls⟩, ⟨m, hn.sameBut hs (Ne.symm (cne x c hc)), fun j y v' e1 e2 e3 => ?_⟩, fun y c' e => ?_, I.free, I.freeC, fun p hp => ?_, tracked ⟨oc, hoc, I.freeC x c hc⟩ hs, by simpa using I.len⟩ ⟨c, hs, .inr hc⟩
    · exact (hs.2 b (Nat.ne_of_lt (Nat.lt_of_lt_of_le (Heap.lt_size e) (I.ok.cab x c hfn hc)))).trans (I.base.keep b o e n hb hx)
    · obtain ⟨sl, e1⟩ := I.base.slot b o e n hb hx
      exact ⟨sl, (hs.2 b (Nat.ne_of_lt (Nat.lt_of_lt_of_le (Heap.lt_size e) (I.ok.cab x c hfn hc)))).trans e1⟩
    · obtain ⟨o', e1⟩ := I.base.there b o e hx
      exact ⟨o', (hs.2 b (Nat.ne_of_lt (Nat.lt_of_lt_of_le (Heap.lt_size e) (I.ok.cab x c hfn hc)))).trans e1⟩
    · by_cases hj : j = i
      · subst hj
        rw [hi] at e1; cases e1
        rw [List.getElem?_set_self hiσ] at e2
        cases e2
        exact ⟨u, r, .inr ⟨.inl hk, c, hc, hc'⟩⟩
      · rw [List.getElem?_set_ne (Ne.symm hj)] at e2
        obtain ⟨u', r', q⟩ := hl j y v' e1 e2 e3
        refine ⟨u', r', ?_⟩
        rcases q with q | ⟨k, c', e, z'⟩
        · exact .inl q
        · refine .inr ⟨k, c', e, z'.sameBut hs ?_⟩
          rintro rfl
          exact hj (nodup_ix hN e1 (I.ok.inj _ _ _ e hc ▸ hi))
    · by_cases hcc : c' = c
      · subst hcc; exact ⟨_, hc'⟩
      · obtain ⟨w2, z2⟩ := I.cell y c' e
        exact ⟨w2, z2.sameBut hs hcc⟩
    · obtain ⟨e, n, ne, nf, d⟩ := I.pin p hp
      refine ⟨(hs.2 p.1 ?_).trans e, n, ne, nf, d⟩
      intro q
      rw [q, hoc] at e
      have q' : oc = p.2 := Option.some.inj e
      exact d w' (by rw [← q']; exact hocd)
theorem store_ok {M : Model} {A : Around} {E : Value → Shared → Prop} {i : Nat} {x : Str} {v : V} {u : Value} {Q : Unit → Shared → Prop} (I : Inv X pins σ H s) (hN : X.N.Nodup) (hi : X.N[i]? = some x) (hx : Loc X.env.scope x) (r : RelV v u)
    (h : ∀ s', Inv X pins (σ.set i (some v)) H s' → Q () s') (hf : X.fn x = true ∨ X.env.scope.names.lookup x = some .local := by first | exact .inl rfl | exact .inr rfl | assumption) : wpAny M A (storeName X.env x u) Q E s :=
  store_ok2 I hN hi hx r (fun s' I' _ => h s' I') hf
/-- behind a call or a block, the state as it is -/
theorem Inv.call' {s' : Shared} {ch : List Addr} (I : Inv X pins σ H s) (ho : s'.os = s.os) (u : Un (frs X.stack) ch H H' s.heap s'.heap) (hok : HOk X.prog X.w H' s'.heap) (hg : AllBare s'.gens)
    (hch : ∀ b ∈ ch, (b ∈ X.ex ∨ X.s₀.heap.objs.size ≤ b) ∧ b ≠ X.env.locals ∧ (∀ x c, X.env.cells.lookup x = some c → c ≠ b) ∧ ∀ p ∈ X.pn ++ pins, p.1 ≠ b) : Inv X pins σ H' s' := by
  obtain ⟨h', g', d', t', o'⟩ := s'
  have e : o' = s.os := ho
  subst e
  exact I.call (g' := g') (t' := t') (d' := d') u hok hg hch
end

/-! ### the judgements -/
/-- an exception: its class, its own dict's address (where it has one), the abstract heap behind it -/
abbrev XK := Value → Option Addr → Hp → Prop
abbrev St := List (Option V)
abbrev VK := V → Hp → Prop
/-- an expression's reading; a test's; an argument list's -/
abbrev TE := St → Hp → VK → Prop
abbrev TT := St → Hp → (Bool → Hp → Prop) → Prop
abbrev TA := St → Hp → (List V → Hp → Prop) → Prop
/-- what is wanted behind a statement -/
structure Ends where
  nx : St → Hp → Prop
  rt : VK
  bk : St → Hp → Prop := fun _ _ => False
  ct : St → Hp → Prop := fun _ _ => False
abbrev TS := Ends → St → Hp → Prop

def EP (X : Cx) (pins : List (Addr × Obj)) (σ : St) (Q : VK) (u : Value) (s' : Shared) : Prop := ∃ v H', Inv X pins σ H' s' ∧ RelV v u ∧ Q v H'
def TP (X : Cx) (pins : List (Addr × Obj)) (σ : St) (Q : Bool → Hp → Prop) (b : Bool) (s' : Shared) : Prop := ∃ H', Inv X pins σ H' s' ∧ Q b H'
def AP (X : Cx) (pins : List (Addr × Obj)) (σ : St) (Q : List V → Hp → Prop) (us : List Value) (s' : Shared) : Prop := ∃ vs H', Inv X pins σ H' s' ∧ Vals vs us ∧ Q vs H'
def SP (X : Cx) (pins : List (Addr × Obj)) (D : Ends) (f : Flow) (s' : Shared) : Prop :=
  match f with
  | .next => ∃ σ' H', Inv X pins σ' H' s' ∧ D.nx σ' H'
  | .brk => ∃ σ' H', Inv X pins σ' H' s' ∧ D.bk σ' H'
  | .cont => ∃ σ' H', Inv X pins σ' H' s' ∧ D.ct σ' H'
  | .ret u => ∃ v σ' H', Inv X pins σ' H' s' ∧ RelV v u ∧ D.rt v H'

def PE (X : Cx) (e : Expr) (t : TE) : Prop :=
  ∀ (pins : List (Addr × Obj)) (s : Shared) (σ : St) (H : Hp) (Q : VK), Inv X pins σ H s → t σ H Q → wpAny (model X.prog X.w) X.A (eval e X.env) (EP X pins σ Q) X.xe s
def PT (X : Cx) (e : Expr) (t : TT) : Prop :=
  ∀ (pins : List (Addr × Obj)) (s : Shared) (σ : St) (H : Hp) (Q : Bool → Hp → Prop), Inv X pins σ H s → t σ H Q → wpAny (model X.prog X.w) X.A (isTrue e X.env (eval e X.env)) (TP X pins σ Q) X.xe s
/-- a test whatever its 'whole' is (and, or) -/
def PW (X : Cx) (e : Expr) (t : TT) : Prop :=
  ∀ (whole : Sem Value) (pins : List (Addr × Obj)) (s : Shared) (σ : St) (H : Hp) (Q : Bool → Hp → Prop), Inv X pins σ H s → t σ H Q → wpAny (model X.prog X.w) X.A (isTrue e X.env whole) (TP X pins σ Q) X.xe s
theorem PW.pt {X : Cx} {e : Expr} {t : TT} (h : PW X e t) : PT X e t := h _
/-- an argument list (no star), from the left -/
def PA (X : Cx) (es : List Expr) (t : TA) : Prop :=
  ∀ (pos : Pos) (pins : List (Addr × Obj)) (s : Shared) (σ : St) (H : Hp) (Q : List V → Hp → Prop), Inv X pins σ H s → t σ H Q → wpAny (model X.prog X.w) X.A (spliced (backTo pos (starEach es X.env))) (AP X pins σ Q) X.xe s
def PS (X : Cx) (st : Stmt) (t : TS) : Prop :=
  ∀ (pins : List (Addr × Obj)) (s : Shared) (σ : St) (H : Hp) (D : Ends), Inv X pins σ H s → t D σ H → wpAny (model X.prog X.w) X.A (exec st X.env) (SP X pins D) X.xe s
def PSs (X : Cx) (st : List Stmt) (t : TS) : Prop :=
  ∀ (pins : List (Addr × Obj)) (s : Shared) (σ : St) (H : Hp) (D : Ends), Inv X pins σ H s → t D σ H → wpAny (model X.prog X.w) X.A (execs st X.env) (SP X pins D) X.xe s
/-- weaken the end -/
theorem thn {α : Type} {t : Sem α} {Q Q' : α → Shared → Prop} {M : Model} {A : Around} {E : Value → Shared → Prop} {s : Shared} (h : wpAny M A t Q E s) (hQ : ∀ a s, Q a s → Q' a s) : wpAny M A t Q' E s := wpAny_mono h hQ fun _ _ x => x
end L2

namespace L2
open PySem PySem.Spec PyProof.Rows
section
variable {X : Cx}

/-! ### names and constants -/
def tVar (i : Nat) : TE := fun σ H Q => ∃ v, σ[i]? = some (some v) ∧ Q v H
def tC (v : V) : TE := fun _ H Q => Q v H
theorem pe_var {i : Nat} {x : Str} {pos : Pos} (hN : X.N[i]? = some x) (hv : Vis X.env.scope x) (hd : (x == ("__debug__" : Str)) = false := by decide) (hcd : (x == ("__classdict__" : Str)) = false := by decide) : PE X (.Name x pos) (tVar i) := by
  intro pins s σ H Q I h
  obtain ⟨v, e, h⟩ := h
  obtain ⟨m, hn, hl⟩ := I.loc
  obtain ⟨u, r, l⟩ := hl i x v hN e hv
  have fin : EP X pins σ Q u s := ⟨v, H, I, r, h⟩
  rcases l with ⟨hk, hm⟩ | ⟨hk, c, hc, hcell⟩
  · exact wpAny_Name (wpAny_loadName_local I.ok.kind hk hn hm fin) hd
  · rcases hk with hk | hk
    · exact wpAny_Name (wpAny_loadName_cell I.ok.kind hk hc hcell fin) hd
    · exact wpAny_Name (wpAny_loadName_free I.ok.kind hk hc hcell fin hcd) hd
theorem pe_int {i j pos} : PE X (.Constant (.int i) j pos) (tC (.int i)) := fun _ _ _ H _ I h => wpAny_Constant_int ⟨.int i, H, I.tok _, ⟨_, rfl⟩, h⟩
theorem pe_bl {b j pos} : PE X (.Constant (.bool b) j pos) (tC (.bl b)) := fun _ _ _ H _ I h => Constant_bool ⟨.bl b, H, I, rfl, h⟩
theorem pe_non {j pos} : PE X (.Constant .none j pos) (tC .non) := fun _ _ _ H _ I h => Constant_none ⟨.non, H, I, rfl, h⟩
theorem pe_str {x j pos} : PE X (.Constant (.str x) j pos) (tC (.str x)) := fun _ _ _ H _ I h => Calls.Constant_str ⟨.str x, H, I.tok _, ⟨_, rfl⟩, h⟩

/-- a global name of the def -/
def Gl (X : Cx) (x : Str) : Prop := X.env.kindOf x = some .globalImplicit
theorem ld_glob {E : Value → Shared → Prop} {pins : List (Addr × Obj)} {s : Shared} {σ : St} {H : Hp} {x : Str} {u : Value} {pos : Pos} {Q : Value → Shared → Prop} (I : Inv X pins σ H s) (hg : Gl X x) (hm : X.mg x = some u) (h : Q u s)
    (hd : (x == ("__debug__" : Str)) = false := by decide) : wpAny (model X.prog X.w) X.A (eval (.Name x pos) X.env) Q E s :=
  Calls.Name_function_global I.ok.kind hg (Calls.loadGlobal_global (by rw [I.ok.glob]; exact I.mod.glob.keeps I.bk) hm h) hd
theorem ld_blt {E : Value → Shared → Prop} {pins : List (Addr × Obj)} {s : Shared} {σ : St} {H : Hp} {x : Str} {u : Value} {pos : Pos} {Q : Value → Shared → Prop} (I : Inv X pins σ H s) (hg : Gl X x) (hm : X.mg x = none) (hv : bootBuiltins x = some u) (h : Q u s)
    (hn : x ≠ "__name__" := by decide) (hd : (x == ("__debug__" : Str)) = false := by decide) : wpAny (model X.prog X.w) X.A (eval (.Name x pos) X.env) Q E s := by
  obtain ⟨mb, h1, h2⟩ := I.mod.blt
  exact Calls.Name_function_global I.ok.kind hg (Calls.loadGlobal_builtin (by rw [I.ok.glob]; exact I.mod.glob.keeps I.bk) hm (by rw [I.ok.blt]; exact h1.keeps I.bk) ((h2 x hn).trans hv) h) hd
/-- a module's constant, a class, a function, as a value -/
theorem pe_glob {x : Str} {v : V} {u : Value} {pos : Pos} (hg : Gl X x) (hm : X.mg x = some u) (r : RelV v u) (hd : (x == ("__debug__" : Str)) = false := by decide) : PE X (.Name x pos) (tC v) :=
  fun _ _ _ H _ I h => ld_glob I hg hm ⟨v, H, I, r, h⟩ hd
/-! ### arithmetic -/
variable {a b : Expr} {ta tb : TE} {pos : Pos}
/-! ### comparisons -/
def PC (X : Cx) (op : CmpOp) (a b : Expr) (t : TE) : Prop :=
  ∀ (pins : List (Addr × Obj)) (s : Shared) (σ : St) (H : Hp) (Q : VK), Inv X pins σ H s → t σ H Q →
    wpAny (model X.prog X.w) X.A (eval a X.env) (fun v s₁ => wpAny (model X.prog X.w) X.A (eval b X.env) (fun u s₂ => wpAny (model X.prog X.w) X.A (compareOp op v u) (EP X pins σ Q) X.xe s₂) X.xe s₁) X.xe s
/-- a comparison as a value, as a test -/
def tB (t : TE) : TT := fun σ H Q => t σ H fun x H1 => ∃ c, x = .bl c ∧ Q c H1
theorem pt_cmp {op : CmpOp} {t : TE} (h : PC X op a b t) (h1 : behindInMarks op b = false := by first | exact nobehind _ (by decide) (by decide) | rfl) : PT X (.Compare a [op] [b] pos) (tB t) := by
  intro pins s σ H Q I hw
  refine wpAny_isTrue_Compare1 (thn (h pins s σ H _ I hw) fun v s1 h1 => thn h1 fun u s2 h2 => thn h2 fun c s3 ⟨x, H1, I1, r1, q1⟩ => ?_) h1
  obtain ⟨d, rfl, q⟩ := q1
  cases r1
  exact wpAny_truthy_bool ⟨H1, I1, q⟩
/-- an expression whose value is a bool, as a test -/
theorem pt_val {e : Expr} {t : TE} (h : PE X e t) (he : ∀ whole, isTrue e X.env whole = (do let v ← whole; standAt e.pos; holding [v] (truthy v)) := by intro _; rfl) : PT X e (tB t) := by
  intro pins s σ H Q I hw
  refine isTrue_plain (thn (h pins s σ H _ I hw) fun v s1 ⟨x, H1, I1, r1, q1⟩ => ?_) (he _)
  obtain ⟨d, rfl, q⟩ := q1
  cases r1
  exact wpAny_truthy_bool ⟨H1, I1, q⟩

/-! ### and, or, not -/
variable {tA tB' : TT} {rest : List Expr}
def tAnd (t u : TT) : TT := fun σ H Q => t σ H fun c H1 => if c = true then u σ H1 Q else Q false H1
def tOr (t u : TT) : TT := fun σ H Q => t σ H fun c H1 => if c = true then Q true H1 else u σ H1 Q
def tNot (t : TT) : TT := fun σ H Q => t σ H fun c H1 => Q (!c) H1
theorem pw_and1 (ha : PT X a tA) : PW X (.BoolOp .And [a] pos) tA := by
  intro wh pins s σ H Q I h
  refine isTrue_and (thn (ha pins s σ H Q I h) fun c s1 e => ?_)
  cases c with
  | true => exact isTrue_and_nil e
  | false => exact e
theorem pw_or1 (ha : PT X a tA) : PW X (.BoolOp .Or [a] pos) tA := by
  intro wh pins s σ H Q I h
  refine isTrue_or (thn (ha pins s σ H Q I h) fun c s1 e => ?_)
  cases c with
  | false => exact isTrue_or_nil e
  | true => exact e
theorem pw_and (ha : PT X a tA) (hb : PW X (.BoolOp .And (b :: rest) pos) tB') : PW X (.BoolOp .And (a :: b :: rest) pos) (tAnd tA tB') := by
  intro wh pins s σ H Q I h
  refine isTrue_and (thn (ha pins s σ H _ I h) fun c s1 ⟨H1, I1, q1⟩ => ?_)
  cases c with
  | true => exact hb wh pins s1 σ H1 Q I1 q1
  | false => exact ⟨H1, I1, q1⟩
theorem pw_or (ha : PT X a tA) (hb : PW X (.BoolOp .Or (b :: rest) pos) tB') : PW X (.BoolOp .Or (a :: b :: rest) pos) (tOr tA tB') := by
  intro wh pins s σ H Q I h
  refine isTrue_or (thn (ha pins s σ H _ I h) fun c s1 ⟨H1, I1, q1⟩ => ?_)
  cases c with
  | true => exact ⟨H1, I1, q1⟩
  | false => exact hb wh pins s1 σ H1 Q I1 q1
theorem pt_not (ha : PT X a tA) : PT X (.UnaryOp .Not a pos) (tNot tA) := by
  intro pins s σ H Q I h
  exact isTrue_not (ha pins s σ H (fun c H1 => Q (!c) H1) I h)
/-- .. as values (bools) -/
def tAndV (ta tb : TE) : TE := fun σ H Q => ta σ H fun x H1 => ∃ c, x = .bl c ∧ if c = true then tb σ H1 Q else Q (.bl false) H1
def tOrV (ta tb : TE) : TE := fun σ H Q => ta σ H fun x H1 => ∃ c, x = .bl c ∧ if c = true then Q (.bl true) H1 else tb σ H1 Q
theorem pe_one {op} {t : TE} (h : PE X a t) : PE X (.BoolOp op [a] pos) t := fun pins s σ H Q I hw => BoolOp_one (h pins s σ H Q I hw)
theorem pe_and (ha : PE X a ta) (hb : PE X (.BoolOp .And (b :: rest) pos) tb) : PE X (.BoolOp .And (a :: b :: rest) pos) (tAndV ta tb) := by
  intro pins s σ H Q I h
  refine BoolOp_and (thn (ha pins s σ H _ I h) fun v s1 ⟨x, H1, I1, r1, q1⟩ => ?_)
  obtain ⟨c, rfl, q1⟩ := q1
  cases r1
  refine wpAny_truthy_bool ?_
  cases c with
  | true => exact hb pins s1 σ H1 Q I1 q1
  | false => exact ⟨.bl false, H1, I1, rfl, q1⟩
theorem pe_or (ha : PE X a ta) (hb : PE X (.BoolOp .Or (b :: rest) pos) tb) : PE X (.BoolOp .Or (a :: b :: rest) pos) (tOrV ta tb) := by
  intro pins s σ H Q I h
  refine BoolOp_or (thn (ha pins s σ H _ I h) fun v s1 ⟨x, H1, I1, r1, q1⟩ => ?_)
  obtain ⟨c, rfl, q1⟩ := q1
  cases r1
  refine wpAny_truthy_bool ?_
  cases c with
  | false => exact hb pins s1 σ H1 Q I1 q1
  | true => exact ⟨.bl true, H1, I1, rfl, q1⟩
end
end L2

namespace L2
open PySem PySem.Spec PyProof.Rows

/-! ### a list, a tuple that is read: tracked, frozen, or an object of the module -/
def SqL (K : PySem.W.Frag) (H : Hp) (a : Addr) (xs : List V) : Prop :=
  Rd H a (.lst xs) ∨
    ∃ (o : Obj) (its : Array Value) (n : Nat), K.lookup a = some o ∧ o.cls = .type "list" ∧ o.dict = none ∧ o.data = .seq its n ∧ its.size ≤ sizeLine ∧ Vals xs its.toList
def SqT (K : PySem.W.Frag) (H : Hp) (a : Addr) (xs : List V) : Prop :=
  Rd H a (.tup xs) ∨
    ∃ (o : Obj) (its : Array Value) (n : Nat), K.lookup a = some o ∧ o.cls = .type "tuple" ∧ o.data = .seq its n ∧ its.size ≤ sizeLine ∧ Vals xs its.toList
def absV : Value → Option V
  | .none => some .non
  | .bool b => some (.bl b)
  | .int i _ => some (.int i)
  | .str x _ => some (.str x)
  | .bytes b _ => some (.byt b)
  | .float b _ => some (.flt b)
  | .ref a => some (.ref a)
  | .type n => some (.ty n)
  | _ => none
theorem RelV.abs {x : V} {u : Value} (r : RelV x u) : absV u = some x := by
  cases x with
  | non => cases r; rfl
  | bl _ => cases r; rfl
  | int _ => obtain ⟨t, rfl⟩ := r; rfl
  | str _ => obtain ⟨t, rfl⟩ := r; rfl
  | byt _ => obtain ⟨t, rfl⟩ := r; rfl
  | flt _ => obtain ⟨t, rfl⟩ := r; rfl
  | ref _ => cases r; rfl
  | ty _ => cases r; rfl
theorem RelV.inj {x y : V} {u : Value} (r : RelV x u) (q : RelV y u) : x = y := Option.some.inj (r.abs.symm.trans q.abs)
theorem Vals.inj : ∀ {xs ys : List V} {us : List Value}, Vals xs us → Vals ys us → xs = ys
  | _, _, _, .nil, .nil => rfl
  | _, _, _, .cons r t, .cons r' t' => by rw [r.inj r', Vals.inj t t']
section
variable {X : Cx} {pins : List (Addr × Obj)} {σ : St} {H : Hp} {s : Shared} {a : Addr} {xs ys : List V}
theorem SqL.of {K : PySem.W.Frag} (h : H a = some (.lst xs)) : SqL K H a xs := .inl (.inl h)
theorem SqT.of {K : PySem.W.Frag} (h : H a = some (.tup xs)) : SqT K H a xs := .inl (.inl h)
theorem Inv.list (I : Inv X pins σ H s) (h : SqL X.K H a xs) : ∃ its : List Value, Vals xs its ∧ PlainL s.heap a its.toArray ∧ xs.length ≤ sizeLine := by
  rcases h with h | ⟨o, its, n, hk, hc, hd, hs, hz, r⟩
  · obtain ⟨z, its, n, r, e⟩ := h.ok I.hok
    exact ⟨its, r, ⟨_, n, e, rfl, rfl, rfl⟩, z⟩
  · refine ⟨its.toList, r, ⟨o, n, I.kIn a o hk, hc, hd, by simpa using hs⟩, ?_⟩
    have e := r.length
    simp only [Array.length_toList] at e
    omega
theorem Inv.tuple (I : Inv X pins σ H s) (h : SqT X.K H a xs) : ∃ its : List Value, Vals xs its ∧ IsTup s.heap a its.toArray ∧ xs.length ≤ sizeLine := by
  rcases h with h | ⟨o, its, n, hk, hc, hs, hz, r⟩
  · obtain ⟨z, its, r, p⟩ := h.ok I.hok
    exact ⟨its, r, p, z⟩
  · refine ⟨its.toList, r, ⟨o, I.kIn a o hk, hc, n, by simpa using hs⟩, ?_⟩
    have e := r.length
    simp only [Array.length_toList] at e
    omega
theorem Inv.list_inj (I : Inv X pins σ H s) (h : SqL X.K H a xs) (h' : SqL X.K H a ys) : xs = ys := by
  obtain ⟨its, r, ⟨o, n, e, _, _, d⟩, _⟩ := I.list h
  obtain ⟨its', r', ⟨o', n', e', _, _, d'⟩, _⟩ := I.list h'
  rw [e] at e'; cases e'
  rw [d] at d'
  injection d' with d1 _
  have : its = its' := by simpa using congrArg Array.toList d1
  subst this
  exact r.inj r'
theorem Inv.tuple_inj (I : Inv X pins σ H s) (h : SqT X.K H a xs) (h' : SqT X.K H a ys) : xs = ys := by
  obtain ⟨its, r, ⟨o, e, _, n, d⟩, _⟩ := I.tuple h
  obtain ⟨its', r', ⟨o', e', _, n', d'⟩, _⟩ := I.tuple h'
  rw [e] at e'; cases e'
  rw [d] at d'
  injection d' with d1 _
  have : its = its' := by simpa using congrArg Array.toList d1
  subst this
  exact r.inj r'
end

/-! ### another wish about exceptions -/
abbrev Cx.wish (X : Cx) (E : Value → Shared → Prop) : Cx := { X with xe := E }
/-- no exception leaves -/
abbrev Cx.nox (X : Cx) : Cx := X.wish fun _ _ => False
theorem Cx.Ok.wish {X : Cx} (ok : X.Ok) (E : Value → Shared → Prop) : (X.wish E).Ok :=
  ⟨ok.mod, ok.kind, ok.glob, ok.blt, ok.above, ok.inj, ok.has, ok.cab, ok.hd, ok.frames, ok.stk, ok.exf, ok.bs, ok.bsz, ok.noex, ok.exfs, ok.funs, ok.frf⟩
theorem Cx.Ok.unwish {X : Cx} {E : Value → Shared → Prop} (ok : (X.wish E).Ok) : X.Ok :=
  ⟨ok.mod, ok.kind, ok.glob, ok.blt, ok.above, ok.inj, ok.has, ok.cab, ok.hd, ok.frames, ok.stk, ok.exf, ok.bs, ok.bsz, ok.noex, ok.exfs, ok.funs, ok.frf⟩
section
variable {X : Cx} {pins : List (Addr × Obj)} {σ : St} {H : Hp} {s : Shared} {E : Value → Shared → Prop}
theorem Inv.wish (I : Inv X pins σ H s) (E : Value → Shared → Prop) : Inv (X.wish E) pins σ H s := ⟨I.ok.wish E, I.os, I.bare, I.base, I.loc, I.cell, I.free, I.freeC, I.pin, I.hok, I.len⟩
theorem Inv.unwish (I : Inv (X.wish E) pins σ H s) : Inv X pins σ H s := ⟨I.ok.unwish, I.os, I.bare, I.base, I.loc, I.cell, I.free, I.freeC, I.pin, I.hok, I.len⟩
theorem SP.unwish {D : Ends} {f : Flow} {s' : Shared} (h : SP (X.wish E) pins D f s') : SP X pins D f s' := by
  cases f with
  | next => obtain ⟨σ', H', I, q⟩ := h; exact ⟨σ', H', I.unwish, q⟩
  | brk => obtain ⟨σ', H', I, q⟩ := h; exact ⟨σ', H', I.unwish, q⟩
  | cont => obtain ⟨σ', H', I, q⟩ := h; exact ⟨σ', H', I.unwish, q⟩
  | ret u => obtain ⟨v, σ', H', I, r, q⟩ := h; exact ⟨v, σ', H', I.unwish, r, q⟩
theorem PSs.nox {st : List Stmt} {t : TS} (h : PSs X.nox st t) : PSs X st t := fun pins s σ H D I hw =>
  wpAny_mono (h pins s σ H D (I.wish _) hw) (fun _ _ q => q.unwish) fun _ _ z => False.elim z
end

/-! ### blocks and small statements -/
section
variable {X : Cx} {st : Stmt} {rest : List Stmt} {t u : TS} {e : Expr} {te : TE} {pos : Pos}
def tNext : TS := fun D σ H => D.nx σ H
def tSeq (t u : TS) : TS := fun D σ H => t { D with nx := u D } σ H
theorem pss_nil : PSs X [] tNext := fun _ _ σ H _ I h => wpAny_execs_nil ⟨σ, H, I, h⟩
theorem pss_cons (h1 : PS X st t) (h2 : PSs X rest u) : PSs X (st :: rest) (tSeq t u) := by
  intro pins s σ H D I h
  refine wpAny_execs_cons (thn (h1 pins s σ H { D with nx := u D } I h) fun f s1 q => ?_)
  cases f with
  | next =>
    obtain ⟨σ', H', I', q⟩ := q
    exact h2 pins s1 σ' H' D I' q
  | ret v => exact q
  | brk => exact q
  | cont => exact q
theorem pss_one (h1 : PS X st t) : PSs X [st] t := by
  intro pins s σ H D I h
  refine wpAny_execs_cons (thn (h1 pins s σ H D I h) fun f s1 q => ?_)
  cases f with
  | next => exact wpAny_execs_nil q
  | ret v => exact q
  | brk => exact q
  | cont => exact q
/-- in a def's body nothing is shown -/
theorem Inv.quiet {pins : List (Addr × Obj)} {σ : St} {H : Hp} {s : Shared} (I : Inv X pins σ H s) : interactive X.env = false := by simp [interactive, I.ok.kind]
/-- an expression whose value is dropped -/
def tDrop (te : TE) : TS := fun D σ H => te σ H fun _ H1 => D.nx σ H1
theorem ps_expr (he : PE X e te) (hs : swapsWith e none pos.line X.env = pure false := by rfl) : PS X (.Expr e pos) (tDrop te) := by
  intro pins s σ H D I h
  exact wpAny_Expr_any (thn (he pins s σ H _ I h) fun v s1 ⟨x, H1, I1, r1, q1⟩ => ⟨σ, H1, I1, q1⟩) I.quiet hs
def tRet (te : TE) : TS := fun D σ H => te σ H D.rt
theorem ps_ret (he : PE X e te) : PS X (.Return (some e) pos) (tRet te) := by
  intro pins s σ H D I h
  exact wpAny_Return_some (thn (he pins s σ H _ I h) fun v s1 ⟨x, H1, I1, r1, q1⟩ => ⟨x, σ, H1, I1, r1, q1⟩)
def tIfS (c : TT) (t u : TS) : TS := fun D σ H => c σ H fun b H1 => if b = true then t D σ H1 else u D σ H1
theorem ps_if {c : Expr} {a b : List Stmt} {tc : TT} (hc : PT X c tc) (ha : PSs X a t) (hb : PSs X b u) : PS X (.If c a b pos) (tIfS tc t u) := by
  intro pins s σ H D I h
  refine wpAny_If (thn (hc pins s σ H _ I h) fun d s1 ⟨H1, I1, q1⟩ => ?_)
  cases d with
  | true => exact ha pins s1 σ H1 D I1 q1
  | false => exact hb pins s1 σ H1 D I1 q1
end

/-! ### targets -/
abbrev TG := V → St → Hp → (St → Hp → Prop) → Prop
abbrev TGs := List V → St → Hp → (St → Hp → Prop) → Prop
def PG (X : Cx) (target : Expr) (t : TG) : Prop :=
  ∀ (pins : List (Addr × Obj)) (s : Shared) (σ : St) (H : Hp) (v : V) (u : Value) (Q : St → Hp → Prop), Inv X pins σ H s → RelV v u → t v σ H Q →
    wpAny (model X.prog X.w) X.A (assign target X.env u) (fun _ s' => ∃ σ' H', Inv X pins σ' H' s' ∧ Q σ' H') X.xe s
/-- several targets, one after another -/
def PGs (X : Cx) (ts : List Expr) (t : TGs) : Prop :=
  ∀ (pins : List (Addr × Obj)) (s : Shared) (σ : St) (H : Hp) (vs : List V) (us : List Value) (Q : St → Hp → Prop), Inv X pins σ H s → Vals vs us → t vs σ H Q →
    wpAny (model X.prog X.w) X.A (assignInOrder ((assignEach ts X.env).map (·.2)) us) (fun _ s' => ∃ σ' H', Inv X pins σ' H' s' ∧ Q σ' H') X.xe s
/-- o[i] = v, by values -/
abbrev TSet := V → V → V → Hp → (Hp → Prop) → Prop
def PSet (X : Cx) (t : TSet) : Prop :=
  ∀ (pins : List (Addr × Obj)) (s : Shared) (σ : St) (H : Hp) (o i v : V) (ov iv u : Value) (Q : Hp → Prop), Inv X pins σ H s → RelV o ov → RelV i iv → RelV v u → t o i v H Q →
    wpAny (model X.prog X.w) X.A (setItem ov iv u) (fun _ s' => ∃ H', Inv X pins σ H' s' ∧ Q H') X.xe s
section
variable {X : Cx} {pos : Pos}
def gName (i : Nat) : TG := fun v σ H Q => Q (σ.set i (some v)) H
theorem pg_name {i : Nat} {x : Str} (hN : X.N.Nodup) (hi : X.N[i]? = some x) (hx : Loc X.env.scope x) (hf : X.fn x = true ∨ X.env.scope.names.lookup x = some .local := by first | exact .inl rfl | exact .inr rfl | assumption) : PG X (.Name x pos) (gName i) := by
  intro pins s σ H v u Q I r h
  exact wpAny_assign_Name (store_ok I hN hi hx r (fun s' I' => ⟨_, H, I', h⟩) hf)
def gNil : TGs := fun vs σ H Q => vs = [] ∧ Q σ H
def gCons (t : TG) (u : TGs) : TGs := fun vs σ H Q => ∃ v r, vs = v :: r ∧ t v σ H fun σ' H' => u r σ' H' Q
theorem pgs_nil : PGs X [] gNil := by
  intro pins s σ H vs us Q I r h
  obtain ⟨e, h⟩ := h
  subst e
  cases r
  exact assignInOrder_nil ⟨σ, H, I, h⟩
theorem pgs_cons {e : Expr} {es : List Expr} {t : TG} {u : TGs} (h1 : PG X e t) (h2 : PGs X es u)
    (hs : (assignEach (e :: es) X.env).map (·.2) = assign e X.env :: (assignEach es X.env).map (·.2) := by rfl) : PGs X (e :: es) (gCons t u) := by
  intro pins s σ H vs us Q I r h
  obtain ⟨v, vr, e1, h⟩ := h
  subst e1
  cases r with
  | cons r rr =>
    rw [hs]
    refine assignInOrder_cons (thn (h1 pins s σ H _ _ _ I r h) fun _ s1 ⟨σ1, H1, I1, q1⟩ => ?_)
    exact h2 pins s1 σ1 H1 _ _ Q I1 rr q1
/-- (a, b, ..) = a tuple of that length -/
def gTup (K : PySem.W.Frag) (n : Nat) (t : TGs) : TG := fun v σ H Q => ∃ a xs, v = .ref a ∧ SqT K H a xs ∧ xs.length = n ∧ t xs σ H Q
theorem pg_tup {es : List Expr} {k : Nat} {t : TGs} {n : Nat} (hc : X.calm = true) (h : PGs X es t)
    (hn : (assignEach es X.env).length = n := by rfl) (hst : (assignEach es X.env).findIdx? (·.1) = none := by rfl) : PG X (.Tuple es k pos) (gTup X.K n t) := by
  intro pins s σ H v u Q I r hw
  obtain ⟨a, xs, e1, hq, hl, hw⟩ := hw
  subst e1
  cases r
  obtain ⟨its, rv, ht, hz⟩ := I.tuple hq
  refine assign_Tuple_tuple (I.ok.hd hc) ht (by simp [hn, ← hl, rv.length]) hst fun h' hx => ?_
  have I1 : Inv X pins σ H { s with heap := h' } := I.kept (t' := s.toks) fun b o e => hx b o (Nat.ne_of_lt (Heap.lt_size e)) e
  exact h pins _ σ H xs _ Q I1 (by simpa using rv) hw
/-- o[i] = .. -/
def gSub (to ti : TE) (t : TSet) : TG := fun v σ H Q => to σ H fun o H1 => ti σ H1 fun i H2 => t o i v H2 fun H3 => Q σ H3
theorem pg_sub {o i : Expr} {to ti : TE} {t : TSet} (ho : PE X o to) (hi : PE X i ti) (hs : PSet X t)
    (ha : ∀ v, assign (.Subscript o i pos) X.env v = (do
      let ov ← holding [v] (eval o X.env)
      let iv ← holding [v, ov] (eval i X.env)
      standAt pos
      holding [v, ov, iv] (setItem ov iv v)
      release [v, ov, iv] []) := by intro _; rfl) : PG X (.Subscript o i pos) (gSub to ti t) := by
  intro pins s σ H v u Q I r h
  rw [ha]
  refine wpAny_bind (wpAny_holding (thn (ho pins s σ H _ I h) fun ov s1 ⟨x, H1, I1, r1, q1⟩ => ?_))
  refine wpAny_bind (wpAny_holding (thn (hi pins s1 σ H1 _ I1 q1) fun iv s2 ⟨y, H2, I2, r2, q2⟩ => ?_))
  refine wpAny_bind (wpAny_standAt (wpAny_bind (wpAny_holding (thn (hs pins s2 σ H2 x y v ov iv u _ I2 r1 r2 r q2) fun _ s3 ⟨H3, I3, q3⟩ => ?_))))
  exact wpAny_release ⟨σ, H3, I3, q3⟩
/-- target = value -/
def tAsg (te : TE) (g : TG) : TS := fun D σ H => te σ H fun x H1 => g x σ H1 D.nx
theorem ps_asg {tg e : Expr} {te : TE} {g : TG} (he : PE X e te) (hg : PG X tg g) (hs : swapsWithSole [tg] e pos.line X.env = pure false := by rfl) (hw : swappedStores [tg] e X.env = pure none := by rfl)
    (h1 : (assignEach [tg] X.env).map (·.2) = [assign tg X.env] := by rfl) : PS X (.Assign [tg] e pos) (tAsg te g) := by
  intro pins s σ H D I h
  refine wpAny_Assign_stores (thn (he pins s σ H _ I h) fun v s1 ⟨x, H1, I1, r1, q1⟩ => ?_) hs hw
  rw [h1]
  exact thn (hg pins s1 σ H1 x v _ I1 r1 q1) fun _ s2 q => q
/-- name = value -/
theorem ps_set {i : Nat} {x : Str} {e : Expr} {te : TE} {pos' : Pos} (hN : X.N.Nodup) (hi : X.N[i]? = some x) (hx : Loc X.env.scope x) (he : PE X e te) (hs : swapsWith e (some (.Name x pos')) pos.line X.env = pure false := by rfl) (hf : X.fn x = true ∨ X.env.scope.names.lookup x = some .local := by first | exact .inl rfl | exact .inr rfl | assumption) :
    PS X (.Assign [.Name x pos'] e pos) (tAsg te (gName i)) := by
  intro pins s σ H D I h
  refine wpAny_Assign_Name (thn (he pins s σ H _ I h) fun v s1 ⟨y, H1, I1, r1, q1⟩ => ?_) hs
  exact store_ok I1 hN hi hx r1 (fun s2 I2 => ⟨_, H1, I2, q1⟩) hf
end

/-! ### while -/
section
variable {X : Cx} {pos : Pos}
/-- the invariant W with its measure -/
def tWhile (c : TT) (tb : TS) : TS := fun D σ H => ∃ W : Nat → St → Hp → Prop, (∃ m, W m σ H) ∧ ∀ m σ H, W m σ H →
  c σ H fun b H1 => if b = true then ∃ N : St → Hp → Prop, (∀ σ' H', N σ' H' → ∃ m', m' < m ∧ W m' σ' H') ∧ tb { D with nx := N, ct := N, bk := D.nx } σ H1 else D.nx σ H1
theorem ps_while {c : Expr} {body : List Stmt} {tc : TT} {tb : TS} (hp : PassesOwn (model X.prog X.w) X.A X.env X.xe) (hc : PT X c tc) (hb : PSs X body tb) : PS X (.While c body [] pos) (tWhile tc tb) := by
  intro pins s σ H D I h
  obtain ⟨W, ⟨m0, w0⟩, turn⟩ := h
  refine wpAny_While (codeAny_whileLoop (fun n s' => ∃ σ' H', Inv X pins σ' H' s' ∧ W n σ' H') ?_ m0 ⟨σ, H, I, w0⟩)
  rintro n s1 ⟨σ1, H1, I1, w1⟩
  refine wpAny_passesOwn hp (thn (hc pins s1 σ1 H1 _ I1 (turn n σ1 H1 w1)) fun b s2 ⟨H2, I2, q2⟩ => ?_)
  cases b with
  | true =>
    obtain ⟨N, hN, q2⟩ := q2
    rw [if_pos rfl]
    refine wpAny_passesOwn hp (thn (hb pins s2 σ1 H2 _ I2 q2) fun f s3 q3 => ?_)
    cases f with
    | next =>
      obtain ⟨σ3, H3, I3, n3⟩ := q3
      obtain ⟨m', hm, w3⟩ := hN σ3 H3 n3
      exact ⟨m', hm, σ3, H3, I3, w3⟩
    | cont =>
      obtain ⟨σ3, H3, I3, n3⟩ := q3
      obtain ⟨m', hm, w3⟩ := hN σ3 H3 n3
      exact ⟨m', hm, σ3, H3, I3, w3⟩
    | brk => exact q3
    | ret v => exact q3
  | false =>
    rw [if_neg Bool.false_ne_true]
    exact wpAny_execs_nil ⟨σ1, H2, I2, q2⟩
end

/-! ### what a loop or a comprehension walks -/
/-- at turn i: it yields x (the heap may grow), or it stops -/
structure It where
  go : Nat → Hp → Prop
  yld : Nat → Hp → V → Hp → Prop
  stop : Nat → Hp → Prop
/-- the iterator's own objects may turn: they are not the frame's, not pinned, younger than the entry (or a comprehension's own) -/
def FpOk (X : Cx) (pins : List (Addr × Obj)) (H : Hp) (b : Addr) : Prop :=
  H b = none ∧ b ≠ X.env.locals ∧ b ∉ X.fs ∧ (b ∈ X.ex ∨ X.s₀.heap.objs.size ≤ b) ∧ (∀ x c, X.env.cells.lookup x = some c → c ≠ b) ∧ ∀ p ∈ X.pn ++ pins, p.1 ≠ b
theorem Inv.fpOk {X : Cx} {pins : List (Addr × Obj)} {σ : St} {H H' : Hp} {s : Shared} {b : Addr} (I : Inv X pins σ H s) (hb : s.heap.objs.size ≤ b) (hn : H' b = none) : FpOk X pins H' b := by
  refine ⟨hn, Nat.ne_of_gt (Nat.lt_of_lt_of_le I.lt hb), I.nofs hb, .inr (Nat.le_trans I.sz hb), fun x c e z => ?_, fun p hp z => ?_⟩
  · obtain ⟨v, q⟩ := I.cell x c e
    exact absurd (Nat.lt_of_lt_of_le q.lt (by rw [z]; exact hb)) (Nat.lt_irrefl _)
  · exact absurd (Nat.lt_of_lt_of_le (Heap.lt_size (I.pin p hp).1) (by rw [z]; exact hb)) (Nat.lt_irrefl _)
structure Turn (P : Program) (w : World) (K : PySem.W.Frag) (tg : Expr) (J : It) (fp : List Addr) (it : Addr) (tn : Nat → Heap → Prop) : Prop where
  mem : it ∈ fp
  obj : ∀ i h, tn i h → ∀ b ∈ fp, ∃ o, h.get? b = some o ∧ ∀ v, o.data ≠ .cell v
  keep : ∀ i h h', tn i h → (∀ b ∈ fp, ∀ o, h.get? b = some o → h'.get? b = some o) → tn i h'
  item : ∀ (X : Cx), X.prog = P → X.w = w → X.K = K → X.calm = true → ∀ (i : Nat) (pins : List (Addr × Obj)) (s : Shared) (σ : St) (H : Hp) (E : Value → Shared → Prop), Inv X pins σ H s → (∀ b ∈ fp, FpOk X pins H b) → tn i s.heap → J.go i H →
    wpAny (model P w) X.A (pyNext (.ref it)) (fun r s1 => ∃ u, r = some u ∧
      wpAny (model P w) X.A (letOwnedTupleGo tg (.ref it) u) (fun _ s2 => ∃ x H', Inv X pins σ H' s2 ∧ RelV x u ∧ J.yld i H x H' ∧ tn (i + 1) s2.heap ∧ ∀ b ∈ fp, H' b = none) E s1) E s
  done : ∀ (X : Cx), X.prog = P → X.w = w → X.K = K → X.calm = true → ∀ (i : Nat) (pins : List (Addr × Obj)) (s : Shared) (σ : St) (H : Hp) (E : Value → Shared → Prop), Inv X pins σ H s → (∀ b ∈ fp, FpOk X pins H b) → tn i s.heap → J.stop i H →
    wpAny (model P w) X.A (pyNext (.ref it)) (fun r s1 => r = none ∧ Inv X pins σ H s1) E s
  self : ∀ (A : Around) (i : Nat) (s : Shared) (Q : Value → Shared → Prop) (E : Value → Shared → Prop), tn i s.heap → Q (.ref it) s → wpAny (model P w) A (pyIter (.ref it)) Q E s
abbrev TI := St → Hp → (It → Hp → Prop) → Prop
/-- an iterator has come -/
def PIE (X : Cx) (pins : List (Addr × Obj)) (σ : St) (tg : Expr) (R : It → Hp → Prop) (itv : Value) (s2 : Shared) : Prop :=
  ∃ (it : Addr) (fp : List Addr) (tn : Nat → Heap → Prop) (J : It) (H' : Hp), itv = .ref it ∧ Inv X pins σ H' s2 ∧ Turn X.prog X.w X.K tg J fp it tn ∧ tn 0 s2.heap ∧ (∀ b ∈ fp, FpOk X pins H' b) ∧ R J H'
def PI (X : Cx) (tg iter : Expr) (wi : TI) : Prop :=
  ∀ (pins : List (Addr × Obj)) (s : Shared) (σ : St) (H : Hp) (R : It → Hp → Prop), Inv X pins σ H s → wi σ H R →
    wpAny (model X.prog X.w) X.A (eval iter X.env) (fun v s1 => wpAny (model X.prog X.w) X.A (pyIter v) (PIE X pins σ tg R) X.xe s1) X.xe s

/-- the step ahead of the store is nothing for an iterator that keeps no tuple -/
theorem go_of {M : Model} {A : Around} {E : Value → Shared → Prop} {s : Shared} {tg : Expr} {it : Addr} {u : Value} {o : Obj} {n : String} {vs : Array Value} {Q : Unit → Shared → Prop} (ho : s.heap.get? it = some o) (hc : o.cls = .type n) (hd : o.data = .fields vs)
    (hn : ["enumerate", "zip", "dict_itemiterator", "dict_reverseitemiterator", "odict_iterator", "itertools.zip_longest", "itertools.pairwise"].contains n = false) (hQ : Q () s) : wpAny M A (letOwnedTupleGo tg (.ref it) u) Q E s := by
  unfold letOwnedTupleGo
  cases tg <;> first
    | exact wpAny_pure hQ
    | (cases u <;> first
        | exact wpAny_pure hQ
        | (refine wpAny_bind (wpAny_load ho ?_)
           rw [hc, hd]
           show wpAny M A (if (["enumerate", "zip", "dict_itemiterator", "dict_reverseitemiterator", "odict_iterator", "itertools.zip_longest", "itertools.pairwise"].contains n && vs[0]? == some (rawInt _)) = true then _ else _) Q E s
           rw [if_neg (by intro h; rw [hn, Bool.false_and] at h; cases h)]
           exact wpAny_pure hQ))

/-- the list at a, as it stands at each turn (a loop may append to it) -/
def Itl (K : PySem.W.Frag) (a : Addr) : It :=
  ⟨fun i H => ∃ xs x, SqL K H a xs ∧ xs[i]? = some x, fun i H x H' => H' = H ∧ ∀ xs, SqL K H a xs → xs[i]? = some x, fun i H => ∃ xs, SqL K H a xs ∧ xs.length ≤ i⟩
def Itt (K : PySem.W.Frag) (a : Addr) : It :=
  ⟨fun i H => ∃ xs x, SqT K H a xs ∧ xs[i]? = some x, fun i H x H' => H' = H ∧ ∀ xs, SqT K H a xs → xs[i]? = some x, fun i H => ∃ xs, SqT K H a xs ∧ xs.length ≤ i⟩
/-- lo, lo + 1, .. (n of them) -/
def Itr (lo : Int) (n : Nat) : It := ⟨fun i _ => i < n, fun i H x H' => H' = H ∧ x = .int (lo + i), fun i _ => n ≤ i⟩
theorem turn_list {P : Program} {w : World} {K : PySem.W.Frag} {tg : Expr} (a it : Addr) : Turn P w K tg (Itl K a) [it] it (fun i h => h.IsListIter it a i) where
  mem := by simp
  obj := fun i h st b hb => by
    have e : b = it := by simpa using hb
    subst e
    obtain ⟨o, e, c, d⟩ := st
    exact ⟨o, e, fun v z => by rw [d] at z; cases z⟩
  keep := fun i h h' st k => st.at fun o e => k it (by simp) o e
  item := by
    intro X hP hw hK hc i pins s σ H E I hf st hg
    subst hP hw hK
    obtain ⟨xs, x, hq, hx⟩ := hg
    obtain ⟨its, rv, p, hz⟩ := I.list hq
    obtain ⟨u, hu, ru⟩ := rv.get hx
    obtain ⟨f0, f1, f2, f3, f4, f5⟩ := hf it (by simp)
    refine wpAny_pyNext_list_item st p.isList (x := u) (by simpa using hu) fun h' st' sb => ?_
    have I1 : Inv X pins σ H { s with heap := h' } := I.turned (t' := s.toks) (fun b o hb e => (sb.2 b hb).trans e) f0 f1 f3 f4 f5
    obtain ⟨o, e, c, d⟩ := id st'
    exact ⟨u, rfl, go_of (s := { s with heap := h' }) e c d (by decide) ⟨x, H, I1, ru, ⟨rfl, fun ys hy => by rw [I.list_inj hy hq]; exact hx⟩, st', fun b hb => (hf b hb).1⟩⟩
  done := by
    intro X hP hw hK hc i pins s σ H E I hf st hg
    subst hP hw hK
    obtain ⟨xs, hq, hx⟩ := hg
    obtain ⟨its, rv, p, hz⟩ := I.list hq
    obtain ⟨f0, f1, f2, f3, f4, f5⟩ := hf it (by simp)
    have hl := rv.length
    exact wpAny_pyNext_list_end (I.ok.hd hc) st p.isList (by simp; omega) fun h' eb => ⟨rfl, I.turned (t' := s.toks) (fun b o hb e => eb b o hb e) f0 f1 f3 f4 f5⟩
  self := fun _ _ _ _ _ st h => wpAny_pyIter_listiter st h
theorem turn_tuple {P : Program} {w : World} {K : PySem.W.Frag} {tg : Expr} (a it : Addr) : Turn P w K tg (Itt K a) [it] it (fun i h => h.IsTupleIter it a i) where
  mem := by simp
  obj := fun i h st b hb => by
    have e : b = it := by simpa using hb
    subst e
    obtain ⟨o, e, c, d⟩ := st
    exact ⟨o, e, fun v z => by rw [d] at z; cases z⟩
  keep := fun i h h' st k => st.at fun o e => k it (by simp) o e
  item := by
    intro X hP hw hK hc i pins s σ H E I hf st hg
    subst hP hw hK
    obtain ⟨xs, x, hq, hx⟩ := hg
    obtain ⟨its, rv, p, hz⟩ := I.tuple hq
    obtain ⟨u, hu, ru⟩ := rv.get hx
    obtain ⟨f0, f1, f2, f3, f4, f5⟩ := hf it (by simp)
    refine wpAny_pyNext_tuple_item st (show s.heap.IsTuple a its.toArray from p) (x := u) (by simpa using hu) fun h' st' sb => ?_
    have I1 : Inv X pins σ H { s with heap := h' } := I.turned (t' := s.toks) (fun b o hb e => (sb.2 b hb).trans e) f0 f1 f3 f4 f5
    obtain ⟨o, e, c, d⟩ := id st'
    exact ⟨u, rfl, go_of (s := { s with heap := h' }) e c d (by decide) ⟨x, H, I1, ru, ⟨rfl, fun ys hy => by rw [I.tuple_inj hy hq]; exact hx⟩, st', fun b hb => (hf b hb).1⟩⟩
  done := by
    intro X hP hw hK hc i pins s σ H E I hf st hg
    subst hP hw hK
    obtain ⟨xs, hq, hx⟩ := hg
    obtain ⟨its, rv, p, hz⟩ := I.tuple hq
    obtain ⟨f0, f1, f2, f3, f4, f5⟩ := hf it (by simp)
    have hl := rv.length
    exact wpAny_pyNext_tuple_end (I.ok.hd hc) st (show s.heap.IsTuple a its.toArray from p) (by simp; omega) fun h' eb => ⟨rfl, I.turned (t' := s.toks) (fun b o hb e => eb b o hb e) f0 f1 f3 f4 f5⟩
  self := fun _ _ _ _ _ st h => wpAny_pyIter_tupleiter st h
theorem turn_range {P : Program} {w : World} {K : PySem.W.Frag} {tg : Expr} (it : Addr) (lo : Int) (n : Nat) : Turn P w K tg (Itr lo n) [it] it (fun i h => IsRangeIter h it (lo + (i : Nat) * 1) ((n : Int) - (i : Nat)) 1) where
  mem := by simp
  obj := fun i h st b hb => by
    have e : b = it := by simpa using hb
    subst e
    exact ⟨_, st, fun v z => by
      have z' : Data.fields _ = Data.cell v := z
      cases z'⟩
  keep := fun i h h' st k => k it (by simp) _ st
  item := by
    intro X hP hw hK hc i pins s σ H E I hf st hg
    subst hP hw hK
    obtain ⟨f0, f1, f2, f3, f4, f5⟩ := hf it (by simp)
    have W := Walks.range (prog := X.prog) (w := X.w) (I.ok.hd hc) it lo 1 n
    refine W.item i s _ _ hg st fun v h' tk hv st' kk => ?_
    obtain ⟨t, rfl⟩ := hv
    have I1 : Inv X pins σ H { s with heap := h', toks := tk } := I.turned (fun b o hb e => kk b o (by simpa using hb) e) f0 f1 f3 f4 f5
    refine ⟨_, rfl, go_of (s := { s with heap := h', toks := tk }) (n := "range_iterator") st' rfl rfl (by decide) ⟨.int (lo + i), H, I1, ⟨t, ?_⟩, ⟨rfl, rfl⟩, st', fun b hb => (hf b hb).1⟩⟩
    rw [Int.mul_one]
  done := by
    intro X hP hw hK hc i pins s σ H E I hf st hg
    subst hP hw hK
    obtain ⟨f0, f1, f2, f3, f4, f5⟩ := hf it (by simp)
    exact wpAny_pyNext_range_end (I.ok.hd hc) st (by have : n ≤ i := hg; omega) fun h' eb => ⟨rfl, I.turned (t' := s.toks) (fun b o hb e => eb b o hb e) f0 f1 f3 f4 f5⟩
  self := fun _ _ _ _ _ st h => wpAny_pyIter_rangeiter st h
end L2

namespace L2
open PySem PySem.Spec PyProof.Rows
section
variable {X : Cx} {tg : Expr}
def iList (K : PySem.W.Frag) (tl : TE) : TI := fun σ H R => tl σ H fun x H1 => ∃ a, x = .ref a ∧ (∃ xs, SqL K H1 a xs) ∧ R (Itl K a) H1
def iTup (K : PySem.W.Frag) (tl : TE) : TI := fun σ H R => tl σ H fun x H1 => ∃ a, x = .ref a ∧ (∃ xs, SqT K H1 a xs) ∧ R (Itt K a) H1
theorem pi_list {l : Expr} {tl : TE} (hl : PE X l tl) : PI X tg l (iList X.K tl) := by
  intro pins s σ H R I h
  refine thn (hl pins s σ H _ I h) fun v s1 ⟨x, H1, I1, r1, q1⟩ => ?_
  obtain ⟨a, e, ⟨xs, hq⟩, q⟩ := q1
  subst e
  cases r1
  obtain ⟨its, rv, p, hz⟩ := I1.list hq
  refine wpAny_pyIter_list p.isList ?_
  refine ⟨s1.heap.objs.size, [s1.heap.objs.size], _, _, H1, rfl, I1.kept (t' := s1.toks) fun b o e => Heap.get?_push_of_some _ e, turn_list a _, ⟨_, Heap.get?_push_size _ rfl, rfl, rfl⟩, fun b hb => ?_, q⟩
  have e : b = s1.heap.objs.size := by simpa using hb
  subst e
  exact I1.fpOk (Nat.le_refl _) (I1.hok.fresh (Nat.le_refl _))
theorem pi_tup {l : Expr} {tl : TE} (hl : PE X l tl) : PI X tg l (iTup X.K tl) := by
  intro pins s σ H R I h
  refine thn (hl pins s σ H _ I h) fun v s1 ⟨x, H1, I1, r1, q1⟩ => ?_
  obtain ⟨a, e, ⟨xs, hq⟩, q⟩ := q1
  subst e
  cases r1
  obtain ⟨its, rv, p, hz⟩ := I1.tuple hq
  refine wpAny_pyIter_tuple (show s1.heap.IsTuple a its.toArray from p) ?_
  refine ⟨s1.heap.objs.size, [s1.heap.objs.size], _, _, H1, rfl, I1.kept (t' := s1.toks) fun b o e => Heap.get?_push_of_some _ e, turn_tuple a _, ⟨_, Heap.get?_push_size _ rfl, rfl, rfl⟩, fun b hb => ?_, q⟩
  have e : b = s1.heap.objs.size := by simpa using hb
  subst e
  exact I1.fpOk (Nat.le_refl _) (I1.hok.fresh (Nat.le_refl _))
/-- a range object just made, walked -/
theorem range_it {pins : List (Addr × Obj)} {σ : St} {H : Hp} {s : Shared} {R : It → Hp → Prop} {E : Value → Shared → Prop} {lo hi : Int} {t u v : Tok} {tk : Nat} (I : Inv X pins σ H s) (h1 : -(2 ^ 62) ≤ lo) (h2 : lo < 2 ^ 62) (h3 : -(2 ^ 62) ≤ hi) (h4 : hi < 2 ^ 62)
    (q : R (Itr lo (hi - lo).toNat) H) : wpAny (model X.prog X.w) X.A (pyIter (.ref s.heap.objs.size)) (PIE X pins σ tg R) E { s with heap := s.heap.push { cls := .type "range", data := .fields #[.int lo t, .int hi u, .int 1 v] }, toks := tk } := by
  refine wpAny_pyIter_range (IsRange.new ..) (small_one h1 h2 h3 h4) ?_
  have I1 : Inv X pins σ H { s with heap := s.heap.push { cls := .type "range", data := .fields #[.int lo t, .int hi u, .int 1 v] }, toks := tk } := I.kept fun b o e => Heap.get?_push_of_some _ e
  refine ⟨(s.heap.push { cls := .type "range", data := .fields #[.int lo t, .int hi u, .int 1 v] }).objs.size, [(s.heap.push { cls := .type "range", data := .fields #[.int lo t, .int hi u, .int 1 v] }).objs.size], _, _, H, rfl,
    I1.kept (t' := tk) fun b o e => Heap.get?_push_of_some _ e, turn_range _ lo (hi - lo).toNat, ?_, fun b hb => ?_, q⟩
  · have e1 : lo + ((0 : Nat) : Int) * 1 = lo := by simp
    have e2 : (((hi - lo).toNat : Nat) : Int) - ((0 : Nat) : Int) = Builtin.Range.rangeSize lo hi 1 := by rw [rangeSize_one]; split <;> omega
    show IsRangeIter _ _ (lo + ((0 : Nat) : Int) * 1) ((((hi - lo).toNat : Nat) : Int) - ((0 : Nat) : Int)) 1
    rw [e1, e2]
    exact Heap.get?_push_size _ rfl
  · have e : b = (s.heap.push { cls := .type "range", data := .fields #[.int lo t, .int hi u, .int 1 v] }).objs.size := by simpa using hb
    subst e
    exact I1.fpOk (Nat.le_refl _) (I1.hok.fresh (Nat.le_refl _))
def iRng1 (ta : TA) : TI := fun σ H R => ta σ H fun vs H1 => ∃ j : Int, vs = [.int j] ∧ -(2 ^ 62) ≤ j ∧ j < 2 ^ 62 ∧ R (Itr 0 j.toNat) H1
theorem pi_range1 {a : Expr} {ta : TA} {p pos : Pos} (hg : Gl X "range") (hm : X.mg "range" = none) (ha : PA X [a] ta) (hs : starEach [a] X.env = [(false, eval a X.env)] := by rfl) : PI X tg (.Call (.Name "range" p) [a] [] pos) (iRng1 ta) := by
  intro pins s σ H R I h
  refine Call_ (ld_blt I hg hm boot_range (PyProof.Rows.callWith_type1 (thn (ha pos pins s σ H _ I h) fun us s1 ⟨vs, H1, I1, r1, q1⟩ => ?_) hs rfl))
  obtain ⟨j, e, q1, q2, q⟩ := q1
  subst e
  cases r1 with
  | cons r rr =>
    cases rr
    obtain ⟨t, rfl⟩ := r
    exact call_range_1 (range_it I1 (by omega) (by omega) q1 q2 (by simpa using q))
/-! ### for -/
/-- W: the invariant by the turn and a measure; N: what the body is to reach -/
def tFor (wi : TI) (g : TG) (tb : TS) : TS := fun D σ H => wi σ H fun J H1 => ∃ W : Nat → Nat → St → Hp → Prop, (∃ m, W 0 m σ H1) ∧ ∀ i m σ H, W i m σ H →
  (J.stop i H ∧ D.nx σ H) ∨ (J.go i H ∧ ∃ N : St → Hp → Prop, (∀ σ' H', N σ' H' → ∃ m', m' < m ∧ W (i + 1) m' σ' H') ∧ ∀ x H', J.yld i H x H' → g x σ H' fun σ2 H2 => tb { D with nx := N, ct := N, bk := D.nx } σ2 H2)
/-- the records at fp as they stand -/
def pinsAt (fp : List Addr) (h : Heap) : List (Addr × Obj) := fp.filterMap fun b => (h.get? b).map fun o => (b, o)
theorem mem_pinsAt {fp : List Addr} {h : Heap} {b : Addr} {o : Obj} (hb : b ∈ fp) (e : h.get? b = some o) : (b, o) ∈ pinsAt fp h := List.mem_filterMap.mpr ⟨b, hb, by rw [e]; rfl⟩
theorem of_pinsAt {fp : List Addr} {h : Heap} {p : Addr × Obj} (hp : p ∈ pinsAt fp h) : p.1 ∈ fp ∧ h.get? p.1 = some p.2 := by
  obtain ⟨b, hb, e⟩ := List.mem_filterMap.mp hp
  cases q : h.get? b with
  | none => rw [q] at e; cases e
  | some o =>
    rw [q] at e
    have e' : (b, o) = p := Option.some.inj e
    subst e'
    exact ⟨hb, q⟩
theorem Inv.pinned {pins : List (Addr × Obj)} {σ : St} {H : Hp} {s : Shared} {fp : List Addr} (I : Inv X pins σ H s) (hf : ∀ b ∈ fp, FpOk X pins H b) (ho : ∀ b ∈ fp, ∃ o, s.heap.get? b = some o ∧ ∀ v, o.data ≠ .cell v) : Inv X (pins ++ pinsAt fp s.heap) σ H s :=
  I.pins_of fun p hp => (List.mem_append.mp hp).elim (fun z => I.pin p (List.mem_append_right _ z)) fun z => by
    obtain ⟨hb, e⟩ := of_pinsAt z
    obtain ⟨f0, f1, f2, _⟩ := hf p.1 hb
    obtain ⟨o, e', d⟩ := ho p.1 hb
    rw [e] at e'; cases e'
    exact ⟨e, f0, f1, f2, d⟩
theorem Inv.unpinned {pins pl : List (Addr × Obj)} {σ : St} {H : Hp} {s : Shared} (I : Inv X (pins ++ pl) σ H s) : Inv X pins σ H s := I.pins_of fun p hp => I.pin p (List.mem_append_right _ (List.mem_append_left _ hp))
theorem ps_for {iter : Expr} {body : List Stmt} {wi : TI} {g : TG} {tb : TS} {pos : Pos} (hp : PassesOwn (model X.prog X.w) X.A X.env X.xe) (hc : X.calm = true) (hi : PI X tg iter wi) (hg : PG X tg g) (hb : PSs X body tb)
    (hs : ∀ x, foldedSetIterable iter X.env x = pure x := by intro _; rfl) : PS X (.For tg iter body [] pos) (tFor wi g tb) := by
  intro pins s σ H D I h
  refine wpAny_For (thn (hi pins s σ H _ I h) fun v s1 h1 => thn h1 fun itv s2 h2 => ?_) hs
  obtain ⟨it, fp, tn, J, H2, e, I2, T, st2, f2, W, ⟨m0, w0⟩, turn⟩ := h2
  subst e
  -- what stays true of the iterator's objects through the loop
  have stat : ∀ {H' : Hp}, (∀ b ∈ fp, H' b = none) → ∀ b ∈ fp, FpOk X pins H' b := fun hn b hb => ⟨hn b hb, (f2 b hb).2⟩
  refine codeAny_forLoop_any (fun n s' => ∃ i σ' H', Inv X pins σ' H' s' ∧ tn i s'.heap ∧ (∀ b ∈ fp, H' b = none) ∧ W i n σ' H') ?_ m0 ⟨0, σ, H2, I2, st2, fun b hb => (f2 b hb).1, w0⟩
  rintro n s3 ⟨i, σ3, H3, I3, st3, fr3, w3⟩
  rcases turn i n σ3 H3 w3 with ⟨stop, qn⟩ | ⟨go, N, hN, step⟩
  · refine wpAny_passesOwn hp (thn (T.done X rfl rfl rfl hc i pins s3 σ3 H3 X.xe I3 (stat fr3) st3 stop) fun r s4 ⟨hr, I4⟩ => ?_)
    subst hr
    exact wpAny_execs_nil ⟨σ3, H3, I4, qn⟩
  · refine wpAny_passesOwn hp (thn (T.item X rfl rfl rfl hc i pins s3 σ3 H3 X.xe I3 (stat fr3) st3 go) fun r s4 ⟨u, hr, h4⟩ => ?_)
    subst hr
    refine wpAny_passesOwn hp (thn h4 fun _ s5 ⟨x, H5, I5, r5, y5, st5, fr5⟩ => ?_)
    have I5' := I5.pinned (stat fr5) (T.obj _ _ st5)
    refine wpAny_passesOwn hp (thn (hg _ s5 σ3 H5 x u _ I5' r5 (step x H5 y5)) fun _ s6 ⟨σ6, H6, I6, q6⟩ => ?_)
    refine wpAny_passesOwn hp (thn (hb _ s6 σ6 H6 _ I6 q6) fun f s7 q7 => ?_)
    have again : ∀ {σ7 : St} {H7 : Hp}, Inv X (pins ++ pinsAt fp s5.heap) σ7 H7 s7 → N σ7 H7 → ∃ m, m < n ∧ ∃ i σ' H', Inv X pins σ' H' s7 ∧ tn i s7.heap ∧ (∀ b ∈ fp, H' b = none) ∧ W i m σ' H' := fun {σ7 H7} I7 n7 => by
      obtain ⟨m', hm, w7⟩ := hN σ7 H7 n7
      refine ⟨m', hm, i + 1, σ7, H7, I7.unpinned, T.keep _ _ _ st5 fun b hb o e => (I7.pin (b, o) (List.mem_append_right _ (List.mem_append_right _ (mem_pinsAt hb e)))).1, fun b hb => ?_, w7⟩
      obtain ⟨o, e, d⟩ := T.obj _ _ st5 b hb
      exact (I7.pin (b, o) (List.mem_append_right _ (List.mem_append_right _ (mem_pinsAt hb e)))).2.1
    cases f with
    | next => obtain ⟨σ7, H7, I7, n7⟩ := q7; exact again I7 n7
    | cont => obtain ⟨σ7, H7, I7, n7⟩ := q7; exact again I7 n7
    | brk => obtain ⟨σ7, H7, I7, q7⟩ := q7; exact ⟨σ7, H7, I7.unpinned, q7⟩
    | ret v => obtain ⟨x7, σ7, H7, I7, r7, q7⟩ := q7; exact ⟨x7, σ7, H7, I7.unpinned, r7, q7⟩
end

/-! ### the forms one uses -/
/-- over a list that the body leaves as it is -/
theorem for_list {K : PySem.W.Frag} {a : Addr} {xs : List V} {g : TG} {tb : TS} {D : Ends} {σ : St} {H : Hp} (Pv : Nat → St → Hp → Prop) (h0 : Pv 0 σ H) (hl : ∀ i σ H, i ≤ xs.length → Pv i σ H → SqL K H a xs)
    (hs : ∀ i x σ H, xs[i]? = some x → Pv i σ H → g x σ H fun σ2 H2 => tb { D with nx := Pv (i + 1), ct := Pv (i + 1), bk := D.nx } σ2 H2) (hd : ∀ σ H, Pv xs.length σ H → D.nx σ H) :
    ∃ W : Nat → Nat → St → Hp → Prop, (∃ m, W 0 m σ H) ∧ ∀ i m σ H, W i m σ H →
      ((Itl K a).stop i H ∧ D.nx σ H) ∨ ((Itl K a).go i H ∧ ∃ N : St → Hp → Prop, (∀ σ' H', N σ' H' → ∃ m', m' < m ∧ W (i + 1) m' σ' H') ∧ ∀ x H', (Itl K a).yld i H x H' → g x σ H' fun σ2 H2 => tb { D with nx := N, ct := N, bk := D.nx } σ2 H2) := by
  refine ⟨fun i m σ H => m = xs.length - i ∧ i ≤ xs.length ∧ Pv i σ H, ⟨xs.length, by simp, Nat.zero_le _, h0⟩, ?_⟩
  rintro i m σ H ⟨rfl, hi, p⟩
  have q := hl i σ H hi p
  by_cases hlt : i < xs.length
  · refine .inr ⟨⟨xs, xs[i], q, by simp [hlt]⟩, Pv (i + 1), fun σ' H' p' => ⟨xs.length - (i + 1), by omega, rfl, hlt, p'⟩, fun x H' y => ?_⟩
    obtain ⟨e, y⟩ := y
    subst e
    exact hs i x σ _ (y xs q) p
  · have e : i = xs.length := by omega
    subst e
    exact .inl ⟨⟨xs, q, Nat.le_refl _⟩, hd σ H p⟩
theorem for_tup {K : PySem.W.Frag} {a : Addr} {xs : List V} {g : TG} {tb : TS} {D : Ends} {σ : St} {H : Hp} (Pv : Nat → St → Hp → Prop) (h0 : Pv 0 σ H) (hl : ∀ i σ H, i ≤ xs.length → Pv i σ H → SqT K H a xs)
    (hs : ∀ i x σ H, xs[i]? = some x → Pv i σ H → g x σ H fun σ2 H2 => tb { D with nx := Pv (i + 1), ct := Pv (i + 1), bk := D.nx } σ2 H2) (hd : ∀ σ H, Pv xs.length σ H → D.nx σ H) :
    ∃ W : Nat → Nat → St → Hp → Prop, (∃ m, W 0 m σ H) ∧ ∀ i m σ H, W i m σ H →
      ((Itt K a).stop i H ∧ D.nx σ H) ∨ ((Itt K a).go i H ∧ ∃ N : St → Hp → Prop, (∀ σ' H', N σ' H' → ∃ m', m' < m ∧ W (i + 1) m' σ' H') ∧ ∀ x H', (Itt K a).yld i H x H' → g x σ H' fun σ2 H2 => tb { D with nx := N, ct := N, bk := D.nx } σ2 H2) := by
  refine ⟨fun i m σ H => m = xs.length - i ∧ i ≤ xs.length ∧ Pv i σ H, ⟨xs.length, by simp, Nat.zero_le _, h0⟩, ?_⟩
  rintro i m σ H ⟨rfl, hi, p⟩
  have q := hl i σ H hi p
  by_cases hlt : i < xs.length
  · refine .inr ⟨⟨xs, xs[i], q, by simp [hlt]⟩, Pv (i + 1), fun σ' H' p' => ⟨xs.length - (i + 1), by omega, rfl, hlt, p'⟩, fun x H' y => ?_⟩
    obtain ⟨e, y⟩ := y
    subst e
    exact hs i x σ _ (y xs q) p
  · have e : i = xs.length := by omega
    subst e
    exact .inl ⟨⟨xs, q, Nat.le_refl _⟩, hd σ H p⟩
theorem for_range {lo : Int} {n : Nat} {g : TG} {tb : TS} {D : Ends} {σ : St} {H : Hp} (Pv : Nat → St → Hp → Prop) (h0 : Pv 0 σ H)
    (hs : ∀ i σ H, i < n → Pv i σ H → g (.int (lo + i)) σ H fun σ2 H2 => tb { D with nx := Pv (i + 1), ct := Pv (i + 1), bk := D.nx } σ2 H2) (hd : ∀ σ H, Pv n σ H → D.nx σ H) :
    ∃ W : Nat → Nat → St → Hp → Prop, (∃ m, W 0 m σ H) ∧ ∀ i m σ H, W i m σ H →
      ((Itr lo n).stop i H ∧ D.nx σ H) ∨ ((Itr lo n).go i H ∧ ∃ N : St → Hp → Prop, (∀ σ' H', N σ' H' → ∃ m', m' < m ∧ W (i + 1) m' σ' H') ∧ ∀ x H', (Itr lo n).yld i H x H' → g x σ H' fun σ2 H2 => tb { D with nx := N, ct := N, bk := D.nx } σ2 H2) := by
  refine ⟨fun i m σ H => m = n - i ∧ i ≤ n ∧ Pv i σ H, ⟨n, by simp, Nat.zero_le _, h0⟩, ?_⟩
  rintro i m σ H ⟨rfl, hi, p⟩
  by_cases hlt : i < n
  · refine .inr ⟨hlt, Pv (i + 1), fun σ' H' p' => ⟨n - (i + 1), by omega, rfl, hlt, p'⟩, fun x H' y => ?_⟩
    obtain ⟨e, y⟩ := y
    subst e y
    exact hs i σ _ hlt p
  · have e : i = n := by omega
    subst e
    exact .inl ⟨Nat.le_refl _, hd σ H p⟩
/-- while, by a word and a measure of the state -/
theorem while_by {c : TT} {tb : TS} {D : Ends} {σ : St} {H : Hp} (Pv : St → Hp → Prop) (μ : St → Hp → Nat) (h0 : Pv σ H)
    (hs : ∀ σ H, Pv σ H → c σ H fun b H1 => if b = true then tb { D with nx := fun σ' H' => Pv σ' H' ∧ μ σ' H' < μ σ H, ct := fun σ' H' => Pv σ' H' ∧ μ σ' H' < μ σ H, bk := D.nx } σ H1 else D.nx σ H1)
    (mono : ∀ σ H Q Q', (∀ b H1, Q b H1 → Q' b H1) → c σ H Q → c σ H Q') : tWhile c tb D σ H := by
  refine ⟨fun m σ H => m = μ σ H ∧ Pv σ H, ⟨_, rfl, h0⟩, ?_⟩
  rintro m σ H ⟨rfl, p⟩
  refine mono σ H _ _ (fun b H1 q => ?_) (hs σ H p)
  cases b with
  | true => exact ⟨_, fun σ' H' ⟨p', l⟩ => ⟨_, l, rfl, p'⟩, q⟩
  | false => exact q
end L2

namespace L2
open PySem PySem.Spec PyProof.Rows

abbrev R2 := V → V → Hp → VK → Prop
/-- a two-place operation on values: f is binaryOp op, inplaceOp op or compareOp op -/
def OpR (X : Cx) (f : Value → Value → Sem Value) (r : R2) : Prop :=
  ∀ (pins : List (Addr × Obj)) (s : Shared) (σ : St) (H : Hp) (x y : V) (v u : Value) (Q : VK), Inv X pins σ H s → RelV x v → RelV y u → r x y H Q →
    wpAny (model X.prog X.w) X.A (f v u) (EP X pins σ Q) X.xe s
/-- a one-place operation -/
def UnR (X : Cx) (f : Value → Sem Value) (r : V → Hp → VK → Prop) : Prop :=
  ∀ (pins : List (Addr × Obj)) (s : Shared) (σ : St) (H : Hp) (x : V) (v : Value) (Q : VK), Inv X pins σ H s → RelV x v → r x H Q →
    wpAny (model X.prog X.w) X.A (f v) (EP X pins σ Q) X.xe s
/-- a call of a value that is known (a builtin, a type) with values -/
def CallR (X : Cx) (f : Value) (r : List V → Hp → VK → Prop) : Prop :=
  ∀ (pins : List (Addr × Obj)) (s : Shared) (σ : St) (H : Hp) (xs : List V) (us : List Value) (Q : VK), Inv X pins σ H s → Vals xs us → r xs H Q →
    wpAny (model X.prog X.w) X.A (call f us) (EP X pins σ Q) X.xe s
/-- a value's truth -/
def TruR (X : Cx) (r : V → Hp → (Bool → Hp → Prop) → Prop) : Prop :=
  ∀ (pins : List (Addr × Obj)) (s : Shared) (σ : St) (H : Hp) (x : V) (v : Value) (Q : Bool → Hp → Prop), Inv X pins σ H s → RelV x v → r x H Q →
    wpAny (model X.prog X.w) X.A (truthy v) (TP X pins σ Q) X.xe s

def tOp (r : R2) (ta tb : TE) : TE := fun σ H Q => ta σ H fun x H1 => tb σ H1 fun y H2 => r x y H2 Q
def tUn (r : V → Hp → VK → Prop) (ta : TE) : TE := fun σ H Q => ta σ H fun x H1 => r x H1 Q
/-- ints in, under C, and a value out -/
def rI (C : Int → Int → Prop) (g : Int → Int → V) : R2 := fun x y H Q => ∃ i j, x = .int i ∧ y = .int j ∧ C i j ∧ Q (g i j) H
def rI0 (g : Int → Int → V) : R2 := fun x y H Q => ∃ i j, x = .int i ∧ y = .int j ∧ Q (g i j) H
def rU (g : Int → V) : V → Hp → VK → Prop := fun x H Q => ∃ i, x = .int i ∧ Q (g i) H

section
variable {X : Cx} {a b c : Expr} {ta tb tc : TE} {pos : Pos}

theorem binT (ha : PE X a ta) (hb : PE X b tb) {pins : List (Addr × Obj)} {s : Shared} {σ : St} {H : Hp} {R : V → V → Hp → Prop} (I : Inv X pins σ H s)
    (h : ta σ H fun x H1 => tb σ H1 fun y H2 => R x y H2) {Q : Value → Shared → Prop} {f : Value → Value → Sem Value}
    (hf : ∀ v u s2 x y H2, Inv X pins σ H2 s2 → RelV x v → RelV y u → R x y H2 → wpAny (model X.prog X.w) X.A (f v u) Q X.xe s2) :
    wpAny (model X.prog X.w) X.A (eval a X.env) (fun v s₁ => wpAny (model X.prog X.w) X.A (eval b X.env) (fun u s₂ => wpAny (model X.prog X.w) X.A (f v u) Q X.xe s₂) X.xe s₁) X.xe s := by
  refine thn (ha pins s σ H _ I h) fun v s1 ⟨x, H1, I1, r1, q1⟩ => ?_
  refine thn (hb pins s1 σ H1 _ I1 q1) fun u s2 ⟨y, H2, I2, r2, q2⟩ => ?_
  exact hf v u s2 x y H2 I2 r1 r2 q2

theorem pe_op {op : Operator} {r : R2} (ho : OpR X (binaryOp op) r) (ha : PE X a ta) (hb : PE X b tb) : PE X (.BinOp a op b pos) (tOp r ta tb) := by
  intro pins s σ H Q I h
  exact wpAny_BinOp (binT ha hb I h fun v u s2 x y H2 I2 rx ry q => ho pins s2 σ H2 x y v u Q I2 rx ry q)
theorem pe_un {op : UnaryOp} {r : V → Hp → VK → Prop} (ho : UnR X (unaryOp op) r) (ha : PE X a ta) : PE X (.UnaryOp op a pos) (tUn r ta) := by
  intro pins s σ H Q I h
  exact UnaryOp_ (thn (ha pins s σ H _ I h) fun v s1 ⟨x, H1, I1, r1, q1⟩ => ho pins s1 σ H1 x v Q I1 r1 q1)
/-! ### ints -/
theorem opI {f : Value → Value → Sem Value} {C : Int → Int → Prop} {g : Int → Int → Int}
    (rule : ∀ (i j : Int) (t u : Tok) (s : Shared) (Q : Value → Shared → Prop) (E : Value → Shared → Prop), C i j → Q (.int (g i j) s.toks) { s with toks := s.toks + 1 } → wpAny (model X.prog X.w) X.A (f (.int i t) (.int j u)) Q E s) :
    OpR X f (rI C fun i j => .int (g i j)) := by
  intro pins s σ H x y v u Q I rx ry h
  obtain ⟨i, j, rfl, rfl, hc, q⟩ := h
  obtain ⟨t, rfl⟩ := rx
  obtain ⟨t', rfl⟩ := ry
  exact rule i j t t' s _ _ hc ⟨.int (g i j), H, I.tok _, ⟨_, rfl⟩, q⟩
theorem opI0 {f : Value → Value → Sem Value} {g : Int → Int → Int}
    (rule : ∀ (i j : Int) (t u : Tok) (s : Shared) (Q : Value → Shared → Prop) (E : Value → Shared → Prop), Q (.int (g i j) s.toks) { s with toks := s.toks + 1 } → wpAny (model X.prog X.w) X.A (f (.int i t) (.int j u)) Q E s) :
    OpR X f (rI0 fun i j => .int (g i j)) := by
  intro pins s σ H x y v u Q I rx ry h
  obtain ⟨i, j, rfl, rfl, q⟩ := h
  obtain ⟨t, rfl⟩ := rx
  obtain ⟨t', rfl⟩ := ry
  exact rule i j t t' s _ _ ⟨.int (g i j), H, I.tok _, ⟨_, rfl⟩, q⟩
theorem opB0 {f : Value → Value → Sem Value} {g : Int → Int → Bool}
    (rule : ∀ (i j : Int) (t u : Tok) (s : Shared) (Q : Value → Shared → Prop) (E : Value → Shared → Prop), Q (.bool (g i j)) s → wpAny (model X.prog X.w) X.A (f (.int i t) (.int j u)) Q E s) :
    OpR X f (rI0 fun i j => .bl (g i j)) := by
  intro pins s σ H x y v u Q I rx ry h
  obtain ⟨i, j, rfl, rfl, q⟩ := h
  obtain ⟨t, rfl⟩ := rx
  obtain ⟨t', rfl⟩ := ry
  exact rule i j t t' s _ _ ⟨.bl (g i j), H, I, rfl, q⟩

def CDiv (i j : Int) : Prop := 0 < j ∧ j < 1073741824
def CPow (i j : Int) : Prop := 0 ≤ j ∧ j ≤ 1000000 ∧ i.natAbs < 2 ^ 64
def CMul (i j : Int) : Prop := (-(2 ^ 64) < i ∧ i < 2 ^ 64) ∨ (-(2 ^ 64) < j ∧ j < 2 ^ 64)
theorem CMul.ok {i j : Int} (h : CMul i j) : IntMulOk i j := by
  rcases h with ⟨h1, h2⟩ | ⟨h1, h2⟩
  · exact .of_left (intBits_le_64 h1 h2)
  · exact .of_right (intBits_le_64 h1 h2)
theorem op_add : OpR X (binaryOp .Add) (rI0 fun i j => .int (i + j)) := opI0 fun _ _ _ _ _ _ _ q => add_int q
theorem op_sub : OpR X (binaryOp .Sub) (rI0 fun i j => .int (i - j)) := opI0 fun _ _ _ _ _ _ _ q => sub_int q
theorem op_mul : OpR X (binaryOp .Mult) (rI CMul fun i j => .int (i * j)) := opI fun _ _ _ _ _ _ _ hc q => mul_int q hc.ok
/-- // by a positive divisor -/
theorem op_fdiv : OpR X (binaryOp .FloorDiv) (rI CDiv fun i j => .int (i / j)) := opI fun i j _ _ _ _ _ hc q => by
  have h1 : (0 : Int) < j := hc.1
  have h2 : j < 1073741824 := hc.2
  exact floordiv_int (by omega) (by rw [Int.fdiv_eq_ediv_of_nonneg i (by omega)]; exact q) (.inl (PyProof.noPylong_small (by omega)))
/-- % by a positive divisor of any size -/
theorem op_mod : OpR X (binaryOp .Mod) (rI (fun _ j => 0 < j) fun i j => .int (i % j)) := opI fun i j _ _ _ _ _ hc q => by
  have h1 : (0 : Int) < j := hc
  exact mod_int' (by omega) (by rw [Int.fmod_eq_emod_of_nonneg i (by omega)]; exact q)
theorem op_pow : OpR X (binaryOp .Pow) (rI CPow fun i j => .int (i ^ j.toNat)) := opI fun _ _ _ _ _ _ _ hc q => pow_int_small hc.1 hc.2.1 hc.2.2 q
theorem unI {f : Value → Sem Value} {g : Int → Int}
    (rule : ∀ (i : Int) (t : Tok) (s : Shared) (Q : Value → Shared → Prop) (E : Value → Shared → Prop), Q (.int (g i) s.toks) { s with toks := s.toks + 1 } → wpAny (model X.prog X.w) X.A (f (.int i t)) Q E s) :
    UnR X f (rU fun i => .int (g i)) := by
  intro pins s σ H x v Q I rx h
  obtain ⟨i, rfl, q⟩ := h
  obtain ⟨t, rfl⟩ := rx
  exact rule i t s _ _ ⟨.int (g i), H, I.tok _, ⟨_, rfl⟩, q⟩
theorem un_neg : UnR X (unaryOp .USub) (rU fun i => .int (-i)) := unI fun _ _ _ _ _ q => neg_int q
/-! ### bools among ints: n += (a < b) -/
end

/-! ### comparisons -/
/-- the scalars that == tells apart as data does -/
def scal : V → V → Bool
  | .non, .non => true | .non, .int _ => true | .int _, .non => true | .non, .bl _ => true | .bl _, .non => true | .non, .str _ => true | .str _, .non => true
  | .int _, .int _ => true | .bl _, .bl _ => true | .str _, .str _ => true | .byt _, .byt _ => true
  | .int _, .str _ => true | .str _, .int _ => true | .bl _, .str _ => true | .str _, .bl _ => true
  | _, _ => false
def rEq : R2 := fun x y H Q => scal x y = true ∧ Q (.bl (decide (x = y))) H
def rNe : R2 := fun x y H Q => scal x y = true ∧ Q (.bl (!decide (x = y))) H

theorem dec_int {i j : Int} : decide (V.int i = V.int j) = (i == j) := by
  rw [Bool.eq_iff_iff]
  simp
theorem dec_bl {i j : Bool} : decide (V.bl i = V.bl j) = (i == j) := by
  rw [Bool.eq_iff_iff]
  simp
theorem dec_str {i j : Str} : decide (V.str i = V.str j) = (i == j) := by
  rw [Bool.eq_iff_iff]
  simp
theorem dec_byt {i j : Array UInt8} : decide (V.byt i = V.byt j) = (i.toList == j.toList) := by
  rw [Bool.eq_iff_iff]
  cases i
  cases j
  simp

section
variable {X : Cx} {a b c : Expr} {ta tb tc : TE} {pos : Pos}
theorem fin_bl {pins : List (Addr × Obj)} {σ : St} {H : Hp} {s : Shared} {Q : VK} {k k' : Bool} (I : Inv X pins σ H s) (q : Q (.bl k) H) (e : k = k') : EP X pins σ Q (.bool k') s := by
  subst e
  exact ⟨.bl k, H, I, rfl, q⟩
theorem op_eq : OpR X (compareOp .Eq) rEq := by
  intro pins s σ H x y v u Q I rx ry h
  obtain ⟨hs, q⟩ := h
  cases x with
  | non =>
    cases rx
    cases y with
    | non => cases ry; exact PySem.EqNone.eq_none_none (fin_bl I q (by simp))
    | bl j => cases ry; exact PySem.EqNone.eq_none_bool (fin_bl I q (by simp))
    | int j => obtain ⟨t', rfl⟩ := ry; exact PySem.EqNone.eq_none_int (fin_bl I q (by simp))
    | str j => obtain ⟨t', rfl⟩ := ry; exact PySem.EqNone.eq_none_str (fin_bl I q (by simp))
    | _ => exact absurd (show false = true from hs) Bool.false_ne_true
  | bl i =>
    cases rx
    cases y with
    | non => cases ry; exact PySem.EqNone.eq_bool_none (fin_bl I q (by simp))
    | bl j => cases ry; exact eq_bool (fin_bl I q dec_bl)
    | str j => obtain ⟨t', rfl⟩ := ry; exact PySem.EqMixed.eq_bool_str (fin_bl I q (by simp))
    | _ => exact absurd (show false = true from hs) Bool.false_ne_true
  | int i =>
    obtain ⟨t, rfl⟩ := rx
    cases y with
    | non => cases ry; exact PySem.EqNone.eq_int_none (fin_bl I q (by simp))
    | int j => obtain ⟨t', rfl⟩ := ry; exact eq_int (fin_bl I q dec_int)
    | str j => obtain ⟨t', rfl⟩ := ry; exact PySem.EqMixed.eq_int_str (fin_bl I q (by simp))
    | _ => exact absurd (show false = true from hs) Bool.false_ne_true
  | str i =>
    obtain ⟨t, rfl⟩ := rx
    cases y with
    | non => cases ry; exact PySem.EqNone.eq_str_none (fin_bl I q (by simp))
    | bl j => cases ry; exact PySem.EqMixed.eq_str_bool (fin_bl I q (by simp))
    | int j => obtain ⟨t', rfl⟩ := ry; exact PySem.EqMixed.eq_str_int (fin_bl I q (by simp))
    | str j => obtain ⟨t', rfl⟩ := ry; exact eq_str (fin_bl I q dec_str)
    | _ => exact absurd (show false = true from hs) Bool.false_ne_true
  | byt i =>
    obtain ⟨t, rfl⟩ := rx
    cases y with
    | byt j => obtain ⟨t', rfl⟩ := ry; exact PySem.W.eq_bytes (fin_bl I q dec_byt)
    | _ => exact absurd (show false = true from hs) Bool.false_ne_true
  | _ => cases y <;> exact absurd (show false = true from hs) Bool.false_ne_true
theorem op_ne : OpR X (compareOp .NotEq) rNe := by
  intro pins s σ H x y v u Q I rx ry h
  obtain ⟨hs, q⟩ := h
  cases x with
  | non =>
    cases rx
    cases y with
    | non => cases ry; exact PySem.EqNone.ne_none_none (fin_bl I q (by simp))
    | bl j => cases ry; exact PySem.EqNone.ne_none_bool (fin_bl I q (by simp))
    | int j => obtain ⟨t', rfl⟩ := ry; exact PySem.EqNone.ne_none_int (fin_bl I q (by simp))
    | str j => obtain ⟨t', rfl⟩ := ry; exact PySem.EqNone.ne_none_str (fin_bl I q (by simp))
    | _ => exact absurd (show false = true from hs) Bool.false_ne_true
  | bl i =>
    cases rx
    cases y with
    | non => cases ry; exact PySem.EqNone.ne_bool_none (fin_bl I q (by simp))
    | bl j => cases ry; exact ne_bool (fin_bl I q (congrArg not dec_bl))
    | str j => obtain ⟨t', rfl⟩ := ry; exact PySem.EqMixed.ne_bool_str (fin_bl I q (by simp))
    | _ => exact absurd (show false = true from hs) Bool.false_ne_true
  | int i =>
    obtain ⟨t, rfl⟩ := rx
    cases y with
    | non => cases ry; exact PySem.EqNone.ne_int_none (fin_bl I q (by simp))
    | int j => obtain ⟨t', rfl⟩ := ry; exact ne_int (fin_bl I q (congrArg not dec_int))
    | str j => obtain ⟨t', rfl⟩ := ry; exact PySem.EqMixed.ne_int_str (fin_bl I q (by simp))
    | _ => exact absurd (show false = true from hs) Bool.false_ne_true
  | str i =>
    obtain ⟨t, rfl⟩ := rx
    cases y with
    | non => cases ry; exact PySem.EqNone.ne_str_none (fin_bl I q (by simp))
    | bl j => cases ry; exact PySem.EqMixed.ne_str_bool (fin_bl I q (by simp))
    | int j => obtain ⟨t', rfl⟩ := ry; exact PySem.EqMixed.ne_str_int (fin_bl I q (by simp))
    | str j => obtain ⟨t', rfl⟩ := ry; exact ne_str (fin_bl I q (congrArg not dec_str))
    | _ => exact absurd (show false = true from hs) Bool.false_ne_true
  | byt i =>
    obtain ⟨t, rfl⟩ := rx
    cases y with
    | byt j => obtain ⟨t', rfl⟩ := ry; exact PySem.W.ne_bytes (fin_bl I q (congrArg not dec_byt))
    | _ => exact absurd (show false = true from hs) Bool.false_ne_true
  | _ => cases y <;> exact absurd (show false = true from hs) Bool.false_ne_true

theorem op_lt : OpR X (compareOp .Lt) (rI0 fun i j => .bl (decide (i < j))) := opB0 fun _ _ _ _ _ _ _ q => lt_int q
theorem op_gt : OpR X (compareOp .Gt) (rI0 fun i j => .bl (decide (j < i))) := opB0 fun _ _ _ _ _ _ _ q => gt_int q
theorem op_ge : OpR X (compareOp .GtE) (rI0 fun i j => .bl (decide (j ≤ i))) := opB0 fun _ _ _ _ _ _ _ q => ge_int q
/-- is None, is not None: the right side a value none -/
theorem op_isN : OpR X (compareOp .Is) (fun x y H Q => y = .non ∧ Q (.bl (decide (x = .non))) H) := by
  intro pins s σ H x y v u Q I rx ry h
  obtain ⟨rfl, q⟩ := h
  cases ry
  refine is_none_gen (fin_bl I q ?_)
  cases x <;> first
    | (cases rx; rfl)
    | (obtain ⟨t, rfl⟩ := rx; rfl)
theorem op_notN : OpR X (compareOp .IsNot) (fun x y H Q => y = .non ∧ Q (.bl (!decide (x = .non))) H) := by
  intro pins s σ H x y v u Q I rx ry h
  obtain ⟨rfl, q⟩ := h
  cases ry
  refine isnot_none_gen (fin_bl I q ?_)
  cases x <;> first
    | (cases rx; rfl)
    | (obtain ⟨t, rfl⟩ := rx; rfl)

theorem nomark (b : Expr) {op : CmpOp} (h : op ≠ .In := by decide) (h2 : op ≠ .NotIn := by decide) : behindInMarks op b = false := by
  have e1 : (op == CmpOp.In) = false := by cases op <;> first | rfl | exact absurd rfl h
  have e2 : (op == CmpOp.NotIn) = false := by cases op <;> first | rfl | exact absurd rfl h2
  cases b <;> simp [behindInMarks, e1, e2]
/-- a comparison as a value; hm: nomark b, or (for in, not in) by with_unfolding_all rfl -/
theorem pe_cmpR {op : CmpOp} {r : R2} (ho : OpR X (compareOp op) r) (ha : PE X a ta) (hb : PE X b tb) (hm : behindInMarks op b = false) : PE X (.Compare a [op] [b] pos) (tOp r ta tb) := by
  intro pins s σ H Q I h
  exact wpAny_Compare1 (binT ha hb I h fun v u s2 x y H2 I2 rx ry q => ho pins s2 σ H2 x y v u Q I2 rx ry q) hm
/-- a reading of a value as a test -/
def tTest (t : TE) : TT := fun σ H Q => t σ H fun x H' => ∃ k, x = .bl k ∧ Q k H'
theorem pt_cmpR {op : CmpOp} {r : R2} (ho : OpR X (compareOp op) r) (ha : PE X a ta) (hb : PE X b tb) (hm : behindInMarks op b = false) : PT X (.Compare a [op] [b] pos) (tTest (tOp r ta tb)) := by
  intro pins s σ H Q I h
  refine wpAny_isTrue_Compare1 (thn (ha pins s σ H _ I h) fun v s1 ⟨x, H1, I1, r1, q1⟩ => thn (hb pins s1 σ H1 _ I1 q1) fun u s2 ⟨y, H2, I2, r2, q2⟩ =>
    thn (ho pins s2 σ H2 x y v u _ I2 r1 r2 q2) fun c s3 ⟨z, H3, I3, r3, k, e, q3⟩ => ?_) hm
  subst e
  cases r3
  exact wpAny_truthy_bool ⟨H3, I3, q3⟩
/-! ### truth -/
/-- a value's truth by the abstract heap -/
def TruV (K : PySem.W.Frag) (x : V) (H : Hp) (k : Bool) : Prop :=
  match x with
  | .non => k = false
  | .bl b => k = b
  | .int i => k = (i != 0)
  | .str y => y.length ≤ sizeLine ∧ k = ((y.length : Int) != 0)
  | .byt y => y.size ≤ sizeLine ∧ k = ((y.size : Int) != 0)
  | .ref p => (∃ xs, SqL K H p xs ∧ k = !xs.isEmpty) ∨ (∃ xs, SqT K H p xs ∧ k = !xs.isEmpty) ∨ ∃ kvs, H p = some (.dK kvs) ∧ k = !kvs.isEmpty
  | _ => False
theorem isEmpty_kv {κ : Type} {kvs : List (κ × V)} {vs : List (κ × Value)} (r : KV kvs vs) : (!vs.isEmpty) = !kvs.isEmpty := by
  cases r <;> rfl
theorem isEmpty_of {xs : List V} {its : List Value} (r : Vals xs its) : (!its.toArray.isEmpty) = !xs.isEmpty := by
  cases r <;> simp
theorem line63 : (sizeLine : Nat) < 2 ^ 63 := by rw [sizeLine_eq]; decide
theorem tru_ok : TruR X (fun x H Q => ∃ k, TruV X.K x H k ∧ Q k H) := by
  intro pins s σ H x v Q I rx h
  obtain ⟨k, e, q⟩ := h
  have hl := line63
  have hs : sizeLine = 16777216 := sizeLine_eq
  cases x with
  | non =>
    cases rx
    have e' : k = false := e
    subst e'
    exact truthy_none ⟨H, I, q⟩
  | bl b =>
    cases rx
    have e' : k = b := e
    subst e'
    exact wpAny_truthy_bool ⟨H, I, q⟩
  | int i =>
    obtain ⟨t, rfl⟩ := rx
    have e' : k = (i != 0) := e
    subst e'
    exact PySem.P.truthy_int ⟨H, I, q⟩
  | str y =>
    obtain ⟨t, rfl⟩ := rx
    obtain ⟨hy, e'⟩ : y.length ≤ sizeLine ∧ k = ((y.length : Int) != 0) := e
    subst e'
    exact PySem.P.truthy_str (by omega) ⟨H, I.tok _, q⟩
  | byt y =>
    obtain ⟨t, rfl⟩ := rx
    obtain ⟨hy, e'⟩ : y.size ≤ sizeLine ∧ k = ((y.size : Int) != 0) := e
    subst e'
    exact PySem.W.truthy_bytes (by omega) ⟨H, I.tok _, q⟩
  | ref p =>
    cases rx
    have e' : (∃ xs, SqL X.K H p xs ∧ k = !xs.isEmpty) ∨ (∃ xs, SqT X.K H p xs ∧ k = !xs.isEmpty) ∨ ∃ kvs, H p = some (.dK kvs) ∧ k = !kvs.isEmpty := e
    rcases e' with ⟨xs, hx, e'⟩ | ⟨xs, hx, e'⟩ | ⟨kvs, hx, e'⟩
    · subst e'
      obtain ⟨its, r, pl, hz⟩ := I.list hx
      have hlen := r.length
      exact wpAny_truthy_list pl.isList (by simp only [List.size_toArray]; omega) ⟨H, I.tok _, by rw [isEmpty_of r]; exact q⟩
    · subst e'
      obtain ⟨its, r, pl, hz⟩ := I.tuple hx
      have hlen := r.length
      exact truthy_tuple pl (by simp only [List.size_toArray]; omega) ⟨H, I.tok _, by rw [isEmpty_of r]; exact q⟩
    · subst e'
      obtain ⟨hz, hS, vs, r, m⟩ : kvs.length ≤ sizeLine ∧ (p == sysModules) = false ∧ ∃ vs, KV kvs vs ∧ s.heap.DictOf (mixKind X.prog X.w) p vs := I.hok p _ hx
      have hlen : kvs.length = vs.length := Paired.length r
      exact wpAny_truthy_dict hS m (by omega) ⟨H, I.tok _, by rw [isEmpty_kv r]; exact q⟩
  | _ => exact (show False from e).elim
/-! ### strs and bytes -/
theorem op_add_str : OpR X (binaryOp .Add) (fun x y H Q => ∃ i j, x = .str i ∧ y = .str j ∧ i.length + j.length ≤ sizeLine ∧ Q (.str (i ++ j)) H) := by
  intro pins s σ H x y v u Q I rx ry h
  obtain ⟨i, j, rfl, rfl, hz, q⟩ := h
  obtain ⟨t, rfl⟩ := rx
  obtain ⟨t', rfl⟩ := ry
  exact add_str (fun t' tk => ⟨.str (i ++ j), H, I.tok _, ⟨_, rfl⟩, q⟩) hz
/-! ### scalar builtins, by CallR -/
theorem vals1 {x : V} {us : List Value} (r : Vals [x] us) : ∃ u, us = [u] ∧ RelV x u := by
  cases r with
  | cons r1 r2 => cases r2; exact ⟨_, rfl, r1⟩
theorem vals2 {x y : V} {us : List Value} (r : Vals [x, y] us) : ∃ u w', us = [u, w'] ∧ RelV x u ∧ RelV y w' := by
  cases r with
  | cons r1 r2 =>
    cases r2 with
    | cons r3 r4 => cases r4; exact ⟨_, _, rfl, r1, r3⟩
theorem call_abs : CallR X (.builtin "abs") (fun xs H Q => ∃ i, xs = [.int i] ∧ Q (.int (if i < 0 then -i else i)) H) := by
  intro pins s σ H xs us Q I r h
  obtain ⟨i, rfl, q⟩ := h
  obtain ⟨u, rfl, t, rfl⟩ := vals1 r
  exact call_abs_int fun u tk => ⟨.int (if i < 0 then -i else i), H, I.tok _, ⟨_, rfl⟩, q⟩
theorem call_max2 (hc : X.calm = true) : CallR X (.builtin "max") (fun xs H Q => ∃ i j, xs = [.int i, .int j] ∧ Q (.int (if j > i then j else i)) H) := by
  intro pins s σ H xs us Q I r h
  obtain ⟨i, j, rfl, q⟩ := h
  obtain ⟨u, w', rfl, ⟨t, rfl⟩, ⟨t', rfl⟩⟩ := vals2 r
  refine max_two_ints (I.ok.hd hc) fun h' tk k => ⟨_, H, I.kept k, ?_, q⟩
  by_cases hj : j > i
  · rw [if_pos hj, if_pos hj]; exact ⟨_, rfl⟩
  · rw [if_neg hj, if_neg hj]; exact ⟨_, rfl⟩
end
end L2

namespace L2
open PySem PySem.Spec PyProof.Rows

/-! ### an instance, its attributes a map -/
structure ObjM (h : Heap) (x dx C : Addr) (mA : Str → Option Value) : Prop where
  obj : h.get? x = some (PySem.W.instObj C dx)
  ns : h.Ns1 dx mA
  ne : dx ≠ x

theorem lookIn_ns {h : Heap} {dx : Addr} {mA : Str → Option Value} (n : h.Ns1 dx mA) : ∃ od, h.get? dx = some od ∧ ∀ name, PySem.W.lookIn name od = some (mA name) := by
  obtain ⟨o, es, ep, ho, hd, hk, _, hm⟩ := n
  refine ⟨o, ho, fun name => ?_⟩
  have e := hm name
  unfold nsFind findBy at e
  rw [← Array.find?_toList] at e
  unfold PySem.W.lookIn
  rw [hd]
  dsimp only
  split
  · rename_i y q
    rw [q] at e
    exact congrArg some e
  · rename_i q
    rw [q] at e
    have a : es.toList.any (·.refKey) = false := by
      rw [List.any_eq_false]
      intro y hy
      obtain ⟨z, t, hkey⟩ := hk y (Array.mem_toList_iff.mp hy)
      simp [DictEntry.refKey, hkey]
    have a' : ¬ es.toList.any (·.refKey) = true := by rw [a]; exact Bool.false_ne_true
    rw [if_neg a']
    exact congrArg some e

theorem ObjM.look {h : Heap} {x dx C : Addr} {mA : Str → Option Value} (I : ObjM h x dx C mA) : ∃ od, PySem.W.InstAt h x (PySem.W.instObj C dx) C (some od) ∧ ∀ name, PySem.W.lookIn name od = some (mA name) :=
  let ⟨od, ho, hl⟩ := lookIn_ns I.ns
  ⟨od, ⟨I.obj, rfl, rfl, ho⟩, hl⟩

section
variable {prog : Program} {w : World} {A : Around} {E : Value → Shared → Prop} {s : Shared} {K : PySem.W.Frag} {x dx C f : Addr} {mA : Str → Option Value} {name : Str} {v : Value}

theorem get_map {expr : Bool} {Q : Value → Shared → Prop} (X : K.In s.heap) (I : ObjM s.heap x dx C mA) (hg : PySem.W.plainGet K C name = true) (hh : PySem.W.hasDictIn K C = true)
    (ha : PySem.W.findIn K (.ref C) name = some none) (hv : mA name = some v) (hv' : PySem.W.handedIn v = true) (h : Q v { s with toks := s.toks + 1 }) :
    wpAny (model prog w) A (getAttr (.ref x) name expr) Q E s := by
  obtain ⟨od, J, hl⟩ := I.look
  exact PySem.W.get_value X J (PySem.W.plainGet_of hg).1 (PySem.W.findObj_own hh ha rfl (by rw [hl, hv])) hv' h

theorem get_meth {pl : Sem Bool} {Q : Value × List Value → Shared → Prop} (X : K.In s.heap) (I : ObjM s.heap x dx C mA) (hg : PySem.W.plainGet K C name = true)
    (hf : PySem.W.findIn K (.ref C) name = some (some (.ref f))) (ht : PySem.W.isFn K (.ref f) = true) (hv : mA name = none) (h : Q (.ref f, [.ref x]) s) :
    wpAny (model prog w) A (getMethod (.ref x) name pl) Q E s := by
  obtain ⟨od, J, hl⟩ := I.look
  exact PySem.W.method_fn X J (PySem.W.plainGet_of hg).1 (PySem.W.plainGet_of hg).2 hf (beq_iff_eq.mp ht) (by show (PySem.W.lookIn name od).map (·.isSome) = some false; rw [hl, hv]; rfl) h

theorem set_map {ns : List Str} {Q : Unit → Shared → Prop} (X : K.In s.heap) (I : ObjM s.heap x dx C mA)
    (hs : PySem.W.findIn K (.ref C) "__setattr__" = some (some (.builtin "object.__setattr__"))) (hp : PySem.W.plainOver K C = true) (ht : PySem.W.takerIn K C name = some none) (hh : PySem.W.hasDictIn K C = true)
    (hw : PySem.Within mA ns) (hsz : ns.length ≤ sizeLine)
    (h : ∀ h', ObjM h' x dx C (fun y => if y = name then some v else mA y) → Heap.SameBut dx s.heap h' → Q () { s with heap := h', toks := s.toks + 2 }) :
    wpAny (model prog w) A (setAttr (.ref x) name v) Q E s := by
  obtain ⟨od, J, hl⟩ := I.look
  refine PySem.W.set_plain X J hs (PySem.W.osa_open (s := { s with toks := s.toks + 1 }) (r := none) X J hp ht fun b => ?_)
  obtain ⟨cd, hc, hd'⟩ := PySem.W.any_some hh
  have hx : s.heap.get? x = some ⟨.ref C, some dx, .plain, #[]⟩ := I.obj
  refine wpAny_bind (wpAny_pure (wpAny_bind (wpAny_bind (wpAny_loadPart hx (wpAny_bind (PySem.W.Looks.here (s := { s with toks := s.toks + 1 }) (PySem.W.looks_clsIn X hc) ?_))))))
  rw [hd']
  refine wpAny_pure (a := some dx) (wpAny_bind (wpAny_pure (wpAny_bind ?_)))
  refine wpAny_nsSet1 (s := { s with toks := s.toks + 1 }) I.ns fun h' hn2 hs2 => ?_
  obtain ⟨oD, esD, epD, hoD, hdD, hcD⟩ := hn2.count (PySem.Within.cons name v hw)
  refine wpAny_bind (wpAny_lookBehind hoD (by rw [hdD]; exact pastItsLine_dict (Nat.le_trans hcD (by rw [List.length_cons]; omega))) ?_)
  exact wpAny_pure (h _ ⟨(hs2.2 _ (Ne.symm I.ne)).trans I.obj, hn2, I.ne⟩ hs2)

/-- C(..): the dict at the heap's end, the instance behind it; then its __init__ -/
theorem make_map {R : Result → Shared → Prop} {vs : List Value} {kw : List (Str × Value)} (X : K.In s.heap) (hm : PySem.W.makesIn K C = true)
    (hi : PySem.W.findIn K (.ref C) "__init__" = some (some (.ref f))) (hf : PySem.W.typeIn K (.ref f) = some (.type "function"))
    (h : codeAny (model prog w) (A.under (.builtin "type.__call__" ⟨.ref C :: vs, kw⟩)) (.call (.ref f) ⟨.ref (s.heap.objs.size + 1) :: vs, kw⟩) (PySem.W.InitBack (s.heap.objs.size + 1) R)
      { s with heap := (s.heap.push PySem.W.emptyDict).push (PySem.W.instObj C s.heap.objs.size) }) :
    codeAny (model prog w) A (.call (.ref C) ⟨vs, kw⟩) R s := by
  obtain ⟨hh, g, d, t, os⟩ := s
  exact PySem.W.make_core (PySem.W.makes_of X hm) (PySem.W.looks_findIn X hi) (fun self => PySem.W.bind_fn X self hf) (.inl rfl) h
end

/-! ### the attributes as a list of pairs -/
def putF (f : Str) (v : V) : List (Str × V) → List (Str × V)
  | [] => [(f, v)]
  | (g, x) :: r => if g = f then (g, v) :: r else (g, x) :: putF f v r
theorem lookup_putF (f g : Str) (v : V) : ∀ fs : List (Str × V), (putF f v fs).lookup g = if g = f then some v else fs.lookup g
  | [] => by
    show List.lookup g [(f, v)] = _
    by_cases h : g = f
    · have hb : (g == f) = true := beq_iff_eq.mpr h
      simp only [List.lookup, hb, if_pos h]
    · have hb : (g == f) = false := beq_eq_false_iff_ne.mpr h
      simp only [List.lookup, hb, if_neg h]
  | (k, x) :: r => by
    have ih := lookup_putF f g v r
    rw [show putF f v ((k, x) :: r) = (if k = f then (k, v) :: r else (k, x) :: putF f v r) from rfl]
    by_cases hk : k = f
    · rw [if_pos hk]
      by_cases h : g = k
      · have hb : (g == k) = true := beq_iff_eq.mpr h
        simp only [List.lookup, hb, if_pos (h.trans hk)]
      · have hb : (g == k) = false := beq_eq_false_iff_ne.mpr h
        simp only [List.lookup, hb, if_neg (fun e : g = f => h (e.trans hk.symm))]
    · rw [if_neg hk]
      by_cases h : g = k
      · have hb : (g == k) = true := beq_iff_eq.mpr h
        simp only [List.lookup, hb, if_neg (fun e : g = f => hk (h.symm.trans e))]
      · have hb : (g == k) = false := beq_eq_false_iff_ne.mpr h
        simp only [List.lookup, hb]
        exact ih
theorem keys_putF (f : Str) (v : V) : ∀ fs : List (Str × V), f ∈ (putF f v fs).map (·.1) ∧ ∀ g, g ∈ fs.map (·.1) → g ∈ (putF f v fs).map (·.1)
  | [] => ⟨by simp [putF], fun g h => by simp at h⟩
  | (k, x) :: r => by
    obtain ⟨i1, i2⟩ := keys_putF f v r
    rw [show putF f v ((k, x) :: r) = (if k = f then (k, v) :: r else (k, x) :: putF f v r) from rfl]
    by_cases hk : k = f
    · rw [if_pos hk]
      subst hk
      exact ⟨by simp, fun g h => by simpa using h⟩
    · rw [if_neg hk]
      refine ⟨?_, fun g h => ?_⟩
      · rw [List.map_cons]
        exact List.mem_cons_of_mem _ i1
      · rw [List.map_cons] at h ⊢
        rcases List.mem_cons.mp h with e | e
        · exact List.mem_cons.mpr (.inl e)
        · exact List.mem_cons_of_mem _ (i2 g e)
theorem length_putF (f : Str) (v : V) : ∀ fs : List (Str × V), (putF f v fs).length ≤ fs.length + 1
  | [] => by simp [putF]
  | (k, x) :: r => by
    have ih := length_putF f v r
    rw [show putF f v ((k, x) :: r) = (if k = f then (k, v) :: r else (k, x) :: putF f v r) from rfl]
    by_cases hk : k = f
    · rw [if_pos hk, List.length_cons, List.length_cons]; omega
    · rw [if_neg hk, List.length_cons, List.length_cons]; omega

theorem RelO.some_of {v : V} {o : Option Value} (r : RelO (some v) o) : ∃ u, o = some u ∧ RelV v u := by
  cases o with
  | none => exact (show False from r).elim
  | some u => exact ⟨u, rfl, r⟩
theorem RelO.none_of {o : Option Value} (r : RelO none o) : o = none := by
  cases o with
  | none => rfl
  | some u => exact (show False from r).elim
theorem handed_of {v : V} {u : Value} (r : RelV v u) : PySem.W.handedIn u = true := by
  cases v with
  | non => cases (show u = Value.none from r); rfl
  | bl b => cases (show u = Value.bool b from r); rfl
  | int i => obtain ⟨t, e⟩ := (show ∃ t, u = Value.int i t from r); cases e; rfl
  | str x => obtain ⟨t, e⟩ := (show ∃ t, u = Value.str x t from r); cases e; rfl
  | byt b => obtain ⟨t, e⟩ := (show ∃ t, u = Value.bytes b t from r); cases e; rfl
  | flt b => obtain ⟨t, e⟩ := (show ∃ t, u = Value.float b t from r); cases e; rfl
  | ref a => cases (show u = Value.ref a from r); rfl
  | ty n => cases (show u = Value.type n from r); rfl

section
variable {P : Program} {w : World} {H H' : Hp} {h h' : Heap} {a C dx : Addr} {fs fs' : List (Str × V)}
theorem ins_get (hok : HOk P w H h) (e : H a = some (.ins C dx fs)) : ∃ mA, ObjM h a dx C mA ∧ (∀ f, RelO (fs.lookup f) (mA f)) ∧ PySem.Within mA (fs.map (·.1)) ∧ fs.length ≤ 1000 ∧ H dx = some (.own a) := by
  obtain ⟨d, z, ne, ob, mA, n, r, q⟩ := (show ObjOk P w H h a (.ins C dx fs) from hok a _ e)
  exact ⟨mA, ⟨ob, n, ne⟩, r, q, z, d⟩
end

/-! ### what of the text a class must have -/
structure Cls (K : PySem.W.Frag) (C : Addr) : Prop where
  pg : PySem.W.plainGet K C Str.empty = true
  hd : PySem.W.hasDictIn K C = true
  po : PySem.W.plainOver K C = true
  sa : PySem.W.findIn K (.ref C) "__setattr__" = some (some (.builtin "object.__setattr__"))
theorem Cls.get {K : PySem.W.Frag} {C : Addr} (c : Cls K C) (f : Str) : PySem.W.plainGet K C f = true := c.pg
/-- no class of it has the name -/
def NoAttr (K : PySem.W.Frag) (C : Addr) (f : Str) : Prop := PySem.W.findIn K (.ref C) f = some none
theorem NoAttr.taker {K : PySem.W.Frag} {C : Addr} {f : Str} (n : NoAttr K C f) : PySem.W.takerIn K C f = some none := by
  unfold PySem.W.takerIn
  rw [show PySem.W.findIn K (.ref C) f = some none from n]
  rfl
/-- a method: a plain def of the class or of one above it -/
structure Meth (K : PySem.W.Frag) (C : Addr) (m : Str) (f : Addr) : Prop where
  at_ : PySem.W.findIn K (.ref C) m = some (some (.ref f))
  fn : PySem.W.isFn K (.ref f) = true
  kp : PySem.W.keepIn K (.ref f) = true

section
variable {X : Cx} {pins : List (Addr × Obj)} {σ : St} {H : Hp} {s : Shared} {a C dx : Addr} {fs : List (Str × V)} {f : Str} {v : V} {A : Around} {E : Value → Shared → Prop}

theorem getattr_ok {b : Bool} {Q : Value → Shared → Prop} (I : Inv X pins σ H s) (e : H a = some (.ins C dx fs)) (c : Cls X.K C) (n : NoAttr X.K C f) (l : fs.lookup f = some v)
    (h : ∀ u s', Inv X pins σ H s' → RelV v u → Q u s') : wpAny (model X.prog X.w) A (getAttr (.ref a) f b) Q E s := by
  obtain ⟨mA, O, r, _, _, _⟩ := ins_get I.hok e
  obtain ⟨u, hu, ru⟩ := RelO.some_of (v := v) (o := mA f) (by rw [← l]; exact r f)
  exact get_map I.kIn O (c.get f) c.hd n hu (handed_of ru) (h u _ (I.tok _) ru)

theorem getmeth_ok {m : Str} {g : Addr} {pl : Sem Bool} {Q : Value × List Value → Shared → Prop} (I : Inv X pins σ H s) (e : H a = some (.ins C dx fs)) (c : Cls X.K C) (k : Meth X.K C m g) (l : fs.lookup m = none)
    (h : Q (.ref g, [.ref a]) s) : wpAny (model X.prog X.w) A (getMethod (.ref a) m pl) Q E s := by
  obtain ⟨mA, O, r, _, _, _⟩ := ins_get I.hok e
  have hn : mA m = none := RelO.none_of (by rw [← l]; exact r m)
  exact get_meth I.kIn O (c.get m) k.at_ k.fn hn h

theorem setattr_ok {y : V} {u : Value} {Q : Unit → Shared → Prop} (I : Inv X pins σ H s) (e : H a = some (.ins C dx fs)) (c : Cls X.K C) (n : NoAttr X.K C f) (hl : fs.length < 1000) (ry : RelV y u)
    (h : ∀ s', Inv X pins σ (upd H a (.ins C dx (putF f y fs))) s' → Q () s') : wpAny (model X.prog X.w) A (setAttr (.ref a) f u) Q E s := by
  obtain ⟨mA, O, r, wi, _, ho⟩ := ins_get I.hok e
  have hz : (fs.map (·.1)).length ≤ sizeLine := by rw [List.length_map, sizeLine_eq]; omega
  refine set_map I.kIn O c.sa c.po n.taker c.hd wi hz fun h' O' sb => h _ ?_
  have hd : ∃ o, h'.get? dx = some o := let ⟨o, _, _, e', _⟩ := O'.ns; ⟨o, e'⟩
  refine I.write (x := a) (e := dx) (by rw [e]; exact True.intro) (.inr ho) (fun b q hb z => (sb.2 b hb).trans z) hd ?_
  refine ⟨by rw [upd_ne O.ne]; exact ho, ?_, O.ne, O'.obj, _, O'.ns, fun g => ?_, fun g hg => ?_⟩
  · have := length_putF f y fs; omega
  · show RelO ((putF f y fs).lookup g) (if g = f then some u else mA g)
    rw [lookup_putF]
    by_cases q : g = f
    · rw [if_pos q, if_pos q]; exact ry
    · rw [if_neg q, if_neg q]; exact r g
  · by_cases q : g = f
    · rw [q]; exact (keys_putF f y fs).1
    · refine (keys_putF f y fs).2 g (wi g fun z => hg ?_)
      show (if g = f then some u else mA g) = none
      rw [if_neg q]; exact z

/-- a new instance, tracked, without attributes -/
theorem Inv.made (I : Inv X pins σ H s) : Inv X pins σ (upd (upd H s.heap.objs.size (.own (s.heap.objs.size + 1))) (s.heap.objs.size + 1) (.ins C s.heap.objs.size []))
    { s with heap := (s.heap.push PySem.W.emptyDict).push (PySem.W.instObj C s.heap.objs.size) } := by
  have e1 : (s.heap.push PySem.W.emptyDict).get? s.heap.objs.size = some PySem.W.emptyDict := Heap.get?_push_size s.heap rfl
  have e2 : ((s.heap.push PySem.W.emptyDict).push (PySem.W.instObj C s.heap.objs.size)).get? (s.heap.objs.size + 1) = some (PySem.W.instObj C s.heap.objs.size) := by
    have := Heap.get?_push_size (s.heap.push PySem.W.emptyDict) (o := PySem.W.instObj C s.heap.objs.size) rfl
    rwa [Heap.size_push] at this
  have e3 : (s.heap.push PySem.W.emptyDict).Ns s.heap.objs.size (fun _ => none) := ⟨PySem.W.emptyDict, #[], _, e1, rfl, (fun e he => absurd he (by simp)), fun _ => rfl⟩
  have I1 := I.laid (a := s.heap.objs.size) (o := .own (s.heap.objs.size + 1)) (h' := s.heap.push PySem.W.emptyDict) (t' := s.toks) (fun b u q => Heap.get?_push_of_some _ q) (Nat.le_refl _) ⟨_, e1⟩
  refine I1.laid (a := s.heap.objs.size + 1) (o := .ins C s.heap.objs.size []) (t' := s.toks) (fun b u q => Heap.get?_push_of_some _ q) (Nat.le_of_eq (Heap.size_push _ _)) ?_
  have ne : s.heap.objs.size ≠ s.heap.objs.size + 1 := Nat.ne_of_lt (Nat.lt_succ_self _)
  refine ⟨by rw [upd_ne ne, upd_same], Nat.zero_le _, ne, e2, fun _ => none, (Heap.Ns1.of_empty e3).at fun o q => Heap.get?_push_of_some _ q, fun _ => True.intro, fun y hy => absurd rfl hy⟩

/-- e.f where nothing but the object is asked: through attributeBase (super) and the last hold -/
theorem attr_of {prog : Program} {w : World} {env : Env} {e : Expr} {f : Str} {pos : Pos} {s : Shared} {Q : Value → Shared → Prop} (hb : attributeBase e f env (eval e env) = eval e env)
    (h : wpAny (model prog w) A (eval e env) (fun o s₁ => wpAny (model prog w) A (getAttr o f true) Q E s₁) E s) : wpAny (model prog w) A (eval (.Attribute e f pos) env) Q E s :=
  Attribute_any_ h (by rw [arm_eval_Attribute, hb])
end

/-! ### readings and rules -/
/-- e.f, an attribute of the instance -/
def tFld (K : PySem.W.Frag) (ta : TE) (f : Str) : TE := fun σ H Q => ta σ H fun x H1 => ∃ a C dx fs v, x = .ref a ∧ H1 a = some (.ins C dx fs) ∧ Cls K C ∧ NoAttr K C f ∧ fs.lookup f = some v ∧ Q v H1
/-- e.f = value -/
def sFld (K : PySem.W.Frag) (ta tv : TE) (f : Str) : TS := fun D σ H => tv σ H fun y H1 => ta σ H1 fun x H2 => ∃ a C dx fs, x = .ref a ∧ H2 a = some (.ins C dx fs) ∧ Cls K C ∧ NoAttr K C f ∧ fs.length < 1000 ∧
  D.nx σ (upd H2 a (.ins C dx (putF f y fs)))
section
variable {X : Cx} {o e value : Expr} {f : Str} {pos pos' tpos : Pos} {ta tv : TE}
theorem pe_fld (he : PE X e ta) (hb : attributeBase e f X.env (eval e X.env) = eval e X.env) : PE X (.Attribute e f pos) (tFld X.K ta f) := by
  intro pins s σ H Q I h
  refine attr_of hb (thn (he pins s σ H _ I h) fun u s1 ⟨x, H1, I1, rx, a, C, dx, fs, v, ex, ea, c, n, l, q⟩ => ?_)
  subst ex
  obtain rfl : u = Value.ref a := rx
  exact getattr_ok I1 ea c n l fun u' s2 I2 ru => ⟨v, H1, I2, ru, q⟩
theorem ps_fld (ha : PE X o ta) (hv : PE X value tv) (hs : swapsWith value (some (.Attribute o f pos')) pos.line X.env = pure false) : PS X (.Assign [.Attribute o f pos'] value pos) (sFld X.K ta tv f) := by
  intro pins s σ H D I h
  refine plainObj_wpAny_Assign_Attribute (thn (hv pins s σ H _ I h) fun u s1 ⟨y, H1, I1, ry, q⟩ => thn (ha pins s1 σ H1 _ I1 q) fun ov s2 ⟨x, H2, I2, rx, a, C, dx, fs, ex, ea, c, n, l, q2⟩ => ?_) hs
  subst ex
  obtain rfl : ov = Value.ref a := rx
  exact setattr_ok I2 ea c n l ry fun s3 I3 => ⟨σ, _, I3, q2⟩
end

/-! ### isinstance -/
section
variable {X : Cx} {pins : List (Addr × Obj)} {σ : St} {H : Hp} {s : Shared} {A : Around} {E : Value → Shared → Prop} {Q : Value → Shared → Prop} {c : Value} {b : Bool}
/-- the type of a value, as the fragment's deciders take it; for an instance its class -/
inductive TyOf (K : PySem.W.Frag) (H : Hp) : V → Value → Prop where
  | non : TyOf K H .non (.type "NoneType")
  | bl (x : Bool) : TyOf K H (.bl x) (.type "bool")
  | int (i : Int) : TyOf K H (.int i) (.type "int")
  | str (x : Str) : TyOf K H (.str x) (.type "str")
  | flt (x : UInt64) : TyOf K H (.flt x) (.type "float")
  | lst {a : Addr} {xs : List V} (e : H a = some (.lst xs)) : TyOf K H (.ref a) (.type "list")
  | frz {a : Addr} {o : Obj} {xs : List V} (e : H a = some (.frz o (.lst xs))) : TyOf K H (.ref a) (.type "list")
  | tup {a : Addr} {xs : List V} (e : H a = some (.tup xs)) : TyOf K H (.ref a) (.type "tuple")
  | dK {a : Addr} {kvs : List (Key × V)} (e : H a = some (.dK kvs)) : TyOf K H (.ref a) (.type "dict")
  | dT {a : Addr} {kvs : List (List Key × V)} (e : H a = some (.dT kvs)) : TyOf K H (.ref a) (.type "dict")
  | ins {a C dx : Addr} {fs : List (Str × V)} (e : H a = some (.ins C dx fs)) (cl : Cls K C) (ha : PySem.W.findIn K (.ref C) "__class__" = some (some (.builtin "object.__class__")))
      (hn : PySem.W.specialIn K (.builtin "object.__class__") "__get__" = some (some (.builtin "getset_descriptor.__get__"))) (htk : PySem.W.takesIn K (.builtin "object.__class__") = some true)
      (hm : PySem.W.mroIn K C (.type "object") = some true) : TyOf K H (.ref a) (.ref C)
/-- isinstance(x, c) for one class c, a built-in or an own one: kitOne's answer -/
theorem isinst_ok {x : V} {u t : Value} (I : Inv X pins σ H s) (rx : RelV x u) (ty : TyOf X.K H x t) (e : PySem.W.kitOne X.K t c = some b) (h : ∀ tk, Q (.bool b) { s with toks := tk }) :
    wpAny (model X.prog X.w) A (call (.builtin "isinstance") [u, c]) Q E s := by
  cases ty with
  | non => cases (show u = Value.none from rx); exact PySem.W.kia_one PySem.W.kitx_none I.kIn True.intro e (fun z => nomatch z) h
  | bl y => cases (show u = Value.bool y from rx); exact PySem.W.kia_one PySem.W.kitx_bool I.kIn True.intro e (fun z => nomatch z) h
  | int i => obtain ⟨t, q⟩ := (show ∃ t, u = Value.int i t from rx); cases q; exact PySem.W.kia_one PySem.W.kitx_int I.kIn True.intro e (fun z => nomatch z) h
  | str y => obtain ⟨t, q⟩ := (show ∃ t, u = Value.str y t from rx); cases q; exact PySem.W.kia_one PySem.W.kitx_str I.kIn True.intro e (fun z => nomatch z) h
  | flt y => obtain ⟨t, q⟩ := (show ∃ t, u = Value.float y t from rx); cases q; exact PySem.W.kia_one PySem.W.kitx_float I.kIn True.intro e (fun z => nomatch z) h
  | @lst a xs ea =>
    cases (show u = Value.ref a from rx)
    obtain ⟨_, _, n, _, h1⟩ := (show ObjOk X.prog X.w H s.heap a (.lst xs) from I.hok a _ ea)
    exact PySem.W.kia_one PySem.W.kitx_list I.kIn ⟨_, h1, rfl⟩ e (fun z => nomatch z) h
  | @frz a ob xs ea =>
    cases (show u = Value.ref a from rx)
    obtain ⟨_, _, _, n, _, h1⟩ := (show ObjOk X.prog X.w H s.heap a (.frz ob (.lst xs)) from I.hok a _ ea)
    exact PySem.W.kia_one PySem.W.kitx_list I.kIn ⟨_, h1, rfl⟩ e (fun z => nomatch z) h
  | @tup a xs ea =>
    cases (show u = Value.ref a from rx)
    obtain ⟨_, _, _, p⟩ := (show ObjOk X.prog X.w H s.heap a (.tup xs) from I.hok a _ ea)
    obtain ⟨o, h1, h2, _⟩ := p
    exact PySem.W.kia_one PySem.W.kitx_tuple I.kIn ⟨o, h1, h2⟩ e (fun z => nomatch z) h
  | @dK a kvs ea =>
    cases (show u = Value.ref a from rx)
    obtain ⟨_, _, vs, _, p⟩ := (show ObjOk X.prog X.w H s.heap a (.dK kvs) from I.hok a _ ea)
    obtain ⟨o, es, ep, h1, h2, _⟩ := p
    exact PySem.W.kia_one PySem.W.kitx_dict I.kIn ⟨o, h1, h2.1⟩ e (fun z => nomatch z) h
  | @dT a kvs ea =>
    cases (show u = Value.ref a from rx)
    obtain ⟨_, _, xs, _, o, es, ep, h1, h2, _⟩ := (show ObjOk X.prog X.w H s.heap a (.dT kvs) from I.hok a _ ea)
    exact PySem.W.kia_one PySem.W.kitx_dict I.kIn ⟨o, h1, h2.1⟩ e (fun z => nomatch z) h
  | @ins a C dx fs ea cl ha hn htk hm =>
    cases (show u = Value.ref a from rx)
    obtain ⟨mA, O, _⟩ := ins_get I.hok ea
    obtain ⟨od, J, _⟩ := O.look
    exact PySem.W.kia_one (PySem.W.kitx_own (cl.get _) cl.hd ha hn htk hm) I.kIn J e (fun z => nomatch z) h
end
end L2

namespace L2
open PySem PySem.Spec PyProof.Rows

/-! ### room -/
structure Room (k : Nat) (A : Around) : Prop where
  hd : A.handled = none
  dp : A.depth + 3 * k + 5 < recursionLimit
  un : A.units + 16 * k + 200 < cLine
theorem Room.mono {j k : Nat} {A : Around} (r : Room k A) (h : j ≤ k) : Room j A := ⟨r.hd, by have := r.dp; omega, by have := r.un; omega⟩
theorem Room.deeper {k : Nat} {A : Around} (r : Room (k + 1) A) (env : Env) : Room k (A.deeper env) :=
  ⟨r.hd, by have := r.dp; show A.depth + 1 + 3 * k + 5 < _; omega, by have := r.un; show A.units + 3 + 16 * k + 200 < _; omega⟩
theorem make_depth {A : Around} {C : Addr} {us : List Value} {kw : List (Str × Value)} : (A.under (.builtin "type.__call__" ⟨.ref C :: us, kw⟩)).depth = A.depth + 1 := by
  first | rfl | simp [Around.under, Code.weight, Code.isCreation, Code.isGuard, Code.isCaller, Code.frames, Code.isFrame, guardIds]
theorem make_units {A : Around} {C : Addr} {us : List Value} {kw : List (Str × Value)} : (A.under (.builtin "type.__call__" ⟨.ref C :: us, kw⟩)).units = A.units + 1 := by
  first | rfl | simp [Around.under, Code.cUnits, Code.frames, Code.isFrame]
theorem Room.make {k : Nat} {A : Around} (r : Room (k + 1) A) (C : Addr) (us : List Value) (kw : List (Str × Value)) : Room k (A.under (.builtin "type.__call__" ⟨.ref C :: us, kw⟩)) :=
  ⟨r.hd, by have := r.dp; rw [make_depth]; omega, by have := r.un; rw [make_units]; omega⟩
theorem Room.depth {k : Nat} {A : Around} (r : Room k A) : A.depth < recursionLimit := by have := r.dp; omega
theorem Room.units {k : Nat} {A : Around} (r : Room k A) : A.units + 64 < cLine := by have := r.un; omega
/-! ### argument lists and displays -/
def tNil : TA := fun _ H Q => Q [] H
def tCons (ta : TE) (tr : TA) : TA := fun σ H Q => ta σ H fun x H1 => tr σ H1 fun xs H2 => Q (x :: xs) H2
section
variable {X : Cx} {e : Expr} {es : List Expr} {te : TE} {t : TA} {pos : Pos}
theorem pa_nil : PA X [] tNil := fun _ _ _ _ H Q I h => Calls.spliced_nil ⟨[], H, I, .nil, h⟩
theorem pa_cons (ha : PE X e te) (hr : PA X es t) (hs : starEach (e :: es) X.env = (false, eval e X.env) :: starEach es X.env := by rfl) : PA X (e :: es) (tCons te t) := by
  intro pos pins s σ H Q I h
  rw [hs]
  show wpAny _ _ (spliced ((false, eval e X.env) :: backTo pos (starEach es X.env))) _ _ s
  refine Calls.spliced_cons (thn (ha pins s σ H _ I h) fun u s1 ⟨x, H1, I1, r1, q1⟩ => ?_)
  exact thn (hr pos pins s1 σ H1 _ I1 q1) fun us s2 ⟨xs, H2, I2, r2, q2⟩ => ⟨x :: xs, H2, I2, .cons r1 r2, q2⟩

/-- a tuple, a list of written items -/
def tTup (t : TA) : TE := fun σ H Q => t σ H fun xs H1 => xs.length ≤ sizeLine ∧ ∀ p, H1 p = none → Q (.ref p) (upd H1 p (.tup xs))
theorem pe_tup {x1} (h : PA X es t) : PE X (.Tuple es x1 pos) (tTup t) := by
  intro pins s σ H Q I hq
  refine wpAny_Tuple_spliced (thn (h pos pins s σ H _ I hq) fun us s1 ⟨xs, H1, I1, r, z, q⟩ => ⟨by rw [← r.length]; exact z, ?_⟩)
  have hf : H1 s1.heap.objs.size = none := I1.hok.fresh (Nat.le_refl _)
  refine ⟨.ref s1.heap.objs.size, upd H1 s1.heap.objs.size (.tup xs), I1.laid (t' := s1.toks) (fun b u e => Heap.get?_push_of_some _ e) (Nat.le_refl _) ?_, rfl, q _ hf⟩
  exact ⟨z, us, r, ⟨_, Heap.get?_push_size _ rfl, rfl, _, rfl⟩⟩
end

/-! ### what a def promises -/
/-- a def's promise: the bound arguments in the parameters' order, the heap, the wanted end, the wanted exception -/
abbrev Sp := List V → Hp → VK → XK → Prop
/-- how an exception lies behind a call (file 08 gives it): the callers' frames, abstract heap and state ahead of the call, the wish, the exception, the state -/
abbrev CXT := List Env → Hp → Shared → XK → Value → Shared → Prop

/-- the state at a call -/
structure Env0 (P : Program) (w : World) (K : PySem.W.Frag) (mg : Str → Option Value) (base : Heap) (A : Around) (outer : List Env) (s : Shared) (H : Hp) : Prop where
  frames : A.frames = some outer
  mod : Mod K mg base
  bs : ∀ b o, base.get? b = some o → s.heap.get? b = some o ∧ H b = none
  bsz : base.objs.size ≤ s.heap.objs.size
  funs : s.heap.FunFrames base outer
  frf : ∀ b ∈ frs outer, H b = none
  hok : HOk P w H s.heap
  bare : AllBare s.gens
/-- a call's end -/
def CE (outer : List Env) (P : Program) (w : World) (H : Hp) (s : Shared) (Q : VK) (u : Value) (s' : Shared) : Prop :=
  ∃ v H', s'.os = s.os ∧ AllBare s'.gens ∧ Un (frs outer) [] H H' s.heap s'.heap ∧ HOk P w H' s'.heap ∧ RelV v u ∧ Q v H'
def CR (CX : CXT) (outer : List Env) (P : Program) (w : World) (H : Hp) (s : Shared) (Q : VK) (E : XK) (r : Result) (s' : Shared) : Prop :=
  match r with
  | .ok (.ret u) => CE outer P w H s Q u s'
  | .ok _ => False
  | .error e => CX outer H s E e s'
structure FnOk (P : Program) (w : World) (K : PySem.W.Frag) (mg : Str → Option Value) (base : Heap) (CX : CXT) (k : Nat) (f : Addr) (fd : FuncData) (ps : List Str) (sp : Sp) : Prop where
  len : ∀ vs H Q E, sp vs H Q E → vs.length = ps.length
  run : ∀ (A : Around) (outer : List Env) (s : Shared) (H : Hp) (args : Args) (us : List Value) (vs : List V) (Q : VK) (E : XK), Room k A → Env0 P w K mg base A outer s H → BindsTo s fd args (ps.zip us) → Vals vs us → sp vs H Q E →
    codeAny (model P w) A (.call (.ref f) args) (CR CX outer P w H s Q E) s
theorem Env0.make {P : Program} {w : World} {K : PySem.W.Frag} {mg : Str → Option Value} {base : Heap} {A : Around} {outer : List Env} {s : Shared} {H : Hp} (e : Env0 P w K mg base A outer s H) (C : Addr) (us : List Value) (kw : List (Str × Value)) :
    Env0 P w K mg base (A.under (.builtin "type.__call__" ⟨.ref C :: us, kw⟩)) outer s H := ⟨by first | exact e.frames | (simpa [Around.under, Code.envs, Code.isFrame, pushEnvs] using e.frames), e.mod, e.bs, e.bsz, e.funs, e.frf, e.hok, e.bare⟩
section
variable {X : Cx} {pins : List (Addr × Obj)} {σ : St} {H : Hp} {s s' : Shared}
/-- from a body: what a callee wants -/
theorem Inv.env0 (I : Inv X pins σ H s) : Env0 X.prog X.w X.K X.mg X.base X.A X.stack s H :=
  ⟨I.ok.frames, I.ok.mod, I.bs, Nat.le_trans I.ok.bsz I.sz, I.stack, I.stkFree, I.hok, I.bare⟩
/-- behind a call -/
theorem Inv.after {Q : VK} {u : Value} (I : Inv X pins σ H s) (h : CE X.stack X.prog X.w H s Q u s') : EP X pins σ Q u s' := by
  obtain ⟨v, H', os, bare, un, hok, r, q⟩ := h
  obtain ⟨hh, g, d, t, os'⟩ := s'
  obtain rfl : os' = s.os := os
  exact ⟨v, H', I.call (h' := hh) (g' := g) (d' := d) (t' := t) (ch := []) un hok bare (fun b z => absurd z (by simp)), r, q⟩
end

/-! ### calls -/
/-- f(..): the written arguments, then the defaults dvs; E: what is wanted of an exception -/
def tCall (sp : Sp) (dvs : List V) (E : XK) (t : TA) : TE := fun σ H Q => t σ H fun vs H1 => sp (vs ++ dvs) H1 Q E
/-- o.m(..) of an instance of the class at C -/
def tMeth (C : Addr) (m : Str) (sp : Sp) (dvs : List V) (E : XK) (ta : TE) (t : TA) : TE := fun σ H Q => ta σ H fun x H1 => ∃ a dx fs, x = .ref a ∧ H1 a = some (.ins C dx fs) ∧ fs.lookup m = none ∧
  t σ H1 fun vs H2 => sp (x :: (vs ++ dvs)) H2 Q E
/-- C(..): a new instance and its dict, then __init__ -/
def tMake (C : Addr) (sp : Sp) (dvs : List V) (E : XK) (t : TA) : TE := fun σ H Q => t σ H fun vs H1 => ∀ x dx, H1 x = none → H1 dx = none → dx ≠ x →
  sp (.ref x :: (vs ++ dvs)) (upd (upd H1 dx (.own x)) x (.ins C dx [])) (fun v H2 => v = .non ∧ Q (.ref x) H2) E

/-- how the parameters are bound: us the positional arguments, kw the keywords' values by name, ds the defaults that fill up -/
def Binds (K : PySem.W.Frag) (fd : FuncData) (ps : List Str) (ds : List Value) : Prop :=
  ∀ (s : Shared) (us : List Value), K.In s.heap → (us ++ ds).length = ps.length → BindsTo s fd ⟨us, []⟩ (ps.zip (us ++ ds))
/-- every parameter is given -/
theorem Binds.all {K : PySem.W.Frag} {fd : FuncData} {ps : List Str} (h : ∀ us : List Value, us.length = ps.length → bindArgs fd ⟨us, []⟩ = pure (ps.zip us)) : Binds K fd ps [] := fun s us _ hl => by
  rw [List.append_nil] at hl ⊢
  exact .of_eq (h us hl)

/-- an exception of a callee reaches what this body wants of exceptions -/
def Passes (CX : CXT) (X : Cx) (E : XK) : Prop := ∀ (pins : List (Addr × Obj)) (σ : St) (H : Hp) (s : Shared) (e : Value) (s' : Shared), Inv X pins σ H s → CX X.stack H s E e s' → X.xe e s'

section
variable {X : Cx} {CX : CXT} {k : Nat} {f C : Addr} {fd : FuncData} {ps : List Str} {sp : Sp} {dvs : List V} {ds : List Value} {E : XK} {x m : Str} {p pos apos : Pos} {e o : Expr} {es : List Expr} {ta : TE} {t : TA}

/-- the callee runs -/
theorem run_fn {pins : List (Addr × Obj)} {σ : St} {H : Hp} {s : Shared} {Q : VK} {us : List Value} {vs : List V} (F : FnOk X.prog X.w X.K X.mg X.base CX k f fd ps sp) (hr : Room k X.A) (hb : Binds X.K fd ps ds) (hd : Vals dvs ds) (hx : Passes CX X E)
    (I : Inv X pins σ H s) (r : Vals vs us) (h : sp (vs ++ dvs) H Q E) : wpAny (model X.prog X.w) X.A (call (.ref f) us) (EP X pins σ Q) X.xe s := by
  have r2 : Vals (vs ++ dvs) (us ++ ds) := r.append hd
  have hl : (us ++ ds).length = ps.length := by rw [← r2.length]; exact F.len _ _ _ _ h
  refine wpAny_call (codeAny_mono (F.run X.A X.stack s H ⟨us, []⟩ (us ++ ds) (vs ++ dvs) Q E hr I.env0 (hb s us I.kIn hl) r2 h) fun r s' hq => ?_)
  cases r with
  | error e => exact hx pins σ H s e s' I hq
  | ok fl =>
    cases fl with
    | ret u => exact I.after hq
    | next => exact False.elim hq
    | brk => exact False.elim hq
    | cont => exact False.elim hq

theorem pe_call (F : FnOk X.prog X.w X.K X.mg X.base CX k f fd ps sp) (hr : Room k X.A) (hg : Gl X x) (hm : X.mg x = some (.ref f)) (hk : PySem.W.keepIn X.K (.ref f) = true) (hb : Binds X.K fd ps ds) (hd : Vals dvs ds) (hx : Passes CX X E)
    (ha : PA X (e :: es) t) (hdb : (x == ("__debug__" : Str)) = false := by decide) (he : starEach (e :: es) X.env = (false, eval e X.env) :: starEach es X.env := by rfl) (hpl : (backTo pos (starEach es X.env)).any (·.1) = false := by rfl) :
    PE X (.Call (.Name x p) (e :: es) [] pos) (tCall sp dvs E t) := by
  intro pins s σ H Q I h
  refine wpAny_Call_Name_kw (ld_glob I hg hm ?_ hdb)
  refine PySem.W.callWith_K (h₀ := X.base) I.ok.mod.kin hk (thn (ha pos pins s σ H _ I h) fun us s1 ⟨vs, H1, I1, r, q⟩ => ⟨I1.kIn, ?_⟩) he hpl
  exact run_fn F hr hb hd hx I1 r q
/-- o.m(e, ..) -/
theorem pe_meth {pl : Sem Bool} (he : PE X o ta) (c : Cls X.K C) (hm : Meth X.K C m f) (F : FnOk X.prog X.w X.K X.mg X.base CX k f fd ps sp) (hr : Room k X.A) (hb : Binds X.K fd ps ds) (hd : Vals dvs ds) (hx : Passes CX X E) (ha : PA X (e :: es) t)
    (hst : starEach (e :: es) X.env = (false, eval e X.env) :: starEach es X.env := by rfl) (hpl : (backTo pos (starEach es X.env)).any (·.1) = false := by rfl)
    (ht : eval (.Call (.Attribute o m apos) (e :: es) [] pos) X.env = (do
      let ov ← eval o X.env
      standAt apos.atName
      let (f, first) ← holding [ov] (getMethod ov m pl)
      callWith pos f first (backTo pos (starEach (e :: es) X.env)) (backToKw pos (keywordEach [] X.env))) := by rfl) :
    PE X (.Call (.Attribute o m apos) (e :: es) [] pos) (tMeth C m sp dvs E ta t) := by
  intro pins s σ H Q I h
  refine PySem.W.methodCall_KW (pl := pl) (thn (he pins s σ H _ I h) fun u s1 ⟨x, H1, I1, rx, a, dx, fs, ex, ea, l, q⟩ => ?_) ht
  subst ex
  obtain rfl : u = Value.ref a := rx
  refine getmeth_ok I1 ea c hm l ?_
  refine PySem.W.callWith_K (first := [.ref a]) (h₀ := X.base) I.ok.mod.kin hm.kp (thn (ha pos pins s1 σ H1 _ I1 q) fun us s2 ⟨vs, H2, I2, r, q2⟩ => ⟨I2.kIn, ?_⟩) hst hpl
  exact run_fn (us := .ref a :: us) (vs := .ref a :: vs) F hr hb hd hx I2 (.cons rfl r) q2
/-- o.m() -/
theorem pe_meth0 {pl : Sem Bool} (he : PE X o ta) (c : Cls X.K C) (hm : Meth X.K C m f) (F : FnOk X.prog X.w X.K X.mg X.base CX k f fd ps sp) (hr : Room k X.A) (hb : Binds X.K fd ps ds) (hd : Vals dvs ds) (hx : Passes CX X E)
    (ht : eval (.Call (.Attribute o m apos) [] [] pos) X.env = (do
      let ov ← eval o X.env
      standAt apos.atName
      let (f, first) ← holding [ov] (getMethod ov m pl)
      callWith pos f first (backTo pos (starEach [] X.env)) (backToKw pos (keywordEach [] X.env))) := by rfl) :
    PE X (.Call (.Attribute o m apos) [] [] pos) (tMeth C m sp dvs E ta tNil) := by
  intro pins s σ H Q I h
  refine PySem.W.methodCall_KW (pl := pl) (thn (he pins s σ H _ I h) fun u s1 ⟨x, H1, I1, rx, a, dx, fs, ex, ea, l, q⟩ => ?_) ht
  subst ex
  obtain rfl : u = Value.ref a := rx
  refine getmeth_ok I1 ea c hm l ?_
  exact PySem.W.callWith_K0 (first := [.ref a]) I1.kIn hm.kp (run_fn (us := [.ref a]) (vs := [.ref a]) F hr hb hd hx I1 (.cons rfl .nil) q)

/-- what a class must have to be made -/
structure Mk (K : PySem.W.Frag) (C f : Addr) : Prop where
  makes : PySem.W.makesIn K C = true
  init : PySem.W.findIn K (.ref C) "__init__" = some (some (.ref f))
  fn : PySem.W.isFn K (.ref f) = true
  kp : PySem.W.keepIn K (.ref C) = true

theorem run_make {pins : List (Addr × Obj)} {σ : St} {H : Hp} {s : Shared} {Q : VK} {us : List Value} {vs : List V} (M : Mk X.K C f) (F : FnOk X.prog X.w X.K X.mg X.base CX k f fd ps sp) (hr : Room (k + 1) X.A) (hb : Binds X.K fd ps ds) (hd : Vals dvs ds)
    (hx : Passes CX X E) (I : Inv X pins σ H s) (r : Vals vs us)
    (h : ∀ x dx, H x = none → H dx = none → dx ≠ x → sp (.ref x :: (vs ++ dvs)) (upd (upd H dx (.own x)) x (.ins C dx [])) (fun v H2 => v = .non ∧ Q (.ref x) H2) E) :
    wpAny (model X.prog X.w) X.A (call (.ref C) us) (EP X pins σ Q) X.xe s := by
  have hq := h (s.heap.objs.size + 1) s.heap.objs.size (I.hok.fresh (Nat.le_succ _)) (I.hok.fresh (Nat.le_refl _)) (Nat.ne_of_lt (Nat.lt_succ_self _))
  have I2 := Inv.made (C := C) I
  have r2 : Vals (V.ref (s.heap.objs.size + 1) :: (vs ++ dvs)) (Value.ref (s.heap.objs.size + 1) :: (us ++ ds)) := .cons rfl (r.append hd)
  have hl : (Value.ref (s.heap.objs.size + 1) :: us ++ ds).length = ps.length := by
    have e := r2.length
    rw [F.len _ _ _ _ hq] at e
    exact e.symm
  refine wpAny_call (make_map (f := f) I.kIn M.makes M.init (beq_iff_eq.mp M.fn) (codeAny_mono (F.run _ X.stack _ _ ⟨Value.ref (s.heap.objs.size + 1) :: us, []⟩ (Value.ref (s.heap.objs.size + 1) :: (us ++ ds)) _ _ E (hr.make C us [])
    (I2.env0.make C us []) (hb _ (Value.ref (s.heap.objs.size + 1) :: us) I2.kIn hl) r2 hq) fun r s' hq' => ?_))
  cases r with
  | error e => exact hx pins σ _ _ e s' I2 hq'
  | ok fl =>
    cases fl with
    | ret u =>
      obtain ⟨v, H', I3, rv, ev, q3⟩ := I2.after hq'
      subst ev
      exact ⟨rv, ⟨V.ref (s.heap.objs.size + 1), H', I3, rfl, q3⟩⟩
    | next => exact False.elim hq'
    | brk => exact False.elim hq'
    | cont => exact False.elim hq'
theorem pe_make (M : Mk X.K C f) (F : FnOk X.prog X.w X.K X.mg X.base CX k f fd ps sp) (hr : Room (k + 1) X.A) (hg : Gl X x) (hm : X.mg x = some (.ref C)) (hb : Binds X.K fd ps ds) (hd : Vals dvs ds) (hx : Passes CX X E)
    (ha : PA X (e :: es) t) (hdb : (x == ("__debug__" : Str)) = false := by decide) (he : starEach (e :: es) X.env = (false, eval e X.env) :: starEach es X.env := by rfl) (hpl : (backTo pos (starEach es X.env)).any (·.1) = false := by rfl) :
    PE X (.Call (.Name x p) (e :: es) [] pos) (tMake C sp dvs E t) := by
  intro pins s σ H Q I h
  refine wpAny_Call_Name_kw (ld_glob I hg hm ?_ hdb)
  refine PySem.W.callWith_K (h₀ := X.base) I.ok.mod.kin M.kp (thn (ha pos pins s σ H _ I h) fun us s1 ⟨vs, H1, I1, r, q⟩ => ⟨I1.kIn, ?_⟩) he hpl
  exact run_make M F hr hb hd hx I1 r q
end

/-! ### keywords -/
/-- the values of the keywords, from the left -/
def PK (X : Cx) (kws : List Keyword) (t : TA) : Prop :=
  ∀ (pos : Pos) (pins : List (Addr × Obj)) (s : Shared) (σ : St) (H : Hp) (Q : List V → Hp → Prop), Inv X pins σ H s → t σ H Q → wpAny (model X.prog X.w) X.A (evalAll ((backToKw pos (keywordEach kws X.env)).map (·.2))) (AP X pins σ Q) X.xe s
section
variable {X : Cx} {CX : CXT} {k : Nat} {f C : Addr} {fd : FuncData} {ps ks : List Str} {sp : Sp} {E : XK} {x m : Str} {p pos apos kpos : Pos} {e o : Expr} {es : List Expr} {kws : List Keyword} {te ta : TE} {t tk : TA} {nm : Option Str}
theorem pk_nil : PK X [] tNil := fun _ _ _ _ H Q I h => wpAny_evalAll_nil ⟨[], H, I, .nil, h⟩
theorem pk_cons (ha : PE X e te) (hr : PK X kws t) : PK X (⟨nm, e, kpos⟩ :: kws) (tCons te t) := by
  intro pos pins s σ H Q I h
  show wpAny _ _ (evalAll ((do let v ← eval e X.env; standAt pos; pure v) :: (backToKw pos (keywordEach kws X.env)).map (·.2))) _ _ s
  refine wpAny_evalAll_cons (wpAny_bind (thn (ha pins s σ H _ I h) fun u s1 ⟨x, H1, I1, r1, q1⟩ => wpAny_bind (wpAny_standAt (wpAny_pure ?_))))
  exact thn (hr pos pins s1 σ H1 _ I1 q1) fun us s2 ⟨xs, H2, I2, r2, q2⟩ => ⟨x :: xs, H2, I2, .cons r1 r2, q2⟩

variable {g : List Value → List Value → List Value} {gV : List V → List V → List V}
end

/-! ### a def's body keeps its promise -/
/-- names: the parameters first -/
structure FnScope (N P : List Str) (sc : Scope) : Prop where
  kind : sc.kind = .function
  co : sc.isCoroutine = false
  gen : sc.isGenerator = false
  nd : N.Nodup
  pre : N.take P.length = P
  par : ∀ x ∈ P, sc.names.lookup x = some .local ∨ sc.names.lookup x = some .cell
  nofree : ∀ y ∈ sc.names, y.2 ≠ .free

theorem bindL_out {kindOf : Str → Option NameKind} {x : Str} : ∀ {binds : List (Str × Value)} {m : Str → Option Value}, (∀ v, (x, v) ∉ binds) → bindL kindOf binds m x = m x
  | [], _, _ => rfl
  | (n, v) :: r, m, h => by
    unfold bindL
    rw [bindL_out fun w hw => h w (List.mem_cons_of_mem _ hw)]
    split
    · have : x ≠ n := by rintro rfl; exact h v List.mem_cons_self
      simp [this]
    · rfl
theorem bindC_out {kindOf : Str → Option NameKind} {x : Str} : ∀ {binds : List (Str × Value)} {m : Str → Option Value}, (∀ v, (x, v) ∉ binds) → bindC kindOf binds m x = m x
  | [], _, _ => rfl
  | (n, v) :: r, m, h => by
    unfold bindC
    rw [bindC_out fun w hw => h w (List.mem_cons_of_mem _ hw)]
    split
    · rfl
    · have : x ≠ n := by rintro rfl; exact h v List.mem_cons_self
      simp [this]
theorem bindL_get {kindOf : Str → Option NameKind} {x : Str} {v : Value} : ∀ {P : List Str} {vs : List Value} {i : Nat} {m : Str → Option Value}, P.Nodup → P[i]? = some x → vs[i]? = some v → kindOf x = some .local →
    bindL kindOf (P.zip vs) m x = some v
  | [], _, _, _, _, h, _, _ => by simp at h
  | _ :: _, [], _, _, _, _, h, _ => by simp at h
  | p :: P, w :: vs, 0, m, nd, h1, h2, hk => by
    simp at h1 h2; subst h1; subst h2
    show bindL kindOf ((p, w) :: P.zip vs) m p = _
    unfold bindL
    rw [bindL_out fun v hv => (List.nodup_cons.mp nd).1 (List.of_mem_zip hv).1, if_pos hk]
    simp
  | p :: P, w :: vs, i + 1, m, nd, h1, h2, hk => by
    show bindL kindOf ((p, w) :: P.zip vs) m x = _
    unfold bindL
    exact bindL_get (i := i) (List.nodup_cons.mp nd).2 (by simpa using h1) (by simpa using h2) hk
theorem bindC_get {kindOf : Str → Option NameKind} {x : Str} {v : Value} : ∀ {P : List Str} {vs : List Value} {i : Nat} {m : Str → Option Value}, P.Nodup → P[i]? = some x → vs[i]? = some v → kindOf x ≠ some .local →
    bindC kindOf (P.zip vs) m x = some v
  | [], _, _, _, _, h, _, _ => by simp at h
  | _ :: _, [], _, _, _, _, h, _ => by simp at h
  | p :: P, w :: vs, 0, m, nd, h1, h2, hk => by
    simp at h1 h2; subst h1; subst h2
    show bindC kindOf ((p, w) :: P.zip vs) m p = _
    unfold bindC
    rw [bindC_out fun v hv => (List.nodup_cons.mp nd).1 (List.of_mem_zip hv).1, if_neg hk]
    simp
  | p :: P, w :: vs, i + 1, m, nd, h1, h2, hk => by
    show bindC kindOf ((p, w) :: P.zip vs) m x = _
    unfold bindC
    exact bindC_get (i := i) (List.nodup_cons.mp nd).2 (by simpa using h1) (by simpa using h2) hk

/-- the names' values at the entry -/
def start (N : List Str) (vs : List V) : St := vs.map some ++ List.replicate (N.length - vs.length) none

/-- the context of a def's body, at its entry; an exception leaves the frame, then lies as CX says -/
def cxOf (CX : CXT) (P : Program) (w : World) (K : PySem.W.Frag) (mg : Str → Option Value) (base : Heap) (N : List Str) (qual : Str) (scope : Scope) (f : Addr) (cd : Value) (A : Around) (outer : List Env) (s : Shared) (H : Hp) (E : XK) : Cx where
  prog := P
  w := w
  K := K
  mg := mg
  base := base
  A := A.deeper (envOfC qual scope s.heap.objs.size f cd)
  N := N
  s₀ := s
  H₀ := H
  env := envOfC qual scope s.heap.objs.size f cd
  outer := outer
  stack := envOfC qual scope s.heap.objs.size f cd :: outer
  ex := []
  calm := true
  fn := fun _ => true
  pn := []
  xe := fun e s' => wpAny (model P w) (A.deeper (envOfC qual scope s.heap.objs.size f cd)) (leaving (envOfC qual scope s.heap.objs.size f cd) e) (fun _ s'' => CX outer H s E e s'') (fun e' s'' => CX outer H s E e' s'') s'

theorem cell_has {sc : Scope} {n : Nat} {x : Str} (h : sc.names.lookup x = some .cell) : ∃ c, (cellsFrom n sc.names []).lookup x = some c := by
  have q := PySem.W.cellsFrom_some sc.names n [] (.inl h)
  exact Option.isSome_iff_exists.mp q

theorem inv_start {CX : CXT} {P : Program} {w : World} {K : PySem.W.Frag} {mg : Str → Option Value} {base : Heap} {N ps : List Str} {qual : Str} {scope : Scope} {f : Addr} {cd : Value} {A : Around} {outer : List Env} {s s1 : Shared} {H : Hp} {E : XK} {us : List Value} {vs : List V}
    (S : FnScope N ps scope) (hd : A.handled = none) (e0 : Env0 P w K mg base A outer s H) (hl : vs.length = ps.length) (r : Vals vs us)
    (x : InCallC s s.heap.objs.size (bindL (envOfC qual scope s.heap.objs.size f cd).kindOf (ps.zip us) fun _ => none) (cellsFrom (s.heap.objs.size + 1) scope.names []) (bindC (envOfC qual scope s.heap.objs.size f cd).kindOf (ps.zip us) fun _ => none) s1) :
    Inv (cxOf CX P w K mg base N qual scope f cd A outer s H E) [] (start N vs) H s1 := by
  have hpl : ps.length ≤ N.length := by have := congrArg List.length S.pre; rw [List.length_take] at this; omega
  obtain ⟨h1, tk, rfl, hk⟩ := x.done
  have noA : ∀ b : Addr, b ∉ (cxOf CX P w K mg base N qual scope f cd A outer s H E).ex := fun b z => absurd (show b ∈ ([] : List Addr) from z) (by simp)
  refine ⟨⟨e0.mod, S.kind, rfl, rfl, Nat.le_refl _, fun y z c h1 h2 => ?_, fun y hy => ?_, fun y c _ h => ?_, fun _ => hd, Around.frames_deeper e0.frames, .inr ⟨rfl, rfl⟩, fun b z => absurd z (noA b), e0.bs, e0.bsz, fun b _ _ => noA b, fun b z => absurd z (noA b), e0.funs, e0.frf⟩,
    rfl, e0.bare, Un.kept hk, ⟨_, x.toInCall.ns, fun i y v h1 h2 h3 => ?_⟩, fun y c h => ⟨_, x.cell y c h⟩, e0.hok.fresh (Nat.le_refl _), fun y c h => ?_, fun p hp => absurd (show p ∈ ([] : List (Addr × Obj)) from hp) (by simp), e0.hok.kept hk, ?_⟩
  · exact name_of_addr x.apart (PySem.mem_of_lookup h1) (PySem.mem_of_lookup h2)
  · have hy : scope.names.lookup y = some .cell ∨ scope.names.lookup y = some .free := hy
    rcases hy with hy | hy
    · exact cell_has hy
    · exact absurd rfl (S.nofree _ (PySem.mem_of_lookup hy))
  · exact Nat.le_of_lt (x.above y c (PySem.mem_of_lookup h))
  · have hi : i < vs.length := by
      unfold start at h2
      by_cases hi : i < vs.length
      · exact hi
      · rw [List.getElem?_append_right (by simpa using hi)] at h2
        rw [List.getElem?_replicate] at h2
        split at h2 <;> cases h2
    have ha : vs[i]? = some v := by
      unfold start at h2
      rw [List.getElem?_append_left (by simpa using hi), List.getElem?_map] at h2
      cases e : vs[i]? with
      | none => rw [e] at h2; cases h2
      | some a => rw [e] at h2; cases h2; rfl
    obtain ⟨u, hu, rv⟩ := r.get ha
    have hp : ps[i]? = some y := by
      rw [← S.pre, List.getElem?_take_of_lt (by omega)]; exact h1
    have ndP : ps.Nodup := by rw [← S.pre]; exact S.nd.sublist (List.take_sublist _ _)
    refine ⟨u, rv, ?_⟩
    rcases S.par y (List.mem_of_getElem? hp) with k | k
    · exact .inl ⟨k, bindL_get ndP hp hu k⟩
    · obtain ⟨c, e⟩ := cell_has (n := s.heap.objs.size + 1) k
      refine .inr ⟨.inl k, c, e, ?_⟩
      have q := x.cell y c e
      rw [bindC_get ndP hp hu (by show scope.names.lookup y ≠ _; rw [k]; decide)] at q
      exact q
  · exact e0.hok.fresh (Nat.le_of_lt (x.above y c (PySem.mem_of_lookup h)))
  · unfold start
    show _ = N.length
    rw [List.length_append, List.length_map, List.length_replicate]
    omega

/-- THE RULE: a def (or a method) of the text, by its body. The body's reading t is chosen for each entry; it is run at the parameters' values -/
theorem fn_of {CX : CXT} {P : Program} {w : World} {K : PySem.W.Frag} {mg : Str → Option Value} {base : Heap} {k : Nat} {f : Addr} {name qual : Str} {params : Arguments} {body : List Stmt} {scope : Scope} {dV kV doc pm cdv ct oc : Value} {an od : Option Addr}
    {osl : Array (Option Value)} {N ps : List Str} {sp : Sp} (lk : K.lookup f = some ⟨oc, od, .func (PySem.W.fnOf name qual params body scope dV kV doc pm an cdv ct), osl⟩) (hcd : PySem.W.codeIn K cdv qual = true) (S : FnScope N ps scope)
    (len : ∀ vs H Q E, sp vs H Q E → vs.length = ps.length)
    (hbody : ∀ (A : Around) (outer : List Env) (s : Shared) (H : Hp) (vs : List V) (Q : VK) (E : XK), Room k (A.deeper (envOfC qual scope s.heap.objs.size f cdv)) → sp vs H Q E →
      ∃ t, PSs (cxOf CX P w K mg base N qual scope f cdv A outer s H E) body t ∧ t { nx := fun _ H' => Q .non H', rt := Q } (start N vs) H) :
    FnOk P w K mg base CX (k + 1) f (PySem.W.fnOf name qual params body scope dV kV doc pm an cdv ct) ps sp := by
  refine ⟨len, fun A outer s H args us vs Q E hr e0 hb r hsp => ?_⟩
  have hl := len _ _ _ _ hsp
  have KX : K.In s.heap := e0.mod.kin.keeps fun b o e => (e0.bs b o e).1
  have lim : s.heap.NoLimit := e0.mod.nolimit.keeps fun b o e => (e0.bs b o e).1
  have hkind : ∀ y ∈ ps.zip us, scope.names.lookup y.1 = some .local ∨ (scope.names.lookup y.1 = some .cell ∧ ((cellsFrom (s.heap.objs.size + 1) scope.names []).lookup y.1).isSome = true) := fun ⟨n, v⟩ hy => by
    rcases S.par n (List.of_mem_zip hy).1 with q | q
    · exact .inl q
    · exact .inr ⟨q, PySem.W.cellsFrom_some _ _ _ (.inl q)⟩
  refine codeAny_call_function hr.depth (KX _ _ lk) rfl S.co S.gen rfl (PySem.W.codeRec_of KX hcd) (hb _ _ _ _ ?_)
  refine wpAny_newFunctionEnv_cells S.kind hkind fun env he s1 x => ?_
  subst he
  refine ⟨lim.keeps x.toInCall.keep, codeAny_func ?_⟩
  obtain ⟨t, ht, hq⟩ := hbody A outer s H vs Q E (hr.deeper _) hsp
  have I : Inv (cxOf CX P w K mg base N qual scope f cdv A outer s H E) [] (start N vs) H s1 := inv_start S hr.hd e0 hl r x
  refine wpAny_mono (ht [] s1 (start N vs) H _ I hq) (fun fl s' hs => ?_) fun e s' hs => hs
  have fin : ∀ {σ' : St} {H' : Hp} {v : V} {u : Value}, Inv (cxOf CX P w K mg base N qual scope f cdv A outer s H E) [] σ' H' s' → RelV v u → Q v H' → CE outer P w H s Q u s' :=
    fun {σ' H' v u} J rv q => ⟨v, H', J.os, J.bare, J.base, J.hok, rv, q⟩
  cases fl with
  | ret u =>
    obtain ⟨v, σ', H', J, rv, q⟩ := hs
    exact fin J rv q
  | next =>
    obtain ⟨σ', H', J, q⟩ := hs
    exact fin (v := V.non) (u := Value.none) J rfl q
  | brk =>
    obtain ⟨_, _, _, q⟩ := hs
    exact False.elim q
  | cont =>
    obtain ⟨_, _, _, q⟩ := hs
    exact False.elim q
end L2

namespace L2
open PySem PySem.Spec PyProof.Rows
section
variable {X : Cx} {x : Str} {p pos : Pos} {e : Expr} {es : List Expr} {t : TA} {id T : String} {r : List V → Hp → VK → Prop}

def tCB (r : List V → Hp → VK → Prop) (t : TA) : TE := fun σ H Q => t σ H fun vs H1 => r vs H1 Q
/-- f(e, ..), f a built-in function -/
theorem pe_callB (hc : CallR X (.builtin id) r) (hg : Gl X x) (hm : X.mg x = none) (hv : bootBuiltins x = some (.builtin id)) (ha : PA X (e :: es) t) (hn : x ≠ "__name__" := by decide) (hdb : (x == ("__debug__" : Str)) = false := by decide)
    (he : starEach (e :: es) X.env = (false, eval e X.env) :: starEach es X.env := by rfl) (hpl : (backTo pos (starEach es X.env)).any (·.1) = false := by rfl) : PE X (.Call (.Name x p) (e :: es) [] pos) (tCB r t) := by
  intro pins s σ H Q I h
  refine wpAny_Call_Name_kw (ld_blt I hg hm hv ?_ hn hdb)
  exact PyProof.Rows.callWith_builtin1 (thn (ha pos pins s σ H _ I h) fun us s1 ⟨vs, H1, I1, r1, q1⟩ => hc pins s1 σ H1 vs us Q I1 r1 q1) he hpl
/-- T(e, ..), T a built-in type -/
theorem pe_callTy (hc : CallR X (.type T) r) (hg : Gl X x) (hm : X.mg x = none) (hv : bootBuiltins x = some (.type T)) (ha : PA X (e :: es) t) (hn : x ≠ "__name__" := by decide) (hdb : (x == ("__debug__" : Str)) = false := by decide)
    (he : starEach (e :: es) X.env = (false, eval e X.env) :: starEach es X.env := by rfl) (hpl : (backTo pos (starEach es X.env)).any (·.1) = false := by rfl) : PE X (.Call (.Name x p) (e :: es) [] pos) (tCB r t) := by
  intro pins s σ H Q I h
  refine wpAny_Call_Name_kw (ld_blt I hg hm hv ?_ hn hdb)
  exact PyProof.Rows.callWith_type1 (thn (ha pos pins s σ H _ I h) fun us s1 ⟨vs, H1, I1, r1, q1⟩ => hc pins s1 σ H1 vs us Q I1 r1 q1) he hpl
end
end L2

namespace L2
open PySem PySem.Spec PyProof.Rows

/-! ### lists of pairs as tables -/
section
variable {κ : Type} [DecidableEq κ]
def valV (kvs : List (κ × V)) (k : κ) : Option V := (kvs.find? fun kv => decide (kv.1 = k)).map (·.2)
/-- in its place, or at the end -/
def putK (kvs : List (κ × V)) (k : κ) (v : V) : List (κ × V) :=
  if (kvs.any fun kv => decide (kv.1 = k)) = true then kvs.map (fun kv => if kv.1 = k then (kv.1, v) else kv) else kvs ++ [(k, v)]
def dropK (kvs : List (κ × V)) (k : κ) : List (κ × V) := kvs.filter fun kv => decide (kv.1 ≠ k)

theorem valV_pos {p : κ × V} {r : List (κ × V)} {k : κ} (e : p.1 = k) : valV (p :: r) k = some p.2 := by simp [valV, List.find?_cons, e]
theorem valV_neg {p : κ × V} {r : List (κ × V)} {k : κ} (e : ¬ p.1 = k) : valV (p :: r) k = valV r k := by simp [valV, List.find?_cons, e]
theorem valV_any (k : κ) : ∀ kvs : List (κ × V), (kvs.any fun kv => decide (kv.1 = k)) = (valV kvs k).isSome
  | [] => rfl
  | p :: r => by
    rw [List.any_cons]
    by_cases e : p.1 = k
    · simp only [valV_pos e, decide_eq_true e, Bool.true_or, Option.isSome_some]
    · rw [valV_neg e, decide_eq_false e, Bool.false_or]; exact valV_any k r
theorem valV_map (k j : κ) (y : V) : ∀ kvs : List (κ × V), valV (kvs.map fun kv => if kv.1 = k then (kv.1, y) else kv) j = (valV kvs j).map fun x => if j = k then y else x
  | [] => rfl
  | p :: r => by
    have ih := valV_map k j y r
    rw [List.map_cons]
    by_cases h : p.1 = k
    · rw [if_pos h]
      by_cases e : p.1 = j
      · rw [valV_pos (p := (p.1, y)) e, valV_pos e, Option.map_some, if_pos (e.symm.trans h)]
      · rw [valV_neg (p := (p.1, y)) e, valV_neg e, ih]
    · rw [if_neg h]
      by_cases e : p.1 = j
      · rw [valV_pos (p := p) e, valV_pos e, Option.map_some, if_neg (fun z => h (e.trans z))]
      · rw [valV_neg (p := p) e, valV_neg e, ih]
theorem valV_snoc (k j : κ) (y : V) : ∀ kvs : List (κ × V), valV kvs k = none → valV (kvs ++ [(k, y)]) j = if j = k then some y else valV kvs j
  | [], _ => by
    by_cases e : k = j
    · rw [if_pos e.symm]; exact valV_pos (p := (k, y)) e
    · rw [if_neg (fun z => e z.symm)]; exact valV_neg (p := (k, y)) e
  | p :: r, hn => by
    rw [List.cons_append]
    have hk : ¬ p.1 = k := fun z => by rw [valV_pos z] at hn; cases hn
    rw [valV_neg hk] at hn
    have ih := valV_snoc k j y r hn
    by_cases e : p.1 = j
    · rw [valV_pos e, valV_pos e, if_neg (fun z => hk (e.trans z))]
    · rw [valV_neg e, valV_neg e, ih]
theorem valV_put (kvs : List (κ × V)) (k j : κ) (y : V) : valV (putK kvs k y) j = if j = k then some y else valV kvs j := by
  unfold putK
  by_cases a : (kvs.any fun kv => decide (kv.1 = k)) = true
  · rw [if_pos a, valV_map]
    rw [valV_any] at a
    by_cases e : j = k
    · obtain ⟨x, hx⟩ := Option.isSome_iff_exists.mp a
      rw [if_pos e, e, hx, Option.map_some, if_pos rfl]
    · rw [if_neg e]
      cases valV kvs j with
      | none => rfl
      | some x => rw [Option.map_some, if_neg e]
  · rw [if_neg a]
    refine valV_snoc k j y kvs ?_
    rw [valV_any] at a
    cases q : valV kvs k with
    | none => rfl
    | some x => rw [q] at a; exact (a rfl).elim
theorem length_putK (kvs : List (κ × V)) (k : κ) (v : V) : (putK kvs k v).length ≤ kvs.length + 1 := by
  unfold putK
  split
  · rw [List.length_map]; omega
  · rw [List.length_append, List.length_cons, List.length_nil]; omega
theorem RelO.isSome_eq {o : Option V} {u : Option Value} (r : RelO o u) : o.isSome = u.isSome := by
  cases o with
  | none => cases u with
    | none => rfl
    | some _ => exact (show False from r).elim
  | some _ => cases u with
    | none => exact (show False from r).elim
    | some _ => rfl
theorem RelO.getD {o : Option V} {u : Option Value} {d : V} {d' : Value} (r : RelO o u) (rd : RelV d d') : RelV (o.getD d) (u.getD d') := by
  cases o with
  | none => cases u with
    | none => exact rd
    | some _ => exact (show False from r).elim
  | some _ => cases u with
    | none => exact (show False from r).elim
    | some _ => exact r

/-- raw tables of the same keys -/
theorem KV.val {kvs : List (κ × V)} {vs : List (κ × Value)} (r : KV kvs vs) (k : κ) : RelO (valV kvs k) (valueAt vs k) := by
  unfold KV at r
  induction r with
  | nil => exact True.intro
  | @cons p q ps qs h t ih =>
    obtain ⟨h1, h2⟩ := h
    by_cases e : p.1 = k
    · have e' : q.1 = k := h1.symm.trans e
      have b : valueAt (q :: qs) k = some q.2 := by simp [valueAt, List.find?_cons, e']
      rw [valV_pos e, b]; exact h2
    · have e' : ¬ q.1 = k := fun z => e (h1.trans z)
      have b : valueAt (q :: qs) k = valueAt qs k := by simp [valueAt, List.find?_cons, e']
      rw [valV_neg e, b]; exact ih
theorem KV.any {kvs : List (κ × V)} {vs : List (κ × Value)} (r : KV kvs vs) (k : κ) : (kvs.any fun kv => decide (kv.1 = k)) = vs.any fun kv => decide (kv.1 = k) := by
  unfold KV at r
  induction r with
  | nil => rfl
  | cons h t ih => rw [List.any_cons, List.any_cons, ih, h.1]
theorem KV.repl {kvs : List (κ × V)} {vs : List (κ × Value)} (r : KV kvs vs) (k : κ) {y : V} {u : Value} (ry : RelV y u) :
    KV (kvs.map fun kv => if kv.1 = k then (kv.1, y) else kv) (vs.map fun kv => if kv.1 = k then (kv.1, u) else kv) := by
  unfold KV at r ⊢
  induction r with
  | nil => exact .nil
  | @cons p q ps qs h t ih =>
    rw [List.map_cons, List.map_cons]
    refine .cons ?_ ih
    obtain ⟨h1, h2⟩ := h
    by_cases e : p.1 = k
    · rw [if_pos e, if_pos (h1.symm.trans e)]; exact ⟨h1, ry⟩
    · rw [if_neg e, if_neg (fun z => e (h1.trans z))]; exact ⟨h1, h2⟩
theorem KV.put {kvs : List (κ × V)} {vs : List (κ × Value)} (r : KV kvs vs) (k : κ) {y : V} {u : Value} (ry : RelV y u) : KV (putK kvs k y) (stored vs k u) := by
  unfold putK stored
  rw [r.any k]
  by_cases e : (vs.any fun kv => decide (kv.1 = k)) = true
  · rw [if_pos e, if_pos e]; exact r.repl k ry
  · rw [if_neg e, if_neg e]; exact Paired.snoc r ⟨rfl, ry⟩
theorem KV.drop {kvs : List (κ × V)} {vs : List (κ × Value)} (r : KV kvs vs) (k : κ) : KV (dropK kvs k) (without vs k) := by
  unfold KV at r ⊢
  unfold dropK without
  induction r with
  | nil => exact .nil
  | @cons p q ps qs h t ih =>
    obtain ⟨h1, h2⟩ := h
    rw [List.filter_cons, List.filter_cons]
    by_cases e : p.1 = k
    · have a : ¬ decide (p.1 ≠ k) = true := by simp [e]
      have b : ¬ decide (q.1 ≠ k) = true := by simp [h1.symm.trans e]
      rw [if_neg a, if_neg b]; exact ih
    · have e' : ¬ q.1 = k := fun z => e (h1.trans z)
      have a : decide (p.1 ≠ k) = true := by simp [e]
      have b : decide (q.1 ≠ k) = true := by simp [e']
      rw [if_pos a, if_pos b]; exact .cons ⟨h1, h2⟩ ih
theorem KV.length {kvs : List (κ × V)} {vs : List (κ × Value)} (r : KV kvs vs) : kvs.length = vs.length := Paired.length r
theorem dropK_le (kvs : List (κ × V)) (k : κ) : (dropK kvs k).length ≤ kvs.length := List.length_filter_le _ _
end


/-! ### a tracked dict, its keys ints and texts or tuples of these -/
theorem kV_is {P : Program} {w : World} {k : Key} {u : Value} (r : RelV (kV k) u) : (mixKind P w).is k u = true := by
  cases k with
  | inl i => obtain ⟨t, e⟩ := (show ∃ t, u = Value.int i t from r); subst e; exact mixKind_int P w i t
  | inr x => obtain ⟨t, e⟩ := (show ∃ t, u = Value.str x t from r); subst e; exact mixKind_str P w x t
theorem items_are {P : Program} {w : World} : ∀ {ks : List Key} {us : List Value}, Vals (ks.map kV) us → ItemsAre (mixKind P w) ks us
  | [], _, r => by rw [List.map_nil] at r; cases r; exact .nil
  | k :: ks, _, r => by
    rw [List.map_cons] at r
    cases r with
    | cons h t => exact .cons (kV_is h) (items_are t)

/-- raw entries of a dict with tuple keys -/
abbrev KT (H : Hp) : List (List Key × V) → List (List Key × Addr × Value) → Prop := Paired fun p q => p.1 = q.1 ∧ H q.2.1 = some (.tup (p.1.map kV)) ∧ RelV p.2 q.2.2
theorem KT.val {H : Hp} {kvs : List (List Key × V)} {xs : List (List Key × Addr × Value)} (r : KT H kvs xs) (k : List Key) : RelO (valV kvs k) ((atKey xs k).map (·.2)) := by
  induction r with
  | nil => exact True.intro
  | @cons p q ps qs h t ih =>
    obtain ⟨h1, _, h2⟩ := h
    by_cases e : p.1 = k
    · have e' : q.1 = k := h1.symm.trans e
      have b : atKey (q :: qs) k = some q.2 := by simp [atKey, List.find?_cons, e']
      rw [valV_pos e, b]; exact h2
    · have e' : ¬ q.1 = k := fun z => e (h1.trans z)
      have b : atKey (q :: qs) k = atKey qs k := by simp [atKey, List.find?_cons, e']
      rw [valV_neg e, b]; exact ih
theorem KT.repl {H : Hp} {kvs : List (List Key × V)} {xs : List (List Key × Addr × Value)} (r : KT H kvs xs) (k : List Key) {y : V} {u : Value} (ry : RelV y u) :
    KT H (kvs.map fun kv => if kv.1 = k then (kv.1, y) else kv) (xs.map (putAt k u)) := by
  induction r with
  | nil => exact .nil
  | @cons p q ps qs h t ih =>
    rw [List.map_cons, List.map_cons]
    refine .cons ?_ ih
    obtain ⟨h1, h2, h3⟩ := h
    unfold putAt
    by_cases e : p.1 = k
    · rw [if_pos e, if_pos (h1.symm.trans e)]; exact ⟨h1, h2, ry⟩
    · rw [if_neg e, if_neg (fun z => e (h1.trans z))]; exact ⟨h1, h2, h3⟩
theorem KT.put {H : Hp} {kvs : List (List Key × V)} {xs : List (List Key × Addr × Value)} (r : KT H kvs xs) (k : List Key) {b : Addr} {y : V} {u : Value} (hb : H b = some (.tup (k.map kV))) (ry : RelV y u) :
    KT H (putK kvs k y) (storedH xs k b u) := by
  have e : (kvs.any fun kv => decide (kv.1 = k)) = (atKey xs k).isSome := by
    rw [valV_any, (r.val k).isSome_eq, Option.isSome_map]
  unfold putK storedH
  rw [e]
  by_cases q : (atKey xs k).isSome = true
  · rw [if_pos q, if_pos q]; exact r.repl k ry
  · rw [if_neg q, if_neg q]; exact Paired.snoc r ⟨rfl, hb, ry⟩
theorem KT.keeps {H H' : Hp} {kvs : List (List Key × V)} {xs : List (List Key × Addr × Value)} (r : KT H kvs xs) (ht : ∀ b ys, H b = some (.tup ys) → H' b = some (.tup ys)) : KT H' kvs xs :=
  Paired.mapP r fun _ _ z => ⟨z.1, ht _ _ z.2.1, z.2.2⟩

section
variable {P : Program} {w : World} {H : Hp} {h : Heap} {a : Addr}
theorem rd_of {u : HO} (ok : HOk P w H h) (e : Rd H a u) : ObjOk P w H h a u := e.ok ok
theorem dk_rd {kvs : List (Key × V)} (ok : HOk P w H h) (e : Rd H a (.dK kvs)) : kvs.length ≤ sizeLine ∧ (a == sysModules) = false ∧ ∃ vs, KV kvs vs ∧ h.DictOf (mixKind P w) a vs :=
  show ObjOk P w H h a (.dK kvs) from rd_of ok e
theorem dk_of {kvs : List (Key × V)} (ok : HOk P w H h) (e : H a = some (.dK kvs)) : kvs.length ≤ sizeLine ∧ (a == sysModules) = false ∧ ∃ vs, KV kvs vs ∧ h.DictOf (mixKind P w) a vs := dk_rd ok (.inl e)
/-- a tracked tuple of ints and texts is a key -/
theorem key_of {ks : List Key} (ok : HOk P w H h) (e : H a = some (.tup (ks.map kV))) : (tupleKind (mixKind P w)).is h ks a := by
  obtain ⟨_, its, r, o, h1, h2, n, h3⟩ := (show ObjOk P w H h a (.tup (ks.map kV)) from ok a _ e)
  exact ⟨o, its.toArray, n, h1, h2, h3, by simpa using items_are r⟩
theorem dt_rd {kvs : List (List Key × V)} (ok : HOk P w H h) (e : Rd H a (.dT kvs)) : kvs.length ≤ sizeLine ∧ (a == sysModules) = false ∧
    ∃ xs, KT H kvs xs ∧ h.DictOfH (tupleKind (mixKind P w)) a xs := by
  obtain ⟨z, y, xs, r, o, es, ep, h1, h2, h3, h4, h5⟩ := (show ObjOk P w H h a (.dT kvs) from rd_of ok e)
  refine ⟨z, y, xs, r, o, es, ep, h1, h2, h3, h4, fun x hx => ?_, h5⟩
  have all : ∀ {l : List (List Key × V)} {m : List (List Key × Addr × Value)}, KT H l m → ∀ x ∈ m, (tupleKind (mixKind P w)).is h x.1 x.2.1 := by
    intro l m q
    induction q with
    | nil => intro x hx; exact nomatch hx
    | @cons p q ps qs hq t ih =>
      intro x hx
      rcases List.mem_cons.mp hx with e | hx
      · subst e
        exact key_of ok (by rw [← hq.1]; exact hq.2.1)
      · exact ih x hx
  exact all r x hx
theorem dt_of {kvs : List (List Key × V)} (ok : HOk P w H h) (e : H a = some (.dT kvs)) : kvs.length ≤ sizeLine ∧ (a == sysModules) = false ∧
    ∃ xs, KT H kvs xs ∧ h.DictOfH (tupleKind (mixKind P w)) a xs := dt_rd ok (.inl e)
end

/-- what the dict at a holds at the key y -/
def DGet (H : Hp) (a : Addr) (y : V) (r : Option V) : Prop :=
  (∃ kvs k, Rd H a (.dK kvs) ∧ y = kV k ∧ r = valV kvs k) ∨ ∃ kvs k b, Rd H a (.dT kvs) ∧ y = .ref b ∧ H b = some (.tup (k.map kV)) ∧ r = valV kvs k
/-- the heap behind a[y] = v -/
def DPut (H : Hp) (a : Addr) (y v : V) (H' : Hp) : Prop :=
  (∃ kvs k, H a = some (.dK kvs) ∧ y = kV k ∧ kvs.length < sizeLine ∧ H' = upd H a (.dK (putK kvs k v))) ∨
  ∃ kvs k b, H a = some (.dT kvs) ∧ y = .ref b ∧ H b = some (.tup (k.map kV)) ∧ kvs.length < sizeLine ∧ H' = upd H a (.dT (putK kvs k v))
theorem DGet.k {H : Hp} {a : Addr} {kvs : List (Key × V)} {k : Key} (e : H a = some (.dK kvs)) : DGet H a (kV k) (valV kvs k) := .inl ⟨kvs, k, .inl e, rfl, rfl⟩
theorem DPut.k {H : Hp} {a : Addr} {kvs : List (Key × V)} {k : Key} {v : V} (e : H a = some (.dK kvs)) (hl : kvs.length < sizeLine) : DPut H a (kV k) v (upd H a (.dK (putK kvs k v))) := .inl ⟨kvs, k, e, rfl, hl, rfl⟩
section
variable {X : Cx} {pins : List (Addr × Obj)} {σ : St} {H : Hp} {s : Shared} {a : Addr} {y v : V} {u r : Value} {o : Option V} {A : Around} {E : Value → Shared → Prop}

theorem Inv.big (I : Inv X pins σ H s) : sysModules < s.heap.objs.size := by
  have h : mainGlobals < s.heap.objs.size := (I.mod.glob.keeps I.bk).lt
  exact Nat.lt_trans (by decide) h

/-- d[y], there -/
theorem d_getItem {Q : Value → Shared → Prop} (hu : A.units + 1 < cLine) (I : Inv X pins σ H s) (g : DGet H a y (some v)) (ry : RelV y u) (h : ∀ w' s', Inv X pins σ H s' → RelV v w' → Q w' s') :
    wpAny (model X.prog X.w) A (getItem (.ref a) u) Q E s := by
  rcases g with ⟨kvs, k, e, ey, l⟩ | ⟨kvs, k, b, e, ey, eb, l⟩
  · subst ey
    obtain ⟨z, hd, vs, rel, dd⟩ := dk_rd I.hok e
    obtain ⟨w', hw, rw'⟩ := RelO.some_of (v := v) (o := valueAt vs k) (by rw [l]; exact rel.val k)
    exact wpAny_getItem_of (kV_is ry) dd.mapOf hw (h w' _ (I.tok _) rw')
  · subst ey
    cases (show u = Value.ref b from ry)
    obtain ⟨z, hd, xs, rel, dd⟩ := dt_rd I.hok e
    obtain ⟨w', hw, rw'⟩ := RelO.some_of (v := v) (o := (atKey xs k).map (·.2)) (by rw [l]; exact rel.val k)
    obtain ⟨p, hp, hp2⟩ := Option.map_eq_some_iff.mp hw
    refine wpAny_getItem_heap (tupleKind_room_in1 hu) (key_of I.hok eb) dd hp ?_
    rw [hp2]
    exact h w' _ (I.tok _) rw'
theorem d_notIn {Q : Value → Shared → Prop} (hu : A.units + 1 < cLine) (I : Inv X pins σ H s) (g : DGet H a y o) (ry : RelV y u) (h : ∀ s', Inv X pins σ H s' → Q (.bool (!o.isSome)) s') :
    wpAny (model X.prog X.w) A (compareOp .NotIn u (.ref a)) Q E s := by
  rcases g with ⟨kvs, k, e, ey, l⟩ | ⟨kvs, k, b, e, ey, eb, l⟩
  · subst ey
    obtain ⟨z, hd, vs, rel, dd⟩ := dk_rd I.hok e
    refine wpAny_notIn_of (kV_is ry) hd dd.mapOf ?_
    rw [← (rel.val k).isSome_eq, ← l]
    exact h _ (I.tok _)
  · subst ey
    cases (show u = Value.ref b from ry)
    obtain ⟨z, hd, xs, rel, dd⟩ := dt_rd I.hok e
    refine wpAny_notIn_heap (tupleKind_room_in1 hu) (key_of I.hok eb) hd dd ?_
    have q := (rel.val k).isSome_eq
    rw [Option.isSome_map] at q
    rw [← q, ← l]
    exact h _ (I.tok _)
/-- a dict's object is replaced -/
theorem d_write {h' : Heap} {t' : Nat} {ob : HO} (I : Inv X pins σ H s) (mu : Mut (H a)) (hs : Heap.SameBut a s.heap h') (he : ∃ q, h'.get? a = some q) (new : ObjOk X.prog X.w (upd H a ob) h' a ob) :
    Inv X pins σ (upd H a ob) { s with heap := h', toks := t' } :=
  I.write (x := a) (e := a) mu (.inl rfl) (fun b q hb z => (hs.2 b hb).trans z) he new
theorem dk_new {P : Program} {w : World} {H' : Hp} {h' : Heap} {kvs : List (Key × V)} {vs : List (Key × Value)} (z : kvs.length ≤ sizeLine) (hd : (a == sysModules) = false) (rel : KV kvs vs) (dd : h'.DictOf (mixKind P w) a vs) :
    ObjOk P w H' h' a (.dK kvs) := ⟨z, hd, vs, rel, dd⟩
/-- d[y] = v -/
theorem d_setItem {H' : Hp} {Q : Unit → Shared → Prop} (hu : A.units + 1 < cLine) (I : Inv X pins σ H s) (g : DPut H a y v H') (ry : RelV y u) (rv : RelV v r) (h : ∀ s', Inv X pins σ H' s' → Q () s') :
    wpAny (model X.prog X.w) A (setItem (.ref a) u r) Q E s := by
  rcases g with ⟨kvs, k, e, ey, l, eH⟩ | ⟨kvs, k, b, e, ey, eb, l, eH⟩
  · subst ey eH
    obtain ⟨z, hd, vs, rel, dd⟩ := dk_of I.hok e
    have hz : vs.length ≤ sizeLine := by rw [← rel.length]; exact z
    have hl : (putK kvs k v).length ≤ sizeLine := by have := length_putK kvs k v; omega
    refine wpAny_setItem_pairs (hsz := hz) (kV_is ry) dd fun h' dd' hs => h _ ?_
    have he : ∃ q, h'.get? a = some q := let ⟨q, _, _, hq, _⟩ := dd'; ⟨q, hq⟩
    exact d_write I (by rw [e]; exact True.intro) hs he (dk_new hl hd (rel.put k rv) dd')
  · subst ey eH
    cases (show u = Value.ref b from ry)
    obtain ⟨z, hd, xs, rel, dd⟩ := dt_of I.hok e
    have hz : xs.length ≤ sizeLine := by rw [← Paired.length rel]; exact z
    have hl : (putK kvs k v).length ≤ sizeLine := by have := length_putK kvs k v; omega
    refine wpAny_setItem_heap (hsz := hz) (tupleKind_room_in1 hu) (key_of I.hok eb) dd fun h' dd' hs => h _ ?_
    obtain ⟨q, es, ep, hq, h2, h3, h4, _, h5⟩ := dd'
    refine d_write I (by rw [e]; exact True.intro) hs ⟨q, hq⟩ ⟨hl, hd, _, (rel.put k eb rv).keeps fun c ys ec => ?_, q, es, ep, hq, h2, h3, h4, h5⟩
    rw [upd_ne (ne_of ec e (fun z => nomatch z))]
    exact ec
end

section
variable {X : Cx} {pins : List (Addr × Obj)} {σ : St} {H : Hp} {s : Shared} {a : Addr} {kvs : List (Key × V)} {k : Key} {u : Value} {A : Around} {E : Value → Shared → Prop}
/-- d.pop(k[, x]), there -/
theorem d_pop {v : V} {more : List Value} {Q : Value → Shared → Prop} (I : Inv X pins σ H s) (e : H a = some (.dK kvs)) (ry : RelV (kV k) u) (l : valV kvs k = some v) (hm : more = [] ∨ ∃ x, more = [x])
    (h : ∀ w' s', Inv X pins σ (upd H a (.dK (dropK kvs k))) s' → RelV v w' → Q w' s') : wpAny (model X.prog X.w) A (call (.builtin "dict.pop") (.ref a :: u :: more)) Q E s := by
  obtain ⟨z, hd, vs, rel, dd⟩ := dk_of I.hok e
  obtain ⟨w', hw, rw'⟩ := RelO.some_of (v := v) (o := valueAt vs k) (by rw [← l]; exact rel.val k)
  have hp : (keyPart u).isSome = true := by
    cases k with
    | inl i => obtain ⟨t, q⟩ := (show ∃ t, u = Value.int i t from ry); subst q; rfl
    | inr x => obtain ⟨t, q⟩ := (show ∃ t, u = Value.str x t from ry); subst q; rfl
  have ha : argsOk "dict.pop" ⟨.ref a :: u :: more, []⟩ := by
    rcases hm with q | ⟨x, q⟩
    · subst q; exact PySem.F.args_dict_pop_2 _ _
    · subst q; exact PySem.F.args_dict_pop_3 _ _ _
  refine call_meetsIn PySem.F.slot_dict_pop dd.typeIs PySem.F.entry_dict_pop ha (meets_dict_pop_there (mixKind X.prog X.w) a (kV_is ry) more hm hp)
    ⟨vs, w', dd, by rw [← rel.length]; exact z, hw, fun h' dd' hs => h w' _ ?_ rw'⟩
  have he : ∃ q, h'.get? a = some q := let ⟨q, _, _, hq, _⟩ := dd'; ⟨q, hq⟩
  exact d_write I (by rw [e]; exact True.intro) hs he (dk_new (Nat.le_trans (dropK_le kvs k) z) hd (rel.drop k) dd')
/-- d.pop(k, x), not there -/
theorem d_popD {r : Value} {Q : Value → Shared → Prop} (I : Inv X pins σ H s) (e : H a = some (.dK kvs)) (ry : RelV (kV k) u) (l : valV kvs k = none) (h : ∀ s', Inv X pins σ H s' → Q r s') :
    wpAny (model X.prog X.w) A (call (.builtin "dict.pop") [.ref a, u, r]) Q E s := by
  obtain ⟨z, hd, vs, rel, dd⟩ := dk_of I.hok e
  have hn : valueAt vs k = none := RelO.none_of (by rw [← l]; exact rel.val k)
  have hp : (keyPart u).isSome = true := by
    cases k with
    | inl i => obtain ⟨t, q⟩ := (show ∃ t, u = Value.int i t from ry); subst q; rfl
    | inr x => obtain ⟨t, q⟩ := (show ∃ t, u = Value.str x t from ry); subst q; rfl
  exact call_meetsIn PySem.F.slot_dict_pop dd.typeIs PySem.F.entry_dict_pop (PySem.F.args_dict_pop_3 _ _ _) (meets_dict_pop_default (mixKind X.prog X.w) a (kV_is ry) hd hp r) ⟨vs, dd, hn, h _ (I.tok _)⟩
end


/-! ### readings and rules -/
/-- the element of a subscription, not a slice -/
def NoSl (i : Expr) : Prop := ∀ ov iv, subscripted i false ov iv = operate [ov, iv] (getItem ov iv)
theorem subD_of {prog : Program} {w : World} {A : Around} {E : Value → Shared → Prop} {s : Shared} {env : Env} {value slice : Expr} {pos : Pos} {T id : String} {Q : Value → Shared → Prop}
    (hl : typeLookup (.type T) "__getitem__" = pure (some (.builtin id))) (hs : NoSl slice)
    (h : wpAny (model prog w) A (eval value env) (fun o s₁ => wpAny (model prog w) A (eval slice env) (fun i s₂ => s₂.TypeIs o T ∧ wpAny (model prog w) A (getItem o i) Q E s₂) E s₁) E s) :
    wpAny (model prog w) A (eval (.Subscript value slice pos) env) Q E s := by
  refine Subscript_ (wpAny_mono h (fun o s₁ h₁ => wpAny_mono h₁ (fun i s₂ h₂ => ?_) fun _ _ x => x) fun _ _ x => x)
  obtain ⟨hT, h₂⟩ := h₂
  unfold subscriptTail
  refine wpAny_bind ?_
  rw [getitemInPython_of_ne hT.not_modules]
  refine wpAny_bind (wpAny_specialOf hT hl ?_)
  have fin : wpAny (model prog w) A (subscripted slice false o i) (fun r s₃ => wpAny (model prog w) A (letTemporaryGo value o r >>= fun _ => pure r) Q E s₃) E s₂ := by
    rw [hs o i]
    exact wpAny_operating (wpAny_mono h₂ (fun r s₃ h₃ => wpAny_bind (wpAny_letTemporaryGo (wpAny_pure h₃))) fun _ _ x => x)
  first
    | exact wpAny_pure (wpAny_bind fin)
    | exact wpAny_bind (wpAny_pure (wpAny_bind fin))
    | exact wpAny_bind fin

theorem dict_typeIs {X : Cx} {pins : List (Addr × Obj)} {σ : St} {H : Hp} {s : Shared} {a : Addr} {y : V} {o : Option V} (I : Inv X pins σ H s) (g : DGet H a y o) : s.TypeIs (.ref a) "dict" := by
  rcases g with ⟨kvs, k, e, _, _⟩ | ⟨kvs, k, b, e, _, _, _⟩
  · obtain ⟨_, _, vs, _, dd⟩ := dk_rd I.hok e
    exact dd.typeIs
  · obtain ⟨_, _, xs, _, dd⟩ := dt_rd I.hok e
    exact dd.typeIs
/-- d[y] -/
def tDGet (td ty : TE) : TE := fun σ H Q => td σ H fun x H1 => ty σ H1 fun y H2 => ∃ a v, x = .ref a ∧ DGet H2 a y (some v) ∧ Q v H2
def tDNotIn (ty td : TE) : TE := fun σ H Q => ty σ H fun y H1 => td σ H1 fun x H2 => ∃ a o, x = .ref a ∧ DGet H2 a y o ∧ Q (.bl (!o.isSome)) H2
/-- d[y] = v -/
def sDPut (td ty tv : TE) : TS := fun D σ H => tv σ H fun v H1 => td σ H1 fun x H2 => ty σ H2 fun y H3 => ∃ a H4, x = .ref a ∧ DPut H3 a y v H4 ∧ D.nx σ H4
section
variable {X : Cx} {o i e value : Expr} {pos pos' tpos : Pos} {td ty tv : TE}
theorem pe_dget (hu : X.A.units + 1 < cLine) (ho : PE X o td) (hi : PE X i ty) (hs : NoSl i) : PE X (.Subscript o i pos) (tDGet td ty) := by
  intro pins s σ H Q I h
  refine subD_of PySem.F.slot_dict_getitem.lookup hs (thn (ho pins s σ H _ I h) fun u s1 ⟨x, H1, I1, rx, q1⟩ => thn (hi pins s1 σ H1 _ I1 q1) fun iv s2 ⟨y, H2, I2, ry, a, v, ex, g, q2⟩ => ?_)
  subst ex
  obtain rfl : u = Value.ref a := rx
  exact ⟨dict_typeIs I2 g, d_getItem hu I2 g ry fun w' s3 I3 rw' => ⟨v, H2, I3, rw', q2⟩⟩
theorem pc_dnotin (hu : X.A.units + 1 < cLine) (hi : PE X i ty) (ho : PE X o td) : PC X .NotIn i o (tDNotIn ty td) := by
  intro pins s σ H Q I h
  refine thn (hi pins s σ H _ I h) fun iv s1 ⟨y, H1, I1, ry, q1⟩ => thn (ho pins s1 σ H1 _ I1 q1) fun u s2 ⟨x, H2, I2, rx, a, ov, ex, g, q2⟩ => ?_
  subst ex
  obtain rfl : u = Value.ref a := rx
  exact d_notIn hu I2 g ry fun s3 I3 => ⟨.bl (!ov.isSome), H2, I3, rfl, q2⟩
theorem ps_dput (hu : X.A.units + 1 < cLine) (ho : PE X o td) (hi : PE X i ty) (hv : PE X value tv) (hs : swapsWith value (some (.Subscript o i pos')) pos.line X.env = pure false) :
    PS X (.Assign [.Subscript o i pos'] value pos) (sDPut td ty tv) := by
  intro pins s σ H D I h
  refine wpAny_Assign_Subscript (thn (hv pins s σ H _ I h) fun r s1 ⟨v, H1, I1, rv, q1⟩ => thn (ho pins s1 σ H1 _ I1 q1) fun u s2 ⟨x, H2, I2, rx, q2⟩ => thn (hi pins s2 σ H2 _ I2 q2) fun iv s3 ⟨y, H3, I3, ry, a, H4, ex, g, q3⟩ => ?_) hs
  subst ex
  obtain rfl : u = Value.ref a := rx
  exact d_setItem hu I3 g ry rv fun s4 I4 => ⟨σ, H4, I4, q3⟩
end


/-! ### displays -/
theorem dk_empty {P : Program} {w : World} {H : Hp} (h : Heap) (hb : sysModules < h.objs.size) : ObjOk P w H (h.push { cls := .type "dict", data := .dict #[] }) h.objs.size (.dK []) :=
  ⟨Nat.zero_le _, beq_eq_false_iff_ne.mpr (Ne.symm (Nat.ne_of_lt hb)), [], .nil, Heap.DictOf.new h⟩
/-- {}, to be a dict of the kind that is wanted -/
def tDNewK : TE := fun _ H Q => ∀ p, H p = none → Q (.ref p) (upd H p (.dK []))
section
variable {X : Cx} {pos : Pos}
theorem pe_dnewK : PE X (.Dict [] [] pos) tDNewK := fun pins s σ H Q I h =>
  wpAny_Dict_empty ⟨.ref s.heap.objs.size, _, I.laid (a := s.heap.objs.size) (o := .dK []) (t' := s.toks) (fun _ _ q => Heap.get?_push_of_some _ q) (Nat.le_refl _) (dk_empty s.heap I.big), rfl, h _ (I.hok.fresh (Nat.le_refl _))⟩
end

/-! ### methods -/
/-- a method call o.m(e) of a built-in, with one argument: what must be seen of the text -/
structure M1 (X : Cx) (o : Expr) (m : Str) (apos : Pos) (e : Expr) (cpos : Pos) : Prop where
  base : attributeBase o m X.env (eval o X.env) = eval o X.env
  few : ((backTo cpos (starEach [e] X.env)).all (fun x => !x.1) && (backToKw cpos (keywordEach [] X.env)).all (fun x => x.1.isSome)
    && decide (([e] : List Expr).length + ([] : List Keyword).length + (if ([] : List Keyword).isEmpty then 0 else 1) < 30)) = true
  line : (apos.endLine == cpos.line) = true
  trees : backTo cpos (starEach [e] X.env) = [(false, eval e X.env)]
structure M2 (X : Cx) (o : Expr) (m : Str) (apos : Pos) (e f : Expr) (cpos : Pos) : Prop where
  base : attributeBase o m X.env (eval o X.env) = eval o X.env
  few : ((backTo cpos (starEach [e, f] X.env)).all (fun x => !x.1) && (backToKw cpos (keywordEach [] X.env)).all (fun x => x.1.isSome)
    && decide (([e, f] : List Expr).length + ([] : List Keyword).length + (if ([] : List Keyword).isEmpty then 0 else 1) < 30)) = true
  line : (apos.endLine == cpos.line) = true
  trees : backTo cpos (starEach [e, f] X.env) = [(false, eval e X.env), (false, eval f X.env)]

/-- a is a dict, whatever its keys -/
def IsD (H : Hp) (a : Addr) : Prop := (∃ kvs, Rd H a (.dK kvs)) ∨ ∃ kvs, Rd H a (.dT kvs)
theorem isD_at {X : Cx} {pins : List (Addr × Obj)} {σ : St} {H : Hp} {s : Shared} {a : Addr} (I : Inv X pins σ H s) (d : IsD H a) :
    s.TypeIs (.ref a) "dict" ∧ (∀ b, Value.ref a = .ref b → ∃ ob, s.heap.get? b = some ob ∧ ob.dict = none) ∧ (a == sysModules) = false := by
  rcases d with ⟨kvs, e⟩ | ⟨kvs, e⟩
  · obtain ⟨_, hd, vs, _, dd⟩ := dk_rd I.hok e
    refine ⟨dd.typeIs, fun b q => ?_, hd⟩
    cases q
    obtain ⟨ob, _, _, h1, h2, _⟩ := dd
    exact ⟨ob, h1, h2.2.1⟩
  · obtain ⟨_, hd, xs, _, dd⟩ := dt_rd I.hok e
    refine ⟨dd.typeIs, fun b q => ?_, hd⟩
    cases q
    obtain ⟨ob, _, _, h1, h2, _⟩ := dd
    exact ⟨ob, h1, h2.2.1⟩

section
variable {X : Cx} {pins : List (Addr × Obj)} {σ : St} {H : Hp} {s : Shared} {a : Addr} {y d : V} {u r : Value} {o : Option V} {A : Around} {E : Value → Shared → Prop}
/-- d.get(y) -/
theorem d_get1 {Q : Value → Shared → Prop} (hu : A.units + 1 < cLine) (I : Inv X pins σ H s) (g : DGet H a y o) (ry : RelV y u) (h : ∀ w' s', Inv X pins σ H s' → RelV (o.getD .non) w' → Q w' s') :
    wpAny (model X.prog X.w) A (call (.builtin "dict.get") [.ref a, u]) Q E s := by
  rcases g with ⟨kvs, k, e, ey, l⟩ | ⟨kvs, k, b, e, ey, eb, l⟩
  · subst ey
    obtain ⟨z, hd, vs, rel, dd⟩ := dk_rd I.hok e
    refine call_meetsIn PySem.F.slot_dict_get dd.typeIs PySem.F.entry_dict_get (PySem.F.args_dict_get_2 _ _) (meets_dict_get (mixKind X.prog X.w) a (kV_is ry) hd) ⟨_, dd.mapOf, h _ _ (I.tok _) ?_⟩
    rw [l]
    exact (rel.val k).getD rfl
  · subst ey
    cases (show u = Value.ref b from ry)
    obtain ⟨z, hd, xs, rel, dd⟩ := dt_rd I.hok e
    refine call_meetsIn PySem.F.slot_dict_get dd.typeIs PySem.F.entry_dict_get (PySem.F.args_dict_get_2 _ _) (meetsH_dict_get (tupleKind (mixKind X.prog X.w)) a b hd) ⟨tupleKind_room_in1 hu, k, xs, key_of I.hok eb, dd, h _ _ (I.tok _) ?_⟩
    rw [l]
    exact (rel.val k).getD rfl
/-- d.get(y, x) -/
theorem d_get2 {Q : Value → Shared → Prop} (hu : A.units + 1 < cLine) (I : Inv X pins σ H s) (g : DGet H a y o) (ry : RelV y u) (rd : RelV d r) (h : ∀ w' s', Inv X pins σ H s' → RelV (o.getD d) w' → Q w' s') :
    wpAny (model X.prog X.w) A (call (.builtin "dict.get") [.ref a, u, r]) Q E s := by
  rcases g with ⟨kvs, k, e, ey, l⟩ | ⟨kvs, k, b, e, ey, eb, l⟩
  · subst ey
    obtain ⟨z, hd, vs, rel, dd⟩ := dk_rd I.hok e
    refine call_meetsIn PySem.F.slot_dict_get dd.typeIs PySem.F.entry_dict_get (PySem.F.args_dict_get_3 _ _ _) (meets_dict_get_default (mixKind X.prog X.w) a (kV_is ry) hd r) ⟨_, dd.mapOf, h _ _ (I.tok _) ?_⟩
    rw [l]
    exact (rel.val k).getD rd
  · subst ey
    cases (show u = Value.ref b from ry)
    obtain ⟨z, hd, xs, rel, dd⟩ := dt_rd I.hok e
    refine call_meetsIn PySem.F.slot_dict_get dd.typeIs PySem.F.entry_dict_get (PySem.F.args_dict_get_3 _ _ _) (meetsH_dict_get_default (tupleKind (mixKind X.prog X.w)) a b hd r) ⟨tupleKind_room_in1 hu, k, xs, key_of I.hok eb, dd, h _ _ (I.tok _) ?_⟩
    rw [l]
    exact (rel.val k).getD rd
end

def tDGet1 (td ty : TE) : TE := fun σ H Q => td σ H fun x H1 => ∃ a, x = .ref a ∧ IsD H1 a ∧ ty σ H1 fun y H2 => ∃ o, DGet H2 a y o ∧ Q (o.getD .non) H2
def tDGet2 (td ty tx : TE) : TE := fun σ H Q => td σ H fun x H1 => ∃ a, x = .ref a ∧ IsD H1 a ∧ ty σ H1 fun y H2 => tx σ H2 fun z H3 => ∃ o, DGet H3 a y o ∧ Q (o.getD z) H3
def tDPop2 (td ty tx : TE) : TE := fun σ H Q => td σ H fun x H1 => ∃ a, x = .ref a ∧ IsD H1 a ∧ ty σ H1 fun y H2 => tx σ H2 fun z H3 => ∃ kvs k, H3 a = some (.dK kvs) ∧ y = kV k ∧
  (∀ v, valV kvs k = some v → Q v (upd H3 a (.dK (dropK kvs k)))) ∧ (valV kvs k = none → Q z H3)
section
variable {X : Cx} {o e f : Expr} {apos cpos : Pos} {td ty tx : TE}
theorem pe_dget1 (hu : X.A.units + 1 < cLine) (ho : PE X o td) (he : PE X e ty) (m : M1 X o "get" apos e cpos) : PE X (.Call (.Attribute o "get" apos) [e] [] cpos) (tDGet1 td ty) := by
  intro pins s σ H Q I h
  refine wpAny_Call_method m.base m.few m.line PySem.F.plainAttrs_dict PySem.F.slot_dict_get PySem.F.type_dict_get (thn (ho pins s σ H _ I h) fun u s1 ⟨x, H1, I1, rx, a, ex, d, q1⟩ => ?_)
  subst ex
  obtain rfl : u = Value.ref a := rx
  obtain ⟨t1, t2, _⟩ := isD_at I1 d
  refine ⟨t1, t2, ?_⟩
  rw [m.trees]
  refine Calls.callWith_builtin rfl (Calls.evalArgs_plain (Calls.spliced_cons (thn (he pins s1 σ H1 _ I1 q1) fun iv s2 ⟨y, H2, I2, ry, ov, g, q2⟩ => Calls.spliced_nil ?_)))
  exact d_get1 hu I2 g ry fun w' s3 I3 rw' => ⟨_, H2, I3, rw', q2⟩
theorem pe_dget2 (hu : X.A.units + 1 < cLine) (ho : PE X o td) (he : PE X e ty) (hf : PE X f tx) (m : M2 X o "get" apos e f cpos) : PE X (.Call (.Attribute o "get" apos) [e, f] [] cpos) (tDGet2 td ty tx) := by
  intro pins s σ H Q I h
  refine wpAny_Call_method m.base m.few m.line PySem.F.plainAttrs_dict PySem.F.slot_dict_get PySem.F.type_dict_get (thn (ho pins s σ H _ I h) fun u s1 ⟨x, H1, I1, rx, a, ex, d, q1⟩ => ?_)
  subst ex
  obtain rfl : u = Value.ref a := rx
  obtain ⟨t1, t2, _⟩ := isD_at I1 d
  refine ⟨t1, t2, ?_⟩
  rw [m.trees]
  refine Calls.callWith_builtin rfl (Calls.evalArgs_plain (Calls.spliced_cons (thn (he pins s1 σ H1 _ I1 q1) fun iv s2 ⟨y, H2, I2, ry, q2⟩ =>
    Calls.spliced_cons (thn (hf pins s2 σ H2 _ I2 q2) fun fv s3 ⟨z, H3, I3, rz, ov, g, q3⟩ => Calls.spliced_nil ?_))))
  exact d_get2 hu I3 g ry rz fun w' s4 I4 rw' => ⟨_, H3, I4, rw', q3⟩
theorem pe_dpop2 (ho : PE X o td) (he : PE X e ty) (hf : PE X f tx) (m : M2 X o "pop" apos e f cpos) : PE X (.Call (.Attribute o "pop" apos) [e, f] [] cpos) (tDPop2 td ty tx) := by
  intro pins s σ H Q I h
  refine wpAny_Call_method m.base m.few m.line PySem.F.plainAttrs_dict PySem.F.slot_dict_pop PySem.F.type_dict_pop (thn (ho pins s σ H _ I h) fun u s1 ⟨x, H1, I1, rx, a, ex, d, q1⟩ => ?_)
  subst ex
  obtain rfl : u = Value.ref a := rx
  obtain ⟨t1, t2, _⟩ := isD_at I1 d
  refine ⟨t1, t2, ?_⟩
  rw [m.trees]
  refine Calls.callWith_builtin rfl (Calls.evalArgs_plain (Calls.spliced_cons (thn (he pins s1 σ H1 _ I1 q1) fun iv s2 ⟨y, H2, I2, ry, q2⟩ =>
    Calls.spliced_cons (thn (hf pins s2 σ H2 _ I2 q2) fun fv s3 ⟨z, H3, I3, rz, kvs, k, ea, ey, q3, q4⟩ => Calls.spliced_nil ?_))))
  subst ey
  cases l : valV kvs k with
  | some v => exact d_pop I3 ea ry l (.inr ⟨fv, rfl⟩) fun w' s4 I4 rw' => ⟨v, _, I4, rw', q3 v l⟩
  | none => exact d_popD I3 ea ry l fun s4 I4 => ⟨z, H3, I4, rz, q4 l⟩
end

/-! ### dict(d): a copy -/
section
variable {X : Cx} {pins : List (Addr × Obj)} {σ : St} {H : Hp} {s : Shared} {a : Addr} {kvs : List (Key × V)} {A : Around} {E : Value → Shared → Prop}
end


section
variable {X : Cx} {pins : List (Addr × Obj)} {σ : St} {H : Hp} {s : Shared} {a : Addr} {y : V} {u : Value} {A : Around} {E : Value → Shared → Prop}
end
end L2

namespace HT
open PySem PyProof.Rows

section
open PySem.SeqAt
open PySem.AutoSeq1 (wpAny_loadPart')
open PySem.MeetsSeq PySem.MeetsSeq2 PySem.MeetsSeq3

end

section
variable {prog : Program} {w : World} {A : Around} {E : Value → Shared → Prop} {s : Shared}

/-- t + u, t not empty -/
theorem cat_tup {t b : Addr} {vs ws : List Value} {Q : Value → Shared → Prop} (ht : IsTup s.heap t vs.toArray) (hb : IsTup s.heap b ws.toArray) (hv : vs ≠ [])
    (h1 : ws = [] → Q (.ref t) s) (h2 : ws ≠ [] → Q (.ref s.heap.objs.size) { s with heap := s.heap.push { cls := .type "tuple", data := .seq (vs ++ ws).toArray } })
    (hsz : vs.length + ws.length ≤ sizeLine) : wpAny (model prog w) A (binaryOp .Add (.ref t) (.ref b)) Q E s := by
  obtain ⟨⟨cls, dd, data, sl⟩, ho, hc, n, hd⟩ := id ht
  obtain ⟨⟨cls2, dd2, data2, sl2⟩, ho2, hc2, n2, hd2⟩ := id hb
  simp only at hc hd hc2 hd2
  subst hc hd hc2 hd2
  have e : vs.toArray ++ ws.toArray = (vs ++ ws).toArray := by simp
  by_cases hw : ws = []
  · exact concat_meets ⟨_, ho, rfl⟩ ⟨_, ho2, rfl⟩ noFill_tuple_add seq_tuple_add PySem.F.slot_tuple_add PySem.F.entry_tuple_add (PySem.F.args_tuple_add_2 _ _)
      (tuple_addW1 t b vs.toArray ws.toArray n n2 dd dd2 sl sl2 (by simpa using hv) (by simp [hw])) ⟨ho, ho2, h1 hw⟩
  · refine concat_meets ⟨_, ho, rfl⟩ ⟨_, ho2, rfl⟩ noFill_tuple_add seq_tuple_add PySem.F.slot_tuple_add PySem.F.entry_tuple_add (PySem.F.args_tuple_add_2 _ _)
      (tuple_addW2 t b vs.toArray ws.toArray n n2 dd dd2 sl sl2 (by simpa using hv) (by simpa using hw) (by rw [List.size_toArray, List.size_toArray]; exact hsz)) ⟨ho, ho2, ?_⟩
    rw [e]
    exact h2 hw

/-! ### t[a:b], not the whole -/
/-- a slice's bound as a place among n (d where it is left out) -/
def sIx (n d : Nat) : Option Int → Nat
  | none => d
  | some v => if v < 0 then (v + (n : Int)).toNat else min v.toNat n
theorem sIx_none (n d : Nat) : sIx n d none = d := rfl
theorem sIx_nat (n d k : Nat) : sIx n d (some (k : Int)) = min k n := by
  show (if (k : Int) < 0 then ((k : Int) + (n : Int)).toNat else min (k : Int).toNat n) = min k n
  rw [if_neg (by omega), Int.toNat_natCast]
theorem sIx_le (n d : Nat) (hd : d ≤ n) (o : Option Int) : sIx n d o ≤ n := by
  cases o with
  | none => exact hd
  | some v =>
    show (if v < 0 then (v + (n : Int)).toNat else min v.toNat n) ≤ n
    by_cases hv : v < 0
    · rw [if_pos hv]; omega
    · rw [if_neg hv]; exact Nat.min_le_right _ _
theorem clip_eq (v : Int) (n d : Nat) : (if v < 0 then max (v + (n : Int)) 0 else min v (n : Int)) = ((sIx n d (some v) : Nat) : Int) := by
  show (if v < 0 then max (v + (n : Int)) 0 else min v (n : Int)) = (((if v < 0 then (v + (n : Int)).toNat else min v.toNat n) : Nat) : Int)
  by_cases hv : v < 0
  · simp only [if_pos hv]; omega
  · simp only [if_neg hv]; omega
theorem adjust_gen (lo hi : Option Int) (n : Nat) : Builtin.Slice.sliceAdjust lo hi 1 (n : Int) = (((sIx n 0 lo : Nat) : Int), ((sIx n n hi : Nat) : Int)) := by
  have h1 : ¬ ((1 : Int) < 0) := by omega
  unfold Builtin.Slice.sliceAdjust
  simp only [h1, if_false]
  refine Prod.ext ?_ ?_
  · cases lo with
    | none => rfl
    | some v => exact clip_eq v n 0
  · cases hi with
    | none => rfl
    | some v => exact clip_eq v n n
theorem places_gen (i j : Nat) : Builtin.Slice.slicePlaces (i : Int) (j : Int) 1 = j - i := by
  unfold Builtin.Slice.slicePlaces
  have h1 : (1 : Int) > 0 := by omega
  simp only [h1, if_true, Int.ediv_one]
  split <;> omega
theorem slicePart_ {v : Value} {o : Option Int} {Q : Option Int → Shared → Prop} (p : IsPart v o) (h : Q o s) : wpAny (model prog w) A (Builtin.Slice.slicePartIndex v) Q E s := by
  cases p with
  | none => exact slicePart_none h
  | int i t => exact slicePart_int h
theorem sliceApplied_gen {sl : Addr} {vl vu : Value} {lo hi : Option Int} {n : Nat} {Q : Int × Int × Nat → Shared → Prop} (hs : s.heap.IsSliceOf sl vl vu .none) (pl : IsPart vl lo) (pu : IsPart vu hi)
    (h : Q (((sIx n 0 lo : Nat) : Int), 1, sIx n n hi - sIx n 0 lo) s) : wpAny (model prog w) A (Builtin.Slice.sliceApplied (.ref sl) (pure (n : Int))) Q E s := by
  obtain ⟨os, hos, hcs, hds⟩ := id hs
  unfold Builtin.Slice.sliceApplied Builtin.Slice.sliceFields
  refine wpAny_bind (wpAny_bind (wpAny_field hos hds (x := vl) rfl (wpAny_bind (wpAny_field hos hds (x := vu) rfl (wpAny_bind (wpAny_field hos hds (x := .none) rfl (wpAny_pure ?_)))))))
  refine wpAny_bind (slicePart_none ?_)
  show wpAny _ _ (if ((1 : Int) == 0) = true then _ else _) _ _ s
  rw [if_neg (by decide)]
  refine wpAny_bind (slicePart_ pl (wpAny_bind (slicePart_ pu (wpAny_bind (wpAny_pure ?_)))))
  show wpAny _ _ (match Builtin.Slice.sliceAdjust lo hi 1 (n : Int) with | (lo, hi) => pure (lo, (1 : Int), Builtin.Slice.slicePlaces lo hi 1)) _ _ s
  rw [adjust_gen lo hi n]
  show wpAny _ _ (pure (((sIx n 0 lo : Nat) : Int), (1 : Int), Builtin.Slice.slicePlaces ((sIx n 0 lo : Nat) : Int) ((sIx n n hi : Nat) : Int) 1)) _ _ s
  rw [places_gen]
  exact wpAny_pure h
theorem pick_gen (xs : Array Value) (i k : Nat) : ((List.range k).filterMap fun (m : Nat) => xs[((i : Int) + (m : Int) * 1).toNat]?).toArray = ((xs.toList.drop i).take k).toArray := by
  have e : (fun (m : Nat) => xs[((i : Int) + (m : Int) * 1).toNat]?) = fun m => xs[i + m]? := by
    funext m
    have : ((i : Int) + (m : Int) * 1).toNat = i + m := by omega
    rw [this]
  rw [e]
  have := pick_run xs i k
  rw [List.filterMap_map] at this
  have e2 : ((fun x => xs[x]?) ∘ fun x => i + x) = fun m => xs[i + m]? := rfl
  rw [e2] at this
  rw [this]

theorem getItem_tuple_cut {t sl : Addr} {items : Array Value} {vl vu : Value} {lo hi : Option Int} {Q : Value → Shared → Prop} (ht : IsTup s.heap t items) (hs : s.heap.IsSliceOf sl vl vu .none) (pl : IsPart vl lo) (pu : IsPart vu hi)
    (hw : ¬ (sIx items.size 0 lo = 0 ∧ sIx items.size items.size hi = items.size))
    (h : Q (.ref s.heap.objs.size) { s with heap := s.heap.push { cls := .type "tuple", data := .seq ((items.toList.drop (sIx items.size 0 lo)).take (sIx items.size items.size hi - sIx items.size 0 lo)).toArray } })
    (hsz : items.size ≤ sizeLine) : wpAny (model prog w) A (getItem (.ref t) (.ref sl)) Q E s := by
  have htake : sizeOk (.seq ((items.toList.drop (sIx items.size 0 lo)).take (sIx items.size items.size hi - sIx items.size 0 lo)).toArray) := by
    show ((items.toList.drop (sIx items.size 0 lo)).take (sIx items.size items.size hi - sIx items.size 0 lo)).toArray.size ≤ sizeLine
    rw [List.size_toArray, List.length_take, List.length_drop, Array.length_toList]
    omega
  have hj : sIx items.size items.size hi ≤ items.size := sIx_le _ _ (Nat.le_refl _) hi
  obtain ⟨os, hos, hcs, hds⟩ := id hs
  have hTs : s.TypeIs (.ref sl) "slice" := ⟨os, hos, hcs⟩
  unfold getItem
  try with_reducible refine wpAny_holding ?_
  first | refine wpAny_bind (wpAny_pure ?_) | skip
  refine wpAny_bind (wpAny_sequenceKey ht.typeIs (by decide) ?_)
  refine wpAny_bind (wpAny_callSpecial?_slot (name := Str.ofString "__getitem__") ht.typeIs PyProof.Rows.slot_tuple_getitem
    (wpAny_call_entry PyProof.Rows.slot_tuple_getitem ht.typeIs entry_tuple_getitem ?_ (args_tuple_getitem _ _)))
  show wpAny _ _ (Builtin.Tuple.tupleItemsOf (.ref t) >>= _) _ _ s
  refine wpAny_bind (tupleItemsOf_ ht ?_)
  refine wpAny_bind (wpAny_typeOf hTs ?_)
  rw [if_pos (by decide)]
  refine wpAny_bind (sliceApplied_gen hs pl pu ?_)
  have hno : ¬ ((((sIx items.size 0 lo : Nat) : Int) == 0 && (1 : Int) == 1 && (sIx items.size items.size hi - sIx items.size 0 lo) == items.size) = true) := by
    intro q
    rw [Bool.and_eq_true, Bool.and_eq_true] at q
    have q1 : ((sIx items.size 0 lo : Nat) : Int) = 0 := eq_of_beq q.1.1
    have q2 : sIx items.size items.size hi - sIx items.size 0 lo = items.size := eq_of_beq q.2
    exact hw ⟨by omega, by omega⟩
  show wpAny _ _ (if (((sIx items.size 0 lo : Nat) : Int) == 0 && (1 : Int) == 1 && (sIx items.size items.size hi - sIx items.size 0 lo) == items.size) = true then _ else _) _ _ s
  rw [if_neg hno, pick_gen]
  first
    | exact wpAny_bind (m := Builtin.Tuple.tupleExact _) (wpAny_newObj_type (wpAny_pure ⟨_, rfl, wpAny_pure h⟩) htake)
    | exact wpAny_bind (m := Builtin.Tuple.tupleExact _) (wpAny_newObj_type (wpAny_bind (wpAny_pure (wpAny_pure ⟨_, rfl, wpAny_pure h⟩))) htake)
    | exact wpAny_bind (wpAny_bind (m := Builtin.Tuple.tupleExact _) (wpAny_newObj_type (wpAny_pure (wpAny_pure ⟨_, rfl, wpAny_pure h⟩)) htake))
    | exact wpAny_bind (wpAny_bind (m := Builtin.Tuple.tupleExact _) (wpAny_newObj_type (wpAny_pure ⟨_, rfl, wpAny_pure h⟩) htake))
end
end HT

namespace L2
open PySem PySem.Spec PyProof.Rows

/-! ### the parts of a slice -/
abbrev TO := St → Hp → (Option Int → Hp → Prop) → Prop
/-- a slice's part (left out, or an int) -/
def PO (X : Cx) (e : Option Expr) (t : TO) : Prop :=
  ∀ (pins : List (Addr × Obj)) (s : Shared) (σ : St) (H : Hp) (Q : Option Int → Hp → Prop), Inv X pins σ H s → t σ H Q →
    wpAny (model X.prog X.w) X.A (evalPart e X.env) (fun u s' => ∃ o H', Inv X pins σ H' s' ∧ IsPart u o ∧ Q o H') X.xe s
def tNoPart : TO := fun _ H Q => Q none H
def tPart (t : TE) : TO := fun σ H Q => t σ H fun x H1 => ∃ i, x = .int i ∧ Q (some i) H1

theorem intsAre_of {ns : List Int} : ∀ {us : List Value}, Vals (ns.map V.int) us → IntsAre us ns := by
  induction ns with
  | nil => intro us r; rw [List.map_nil] at r; cases r; exact .nil
  | cons n ns ih =>
    intro us r
    rw [List.map_cons] at r
    cases r with
    | cons r1 r2 =>
      obtain ⟨t, e⟩ := r1
      subst e
      exact .cons n t (ih r2)

section
variable {X : Cx} {e : Expr} {te : TE} {lo hi : Option Expr} {tl th : TO} {pos p2 : Pos}

theorem po_none : PO X none tNoPart := by
  intro pins s σ H Q I h
  rw [evalPart_none]
  exact wpAny_pure ⟨none, H, I, .none, h⟩
theorem po_some (h : PE X e te) : PO X (some e) (tPart te) := by
  intro pins s σ H Q I hw
  rw [evalPart_some]
  refine thn (h pins s σ H _ I hw) fun u s1 ⟨x, H1, I1, r1, q1⟩ => ?_
  obtain ⟨i, rfl, q⟩ := q1
  obtain ⟨t, rfl⟩ := r1
  exact ⟨some i, H1, I1, .int i t, q⟩

/-- what a slice of a value is, by values: the slice object stands at sl -/
def SlR (X : Cx) (r : V → Option Int → Option Int → Hp → VK → Prop) : Prop :=
  ∀ (pins : List (Addr × Obj)) (s : Shared) (σ : St) (H : Hp) (x : V) (v vl vu : Value) (lo hi : Option Int) (sl : Addr) (Q : VK), Inv X pins σ H s → RelV x v → s.heap.IsSliceOf sl vl vu .none → IsPart vl lo → IsPart vu hi → r x lo hi H Q →
    ∃ T id, typeLookup (.type T) "__getitem__" = pure (some (.builtin id)) ∧ s.TypeIs v T ∧ wpAny (model X.prog X.w) X.A (getItem v (.ref sl)) (EP X pins σ Q) X.xe s
def tSl (r : V → Option Int → Option Int → Hp → VK → Prop) (te : TE) (tl th : TO) : TE := fun σ H Q => te σ H fun x H1 => tl σ H1 fun l H2 => th σ H2 fun u H3 => r x l u H3 Q
/-- a[lo:hi], any a -/
theorem pe_slice {r : V → Option Int → Option Int → Hp → VK → Prop} (hr : SlR X r) (he : PE X e te) (hl : PO X lo tl) (hu : PO X hi th) : PE X (.Subscript e (.Slice lo hi none p2) pos) (tSl r te tl th) := by
  intro pins s σ H Q I h
  refine Subscript_ (thn (he pins s σ H _ I h) fun v s1 ⟨x, H1, I1, r1, q1⟩ => ?_)
  refine wpAny_Slice (thn (hl pins s1 σ H1 _ I1 q1) fun vl s2 ⟨l, H2, I2, pl, q2⟩ => thn (hu pins s2 σ H2 _ I2 q2) fun vu s3 ⟨u, H3, I3, pu, q3⟩ => ?_)
  rw [evalPart_none]
  refine wpAny_pure ?_
  have I4 : Inv X pins σ H3 { s3 with heap := s3.heap.push { cls := .type "slice", data := .fields #[vl, vu, .none] } } := I3.kept (t' := s3.toks) fun b ob q => Heap.get?_push_of_some _ q
  obtain ⟨T, id, hT, ht, hg⟩ := hr pins { s3 with heap := s3.heap.push { cls := .type "slice", data := .fields #[vl, vu, .none] } } σ H3 x v vl vu l u s3.heap.objs.size Q I4 r1 (Heap.IsSliceOf.new ..) pl pu q3
  show wpAny (model X.prog X.w) X.A (subscriptTail e (.Slice lo hi none p2) v (.ref s3.heap.objs.size)) (EP X pins σ Q) X.xe { s3 with heap := s3.heap.push { cls := .type "slice", data := .fields #[vl, vu, .none] } }
  exact tail_any (ops := [.ref s3.heap.objs.size, v]) ht hT hg (by with_unfolding_all rfl)

/-- the items of xs[lo:hi] -/
def cutV (xs : List V) (lo hi : Option Int) : List V := (xs.drop (HT.sIx xs.length 0 lo)).take (HT.sIx xs.length xs.length hi - HT.sIx xs.length 0 lo)
theorem cutV_length (xs : List V) (lo hi : Option Int) : (cutV xs lo hi).length ≤ xs.length := by
  unfold cutV
  rw [List.length_take, List.length_drop]
  omega
/-- t[lo:hi], not the whole of it (the whole would be t itself) -/
def rSlT (K : PySem.W.Frag) : V → Option Int → Option Int → Hp → VK → Prop := fun x lo hi H Q => ∃ a xs, x = .ref a ∧ SqT K H a xs ∧
  ¬ (HT.sIx xs.length 0 lo = 0 ∧ HT.sIx xs.length xs.length hi = xs.length) ∧ ∀ p, H p = none → Q (.ref p) (upd H p (.tup (cutV xs lo hi)))
theorem sl_tup : SlR X (rSlT X.K) := by
  intro pins s σ H x v vl vu lo hi sl Q I rx hs pl pu h
  obtain ⟨a, xs, rfl, hx, hw, q⟩ := h
  cases rx
  obtain ⟨its, r, ht, hz⟩ := I.tuple hx
  have hlen : its.toArray.size = xs.length := by rw [List.size_toArray]; exact r.length.symm
  refine ⟨"tuple", _, PyProof.Rows.slot_tuple_getitem.lookup, ht.typeIs, ?_⟩
  refine HT.getItem_tuple_cut ht hs pl pu (by rw [hlen]; exact hw) ?_ (by rw [hlen]; exact hz)
  rw [hlen]
  refine ⟨.ref s.heap.objs.size, _, I.laid (t' := s.toks) (o := .tup (cutV xs lo hi)) (fun b ob q => Heap.get?_push_of_some _ q) (Nat.le_refl _) ?_, rfl, q _ (I.hok.fresh (Nat.le_refl _))⟩
  exact ⟨Nat.le_trans (cutV_length xs lo hi) hz, _, (r.drop (HT.sIx xs.length 0 lo)).take (HT.sIx xs.length xs.length hi - HT.sIx xs.length 0 lo), IsTup.new _ _⟩

/-! ### t < u, t + u -/
/-- t + u, t not empty: u empty gives t itself -/
def rCatT (K : PySem.W.Frag) : R2 := fun x y H Q => ∃ a b xs ys, x = .ref a ∧ y = .ref b ∧ SqT K H a xs ∧ SqT K H b ys ∧ xs ≠ [] ∧ xs.length + ys.length ≤ sizeLine ∧
  (ys = [] → Q (.ref a) H) ∧ (ys ≠ [] → ∀ p, H p = none → Q (.ref p) (upd H p (.tup (xs ++ ys))))
theorem Vals.nil_iff {xs : List V} {us : List Value} (r : Vals xs us) : us = [] ↔ xs = [] := by
  cases r with
  | nil => simp
  | cons _ _ => simp
theorem op_catT : OpR X (binaryOp .Add) (rCatT X.K) := by
  intro pins s σ H x y v u Q I rx ry h
  obtain ⟨a, b, xs, ys, rfl, rfl, ha, hb, hx, hz, q1, q2⟩ := h
  cases rx
  cases ry
  obtain ⟨its, r1, p1, _⟩ := I.tuple ha
  obtain ⟨its2, r2, p2, _⟩ := I.tuple hb
  refine HT.cat_tup p1 p2 (fun z => hx (r1.nil_iff.mp z)) (fun z => ⟨.ref a, H, I, rfl, q1 (r2.nil_iff.mp z)⟩) (fun z => ?_) (by rw [← r1.length, ← r2.length]; exact hz)
  refine ⟨.ref s.heap.objs.size, _, I.laid (t' := s.toks) (o := .tup (xs ++ ys)) (fun b ob q => Heap.get?_push_of_some _ q) (Nat.le_refl _) ?_, rfl, q2 (fun w => z (r2.nil_iff.mpr w)) _ (I.hok.fresh (Nat.le_refl _))⟩
  exact ⟨by rw [List.length_append]; exact hz, _, r1.append r2, IsTup.new _ _⟩
end
end L2

namespace L2
open PySem PySem.Spec PyProof.Rows

/-! ### places -/
/-- the place that an index of any sign means -/
def ixN (n : Nat) (i : Int) : Option Nat := if 0 ≤ i then (if i < n then some i.toNat else none) else if -(n : Int) ≤ i then some (i + n).toNat else none
def atI {α : Type} (xs : List α) (i : Int) : Option α := (ixN xs.length i).bind fun j => xs[j]?
theorem ixN_seq {n : Nat} {i : Int} {j : Nat} (h : ixN n i = some j) : seqIndex? i n = some j ∧ j < n ∧ -(n : Int) ≤ i ∧ i < n := by
  unfold ixN at h
  by_cases h0 : 0 ≤ i
  · rw [if_pos h0] at h
    by_cases h1 : i < n
    · rw [if_pos h1] at h
      have e : i.toNat = j := Option.some.inj h
      exact ⟨by rw [seqIndex_of h0 h1, e], by omega, by omega, h1⟩
    · rw [if_neg h1] at h; cases h
  · rw [if_neg h0] at h
    by_cases h1 : -(n : Int) ≤ i
    · rw [if_pos h1] at h
      have e : (i + n).toNat = j := Option.some.inj h
      exact ⟨by rw [seqIndex_neg (by omega) h1, e], by omega, h1, by omega⟩
    · rw [if_neg h1] at h; cases h
theorem atI_get {α : Type} {xs : List α} {i : Int} {v : α} (h : atI xs i = some v) : ∃ j, seqIndex? i xs.length = some j ∧ xs[j]? = some v ∧ j < xs.length ∧ -(xs.length : Int) ≤ i ∧ i < xs.length := by
  unfold atI at h
  cases e : ixN xs.length i with
  | none => rw [e] at h; cases h
  | some j =>
    rw [e] at h
    obtain ⟨h1, h2, h3, h4⟩ := ixN_seq e
    exact ⟨j, h1, h, h2, h3, h4⟩
theorem atI_nat {α : Type} {xs : List α} {j : Nat} {v : α} (h : xs[j]? = some v) : atI xs (j : Int) = some v := by
  have hj : j < xs.length := (List.getElem?_eq_some_iff.mp h).1
  have e : ixN xs.length (j : Int) = some j := by
    unfold ixN
    rw [if_pos (by omega), if_pos (by omega)]; simp
  unfold atI; rw [e]; exact h
theorem atI_last {α : Type} (xs : List α) (v : α) : atI (xs ++ [v]) (-1) = some v := by
  have hl : (xs ++ [v]).length = xs.length + 1 := by simp
  have e : ixN (xs ++ [v]).length (-1) = some xs.length := by
    unfold ixN
    rw [hl, if_neg (by decide), if_pos (by omega)]
    congr 1
    omega
  unfold atI
  rw [e]
  show (xs ++ [v])[xs.length]? = some v
  simp

/-! ### what may be subscripted -/
/-- what stands as an index of a plain subscript -/
def PlainIx (b : Expr) : Prop := ∀ o i, subscripted b false o i = operate [o, i] (getItem o i)
/-- a subscript by values -/
def IxR (X : Cx) (r : R2) : Prop :=
  ∀ (value slice : Expr) (pins : List (Addr × Obj)) (s : Shared) (σ : St) (H : Hp) (x y : V) (v u : Value) (Q : VK), Inv X pins σ H s → RelV x v → RelV y u → r x y H Q →
    subscripted slice false v u = operate [v, u] (getItem v u) → wpAny (model X.prog X.w) X.A (subscriptTail value slice v u) (EP X pins σ Q) X.xe s
/-- a call of a builtin's method by values: the receiver, the arguments -/
def MtR (X : Cx) (id : String) (r : V → List V → Hp → VK → Prop) : Prop :=
  ∀ (pins : List (Addr × Obj)) (s : Shared) (σ : St) (H : Hp) (x : V) (xs : List V) (v : Value) (us : List Value) (Q : VK), Inv X pins σ H s → RelV x v → Vals xs us → r x xs H Q →
    wpAny (model X.prog X.w) X.A (call (.builtin id) (v :: us)) (EP X pins σ Q) X.xe s
section
variable {X : Cx} {a b : Expr} {ta tb : TE} {pos : Pos}
/-- a[b] -/
theorem pe_ix {r : R2} (hr : IxR X r) (ha : PE X a ta) (hb : PE X b tb) (hs : PlainIx b) : PE X (.Subscript a b pos) (tOp r ta tb) := by
  intro pins s σ H Q I h
  exact Subscript_ (binT ha hb I h fun v u s2 x y H2 I2 rx ry q => hr a b pins s2 σ H2 x y v u Q I2 rx ry q (hs _ _))

def rIxL (K : PySem.W.Frag) : R2 := fun x y H Q => ∃ p xs i v, x = .ref p ∧ y = .int i ∧ SqL K H p xs ∧ atI xs i = some v ∧ Q v H
def rIxT (K : PySem.W.Frag) : R2 := fun x y H Q => ∃ p xs i v, x = .ref p ∧ y = .int i ∧ SqT K H p xs ∧ atI xs i = some v ∧ Q v H
def rIxS : R2 := fun x y H Q => ∃ z i c, x = .str z ∧ y = .int i ∧ z.length ≤ sizeLine ∧ atI z.cps.toList i = some c ∧ Q (.str ⟨#[c]⟩) H
theorem ix_list : IxR X (rIxL X.K) := by
  intro value slice pins s σ H x y v u Q I rx ry h hs
  obtain ⟨p, xs, i, z, rfl, rfl, hq, he, q⟩ := h
  cases rx
  obtain ⟨t, rfl⟩ := ry
  obtain ⟨its, r, pl, hz⟩ := I.list hq
  obtain ⟨j, h1, h2, h3, h4, h5⟩ := atI_get he
  obtain ⟨w, ew, rw'⟩ := r.get h2
  have hl := r.length
  have hn := line63
  have fin : EP X pins σ Q w s := ⟨z, H, I, rw', q⟩
  by_cases h0 : 0 ≤ i
  · have hj : i.toNat = j := by
      rw [seqIndex_of h0 h5] at h1
      exact Option.some.inj h1
    exact item_listR pl.isList h0 (by omega) (by rw [hj]; simpa using ew) fin hs
  · have hj : (i + (its.toArray.size : Int)).toNat = j := by
      rw [seqIndex_neg (by omega) h4] at h1
      rw [List.size_toArray, ← hl]
      exact Option.some.inj h1
    exact subscriptTail_builtinR (x := w) pl.isList.typeIs slot_list_getitem.lookup
      (wpAny_getItem_list_neg (Q := fun r s' => r = w ∧ EP X pins σ Q r s') pl.isList (by omega) (by rw [List.size_toArray] <;> omega) (by omega) (by rw [hj]; simpa using ew) ⟨rfl, fin⟩) hs
theorem ix_tup : IxR X (rIxT X.K) := by
  intro value slice pins s σ H x y v u Q I rx ry h hs
  obtain ⟨p, xs, i, z, rfl, rfl, hq, he, q⟩ := h
  cases rx
  obtain ⟨t, rfl⟩ := ry
  obtain ⟨its, r, pl, hz⟩ := I.tuple hq
  obtain ⟨j, h1, h2, h3, h4, h5⟩ := atI_get he
  obtain ⟨w, ew, rw'⟩ := r.get h2
  have hl := r.length
  have hn := line63
  have fin : EP X pins σ Q w s := ⟨z, H, I, rw', q⟩
  exact subscriptTail_builtinR (x := w) pl.typeIs slot_tuple_getitem.lookup
    (getItem_tuple (j := j) (Q := fun r s' => r = w ∧ EP X pins σ Q r s') pl (by omega) (by omega) (by rw [List.size_toArray, ← hl]; exact h1) (by simpa using ew) ⟨rfl, fin⟩) hs
theorem ix_str : IxR X rIxS := by
  intro value slice pins s σ H x y v u Q I rx ry h hs
  obtain ⟨z, i, c, rfl, rfl, hz, he, q⟩ := h
  obtain ⟨t, rfl⟩ := rx
  obtain ⟨t', rfl⟩ := ry
  obtain ⟨j, h1, h2, h3, h4, h5⟩ := atI_get he
  have hl : z.cps.toList.length = z.length := by simp [Str.length]
  rw [hl] at h1 h4 h5
  have hn := line63
  exact tail_any (typeIs_str s z t) slot_str_getitem.lookup (getItem_str (c := c) (by
    have e1 : decide (i < -(2 ^ 63 : Int)) = false := decide_eq_false (by omega)
    have e2 : decide (i ≥ 2 ^ 63) = false := decide_eq_false (by omega)
    rw [e1, e2, Bool.or_false]) (by rw [h1]; simpa using h2) ⟨.str ⟨#[c]⟩, H, I.tok _, ⟨_, rfl⟩, q⟩) hs
/-! ### xs[i] = v, any sign -/
/-- the list's object behind a store -/
theorem mapSeq_set (its : List Value) (n j : Nat) (u : Value) : Obj.mapSeq (·.setIfInBounds j u) { cls := .type "list", data := .seq its.toArray n } = { cls := .type "list", data := .seq (its.set j u).toArray n } := by
  simp [Obj.mapSeq]
theorem Inv.lst {pins : List (Addr × Obj)} {σ : St} {H : Hp} {s : Shared} {p : Addr} {xs : List V} (I : Inv X pins σ H s) (h : H p = some (.lst xs)) :
    ∃ (its : List Value) (n : Nat), Vals xs its ∧ s.heap.get? p = some { cls := .type "list", data := .seq its.toArray n } ∧ xs.length ≤ sizeLine := by
  obtain ⟨z, its, n, r, e⟩ := I.hok p _ h
  exact ⟨its, n, r, e, z⟩
/-- the list at p is written by an update of its object -/
theorem Inv.lstUpd {pins : List (Addr × Obj)} {σ : St} {H : Hp} {s : Shared} {p : Addr} {xs ys : List V} {its its' : List Value} {n n' : Nat} {f : Obj → Obj} (I : Inv X pins σ H s) (h : H p = some (.lst xs))
    (ho : s.heap.get? p = some { cls := .type "list", data := .seq its.toArray n }) (hf : f { cls := .type "list", data := .seq its.toArray n } = { cls := .type "list", data := .seq its'.toArray n' }) (r : Vals ys its') (hz : ys.length ≤ sizeLine) (t : Nat) :
    Inv X pins σ (upd H p (.lst ys)) { s with heap := s.heap.update p f, toks := t } := by
  have e : (s.heap.update p f).get? p = some { cls := .type "list", data := .seq its'.toArray n' } := by
    rw [Heap.get?_update_self f ho (by rw [hf] <;> rfl), hf]
  refine I.write (x := p) (e := p) (by rw [h]; trivial) (.inl rfl) (fun b u hb q => (Heap.get?_update_other _ _ (Ne.symm hb)).trans q) ⟨_, e⟩ ?_
  exact ⟨hz, its', n', r, e⟩
def rSetL : V → V → V → Hp → (Hp → Prop) → Prop := fun o i v H Q => ∃ p xs k j, o = .ref p ∧ i = .int k ∧ H p = some (.lst xs) ∧ ixN xs.length k = some j ∧ Q (upd H p (.lst (xs.set j v)))
theorem set_list : PSet X rSetL := by
  intro pins s σ H o i v ov iv u Q I ro ri rv h
  obtain ⟨p, xs, k, j, rfl, rfl, hp, hj, q⟩ := h
  cases ro
  obtain ⟨t, rfl⟩ := ri
  obtain ⟨its, n, r, ho, hz⟩ := I.lst hp
  obtain ⟨h1, h2, h3, h4⟩ := ixN_seq hj
  have hl := r.length
  have hn := line63
  have I' : Inv X pins σ (upd H p (.lst (xs.set j v))) { s with heap := s.heap.update p (Obj.mapSeq (·.setIfInBounds j u)) } :=
    I.lstUpd hp ho (mapSeq_set its n j u) (r.set rv j) (by rw [List.length_set]; exact hz) s.toks
  by_cases h0 : 0 ≤ k
  · have hk : k.toNat = j := by
      rw [seqIndex_of h0 h4] at h1
      exact Option.some.inj h1
    exact PySem.W.ki_setAt ho h0 (by omega) (by rw [List.size_toArray, ← hl]; exact h4) (by rw [hk]; exact ⟨_, I', q⟩)
  · have hk : (k + (its.toArray.size : Int)).toNat = j := by
      rw [seqIndex_neg (by omega) h3] at h1
      rw [List.size_toArray, ← hl]
      exact Option.some.inj h1
    exact PySem.W.ki_setBack ho (by omega) (by rw [List.size_toArray, ← hl]; exact h3) (by omega) (by rw [hk]; exact ⟨_, I', q⟩)

/-! ### slices -/
theorem slice_bounds (lo hi : Option Int) (n : Nat) : (sliceBounds lo hi none n).1 = ((HT.sIx n 0 lo : Nat) : Int) ∧ (sliceBounds lo hi none n).2.1 = ((HT.sIx n n hi : Nat) : Int) ∧ (sliceBounds lo hi none n).2.2 = 1 := by
  refine ⟨?_, ?_, rfl⟩
  · cases lo with
    | none => simp [sliceBounds, HT.sIx]
    | some i =>
      simp only [sliceBounds, HT.sIx, Option.getD_none, show (1 : Int) > 0 by decide, if_true]
      by_cases h : i < 0
      · simp only [h, if_true] <;> omega
      · simp only [h, if_false] <;> omega
  · cases hi with
    | none => simp [sliceBounds, HT.sIx]
    | some i =>
      simp only [sliceBounds, HT.sIx, Option.getD_none, show (1 : Int) > 0 by decide, if_true]
      by_cases h : i < 0
      · simp only [h, if_true] <;> omega
      · simp only [h, if_false] <;> omega
theorem slicePick_cut (its : List Value) (lo hi : Option Int) : slicePick its.toArray lo hi none = ((its.drop (HT.sIx its.length 0 lo)).take (HT.sIx its.length its.length hi - HT.sIx its.length 0 lo)).toArray := by
  obtain ⟨h1, h2, h3⟩ := slice_bounds lo hi its.toArray.size
  unfold slicePick
  rw [h1, h2, h3]
  simp only [sliceRange_one, pick_run, List.size_toArray] <;> rfl
/-- xs[lo:hi] of a list: a new list -/
def rSlL (K : PySem.W.Frag) : V → Option Int → Option Int → Hp → VK → Prop := fun x lo hi H Q => ∃ a xs, x = .ref a ∧ SqL K H a xs ∧ ∀ p, H p = none → Q (.ref p) (upd H p (.lst (cutV xs lo hi)))
theorem sl_list : SlR X (rSlL X.K) := by
  intro pins s σ H x v vl vu lo hi sl Q I rx hs pl pu h
  obtain ⟨a, xs, rfl, hx, q⟩ := h
  cases rx
  obtain ⟨its, r, ht, hz⟩ := I.list hx
  have hlen := r.length
  refine ⟨"list", _, slot_list_getitem.lookup, ht.isList.typeIs, ?_⟩
  refine wpAny_getItem_list_slice ht.isList hs pl pu .none (by simp) ?_ (by rw [List.size_toArray] <;> omega)
  rw [slicePick_cut, ← hlen]
  refine ⟨.ref s.heap.objs.size, _, I.laid (t' := s.toks) (o := .lst (cutV xs lo hi)) (fun b ob q => Heap.get?_push_of_some _ q) (Nat.le_refl _) ?_, rfl, q _ (I.hok.fresh (Nat.le_refl _))⟩
  exact ⟨Nat.le_trans (cutV_length xs lo hi) hz, _, 0, (r.drop (HT.sIx xs.length 0 lo)).take (HT.sIx xs.length xs.length hi - HT.sIx xs.length 0 lo), Heap.get?_push_size _ rfl⟩

/-! ### in, not in: flat items -/
def flatV : V → Bool
  | .non => true
  | .bl _ => true
  | .int _ => true
  | .str _ => true
  | _ => false
/-- == of flat values -/
def eqV : V → V → Bool
  | .non, .non => true
  | .bl a, .bl b => a == b
  | .bl a, .int b => (if a then 1 else 0) == b
  | .int a, .bl b => a == (if b then 1 else 0)
  | .int a, .int b => a == b
  | .str a, .str b => a == b
  | _, _ => false
theorem eqAt_V {A : Around} {s : Shared} {y x : V} {u v : Value} (ry : RelV y u) (rx : RelV x v) (fy : flatV y = true) (fx : flatV x = true) : SeqAt.EqAt A s u v (eqV y x) := by
  cases y with
  | non =>
    cases ry
    cases x with
    | non => cases rx; exact SeqAt.EqAt.same _
    | bl b => cases rx; exact SeqAt.EqAt.none_bool b
    | int b => obtain ⟨t, rfl⟩ := rx; exact SeqAt.EqAt.none_int b t
    | str b => obtain ⟨t, rfl⟩ := rx; exact SeqAt.EqAt.none_str b t
    | _ => exact absurd (show false = true from fx) Bool.false_ne_true
  | bl a =>
    cases ry
    cases x with
    | non => cases rx; exact SeqAt.EqAt.bool_none a
    | bl b => cases rx; exact SeqAt.EqAt.bool_bool a b
    | int b => obtain ⟨t, rfl⟩ := rx; exact SeqAt.EqAt.bool_int a b t
    | str b => obtain ⟨t, rfl⟩ := rx; exact SeqAt.EqAt.bool_str a b t
    | _ => exact absurd (show false = true from fx) Bool.false_ne_true
  | int a =>
    obtain ⟨t', rfl⟩ := ry
    cases x with
    | non => cases rx; exact SeqAt.EqAt.int_none a t'
    | bl b => cases rx; exact SeqAt.EqAt.int_bool a t' b
    | int b => obtain ⟨t, rfl⟩ := rx; exact SeqAt.EqAt.int_int a t' b t
    | str b => obtain ⟨t, rfl⟩ := rx; exact SeqAt.EqAt.int_str a t' b t
    | _ => exact absurd (show false = true from fx) Bool.false_ne_true
  | str a =>
    obtain ⟨t', rfl⟩ := ry
    cases x with
    | non => cases rx; exact SeqAt.EqAt.str_none a t'
    | bl b => cases rx; exact SeqAt.EqAt.str_bool a t' b
    | int b => obtain ⟨t, rfl⟩ := rx; exact SeqAt.EqAt.str_int a t' b t
    | str b => obtain ⟨t, rfl⟩ := rx; exact SeqAt.EqAt.str_str a t' b t
    | _ => exact absurd (show false = true from fx) Bool.false_ne_true
  | _ => exact absurd (show false = true from fy) Bool.false_ne_true
/-- the items' answers, read off the values (a value's own answer does not lean on its token) -/
def eqU (x : V) (u : Value) : Bool := match u with
  | .none => eqV .non x
  | .bool b => eqV (.bl b) x
  | .int i _ => eqV (.int i) x
  | .str z _ => eqV (.str z) x
  | _ => false
theorem eqU_of {x y : V} {u : Value} (r : RelV y u) (f : flatV y = true) : eqU x u = eqV y x := by
  cases y with
  | non => cases r; rfl
  | bl b => cases r; rfl
  | int i => obtain ⟨t, rfl⟩ := r; rfl
  | str z => obtain ⟨t, rfl⟩ := r; rfl
  | _ => exact absurd (show false = true from f) Bool.false_ne_true
theorem any_eqU {x : V} : ∀ {xs : List V} {us : List Value}, Vals xs us → xs.all flatV = true → us.any (eqU x) = xs.any fun y => eqV y x
  | _, _, .nil, _ => rfl
  | y :: xs, u :: us, .cons r t, f => by
    rw [List.all_cons, Bool.and_eq_true] at f
    rw [List.any_cons, List.any_cons, eqU_of r f.1, any_eqU t f.2]
theorem mem_eqAt {A : Around} {s : Shared} {x : V} {v : Value} (rx : RelV x v) (fx : flatV x = true) : ∀ {xs : List V} {us : List Value}, Vals xs us → xs.all flatV = true → ∀ u ∈ us, SeqAt.EqAt A s u v (eqU x u)
  | _, _, .nil, _ => fun u hu => by cases hu
  | y :: xs, u :: us, .cons r t, f => fun u' hu => by
    rw [List.all_cons, Bool.and_eq_true] at f
    rcases List.mem_cons.mp hu with rfl | hu
    · rw [eqU_of r f.1]; exact eqAt_V r rx f.1 fx
    · exact mem_eqAt rx fx t f.2 u' hu
def inV (x : V) (xs : List V) : Bool := xs.any fun y => eqV y x
/-- x in a list or tuple of flat items -/
def rIn (K : PySem.W.Frag) (neg : Bool) : R2 := fun x y H Q => ∃ p xs, y = .ref p ∧ (SqL K H p xs ∨ SqT K H p xs) ∧ flatV x = true ∧ xs.all flatV = true ∧ Q (.bl (if neg then !inV x xs else inV x xs)) H
theorem op_notIn_seq : OpR X (compareOp .NotIn) (rIn X.K true) := by
  intro pins s σ H x y v u Q I rx ry h
  obtain ⟨p, xs, rfl, hq, fx, fs, q⟩ := h
  cases ry
  rcases hq with hq | hq
  · obtain ⟨its, r, pl, hz⟩ := I.list hq
    refine SeqAt.notIn_listAt (eqU x) pl.isList (fun w hw => mem_eqAt rx fx r fs w (by simpa using hw)) ⟨.bl _, H, I, rfl, ?_⟩
    rw [show its.toArray.any (eqU x) = its.any (eqU x) by simp, any_eqU r fs]
    exact q
  · obtain ⟨its, r, pl, hz⟩ := I.tuple hq
    refine SeqAt.notIn_tupleAt (eqU x) pl (fun w hw => mem_eqAt rx fx r fs w (by simpa using hw)) ⟨.bl _, H, I, rfl, ?_⟩
    rw [show its.toArray.any (eqU x) = its.any (eqU x) by simp, any_eqU r fs]
    exact q
/-! ### len, list(x), tuple(x) of any list or tuple that is read -/
theorem call_len_seq : CallR X (.builtin "len") (fun xs H Q => ∃ p ys, xs = [.ref p] ∧ (SqL X.K H p ys ∨ SqT X.K H p ys) ∧ Q (.int ys.length) H) := by
  intro pins s σ H xs us Q I r h
  obtain ⟨p, ys, rfl, hq, q⟩ := h
  obtain ⟨u, rfl, rx⟩ := vals1 r
  cases rx
  have hn := line63
  rcases hq with hq | hq
  · obtain ⟨its, r', pl, hz⟩ := I.list hq
    have hlen := r'.length
    exact Calls.call_len_list pl.isList (by simp only [List.size_toArray] <;> omega) ⟨.int ys.length, H, I.tok _, ⟨s.toks + 1, by rw [List.size_toArray, hlen]⟩, q⟩
  · obtain ⟨its, r', pl, hz⟩ := I.tuple hq
    have hlen := r'.length
    exact len_tuple pl (by simp only [List.size_toArray] <;> omega) ⟨.int ys.length, H, I.tok _, ⟨s.toks + 1, by rw [List.size_toArray, hlen]⟩, q⟩
theorem call_tuple_of : CallR X (.type "tuple") (fun xs H Q => ∃ p ys, xs = [.ref p] ∧ ((SqL X.K H p ys ∧ ∀ l, H l = none → Q (.ref l) (upd H l (.tup ys))) ∨ (SqT X.K H p ys ∧ Q (.ref p) H))) := by
  intro pins s σ H xs us Q I r h
  obtain ⟨p, ys, rfl, h⟩ := h
  obtain ⟨u, rfl, rx⟩ := vals1 r
  cases rx
  rcases h with ⟨hq, q⟩ | ⟨hq, q⟩
  · obtain ⟨its, r', pl, hz⟩ := I.list hq
    have hlen := r'.length
    refine call_tuple_list pl.isList (fun h' kp => ?_) (by simp only [List.size_toArray] <;> omega)
    have I1 : Inv X pins σ H { s with heap := h' } := I.kept (t' := s.toks) kp
    have I2 : Inv X pins σ (upd H h'.objs.size (.tup ys)) { s with heap := h'.push { cls := .type "tuple", data := .seq its.toArray } } :=
      I1.laid (t' := s.toks) (fun b o e => Heap.get?_push_of_some _ e) (Nat.le_refl _) (show ObjOk X.prog X.w _ _ _ (.tup ys) from ⟨hz, its, r', IsTup.new _ _⟩)
    exact ⟨.ref h'.objs.size, _, I2, rfl, q _ (I1.hok.fresh (Nat.le_refl _))⟩
  · obtain ⟨its, r', pl, hz⟩ := I.tuple hq
    exact call_tuple_same pl ⟨.ref p, H, I, rfl, q⟩

/-! ### the call of a builtin's method: o.m(..) -/
/-- the value is of that builtin type -/
def tyV (K : PySem.W.Frag) (T : String) (x : V) (H : Hp) : Prop := match x with
  | .str _ => T = "str"
  | .int _ => T = "int"
  | .ref p => (T = "list" ∧ ∃ xs, SqL K H p xs) ∨ (T = "tuple" ∧ ∃ o, K.lookup p = some o ∧ o.cls = .type "tuple" ∧ o.dict = none) ∨
      (T = "dict" ∧ ((∃ kvs, H p = some (.dK kvs)) ∨ ∃ kvs, H p = some (.dT kvs))) ∨ (T = "set" ∧ ∃ S n, H p = some (.set S n))
  | _ => False
theorem tyV_is {pins : List (Addr × Obj)} {σ : St} {H : Hp} {s : Shared} {T : String} {x : V} {v : Value} (I : Inv X pins σ H s) (r : RelV x v) (ty : tyV X.K T x H) :
    s.TypeIs v T ∧ ∀ a, v = .ref a → ∃ ob, s.heap.get? a = some ob ∧ ob.dict = none := by
  cases x with
  | str z =>
    obtain ⟨t, rfl⟩ := r
    cases (show T = "str" from ty)
    exact ⟨typeIs_str s z t, fun _ e => nomatch e⟩
  | int i =>
    obtain ⟨t, rfl⟩ := r
    cases (show T = "int" from ty)
    exact ⟨typeIs_int s i t, fun _ e => nomatch e⟩
  | ref p =>
    cases r
    rcases ty with ⟨rfl, xs, hq⟩ | ⟨rfl, o, hk, hc, hd⟩ | ⟨rfl, hk⟩ | ⟨rfl, S, n, hk⟩
    · obtain ⟨its, _, pl, _⟩ := I.list hq
      refine ⟨pl.isList.typeIs, fun a e => ?_⟩
      cases e
      obtain ⟨o, n, e, c, hd, _⟩ := pl
      exact ⟨o, e, hd⟩
    · refine ⟨⟨o, I.kIn p o hk, hc⟩, fun a e => ?_⟩
      cases e
      exact ⟨o, I.kIn _ o hk, hd⟩
    · have z : ∃ o, s.heap.get? p = some o ∧ o.ExactDict := by
        rcases hk with ⟨kvs, hk⟩ | ⟨kvs, hk⟩
        · obtain ⟨_, _, _, _, o, _, _, e, ex, _⟩ := I.hok p _ hk
          exact ⟨o, e, ex⟩
        · obtain ⟨_, _, _, _, o, _, _, e, ex, _⟩ := I.hok p _ hk
          exact ⟨o, e, ex⟩
      obtain ⟨o, e, ex⟩ := z
      refine ⟨⟨o, e, ex.1⟩, fun a e2 => ?_⟩
      cases e2
      exact ⟨o, e, ex.2.1⟩
    · obtain ⟨o, _, _, _, e, ex, _⟩ := I.hok p _ hk
      refine ⟨⟨o, e, ex.1⟩, fun a e2 => ?_⟩
      cases e2
      exact ⟨o, e, ex.2.1⟩
  | _ => exact False.elim ty
def tBM (K : PySem.W.Frag) (T : String) (r : V → List V → Hp → VK → Prop) (to : TE) (t : TA) : TE := fun σ H Q => to σ H fun x H1 => tyV K T x H1 ∧ t σ H1 fun xs H2 => r x xs H2 Q
variable {o e : Expr} {es : List Expr} {to : TE} {t : TA} {name : Str} {apos cpos : Pos} {T id : String} {r : V → List V → Hp → VK → Prop}
theorem pe_bm (pa : PlainAttrs T) (slot : Slot T name id) (hty : typeOf (.builtin id) = pure (.type "method_descriptor")) (hm : MtR X id r) (ho : PE X o to) (ha : PA X (e :: es) t)
    (hbase : attributeBase o name X.env (eval o X.env) = eval o X.env := by rfl)
    (hfew : ((backTo cpos (starEach (e :: es) X.env)).all (fun x => !x.1) && (backToKw cpos (keywordEach [] X.env)).all (fun x => x.1.isSome)
      && decide ((e :: es).length + ([] : List Keyword).length + (if ([] : List Keyword).isEmpty then 0 else 1) < 30)) = true := by rfl)
    (hline : (apos.endLine == cpos.line) = true := by rfl) (hs : starEach (e :: es) X.env = (false, eval e X.env) :: starEach es X.env := by rfl) (hplain : (backTo cpos (starEach es X.env)).any (·.1) = false := by rfl) :
    PE X (.Call (.Attribute o name apos) (e :: es) [] cpos) (tBM X.K T r to t) := by
  intro pins s σ H Q I h
  refine wpAny_Call_method_late hbase hfew hline rfl (thn (ho pins s σ H _ I h) fun v s1 ⟨x, H1, I1, r1, ty, q1⟩ => ?_)
  obtain ⟨h1, h2⟩ := tyV_is I1 r1 ty
  refine ⟨T, id, pa, slot, hty, h1, h2, ?_⟩
  have hA := ha cpos pins s1 σ H1 _ I1 q1
  rw [hs] at hA ⊢
  refine Calls.callWith_builtin (by show (false || (backTo cpos (starEach es X.env)).any (·.1)) = false; rw [hplain] <;> rfl) (Calls.evalArgs_plain ?_)
  exact thn hA fun us s2 ⟨vs, H2, I2, r2, q2⟩ => hm pins s2 σ H2 x vs v us Q I2 r1 r2 q2
/- xs.append(e), list.index on a module's tuple .. are MtR facts of 06m -/
end
end L2

namespace L2
open PySem PySem.Spec PyProof.Rows

def MtM (X : Cx) (id : String) (r : V → List V → Hp → VK → Prop) : Prop :=
  ∀ (pins : List (Addr × Obj)) (s : Shared) (σ : St) (H : Hp) (x : V) (xs : List V) (v : Value) (us : List Value) (Q : VK), Inv X pins σ H s → RelV x v → Vals xs us → r x xs H Q →
    wpAny (model X.prog X.w) X.A (call (.builtin id) (v :: us)) (EP X pins σ Q) X.xe s

/-! ### lists of values -/
theorem Vals.one : ∀ {x : V} {us : List Value}, Vals [x] us → ∃ u, us = [u] ∧ RelV x u
  | _, _, .cons r .nil => ⟨_, rfl, r⟩
section
variable {X : Cx} {pins : List (Addr × Obj)} {σ : St} {H : Hp} {s : Shared} {l b : Addr} {xs ys zs : List V}

/-! ### the two steps: a tracked list is rewritten, a new list is laid -/
theorem Inv.lset {its its' : List Value} {n : Nat} {f : Array Value → Array Value} {t' : Nat} (I : Inv X pins σ H s) (hH : H l = some (.lst xs))
    (e : s.heap.get? l = some { cls := .type "list", data := .seq its.toArray n }) (hf : f its.toArray = its'.toArray) (hv : Vals ys its') (hz : ys.length ≤ sizeLine) :
    Inv X pins σ (upd H l (.lst ys)) { s with heap := s.heap.update l (Obj.mapSeq f), toks := t' } := by
  have q := PySem.IsL.update e f
  rw [hf] at q
  refine I.write (x := l) (e := l) (by rw [hH]; exact trivial) (.inl rfl) (fun b' u hb hu => (Heap.get?_update_other s.heap (Obj.mapSeq f) (Ne.symm hb)).trans hu) ⟨_, q⟩ ?_
  exact ⟨hz, its', _, hv, q⟩
theorem Inv.lnew {its : List Value} {t' : Nat} (I : Inv X pins σ H s) (hv : Vals ys its) (hz : ys.length ≤ sizeLine) :
    Inv X pins σ (upd H s.heap.objs.size (.lst ys)) { s with heap := s.heap.push { cls := .type "list", data := .seq its.toArray }, toks := t' } :=
  I.laid (fun _ _ q => Heap.get?_push_of_some _ q) (Nat.le_refl _) ⟨hz, its, 0, hv, Heap.get?_push_size _ rfl⟩
theorem Inv.fresh (I : Inv X pins σ H s) : H s.heap.objs.size = none := I.hok.fresh (Nat.le_refl _)
theorem Inv.lstM (I : Inv X pins σ H s) (hH : H l = some (.lst xs)) : xs.length ≤ sizeLine ∧ ∃ (its : List Value) (n : Nat), Vals xs its ∧ xs.length = its.length ∧ s.heap.get? l = some { cls := .type "list", data := .seq its.toArray n } := by
  obtain ⟨z, its, n, r, e⟩ := I.hok l _ hH
  exact ⟨z, its, n, r, r.length, e⟩

end

section
variable {X : Cx}

/-! ### methods -/
def rAppend : V → List V → Hp → VK → Prop := fun x vs H Q => ∃ l xs y, x = .ref l ∧ vs = [y] ∧ H l = some (.lst xs) ∧ xs.length < sizeLine ∧ Q .non (upd H l (.lst (xs ++ [y])))
theorem mt_append : MtM X "list.append" rAppend := by
  intro pins s σ H x vs v us Q I rx rv h
  obtain ⟨l, xs, y, rfl, rfl, hH, hz, q⟩ := h
  cases rx
  obtain ⟨u, rfl, ru⟩ := rv.one
  obtain ⟨z, its, n, r, hl, e⟩ := I.lstM hH
  refine call_meets F.slot_list_append ⟨_, e, rfl⟩ F.entry_list_append (F.args_list_append_2 _ _) (PySem.list_append l its.toArray n u (by rw [List.size_toArray]; omega)) ⟨e, ?_⟩
  refine ⟨.non, _, I.lset (its' := its ++ [u]) hH e (by simp) (r.append (.cons ru .nil)) ?_, rfl, q⟩
  rw [List.length_append, List.length_singleton]
  omega

/-! ### list + list, list += list, list * int -/
def rCat : R2 := fun x y H Q => ∃ l b xs zs, x = .ref l ∧ y = .ref b ∧ H l = some (.lst xs) ∧ H b = some (.lst zs) ∧ xs.length + zs.length ≤ sizeLine ∧ ∀ p, H p = none → Q (.ref p) (upd H p (.lst (xs ++ zs)))
theorem op_cat : OpR X (binaryOp .Add) rCat := by
  intro pins s σ H x y v u Q I rx ry h
  obtain ⟨l, b, xs, zs, rfl, rfl, hH, hB, hz, q⟩ := h
  cases rx
  cases ry
  obtain ⟨z, its, n, r, hl, e⟩ := I.lstM hH
  obtain ⟨z2, its2, n2, r2, hl2, e2⟩ := I.lstM hB
  refine PySem.P.add_list e e2 ?_ (by rw [List.size_toArray, List.size_toArray]; omega)
  have ea : its.toArray ++ its2.toArray = (its ++ its2).toArray := by simp
  rw [ea]
  exact ⟨.ref _, _, I.lnew (t' := s.toks) (r.append r2) (by rw [List.length_append]; omega), rfl, q _ I.fresh⟩
/-! ### del xs[i] -/
end

/-! ### xs[a:b] = ys -/
section
variable {prog : Program} {w : World} {A : Around} {E : Value → Shared → Prop} {s : Shared}
end

section
variable {X : Cx}
end
end L2

namespace Att
open PySem PySem.W PySem.Calls PyProof.Rows

/-! ### the script -/
theorem ints_of_wellAll {P : Params} {h : Heap} : ∀ (ns : List Int) (vs : List Value), WellAll P h vs (ns.map WData.int) → IntsAre vs ns := by
  intro ns
  induction ns with
  | nil =>
    intro vs w
    rw [List.map_nil] at w
    cases w
    exact .nil
  | cons n ns ih =>
    intro vs w
    rw [List.map_cons] at w
    cases w with
    | cons a b =>
      cases a
      exact .cons _ _ (ih _ b)

theorem script_of {l : OpenLaw} {n : Nat} (hn : l.most = some n) {P : Params} {h : Heap} {args : List WData} {vals : List Value}
    (hpre : l.row.toRowW.claim.pre args = true) (hwl : WellAll P h vals args) :
    ∃ a vs ns, vals = [Value.ref a] ∧ args = [WData.list (ns.map WData.int)] ∧ h.get? a = some { cls := .type "list", data := .seq vs.toArray } ∧ IntsAre vs ns ∧ ns.length ≤ n := by
  have hsh : WShape.hasAll [] args [.list .int] = true := (pre_splitW hpre).1
  have hc : l.pre.holds [] { args := args } = true := (pre_splitW hpre).2
  obtain ⟨d, r, rfl, h1, h2⟩ := hasAllW_cons hsh
  obtain rfl := hasAllW_nil h2
  obtain ⟨xs, rfl, h3⟩ := hasW_list h1
  obtain ⟨ns, rfl⟩ := items_int h3
  have hlen : ns.length ≤ n := by
    unfold OpenLaw.pre at hc
    have h4 : (WTm.not (.lt (.lit (.int (n : Int))) (.len (.arg 0)))).holds [] { args := [.list (ns.map .int)] } = true := by
      have h4 := (holds_andW hc).1
      rw [hn] at h4
      exact h4
    have h5 := condW_of h4 (w_not (w_lt w_lit (w_len_list (w_arg rfl))))
    rw [List.length_map] at h5
    refine Nat.le_of_not_lt fun q => ?_
    have q' : (n : Int) < ((ns.length : Nat) : Int) := by omega
    first
      | (rw [decide_eq_true q'] at h5; exact absurd h5 (by decide))
      | (simp at h5; omega)
  cases hwl with
  | cons w1 w2 =>
    cases w2
    cases w1 with
    | list ho hall => exact ⟨_, _, ns, rfl, rfl, ho, ints_of_wellAll ns _ hall, hlen⟩

theorem post_true (l : OpenLaw) (args : List WData) : l.row.toRowW.claim.post args (.bool true) args = true :=
  postW_of (r := l.row.toRowW) (X := (true == true))
    (show WShape.has [] (.bool true) .bool = true by first | rfl | decide | simp [WShape.has, WShape.arms, WShape.armsAll])
    (show (WTm.eq .res (.lit (.bool true))).value [] { args := args, res := some (.bool true), after := args } = some (.bool (true == true)) from w_eq_bool (w_res rfl) w_lit) rfl

/-! ### the attachment: holds_open's last premise (the goal 'hc' behind k_head) from a wpAny of the law's body -/
/-- the same from a codeAny of the CALL (for a layer whose function contracts speak of calls) -/
theorem attach_call {l : OpenLaw} {n : Nat} {q : Program} {loose : List Str} {XP : (Str → Option Value) → Heap → Prop} {YP : World → Heap → Prop} {d : DefRec}
    (hn : l.most = some n) (hdf : d.params.defaults = [])
    (call : ∀ (w : World) (s₀ s₁ : Shared) (mg mb : Str → Option Value) (fa : Addr) (o : Obj) (pm cd doc : Value) (a : Addr) (vs : List Value) (ns : List Int),
      Ground q loose [] XP w s₀ mg mb s₁.heap → YP w s₁.heap →
      s₁.heap.get? fa = some o → o.data = .func (docDef d.name d.params d.body d.scope pm cd doc) → s₁.heap.CodeRec cd d.name → mg d.name = some (.ref fa) →
      s₁.heap.get? a = some { cls := .type "list", data := .seq vs.toArray } → IntsAre vs ns → ns.length ≤ n → s₁.gens = #[] →
      codeAny (model l.prog w) callerA (.call (.ref fa) ⟨[.ref a], []⟩) (fun r s' => r = .ok (.ret (.bool true)) ∧ OldK s₁.heap s'.heap ∧ s'.os = s₁.os ∧ AllBare s'.gens) s₁) :
    WalkO q loose XP YP l.row.toRowW d [] (fun f vs => PySem.call f vs) := by
  intro w s₀ s₁ mg mb G Y fa o pm cd doc dV kV ho hd hcd hD hmg hg args vals as hpre hlay hrd hwl hlo
  obtain rfl : dV = .none := Dflts.none hD hdf
  obtain rfl : kV = .none := Dflts.noKw hD
  obtain ⟨a, vs, ns, rfl, rfl, hobj, hints, hlen⟩ := script_of hn hpre hwl
  refine enter_call (codeAny_mono (call w s₀ s₁ mg mb fa o pm cd doc a vs ns G Y ho (fd_plain hd) hcd hmg hobj hints hlen hg) fun r s' hq => ?_)
  obtain ⟨rfl, h2, h3, h4⟩ := hq
  exact ⟨.inl ⟨.bool true, .bool true, [], rfl, fun _ => rfl, .bool true, post_true l _, fun _ => ⟨List.Pairwise.nil, fun _ hm => (nomatch hm)⟩⟩, h2, h3, h4⟩

/-! ### rules over ANY heap (no ledger) from facts about the written part K: the library's own take a ledger (News) for what they write -/
section
variable {prog : Program} {w : World} {A : Around} {E : Value → Shared → Prop} {s : Shared} {K : Frag}

/-! the whole heap as the ledger: makes every rule that writes through a ledger a rule over any heap -/
end
end Att

namespace L2
open PySem PySem.Spec PyProof.Rows

theorem vals_ints : ∀ {vs : List Value} {ns : List Int}, IntsAre vs ns → Vals (ns.map V.int) vs
  | _, _, .nil => .nil
  | _, _, .cons n t h => .cons ⟨t, rfl⟩ (vals_ints h)

/-- nothing is tracked but the script, known to the object (or it is an object of the module) -/
def Only (H : Hp) : Prop := ∀ b, H b = none ∨ ∃ o xs, H b = some (.frz o (.lst xs))

/-- THE HEAD: the law's promise, at the heap behind the top. F, the promise of the law's def, may use that base is part of the heap (so K.In base, base.Ns mainGlobals mg stand in Mod) -/
theorem law_call {P : Program} {w : World} {K : PySem.W.Frag} {mg mb : Str → Option Value} {CX : CXT} {k : Nat} {fa a : Addr} {fd : FuncData} {x : Str} {sp : Sp} {s₁ : Shared} {vs : List Value} {ns : List Int}
    (KX : K.In s₁.heap) (hns : s₁.heap.Ns mainGlobals mg) (hb : s₁.heap.Ns builtinsNs mb) (hbb : ∀ x : Str, x ≠ "__name__" → mb x = bootBuiltins x) (hlim : s₁.heap.NoLimit) (hg : s₁.gens = #[])
    (ha : s₁.heap.get? a = some { cls := .type "list", data := .seq vs.toArray }) (hi : IntsAre vs ns) (hl : ns.length ≤ sizeLine) (hr : Room k callerA)
    (F : ∀ base : Heap, K.In base → base.Ns mainGlobals mg → FnOk P w K mg base CX k fa fd [x] sp) (hbind : ∀ (s : Shared) (u : Value), BindsTo s fd ⟨[u], []⟩ [(x, u)])
    (hsp : ∀ H : Hp, Only H → SqL K H a (ns.map V.int) → sp [.ref a] H (fun v _ => v = .bl true) fun _ _ _ => False)
    (hCX : ∀ H e s', CX [] H s₁ (fun _ _ _ => False) e s' → False) :
    codeAny (model P w) callerA (.call (.ref fa) ⟨[.ref a], []⟩) (fun r s' => r = .ok (.ret (.bool true)) ∧ OldK s₁.heap s'.heap ∧ s'.os = s₁.os ∧ AllBare s'.gens) s₁ := by
  have rv := vals_ints hi
  have lenV := hi.length
  -- from an abstract heap in which nothing but the script may be tracked
  have core : ∀ H : Hp, Only H → SqL K H a (ns.map V.int) → HOk P w H s₁.heap → (∀ b, H b ≠ none → b = a) → (H a ≠ none → K.lookup a = none) →
      codeAny (model P w) callerA (.call (.ref fa) ⟨[.ref a], []⟩) (fun r s' => r = .ok (.ret (.bool true)) ∧ OldK s₁.heap s'.heap ∧ s'.os = s₁.os ∧ AllBare s'.gens) s₁ := by
    intro H hO hS hok hA hK
    have base_of : ∀ {b : Addr} {o : Obj}, s₁.heap.get? b = some o → H b = none → (hidT s₁.heap H).get? b = some o := fun e n => hidT_get e n
    have noA : ∀ {b : Addr} {o : Obj} {es : Array DictEntry} {ep : Nat}, s₁.heap.get? b = some o → o.data = .dict es ep → H b = none := fun {b o es ep} e d => by
      cases q : H b with
      | none => rfl
      | some u =>
        have e' : b = a := hA b (by rw [q]; simp)
        subst e'
        rw [ha] at e; cases e
        have d' : Data.seq vs.toArray _ = Data.dict es ep := d
        cases d'
    have nsK : ∀ {b : Addr} {m : Str → Option Value}, s₁.heap.Ns b m → (hidT s₁.heap H).Ns b m := fun {b m} ⟨o, es, ep, e, d, r⟩ => ⟨o, es, ep, base_of e (noA e d), d, r⟩
    have hKb : K.In (hidT s₁.heap H) := fun b o e => base_of (KX b o e) (by
      cases q : H b with
      | none => rfl
      | some u =>
        have e' : b = a := hA b (by rw [q]; simp)
        subst e'
        rw [hK (by rw [q]; simp)] at e; cases e)
    have hM : Mod K mg (hidT s₁.heap H) := ⟨hKb, nsK hns, ⟨mb, nsK hb, hbb⟩, let ⟨mc, h1, h2⟩ := hlim; ⟨mc, nsK h1, h2⟩⟩
    have e0 : Env0 P w K mg (hidT s₁.heap H) callerA [] s₁ H := ⟨rfl, hM, fun b o e => of_hidT e, Nat.le_of_eq (hidT_size _ _), trivial, fun b hb => absurd (show b ∈ ([] : List Addr) from hb) (by simp), hok, .of_eq hg⟩
    refine codeAny_mono ((F _ hKb (nsK hns)).run callerA [] s₁ H ⟨[.ref a], []⟩ [.ref a] [.ref a] _ _ hr e0 (hbind s₁ (.ref a)) (.cons rfl .nil) (hsp H hO hS)) fun r s' h => ?_
    cases r with
    | error e => exact (hCX H e s' h).elim
    | ok fl =>
      cases fl with
      | next => exact False.elim h
      | brk => exact False.elim h
      | cont => exact False.elim h
      | ret u =>
        obtain ⟨v, H', os, bare, un, hok', r', q⟩ := h
        have q' : v = .bl true := q
        subst q'
        obtain rfl : u = Value.bool true := r'
        refine ⟨rfl, OldK.of_keep fun b o e => ?_, os, bare⟩
        cases q : H b with
        | none => exact un.keep b o e q (by intro z; exact absurd (show b ∈ ([] : List Addr) from z) (by simp)) (by simp)
        | some u =>
          rcases hO b with z | ⟨ob, xs, z⟩
          · rw [q] at z; cases z
          · have z2 := un.frzs b ob _ z
            obtain ⟨e1, _⟩ := hok b _ z
            obtain ⟨e2, _⟩ := hok' b _ z2
            rw [e] at e1; cases e1
            exact e2
  cases hk : K.lookup a with
  | some o =>
    -- the script is one of the module's own objects
    have e := KX a o hk
    rw [ha] at e
    cases e
    refine core (fun _ => none) (fun _ => .inl rfl) (.inr ⟨_, vs.toArray, _, hk, rfl, rfl, rfl, by rw [List.size_toArray, lenV]; exact hl, by simpa using rv⟩) (fun b u z => by have z' : (none : Option HO) = some u := z; cases z') (fun b z => absurd rfl z) fun z => absurd rfl z
  | none =>
    refine core (fun b => if b = a then some (.frz { cls := .type "list", data := .seq vs.toArray } (.lst (ns.map V.int))) else none) (fun b => ?_) (.inl (.inr ⟨{ cls := .type "list", data := .seq vs.toArray }, if_pos rfl⟩)) (fun b u z => ?_) (fun b z => ?_) fun _ => hk
    · by_cases hb : b = a
      · exact .inr ⟨_, _, if_pos hb⟩
      · exact .inl (if_neg hb)
    · by_cases hb : b = a
      · have z' := (if_pos hb).symm.trans z
        cases z'
        subst hb
        exact ⟨ha, by rw [List.length_map]; exact hl, vs, _, rv, ha⟩
      · have z' := (if_neg hb).symm.trans z
        cases z'
    · by_cases hb : b = a
      · exact hb
      · exact absurd (if_neg hb) z
end L2

namespace L2
open PySem PySem.Spec PyProof.Rows

/-- the goal that k_head leaves (case hc), from the law's promise. F gives the function object fd (K's own) once, then the promise over every base -/
theorem walk_of {l : PySem.W.OpenLaw} {n k : Nat} {q : Program} {loose : List Str} {XP : (Str → Option Value) → Heap → Prop} {YP : World → Heap → Prop} {d : DefRec} {K : Params → PySem.W.Frag} {CX : World → CXT} {sp : World → Sp} {x : Str}
    (hn : l.most = some n) (hn2 : n ≤ sizeLine) (hdf : d.params.defaults = []) (hr : Room k callerA)
    (hY : ∀ (w : World) (h : Heap), YP w h → (K w.params).In h)
    (F : ∀ (w : World) (mg : Str → Option Value) (fa : Addr) (h : Heap), (K w.params).In h → h.Ns mainGlobals mg → mg d.name = some (.ref fa) →
      ∃ fd : FuncData, (∀ (s : Shared) (u : Value), BindsTo s fd ⟨[u], []⟩ [(x, u)]) ∧
        ∀ base : Heap, (K w.params).In base → base.Ns mainGlobals mg → FnOk l.prog w (K w.params) mg base (CX w) k fa fd [x] (sp w))
    (hsp : ∀ (w : World) (H : Hp) (a : Addr) (ns : List Int), ns.length ≤ n → Only H → SqL (K w.params) H a (ns.map V.int) → sp w [.ref a] H (fun v _ => v = .bl true) fun _ _ _ => False)
    (hCX : ∀ (w : World) (H : Hp) (s : Shared) (e : Value) (s' : Shared), CX w [] H s (fun _ _ _ => False) e s' → False) :
    PySem.W.WalkO q loose XP YP l.row.toRowW d [] (fun f vs => PySem.call f vs) := by
  refine Att.attach_call hn hdf fun w s₀ s₁ mg mb fa o pm cd doc a vs ns G Y ho hd hcd hmg hobj hints hlen hg => ?_
  have KX := hY w _ Y
  obtain ⟨fd, hb, hF⟩ := F w mg fa _ KX G.T.g hmg
  exact law_call KX G.T.g G.T.b G.T.builtins G.T.nolimit hg hobj hints (Nat.le_trans hlen hn2) hr hF hb (fun H hO hS => hsp w H a ns hlen hO hS) fun H e s' => hCX w H s₁ e s'
end L2

/- THE LAST THEOREM (shape; LID, My.* are yours):
   My.Adr: a structure of the addresses that your layer names (classes, functions); My.Txt K t: a structure (Prop) of the equations over K;
   My.txt_mk : {K} {implicit addresses ..} (e1 : nsIn K mainGlobals "law" = some (some (.ref f))) (e2 : K.lookup f = some ⟨oc, od, .func (fnOf "law" "law" params body scope dV kV doc pm an cdv ct), sl⟩) (e3 : codeIn K cdv "law" = true) .. : ∃ t, My.Txt K t

set_option maxRecDepth 100000 in
set_option maxHeartbeats 0 in
theorem PySem.Challenge.cw_LID_holds : PySem.Challenge.rw_LID.Holds := by
  w_on; o_law; k_head; (case hw => w_witness2)
  k_fill
  refine L2.walk_of (l := PySem.Challenge.rw_LID) (n := 63) (k := 40) (x := "script") (CX := fun w => ..) (sp := fun _ => My.sp_law) rfl (by decide) rfl ⟨rfl, by decide, by decide⟩ (fun w h Y => PySem.W.kIn_of Y) ?F ?S ?C
  case F =>
    intro w mg fa h KX G hmg
    have T : ∃ t, My.Txt (L2.KOf KX) t := by
      dsimp only [L2.KOf]                          -- K must stand as «<heap const> w.params» for k_is
      refine' My.txt_mk ?e1 ?e2 ?e3 ..
      (case e1 => PySem.W.k_is)                    -- in the order: a name -> its address -> its object -> its parts
      (case e2 => PySem.W.k_is)
      ..
    obtain ⟨t, T⟩ := T
    have e0 := hmg.symm.trans (PySem.W.mg_of KX G T.law)
    cases e0                                       -- fa is the law's own address
    exact ⟨_, fun s u => .of_eq rfl, fun base kb nb => My.law_fn T kb nb⟩     -- if «.of_eq rfl» comes too early: refine' ⟨_, ?b, fun base kb nb => My.law_fn T kb nb⟩; exact fun s u => .of_eq rfl
  case S => exact fun w H a ns hl hO hS => ..
  case C => exact ..
(the tactic k_is has no namespace: write k_is) -/

/-! SHORT WORDS over the layer: a def of the text, its body, what a loop and a test want. -/
namespace L2
open PySem PySem.Spec PyProof.Rows

/-! ### the text by places -/
/-- the j-th statement of a class's body -/
def inClass (s : Stmt) (j : Nat) : Stmt := match s with
  | .ClassDef _ _ _ body _ _ _ _ _ _ _ => body.getD j (.Pass ⟨0, 0, 0, 0⟩)
  | _ => .Pass ⟨0, 0, 0, 0⟩
def defArgs (s : Stmt) : Arguments := match s with
  | .FunctionDef _ a _ _ _ _ _ _ _ _ => a
  | _ => { posonlyargs := [], args := [], vararg := none, kwonlyargs := [], kw_defaults := [], kwarg := none, defaults := [] }
def defBody (s : Stmt) : List Stmt := match s with
  | .FunctionDef _ _ b _ _ _ _ _ _ _ => b
  | _ => []
def defScope (s : Stmt) : Scope := match s with
  | .FunctionDef _ _ _ _ _ _ sc _ _ _ => sc
  | _ => { kind := .function, names := [], isGenerator := false, isCoroutine := false }

/-! ### no exception leaves a def -/
abbrev CX0 : CXT := fun _ _ _ _ _ _ => False
abbrev E0 : XK := fun _ _ _ => False
theorem pass0 {X : Cx} : Passes CX0 X E0 := fun _ _ _ _ _ _ _ h => h.elim

/-! ### a def (or method) of the text as it stands behind the top -/
structure Fun (K : PySem.W.Frag) (x qual : Str) (st : Stmt) (f : Addr) (fd : FuncData) : Prop where
  ex : ∃ (oc : Value) (od : Option Addr) (kV doc pm : Value) (an : Option Addr) (cdv ct : Value) (osl : Array (Option Value)),
    fd = PySem.W.fnOf x qual (defArgs st) (defBody st) (defScope st) .none kV doc pm an cdv ct ∧ K.lookup f = some ⟨oc, od, .func fd, osl⟩ ∧ PySem.W.codeIn K cdv qual = true
  kp : PySem.W.keepIn K (.ref f) = true
section
variable {P : Program} {w : World} {K : PySem.W.Frag} {mg : Str → Option Value} {base : Heap}
/-- THE RULE for a def: its body as a term of rules, and the reading of that term -/
theorem Fun.ok {x qual : Str} {st : Stmt} {f : Addr} {fd : FuncData} {N ps : List Str} {k : Nat} {sp : Sp} (F : Fun K x qual st f fd) (S : FnScope N ps (defScope st)) (len : ∀ vs H Q E, sp vs H Q E → vs.length = ps.length)
    (hbody : ∀ (cdv : Value) (A : Around) (outer : List Env) (s : Shared) (H : Hp) (vs : List V) (Q : VK) (E : XK), Room k (A.deeper (envOfC qual (defScope st) s.heap.objs.size f cdv)) → sp vs H Q E →
      ∃ t, PSs (cxOf CX0 P w K mg base N qual (defScope st) f cdv A outer s H E).nox (defBody st) t ∧ t { nx := fun _ H' => Q .non H', rt := Q } (start N vs) H) : FnOk P w K mg base CX0 (k + 1) f fd ps sp := by
  obtain ⟨oc, od, kV, doc, pm, an, cdv, ct, osl, rfl, lk, hcd⟩ := F.ex
  refine fn_of lk hcd S len fun A outer s H vs Q E hr hsp => ?_
  obtain ⟨t, h, q⟩ := hbody cdv A outer s H vs Q E hr hsp
  exact ⟨t, h.nox, q⟩
/-- how its arguments bind (no defaults): h is «fun _ _ _ _ _ _ us hl => match us, hl with | [_, _], _ => rfl», one _ a parameter -/
theorem Fun.binds {x qual : Str} {st : Stmt} {f : Addr} {fd : FuncData} {ps : List Str} (F : Fun K x qual st f fd)
    (h : ∀ (kV doc pm : Value) (an : Option Addr) (cdv ct : Value) (us : List Value), us.length = ps.length → bindArgs (PySem.W.fnOf x qual (defArgs st) (defBody st) (defScope st) .none kV doc pm an cdv ct) ⟨us, []⟩ = pure (ps.zip us)) : Binds K fd ps [] := by
  obtain ⟨oc, od, kV, doc, pm, an, cdv, ct, osl, rfl, lk, hcd⟩ := F.ex
  exact .all (h kV doc pm an cdv ct)
theorem fun_mk {x qual : Str} {st : Stmt} {f : Addr} {oc : Value} {od an : Option Addr} {osl : Array (Option Value)} {kV doc pm cdv ct : Value} (l : K.lookup f = some ⟨oc, od, .func (PySem.W.fnOf x qual (defArgs st) (defBody st) (defScope st) .none kV doc pm an cdv ct), osl⟩)
    (c : PySem.W.codeIn K cdv qual = true) (k : PySem.W.keepIn K (.ref f) = true) : Fun K x qual st f (PySem.W.fnOf x qual (defArgs st) (defBody st) (defScope st) .none kV doc pm an cdv ct) := ⟨⟨oc, od, kV, doc, pm, an, cdv, ct, osl, rfl, l, c⟩, k⟩
end
theorem hu_of {A : Around} {k : Nat} (hr : Room k A) : A.units + 1 < cLine := Nat.lt_of_le_of_lt (Nat.add_le_add_left (by decide : 1 ≤ 64) _) hr.units
theorem small1000 {n : Nat} (h : n ≤ 1000) : n < sizeLine := Nat.lt_of_le_of_lt h (by decide)

/-! ### expressions in short: the name that stands in the i-th slot -/
section
variable {X : Cx}
theorem pv (i : Nat) {x : Str} {pos : Pos} (hN : X.N[i]? = some x := by rfl) (hv : Vis X.env.scope x := by first | exact Or.inl rfl | exact Or.inr (Or.inl rfl) | exact Or.inr (Or.inr rfl)) (hd : (x == ("__debug__" : Str)) = false := by decide)
    (hcd : (x == ("__classdict__" : Str)) = false := by decide) : PE X (.Name x pos) (tVar i) := pe_var hN hv hd hcd
end

/-! ### tests -/
theorem iteF {A B : Prop} (h : B) : if false = true then A else B := by
  rw [if_neg Bool.false_ne_true]
  exact h
theorem iteT {A B : Prop} (h : A) : if true = true then A else B := by
  rw [if_pos rfl]
  exact h
theorem ite2 {c A B : Prop} [Decidable c] (h1 : c → A) (h2 : ¬ c → B) : if c then A else B := by
  by_cases h : c
  · rw [if_pos h]
    exact h1 h
  · rw [if_neg h]
    exact h2 h
theorem iteNS {c A B : Prop} [Decidable c] (hc : c) (h : B) : if (!decide c) = true then A else B := by
  rw [decide_eq_true hc]
  exact iteF h

/-! ### heaps -/
/-- all that was tracked is as it was -/
def Same (H H' : Hp) : Prop := ∀ b o, H b = some o → H' b = some o
theorem Same.refl (H : Hp) : Same H H := fun _ _ h => h
theorem Same.trans {H H1 H2 : Hp} (a : Same H H1) (b : Same H1 H2) : Same H H2 := fun c o h => b c o (a c o h)
theorem Same.free {H H' : Hp} (e : Same H H') {l : Addr} (h : H' l = Option.none) : H l = Option.none := by
  cases q : H l with
  | none => rfl
  | some o =>
    rw [e l o q] at h
    cases h
theorem Same.seq {K : PySem.W.Frag} {H H' : Hp} {a : Addr} {xs : List V} (e : Same H H') (h : SqL K H a xs) : SqL K H' a xs := by
  rcases h with (h | ⟨o, h⟩) | h
  · exact .inl (.inl (e _ _ h))
  · exact .inl (.inr ⟨o, e _ _ h⟩)
  · exact .inr h

/-! ### a dict's pairs: keys that differ -/
section
variable {κ : Type} [DecidableEq κ]
theorem valV_not {kvs : List (κ × V)} {k : κ} (h : valV kvs k = none) : ¬ k ∈ kvs.map (·.1) := by
  intro m
  obtain ⟨p, hp, e⟩ := List.mem_map.mp m
  have q : (kvs.any fun kv => decide (kv.1 = k)) = true := List.any_eq_true.mpr ⟨p, hp, decide_eq_true e⟩
  rw [valV_any, h] at q
  exact absurd q (by simp)
theorem nd_snoc : ∀ {l : List κ} {k : κ}, l.Nodup → ¬ k ∈ l → (l ++ [k]).Nodup
  | [], k, _, _ => by simp
  | a :: r, k, h, hk => by
    obtain ⟨h1, h2⟩ := List.nodup_cons.mp h
    show (a :: (r ++ [k])).Nodup
    refine List.nodup_cons.mpr ⟨fun m => ?_, nd_snoc h2 fun m => hk (List.mem_cons.mpr (Or.inr m))⟩
    rcases List.mem_append.mp m with q | q
    · exact h1 q
    · exact hk (List.mem_cons.mpr (Or.inl (List.mem_singleton.mp q).symm))
theorem dropK_pos {p : κ × V} {r : List (κ × V)} {k : κ} (e : p.1 = k) : dropK (p :: r) k = dropK r k := by
  unfold dropK
  rw [List.filter_cons, if_neg (by simp [e])]
theorem dropK_neg {p : κ × V} {r : List (κ × V)} {k : κ} (e : ¬ p.1 = k) : dropK (p :: r) k = p :: dropK r k := by
  unfold dropK
  rw [List.filter_cons, if_pos (by simp [e])]
theorem dropK_no : ∀ {kvs : List (κ × V)} {k : κ}, ¬ k ∈ kvs.map (·.1) → dropK kvs k = kvs
  | [], _, _ => rfl
  | p :: r, k, h => by
    have h' : ¬ k ∈ r.map (·.1) := fun m => by
      obtain ⟨q, hq, e⟩ := List.mem_map.mp m
      exact h (List.mem_map.mpr ⟨q, List.mem_cons.mpr (Or.inr hq), e⟩)
    rw [dropK_neg fun e => h (List.mem_map.mpr ⟨p, List.mem_cons.mpr (Or.inl rfl), e⟩), dropK_no h']
end
end L2




set_option maxHeartbeats 4000000
namespace L2
open PySem PySem.Spec PyProof.Rows

/-! ### comprehensions -/
theorem closure_go {env : Env} : ∀ (l : List (Str × NameKind)) (acc : List (Str × Addr)), (∀ x ∈ l, x.2 = NameKind.free → ∃ c, env.cells.lookup x.1 = some c) → (∀ x c, acc.lookup x = some c → env.cells.lookup x = some c) →
    ∃ cl : List (Str × Addr), (forIn l acc (fun (p : Str × NameKind) (cs : List (Str × Addr)) => if (p.2 == NameKind.free) = true then (do let c ← cellOf env p.1; pure (ForInStep.yield ((p.1, c) :: cs))) else pure (ForInStep.yield cs)) : Sem (List (Str × Addr))) = pure cl ∧
      (∀ x c, cl.lookup x = some c → env.cells.lookup x = some c) ∧ (∀ x, (x, NameKind.free) ∈ l → ∃ c, cl.lookup x = some c) ∧ ∀ x c, acc.lookup x = some c → ∃ c', cl.lookup x = some c'
  | [], acc, _, ha => ⟨acc, rfl, ha, fun _ z => (nomatch z), fun x c e => ⟨c, e⟩⟩
  | (n, k) :: r, acc, h, ha => by
    by_cases hk : k = NameKind.free
    · subst hk
      obtain ⟨c, hc⟩ := h (n, NameKind.free) List.mem_cons_self rfl
      obtain ⟨cl, e1, e2, e3, e4⟩ := closure_go r ((n, c) :: acc) (fun x hx => h x (List.mem_cons_of_mem _ hx)) (fun x c' e => by
        by_cases hx : x = n
        · subst hx
          simp only [List.lookup_cons, beq_self_eq_true] at e
          cases e
          exact hc
        · have hb : (x == n) = false := by simpa using hx
          simp only [List.lookup_cons, hb] at e
          exact ha x c' e)
      have hn : ∃ c', cl.lookup n = some c' := e4 n c (by simp only [List.lookup_cons, beq_self_eq_true])
      refine ⟨cl, ?_, e2, fun x hx => ?_, fun x c' e => ?_⟩
      · have hcell : cellOf env n = pure c := by unfold cellOf; rw [hc]
        rw [List.forIn_cons]
        show ((if (NameKind.free == NameKind.free) = true then (do let c ← cellOf env n; pure (ForInStep.yield ((n, c) :: acc))) else pure (ForInStep.yield acc)) >>= _) = pure cl
        rw [if_pos (by decide), hcell, pure_bind, pure_bind]
        exact e1
      · rcases List.mem_cons.mp hx with q | q
        · cases q; exact hn
        · exact e3 x q
      · by_cases hx : x = n
        · subst hx; exact hn
        · refine e4 x c' ?_
          have hb : (x == n) = false := by simpa using hx
          simp only [List.lookup_cons, hb]
          exact e
    · obtain ⟨cl, e1, e2, e3, e4⟩ := closure_go r acc (fun x hx => h x (List.mem_cons_of_mem _ hx)) ha
      refine ⟨cl, ?_, e2, fun x hx => ?_, e4⟩
      · have hb : (k == NameKind.free) = false := by simpa using hk
        rw [List.forIn_cons]
        show ((if (k == NameKind.free) = true then (do let c ← cellOf env n; pure (ForInStep.yield ((n, c) :: acc))) else pure (ForInStep.yield acc)) >>= _) = pure cl
        rw [hb, if_neg (by decide), pure_bind]
        exact e1
      · rcases List.mem_cons.mp hx with q | q
        · cases q; exact absurd rfl hk
        · exact e3 x q
theorem closure_of {scope : Scope} {env : Env} (h : ∀ x ∈ scope.names, x.2 = NameKind.free → ∃ c, env.cells.lookup x.1 = some c) :
    ∃ cl : List (Str × Addr), closureFor scope env = pure cl ∧ (∀ x c, cl.lookup x = some c → env.cells.lookup x = some c) ∧ ∀ x, (x, NameKind.free) ∈ scope.names → ∃ c, cl.lookup x = some c := by
  obtain ⟨cl, e1, e2, e3, _⟩ := closure_go scope.names [] h (fun x c e => by simp at e)
  refine ⟨cl, ?_, e2, e3⟩
  unfold closureFor
  show (forIn scope.names [] _ >>= fun cs => pure cs) = pure cl
  have e1' : (forIn scope.names ([] : List (Str × Addr)) (fun (x : Str × NameKind) (cs : List (Str × Addr)) => if (x.2 == NameKind.free) = true then (do let c ← cellOf env x.1; pure (ForInStep.yield ((x.1, c) :: cs))) else pure (ForInStep.yield cs)) : Sem (List (Str × Addr))) = pure cl := e1
  have e5 : ∀ (m : Sem (List (Str × Addr))), m = pure cl → (m >>= fun cs => pure cs) = pure cl := fun m e => by rw [e, pure_bind]
  exact e5 _ e1'

/-- the context of a comprehension's block: the enclosing names first, then the block's own -/
def cxC (X : Cx) (scope : Scope) (cl : List (Str × Addr)) (N2 ys : List Str) (C : Addr) (s : Shared) (H : Hp) (fp : List Addr) : Cx :=
  { prog := X.prog, w := X.w, K := X.K, mg := X.mg, base := X.base, A := X.A, N := N2 ++ ys, s₀ := s, H₀ := H, env := compEnvC scope cl C X.env, outer := X.stack, stack := X.stack, ex := fp, fn := fun _ => false, calm := X.calm, pn := [], xe := fun _ _ => False }

/-- the tests of a clause -/
def PTs (X : Cx) (ifs : List Expr) (t : TT) : Prop :=
  ∀ (pins : List (Addr × Obj)) (s : Shared) (σ : St) (H : Hp) (Q : Bool → Hp → Prop), Inv X pins σ H s → t σ H Q →
    wpAny (model X.prog X.w) X.A (forIn ifs true fun c r => if r = true then do let ok ← isTrue c X.env (eval c X.env); pure (ForInStep.yield ok) else pure (ForInStep.yield r)) (TP X pins σ Q) X.xe s
def tYes : TT := fun _ H Q => Q true H
theorem pts_nil {X : Cx} : PTs X [] tYes := fun _ _ _ H _ I h => wpAny_tests_nil ⟨H, I, h⟩
theorem pts_one {X : Cx} {c : Expr} {t : TT} (h : PT X c t) : PTs X [c] t := fun pins s σ H Q I q => wpAny_tests_one (h pins s σ H Q I q)

theorem compLoop_go {prog : Program} {w : World} {A : Around} {R : Result → Shared → Prop} {s : Shared} {elt target iter : Expr} {ifs : List Expr} {scope : Scope} {pos : Pos} {it acc : Value} {env : Env} (I : Nat → Shared → Prop)
    (turn : ∀ n s, I n s → wpAny (model prog w) A (pyNext it) (fun r s₁ => match r with
      | none => R (.ok .next) s₁
      | some v => wpAny (model prog w) A (letOwnedTupleGo target it v) (fun _ s₁' => wpAny (model prog w) A (assign target env v) (fun _ s₂ =>
          wpAny (model prog w) A (forIn ifs true fun c r => if r = true then do let ok ← isTrue c env (eval c env); pure (ForInStep.yield ok) else pure (ForInStep.yield r)) (fun ok s₃ =>
            if ok = true then wpAny (model prog w) A (eval elt env) (fun x s₄ =>
              wpAny (model prog w) A (call (.builtin "list.append") [acc, x]) (fun _ s₅ => ∃ m, m < n ∧ I m s₅) (notedBy (model prog w) A env fun e s' => R (.error e) s') s₄) (notedBy (model prog w) A env fun e s' => R (.error e) s') s₃
            else ∃ m, m < n ∧ I m s₃) (notedBy (model prog w) A env fun e s' => R (.error e) s') s₂) (notedBy (model prog w) A env fun e s' => R (.error e) s') s₁') (notedBy (model prog w) A env fun e s' => R (.error e) s') s₁) (notedBy (model prog w) A env fun e s' => R (.error e) s') s)
    (n : Nat) (h : I n s) :
    codeAny (model prog w) A (.compLoop (.ListComp elt [⟨target, iter, ifs, 0⟩] scope pos) 0 it acc env) R s := by
  refine codeAny_loop rfl I (fun n s hI => ?_) n h
  show wpAny _ A ((compTurn (.ListComp elt [⟨target, iter, ifs, 0⟩] scope pos) 0 it acc env).onRaise (fun x => do noteFrame x env; theTreesLotGoes x)) _ _ s
  refine wpAny_noted ?_
  rw [compTurn_list]
  refine wpAny_bind (wpAny_standAt (wpAny_bind (wpAny_mono (turn n s hI) (fun r s₁ h₁ => ?_) fun _ _ h' => h')))
  cases r with
  | none => exact wpAny_pure h₁
  | some v =>
    refine wpAny_bind (wpAny_mono h₁ (fun _ s₁' h₁' => ?_) fun _ _ h' => h')
    refine wpAny_bind (wpAny_mono h₁' (fun _ s₂ h₂ => wpAny_bind (wpAny_mono h₂ (fun ok s₃ h₃ => ?_) fun _ _ h' => h')) fun _ _ h' => h')
    cases ok with
    | false => exact wpAny_pure ⟨rfl, h₃⟩
    | true =>
      exact wpAny_bind (wpAny_bind (wpAny_mono h₃ (fun x s₄ h₄ => wpAny_bind (wpAny_mono h₄ (fun _ s₅ h₅ => wpAny_pure (wpAny_pure ⟨rfl, h₅⟩)) fun _ _ h' => h')) fun _ _ h' => h'))

/-- [elt for tg in iter if ..]: k names of its own -/
def LCT (k : Nat) (g : TG) (tt : TT) (te : TE) (σ : St) (Q : VK) (J : It) (H1 : Hp) : Prop := ∀ D, H1 D = none → ∃ W : Nat → Nat → List V → Hp → Prop, (∃ m, W 0 m [] (upd H1 D (.lst []))) ∧ ∀ i m ys H, W i m ys H →
  (J.stop i H ∧ Q (.ref D) H) ∨ (J.go i H ∧ ∀ x H', J.yld i H x H' → g x (σ ++ List.replicate k none) H' fun σ2 H2 => (∃ τ : St, σ2 = σ ++ τ ∧ τ.length = k) ∧
    tt σ2 H2 fun b H3 => if b = true then te σ2 H3 fun y H4 => H4 D = some (.lst ys) ∧ ys.length < sizeLine ∧ ∃ m', m' < m ∧ W (i + 1) m' (ys ++ [y]) (upd H4 D (.lst (ys ++ [y]))) else ∃ m', m' < m ∧ W (i + 1) m' ys H3)
def tLC (k : Nat) (wi : TI) (g : TG) (tt : TT) (te : TE) : TE := fun σ H Q => wi σ H (LCT k g tt te σ Q)

theorem lookup_relabel {env : Env} : ∀ {names : List (Str × NameKind)} {x : Str} {k : NameKind}, (names.map fun (n, k) => if (k == NameKind.free && env.scope.kind == .function && env.kindOf n == some .cell) then (n, NameKind.cell) else (n, k)).lookup x = some k →
    (names.lookup x = some k) ∨ (names.lookup x = some .free ∧ k = .cell)
  | [], _, _, h => by simp at h
  | (n, k0) :: r, x, k, h => by
    have ih := @lookup_relabel env r x k
    have h : List.lookup x ((if (k0 == NameKind.free && env.scope.kind == .function && env.kindOf n == some .cell) = true then (n, NameKind.cell) else (n, k0)) :: r.map fun (n, k) => if (k == NameKind.free && env.scope.kind == .function && env.kindOf n == some .cell) then (n, NameKind.cell) else (n, k)) = some k := h
    cases hx : x == n with
    | true =>
      by_cases hc : (k0 == NameKind.free && env.scope.kind == .function && env.kindOf n == some .cell) = true
      · rw [if_pos hc] at h
        simp only [List.lookup_cons, hx] at h
        cases h
        have hf : k0 = .free := by
          have := hc
          simp only [Bool.and_eq_true, beq_iff_eq] at this
          exact this.1.1
        right
        simp only [List.lookup_cons, hx, hf, and_self]
      · rw [if_neg hc] at h
        simp only [List.lookup_cons, hx] at h
        cases h
        left
        simp only [List.lookup_cons, hx]
    | false =>
      have h' : List.lookup x (r.map fun (n, k) => if (k == NameKind.free && env.scope.kind == .function && env.kindOf n == some .cell) then (n, NameKind.cell) else (n, k)) = some k := by
        by_cases hc : (k0 == NameKind.free && env.scope.kind == .function && env.kindOf n == some .cell) = true
        · rw [if_pos hc] at h
          simp only [List.lookup_cons, hx] at h
          exact h
        · rw [if_neg hc] at h
          simp only [List.lookup_cons, hx] at h
          exact h
      rcases ih h' with q | q
      · left; simp only [List.lookup_cons, hx]; exact q
      · right; simp only [List.lookup_cons, hx]; exact q

theorem pe_lc {X : Cx} {elt tg iter : Expr} {ifs : List Expr} {scope : Scope} {pos : Pos} {wi : TI} {g : TG} {tt : TT} {te : TE}
    (N N2 ys : List Str) (sc : Scope) (hc : X.calm = true) (hNe : X.N = N) (hNl : N2.length = N.length) (hsub : ∀ p ∈ N2.zip N, p.1 = p.2 ∨ ¬ scope.names.lookup p.1 = some .free) (hsc : X.env.scope = sc) (hkind : scope.kind = .function) (hcell : ∀ y ∈ scope.names, y.2 ≠ .cell) (hnames : ∀ y ∈ scope.names, y.2 = .local → scope.names.lookup y.1 = some .local)
    (hfr : ∀ y ∈ scope.names, y.2 = .free → sc.names.lookup y.1 = some .cell) (hloc : ∀ y ∈ N2, scope.names.lookup y ≠ some .local)
    (hi : PI X tg iter wi) (hg : ∀ cl C s H fp, PG (cxC X scope cl N2 ys C s H fp) tg g) (ht : ∀ cl C s H fp, PTs (cxC X scope cl N2 ys C s H fp) ifs tt) (he : ∀ cl C s H fp, PE (cxC X scope cl N2 ys C s H fp) elt te)
    (hs : ∀ x, foldedSetIterable iter X.env x = pure x := by intro _; rfl) :
    PE X (.ListComp elt [⟨tg, iter, ifs, 0⟩] scope pos) (tLC ys.length wi g tt te) := by
  intro pins s σ H Q I h
  rw [eval_ListComp]
  obtain ⟨cl, hclos, cl1, cl2⟩ := closure_of (scope := scope) (env := X.env) (fun x hx hf => I.ok.has x.1 (.inl (by
    show X.env.scope.names.lookup x.1 = _
    rw [hsc]; exact hfr x hx hf)))
  refine wpAny_comprehension_free (use := none) rfl hs hclos hkind hnames (thn (hi pins s σ H _ I h) fun v s1 h1 => thn h1 fun itv s2 h2 => ?_)
  obtain ⟨it, fp, tn, J, H2, e, I2, T, st2, f2, hD⟩ := h2
  subst e
  refine wpAny_newObj_type (wpAny_newFunctionEnv hcell (by intro y hy; simp at hy) (fun h₁ hns₁ hsb₁ => ?_) hkind)
  have I3 : Inv X pins σ (upd H2 s2.heap.objs.size (.lst [])) { s2 with heap := s2.heap.push { cls := .type "list", data := .seq ([] : List Value).toArray }, toks := s2.toks } := I2.lnew (ys := []) (its := []) .nil (Nat.zero_le _)
  have fD : H2 s2.heap.objs.size = none := I2.hok.fresh (Nat.le_refl _)
  obtain ⟨W, ⟨m0, w0⟩, turn⟩ := hD _ fD
  have hfp2 : ∀ b ∈ fp, b < s2.heap.objs.size := fun b hb => by
    obtain ⟨o, e, _⟩ := T.obj 0 s2.heap st2 b hb
    exact Heap.lt_size e
  dsimp only at hns₁ hsb₁ I3 ⊢
  generalize hH2 : s2.heap.push { cls := .type "list", dict := none, data := .seq ([] : List Value).toArray } = H3h at hns₁ hsb₁ I3 ⊢
  generalize hDd : s2.heap.objs.size = D at *
  have hC : H3h.objs.size = D + 1 := by rw [← hH2, Heap.size_push, hDd]
  generalize hCc : H3h.objs.size = C at *
  have hDC : D < C := by rw [hC]; exact Nat.lt_succ_self _
  have hCD : C ≠ D := Nat.ne_of_gt hDC
  have hfpC : ∀ b ∈ fp, b ≠ C := fun b hb => Nat.ne_of_lt (Nat.lt_trans (hfp2 b hb) hDC)
  have hfpD : ∀ b ∈ fp, b ≠ D := fun b hb => Nat.ne_of_lt (hfp2 b hb)
  have old2 : ∀ b o, s2.heap.get? b = some o → H3h.get? b = some o := fun b o e => by rw [← hH2]; exact Heap.get?_push_of_some _ e
  have old : ∀ b o, H3h.get? b = some o → h₁.get? b = some o := fun b o e => hsb₁.extBut b o (Nat.ne_of_lt (by have := Heap.lt_size e; rw [hCc] at this; exact this)) (Heap.get?_push_of_some _ e)
  have frH : upd H2 D (.lst []) C = none := by rw [upd_ne hCD]; exact I2.hok.fresh (by rw [hDd]; exact Nat.le_of_lt hDC)
  -- the block's context
  have ok' : (cxC X scope cl N2 ys C { s2 with heap := H3h } (upd H2 D (.lst [])) fp).Ok := by
    refine ⟨I.ok.mod, hkind, I.ok.glob, I.ok.blt, ?_, ?_, ?_, ?_, I.ok.hd, I.ok.frames, .inl rfl, ?_, ?_, ?_, ?_, ?_, ?_, ?_⟩
    · show H3h.objs.size ≤ C
      exact Nat.le_of_eq hCc
    · intro x y c h1 h2
      exact I.ok.inj x y c (cl1 x c h1) (cl1 y c h2)
    · intro x hx
      have hx : (relabel scope X.env).names.lookup x = some .cell ∨ (relabel scope X.env).names.lookup x = some .free := hx
      have key : scope.names.lookup x = some .free ∨ scope.names.lookup x = some .cell := by
        rcases hx with q | q
        · rcases lookup_relabel q with z | z
          · exact .inr z
          · exact .inl z.1
        · rcases lookup_relabel q with z | z
          · exact .inl z
          · exact .inl z.1
      rcases key with q | q
      · exact cl2 x (PySem.mem_of_lookup q)
      · exact absurd rfl (hcell _ (PySem.mem_of_lookup q))
    · intro x c z _
      exact absurd (show false = true from z) (by decide)
    · intro b hb
      refine ⟨fun z => ?_, fun x c e => ?_⟩
      · exact hfpC b hb z
      · exact (f2 b hb).2.2.2.2.1 x c (cl1 x c e)
    · intro b o e
      exact ⟨I3.bk b o e, (I3.bs b o e).2⟩
    · exact Nat.le_trans I.ok.bsz I3.sz
    · intro b o e hb
      rcases (f2 b hb).2.2.2.1 with q | q
      · exact I.ok.noex b o e q
      · exact absurd (Nat.lt_of_lt_of_le (Heap.lt_size e) (Nat.le_trans I.ok.bsz q)) (Nat.lt_irrefl _)
    · intro b hb hz
      rcases List.mem_cons.mp (I.stkSub b hz) with q | q
      · exact (f2 b hb).2.1 q
      · exact (f2 b hb).2.2.1 q
    · exact I3.stack
    · intro b hb
      exact I3.stkFree b hb
  have lenN : N2.length = X.N.length := by rw [hNl, hNe]
  have lenR : (σ ++ List.replicate ys.length (none : Option V)).length = (N2 ++ ys).length := by
    rw [List.length_append, List.length_append, List.length_replicate, I.len, lenN]
  have I4 : Inv (cxC X scope cl N2 ys C { s2 with heap := H3h } (upd H2 D (.lst [])) fp) [] (σ ++ List.replicate ys.length none) (upd H2 D (.lst [])) { s2 with heap := h₁, toks := s2.toks + ([] : List (Str × Value)).length } := by
    refine ⟨ok', rfl, I2.bare, Un.kept old, ⟨_, hns₁, ?_⟩, ?_, frH, ?_, ?_, I3.hok.kept old, lenR⟩
    · intro i x v h1 h2 h3
      have hi : i < X.N.length := by
        by_cases hi : i < X.N.length
        · exact hi
        · exfalso
          rw [List.getElem?_append_right (by rw [I.len]; omega), List.getElem?_replicate] at h2
          split at h2 <;> cases h2
      have h1 : N2[i]? = some x := by
        have h1 : (N2 ++ ys)[i]? = some x := h1
        rw [List.getElem?_append_left (by rw [lenN]; exact hi)] at h1
        exact h1
      have h2 : σ[i]? = some (some v) := by
        rw [List.getElem?_append_left (by rw [I.len]; exact hi)] at h2
        exact h2
      have h3 : Vis (relabel scope X.env) x := h3
      have hx : x ∈ N2 := List.mem_of_getElem? h1
      have hfree : scope.names.lookup x = some .free := by
        rcases h3 with q | q | q
        · rcases lookup_relabel q with z | z
          · exact absurd z (hloc x hx)
          · exact z.1
        · rcases lookup_relabel q with z | z
          · exact absurd rfl (hcell _ (PySem.mem_of_lookup z))
          · exact z.1
        · rcases lookup_relabel q with z | z
          · exact z
          · exact z.1
      have h1 : X.N[i]? = some x := by
        rw [hNe] at hi ⊢
        have h1z : (N2.zip N)[i]? = some (x, N[i]) := by
          rw [List.getElem?_zip_eq_some]
          exact ⟨h1, List.getElem?_eq_getElem hi⟩
        rcases hsub _ (List.mem_of_getElem? h1z) with e | e
        · rw [List.getElem?_eq_getElem hi]
          exact congrArg some e.symm
        · exact absurd hfree e
      have hk : X.env.scope.names.lookup x = some .cell := by rw [hsc]; exact hfr _ (PySem.mem_of_lookup hfree) rfl
      obtain ⟨m, hn, hl⟩ := I3.loc
      obtain ⟨u, r, l⟩ := hl i x v h1 h2 (.inr (.inl hk))
      refine ⟨u, r, .inr ⟨?_, ?_⟩⟩
      · show (relabel scope X.env).names.lookup x = some .cell ∨ (relabel scope X.env).names.lookup x = some .free
        rcases h3 with q | q | q
        · rcases lookup_relabel q with z | z
          · exact absurd z (hloc x hx)
          · cases z.2
        · exact .inl q
        · exact .inr q
      · rcases l with ⟨q, _⟩ | ⟨_, c, e, z⟩
        · have q : X.env.scope.names.lookup x = some .local := q
          rw [hk] at q; cases q
        · obtain ⟨c', e'⟩ := cl2 x (PySem.mem_of_lookup hfree)
          have := cl1 x c' e'
          rw [e] at this; cases this
          obtain ⟨o, ho, hd⟩ := z
          exact ⟨c, e', o, old c o ho, hd⟩
    · intro x c e
      obtain ⟨v, o, ho, hd⟩ := I3.cell x c (cl1 x c e)
      exact ⟨v, o, old c o ho, hd⟩
    · intro x c e
      exact I3.freeC x c (cl1 x c e)
    · intro p hp
      exact absurd (show p ∈ ([] : List (Addr × Obj)) from hp) (by simp)
  have stat : ∀ {H' : Hp}, (∀ b ∈ fp, H' b = none) → ∀ b ∈ fp, FpOk (cxC X scope cl N2 ys C { s2 with heap := H3h } (upd H2 D (.lst [])) fp) [] H' b := fun hn b hb => by
    refine ⟨hn b hb, fun z => ?_, ok'.exfs b hb, .inl hb, fun x c e => (f2 b hb).2.2.2.2.1 x c (cl1 x c e), fun p hp => absurd (show p ∈ ([] : List (Addr × Obj)) from hp) (by simp)⟩
    exact hfpC b hb z
  have frD : ∀ b ∈ fp, upd H2 D (.lst []) b = none := fun b hb => by
    rw [upd_ne (hfpD b hb)]
    exact (f2 b hb).1
  have tn4 : tn 0 h₁ := T.keep _ _ _ st2 fun b _ o e => old b o (old2 b o e)
  -- behind the block
  have fin : ∀ {σ' : St} {H' : Hp} {s' : Shared}, Inv (cxC X scope cl N2 ys C { s2 with heap := H3h } (upd H2 D (.lst [])) fp) [] σ' H' s' → Q (.ref D) H' →
      compPost (model X.prog X.w) X.A X.xe none (EP X pins σ Q) (.ref D) C (.ok .next) s' := fun {σ' H' s'} I' q => by
    obtain ⟨m, hn, _⟩ := I'.loc
    refine ⟨m, hn, fun h' hs' => ?_⟩
    have uab : Un (frs X.stack) fp H2 H' s2.heap s'.heap := (Un.laid (fs := frs X.stack) (ex := fp) (h := s2.heap) (h' := H3h) (a := D) (o := .lst []) old2 (Nat.le_of_eq hDd) fD).trans I'.base
    have neC : ∀ b o, s2.heap.get? b = some o → b ≠ C := fun b o e => Nat.ne_of_lt (Nat.lt_trans (by have := Heap.lt_size e; rw [hDd] at this; exact this) hDC)
    have u' : Un (frs X.stack) fp H2 H' s2.heap h' := by
      refine ⟨fun b o e n hb hx => ?_, fun b o e n hb hx => ?_, uab.free, fun b o e hx => ?_, uab.tups, uab.frzs, uab.tbls⟩
      · exact (hs'.2 b (neC b o e)).trans (uab.keep b o e n hb hx)
      · obtain ⟨sl, q⟩ := uab.slot b o e n hb hx
        exact ⟨sl, (hs'.2 b (neC b o e)).trans q⟩
      · obtain ⟨o', q⟩ := uab.there b o e hx
        exact ⟨o', (hs'.2 b (neC b o e)).trans q⟩
    have nC : H' C = none := I'.free
    have hok' : HOk X.prog X.w H' h' := fun a o e => (I'.hok a o e).stay (fun b u hb q => (hs'.2 b (by
      rintro rfl
      rcases hb with rfl | hb
      · rw [nC] at e; cases e
      · rw [nC] at hb; cases hb)).trans q) (fun _ q => q) fun _ _ q => q
    refine ⟨.ref D, H', I2.call' (s' := { s' with heap := h' }) (ch := fp) I'.os u' hok' I'.bare (fun b hb => ?_), rfl, q⟩
    obtain ⟨f0, f1, _, f3, f4, f5⟩ := f2 b hb
    exact ⟨f3, f1, f4, f5⟩
  have loop : codeAny (model X.prog X.w) X.A (.compLoop (.ListComp elt [⟨tg, iter, ifs, 0⟩] scope pos) 0 (.ref it) (.ref D) (compEnvC scope cl C X.env)) (compPost (model X.prog X.w) X.A X.xe none (EP X pins σ Q) (.ref D) C) { s2 with heap := h₁, toks := s2.toks + ([] : List (Str × Value)).length } := by
    refine compLoop_go (fun n s' => ∃ i zs H', Inv (cxC X scope cl N2 ys C { s2 with heap := H3h } (upd H2 D (.lst [])) fp) [] (σ ++ List.replicate ys.length none) H' s' ∧ tn i s'.heap ∧ (∀ b ∈ fp, H' b = none) ∧ W i n zs H') ?_ m0
      ⟨0, [], _, I4, tn4, frD, w0⟩
    rintro n s3 ⟨i, zs, H3, J3, st3, fr3, w3⟩
    rcases turn i n zs H3 w3 with ⟨stop, qn⟩ | ⟨go, step⟩
    · refine thn (T.done (cxC X scope cl N2 ys C { s2 with heap := H3h } (upd H2 D (.lst [])) fp) rfl rfl rfl hc i [] s3 _ H3 _ J3 (stat fr3) st3 stop) fun r s4 ⟨hr, J4⟩ => ?_
      subst hr
      exact fin J4 qn
    · refine thn (T.item (cxC X scope cl N2 ys C { s2 with heap := H3h } (upd H2 D (.lst [])) fp) rfl rfl rfl hc i [] s3 _ H3 _ J3 (stat fr3) st3 go) fun r s4 ⟨u, hr, h4⟩ => ?_
      subst hr
      refine thn h4 fun _ s5 ⟨x, H5, J5, r5, y5, st5, fr5⟩ => ?_
      have J5' := J5.pinned (stat fr5) (T.obj _ _ st5)
      refine wpAny_mono (hg cl C _ _ fp _ s5 _ H5 x u _ J5' r5 (step x H5 y5)) (fun _ s6 ⟨σ6, H6, J6, ⟨τ, eτ, lτ⟩, q6⟩ => ?_) fun _ _ z => False.elim z
      refine wpAny_mono (ht cl C _ _ fp _ s6 σ6 H6 _ J6 q6) (fun b s7 ⟨H7, J7, q7⟩ => ?_) fun _ _ z => False.elim z
      have again : ∀ {H8 : Hp} {s8 : Shared} {zs' : List V}, Inv (cxC X scope cl N2 ys C { s2 with heap := H3h } (upd H2 D (.lst [])) fp) ([] ++ pinsAt fp s5.heap) σ6 H8 s8 → (∃ m', m' < n ∧ W (i + 1) m' zs' H8) →
          ∃ m, m < n ∧ ∃ i zs H', Inv (cxC X scope cl N2 ys C { s2 with heap := H3h } (upd H2 D (.lst [])) fp) [] (σ ++ List.replicate ys.length none) H' s8 ∧ tn i s8.heap ∧ (∀ b ∈ fp, H' b = none) ∧ W i m zs H' := fun {H8 s8 zs'} J8 ⟨m', hm, w8⟩ => by
        refine ⟨m', hm, i + 1, zs', H8, J8.unpinned.weak (by rw [eτ, List.length_append, List.length_append, List.length_replicate, lτ]) (fun j v e => ?_), T.keep _ _ _ st5 fun b hb o e => (J8.pin (b, o) (List.mem_append_right _ (List.mem_append_right _ (mem_pinsAt hb e)))).1, fun b hb => ?_, w8⟩
        · rw [eτ]
          by_cases hj : j < σ.length
          · rw [List.getElem?_append_left hj] at e ⊢
            exact e
          · exfalso
            rw [List.getElem?_append_right (by omega), List.getElem?_replicate] at e
            split at e <;> cases e
        · obtain ⟨o, e, d⟩ := T.obj _ _ st5 b hb
          exact (J8.pin (b, o) (List.mem_append_right _ (List.mem_append_right _ (mem_pinsAt hb e)))).2.1
      cases b with
      | false =>
        rw [if_neg (by decide)] at q7 ⊢
        exact again J7 q7
      | true =>
        rw [if_pos rfl] at q7 ⊢
        refine wpAny_mono (he cl C _ _ fp _ s7 σ6 H7 _ J7 q7) (fun y s8 ⟨yv, H8, J8, r8, hD8, hz8, w8⟩ => ?_) fun _ _ z => False.elim z
        refine wpAny_mono (mt_append (X := (cxC X scope cl N2 ys C { s2 with heap := H3h } (upd H2 D (.lst [])) fp)) _ s8 σ6 H8 (.ref D) [yv] (.ref D) [y] (fun _ H9 => ∃ m', m' < n ∧ W (i + 1) m' (zs ++ [yv]) H9) J8 rfl (.cons r8 .nil) ⟨D, zs, yv, rfl, rfl, hD8, hz8, w8⟩) (fun _ s9 ⟨_, H9, J9, _, w9⟩ => ?_) fun _ _ z => False.elim z
        exact again J9 w9
  exact codeAny_compStart_list loop (T.self _ 0 _ _ _ tn4 loop)

/-- the tail of a comprehension's reading, by an invariant: one name of its own, no test -/
theorem lcJ {J : It} {n k : Nat} {σ : St} {H1 : Hp} {te : TE} {Q : VK} (xv : Nat → V) (Pv : Addr → Nat → List V → Hp → Prop) (hk : σ.length = k)
    (hgo : ∀ D i ys H, i < n → Pv D i ys H → J.go i H) (hyld : ∀ D i ys H x H', i < n → Pv D i ys H → J.yld i H x H' → H' = H ∧ x = xv i) (hstop : ∀ D ys H, Pv D n ys H → J.stop n H)
    (h0 : ∀ D, H1 D = none → Pv D 0 [] (upd H1 D (.lst [])))
    (turn : ∀ D i ys H (post : VK), i < n → Pv D i ys H → (∀ y H4, H4 D = some (.lst ys) → ys.length < sizeLine → Pv D (i + 1) (ys ++ [y]) (upd H4 D (.lst (ys ++ [y]))) → post y H4) → te (σ ++ [some (xv i)]) H post)
    (fin : ∀ D ys H, Pv D n ys H → Q (.ref D) H) :
    LCT 1 (gName k) tYes te σ Q J H1 := by
  intro D hD
  refine ⟨fun i m ys H => m = n - i ∧ i ≤ n ∧ Pv D i ys H, ⟨n, by simp, Nat.zero_le _, h0 D hD⟩, ?_⟩
  rintro i m ys H ⟨rfl, hi, p⟩
  by_cases hlt : i < n
  · refine .inr ⟨hgo D i ys H hlt p, fun x H' y => ?_⟩
    obtain ⟨rfl, rfl⟩ := hyld D i ys H x H' hlt p y
    have e : (σ ++ List.replicate 1 (none : Option V)).set k (some (xv i)) = σ ++ [some (xv i)] := by
      subst hk
      simp [List.set_append]
    unfold gName
    rw [e]
    unfold tYes
    refine ⟨⟨_, rfl, rfl⟩, ?_⟩
    refine iteT ?_
    exact turn D i ys H' _ hlt p fun y H4 h1 h2 h3 => ⟨h1, h2, n - (i + 1), by omega, rfl, hlt, h3⟩
  · have e : i = n := by omega
    subst e
    exact .inl ⟨hstop D ys H p, fin D ys H p⟩
end L2

namespace L2
open PySem PySem.Spec PyProof.Rows PySem.Builtin PySem.Builtin.Str

section
variable {X : Cx}
/-! ### isinstance -/
/-! ### texts -/
theorem strsAre_of : ∀ {ys : List Str} {us : List Value}, Vals (ys.map V.str) us → StrsAre us ys
  | [], us, r => by
    cases r
    exact .nil
  | y :: ys, us, r => by
    have r : Vals (V.str y :: ys.map V.str) us := r
    cases r with
    | cons h t =>
      obtain ⟨tk, rfl⟩ := h
      exact .cons _ _ (strsAre_of t)
/-! ### the empty tuple, known to the object; dict(()) -/
def tTup0 : TE := fun _ H Q => ∀ p, H p = none → Q (.ref p) (upd H p (.frz { cls := .type "tuple", data := .seq #[] } (.tup [])))
theorem pe_tup0 {x1 : Nat} {pos : Pos} : PE X (.Tuple [] x1 pos) tTup0 := by
  intro pins s σ H Q I hq
  refine wpAny_Tuple_spliced (thn (pa_nil (X := X) pos pins s σ H (fun xs H1 => xs = [] ∧ H1 = H) I ⟨rfl, rfl⟩) fun us s1 ⟨xs, H1, I1, r, e1, e2⟩ => ?_)
  subst e1 e2
  cases r
  refine ⟨Nat.zero_le _, ?_⟩
  have hf : H1 s1.heap.objs.size = none := I1.hok.fresh (Nat.le_refl _)
  refine ⟨.ref s1.heap.objs.size, upd H1 s1.heap.objs.size _, I1.laid (t' := s1.toks) (fun b u e => Heap.get?_push_of_some _ e) (Nat.le_refl _) ?_, rfl, hq _ hf⟩
  exact ⟨Heap.get?_push_size _ rfl, Nat.zero_le _, [], .nil, ⟨_, Heap.get?_push_size _ rfl, rfl, _, rfl⟩⟩
end

set_option maxRecDepth 8000 in
theorem getAttrQ_miss_tuple {prog : Program} {w : World} {A : Around} {E : Value → Shared → Prop} {s : Shared} {a : Addr} {o : Obj} {xs : Array Value} {k : Nat} {name : Str} {Q : Option Value → Shared → Prop}
    (hx : s.heap.get? a = some o) (hc : o.cls = .type "tuple") (hdat : o.data = .seq xs k) (hd : o.dict = none) (hmiss : typeLookup (.type "tuple") name = pure none) (hname : (["__module__", "__name__", "__qualname__", "__doc__", "__annotations__"] : List Str).contains name = false) (hA : A.handled = none)
    (h : ∀ h' tk, (∀ b o, s.heap.get? b = some o → h'.get? b = some o) → Q none { s with heap := h', toks := tk }) (hsz : name.length + 100 ≤ sizeLine := by size_fits) :
    wpAny (model prog w) A (getAttr? (.ref a) name) Q E s := by
  obtain ⟨c, dct, dat, sl⟩ := o
  simp only at hc hdat hd
  subst hc hdat hd
  obtain ⟨hp, g, d, tk, os⟩ := s
  have hT : ∀ tk', (⟨hp, g, d, tk', os⟩ : Shared).TypeIs (.ref a) "tuple" := fun _ => ⟨_, hx, rfl⟩
  have f1 := sub_AttributeError
  have f3 := F.slot_tuple_getattribute.lookup
  have f4 := F.slot_tuple_getattribute.bind (.ref a)
  have f5 := am_tuple_getattr_none
  unfold getAttr? getAttrBy? getAttrBy
  repeat (any_goals (first | assumption | exact hT _ | ((with_reducible show wpAny _ _ (call (Value.builtin "tuple.__getattribute__") _ _) _ _ _); refine call_meets F.slot_tuple_getattribute (hT _) am_entry_tuple_getattribute (F.args_tuple_getattribute_2 _ _) (meets_getattribute_miss_tuple a xs k sl name _ hmiss hname hsz) ⟨hx, hA, fun h' tk' e hx' => ?_⟩) | wp_step))
  obtain ⟨t', u', he⟩ := hx'.there
  show wpAny _ _ (getattributeRaised _ _ _ _ _ _ _) _ _ _
  unfold getattributeRaised
  repeat (any_goals (first | assumption | wp_step))
  exact h _ _ (fun b o q => hx'.of.keeps b o q)
end L2

namespace L2
open PySem PySem.Spec PyProof.Rows

theorem upd_id {H : Hp} {a : Addr} {o : HO} (h : H a = some o) : upd H a o = H := by
  funext b
  unfold upd
  split
  · rename_i e; subst e; exact h.symm
  · rfl
theorem SqT.upd {K : PySem.W.Frag} {H : Hp} {d b : Addr} {m : List (Key × V)} {o : HO} {xs : List V} (h : SqT K H b xs) (e : H d = some (.dK m)) : SqT K (L2.upd H d o) b xs := by
  rcases h with (h | ⟨o', h⟩) | h
  · exact .inl (.inl (by rw [upd_ne (ne_of h e (by intro z; cases z))]; exact h))
  · exact .inl (.inr ⟨o', by rw [upd_ne (ne_of h e (by intro z; cases z))]; exact h⟩)
  · exact .inr h
theorem entry_dict_loop : entryFor table "dict.update.loop" = some Builtin.«dict.update.loop» := entryFor_of_tree (by kernel_rfl)

theorem dict_loop {X : Cx} {pins : List (Addr × Obj)} {σ : St} {A : Around} {E : Value → Shared → Prop} {a d it : Addr} {ps : List V} {Q : Shared → Prop} (hA : A.handled = none) :
    ∀ (kvs : List (Key × V)) (i : Nat) (s : Shared) (H : Hp) (m : List (Key × V)), Inv X pins σ H s → SqT X.K H a ps → FpOk X pins H it → s.heap.IsTupleIter it a i → H d = some (.dK m) → m.length + kvs.length ≤ sizeLine →
      (∀ j kv, kvs[j]? = some kv → ∃ b, ps[i + j]? = some (.ref b) ∧ SqT X.K H b [kV kv.1, kv.2]) → ps.length = i + kvs.length →
      (∀ s', Inv X pins σ (upd H d (.dK (kvs.foldl (fun m kv => putK m kv.1 kv.2) m))) s' → Q s') →
      codeAny (model X.prog X.w) A (.builtin "dict.update.loop" ⟨[.ref d, .ref it, .int i 0, .none], []⟩) (wants (fun r s₂ => r = .none ∧ Q s₂) E) s := by
  intro kvs
  induction kvs with
  | nil =>
    intro i s H m I ha hf hit hd hm hp hl hQ
    obtain ⟨its, rv, p, hz⟩ := I.tuple ha
    obtain ⟨f0, f1, f2, f3, f4, f5⟩ := hf
    have hlen := rv.length
    refine codeAny_builtin entry_dict_loop ?_
    unfold Builtin.«dict.update.loop»
    refine wpAny_bind (wpAny_pyNext_tuple_end (by first | exact hA | (simpa [Around.under] using hA)) hit (show s.heap.IsTuple a its.toArray from p) (by simp at hl ⊢; omega) fun h' eb => ?_)
    show wpAny _ _ (Builtin.Dict.addKeywords d [] >>= fun _ => ret Value.none) _ _ _
    refine wpAny_bind (wpAny_pure (wpAny_pure ⟨rfl, hQ _ ?_⟩))
    show Inv X pins σ (upd H d (.dK m)) _
    rw [upd_id hd]
    exact I.turned (t' := s.toks) (fun b o hb e => eb b o hb e) f0 f1 f3 f4 f5
  | cons kv rest ih =>
    intro i s H m I ha hf hit hd hm hp hl hQ
    obtain ⟨its, rv, p, hz⟩ := I.tuple ha
    obtain ⟨b, hb, hbt⟩ := hp 0 kv rfl
    obtain ⟨u, hu, ru⟩ := rv.get (show ps[i]? = some (.ref b) from hb)
    cases ru
    have hf' := hf
    obtain ⟨f0, f1, f2, f3, f4, f5⟩ := hf
    refine codeAny_builtin entry_dict_loop ?_
    unfold Builtin.«dict.update.loop»
    refine wpAny_bind (wpAny_pyNext_tuple_item hit (show s.heap.IsTuple a its.toArray from p) (x := .ref b) (by simpa using hu) fun h' st' sb => ?_)
    have I1 : Inv X pins σ H { s with heap := h' } := I.turned (t' := s.toks) (fun b o hb e => (sb.2 b hb).trans e) f0 f1 f3 f4 f5
    obtain ⟨pr, rp, pt, _⟩ := I1.tuple hbt
    obtain ⟨ku, vu, epr, rk, rvv⟩ : ∃ ku vu, pr = [ku, vu] ∧ RelV (kV kv.1) ku ∧ RelV kv.2 vu := by
      obtain ⟨u1, u2, e1, r1, r2⟩ := vals2 rp
      exact ⟨u1, u2, e1, r1, r2⟩
    subst epr
    obtain ⟨ob, ho, hc, n, hdt⟩ := id pt
    show wpAny _ _ (holding [Value.ref b] _ >>= _) _ _ _
    refine wpAny_bind (wpAny_holding ?_)
    refine wpAny_bind (wpAny_tryCatch ?_)
    unfold Builtin.Dict.pairItems
    refine wpAny_bind (wpAny_typeOf (show ({ s with heap := h' } : Shared).TypeIs (.ref b) "tuple" from ⟨ob, ho, hc⟩) ?_)
    rw [if_pos (by decide)]
    refine wpAny_bind (wpAny_seqItems ho hdt (wpAny_pure ?_))
    show wpAny _ _ (holding [ku, vu] (dictSet d ku vu)) _ _ _
    refine wpAny_holding ?_
    obtain ⟨z, hdd, vs, rel, dd⟩ := dk_of I1.hok hd
    have hz2 : vs.length ≤ sizeLine := by rw [← rel.length]; exact z
    simp only [List.length_cons] at hm hl
    have hl2 : (putK m kv.1 kv.2).length ≤ m.length + 1 := length_putK m kv.1 kv.2
    refine wpAny_dictSet_pairs (hsz := hz2) (kV_is rk) dd fun h2 dd' hs => ?_
    have he : ∃ q, h2.get? d = some q := let ⟨q, _, _, hq, _⟩ := dd'; ⟨q, hq⟩
    have I2 : Inv X pins σ (upd H d (.dK (putK m kv.1 kv.2))) { heap := h2, gens := s.gens, drawn := s.drawn, toks := s.toks + 1, os := s.os } := d_write (s := { s with heap := h' }) (t' := s.toks + 1) I1 (by rw [hd]; exact True.intro) hs he (dk_new (by omega) hdd (rel.put kv.1 rvv) dd')
    have nit : it ≠ d := by
      rintro rfl
      rw [hd] at f0; cases f0
    refine wpAny_pure ⟨Code.quiet_builtin _ (by decide +kernel), ?_⟩
    have := ih (i + 1) { heap := h2, gens := s.gens, drawn := s.drawn, toks := s.toks + 1, os := s.os } (upd H d (.dK (putK m kv.1 kv.2))) (putK m kv.1 kv.2) I2 (ha.upd hd) ⟨by rw [upd_ne nit]; exact f0, f1, f2, f3, f4, f5⟩
      (st'.at fun o e => (hs.2 it nit).trans e) upd_same (by omega) (fun j kv' e => by
        obtain ⟨b', h1, h2⟩ := hp (j + 1) kv' (by simpa using e)
        exact ⟨b', by rw [show i + 1 + j = i + (j + 1) by omega]; exact h1, h2.upd hd⟩) (by omega) (fun s' I' => hQ s' (by rw [upd_upd] at I'; exact I'))
    exact this

/-- dict(t), t a tuple of pairs that is known to the object -/
def rDictOf (K : PySem.W.Frag) : List V → Hp → VK → Prop := fun xs H Q => ∃ (a : Addr) (o : Obj) (ps : List V) (kvs : List (Key × V)), xs = [.ref a] ∧ H a = some (.frz o (.tup ps)) ∧ o.dict = none ∧ ps.length = kvs.length ∧ (∀ (j : Nat) (kv : Key × V), kvs[j]? = some kv → ∃ b, ps[j]? = some (.ref b) ∧ SqT K H b [kV kv.1, kv.2]) ∧
  ∀ d, H d = none → Q (.ref d) (upd H d (.dK (kvs.foldl (fun m kv => putK m kv.1 kv.2) [])))
theorem SqT.new {K : PySem.W.Frag} {H : Hp} {d b : Addr} {o : HO} {xs : List V} (h : SqT K H b xs) (e : H d = none) : SqT K (L2.upd H d o) b xs := by
  rcases h with (h | ⟨o', h⟩) | h
  · exact .inl (.inl (by rw [upd_ne (ne_of_none h e)]; exact h))
  · exact .inl (.inr ⟨o', by rw [upd_ne (ne_of_none h e)]; exact h⟩)
  · exact .inr h
theorem call_dict {X : Cx} (hc : X.calm = true) : CallR X (.type "dict") (rDictOf X.K) := by
  intro pins s σ H xs us Q I rv h
  obtain ⟨a, o, ps, kvs, rfl, ha, hod, hlen, hp, q⟩ := h
  obtain ⟨u, rfl, ru⟩ := rv.one
  cases ru
  have haT : SqT X.K H a ps := .inl (.inr ⟨o, ha⟩)
  obtain ⟨hao, hz, its, rvs, p⟩ := (show ObjOk X.prog X.w H s.heap a (.frz o (.tup ps)) from I.hok a _ ha)
  obtain ⟨o', ho', hcl, n, hdt⟩ := id p
  rw [hao] at ho'; cases ho'
  have fd : H s.heap.objs.size = none := I.hok.fresh (Nat.le_refl _)
  have I1 : Inv X pins σ (upd H s.heap.objs.size (.dK [])) { s with heap := s.heap.push { cls := .type "dict", data := .dict #[] } } := I.laid (t' := s.toks) (fun _ _ q => Heap.get?_push_of_some _ q) (Nat.le_refl _) (dk_empty s.heap I.big)
  refine callType_codes (Q₁ := fun obj s₁ => obj = .ref s.heap.objs.size ∧ s₁ = { s with heap := s.heap.push { cls := .type "dict", data := .dict #[] } }) F.kt_called_dict (F.kt_typeCall_dict_1 _) F.entry_dict_init (kt_code_dict_new _ ⟨rfl, rfl⟩) ?_
  rintro obj s₁ ⟨rfl, rfl⟩
  have hnew : (s.heap.push { cls := .type "dict", data := .dict #[] }).DictOf (mixKind X.prog X.w) s.heap.objs.size [] := Heap.DictOf.new s.heap
  refine ⟨hnew.typeIs, F.args_dict_init_2 _ _, ?_⟩
  unfold Builtin.«dict.__init__»
  refine wpAny_bind ?_
  unfold Builtin.Dict.selfAndRest
  refine wpAny_bind (wpAny_notOrdered_dict hnew.typeIs ?_)
  show wpAny _ _ (pure (s.heap.objs.size, [Value.ref a])) _ _ _
  refine wpAny_pure ?_
  show wpAny _ _ (Builtin.Dict.updateFrom "dict.__init__" s.heap.objs.size (.ref a) [] .none) _ _ _
  unfold Builtin.Dict.updateFrom
  have ha1 : (s.heap.push { cls := .type "dict", data := .dict #[] }).get? a = some o := Heap.get?_push_of_some _ hao
  refine wpAny_bind (wpAny_typeOf (show ({ s with heap := s.heap.push { cls := .type "dict", data := .dict #[] } } : Shared).TypeIs (.ref a) "tuple" from ⟨o, ha1, hcl⟩) ?_)
  rw [if_pos (by decide)]
  have hh : X.A.handled = none := I.ok.hd hc
  refine wpAny_bind (getAttrQ_miss_tuple (A := X.A.in1.in1) (name := "keys") ha1 hcl hdt hod (am_miss_of_fast (by decide +kernel)) (by decide +kernel) hh fun h' tk keep => ?_)
  have I2 : Inv X pins σ (upd H s.heap.objs.size (.dK [])) { s with heap := h', toks := tk } := I1.kept (t' := tk) keep
  rw [if_pos (show (none : Option Value).isNone = true from rfl)]
  refine wpAny_bind (wpAny_rule (wpAny_bind ?_))
  obtain ⟨its2, rv2, p2, _⟩ := I2.tuple (haT.new fd)
  refine wpAny_pyIter_tuple (show h'.IsTuple a its2.toArray from p2) ?_
  have I3 : Inv X pins σ (upd H s.heap.objs.size (.dK [])) { s with heap := h'.push { cls := .type "tuple_iterator", data := .fields #[.ref a, .int 0 0] }, toks := tk } := I2.kept (t' := tk) fun b o e => Heap.get?_push_of_some _ e
  refine wpAny_pure ⟨Code.quiet_builtin _ (by decide +kernel), ?_⟩
  refine dict_loop (A := X.A.in1) (E := X.xe) (Q := fun s₂ => EP X pins σ Q (Value.ref s.heap.objs.size) s₂) (X := X) (pins := pins) (σ := σ) (a := a) (ps := ps) (d := s.heap.objs.size) (it := h'.objs.size) hh kvs 0 _ (upd H s.heap.objs.size (.dK [])) [] I3 (haT.new fd)
    (I2.fpOk (Nat.le_refl _) (I2.hok.fresh (Nat.le_refl _))) ⟨_, Heap.get?_push_size _ rfl, rfl, rfl⟩ upd_same (by rw [List.length_nil]; omega) (fun j kv e => ?_) (by omega) (fun s' I' => ?_)
  · obtain ⟨b, h1, h2⟩ := hp j kv e
    exact ⟨b, by rw [Nat.zero_add]; exact h1, h2.new fd⟩
  · rw [upd_upd] at I'
    exact ⟨.ref s.heap.objs.size, _, I', rfl, q _ fd⟩
end L2

namespace L2
open PySem PySem.Spec PyProof.Rows

section
variable {X : Cx}
end

/-- the tail of a comprehension's reading, any target, any test -/
theorem lcP {J : It} {n k : Nat} {σ : St} {H1 : Hp} {g : TG} {tt : TT} {te : TE} {Q : VK} (xv : Nat → V) (Pv : Addr → Nat → List V → Hp → Prop)
    (hgo : ∀ D i ys H, i < n → Pv D i ys H → J.go i H) (hyld : ∀ D i ys H x H', i < n → Pv D i ys H → J.yld i H x H' → H' = H ∧ x = xv i) (hstop : ∀ D ys H, Pv D n ys H → J.stop n H)
    (h0 : ∀ D, H1 D = none → Pv D 0 [] (upd H1 D (.lst [])))
    (turn : ∀ D i ys H (yes : VK) (no : Hp → Prop), i < n → Pv D i ys H → (∀ y H4, H4 D = some (.lst ys) → ys.length < sizeLine → Pv D (i + 1) (ys ++ [y]) (upd H4 D (.lst (ys ++ [y]))) → yes y H4) → (∀ H3, Pv D (i + 1) ys H3 → no H3) →
      g (xv i) (σ ++ List.replicate k none) H fun σ2 H2 => (∃ τ : St, σ2 = σ ++ τ ∧ τ.length = k) ∧ tt σ2 H2 fun b H3 => if b = true then te σ2 H3 yes else no H3)
    (fin : ∀ D ys H, Pv D n ys H → Q (.ref D) H) : LCT k g tt te σ Q J H1 := by
  intro D hD
  refine ⟨fun i m ys H => m = n - i ∧ i ≤ n ∧ Pv D i ys H, ⟨n, by simp, Nat.zero_le _, h0 D hD⟩, ?_⟩
  rintro i m ys H ⟨rfl, hi, p⟩
  by_cases hlt : i < n
  · refine .inr ⟨hgo D i ys H hlt p, fun x H' y => ?_⟩
    obtain ⟨rfl, rfl⟩ := hyld D i ys H x H' hlt p y
    exact turn D i ys H' _ _ hlt p (fun y H4 h1 h2 h3 => ⟨h1, h2, n - (i + 1), by omega, rfl, hlt, h3⟩) fun H3 h3 => ⟨n - (i + 1), by omega, rfl, hlt, h3⟩
  · have e : i = n := by omega
    subst e
    exact .inl ⟨hstop D ys H p, fin D ys H p⟩
end L2

namespace L2
open PySem PySem.Spec PyProof.Rows
/-! ### sorted(d), d a dict of texts -/
theorem strsAre_get : ∀ {us : List Value} {ss : List Str}, us.length = ss.length → (∀ (j : Nat) (v : Value), us[j]? = some v → ∃ x t, ss[j]? = some x ∧ v = .str x t) → StrsAre us ss
  | [], [], _, _ => .nil
  | [], _ :: _, h, _ => by simp at h
  | _ :: _, [], h, _ => by simp at h
  | u :: us, x :: ss, h, k => by
    obtain ⟨x', t, e1, e2⟩ := k 0 u rfl
    cases e1
    subst e2
    exact .cons _ _ (strsAre_get (by simpa using h) fun j v e => k (j + 1) v (by simpa using e))
theorem strs_vals {us : List Value} {ss : List Str} (h : StrsAre us ss) : Vals (ss.map V.str) us := by
  induction h with
  | nil => exact .nil
  | cons y t r ih => exact .cons ⟨t, rfl⟩ ih
def leS (a b : Str) : Prop := ltCps b.cps.toList a.cps.toList = false
theorem sorted_out_pw {vs : List Value} {ss : List Str} (hS : StrsAre vs ss) {xs : Array Keyed} (hp : xs.Perm (pairsOf vs)) (hs : SortedToK strKind xs (pairsOf vs).size) :
    ∃ ss', StrsAre (xs.map (·.2)).toList ss' ∧ ss'.Perm ss ∧ ss'.Pairwise leS := by
  have hl : xs.toList.Perm (vs.zip vs) := by rw [← pairsOf_toList]; exact Array.perm_iff_toList_perm.mp hp
  have hmem : ∀ p, p ∈ xs.toList → p.1 = p.2 ∧ p.1 ∈ vs := fun p hp' => mem_zip_self (hl.mem_iff.mp hp')
  refine ⟨xs.toList.map (fun p => strOf p.1), ?_, ?_, ?_⟩
  · have e : (xs.map (·.2)).toList = xs.toList.map (·.1) := by
      rw [Array.toList_map]; exact List.map_congr_left fun p hp' => (hmem p hp').1.symm
    rw [e]
    have h1 := strsAre_map (xs.toList.map (·.1)) (by
      intro v hv
      obtain ⟨p, hp', rfl⟩ := List.mem_map.mp hv
      exact hS.all _ (hmem p hp').2)
    rwa [List.map_map] at h1
  · have h1 := hl.map (fun p => strOf p.1)
    have e2 : (vs.zip vs).map (fun p => strOf p.1) = ss := by
      have : (vs.zip vs).map (fun p => strOf p.1) = ((vs.zip vs).map Prod.fst).map strOf := by rw [List.map_map]; rfl
      rw [this, List.map_fst_zip (Nat.le_refl _), hS.strs]
    rwa [e2] at h1
  · rw [List.pairwise_iff_getElem]
    intro i j hi hj hij
    have hi' : i < xs.size := by simpa using hi
    have hj' : j < xs.size := by simpa using hj
    have h1 := hs i j (Nat.le_of_lt hij) (by rw [← hp.size_eq]; exact hj')
    obtain ⟨x, t, ex⟩ := hS.all _ (hmem xs[i] (by simp)).2
    obtain ⟨y, u, ey⟩ := hS.all _ (hmem xs[j] (by simp)).2
    rw [KK_str hi' (x := x) (t := t) (q := xs[i].2) (Prod.ext ex rfl), KK_str hj' (x := y) (t := u) (q := xs[j].2) (Prod.ext ey rfl)] at h1
    change decide (y.cps.toList < x.cps.toList) = false at h1
    unfold leS
    simp only [List.getElem_map, Array.getElem_toList]
    rw [show strOf xs[i].1 = x by rw [ex]; rfl, show strOf xs[j].1 = y by rw [ey]; rfl, ltCps_eq]
    exact h1
theorem call_sortD {X : Cx} (hc : X.calm = true) : CallR X (.builtin "sorted") (fun xs H Q => ∃ (a : Addr) (kvs : List (Key × V)) (ss : List Str), xs = [.ref a] ∧ H a = some (.dK kvs) ∧ kvs.map (·.1) = ss.map Sum.inr ∧ kvs.length < 64 ∧
    ∀ (p : Addr) (ss' : List Str), H p = none → ss'.Perm ss → ss'.Pairwise leS → Q (.ref p) (upd H p (.lst (ss'.map V.str)))) := by
  intro pins s σ H xs us Q I rv h
  obtain ⟨a, kvs, ss, rfl, hd, hks, h64, q⟩ := h
  obtain ⟨u, rfl, ru⟩ := rv.one
  cases ru
  obtain ⟨z, lo, vs, rel, dd⟩ := dk_of I.hok hd
  obtain ⟨ep, hat⟩ := dd.dictAt
  have hlen : vs.length = kvs.length := rel.length.symm
  have hss : ss.length = kvs.length := by have := congrArg List.length hks; simpa using this.symm
  have hh : X.A.handled = none := I.ok.hd hc
  refine Calls.call_function_entry kind_sorted plain_sorted entry_sorted (args_sorted1 _) ?_
  unfold Builtin.«sorted»
  refine wpAny_bind (m := checkCount "sorted" 1 1 _) (wpAny_pure ?_)
  refine wpAny_bind (PySem.W.kdu_collect (A := X.A.in1) (PySem.W.kdl_dict (knd := mixKind X.prog X.w) (kvs := vs) (ep := ep) lo) hh hat (by rw [hlen]; exact z) fun h' tk acc hk hacc => ?_)
  have hal : acc.toList.length = vs.length := by rw [Array.length_toList]; exact hacc.1
  refine wpAny_bind (wpAny_newList ?_ (by rw [hal, hlen]; exact z))
  have hS : StrsAre acc.toList ss := strsAre_get (by omega) fun j v e => by
    obtain ⟨k, x, e1, e2⟩ := hacc.2 j v (by rw [← Array.getElem?_toList]; exact e)
    have hj : j < kvs.length := by have := (List.getElem?_eq_some_iff.mp e1).1; omega
    have key : (kvs.map (·.1))[j]? = some k := by
      have h2 : ∀ {l : List (Key × V)} {m : List (Key × Value)} {j : Nat} {q : Key × Value}, KV l m → m[j]? = some q → (l.map (·.1))[j]? = some q.1 := by
        intro l m
        intro j q r
        unfold KV at r
        induction r generalizing j with
        | nil => intro e; simp at e
        | cons h t ih =>
          intro e
          cases j with
          | zero => simp at e; subst e; simp [h.1]
          | succ j => simp at e ⊢; have := ih e; simpa using this
      exact h2 rel e1
    rw [hks, List.getElem?_map] at key
    cases es : ss[j]? with
    | none => rw [es] at key; cases key
    | some x' =>
      rw [es] at key
      cases key
      rcases keyIs_shape (show keyIs (Sum.inr x') v = true from e2) with ⟨i, t, e3, _⟩ | ⟨y, t, e3, e4⟩
      · cases e3
      · cases e3
        exact ⟨x', t, rfl, e4⟩
  have I1 : Inv X pins σ H { s with heap := h', toks := tk } := I.kept (t' := tk) hk
  have hoL : (h'.push { cls := .type "list", data := .seq acc.toList.toArray }).get? h'.objs.size = some (seqObj "list" acc.toList.toArray 0) := Heap.get?_push_size _ rfl
  refine wpAny_bind (wpAny_holding (wpAny_call_entry slot_list_sort ⟨_, hoL, rfl⟩ entry_list_sort (list_sort_treeK strKind_oneLt hoL hS.keysOf (fun v₁ v₂ rest e => keyKind_strs (by rw [← e]; exact hS)) (by omega) fun st' hp hs => ⟨_, rfl, ?_⟩) (args_list_sort _)))
  obtain ⟨ss', h1, h2, h3⟩ := sorted_out_pw hS hp hs
  refine wpAny_pure ⟨_, rfl, ?_⟩
  obtain ⟨e, he⟩ := sortedHeap_at (out := (arrOf st').map (·.2)) hoL
  refine ⟨.ref h'.objs.size, _, I1.laid (t' := tk) (a := h'.objs.size) (o := .lst (ss'.map V.str)) (fun b o e => ?_) (Nat.le_refl _) ?_, rfl, q h'.objs.size ss' (I1.hok.fresh (Nat.le_refl _)) h2 h3⟩
  · have hb := Heap.lt_size e
    rw [sortedHeap_old (Nat.ne_of_lt hb) (by rw [Heap.size_push]; exact Nat.lt_succ_of_lt hb)]
    exact Heap.get?_push_of_some _ e
  · exact ⟨by rw [List.length_map, h2.length_eq, hss]; exact z, ((arrOf st').map (·.2)).toList, e, strs_vals h1, by rw [Array.toArray_toList]; exact he⟩
/-- tuple(l), known to the object -/
theorem call_tupF {X : Cx} : CallR X (.type "tuple") (fun xs H Q => ∃ p ys, xs = [.ref p] ∧ SqL X.K H p ys ∧ ∀ (l : Addr) (o : Obj), H l = none → o.dict = none → Q (.ref l) (upd H l (.frz o (.tup ys)))) := by
  intro pins s σ H xs us Q I r h
  obtain ⟨p, ys, rfl, hq, q⟩ := h
  obtain ⟨u, rfl, rx⟩ := vals1 r
  cases rx
  obtain ⟨its, r', pl, hz⟩ := I.list hq
  have hlen := r'.length
  refine call_tuple_list pl.isList (fun h' kp => ?_) (by simp only [List.size_toArray] <;> omega)
  have I1 : Inv X pins σ H { s with heap := h' } := I.kept (t' := s.toks) kp
  have I2 : Inv X pins σ (upd H h'.objs.size (.frz { cls := .type "tuple", data := .seq its.toArray } (.tup ys))) { s with heap := h'.push { cls := .type "tuple", data := .seq its.toArray } } :=
    I1.laid (t' := s.toks) (fun b o e => Heap.get?_push_of_some _ e) (Nat.le_refl _) (show ObjOk X.prog X.w _ _ _ (.frz _ (.tup ys)) from ⟨Heap.get?_push_size _ rfl, hz, its, r', IsTup.new _ _⟩)
  exact ⟨.ref h'.objs.size, _, I2, rfl, q _ _ (I1.hok.fresh (Nat.le_refl _)) rfl⟩
end L2

namespace L2
open PySem PySem.Spec PyProof.Rows
section
variable {X : Cx}
/-- records of ours have turned, and a tuple has come -/
theorem Inv.turnedT {pins : List (Addr × Obj)} {σ : St} {H : Hp} {s : Shared} {h' : Heap} {t' : Nat} {ch : List Addr} {T : Addr} {xs : List V} {us : List Value} (I : Inv X pins σ H s) (k : ∀ b o, b ∉ ch → s.heap.get? b = some o → h'.get? b = some o)
    (hf : ∀ b ∈ ch, FpOk X pins H b) (hT : s.heap.objs.size ≤ T) (hz : xs.length ≤ sizeLine) (hv : Vals xs us) (ht : IsTup h' T us.toArray) : Inv X pins σ (upd H T (.tup xs)) { s with heap := h', toks := t' } := by
  have hn : H T = none := I.hok.fresh hT
  have nch : ∀ b u, H b = some u → b ∉ ch := fun b u e z => by rw [(hf b z).1] at e; cases e
  refine I.step (g' := s.gens) (d' := s.drawn) (ch := ch) (fun b hb => ?_) (fun b o _ _ hc e _ => k b o hc e) (fun b o _ _ hc e _ => ⟨o.slots, k b o hc e⟩) (fun b o _ e n => ?_)
    (fun b o hc e => ⟨o, k b o hc e⟩) (fun b ys e => ?_) (fun b o u e => ?_) (fun b ps e => ⟨#[], ?_⟩) (fun m hm => ?_) (fun b u e => ?_) I.bare
  · obtain ⟨_, h1, _, h3, h4, h5⟩ := hf b hb
    exact ⟨h3, h1, h4, h5⟩
  · rw [upd_ne (Nat.ne_of_lt (Nat.lt_of_lt_of_le (Heap.lt_size e) hT))]
    exact n
  · rw [upd_ne (ne_of_none e hn)]; exact e
  · rw [upd_ne (ne_of_none e hn)]; exact e
  · rw [upd_ne (ne_of_none e hn), e]; simp
  · obtain ⟨o, es, ep, ho, r⟩ := hm
    exact ⟨o, es, ep, k _ o (fun z => (hf _ z).2.1 rfl) ho, r⟩
  · by_cases hb : b = T
    · subst hb
      rw [upd_same] at e
      cases e
      exact ⟨hz, us, hv, ht⟩
    · rw [upd_ne hb] at e
      refine (I.hok b u e).stay (fun c v hc q => k c v ?_ q) (fun c q => by rw [upd_ne (ne_of_none q hn)]; exact q) fun c ys q => by rw [upd_ne (ne_of_none q hn)]; exact q
      rcases hc with z | z
      · rw [z]; exact nch b u e
      · exact nch c _ z
theorem Inv.turnedL {pins : List (Addr × Obj)} {σ : St} {H : Hp} {s : Shared} {h' : Heap} {t' : Nat} {ch : List Addr} (I : Inv X pins σ H s) (k : ∀ b o, b ∉ ch → s.heap.get? b = some o → h'.get? b = some o)
    (hf : ∀ b ∈ ch, FpOk X pins H b) : Inv X pins σ H { s with heap := h', toks := t' } := by
  have nch : ∀ b u, H b = some u → b ∉ ch := fun b u e z => by rw [(hf b z).1] at e; cases e
  refine I.step (g' := s.gens) (d' := s.drawn) (ch := ch) (fun b hb => ?_) (fun b o _ _ hc e _ => k b o hc e) (fun b o _ _ hc e _ => ⟨o.slots, k b o hc e⟩) (fun b o _ e n => n)
    (fun b o hc e => ⟨o, k b o hc e⟩) (fun b ys e => e) (fun b o u e => e) (fun b ps e => ⟨#[], by rw [e]; simp⟩) (fun m hm => ?_) (fun b u e => ?_) I.bare
  · obtain ⟨_, h1, _, h3, h4, h5⟩ := hf b hb
    exact ⟨h3, h1, h4, h5⟩
  · obtain ⟨o, es, ep, ho, r⟩ := hm
    exact ⟨o, es, ep, k _ o (fun z => (hf _ z).2.1 rfl) ho, r⟩
  · refine (I.hok b u e).stay (fun c v hc q => k c v ?_ q) (fun c q => q) fun c ys q => q
    rcases hc with z | z
    · rw [z]; exact nch b u e
    · exact nch c _ z
/-! ### list(range(n)) -/
/-! ### lists of tuples, compared -/
end
end L2

/-! lists walked backwards -/
namespace KR
open PySem
section
variable {prog : Program} {w : World} {A : Around} {E : Value → Shared → Prop} {s : Shared}
end
end KR
namespace L2
open PySem PySem.Spec PyProof.Rows
section
variable {X : Cx}
/-! sum of ints -/
/-! a list against the empty one; truths by `is`; great factors -/
/-! the signs of a text -/
/-! things: a scalar, or a tuple, or a list -/
/-! the kinds of things -/
end
end L2

/-! the whole of a tuple by a slice; a tuple turned about; sums of tuples -/
namespace HT
open PySem PySem.Spec PyProof.Rows
section
variable {prog : Program} {w : World} {A : Around} {E : Value → Shared → Prop} {s : Shared}
theorem whole_tup {t sl : Addr} {items : Array Value} {vl vu : Value} {lo hi : Option Int} {Q : Value → Shared → Prop} (ht : IsTup s.heap t items) (hs : s.heap.IsSliceOf sl vl vu .none) (pl : IsPart vl lo) (pu : IsPart vu hi)
    (h1 : sIx items.size 0 lo = 0) (h2 : sIx items.size items.size hi = items.size) (h : Q (.ref t) s) : wpAny (model prog w) A (getItem (.ref t) (.ref sl)) Q E s := by
  obtain ⟨os, hos, hcs, hds⟩ := id hs
  have hTs : s.TypeIs (.ref sl) "slice" := ⟨os, hos, hcs⟩
  unfold getItem
  try with_reducible refine wpAny_holding ?_
  first | refine wpAny_bind (wpAny_pure ?_) | skip
  refine wpAny_bind (wpAny_sequenceKey ht.typeIs (by decide) ?_)
  refine wpAny_bind (wpAny_callSpecial?_slot (name := Str.ofString "__getitem__") ht.typeIs PyProof.Rows.slot_tuple_getitem
    (wpAny_call_entry PyProof.Rows.slot_tuple_getitem ht.typeIs entry_tuple_getitem ?_ (args_tuple_getitem _ _)))
  show wpAny _ _ (Builtin.Tuple.tupleItemsOf (.ref t) >>= _) _ _ s
  refine wpAny_bind (tupleItemsOf_ ht ?_)
  refine wpAny_bind (wpAny_typeOf hTs ?_)
  rw [if_pos (by decide)]
  refine wpAny_bind (sliceApplied_gen hs pl pu ?_)
  rw [h1, h2]
  show wpAny _ _ (if (((0 : Nat) : Int) == 0 && (1 : Int) == 1 && (items.size - 0) == items.size) = true then _ else _) _ _ s
  rw [if_pos (by simp)]
  unfold Builtin.Tuple.tupleIsExact
  refine wpAny_bind (wpAny_bind (wpAny_typeOf ht.typeIs (wpAny_pure ?_)))
  rw [if_pos (by decide)]
  exact wpAny_bind (wpAny_rule (wpAny_pure ⟨_, rfl, wpAny_pure h⟩))
/-- t + u, t empty -/
theorem cat_tup0 {t b : Addr} {vs ws : List Value} {Q : Value → Shared → Prop} (ht : IsTup s.heap t vs.toArray) (hb : IsTup s.heap b ws.toArray) (hv : vs = []) (h1 : Q (.ref b) s) : wpAny (model prog w) A (binaryOp .Add (.ref t) (.ref b)) Q E s := by
  obtain ⟨⟨cls, dd, data, sl⟩, ho, hc, n, hd⟩ := id ht
  obtain ⟨⟨cls2, dd2, data2, sl2⟩, ho2, hc2, n2, hd2⟩ := id hb
  simp only at hc hd hc2 hd2
  subst hc hd hc2 hd2
  exact concat_meets ⟨_, ho, rfl⟩ ⟨_, ho2, rfl⟩ noFill_tuple_add seq_tuple_add PySem.F.slot_tuple_add PySem.F.entry_tuple_add (PySem.F.args_tuple_add_2 _ _)
    (tuple_addW0 t b vs.toArray ws.toArray n n2 dd dd2 sl sl2 (by simp [hv])) ⟨ho, ho2, h1⟩
end
end HT
namespace L2
open PySem PySem.Spec PyProof.Rows
theorem same_new {H : Hp} {a : Addr} {o : HO} (h : H a = none) : Same H (upd H a o) := fun b u e => by rw [upd_ne (ne_of_none e h)]; exact e
section
variable {X : Cx}
/-- t[lo:hi] of a tuple of ours, the whole of it or a part -/
theorem sl_tupU : SlR X (fun x lo hi H Q => ∃ a xs, x = .ref a ∧ H a = some (.tup xs) ∧ ∀ p H', Same H H' → H' p = some (.tup (cutV xs lo hi)) → Q (.ref p) H') := by
  intro pins s σ H x v vl vu lo hi sl Q I rx hs pl pu h
  obtain ⟨a, xs, rfl, hx, q⟩ := h
  by_cases hw : HT.sIx xs.length 0 lo = 0 ∧ HT.sIx xs.length xs.length hi = xs.length
  · cases rx
    obtain ⟨its, r, ht, hz⟩ := I.tuple (SqT.of (K := X.K) hx)
    have hlen : its.toArray.size = xs.length := by rw [List.size_toArray]; exact r.length.symm
    refine ⟨"tuple", _, PyProof.Rows.slot_tuple_getitem.lookup, ht.typeIs, ?_⟩
    refine HT.whole_tup ht hs pl pu (by rw [hlen]; exact hw.1) (by rw [hlen]; exact hw.2) ⟨.ref a, H, I, rfl, q a H (Same.refl H) ?_⟩
    rw [hx]
    unfold cutV
    rw [hw.1, hw.2]
    simp
  · exact sl_tup pins s σ H (.ref a) v vl vu lo hi sl Q I rx hs pl pu ⟨a, xs, rfl, SqT.of hx, hw, fun p hp => q p _ (same_new hp) upd_same⟩
/-- t + u of tuples of ours -/
theorem op_catU : OpR X (binaryOp .Add) (fun x y H Q => ∃ a b xs ys, x = .ref a ∧ y = .ref b ∧ H a = some (.tup xs) ∧ H b = some (.tup ys) ∧ xs.length + ys.length ≤ sizeLine ∧ ∀ p H', Same H H' → H' p = some (.tup (xs ++ ys)) → Q (.ref p) H') := by
  intro pins s σ H x y v u Q I rx ry h
  obtain ⟨a, b, xs, ys, rfl, rfl, ha, hb, hz, q⟩ := h
  by_cases hx : xs = []
  · subst hx
    cases rx
    cases ry
    obtain ⟨its, r1, p1, _⟩ := I.tuple (SqT.of (K := X.K) ha)
    obtain ⟨its2, r2, p2, _⟩ := I.tuple (SqT.of (K := X.K) hb)
    exact HT.cat_tup0 p1 p2 (r1.nil_iff.mpr rfl) ⟨.ref b, H, I, rfl, q b H (Same.refl H) hb⟩
  · exact op_catT pins s σ H _ _ v u Q I rx ry ⟨a, b, xs, ys, rfl, rfl, SqT.of ha, SqT.of hb, hx, hz, fun e => q a H (Same.refl H) (by rw [ha, e, List.append_nil]), fun _ p hp => q p _ (same_new hp) upd_same⟩
/-! displays, with the heap left open -/
def tLstA (t : TA) : TE := fun σ H Q => t σ H fun xs H1 => xs.length ≤ sizeLine ∧ ∀ p H2, H1 p = none → Same H1 H2 → H2 p = some (.lst xs) → Q (.ref p) H2
def tTupA (t : TA) : TE := fun σ H Q => t σ H fun xs H1 => xs.length ≤ sizeLine ∧ ∀ p H2, H1 p = none → Same H1 H2 → H2 p = some (.tup xs) → Q (.ref p) H2
theorem pe_lstA {es : List Expr} {t : TA} {pos : Pos} (h : PA X es t) : PE X (.List es pos) (tLstA t) := by
  intro pins s σ H Q I hq
  refine wpAny_List_spliced (thn (h pos pins s σ H _ I hq) fun us s1 ⟨xs, H1, I1, r, z, q⟩ => ⟨by rw [← r.length]; exact z, ?_⟩)
  have hf : H1 s1.heap.objs.size = none := I1.hok.fresh (Nat.le_refl _)
  refine ⟨.ref s1.heap.objs.size, upd H1 s1.heap.objs.size (.lst xs), I1.laid (t' := s1.toks) (fun b u e => Heap.get?_push_of_some _ e) (Nat.le_refl _) ?_, rfl, q _ _ hf (same_new hf) upd_same⟩
  exact ⟨z, us, 0, r, Heap.get?_push_size _ rfl⟩
theorem pe_tupA {es : List Expr} {t : TA} {pos : Pos} {x1 : Nat} (h : PA X es t) : PE X (.Tuple es x1 pos) (tTupA t) := by
  intro pins s σ H Q I hq
  refine wpAny_Tuple_spliced (thn (h pos pins s σ H _ I hq) fun us s1 ⟨xs, H1, I1, r, z, q⟩ => ⟨by rw [← r.length]; exact z, ?_⟩)
  have hf : H1 s1.heap.objs.size = none := I1.hok.fresh (Nat.le_refl _)
  refine ⟨.ref s1.heap.objs.size, upd H1 s1.heap.objs.size (.tup xs), I1.laid (t' := s1.toks) (fun b u e => Heap.get?_push_of_some _ e) (Nat.le_refl _) ?_, rfl, q _ _ hf (same_new hf) upd_same⟩
  exact ⟨z, us, r, ⟨_, Heap.get?_push_size _ rfl, rfl, _, rfl⟩⟩
theorem op_catA : OpR X (binaryOp .Add) (fun x y H Q => ∃ l b xs zs, x = .ref l ∧ y = .ref b ∧ H l = some (.lst xs) ∧ H b = some (.lst zs) ∧ xs.length + zs.length ≤ sizeLine ∧ ∀ p H2, H p = none → Same H H2 → H2 p = some (.lst (xs ++ zs)) → Q (.ref p) H2) := by
  intro pins s σ H x y v u Q I rx ry h
  obtain ⟨l, b, xs, zs, h1, h2, h3, h4, h5, q⟩ := h
  exact op_cat pins s σ H x y v u Q I rx ry ⟨l, b, xs, zs, h1, h2, h3, h4, h5, fun p hp => q p _ hp (same_new hp) upd_same⟩
/-! copies that are alike -/
theorem eqV_self {v : V} (h : flatV v = true) : eqV v v = true := by
  cases v with
  | non => rfl
  | bl b => cases b <;> rfl
  | int i => show (i == i) = true; exact beq_self_eq_true i
  | str x => show (x == x) = true; exact beq_self_eq_true x
  | _ => exact absurd h (by simp [flatV])
theorem eq_flatT {A : Around} {s : Shared} {v : V} {u1 u2 : Value} (h : flatV v = true) (r1 : RelV v u1) (r2 : RelV v u2) : SeqAt.EqAt A s u1 u2 true := by
  have := eqAt_V (A := A) (s := s) r1 r2 h h
  rwa [eqV_self h] at this
end
/-! comprehensions over the signs of a text -/
end L2

/-! lists of texts in order; a or b of tuples; texts cut and put together -/
namespace L2
open PySem PySem.Spec PyProof.Rows
section
variable {X : Cx}
theorem call_sortL : CallR X (.builtin "sorted") (fun xs H Q => ∃ (p : Addr) (ss : List Str), xs = [.ref p] ∧ SqL X.K H p (ss.map V.str) ∧ ss.length < 64 ∧
    ∀ (l : Addr) (zs : List Str) (H2 : Hp), H l = none → Same H H2 → H2 l = some (.lst (zs.map V.str)) → zs.Perm ss → zs.Pairwise leS → Q (.ref l) H2) := by
  intro pins s σ H xs us Q I rv h
  obtain ⟨p, ss, rfl, hp, h64, q⟩ := h
  obtain ⟨u, rfl, ru⟩ := rv.one
  cases ru
  obtain ⟨its, r, pl, hz⟩ := I.list hp
  have hS : StrsAre its ss := strsAre_of r
  have hl : its.length = ss.length := by have := r.length; rw [List.length_map] at this; exact this.symm
  refine sortedK strKind_oneLt (vs := its) pl.isList hS.keysOf (fun v₁ v₂ rest e => keyKind_strs (by rw [← e]; exact hS)) (by omega) fun st' hp hs => ?_
  obtain ⟨ss', h1, h2, h3⟩ := sorted_out_pw hS hp hs
  obtain ⟨e, he⟩ := sortedAll_at s.heap its ((arrOf st').map (·.2))
  have hf : H (s.heap.objs.size + 1) = none := I.hok.fresh (Nat.le_succ _)
  refine ⟨.ref (s.heap.objs.size + 1), _, I.laid (t' := s.toks) (a := s.heap.objs.size + 1) (o := .lst (ss'.map V.str)) (fun b o e => sortedAll_old e) (Nat.le_succ _) ?_, rfl, q _ ss' _ hf (same_new hf) upd_same h2 h3⟩
  exact ⟨by rw [List.length_map, h2.length_eq]; exact Nat.le_of_lt (small1000 (by omega)), ((arrOf st').map (·.2)).toList, e, strs_vals h1, by rw [Array.toArray_toList]; exact he⟩
theorem call_tupleA : CallR X (.type "tuple") (fun xs H Q => ∃ p ys, xs = [.ref p] ∧ SqL X.K H p ys ∧ ∀ l H2, H l = none → Same H H2 → H2 l = some (.tup ys) → Q (.ref l) H2) := by
  intro pins s σ H xs us Q I r h
  obtain ⟨p, ys, h1, h2, q⟩ := h
  exact call_tuple_of pins s σ H xs us Q I r ⟨p, ys, h1, .inl ⟨h2, fun l hl => q l _ hl (same_new hl) upd_same⟩⟩
/-- a or b, a a tuple or a list -/
theorem pe_orS {a b : Expr} {ta tb : TE} {pos : Pos} (ha : PE X a ta) (hb : PE X b tb) : PE X (.BoolOp .Or [a, b] pos) (fun σ H Q => ta σ H fun x H1 => ∃ k, TruV X.K x H1 k ∧ if k = true then Q x H1 else tb σ H1 Q) := by
  intro pins s σ H Q I h
  refine BoolOp_or (thn (ha pins s σ H _ I h) fun v s1 ⟨x, H1, I1, r1, k, hk, q⟩ => ?_)
  refine thn (tru_ok pins s1 σ H1 x v (fun c H2 => c = k ∧ H2 = H1) I1 r1 ⟨k, hk, rfl, rfl⟩) fun c s2 ⟨H2, I2, e1, e2⟩ => ?_
  subst e1 e2
  cases c with
  | true => exact ⟨x, H2, I2, r1, q⟩
  | false => exact BoolOp_one (hb pins s2 σ H2 Q I2 q)
/-- l.append(y), the heap left open -/
theorem mt_appA : MtR X "list.append" (fun x vs H Q => ∃ (l : Addr) (xs : List V) (y : V), x = .ref l ∧ vs = [y] ∧ H l = some (.lst xs) ∧ xs.length ≤ 1000 ∧ ∀ H1, (∀ b o, b ≠ l → H b = some o → H1 b = some o) → H1 l = some (.lst (xs ++ [y])) → Q .non H1) := by
  intro pins s σ H x vs v us Q I rx rv h
  obtain ⟨l, xs, y, h1, h2, hl, hn, q⟩ := h
  exact mt_append pins s σ H x vs v us Q I rx rv ⟨l, xs, y, h1, h2, hl, small1000 hn, q _ (fun b o hb e => by rw [upd_ne hb]; exact e) upd_same⟩
/-- l[i] = y, the heap left open -/
theorem set_listA : PSet X (fun o i v H Q => ∃ (l : Addr) (xs : List V) (k : Nat), o = .ref l ∧ i = .int (k : Int) ∧ H l = some (.lst xs) ∧ k < xs.length ∧ ∀ H1, (∀ b o, b ≠ l → H b = some o → H1 b = some o) → H1 l = some (.lst (xs.set k v)) → Q H1) := by
  intro pins s σ H o i v ov iv u Q I r1 r2 r3 h
  obtain ⟨l, xs, k, h1, h2, hl, hk, q⟩ := h
  refine set_list pins s σ H o i v ov iv u Q I r1 r2 r3 ⟨l, xs, (k : Int), k, h1, h2, hl, ?_, q _ (fun b o hb e => by rw [upd_ne hb]; exact e) upd_same⟩
  unfold ixN
  rw [if_pos (by omega), if_pos (by omega), Int.toNat_natCast]
end
end L2

/-! tuples of texts compared -/
namespace L2
open PySem PySem.Spec PyProof.Rows
section
variable {X : Cx}
end
end L2

/-! the keys of a dict of texts, walked -/
namespace L2
open PySem PySem.Spec PyProof.Rows
def Itd (a : Addr) (o : Obj) (kvs : List (Key × V)) (ss : List Str) : It := ⟨fun i H => H a = some (.frz o (.dK kvs)) ∧ i < ss.length, fun i H v H' => H' = H ∧ ∃ z, ss[i]? = some z ∧ v = .str z, fun i H => H a = some (.frz o (.dK kvs)) ∧ i = ss.length⟩
theorem turn_dict {P : Program} {w : World} {K : PySem.W.Frag} {tg : Expr} (a it : Addr) (o : Obj) (kvs : List (Key × V)) (vs : List (Key × Value)) (ss : List Str) (ep : Nat) (hne : a ≠ it) (hD : ∀ h : Heap, h.get? a = some o → h.DictAt (mixKind P w) a vs ep) (hvs : vs.map (·.1) = ss.map Sum.inr) :
    Turn P w K tg (Itd a o kvs ss) [it] it (fun i h => h.IsKeyIter it a i vs.length ep) where
  mem := by simp
  obj := fun i h st b hb => by
    have e : b = it := by simpa using hb
    subst e
    obtain ⟨ob, e, c, d⟩ := st
    exact ⟨ob, e, fun v z => by rw [d] at z; cases z⟩
  keep := fun i h h' st k => st.at fun ob e => k it (by simp) ob e
  item := by
    intro X hP hw hK hc i pins s σ H E I hf st hg
    subst hP hw hK
    obtain ⟨ha, hi⟩ := hg
    have hl : vs.length = ss.length := by have := congrArg List.length hvs; simpa using this
    have hget : s.heap.get? a = some o := (show ObjOk X.prog X.w H s.heap a (.frz o (.dK kvs)) from I.hok a _ ha).1
    refine (Walks.dictKeys (knd := mixKind X.prog X.w) (A := X.A) (I.ok.hd hc) it a hne vs ep).item i s _ _ (by omega) ⟨st, hD _ hget⟩ fun v h' tk hv st' kk => ?_
    obtain ⟨k, x, hk, hkv⟩ := hv
    have I1 : Inv X pins σ H { s with heap := h', toks := tk } := I.turnedL (ch := [it]) kk (fun b hb => hf b hb)
    have key : (ss.map Sum.inr)[i]? = some k := by rw [← hvs, List.getElem?_map, hk]; rfl
    rw [List.getElem?_map, List.getElem?_eq_getElem hi] at key
    have key : Sum.inr ss[i] = k := Option.some.inj key
    subst key
    rcases keyIs_shape (show keyIs (Sum.inr ss[i]) v = true from hkv) with ⟨j, t, e3, _⟩ | ⟨y, t, e3, e4⟩
    · cases e3
    · cases e3
      subst e4
      obtain ⟨ob, eo, co, d⟩ := id st'.1
      exact ⟨_, rfl, go_of (s := { s with heap := h', toks := tk }) (n := "dict_keyiterator") eo co d (by decide) ⟨.str ss[i], H, I1, ⟨t, rfl⟩, ⟨rfl, ss[i], List.getElem?_eq_getElem hi, rfl⟩, st'.1, fun b hb => (hf b hb).1⟩⟩
  done := by
    intro X hP hw hK hc i pins s σ H E I hf st hg
    subst hP hw hK
    obtain ⟨ha, hi⟩ := hg
    have hl : vs.length = ss.length := by have := congrArg List.length hvs; simpa using this
    have hget : s.heap.get? a = some o := (show ObjOk X.prog X.w H s.heap a (.frz o (.dK kvs)) from I.hok a _ ha).1
    subst hi
    rw [← hl] at st
    exact (Walks.dictKeys (knd := mixKind X.prog X.w) (A := X.A) (I.ok.hd hc) it a hne vs ep).done s _ _ ⟨st, hD _ hget⟩ fun h' tk kk => ⟨rfl, I.turnedL (ch := [it]) kk (fun b hb => hf b hb)⟩
  self := fun _ _ _ _ _ st h => wpAny_pyIter_keyiter st h
section
variable {X : Cx}
theorem pi_dict {tg e : Expr} {te : TE} (he : PE X e te) : PI X tg e (fun σ H R => te σ H fun x H1 => ∃ (a : Addr) (kvs : List (Key × V)) (ss : List Str), x = .ref a ∧ H1 a = some (.dK kvs) ∧ kvs.map (·.1) = ss.map Sum.inr ∧ ∀ (o : Obj) (H2 : Hp), (∀ b u, b ≠ a → H1 b = some u → H2 b = some u) → H2 a = some (.frz o (.dK kvs)) → R (Itd a o kvs ss) H2) := by
  intro pins s σ H R I h
  refine thn (he pins s σ H _ I h) fun v s1 ⟨x, H1, I1, r1, a, kvs, ss, ex, hd, hks, q⟩ => ?_
  subst ex
  cases r1
  obtain ⟨z, lo, vs, rel, dd⟩ := dk_of I1.hok hd
  obtain ⟨o, es, ep, ho, rest⟩ := id dd
  have hD : ∀ h : Heap, h.get? a = some o → h.DictAt (mixKind X.prog X.w) a vs ep := fun h hg => ⟨o, es, hg, rest⟩
  have hvs : vs.map (·.1) = ss.map Sum.inr := by
    rw [← hks]
    have : ∀ {l : List (Key × V)} {m : List (Key × Value)}, KV l m → m.map (·.1) = l.map (·.1) := by
      intro l m r
      unfold KV at r
      induction r with
      | nil => rfl
      | cons h t ih => rw [List.map_cons, List.map_cons, ih, h.1]
    exact this rel
  have I2 : Inv X pins σ (upd H1 a (.frz o (.dK kvs))) { s1 with heap := s1.heap, toks := s1.toks } := I1.write (x := a) (e := a) (o := .frz o (.dK kvs)) (by rw [hd]; trivial) (.inl rfl) (fun b u _ e => e) ⟨o, ho⟩ ⟨ho, z, lo, vs, rel, dd⟩
  have hlt : a < s1.heap.objs.size := Heap.lt_size ho
  refine wpAny_pyIter_dict lo (hD _ ho) ?_
  have nI : upd H1 a (.frz o (.dK kvs)) s1.heap.objs.size = none := I2.hok.fresh (Nat.le_refl _)
  refine ⟨s1.heap.objs.size, [s1.heap.objs.size], _, _, _, rfl, I2.kept (t' := s1.toks) fun b u e => Heap.get?_push_of_some _ e, turn_dict a s1.heap.objs.size o kvs vs ss ep (Nat.ne_of_lt hlt) hD hvs, ⟨_, Heap.get?_push_size _ rfl, rfl, rfl⟩, fun b hb => ?_, q o _ (fun b u hb e => by rw [upd_ne hb]; exact e) upd_same⟩
  have e : b = s1.heap.objs.size := by simpa using hb
  subst e
  exact I2.fpOk (Nat.le_refl _) nI
/-- those keys of a dict of texts that pass a test that makes nothing -/
theorem lcFD {a : Addr} {o : Obj} {kvs : List (Key × V)} {ss : List Str} {k : Nat} {σ : St} {H1 : Hp} {tt : TT} {Q : VK} (t : Str → Bool) (hk : σ.length = k) (hq : H1 a = some (.frz o (.dK kvs))) (hz : ss.length ≤ 1000)
    (turn : ∀ D x ys (post : Bool → Hp → Prop), H1 D = none → x ∈ ss → post (t x) (upd H1 D (.lst ys)) → tt (σ ++ [some (.str x)]) (upd H1 D (.lst ys)) post)
    (fin : ∀ D, H1 D = none → Q (.ref D) (upd H1 D (.lst ((ss.filter t).map V.str)))) : LCT 1 (gName k) tt (tVar k) σ Q (Itd a o kvs ss) H1 := by
  have sq : ∀ D ys, H1 D = none → upd H1 D (.lst ys) a = some (.frz o (.dK kvs)) := fun D ys h => by rw [upd_ne (ne_of_none hq h)]; exact hq
  refine lcP (n := ss.length) (fun i => .str (ss.getD i ⟨#[]⟩)) (fun D i ys H => H1 D = none ∧ ys = ((ss.take i).filter t).map V.str ∧ H = upd H1 D (.lst ys)) ?_ ?_ ?_ ?_ ?_ ?_
  · rintro D i ys H hi ⟨h1, h2, rfl⟩
    exact ⟨sq D ys h1, hi⟩
  · rintro D i ys H x H' hi ⟨h1, h2, rfl⟩ ⟨e, z, hz, rfl⟩
    refine ⟨e, ?_⟩
    rw [List.getD_eq_getElem?_getD, hz]; rfl
  · rintro D ys H ⟨h1, h2, rfl⟩
    exact ⟨sq D ys h1, rfl⟩
  · intro D hD
    exact ⟨hD, by simp, rfl⟩
  · rintro D i ys H yes no hi ⟨h1, h2, rfl⟩ hp hn
    have hx : ss[i]? = some (ss.getD i ⟨#[]⟩) := by rw [List.getD_eq_getElem?_getD, List.getElem?_eq_getElem hi]; rfl
    generalize ss.getD i ⟨#[]⟩ = x at hx ⊢
    have e : (σ ++ List.replicate 1 (none : Option V)).set k (some (.str x)) = σ ++ [some (.str x)] := by
      subst hk
      simp [List.set_append]
    unfold gName
    rw [e]
    refine ⟨⟨_, rfl, rfl⟩, turn D x ys _ h1 (List.mem_of_getElem? hx) ?_⟩
    cases hb : t x with
    | true =>
      refine iteT ⟨.str x, by subst hk; simp, hp _ _ upd_same ?_ ⟨h1, ?_, by rw [upd_upd]⟩⟩
      · rw [h2, List.length_map]
        have h3 : ((ss.take i).filter t).length ≤ (ss.take i).length := List.length_filter_le _ _
        rw [List.length_take] at h3
        exact small1000 (by omega)
      · rw [h2, List.take_add_one, hx]; simp [List.filter_append, hb]
    | false =>
      refine iteF (hn _ ⟨h1, ?_, rfl⟩)
      rw [h2, List.take_add_one, hx]; simp [List.filter_append, hb]
  · rintro D ys H ⟨h1, h2, rfl⟩
    rw [h2, List.take_of_length_le (Nat.le_refl _)]
    exact fin D h1
end
end L2

/-! a list walked with its places -/
namespace L2
open PySem PySem.Spec PyProof.Rows
def Ite (K : PySem.W.Frag) (l : Addr) : It :=
  ⟨fun i H => ∃ xs x, SqL K H l xs ∧ xs[i]? = some x, fun i H v H' => ∃ p, v = .ref p ∧ H p = none ∧ ∀ xs, SqL K H l xs → ∃ x, xs[i]? = some x ∧ H' = upd H p (.tup [.int (i : Int), x]), fun i H => ∃ xs, SqL K H l xs ∧ i = xs.length⟩
def TnE (e it l : Addr) (i : Nat) (h : Heap) : Prop := (∃ old, IsEnum h e it i old) ∧ h.IsListIter it l i
theorem turn_enum {P : Program} {w : World} {K : PySem.W.Frag} {elts : List Expr} {k : Nat} {pos : Pos} {e it l : Addr} (a1 : e ≠ it) (a2 : l ≠ e) (a3 : l ≠ it) : Turn P w K (.Tuple elts k pos) (Ite K l) [e, it] e (TnE e it l) where
  mem := by simp
  obj := fun i h st b hb => by
    obtain ⟨⟨old, h1⟩, h2⟩ := st
    simp only [List.mem_cons, List.not_mem_nil, or_false] at hb
    rcases hb with rfl | rfl
    · exact ⟨_, h1, fun v e => by cases e⟩
    · obtain ⟨o, e, c, d⟩ := h2
      exact ⟨o, e, fun v z => by rw [d] at z; cases z⟩
  keep := fun i h h' st kk => by
    obtain ⟨⟨old, h1⟩, h2⟩ := st
    exact ⟨⟨old, kk _ (by simp) _ h1⟩, h2.at fun o e => kk _ (by simp) o e⟩
  item := by
    intro X hP hw hK hc i pins s σ H E I hf st hg
    subst hP hw hK
    obtain ⟨xs, x, hx, ex⟩ := hg
    obtain ⟨its, rv, p, hz⟩ := I.list hx
    obtain ⟨u, hu, ru⟩ := rv.get ex
    have W := WalksT.enumerate (prog := X.prog) (w := X.w) (I.ok.hd hc) e it l a1 a2 a3 its.toArray
    have hi1 : i < its.length := (List.getElem?_eq_some_iff.mp hu).1
    obtain ⟨st1, st2⟩ := st
    refine W.item i s _ _ (by simp only [List.size_toArray]; omega) ⟨st1, st2, p.isList⟩ fun T vals h' tk hpt hT ht mid kk => ?_
    obtain ⟨tt, a, ea, rfl⟩ := hpt
    have ea' : its[i]? = some a := by simpa using ea
    rw [hu] at ea'; cases ea'
    refine ⟨_, rfl, W.go elts k pos i T _ _ _ mid fun h'' st'' kk2 => ?_⟩
    have nT := W.apart i T h' mid
    have hTup : IsTup h'' T [Value.int i tt, u].toArray := by
      obtain ⟨o, eo, c⟩ := ht
      exact ⟨o, kk2 _ _ nT eo, c⟩
    have I1 := I.turnedT (h' := h'') (t' := tk) (xs := [.int (i : Int), x]) (us := [Value.int i tt, u]) (ch := [e, it]) (fun b o hb eo => kk2 _ _ hb (kk _ _ hb eo)) hf hT (by show 2 ≤ sizeLine; decide) (.cons ⟨tt, rfl⟩ (.cons ru .nil)) hTup
    refine ⟨.ref T, _, I1, rfl, ⟨T, rfl, I.hok.fresh hT, fun xs' hx' => ⟨x, ?_, rfl⟩⟩, ⟨st''.1, st''.2.1⟩, fun b hb => ?_⟩
    · rw [I.list_inj hx' hx]; exact ex
    · have hb' : ∃ o, s.heap.get? b = some o := by
        simp only [List.mem_cons, List.not_mem_nil, or_false] at hb
        obtain ⟨old, st1⟩ := st1
        obtain ⟨o4, e4, _⟩ := st2
        rcases hb with h | h <;> rw [h]
        · exact ⟨_, st1⟩
        · exact ⟨_, e4⟩
      obtain ⟨o, eo⟩ := hb'
      rw [upd_ne (Nat.ne_of_lt (Nat.lt_of_lt_of_le (Heap.lt_size eo) hT))]
      exact (hf b hb).1
  done := by
    intro X hP hw hK hc i pins s σ H E I hf st hg
    subst hP hw hK
    obtain ⟨xs, hx, rfl⟩ := hg
    obtain ⟨its, rv, p, hz⟩ := I.list hx
    have W := WalksT.enumerate (prog := X.prog) (w := X.w) (I.ok.hd hc) e it l a1 a2 a3 its.toArray
    obtain ⟨st1, st2⟩ := st
    have en : xs.length = its.toArray.size := by rw [rv.length, List.size_toArray]
    rw [en] at st1 st2
    refine W.done s _ _ ⟨st1, st2, p.isList⟩ fun h' tk kk => ⟨rfl, I.turnedL (ch := [e, it]) kk hf⟩
  self := fun _ _ _ _ _ st h => by
    obtain ⟨⟨old, h1⟩, _⟩ := st
    exact wpAny_pyIter_enum h1 h
section
variable {X : Cx}
def iEnum (K : PySem.W.Frag) (ta : TA) : TI := fun σ H R => ta σ H fun vs H1 => ∃ a xs, vs = [.ref a] ∧ SqL K H1 a xs ∧ R (Ite K a) H1
theorem pi_enum {elts : List Expr} {k : Nat} {tpos : Pos} {a : Expr} {ta : TA} {p pos : Pos} (hg : Gl X "enumerate") (hm : X.mg "enumerate" = none) (ha : PA X [a] ta) (hs : starEach [a] X.env = [(false, eval a X.env)] := by rfl) :
    PI X (.Tuple elts k tpos) (.Call (.Name "enumerate" p) [a] [] pos) (iEnum X.K ta) := by
  intro pins s σ H R I h
  refine Call_ (ld_blt I hg hm boot_enumerate (PyProof.Rows.callWith_type1 (thn (ha pos pins s σ H _ I h) fun us s1 ⟨vs, H1, I1, r1, q1⟩ => ?_) hs rfl))
  obtain ⟨l, xs, e, hx, q⟩ := q1
  subst e
  obtain ⟨u, rfl, rr⟩ := vals1 r1
  cases rr
  obtain ⟨its, rv, p1, hz⟩ := I1.list hx
  refine call_enumerate_list p1.isList fun h' z1 z2 hsz kk => ?_
  refine wpAny_pyIter_enum (s := { s1 with heap := h' }) z1 ?_
  have h1 : l < s1.heap.objs.size := by obtain ⟨o, eo, _⟩ := p1.isList; exact Heap.lt_size eo
  refine ⟨_, [s1.heap.objs.size + 1, s1.heap.objs.size], _, _, H1, rfl, I1.kept (t' := s1.toks) kk, turn_enum (Nat.succ_ne_self _) (Nat.ne_of_lt (Nat.lt_succ_of_lt h1)) (Nat.ne_of_lt h1), ⟨⟨_, z1⟩, z2⟩, fun b hb => ?_, q⟩
  have hb' : s1.heap.objs.size ≤ b := by
    simp only [List.mem_cons, List.not_mem_nil, or_false] at hb
    rcases hb with h | h <;> rw [h] <;> first | exact Nat.le_add_right _ _ | exact Nat.le_refl _
  exact I1.fpOk hb' (I1.hok.fresh hb')
/-- over a list that the body leaves as it is, with places -/
theorem for_enum {K : PySem.W.Frag} {a : Addr} {xs : List V} {g : TG} {tb : TS} {D : Ends} {σ : St} {H : Hp} (Pv : Nat → St → Hp → Prop) (h0 : Pv 0 σ H) (hl : ∀ i σ H, Pv i σ H → SqL K H a xs)
    (hs : ∀ i x p σ H, xs[i]? = some x → H p = none → Pv i σ H → g (.ref p) σ (upd H p (.tup [.int (i : Int), x])) fun σ2 H2 => tb { D with nx := Pv (i + 1), ct := Pv (i + 1), bk := D.nx } σ2 H2) (hd : ∀ σ H, Pv xs.length σ H → D.nx σ H) :
    ∃ W : Nat → Nat → St → Hp → Prop, (∃ m, W 0 m σ H) ∧ ∀ i m σ H, W i m σ H →
      ((Ite K a).stop i H ∧ D.nx σ H) ∨ ((Ite K a).go i H ∧ ∃ N : St → Hp → Prop, (∀ σ' H', N σ' H' → ∃ m', m' < m ∧ W (i + 1) m' σ' H') ∧ ∀ x H', (Ite K a).yld i H x H' → g x σ H' fun σ2 H2 => tb { D with nx := N, ct := N, bk := D.nx } σ2 H2) := by
  refine ⟨fun i m σ H => m = xs.length - i ∧ i ≤ xs.length ∧ Pv i σ H, ⟨xs.length, by simp, Nat.zero_le _, h0⟩, ?_⟩
  rintro i m σ H ⟨rfl, hi, p⟩
  have q1 := hl i σ H p
  by_cases hlt : i < xs.length
  · refine .inr ⟨⟨xs, xs[i], q1, by simp [hlt]⟩, Pv (i + 1), fun σ' H' p' => ⟨xs.length - (i + 1), by omega, rfl, hlt, p'⟩, fun x H' y => ?_⟩
    obtain ⟨t, rfl, ht, y⟩ := y
    obtain ⟨u, eu, rfl⟩ := y xs q1
    exact hs i u t σ H eu ht p
  · have e : i = xs.length := by omega
    subst e
    exact .inl ⟨⟨xs, q1, rfl⟩, hd σ H p⟩
end
end L2

set_option maxHeartbeats 2000000
/-! a function of the text, known by its promise -/
namespace L2
open PySem PySem.Spec PyProof.Rows
structure FnAt (P : Program) (w : World) (K : PySem.W.Frag) (mg : Str → Option Value) (base : Heap) (k : Nat) (x : Str) (ps : List Str) (sp : Sp) : Prop where
  ex : ∃ f fd, FnOk P w K mg base CX0 k f fd ps sp ∧ mg x = some (.ref f) ∧ PySem.W.keepIn K (.ref f) = true ∧ Binds K fd ps []
theorem pe_callF {X : Cx} {k : Nat} {x : Str} {ps : List Str} {sp : Sp} {e : Expr} {es : List Expr} {t : TA} {p pos : Pos} (F : FnAt X.prog X.w X.K X.mg X.base k x ps sp) (hr : Room k X.A) (ha : PA X (e :: es) t) (hg : Gl X x := by rfl)
    (hdb : (x == ("__debug__" : Str)) = false := by decide) (he : starEach (e :: es) X.env = (false, eval e X.env) :: starEach es X.env := by rfl) (hpl : (backTo pos (starEach es X.env)).any (·.1) = false := by rfl) :
    PE X (.Call (.Name x p) (e :: es) [] pos) (tCall sp [] E0 t) := by
  obtain ⟨f, fd, G, m, kp, b⟩ := F.ex
  exact pe_call G hr hg m kp b .nil pass0 ha hdb he hpl
theorem Same.new {H : Hp} {a : Addr} {o : HO} (h : H a = none) : Same H (upd H a o) := fun b u e => by rw [upd_ne (ne_of_none e h)]; exact e
theorem Same.none {H H' : Hp} (e : Same H H') {a : Addr} (h : H' a = Option.none) : H a = Option.none := e.free h
/-! which kind is which -/
end L2

set_option maxHeartbeats 2000000
/-! texts cut and put together; lists without repeats -/
namespace L2
open PySem PySem.Spec PyProof.Rows
theorem cps_app (x y : Str) : (x ++ y).cps.toList = x.cps.toList ++ y.cps.toList := by rw [Str.cps_append, Array.toList_append]
/-- rising: none twice, in order -/
def ltS (a b : Str) : Prop := leS a b ∧ a ≠ b
theorem rising_of {zs : List Str} (h : zs.Pairwise leS) (hn : zs.Nodup) : zs.Pairwise ltS := List.Pairwise.and h hn
end L2

set_option maxHeartbeats 2000000
namespace L2
open PySem PySem.Spec PyProof.Rows
theorem op_notIn_seqC {X : Cx} {scope : Scope} {cl : List (Str × Addr)} {N2 ys : List Str} {C : Addr} {s : Shared} {H : Hp} {fp : List Addr} : OpR (cxC X scope cl N2 ys C s H fp) (compareOp .NotIn) (rIn X.K true) := op_notIn_seq
theorem inV_str {x : Str} {zs : List Str} : inV (.str x) (zs.map V.str) = decide (x ∈ zs) := by
  unfold inV
  rw [Bool.eq_iff_iff, List.any_eq_true, decide_eq_true_iff]
  constructor
  · rintro ⟨y, hy, e⟩
    obtain ⟨z, hz, rfl⟩ := List.mem_map.mp hy
    have e : z = x := beq_iff_eq.mp (show (z == x) = true from e)
    exact e ▸ hz
  · intro h
    exact ⟨.str x, List.mem_map.mpr ⟨x, h, rfl⟩, show (x == x) = true from beq_self_eq_true x⟩
theorem flat_strs (zs : List Str) : (zs.map V.str).all flatV = true := by
  rw [List.all_map]
  exact List.all_eq_true.mpr fun _ _ => rfl
end L2
namespace L2
open PySem PySem.Spec PyProof.Rows
end L2

set_option maxHeartbeats 2000000
namespace L2
open PySem PySem.Spec PyProof.Rows
/-- a word kept shut (the elaborator would else run through a long display again and again) -/
structure Wd (p : Prop) : Prop where
  h : p
section
variable {X : Cx} {es : List Expr} {te : TE} {t : TA}
theorem wa_nil : Wd (PA X [] tNil) := ⟨pa_nil⟩
theorem wa_cs {c : Const} {k : Nat} {p : Pos} (ha : PE X (.Constant c k p) te) (hr : Wd (PA X es t)) : Wd (PA X (.Constant c k p :: es) (tCons te t)) := ⟨pa_cons ha hr.h (by rfl)⟩
theorem wa_bi {o : Operator} {e f : Expr} {p : Pos} (ha : PE X (.BinOp e o f p) te) (hr : Wd (PA X es t)) : Wd (PA X (.BinOp e o f p :: es) (tCons te t)) := ⟨pa_cons ha hr.h (by rfl)⟩
theorem we_lst {pos : Pos} (h : Wd (PA X es t)) : Wd (PE X (.List es pos) (tLstA t)) := ⟨pe_lstA h.h⟩
theorem we_ix {a b : Expr} {pos : Pos} {r : R2} {ta tb : TE} (hr : IxR X r) (ha : Wd (PE X a ta)) (hb : PE X b tb) (hs : PlainIx b) : Wd (PE X (.Subscript a b pos) (tOp r ta tb)) := ⟨pe_ix hr ha.h hb hs⟩
theorem ws_sub {i : Nat} {x : Str} {a b : Expr} {pos pos' p2 : Pos} (hN : X.N.Nodup) (hi : X.N[i]? = some x) (hx : Loc X.env.scope x) (hf : X.fn x = true ∨ X.env.scope.names.lookup x = some .local) (he : Wd (PE X (.Subscript a b p2) te)) : Wd (PS X (.Assign [.Name x pos'] (.Subscript a b p2) pos) (tAsg te (gName i))) := ⟨ps_set hN hi hx he.h (by rfl) hf⟩
theorem wss_cons {s : Stmt} {ss : List Stmt} {ts tss : TS} (h : Wd (PS X s ts)) (h' : Wd (PSs X ss tss)) : Wd (PSs X (s :: ss) (tSeq ts tss)) := ⟨pss_cons h.h h'.h⟩
theorem wss_one {s : Stmt} {ts : TS} (h : PS X s ts) : Wd (PSs X [s] ts) := ⟨pss_one h⟩
end
end L2

set_option maxHeartbeats 2000000
/-! ranges with a step, tuples walked, texts of a tuple put together -/
namespace L2
open PySem PySem.Spec PyProof.Rows
theorem atI_map {α β : Type} {f : α → β} {xs : List α} {i : Int} {x : α} (h0 : 0 ≤ i) (h : xs[i.toNat]? = some x) : atI (xs.map f) i = some (f x) := by
  obtain ⟨n, rfl⟩ := Int.eq_ofNat_of_zero_le h0
  have hn : n < xs.length := by
    have := (List.getElem?_eq_some_iff.mp h).1
    simpa using this
  unfold atI ixN
  rw [if_pos h0, if_pos (by rw [List.length_map]; omega)]
  show (xs.map f)[(n : Int).toNat]? = _
  rw [List.getElem?_map, h]; rfl
end L2

set_option maxHeartbeats 2000000
/-! methods by their promises; tuples that have the same things in them -/
namespace L2
open PySem PySem.Spec PyProof.Rows
structure MeAt (P : Program) (w : World) (K : PySem.W.Frag) (mg : Str → Option Value) (base : Heap) (C : Addr) (k : Nat) (x : Str) (ps : List Str) (sp : Sp) : Prop where
  ex : ∃ f fd, FnOk P w K mg base CX0 k f fd ps sp ∧ Binds K fd ps [] ∧ Meth K C x f
structure MkAt (P : Program) (w : World) (K : PySem.W.Frag) (mg : Str → Option Value) (base : Heap) (C : Addr) (k : Nat) (ps : List Str) (sp : Sp) : Prop where
  ex : ∃ f fd, FnOk P w K mg base CX0 k f fd ps sp ∧ Binds K fd ps [] ∧ Mk K C f
section
variable {X : Cx} {k : Nat} {C : Addr} {m x : Str} {ps : List Str} {sp : Sp} {o e : Expr} {es : List Expr} {ta : TE} {t : TA} {p pos apos : Pos}
theorem pe_methF {pl : Sem Bool} (M : MeAt X.prog X.w X.K X.mg X.base C k m ps sp) (c : Cls X.K C) (hr : Room k X.A) (he : PE X o ta) (ha : PA X (e :: es) t)
    (hst : starEach (e :: es) X.env = (false, eval e X.env) :: starEach es X.env := by rfl) (hpl : (backTo pos (starEach es X.env)).any (·.1) = false := by rfl)
    (ht : eval (.Call (.Attribute o m apos) (e :: es) [] pos) X.env = (do
      let ov ← eval o X.env
      standAt apos.atName
      let (f, first) ← holding [ov] (getMethod ov m pl)
      callWith pos f first (backTo pos (starEach (e :: es) X.env)) (backToKw pos (keywordEach [] X.env))) := by rfl) :
    PE X (.Call (.Attribute o m apos) (e :: es) [] pos) (tMeth C m sp [] E0 ta t) := by
  obtain ⟨f, fd, G, b, M⟩ := M.ex
  exact pe_meth he c M G hr b .nil pass0 ha hst hpl ht
theorem pe_methF0 {pl : Sem Bool} (M : MeAt X.prog X.w X.K X.mg X.base C k m ps sp) (c : Cls X.K C) (hr : Room k X.A) (he : PE X o ta)
    (ht : eval (.Call (.Attribute o m apos) [] [] pos) X.env = (do
      let ov ← eval o X.env
      standAt apos.atName
      let (f, first) ← holding [ov] (getMethod ov m pl)
      callWith pos f first (backTo pos (starEach [] X.env)) (backToKw pos (keywordEach [] X.env))) := by rfl) :
    PE X (.Call (.Attribute o m apos) [] [] pos) (tMeth C m sp [] E0 ta tNil) := by
  obtain ⟨f, fd, G, b, M⟩ := M.ex
  exact pe_meth0 he c M G hr b .nil pass0 ht
theorem pe_makeF (M : MkAt X.prog X.w X.K X.mg X.base C k ps sp) (hr : Room (k + 1) X.A) (hm : X.mg x = some (.ref C)) (ha : PA X (e :: es) t) (hg : Gl X x := by rfl) (hdb : (x == ("__debug__" : Str)) = false := by decide)
    (he : starEach (e :: es) X.env = (false, eval e X.env) :: starEach es X.env := by rfl) (hpl : (backTo pos (starEach es X.env)).any (·.1) = false := by rfl) : PE X (.Call (.Name x p) (e :: es) [] pos) (tMake C sp [] E0 t) := by
  obtain ⟨f, fd, G, b, M⟩ := M.ex
  exact pe_make M G hr hg hm b .nil pass0 ha hdb he hpl
end
/-- a thing that equals itself -/
def smV : V → Bool
  | .ref _ => true
  | v => flatV v
theorem eq_sm {A : Around} {s : Shared} {v : V} {u1 u2 : Value} (h : smV v = true) (r1 : RelV v u1) (r2 : RelV v u2) : SeqAt.EqAt A s u1 u2 true := by
  cases v with
  | ref a =>
    cases r1
    cases r2
    exact SeqAt.EqAt.same _
  | non => exact eq_flatT (v := .non) rfl r1 r2
  | bl b => exact eq_flatT (v := .bl b) rfl r1 r2
  | int i => exact eq_flatT (v := .int i) rfl r1 r2
  | str x => exact eq_flatT (v := .str x) rfl r1 r2
  | _ => exact absurd h (by simp [smV, flatV])
theorem eqAt_sm {A : Around} {s : Shared} {xs : List V} {its jts : List Value} (hx : ∀ v ∈ xs, smV v = true) (r1 : Vals xs its) (r2 : Vals xs jts) (j : Nat) (h1 : j < its.toArray.size) (h2 : j < jts.toArray.size) : SeqAt.EqAt A s its.toArray[j] jts.toArray[j] true := by
  have hj1 : j < its.length := by simpa using h1
  have hj2 : j < jts.length := by simpa using h2
  have hj : j < xs.length := by rw [r1.length]; exact hj1
  obtain ⟨u1, hu1, ru1⟩ := r1.get (i := j) (x := xs[j]) (List.getElem?_eq_getElem hj)
  obtain ⟨u2, hu2, ru2⟩ := r2.get (i := j) (x := xs[j]) (List.getElem?_eq_getElem hj)
  have i1 : its.toArray[j] = u1 := by
    have := List.getElem?_eq_getElem hj1
    rw [hu1] at this
    simpa using (Option.some.inj this).symm
  have i2 : jts.toArray[j] = u2 := by
    have := List.getElem?_eq_getElem hj2
    rw [hu2] at this
    simpa using (Option.some.inj this).symm
  rw [i1, i2]
  exact eq_sm (hx _ (List.getElem_mem hj)) ru1 ru2
section
variable {X : Cx}
theorem all_true (n m : Nat) (h : n = m) : ((List.range (min n m)).all (fun _ => true) && n == m) = true := by
  subst h
  simp
theorem op_eqSm (hu : X.A.units + 1 < cLine) : OpR X (compareOp .Eq) (fun x y H Q => ∃ (a b : Addr) (xs : List V), x = .ref a ∧ y = .ref b ∧ SqT X.K H a xs ∧ SqT X.K H b xs ∧ (∀ v ∈ xs, smV v = true) ∧ Q (.bl true) H) := by
  intro pins s σ H x y v u Q I rx ry h
  obtain ⟨a, b, xs, rfl, rfl, ha, hb, hx, q⟩ := h
  cases rx
  cases ry
  obtain ⟨its, r1, p1, _⟩ := I.tuple ha
  obtain ⟨jts, r2, p2, _⟩ := I.tuple hb
  have := SeqAt.RcAt.tuples (A := X.A) (s := s) (e := fun _ => true) (show s.heap.IsTuple a its.toArray from p1) (show s.heap.IsTuple b jts.toArray from p2) (Nat.lt_of_succ_lt hu) (eqAt_sm hx r1 r2)
  rw [List.size_toArray, List.size_toArray, all_true _ _ (r1.length.symm.trans r2.length)] at this
  exact this _ _ _ _ (fin_bl I q rfl)
theorem op_neSm (hu : X.A.units + 1 < cLine) : OpR X (compareOp .NotEq) (fun x y H Q => ∃ (a b : Addr) (xs : List V), x = .ref a ∧ y = .ref b ∧ SqT X.K H a xs ∧ SqT X.K H b xs ∧ (∀ v ∈ xs, smV v = true) ∧ Q (.bl false) H) := by
  intro pins s σ H x y v u Q I rx ry h
  obtain ⟨a, b, xs, rfl, rfl, ha, hb, hx, q⟩ := h
  cases rx
  cases ry
  obtain ⟨its, r1, p1, _⟩ := I.tuple ha
  obtain ⟨jts, r2, p2, _⟩ := I.tuple hb
  have := SeqAt.RcNeAt.tuples (A := X.A) (s := s) (e := fun _ => true) (show s.heap.IsTuple a its.toArray from p1) (show s.heap.IsTuple b jts.toArray from p2) (Nat.lt_of_succ_lt hu) (eqAt_sm hx r1 r2)
  rw [List.size_toArray, List.size_toArray, all_true _ _ (r1.length.symm.trans r2.length)] at this
  exact this _ _ _ _ (fin_bl I q rfl)
/-- tuple(t) is t -/
theorem call_tupT : CallR X (.type "tuple") (fun xs H Q => ∃ p ys, xs = [.ref p] ∧ SqT X.K H p ys ∧ Q (.ref p) H) := by
  intro pins s σ H xs us Q I rv h
  obtain ⟨p, ys, rfl, hp, q⟩ := h
  obtain ⟨u, rfl, ru⟩ := rv.one
  cases ru
  obtain ⟨its, r, ht, _⟩ := I.tuple hp
  exact call_tuple_same (show s.heap.IsTuple p its.toArray from ht) ⟨.ref p, H, I, rfl, q⟩
end
end L2

set_option maxHeartbeats 2000000
/-! tuples walked from the end -/
namespace L2.RV
open PySem PySem.Spec PyProof.Rows
theorem owner_rv : Manifest.owners.lookup (String.ofList ['d', 'e', 's', 'r', 'e', 'v', 'e', 'r'].reverse) = some Manifest.sig_reversed := by kernel_rfl
theorem slot_next : Slot "reversed" "__next__" "reversed.__next__" :=
  .of (owner := "reversed") (n := "__next__") (by rw [typeLookup_type, builtinLookup_eq_fast]; kernel_rfl) (by decide +kernel) (by decide +kernel) (by decide +kernel)
    (by first | exact .inl (by decide +kernel) | exact .inr (by decide +kernel)) (by rw [isSubtype_type]; kernel_rfl)
theorem entry_next : entryFor table "reversed.__next__" = some Builtin.«reversed.__next__» := entryFor_of_tree (by kernel_rfl)
theorem args_next (a : Value) : argsOk "reversed.__next__" ⟨[a], []⟩ := by
  unfold argsOk; rw [signature?_of (id := "reversed.__next__") (n := ['_', '_', 't', 'x', 'e', 'n', '_', '_']) (o := ['d', 'e', 's', 'r', 'e', 'v', 'e', 'r']) (by kernel_rfl) owner_rv]; kernel_rfl
theorem slot_iter : Slot "reversed" "__iter__" "reversed.__iter__" :=
  .of (owner := "reversed") (n := "__iter__") (by rw [typeLookup_type, builtinLookup_eq_fast]; kernel_rfl) (by decide +kernel) (by decide +kernel) (by decide +kernel)
    (by first | exact .inl (by decide +kernel) | exact .inr (by decide +kernel)) (by rw [isSubtype_type]; kernel_rfl)
theorem args_iter (a : Value) : argsOk "reversed.__iter__" ⟨[a], []⟩ := by
  unfold argsOk; rw [signature?_of (id := "reversed.__iter__") (n := ['_', '_', 'r', 'e', 't', 'i', '_', '_']) (o := ['d', 'e', 's', 'r', 'e', 'v', 'e', 'r']) (by kernel_rfl) owner_rv]; kernel_rfl
theorem entry_iter : entryFor table "reversed.__iter__" = some Builtin.«dict_keyiterator.__iter__» :=
  entryFor_alias (id' := "dict_keyiterator.__iter__") (by kernel_rfl) (by first | rfl | decide +kernel | (unfold String.splitOn; simp +decide [String.splitOnAux])) (by decide +kernel) (by kernel_rfl)
theorem no_rev : typeLookup (.type "tuple") "__reversed__" = pure none := by rw [typeLookup_type, builtinLookup_eq_fast]; kernel_rfl
theorem sub_td : isSubtype (.type "tuple") (.type "dict") = pure false := by rw [isSubtype_type]; kernel_rfl
theorem slot_init : Slot "reversed" "__init__" "object.__init__" :=
  .of (owner := "object") (n := "__init__") (by rw [typeLookup_type, builtinLookup_eq_fast]; kernel_rfl) (by decide +kernel) (by decide +kernel) (by decide +kernel)
    (by first | exact .inl (by decide +kernel) | exact .inr (by decide +kernel)) (by rw [isSubtype_type]; kernel_rfl)
theorem called : TypeCalled "reversed" "reversed.__new__" "object.__init__" :=
  ⟨by decide +kernel, by decide +kernel, ⟨_, _, F.mro_reversed⟩, F.made_reversed, by decide +kernel, by rw [isSubtype_type]; kernel_rfl, slot_init⟩
theorem init_args (obj a : Value) : argsOk "object.__init__" ⟨[obj, a], []⟩ := by
  unfold argsOk; rw [signature?_of (id := "object.__init__") (n := ['_', '_', 't', 'i', 'n', 'i', '_', '_']) (o := ['t', 'c', 'e', 'j', 'b', 'o']) (by kernel_rfl) F.owner_object]; kernel_rfl
def rvObj (l : Addr) (i : Int) : Obj := { cls := .type "reversed", data := .fields #[.ref l, rawInt i] }
def IsRv (h : Heap) (a l : Addr) (i : Int) : Prop := ∃ o, h.get? a = some o ∧ o.cls = .type "reversed" ∧ o.data = .fields #[.ref l, rawInt i]
section
variable {prog : Program} {w : World} {A : Around} {E : Value → Shared → Prop} {s : Shared}
theorem IsRv.typeIs {a l : Addr} {i : Int} (x : IsRv s.heap a l i) : s.TypeIs (.ref a) "reversed" := let ⟨o, ho, hc, _⟩ := x; ⟨o, ho, hc⟩
theorem code_new {l : Addr} {items : Array Value} {Q₁ : Value → Shared → Prop} (hl : IsTup s.heap l items) (hfit : (items.size : Int) < 2 ^ 63)
    (h : ∀ t', Q₁ (.ref s.heap.objs.size) { s with heap := s.heap.push (rvObj l ((items.size : Int) - 1)), toks := t' }) :
    codeAny (model prog w) A (.call (.builtin "reversed.__new__") ⟨[.type "reversed", .ref l], []⟩) (wants Q₁ E) s := by
  refine codeAny_of_tree ?_
  show wpAny _ A.in1 (do checkBuiltinCall "reversed.__new__" ⟨[.type "reversed", .ref l], []⟩; again (.builtin "reversed.__new__" ⟨[.type "reversed", .ref l], []⟩)) _ _ s
  refine wpAny_bind (wpAny_of_eq (F.newCall_reversed_1 _) (wpAny_pure ⟨plainId_quiet F.plain_reversed_new _, codeAny_builtin F.entry_reversed_new ?_⟩))
  rw [Around.under_plainId F.plain_reversed_new _]
  unfold Builtin.«reversed.__new__»
  refine wpAny_bind (wpAny_of_eq (newClass_reversed _) ?_)
  try dsimp only
  refine wpAny_bind (wpAny_of_eq (a := ()) (by first | rfl | kernel_rfl) ?_)
  refine wpAny_bind (wpAny_of_eq (a := ()) (by first | rfl | kernel_rfl) ?_)
  try dsimp only
  refine wpAny_bind (wpAny_specialOf hl.typeIs no_rev ?_)
  try dsimp only
  refine wpAny_bind ?_
  refine wpAny_mono (Q := fun b s' => b = true ∧ s' = s) (?_ : wpAny _ _ (do
      if ← isInstance (Value.ref l) (.type "dict") then return false
      match ← specialOf (Value.ref l) "__getitem__" with
      | none => return false
      | some (.builtin id) =>
        if ["tuple.__getitem__", "str.__getitem__", "bytes.__getitem__", "bytearray.__getitem__", "memoryview.__getitem__", "numpy.ndarray.__getitem__", "sqlite3.Row.__getitem__"].contains id then return true
        if id == "sqlite3.Blob.__getitem__" then return false
        unsupported "reversed.__new__:is-it-a-sequence"
      | some _ => return true) _ _ s) ?_ (fun _ _ e => e)
  · refine wpAny_bind (wpAny_isInstance hl.typeIs sub_td ?_)
    show wpAny _ _ (specialOf (Value.ref l) "__getitem__" >>= _) _ _ s
    refine wpAny_bind (wpAny_specialOf hl.typeIs slot_tuple_getitem.lookup ?_)
    dsimp only
    rw [if_pos (by decide)]
    exact wpAny_pure ⟨rfl, rfl⟩
  · rintro b s' ⟨rfl, rfl⟩
    show wpAny _ _ (call (Value.builtin "len") [Value.ref l] >>= _) _ _ s'
    refine wpAny_bind (len_tuple hl hfit ?_)
    refine wpAny_bind (wpAny_of_eq (a := some (items.size : Int)) rfl ?_)
    dsimp only
    refine wpAny_bind (m := newObj (.type "reversed") (.fields #[.ref l, rawInt ((items.size : Int) - 1)])) (wpAny_newObj_type (wpAny_pure (h _)))
theorem callType_own {T newId : String} {args : List Value} {Q Q₁ : Value → Shared → Prop} (ft : TypeCalled T newId "object.__init__")
    (hne : (some newId != some "object.__new__") = true) (hct : checkTypeCall T ⟨args, []⟩ = pure ()) (hok : ∀ obj, argsOk "object.__init__" ⟨obj :: args, []⟩)
    (hnew : codeAny (model prog w) A.in1 (.call (.builtin newId) ⟨.type T :: args, []⟩) (wants Q₁ E) s) (hnext : ∀ obj s₁, Q₁ obj s₁ → s₁.TypeIs obj T ∧ Q obj s₁) : wpAny (model prog w) A (call (.type T) args) Q E s := by
  obtain ⟨c, tl, hmro⟩ := ft.mro
  have hmade := ft.made
  have hsub := ft.sub
  refine wpAny_call (codeAny_of_tree ?_)
  show wpAny _ _ (callAny (.type T) _) _ _ _
  refine wpAny_pure ⟨Code.quiet_builtin _ (by decide +kernel), codeAny_builtin F.entry_type_call ?_⟩
  rw [Around.under_plain (weight_type_call_type T args []) (units_type_call_type T args [])]
  have h1 := ft.notType
  have h2 := ft.canCreate
  repeat (any_goals (first | assumption | wp_step))
  refine codeAny_mono hnew fun r s₁ hr => ?_
  cases r with
  | error e => exact hr
  | ok fl =>
    cases fl with
    | ret obj =>
      obtain ⟨hT, hq⟩ := hnext _ _ hr
      have hli := ft.init.lookup
      have hbi := ft.init.bind obj
      repeat (any_goals (first | assumption | wp_step))
      refine codeAny_mono (codeAny_call_builtin ft.init.plain F.entry_object_init (ft.init.check _ _ _ _ _ _ _ _ hT (hok obj) (object_init_meets ft.init.lookup ft.made hne prog w A.in1 (wants (fun r s₂ => r = .none ∧ Q obj s₂) E) s₁ ⟨hT, rfl, hq⟩))) fun r₂ s₂ hr₂ => ?_
      cases r₂ with
      | error e => exact hr₂
      | ok fl₂ =>
        cases fl₂ with
        | ret r =>
          obtain ⟨rfl, hq⟩ := hr₂
          repeat (any_goals (first | assumption | wp_step))
        | _ => exact hr₂.elim
    | _ => exact hr.elim
theorem call_rev {l : Addr} {items : Array Value} {Q : Value → Shared → Prop} (hl : IsTup s.heap l items) (hfit : (items.size : Int) < 2 ^ 63)
    (h : ∀ t', Q (.ref s.heap.objs.size) { s with heap := s.heap.push (rvObj l ((items.size : Int) - 1)), toks := t' }) : wpAny (model prog w) A (call (.type "reversed") [.ref l]) Q E s := by
  refine callType_own (Q₁ := fun obj s₁ => obj = .ref s.heap.objs.size ∧ ∃ t', s₁ = { s with heap := s.heap.push (rvObj l ((items.size : Int) - 1)), toks := t' }) called (by decide) (F.typeCall_reversed_1 _) (fun obj => init_args obj _) (code_new hl hfit fun t' => ⟨rfl, t', rfl⟩) ?_
  rintro obj s₁ ⟨rfl, t', rfl⟩
  exact ⟨⟨_, Heap.get?_push_size _ rfl, rfl⟩, h t'⟩
theorem next_item {it l : Addr} {i : Nat} {items : Array Value} {x : Value} {Q : Option Value → Shared → Prop} (hit : IsRv s.heap it l (i : Int)) (hl : IsTup s.heap l items) (hx : items[i]? = some x) (hfit : (items.size : Int) < 2 ^ 63)
    (hQ : ∀ h' t', IsRv h' it l ((i : Int) - 1) → Heap.SameBut it s.heap h' → Q (some x) { s with heap := h', toks := t' }) : wpAny (model prog w) A (pyNext (.ref it)) Q E s := by
  obtain ⟨o, ho, hc, hd⟩ := id hit
  unfold pyNext
  refine wpAny_bind (wpAny_attempt (wpAny_callSpecial?_slot (name := Str.ofString "__next__") hit.typeIs slot_next
    (wpAny_call_entry slot_next hit.typeIs entry_next ?_ (args_next _))))
  unfold Builtin.«reversed.__next__»
  refine wpAny_bind (wpAny_of_eq (a := (Value.ref it, [])) rfl ?_)
  try dsimp only
  refine wpAny_bind (wpAny_field ho hd (x := .ref l) rfl ?_)
  refine wpAny_bind (wpAny_field ho hd (x := rawInt (i : Int)) rfl ?_)
  show wpAny _ _ (if (i : Int) < 0 then _ else _) _ _ s
  rw [if_neg (by omega)]
  show wpAny _ _ (specialOf (Value.ref l) "__getitem__" >>= _) _ _ s
  refine wpAny_bind (wpAny_specialOf hl.typeIs slot_tuple_getitem.lookup ?_)
  simp only [Option.isNone_some, Bool.false_eq_true, if_false]
  refine wpAny_bind (wpAny_mkInt ?_)
  have hi := (Array.getElem?_eq_some_iff.mp hx).1
  refine wpAny_bind (wpAny_attempt (getItem_tuple (x := x) (j := i) hl (by omega) (by omega) ?_ hx ?_))
  · unfold seqIndex?
    simp
    omega
  dsimp only
  refine wpAny_bind (wpAny_field ho hd (x := rawInt (i : Int)) rfl ?_)
  show wpAny _ _ (setField (Value.ref it) 1 (rawInt ((i : Int) - 1)) >>= _) _ _ _
  refine wpAny_bind (wpAny_setField ho hd (by simp) ?_)
  refine wpAny_pure ⟨x, rfl, wpAny_pure (hQ _ _ ?_ (Heap.SameBut.update ..))⟩
  exact ⟨_, Heap.get?_update_self _ ho (Obj.isFreed_of_fields (Obj.data_mapFields hd _)), (Obj.cls_mapFields ..).trans hc, by
    rw [Obj.data_mapFields hd]; simp⟩
theorem next_end {it l : Addr} {Q : Option Value → Shared → Prop} (hh : A.handled = none) (hit : IsRv s.heap it l (-1))
    (hQ : ∀ h' t', Heap.ExtBut it s.heap h' → Q none { s with heap := h', toks := t' }) : wpAny (model prog w) A (pyNext (.ref it)) Q E s := by
  obtain ⟨o, ho, hc, hd⟩ := id hit
  unfold pyNext
  refine wpAny_bind (wpAny_attempt (wpAny_callSpecial?_slot (name := Str.ofString "__next__") hit.typeIs slot_next
    (wpAny_call_entry slot_next hit.typeIs entry_next ?_ (args_next _))))
  unfold Builtin.«reversed.__next__»
  refine wpAny_bind (wpAny_of_eq (a := (Value.ref it, [])) rfl ?_)
  try dsimp only
  refine wpAny_bind (wpAny_field ho hd (x := .ref l) rfl ?_)
  refine wpAny_bind (wpAny_field ho hd (x := rawInt (-1)) rfl ?_)
  show wpAny _ _ (if (-1 : Int) < 0 then _ else _) _ _ s
  rw [if_pos (by decide)]
  refine wpAny_bind (wpAny_rule ?_)
  refine wpAny_bind (?_ : wpAny _ _ (do setField (Value.ref it) 1 (rawInt (-1)); setField (Value.ref it) 0 .none) _ _ s)
  refine wpAny_bind (wpAny_setField ho hd (by simp) ?_)
  have ho2 := Heap.get?_update_self _ ho (Obj.isFreed_of_fields (Obj.data_mapFields hd (fun xs => xs.set! 1 (rawInt (-1)))))
  have hd2 := Obj.data_mapFields hd (fun xs => xs.set! 1 (rawInt (-1)))
  refine wpAny_setField ho2 hd2 (by simp) ?_
  refine wpAny_bind ?_
  show wpAny _ _ (newExc (.type "StopIteration") [] >>= _) _ _ _
  refine wpAny_bind ?_
  simp only [newExc, newTuple]
  refine wpAny_bind (wpAny_newObj_type ?_ (by size_fits))
  refine wpAny_bind (m := firstArgMember _ _) (wpAny_of_eq (a := Value.none) (by first | rfl | (simp only [firstArgMember]; rfl)) ?_)
  refine wpAny_newObj_type ?_ (by size_fits)
  simp only [raiseNew]
  refine wpAny_bind (wpAny_handled ?_)
  first | rw [show A.in1.handled = none from hh] | rw [hh]
  refine wpAny_bind (wpAny_pure (wpAny_throw ?_))
  refine wpAny_bind (wpAny_isInstance (T := "StopIteration") (b := true) ⟨_, Heap.get?_push_size _ rfl, rfl⟩ isSubtype_stop ?_)
  refine wpAny_pure (hQ _ _ ?_)
  exact ((((Heap.SameBut.update s.heap it (Obj.mapFields fun xs => xs.set! 1 (rawInt (-1)))).trans (Heap.SameBut.update _ it _)).extBut).push _).push _
theorem iter_self {it l : Addr} {i : Int} {Q : Value → Shared → Prop} (hit : IsRv s.heap it l i) (h : Q (.ref it) s) : wpAny (model prog w) A (pyIter (.ref it)) Q E s := by
  refine wpAny_pyIter_slot hit.typeIs slot_iter (wpAny_call_entry slot_iter hit.typeIs entry_iter ?_ (args_iter _))
  show wpAny _ _ (ret (.ref it)) _ _ s
  exact wpAny_pure ⟨_, rfl, "reversed", _, hit.typeIs, slot_next.lookup, h⟩
end
end L2.RV
namespace L2
open PySem PySem.Spec PyProof.Rows
def TnV (K : PySem.W.Frag) (it a : Addr) (n : Nat) (i : Nat) (h : Heap) : Prop := i ≤ n ∧ RV.IsRv h it a ((n : Int) - 1 - (i : Int))
theorem turn_rev {P : Program} {w : World} {K : PySem.W.Frag} {tg : Expr} (a it : Addr) (n : Nat) : Turn P w K tg ⟨fun i H => ∃ xs x, SqT K H a xs ∧ xs.length = n ∧ xs.reverse[i]? = some x, fun i H v H' => H' = H ∧ ∀ xs, SqT K H a xs → xs.reverse[i]? = some v, fun i H => ∃ xs, SqT K H a xs ∧ xs.length = n ∧ n ≤ i⟩ [it] it (TnV K it a n) where
  mem := by simp
  obj := fun i h st b hb => by
    have e : b = it := by simpa using hb
    subst e
    obtain ⟨_, o, e, c, d⟩ := st
    exact ⟨o, e, fun v z => by rw [d] at z; cases z⟩
  keep := fun i h h' st k => by
    obtain ⟨h1, o, e, c, d⟩ := st
    exact ⟨h1, o, k it (by simp) o e, c, d⟩
  item := by
    intro X hP hw hK hc i pins s σ H E I hf st hg
    subst hP hw hK
    obtain ⟨xs, x, hq, hn, hx⟩ := hg
    obtain ⟨its, rv, p, hz⟩ := I.tuple hq
    have hl := rv.length
    have hi : i < n := by
      have := (List.getElem?_eq_some_iff.mp hx).1
      rw [List.length_reverse] at this
      omega
    have hx2 : xs[n - 1 - i]? = some x := by
      rw [List.getElem?_reverse (by omega), hn] at hx
      exact hx
    obtain ⟨u, hu, ru⟩ := rv.get hx2
    obtain ⟨f0, f1, f2, f3, f4, f5⟩ := hf it (by simp)
    obtain ⟨_, st⟩ := st
    have e : (n : Int) - 1 - (i : Int) = ((n - 1 - i : Nat) : Int) := by omega
    rw [e] at st
    have hs16 : sizeLine = 16777216 := sizeLine_eq
    refine RV.next_item (x := u) (items := its.toArray) st p (by simpa using hu) (by rw [List.size_toArray]; omega) fun h' t' st' sb => ?_
    have I1 : Inv X pins σ H { s with heap := h', toks := t' } := I.turned (t' := t') (fun b o hb e => (sb.2 b hb).trans e) f0 f1 f3 f4 f5
    obtain ⟨o, e1, c, d⟩ := id st'
    have e2 : ((n - 1 - i : Nat) : Int) - 1 = (n : Int) - 1 - ((i + 1 : Nat) : Int) := by omega
    rw [e2] at st'
    exact ⟨u, rfl, go_of (s := { s with heap := h', toks := t' }) e1 c d (by decide) ⟨x, H, I1, ru, ⟨rfl, fun ys hy => by rw [I.tuple_inj hy hq]; exact hx⟩, ⟨hi, st'⟩, fun b hb => (hf b hb).1⟩⟩
  done := by
    intro X hP hw hK hc i pins s σ H E I hf st hg
    subst hP hw hK
    obtain ⟨xs, hq, hn, hx⟩ := hg
    obtain ⟨f0, f1, f2, f3, f4, f5⟩ := hf it (by simp)
    obtain ⟨h1, st⟩ := st
    have e : (n : Int) - 1 - (i : Int) = -1 := by omega
    rw [e] at st
    exact RV.next_end (I.ok.hd hc) st fun h' t' eb => ⟨rfl, I.turned (t' := t') (fun b o hb e => eb b o hb e) f0 f1 f3 f4 f5⟩
  self := fun _ _ _ _ _ st h => RV.iter_self st.2 h
end L2
namespace L2
open PySem PySem.Spec PyProof.Rows
section
variable {X : Cx} {tg : Expr}
def Itv2 (K : PySem.W.Frag) (a : Addr) (n : Nat) : It := ⟨fun i H => ∃ xs x, SqT K H a xs ∧ xs.length = n ∧ xs.reverse[i]? = some x, fun i H v H' => H' = H ∧ ∀ xs, SqT K H a xs → xs.reverse[i]? = some v, fun i H => ∃ xs, SqT K H a xs ∧ xs.length = n ∧ n ≤ i⟩
def iRev (K : PySem.W.Frag) (ta : TA) : TI := fun σ H R => ta σ H fun vs H1 => ∃ a xs, vs = [.ref a] ∧ SqT K H1 a xs ∧ R (Itv2 K a xs.length) H1
theorem pi_revT {e : Expr} {ta : TA} {p pos : Pos} (hg : Gl X "reversed") (hm : X.mg "reversed" = none) (ha : PA X [e] ta) (hs : starEach [e] X.env = [(false, eval e X.env)] := by rfl) : PI X tg (.Call (.Name "reversed" p) [e] [] pos) (iRev X.K ta) := by
  intro pins s σ H R I h
  refine Call_ (ld_blt I hg hm boot_reversed (PyProof.Rows.callWith_type1 (thn (ha pos pins s σ H _ I h) fun us s1 ⟨vs, H1, I1, r1, q1⟩ => ?_) hs rfl))
  obtain ⟨a, xs, e, hq, q⟩ := q1
  subst e
  cases r1 with
  | cons r rr =>
    cases rr
    cases r
    obtain ⟨its, rv, ht, hz⟩ := I1.tuple hq
    have hl := rv.length
    have hs16 : sizeLine = 16777216 := sizeLine_eq
    refine RV.call_rev (items := its.toArray) ht (by rw [List.size_toArray]; omega) fun t' => ?_
    have I2 : Inv X pins σ H1 { s1 with heap := s1.heap.push (RV.rvObj a ((its.toArray.size : Int) - 1)), toks := t' } := I1.kept fun b o e => Heap.get?_push_of_some _ e
    have hrv : RV.IsRv (s1.heap.push (RV.rvObj a ((its.toArray.size : Int) - 1))) s1.heap.objs.size a ((its.toArray.size : Int) - 1) := ⟨_, Heap.get?_push_size _ rfl, rfl, rfl⟩
    refine RV.iter_self (s := { s1 with heap := s1.heap.push (RV.rvObj a ((its.toArray.size : Int) - 1)), toks := t' }) hrv ?_
    refine ⟨s1.heap.objs.size, [s1.heap.objs.size], _, _, H1, rfl, I2, turn_rev a _ xs.length, ⟨Nat.zero_le _, ?_⟩, fun b hb => ?_, q⟩
    · rw [List.size_toArray, ← hl] at hrv
      have e : (xs.length : Int) - 1 - ((0 : Nat) : Int) = (xs.length : Int) - 1 := by omega
      rw [e]
      rw [List.size_toArray, ← hl]
      exact hrv
    · have e : b = s1.heap.objs.size := by simpa using hb
      subst e
      exact I1.fpOk (Nat.le_refl _) (I1.hok.fresh (Nat.le_refl _))
theorem for_rev {K : PySem.W.Frag} {a : Addr} {xs : List V} {g : TG} {tb : TS} {D : Ends} {σ : St} {H : Hp} (Pv : Nat → St → Hp → Prop) (h0 : Pv 0 σ H) (hl : ∀ i σ H, i ≤ xs.length → Pv i σ H → SqT K H a xs)
    (hs : ∀ i x σ H, xs.reverse[i]? = some x → Pv i σ H → g x σ H fun σ2 H2 => tb { D with nx := Pv (i + 1), ct := Pv (i + 1), bk := D.nx } σ2 H2) (hd : ∀ σ H, Pv xs.length σ H → D.nx σ H) :
    ∃ W : Nat → Nat → St → Hp → Prop, (∃ m, W 0 m σ H) ∧ ∀ i m σ H, W i m σ H →
      ((Itv2 K a xs.length).stop i H ∧ D.nx σ H) ∨ ((Itv2 K a xs.length).go i H ∧ ∃ N : St → Hp → Prop, (∀ σ' H', N σ' H' → ∃ m', m' < m ∧ W (i + 1) m' σ' H') ∧ ∀ x H', (Itv2 K a xs.length).yld i H x H' → g x σ H' fun σ2 H2 => tb { D with nx := N, ct := N, bk := D.nx } σ2 H2) := by
  refine ⟨fun i m σ H => m = xs.length - i ∧ i ≤ xs.length ∧ Pv i σ H, ⟨xs.length, by simp, Nat.zero_le _, h0⟩, ?_⟩
  rintro i m σ H ⟨rfl, hi, p⟩
  have q := hl i σ H hi p
  by_cases hlt : i < xs.length
  · refine .inr ⟨⟨xs, xs.reverse[i]'(by rw [List.length_reverse]; exact hlt), q, rfl, List.getElem?_eq_getElem _⟩, Pv (i + 1), fun σ' H' p' => ⟨xs.length - (i + 1), by omega, rfl, hlt, p'⟩, fun x H' y => ?_⟩
    obtain ⟨e, y⟩ := y
    subst e
    exact hs i x σ _ (y xs q) p
  · have e : i = xs.length := by omega
    subst e
    exact .inl ⟨⟨xs, q, rfl, Nat.le_refl _⟩, hd σ H p⟩
end
/-! a list cut by steps -/
end L2

set_option maxHeartbeats 2000000
/-! two tuples walked together -/
namespace L2.ZT
open PySem PySem.Spec PyProof.Rows
section
variable {prog : Program} {w : World} {A : Around} {E : Value → Shared → Prop} {s : Shared}
theorem step_item {q tp : Addr} {j : Nat} {us : Array Value} {y : Value} {R : Value → Shared → Prop} (hq : s.heap.IsTupleIter q tp j) (htp : s.heap.IsTuple tp us) (hy : us[j]? = some y)
    (hR : ∀ g, g.IsTupleIter q tp (j + 1) → Heap.SameBut q s.heap g → R y { s with heap := g }) : wpAny (model prog w) A (Builtin.SmallTypes.nextOf (.ref q)) R E s := by
  obtain ⟨oq, eq1, cq, dq⟩ := id hq
  obtain ⟨ot, et, _, nt, dt⟩ := htp
  unfold Builtin.SmallTypes.nextOf
  refine wpAny_bind (wpAny_callSpecial?_slot (name := Str.ofString "__next__") hq.typeIs F.slot_tuple_iterator_next (wpAny_call_entry F.slot_tuple_iterator_next hq.typeIs F.entry_tuple_iterator_next ?_ (F.args_tuple_iterator_next_1 _)))
  show wpAny _ _ (field (.ref q) 0 >>= _) _ _ s
  refine wpAny_bind (wpAny_field eq1 dq (x := .ref tp) rfl ?_)
  show wpAny _ _ (if (Value.ref tp == Value.none) = true then _ else _) _ _ s
  rw [if_neg (show ¬ ((Value.ref tp == Value.none) = true) from Bool.false_ne_true)]
  show wpAny _ _ (field (.ref q) 1 >>= _) _ _ s
  refine wpAny_bind (wpAny_field eq1 dq (x := .int j 0) rfl ?_)
  show wpAny _ _ (seqItems? (.ref tp) >>= _) _ _ s
  refine wpAny_bind (wpAny_seqItems et dt ?_)
  simp only [Int.toNat_natCast, hy]
  refine wpAny_bind (wpAny_setField eq1 dq (by simp) (wpAny_pure ⟨y, rfl, wpAny_pure (hR _ ?_ (Heap.SameBut.update ..))⟩))
  exact ⟨_, Heap.get?_update_self _ eq1 (Obj.isFreed_of_fields (Obj.data_mapFields dq _)), (Obj.cls_mapFields ..).trans cq, by rw [Obj.data_mapFields dq]; simp [rawInt]⟩
theorem step_end {q tp : Addr} {j : Nat} {us : Array Value} {R : Value → Shared → Prop} (nh : A.handled = none) (hq : s.heap.IsTupleIter q tp j) (htp : s.heap.IsTuple tp us) (hy : us[j]? = none)
    (hX : ∀ g e, Heap.ExtBut q s.heap g → (∃ o, g.get? e = some o ∧ o.cls = .type "StopIteration") → E (.ref e) { s with heap := g }) : wpAny (model prog w) A (Builtin.SmallTypes.nextOf (.ref q)) R E s := by
  obtain ⟨oq, eq1, cq, dq⟩ := id hq
  obtain ⟨ot, et, _, nt, dt⟩ := htp
  unfold Builtin.SmallTypes.nextOf
  refine wpAny_bind (wpAny_callSpecial?_slot (name := Str.ofString "__next__") hq.typeIs F.slot_tuple_iterator_next (wpAny_call_entry F.slot_tuple_iterator_next hq.typeIs F.entry_tuple_iterator_next ?_ (F.args_tuple_iterator_next_1 _)))
  show wpAny _ _ (field (.ref q) 0 >>= _) _ _ s
  refine wpAny_bind (wpAny_field eq1 dq (x := .ref tp) rfl ?_)
  show wpAny _ _ (if (Value.ref tp == Value.none) = true then _ else _) _ _ s
  rw [if_neg (show ¬ ((Value.ref tp == Value.none) = true) from Bool.false_ne_true)]
  show wpAny _ _ (field (.ref q) 1 >>= _) _ _ s
  refine wpAny_bind (wpAny_field eq1 dq (x := .int j 0) rfl ?_)
  show wpAny _ _ (seqItems? (.ref tp) >>= _) _ _ s
  refine wpAny_bind (wpAny_seqItems et dt ?_)
  simp only [Int.toNat_natCast, hy]
  refine wpAny_bind (wpAny_rule (wpAny_bind (wpAny_setField eq1 dq (by simp) (wpAny_bind (m := newExc (.type "StopIteration") []) ?_))))
  simp only [newExc, newTuple]
  refine wpAny_bind (wpAny_newObj_type (wpAny_bind (m := firstArgMember _ _) (wpAny_of_eq (a := Value.none) (by first | rfl | (simp only [firstArgMember]; rfl)) (wpAny_newObj_type ?_ (by size_fits)))) (by size_fits))
  simp only [raiseNew]
  refine wpAny_bind (wpAny_handled ?_)
  rw [show A.in1.handled = none from nh]
  exact wpAny_bind (wpAny_pure (wpAny_throw (hX _ _ (((Heap.SameBut.update ..).extBut.push _).push _) ⟨_, Heap.get?_push_size _ rfl, rfl⟩)))
section
variable {z TI TO p r a b : Addr} {us vs : Array Value} {o1 o2 : Value} {m n : Nat}
end
end
end L2.ZT
namespace L2
open PySem PySem.Spec PyProof.Rows
section
variable {X : Cx}
end
end L2

set_option maxHeartbeats 4000000
/-! enumerate(a tuple, start=n) -/
namespace L2.EK
open PySem PySem.Spec PyProof.Rows
theorem typeOk (a v : Value) : checkTypeCall "enumerate" ⟨[a], [("start", v)]⟩ = pure () := by kernel_rfl
theorem newOk (a v : Value) : checkBuiltinCall "enumerate.__new__" ⟨[.type "enumerate", a], [("start", v)]⟩ = pure () := by kernel_rfl
theorem initOk (o a v : Value) : argsOk "object.__init__" ⟨[o, a], [("start", v)]⟩ := by
  unfold argsOk; rw [signature?_of (id := "object.__init__") (n := ['_', '_', 't', 'i', 'n', 'i', '_', '_']) (o := ['t', 'c', 'e', 'j', 'b', 'o']) (by kernel_rfl) F.owner_object]; kernel_rfl
theorem initMeets {self a v : Value} (hl : typeLookup (.type "enumerate") "__init__" = pure (some (.builtin "object.__init__"))) (hm : Bind.madeBy (.type "enumerate") = pure (some "enumerate.__new__")) :
    Meets (Builtin.«object.__init__» ⟨[self, a], [("start", v)]⟩) (fun _ R s => s.TypeIs self "enumerate" ∧ R (.ok (.ret .none)) s) := by
  refine Meets.of_wp fun prog w A R s hs => ?_
  obtain ⟨hT, hq⟩ := hs
  have hne : (some "enumerate.__new__" != some "object.__new__") = true := by decide
  repeat (any_goals (first | assumption | wp_step))
  exact ⟨_, rfl, hq⟩
abbrev eObj (it : Addr) (f0 : Value) (i : Int) (gv old : Value) : Obj := { cls := .type "enumerate", dict := none, data := .fields #[f0, .bool false, .ref it, rawInt i, gv, old], slots := #[] }
abbrev h1 (h : Heap) (l : Addr) : Heap := h.push { cls := .type "tuple_iterator", data := .fields #[.ref l, .int 0 0] }
theorem newMeets (l : Addr) (us : Array Value) (n : Int) (t : Tok) :
    Meets (Builtin.«enumerate.__new__» ⟨[.type "enumerate", .ref l], [("start", .int n t)]⟩) (fun _ R s => s.heap.IsTuple l us ∧ ∀ gv : Value, (gv = .none ∨ gv = .int n t) → R (.ok (.ret (.ref (h1 s.heap l).objs.size))) { s with heap := (h1 s.heap l).push (eObj s.heap.objs.size .none n gv .none) }) :=
  .of_wp fun prog w A R s h => by
    obtain ⟨hp, gs, dr, tk, os⟩ := s
    obtain ⟨hl, h⟩ := h
    have hsub := sub_enumerate
    have hL : Heap.IsTuple (Shared.heap ⟨hp, gs, dr, tk, os⟩) l us := hl
    wp_walk
    refine wpAny_stack_any fun st => wpAny_pure ?_
    have fin1 := h .none (.inl rfl)
    have fin2 := h (.int n t) (.inr rfl)
    split
    · rename_i c _ _ _ _ _
      cases (c == Value.type "enumerate") <;> cases hf : Builtin.SmallTypes.fitsIndex n
      all_goals (wp_walk using wpAny_pyIter_tuple hL)
      all_goals first | exact ⟨_, rfl, fin1⟩ | exact ⟨_, rfl, fin2⟩
    · cases hf : Builtin.SmallTypes.fitsIndex n
      all_goals (wp_walk using wpAny_pyIter_tuple hL)
      all_goals first | exact ⟨_, rfl, fin1⟩ | exact ⟨_, rfl, fin2⟩
end L2.EK

set_option maxHeartbeats 4000000
namespace L2.EK
open PySem PySem.Spec PyProof.Rows
section
variable {prog : Program} {w : World} {A : Around} {E : Value → Shared → Prop} {s : Shared}
theorem call_K {l : Addr} {us : Array Value} {n : Int} {t : Tok} {R : Value → Shared → Prop} (hl : s.heap.IsTuple l us)
    (h : ∀ (g : Heap) (gv : Value), (gv = .none ∨ gv = .int n t) → g.get? (s.heap.objs.size + 1) = some (eObj s.heap.objs.size .none n gv .none) → g.IsTupleIter s.heap.objs.size l 0 → (∀ c o, s.heap.get? c = some o → g.get? c = some o) → R (.ref (s.heap.objs.size + 1)) { s with heap := g }) :
    wpAny (model prog w) A (call (.type "enumerate") [.ref l] [("start", .int n t)]) R E s := by
  obtain ⟨c0, tl0, mro0⟩ := F.called_enumerate.mro
  have made0 := F.called_enumerate.made
  have sub0 := F.called_enumerate.sub
  refine wpAny_call (codeAny_of_tree ?_)
  show wpAny _ _ (callAny (.type "enumerate") _) _ _ _
  refine wpAny_pure ⟨Code.quiet_builtin _ (by decide +kernel), codeAny_builtin F.entry_type_call ?_⟩
  rw [Around.under_plain (weight_type_call_type "enumerate" [.ref l] [("start", .int n t)]) rfl]
  have a1 := F.called_enumerate.notType
  have a2 := F.called_enumerate.canCreate
  have a3 := typeOk (.ref l) (.int n t)
  repeat (any_goals (first | assumption | wp_step))
  refine codeAny_mono (codeAny_call_builtin F.called_enumerate.plain F.entry_enumerate_new (wpAny_of_eq (newOk _ _) (newMeets l us n t prog w A.in1 (wants (fun obj s₁ => ∃ (gv : Value), (gv = .none ∨ gv = .int n t) ∧ obj = .ref (s.heap.objs.size + 1) ∧ s₁ = { s with heap := (h1 s.heap l).push (eObj s.heap.objs.size .none n gv .none) }) E) s ⟨hl, fun gv hg => ⟨gv, hg, by rw [Heap.size_push], rfl⟩⟩))) fun r s₁ hr => ?_
  cases r with
  | error e => exact hr
  | ok fl =>
    cases fl with
    | ret obj =>
      obtain ⟨gv, hg, rfl, rfl⟩ := hr
      have sz : (h1 s.heap l).objs.size = s.heap.objs.size + 1 := Heap.size_push ..
      have e1 : ((h1 s.heap l).push (eObj s.heap.objs.size .none n gv .none)).get? (s.heap.objs.size + 1) = some (eObj s.heap.objs.size .none n gv .none) := by
        have := Heap.get?_push_size (h1 s.heap l) (o := eObj s.heap.objs.size .none n gv .none) rfl
        rwa [sz] at this
      have hT : Shared.TypeIs { s with heap := (h1 s.heap l).push (eObj s.heap.objs.size .none n gv .none) } (.ref (s.heap.objs.size + 1)) "enumerate" := ⟨_, e1, rfl⟩
      have b1 := F.called_enumerate.init.lookup
      have b2 := F.called_enumerate.init.bind (.ref (s.heap.objs.size + 1))
      repeat (any_goals (first | assumption | wp_step))
      refine codeAny_mono (codeAny_call_builtin F.called_enumerate.init.plain F.entry_object_init (F.called_enumerate.init.check _ _ _ _ _ _ _ _ hT (initOk _ _ _) (initMeets b1 made0 prog w A.in1 (wants (fun r s₂ => r = .none ∧ s₂ = { s with heap := (h1 s.heap l).push (eObj s.heap.objs.size .none n gv .none) }) E) _ ⟨hT, rfl, rfl⟩))) fun r₂ s₂ hr₂ => ?_
      cases r₂ with
      | error e => exact hr₂
      | ok fl₂ =>
        cases fl₂ with
        | ret r =>
          obtain ⟨rfl, rfl⟩ := hr₂
          have fin := h _ gv hg e1 ⟨_, Heap.get?_push_of_some _ (Heap.get?_push_size _ rfl), rfl, rfl⟩ fun c o x => Heap.get?_push_of_some _ (Heap.get?_push_of_some _ x)
          repeat (any_goals (first | assumption | wp_step))
        | _ => exact hr₂.elim
    | _ => exact hr.elim
theorem jp_split {jp : Value → Sem Fin} {Q : Fin → Shared → Prop} {gv : Value} {z : Int} {h : Heap} {gs : Array GenState} {dr : Drawn} {tk0 : Nat} {os : OsState} (hgv : gv = .none ∨ ∃ t, gv = .int z t)
    (key : ∀ (tv : Tok) (tk : Nat), wpAny (model prog w) A (jp (.int z tv)) Q E ⟨h, gs, dr, tk, os⟩) : wpAny (model prog w) A (if (gv == Value.none) = true then mkInt z >>= jp else pure gv >>= jp) Q E ⟨h, gs, dr, tk0, os⟩ := by
  rcases hgv with rfl | ⟨t, rfl⟩
  · rw [if_pos (show (Value.none == Value.none) = true from rfl)]
    exact wpAny_bind (wpAny_mkInt (key _ _))
  · rw [if_neg (show ¬ ((Value.int z t == Value.none) = true) from Bool.false_ne_true)]
    exact wpAny_bind (wpAny_pure (key _ _))
theorem next_item {e it l : Addr} {z : Int} {i : Nat} {us : Array Value} {x gv old : Value} {R : Value → Shared → Prop} (he : s.heap.get? e = some (eObj it .none z gv old)) (hgv : gv = .none ∨ ∃ t, gv = .int z t)
    (hit : s.heap.IsTupleIter it l i) (hl : s.heap.IsTuple l us) (hx : us[i]? = some x) (ne : e ≠ it)
    (hR : ∀ (g : Heap) (tk : Nat) (tv : Tok), IsEnumOut g e it (z + 1) x s.heap.objs.size → g.IsTupleIter it l (i + 1) → g.get? s.heap.objs.size = some { cls := .type "tuple", data := .seq #[.int z tv, x] } →
      (∀ b o, b ≠ e → b ≠ it → s.heap.get? b = some o → g.get? b = some o) → R (.ref s.heap.objs.size) { s with heap := g, toks := tk }) :
    wpAny (model prog w) A (Builtin.«enumerate.__next__» ⟨[.ref e], []⟩) (fun fin s' => ∃ v, fin = .done (.ret v) ∧ R v s') E s := by
  obtain ⟨hp, gs, dr, tk0, os⟩ := s
  show wpAny _ _ (field (.ref e) 2 >>= _) _ _ _
  refine wpAny_bind (wpAny_field he rfl (x := .ref it) rfl (wpAny_bind (ZT.step_item hit hl hx fun g1 it1 k1 => ?_)))
  have k1 : Heap.SameBut it hp g1 := k1
  have e1 : g1.get? e = some (eObj it .none z gv old) := (k1.2 e ne).trans he
  show wpAny _ _ (field (.ref e) 3 >>= _) _ _ ⟨g1, gs, dr, tk0, os⟩
  refine wpAny_bind (wpAny_field e1 rfl (x := rawInt z) rfl ?_)
  show wpAny _ _ (field (.ref e) 4 >>= _) _ _ ⟨g1, gs, dr, tk0, os⟩
  refine wpAny_bind (wpAny_field e1 rfl (x := gv) rfl ?_)
  refine jp_split hgv fun tv tk => ?_
  show wpAny _ _ (setField (.ref e) 3 (rawInt (z + 1)) >>= _) _ _ ⟨g1, gs, dr, tk, os⟩
  refine wpAny_bind (wpAny_setField_rec e1 (by simp) fun g2 e2 k2 => ?_)
  have k2 : Heap.SameBut e g1 g2 := k2
  have e2 : g2.get? e = some (eObj it .none (z + 1) gv old) := e2
  show wpAny _ _ (setField (.ref e) 4 .none >>= _) _ _ ⟨g2, gs, dr, tk, os⟩
  refine wpAny_bind (wpAny_setField_rec e2 (by simp) fun g3 e3 k3 => ?_)
  have k3 : Heap.SameBut e g2 g3 := k3
  have e3 : IsEnum g3 e it (z + 1) old := e3
  show wpAny _ _ (newTuple [.int z tv, x] >>= _) _ _ ⟨g3, gs, dr, tk, os⟩
  refine wpAny_bind (wpAny_newTuple ?_)
  have e4 : IsEnum (g3.push { cls := .type "tuple", data := .seq #[.int z tv, x] }) e it (z + 1) old := Heap.get?_push_of_some _ e3
  generalize hg4 : g3.push { cls := .type "tuple", data := .seq #[.int z tv, x] } = g4 at e4
  have sz : g3.objs.size = hp.objs.size := by rw [k3.1, k2.1, k1.1]
  have el : e < hp.objs.size := Heap.lt_size he
  have t4 : g4.get? hp.objs.size = some { cls := .type "tuple", data := .seq #[.int z tv, x] } := by rw [← hg4, ← sz]; exact Heap.get?_push_size _ rfl
  have k4 : ∀ b o, b ≠ e → b ≠ it → hp.get? b = some o → g4.get? b = some o := fun b o n1 n2 q => by
    rw [← hg4]; exact Heap.get?_push_of_some _ (k3.extBut b o n1 (k2.extBut b o n1 (k1.extBut b o n2 q)))
  have i4 : g4.IsTupleIter it l (i + 1) := by
    rw [← hg4]; obtain ⟨o, ho, r⟩ := (it1.extBut k2.extBut (Ne.symm ne)).extBut k3.extBut (Ne.symm ne); exact ⟨o, Heap.get?_push_of_some _ ho, r⟩
  show wpAny _ _ (Builtin.SmallTypes.ownedTupleIsFree (.ref e) >>= _) _ _ ⟨g4, gs, dr, tk, os⟩
  rw [sz]
  unfold Builtin.SmallTypes.ownedTupleIsFree
  refine wpAny_bind (wpAny_bind (wpAny_field e4 rfl (x := .none) rfl (wpAny_pure ?_)))
  simp only [if_true]
  refine wpAny_bind (wpAny_rule (wpAny_bind (wpAny_field e4 rfl (x := old) rfl (wpAny_bind (wpAny_setField_rec e4 (by simp) fun g5 e5 k5 => ?_)))))
  have k5 : Heap.SameBut e g4 g5 := k5
  have e5 : IsEnum g5 e it (z + 1) x := e5
  show wpAny _ _ (Builtin.SmallTypes.ownedTupleHandOut (.ref e) (.ref hp.objs.size) >>= _) _ _ ⟨g5, gs, dr, tk, os⟩
  unfold Builtin.SmallTypes.ownedTupleHandOut
  refine wpAny_bind (wpAny_bind (wpAny_setField_rec e5 (by simp) fun g6 e6 k6 => ?_))
  have k6 : Heap.SameBut e g5 g6 := k6
  have e6 : IsEnumOut g6 e it (z + 1) x hp.objs.size := e6
  refine wpAny_setField_rec e6 (by simp) fun g7 e7 k7 => ?_
  have k7 : Heap.SameBut e g6 g7 := k7
  have e7 : IsEnumOut g7 e it (z + 1) x hp.objs.size := e7
  refine wpAny_bind (wpAny_letGo (wpAny_pure ⟨_, rfl, hR g7 tk tv e7 ?_ ?_ ?_⟩))
  · exact ((i4.extBut k5.extBut (Ne.symm ne)).extBut k6.extBut (Ne.symm ne)).extBut k7.extBut (Ne.symm ne)
  · exact k7.extBut _ _ (Nat.ne_of_gt el) (k6.extBut _ _ (Nat.ne_of_gt el) (k5.extBut _ _ (Nat.ne_of_gt el) t4))
  · exact fun b o n1 n2 q => k7.extBut b o n1 (k6.extBut b o n1 (k5.extBut b o n1 (k4 b o n1 n2 q)))
end
end L2.EK
namespace L2
open PySem PySem.Spec PyProof.Rows
/-- a tuple walked with numbers from n on -/
def ItK (K : PySem.W.Frag) (n : Int) (l : Addr) : It :=
  ⟨fun i H => ∃ xs x, SqT K H l xs ∧ xs[i]? = some x, fun i H v H' => ∃ p, v = .ref p ∧ H p = none ∧ ∀ xs, SqT K H l xs → ∃ x, xs[i]? = some x ∧ H' = upd H p (.tup [.int (n + i), x]), fun i H => ∃ xs, SqT K H l xs ∧ i = xs.length⟩
def TnK (n : Int) (e it l : Addr) (i : Nat) (h : Heap) : Prop := (∃ gv old, (gv = Value.none ∨ ∃ t, gv = .int (n + i) t) ∧ h.get? e = some (EK.eObj it .none (n + i) gv old)) ∧ h.IsTupleIter it l i
theorem turn_enumK {P : Program} {w : World} {K : PySem.W.Frag} {elts : List Expr} {k : Nat} {pos : Pos} {n : Int} {e it l : Addr} (a1 : e ≠ it) : Turn P w K (.Tuple elts k pos) (ItK K n l) [e, it] e (TnK n e it l) where
  mem := by simp
  obj := fun i h st b hb => by
    obtain ⟨⟨gv, old, _, h1⟩, h2⟩ := st
    simp only [List.mem_cons, List.not_mem_nil, or_false] at hb
    rcases hb with rfl | rfl
    · exact ⟨_, h1, fun v e => by cases e⟩
    · obtain ⟨o, e, c, d⟩ := h2
      exact ⟨o, e, fun v z => by rw [d] at z; cases z⟩
  keep := fun i h h' st kk => by
    obtain ⟨⟨gv, old, hg, h1⟩, h2⟩ := st
    exact ⟨⟨gv, old, hg, kk _ (by simp) _ h1⟩, h2.at fun o e => kk _ (by simp) o e⟩
  item := by
    intro X hP hw hK hc i pins s σ H E I hf st hg
    subst hP hw hK
    obtain ⟨xs, x, hx, ex⟩ := hg
    obtain ⟨its, rv, p, hz⟩ := I.tuple hx
    obtain ⟨u, hu, ru⟩ := rv.get ex
    obtain ⟨⟨gv, old, hgv, st1⟩, st2⟩ := st
    have hT : s.TypeIs (.ref e) "enumerate" := ⟨_, st1, rfl⟩
    unfold pyNext
    refine wpAny_bind (wpAny_attempt (wpAny_callSpecial?_slot (name := Str.ofString "__next__") hT F.slot_enumerate_next (wpAny_call_entry F.slot_enumerate_next hT F.entry_enumerate_next
      (EK.next_item st1 hgv st2 (show s.heap.IsTuple l its.toArray from p) (x := u) (by simpa using hu) a1 fun g tk tv z1 z2 z3 kk => wpAny_pure ?_) (F.args_enumerate_next_1 _))))
    refine ⟨_, rfl, wpAny_letOwnedTupleGo_enum z1 fun g' zz sb => ?_⟩
    have up : ∀ c o, c ≠ e → g.get? c = some o → g'.get? c = some o := fun c o n e => sb.extBut _ _ n e
    have nT : s.heap.objs.size ≠ e := Nat.ne_of_gt (Heap.lt_size st1)
    have hTup : IsTup g' s.heap.objs.size [Value.int (n + i) tv, u].toArray := ⟨_, up _ _ nT z3, rfl, _, rfl⟩
    have kk2 : ∀ b o, b ∉ ([e, it] : List Addr) → s.heap.get? b = some o → g'.get? b = some o := fun b o hb q => by
      simp only [List.mem_cons, List.not_mem_nil, or_false, not_or] at hb
      exact up _ _ hb.1 (kk b o hb.1 hb.2 q)
    have I1 := I.turnedT (h' := g') (t' := tk) (T := s.heap.objs.size) (xs := [.int (n + i), x]) (us := [Value.int (n + i) tv, u]) (ch := [e, it]) kk2 hf (Nat.le_refl _) (by show 2 ≤ sizeLine; decide) (.cons ⟨tv, rfl⟩ (.cons ru .nil)) hTup
    have en : n + (i : Int) + 1 = n + ((i + 1 : Nat) : Int) := by omega
    rw [en] at zz
    refine ⟨.ref s.heap.objs.size, _, I1, rfl, ⟨_, rfl, I.hok.fresh (Nat.le_refl _), fun xs' hx' => ⟨x, ?_, rfl⟩⟩, ⟨⟨.none, _, .inl rfl, zz⟩, z2.at fun o q => up _ o (Ne.symm a1) q⟩, fun b hb => ?_⟩
    · rw [I.tuple_inj hx' hx]; exact ex
    · have hb' : ∃ o, s.heap.get? b = some o := by
        simp only [List.mem_cons, List.not_mem_nil, or_false] at hb
        obtain ⟨o4, e4, _⟩ := st2
        rcases hb with h | h <;> rw [h]
        · exact ⟨_, st1⟩
        · exact ⟨_, e4⟩
      obtain ⟨o, eo⟩ := hb'
      rw [upd_ne (Nat.ne_of_lt (Heap.lt_size eo))]
      exact (hf b hb).1
  done := by
    intro X hP hw hK hc i pins s σ H E I hf st hg
    subst hP hw hK
    obtain ⟨xs, hx, rfl⟩ := hg
    obtain ⟨its, rv, p, hz⟩ := I.tuple hx
    obtain ⟨⟨gv, old, hgv, st1⟩, st2⟩ := st
    have hT : s.TypeIs (.ref e) "enumerate" := ⟨_, st1, rfl⟩
    have hend : its.toArray[xs.length]? = none := Array.getElem?_eq_none (by rw [List.size_toArray, rv.length]; exact Nat.le_refl _)
    unfold pyNext
    refine wpAny_bind (wpAny_attempt (wpAny_callSpecial?_slot (name := Str.ofString "__next__") hT F.slot_enumerate_next (wpAny_call_entry F.slot_enumerate_next hT F.entry_enumerate_next ?_ (F.args_enumerate_next_1 _))))
    show wpAny _ _ (field (.ref e) 2 >>= _) _ _ _
    refine wpAny_bind (wpAny_field st1 rfl (x := .ref it) rfl (wpAny_bind (ZT.step_end (I.ok.hd hc) st2 (show s.heap.IsTuple l its.toArray from p) hend fun g y kk ⟨oe, he, ce⟩ => ?_)))
    refine wpAny_bind (wpAny_isInstance (T := "StopIteration") (b := true) ⟨oe, he, ce⟩ isSubtype_stop (wpAny_pure ⟨rfl, I.turnedL (t' := s.toks) (ch := [e, it]) (fun b o hb q => kk b o ?_ q) hf⟩))
    simp only [List.mem_cons, List.not_mem_nil, or_false, not_or] at hb
    exact hb.2
  self := fun _ _ s' _ _ st h => by
    obtain ⟨⟨gv, old, _, h1⟩, _⟩ := st
    have hT : Shared.TypeIs s' (.ref e) "enumerate" := ⟨_, h1, rfl⟩
    refine wpAny_pyIter_slot hT F.slot_enumerate_iter (wpAny_call_entry F.slot_enumerate_iter hT F.entry_enumerate_iter ?_ (F.args_enumerate_iter_1 _))
    exact wpAny_pure ⟨_, rfl, "enumerate", _, hT, F.slot_enumerate_next.lookup, h⟩
section
variable {X : Cx}
/-- enumerate(a, start=b) of a tuple -/
def iEnumK (K : PySem.W.Frag) (ta tb : TA) : TI := fun σ H R => ta σ H fun vs H1 => tb σ H1 fun ys H2 => ∃ a xs n, vs = [.ref a] ∧ ys = [.int n] ∧ SqT K H2 a xs ∧ R (ItK K n a) H2
theorem type_kw {M : Model} {A : Around} {E : Value → Shared → Prop} {s : Shared} {env : Env} {pos : Pos} {T : String} {e : Expr} {rest : List Expr} {kws : List Keyword} {Q : Value → Shared → Prop}
    (h : wpAny M A (spliced (backTo pos (starEach (e :: rest) env))) (fun vs s₁ => wpAny M A (evalAll ((backToKw pos (keywordEach kws env)).map (·.2))) (fun kvs s₂ => wpAny M A (call (.type T) vs (((backToKw pos (keywordEach kws env)).filterMap (·.1)).zip kvs)) Q E s₂) E s₁) E s)
    (he : backTo pos (starEach (e :: rest) env) = (false, eval e env) :: backTo pos (starEach rest env) := by rfl) (hp : (backTo pos (starEach (e :: rest) env)).any (·.1) = false := by rfl)
    (ha : (backToKw pos (keywordEach kws env)).all (·.1.isSome) = true := by rfl) (hk : (backToKw pos (keywordEach kws env)).any (·.1.isNone) = false := by rfl) :
    wpAny M A (callWith pos (.type T) [] (backTo pos (starEach (e :: rest) env)) (backToKw pos (keywordEach kws env))) Q E s := by
  unfold callWith
  refine wpAny_bind (wpAny_holding (thn (Q := fun (a : Args) s₁ => wpAny M A (call (.type T) a.pos a.kw) Q E s₁) ?_ fun a s₁ h₁ => wpAny_bind (wpAny_standAt ?_)))
  · rw [he] at h ⊢
    exact evalArgs_kwB ha h
  · simp only [hp, hk, Bool.or_false]
    exact wpAny_bind (wpAny_pure (wpAny_bind (thn h₁ fun r s₂ hr => wpAny_bind (wpAny_holding (wpAny_point (wpAny_pure hr))))))
theorem pi_enumK {elts : List Expr} {k : Nat} {tpos : Pos} {a b : Expr} {ta tb : TA} {p pos kp : Pos} (hg : Gl X "enumerate") (hm : X.mg "enumerate" = none) (ha : PA X [a] ta) (hb : PK X [⟨some "start", b, kp⟩] tb)
    (h1 : backTo pos (starEach [a] X.env) = (false, eval a X.env) :: backTo pos (starEach [] X.env) := by rfl) (h2 : (backTo pos (starEach [a] X.env)).any (·.1) = false := by rfl)
    (h3 : (backToKw pos (keywordEach [⟨some "start", b, kp⟩] X.env)).all (·.1.isSome) = true := by rfl) (h4 : (backToKw pos (keywordEach [⟨some "start", b, kp⟩] X.env)).any (·.1.isNone) = false := by rfl)
    (h5 : (backToKw pos (keywordEach [⟨some "start", b, kp⟩] X.env)).filterMap (·.1) = [("start" : Str)] := by rfl) :
    PI X (.Tuple elts k tpos) (.Call (.Name "enumerate" p) [a] [⟨some "start", b, kp⟩] pos) (iEnumK X.K ta tb) := by
  intro pins s σ H R I h
  refine wpAny_Call_Name_kw (ld_blt I hg hm boot_enumerate (type_kw (thn (ha pos pins s σ H _ I h) fun us s1 ⟨vs, H1, I1, r1, q1⟩ => thn (hb pos pins s1 σ H1 _ I1 q1) fun ws s2 ⟨zs, H2, I2, r2, q2⟩ => ?_) h1 h2 h3 h4))
  rw [h5]
  obtain ⟨l, xs, n, e1, e2, hx, q⟩ := q2
  subst e1 e2
  obtain ⟨u, rfl, rr⟩ := vals1 r1
  cases rr
  obtain ⟨u2, rfl, rr2⟩ := vals1 r2
  obtain ⟨t, rfl⟩ := rr2
  obtain ⟨its, rv, p1, hz⟩ := I2.tuple hx
  refine EK.call_K (show s2.heap.IsTuple l its.toArray from p1) fun g gv hgv z1 z2 kk => ?_
  have ez : n + ((0 : Nat) : Int) = n := by omega
  have st : TnK n (s2.heap.objs.size + 1) s2.heap.objs.size l 0 g := ⟨⟨gv, .none, by
    rw [ez]
    exact hgv.imp_right fun e => ⟨t, e⟩, by rw [ez]; exact z1⟩, z2⟩
  have hT : Shared.TypeIs { s2 with heap := g } (.ref (s2.heap.objs.size + 1)) "enumerate" := ⟨_, z1, rfl⟩
  refine wpAny_pyIter_slot hT F.slot_enumerate_iter (wpAny_call_entry F.slot_enumerate_iter hT F.entry_enumerate_iter (wpAny_pure ⟨_, rfl, "enumerate", _, hT, F.slot_enumerate_next.lookup, ?_⟩) (F.args_enumerate_iter_1 _))
  refine ⟨_, [s2.heap.objs.size + 1, s2.heap.objs.size], _, _, H2, rfl, I2.kept (t' := s2.toks) kk, turn_enumK (Nat.succ_ne_self _), st, fun b hb => ?_, q⟩
  have hb' : s2.heap.objs.size ≤ b := by
    simp only [List.mem_cons, List.not_mem_nil, or_false] at hb
    rcases hb with h | h <;> rw [h] <;> first | exact Nat.le_add_right _ _ | exact Nat.le_refl _
  exact I2.fpOk hb' (I2.hok.fresh hb')
/-- over a tuple that the body leaves as it is, with numbers -/
theorem for_enumK {K : PySem.W.Frag} {n : Int} {a : Addr} {xs : List V} {g : TG} {tb : TS} {D : Ends} {σ : St} {H : Hp} (Pv : Nat → St → Hp → Prop) (h0 : Pv 0 σ H) (hl : ∀ i σ H, Pv i σ H → SqT K H a xs)
    (hs : ∀ i x p σ H, xs[i]? = some x → H p = none → Pv i σ H → g (.ref p) σ (upd H p (.tup [.int (n + i), x])) fun σ2 H2 => tb { D with nx := Pv (i + 1), ct := Pv (i + 1), bk := D.nx } σ2 H2) (hd : ∀ σ H, Pv xs.length σ H → D.nx σ H) :
    ∃ W : Nat → Nat → St → Hp → Prop, (∃ m, W 0 m σ H) ∧ ∀ i m σ H, W i m σ H →
      ((ItK K n a).stop i H ∧ D.nx σ H) ∨ ((ItK K n a).go i H ∧ ∃ N : St → Hp → Prop, (∀ σ' H', N σ' H' → ∃ m', m' < m ∧ W (i + 1) m' σ' H') ∧ ∀ x H', (ItK K n a).yld i H x H' → g x σ H' fun σ2 H2 => tb { D with nx := N, ct := N, bk := D.nx } σ2 H2) := by
  refine ⟨fun i m σ H => m = xs.length - i ∧ i ≤ xs.length ∧ Pv i σ H, ⟨xs.length, by simp, Nat.zero_le _, h0⟩, ?_⟩
  rintro i m σ H ⟨rfl, hi, p⟩
  have q1 := hl i σ H p
  by_cases hlt : i < xs.length
  · refine .inr ⟨⟨xs, xs[i], q1, by simp [hlt]⟩, Pv (i + 1), fun σ' H' p' => ⟨xs.length - (i + 1), by omega, rfl, hlt, p'⟩, fun x H' y => ?_⟩
    obtain ⟨t, rfl, ht, y⟩ := y
    obtain ⟨u, eu, rfl⟩ := y xs q1
    exact hs i u t σ H eu ht p
  · have e : i = xs.length := by omega
    subst e
    exact .inl ⟨⟨xs, q1, rfl⟩, hd σ H p⟩
end
end L2

namespace L2
open PySem PySem.Spec PyProof.Rows
/-- a statement whose ways meet again: what they have in common is J -/
def tJoin (t : TS) : TS := fun D σ H => ∃ J : St → Hp → Prop, t { D with nx := J } σ H ∧ ∀ σ' H', J σ' H' → D.nx σ' H'
theorem ps_join {X : Cx} {st : Stmt} {t : TS} (h : PS X st t) : PS X st (tJoin t) := by
  intro pins s σ H D I hh
  obtain ⟨J, h1, h2⟩ := hh
  refine thn (h pins s σ H { D with nx := J } I h1) fun f s1 q => ?_
  cases f with
  | next =>
    obtain ⟨σ', H', I', q⟩ := q
    exact ⟨σ', H', I', h2 _ _ q⟩
  | ret v => exact q
  | brk => exact q
  | cont => exact q
end L2

set_option maxHeartbeats 2000000
/-! tuples alike to their depths; sorted(list of ints); isinstance(an instance, its own class) -/
namespace L2
open PySem PySem.Spec PyProof.Rows
/-- isinstance(an instance, its own class) -/
theorem call_isC {X : Cx} : CallR X (.builtin "isinstance") (fun xs H Q => ∃ (a C dx : Addr) (fs : List (Str × V)) (b : Bool), xs = [.ref a, .ref C] ∧ H a = some (.ins C dx fs) ∧ TyOf X.K H (.ref a) (.ref C) ∧ PySem.W.kitOne X.K (.ref C) (.ref C) = some b ∧ Q (.bl b) H) := by
  intro pins s σ H xs us Q I rv h
  obtain ⟨a, C, dx, fs, b, rfl, _, ty, e, q⟩ := h
  obtain ⟨u, u2, rfl, r1, r2⟩ := vals2 rv
  cases r2
  exact isinst_ok I r1 ty e fun tk => ⟨.bl b, H, I.tok tk, rfl, q⟩
theorem ints_vals {us : List Value} {ss : List Int} (h : IntsAre us ss) : Vals (ss.map V.int) us := by
  induction h with
  | nil => exact .nil
  | cons y t r ih => exact .cons ⟨t, rfl⟩ ih
section
variable {X : Cx}
theorem call_sortI : CallR X (.builtin "sorted") (fun xs H Q => ∃ (p : Addr) (ns : List Int), xs = [.ref p] ∧ SqL X.K H p (ns.map V.int) ∧ ns.length < 64 ∧
    ∀ (l : Addr) (zs : List Int) (H2 : Hp), H l = none → Same H H2 → H2 l = some (.lst (zs.map V.int)) → zs.Perm ns → zs.Pairwise (· ≤ ·) → Q (.ref l) H2) := by
  intro pins s σ H xs us Q I rv h
  obtain ⟨p, ns, rfl, hp, h64, q⟩ := h
  obtain ⟨u, rfl, ru⟩ := rv.one
  cases ru
  obtain ⟨its, r, pl, hz⟩ := I.list hp
  have hl : its.length = ns.length := by have := r.length; rw [List.length_map] at this; exact this.symm
  refine sorted_ints pl.isList (intsAre_of r) (by omega) fun out ns' a1 a2 a3 => ?_
  obtain ⟨e, he⟩ := sortedAll_at s.heap its out
  have hf : H (s.heap.objs.size + 1) = none := I.hok.fresh (Nat.le_succ _)
  refine ⟨.ref (s.heap.objs.size + 1), _, I.laid (t' := s.toks) (a := s.heap.objs.size + 1) (o := .lst (ns'.map V.int)) (fun b o e => sortedAll_old e) (Nat.le_succ _) ?_, rfl, q _ ns' _ hf (same_new hf) upd_same a2 a3⟩
  exact ⟨by rw [List.length_map, a2.length_eq]; exact Nat.le_of_lt (small1000 (by omega)), out.toList, e, ints_vals a1, by rw [Array.toArray_toList]; exact he⟩
/-- two things alike: the same one, or tuples of things alike -/
def Alk (K : PySem.W.Frag) : Nat → Hp → V → V → Prop
  | 0, _, v, w => smV v = true ∧ w = v
  | n + 1, H, v, w => (smV v = true ∧ w = v) ∨ ∃ (a b : Addr) (xs ys : List V), v = .ref a ∧ w = .ref b ∧ SqT K H a xs ∧ SqT K H b ys ∧ xs.length = ys.length ∧ ∀ (i : Nat) (x y : V), xs[i]? = some x → ys[i]? = some y → Alk K n H x y
theorem Alk.sm {K : PySem.W.Frag} {n : Nat} {H : Hp} {v : V} (h : smV v = true) : Alk K n H v v := by
  cases n with
  | zero => exact ⟨h, rfl⟩
  | succ n => exact .inl ⟨h, rfl⟩
theorem alk_at {its jts : List Value} {xs ys : List V} {A : Around} {s : Shared} (r1 : Vals xs its) (r2 : Vals ys jts) (hl : xs.length = ys.length) (h : ∀ (i : Nat) (x y : V) (u1 u2 : Value), xs[i]? = some x → ys[i]? = some y → RelV x u1 → RelV y u2 → SeqAt.EqAt A s u1 u2 true) (j : Nat) (h1 : j < its.toArray.size) (h2 : j < jts.toArray.size) : SeqAt.EqAt A s its.toArray[j] jts.toArray[j] true := by
  have e1 := r1.length
  have e2 := r2.length
  have hj1 : j < its.length := by simpa using h1
  have hj2 : j < jts.length := by simpa using h2
  obtain ⟨u1, hu1, ru1⟩ := r1.get (i := j) (x := xs[j]'(by omega)) (List.getElem?_eq_getElem _)
  obtain ⟨u2, hu2, ru2⟩ := r2.get (i := j) (x := ys[j]'(by omega)) (List.getElem?_eq_getElem _)
  have i1 : its.toArray[j] = u1 := by
    have := List.getElem?_eq_getElem hj1
    rw [hu1] at this
    simpa using (Option.some.inj this).symm
  have i2 : jts.toArray[j] = u2 := by
    have := List.getElem?_eq_getElem hj2
    rw [hu2] at this
    simpa using (Option.some.inj this).symm
  rw [i1, i2]
  exact h j _ _ _ _ (List.getElem?_eq_getElem (by omega)) (List.getElem?_eq_getElem (by omega)) ru1 ru2
theorem alk_eq {pins : List (Addr × Obj)} {σ : St} {H : Hp} {s : Shared} (I : Inv X pins σ H s) : ∀ (n : Nat) (A : Around) (x y : V) (u1 u2 : Value), A.units + n < cLine → Alk X.K n H x y → RelV x u1 → RelV y u2 → SeqAt.EqAt A s u1 u2 true
  | 0, A, x, y, u1, u2, hu, h, r1, r2 => by
    obtain ⟨h1, rfl⟩ := h
    exact eq_sm h1 r1 r2
  | n + 1, A, x, y, u1, u2, hu, h, r1, r2 => by
    rcases h with ⟨h1, rfl⟩ | ⟨a, b, xs, ys, rfl, rfl, ha, hb, hl, h⟩
    · exact eq_sm h1 r1 r2
    · cases r1
      cases r2
      by_cases hab : a = b
      · subst hab
        exact SeqAt.EqAt.same _
      · obtain ⟨its, q1, p1, _⟩ := I.tuple ha
        obtain ⟨jts, q2, p2, _⟩ := I.tuple hb
        have := SeqAt.RcAt.tuples (A := A) (s := s) (e := fun _ => true) (show s.heap.IsTuple a its.toArray from p1) (show s.heap.IsTuple b jts.toArray from p2) (by omega) (alk_at q1 q2 hl fun i x y u1 u2 hx hy ru1 ru2 => alk_eq I n A.in1 x y u1 u2 (by show A.units + 1 + n < cLine; omega) (h i x y hx hy) ru1 ru2)
        rw [List.size_toArray, List.size_toArray, all_true _ _ (by have e1 := q1.length; have e2 := q2.length; omega)] at this
        exact SeqAt.EqAt.of_refs hab this
/-- two tuples of things alike -/
def Alks (K : PySem.W.Frag) (H : Hp) (a b : Addr) : Prop := ∃ (n : Nat) (xs ys : List V), n ≤ 60 ∧ SqT K H a xs ∧ SqT K H b ys ∧ xs.length = ys.length ∧ ∀ (i : Nat) (x y : V), xs[i]? = some x → ys[i]? = some y → Alk K n H x y
theorem op_neAk (hu : X.A.units + 64 < cLine) : OpR X (compareOp .NotEq) (fun x y H Q => ∃ a b : Addr, x = .ref a ∧ y = .ref b ∧ Alks X.K H a b ∧ Q (.bl false) H) := by
  intro pins s σ H x y v u Q I rx ry h
  obtain ⟨a, b, rfl, rfl, ⟨n, xs, ys, hn, ha, hb, hl, h⟩, q⟩ := h
  cases rx
  cases ry
  obtain ⟨its, q1, p1, _⟩ := I.tuple ha
  obtain ⟨jts, q2, p2, _⟩ := I.tuple hb
  have := SeqAt.RcNeAt.tuples (A := X.A) (s := s) (e := fun _ => true) (show s.heap.IsTuple a its.toArray from p1) (show s.heap.IsTuple b jts.toArray from p2) (by omega) (alk_at q1 q2 hl fun i x y u1 u2 hx hy ru1 ru2 => alk_eq I n X.A.in1 x y u1 u2 (by show X.A.units + 1 + n < cLine; omega) (h i x y hx hy) ru1 ru2)
  rw [List.size_toArray, List.size_toArray, all_true _ _ (by have e1 := q1.length; have e2 := q2.length; omega)] at this
  exact this _ _ _ _ (fin_bl I q rfl)
end
end L2

set_option maxHeartbeats 2000000
/-! range(a, b) of numbers of any size -/
namespace L2
open PySem PySem.Spec PyProof.Rows
theorem turn_long {P : Program} {w : World} {K : PySem.W.Frag} {tg : Expr} (it : Addr) (lo : Int) (n : Nat) : Turn P w K tg (Itr lo n) [it] it (fun i h => IsLongIter h it (lo + (i : Nat) * 1) ((n : Int) - (i : Nat)) 1) where
  mem := by simp
  obj := fun i h st b hb => by
    have e : b = it := by simpa using hb
    subst e
    exact ⟨_, st, fun v z => by
      have z' : Data.fields _ = Data.cell v := z
      cases z'⟩
  keep := fun i h h' st k => k it (by simp) _ st
  item := by
    intro X hP hw hK hc i pins s σ H E I hf st hg
    subst hP hw hK
    obtain ⟨f0, f1, f2, f3, f4, f5⟩ := hf it (by simp)
    have W := Walks.longrange (prog := X.prog) (w := X.w) (I.ok.hd hc) it lo 1 n
    refine W.item i s _ _ hg st fun v h' tk hv st' kk => ?_
    obtain ⟨t, rfl⟩ := hv
    have I1 : Inv X pins σ H { s with heap := h', toks := tk } := I.turned (fun b o hb e => kk b o (by simpa using hb) e) f0 f1 f3 f4 f5
    refine ⟨_, rfl, go_of (s := { s with heap := h', toks := tk }) (n := "longrange_iterator") st' rfl rfl (by decide) ⟨.int (lo + i), H, I1, ⟨t, ?_⟩, ⟨rfl, rfl⟩, st', fun b hb => (hf b hb).1⟩⟩
    rw [Int.mul_one]
  done := by
    intro X hP hw hK hc i pins s σ H E I hf st hg
    subst hP hw hK
    obtain ⟨f0, f1, f2, f3, f4, f5⟩ := hf it (by simp)
    exact wpAny_pyNext_long_end (I.ok.hd hc) st (by have : n ≤ i := hg; omega) fun h' eb => ⟨rfl, I.turned (t' := s.toks) (fun b o hb e => eb b o hb e) f0 f1 f3 f4 f5⟩
  self := fun _ _ _ _ _ st h => wpAny_pyIter_longiter st h
/-! lists of known length -/
theorem len1 {α : Type} {us : List α} (h : us.length = 1) : ∃ a0, us = [a0] := by
  match us, h with
  | [a0], _ => exact ⟨a0, rfl⟩
theorem len2 {α : Type} {us : List α} (h : us.length = 2) : ∃ a0 a1, us = [a0, a1] := by
  match us, h with
  | [a0, a1], _ => exact ⟨a0, a1, rfl⟩
theorem len3 {α : Type} {us : List α} (h : us.length = 3) : ∃ a0 a1 a2, us = [a0, a1, a2] := by
  match us, h with
  | [a0, a1, a2], _ => exact ⟨a0, a1, a2, rfl⟩
theorem len4 {α : Type} {us : List α} (h : us.length = 4) : ∃ a0 a1 a2 a3, us = [a0, a1, a2, a3] := by
  match us, h with
  | [a0, a1, a2, a3], _ => exact ⟨a0, a1, a2, a3, rfl⟩
/-! witnesses, several at once -/
theorem ex3 {α0 α1 α2 : Type} {F : α0 → α1 → α2 → Prop} (a0 : α0) (a1 : α1) (a2 : α2) (h : F a0 a1 a2) : ∃ (x0 : α0) (x1 : α1) (x2 : α2), F x0 x1 x2 := ⟨a0, a1, a2, h⟩
theorem ex4 {α0 α1 α2 α3 : Type} {F : α0 → α1 → α2 → α3 → Prop} (a0 : α0) (a1 : α1) (a2 : α2) (a3 : α3) (h : F a0 a1 a2 a3) : ∃ (x0 : α0) (x1 : α1) (x2 : α2) (x3 : α3), F x0 x1 x2 x3 := ⟨a0, a1, a2, a3, h⟩
theorem ex5 {α0 α1 α2 α3 α4 : Type} {F : α0 → α1 → α2 → α3 → α4 → Prop} (a0 : α0) (a1 : α1) (a2 : α2) (a3 : α3) (a4 : α4) (h : F a0 a1 a2 a3 a4) : ∃ (x0 : α0) (x1 : α1) (x2 : α2) (x3 : α3) (x4 : α4), F x0 x1 x2 x3 x4 := ⟨a0, a1, a2, a3, a4, h⟩
theorem ex8 {α0 α1 α2 α3 α4 α5 α6 α7 : Type} {F : α0 → α1 → α2 → α3 → α4 → α5 → α6 → α7 → Prop} (a0 : α0) (a1 : α1) (a2 : α2) (a3 : α3) (a4 : α4) (a5 : α5) (a6 : α6) (a7 : α7) (h : F a0 a1 a2 a3 a4 a5 a6 a7) : ∃ (x0 : α0) (x1 : α1) (x2 : α2) (x3 : α3) (x4 : α4) (x5 : α5) (x6 : α6) (x7 : α7), F x0 x1 x2 x3 x4 x5 x6 x7 := ⟨a0, a1, a2, a3, a4, a5, a6, a7, h⟩
theorem ex9 {α0 α1 α2 α3 α4 α5 α6 α7 α8 : Type} {F : α0 → α1 → α2 → α3 → α4 → α5 → α6 → α7 → α8 → Prop} (a0 : α0) (a1 : α1) (a2 : α2) (a3 : α3) (a4 : α4) (a5 : α5) (a6 : α6) (a7 : α7) (a8 : α8) (h : F a0 a1 a2 a3 a4 a5 a6 a7 a8) : ∃ (x0 : α0) (x1 : α1) (x2 : α2) (x3 : α3) (x4 : α4) (x5 : α5) (x6 : α6) (x7 : α7) (x8 : α8), F x0 x1 x2 x3 x4 x5 x6 x7 x8 := ⟨a0, a1, a2, a3, a4, a5, a6, a7, a8, h⟩
theorem ex10 {α0 α1 α2 α3 α4 α5 α6 α7 α8 α9 : Type} {F : α0 → α1 → α2 → α3 → α4 → α5 → α6 → α7 → α8 → α9 → Prop} (a0 : α0) (a1 : α1) (a2 : α2) (a3 : α3) (a4 : α4) (a5 : α5) (a6 : α6) (a7 : α7) (a8 : α8) (a9 : α9) (h : F a0 a1 a2 a3 a4 a5 a6 a7 a8 a9) : ∃ (x0 : α0) (x1 : α1) (x2 : α2) (x3 : α3) (x4 : α4) (x5 : α5) (x6 : α6) (x7 : α7) (x8 : α8) (x9 : α9), F x0 x1 x2 x3 x4 x5 x6 x7 x8 x9 := ⟨a0, a1, a2, a3, a4, a5, a6, a7, a8, a9, h⟩
theorem ex11 {α0 α1 α2 α3 α4 α5 α6 α7 α8 α9 α10 : Type} {F : α0 → α1 → α2 → α3 → α4 → α5 → α6 → α7 → α8 → α9 → α10 → Prop} (a0 : α0) (a1 : α1) (a2 : α2) (a3 : α3) (a4 : α4) (a5 : α5) (a6 : α6) (a7 : α7) (a8 : α8) (a9 : α9) (a10 : α10) (h : F a0 a1 a2 a3 a4 a5 a6 a7 a8 a9 a10) : ∃ (x0 : α0) (x1 : α1) (x2 : α2) (x3 : α3) (x4 : α4) (x5 : α5) (x6 : α6) (x7 : α7) (x8 : α8) (x9 : α9) (x10 : α10), F x0 x1 x2 x3 x4 x5 x6 x7 x8 x9 x10 := ⟨a0, a1, a2, a3, a4, a5, a6, a7, a8, a9, a10, h⟩
/-- a statement by itself: what stands behind it is a word kept shut -/
theorem tSeq_cut {t u : TS} {D : Ends} {σ : St} {H : Hp} (h : ∀ K : St → Hp → Prop, (∀ σ' H', u D σ' H' → K σ' H') → t { D with nx := K } σ H) : tSeq t u D σ H := h (fun σ' H' => u D σ' H') fun _ _ h => h
section
variable {X : Cx} {tg : Expr}
theorem range_itA {pins : List (Addr × Obj)} {σ : St} {H : Hp} {s : Shared} {R : It → Hp → Prop} {E : Value → Shared → Prop} {lo hi : Int} {t u v : Tok} {tk : Nat} (I : Inv X pins σ H s)
    (q : R (Itr lo (hi - lo).toNat) H) : wpAny (model X.prog X.w) X.A (pyIter (.ref s.heap.objs.size)) (PIE X pins σ tg R) E { s with heap := s.heap.push { cls := .type "range", data := .fields #[.int lo t, .int hi u, .int 1 v] }, toks := tk } := by
  have I1 : Inv X pins σ H { s with heap := s.heap.push { cls := .type "range", data := .fields #[.int lo t, .int hi u, .int 1 v] }, toks := tk } := I.kept fun b o e => Heap.get?_push_of_some _ e
  have e1 : lo + ((0 : Nat) : Int) * 1 = lo := by simp
  have e2 : (((hi - lo).toNat : Nat) : Int) - ((0 : Nat) : Int) = Builtin.Range.rangeSize lo hi 1 := by rw [rangeSize_one]; split <;> omega
  cases hs : Builtin.Range.small lo hi 1 with
  | true =>
    refine wpAny_pyIter_range (IsRange.new ..) hs ?_
    refine ⟨(s.heap.push { cls := .type "range", data := .fields #[.int lo t, .int hi u, .int 1 v] }).objs.size, [(s.heap.push { cls := .type "range", data := .fields #[.int lo t, .int hi u, .int 1 v] }).objs.size], _, _, H, rfl,
      I1.kept (t' := tk) fun b o e => Heap.get?_push_of_some _ e, turn_range _ lo (hi - lo).toNat, ?_, fun b hb => ?_, q⟩
    · show IsRangeIter _ _ (lo + ((0 : Nat) : Int) * 1) ((((hi - lo).toNat : Nat) : Int) - ((0 : Nat) : Int)) 1
      rw [e1, e2]
      exact Heap.get?_push_size _ rfl
    · have e : b = (s.heap.push { cls := .type "range", data := .fields #[.int lo t, .int hi u, .int 1 v] }).objs.size := by simpa using hb
      subst e
      exact I1.fpOk (Nat.le_refl _) (I1.hok.fresh (Nat.le_refl _))
  | false =>
    refine wpAny_pyIter_longrange (IsRange.new ..) hs ?_
    refine ⟨(s.heap.push { cls := .type "range", data := .fields #[.int lo t, .int hi u, .int 1 v] }).objs.size, [(s.heap.push { cls := .type "range", data := .fields #[.int lo t, .int hi u, .int 1 v] }).objs.size], _, _, H, rfl,
      I1.kept (t' := tk) fun b o e => Heap.get?_push_of_some _ e, turn_long _ lo (hi - lo).toNat, ?_, fun b hb => ?_, q⟩
    · show IsLongIter _ _ (lo + ((0 : Nat) : Int) * 1) ((((hi - lo).toNat : Nat) : Int) - ((0 : Nat) : Int)) 1
      rw [e1, e2]
      exact Heap.get?_push_size _ rfl
    · have e : b = (s.heap.push { cls := .type "range", data := .fields #[.int lo t, .int hi u, .int 1 v] }).objs.size := by simpa using hb
      subst e
      exact I1.fpOk (Nat.le_refl _) (I1.hok.fresh (Nat.le_refl _))
def iRngA (ta : TA) : TI := fun σ H R => ta σ H fun vs H1 => ∃ i j : Int, vs = [.int i, .int j] ∧ R (Itr i (j - i).toNat) H1
theorem pi_rangeA {a b : Expr} {ta : TA} {p pos : Pos} (hg : Gl X "range") (hm : X.mg "range" = none) (ha : PA X [a, b] ta) (hs : starEach [a, b] X.env = [(false, eval a X.env), (false, eval b X.env)] := by rfl) (hs2 : starEach [b] X.env = [(false, eval b X.env)] := by rfl) :
    PI X tg (.Call (.Name "range" p) [a, b] [] pos) (iRngA ta) := by
  intro pins s σ H R I h
  refine Call_ (ld_blt I hg hm boot_range (PyProof.Rows.callWith_type1 (thn (ha pos pins s σ H _ I h) fun us s1 ⟨vs, H1, I1, r1, q1⟩ => ?_) (by rw [hs, hs2]) (by rw [hs2]; rfl)))
  obtain ⟨i, j, e, q⟩ := q1
  subst e
  cases r1 with
  | cons r rr =>
    cases rr with
    | cons r' rr =>
      cases rr
      obtain ⟨t, rfl⟩ := r
      obtain ⟨t', rfl⟩ := r'
      exact call_range_2 (range_itA I1 q)
end
end L2

set_option maxHeartbeats 4000000
/-! the mathematics of tables told -/
namespace KM
open PySem PySem.Spec L2
def keyOf : Key → Str
  | .inr x => x
  | .inl _ => ""
def keysS {α : Type} (l : List (Key × α)) : List Str := l.map fun p => keyOf p.1
/-- keys are texts, none twice -/
structure GoodK {α : Type} (l : List (Key × α)) : Prop where
  txt : ∀ p ∈ l, ∃ x : Str, p.1 = Sum.inr x
  nd : (l.map (·.1)).Nodup
theorem GoodK.keys {α : Type} {l : List (Key × α)} (h : GoodK l) : l.map (·.1) = (keysS l).map Sum.inr := by
  unfold keysS
  rw [List.map_map]
  refine List.map_congr_left fun p hp => ?_
  obtain ⟨x, e⟩ := h.txt p hp
  show p.1 = Sum.inr (keyOf p.1)
  rw [e]; rfl
theorem inj_inr {l : List Str} (h : (l.map (Sum.inr : Str → Key)).Nodup) : l.Nodup := by
  induction l with
  | nil => exact List.nodup_nil
  | cons x r ih =>
    have h : ((Sum.inr x : Key) :: r.map Sum.inr).Nodup := h
    obtain ⟨h1, h2⟩ := List.nodup_cons.mp h
    exact List.nodup_cons.mpr ⟨fun m => h1 (List.mem_map.mpr ⟨x, m, rfl⟩), ih h2⟩
theorem GoodK.nodup {α : Type} {l : List (Key × α)} (h : GoodK l) : (keysS l).Nodup := inj_inr (by rw [← h.keys]; exact h.nd)
theorem GoodK.mem {α : Type} {l : List (Key × α)} (h : GoodK l) {x : Str} : x ∈ keysS l ↔ (Sum.inr x : Key) ∈ l.map (·.1) := by
  rw [h.keys]
  constructor
  · intro m; exact List.mem_map.mpr ⟨x, m, rfl⟩
  · intro m
    obtain ⟨y, hy, e⟩ := List.mem_map.mp m
    cases e; exact hy
/-- the look, over any values -/
def getG {α : Type} (l : List (Key × α)) (k : Key) : Option α := (l.find? fun kv => decide (kv.1 = k)).map (·.2)
def putG {α : Type} (l : List (Key × α)) (k : Key) (v : α) : List (Key × α) := if (l.any fun kv => decide (kv.1 = k)) = true then l.map (fun kv => if kv.1 = k then (kv.1, v) else kv) else l ++ [(k, v)]
section
variable {α : Type}
theorem getG_pos {p : Key × α} {r : List (Key × α)} {k : Key} (e : p.1 = k) : getG (p :: r) k = some p.2 := by simp [getG, List.find?_cons, e]
theorem getG_neg {p : Key × α} {r : List (Key × α)} {k : Key} (e : ¬ p.1 = k) : getG (p :: r) k = getG r k := by simp [getG, List.find?_cons, e]
theorem getG_any (k : Key) : ∀ l : List (Key × α), (l.any fun kv => decide (kv.1 = k)) = (getG l k).isSome
  | [] => rfl
  | p :: r => by
    rw [List.any_cons]
    by_cases e : p.1 = k
    · simp only [getG_pos e, decide_eq_true e, Bool.true_or, Option.isSome_some]
    · rw [getG_neg e, decide_eq_false e, Bool.false_or]; exact getG_any k r
theorem getG_mem {l : List (Key × α)} {k : Key} : k ∈ l.map (·.1) ↔ (getG l k).isSome = true := by
  rw [← getG_any, List.any_eq_true]
  constructor
  · intro m
    obtain ⟨p, hp, e⟩ := List.mem_map.mp m
    exact ⟨p, hp, decide_eq_true e⟩
  · rintro ⟨p, hp, e⟩
    exact List.mem_map.mpr ⟨p, hp, of_decide_eq_true e⟩
theorem GoodK.put {l : List (Key × α)} (h : GoodK l) (x : Str) (v : α) : GoodK (putG l (Sum.inr x) v) := by
  unfold putG
  by_cases a : (l.any fun kv => decide (kv.1 = (Sum.inr x : Key))) = true
  · rw [if_pos a]
    have e : (l.map (fun kv => if kv.1 = (Sum.inr x : Key) then (kv.1, v) else kv)).map (·.1) = l.map (·.1) := by
      rw [List.map_map]
      refine List.map_congr_left fun p _ => ?_
      show (if p.1 = (Sum.inr x : Key) then (p.1, v) else p).1 = p.1
      split <;> rfl
    refine ⟨fun p hp => ?_, by rw [e]; exact h.nd⟩
    have : p.1 ∈ l.map (·.1) := by rw [← e]; exact List.mem_map.mpr ⟨p, hp, rfl⟩
    obtain ⟨q, hq, eq⟩ := List.mem_map.mp this
    obtain ⟨y, ey⟩ := h.txt q hq
    exact ⟨y, eq.symm.trans ey⟩
  · rw [if_neg a]
    refine ⟨fun p hp => ?_, ?_⟩
    · rcases List.mem_append.mp hp with q | q
      · exact h.txt p q
      · rw [List.mem_singleton.mp q]; exact ⟨x, rfl⟩
    · rw [List.map_append]
      refine nd_snoc h.nd fun m => a ?_
      rw [getG_any]
      exact getG_mem.mp m
theorem GoodK.drop {l : List (Key × α)} (h : GoodK l) (k : Key) : GoodK (l.filter fun kv => decide (kv.1 ≠ k)) :=
  ⟨fun p hp => h.txt p (List.mem_filter.mp hp).1, h.nd.sublist (List.Sublist.map _ (List.filter_sublist))⟩
end
/-! the order of texts -/
theorem lt_anti : ∀ {a b : List Nat}, ltCps a b = false → ltCps b a = false → a = b
  | [], [], _, _ => rfl
  | [], _ :: _, h, _ => by simp [ltCps] at h
  | _ :: _, [], _, h => by simp [ltCps] at h
  | x :: r, y :: t, h1, h2 => by
    simp only [ltCps, Bool.or_eq_false_iff, decide_eq_false_iff_not, Bool.and_eq_false_iff, beq_eq_false_iff_ne] at h1 h2
    have e : x = y := by omega
    subst e
    have h3 := h1.2.resolve_left (fun z => z rfl)
    have h4 := h2.2.resolve_left (fun z => z rfl)
    rw [lt_anti h3 h4]
theorem leS_anti {a b : Str} (h1 : leS a b) (h2 : leS b a) : a = b := by
  have := lt_anti (show ltCps b.cps.toList a.cps.toList = false from h1) (show ltCps a.cps.toList b.cps.toList = false from h2)
  exact PySem.Str.ext' (by rw [← Array.toArray_toList (xs := a.cps), ← Array.toArray_toList (xs := b.cps), this])
theorem sorted_one {ss tt : List Str} (h1 : ss.Pairwise leS) (h2 : tt.Pairwise leS) (hp : ss.Perm tt) : ss = tt :=
  List.Perm.eq_of_pairwise (fun _ _ _ _ => leS_anti) h1 h2 hp
/-- two tables of the same look have the same keys -/
theorem keys_perm {α : Type} {l m : List (Key × α)} (hl : GoodK l) (hm : GoodK m) (h : ∀ k, getG l k = getG m k) : (keysS l).Perm (keysS m) := by
  rw [List.perm_ext_iff_of_nodup hl.nodup hm.nodup]
  intro x
  rw [hl.mem, hm.mem, getG_mem, getG_mem, h]
end KM

set_option maxHeartbeats 2000000
namespace L2
open PySem PySem.Spec PyProof.Rows
/-- // by a positive divisor that is not too long -/
theorem op_fdivB {X : Cx} : OpR X (binaryOp .FloorDiv) (rI (fun _ j => 0 < j ∧ j < 2 ^ 250) fun i j => .int (i / j)) := opI fun i j _ _ _ _ _ hc q => by
  have e : i.fdiv j = i / j := Int.fdiv_eq_ediv_of_nonneg _ (Int.le_of_lt hc.1)
  refine floordiv_int (by have := hc.1; omega) (by rw [e]; exact q) (.inl (PyProof.noPylong_of_log2 ?_))
  have h1 := hc.1
  have h2 := hc.2
  have h3 : j.natAbs < 2 ^ 250 := by omega
  have h4 : j.natAbs ≠ 0 := by omega
  have := (Nat.log2_lt h4).mpr h3
  omega
end L2
namespace K23
open PySem L2
def top (i : Nat) : Stmt := PySem.Challenge.pw_chainhouse_k23_rows_cut.main.body.getD i (.Pass ⟨0, 0, 0, 0⟩)
abbrev sBits : Stmt := top 7
abbrev sNext : Stmt := top 8
abbrev sTake : Stmt := top 9
abbrev sName : Stmt := top 10
abbrev sNames : Stmt := top 11
abbrev sBench : Stmt := top 12
abbrev sNumber : Stmt := top 13
abbrev sWork : Stmt := top 14
abbrev sDeed : Stmt := top 15
abbrev sEntry : Stmt := top 16
abbrev sStand : Stmt := top 17
abbrev sEntries : Stmt := top 18
theorem bMax : bootBuiltins "max" = some (.builtin "max") := by decide +kernel
theorem bTuple : bootBuiltins "tuple" = some (.type "tuple") := by decide +kernel
theorem bSorted : bootBuiltins "sorted" = some (.builtin "sorted") := by decide +kernel
abbrev ABC : Str := Str.ofString "abcdefghijklmnopqrstuvwxyz"
def okc (c : Nat) : Bool := !(Builtin.Str.occurrences ABC ⟨#[c]⟩ 0 ABC.length 1).isEmpty
structure Nm (x : Str) : Prop where
  one : 1 ≤ x.length
  eight : x.length ≤ 8
  ok : ∀ c ∈ x.cps.toList, okc c = true
theorem abc_len : ABC.length = 26 := by decide +kernel
theorem abc_le : ABC.length ≤ sizeLine := by rw [abc_len, sizeLine_eq]; decide
theorem abc_ok : ∀ c ∈ ABC.cps.toList, okc c = true := by decide +kernel
theorem atI_in {α : Type} {xs : List α} {i : Int} (h0 : 0 ≤ i) (h1 : i < xs.length) : ∃ v, atI xs i = some v ∧ v ∈ xs := by
  obtain ⟨n, rfl⟩ := Int.eq_ofNat_of_zero_le h0
  have hn : n < xs.length := by omega
  exact ⟨xs[n], atI_nat (List.getElem?_eq_getElem hn), List.getElem_mem hn⟩
theorem at0 {α : Type} {a : α} {r : List α} : atI (a :: r) 0 = some a := atI_nat (j := 0) rfl
theorem at1 {α : Type} {a b : α} {r : List α} : atI (a :: b :: r) 1 = some b := atI_nat (j := 1) rfl
theorem len_cps (x : Str) : x.cps.toList.length = x.length := by simp [Str.length]
/-! ### the bits that numbers are taken from -/
def ButR (R : Addr) (H H' : Hp) : Prop := ∀ b o, b ≠ R → H b = some o → H' b = some o
theorem ButR.trans {R : Addr} {H H1 H2 : Hp} (a : ButR R H H1) (b : ButR R H1 H2) : ButR R H H2 := fun c o h1 h => b c o h1 (a c o h1 h)
theorem ButR.of {R : Addr} {H H' : Hp} (e : Same H H') : ButR R H H' := fun c o _ h => e c o h
def Bts (H : Hp) (R : Addr) : Prop := ∃ a b : Int, H R = some (.lst [.int a, .int b]) ∧ 0 ≤ b ∧ b < 2147483629
theorem Bts.same {H H' : Hp} {R : Addr} (e : Same H H') (h : Bts H R) : Bts H' R := by
  obtain ⟨a, b, h1, h2⟩ := h
  exact ⟨a, b, e _ _ h1, h2⟩
theorem Bts.ne {H : Hp} {R p : Addr} (h : Bts H R) (hp : H p = none) : p ≠ R := by
  obtain ⟨a, b, h1, _⟩ := h
  exact (ne_of_none h1 hp).symm
theorem Bts.neT {H : Hp} {R p : Addr} {xs : List V} (h : Bts H R) (hp : H p = some (.tup xs)) : p ≠ R := by
  obtain ⟨a, b, h1, _⟩ := h
  exact ne_of hp h1 (by intro z; cases z)
def spBits : Sp := fun vs H Q _ => ∃ c k : Int, vs = [.int c, .int k] ∧ ∀ (R : Addr) (H' : Hp), H R = none → Same H H' → Bts H' R → Q (.ref R) H'
def spNext : Sp := fun vs H Q _ => ∃ R : Addr, vs = [.ref R] ∧ Bts H R ∧ ∀ (z : Int) (H' : Hp), 0 ≤ z → z < 998244353 → Bts H' R → ButR R H H' → Q (.int z) H'
def spTake : Sp := fun vs H Q _ => ∃ (R : Addr) (m : Int), vs = [.ref R, .int m] ∧ Bts H R ∧ 0 < m ∧ m < 2 ^ 250 ∧ ∀ (z : Int) (H' : Hp), 0 ≤ z → z < m → Bts H' R → ButR R H H' → Q (.int z) H'
def spName : Sp := fun vs H Q _ => ∃ R : Addr, vs = [.ref R] ∧ Bts H R ∧ ∀ (x : Str) (H' : Hp), Nm x → Bts H' R → ButR R H H' → Q (.str x) H'
section
variable {P : Program} {w : World} {K : PySem.W.Frag} {mg : Str → Option Value} {base : Heap}
theorem scBits : FnScope ["_law_cell", "_law_k"] ["_law_cell", "_law_k"] (defScope sBits) := ⟨rfl, rfl, rfl, by decide +kernel, rfl, by decide +kernel, by decide +kernel⟩
theorem ok_bits {f : Addr} {fd : FuncData} (F : Fun K "_law_bits" "_law_bits" sBits f fd) (hmax : mg "max" = none) : FnOk P w K mg base CX0 1 f fd ["_law_cell", "_law_k"] spBits := by
  refine F.ok scBits (fun vs H Q E h => ?_) (fun cdv A outer s H vs Q E hr h => ?_)
  · obtain ⟨c, k, rfl, _⟩ := h
    rfl
  · obtain ⟨c, k, rfl, q⟩ := h
    refine ⟨_, pss_one (ps_ret (pe_lstA (pa_cons (pe_callB (call_max2 rfl) (by rfl) hmax bMax (pa_cons pe_int (pa_cons (pe_op op_sub (pv 0) (pe_op op_pow pe_int pe_int)) pa_nil)))
      (pa_cons (pe_op op_mod (pe_op op_add (pe_op op_add (pv 0) (pe_op op_mul pe_int (pv 1))) pe_int) pe_int) pa_nil)))), ?_⟩
    refine ⟨_, rfl, _, _, rfl, rfl, ⟨by decide, by decide, by decide⟩, _, _, rfl, rfl, _, _, rfl, _, rfl, _, rfl, _, _, rfl, rfl, .inl ⟨by decide, by decide⟩, _, _, rfl, rfl, _, _, rfl, rfl, _, _, rfl, rfl, (by dsimp only; decide), (by show 2 ≤ sizeLine; decide), fun R H1 n1 s1 e1 => ?_⟩
    exact q R H1 n1 s1 ⟨_, _, e1, Int.emod_nonneg _ (by decide), Int.emod_lt_of_pos _ (by decide)⟩
theorem scNext : FnScope ["_law_bits_here", "_law_found"] ["_law_bits_here"] (defScope sNext) := ⟨rfl, rfl, rfl, by decide +kernel, rfl, by decide +kernel, by decide +kernel⟩
theorem ok_next {f : Addr} {fd : FuncData} (F : Fun K "_law_next" "_law_next" sNext f fd) : FnOk P w K mg base CX0 1 f fd ["_law_bits_here"] spNext := by
  refine F.ok scNext (fun vs H Q E h => ?_) (fun cdv A outer s H vs Q E hr h => ?_)
  · obtain ⟨R, rfl, _⟩ := h
    rfl
  · obtain ⟨R, rfl, ⟨a, b, hR, b0, b1⟩, q⟩ := h
    have nd := scNext.nd
    refine ⟨_, pss_cons (ps_asg (pe_op op_mod (pe_op op_add (pe_op op_add (pe_op op_mul (pe_ix ix_list (pv 0) pe_int (fun _ _ => rfl)) (pe_ix ix_list (pv 0) pe_int (fun _ _ => rfl))) (pe_op op_mul pe_int (pe_ix ix_list (pv 0) pe_int (fun _ _ => rfl)))) pe_int) pe_int) (pg_sub (pv 0) pe_int set_listA)) <|
      pss_cons (ps_set (i := 1) nd rfl (Or.inl rfl) (pe_op op_mod (pe_op op_mul (pe_ix ix_list (pv 0) pe_int (fun _ _ => rfl)) pe_int) pe_int)) <|
      pss_one <| ps_ret <| pe_op op_mod (pe_op op_mul (pv 1) (pv 1)) pe_int, ?_⟩
    refine ⟨_, rfl, ex4 R _ _ _ ⟨rfl, rfl, SqL.of hR, at1, _, rfl, ex4 R _ _ _ ⟨rfl, rfl, SqL.of hR, at1, _, _, rfl, rfl, .inl ⟨by omega, by omega⟩, _, rfl, ex4 R _ _ _ ⟨rfl, rfl, SqL.of hR, at1, _, _, rfl, rfl, .inl ⟨by decide, by decide⟩, _, _, rfl, rfl, _, _, rfl, rfl, _, _, rfl, rfl, (by dsimp only; decide), ?_⟩⟩⟩⟩
    refine ⟨_, rfl, R, _, 1, rfl, rfl, hR, by simp, fun H1 k1 e1 => ?_⟩
    have c0 := Int.emod_nonneg (b * b + 48271 * b + 11) (show (2147483629 : Int) ≠ 0 by decide)
    have c1 := Int.emod_lt_of_pos (b * b + 48271 * b + 11) (show (0 : Int) < 2147483629 by decide)
    have e1 : H1 R = some (.lst [.int a, .int ((b * b + 48271 * b + 11) % 2147483629)]) := e1
    generalize (b * b + 48271 * b + 11) % 2147483629 = y at c0 c1 e1
    refine ⟨_, rfl, ex4 R _ _ _ ⟨rfl, rfl, SqL.of e1, at1, _, _, rfl, rfl, .inl ⟨by omega, by omega⟩, _, _, rfl, rfl, (by dsimp only; decide), ?_⟩⟩
    have d0 := Int.emod_nonneg (y * 40692) (show (2147483399 : Int) ≠ 0 by decide)
    have d1 := Int.emod_lt_of_pos (y * 40692) (show (0 : Int) < 2147483399 by decide)
    refine ⟨_, rfl, _, rfl, _, _, rfl, rfl, .inl ⟨by omega, by omega⟩, _, _, rfl, rfl, (by dsimp only; decide), ?_⟩
    exact q _ H1 (Int.emod_nonneg _ (by decide)) (Int.emod_lt_of_pos _ (by decide)) ⟨a, y, e1, c0, c1⟩ k1
abbrev nTake : List Str := ["_law_bits_here", "_law_size", "_law_found", "_law_wide"]
theorem scTake : FnScope nTake ["_law_bits_here", "_law_size"] (defScope sTake) := ⟨rfl, rfl, rfl, by decide +kernel, rfl, by decide +kernel, by decide +kernel⟩
theorem ok_take {f : Addr} {fd : FuncData} (F : Fun K "_law_take" "_law_take" sTake f fd) (Fn : FnAt P w K mg base 1 "_law_next" ["_law_bits_here"] spNext) : FnOk P w K mg base CX0 2 f fd ["_law_bits_here", "_law_size"] spTake := by
  refine F.ok scTake (fun vs H Q E h => ?_) (fun cdv A outer s H vs Q E hr h => ?_)
  · obtain ⟨R, m, rfl, _⟩ := h
    rfl
  · obtain ⟨R, m, rfl, bt, m0, m1, q⟩ := h
    have nd := scTake.nd
    have mm : ∀ y : Int, 0 ≤ y % m ∧ y % m < m := fun y => ⟨Int.emod_nonneg _ (by omega), Int.emod_lt_of_pos _ m0⟩
    refine ⟨_, pss_cons (ps_if (pt_cmpR op_gt (pe_ix ix_list (pv 0) pe_int (fun _ _ => rfl)) pe_int (nomark _))
        (pss_cons (ps_set (i := 2) nd rfl (Or.inl rfl) (pe_op op_mod (pe_ix ix_list (pv 0) pe_int (fun _ _ => rfl)) (pv 1))) <|
         pss_cons (ps_asg (pe_op op_fdivB (pe_ix ix_list (pv 0) pe_int (fun _ _ => rfl)) (pv 1)) (pg_sub (pv 0) pe_int set_listA)) <|
         pss_one <| ps_ret <| pv 2) pss_nil) <|
      pss_cons (ps_set (i := 2) nd rfl (Or.inl rfl) (pe_callF Fn hr (pa_cons (pv 0) pa_nil))) <|
      pss_cons (ps_set (i := 3) nd rfl (Or.inl rfl) pe_int) <|
      pss_cons (ps_while PassesOwn.never (pt_cmpR op_lt (pv 3) (pv 1) (nomark _))
        (pss_cons (ps_set (i := 2) nd rfl (Or.inl rfl) (pe_op op_add (pe_op op_mul (pv 2) pe_int) (pe_callF Fn hr (pa_cons (pv 0) pa_nil)))) <|
         pss_one (ps_set (i := 3) nd rfl (Or.inl rfl) (pe_op op_mul (pv 3) pe_int)))) <|
      pss_one <| ps_ret <| pe_op op_mod (pv 2) (pv 1), ?_⟩
    obtain ⟨a, b, hR, b0, b1⟩ := id bt
    refine ⟨_, rfl, ex4 R _ _ _ ⟨rfl, rfl, SqL.of hR, at0, _, _, rfl, rfl, _, rfl, ?_⟩⟩
    refine ite2 (fun _ => ?_) (fun _ => ?_)
    · refine ⟨_, rfl, ex4 R _ _ _ ⟨rfl, rfl, SqL.of hR, at0, _, rfl, _, _, rfl, rfl, m0, ?_⟩⟩
      refine ⟨_, rfl, ex4 R _ _ _ ⟨rfl, rfl, SqL.of hR, at0, _, rfl, _, _, rfl, rfl, ⟨m0, m1⟩, ?_⟩⟩
      refine ⟨_, rfl, R, _, 0, rfl, rfl, hR, by simp, fun H1 k1 e1 => ?_⟩
      exact ⟨_, rfl, q _ H1 (mm _).1 (mm _).2 ⟨_, b, e1, b0, b1⟩ k1⟩
    · refine ⟨_, rfl, R, rfl, bt, fun x H1 x0 x1 bt1 k1 => ?_⟩
      refine while_by (fun σ Hx => ∃ found wide : Int, σ = [some (V.ref R), some (V.int m), some (V.int found), some (V.int wide)] ∧ 0 < wide ∧ Bts Hx R ∧ ButR R H Hx) (fun σ _ => match σ with
        | [_, _, _, some (V.int wide)] => (m - wide).toNat
        | _ => 0) ⟨_, _, rfl, by decide, bt1, k1⟩ ?_ ?_
      · rintro σ Hx ⟨found, wide, rfl, w0, btx, kx⟩
        refine ⟨_, rfl, _, rfl, _, _, rfl, rfl, _, rfl, ?_⟩
        refine ite2 (fun z => ?_) (fun _ => ?_)
        · have z := of_decide_eq_true z
          refine ⟨_, rfl, _, _, rfl, rfl, .inr ⟨by decide, by decide⟩, _, rfl, R, rfl, btx, fun y H2 y0 y1 bt2 k2 => ?_⟩
          refine ⟨_, _, rfl, rfl, ?_⟩
          refine ⟨_, rfl, _, _, rfl, rfl, .inr ⟨by decide, by decide⟩, ?_⟩
          refine ⟨⟨_, _, rfl, by show 0 < wide * 998244353; omega, bt2, kx.trans k2⟩, ?_⟩
          show (m - wide * 998244353).toNat < (m - wide).toNat
          omega
        · exact ⟨_, rfl, _, rfl, _, _, rfl, rfl, m0, q _ Hx (mm _).1 (mm _).2 btx kx⟩
      · rintro σ Hx Q1 Q2 hq ⟨x, e1, y, e2, i, j, e3, e4, k, e5, h⟩
        exact ⟨x, e1, y, e2, i, j, e3, e4, k, e5, hq _ _ h⟩
end
end K23

set_option maxHeartbeats 2000000
namespace K23
open PySem L2
theorem nm_one {c : Nat} (h : okc c = true) : Nm ⟨#[c]⟩ := ⟨by show 1 ≤ 1; decide, by show 1 ≤ 8; decide, fun d hd => by
  have : d = c := by simpa using hd
  rw [this]; exact h⟩
abbrev pTake : List Str := ["_law_bits_here", "_law_size"]
abbrev pB : List Str := ["_law_bits_here"]
def isNum (z : Int) : Prop := -(10 ^ 60) < z ∧ z < 10 ^ 60
def spNumber : Sp := fun vs H Q _ => ∃ R : Addr, vs = [.ref R] ∧ Bts H R ∧ ∀ (z : Int) (H' : Hp), isNum z → Bts H' R → ButR R H H' → Q (.int z) H'
/-- the parts of a work -/
inductive Wk : List V → Prop
  | drop {x : Str} : Nm x → Wk [.str "drop", .str x]
  | put {x : Str} {z : Int} : Nm x → isNum z → Wk [.str "put", .str x, .int z]
  | add {x : Str} {z : Int} : Nm x → isNum z → Wk [.str "add", .str x, .int z]
def spWork : Sp := fun vs H Q _ => ∃ R : Addr, vs = [.ref R] ∧ Bts H R ∧ ∀ (t : Addr) (xs : List V) (H' : Hp), H t = none → H' t = some (.tup xs) → Wk xs → Bts H' R → ButR R H H' → Q (.ref t) H'
theorem fresh_of {R l : Addr} {H H' : Hp} (b : ButR R H H') (hl : H' l = none) (hR : l ≠ R) : H l = none := by
  cases eq : H l with
  | none => rfl
  | some o => rw [b l o hR eq] at hl; cases hl
section
variable {P : Program} {w : World} {K : PySem.W.Frag} {mg : Str → Option Value} {base : Heap}
abbrev nName : List Str := ["_law_bits_here", "_law_letters", "_law_name_here", "_law_k"]
theorem scName : FnScope nName pB (defScope sName) := ⟨rfl, rfl, rfl, by decide +kernel, rfl, by decide +kernel, by decide +kernel⟩
theorem ok_name {f : Addr} {fd : FuncData} (F : Fun K "_law_name" "_law_name" sName f fd) (hrange : mg "range" = none) (Ft : FnAt P w K mg base 2 "_law_take" pTake spTake) : FnOk P w K mg base CX0 3 f fd pB spName := by
  refine F.ok scName (fun vs H Q E h => ?_) (fun cdv A outer s H vs Q E hr h => ?_)
  · obtain ⟨R, rfl, _⟩ := h
    rfl
  · obtain ⟨R, rfl, bt, q⟩ := h
    have nd := scName.nd
    have hs16 : sizeLine = 16777216 := sizeLine_eq
    refine ⟨_, pss_cons (ps_set (i := 1) nd rfl (Or.inl rfl) pe_str) <|
      pss_cons (ps_if (pt_cmpR op_gt (pe_callF Ft hr (pa_cons (pv 0) (pa_cons pe_int pa_nil))) pe_int (nomark _)) (pss_one (ps_ret (pe_ix ix_str (pv 1) (pe_callF Ft hr (pa_cons (pv 0) (pa_cons pe_int pa_nil))) (fun _ _ => rfl)))) pss_nil) <|
      pss_cons (ps_set (i := 2) nd rfl (Or.inl rfl) pe_str) <|
      pss_cons (ps_for PassesOwn.never rfl (pi_range1 (by rfl) hrange (pa_cons (pe_op op_add pe_int (pe_callF Ft hr (pa_cons (pv 0) (pa_cons pe_int pa_nil)))) pa_nil)) (pg_name (i := 3) nd rfl (Or.inl rfl))
        (pss_one (ps_set (i := 2) nd rfl (Or.inl rfl) (pe_op op_add_str (pv 2) (pe_ix ix_str (pv 1) (pe_callF Ft hr (pa_cons (pv 0) (pa_cons pe_int pa_nil))) (fun _ _ => rfl)))))) <|
      pss_one <| ps_ret <| pv 2, ?_⟩
    refine ⟨_, rfl, R, 3, rfl, bt, by decide, by decide, fun z H1 z0 z1 bt1 k1 => ?_⟩
    refine ⟨_, _, rfl, rfl, _, rfl, ?_⟩
    refine ite2 (fun _ => ?_) (fun _ => ?_)
    · refine ⟨_, rfl, _, rfl, R, 5, rfl, bt1, by decide, by decide, fun y H2 y0 y1 bt2 k2 => ?_⟩
      obtain ⟨c, hc, hm⟩ := atI_in (xs := ABC.cps.toList) y0 (by rw [len_cps, abc_len]; omega)
      exact (ex3 _ _ c ⟨rfl, rfl, abc_le, hc, q _ H2 (nm_one (abc_ok c hm)) bt2 (k1.trans k2)⟩)
    · refine ⟨_, rfl, R, 8, rfl, bt1, by decide, by decide, fun n H2 n0 n1 bt2 k2 => ?_⟩
      refine ⟨_, _, rfl, rfl, 1 + n, rfl, by omega, by omega, for_range (lo := 0) (n := (1 + n).toNat) (fun i σ Hx => ∃ (x : Str) (kv : Option V), σ = [some (V.ref R), some (V.str ABC), some (V.str x), kv] ∧ x.length = i ∧ (∀ c ∈ x.cps.toList, okc c = true) ∧ Bts Hx R ∧ ButR R H Hx) ⟨Str.ofString "", none, rfl, rfl, fun c hc => absurd hc (by simp [show (Str.ofString "").cps.toList = [] from rfl]), bt2, k1.trans k2⟩ ?_ ?_⟩
      · rintro i σ Hx hi ⟨x, kv, rfl, hl, ho, btx, kx⟩
        refine ⟨_, rfl, _, rfl, _, rfl, R, 26, rfl, btx, by decide, by decide, fun y H3 y0 y1 bt3 k3 => ?_⟩
        obtain ⟨c, hc, hm⟩ := atI_in (xs := ABC.cps.toList) y0 (by rw [len_cps, abc_len]; omega)
        refine (ex3 _ _ c ⟨rfl, rfl, abc_le, hc, _, _, rfl, rfl, by show x.length + 1 ≤ sizeLine; omega, ?_⟩)
        refine ⟨x ++ ⟨#[c]⟩, _, rfl, by rw [Str.length_append, hl]; rfl, fun d hd => ?_, bt3, kx.trans k3⟩
        rw [cps_app] at hd
        rcases List.mem_append.mp hd with h | h
        · exact ho d h
        · have : d = c := by simpa using h
          rw [this]; exact abc_ok c hm
      · rintro σ Hx ⟨x, kv, rfl, hl, ho, btx, kx⟩
        exact ⟨_, rfl, q x Hx ⟨by omega, by omega, ho⟩ btx kx⟩
theorem scNumber : FnScope pB pB (defScope sNumber) := ⟨rfl, rfl, rfl, by decide +kernel, rfl, by decide +kernel, by decide +kernel⟩
theorem ok_number {f : Addr} {fd : FuncData} (F : Fun K "_law_number" "_law_number" sNumber f fd) (Ft : FnAt P w K mg base 2 "_law_take" pTake spTake) : FnOk P w K mg base CX0 3 f fd pB spNumber := by
  refine F.ok scNumber (fun vs H Q E h => ?_) (fun cdv A outer s H vs Q E hr h => ?_)
  · obtain ⟨R, rfl, _⟩ := h
    rfl
  · obtain ⟨R, rfl, bt, q⟩ := h
    have e60 : (10 : Int) ^ 60 = 1000000000000000000000000000000000000000000000000000000000000 := by decide
    refine ⟨_, pss_cons (ps_if (pt_cmpR op_gt (pe_callF Ft hr (pa_cons (pv 0) (pa_cons pe_int pa_nil))) pe_int (nomark _)) (pss_one (ps_ret (pe_op op_sub (pe_callF Ft hr (pa_cons (pv 0) (pa_cons pe_int pa_nil))) pe_int))) pss_nil) <|
      pss_one <| ps_ret <| pe_op op_add (pe_op op_sub (pe_callF Ft hr (pa_cons (pv 0) (pa_cons (pe_op op_sub (pe_op op_mul pe_int (pe_op op_pow pe_int pe_int)) pe_int) pa_nil))) (pe_op op_pow pe_int pe_int)) pe_int, ?_⟩
    refine ⟨_, rfl, R, 4, rfl, bt, by decide, by decide, fun z H1 z0 z1 bt1 k1 => ?_⟩
    refine ⟨_, _, rfl, rfl, _, rfl, ?_⟩
    refine ite2 (fun _ => ?_) (fun _ => ?_)
    · refine ⟨_, rfl, R, 9, rfl, bt1, by decide, by decide, fun y H2 y0 y1 bt2 k2 => ?_⟩
      refine ⟨_, _, rfl, rfl, q _ H2 ⟨?_, ?_⟩ bt2 (k1.trans k2)⟩ <;> rw [e60] <;> omega
    · refine ⟨_, rfl, _, _, rfl, rfl, ⟨by decide, by decide, by decide⟩, _, _, rfl, rfl, .inl ⟨by decide, by decide⟩, _, _, rfl, rfl, R, _, rfl, bt1, by decide, by decide, fun y H2 y0 y1 bt2 k2 => ?_⟩
      have y1 : y < 2 * (10 : Int) ^ 60 - 1 := y1
      refine ⟨_, _, rfl, rfl, ⟨by decide, by decide, by decide⟩, _, _, rfl, rfl, _, _, rfl, rfl, q _ H2 ⟨?_, ?_⟩ bt2 (k1.trans k2)⟩
      · show -(10 : Int) ^ 60 < y - 10 ^ 60 + 1
        rw [e60] at *; omega
      · show y - (10 : Int) ^ 60 + 1 < 10 ^ 60
        rw [e60] at *; omega
abbrev nWork : List Str := ["_law_bits_here", "_law_kind", "_law_key"]
theorem scWork : FnScope nWork pB (defScope sWork) := ⟨rfl, rfl, rfl, by decide +kernel, rfl, by decide +kernel, by decide +kernel⟩
theorem ok_work {f : Addr} {fd : FuncData} (F : Fun K "_law_work" "_law_work" sWork f fd) (Ft : FnAt P w K mg base 2 "_law_take" pTake spTake) (Fn : FnAt P w K mg base 3 "_law_name" pB spName) (Fo : FnAt P w K mg base 3 "_law_number" pB spNumber) : FnOk P w K mg base CX0 4 f fd pB spWork := by
  refine F.ok scWork (fun vs H Q E h => ?_) (fun cdv A outer s H vs Q E hr h => ?_)
  · obtain ⟨R, rfl, _⟩ := h
    rfl
  · obtain ⟨R, rfl, bt, q⟩ := h
    have nd := scWork.nd
    refine ⟨_, pss_cons (ps_set (i := 1) nd rfl (Or.inl rfl) (pe_ix ix_list (pe_lstA (pa_cons pe_str (pa_cons pe_str (pa_cons pe_str pa_nil)))) (pe_callF Ft (hr.mono (by decide)) (pa_cons (pv 0) (pa_cons pe_int pa_nil))) (fun _ _ => rfl))) <|
      pss_cons (ps_set (i := 2) nd rfl (Or.inl rfl) (pe_callF Fn hr (pa_cons (pv 0) pa_nil))) <|
      pss_cons (ps_if (pt_cmpR op_eq (pv 1) pe_str (nomark _)) (pss_one (ps_ret (pe_tupA (pa_cons (pv 1) (pa_cons (pv 2) pa_nil))))) pss_nil) <|
      pss_one <| ps_ret <| pe_tupA (pa_cons (pv 1) (pa_cons (pv 2) (pa_cons (pe_callF Fo hr (pa_cons (pv 0) pa_nil)) pa_nil))), ?_⟩
    refine ⟨(by show 3 ≤ sizeLine; decide), fun p H1 np s1 ep => ?_⟩
    have pR : p ≠ R := bt.ne np
    refine ⟨_, rfl, R, 3, rfl, bt.same s1, by decide, by decide, fun y H2 y0 y1 bt2 k2 => ?_⟩
    obtain ⟨v, hv, hm⟩ := atI_in (xs := [V.str "put", .str "add", .str "drop"]) y0 y1
    refine (ex4 p _ _ _ ⟨rfl, rfl, SqL.of (k2 _ _ pR ep), hv, ?_⟩)
    have b02 : ButR R H H2 := (ButR.of s1).trans k2
    refine ⟨_, rfl, R, rfl, bt2, fun x H3 hx bt3 k3 => ?_⟩
    have b03 := b02.trans k3
    simp only [List.mem_cons, List.not_mem_nil, or_false] at hm
    rcases hm with rfl | rfl | rfl
    · refine ⟨_, rfl, rfl, _, rfl, ?_⟩
      have e : decide (V.str "put" = V.str "drop") = false := by decide +kernel
      rw [e]
      refine iteF ?_
      refine ⟨_, rfl, _, rfl, _, rfl, R, rfl, bt3, fun z H4 hz bt4 k4 => ?_⟩
      refine ⟨(by show 3 ≤ sizeLine; decide), fun t H5 nt s5 et => ?_⟩
      exact q t _ H5 (fresh_of (b03.trans k4) nt (bt4.ne nt)) et (.put hx hz) (bt4.same s5) ((b03.trans k4).trans (ButR.of s5))
    · refine ⟨_, rfl, rfl, _, rfl, ?_⟩
      have e : decide (V.str "add" = V.str "drop") = false := by decide +kernel
      rw [e]
      refine iteF ?_
      refine ⟨_, rfl, _, rfl, _, rfl, R, rfl, bt3, fun z H4 hz bt4 k4 => ?_⟩
      refine ⟨(by show 3 ≤ sizeLine; decide), fun t H5 nt s5 et => ?_⟩
      exact q t _ H5 (fresh_of (b03.trans k4) nt (bt4.ne nt)) et (.add hx hz) (bt4.same s5) ((b03.trans k4).trans (ButR.of s5))
    · refine ⟨_, rfl, rfl, _, rfl, ?_⟩
      have e : decide (V.str "drop" = V.str "drop") = true := decide_eq_true rfl
      rw [e]
      refine iteT ?_
      refine ⟨_, rfl, _, rfl, (by show 2 ≤ sizeLine; decide), fun t H5 nt s5 et => ?_⟩
      exact q t _ H5 (fresh_of b03 nt (bt3.ne nt)) et (.drop hx) (bt3.same s5) (b03.trans (ButR.of s5))
end
end K23

set_option maxHeartbeats 2000000
namespace K23
open PySem L2
/-- the keys of a dict of texts -/
def Ks (kvs : List (Key × V)) (ss : List Str) : Prop := kvs.map (·.1) = ss.map Sum.inr
theorem ks_put {kvs : List (Key × V)} {ss : List Str} {v : V} (x : Str) (h : Ks kvs ss) : Ks (putK kvs (Sum.inr x) v) (if x ∈ ss then ss else ss ++ [x]) := by
  unfold Ks at *
  unfold putK
  have hany : (kvs.any fun kv => decide (kv.1 = Sum.inr x)) = decide (x ∈ ss) := by
    have : (kvs.any fun kv => decide (kv.1 = Sum.inr x)) = (kvs.map (·.1)).any fun k => decide (k = (Sum.inr x : Key)) := by rw [List.any_map]; rfl
    rw [this, h, List.any_map, Bool.eq_iff_iff, List.any_eq_true, decide_eq_true_iff]
    constructor
    · rintro ⟨y, hy, e⟩
      have e : (Sum.inr y : Key) = Sum.inr x := of_decide_eq_true e
      cases e
      exact hy
    · intro hx
      exact ⟨x, hx, decide_eq_true rfl⟩
  rw [hany]
  by_cases hx : x ∈ ss
  · rw [if_pos (decide_eq_true hx), if_pos hx, ← h, List.map_map]
    refine List.map_congr_left fun p _ => ?_
    show (if p.1 = Sum.inr x then (p.1, v) else p).1 = p.1
    split <;> rfl
  · rw [if_neg (by rw [decide_eq_false hx]; decide), if_neg hx, List.map_append, List.map_append, h]
    rfl
abbrev pNames : List Str := ["_law_bits_here", "_law_least", "_law_most", "_law_apart"]
abbrev nNames : List Str := ["_law_bits_here", "_law_least", "_law_most", "_law_apart", "_law_found", "_law_k"]
theorem ndNm : (nNames ++ (["_law_name_here"] : List Str)).Nodup := by decide +kernel
def spNames : Sp := fun vs H Q _ => ∃ (R ap : Addr) (lo hi : Int) (as : List Str), vs = [.ref R, .int lo, .int hi, .ref ap] ∧ Bts H R ∧ H ap = some (.tup (as.map V.str)) ∧ 0 ≤ lo ∧ lo ≤ hi ∧ hi ≤ 20 ∧
  ∀ (t : Addr) (ys : List Str) (H' : Hp), H t = none → H' t = some (.tup (ys.map V.str)) → ys.Pairwise ltS → (∀ y ∈ ys, Nm y) → (∀ y ∈ ys, y ∉ as) → (ys.length : Int) ≤ hi → (1 ≤ lo → as = [] → 1 ≤ ys.length) → Bts H' R → ButR R H H' → Q (.ref t) H'
section
variable {P : Program} {w : World} {K : PySem.W.Frag} {mg : Str → Option Value} {base : Heap}
theorem scNames : FnScope nNames pNames (defScope sNames) := ⟨rfl, rfl, rfl, by decide +kernel, rfl, by decide +kernel, by decide +kernel⟩
theorem ok_names {f : Addr} {fd : FuncData} (F : Fun K "_law_names" "_law_names" sNames f fd) (hrange : mg "range" = none) (htuple : mg "tuple" = none) (hsorted : mg "sorted" = none) (Ft : FnAt P w K mg base 2 "_law_take" pTake spTake) (Fn : FnAt P w K mg base 3 "_law_name" pB spName) : FnOk P w K mg base CX0 4 f fd pNames spNames := by
  refine F.ok scNames (fun vs H Q E h => ?_) (fun cdv A outer s H vs Q E hr h => ?_)
  · obtain ⟨R, ap, lo, hi, as, rfl, _⟩ := h
    rfl
  · obtain ⟨R, ap, lo, hi, as, rfl, bt, hap, l0, l1, l2, q⟩ := h
    have nd := scNames.nd
    have hu := hu_of hr
    have hs16 : sizeLine = 16777216 := sizeLine_eq
    refine ⟨_, pss_cons (ps_set (i := 4) nd rfl (Or.inl rfl) pe_dnewK) <|
      pss_cons (ps_for PassesOwn.never rfl (pi_range1 (by rfl) hrange (pa_cons (pe_op op_add (pv 1) (pe_callF Ft (hr.mono (by decide)) (pa_cons (pv 0) (pa_cons (pe_op op_add (pe_op op_sub (pv 2) (pv 1)) pe_int) pa_nil)))) pa_nil)) (pg_name (i := 5) nd rfl (Or.inl rfl))
        (pss_one (ps_dput hu (pv 4) (pe_callF Fn hr (pa_cons (pv 0) pa_nil)) pe_bl rfl))) <|
      pss_one <| ps_ret <| pe_callTy call_tupleA (by rfl) htuple bTuple (pa_cons (pe_callB call_sortL (by rfl) hsorted bSorted (pa_cons
        (pe_lc nNames nNames ["_law_name_here"] (defScope sNames) rfl rfl rfl (by decide +kernel) rfl rfl (by decide +kernel) (by decide +kernel) (by decide +kernel) (by decide +kernel)
          (pi_dict (pv 4)) (fun _ _ _ _ _ => pg_name (i := 6) ndNm rfl (Or.inl rfl)) (fun _ _ _ _ _ => pts_one (pt_cmpR op_notIn_seqC (pv 6) (pv 3) (by rfl))) (fun _ _ _ _ _ => pv 6)) pa_nil)) pa_nil), ?_⟩
    intro d hd
    have dR : d ≠ R := bt.ne hd
    have dap : ap ≠ d := ne_of_none hap hd
    have apR : ap ≠ R := bt.neT hap
    have s0 := Same.new (o := .dK []) hd
    have e0 : upd H d (.dK []) d = some (.dK []) := upd_same
    generalize upd H d (.dK []) = H0 at s0 e0 ⊢
    refine ⟨_, rfl, _, rfl, _, rfl, _, rfl, _, _, rfl, rfl, _, _, rfl, rfl, R, hi - lo + 1, rfl, bt.same s0, by omega, by omega, fun z H1 z0 z1 bt1 k1 => ?_⟩
    refine ⟨_, _, rfl, rfl, lo + z, rfl, by omega, by omega, for_range (lo := 0) (n := (lo + z).toNat) (fun i σ Hx => ∃ (kvs : List (Key × V)) (ss : List Str) (kv : Option V), σ = [some (V.ref R), some (V.int lo), some (V.int hi), some (V.ref ap), some (V.ref d), kv] ∧ Hx d = some (.dK kvs) ∧ Ks kvs ss ∧ ss.Nodup ∧ (∀ y ∈ ss, Nm y) ∧ ss.length ≤ i ∧ (1 ≤ i → 1 ≤ ss.length) ∧ Bts Hx R ∧ ButR R H Hx)
      ⟨[], [], none, rfl, k1 _ _ dR e0, rfl, List.nodup_nil, fun y hy => absurd hy (by simp), Nat.zero_le _, fun h => absurd h (by omega), bt1, (ButR.of s0).trans k1⟩ ?_ ?_⟩
    · rintro i σ Hx hi2 ⟨kvs, ss, kv, rfl, hdx, hks, hsn, hsm, hsl, hs1, btx, kx⟩
      have hkl : kvs.length = ss.length := by have := congrArg List.length hks; simpa using this
      refine ⟨_, rfl, _, rfl, R, rfl, btx, fun x H2 hx bt2 k2 => ?_⟩
      refine ⟨d, _, rfl, DPut.k (k := Sum.inr x) (k2 _ _ dR hdx) (by omega), ?_⟩
      refine (ex3 _ _ _ ⟨rfl, upd_same, ks_put x hks, ?_, ?_, ?_, ?_, ?_, ?_⟩)
      · split
        · exact hsn
        · rename_i hn
          exact List.nodup_append.mpr ⟨hsn, by simp, fun a ha b hb => by rw [List.mem_singleton.mp hb]; rintro rfl; exact hn ha⟩
      · intro y hy
        split at hy
        · exact hsm y hy
        · rcases List.mem_append.mp hy with h | h
          · exact hsm y h
          · rw [List.mem_singleton.mp h]; exact hx
      · split
        · omega
        · rw [List.length_append]; simp only [List.length_cons, List.length_nil]; omega
      · intro _
        split
        · rename_i hin
          exact List.length_pos_of_mem hin
        · rw [List.length_append]; simp only [List.length_cons, List.length_nil]; omega
      · obtain ⟨u, v, e1, e2⟩ := bt2
        exact ⟨u, v, by rw [upd_ne dR.symm]; exact e1, e2⟩
      · exact fun c o hc e => by rw [upd_ne (ne_of_none e hd)]; exact k2 c o hc (kx c o hc e)
    · rintro σ Hx ⟨kvs, ss, kv, rfl, hdx, hks, hsn, hsm, hsl, hs1, btx, kx⟩
      have hapx := kx _ _ apR hap
      refine ⟨_, rfl, ex3 d kvs ss ⟨rfl, hdx, hks, fun o H2 k2 e2 => ?_⟩⟩
      have hap2 := k2 _ _ dap hapx
      refine lcFD (fun x => !decide (x ∈ as)) rfl e2 (by omega) (fun D x ys post hD hx hp => ?_) (fun D hD => ?_)
      · refine ⟨_, rfl, _, rfl, ap, _, rfl, .inr (SqT.of (by rw [upd_ne (ne_of_none hap2 hD)]; exact hap2)), rfl, flat_strs as, _, rfl, ?_⟩
        rw [inV_str]
        exact hp
      have hfl : (ss.filter fun x => !decide (x ∈ as)).length ≤ ss.length := List.length_filter_le _ _
      refine ⟨D, _, rfl, SqL.of upd_same, by omega, fun l ys H3 nl s3 e3 hpy hsy => ?_⟩
      refine ⟨l, _, rfl, SqL.of e3, fun t H4 nt s4 et => ?_⟩
      have bt2 : Bts H2 R := by
        obtain ⟨u, v, e1, r⟩ := btx
        exact ⟨u, v, k2 _ _ dR.symm e1, r⟩
      have bt3 : Bts H3 R := (bt2.same (.new hD)).same s3
      have b03 : ButR R H H3 := fun c o hc e => s3 _ _ ((Same.new hD) _ _ (k2 _ _ (ne_of_none e hd) (kx c o hc e)))
      have hfn : (ss.filter fun x => !decide (x ∈ as)).Nodup := hsn.filter _
      refine q t ys H4 (fresh_of b03 nt (bt3.ne nt)) et (rising_of hsy (hpy.nodup_iff.mpr hfn)) (fun y hy => hsm y (List.mem_filter.mp (hpy.mem_iff.mp hy)).1) (fun y hy hin => ?_) (by rw [hpy.length_eq]; omega) (fun h1 h2 => ?_) (bt3.same s4) (b03.trans (ButR.of s4))
      · have := (List.mem_filter.mp (hpy.mem_iff.mp hy)).2
        rw [decide_eq_true hin] at this
        cases this
      · rw [hpy.length_eq, h2, List.filter_eq_self.mpr fun x _ => by simp]
        exact hs1 (by omega)
end
end K23

set_option maxHeartbeats 2000000
namespace K23
open PySem L2
theorem bAbs' : bootBuiltins "abs" = some (.builtin "abs") := by decide +kernel
/-- a bench, as it lies: voters, coming, learners -/
structure BenchAt (H : Hp) (b : Addr) (vs cs ls : List Str) : Prop where
  at' : ∃ v c l : Addr, H b = some (.tup [.ref v, .ref c, .ref l]) ∧ H v = some (.tup (vs.map V.str)) ∧ H c = some (.tup (cs.map V.str)) ∧ H l = some (.tup (ls.map V.str))
  vr : vs.Pairwise ltS
  cr : cs.Pairwise ltS
  lr : ls.Pairwise ltS
  nm : ∀ x, x ∈ vs ∨ x ∈ cs ∨ x ∈ ls → Nm x
  v1 : 1 ≤ vs.length
  v7 : vs.length ≤ 7
  c7 : cs.length ≤ 7
  l4 : ls.length ≤ 4
  apart : ∀ x ∈ ls, x ∉ (if cs = [] then vs else cs)
/-- tuples stay -/
structure TupS (H H' : Hp) : Prop where
  t : ∀ b xs, H b = some (.tup xs) → H' b = some (.tup xs)
  f : ∀ b o xs, H b = some (.frz o (.tup xs)) → H' b = some (.frz o (.tup xs))
instance {H H' : Hp} : CoeFun (TupS H H') (fun _ => ∀ b xs, H b = some (.tup xs) → H' b = some (.tup xs)) := ⟨TupS.t⟩
theorem Bts.neF {H : Hp} {R b : Addr} {o : Obj} {xs : List V} (r : Bts H R) (h : H b = some (.frz o (.tup xs))) : b ≠ R := by
  obtain ⟨p, q, hr, _⟩ := r
  rintro rfl
  rw [hr] at h
  cases h
theorem TupS.of {H H' : Hp} (e : Same H H') : TupS H H' := ⟨fun b xs h => e _ _ h, fun b o xs h => e _ _ h⟩
theorem TupS.but {H H' : Hp} {R : Addr} (r : Bts H R) (e : ButR R H H') : TupS H H' := ⟨fun b xs h => e _ _ (r.neT h) h, fun b o xs h => e _ _ (r.neF h) h⟩
theorem TupS.trans {H H1 H2 : Hp} (a : TupS H H1) (b : TupS H1 H2) : TupS H H2 := ⟨fun c xs h => b c xs (a c xs h), fun c o xs h => b.f c o xs (a.f c o xs h)⟩
theorem BenchAt.keep {H H' : Hp} {b : Addr} {vs cs ls : List Str} (e : TupS H H') (h : BenchAt H b vs cs ls) : BenchAt H' b vs cs ls := by
  obtain ⟨⟨v, c, l, h1, h2, h3, h4⟩, r1, r2, r3, r4, r5, r6, r7, r8, r9⟩ := h
  exact ⟨⟨v, c, l, e _ _ h1, e _ _ h2, e _ _ h3, e _ _ h4⟩, r1, r2, r3, r4, r5, r6, r7, r8, r9⟩
def spBench : Sp := fun us H Q _ => ∃ R : Addr, us = [.ref R] ∧ Bts H R ∧ ∀ (b : Addr) (vs cs ls : List Str) (H' : Hp), H b = none → BenchAt H' b vs cs ls → Bts H' R → ButR R H H' → Q (.ref b) H'
inductive DeedAt (H : Hp) (t : Addr) : Prop
  | first : H t = some (.tup [.str "first"]) → DeedAt H t
  | bench {b : Addr} {vs cs ls : List Str} : H t = some (.tup [.str "bench", .ref b]) → BenchAt H b vs cs ls → DeedAt H t
  | ask {x : Str} {n : Int} {k : Addr} {xs : List V} : H t = some (.tup [.str "ask", .str x, .int n, .ref k]) → Nm x → 1 ≤ n → n < 10 ^ 60 → H k = some (.tup xs) → Wk xs → DeedAt H t
theorem DeedAt.keep {H H' : Hp} {t : Addr} (e : TupS H H') (h : DeedAt H t) : DeedAt H' t := by
  cases h with
  | first h => exact .first (e _ _ h)
  | bench h b => exact .bench (e _ _ h) (b.keep e)
  | ask h1 h2 h3 h4 h5 h6 => exact .ask (e _ _ h1) h2 h3 h4 (e _ _ h5) h6
def spDeed : Sp := fun us H Q _ => ∃ R : Addr, us = [.ref R] ∧ Bts H R ∧ ∀ (t : Addr) (H' : Hp), H t = none → DeedAt H' t → Bts H' R → ButR R H H' → Q (.ref t) H'
/-- an entry, as it lies -/
def EntryAt (H : Hp) (e : Addr) (tm : Int) : Prop := ∃ d : Addr, H e = some (.tup [.int tm, .ref d]) ∧ DeedAt H d ∧ 1 ≤ tm
theorem EntryAt.keep {H H' : Hp} {e : Addr} {tm : Int} (k : TupS H H') (h : EntryAt H e tm) : EntryAt H' e tm := by
  obtain ⟨d, h1, h2, h3⟩ := h
  exact ⟨d, k _ _ h1, h2.keep k, h3⟩
def spEntry : Sp := fun us H Q _ => ∃ c k tm : Int, us = [.int c, .int k, .int tm] ∧ 0 ≤ tm ∧ ∀ (e : Addr) (tm' : Int) (H' : Hp), H e = none → EntryAt H' e tm' → Same H H' → Q (.ref e) H'
theorem same_of {H H1 H2 : Hp} {R : Addr} (hR : H R = none) (s : Same H H1) (b : ButR R H1 H2) : Same H H2 := fun c o e => b c o (ne_of_none e hR) (s c o e)
abbrev nBench : List Str := ["_law_bits_here", "_law_voters", "_law_coming"]
section
variable {P : Program} {w : World} {K : PySem.W.Frag} {mg : Str → Option Value} {base : Heap}
theorem scBench : FnScope nBench pB (defScope sBench) := ⟨rfl, rfl, rfl, by decide +kernel, rfl, by decide +kernel, by decide +kernel⟩
theorem ok_bench {f : Addr} {fd : FuncData} (F : Fun K "_law_bench" "_law_bench" sBench f fd) (Ft : FnAt P w K mg base 2 "_law_take" pTake spTake) (Fn : FnAt P w K mg base 4 "_law_names" pNames spNames) : FnOk P w K mg base CX0 5 f fd pB spBench := by
  refine F.ok scBench (fun us H Q E h => ?_) (fun cdv A outer s H us Q E hr h => ?_)
  · obtain ⟨R, rfl, _⟩ := h
    rfl
  · obtain ⟨R, rfl, bt, q⟩ := h
    have nd := scBench.nd
    refine ⟨_, pss_cons (ps_set (i := 1) nd rfl (Or.inl rfl) (pe_callF Fn hr (pa_cons (pv 0) (pa_cons pe_int (pa_cons pe_int (pa_cons (pe_tupA pa_nil) pa_nil)))))) <|
      pss_cons (ps_set (i := 2) nd rfl (Or.inl rfl) (pe_tupA pa_nil)) <|
      pss_cons (ps_if (pt_cmpR op_eq (pe_callF Ft (hr.mono (by decide)) (pa_cons (pv 0) (pa_cons pe_int pa_nil))) pe_int (nomark _)) (pss_one (ps_set (i := 2) nd rfl (Or.inl rfl) (pe_callF Fn hr (pa_cons (pv 0) (pa_cons pe_int (pa_cons pe_int (pa_cons (pe_tupA pa_nil) pa_nil))))))) pss_nil) <|
      pss_one <| ps_ret <| pe_tupA (pa_cons (pv 1) (pa_cons (pv 2) (pa_cons (pe_callF Fn hr (pa_cons (pv 0) (pa_cons pe_int (pa_cons pe_int (pa_cons (pe_orS (pv 2) (pv 1)) pa_nil))))) pa_nil))), ?_⟩
    refine ⟨_, rfl, Nat.zero_le _, fun t1 H1 n1 s1 e1 => ?_⟩
    have bt1 := bt.same s1
    refine ⟨R, t1, 1, 5, [], rfl, bt1, e1, by decide, by decide, by decide, fun v vs H2 nv ev hvr hvn _ hv5 hv1 bt2 k2 => ?_⟩
    have vv1 := hv1 (by decide) rfl
    refine ⟨Nat.zero_le _, fun c0 H3 nc s3 ec => ?_⟩
    have ec : H3 c0 = some (.tup (([] : List Str).map V.str)) := ec
    have bt3 := bt2.same s3
    refine ⟨_, rfl, R, 2, rfl, bt3, by decide, by decide, fun x H4 x0 x1 bt4 k4 => ?_⟩
    have ev4 := k4 _ _ (bt3.neT (s3 _ _ ev)) (s3 _ _ ev)
    have ec4 := k4 _ _ (bt3.neT ec) ec
    have b04 : ButR R H H4 := (((ButR.of s1).trans k2).trans (ButR.of s3)).trans k4
    refine ⟨rfl, _, rfl, ?_⟩
    refine ite2 (fun _ => ?_) (fun _ => ?_)
    · refine ⟨_, rfl, Nat.zero_le _, fun t2 H5 n5 s5 e5 => ?_⟩
      have bt5 := bt4.same s5
      refine ⟨R, t2, 1, 5, [], rfl, bt5, e5, by decide, by decide, by decide, fun c cs H6 nc6 ec6 hcr hcn _ hc5 hc1 bt6 k6 => ?_⟩
      have cc1 := hc1 (by decide) rfl
      have ev6 := k6 _ _ (bt5.neT (s5 _ _ ev4)) (s5 _ _ ev4)
      have hcs : cs ≠ [] := by rintro rfl; simp at cc1
      have b06 := (b04.trans (ButR.of s5)).trans k6
      refine ⟨_, rfl, _, rfl, _, rfl, _, rfl, _, .inr (.inl ⟨_, SqT.of ec6, rfl⟩), ?_⟩
      have he : (!(cs.map V.str).isEmpty) = true := by
        rw [Bool.not_eq_true', List.isEmpty_eq_false_iff]
        exact fun z => hcs (List.map_eq_nil_iff.mp z)
      rw [he]
      refine iteT ?_
      refine ⟨R, c, 0, 4, cs, rfl, bt6, ec6, by decide, by decide, by decide, fun l ls H7 nl el hlr hln hla hl4 _ bt7 k7 => ?_⟩
      refine ⟨(by show 3 ≤ sizeLine; decide), fun b H8 nb s8 eb => ?_⟩
      have b07 := b06.trans k7
      refine q b vs cs ls H8 (fresh_of b07 nb (bt7.ne nb)) ⟨⟨v, c, l, eb, s8 _ _ (k7 _ _ (bt6.neT ev6) ev6), s8 _ _ (k7 _ _ (bt6.neT ec6) ec6), s8 _ _ el⟩, hvr, hcr, hlr, fun y hy => ?_, by omega, by omega, by omega, by omega, fun y hy => by rw [if_neg hcs]; exact hla y hy⟩ (bt7.same s8) (b07.trans (ButR.of s8))
      rcases hy with h | h | h
      · exact hvn y h
      · exact hcn y h
      · exact hln y h
    · refine ⟨_, rfl, _, rfl, _, rfl, _, rfl, _, .inr (.inl ⟨_, SqT.of ec4, rfl⟩), ?_⟩
      refine iteF ?_
      refine ⟨_, rfl, R, v, 0, 4, vs, rfl, bt4, ev4, by decide, by decide, by decide, fun l ls H7 nl el hlr hln hla hl4 _ bt7 k7 => ?_⟩
      refine ⟨(by show 3 ≤ sizeLine; decide), fun b H8 nb s8 eb => ?_⟩
      have b07 := b04.trans k7
      refine q b vs [] ls H8 (fresh_of b07 nb (bt7.ne nb)) ⟨⟨v, c0, l, eb, s8 _ _ (k7 _ _ (bt4.neT ev4) ev4), s8 _ _ (k7 _ _ (bt4.neT ec4) ec4), s8 _ _ el⟩, hvr, List.Pairwise.nil, hlr, fun y hy => ?_, by omega, by omega, by simp, by omega, fun y hy => by rw [if_pos rfl]; exact hla y hy⟩ (bt7.same s8) (b07.trans (ButR.of s8))
      rcases hy with h | h | h
      · exact hvn y h
      · exact absurd h (by simp)
      · exact hln y h
theorem scDeed : FnScope ["_law_bits_here", "_law_kind"] pB (defScope sDeed) := ⟨rfl, rfl, rfl, by decide +kernel, rfl, by decide +kernel, by decide +kernel⟩
theorem ok_deed {f : Addr} {fd : FuncData} (F : Fun K "_law_deed" "_law_deed" sDeed f fd) (habs : mg "abs" = none) (Ft : FnAt P w K mg base 2 "_law_take" pTake spTake) (Fb : FnAt P w K mg base 5 "_law_bench" pB spBench) (Fn : FnAt P w K mg base 3 "_law_name" pB spName) (Fo : FnAt P w K mg base 3 "_law_number" pB spNumber) (Fw : FnAt P w K mg base 4 "_law_work" pB spWork) : FnOk P w K mg base CX0 6 f fd pB spDeed := by
  refine F.ok scDeed (fun us H Q E h => ?_) (fun cdv A outer s H us Q E hr h => ?_)
  · obtain ⟨R, rfl, _⟩ := h
    rfl
  · obtain ⟨R, rfl, bt, q⟩ := h
    have nd := scDeed.nd
    refine ⟨_, pss_cons (ps_set (i := 1) nd rfl (Or.inl rfl) (pe_callF Ft (hr.mono (by decide)) (pa_cons (pv 0) (pa_cons pe_int pa_nil)))) <|
      pss_cons (ps_if (pt_cmpR op_eq (pv 1) pe_int (nomark _)) (pss_one (ps_ret (pe_tupA (pa_cons pe_str pa_nil)))) pss_nil) <|
      pss_cons (ps_if (pt_cmpR op_lt (pv 1) pe_int (nomark _)) (pss_one (ps_ret (pe_tupA (pa_cons pe_str (pa_cons (pe_callF Fb hr (pa_cons (pv 0) pa_nil)) pa_nil))))) pss_nil) <|
      pss_one <| ps_ret <| pe_tupA (pa_cons pe_str (pa_cons (pe_callF Fn (hr.mono (by decide)) (pa_cons (pv 0) pa_nil)) (pa_cons (pe_op op_add pe_int (pe_op op_mod (pe_callB call_abs (by rfl) habs bAbs' (pa_cons (pe_callF Fo (hr.mono (by decide)) (pa_cons (pv 0) pa_nil)) pa_nil)) (pe_op op_sub (pe_op op_pow pe_int pe_int) pe_int)))
        (pa_cons (pe_callF Fw (hr.mono (by decide)) (pa_cons (pv 0) pa_nil)) pa_nil)))), ?_⟩
    refine ⟨_, rfl, R, 6, rfl, bt, by decide, by decide, fun z H1 z0 z1 bt1 k1 => ?_⟩
    refine ⟨_, rfl, rfl, _, rfl, ?_⟩
    refine ite2 (fun _ => ?_) (fun _ => ?_)
    · refine ⟨(by show 1 ≤ sizeLine; decide), fun t H2 nt s2 et => ?_⟩
      exact q t H2 (fresh_of k1 nt (bt1.ne nt)) (.first et) (bt1.same s2) (k1.trans (ButR.of s2))
    refine ⟨_, rfl, _, _, rfl, rfl, _, rfl, ?_⟩
    refine ite2 (fun _ => ?_) (fun _ => ?_)
    · refine ⟨_, rfl, R, rfl, bt1, fun b vs cs ls H2 nb hb bt2 k2 => ?_⟩
      refine ⟨(by show 2 ≤ sizeLine; decide), fun t H3 nt s3 et => ?_⟩
      exact q t H3 (fresh_of (k1.trans k2) nt (bt2.ne nt)) (.bench et (hb.keep (.of s3))) (bt2.same s3) ((k1.trans k2).trans (ButR.of s3))
    · refine ⟨_, rfl, R, rfl, bt1, fun x H2 hx bt2 k2 => ?_⟩
      refine ⟨_, rfl, R, rfl, bt2, fun n H3 hn bt3 k3 => ?_⟩
      refine ⟨_, rfl, _, _, rfl, rfl, ⟨by decide, by decide, by decide⟩, _, _, rfl, rfl, _, _, rfl, rfl, (by show (0 : Int) < 10 ^ 60 - 1; decide), _, _, rfl, rfl, ?_⟩
      refine ⟨_, rfl, R, rfl, bt3, fun k xs H4 nk ek hk bt4 k4 => ?_⟩
      refine ⟨(by show 4 ≤ sizeLine; decide), fun t H5 nt s5 et => ?_⟩
      have b04 := ((k1.trans k2).trans k3).trans k4
      have c0 := Int.emod_nonneg (if n < 0 then -n else n) (show ((10 : Int) ^ 60 - 1) ≠ 0 by decide)
      have c1 := Int.emod_lt_of_pos (if n < 0 then -n else n) (show (0 : Int) < 10 ^ 60 - 1 by decide)
      have et : H5 t = some (.tup [.str "ask", .str x, .int (1 + (if n < 0 then -n else n) % (10 ^ 60 - 1)), .ref k]) := et
      exact q t H5 (fresh_of b04 nt (bt4.ne nt)) (.ask et hx (by omega) (by omega) (s5 _ _ ek) hk) (bt4.same s5) (b04.trans (ButR.of s5))
end
end K23

set_option maxHeartbeats 2000000
namespace K23
open PySem L2
abbrev pEntry : List Str := ["_law_cell", "_law_k", "_law_term"]
abbrev nEntry : List Str := ["_law_cell", "_law_k", "_law_term", "_law_bits_here", "_law_way"]
theorem six_in : ∀ v ∈ [V.int 0, .int 0, .int 0, .int 1, .int 1, .int 2], ∃ z : Int, v = .int z ∧ 0 ≤ z := by
  intro v hv
  simp only [List.mem_cons, List.not_mem_nil, or_false] at hv
  rcases hv with rfl | rfl | rfl | rfl | rfl | rfl <;> exact ⟨_, rfl, by decide⟩
section
variable {P : Program} {w : World} {K : PySem.W.Frag} {mg : Str → Option Value} {base : Heap}
theorem scEntry : FnScope nEntry pEntry (defScope sEntry) := ⟨rfl, rfl, rfl, by decide +kernel, rfl, by decide +kernel, by decide +kernel⟩
theorem ok_entry {f : Addr} {fd : FuncData} (F : Fun K "_law_entry" "_law_entry" sEntry f fd) (hmax : mg "max" = none) (Fb : FnAt P w K mg base 1 "_law_bits" ["_law_cell", "_law_k"] spBits) (Ft : FnAt P w K mg base 2 "_law_take" pTake spTake) (Fd : FnAt P w K mg base 6 "_law_deed" pB spDeed) : FnOk P w K mg base CX0 7 f fd pEntry spEntry := by
  refine F.ok scEntry (fun us H Q E h => ?_) (fun cdv A outer s H us Q E hr h => ?_)
  · obtain ⟨c, k, tm, rfl, _⟩ := h
    rfl
  · obtain ⟨c, k, tm, rfl, t0, q⟩ := h
    have nd := scEntry.nd
    have r2 : Room 2 _ := hr.mono (by decide)
    refine ⟨_, pss_cons (ps_set (i := 3) nd rfl (Or.inl rfl) (pe_callF Fb (hr.mono (by decide)) (pa_cons (pv 0) (pa_cons (pv 1) pa_nil)))) <|
      pss_cons (ps_set (i := 4) nd rfl (Or.inl rfl) (pe_callF Ft r2 (pa_cons (pv 3) (pa_cons pe_int pa_nil)))) <|
      pss_cons (ps_if (pt_cmpR op_lt (pv 4) pe_int (nomark _)) (pss_one (ps_set (i := 2) nd rfl (Or.inl rfl) (pe_callB (call_max2 rfl) (by rfl) hmax bMax (pa_cons pe_int (pa_cons (pe_op op_add (pv 2) (pe_ix ix_list (pe_lstA (pa_cons pe_int (pa_cons pe_int (pa_cons pe_int (pa_cons pe_int (pa_cons pe_int (pa_cons pe_int pa_nil))))))) (pv 4) (fun _ _ => rfl))) pa_nil)))))
        (pss_one (ps_if (pt_cmpR op_eq (pv 4) pe_int (nomark _)) (pss_one (ps_set (i := 2) nd rfl (Or.inl rfl) (pe_op op_add pe_int (pe_callF Ft r2 (pa_cons (pv 3) (pa_cons pe_int pa_nil))))))
          (pss_one (ps_set (i := 2) nd rfl (Or.inl rfl) (pe_op op_add pe_int (pe_callF Ft r2 (pa_cons (pv 3) (pa_cons (pe_op op_pow pe_int pe_int) pa_nil))))))))) <|
      pss_one <| ps_ret <| pe_tupA (pa_cons (pv 2) (pa_cons (pe_callF Fd hr (pa_cons (pv 3) pa_nil)) pa_nil)), ?_⟩
    refine ⟨_, rfl, _, rfl, c, k, rfl, fun R H1 nR s1 bt1 => ?_⟩
    refine ⟨_, rfl, R, 8, rfl, bt1, by decide, by decide, fun z H2 z0 z1 bt2 k2 => ?_⟩
    refine ⟨_, rfl, _, _, rfl, rfl, _, rfl, ?_⟩
    refine ite2 (fun z6 => ?_) (fun _ => ?_)
    · have z6 := of_decide_eq_true z6
      refine ⟨_, rfl, (by show 6 ≤ sizeLine; decide), fun p H3 np s3 ep => ?_⟩
      obtain ⟨v, hv, hm⟩ := atI_in (xs := [V.int 0, .int 0, .int 0, .int 1, .int 1, .int 2]) z0 z6
      obtain ⟨y, rfl, y0⟩ := six_in v hm
      refine ⟨_, rfl, ex4 p _ _ _ ⟨rfl, rfl, SqL.of ep, hv, _, _, rfl, rfl, _, _, rfl, ?_⟩⟩
      refine ⟨_, rfl, _, rfl, R, rfl, bt2.same s3, fun d H4 nd4 hd bt4 k4 => ?_⟩
      refine ⟨(by show 2 ≤ sizeLine; decide), fun e H5 ne s5 ee => ?_⟩
      have sH := same_of nR s1 ((k2.trans (ButR.of s3)).trans k4)
      refine q e _ H5 (sH.free ne) ⟨d, ee, hd.keep (.of s5), ?_⟩ (sH.trans s5)
      split <;> omega
    · refine ⟨_, rfl, rfl, _, rfl, ?_⟩
      refine ite2 (fun _ => ?_) (fun _ => ?_)
      · refine ⟨_, rfl, R, 5, rfl, bt2, by decide, by decide, fun y H3 y0 y1 bt3 k3 => ?_⟩
        refine ⟨_, _, rfl, rfl, ?_⟩
        refine ⟨_, rfl, _, rfl, R, rfl, bt3, fun d H4 nd4 hd bt4 k4 => ?_⟩
        refine ⟨(by show 2 ≤ sizeLine; decide), fun e H5 ne s5 ee => ?_⟩
        have sH := same_of nR s1 ((k2.trans k3).trans k4)
        exact q e _ H5 (sH.free ne) ⟨d, ee, hd.keep (.of s5), by show 1 ≤ 1 + y; omega⟩ (sH.trans s5)
      · refine ⟨_, rfl, _, _, rfl, rfl, ⟨by decide, by decide, by decide⟩, R, _, rfl, bt2, by decide, by decide, fun y H3 y0 y1 bt3 k3 => ?_⟩
        refine ⟨_, _, rfl, rfl, ?_⟩
        refine ⟨_, rfl, _, rfl, R, rfl, bt3, fun d H4 nd4 hd bt4 k4 => ?_⟩
        refine ⟨(by show 2 ≤ sizeLine; decide), fun e H5 ne s5 ee => ?_⟩
        have sH := same_of nR s1 ((k2.trans k3).trans k4)
        exact q e _ H5 (sH.free ne) ⟨d, ee, hd.keep (.of s5), by show 1 ≤ 1 + y; omega⟩ (sH.trans s5)
end
end K23

set_option maxHeartbeats 2000000
namespace K23
open PySem L2
/-- things made one by one of texts, the bits being taken from -/
theorem lcB {J : It} {ks : List Str} {k : Nat} {σ : St} {H1 : Hp} {te : TE} {Q : VK} {R : Addr} (Rel : Str → V → Hp → Prop) (hσ : σ.length = k) (bt : Bts H1 R) (hn : ks.length ≤ 100)
    (hgo : ∀ i H', i < ks.length → TupS H1 H' → J.go i H') (hyld : ∀ i H' x H'', i < ks.length → TupS H1 H' → J.yld i H' x H'' → H'' = H' ∧ (ks.map V.str)[i]? = some x) (hstop : ∀ H', TupS H1 H' → J.stop ks.length H')
    (stab : ∀ x y H H', TupS H H' → Rel x y H → Rel x y H')
    (turn : ∀ x H' (post : VK), x ∈ ks → Bts H' R → TupS H1 H' → (∀ y H'', Bts H'' R → ButR R H' H'' → Rel x y H'' → post y H'') → te (σ ++ [some (.str x)]) H' post)
    (fin : ∀ (l : Addr) (ys : List V) (H' : Hp), H1 l = none → H' l = some (.lst ys) → ys.length = ks.length → (∀ (i : Nat) (x : Str) (y : V), ks[i]? = some x → ys[i]? = some y → Rel x y H') → Bts H' R → ButR R H1 H' → Q (.ref l) H') :
    LCT 1 (gName k) tYes te σ Q J H1 := by
  refine lcJ (n := ks.length) (fun i => .str (ks.getD i ⟨#[]⟩)) (fun l i ys H' => H1 l = none ∧ Bts H' R ∧ ButR R H1 H' ∧ H' l = some (.lst ys) ∧ ys.length = i ∧ ∀ (j : Nat) (x : Str) (y : V), ks[j]? = some x → ys[j]? = some y → Rel x y H') hσ ?_ ?_ ?_ ?_ ?_ ?_
  · rintro l i ys H' hi ⟨_, _, b', _⟩
    exact hgo i H' hi (.but bt b')
  · rintro l i ys H' x H'' hi ⟨_, _, b', _⟩ y
    obtain ⟨e, hx⟩ := hyld i H' x H'' hi (.but bt b') y
    refine ⟨e, ?_⟩
    rw [List.getElem?_map] at hx
    rw [List.getD_eq_getElem?_getD]
    cases hk : ks[i]? with
    | none => rw [hk] at hx; cases hx
    | some z => rw [hk] at hx; cases hx; rfl
  · rintro l ys H' ⟨_, _, b', _⟩
    exact hstop H' (.but bt b')
  · intro l hl
    exact ⟨hl, bt.same (.new hl), ButR.of (.new hl), upd_same, rfl, fun j x y _ hy => by simp at hy⟩
  · rintro l i ys H' post hi ⟨hl0, bt', b', hl, hyl, hr⟩ hp
    have hx : ks[i]? = some (ks.getD i ⟨#[]⟩) := by rw [List.getD_eq_getElem?_getD, List.getElem?_eq_getElem hi]; rfl
    generalize ks.getD i ⟨#[]⟩ = x at hx ⊢
    refine turn x H' post (List.mem_of_getElem? hx) bt' (.but bt b') fun y H'' bt'' b'' hrel => ?_
    have lR : l ≠ R := bt.ne hl0
    have hl2 := b'' _ _ lR hl
    have tu : TupS H'' (upd H'' l (.lst (ys ++ [y]))) := ⟨fun c xs e => by rw [upd_ne (ne_of e hl2 (by intro z; cases z))]; exact e, fun c o xs e => by rw [upd_ne (ne_of e hl2 (by intro z; cases z))]; exact e⟩
    refine hp y H'' hl2 (small1000 (by omega)) ⟨hl0, ?_, ?_, upd_same, by rw [List.length_append, hyl]; rfl, fun j x' y' hx' hy' => ?_⟩
    · obtain ⟨u, v, e1, e2⟩ := bt''
      exact ⟨u, v, by rw [upd_ne lR.symm]; exact e1, e2⟩
    · exact fun c o hc e => by rw [upd_ne (ne_of_none e hl0)]; exact (b'.trans b'') c o hc e
    · by_cases hj : j < ys.length
      · rw [List.getElem?_append_left hj] at hy'
        exact stab _ _ _ _ ((TupS.but bt' b'').trans tu) (hr j x' y' hx' hy')
      · have hj2 : j = i := by
          have := (List.getElem?_eq_some_iff.mp hy').1
          simp only [List.length_append, List.length_cons, List.length_nil] at this
          omega
        subst hj2
        rw [List.getElem?_append_right (by omega), hyl, Nat.sub_self] at hy'
        cases hy'
        rw [hx] at hx'
        cases hx'
        exact stab _ _ _ _ tu hrel
  · rintro l ys H' ⟨hl0, bt', b', hl, hyl, hr⟩
    exact fin l ys H' hl0 hl hyl hr bt' b'
/-- what keys hold, the last asks, as they lie -/
def RelH (x : Str) (y : V) (H : Hp) : Prop := ∃ (p : Addr) (z : Int), y = .ref p ∧ H p = some (.tup [.str x, .int z]) ∧ isNum z
def RelA (x : Str) (y : V) (H : Hp) : Prop := ∃ (p : Addr) (z : Int), y = .ref p ∧ H p = some (.tup [.str x, .int z, .non]) ∧ 1 ≤ z ∧ z < 10 ^ 60
theorem relH_keep (x : Str) (y : V) (H H' : Hp) (k : TupS H H') (h : RelH x y H) : RelH x y H' := by
  obtain ⟨p, z, e, h1, h2⟩ := h
  exact ⟨p, z, e, k _ _ h1, h2⟩
theorem relA_keep (x : Str) (y : V) (H H' : Hp) (k : TupS H H') (h : RelA x y H) : RelA x y H' := by
  obtain ⟨p, z, e, h1, h2⟩ := h
  exact ⟨p, z, e, k _ _ h1, h2⟩
def RowOf (Rel : Str → V → Hp → Prop) (H : Hp) (t : Addr) (ks : List Str) : Prop := ∃ (o : Obj) (ys : List V), H t = some (.frz o (.tup ys)) ∧ o.dict = none ∧ ys.length = ks.length ∧ (∀ (i : Nat) (x : Str) (y : V), ks[i]? = some x → ys[i]? = some y → Rel x y H) ∧ ks.Pairwise ltS ∧ ∀ x ∈ ks, Nm x
theorem RowOf.keep {Rel : Str → V → Hp → Prop} (st : ∀ x y H H', TupS H H' → Rel x y H → Rel x y H') {H H' : Hp} {t : Addr} {ks : List Str} (k : TupS H H') (h : RowOf Rel H t ks) : RowOf Rel H' t ks := by
  obtain ⟨o, ys, h1, h0, h2, h3, h4⟩ := h
  exact ⟨o, ys, k.f _ _ _ h1, h0, h2, fun i x y hx hy => st _ _ _ _ k (h3 i x y hx hy), h4⟩
/-- a stand, as it lies -/
structure StandAt (H : Hp) (s : Addr) (pl tm : Int) : Prop where
  at' : ∃ (b hd ak : Addr) (vs cs ls ks qs : List Str), H s = some (.tup [.int pl, .int tm, .ref b, .ref hd, .ref ak]) ∧ BenchAt H b vs cs ls ∧ RowOf RelH H hd ks ∧ RowOf RelA H ak qs ∧ (pl = 0 → ks = [] ∧ qs = []) ∧ ks.length ≤ 3 ∧ qs.length ≤ 2
  p0 : 0 ≤ pl
  t0 : 0 ≤ tm
  zero : pl = 0 → tm = 0
  pos : 1 ≤ pl → 1 ≤ tm
def spStand : Sp := fun us H Q _ => ∃ c : Int, us = [.int c] ∧ ∀ (s : Addr) (pl tm : Int) (H' : Hp), H s = none → StandAt H' s pl tm → Same H H' → Q (.ref s) H'
abbrev nStand : List Str := ["_law_cell", "_law_bits_here", "_law_place", "_law_bench_here", "_law_term", "_law_held", "_law_asked"]
theorem ndS1 : (nStand ++ (["_law_key"] : List Str)).Nodup := by decide +kernel
theorem ndS2 : (nStand ++ (["_law_name_here"] : List Str)).Nodup := by decide +kernel
theorem places_in : ∀ v ∈ [V.int 0, .int 0, .int 0, .int 1, .int 2, .int 5, .int 9, .int (10 ^ 40)], ∃ z : Int, v = .int z ∧ 0 ≤ z := by
  intro v hv
  simp only [List.mem_cons, List.not_mem_nil, or_false] at hv
  rcases hv with rfl | rfl | rfl | rfl | rfl | rfl | rfl | rfl <;> exact ⟨_, rfl, by decide⟩
theorem row_nil {Rel : Str → V → Hp → Prop} {H : Hp} {t : Addr} {o : Obj} (h : H t = some (.frz o (.tup []))) (h0 : o.dict = none) : RowOf Rel H t [] := ⟨o, [], h, h0, rfl, fun i x y hx => by simp at hx, List.Pairwise.nil, fun x hx => absurd hx (by simp)⟩
section
variable {P : Program} {w : World} {K : PySem.W.Frag} {mg : Str → Option Value} {base : Heap}
theorem scStand : FnScope nStand ["_law_cell"] (defScope sStand) := ⟨rfl, rfl, rfl, by decide +kernel, rfl, by decide +kernel, by decide +kernel⟩
theorem ok_stand {f : Addr} {fd : FuncData} (F : Fun K "_law_stand" "_law_stand" sStand f fd) (htuple : mg "tuple" = none) (Fb : FnAt P w K mg base 1 "_law_bits" ["_law_cell", "_law_k"] spBits) (Ft : FnAt P w K mg base 2 "_law_take" pTake spTake) (Fe : FnAt P w K mg base 5 "_law_bench" pB spBench)
    (Fo : FnAt P w K mg base 3 "_law_number" pB spNumber) (Fn : FnAt P w K mg base 4 "_law_names" pNames spNames) : FnOk P w K mg base CX0 6 f fd ["_law_cell"] spStand := by
  refine F.ok scStand (fun us H Q E h => ?_) (fun cdv A outer s H us Q E hr h => ?_)
  · obtain ⟨c, rfl, _⟩ := h
    rfl
  · obtain ⟨c, rfl, q⟩ := h
    have nd := scStand.nd
    have r2 : Room 2 _ := hr.mono (by decide)
    have r3 : Room 3 _ := hr.mono (by decide)
    have r4 : Room 4 _ := hr.mono (by decide)
    refine ⟨_, Wd.h (wss_cons (Wd.mk (ps_set (i := 1) nd rfl (Or.inr rfl) (pe_callF Fb (hr.mono (by decide)) (pa_cons (pv 0) (pa_cons pe_int pa_nil))))) <|
      wss_cons (ws_sub (i := 2) nd rfl (Or.inl rfl) (Or.inr rfl) (we_ix ix_list (we_lst (wa_cs pe_int (wa_cs pe_int (wa_cs pe_int (wa_cs pe_int (wa_cs pe_int (wa_cs pe_int (wa_cs pe_int (wa_bi (pe_op op_pow pe_int pe_int) wa_nil))))))))) (pe_callF Ft r2 (pa_cons (pv 1) (pa_cons pe_int pa_nil))) (fun _ _ => rfl))) <|
      wss_cons (Wd.mk (ps_set (i := 3) nd rfl (Or.inl rfl) (pe_callF Fe hr (pa_cons (pv 1) pa_nil)))) <|
      wss_cons (Wd.mk (ps_if (pt_cmpR op_eq (pv 2) pe_int (nomark _)) (pss_one (ps_ret (pe_tupA (pa_cons pe_int (pa_cons pe_int (pa_cons (pv 3) (pa_cons pe_tup0 (pa_cons pe_tup0 pa_nil)))))))) pss_nil)) <|
      wss_cons (Wd.mk (ps_set (i := 4) nd rfl (Or.inl rfl) (pe_op op_add pe_int (pe_callF Ft r2 (pa_cons (pv 1) (pa_cons pe_int pa_nil)))))) <|
      wss_cons (Wd.mk (ps_set (i := 5) nd rfl (Or.inl rfl) (pe_callTy call_tupF (by rfl) htuple bTuple (pa_cons
        (pe_lc nStand nStand ["_law_key"] (defScope sStand) rfl rfl rfl (by decide +kernel) rfl rfl (by decide +kernel) (by decide +kernel) (by decide +kernel) (by decide +kernel)
          (pi_tup (pe_callF Fn r4 (pa_cons (pv 1) (pa_cons pe_int (pa_cons pe_int (pa_cons (pe_tupA pa_nil) pa_nil)))))) (fun _ _ _ _ _ => pg_name (i := 7) ndS1 rfl (Or.inl rfl)) (fun _ _ _ _ _ => pts_nil)
          (fun _ _ _ _ _ => pe_tupA (pa_cons (pv 7) (pa_cons (pe_callF Fo r3 (pa_cons (pv 1) pa_nil)) pa_nil)))) pa_nil)))) <|
      wss_cons (Wd.mk (ps_set (i := 6) nd rfl (Or.inl rfl) (pe_callTy call_tupF (by rfl) htuple bTuple (pa_cons
        (pe_lc nStand nStand ["_law_name_here"] (defScope sStand) rfl rfl rfl (by decide +kernel) rfl rfl (by decide +kernel) (by decide +kernel) (by decide +kernel) (by decide +kernel)
          (pi_tup (pe_callF Fn r4 (pa_cons (pv 1) (pa_cons pe_int (pa_cons pe_int (pa_cons (pe_tupA pa_nil) pa_nil)))))) (fun _ _ _ _ _ => pg_name (i := 7) ndS2 rfl (Or.inl rfl)) (fun _ _ _ _ _ => pts_nil)
          (fun _ _ _ _ _ => pe_tupA (pa_cons (pv 7) (pa_cons (pe_op op_add pe_int (pe_callF Ft r2 (pa_cons (pv 1) (pa_cons pe_int pa_nil)))) (pa_cons pe_non pa_nil))))) pa_nil)))) <|
      wss_one <| ps_ret <| pe_tupA (pa_cons (pv 2) (pa_cons (pv 4) (pa_cons (pv 3) (pa_cons (pv 5) (pa_cons (pv 6) pa_nil)))))), ?_⟩
    dsimp only [cxOf, Cx.nox]
    refine ⟨_, rfl, c, 0, rfl, fun R H1 nR s1 bt1 => ?_⟩
    refine ⟨_, _, rfl, rfl, ⟨by decide, by decide, by decide⟩, (by show 8 ≤ sizeLine; decide), fun p H2 np s2 ep => ?_⟩
    have pR : p ≠ R := bt1.ne np
    refine ⟨_, rfl, R, 8, rfl, bt1.same s2, by decide, by decide, fun y H3 y0 y1 bt3 k3 => ?_⟩
    obtain ⟨v, hv, hm⟩ := atI_in (xs := [V.int 0, .int 0, .int 0, .int 1, .int 2, .int 5, .int 9, .int (10 ^ 40)]) y0 y1
    obtain ⟨pl, rfl, pl0⟩ := places_in v hm
    refine (ex4 p _ _ _ ⟨rfl, rfl, SqL.of (k3 _ _ pR ep), hv, ?_⟩)
    refine ⟨_, rfl, R, rfl, bt3, fun b vs cs ls H4 nb hb bt4 k4 => ?_⟩
    have k04 : ButR R H1 H4 := ((ButR.of s2).trans k3).trans k4
    refine ⟨_, rfl, rfl, _, rfl, ?_⟩
    refine ite2 (fun z => ?_) (fun z => ?_)
    · refine ⟨_, rfl, fun t1 n5 => ?_⟩
      have s5 : Same H4 _ := Same.new (o := .frz { cls := .type "tuple", data := .seq #[] } (.tup [])) n5
      have e5 : upd H4 t1 (.frz { cls := .type "tuple", data := .seq #[] } (.tup [])) t1 = _ := upd_same
      generalize upd H4 t1 (.frz { cls := .type "tuple", data := .seq #[] } (.tup [])) = H5 at s5 e5 ⊢
      intro t2 n6
      have s6 : Same H5 _ := Same.new (o := .frz { cls := .type "tuple", data := .seq #[] } (.tup [])) n6
      have e6 : upd H5 t2 (.frz { cls := .type "tuple", data := .seq #[] } (.tup [])) t2 = _ := upd_same
      generalize upd H5 t2 (.frz { cls := .type "tuple", data := .seq #[] } (.tup [])) = H6 at s6 e6 ⊢
      refine ⟨(by show 5 ≤ sizeLine; decide), fun sd H7 n7 s7 e7 => ?_⟩
      have s47 := (s5.trans s6).trans s7
      have sH := same_of nR s1 (k04.trans (ButR.of (s5.trans s6)))
      exact q sd 0 0 H7 (sH.free n7) ⟨⟨b, t1, t2, vs, cs, ls, [], [], e7, hb.keep (.of s47), row_nil (s7 _ _ (s6 _ _ e5)) rfl, row_nil (s7 _ _ e6) rfl, (fun _ => ⟨rfl, rfl⟩), Nat.zero_le _, Nat.zero_le _⟩, by decide, by decide, fun _ => rfl, fun h => absurd h (by decide)⟩ (sH.trans s7)
    have z : pl ≠ 0 := fun h => z (decide_eq_true (by rw [h]))
    refine ⟨_, rfl, R, 4, rfl, bt4, by decide, by decide, fun tm H5 tm0 tm1 bt5 k5 => ?_⟩
    refine ⟨_, _, rfl, rfl, ?_⟩
    refine ⟨_, rfl, Nat.zero_le _, fun t1 H6 n6 s6 e6 => ?_⟩
    refine ⟨R, t1, 0, 3, [], rfl, bt5.same s6, e6, by decide, by decide, by decide, fun nt ks H7 n7 e7 hkr hkn _ hk3 _ bt7 k7 => ?_⟩
    refine ⟨nt, rfl, ⟨_, SqT.of e7⟩, ?_⟩
    refine lcB (R := R) (ks := ks) RelH rfl bt7 (by omega) (fun i H' hi tu => ⟨ks.map V.str, V.str ks[i], SqT.of (tu _ _ e7), by rw [List.getElem?_map, List.getElem?_eq_getElem hi]; rfl⟩) (fun i H' x H'' hi tu y => ?_) (fun H' tu => ⟨ks.map V.str, SqT.of (tu _ _ e7), by rw [List.length_map]; exact Nat.le_refl _⟩) relH_keep ?_ ?_
    · obtain ⟨e, y⟩ := y
      exact ⟨e, y _ (SqT.of (tu _ _ e7))⟩
    · intro x H' post hx bt' tu hp
      refine ⟨_, rfl, _, rfl, R, rfl, bt', fun n H8 hn bt8 k8 => ?_⟩
      refine ⟨(by show 2 ≤ sizeLine; decide), fun pp H9 npp s9 epp => ?_⟩
      exact hp _ H9 (bt8.same s9) (k8.trans (ButR.of s9)) ⟨pp, n, rfl, epp, hn⟩
    intro l ys H8 nl8 el hyl hrel bt8 k8
    refine ⟨l, _, rfl, SqL.of el, fun hd oh nhd hoh => ?_⟩
    have s9 : Same H8 _ := Same.new (o := .frz oh (.tup ys)) nhd
    have ehd : upd H8 hd (.frz oh (.tup ys)) hd = _ := upd_same
    generalize upd H8 hd (.frz oh (.tup ys)) = H9 at s9 ehd ⊢
    have rh : RowOf RelH H9 hd ks := ⟨oh, ys, ehd, hoh, hyl, fun i x y hx hy => relH_keep _ _ _ _ (.of s9) (hrel i x y hx hy), hkr, hkn⟩
    have bt9 := bt8.same s9
    refine ⟨_, rfl, Nat.zero_le _, fun t2 Ha na sa ea => ?_⟩
    refine ⟨R, t2, 0, 2, [], rfl, bt9.same sa, ea, by decide, by decide, by decide, fun nt2 qs Hb nb2 eb hqr hqn _ hq2 _ btb kb => ?_⟩
    refine ⟨nt2, rfl, ⟨_, SqT.of eb⟩, ?_⟩
    refine lcB (R := R) (ks := qs) RelA rfl btb (by omega) (fun i H' hi tu => ⟨qs.map V.str, V.str qs[i], SqT.of (tu _ _ eb), by rw [List.getElem?_map, List.getElem?_eq_getElem hi]; rfl⟩) (fun i H' x H'' hi tu y => ?_) (fun H' tu => ⟨qs.map V.str, SqT.of (tu _ _ eb), by rw [List.length_map]; exact Nat.le_refl _⟩) relA_keep ?_ ?_
    · obtain ⟨e, y⟩ := y
      exact ⟨e, y _ (SqT.of (tu _ _ eb))⟩
    · intro x H' post hx bt' tu hp
      refine ⟨_, rfl, _, rfl, R, 9, rfl, bt', by decide, by decide, fun n Hc n0 n1 btc kc => ?_⟩
      refine ⟨_, _, rfl, rfl, (by show 3 ≤ sizeLine; decide), fun pp Hd npp sd epp => ?_⟩
      exact hp _ Hd (btc.same sd) (kc.trans (ButR.of sd)) ⟨pp, 1 + n, rfl, epp, by omega, Int.lt_trans (show 1 + n < 100 by omega) (by decide)⟩
    intro l2 ys2 Hc nlc el2 hyl2 hrel2 btc kc
    refine ⟨l2, _, rfl, SqL.of el2, fun ak oa nak hoa => ?_⟩
    have sd : Same Hc _ := Same.new (o := .frz oa (.tup ys2)) nak
    have eak : upd Hc ak (.frz oa (.tup ys2)) ak = _ := upd_same
    generalize upd Hc ak (.frz oa (.tup ys2)) = Hd at sd eak ⊢
    have rk : RowOf RelA Hd ak qs := ⟨oa, ys2, eak, hoa, hyl2, fun i x y hx hy => relA_keep _ _ _ _ (.of sd) (hrel2 i x y hx hy), hqr, hqn⟩
    refine ⟨_, rfl, _, rfl, _, rfl, _, rfl, _, rfl, (by show 5 ≤ sizeLine; decide), fun so He ne se ee => ?_⟩
    have kd : ButR R H1 Hd := (((((((k04.trans k5).trans (ButR.of s6)).trans k7).trans k8).trans (ButR.of s9)).trans (ButR.of sa)).trans kb).trans (kc.trans (ButR.of sd))
    have sH := same_of nR s1 kd
    have tu9d : TupS H9 He := ((((TupS.of sa).trans (.but (bt9.same sa) kb)).trans (.but btb kc)).trans (.of sd)).trans (.of se)
    have tu4 : TupS H4 He := ((((((TupS.but bt4 k5).trans (.of s6)).trans (.but (bt5.same s6) k7)).trans (.but bt7 k8)).trans (.of s9)).trans tu9d)
    refine q so pl (1 + tm) He (sH.free ne) ⟨⟨b, hd, ak, vs, cs, ls, ks, qs, ee, hb.keep tu4, rh.keep relH_keep tu9d, rk.keep relA_keep (.of se), (fun h => absurd h z), by omega, by omega⟩, pl0, by omega, fun h => absurd h z, fun _ => by omega⟩ (sH.trans se)
end
end K23

set_option maxHeartbeats 2000000
namespace K23
open PySem L2
abbrev nEntries : List Str := ["_law_cells", "_law_term", "_law_found", "_law_k", "_law_cell"]
/-- entries, as they lie -/
def EntriesAt (H : Hp) (t : Addr) (tms : List Int) : Prop := ∃ es : List Addr, H t = some (.tup (es.map V.ref)) ∧ es.length = tms.length ∧ ∀ (i : Nat) (e : Addr) (tm : Int), es[i]? = some e → tms[i]? = some tm → EntryAt H e tm
def spEntries (K : PySem.W.Frag) : Sp := fun us H Q _ => ∃ (a : Addr) (ns : List Int) (tm : Int), us = [.ref a, .int tm] ∧ SqL K H a (ns.map V.int) ∧ ns.length ≤ 100 ∧ 0 ≤ tm ∧ ∀ (t : Addr) (tms : List Int) (H' : Hp), H t = none → EntriesAt H' t tms → tms.length = ns.length → Same H H' → Q (.ref t) H'
section
variable {P : Program} {w : World} {K : PySem.W.Frag} {mg : Str → Option Value} {base : Heap}
theorem scEntries : FnScope nEntries ["_law_cells", "_law_term"] (defScope sEntries) := ⟨rfl, rfl, rfl, by decide +kernel, rfl, by decide +kernel, by decide +kernel⟩
theorem ok_entries {f : Addr} {fd : FuncData} (F : Fun K "_law_entries" "_law_entries" sEntries f fd) (henum : mg "enumerate" = none) (htuple : mg "tuple" = none) (Fe : FnAt P w K mg base 7 "_law_entry" pEntry spEntry) : FnOk P w K mg base CX0 8 f fd ["_law_cells", "_law_term"] (spEntries K) := by
  refine F.ok scEntries (fun us H Q E h => ?_) (fun cdv A outer s H us Q E hr h => ?_)
  · obtain ⟨a, ns, tm, rfl, _⟩ := h
    rfl
  · obtain ⟨a, ns, tm, rfl, hS, hl, t0, q⟩ := h
    have nd := scEntries.nd
    refine ⟨_, pss_cons (ps_set (i := 2) nd rfl (Or.inl rfl) (pe_lstA pa_nil)) <|
      pss_cons (ps_for PassesOwn.never rfl (pi_enum (by rfl) henum (pa_cons (pv 0) pa_nil)) (pg_tup rfl (pgs_cons (pg_name (i := 3) nd rfl (Or.inl rfl)) (pgs_cons (pg_name (i := 4) nd rfl (Or.inl rfl)) pgs_nil)))
        (pss_cons (ps_expr (pe_bm PySem.F.plainAttrs_list PySem.F.slot_list_append PySem.F.type_list_append mt_appA (pv 2) (pa_cons (pe_callF Fe hr (pa_cons (pv 4) (pa_cons (pe_op op_add (pv 3) pe_int) (pa_cons (pv 1) pa_nil)))) pa_nil))) <|
         pss_one (ps_set (i := 1) nd rfl (Or.inl rfl) (pe_ix ix_tup (pe_ix ix_list (pv 2) (pe_un un_neg pe_int) (fun _ _ => rfl)) pe_int (fun _ _ => rfl))))) <|
      pss_one <| ps_ret <| pe_callTy call_tupleA (by rfl) htuple bTuple (pa_cons (pv 2) pa_nil), ?_⟩
    refine ⟨Nat.zero_le _, fun l H1 nl s1 el => ?_⟩
    refine ⟨_, rfl, a, _, rfl, s1.seq hS, for_enum (K := K) (xs := ns.map V.int) (fun i σ Hx => ∃ (tm' : Int) (es : List Addr) (tms : List Int) (kv cv : Option V), σ = [some (V.ref a), some (V.int tm'), some (V.ref l), kv, cv] ∧ 0 ≤ tm' ∧ Hx l = some (.lst (es.map V.ref)) ∧ es.length = i ∧ tms.length = i ∧
      (∀ (j : Nat) (e : Addr) (u : Int), es[j]? = some e → tms[j]? = some u → EntryAt Hx e u) ∧ Same H Hx) ⟨tm, [], [], none, none, rfl, t0, el, rfl, rfl, fun j e u he => by simp at he, s1⟩ ?_ ?_ ?_⟩
    · rintro i σ Hx ⟨tm', es, tms, kv, cv, rfl, _, _, _, _, _, sx⟩
      exact sx.seq hS
    · rintro i x p σ Hx hx hp ⟨tm', es, tms, kv, cv, rfl, u0, hlx, hel, htl, hE, sx⟩
      have hi : i < ns.length := by have := (List.getElem?_eq_some_iff.mp hx).1; rw [List.length_map] at this; exact this
      rw [List.getElem?_map] at hx
      obtain ⟨c, rfl⟩ : ∃ c : Int, x = .int c := by
        cases hm : ns[i]? with
        | none => rw [hm] at hx; cases hx
        | some c => rw [hm] at hx; cases hx; exact ⟨c, rfl⟩
      have s2 := Same.new (o := .tup [.int (i : Int), .int c]) hp
      have e2 : upd Hx p (.tup [.int (i : Int), .int c]) p = some (.tup [.int (i : Int), .int c]) := upd_same
      generalize upd Hx p (.tup [.int (i : Int), .int c]) = H2 at s2 e2 ⊢
      refine ⟨p, _, rfl, SqT.of e2, rfl, _, _, rfl, _, _, rfl, rfl, ?_⟩
      have hl2 := s2 _ _ hlx
      refine ⟨_, rfl, .inl ⟨rfl, _, SqL.of hl2⟩, _, rfl, _, rfl, _, _, rfl, rfl, _, rfl, c, (i : Int) + 1, tm', rfl, u0, fun e tm2 H3 ne he s3 => ?_⟩
      have hl3 := s3 _ _ hl2
      refine (ex3 l _ _ ⟨rfl, rfl, hl3, by rw [List.length_map]; omega, fun H4 k4 e4 => ?_⟩)
      have hlH : H l = none := nl
      have tu : TupS H3 H4 := ⟨fun b ys hb => k4 _ _ (ne_of hb hl3 (by intro z; cases z)) hb, fun b o ys hb => k4 _ _ (ne_of hb hl3 (by intro z; cases z)) hb⟩
      have he4 := he.keep tu
      obtain ⟨d, hd, _, d1⟩ := id he4
      refine ⟨_, rfl, _, rfl, ex4 l _ _ _ ⟨rfl, rfl, SqL.of e4, atI_last _ _, e, _, _, _, rfl, rfl, SqT.of hd, at0, ?_⟩⟩
      refine ⟨tm2, es ++ [e], tms ++ [tm2], _, _, rfl, by omega, by rw [e4, List.map_append]; rfl, by rw [List.length_append, hel]; rfl, by rw [List.length_append, htl]; rfl, fun j e' u he' hu' => ?_, fun b o hb => k4 _ _ (ne_of_none hb hlH) (s3 _ _ (s2 _ _ (sx _ _ hb)))⟩
      by_cases hj : j < es.length
      · rw [List.getElem?_append_left hj] at he'
        rw [List.getElem?_append_left (by omega)] at hu'
        exact (hE j e' u he' hu').keep (((TupS.of s2).trans (.of s3)).trans tu)
      · have hj2 : j = i := by
          have := (List.getElem?_eq_some_iff.mp he').1
          simp only [List.length_append, List.length_cons, List.length_nil] at this
          omega
        subst hj2
        rw [List.getElem?_append_right (by omega), hel, Nat.sub_self] at he'
        rw [List.getElem?_append_right (by omega), htl, Nat.sub_self] at hu'
        cases he'
        cases hu'
        exact he4
    · rintro σ Hx ⟨tm', es, tms, kv, cv, rfl, u0, hlx, hel, htl, hE, sx⟩
      rw [List.length_map] at hel htl
      refine ⟨_, rfl, l, _, rfl, SqL.of hlx, fun t H2 nt s2 et => ?_⟩
      exact q t tms H2 (sx.free nt) ⟨es, et, by omega, fun j e u he hu => (hE j e u he hu).keep (.of s2)⟩ htl (sx.trans s2)
end
end K23

set_option maxHeartbeats 4000000
namespace K23
open PySem L2
abbrev sCell : Stmt := top 6
abbrev sInit : Stmt := inClass (top 2) 0
abbrev sLastP : Stmt := inClass (top 2) 1
abbrev sLastT : Stmt := inClass (top 2) 2
abbrev sTermAt : Stmt := inClass (top 2) 3
abbrev sEntAt : Stmt := inClass (top 2) 4
abbrev sUpTo : Stmt := inClass (top 2) 5
abbrev sBehind : Stmt := inClass (top 2) 6
theorem ne_se : ¬ (("stand" : Str) = "entries") := by decide +kernel
def flds (st en : Addr) : List (Str × V) := putF "entries" (.ref en) (putF "stand" (.ref st) [])
theorem flds_s (st en : Addr) : (flds st en).lookup ("stand" : Str) = some (.ref st) := by
  unfold flds
  rw [lookup_putF, if_neg ne_se, lookup_putF, if_pos rfl]
theorem flds_e (st en : Addr) : (flds st en).lookup ("entries" : Str) = some (.ref en) := by
  unfold flds
  rw [lookup_putF, if_pos rfl]
structure Cl (K : PySem.W.Frag) (mg : Str → Option Value) (C : Addr) : Prop where
  cl : Cls K C
  nS : NoAttr K C "stand"
  nE : NoAttr K C "entries"
  mgC : mg "Row" = some (.ref C)
/-- a row, as it lies -/
structure RowAt (C : Addr) (H : Hp) (r st en : Addr) (pl tm : Int) (sv : List V) (es : List Addr) (tms : List Int) : Prop where
  obj : ∃ dx, H r = some (.ins C dx (flds st en))
  st : H st = some (.tup (.int pl :: .int tm :: sv))
  en : H en = some (.tup (es.map V.ref))
  len : es.length = tms.length
  ent : ∀ (i : Nat) (e : Addr) (t : Int), es[i]? = some e → tms[i]? = some t → ∃ d, H e = some (.tup [.int t, .ref d])
  few : es.length ≤ 700
theorem RowAt.same {C : Addr} {H H' : Hp} {r st en : Addr} {pl tm : Int} {sv : List V} {es : List Addr} {tms : List Int} (e : Same H H') (h : RowAt C H r st en pl tm sv es tms) : RowAt C H' r st en pl tm sv es tms := by
  obtain ⟨⟨dx, h1⟩, h2, h3, h4, h5, h6⟩ := h
  refine ⟨⟨dx, e _ _ h1⟩, e _ _ h2, e _ _ h3, h4, fun i a t ha ht => ?_, h6⟩
  obtain ⟨d, hd⟩ := h5 i a t ha ht
  exact ⟨d, e _ _ hd⟩
/-- the term at a place -/
def termV (pl tm : Int) (tms : List Int) (p : Int) : V := if p = pl then .int tm else if p < pl ∨ pl + tms.length < p then .non else .int (tms.getD (p - pl - 1).toNat 0)
def lastT (tm : Int) (tms : List Int) : Int := (tm :: tms).getD tms.length 0
theorem termV_at (pl tm : Int) (tms : List Int) {k : Nat} (h : k ≤ tms.length) : termV pl tm tms (pl + k) = .int ((tm :: tms).getD k 0) := by
  unfold termV
  cases k with
  | zero => rw [if_pos (by simp)]; rfl
  | succ k =>
    rw [if_neg (by omega), if_neg (by omega)]
    have e : (pl + ((k + 1 : Nat) : Int) - pl - 1).toNat = k := by omega
    rw [e]
    rfl
theorem termV_last (pl tm : Int) (tms : List Int) : termV pl tm tms (pl + tms.length) = .int (lastT tm tms) := termV_at pl tm tms (Nat.le_refl _)
theorem termV_off (pl tm : Int) (tms : List Int) {p : Int} (h : p < pl ∨ pl + tms.length < p) : termV pl tm tms p = .non := by
  unfold termV
  rw [if_neg (by omega), if_pos h]
def spInit (C : Addr) : Sp := fun us H Q _ => ∃ (r dx st en : Addr) (ys : List V), us = [.ref r, .ref st, .ref en] ∧ H r = some (.ins C dx []) ∧ H en = some (.tup ys) ∧
  ∀ H', (∀ b o, b ≠ r → H b = some o → H' b = some o) → H' r = some (.ins C dx (flds st en)) → Q .non H'
def spLastP (C : Addr) : Sp := fun us H Q _ => ∃ (r st en : Addr) (pl tm : Int) (sv : List V) (es : List Addr) (tms : List Int), us = [.ref r] ∧ RowAt C H r st en pl tm sv es tms ∧ Q (.int (pl + tms.length)) H
def spLastT (C : Addr) : Sp := fun us H Q _ => ∃ (r st en : Addr) (pl tm : Int) (sv : List V) (es : List Addr) (tms : List Int), us = [.ref r] ∧ RowAt C H r st en pl tm sv es tms ∧ Q (.int (lastT tm tms)) H
def spTermAt (C : Addr) : Sp := fun us H Q _ => ∃ (r st en : Addr) (pl tm : Int) (sv : List V) (es : List Addr) (tms : List Int) (p : Int), us = [.ref r, .int p] ∧ RowAt C H r st en pl tm sv es tms ∧ Q (termV pl tm tms p) H
def spEntAt (C : Addr) : Sp := fun us H Q _ => ∃ (r st en : Addr) (pl tm : Int) (sv : List V) (es : List Addr) (tms : List Int) (k : Nat) (e : Addr), us = [.ref r, .int (pl + 1 + k)] ∧ RowAt C H r st en pl tm sv es tms ∧ es[k]? = some e ∧ Q (.ref e) H
def spUpTo (C : Addr) : Sp := fun us H Q _ => ∃ (r st en : Addr) (pl tm : Int) (sv : List V) (es : List Addr) (tms : List Int) (k : Nat), us = [.ref r, .int (pl + k)] ∧ RowAt C H r st en pl tm sv es tms ∧
  ∀ t H', Same H H' → H' t = some (.tup ((es.take k).map V.ref)) → Q (.ref t) H'
def spBehind (C : Addr) : Sp := fun us H Q _ => ∃ (r st en : Addr) (pl tm : Int) (sv : List V) (es : List Addr) (tms : List Int) (k : Nat), us = [.ref r, .int (pl + k)] ∧ RowAt C H r st en pl tm sv es tms ∧
  ∀ t H', Same H H' → H' t = some (.tup ((es.drop k).map V.ref)) → Q (.ref t) H'
theorem cut_from (es : List Addr) (k : Nat) : cutV (es.map V.ref) (some (k : Int)) none = (es.drop k).map V.ref := by
  unfold cutV
  rw [List.length_map, HT.sIx_none, HT.sIx_nat, ← List.map_drop, ← List.map_take]
  by_cases h : k ≤ es.length
  · rw [Nat.min_eq_left h, List.take_of_length_le (by rw [List.length_drop]; omega)]
  · rw [Nat.min_eq_right (by omega), List.drop_of_length_le (Nat.le_refl _), List.drop_of_length_le (by omega)]
    simp
theorem cut_to (es : List Addr) (k : Nat) : cutV (es.map V.ref) none (some (k : Int)) = (es.take k).map V.ref := by
  unfold cutV
  rw [List.length_map, HT.sIx_none, HT.sIx_nat, List.drop_zero, Nat.sub_zero, ← List.map_take]
  by_cases h : k ≤ es.length
  · rw [Nat.min_eq_left h]
  · rw [Nat.min_eq_right (by omega), List.take_of_length_le (Nat.le_refl _), List.take_of_length_le (by omega)]
def spCell (K : PySem.W.Frag) : Sp := fun vs H Q _ => ∃ (a : Addr) (ns : List Int) (k : Int), vs = [.ref a, .int k] ∧ SqL K H a (ns.map V.int) ∧ 0 ≤ k ∧ ∀ z : Int, Q (.int z) H
section
variable {P : Program} {w : World} {K : PySem.W.Frag} {mg : Str → Option Value} {base : Heap}
theorem scCell : FnScope ["_law_script", "_law_k"] ["_law_script", "_law_k"] (defScope sCell) := ⟨rfl, rfl, rfl, by decide +kernel, rfl, by decide +kernel, by decide +kernel⟩
theorem ok_cell {f : Addr} {fd : FuncData} (F : Fun K "_law_cell_at" "_law_cell_at" sCell f fd) (hlen : mg "len" = none) : FnOk P w K mg base CX0 1 f fd ["_law_script", "_law_k"] (spCell K) := by
  refine F.ok scCell (fun vs H Q E h => ?_) (fun cdv A outer s H vs Q E hr h => ?_)
  · obtain ⟨a, ns, k, rfl, _⟩ := h
    rfl
  · obtain ⟨a, ns, k, rfl, hS, h0, q⟩ := h
    refine ⟨_, pss_cons (ps_if (pt_cmpR op_lt (pv 1) (pe_callB call_len_seq (by rfl) hlen PySem.boot_len (pa_cons (pv 0) pa_nil)) (nomark _)) (pss_one (ps_ret (pe_ix ix_list (pv 0) (pv 1) (fun _ _ => rfl)))) pss_nil)
      (pss_one (ps_ret pe_int)), ?_⟩
    refine ⟨_, rfl, _, rfl, a, _, rfl, .inl hS, _, _, rfl, rfl, _, rfl, ?_⟩
    refine ite2 (fun h => ?_) (fun _ => q 0)
    have h := of_decide_eq_true h
    rw [List.length_map] at h
    have hk : k.toNat < ns.length := by omega
    exact ⟨_, rfl, _, rfl, ex4 a _ k _ ⟨rfl, rfl, hS, atI_map h0 (List.getElem?_eq_getElem hk), q _⟩⟩
theorem scInit : FnScope ["self", "stand", "entries"] ["self", "stand", "entries"] (defScope sInit) := ⟨rfl, rfl, rfl, by decide +kernel, rfl, by decide +kernel, by decide +kernel⟩
theorem ok_init {f C : Addr} {fd : FuncData} (F : Fun K "__init__" "Row.__init__" sInit f fd) (T : Cl K mg C) (htuple : mg "tuple" = none) : FnOk P w K mg base CX0 1 f fd ["self", "stand", "entries"] (spInit C) := by
  refine F.ok scInit (fun vs H Q E h => ?_) (fun cdv A outer s H vs Q E hr h => ?_)
  · obtain ⟨r, dx, st, en, ys, rfl, _⟩ := h
    rfl
  · obtain ⟨r, dx, st, en, ys, rfl, hR, he, q⟩ := h
    refine ⟨_, pss_cons (ps_fld (pv 0) (pv 1) rfl) (pss_one (ps_fld (pv 0) (pe_callTy call_tupT (by rfl) htuple bTuple (pa_cons (pv 2) pa_nil)) rfl)), ?_⟩
    refine ⟨_, rfl, _, rfl, r, C, dx, [], rfl, hR, T.cl, T.nS, (by show 0 < 1000; decide), ?_⟩
    have ner : en ≠ r := ne_of he hR (by intro z; cases z)
    refine ⟨_, rfl, en, ys, rfl, SqT.of (by rw [upd_ne ner]; exact he), _, rfl, ex4 r C dx _ ⟨rfl, upd_same, T.cl, T.nE, (by show 1 < 1000; decide), ?_⟩⟩
    exact q _ (fun b o hb e => by rw [upd_ne hb, upd_ne hb]; exact e) upd_same
theorem scLastP : FnScope ["self"] ["self"] (defScope sLastP) := ⟨rfl, rfl, rfl, by decide +kernel, rfl, by decide +kernel, by decide +kernel⟩
theorem ok_lastP {f C : Addr} {fd : FuncData} (F : Fun K "last_place" "Row.last_place" sLastP f fd) (T : Cl K mg C) (hlen : mg "len" = none) : FnOk P w K mg base CX0 1 f fd ["self"] (spLastP C) := by
  refine F.ok scLastP (fun vs H Q E h => ?_) (fun cdv A outer s H vs Q E hr h => ?_)
  · obtain ⟨r, st, en, pl, tm, sv, es, tms, rfl, _⟩ := h
    rfl
  · obtain ⟨r, st, en, pl, tm, sv, es, tms, rfl, ⟨⟨dx, h1⟩, h2, h3, h4, h5, h6⟩, q⟩ := h
    refine ⟨_, pss_one <| ps_ret <| pe_op op_add (pe_ix ix_tup (pe_fld (pv 0) rfl) pe_int (fun _ _ => rfl)) (pe_callB call_len_seq (by rfl) hlen PySem.boot_len (pa_cons (pe_fld (pv 0) rfl) pa_nil)), ?_⟩
    refine ⟨_, rfl, ex5 r C dx _ _ ⟨rfl, h1, T.cl, T.nS, flds_s _ _, st, _, _, _, rfl, rfl, SqT.of h2, at0, _, rfl, ex5 r C dx _ _ ⟨rfl, h1, T.cl, T.nE, flds_e _ _, en, _, rfl, .inr (SqT.of h3), _, _, rfl, rfl, ?_⟩⟩⟩
    rw [List.length_map, h4]
    exact q
theorem scEntAt : FnScope ["self", "place"] ["self", "place"] (defScope sEntAt) := ⟨rfl, rfl, rfl, by decide +kernel, rfl, by decide +kernel, by decide +kernel⟩
theorem ok_entAt {f C : Addr} {fd : FuncData} (F : Fun K "entry_at" "Row.entry_at" sEntAt f fd) (T : Cl K mg C) : FnOk P w K mg base CX0 1 f fd ["self", "place"] (spEntAt C) := by
  refine F.ok scEntAt (fun vs H Q E h => ?_) (fun cdv A outer s H vs Q E hr h => ?_)
  · obtain ⟨r, st, en, pl, tm, sv, es, tms, k, e, rfl, _⟩ := h
    rfl
  · obtain ⟨r, st, en, pl, tm, sv, es, tms, k, e, rfl, ⟨⟨dx, h1⟩, h2, h3, h4, h5, h6⟩, hk, q⟩ := h
    refine ⟨_, pss_one <| ps_ret <| pe_ix ix_tup (pe_fld (pv 0) rfl) (pe_op op_sub (pe_op op_sub (pv 1) (pe_ix ix_tup (pe_fld (pv 0) rfl) pe_int (fun _ _ => rfl))) pe_int) (fun _ _ => rfl), ?_⟩
    refine ⟨_, rfl, ex5 r C dx _ _ ⟨rfl, h1, T.cl, T.nE, flds_e _ _, _, rfl, _, rfl, ex5 r C dx _ _ ⟨rfl, h1, T.cl, T.nS, flds_s _ _, st, _, _, _, rfl, rfl, SqT.of h2, at0, _, _, rfl, rfl, _, _, rfl, rfl, ex4 en _ _ _ ⟨rfl, rfl, SqT.of h3, ?_, q⟩⟩⟩⟩
    have e2 : pl + 1 + (k : Int) - pl - 1 = (k : Int) := by omega
    rw [e2]
    exact atI_nat (by rw [List.getElem?_map, hk]; rfl)
theorem scUpTo : FnScope ["self", "place"] ["self", "place"] (defScope sUpTo) := ⟨rfl, rfl, rfl, by decide +kernel, rfl, by decide +kernel, by decide +kernel⟩
theorem ok_upTo {f C : Addr} {fd : FuncData} (F : Fun K "up_to" "Row.up_to" sUpTo f fd) (T : Cl K mg C) : FnOk P w K mg base CX0 1 f fd ["self", "place"] (spUpTo C) := by
  refine F.ok scUpTo (fun vs H Q E h => ?_) (fun cdv A outer s H vs Q E hr h => ?_)
  · obtain ⟨r, st, en, pl, tm, sv, es, tms, k, rfl, _⟩ := h
    rfl
  · obtain ⟨r, st, en, pl, tm, sv, es, tms, k, rfl, ⟨⟨dx, h1⟩, h2, h3, h4, h5, h6⟩, q⟩ := h
    refine ⟨_, pss_one <| ps_ret <| pe_slice sl_tupU (pe_fld (pv 0) rfl) po_none (po_some (pe_op op_sub (pv 1) (pe_ix ix_tup (pe_fld (pv 0) rfl) pe_int (fun _ _ => rfl)))), ?_⟩
    refine ⟨_, rfl, ex5 r C dx _ _ ⟨rfl, h1, T.cl, T.nE, flds_e _ _, _, rfl, _, rfl, ex5 r C dx _ _ ⟨rfl, h1, T.cl, T.nS, flds_s _ _, st, _, _, _, rfl, rfl, SqT.of h2, at0, _, _, rfl, rfl, _, rfl, en, _, rfl, h3, fun t H' s' e' => q t H' s' ?_⟩⟩⟩
    have e2 : pl + (k : Int) - pl = (k : Int) := by omega
    rw [e2, cut_to] at e'
    exact e'
theorem scBehind : FnScope ["self", "place"] ["self", "place"] (defScope sBehind) := ⟨rfl, rfl, rfl, by decide +kernel, rfl, by decide +kernel, by decide +kernel⟩
theorem ok_behind {f C : Addr} {fd : FuncData} (F : Fun K "behind" "Row.behind" sBehind f fd) (T : Cl K mg C) : FnOk P w K mg base CX0 1 f fd ["self", "place"] (spBehind C) := by
  refine F.ok scBehind (fun vs H Q E h => ?_) (fun cdv A outer s H vs Q E hr h => ?_)
  · obtain ⟨r, st, en, pl, tm, sv, es, tms, k, rfl, _⟩ := h
    rfl
  · obtain ⟨r, st, en, pl, tm, sv, es, tms, k, rfl, ⟨⟨dx, h1⟩, h2, h3, h4, h5, h6⟩, q⟩ := h
    refine ⟨_, pss_one <| ps_ret <| pe_slice sl_tupU (pe_fld (pv 0) rfl) (po_some (pe_op op_sub (pv 1) (pe_ix ix_tup (pe_fld (pv 0) rfl) pe_int (fun _ _ => rfl)))) po_none, ?_⟩
    refine ⟨_, rfl, ex5 r C dx _ _ ⟨rfl, h1, T.cl, T.nE, flds_e _ _, _, rfl, _, rfl, ex5 r C dx _ _ ⟨rfl, h1, T.cl, T.nS, flds_s _ _, st, _, _, _, rfl, rfl, SqT.of h2, at0, _, _, rfl, rfl, _, rfl, en, _, rfl, h3, fun t H' s' e' => q t H' s' ?_⟩⟩⟩
    have e2 : pl + (k : Int) - pl = (k : Int) := by omega
    rw [e2, cut_from] at e'
    exact e'
theorem scTermAt : FnScope ["self", "place"] ["self", "place"] (defScope sTermAt) := ⟨rfl, rfl, rfl, by decide +kernel, rfl, by decide +kernel, by decide +kernel⟩
theorem ok_termAt {f C : Addr} {fd : FuncData} (F : Fun K "term_at" "Row.term_at" sTermAt f fd) (T : Cl K mg C) (Ml : MeAt P w K mg base C 1 "last_place" ["self"] (spLastP C)) (Me : MeAt P w K mg base C 1 "entry_at" ["self", "place"] (spEntAt C)) : FnOk P w K mg base CX0 2 f fd ["self", "place"] (spTermAt C) := by
  refine F.ok scTermAt (fun vs H Q E h => ?_) (fun cdv A outer s H vs Q E hr h => ?_)
  · obtain ⟨r, st, en, pl, tm, sv, es, tms, p, rfl, _⟩ := h
    rfl
  · obtain ⟨r, st, en, pl, tm, sv, es, tms, p, rfl, hR, q⟩ := h
    obtain ⟨⟨dx, h1⟩, h2, h3, h4, h5, h6⟩ := id hR
    refine ⟨_, pss_cons (ps_if (pt_cmpR op_eq (pv 1) (pe_ix ix_tup (pe_fld (pv 0) rfl) pe_int (fun _ _ => rfl)) (nomark _)) (pss_one (ps_ret (pe_ix ix_tup (pe_fld (pv 0) rfl) pe_int (fun _ _ => rfl)))) pss_nil) <|
      pss_cons (ps_if (PW.pt (pw_or (pt_cmpR op_lt (pv 1) (pe_ix ix_tup (pe_fld (pv 0) rfl) pe_int (fun _ _ => rfl)) (nomark _)) (pw_or1 (pt_cmpR op_gt (pv 1) (pe_methF0 Ml T.cl hr (pv 0)) (nomark _))))) (pss_one (ps_ret pe_non)) pss_nil) <|
      pss_one <| ps_ret <| pe_ix ix_tup (pe_methF Me T.cl hr (pv 0) (pa_cons (pv 1) pa_nil)) pe_int (fun _ _ => rfl), ?_⟩
    refine ⟨_, rfl, _, rfl, ex5 r C dx _ _ ⟨rfl, h1, T.cl, T.nS, flds_s _ _, st, _, _, _, rfl, rfl, SqT.of h2, at0, rfl, _, rfl, ?_⟩⟩
    by_cases hp : p = pl
    · have e : termV pl tm tms p = .int tm := by unfold termV; rw [if_pos hp]
      rw [e] at q
      refine ite2 (fun _ => ?_) (fun z => absurd (decide_eq_true (by rw [hp])) z)
      exact ⟨_, rfl, ex5 r C dx _ _ ⟨rfl, h1, T.cl, T.nS, flds_s _ _, st, _, _, _, rfl, rfl, SqT.of h2, at1, q⟩⟩
    · refine ite2 (fun z => absurd (of_decide_eq_true z) (by intro y; cases y; exact hp rfl)) (fun _ => ?_)
      refine ⟨_, rfl, _, rfl, ex5 r C dx _ _ ⟨rfl, h1, T.cl, T.nS, flds_s _ _, st, _, _, _, rfl, rfl, SqT.of h2, at0, _, _, rfl, rfl, _, rfl, ?_⟩⟩
      refine ite2 (fun z => iteT ?_) (fun z1 => ?_)
      · have z := of_decide_eq_true z
        rw [termV_off pl tm tms (.inl z)] at q
        exact q
      · have z1 : ¬ p < pl := fun y => z1 (decide_eq_true y)
        refine ⟨_, rfl, _, rfl, ex3 r dx _ ⟨rfl, h1, rfl, ex8 r st en pl tm sv es tms ⟨rfl, hR, _, _, rfl, rfl, _, rfl, ?_⟩⟩⟩
        refine ite2 (fun z => ?_) (fun z2 => ?_)
        · have z := of_decide_eq_true z
          rw [termV_off pl tm tms (.inr z)] at q
          exact q
        · have z2 : ¬ pl + (tms.length : Int) < p := fun y => z2 (decide_eq_true y)
          obtain ⟨k, hk⟩ : ∃ k : Nat, p = pl + 1 + k := ⟨(p - pl - 1).toNat, by omega⟩
          subst hk
          have hk : k < tms.length := by omega
          have hke : k < es.length := by omega
          obtain ⟨d, hd⟩ := h5 k es[k] tms[k] (List.getElem?_eq_getElem hke) (List.getElem?_eq_getElem hk)
          refine ⟨_, rfl, ex3 r dx _ ⟨rfl, h1, rfl, _, rfl, r, st, en, pl, tm, sv, es, tms, k, es[k], rfl, hR, List.getElem?_eq_getElem hke, es[k], _, _, _, rfl, rfl, SqT.of hd, at0, ?_⟩⟩
          have e := termV_at pl tm tms (k := k + 1) (by omega)
          rw [show pl + ((k + 1 : Nat) : Int) = pl + 1 + (k : Int) by omega] at e
          rw [e] at q
          have e2 : (tm :: tms).getD (k + 1) 0 = tms[k] := by
            rw [List.getD_cons_succ, List.getD_eq_getElem?_getD, List.getElem?_eq_getElem hk]; rfl
          rw [e2] at q
          exact q
theorem scLastT : FnScope ["self"] ["self"] (defScope sLastT) := ⟨rfl, rfl, rfl, by decide +kernel, rfl, by decide +kernel, by decide +kernel⟩
theorem ok_lastT {f C : Addr} {fd : FuncData} (F : Fun K "last_term" "Row.last_term" sLastT f fd) (T : Cl K mg C) (Ml : MeAt P w K mg base C 1 "last_place" ["self"] (spLastP C)) (Mt : MeAt P w K mg base C 2 "term_at" ["self", "place"] (spTermAt C)) : FnOk P w K mg base CX0 3 f fd ["self"] (spLastT C) := by
  refine F.ok scLastT (fun vs H Q E h => ?_) (fun cdv A outer s H vs Q E hr h => ?_)
  · obtain ⟨r, st, en, pl, tm, sv, es, tms, rfl, _⟩ := h
    rfl
  · obtain ⟨r, st, en, pl, tm, sv, es, tms, rfl, hR, q⟩ := h
    obtain ⟨⟨dx, h1⟩, h2, h3, h4, h5, h6⟩ := id hR
    refine ⟨_, pss_one <| ps_ret <| pe_methF Mt T.cl hr (pv 0) (pa_cons (pe_methF0 Ml T.cl (hr.mono (by decide)) (pv 0)) pa_nil), ?_⟩
    refine ⟨_, rfl, ex3 r dx _ ⟨rfl, h1, rfl, _, rfl, ex3 r dx _ ⟨rfl, h1, rfl, ex8 r st en pl tm sv es tms ⟨rfl, hR, r, st, en, pl, tm, sv, es, tms, _, rfl, hR, ?_⟩⟩⟩⟩
    rw [termV_last]
    exact q
end
end K23


set_option maxHeartbeats 4000000
namespace K23
open PySem L2
abbrev sBenchAt : Stmt := inClass (top 2) 8
abbrev sBenchM : Stmt := inClass (top 2) 9
/-- a bench, as a tuple of things that equal themselves -/
def BT (H : Hp) (b : Addr) : Prop := ∃ xs, H b = some (.tup xs) ∧ ∀ v ∈ xs, smV v = true
/-- an entry, and the bench that it tells, if any -/
def BnAt (H : Hp) (e : Addr) (bn : Option Addr) : Prop := ∃ (t : Int) (d : Addr), H e = some (.tup [.int t, .ref d]) ∧ ((∃ b, bn = some b ∧ H d = some (.tup [.str "bench", .ref b]) ∧ BT H b) ∨ (bn = none ∧ ∃ k dv, H d = some (.tup (.str k :: dv)) ∧ k ≠ "bench"))
def Bns (H : Hp) (es : List Addr) (bns : List (Option Addr)) : Prop := es.length = bns.length ∧ ∀ (i : Nat) (e : Addr) (bn : Option Addr), es[i]? = some e → bns[i]? = some bn → BnAt H e bn
theorem BT.same {H H' : Hp} {b : Addr} (e : Same H H') (h : BT H b) : BT H' b := by
  obtain ⟨xs, h1, h2⟩ := h
  exact ⟨xs, e _ _ h1, h2⟩
theorem BnAt.same {H H' : Hp} {e : Addr} {bn : Option Addr} (k : Same H H') (h : BnAt H e bn) : BnAt H' e bn := by
  obtain ⟨t, d, h1, h2⟩ := h
  refine ⟨t, d, k _ _ h1, ?_⟩
  rcases h2 with ⟨b, e1, e2, e3⟩ | ⟨e1, x, dv, e2, e3⟩
  · exact .inl ⟨b, e1, k _ _ e2, e3.same k⟩
  · exact .inr ⟨e1, x, dv, k _ _ e2, e3⟩
theorem Bns.same {H H' : Hp} {es : List Addr} {bns : List (Option Addr)} (k : Same H H') (h : Bns H es bns) : Bns H' es bns := ⟨h.1, fun i e bn h1 h2 => (h.2 i e bn h1 h2).same k⟩
theorem Bns.make {H : Hp} : ∀ {es : List Addr}, (∀ e ∈ es, ∃ bn, BnAt H e bn) → ∃ bns, Bns H es bns
  | [], _ => ⟨[], rfl, fun i e bn h => by simp at h⟩
  | e :: r, h => by
    obtain ⟨bn, hb⟩ := h e (List.mem_cons_self ..)
    obtain ⟨bns, h1, h2⟩ := Bns.make (es := r) fun x hx => h x (List.mem_cons_of_mem _ hx)
    refine ⟨bn :: bns, by rw [List.length_cons, List.length_cons, h1], fun i x y hx hy => ?_⟩
    cases i with
    | zero => cases hx; cases hy; exact hb
    | succ i => exact h2 i x y (by simpa using hx) (by simpa using hy)
/-- the bench behind entries -/
def benchOf (b0 : Addr) (bns : List (Option Addr)) : Addr := (bns.reverse.findSome? id).getD b0
theorem benchOf_nil (b0 : Addr) : benchOf b0 [] = b0 := rfl
theorem benchOf_some (b0 b : Addr) (bns : List (Option Addr)) : benchOf b0 (bns ++ [some b]) = b := by
  unfold benchOf
  rw [List.reverse_append]
  rfl
theorem benchOf_none (b0 : Addr) (bns : List (Option Addr)) : benchOf b0 (bns ++ [none]) = benchOf b0 bns := by
  unfold benchOf
  rw [List.reverse_append]
  rfl
theorem Bns.bt {H : Hp} {b0 : Addr} (h0 : BT H b0) : ∀ {es : List Addr} {bns : List (Option Addr)}, Bns H es bns → ∀ k, BT H (benchOf b0 (bns.take k)) := by
  intro es bns h k
  induction k with
  | zero => exact h0
  | succ k ih =>
    by_cases hk : k < bns.length
    · rw [List.take_add_one, List.getElem?_eq_getElem hk]
      have hke : k < es.length := by rw [h.1]; exact hk
      obtain ⟨t, d, _, h2⟩ := h.2 k es[k] bns[k] (List.getElem?_eq_getElem hke) (List.getElem?_eq_getElem hk)
      rcases h2 with ⟨b, e1, _, e3⟩ | ⟨e1, _⟩
      · rw [e1]
        show BT H (benchOf b0 (bns.take k ++ [some b]))
        rw [benchOf_some]; exact e3
      · rw [e1]
        show BT H (benchOf b0 (bns.take k ++ [none]))
        rw [benchOf_none]; exact ih
    · rw [List.take_of_length_le (by omega)] at ih ⊢
      exact ih
def spBenchAt (C : Addr) : Sp := fun us H Q _ => ∃ (r st en : Addr) (pl tm : Int) (b0 : Addr) (sv : List V) (es : List Addr) (tms : List Int) (bns : List (Option Addr)) (k : Nat), us = [.ref r, .int (pl + k)] ∧ RowAt C H r st en pl tm (.ref b0 :: sv) es tms ∧ Bns H es bns ∧ ∀ H', Same H H' → Q (.ref (benchOf b0 (bns.take k))) H'
def spBenchM (C : Addr) : Sp := fun us H Q _ => ∃ (r st en : Addr) (pl tm : Int) (b0 : Addr) (sv : List V) (es : List Addr) (tms : List Int) (bns : List (Option Addr)), us = [.ref r] ∧ RowAt C H r st en pl tm (.ref b0 :: sv) es tms ∧ Bns H es bns ∧ ∀ H', Same H H' → Q (.ref (benchOf b0 bns)) H'
theorem at2' {α : Type} {a b c : α} {r : List α} : atI (a :: b :: c :: r) 2 = some c := atI_nat (j := 2) rfl
theorem dec_str (a b : Str) : decide (V.str a = V.str b) = decide (a = b) := by
  rw [Bool.eq_iff_iff, decide_eq_true_iff, decide_eq_true_iff]
  exact ⟨fun h => by cases h; rfl, fun h => by rw [h]⟩
section
variable {P : Program} {w : World} {K : PySem.W.Frag} {mg : Str → Option Value} {base : Heap}
theorem scBenchAt : FnScope ["self", "place", "entry"] ["self", "place"] (defScope sBenchAt) := ⟨rfl, rfl, rfl, by decide +kernel, rfl, by decide +kernel, by decide +kernel⟩
theorem ok_benchAt {f C : Addr} {fd : FuncData} (F : Fun K "bench_at" "Row.bench_at" sBenchAt f fd) (T : Cl K mg C) (hrev : mg "reversed" = none) (Mu : MeAt P w K mg base C 1 "up_to" ["self", "place"] (spUpTo C)) : FnOk P w K mg base CX0 2 f fd ["self", "place"] (spBenchAt C) := by
  refine F.ok scBenchAt (fun vs H Q E h => ?_) (fun cdv A outer s H vs Q E hr h => ?_)
  · obtain ⟨r, st, en, pl, tm, b0, sv, es, tms, bns, k, rfl, _⟩ := h
    rfl
  · obtain ⟨r, st, en, pl, tm, b0, sv, es, tms, bns, k, rfl, hR, hB, q⟩ := h
    obtain ⟨⟨dx, h1⟩, h2, h3, h4, h5, h6⟩ := id hR
    have nd := scBenchAt.nd
    refine ⟨_, pss_cons (ps_for PassesOwn.never rfl (pi_revT (by rfl) hrev (pa_cons (pe_methF Mu T.cl hr (pv 0) (pa_cons (pv 1) pa_nil)) pa_nil)) (pg_name (i := 2) nd rfl (Or.inl rfl))
        (pss_one (ps_if (pt_cmpR op_eq (pe_ix ix_tup (pe_ix ix_tup (pv 2) pe_int (fun _ _ => rfl)) pe_int (fun _ _ => rfl)) pe_str (nomark _)) (pss_one (ps_ret (pe_ix ix_tup (pe_ix ix_tup (pv 2) pe_int (fun _ _ => rfl)) pe_int (fun _ _ => rfl)))) pss_nil))) <|
      pss_one <| ps_ret <| pe_ix ix_tup (pe_fld (pv 0) rfl) pe_int (fun _ _ => rfl), ?_⟩
    refine ⟨_, rfl, ex3 r dx _ ⟨rfl, h1, rfl, _, rfl, ex9 r st en pl tm _ es tms k ⟨rfl, hR, fun t H1 s1 e1 => ?_⟩⟩⟩
    have hk' : (es.take k).length ≤ bns.length := by rw [List.length_take, hB.1]; omega
    have htk : bns.take k = bns.take (es.take k).length := by
      rw [List.length_take, hB.1]
      by_cases h : k ≤ bns.length
      · rw [Nat.min_eq_left h]
      · rw [Nat.min_eq_right (by omega), List.take_of_length_le (by omega), List.take_of_length_le (Nat.le_refl _)]
    rw [htk] at q
    refine ⟨t, _, rfl, SqT.of e1, for_rev (xs := (es.take k).map V.ref) (fun i σ Hx => ∃ (v : Option V), σ = [some (V.ref r), some (.int (pl + (k : Int))), v] ∧ Same H1 Hx ∧ benchOf b0 (bns.take (es.take k).length) = benchOf b0 (bns.take ((es.take k).length - i))) ⟨none, rfl, Same.refl _, by rw [Nat.sub_zero]⟩ ?_ ?_ ?_⟩
    · rintro i σ Hx hi ⟨v, rfl, sx, _⟩
      exact SqT.of (sx _ _ e1)
    · rintro i x σ Hx hx ⟨v, rfl, sx, eb⟩
      have hi : i < (es.take k).length := by
        have := (List.getElem?_eq_some_iff.mp hx).1
        rw [List.length_reverse, List.length_map] at this
        exact this
      rw [← List.map_reverse, List.getElem?_map, List.getElem?_reverse hi] at hx
      have hj : (es.take k).length - 1 - i < (es.take k).length := by omega
      rw [List.getElem?_eq_getElem hj] at hx
      cases hx
      have hje : (es.take k).length - 1 - i < es.length := by
        have : (es.take k).length ≤ es.length := by rw [List.length_take]; omega
        omega
      have hjb : (es.take k).length - 1 - i < bns.length := by omega
      have e3 : (es.take k)[(es.take k).length - 1 - i] = es[(es.take k).length - 1 - i] := List.getElem_take
      obtain ⟨tt, d, hd, hcase⟩ := (hB.2 _ _ _ (List.getElem?_eq_getElem hje) (List.getElem?_eq_getElem hjb))
      have eb2 : (es.take k).length - i = ((es.take k).length - 1 - i) + 1 := by omega
      rw [eb2, List.take_add_one, List.getElem?_eq_getElem hjb] at eb
      have eb3 : (es.take k).length - 1 - i = (es.take k).length - (i + 1) := by omega
      rw [e3]
      generalize es[(es.take k).length - 1 - i] = e at hd
      have sH := s1.trans sx
      rcases hcase with ⟨b, e1', e2', _⟩ | ⟨e1', kk, dv, e2', e3'⟩
      · rw [e1'] at eb
        have eb : benchOf b0 (bns.take (es.take k).length) = b := eb.trans (benchOf_some _ _ _)
        refine ⟨_, rfl, ex4 e _ _ _ ⟨rfl, rfl, SqT.of (sH _ _ hd), at1, d, _, _, _, rfl, rfl, SqT.of (sH _ _ e2'), at0, rfl, _, rfl, ?_⟩⟩
        rw [decide_eq_true rfl]
        refine iteT ⟨_, rfl, ex4 e _ _ _ ⟨rfl, rfl, SqT.of (sH _ _ hd), at1, d, _, _, _, rfl, rfl, SqT.of (sH _ _ e2'), at1, ?_⟩⟩
        have := q Hx sH
        rw [eb] at this
        exact this
      · rw [e1'] at eb
        have eb : benchOf b0 (bns.take (es.take k).length) = benchOf b0 (bns.take ((es.take k).length - 1 - i)) := eb.trans (benchOf_none _ _)
        rw [eb3] at eb
        refine ⟨_, rfl, ex4 e _ _ _ ⟨rfl, rfl, SqT.of (sH _ _ hd), at1, d, _, _, _, rfl, rfl, SqT.of (sH _ _ e2'), at0, rfl, _, rfl, ?_⟩⟩
        rw [dec_str, decide_eq_false e3']
        exact iteF ⟨_, rfl, sx, eb⟩
    · rintro σ Hx ⟨v, rfl, sx, eb⟩
      rw [List.length_map, Nat.sub_self, List.take_zero, benchOf_nil] at eb
      rw [eb] at q
      have sH := s1.trans sx
      exact ⟨_, rfl, ex5 r C dx _ _ ⟨rfl, sH _ _ h1, T.cl, T.nS, flds_s _ _, st, _, _, _, rfl, rfl, SqT.of (sH _ _ h2), at2', q Hx sH⟩⟩
theorem scBenchM : FnScope ["self"] ["self"] (defScope sBenchM) := ⟨rfl, rfl, rfl, by decide +kernel, rfl, by decide +kernel, by decide +kernel⟩
theorem ok_benchM {f C : Addr} {fd : FuncData} (F : Fun K "bench" "Row.bench" sBenchM f fd) (T : Cl K mg C) (Ml : MeAt P w K mg base C 1 "last_place" ["self"] (spLastP C)) (Mb : MeAt P w K mg base C 2 "bench_at" ["self", "place"] (spBenchAt C)) : FnOk P w K mg base CX0 3 f fd ["self"] (spBenchM C) := by
  refine F.ok scBenchM (fun vs H Q E h => ?_) (fun cdv A outer s H vs Q E hr h => ?_)
  · obtain ⟨r, st, en, pl, tm, b0, sv, es, tms, bns, rfl, _⟩ := h
    rfl
  · obtain ⟨r, st, en, pl, tm, b0, sv, es, tms, bns, rfl, hR, hB, q⟩ := h
    obtain ⟨⟨dx, h1⟩, h2, h3, h4, h5, h6⟩ := id hR
    refine ⟨_, pss_one <| ps_ret <| pe_methF Mb T.cl hr (pv 0) (pa_cons (pe_methF0 Ml T.cl (hr.mono (by decide)) (pv 0)) pa_nil), ?_⟩
    refine ⟨_, rfl, ex3 r dx _ ⟨rfl, h1, rfl, _, rfl, ex3 r dx _ ⟨rfl, h1, rfl, ex8 r st en pl tm _ es tms ⟨rfl, hR, r, st, en, pl, tm, b0, sv, es, tms, bns, tms.length, rfl, hR, hB, fun H' s' => ?_⟩⟩⟩⟩
    have := q H' s'
    rw [List.take_of_length_le (by rw [← hB.1, h4]; exact Nat.le_refl _)]
    exact this
end
end K23

set_option maxHeartbeats 4000000
namespace K23
open PySem L2
abbrev sFilled : Stmt := inClass (top 2) 12
/-- how far two rows of terms are alike -/
def cp : List Int → List Int → Nat
  | a :: as, b :: bs => if a = b then cp as bs + 1 else 0
  | _, _ => 0
theorem cp_nil (T : List Int) : cp T [] = 0 := by cases T <;> rfl
theorem cp_nil' (M : List Int) : cp [] M = 0 := by cases M <;> rfl
theorem cp_le : ∀ (T M : List Int), cp T M ≤ M.length
  | [], M => by rw [cp_nil']; exact Nat.zero_le _
  | a :: T, [] => by rw [cp_nil]; exact Nat.zero_le _
  | a :: T, b :: M => by
    unfold cp
    split
    · have := cp_le T M
      rw [List.length_cons]; omega
    · exact Nat.zero_le _
theorem cp_leT : ∀ (T M : List Int), cp T M ≤ T.length
  | [], M => by rw [cp_nil']; exact Nat.zero_le _
  | a :: T, [] => by rw [cp_nil]; exact Nat.zero_le _
  | a :: T, b :: M => by
    unfold cp
    split
    · have := cp_leT T M
      rw [List.length_cons]; omega
    · exact Nat.zero_le _
theorem cp_more : ∀ {T M : List Int} {i : Nat} {t : Int}, i ≤ cp T M → M[i]? = some t → T[i]? = some t → i + 1 ≤ cp T M
  | [], M, i, t, _, _, h => by simp at h
  | a :: T, [], i, t, _, h, _ => by simp at h
  | a :: T, b :: M, 0, t, _, h1, h2 => by
    simp only [List.getElem?_cons_zero, Option.some.injEq] at h1 h2
    subst h1 h2
    unfold cp
    rw [if_pos rfl]; omega
  | a :: T, b :: M, i + 1, t, h, h1, h2 => by
    simp only [List.getElem?_cons_succ] at h1 h2
    unfold cp at h ⊢
    split at h
    · rename_i hab
      have := cp_more (T := T) (M := M) (i := i) (by omega) h1 h2
      rw [if_pos hab]
      omega
    · omega
theorem cp_at : ∀ {T M : List Int} {i : Nat}, i < cp T M → T[i]? = M[i]?
  | [], M, i, h => by rw [cp_nil'] at h; omega
  | a :: T, [], i, h => by rw [cp_nil] at h; omega
  | a :: T, b :: M, 0, h => by
    unfold cp at h
    split at h
    · rename_i hab; rw [hab]; rfl
    · omega
  | a :: T, b :: M, i + 1, h => by
    unfold cp at h
    split at h
    · simp only [List.getElem?_cons_succ]
      exact cp_at (by omega)
    · omega
theorem cp_stop {T M : List Int} {i : Nat} {t : Int} (h : i ≤ cp T M) (h1 : M[i]? = some t) (h2 : T[i]? ≠ some t) : cp T M = i := by
  refine Nat.le_antisymm (Nat.le_of_not_lt fun hlt => h2 ?_) h
  rw [cp_at hlt]; exact h1
def fillL {α : Type} (T M : List Int) (k : Nat) (es ms : List α) : List α := if cp (T.drop k) M = M.length then es else es.take (k + cp (T.drop k) M) ++ ms.drop (cp (T.drop k) M)
/-- entries of a filling, as they lie -/
def Ms (H : Hp) (m : Addr) (ms : List Addr) (mt : List Int) : Prop := H m = some (.tup (ms.map V.ref)) ∧ ms.length = mt.length ∧ ∀ (i : Nat) (e : Addr) (t : Int), ms[i]? = some e → mt[i]? = some t → ∃ d, H e = some (.tup [.int t, .ref d])
theorem Ms.same {H H' : Hp} {m : Addr} {ms : List Addr} {mt : List Int} (s : Same H H') (h : Ms H m ms mt) : Ms H' m ms mt := by
  obtain ⟨h1, h2, h3⟩ := h
  refine ⟨s _ _ h1, h2, fun i e t he ht => ?_⟩
  obtain ⟨d, hd⟩ := h3 i e t he ht
  exact ⟨d, s _ _ hd⟩
theorem ent_cat {H : Hp} {es ms : List Addr} {ts ut : List Int} (hl : es.length = ts.length) (h1 : ∀ (i : Nat) (e : Addr) (t : Int), es[i]? = some e → ts[i]? = some t → ∃ d, H e = some (.tup [.int t, .ref d]))
    (h2 : ∀ (i : Nat) (e : Addr) (t : Int), ms[i]? = some e → ut[i]? = some t → ∃ d, H e = some (.tup [.int t, .ref d])) : ∀ (i : Nat) (e : Addr) (t : Int), (es ++ ms)[i]? = some e → (ts ++ ut)[i]? = some t → ∃ d, H e = some (.tup [.int t, .ref d]) := by
  intro i e t he ht
  by_cases hi : i < es.length
  · rw [List.getElem?_append_left hi] at he
    rw [List.getElem?_append_left (by omega)] at ht
    exact h1 i e t he ht
  · rw [List.getElem?_append_right (by omega)] at he
    rw [List.getElem?_append_right (by omega), ← hl] at ht
    exact h2 _ e t he ht
theorem ent_take {H : Hp} {es : List Addr} {ts : List Int} (k : Nat) (h1 : ∀ (i : Nat) (e : Addr) (t : Int), es[i]? = some e → ts[i]? = some t → ∃ d, H e = some (.tup [.int t, .ref d])) : ∀ (i : Nat) (e : Addr) (t : Int), (es.take k)[i]? = some e → (ts.take k)[i]? = some t → ∃ d, H e = some (.tup [.int t, .ref d]) := by
  intro i e t he ht
  rw [List.getElem?_take] at he ht
  split at he
  · rename_i hi
    rw [if_pos hi] at ht
    exact h1 i e t he ht
  · cases he
theorem ent_drop {H : Hp} {es : List Addr} {ts : List Int} (k : Nat) (h1 : ∀ (i : Nat) (e : Addr) (t : Int), es[i]? = some e → ts[i]? = some t → ∃ d, H e = some (.tup [.int t, .ref d])) : ∀ (i : Nat) (e : Addr) (t : Int), (es.drop k)[i]? = some e → (ts.drop k)[i]? = some t → ∃ d, H e = some (.tup [.int t, .ref d]) := by
  intro i e t he ht
  rw [List.getElem?_drop] at he ht
  exact h1 _ e t he ht
/-- a filling from any place on: sk of its entries lie at the stand's place or ahead of it, k of the row's are kept -/
def spFilled (C : Addr) : Sp := fun us H Q _ => ∃ (r st en m : Addr) (p th pl tm : Int) (sv : List V) (es : List Addr) (tms : List Int) (k sk : Nat) (ms : List Addr) (mt : List Int), us = [.ref r, .int p, .int th, .ref m] ∧ RowAt C H r st en pl tm sv es tms ∧ Ms H m ms mt ∧ p + sk = pl + k ∧ (sk = 0 ∨ k = 0) ∧ es.length + ms.length ≤ 700 ∧
  (pl ≤ p → termV pl tm tms p ≠ .int th → Q .non H) ∧
  ((pl ≤ p → termV pl tm tms p = .int th) → ∀ (r' en' : Addr) (H' : Hp), Same H H' → RowAt C H' r' st en' pl tm sv (fillL tms (mt.drop sk) k es (ms.drop sk)) (fillL tms (mt.drop sk) k tms (mt.drop sk)) → Q (.ref r') H')
theorem term_next (pl tm : Int) (tms : List Int) (k : Nat) (t : Int) (hk : k ≤ tms.length) : (termV pl tm tms (pl + k + 1) = .int t) ↔ tms[k]? = some t := by
  by_cases h : k < tms.length
  · have e := termV_at pl tm tms (k := k + 1) (by omega)
    rw [show pl + ((k + 1 : Nat) : Int) = pl + (k : Int) + 1 by omega] at e
    rw [e, List.getD_cons_succ, List.getD_eq_getElem?_getD, List.getElem?_eq_getElem h]
    constructor
    · intro z
      have : (some tms[k]).getD 0 = t := by injection z
      rw [← this]; rfl
    · intro z
      have : tms[k] = t := Option.some.inj z
      rw [this]; rfl
  · rw [termV_off pl tm tms (.inr (by omega)), List.getElem?_eq_none (by omega)]
    constructor
    · intro z; cases z
    · intro z; cases z
theorem scal_term (pl tm : Int) (tms : List Int) (p t : Int) : scal (termV pl tm tms p) (.int t) = true := by
  unfold termV
  split
  · rfl
  · split <;> rfl
section
variable {P : Program} {w : World} {K : PySem.W.Frag} {mg : Str → Option Value} {base : Heap}
abbrev nFilled : List Str := ["self", "before", "there", "entries", "place", "entry"]
abbrev pFilled : List Str := ["self", "before", "there", "entries"]
theorem scFilled : FnScope nFilled pFilled (defScope sFilled) := ⟨rfl, rfl, rfl, by decide +kernel, rfl, by decide +kernel, by decide +kernel⟩
theorem ok_filled {f C : Addr} {fd : FuncData} (F : Fun K "filled" "Row.filled" sFilled f fd) (T : Cl K mg C) (henum : mg "enumerate" = none) (htup : mg "tuple" = none) (Mi : MkAt P w K mg base C 1 ["self", "stand", "entries"] (spInit C)) (Mt : MeAt P w K mg base C 2 "term_at" ["self", "place"] (spTermAt C)) (Mu : MeAt P w K mg base C 1 "up_to" ["self", "place"] (spUpTo C)) :
    FnOk P w K mg base CX0 3 f fd pFilled (spFilled C) := by
  refine F.ok scFilled (fun vs H Q E h => ?_) (fun cdv A outer s H vs Q E hr h => ?_)
  · obtain ⟨r, st, en, m, p0, th, pl, tm, sv, es, tms, k, sk, ms, mt, rfl, _⟩ := h
    rfl
  · obtain ⟨r, st, en, m, p0, th, pl, tm, sv, es, tms, k, sk, ms, mt, rfl, hR, hM, hps, hsk, h700, qN, q⟩ := h
    obtain ⟨⟨dx, h1⟩, h2, h3, h4, h5, h6⟩ := id hR
    obtain ⟨m1, m2, m3⟩ := id hM
    have nd := scFilled.nd
    have r1 : Room 1 _ := hr.mono (by decide)
    have hs16 : sizeLine = 16777216 := sizeLine_eq
    refine ⟨_, pss_cons (ps_if (PW.pt (pw_and (pt_cmpR op_ge (pv 1) (pe_ix ix_tup (pe_fld (pv 0) rfl) pe_int (fun _ _ => rfl)) (nomark _)) (pw_and1 (pt_cmpR op_ne (pe_methF Mt T.cl hr (pv 0) (pa_cons (pv 1) pa_nil)) (pv 2) (nomark _))))) (pss_one (ps_ret pe_non)) pss_nil) <|
      pss_cons (ps_for PassesOwn.never rfl (pi_enumK (by rfl) henum (pa_cons (pv 3) pa_nil) (pk_cons (pe_op op_add (pv 1) pe_int) pk_nil)) (pg_tup (n := 2) rfl (pgs_cons (pg_name (i := 4) nd rfl (Or.inl rfl)) (pgs_cons (pg_name (i := 5) nd rfl (Or.inl rfl)) pgs_nil)))
        (pss_one (ps_if (PW.pt (pw_and (pt_cmpR op_gt (pv 4) (pe_ix ix_tup (pe_fld (pv 0) rfl) pe_int (fun _ _ => rfl)) (nomark _)) (pw_and1 (pt_cmpR op_ne (pe_methF Mt T.cl hr (pv 0) (pa_cons (pv 4) pa_nil)) (pe_ix ix_tup (pv 5) pe_int (fun _ _ => rfl)) (nomark _)))))
          (pss_one (ps_ret (pe_makeF Mi hr T.mgC (pa_cons (pe_fld (pv 0) rfl) (pa_cons (pe_op op_catU (pe_methF Mu T.cl r1 (pv 0) (pa_cons (pe_op op_sub (pv 4) pe_int) pa_nil)) (pe_callTy call_tupT (by rfl) htup bTuple (pa_cons (pe_slice sl_tupU (pv 3) (po_some (pe_op op_sub (pe_op op_sub (pv 4) (pv 1)) pe_int)) po_none) pa_nil))) pa_nil))))) pss_nil))) <|
      pss_one (ps_ret (pe_makeF Mi hr T.mgC (pa_cons (pe_fld (pv 0) rfl) (pa_cons (pe_fld (pv 0) rfl) pa_nil)))), ?_⟩
    dsimp only [cxOf, Cx.nox]
    refine ⟨_, rfl, _, rfl, ex5 r C dx _ _ ⟨rfl, h1, T.cl, T.nS, flds_s _ _, st, _, _, _, rfl, rfl, SqT.of h2, at0, _, _, rfl, rfl, _, rfl, ?_⟩⟩
    have main : (pl ≤ p0 → termV pl tm tms p0 = .int th) → k ≤ tms.length := fun hz => by
      rcases hsk with h | h
      · by_cases hk : k ≤ tms.length
        · exact hk
        · have := hz (by omega)
          rw [termV_off pl tm tms (.inr (by omega))] at this
          cases this
      · omega
    by_cases hgo : ¬ (pl ≤ p0 → termV pl tm tms p0 = .int th)
    · have h1' : pl ≤ p0 := Classical.byContradiction fun z => hgo fun y => absurd y z
      have h2' : termV pl tm tms p0 ≠ .int th := fun z => hgo fun _ => z
      refine ite2 (fun _ => ?_) (fun z => absurd (decide_eq_true h1') z)
      refine ⟨_, rfl, ex3 r dx _ ⟨rfl, h1, rfl, _, rfl, ex9 r st en pl tm sv es tms _ ⟨rfl, hR, _, rfl, scal_term pl tm tms _ th, _, rfl, ?_⟩⟩⟩
      exact ite2 (fun _ => qN h1' h2') (fun z => absurd (by rw [decide_eq_false h2']; rfl) z)
    have hgo := Classical.not_not.mp hgo
    have hk := main hgo
    have q := q hgo
    refine ite2 (fun z => ?_) (fun _ => ?_)
    · have z := of_decide_eq_true z
      have hte := hgo z
      refine ⟨_, rfl, ex3 r dx _ ⟨rfl, h1, rfl, _, rfl, ex9 r st en pl tm sv es tms _ ⟨rfl, hR, _, rfl, ?_⟩⟩⟩
      rw [hte]
      refine ⟨rfl, _, rfl, iteNS rfl ?_⟩
      refine ⟨_, rfl, _, rfl, _, _, rfl, rfl, ex3 m _ _ ⟨rfl, rfl, SqT.of m1, for_enumK (K := K) (xs := ms.map V.ref) (fun i σ Hx => ∃ (v4 v5 : Option V), σ = [some (V.ref r), some (V.int p0), some (V.int th), some (V.ref m), v4, v5] ∧ Same H Hx ∧ i ≤ sk + cp (tms.drop k) (mt.drop sk)) ⟨none, none, rfl, Same.refl H, Nat.zero_le _⟩ ?_ ?_ ?_⟩⟩
      · rintro i σ Hx ⟨v4, v5, rfl, sx, _⟩
        exact SqT.of (sx _ _ m1)
      · rintro i x p σ Hx hx hp ⟨v4, v5, rfl, sx, hi⟩
        rw [List.getElem?_map] at hx
        cases he : ms[i]? with
        | none => rw [he] at hx; cases hx
        | some e =>
          rw [he] at hx
          cases hx
          have hil : i < ms.length := (List.getElem?_eq_some_iff.mp he).1
          have hit : i < mt.length := by omega
          have ht := List.getElem?_eq_getElem hit
          obtain ⟨d, hd⟩ := m3 i e _ he ht
          generalize mt[i] = t at ht hd
          have s1 := Same.new (o := .tup [.int (p0 + 1 + (i : Int)), .ref e]) hp
          have e1 : upd Hx p (.tup [.int (p0 + 1 + (i : Int)), .ref e]) p = some (.tup [.int (p0 + 1 + (i : Int)), .ref e]) := upd_same
          refine ⟨p, _, rfl, SqT.of e1, rfl, _, _, rfl, _, _, rfl, rfl, ?_⟩
          generalize upd Hx p (.tup [.int (p0 + 1 + (i : Int)), .ref e]) = H2 at s1 e1 ⊢
          have sH := sx.trans s1
          refine ⟨_, rfl, _, rfl, ex5 r C dx _ _ ⟨rfl, sH _ _ h1, T.cl, T.nS, flds_s _ _, st, _, _, _, rfl, rfl, SqT.of (sH _ _ h2), at0, _, _, rfl, rfl, _, rfl, ?_⟩⟩
          by_cases his : i < sk
          · refine ite2 (fun z => absurd (of_decide_eq_true z) (by omega)) (fun _ => ?_)
            exact iteF ⟨_, _, rfl, sH, by omega⟩
          refine ite2 (fun _ => ?_) (fun z => absurd (decide_eq_true (show pl < p0 + 1 + (i : Int) by omega)) z)
          refine ⟨_, rfl, ex3 r dx _ ⟨rfl, sH _ _ h1, rfl, _, rfl, ex9 r st en pl tm sv es tms _ ⟨rfl, hR.same sH, _, rfl, ex4 e _ _ _ ⟨rfl, rfl, SqT.of (sH _ _ hd), at0, ?_⟩⟩⟩⟩
          have hci := cp_leT (tms.drop k) (mt.drop sk)
          rw [List.length_drop] at hci
          have hki : k + (i - sk) ≤ tms.length := by omega
          have key := term_next pl tm tms (k + (i - sk)) t hki
          rw [show pl + ((k + (i - sk) : Nat) : Int) + 1 = p0 + 1 + (i : Int) by omega] at key
          have hTd : (tms.drop k)[i - sk]? = tms[k + (i - sk)]? := List.getElem?_drop ..
          have hMd : (mt.drop sk)[i - sk]? = some t := by rw [List.getElem?_drop, show sk + (i - sk) = i by omega]; exact ht
          refine ⟨scal_term pl tm tms _ t, _, rfl, ?_⟩
          by_cases hc : termV pl tm tms (p0 + 1 + (i : Int)) = .int t
          · have hmore := cp_more (i := i - sk) (by omega) hMd (hTd.trans (key.mp hc))
            rw [hc]
            exact iteNS rfl ⟨_, _, rfl, sH, by omega⟩
          · have hstop : cp (tms.drop k) (mt.drop sk) = i - sk := cp_stop (by omega) hMd (by rw [hTd]; exact fun z => hc (key.mpr z))
            have hdd : (mt.drop sk).length = mt.length - sk := List.length_drop ..
            have hfe : fillL tms (mt.drop sk) k es (ms.drop sk) = es.take (k + (i - sk)) ++ ms.drop i := by unfold fillL; rw [hstop, if_neg (by omega), List.drop_drop, show sk + (i - sk) = i by omega]
            have hft : fillL tms (mt.drop sk) k tms (mt.drop sk) = tms.take (k + (i - sk)) ++ mt.drop i := by unfold fillL; rw [hstop, if_neg (by omega), List.drop_drop, show sk + (i - sk) = i by omega]
            rw [hfe, hft] at q
            refine ite2 (fun _ => ?_) (fun z => absurd (by rw [decide_eq_false hc]; rfl) z)
            refine ⟨_, rfl, ex5 r C dx _ _ ⟨rfl, sH _ _ h1, T.cl, T.nS, flds_s _ _, _, rfl, ex3 r dx _ ⟨rfl, sH _ _ h1, rfl, _, rfl, _, _, rfl, rfl, r, st, en, pl, tm, sv, es, tms, k + (i - sk), ?_, hR.same sH, fun t1 H3 s3 e3 => ?_⟩⟩⟩
            · show [V.ref r, V.int (p0 + 1 + (i : Int) - 1)] = [V.ref r, V.int (pl + ((k + (i - sk) : Nat) : Int))]
              rw [show p0 + 1 + (i : Int) - 1 = pl + ((k + (i - sk) : Nat) : Int) by omega]
            refine ⟨_, rfl, _, rfl, _, rfl, _, _, rfl, rfl, _, _, rfl, rfl, _, rfl, m, _, rfl, s3 _ _ (sH _ _ m1), fun t2 H4 s4 e4 => ?_⟩
            rw [show p0 + 1 + (i : Int) - p0 - 1 = (i : Int) by omega, cut_from] at e4
            refine ⟨t2, _, rfl, SqT.of e4, ?_⟩
            have hdl : (ms.drop i).length ≤ ms.length := by rw [List.length_drop]; omega
            have htl : (es.take (k + (i - sk))).length ≤ es.length := by rw [List.length_take]; omega
            refine ⟨t1, t2, _, _, rfl, rfl, s4 _ _ e3, e4, by simp only [List.length_map]; omega, fun t3 H5 s5 e5 => ?_⟩
            rw [← List.map_append] at e5
            have sH5 := ((sH.trans s3).trans s4).trans s5
            intro r9 dx9 nr9 ndx9 nex9
            have nr9' : upd H5 dx9 (.own r9) r9 = none := by rw [upd_ne nex9.symm]; exact nr9
            have s9 : Same H5 (upd (upd H5 dx9 (.own r9)) r9 (.ins C dx9 [])) := (Same.new ndx9).trans (Same.new nr9')
            refine ⟨r9, dx9, st, t3, _, rfl, upd_same, s9 _ _ e5, fun H6 k6 e6 => ⟨rfl, ?_⟩⟩
            have sm : Same H5 H6 := fun b o h => k6 b o (ne_of_none h nr9) (s9 b o h)
            have s06 := sH5.trans sm
            refine q r9 t3 H6 s06 ⟨⟨dx9, e6⟩, s06 _ _ h2, sm _ _ e5, ?_, ?_, ?_⟩
            · rw [List.length_append, List.length_append, List.length_take, List.length_take, List.length_drop, List.length_drop, h4, m2]
            · refine ent_cat (by rw [List.length_take, List.length_take, h4]) (ent_take _ fun i e t he ht => ?_) (ent_drop _ fun i e t he ht => ?_)
              · obtain ⟨d, hd⟩ := h5 i e t he ht
                exact ⟨d, s06 _ _ hd⟩
              · obtain ⟨d, hd⟩ := m3 i e t he ht
                exact ⟨d, s06 _ _ hd⟩
            · rw [List.length_append]; omega
      · rintro σ Hx ⟨v4, v5, rfl, sx, hi⟩
        rw [List.length_map] at hi
        have hdd : (mt.drop sk).length = mt.length - sk := List.length_drop ..
        have hce : cp (tms.drop k) (mt.drop sk) = (mt.drop sk).length := Nat.le_antisymm (cp_le _ _) (by omega)
        have hfe : fillL tms (mt.drop sk) k es (ms.drop sk) = es := by unfold fillL; rw [if_pos hce]
        have hft : fillL tms (mt.drop sk) k tms (mt.drop sk) = tms := by unfold fillL; rw [if_pos hce]
        rw [hfe, hft] at q
        refine ⟨_, rfl, ex5 r C dx _ _ ⟨rfl, sx _ _ h1, T.cl, T.nS, flds_s _ _, _, rfl, ex5 r C dx _ _ ⟨rfl, sx _ _ h1, T.cl, T.nE, flds_e _ _, ?_⟩⟩⟩
        intro r9 dx9 nr9 ndx9 nex9
        have nr9' : upd Hx dx9 (.own r9) r9 = none := by rw [upd_ne nex9.symm]; exact nr9
        have s9 : Same Hx (upd (upd Hx dx9 (.own r9)) r9 (.ins C dx9 [])) := (Same.new ndx9).trans (Same.new nr9')
        refine (ex5 r9 dx9 st en _ ⟨rfl, upd_same, s9 _ _ (sx _ _ h3), fun H6 k6 e6 => ⟨rfl, ?_⟩⟩)
        have sm : Same Hx H6 := fun b o h => k6 b o (ne_of_none h nr9) (s9 b o h)
        have s06 := sx.trans sm
        exact q r9 en H6 s06 ⟨⟨dx9, e6⟩, s06 _ _ h2, s06 _ _ h3, h4, fun i e t he ht => by
          obtain ⟨d, hd⟩ := h5 i e t he ht
          exact ⟨d, s06 _ _ hd⟩, h6⟩
    · refine iteF ?_
      refine ⟨_, rfl, _, rfl, _, _, rfl, rfl, ex3 m _ _ ⟨rfl, rfl, SqT.of m1, for_enumK (K := K) (xs := ms.map V.ref) (fun i σ Hx => ∃ (v4 v5 : Option V), σ = [some (V.ref r), some (V.int p0), some (V.int th), some (V.ref m), v4, v5] ∧ Same H Hx ∧ i ≤ sk + cp (tms.drop k) (mt.drop sk)) ⟨none, none, rfl, Same.refl H, Nat.zero_le _⟩ ?_ ?_ ?_⟩⟩
      · rintro i σ Hx ⟨v4, v5, rfl, sx, _⟩
        exact SqT.of (sx _ _ m1)
      · rintro i x p σ Hx hx hp ⟨v4, v5, rfl, sx, hi⟩
        rw [List.getElem?_map] at hx
        cases he : ms[i]? with
        | none => rw [he] at hx; cases hx
        | some e =>
          rw [he] at hx
          cases hx
          have hil : i < ms.length := (List.getElem?_eq_some_iff.mp he).1
          have hit : i < mt.length := by omega
          have ht := List.getElem?_eq_getElem hit
          obtain ⟨d, hd⟩ := m3 i e _ he ht
          generalize mt[i] = t at ht hd
          have s1 := Same.new (o := .tup [.int (p0 + 1 + (i : Int)), .ref e]) hp
          have e1 : upd Hx p (.tup [.int (p0 + 1 + (i : Int)), .ref e]) p = some (.tup [.int (p0 + 1 + (i : Int)), .ref e]) := upd_same
          refine ⟨p, _, rfl, SqT.of e1, rfl, _, _, rfl, _, _, rfl, rfl, ?_⟩
          generalize upd Hx p (.tup [.int (p0 + 1 + (i : Int)), .ref e]) = H2 at s1 e1 ⊢
          have sH := sx.trans s1
          refine ⟨_, rfl, _, rfl, ex5 r C dx _ _ ⟨rfl, sH _ _ h1, T.cl, T.nS, flds_s _ _, st, _, _, _, rfl, rfl, SqT.of (sH _ _ h2), at0, _, _, rfl, rfl, _, rfl, ?_⟩⟩
          by_cases his : i < sk
          · refine ite2 (fun z => absurd (of_decide_eq_true z) (by omega)) (fun _ => ?_)
            exact iteF ⟨_, _, rfl, sH, by omega⟩
          refine ite2 (fun _ => ?_) (fun z => absurd (decide_eq_true (show pl < p0 + 1 + (i : Int) by omega)) z)
          refine ⟨_, rfl, ex3 r dx _ ⟨rfl, sH _ _ h1, rfl, _, rfl, ex9 r st en pl tm sv es tms _ ⟨rfl, hR.same sH, _, rfl, ex4 e _ _ _ ⟨rfl, rfl, SqT.of (sH _ _ hd), at0, ?_⟩⟩⟩⟩
          have hci := cp_leT (tms.drop k) (mt.drop sk)
          rw [List.length_drop] at hci
          have hki : k + (i - sk) ≤ tms.length := by omega
          have key := term_next pl tm tms (k + (i - sk)) t hki
          rw [show pl + ((k + (i - sk) : Nat) : Int) + 1 = p0 + 1 + (i : Int) by omega] at key
          have hTd : (tms.drop k)[i - sk]? = tms[k + (i - sk)]? := List.getElem?_drop ..
          have hMd : (mt.drop sk)[i - sk]? = some t := by rw [List.getElem?_drop, show sk + (i - sk) = i by omega]; exact ht
          refine ⟨scal_term pl tm tms _ t, _, rfl, ?_⟩
          by_cases hc : termV pl tm tms (p0 + 1 + (i : Int)) = .int t
          · have hmore := cp_more (i := i - sk) (by omega) hMd (hTd.trans (key.mp hc))
            rw [hc]
            exact iteNS rfl ⟨_, _, rfl, sH, by omega⟩
          · have hstop : cp (tms.drop k) (mt.drop sk) = i - sk := cp_stop (by omega) hMd (by rw [hTd]; exact fun z => hc (key.mpr z))
            have hdd : (mt.drop sk).length = mt.length - sk := List.length_drop ..
            have hfe : fillL tms (mt.drop sk) k es (ms.drop sk) = es.take (k + (i - sk)) ++ ms.drop i := by unfold fillL; rw [hstop, if_neg (by omega), List.drop_drop, show sk + (i - sk) = i by omega]
            have hft : fillL tms (mt.drop sk) k tms (mt.drop sk) = tms.take (k + (i - sk)) ++ mt.drop i := by unfold fillL; rw [hstop, if_neg (by omega), List.drop_drop, show sk + (i - sk) = i by omega]
            rw [hfe, hft] at q
            refine ite2 (fun _ => ?_) (fun z => absurd (by rw [decide_eq_false hc]; rfl) z)
            refine ⟨_, rfl, ex5 r C dx _ _ ⟨rfl, sH _ _ h1, T.cl, T.nS, flds_s _ _, _, rfl, ex3 r dx _ ⟨rfl, sH _ _ h1, rfl, _, rfl, _, _, rfl, rfl, r, st, en, pl, tm, sv, es, tms, k + (i - sk), ?_, hR.same sH, fun t1 H3 s3 e3 => ?_⟩⟩⟩
            · show [V.ref r, V.int (p0 + 1 + (i : Int) - 1)] = [V.ref r, V.int (pl + ((k + (i - sk) : Nat) : Int))]
              rw [show p0 + 1 + (i : Int) - 1 = pl + ((k + (i - sk) : Nat) : Int) by omega]
            refine ⟨_, rfl, _, rfl, _, rfl, _, _, rfl, rfl, _, _, rfl, rfl, _, rfl, m, _, rfl, s3 _ _ (sH _ _ m1), fun t2 H4 s4 e4 => ?_⟩
            rw [show p0 + 1 + (i : Int) - p0 - 1 = (i : Int) by omega, cut_from] at e4
            refine ⟨t2, _, rfl, SqT.of e4, ?_⟩
            have hdl : (ms.drop i).length ≤ ms.length := by rw [List.length_drop]; omega
            have htl : (es.take (k + (i - sk))).length ≤ es.length := by rw [List.length_take]; omega
            refine ⟨t1, t2, _, _, rfl, rfl, s4 _ _ e3, e4, by simp only [List.length_map]; omega, fun t3 H5 s5 e5 => ?_⟩
            rw [← List.map_append] at e5
            have sH5 := ((sH.trans s3).trans s4).trans s5
            intro r9 dx9 nr9 ndx9 nex9
            have nr9' : upd H5 dx9 (.own r9) r9 = none := by rw [upd_ne nex9.symm]; exact nr9
            have s9 : Same H5 (upd (upd H5 dx9 (.own r9)) r9 (.ins C dx9 [])) := (Same.new ndx9).trans (Same.new nr9')
            refine ⟨r9, dx9, st, t3, _, rfl, upd_same, s9 _ _ e5, fun H6 k6 e6 => ⟨rfl, ?_⟩⟩
            have sm : Same H5 H6 := fun b o h => k6 b o (ne_of_none h nr9) (s9 b o h)
            have s06 := sH5.trans sm
            refine q r9 t3 H6 s06 ⟨⟨dx9, e6⟩, s06 _ _ h2, sm _ _ e5, ?_, ?_, ?_⟩
            · rw [List.length_append, List.length_append, List.length_take, List.length_take, List.length_drop, List.length_drop, h4, m2]
            · refine ent_cat (by rw [List.length_take, List.length_take, h4]) (ent_take _ fun i e t he ht => ?_) (ent_drop _ fun i e t he ht => ?_)
              · obtain ⟨d, hd⟩ := h5 i e t he ht
                exact ⟨d, s06 _ _ hd⟩
              · obtain ⟨d, hd⟩ := m3 i e t he ht
                exact ⟨d, s06 _ _ hd⟩
            · rw [List.length_append]; omega
      · rintro σ Hx ⟨v4, v5, rfl, sx, hi⟩
        rw [List.length_map] at hi
        have hdd : (mt.drop sk).length = mt.length - sk := List.length_drop ..
        have hce : cp (tms.drop k) (mt.drop sk) = (mt.drop sk).length := Nat.le_antisymm (cp_le _ _) (by omega)
        have hfe : fillL tms (mt.drop sk) k es (ms.drop sk) = es := by unfold fillL; rw [if_pos hce]
        have hft : fillL tms (mt.drop sk) k tms (mt.drop sk) = tms := by unfold fillL; rw [if_pos hce]
        rw [hfe, hft] at q
        refine ⟨_, rfl, ex5 r C dx _ _ ⟨rfl, sx _ _ h1, T.cl, T.nS, flds_s _ _, _, rfl, ex5 r C dx _ _ ⟨rfl, sx _ _ h1, T.cl, T.nE, flds_e _ _, ?_⟩⟩⟩
        intro r9 dx9 nr9 ndx9 nex9
        have nr9' : upd Hx dx9 (.own r9) r9 = none := by rw [upd_ne nex9.symm]; exact nr9
        have s9 : Same Hx (upd (upd Hx dx9 (.own r9)) r9 (.ins C dx9 [])) := (Same.new ndx9).trans (Same.new nr9')
        refine (ex5 r9 dx9 st en _ ⟨rfl, upd_same, s9 _ _ (sx _ _ h3), fun H6 k6 e6 => ⟨rfl, ?_⟩⟩)
        have sm : Same Hx H6 := fun b o h => k6 b o (ne_of_none h nr9) (s9 b o h)
        have s06 := sx.trans sm
        exact q r9 en H6 s06 ⟨⟨dx9, e6⟩, s06 _ _ h2, s06 _ _ h3, h4, fun i e t he ht => by
          obtain ⟨d, hd⟩ := h5 i e t he ht
          exact ⟨d, s06 _ _ hd⟩, h6⟩
end
end K23

set_option maxHeartbeats 4000000
namespace T23
open PySem L2 KM
abbrev top := K23.top
theorem bDict : bootBuiltins "dict" = some (.type "dict") := by decide +kernel
theorem bTuple : bootBuiltins "tuple" = some (.type "tuple") := by decide +kernel
theorem bSorted : bootBuiltins "sorted" = some (.builtin "sorted") := by decide +kernel
theorem dne1 : ¬ (V.str "add" = V.str "put") := by decide +kernel
theorem ix_tupC {X : Cx} {scope : Scope} {cl : List (Str × Addr)} {N2 ys : List Str} {C : Addr} {s : Shared} {H : Hp} {fp : List Addr} : IxR (cxC X scope cl N2 ys C s H fp) (rIxT X.K) := ix_tup
structure Blt (mg : Str → Option Value) : Prop where
  tuple : mg "tuple" = none
  dict : mg "dict" = none
  sorted : mg "sorted" = none
/-- a work -/
inductive Wk where
  | put (k : Str) (n : Int) | add (k : Str) (n : Int) | drop (k : Str)
def Wk.key : Wk → Str
  | .put k _ => k | .add k _ => k | .drop k => k
def Wk.vs : Wk → List V
  | .put k n => [.str "put", .str k, .int n]
  | .add k n => [.str "add", .str k, .int n]
  | .drop k => [.str "drop", .str k]
abbrev Kvs := List (Key × V)
/-- all that is held are ints -/
def Ints (kvs : Kvs) : Prop := ∀ k v, valV kvs k = some v → ∃ i : Int, v = .int i
def num (kvs : Kvs) (k : Str) : Int := match valV kvs (Sum.inr k) with
  | some (.int i) => i
  | _ => 0
def Wk.to (kvs : Kvs) : Wk → Kvs
  | .put k n => putK kvs (Sum.inr k) (.int n)
  | .add k n => putK kvs (Sum.inr k) (.int (num kvs k + n))
  | .drop k => dropK kvs (Sum.inr k)
def Wk.ans (kvs : Kvs) : Wk → V
  | .put k _ => (valV kvs (Sum.inr k)).getD .non
  | .add k n => .int (num kvs k + n)
  | .drop k => (valV kvs (Sum.inr k)).getD .non
theorem valV_drop {kvs : Kvs} {k j : Key} {v : V} (h : valV (dropK kvs k) j = some v) : valV kvs j = some v := by
  induction kvs with
  | nil => exact h
  | cons p r ih =>
    by_cases e : p.1 = k
    · rw [dropK_pos e] at h
      have h' := ih h
      by_cases e2 : p.1 = j
      · exfalso
        have : k = j := e.symm.trans e2
        subst this
        have hk : ∀ (l : Kvs), valV (dropK l k) k = none := by
          intro l
          induction l with
          | nil => rfl
          | cons q l ihl =>
            by_cases eq : q.1 = k
            · rw [dropK_pos eq]; exact ihl
            · rw [dropK_neg eq, valV_neg eq]; exact ihl
        rw [hk r] at h
        cases h
      · rw [valV_neg e2]; exact h'
    · rw [dropK_neg e] at h
      by_cases e2 : p.1 = j
      · rw [valV_pos e2] at h ⊢; exact h
      · rw [valV_neg e2] at h ⊢; exact ih h
theorem Ints.to {kvs : Kvs} (h : Ints kvs) (x : Wk) : Ints (x.to kvs) := by
  intro k v e
  cases x with
  | put a n =>
    rw [show Wk.to kvs (.put a n) = putK kvs (Sum.inr a) (.int n) from rfl, valV_put] at e
    split at e
    · cases e; exact ⟨_, rfl⟩
    · exact h k v e
  | add a n =>
    rw [show Wk.to kvs (.add a n) = putK kvs (Sum.inr a) (.int (num kvs a + n)) from rfl, valV_put] at e
    split at e
    · cases e; exact ⟨_, rfl⟩
    · exact h k v e
  | drop a => exact h k v (valV_drop e)
theorem to_len (kvs : Kvs) (x : Wk) : (x.to kvs).length ≤ kvs.length + 1 := by
  cases x with
  | put a n => exact length_putK _ _ _
  | add a n => exact length_putK _ _ _
  | drop a => exact Nat.le_trans (List.length_filter_le _ _) (Nat.le_succ _)
theorem Ints.ans {kvs : Kvs} (h : Ints kvs) (x : Wk) : x.ans kvs = .non ∨ ∃ i : Int, x.ans kvs = .int i := by
  have key : ∀ a : Str, (valV kvs (Sum.inr a)).getD .non = .non ∨ ∃ i : Int, (valV kvs (Sum.inr a)).getD .non = .int i := fun a => by
    cases e : valV kvs (Sum.inr a : Key) with
    | none => exact .inl rfl
    | some v =>
      obtain ⟨i, rfl⟩ := h _ _ e
      exact .inr ⟨i, rfl⟩
  cases x with
  | put a n => exact key a
  | add a n => exact .inr ⟨_, rfl⟩
  | drop a => exact key a
theorem num_get {kvs : Kvs} (h : Ints kvs) (k : Str) : (valV kvs (Sum.inr k)).getD (.int 0) = .int (num kvs k) := by
  unfold num
  cases e : valV kvs (Sum.inr k : Key) with
  | none => rfl
  | some v =>
    obtain ⟨i, rfl⟩ := h _ _ e
    rfl
/-- what a call leaves: all but d -/
def But (d : Addr) (H H' : Hp) : Prop := ∀ b o, H b = some o → b ≠ d → H' b = some o
abbrev sInit : Stmt := inClass (top 4) 0
abbrev sDoes : Stmt := inClass (top 4) 1
abbrev sDone : Stmt := inClass (top 4) 2
abbrev sHolds : Stmt := inClass (top 4) 3
abbrev sLast : Stmt := inClass (top 4) 4
/-! the fields -/
theorem ne_hl : ¬ (("held" : Str) = "lasts") := by decide +kernel
def flds (d l : Addr) : List (Str × V) := putF "lasts" (.ref l) (putF "held" (.ref d) [])
theorem flds_h (d l : Addr) : (flds d l).lookup ("held" : Str) = some (.ref d) := by
  unfold flds
  rw [lookup_putF, if_neg ne_hl, lookup_putF, if_pos rfl]
theorem flds_l (d l : Addr) : (flds d l).lookup ("lasts" : Str) = some (.ref l) := by
  unfold flds
  rw [lookup_putF, if_pos rfl]
theorem flds_no (d l : Addr) {m : Str} (h1 : ¬ m = "lasts") (h2 : ¬ m = "held") : (flds d l).lookup m = none := by
  unfold flds
  rw [lookup_putF, if_neg h1, lookup_putF, if_neg h2]
  all_goals rfl
/-! each asker's last ask -/
abbrev Las := List (Key × (Int × V))
def getL (las : Las) (k : Key) : Option (Int × V) := (las.find? fun kv => decide (kv.1 = k)).map (·.2)
def putL (las : Las) (k : Key) (q : Int × V) : Las := if (las.any fun kv => decide (kv.1 = k)) = true then las.map (fun kv => if kv.1 = k then (kv.1, q) else kv) else las ++ [(k, q)]
theorem getL_pos {p : Key × (Int × V)} {r : Las} {k : Key} (e : p.1 = k) : getL (p :: r) k = some p.2 := by simp [getL, List.find?_cons, e]
theorem getL_neg {p : Key × (Int × V)} {r : Las} {k : Key} (e : ¬ p.1 = k) : getL (p :: r) k = getL r k := by simp [getL, List.find?_cons, e]
theorem getL_any (k : Key) : ∀ las : Las, (las.any fun kv => decide (kv.1 = k)) = (getL las k).isSome
  | [] => rfl
  | p :: r => by
    rw [List.any_cons]
    by_cases e : p.1 = k
    · simp only [getL_pos e, decide_eq_true e, Bool.true_or, Option.isSome_some]
    · rw [getL_neg e, decide_eq_false e, Bool.false_or]; exact getL_any k r
theorem getL_map (k j : Key) (y : Int × V) : ∀ las : Las, getL (las.map fun kv => if kv.1 = k then (kv.1, y) else kv) j = (getL las j).map fun x => if j = k then y else x
  | [] => rfl
  | p :: r => by
    have ih := getL_map k j y r
    rw [List.map_cons]
    by_cases h : p.1 = k
    · rw [if_pos h]
      by_cases e : p.1 = j
      · rw [getL_pos (p := (p.1, y)) e, getL_pos e, Option.map_some, if_pos (e.symm.trans h)]
      · rw [getL_neg (p := (p.1, y)) e, getL_neg e, ih]
    · rw [if_neg h]
      by_cases e : p.1 = j
      · rw [getL_pos (p := p) e, getL_pos e, Option.map_some, if_neg (fun z => h (e.trans z))]
      · rw [getL_neg (p := p) e, getL_neg e, ih]
theorem getL_snoc (k j : Key) (y : Int × V) : ∀ las : Las, getL las k = none → getL (las ++ [(k, y)]) j = if j = k then some y else getL las j
  | [], _ => by
    by_cases e : k = j
    · rw [if_pos e.symm]; exact getL_pos (p := (k, y)) e
    · rw [if_neg (fun z => e z.symm)]; exact getL_neg (p := (k, y)) e
  | p :: r, hn => by
    rw [List.cons_append]
    have hk : ¬ p.1 = k := fun z => by rw [getL_pos z] at hn; cases hn
    rw [getL_neg hk] at hn
    have ih := getL_snoc k j y r hn
    by_cases e : p.1 = j
    · rw [getL_pos e, getL_pos e, if_neg (fun z => hk (e.trans z))]
    · rw [getL_neg e, getL_neg e, ih]
theorem getL_put (las : Las) (k j : Key) (y : Int × V) : getL (putL las k y) j = if j = k then some y else getL las j := by
  unfold putL
  by_cases a : (las.any fun kv => decide (kv.1 = k)) = true
  · rw [if_pos a, getL_map]
    rw [getL_any] at a
    by_cases e : j = k
    · obtain ⟨x, hx⟩ := Option.isSome_iff_exists.mp a
      rw [if_pos e, e, hx, Option.map_some, if_pos rfl]
    · rw [if_neg e]
      cases getL las j with
      | none => rfl
      | some x => rw [Option.map_some, if_neg e]
  · rw [if_neg a]
    refine getL_snoc k j y las ?_
    rw [getL_any] at a
    cases q : getL las k with
    | none => rfl
    | some x => rw [q] at a; exact (a rfl).elim
theorem putL_len (las : Las) (k : Key) (y : Int × V) : (putL las k y).length ≤ las.length + 1 := by
  unfold putL
  split
  · rw [List.length_map]; omega
  · rw [List.length_append]; exact Nat.le_refl _
def LRel (K : PySem.W.Frag) (H : Hp) (p : Key × V) (q : Key × (Int × V)) : Prop := p.1 = q.1 ∧ ∃ t, p.2 = .ref t ∧ SqT K H t [.int q.2.1, q.2.2]
abbrev LR (K : PySem.W.Frag) (H : Hp) : Kvs → Las → Prop := Paired (LRel K H)
theorem LR.mono {K : PySem.W.Frag} {H H' : Hp} {lk : Kvs} {las : Las} (r : LR K H lk las) (h : ∀ t xs, SqT K H t xs → SqT K H' t xs) : LR K H' lk las :=
  Paired.mapP r fun p q ⟨e, t, e2, s⟩ => ⟨e, t, e2, h _ _ s⟩
theorem LR.val {K : PySem.W.Frag} {H : Hp} {lk : Kvs} {las : Las} (r : LR K H lk las) (k : Key) : (valV lk k = none ∧ getL las k = none) ∨ ∃ t q, valV lk k = some (.ref t) ∧ getL las k = some q ∧ SqT K H t [.int q.1, q.2] := by
  induction r with
  | nil => exact .inl ⟨rfl, rfl⟩
  | @cons p q ps qs h t ih =>
    obtain ⟨h1, tt, h2, h3⟩ := h
    by_cases e : p.1 = k
    · exact .inr ⟨tt, q.2, by rw [valV_pos e, h2], getL_pos (h1.symm.trans e), h3⟩
    · rw [valV_neg e, getL_neg (fun z => e (h1.trans z))]; exact ih
theorem LR.any {K : PySem.W.Frag} {H : Hp} {lk : Kvs} {las : Las} (r : LR K H lk las) (k : Key) : (lk.any fun kv => decide (kv.1 = k)) = las.any fun kv => decide (kv.1 = k) := by
  induction r with
  | nil => rfl
  | cons h t ih => rw [List.any_cons, List.any_cons, ih, h.1]
theorem LR.put {K : PySem.W.Frag} {H : Hp} {lk : Kvs} {las : Las} (r : LR K H lk las) (k : Key) {t : Addr} {n : Int} {a : V} (s : SqT K H t [.int n, a]) : LR K H (putK lk k (.ref t)) (putL las k (n, a)) := by
  unfold putK putL
  rw [r.any k]
  by_cases e : (las.any fun kv => decide (kv.1 = k)) = true
  · rw [if_pos e, if_pos e]
    clear e
    induction r with
    | nil => exact .nil
    | @cons p q ps qs h t ih =>
      rw [List.map_cons, List.map_cons]
      refine .cons ?_ ih
      obtain ⟨h1, tt, h2, h3⟩ := h
      by_cases e : p.1 = k
      · rw [if_pos e, if_pos (h1.symm.trans e)]; exact ⟨h1, _, rfl, s⟩
      · rw [if_neg e, if_neg (fun z => e (h1.trans z))]; exact ⟨h1, tt, h2, h3⟩
  · rw [if_neg e, if_neg e]; exact Paired.snoc r ⟨rfl, _, rfl, s⟩
theorem LR.len {K : PySem.W.Frag} {H : Hp} {lk : Kvs} {las : Las} (r : LR K H lk las) : lk.length = las.length := Paired.length r
theorem SqT.but {K : PySem.W.Frag} {H H' : Hp} {d t : Addr} {m : Kvs} {xs : List V} (e : But d H H') (hd : H d = some (.dK m)) (h : SqT K H t xs) : SqT K H' t xs := by
  rcases h with (h | ⟨o', h⟩) | h
  · exact .inl (.inl (e _ _ h (ne_of h hd (by intro z; cases z))))
  · exact .inl (.inr ⟨o', e _ _ h (ne_of h hd (by intro z; cases z))⟩)
  · exact .inr h
theorem SqT.same {K : PySem.W.Frag} {H H' : Hp} {t : Addr} {xs : List V} (e : Same H H') (h : SqT K H t xs) : SqT K H' t xs := by
  rcases h with (h | ⟨o', h⟩) | h
  · exact .inl (.inl (e _ _ h))
  · exact .inl (.inr ⟨o', e _ _ h⟩)
  · exact .inr h
def lastN (las : Las) (x : Str) : Int := match getL las (Sum.inr x) with
  | some q => q.1
  | none => 0
def lastA (las : Las) (x : Str) : V := match getL las (Sum.inr x) with
  | some q => q.2
  | none => .non
/-- a table stands at T: its dicts at d and l -/
structure TabAt (K : PySem.W.Frag) (C : Addr) (H : Hp) (T d l : Addr) (kvs : Kvs) (las : Las) : Prop where
  ob : ∃ dx, H T = some (.ins C dx (flds d l))
  hd : H d = some (.dK kvs)
  hl : ∃ lk, H l = some (.dK lk) ∧ LR K H lk las
  ne : d ≠ l
structure Cl (K : PySem.W.Frag) (mg : Str → Option Value) (C : Addr) : Prop where
  cl : Cls K C
  nH : NoAttr K C "held"
  nL : NoAttr K C "lasts"
  mgC : mg "Table" = some (.ref C)
def spHolds (K : PySem.W.Frag) (C : Addr) : Sp := fun vs H Q _ => ∃ (T d l : Addr) (kvs : Kvs) (las : Las) (k : Str), vs = [.ref T, .str k] ∧ TabAt K C H T d l kvs las ∧ Q ((valV kvs (Sum.inr k)).getD .non) H
def spLast (K : PySem.W.Frag) (C : Addr) : Sp := fun vs H Q _ => ∃ (T d l : Addr) (kvs : Kvs) (las : Las) (x : Str), vs = [.ref T, .str x] ∧ TabAt K C H T d l kvs las ∧ Q (.int (lastN las x)) H
def spDone (K : PySem.W.Frag) (C : Addr) : Sp := fun vs H Q _ => ∃ (T d l t : Addr) (kvs : Kvs) (las : Las) (x : Wk), vs = [.ref T, .ref t] ∧ TabAt K C H T d l kvs las ∧ kvs.length ≤ 1000 ∧ Ints kvs ∧ SqT K H t x.vs ∧
  ∀ H', But d H H' → H' d = some (.dK (x.to kvs)) → Q (x.ans kvs) H'
/-- the kind of the answer, the answer, what is held, what was asked behind an ask -/
def tagR (las : Las) (x : Str) (n : Int) : V := if n < lastN las x then .str "old" else if n = lastN las x then .str "again" else .str "done"
def ansR (kvs : Kvs) (las : Las) (x : Str) (n : Int) (wk : Wk) : V := if n < lastN las x then .non else if n = lastN las x then lastA las x else wk.ans kvs
def heldR (kvs : Kvs) (las : Las) (x : Str) (n : Int) (wk : Wk) : Kvs := if n < lastN las x then kvs else if n = lastN las x then kvs else wk.to kvs
def lasR (kvs : Kvs) (las : Las) (x : Str) (n : Int) (wk : Wk) : Las := if n < lastN las x then las else if n = lastN las x then las else putL las (Sum.inr x) (n, wk.ans kvs)
/-- all but d and l -/
def But2 (d l : Addr) (H H' : Hp) : Prop := ∀ b o, H b = some o → b ≠ d → b ≠ l → H' b = some o
def spDoes (K : PySem.W.Frag) (C : Addr) : Sp := fun vs H Q _ => ∃ (T d l t : Addr) (kvs : Kvs) (las : Las) (x : Str) (n : Int) (wk : Wk), vs = [.ref T, .str x, .int n, .ref t] ∧ TabAt K C H T d l kvs las ∧ kvs.length ≤ 1000 ∧ las.length ≤ 1000 ∧ Ints kvs ∧ 1 ≤ n ∧ SqT K H t wk.vs ∧
  ∀ (r : Addr) (H' : Hp), H r = none → H' r = some (.tup [tagR las x n, ansR kvs las x n wk]) → TabAt K C H' T d l (heldR kvs las x n wk) (lasR kvs las x n wk) → But2 d l H H' → Q (.ref r) H'
section
variable {P : Program} {w : World} {K : PySem.W.Frag} {mg : Str → Option Value} {base : Heap}
theorem scHolds : FnScope ["self", "key"] ["self", "key"] (defScope sHolds) := ⟨rfl, rfl, rfl, by decide +kernel, rfl, by decide +kernel, by decide +kernel⟩
theorem ok_holds {f C : Addr} {fd : FuncData} (F : Fun K "holds" "Table.holds" sHolds f fd) (T : Cl K mg C) : FnOk P w K mg base CX0 1 f fd ["self", "key"] (spHolds K C) := by
  refine F.ok scHolds (fun vs H Q E h => ?_) (fun cdv A outer s H vs Q E hr h => ?_)
  · obtain ⟨T', d, l, kvs, las, k, rfl, _⟩ := h
    rfl
  · obtain ⟨T', d, l, kvs, las, k, rfl, S, q⟩ := h
    have hu := hu_of hr
    obtain ⟨⟨dx, h1⟩, hd, hl, hne⟩ := id S
    refine ⟨_, pss_one (ps_ret (pe_dget1 hu (pe_fld (pv 0) rfl) (pv 1) ⟨rfl, rfl, rfl, rfl⟩)), ?_⟩
    exact ⟨_, rfl, T', C, dx, _, _, rfl, h1, T.cl, T.nH, flds_h _ _, d, rfl, .inl ⟨kvs, .inl hd⟩, _, rfl, _, DGet.k (k := Sum.inr k) hd, q⟩
theorem scLast : FnScope ["self", "asker"] ["self", "asker"] (defScope sLast) := ⟨rfl, rfl, rfl, by decide +kernel, rfl, by decide +kernel, by decide +kernel⟩
theorem ok_last {f C : Addr} {fd : FuncData} (F : Fun K "last_of" "Table.last_of" sLast f fd) (T : Cl K mg C) : FnOk P w K mg base CX0 1 f fd ["self", "asker"] (spLast K C) := by
  refine F.ok scLast (fun vs H Q E h => ?_) (fun cdv A outer s H vs Q E hr h => ?_)
  · obtain ⟨T', d, l, kvs, las, k, rfl, _⟩ := h
    rfl
  · obtain ⟨T', d, l, kvs, las, x, rfl, S, q⟩ := h
    have hu := hu_of hr
    obtain ⟨⟨dx, h1⟩, hd, ⟨lk, hl, lr⟩, hne⟩ := id S
    refine ⟨_, pss_cons (ps_if (pt_cmp (pc_dnotin hu (pv 1) (pe_fld (pv 0) rfl))) (pss_one (ps_ret pe_int)) pss_nil)
      (pss_one (ps_ret (pe_ix ix_tup (pe_dget hu (pe_fld (pv 0) rfl) (pv 1) (fun _ _ => rfl)) pe_int (fun _ _ => rfl)))), ?_⟩
    refine ⟨_, rfl, _, rfl, T', C, dx, _, _, rfl, h1, T.cl, T.nL, flds_l _ _, l, _, rfl, DGet.k (k := Sum.inr x) hl, _, rfl, ?_⟩
    rcases lr.val (Sum.inr x) with ⟨e1, e2⟩ | ⟨t, q', e1, e2, e3⟩
    · rw [e1]
      refine iteT ?_
      unfold lastN at q
      rw [e2] at q
      exact q
    · rw [e1]
      refine iteF ?_
      unfold lastN at q
      rw [e2] at q
      refine ⟨_, rfl, T', C, dx, _, _, rfl, h1, T.cl, T.nL, flds_l _ _, _, rfl, l, V.ref t, rfl, ?_, t, _, _, _, rfl, rfl, e3, rfl, q⟩
      have := DGet.k (H := H) (a := l) (k := Sum.inr x) hl
      rw [e1] at this
      exact this
abbrev nDone : List Str := ["self", "work", "key", "before"]
theorem scDone : FnScope nDone ["self", "work"] (defScope sDone) := ⟨rfl, rfl, rfl, by decide +kernel, rfl, by decide +kernel, by decide +kernel⟩
theorem dne4 : ¬ (V.str "put" = V.str "drop") := by decide +kernel
theorem dne5 : ¬ (V.str "add" = V.str "drop") := by decide +kernel
theorem ok_done {f C fH : Addr} {fd fdH : FuncData} (F : Fun K "work_done" "Table.work_done" sDone f fd) (T : Cl K mg C) (GH : FnOk P w K mg base CX0 1 fH fdH ["self", "key"] (spHolds K C)) (bH : Binds K fdH ["self", "key"] []) (mH : Meth K C "holds" fH) :
    FnOk P w K mg base CX0 2 f fd ["self", "work"] (spDone K C) := by
  refine F.ok scDone (fun vs H Q E h => ?_) (fun cdv A outer s H vs Q E hr h => ?_)
  · obtain ⟨T', d, l, t, kvs, las, x, rfl, _⟩ := h
    rfl
  · obtain ⟨T', d, l, t, kvs, las, x, rfl, S, hlen, hI, hT, q⟩ := h
    have hu := hu_of hr
    have nd := scDone.nd
    obtain ⟨⟨dx, h1⟩, hd, _, hne⟩ := id S
    refine ⟨_, pss_cons (ps_set (i := 2) nd rfl (Or.inl rfl) (pe_ix ix_tup (pv 1) pe_int (fun _ _ => rfl)))
      (pss_cons (ps_set (i := 3) nd rfl (Or.inl rfl) (pe_meth (pv 0) T.cl mH GH hr bH .nil pass0 (pa_cons (pv 2) pa_nil)))
      (pss_cons (ps_if (pt_cmpR op_eq (pe_ix ix_tup (pv 1) pe_int (fun _ _ => rfl)) pe_str (nomark _))
        (pss_cons (ps_expr (pe_dpop2 (pe_fld (pv 0) rfl) (pv 2) pe_non ⟨rfl, rfl, rfl, rfl⟩)) (pss_one (ps_ret (pv 3)))) pss_nil)
      (pss_cons (ps_if (pt_cmpR op_eq (pe_ix ix_tup (pv 1) pe_int (fun _ _ => rfl)) pe_str (nomark _))
        (pss_cons (ps_dput hu (pe_fld (pv 0) rfl) (pv 2) (pe_ix ix_tup (pv 1) pe_int (fun _ _ => rfl)) rfl) (pss_one (ps_ret (pv 3)))) pss_nil)
      (pss_cons (ps_dput hu (pe_fld (pv 0) rfl) (pv 2) (pe_op op_add (pe_dget2 hu (pe_fld (pv 0) rfl) (pv 2) pe_int ⟨rfl, rfl, rfl, rfl⟩) (pe_ix ix_tup (pv 1) pe_int (fun _ _ => rfl))) rfl)
      (pss_one (ps_ret (pe_dget hu (pe_fld (pv 0) rfl) (pv 2) (fun _ _ => rfl)))))))), ?_⟩
    have isd : IsD H d := .inl ⟨kvs, .inl hd⟩
    have but : ∀ (m : Kvs), But d H (upd H d (.dK m)) := fun m b o e hb => by rw [upd_ne hb]; exact e
    have a1 : atI x.vs (1 : Int) = some (.str x.key) := by cases x <;> rfl
    have nTd : T' ≠ d := ne_of h1 hd (by intro z; cases z)
    refine ⟨_, rfl, t, _, _, _, rfl, rfl, hT, a1, ?_⟩
    refine ⟨_, rfl, T', dx, _, rfl, h1, flds_no _ _ (by decide +kernel) (by decide +kernel), _, rfl, T', d, l, kvs, las, x.key, rfl, S, ?_⟩
    cases x with
    | drop a =>
      refine ⟨_, rfl, t, _, _, _, rfl, rfl, hT, rfl, rfl, _, rfl, ?_⟩
      refine ite2 (fun _ => ?_) (fun z => absurd (decide_eq_true rfl) z)
      refine ⟨_, rfl, T', C, dx, _, _, rfl, h1, T.cl, T.nH, flds_h _ _, d, rfl, isd, _, rfl, kvs, Sum.inr a, hd, rfl, fun v e => ?_, fun e => ?_⟩
      · exact ⟨_, rfl, q _ (but _) upd_same⟩
      · have e3 : Wk.to kvs (.drop a) = kvs := dropK_no (valV_not e)
        exact ⟨_, rfl, q H (fun b o h _ => h) (by rw [e3]; exact hd)⟩
    | put a n =>
      refine ⟨_, rfl, t, _, _, _, rfl, rfl, hT, rfl, rfl, _, rfl, ?_⟩
      refine ite2 (fun z => absurd (of_decide_eq_true z) dne4) (fun _ => ?_)
      refine ⟨_, rfl, t, _, _, _, rfl, rfl, hT, rfl, rfl, _, rfl, ?_⟩
      refine ite2 (fun _ => ?_) (fun z => absurd (decide_eq_true rfl) z)
      refine ⟨_, rfl, t, _, _, _, rfl, rfl, hT, rfl, _, rfl, T', C, dx, _, _, rfl, h1, T.cl, T.nH, flds_h _ _, _, rfl, d, _, rfl, DPut.k (k := Sum.inr a) hd (small1000 hlen), ?_⟩
      exact ⟨_, rfl, q _ (but _) upd_same⟩
    | add a n =>
      refine ⟨_, rfl, t, _, _, _, rfl, rfl, hT, rfl, rfl, _, rfl, ?_⟩
      refine ite2 (fun z => absurd (of_decide_eq_true z) dne5) (fun _ => ?_)
      refine ⟨_, rfl, t, _, _, _, rfl, rfl, hT, rfl, rfl, _, rfl, ?_⟩
      refine ite2 (fun z => absurd (of_decide_eq_true z) dne1) (fun _ => ?_)
      refine ⟨_, rfl, T', C, dx, _, _, rfl, h1, T.cl, T.nH, flds_h _ _, d, rfl, isd, _, rfl, _, DGet.k (k := Sum.inr a) hd, _, rfl, t, _, _, _, rfl, rfl, hT, rfl, ?_⟩
      refine ⟨_, _, num_get hI a, rfl, ?_⟩
      refine ⟨_, rfl, T', C, dx, _, _, rfl, h1, T.cl, T.nH, flds_h _ _, _, rfl, d, _, rfl, DPut.k (k := Sum.inr a) hd (small1000 hlen), ?_⟩
      have h1' : (upd H d (.dK (putK kvs (Sum.inr a) (.int (num kvs a + n))))) T' = some (.ins C dx (flds d l)) := by rw [upd_ne nTd]; exact h1
      refine ⟨_, rfl, T', C, dx, _, _, rfl, h1', T.cl, T.nH, flds_h _ _, _, rfl, d, V.int (num kvs a + n), rfl, ?_, q _ (but _) upd_same⟩
      have := DGet.k (H := upd H d (.dK (putK kvs (Sum.inr a) (.int (num kvs a + n))))) (k := Sum.inr a) upd_same
      rw [valV_put, if_pos rfl] at this
      exact this
abbrev nDoes : List Str := ["self", "asker", "number", "work", "last", "answer"]
theorem scDoes : FnScope nDoes ["self", "asker", "number", "work"] (defScope sDoes) := ⟨rfl, rfl, rfl, by decide +kernel, rfl, by decide +kernel, by decide +kernel⟩
theorem ok_does {f C fL fD : Addr} {fd fdL fdD : FuncData} (F : Fun K "does" "Table.does" sDoes f fd) (T : Cl K mg C) (GL : FnOk P w K mg base CX0 1 fL fdL ["self", "asker"] (spLast K C)) (bL : Binds K fdL ["self", "asker"] []) (mL : Meth K C "last_of" fL)
    (GD : FnOk P w K mg base CX0 2 fD fdD ["self", "work"] (spDone K C)) (bD : Binds K fdD ["self", "work"] []) (mD : Meth K C "work_done" fD) :
    FnOk P w K mg base CX0 3 f fd ["self", "asker", "number", "work"] (spDoes K C) := by
  refine F.ok scDoes (fun vs H Q E h => ?_) (fun cdv A outer s H vs Q E hr h => ?_)
  · obtain ⟨T', d, l, t, kvs, las, x, n, wk, rfl, _⟩ := h
    rfl
  · obtain ⟨T', d, l, t, kvs, las, x, n, wk, rfl, S, hlen, hll, hI, hn, hT, q⟩ := h
    have hu := hu_of hr
    have hr1 : Room 1 _ := hr.mono (by decide)
    have nd := scDoes.nd
    obtain ⟨⟨dx, h1⟩, hd, ⟨lk, hl, lr⟩, hne⟩ := id S
    refine ⟨_, pss_cons (ps_set (i := 4) nd rfl (Or.inl rfl) (pe_meth (pv 0) T.cl mL GL hr1 bL .nil pass0 (pa_cons (pv 1) pa_nil)))
      (pss_cons (ps_if (pt_cmpR op_lt (pv 2) (pv 4) (nomark _)) (pss_one (ps_ret (pe_tup (pa_cons pe_str (pa_cons pe_non pa_nil))))) pss_nil)
      (pss_cons (ps_if (pt_cmpR op_eq (pv 2) (pv 4) (nomark _)) (pss_one (ps_ret (pe_tup (pa_cons pe_str (pa_cons (pe_ix ix_tup (pe_dget hu (pe_fld (pv 0) rfl) (pv 1) (fun _ _ => rfl)) pe_int (fun _ _ => rfl)) pa_nil))))) pss_nil)
      (pss_cons (ps_set (i := 5) nd rfl (Or.inl rfl) (pe_meth (pv 0) T.cl mD GD hr bD .nil pass0 (pa_cons (pv 3) pa_nil)))
      (pss_cons (ps_dput hu (pe_fld (pv 0) rfl) (pv 1) (pe_tup (pa_cons (pv 2) (pa_cons (pv 5) pa_nil))) rfl)
      (pss_one (ps_ret (pe_tup (pa_cons pe_str (pa_cons (pv 5) pa_nil))))))))), ?_⟩
    have nl1 : (flds d l).lookup ("last_of" : Str) = none := flds_no _ _ (by decide +kernel) (by decide +kernel)
    have nl2 : (flds d l).lookup ("work_done" : Str) = none := flds_no _ _ (by decide +kernel) (by decide +kernel)
    refine ⟨_, rfl, T', dx, _, rfl, h1, nl1, _, rfl, T', d, l, kvs, las, x, rfl, S, ?_⟩
    refine ⟨_, rfl, _, rfl, _, _, rfl, rfl, _, rfl, ?_⟩
    -- the table where nothing but a new tuple came
    have stay : ∀ (r : Addr) (o : HO), H r = none → TabAt K C (upd H r o) T' d l kvs las := fun r o hr' =>
      ⟨⟨dx, (Same.new hr') _ _ h1⟩, (Same.new hr') _ _ hd, ⟨lk, (Same.new hr') _ _ hl, lr.mono fun t xs => SqT.same (.new hr')⟩, hne⟩
    refine ite2 (fun c1 => ?_) (fun c1 => ?_)
    · have c1 : n < lastN las x := of_decide_eq_true c1
      refine ⟨(by show 2 ≤ sizeLine; decide), fun r hr' => ?_⟩
      have := q r (upd H r (.tup [V.str "old", V.non])) hr'
      unfold tagR ansR heldR lasR at this
      rw [if_pos c1, if_pos c1, if_pos c1, if_pos c1] at this
      exact this upd_same (stay r _ hr') (fun b o e _ _ => (Same.new hr') b o e)
    · have c1 : ¬ n < lastN las x := fun z => c1 (decide_eq_true z)
      refine ⟨_, rfl, _, rfl, rfl, _, rfl, ?_⟩
      refine ite2 (fun c2 => ?_) (fun c2 => ?_)
      · have c2 : n = lastN las x := V.int.inj (of_decide_eq_true c2)
        rcases lr.val (Sum.inr x) with ⟨e1, e2⟩ | ⟨tt, q', e1, e2, e3⟩
        · exfalso
          unfold lastN at c2
          rw [e2] at c2
          dsimp only at c2
          omega
        · have hA : lastA las x = q'.2 := by unfold lastA; rw [e2]
          refine ⟨_, rfl, T', C, dx, _, _, rfl, h1, T.cl, T.nL, flds_l _ _, _, rfl, l, V.ref tt, rfl, ?_, tt, _, _, _, rfl, rfl, e3, rfl, ?_⟩
          · have := DGet.k (H := H) (a := l) (k := Sum.inr x) hl
            rw [e1] at this
            exact this
          refine ⟨(by show 2 ≤ sizeLine; decide), fun r hr' => ?_⟩
          have := q r (upd H r (.tup [V.str "again", q'.2])) hr'
          unfold tagR ansR heldR lasR at this
          rw [if_neg c1, if_pos c2, if_neg c1, if_pos c2, if_neg c1, if_pos c2, if_neg c1, if_pos c2, hA] at this
          exact this upd_same (stay r _ hr') (fun b o e _ _ => (Same.new hr') b o e)
      · have c2 : ¬ n = lastN las x := fun z => c2 (decide_eq_true (congrArg V.int z))
        refine ⟨_, rfl, T', dx, _, rfl, h1, nl2, _, rfl, T', d, l, t, kvs, las, wk, rfl, S, hlen, hI, hT, fun H1 bt hd1 => ?_⟩
        have nTd : T' ≠ d := ne_of h1 hd (by intro z; cases z)
        have nTl : T' ≠ l := ne_of h1 hl (by intro z; cases z)
        have h11 : H1 T' = some (.ins C dx (flds d l)) := bt _ _ h1 nTd
        have hl1 : H1 l = some (.dK lk) := bt _ _ hl hne.symm
        have lr1 : LR K H1 lk las := lr.mono fun t xs => SqT.but bt hd
        refine ⟨_, rfl, _, rfl, (by show 2 ≤ sizeLine; decide), fun t2 ht2 => ?_⟩
        have h12 := (Same.new (o := .tup [V.int n, wk.ans kvs]) ht2) _ _ h11
        have hl2 := (Same.new (o := .tup [V.int n, wk.ans kvs]) ht2) _ _ hl1
        have hd2 := (Same.new (o := .tup [V.int n, wk.ans kvs]) ht2) _ _ hd1
        refine ⟨_, rfl, T', C, dx, _, _, rfl, h12, T.cl, T.nL, flds_l _ _, _, rfl, l, _, rfl, DPut.k (k := Sum.inr x) hl2 (small1000 (by rw [lr.len]; exact hll)), ?_⟩
        refine ⟨_, rfl, (by show 2 ≤ sizeLine; decide), fun r hr' => ?_⟩
        have lr2 : LR K (upd (upd H1 t2 (.tup [V.int n, wk.ans kvs])) l (.dK (putK lk (Sum.inr x) (.ref t2)))) (putK lk (Sum.inr x) (.ref t2)) (putL las (Sum.inr x) (n, wk.ans kvs)) := by
          refine LR.put (lr1.mono fun t xs e => (SqT.same (.new ht2) e).upd hl2) (Sum.inr x) (SqT.upd (SqT.of upd_same) hl2)
        have hrH : H r = none := by
          cases e : H r with
          | none => rfl
          | some o =>
            exfalso
            have ntl : l ≠ r := by
              rintro rfl
              rw [upd_same] at hr'; cases hr'
            have ntd : d ≠ r := by
              rintro rfl
              rw [upd_ne hne, hd2] at hr'; cases hr'
            have : upd (upd H1 t2 (.tup [V.int n, wk.ans kvs])) l (.dK (putK lk (Sum.inr x) (.ref t2))) r = some o := by
              rw [upd_ne ntl.symm]
              exact (Same.new ht2) _ _ (bt _ _ e ntd.symm)
            rw [this] at hr'; cases hr'
        have := q r (upd (upd (upd H1 t2 (.tup [V.int n, wk.ans kvs])) l (.dK (putK lk (Sum.inr x) (.ref t2)))) r (.tup [V.str "done", wk.ans kvs])) hrH
        unfold tagR ansR heldR lasR at this
        rw [if_neg c1, if_neg c2, if_neg c1, if_neg c2, if_neg c1, if_neg c2, if_neg c1, if_neg c2] at this
        refine this upd_same ⟨⟨dx, ?_⟩, ?_, ⟨putK lk (Sum.inr x) (.ref t2), ?_, lr2.mono fun t xs => SqT.same (.new hr')⟩, hne⟩ (fun b o e nb1 nb2 => ?_)
        · exact (Same.new hr') _ _ (by rw [upd_ne nTl]; exact h12)
        · exact (Same.new hr') _ _ (by rw [upd_ne hne]; exact hd2)
        · exact (Same.new hr') _ _ upd_same
        · exact (Same.new hr') _ _ (by rw [upd_ne nb2]; exact (Same.new ht2) _ _ (bt _ _ e nb1))
end
/-- the table of two tuples, as __init__ makes it -/
def heldOf (ps : List (Key × V)) : Kvs := ps.foldl (fun m kv => putK m kv.1 kv.2) []
def lasOf (qs : List (Str × Int × V)) : Las := qs.foldl (fun m q => putL m (Sum.inr q.1) q.2) []
def spInit (K : PySem.W.Frag) (C : Addr) : Sp := fun vs H Q _ => ∃ (T dx hh aa : Addr) (o : Obj) (ps as : List V) (kvs : List (Key × V)) (qs : List (Str × Int × V)), vs = [.ref T, .ref hh, .ref aa] ∧ H T = some (.ins C dx []) ∧ H hh = some (.frz o (.tup ps)) ∧ o.dict = none ∧ ps.length = kvs.length ∧
  (∀ (j : Nat) (kv : Key × V), kvs[j]? = some kv → ∃ b, ps[j]? = some (.ref b) ∧ SqT K H b [kV kv.1, kv.2]) ∧ SqT K H aa as ∧ as.length = qs.length ∧ qs.length ≤ 900 ∧ (∀ (j : Nat) (q : Str × Int × V), qs[j]? = some q → ∃ b, as[j]? = some (.ref b) ∧ SqT K H b [.str q.1, .int q.2.1, q.2.2]) ∧
  ∀ (d l : Addr) (H' : Hp), H d = none → H l = none → TabAt K C H' T d l (heldOf kvs) (lasOf qs) → But T H H' → Q .non H'
theorem lasOf_len (qs : List (Str × Int × V)) : ∀ m : Las, (qs.foldl (fun m q => putL m (Sum.inr q.1) q.2) m).length ≤ m.length + qs.length := by
  induction qs with
  | nil => intro m; exact Nat.le_refl _
  | cons q r ih =>
    intro m
    have := ih (putL m (Sum.inr q.1) q.2)
    have := putL_len m (Sum.inr q.1) q.2
    simp only [List.foldl_cons, List.length_cons]
    omega
section
variable {P : Program} {w : World} {K : PySem.W.Frag} {mg : Str → Option Value} {base : Heap}
abbrev nInit : List Str := ["self", "held", "asked", "asker", "number", "answer"]
theorem scInit : FnScope nInit ["self", "held", "asked"] (defScope sInit) := ⟨rfl, rfl, rfl, by decide +kernel, rfl, by decide +kernel, by decide +kernel⟩
theorem ok_init {f C : Addr} {fd : FuncData} (F : Fun K "__init__" "Table.__init__" sInit f fd) (T : Cl K mg C) (B : Blt mg) : FnOk P w K mg base CX0 1 f fd ["self", "held", "asked"] (spInit K C) := by
  refine F.ok scInit (fun vs H Q E h => ?_) (fun cdv A outer s H vs Q E hr h => ?_)
  · obtain ⟨T', dx, hh, aa, o, ps, as, kvs, qs, rfl, _⟩ := h
    rfl
  · obtain ⟨T', dx, hh, aa, o, ps, as, kvs, qs, rfl, hT, hh1, ho, hpl, hps, haa, hal, hq9, has, q⟩ := h
    have hu := hu_of hr
    have nd := scInit.nd
    refine ⟨_, pss_cons (ps_fld (pv 0) (pe_callTy (call_dict rfl) (by rfl) B.dict bDict (pa_cons (pv 1) pa_nil)) rfl)
      (pss_cons (ps_fld (pv 0) pe_dnewK rfl)
      (pss_one (ps_for PassesOwn.never rfl (pi_tup (pv 2)) (pg_tup rfl (pgs_cons (pg_name (i := 3) nd rfl (Or.inl rfl)) (pgs_cons (pg_name (i := 4) nd rfl (Or.inl rfl)) (pgs_cons (pg_name (i := 5) nd rfl (Or.inl rfl)) pgs_nil))))
        (pss_one (ps_dput hu (pe_fld (pv 0) rfl) (pv 3) (pe_tup (pa_cons (pv 4) (pa_cons (pv 5) pa_nil))) rfl))))), ?_⟩
    refine ⟨_, rfl, hh, o, ps, kvs, rfl, hh1, ho, hpl, hps, fun d hd => ?_⟩
    have hT1 := (Same.new (o := .dK (heldOf kvs)) hd) _ _ hT
    refine ⟨_, rfl, T', C, dx, [], rfl, hT1, T.cl, T.nH, (by show 0 < 1000; decide), ?_⟩
    have nTd : T' ≠ d := ne_of_none hT hd
    intro l hl
    have nTl : T' ≠ l := ne_of_none upd_same hl
    have hlH : H l = none := by
      rw [upd_ne nTl.symm] at hl
      exact (Same.new (o := .dK (heldOf kvs)) hd).none hl
    have ndl : d ≠ l := by
      rintro rfl
      rw [upd_ne nTl.symm, upd_same] at hl
      cases hl
    refine ⟨_, rfl, T', C, dx, _, rfl, (by rw [upd_ne nTl]; exact upd_same), T.cl, T.nL, (by show 1 < 1000; decide), ?_⟩
    -- the heap of the loop
    have start : ∃ H3, H3 = upd (upd (upd (upd H d (.dK (heldOf kvs))) T' (.ins C dx (putF "held" (.ref d) []))) l (.dK [])) T' (.ins C dx (flds d l)) := ⟨_, rfl⟩
    obtain ⟨H3, e3⟩ := start
    have b3 : But T' H H3 := fun b o' e hb => by
      rw [e3, upd_ne hb, upd_ne (ne_of_none e hlH), upd_ne hb, upd_ne (ne_of_none e hd)]
      exact e
    have sqB : ∀ {H4 : Hp} {b : Addr} {xs : List V}, But T' H H4 → SqT K H b xs → SqT K H4 b xs := fun bt h => by
      rcases h with (h | ⟨o', h⟩) | h
      · exact .inl (.inl (bt _ _ h (ne_of h hT (by intro z; cases z))))
      · exact .inl (.inr ⟨o', bt _ _ h (ne_of h hT (by intro z; cases z))⟩)
      · exact .inr h
    refine ⟨_, rfl, aa, rfl, ⟨as, ?_⟩, for_tup (K := K) (a := aa) (xs := as) (fun i σ H4 => ∃ (u v w' : Option V), σ = [some (.ref T'), some (.ref hh), some (.ref aa), u, v, w'] ∧ But T' H H4 ∧ TabAt K C H4 T' d l (heldOf kvs) ((qs.take i).foldl (fun m q => putL m (Sum.inr q.1) q.2) []))
      ⟨none, none, none, rfl, ?_, ?_⟩ (fun i σ H4 _ ⟨_, _, _, _, bt, _⟩ => sqB bt haa) ?_ ?_⟩
    · have := sqB b3 haa
      rw [e3] at this
      exact this
    · rw [e3] at b3
      exact b3
    · refine ⟨⟨dx, upd_same⟩, ?_, ⟨[], ?_, .nil⟩, ndl⟩
      · rw [upd_ne nTd.symm, upd_ne ndl, upd_ne nTd.symm]
        exact upd_same
      · rw [upd_ne nTl.symm]
        exact upd_same
    · rintro i y σ H4 hy ⟨u, v, w', rfl, bt, S⟩
      have hi : i < as.length := (List.getElem?_eq_some_iff.mp hy).1
      obtain ⟨q', hq'⟩ : ∃ q', qs[i]? = some q' := ⟨_, List.getElem?_eq_getElem (by omega)⟩
      obtain ⟨b, hb, hbt⟩ := has i q' hq'
      rw [hb] at hy
      cases hy
      have et : qs.take (i + 1) = qs.take i ++ [q'] := by rw [List.take_add_one, hq']; rfl
      obtain ⟨⟨dx', h1⟩, hd4, ⟨lk, hl4, lr⟩, _⟩ := id S
      refine ⟨b, _, rfl, sqB bt hbt, rfl, _, _, rfl, _, _, rfl, _, _, rfl, rfl, ?_⟩
      refine ⟨_, rfl, _, rfl, (by show 2 ≤ sizeLine; decide), fun t ht => ?_⟩
      have h1' := (Same.new (o := .tup [V.int q'.2.1, q'.2.2]) ht) _ _ h1
      have hl' := (Same.new (o := .tup [V.int q'.2.1, q'.2.2]) ht) _ _ hl4
      have hd' := (Same.new (o := .tup [V.int q'.2.1, q'.2.2]) ht) _ _ hd4
      have hlen : lk.length < sizeLine := by
        have h2 := lasOf_len (qs.take i) []
        rw [← lr.len, List.length_take] at h2
        exact small1000 (by simp at h2; omega)
      refine ⟨_, rfl, T', C, dx', _, _, rfl, h1', T.cl, T.nL, flds_l _ _, _, rfl, l, _, rfl, DPut.k (k := Sum.inr q'.1) hl' hlen, ?_⟩
      refine ⟨_, _, _, rfl, fun c o' e hc => ?_, ⟨dx', ?_⟩, ?_, ⟨putK lk (Sum.inr q'.1) (.ref t), upd_same, ?_⟩, ndl⟩
      · rw [upd_ne (ne_of_none e hlH)]
        exact (Same.new ht) _ _ (bt _ _ e hc)
      · rw [upd_ne nTl]; exact h1'
      · rw [upd_ne ndl]; exact hd'
      · rw [et, List.foldl_append]
        exact LR.put (lr.mono fun t' xs e => (SqT.same (.new ht) e).upd hl') (Sum.inr q'.1) (SqT.upd (SqT.of upd_same) hl')
    · rintro σ H4 ⟨u, v, w', rfl, bt, S⟩
      rw [hal, List.take_length] at S
      exact q d l H4 hd hlH S bt
end
/-- the state of a table -/
structure StOk (kvs : Kvs) (las : Las) : Prop where
  gk : GoodK kvs
  gl : GoodK las
  ik : Ints kvs
  fl : ∀ k q, getL las k = some q → q.2 = .non ∨ ∃ i : Int, q.2 = .int i
structure Eqv (kvs : Kvs) (las : Las) (kvs' : Kvs) (las' : Las) : Prop where
  k : ∀ j, valV kvs j = valV kvs' j
  l : ∀ j, getL las j = getL las' j
theorem Eqv.refl (kvs : Kvs) (las : Las) : Eqv kvs las kvs las := ⟨fun _ => rfl, fun _ => rfl⟩
theorem Eqv.lastN {kvs kvs' : Kvs} {las las' : Las} (e : Eqv kvs las kvs' las') (x : Str) : lastN las x = lastN las' x := by unfold T23.lastN; rw [e.l]
theorem Eqv.lastA {kvs kvs' : Kvs} {las las' : Las} (e : Eqv kvs las kvs' las') (x : Str) : lastA las x = lastA las' x := by unfold T23.lastA; rw [e.l]
theorem StOk.step {kvs : Kvs} {las : Las} (h : StOk kvs las) (x : Str) (n : Int) (wk : Wk) : StOk (heldR kvs las x n wk) (lasR kvs las x n wk) := by
  unfold heldR lasR
  split
  · exact h
  · split
    · exact h
    · refine ⟨?_, h.gl.put x _, h.ik.to wk, fun k q e => ?_⟩
      · cases wk with
        | put a n => exact h.gk.put a _
        | add a n => exact h.gk.put a _
        | drop a => exact h.gk.drop _
      · rw [getL_put] at e
        split at e
        · cases e; exact h.ik.ans wk
        · exact h.fl k q e
/-- what is told of it -/
def psOf (kvs : Kvs) (ss : List Str) : List (Str × V) := ss.map fun k => (k, (valV kvs (Sum.inr k)).getD .non)
def qsOf (las : Las) (tt : List Str) : List (Str × Int × V) := tt.map fun x => (x, lastN las x, lastA las x)
structure IsTold (kvs : Kvs) (las : Las) (ps : List (Str × V)) (qs : List (Str × Int × V)) : Prop where
  h : ∃ ss : List Str, ss.Perm (keysS kvs) ∧ ss.Pairwise leS ∧ ps = psOf kvs ss
  a : ∃ tt : List Str, tt.Perm (keysS las) ∧ tt.Pairwise leS ∧ qs = qsOf las tt
theorem IsTold.one {kvs kvs' : Kvs} {las las' : Las} {ps ps' : List (Str × V)} {qs qs' : List (Str × Int × V)} (o : StOk kvs las) (o' : StOk kvs' las') (e : Eqv kvs las kvs' las') (h : IsTold kvs las ps qs) (h' : IsTold kvs' las' ps' qs') : ps = ps' ∧ qs = qs' := by
  obtain ⟨⟨ss, s1, s2, s3⟩, tt, t1, t2, t3⟩ := h
  obtain ⟨⟨ss', s1', s2', s3'⟩, tt', t1', t2', t3'⟩ := h'
  have es : ss = ss' := sorted_one s2 s2' (s1.trans ((keys_perm o.gk o'.gk fun k => e.k k).trans s1'.symm))
  have et : tt = tt' := sorted_one t2 t2' (t1.trans ((keys_perm o.gl o'.gl fun k => e.l k).trans t1'.symm))
  subst es et s3 t3 s3' t3'
  refine ⟨?_, ?_⟩
  · unfold psOf
    exact List.map_congr_left fun k _ => by rw [e.k]
  · unfold qsOf
    exact List.map_congr_left fun k _ => by rw [e.lastN, e.lastA]
/-! ### told, on the heap -/
def TellAt (H : Hp) (p : Addr) (ps : List (Str × V)) (qs : List (Str × Int × V)) : Prop := ∃ (ph pa : Addr) (oh oa : Obj) (hs as : List V), H p = some (.tup [.ref ph, .ref pa]) ∧ H ph = some (.frz oh (.tup hs)) ∧ oh.dict = none ∧ H pa = some (.frz oa (.tup as)) ∧ hs.length = ps.length ∧ as.length = qs.length ∧
  (∀ (j : Nat) (kv : Str × V), ps[j]? = some kv → ∃ b, hs[j]? = some (.ref b) ∧ H b = some (.tup [.str kv.1, kv.2])) ∧ (∀ (j : Nat) (q : Str × Int × V), qs[j]? = some q → ∃ b, as[j]? = some (.ref b) ∧ H b = some (.tup [.str q.1, .int q.2.1, q.2.2]))
theorem IsTold.flat {kvs : Kvs} {las : Las} {ps : List (Str × V)} {qs : List (Str × Int × V)} (o : StOk kvs las) (h : IsTold kvs las ps qs) : (∀ p ∈ ps, p.2 = .non ∨ ∃ i : Int, p.2 = .int i) ∧ ∀ q ∈ qs, q.2.2 = .non ∨ ∃ i : Int, q.2.2 = .int i := by
  obtain ⟨⟨ss, s1, s2, rfl⟩, tt, t1, t2, rfl⟩ := h
  refine ⟨fun p hp => ?_, fun q hq => ?_⟩
  · obtain ⟨k, _, rfl⟩ := List.mem_map.mp hp
    dsimp only
    cases e : valV kvs (Sum.inr k : Key) with
    | none => exact .inl rfl
    | some v => obtain ⟨i, rfl⟩ := o.ik _ _ e; exact .inr ⟨i, rfl⟩
  · obtain ⟨k, _, rfl⟩ := List.mem_map.mp hq
    dsimp only
    unfold lastA
    cases e : getL las (Sum.inr k : Key) with
    | none => exact .inl rfl
    | some v => exact o.fl _ _ e
end T23
namespace L2
open PySem PySem.Spec PyProof.Rows
theorem pe_fldC {X : Cx} {scope : Scope} {cl : List (Str × Addr)} {N2 ys : List Str} {C : Addr} {s : Shared} {H : Hp} {fp : List Addr} {e : Expr} {f : Str} {pos : Pos} {ta : TE} (he : PE (cxC X scope cl N2 ys C s H fp) e ta)
    (hb : attributeBase e f (cxC X scope cl N2 ys C s H fp).env (eval e (cxC X scope cl N2 ys C s H fp).env) = eval e (cxC X scope cl N2 ys C s H fp).env) : PE (cxC X scope cl N2 ys C s H fp) (.Attribute e f pos) (tFld X.K ta f) := pe_fld he hb
/-- a row of tuples made of texts -/
theorem lcTell {K : PySem.W.Frag} {a : Addr} {ss : List Str} {k : Nat} {σ : St} {H1 : Hp} {te : TE} {Q : VK} (row : Str → List V) (hk : σ.length = k) (hq : SqL K H1 a (ss.map V.str)) (hz : ss.length ≤ 900)
    (turn : ∀ (x : Str) (H' : Hp) (post : VK), x ∈ ss → Same H1 H' → (∀ t, H' t = none → post (.ref t) (upd H' t (.tup (row x)))) → te (σ ++ [some (.str x)]) H' post)
    (fin : ∀ (D : Addr) (bs : List Addr) (H' : Hp), H1 D = none → Same H1 H' → H' D = some (.lst (bs.map V.ref)) → bs.length = ss.length → (∀ (j : Nat) (x : Str), ss[j]? = some x → ∃ b, bs[j]? = some b ∧ H' b = some (.tup (row x))) → Q (.ref D) H') :
    LCT 1 (gName k) tYes te σ Q (Itl K a) H1 := by
  refine lcJ (n := ss.length) (fun i => .str (ss.getD i "")) (fun D i ys H => H1 D = none ∧ Same H1 H ∧ H D = some (.lst ys) ∧ ∃ bs : List Addr, ys = bs.map V.ref ∧ bs.length = i ∧ ∀ (j : Nat) (x : Str), j < i → ss[j]? = some x → ∃ b, bs[j]? = some b ∧ H b = some (.tup (row x))) hk ?_ ?_ ?_ ?_ ?_ ?_
  · rintro D i ys H hi ⟨h1, h2, _⟩
    exact ⟨_, V.str ss[i], h2.seq hq, by rw [List.getElem?_map, List.getElem?_eq_getElem hi]; rfl⟩
  · rintro D i ys H x H' hi ⟨h1, h2, _⟩ ⟨e, y⟩
    refine ⟨e, ?_⟩
    have := y _ (h2.seq hq)
    rw [List.getElem?_map, List.getElem?_eq_getElem hi] at this
    rw [List.getD_eq_getElem?_getD, List.getElem?_eq_getElem hi]
    exact (Option.some.inj this).symm
  · rintro D ys H ⟨h1, h2, _⟩
    exact ⟨_, h2.seq hq, by rw [List.length_map]; exact Nat.le_refl _⟩
  · intro D hD
    exact ⟨hD, .new hD, upd_same, [], rfl, rfl, fun j x hj => absurd hj (Nat.not_lt_zero _)⟩
  · rintro D i ys H post hi ⟨h1, h2, h3, bs, rfl, hbl, hbs⟩ hp
    have hx : ss[i]? = some (ss.getD i "") := by rw [List.getD_eq_getElem?_getD, List.getElem?_eq_getElem hi]; rfl
    refine turn _ H post (List.mem_of_getElem? hx) h2 fun t ht => ?_
    have nDt : D ≠ t := ne_of_none h3 ht
    refine hp (.ref t) _ (by rw [upd_ne nDt]; exact h3) (by rw [List.length_map]; exact small1000 (by omega)) ⟨h1, fun b o e => ?_, upd_same, bs ++ [t], by rw [List.map_append]; rfl, by rw [List.length_append, hbl]; rfl, fun j x hj hx' => ?_⟩
    · rw [upd_ne (ne_of_none e h1), upd_ne (ne_of_none (h2 _ _ e) ht)]
      exact h2 _ _ e
    · by_cases hji : j < i
      · obtain ⟨b, b1, b2⟩ := hbs j x hji hx'
        refine ⟨b, by rw [List.getElem?_append_left (by omega)]; exact b1, ?_⟩
        have nbD : b ≠ D := by rintro rfl; rw [h3] at b2; cases b2
        rw [upd_ne nbD, upd_ne (ne_of_none b2 ht)]
        exact b2
      · have e : j = i := by omega
        subst e
        rw [hx] at hx'
        cases hx'
        refine ⟨t, by rw [List.getElem?_append_right (by omega), hbl, Nat.sub_self]; rfl, ?_⟩
        rw [upd_ne nDt.symm]
        exact upd_same
  · rintro D ys H ⟨h1, h2, h3, bs, rfl, hbl, hbs⟩
    exact fin D bs H h1 h2 h3 hbl fun j x hx => hbs j x (List.getElem?_eq_some_iff.mp hx).1 hx
end L2
namespace T23
open PySem L2 KM
abbrev sTold : Stmt := inClass (top 4) 5
def spTold (K : PySem.W.Frag) (C : Addr) : Sp := fun vs H Q _ => ∃ (T d l : Addr) (kvs : Kvs) (las : Las), vs = [.ref T] ∧ TabAt K C H T d l kvs las ∧ StOk kvs las ∧ kvs.length < 64 ∧ las.length < 64 ∧
  ∀ (p : Addr) (ps : List (Str × V)) (qs : List (Str × Int × V)) (H' : Hp), Same H H' → TellAt H' p ps qs → IsTold kvs las ps qs → Q (.ref p) H'
theorem LR.keys {K : PySem.W.Frag} {H : Hp} {lk : Kvs} {las : Las} (r : LR K H lk las) : lk.map (·.1) = las.map (·.1) := by
  induction r with
  | nil => rfl
  | cons h t ih => rw [List.map_cons, List.map_cons, ih, h.1]
/-- two rows of tuples, told -/
theorem tell_mk {H : Hp} {p ph pa : Addr} {oh oa : Obj} {kvs : Kvs} {las : Las} {ss tt : List Str} {bs cs : List Addr} (h1 : H p = some (.tup [.ref ph, .ref pa])) (h2 : H ph = some (.frz oh (.tup (bs.map V.ref)))) (h3 : oh.dict = none) (h4 : H pa = some (.frz oa (.tup (cs.map V.ref))))
    (hb : bs.length = ss.length) (hc : cs.length = tt.length) (hbs : ∀ (j : Nat) (x : Str), ss[j]? = some x → ∃ b, bs[j]? = some b ∧ H b = some (.tup [.str x, (valV kvs (Sum.inr x)).getD .non]))
    (hcs : ∀ (j : Nat) (x : Str), tt[j]? = some x → ∃ b, cs[j]? = some b ∧ H b = some (.tup [.str x, .int (lastN las x), lastA las x])) : TellAt H p (psOf kvs ss) (qsOf las tt) := by
  refine ⟨ph, pa, oh, oa, _, _, h1, h2, h3, h4, by unfold psOf; rw [List.length_map, List.length_map, hb], by unfold qsOf; rw [List.length_map, List.length_map, hc], fun j kv e => ?_, fun j q e => ?_⟩
  · unfold psOf at e
    rw [List.getElem?_map] at e
    cases es : ss[j]? with
    | none => rw [es] at e; cases e
    | some x =>
      rw [es] at e
      cases e
      obtain ⟨b, b1, b2⟩ := hbs j x es
      exact ⟨b, by rw [List.getElem?_map, b1]; rfl, b2⟩
  · unfold qsOf at e
    rw [List.getElem?_map] at e
    cases es : tt[j]? with
    | none => rw [es] at e; cases e
    | some x =>
      rw [es] at e
      cases e
      obtain ⟨b, b1, b2⟩ := hcs j x es
      exact ⟨b, by rw [List.getElem?_map, b1]; rfl, b2⟩
section
variable {P : Program} {w : World} {K : PySem.W.Frag} {mg : Str → Option Value} {base : Heap}
abbrev nTold : List Str := ["self", "held", "asked"]
theorem scTold : FnScope nTold ["self"] (defScope sTold) := ⟨rfl, rfl, rfl, by decide +kernel, rfl, by decide +kernel, by decide +kernel⟩
theorem ndTK : (nTold ++ (["key"] : List Str)).Nodup := by decide +kernel
theorem ndTA : (nTold ++ (["asker"] : List Str)).Nodup := by decide +kernel
theorem ok_told {f C : Addr} {fd : FuncData} (F : Fun K "told" "Table.told" sTold f fd) (T : Cl K mg C) (B : Blt mg) : FnOk P w K mg base CX0 1 f fd ["self"] (spTold K C) := by
  refine F.ok scTold (fun vs H Q E h => ?_) (fun cdv A outer s H vs Q E hr h => ?_)
  · obtain ⟨T', d, l, kvs, las, rfl, _⟩ := h
    rfl
  · obtain ⟨T', d, l, kvs, las, rfl, S, ok, hk64, hl64, q⟩ := h
    have hu := hu_of hr
    have nd := scTold.nd
    obtain ⟨⟨dx, h1⟩, hd, ⟨lk, hl, lr⟩, hne⟩ := id S
    refine ⟨_, pss_cons (ps_set (i := 1) nd rfl (Or.inl rfl) (pe_callTy call_tupF (by rfl) B.tuple bTuple (pa_cons (pe_lc nTold nTold ["key"] (defScope sTold) rfl rfl rfl (by decide +kernel) rfl rfl (by decide +kernel) (by decide +kernel) (by decide +kernel) (by decide +kernel)
        (pi_list (pe_callB (call_sortD rfl) (by rfl) B.sorted bSorted (pa_cons (pe_fld (pv 0) rfl) pa_nil))) (fun _ _ _ _ _ => pg_name (i := 3) ndTK rfl (Or.inl rfl)) (fun _ _ _ _ _ => pts_nil)
        (fun _ _ _ _ _ => pe_tup (pa_cons (pv 3) (pa_cons (pe_dget hu (pe_fldC (pv 0) rfl) (pv 3) (fun _ _ => rfl)) pa_nil)))) pa_nil))) <|
      pss_cons (ps_set (i := 2) nd rfl (Or.inl rfl) (pe_callTy call_tupF (by rfl) B.tuple bTuple (pa_cons (pe_lc nTold nTold ["asker"] (defScope sTold) rfl rfl rfl (by decide +kernel) rfl rfl (by decide +kernel) (by decide +kernel) (by decide +kernel) (by decide +kernel)
        (pi_list (pe_callB (call_sortD rfl) (by rfl) B.sorted bSorted (pa_cons (pe_fld (pv 0) rfl) pa_nil))) (fun _ _ _ _ _ => pg_name (i := 3) ndTA rfl (Or.inl rfl)) (fun _ _ _ _ _ => pts_nil)
        (fun _ _ _ _ _ => pe_tup (pa_cons (pv 3) (pa_cons (pe_ix ix_tupC (pe_dget hu (pe_fldC (pv 0) rfl) (pv 3) (fun _ _ => rfl)) pe_int (fun _ _ => rfl)) (pa_cons (pe_ix ix_tupC (pe_dget hu (pe_fldC (pv 0) rfl) (pv 3) (fun _ _ => rfl)) pe_int (fun _ _ => rfl)) pa_nil))))) pa_nil))) <|
      pss_one <| ps_ret <| pe_tup <| pa_cons (pv 1) <| pa_cons (pv 2) pa_nil, ?_⟩
    have kk := ok.gk.keys
    have hlk : lk.map (·.1) = (keysS las).map Sum.inr := by rw [← ok.gl.keys]; exact lr.keys
    refine ⟨_, rfl, T', C, dx, _, _, rfl, h1, T.cl, T.nH, flds_h _ _, d, kvs, keysS kvs, rfl, hd, kk, hk64, fun p1 ss hp1 pm1 pw1 => ?_⟩
    refine ⟨p1, rfl, ⟨_, SqL.of upd_same⟩, ?_⟩
    have s1 : Same H (upd H p1 (.lst (ss.map V.str))) := .new hp1
    have hsl : ss.length < 64 := by rw [pm1.length_eq]; unfold keysS; rw [List.length_map]; exact hk64
    refine lcTell (ss := ss) (fun x => [.str x, (valV kvs (Sum.inr x)).getD .non]) ?_ ?_ ?_ ?_ ?_
    · rfl
    · exact SqL.of upd_same
    · omega
    · intro x H' post hx sm hpost
      have s1' := s1.trans sm
      obtain ⟨v, hv⟩ : ∃ v, valV kvs (Sum.inr x) = some v := Option.isSome_iff_exists.mp (getG_mem.mp (ok.gk.mem.mp (pm1.mem_iff.mp hx)))
      refine ⟨_, rfl, _, rfl, T', C, dx, _, _, rfl, s1' _ _ h1, T.cl, T.nH, flds_h _ _, _, rfl, d, v, rfl, ?_, (by show 2 ≤ sizeLine; decide), fun t ht => ?_⟩
      · have := DGet.k (H := H') (k := Sum.inr x) (s1' _ _ hd)
        rw [hv] at this
        exact this
      · have := hpost t ht
        rw [hv] at this
        exact this
    intro D bs H2 hD s2 hD2 hbl hbs
    refine ⟨D, _, rfl, SqL.of hD2, fun ph oh hph hoh => ?_⟩
    have s3 : Same H (upd H2 ph (.frz oh (.tup (bs.map V.ref)))) := s1.trans (s2.trans (.new hph))
    have sph : Same H2 (upd H2 ph (.frz oh (.tup (bs.map V.ref)))) := .new hph
    have hph3 : upd H2 ph (.frz oh (.tup (bs.map V.ref))) ph = some (.frz oh (.tup (bs.map V.ref))) := upd_same
    generalize upd H2 ph (.frz oh (.tup (bs.map V.ref))) = H3 at s3 sph hph3
    -- asked
    refine ⟨_, rfl, T', C, dx, _, _, rfl, s3 _ _ h1, T.cl, T.nL, flds_l _ _, l, lk, keysS las, rfl, s3 _ _ hl, hlk, (by rw [lr.len]; exact hl64), fun p2 tt hp2 pm2 pw2 => ?_⟩
    refine ⟨p2, rfl, ⟨_, SqL.of upd_same⟩, ?_⟩
    have s4 : Same H3 (upd H3 p2 (.lst (tt.map V.str))) := .new hp2
    have htl : tt.length < 64 := by rw [pm2.length_eq]; unfold keysS; rw [List.length_map]; exact hl64
    refine lcTell (ss := tt) (fun x => [.str x, .int (lastN las x), lastA las x]) ?_ ?_ ?_ ?_ ?_
    · rfl
    · exact SqL.of upd_same
    · omega
    · intro x H' post hx sm hpost
      have s1' := s3.trans (s4.trans sm)
      have hm : (getL las (Sum.inr x)).isSome = true := getG_mem.mp (ok.gl.mem.mp (pm2.mem_iff.mp hx))
      rcases lr.val (Sum.inr x) with ⟨_, e2⟩ | ⟨tx, q', e1, e2, e3⟩
      · rw [e2] at hm; cases hm
      · have hN : lastN las x = q'.1 := by unfold lastN; rw [e2]
        have hA : lastA las x = q'.2 := by unfold lastA; rw [e2]
        have hg : DGet H' l (.str x) (some (.ref tx)) := by
          have := DGet.k (H := H') (k := Sum.inr x) (s1' _ _ hl)
          rw [e1] at this
          exact this
        refine ⟨_, rfl, _, rfl, T', C, dx, _, _, rfl, s1' _ _ h1, T.cl, T.nL, flds_l _ _, _, rfl, l, _, rfl, hg, tx, _, _, _, rfl, rfl, SqT.same s1' e3, rfl, ?_⟩
        refine ⟨_, rfl, T', C, dx, _, _, rfl, s1' _ _ h1, T.cl, T.nL, flds_l _ _, _, rfl, l, _, rfl, hg, tx, _, _, _, rfl, rfl, SqT.same s1' e3, rfl, (by show 3 ≤ sizeLine; decide), fun t ht => ?_⟩
        have := hpost t ht
        rw [hN, hA] at this
        exact this
    intro D2 cs H4 hD2' s5 hD4 hcl hcs
    refine ⟨D2, _, rfl, SqL.of hD4, fun pa oa hpa hoa => ?_⟩
    refine ⟨_, rfl, _, rfl, (by show 2 ≤ sizeLine; decide), fun p hp => ?_⟩
    have s35 : Same H3 (upd (upd H4 pa (.frz oa (.tup (cs.map V.ref)))) p (.tup [V.ref ph, V.ref pa])) := s4.trans (s5.trans ((Same.new hpa).trans (.new hp)))
    have s45 : Same H4 (upd (upd H4 pa (.frz oa (.tup (cs.map V.ref)))) p (.tup [V.ref ph, V.ref pa])) := (Same.new hpa).trans (.new hp)
    refine q p (psOf kvs ss) (qsOf las tt) _ (s3.trans s35) (tell_mk upd_same (s35 _ _ hph3) hoh ((Same.new hp) _ _ upd_same) hbl hcl (fun j x hx => ?_) (fun j x hx => ?_)) ⟨⟨ss, pm1, pw1, rfl⟩, tt, pm2, pw2, rfl⟩
    · obtain ⟨b, b1, b2⟩ := hbs j x hx
      exact ⟨b, b1, s35 _ _ (sph _ _ b2)⟩
    · obtain ⟨b, b1, b2⟩ := hcs j x hx
      exact ⟨b, b1, s45 _ _ b2⟩
end
end T23

set_option maxHeartbeats 4000000
namespace K23
open PySem L2
abbrev sIsB : Stmt := inClass (top 2) 11
abbrev sCut : Stmt := inClass (top 2) 13
abbrev sTabAt : Stmt := top 19
/-- whether a row with this last place and term is behind another -/
def bhd (lp lt p t : Int) : Bool := decide (lt < t) || (decide (lt = t) && decide (lp < p))
def spIsB (C : Addr) : Sp := fun us H Q _ => ∃ (r st en : Addr) (pl tm : Int) (sv : List V) (es : List Addr) (tms : List Int) (p t : Int), us = [.ref r, .int p, .int t] ∧ RowAt C H r st en pl tm sv es tms ∧ Q (.bl (bhd (pl + tms.length) (lastT tm tms) p t)) H
theorem dec_int (a b : Int) : decide (V.int a = V.int b) = decide (a = b) := by
  rw [Bool.eq_iff_iff, decide_eq_true_iff, decide_eq_true_iff]
  exact ⟨fun h => by cases h; rfl, fun h => by rw [h]⟩
/-- what was told of a table -/
def HeldAt (H : Hp) (a : Addr) (ps : List (Str × V)) : Prop := ∃ (o : Obj) (hs : List V), H a = some (.frz o (.tup hs)) ∧ hs.length = ps.length ∧ ∀ (j : Nat) (kv : Str × V), ps[j]? = some kv → ∃ b, hs[j]? = some (.ref b) ∧ H b = some (.tup [.str kv.1, kv.2])
def AskedAt (H : Hp) (a : Addr) (qs : List (Str × Int × V)) : Prop := ∃ (o : Obj) (hs : List V), H a = some (.frz o (.tup hs)) ∧ hs.length = qs.length ∧ ∀ (j : Nat) (q : Str × Int × V), qs[j]? = some q → ∃ b, hs[j]? = some (.ref b) ∧ H b = some (.tup [.str q.1, .int q.2.1, q.2.2])
theorem HeldAt.same {H H' : Hp} {a : Addr} {ps : List (Str × V)} (e : Same H H') (h : HeldAt H a ps) : HeldAt H' a ps := by
  obtain ⟨o, hs, h1, h2, h3⟩ := h
  refine ⟨o, hs, e _ _ h1, h2, fun j kv hk => ?_⟩
  obtain ⟨b, b1, b2⟩ := h3 j kv hk
  exact ⟨b, b1, e _ _ b2⟩
theorem AskedAt.same {H H' : Hp} {a : Addr} {ps : List (Str × Int × V)} (e : Same H H') (h : AskedAt H a ps) : AskedAt H' a ps := by
  obtain ⟨o, hs, h1, h2, h3⟩ := h
  refine ⟨o, hs, e _ _ h1, h2, fun j kv hk => ?_⟩
  obtain ⟨b, b1, b2⟩ := h3 j kv hk
  exact ⟨b, b1, e _ _ b2⟩
theorem told_two {H : Hp} {p : Addr} {ps : List (Str × V)} {qs : List (Str × Int × V)} (h : T23.TellAt H p ps qs) : ∃ ph pa : Addr, H p = some (.tup [.ref ph, .ref pa]) ∧ HeldAt H ph ps ∧ AskedAt H pa qs := by
  obtain ⟨ph, pa, oh, oa, hs, as, h1, h2, h3, h4, h5, h6, h7, h8⟩ := h
  exact ⟨ph, pa, h1, ⟨oh, hs, h2, h5, h7⟩, ⟨oa, as, h4, h6, h8⟩⟩
theorem sm_num {v : V} (h : v = .non ∨ ∃ i : Int, v = .int i) : smV v = true := by
  rcases h with rfl | ⟨i, rfl⟩ <;> rfl
theorem alk_rows {K : PySem.W.Frag} {H : Hp} {α : Type} {a b : Addr} {o o' : Obj} {hs hs' : List V} {ps : List α} (row : α → List V) (h1 : H a = some (.frz o (.tup hs))) (h1' : H b = some (.frz o' (.tup hs'))) (h2 : hs.length = ps.length) (h2' : hs'.length = ps.length)
    (h3 : ∀ (j : Nat) (kv : α), ps[j]? = some kv → ∃ b, hs[j]? = some (.ref b) ∧ H b = some (.tup (row kv))) (h3' : ∀ (j : Nat) (kv : α), ps[j]? = some kv → ∃ b, hs'[j]? = some (.ref b) ∧ H b = some (.tup (row kv))) (hr : ∀ kv ∈ ps, ∀ v ∈ row kv, smV v = true) : Alk K 2 H (.ref a) (.ref b) := by
  refine .inr ⟨a, b, hs, hs', rfl, rfl, .inl (.inr ⟨o, h1⟩), .inl (.inr ⟨o', h1'⟩), by omega, fun j x y hx hy => ?_⟩
  have hj : j < ps.length := by have := (List.getElem?_eq_some_iff.mp hx).1; omega
  obtain ⟨kv, hkv⟩ : ∃ kv, ps[j]? = some kv := ⟨_, List.getElem?_eq_getElem hj⟩
  obtain ⟨c, c1, c2⟩ := h3 j kv hkv
  obtain ⟨d, d1, d2⟩ := h3' j kv hkv
  rw [c1] at hx
  rw [d1] at hy
  cases hx
  cases hy
  refine .inr (ex4 c d _ _ ⟨rfl, rfl, SqT.of c2, SqT.of d2, rfl, fun i x y hx hy => ?_⟩)
  rw [hx] at hy
  cases hy
  exact Alk.sm (hr kv (List.mem_of_getElem? hkv) x (List.mem_of_getElem? hx))
theorem alk_held {K : PySem.W.Frag} {H : Hp} {a b : Addr} {ps : List (Str × V)} (h : HeldAt H a ps) (h' : HeldAt H b ps) (hp : ∀ p ∈ ps, p.2 = .non ∨ ∃ i : Int, p.2 = .int i) : Alk K 2 H (.ref a) (.ref b) := by
  obtain ⟨o, hs, h1, h2, h3⟩ := h
  obtain ⟨o', hs', h1', h2', h3'⟩ := h'
  refine alk_rows (fun kv => [.str kv.1, kv.2]) h1 h1' h2 h2' h3 h3' fun kv hkv v hv => ?_
  simp only [List.mem_cons, List.not_mem_nil, or_false] at hv
  rcases hv with rfl | rfl
  · rfl
  · exact sm_num (hp kv hkv)
theorem alk_asked {K : PySem.W.Frag} {H : Hp} {a b : Addr} {qs : List (Str × Int × V)} (h : AskedAt H a qs) (h' : AskedAt H b qs) (hp : ∀ q ∈ qs, q.2.2 = .non ∨ ∃ i : Int, q.2.2 = .int i) : Alk K 2 H (.ref a) (.ref b) := by
  obtain ⟨o, hs, h1, h2, h3⟩ := h
  obtain ⟨o', hs', h1', h2', h3'⟩ := h'
  refine alk_rows (fun q => [.str q.1, .int q.2.1, q.2.2]) h1 h1' h2 h2' h3 h3' fun kv hkv v hv => ?_
  simp only [List.mem_cons, List.not_mem_nil, or_false] at hv
  rcases hv with rfl | rfl | rfl
  · rfl
  · rfl
  · exact sm_num (hp kv hkv)
/-! tables at first -/
theorem list_choice {α : Type} {P : Nat → α → Prop} : ∀ n : Nat, (∀ i, i < n → ∃ a, P i a) → ∃ l : List α, l.length = n ∧ ∀ (i : Nat) (a : α), l[i]? = some a → P i a
  | 0, _ => ⟨[], rfl, fun i a h => by simp at h⟩
  | n + 1, h => by
    obtain ⟨l, h1, h2⟩ := list_choice n fun i hi => h i (by omega)
    obtain ⟨a, ha⟩ := h n (Nat.lt_succ_self n)
    refine ⟨l ++ [a], by rw [List.length_append, h1]; rfl, fun i b hb => ?_⟩
    by_cases hi : i < l.length
    · rw [List.getElem?_append_left hi] at hb
      exact h2 i b hb
    · have hi2 : i = n := by
        have := (List.getElem?_eq_some_iff.mp hb).1
        simp only [List.length_append, List.length_cons, List.length_nil] at this
        omega
      subst hi2
      rw [List.getElem?_append_right (by omega), h1, Nat.sub_self] at hb
      cases hb
      exact ha
theorem held_ok : ∀ (kvs : List (Key × V)) (m : T23.Kvs), (∀ kv ∈ kvs, ∃ (x : Str) (i : Int), kv = (Sum.inr x, .int i)) → KM.GoodK m → T23.Ints m → KM.GoodK (kvs.foldl (fun m kv => putK m kv.1 kv.2) m) ∧ T23.Ints (kvs.foldl (fun m kv => putK m kv.1 kv.2) m) ∧ (kvs.foldl (fun m kv => putK m kv.1 kv.2) m).length ≤ m.length + kvs.length
  | [], m, _, g, i => ⟨g, i, Nat.le_refl _⟩
  | kv :: r, m, h, g, i => by
    obtain ⟨x, z, rfl⟩ := h kv List.mem_cons_self
    have hi : T23.Ints (putK m (Sum.inr x) (.int z)) := fun k v e => by
      rw [valV_put] at e
      split at e
      · cases e; exact ⟨_, rfl⟩
      · exact i k v e
    obtain ⟨h1, h2, h3⟩ := held_ok r (putK m (Sum.inr x) (.int z)) (fun kv hk => h kv (List.mem_cons_of_mem _ hk)) (g.put x _) hi
    refine ⟨h1, h2, ?_⟩
    have := length_putK m (Sum.inr x : Key) (.int z)
    rw [List.foldl_cons, List.length_cons]
    show (r.foldl _ (putK m (Sum.inr x) (.int z))).length ≤ _
    omega
theorem las_ok : ∀ (qs : List (Str × Int × V)) (m : T23.Las), (∀ q ∈ qs, q.2.2 = .non) → KM.GoodK m → (∀ k q, T23.getL m k = some q → q.2 = .non ∨ ∃ i : Int, q.2 = .int i) → KM.GoodK (qs.foldl (fun m q => T23.putL m (Sum.inr q.1) q.2) m) ∧ (∀ k q, T23.getL (qs.foldl (fun m q => T23.putL m (Sum.inr q.1) q.2) m) k = some q → q.2 = .non ∨ ∃ i : Int, q.2 = .int i)
  | [], m, _, g, i => ⟨g, i⟩
  | q :: r, m, h, g, i => by
    have hq := h q List.mem_cons_self
    refine las_ok r (T23.putL m (Sum.inr q.1) q.2) (fun q hk => h q (List.mem_cons_of_mem _ hk)) (g.put q.1 _) fun k v e => ?_
    rw [T23.getL_put] at e
    split at e
    · cases e; exact .inl hq
    · exact i k v e
theorem stok_init {kvs : List (Key × V)} {qs : List (Str × Int × V)} (hk : ∀ kv ∈ kvs, ∃ (x : Str) (i : Int), kv = (Sum.inr x, .int i)) (hq : ∀ q ∈ qs, q.2.2 = .non) : T23.StOk (T23.heldOf kvs) (T23.lasOf qs) ∧ (T23.heldOf kvs).length ≤ kvs.length ∧ (T23.lasOf qs).length ≤ qs.length := by
  obtain ⟨a1, a2, a3⟩ := held_ok kvs [] hk ⟨fun p hp => (by cases hp), List.nodup_nil⟩ (fun k v e => (by cases e))
  obtain ⟨b1, b2⟩ := las_ok qs [] hq ⟨fun p hp => (by cases hp), List.nodup_nil⟩ (fun k q e => (by cases e))
  have b3 := T23.lasOf_len qs []
  simp only [List.length_nil, Nat.zero_add] at a3 b3
  exact ⟨⟨a1, b1, a2, b2⟩, a3, b3⟩
theorem wk_of {xs : List V} (h : Wk xs) : ∃ wk : T23.Wk, xs = wk.vs := by
  cases h with
  | drop h => exact ⟨.drop _, rfl⟩
  | put h h2 => exact ⟨.put _ _, rfl⟩
  | add h h2 => exact ⟨.add _ _, rfl⟩
theorem step_len (kvs : T23.Kvs) (las : T23.Las) (x : Str) (n : Int) (wk : T23.Wk) : (T23.heldR kvs las x n wk).length ≤ kvs.length + 1 ∧ (T23.lasR kvs las x n wk).length ≤ las.length + 1 := by
  unfold T23.heldR T23.lasR
  split
  · exact ⟨Nat.le_succ _, Nat.le_succ _⟩
  · split
    · exact ⟨Nat.le_succ _, Nat.le_succ _⟩
    · exact ⟨T23.to_len kvs wk, T23.putL_len _ _ _⟩
/-- a table in use -/
structure TbOk (K : PySem.W.Frag) (CT : Addr) (H : Hp) (T d l : Addr) (kvs : T23.Kvs) (las : T23.Las) : Prop where
  at' : T23.TabAt K CT H T d l kvs las
  ok : T23.StOk kvs las
  k64 : kvs.length < 64
  l64 : las.length < 64
theorem TbOk.same {K : PySem.W.Frag} {CT : Addr} {H H' : Hp} {T d l : Addr} {kvs : T23.Kvs} {las : T23.Las} (e : Same H H') (h : TbOk K CT H T d l kvs las) : TbOk K CT H' T d l kvs las := by
  obtain ⟨⟨⟨dx, h1⟩, h2, ⟨lk, h3, lr⟩, h4⟩, h5, h6, h7⟩ := h
  exact ⟨⟨⟨dx, e _ _ h1⟩, e _ _ h2, ⟨lk, e _ _ h3, lr.mono fun t xs q => T23.SqT.same e q⟩, h4⟩, h5, h6, h7⟩
def spCut (K : PySem.W.Frag) (C CT : Addr) : Sp := fun us H Q _ => ∃ (r st en : Addr) (pl tm : Int) (b0 : Addr) (sv : List V) (es : List Addr) (tms : List Int) (bns : List (Option Addr)) (k : Nat) (T d l : Addr) (kvs : T23.Kvs) (las : T23.Las), us = [.ref r, .int (pl + k), .ref T] ∧ RowAt C H r st en pl tm (.ref b0 :: sv) es tms ∧ Bns H es bns ∧ k ≤ tms.length ∧ TbOk K CT H T d l kvs las ∧
  ∀ (r' st' en' ph pa : Addr) (ps : List (Str × V)) (qs : List (Str × Int × V)) (H' : Hp), Same H H' → RowAt C H' r' st' en' (pl + k) ((tm :: tms).getD k 0) [.ref (benchOf b0 (bns.take k)), .ref ph, .ref pa] (es.drop k) (tms.drop k) → HeldAt H' ph ps → AskedAt H' pa qs → T23.IsTold kvs las ps qs → Q (.ref r') H'
def spTabAt (K : PySem.W.Frag) (CT : Addr) : Sp := fun us H Q _ => ∃ (st en : Addr) (pl tm : Int) (b hd ak : Addr) (ks qs : List Str) (es : List Addr) (k : Nat), us = [.ref st, .ref en, .int (pl + k)] ∧ H st = some (.tup [.int pl, .int tm, .ref b, .ref hd, .ref ak]) ∧ RowOf RelH H hd ks ∧ RowOf RelA H ak qs ∧ ks.length ≤ 3 ∧ qs.length ≤ 2 ∧ H en = some (.tup (es.map V.ref)) ∧ es.length ≤ 40 ∧ (∀ e ∈ es, ∃ t, EntryAt H e t) ∧
  ∀ (T d l : Addr) (kvs : T23.Kvs) (las : T23.Las) (H' : Hp), Same H H' → TbOk K CT H' T d l kvs las → H T = none → H d = none → H l = none → Q (.ref T) H'
section
variable {P : Program} {w : World} {K : PySem.W.Frag} {mg : Str → Option Value} {base : Heap}
theorem scIsB : FnScope ["self", "place", "term", "own_term"] ["self", "place", "term"] (defScope sIsB) := ⟨rfl, rfl, rfl, by decide +kernel, rfl, by decide +kernel, by decide +kernel⟩
theorem ok_isB {f C : Addr} {fd : FuncData} (F : Fun K "is_behind" "Row.is_behind" sIsB f fd) (T : Cl K mg C) (Ml : MeAt P w K mg base C 1 "last_place" ["self"] (spLastP C)) (Mx : MeAt P w K mg base C 3 "last_term" ["self"] (spLastT C)) : FnOk P w K mg base CX0 4 f fd ["self", "place", "term"] (spIsB C) := by
  refine F.ok scIsB (fun vs H Q E h => ?_) (fun cdv A outer s H vs Q E hr h => ?_)
  · obtain ⟨r, st, en, pl, tm, sv, es, tms, p, t, rfl, _⟩ := h
    rfl
  · obtain ⟨r, st, en, pl, tm, sv, es, tms, p, t, rfl, hR, q⟩ := h
    obtain ⟨⟨dx, h1⟩, h2, h3, h4, h5, h6⟩ := id hR
    have nd := scIsB.nd
    refine ⟨_, pss_cons (ps_set (i := 3) nd rfl (Or.inl rfl) (pe_methF0 Mx T.cl hr (pv 0))) <|
      pss_one <| ps_ret <| pe_or (pe_cmpR op_lt (pv 3) (pv 2) (nomark _)) (pe_one (pe_and (pe_cmpR op_eq (pv 3) (pv 2) (nomark _)) (pe_one (pe_cmpR op_lt (pe_methF0 Ml T.cl (hr.mono (by decide)) (pv 0)) (pv 1) (nomark _))))), ?_⟩
    refine ⟨_, rfl, ex3 r dx _ ⟨rfl, h1, rfl, ex8 r st en pl tm sv es tms ⟨rfl, hR, ?_⟩⟩⟩
    refine ⟨_, rfl, _, rfl, _, _, rfl, rfl, _, rfl, ?_⟩
    unfold bhd at q
    by_cases ha : lastT tm tms < t
    · rw [decide_eq_true ha] at q ⊢
      exact iteT q
    · rw [decide_eq_false ha] at q ⊢
      refine iteF ⟨_, rfl, _, rfl, rfl, _, rfl, ?_⟩
      rw [dec_int]
      rw [Bool.false_or] at q
      by_cases hb : lastT tm tms = t
      · rw [decide_eq_true hb] at q ⊢
        exact iteT ⟨_, rfl, ex3 r dx _ ⟨rfl, h1, rfl, ex8 r st en pl tm sv es tms ⟨rfl, hR, _, rfl, _, _, rfl, rfl, q⟩⟩⟩
      · rw [decide_eq_false hb] at q ⊢
        exact iteF q
abbrev nCut : List Str := ["self", "place", "table", "told", "stand"]
theorem scCut : FnScope nCut ["self", "place", "table"] (defScope sCut) := ⟨rfl, rfl, rfl, by decide +kernel, rfl, by decide +kernel, by decide +kernel⟩
theorem ok_cut {f C CT : Addr} {fd : FuncData} (F : Fun K "cut" "Row.cut" sCut f fd) (T : Cl K mg C) (TT : T23.Cl K mg CT) (Mo : MeAt P w K mg base CT 1 "told" ["self"] (T23.spTold K CT)) (Mt : MeAt P w K mg base C 2 "term_at" ["self", "place"] (spTermAt C)) (Mb : MeAt P w K mg base C 2 "bench_at" ["self", "place"] (spBenchAt C)) (Mh : MeAt P w K mg base C 1 "behind" ["self", "place"] (spBehind C)) (Mi : MkAt P w K mg base C 1 ["self", "stand", "entries"] (spInit C)) :
    FnOk P w K mg base CX0 3 f fd ["self", "place", "table"] (spCut K C CT) := by
  refine F.ok scCut (fun vs H Q E h => ?_) (fun cdv A outer s H vs Q E hr h => ?_)
  · obtain ⟨r, st, en, pl, tm, b0, sv, es, tms, bns, k, T', d, l, kvs, las, rfl, _⟩ := h
    rfl
  · obtain ⟨r, st, en, pl, tm, b0, sv, es, tms, bns, k, T', d, l, kvs, las, rfl, hR, hB, hk, hT, q⟩ := h
    have nd := scCut.nd
    have r1 : Room 1 _ := hr.mono (by decide)
    obtain ⟨⟨dx, h1⟩, h2, h3, h4, h5, h6⟩ := id hR
    obtain ⟨⟨dxt, t1⟩, _⟩ := id hT.at'
    refine ⟨_, pss_cons (ps_set (i := 3) nd rfl (Or.inl rfl) (pe_methF0 Mo TT.cl r1 (pv 2))) <|
      pss_cons (ps_set (i := 4) nd rfl (Or.inl rfl) (pe_tupA (pa_cons (pv 1) (pa_cons (pe_methF Mt T.cl hr (pv 0) (pa_cons (pv 1) pa_nil)) (pa_cons (pe_methF Mb T.cl hr (pv 0) (pa_cons (pv 1) pa_nil)) (pa_cons (pe_ix ix_tup (pv 3) pe_int (fun _ _ => rfl)) (pa_cons (pe_ix ix_tup (pv 3) pe_int (fun _ _ => rfl)) pa_nil))))))) <|
      pss_one (ps_ret (pe_makeF Mi hr T.mgC (pa_cons (pv 4) (pa_cons (pe_methF Mh T.cl r1 (pv 0) (pa_cons (pv 1) pa_nil)) pa_nil)))), ?_⟩
    refine ⟨_, rfl, ex3 T' dxt _ ⟨rfl, t1, T23.flds_no _ _ (by decide +kernel) (by decide +kernel), T', d, l, kvs, las, rfl, hT.at', hT.ok, hT.k64, hT.l64, fun p ps qs H1 s1 hTell hTold => ?_⟩⟩
    obtain ⟨ph, pa, ep, hHe, hAs⟩ := told_two hTell
    refine ⟨_, rfl, _, rfl, ex3 r dx _ ⟨rfl, s1 _ _ h1, rfl, _, rfl, ex9 r st en pl tm _ es tms _ ⟨rfl, hR.same s1, ?_⟩⟩⟩
    refine ⟨_, rfl, ex3 r dx _ ⟨rfl, s1 _ _ h1, rfl, _, rfl, r, st, en, pl, tm, b0, sv, es, tms, bns, k, rfl, hR.same s1, hB.same s1, fun H2 s2 => ?_⟩⟩
    have s12 := s1.trans s2
    refine ⟨_, rfl, ex4 p _ _ _ ⟨rfl, rfl, SqT.of (s2 _ _ ep), at0, _, rfl, ex4 p _ _ _ ⟨rfl, rfl, SqT.of (s2 _ _ ep), at1, (by show 5 ≤ sizeLine; decide), fun sd H3 n3 s3 e3 => ?_⟩⟩⟩
    have s13 := s12.trans s3
    refine ⟨_, rfl, _, rfl, ex3 r dx _ ⟨rfl, s13 _ _ h1, rfl, _, rfl, ex9 r st en pl tm _ es tms k ⟨rfl, hR.same s13, fun t4 H4 s4 e4 => ?_⟩⟩⟩
    intro r9 dx9 nr9 ndx9 nex9
    have nr9' : upd H4 dx9 (.own r9) r9 = none := by rw [upd_ne nex9.symm]; exact nr9
    have s9 : Same H4 (upd (upd H4 dx9 (.own r9)) r9 (.ins C dx9 [])) := (Same.new ndx9).trans (Same.new nr9')
    refine ⟨r9, dx9, sd, t4, _, rfl, upd_same, s9 _ _ e4, fun H6 k6 e6 => ⟨rfl, ?_⟩⟩
    have sm : Same H4 H6 := fun b o h => k6 b o (ne_of_none h nr9) (s9 b o h)
    have s06 := (s13.trans s4).trans sm
    have s26 := (s3.trans s4).trans sm
    refine q r9 sd t4 ph pa ps qs H6 s06 ⟨⟨dx9, e6⟩, ?_, sm _ _ e4, by rw [List.length_drop, List.length_drop, h4], ent_drop k fun i e t he ht => ?_, by rw [List.length_drop]; omega⟩ ((hHe.same s2).same s26) ((hAs.same s2).same s26) hTold
    · rw [termV_at pl tm tms hk] at e3
      exact sm _ _ (s4 _ _ e3)
    · obtain ⟨dd, hd⟩ := h5 i e t he ht
      exact ⟨dd, s06 _ _ hd⟩
abbrev pTabAt : List Str := ["_law_stand_here", "_law_entries_here", "_law_place"]
abbrev nTabAt : List Str := ["_law_stand_here", "_law_entries_here", "_law_place", "_law_table", "_law_term", "_law_deed_here"]
theorem scTabAt : FnScope nTabAt pTabAt (defScope sTabAt) := ⟨rfl, rfl, rfl, by decide +kernel, rfl, by decide +kernel, by decide +kernel⟩
theorem at3' {α : Type} {a b c d : α} {r : List α} : atI (a :: b :: c :: d :: r) 3 = some d := atI_nat (j := 3) rfl
theorem at4' {α : Type} {a b c d e : α} {r : List α} : atI (a :: b :: c :: d :: e :: r) 4 = some e := atI_nat (j := 4) rfl
theorem kd_b : ¬ (("bench" : Str) = "ask") := by decide +kernel
theorem kd_f : ¬ (("first" : Str) = "ask") := by decide +kernel
theorem ok_tabAt {f CT : Addr} {fd : FuncData} (F : Fun K "_law_table_at" "_law_table_at" sTabAt f fd) (TT : T23.Cl K mg CT) (Mi : MkAt P w K mg base CT 1 ["self", "held", "asked"] (T23.spInit K CT)) (Md : MeAt P w K mg base CT 3 "does" ["self", "asker", "number", "work"] (T23.spDoes K CT)) : FnOk P w K mg base CX0 4 f fd pTabAt (spTabAt K CT) := by
  refine F.ok scTabAt (fun vs H Q E h => ?_) (fun cdv A outer s H vs Q E hr h => ?_)
  · obtain ⟨st, en, pl, tm, b, hd, ak, ks, qs, es, k, rfl, _⟩ := h
    rfl
  · obtain ⟨st, en, pl, tm, b, hd, ak, ks, qs, es, k, rfl, hst, hhd, hak, k3, q2, hen, e40, hE, q⟩ := h
    have nd := scTabAt.nd
    have r2 : Room 2 _ := hr.mono (by decide)
    refine ⟨_, pss_cons (ps_set (i := 3) nd rfl (Or.inl rfl) (pe_makeF Mi r2 TT.mgC (pa_cons (pe_ix ix_tup (pv 0) pe_int (fun _ _ => rfl)) (pa_cons (pe_ix ix_tup (pv 0) pe_int (fun _ _ => rfl)) pa_nil)))) <|
      pss_cons (ps_for PassesOwn.never rfl (pi_tup (pe_slice sl_tupU (pv 1) po_none (po_some (pe_op op_sub (pv 2) (pe_ix ix_tup (pv 0) pe_int (fun _ _ => rfl)))))) (pg_tup rfl (pgs_cons (pg_name (i := 4) nd rfl (Or.inl rfl)) (pgs_cons (pg_name (i := 5) nd rfl (Or.inl rfl)) pgs_nil)))
        (pss_one (ps_if (pt_cmpR op_eq (pe_ix ix_tup (pv 5) pe_int (fun _ _ => rfl)) pe_str (nomark _)) (pss_one (ps_expr (pe_methF Md TT.cl hr (pv 3) (pa_cons (pe_ix ix_tup (pv 5) pe_int (fun _ _ => rfl)) (pa_cons (pe_ix ix_tup (pv 5) pe_int (fun _ _ => rfl)) (pa_cons (pe_ix ix_tup (pv 5) pe_int (fun _ _ => rfl)) pa_nil)))))) pss_nil))) <|
      pss_one (ps_ret (pv 3)), ?_⟩
    obtain ⟨oh, hys, eh, oh0, hhl, hhr, _, _⟩ := hhd
    obtain ⟨oa, ays, ea, oa0, hal, har, _, _⟩ := hak
    obtain ⟨kv0, kl, kp⟩ := list_choice (α := Key × V) (P := fun j kv => ∃ (x : Str) (z : Int) (b : Addr), kv = (Sum.inr x, .int z) ∧ hys[j]? = some (.ref b) ∧ H b = some (.tup [.str x, .int z])) ks.length fun i hi => by
      obtain ⟨y, hy⟩ : ∃ y, hys[i]? = some y := ⟨_, List.getElem?_eq_getElem (by omega)⟩
      obtain ⟨p, z, rfl, hp, _⟩ := hhr i ks[i] y (List.getElem?_eq_getElem hi) hy
      exact ⟨_, ks[i], z, p, rfl, hy, hp⟩
    obtain ⟨q0, ql, qp⟩ := list_choice (α := Str × Int × V) (P := fun j kv => ∃ (x : Str) (z : Int) (b : Addr), kv = (x, z, .non) ∧ ays[j]? = some (.ref b) ∧ H b = some (.tup [.str x, .int z, .non])) qs.length fun i hi => by
      obtain ⟨y, hy⟩ : ∃ y, ays[i]? = some y := ⟨_, List.getElem?_eq_getElem (by omega)⟩
      obtain ⟨p, z, rfl, hp, _⟩ := har i qs[i] y (List.getElem?_eq_getElem hi) hy
      exact ⟨_, qs[i], z, p, rfl, hy, hp⟩
    obtain ⟨ok0, okk, okl⟩ := stok_init (kvs := kv0) (qs := q0) (fun kv hkv => by
      obtain ⟨i, hi, e⟩ := List.getElem_of_mem hkv
      obtain ⟨x, z, b, e2, _⟩ := kp i kv (by rw [List.getElem?_eq_getElem hi, e])
      exact ⟨x, z, e2⟩) (fun q hq => by
      obtain ⟨i, hi, e⟩ := List.getElem_of_mem hq
      obtain ⟨x, z, b, e2, _⟩ := qp i q (by rw [List.getElem?_eq_getElem hi, e])
      rw [e2])
    refine ⟨_, rfl, ex4 st _ _ _ ⟨rfl, rfl, SqT.of hst, at3', _, rfl, ex4 st _ _ _ ⟨rfl, rfl, SqT.of hst, at4', ?_⟩⟩⟩
    intro T9 dx9 nr9 ndx9 nex9
    have nr9' : upd H dx9 (.own T9) T9 = none := by rw [upd_ne nex9.symm]; exact nr9
    have s9 : Same H (upd (upd H dx9 (.own T9)) T9 (.ins CT dx9 [])) := (Same.new ndx9).trans (Same.new nr9')
    refine ⟨T9, dx9, hd, ak, oh, hys, ays, kv0, q0, rfl, upd_same, s9 _ _ eh, oh0, by omega, fun j kv hj => ?_, .inl (.inr ⟨oa, s9 _ _ ea⟩), by omega, by omega, fun j kv hj => ?_, fun d l H1 nd1 nl1 hTab hBut => ⟨rfl, ?_⟩⟩
    · obtain ⟨x, z, b, rfl, b1, b2⟩ := kp j kv hj
      exact ⟨b, b1, SqT.of (s9 _ _ b2)⟩
    · obtain ⟨x, z, b, rfl, b1, b2⟩ := qp j kv hj
      exact ⟨b, b1, SqT.of (s9 _ _ b2)⟩
    have s1 : Same H H1 := fun c o e => hBut c o (s9 _ _ e) (ne_of_none e nr9)
    have hd0 : H d = none := s9.none nd1
    have hl0 : H l = none := s9.none nl1
    refine ⟨_, rfl, _, rfl, _, rfl, ex4 st _ _ _ ⟨rfl, rfl, SqT.of (s1 _ _ hst), at0, _, _, rfl, rfl, _, rfl, en, _, rfl, s1 _ _ hen, fun p H2 s2 ep => ?_⟩⟩
    rw [show pl + (k : Int) - pl = (k : Int) by omega, cut_to] at ep
    have s12 := s1.trans s2
    have hne : ∀ {c : Addr} {xs : List V}, H2 c = some (.tup xs) → c ≠ d ∧ c ≠ l := fun {c xs} hc => by
      obtain ⟨_, t2, ⟨lk, t3, _⟩, _⟩ := hTab
      exact ⟨(fun e => by rw [e, s2 _ _ t2] at hc; cases hc), (fun e => by rw [e, s2 _ _ t3] at hc; cases hc)⟩
    have hTab2 : TbOk K CT H2 T9 d l (T23.heldOf kv0) (T23.lasOf q0) := TbOk.same s2 ⟨hTab, ok0, by omega, by omega⟩
    refine ⟨p, rfl, ⟨_, SqT.of ep⟩, for_tup (K := K) (a := p) (xs := (es.take k).map V.ref) (fun i σ Hx => ∃ (w4 w5 : Option V) (kvs : T23.Kvs) (las : T23.Las), σ = [some (V.ref st), some (V.ref en), some (V.int (pl + (k : Int))), some (V.ref T9), w4, w5] ∧ T23.But2 d l H2 Hx ∧ T23.TabAt K CT Hx T9 d l kvs las ∧ T23.StOk kvs las ∧ kvs.length ≤ 3 + i ∧ las.length ≤ 2 + i)
      ⟨none, none, _, _, rfl, fun c o e _ _ => e, hTab2.at', ok0, by omega, by omega⟩ (fun i σ Hx _ ⟨_, _, _, _, _, bt, _⟩ => SqT.of (bt _ _ ep (hne ep).1 (hne ep).2)) ?_ ?_⟩
    · rintro i y σ Hx hy ⟨w4, w5, kvs, las, rfl, bt, hTx, okx, lk, ll⟩
      rw [List.getElem?_map] at hy
      obtain ⟨e, he, rfl⟩ := Option.map_eq_some_iff.mp hy
      have hi : i < 40 := by
        have := (List.getElem?_eq_some_iff.mp he).1
        rw [List.length_take] at this
        omega
      obtain ⟨t, dd, g1, g2, _⟩ := hE e (List.mem_of_mem_take (List.mem_of_getElem? he))
      have up : ∀ {c : Addr} {xs : List V}, H c = some (.tup xs) → Hx c = some (.tup xs) := fun hc => bt _ _ (s12 _ _ hc) (hne (s12 _ _ hc)).1 (hne (s12 _ _ hc)).2
      refine ⟨e, _, rfl, SqT.of (up g1), rfl, _, _, rfl, _, _, rfl, rfl, ?_⟩
      cases g2 with
      | first g =>
        refine ⟨_, rfl, ex4 dd _ _ _ ⟨rfl, rfl, SqT.of (up g), at0, rfl, _, rfl, ?_⟩⟩
        rw [dec_str, decide_eq_false kd_f]
        exact iteF (ex4 _ _ kvs las ⟨rfl, bt, hTx, okx, by omega, by omega⟩)
      | bench g _ =>
        refine ⟨_, rfl, ex4 dd _ _ _ ⟨rfl, rfl, SqT.of (up g), at0, rfl, _, rfl, ?_⟩⟩
        rw [dec_str, decide_eq_false kd_b]
        exact iteF (ex4 _ _ kvs las ⟨rfl, bt, hTx, okx, by omega, by omega⟩)
      | @ask x n kk xs g gx g1' g60 gk gw =>
        obtain ⟨wk, rfl⟩ := wk_of gw
        obtain ⟨⟨dxt, t1⟩, _⟩ := id hTx
        refine ⟨_, rfl, ex4 dd _ _ _ ⟨rfl, rfl, SqT.of (up g), at0, rfl, _, rfl, ?_⟩⟩
        rw [decide_eq_true rfl]
        refine iteT ⟨_, rfl, ex3 T9 dxt _ ⟨rfl, t1, T23.flds_no _ _ (by decide +kernel) (by decide +kernel), _, rfl, ex4 dd _ _ _ ⟨rfl, rfl, SqT.of (up g), at1, _, rfl, ex4 dd _ _ _ ⟨rfl, rfl, SqT.of (up g), at2', _, rfl, ex4 dd _ _ _ ⟨rfl, rfl, SqT.of (up g), at3', ?_⟩⟩⟩⟩⟩
        refine (ex9 T9 d l kk kvs las x n wk ⟨rfl, hTx, by omega, by omega, okx.ik, g1', SqT.of (up gk), fun rr H3 nr er hT3 b3 => ?_⟩)
        obtain ⟨l1, l2⟩ := step_len kvs las x n wk
        exact (ex4 _ _ _ _ ⟨rfl, fun c o e c1 c2 => b3 _ _ (bt _ _ e c1 c2) c1 c2, hT3, okx.step x n wk, by omega, by omega⟩)
    · rintro σ Hx ⟨w4, w5, kvs, las, rfl, bt, hTx, okx, lk, ll⟩
      rw [List.length_map, List.length_take] at lk ll
      refine ⟨_, rfl, q T9 d l kvs las Hx (fun c o e => bt _ _ (s12 _ _ e) (ne_of_none e hd0) (ne_of_none e hl0)) ⟨hTx, okx, by omega, by omega⟩ nr9 hd0 hl0⟩
end
end K23

set_option maxHeartbeats 4000000
namespace K23
open PySem L2
abbrev sSame : Stmt := top 20
abbrev sFill : Stmt := top 21
theorem cut_ints2 (ds : List Int) (lo hi : Option Int) : ∃ ms : List Int, cutV (ds.map V.int) lo hi = ms.map V.int ∧ ms.length ≤ ds.length := by
  refine ⟨(ds.drop (HT.sIx (ds.map V.int).length 0 lo)).take (HT.sIx (ds.map V.int).length (ds.map V.int).length hi - HT.sIx (ds.map V.int).length 0 lo), ?_, ?_⟩
  · unfold cutV
    rw [List.map_take, List.map_drop]
  · rw [List.length_take, List.length_drop]
    omega
/-! rows cut, and what stays -/
theorem getD_cut (tm : Int) (tms : List Int) (k j : Nat) : ((tm :: tms).getD k 0 :: tms.drop k).getD j 0 = (tm :: tms).getD (k + j) 0 := by
  cases j with
  | zero => rfl
  | succ j =>
    rw [List.getD_cons_succ, show k + (j + 1) = (k + j) + 1 by omega, List.getD_cons_succ, List.getD_eq_getElem?_getD, List.getD_eq_getElem?_getD, List.getElem?_drop]
theorem lastT_cut (tm : Int) (tms : List Int) {k : Nat} (h : k ≤ tms.length) : lastT ((tm :: tms).getD k 0) (tms.drop k) = lastT tm tms := by
  unfold lastT
  rw [getD_cut, List.length_drop, show k + (tms.length - k) = tms.length by omega]
theorem termV_cut (pl tm : Int) (tms : List Int) {k : Nat} (h : k ≤ tms.length) (j : Nat) : termV (pl + k) ((tm :: tms).getD k 0) (tms.drop k) (pl + k + j) = termV pl tm tms (pl + k + j) := by
  have e : pl + (k : Int) + (j : Int) = pl + ((k + j : Nat) : Int) := by omega
  by_cases hj : k + j ≤ tms.length
  · rw [termV_at (pl + k) _ (tms.drop k) (k := j) (by rw [List.length_drop]; omega), getD_cut, e, termV_at pl tm tms hj]
  · rw [termV_off (pl + k) _ (tms.drop k) (.inr (by rw [List.length_drop]; omega)), termV_off pl tm tms (.inr (by omega))]
theorem benchOf_app (b0 : Addr) (A B : List (Option Addr)) : benchOf b0 (A ++ B) = benchOf (benchOf b0 A) B := by
  unfold benchOf
  rw [List.reverse_append, List.findSome?_append]
  cases B.reverse.findSome? id <;> rfl
theorem bench_cut (b0 : Addr) (bns : List (Option Addr)) (k j : Nat) : benchOf (benchOf b0 (bns.take k)) ((bns.drop k).take j) = benchOf b0 (bns.take (k + j)) := by
  rw [← benchOf_app, ← List.take_add]
theorem bench_cut' (b0 : Addr) (bns : List (Option Addr)) (k : Nat) : benchOf (benchOf b0 (bns.take k)) (bns.drop k) = benchOf b0 bns := by
  rw [← benchOf_app, List.take_append_drop]
theorem Bns.drop {H : Hp} {es : List Addr} {bns : List (Option Addr)} (k : Nat) (h : Bns H es bns) : Bns H (es.drop k) (bns.drop k) := by
  refine ⟨by rw [List.length_drop, List.length_drop, h.1], fun i e bn h1 h2 => ?_⟩
  rw [List.getElem?_drop] at h1 h2
  exact h.2 _ e bn h1 h2
theorem scal_tt (pl tm : Int) (tms : List Int) (p : Int) : scal (termV pl tm tms p) (termV pl tm tms p) = true := by
  unfold termV
  split
  · rfl
  · split <;> rfl
theorem fill_cut (tms mt : List Int) (k j : Nat) (es ms : List Addr) (hk : k ≤ es.length) : (fillL tms mt (k + j) es ms).drop k = fillL (tms.drop k) mt j (es.drop k) ms := by
  unfold fillL
  rw [List.drop_drop]
  split
  · rfl
  · rw [List.drop_append_of_le_length (by rw [List.length_take]; omega), List.drop_take, show k + j + cp (tms.drop (k + j)) mt - k = j + cp (tms.drop (k + j)) mt by omega]
theorem us2 {r : Addr} {a b : Int} (h : a = b) : [V.ref r, V.int a] = [V.ref r, V.int b] := by rw [h]
theorem Ms.of {H : Hp} {t : Addr} {mt : List Int} (h : EntriesAt H t mt) : ∃ ms : List Addr, Ms H t ms mt := by
  obtain ⟨es, h1, h2, h3⟩ := h
  refine ⟨es, h1, h2, fun i e tm he ht => ?_⟩
  obtain ⟨d, hd, _⟩ := h3 i e tm he ht
  exact ⟨d, hd⟩
/-- a row, and that row cut -/
structure Two (C : Addr) (H : Hp) (r st en : Addr) (pl tm : Int) (b0 : Addr) (sv : List V) (es : List Addr) (tms : List Int) (bns : List (Option Addr)) (k : Nat) (r2 st2 en2 : Addr) (sv2 : List V) : Prop where
  one : RowAt C H r st en pl tm (.ref b0 :: sv) es tms
  bn : Bns H es bns
  bt : BT H b0
  le : k ≤ tms.length
  two : RowAt C H r2 st2 en2 (pl + k) ((tm :: tms).getD k 0) (.ref (benchOf b0 (bns.take k)) :: sv2) (es.drop k) (tms.drop k)
  sm : ∀ v ∈ sv2, smV v = true
  ge : ∀ t ∈ tm :: tms, 0 ≤ t
  few : es.length ≤ 100
theorem Two.same {C : Addr} {H H' : Hp} {r st en : Addr} {pl tm : Int} {b0 : Addr} {sv : List V} {es : List Addr} {tms : List Int} {bns : List (Option Addr)} {k : Nat} {r2 st2 en2 : Addr} {sv2 : List V} (e : Same H H') (h : Two C H r st en pl tm b0 sv es tms bns k r2 st2 en2 sv2) : Two C H' r st en pl tm b0 sv es tms bns k r2 st2 en2 sv2 :=
  ⟨h.one.same e, h.bn.same e, h.bt.same e, h.le, h.two.same e, h.sm, h.ge, h.few⟩
def spSame (C : Addr) : Sp := fun us H Q _ => ∃ (r st en : Addr) (pl tm : Int) (b0 : Addr) (sv : List V) (es : List Addr) (tms : List Int) (bns : List (Option Addr)) (k : Nat) (r2 st2 en2 : Addr) (sv2 : List V), us = [.ref r, .ref r2, .int (pl + k)] ∧ Two C H r st en pl tm b0 sv es tms bns k r2 st2 en2 sv2 ∧ ∀ H', Same H H' → Q (.bl true) H'
def spFill (K : PySem.W.Frag) (C : Addr) : Sp := fun us H Q _ => ∃ (r st en : Addr) (pl tm : Int) (b0 : Addr) (sv : List V) (es : List Addr) (tms : List Int) (bns : List (Option Addr)) (k : Nat) (r2 st2 en2 : Addr) (sv2 : List V) (c : Addr) (ns : List Int), us = [.ref r, .ref r2, .int (pl + k), .ref c] ∧ Two C H r st en pl tm b0 sv es tms bns k r2 st2 en2 sv2 ∧ 0 ≤ pl ∧ SqL K H c (ns.map V.int) ∧ ns.length ≤ 100 ∧ ∀ H', Same H H' → Q (.bl true) H'
section
variable {P : Program} {w : World} {K : PySem.W.Frag} {mg : Str → Option Value} {base : Heap}
abbrev pSame : List Str := ["_law_row", "_law_cut_row", "_law_place"]
abbrev nSame : List Str := ["_law_row", "_law_cut_row", "_law_place", "_law_at", "_law_step", "_law_term"]
theorem scSame : FnScope nSame pSame (defScope sSame) := ⟨rfl, rfl, rfl, by decide +kernel, rfl, by decide +kernel, by decide +kernel⟩
theorem ok_same {f C : Addr} {fd : FuncData} (F : Fun K "_law_same_from" "_law_same_from" sSame f fd) (T : Cl K mg C) (hrange : mg "range" = none) (hmax : mg "max" = none) (Ml : MeAt P w K mg base C 1 "last_place" ["self"] (spLastP C)) (Mx : MeAt P w K mg base C 3 "last_term" ["self"] (spLastT C)) (Mt : MeAt P w K mg base C 2 "term_at" ["self", "place"] (spTermAt C)) (Mb : MeAt P w K mg base C 2 "bench_at" ["self", "place"] (spBenchAt C)) (Me : MeAt P w K mg base C 1 "entry_at" ["self", "place"] (spEntAt C)) (Mi : MeAt P w K mg base C 4 "is_behind" ["self", "place", "term"] (spIsB C)) (Mm : MeAt P w K mg base C 3 "bench" ["self"] (spBenchM C)) :
    FnOk P w K mg base CX0 5 f fd pSame (spSame C) := by
  refine F.ok scSame (fun vs H Q E h => ?_) (fun cdv A outer s H vs Q E hr h => ?_)
  · obtain ⟨r, st, en, pl, tm, b0, sv, es, tms, bns, k, r2, st2, en2, sv2, rfl, _⟩ := h
    rfl
  · obtain ⟨r, st, en, pl, tm, b0, sv, es, tms, bns, k, r2, st2, en2, sv2, rfl, hW, q⟩ := h
    have nd := scSame.nd
    have hu := hu_of hr
    have q1 : Room 1 _ := hr.mono (by decide)
    have q2 : Room 2 _ := hr.mono (by decide)
    have q3 : Room 3 _ := hr.mono (by decide)
    obtain ⟨dx, h1⟩ := hW.one.obj
    obtain ⟨dy, h2⟩ := hW.two.obj
    have hk := hW.le
    have hl := hW.one.len
    refine ⟨_, pss_cons (ps_if (PW.pt (pw_or (pt_cmpR op_ne (pe_methF0 Ml T.cl q1 (pv 1)) (pe_methF0 Ml T.cl q1 (pv 0)) (nomark _)) (pw_or1 (pt_cmpR op_ne (pe_methF0 Mx T.cl q3 (pv 1)) (pe_methF0 Mx T.cl q3 (pv 0)) (nomark _))))) (pss_one (ps_ret pe_bl)) pss_nil) <|
      pss_cons (ps_for PassesOwn.never rfl (pi_rangeA (by rfl) hrange (pa_cons (pv 2) (pa_cons (pe_op op_add (pe_methF0 Ml T.cl q1 (pv 0)) pe_int) pa_nil))) (pg_name (i := 3) nd rfl (Or.inl rfl))
        (pss_cons (ps_if (PW.pt (pw_or (pt_cmpR op_ne (pe_methF Mt T.cl q2 (pv 1) (pa_cons (pv 3) pa_nil)) (pe_methF Mt T.cl q2 (pv 0) (pa_cons (pv 3) pa_nil)) (nomark _)) (pw_or1 (pt_cmpR (op_neSm hu) (pe_methF Mb T.cl q2 (pv 1) (pa_cons (pv 3) pa_nil)) (pe_methF Mb T.cl q2 (pv 0) (pa_cons (pv 3) pa_nil)) (nomark _))))) (pss_one (ps_ret pe_bl)) pss_nil)
        (pss_one (ps_if (PW.pt (pw_and (pt_cmpR op_gt (pv 3) (pv 2) (nomark _)) (pw_and1 (pt_cmpR (op_neSm hu) (pe_methF Me T.cl q1 (pv 1) (pa_cons (pv 3) pa_nil)) (pe_methF Me T.cl q1 (pv 0) (pa_cons (pv 3) pa_nil)) (nomark _))))) (pss_one (ps_ret pe_bl)) pss_nil)))) <|
      pss_cons (ps_for PassesOwn.never rfl (pi_list (pe_lstA (pa_cons pe_int (pa_cons pe_int (pa_cons pe_int pa_nil))))) (pg_name (i := 4) nd rfl (Or.inl rfl))
        (pss_cons (ps_set (i := 5) nd rfl (Or.inl rfl) (pe_callB (call_max2 rfl) (by rfl) hmax bMax (pa_cons pe_int (pa_cons (pe_op op_sub (pe_op op_add (pe_methF0 Mx T.cl q3 (pv 0)) (pv 4)) pe_int) pa_nil))))
        (pss_one (ps_if (pt_cmpR op_ne (pe_methF Mi T.cl hr (pv 1) (pa_cons (pe_op op_add (pe_methF0 Ml T.cl q1 (pv 0)) pe_int) (pa_cons (pv 5) pa_nil))) (pe_methF Mi T.cl hr (pv 0) (pa_cons (pe_op op_add (pe_methF0 Ml T.cl q1 (pv 0)) pe_int) (pa_cons (pv 5) pa_nil))) (nomark _)) (pss_one (ps_ret pe_bl)) pss_nil)))) <|
      pss_one (ps_ret (pe_and (pe_cmpR op_isN (pe_methF Mt T.cl q2 (pv 1) (pa_cons (pe_op op_sub (pv 2) pe_int) pa_nil)) pe_non (nomark _)) (pe_one (pe_cmpR (op_eqSm hu) (pe_methF0 Mm T.cl q3 (pv 1)) (pe_methF0 Mm T.cl q3 (pv 0)) (nomark _))))), ?_⟩
    dsimp only [cxOf, Cx.nox]
    refine tSeq_cut fun K1 hK1 => ?_
    have eP : pl + (k : Int) + ((tms.drop k).length : Int) = pl + (tms.length : Int) := by rw [List.length_drop]; omega
    have eL := lastT_cut tm tms hk
    refine ⟨_, rfl, ex3 r2 dy _ ⟨rfl, h2, rfl, ex8 r2 st2 en2 _ _ _ _ _ ⟨rfl, hW.two, _, rfl, ex3 r dx _ ⟨rfl, h1, rfl, ex8 r st en pl tm _ es tms ⟨rfl, hW.one, rfl, _, rfl, ?_⟩⟩⟩⟩⟩
    rw [eP]
    refine iteNS rfl ?_
    refine ⟨_, rfl, ex3 r2 dy _ ⟨rfl, h2, rfl, ex8 r2 st2 en2 _ _ _ _ _ ⟨rfl, hW.two, _, rfl, ex3 r dx _ ⟨rfl, h1, rfl, ex8 r st en pl tm _ es tms ⟨rfl, hW.one, rfl, _, rfl, ?_⟩⟩⟩⟩⟩
    rw [eL]
    refine iteNS rfl (hK1 _ _ (tSeq_cut fun K2 hK2 => ?_))
    refine ⟨_, rfl, _, rfl, ex3 r dx _ ⟨rfl, h1, rfl, ex8 r st en pl tm _ es tms ⟨rfl, hW.one, _, _, rfl, rfl, ?_⟩⟩⟩
    refine ⟨_, _, rfl, for_range (lo := pl + (k : Int)) (n := (pl + (tms.length : Int) + 1 - (pl + (k : Int))).toNat) (fun i σ Hx => ∃ w3 : Option V, σ = [some (V.ref r), some (V.ref r2), some (V.int (pl + (k : Int))), w3, none, none] ∧ Same H Hx) ⟨none, rfl, Same.refl H⟩ ?_ ?_⟩
    · rintro i σ Hx hi ⟨w3, rfl, sx⟩
      have hx := hW.same sx
      have g1 := sx _ _ h1
      have g2 := sx _ _ h2
      have hi' : k + i ≤ tms.length := by omega
      refine tSeq_cut fun KA hKA => ?_
      refine ⟨_, rfl, ex3 r2 dy _ ⟨rfl, g2, rfl, _, rfl, ex9 r2 st2 en2 _ _ _ _ _ _ ⟨rfl, hx.two, _, rfl, ex3 r dx _ ⟨rfl, g1, rfl, _, rfl, ex9 r st en pl tm _ es tms _ ⟨rfl, hx.one, ?_⟩⟩⟩⟩⟩
      rw [termV_cut pl tm tms hk]
      refine ⟨scal_tt _ _ _ _, _, rfl, iteNS rfl ?_⟩
      refine ⟨_, rfl, ex3 r2 dy _ ⟨rfl, g2, rfl, _, rfl, ex11 r2 st2 en2 _ _ _ _ _ _ _ i ⟨rfl, hx.two, hx.bn.drop k, fun H2 s2 => ?_⟩⟩⟩
      have hy := hx.same s2
      refine ⟨_, rfl, ex3 r dx _ ⟨rfl, s2 _ _ g1, rfl, _, rfl, r, st, en, pl, tm, b0, sv, es, tms, bns, k + i, us2 (by omega), hy.one, hy.bn, fun H3 s3 => ?_⟩⟩
      have hz := hy.same s3
      rw [bench_cut]
      obtain ⟨xs, e1, e2⟩ := hz.bn.bt hz.bt (k + i)
      refine (ex3 _ _ xs ⟨rfl, rfl, SqT.of e1, SqT.of e1, e2, _, rfl, iteF (hKA _ _ ?_)⟩)
      have s03 := (sx.trans s2).trans s3
      refine ⟨_, rfl, _, rfl, _, _, rfl, rfl, _, rfl, ite2 (fun z => ?_) (fun _ => iteF ⟨_, rfl, s03⟩)⟩
      have z := of_decide_eq_true z
      obtain ⟨j, rfl⟩ : ∃ j : Nat, i = j + 1 := ⟨i - 1, by omega⟩
      have hj : k + j < es.length := by omega
      obtain ⟨d, hd⟩ := hz.one.ent (k + j) es[k + j] tms[k + j] (List.getElem?_eq_getElem hj) (List.getElem?_eq_getElem (by omega))
      refine ⟨_, rfl, ex3 r2 dy _ ⟨rfl, s03 _ _ h2, rfl, _, rfl, r2, st2, en2, _, _, _, _, _, j, es[k + j], us2 (by omega), hz.two, by rw [List.getElem?_drop]; exact List.getElem?_eq_getElem hj, ?_⟩⟩
      refine ⟨_, rfl, ex3 r dx _ ⟨rfl, s03 _ _ h1, rfl, _, rfl, r, st, en, pl, tm, _, es, tms, k + j, es[k + j], us2 (by omega), hz.one, List.getElem?_eq_getElem hj, ?_⟩⟩
      refine (ex3 _ _ _ ⟨rfl, rfl, SqT.of hd, SqT.of hd, fun v hv => ?_, _, rfl, iteF ⟨_, rfl, s03⟩⟩)
      simp only [List.mem_cons, List.not_mem_nil, or_false] at hv
      rcases hv with rfl | rfl <;> rfl
    · rintro σ Hx ⟨w3, rfl, sx⟩
      refine hK2 _ _ (tSeq_cut fun K3 hK3 => ?_)
      refine ⟨(by show 3 ≤ sizeLine; decide), fun l0 H1 nl0 s1 e0 => ?_⟩
      refine ⟨l0, rfl, ⟨_, SqL.of e0⟩, for_list (K := K) (a := l0) (xs := [V.int 0, .int 1, .int 2]) (fun i σ Hy => ∃ w4 w5 : Option V, σ = [some (V.ref r), some (V.ref r2), some (V.int (pl + (k : Int))), w3, w4, w5] ∧ Same H1 Hy) ⟨none, none, rfl, Same.refl _⟩ (fun i σ Hy _ ⟨_, _, _, sy⟩ => SqL.of (sy _ _ e0)) ?_ ?_⟩
      · rintro i y σ Hy hy ⟨w4, w5, rfl, sy⟩
        obtain ⟨z, rfl⟩ : ∃ z : Int, y = .int z := by
          have hm := List.mem_of_getElem? hy
          simp only [List.mem_cons, List.not_mem_nil, or_false] at hm
          rcases hm with rfl | rfl | rfl <;> exact ⟨_, rfl⟩
        have s0y := (sx.trans s1).trans sy
        have hy2 := hW.same s0y
        have g1 := s0y _ _ h1
        have g2 := s0y _ _ h2
        refine tSeq_cut fun KB hKB => ?_
        refine ⟨_, rfl, ex3 r dx _ ⟨rfl, g1, rfl, ex8 r st en pl tm _ es tms ⟨rfl, hy2.one, _, rfl, _, _, rfl, rfl, _, _, rfl, rfl, _, _, rfl, hKB _ _ ?_⟩⟩⟩
        refine ⟨_, rfl, ex3 r2 dy _ ⟨rfl, g2, rfl, _, rfl, ex3 r dx _ ⟨rfl, g1, rfl, ex8 r st en pl tm _ es tms ⟨rfl, hy2.one, _, _, rfl, rfl, _, rfl, ex10 r2 st2 en2 _ _ _ _ _ _ _ ⟨rfl, hy2.two, ?_⟩⟩⟩⟩⟩
        refine ⟨_, rfl, ex3 r dx _ ⟨rfl, g1, rfl, _, rfl, ex3 r dx _ ⟨rfl, g1, rfl, ex8 r st en pl tm _ es tms ⟨rfl, hy2.one, _, _, rfl, rfl, _, rfl, ex10 r st en pl tm _ es tms _ _ ⟨rfl, hy2.one, ?_⟩⟩⟩⟩⟩
        rw [eP, eL]
        exact ⟨rfl, _, rfl, iteNS rfl ⟨_, _, rfl, sy⟩⟩
      · rintro σ Hy ⟨w4, w5, rfl, sy⟩
        have s0y := (sx.trans s1).trans sy
        have hy2 := hW.same s0y
        have g1 := s0y _ _ h1
        have g2 := s0y _ _ h2
        refine hK3 _ _ ?_
        refine ⟨_, rfl, ex3 r2 dy _ ⟨rfl, g2, rfl, _, rfl, _, _, rfl, rfl, ex9 r2 st2 en2 _ _ _ _ _ _ ⟨rfl, hy2.two, ?_⟩⟩⟩
        rw [termV_off (pl + k) _ (tms.drop k) (.inl (by omega))]
        refine ⟨rfl, _, rfl, iteT ?_⟩
        refine ⟨_, rfl, ex3 r2 dy _ ⟨rfl, g2, rfl, ex10 r2 st2 en2 _ _ _ _ _ _ _ ⟨rfl, hy2.two, hy2.bn.drop k, fun H2 s2 => ?_⟩⟩⟩
        have hz := hy2.same s2
        refine ⟨_, rfl, ex3 r dx _ ⟨rfl, s2 _ _ g1, rfl, r, st, en, pl, tm, b0, sv, es, tms, bns, rfl, hz.one, hz.bn, fun H3 s3 => ?_⟩⟩
        have hz3 := hz.same s3
        rw [bench_cut']
        obtain ⟨xs, e1, e2⟩ := hz3.bn.bt hz3.bt bns.length
        rw [List.take_length] at e1
        exact (ex3 _ _ xs ⟨rfl, rfl, SqT.of e1, SqT.of e1, e2, q H3 ((s0y.trans s2).trans s3)⟩)
abbrev pFill : List Str := ["_law_row", "_law_cut_row", "_law_place", "_law_cells"]
abbrev nFill : List Str := ["_law_row", "_law_cut_row", "_law_place", "_law_cells", "_law_k", "_law_cell", "_law_bits_here", "_law_before", "_law_there", "_law_more", "_law_one", "_law_other"]
theorem scFill : FnScope nFill pFill (defScope sFill) := ⟨rfl, rfl, rfl, by decide +kernel, rfl, by decide +kernel, by decide +kernel⟩
theorem ok_fill {f C : Addr} {fd : FuncData} (F : Fun K "_law_fillings" "_law_fillings" sFill f fd) (T : Cl K mg C) (henum : mg "enumerate" = none) (Fb : FnAt P w K mg base 1 "_law_bits" ["_law_cell", "_law_k"] spBits) (Ft : FnAt P w K mg base 2 "_law_take" pTake spTake) (Fe : FnAt P w K mg base 8 "_law_entries" ["_law_cells", "_law_term"] (spEntries K)) (Ml : MeAt P w K mg base C 1 "last_place" ["self"] (spLastP C)) (Mt : MeAt P w K mg base C 2 "term_at" ["self", "place"] (spTermAt C)) (Mf : MeAt P w K mg base C 3 "filled" pFilled (spFilled C)) (Mh : MeAt P w K mg base C 1 "behind" ["self", "place"] (spBehind C)) :
    FnOk P w K mg base CX0 9 f fd pFill (spFill K C) := by
  refine F.ok scFill (fun vs H Q E h => ?_) (fun cdv A outer s H vs Q E hr h => ?_)
  · obtain ⟨r, st, en, pl, tm, b0, sv, es, tms, bns, k, r2, st2, en2, sv2, c, ns, rfl, _⟩ := h
    rfl
  · obtain ⟨r, st, en, pl, tm, b0, sv, es, tms, bns, k, r2, st2, en2, sv2, c, ns, rfl, hW, pl0, hC, hns, q⟩ := h
    have nd := scFill.nd
    have hu := hu_of hr
    have q1 : Room 1 _ := hr.mono (by decide)
    have q2 : Room 2 _ := hr.mono (by decide)
    have q3 : Room 3 _ := hr.mono (by decide)
    obtain ⟨dx, h1⟩ := hW.one.obj
    obtain ⟨dy, h2⟩ := hW.two.obj
    have hk := hW.le
    have hl := hW.one.len
    have hfew := hW.few
    refine ⟨_, pss_cons (ps_for PassesOwn.never rfl (pi_enum (by rfl) henum (pa_cons (pv 3) pa_nil)) (pg_tup rfl (pgs_cons (pg_name (i := 4) nd rfl (Or.inl rfl)) (pgs_cons (pg_name (i := 5) nd rfl (Or.inl rfl)) pgs_nil)))
        (pss_cons (ps_set (i := 6) nd rfl (Or.inl rfl) (pe_callF Fb q1 (pa_cons (pv 5) (pa_cons (pe_op op_add pe_int (pv 4)) pa_nil)))) <|
         pss_cons (ps_set (i := 7) nd rfl (Or.inl rfl) (pe_op op_add (pv 2) (pe_callF Ft q2 (pa_cons (pv 6) (pa_cons (pe_op op_add (pe_op op_sub (pe_methF0 Ml T.cl q1 (pv 0)) (pv 2)) pe_int) pa_nil))))) <|
         pss_cons (ps_set (i := 8) nd rfl (Or.inl rfl) (pe_methF Mt T.cl q2 (pv 0) (pa_cons (pv 7) pa_nil))) <|
         pss_cons (ps_join (ps_if (PW.pt (pw_or (pt_cmpR op_isN (pv 8) pe_non (nomark _)) (pw_or1 (pt_cmpR op_eq (pe_callF Ft q2 (pa_cons (pv 6) (pa_cons pe_int pa_nil))) pe_int (nomark _))))) (pss_one (ps_set (i := 8) nd rfl (Or.inl rfl) (pe_callF Ft q2 (pa_cons (pv 6) (pa_cons pe_int pa_nil))))) pss_nil)) <|
         pss_cons (ps_set (i := 9) nd rfl (Or.inl rfl) (pe_callF Fe hr (pa_cons (pe_slice sl_list (pe_lstA (pa_cons (pe_op op_fdiv (pv 5) pe_int) (pa_cons (pe_op op_fdiv (pv 5) pe_int) pa_nil))) po_none (po_some (pe_op op_add pe_int (pe_callF Ft q2 (pa_cons (pv 6) (pa_cons pe_int pa_nil)))))) (pa_cons (pv 8) pa_nil)))) <|
         pss_cons (ps_set (i := 10) nd rfl (Or.inl rfl) (pe_methF Mf T.cl q3 (pv 0) (pa_cons (pv 7) (pa_cons (pv 8) (pa_cons (pv 9) pa_nil))))) <|
         pss_cons (ps_set (i := 11) nd rfl (Or.inl rfl) (pe_methF Mf T.cl q3 (pv 1) (pa_cons (pv 7) (pa_cons (pv 8) (pa_cons (pv 9) pa_nil))))) <|
         pss_cons (ps_if (pt_cmpR op_ne (pe_cmpR op_isN (pv 10) pe_non (nomark _)) (pe_cmpR op_isN (pv 11) pe_non (nomark _)) (nomark _)) (pss_one (ps_ret pe_bl)) pss_nil) <|
         pss_one (ps_if (PW.pt (pw_and (pt_cmpR op_notN (pv 10) pe_non (nomark _)) (pw_and1 (PW.pt (pw_or (pt_cmpR (op_neSm hu) (pe_fld (pv 11) rfl) (pe_fld (pv 1) rfl) (nomark _)) (pw_or1 (pt_cmpR (op_neSm hu) (pe_fld (pv 11) rfl) (pe_methF Mh T.cl q1 (pv 10) (pa_cons (pv 2) pa_nil)) (nomark _)))))))) (pss_one (ps_ret pe_bl)) pss_nil))) <|
      pss_one (ps_ret (pe_or (pe_cmpR op_eq (pv 2) pe_int (nomark _)) (pe_one (pe_cmpR op_notN (pe_methF Mf T.cl q3 (pv 1) (pa_cons (pe_op op_sub (pv 2) pe_int) (pa_cons pe_int (pa_cons (pe_slice sl_tupU (pe_methF Mh T.cl q1 (pv 0) (pa_cons (pv 2) pa_nil)) po_none (po_some pe_int)) pa_nil)))) pe_non (nomark _))))), ?_⟩
    dsimp only [cxOf, Cx.nox]
    refine tSeq_cut fun K0 hK0 => ?_
    refine ⟨_, rfl, c, _, rfl, hC, for_enum (K := K) (a := c) (xs := ns.map V.int) (fun i σ Hx => ∃ (w4 w5 w6 w7 w8 w9 w10 w11 : Option V), σ = [some (V.ref r), some (V.ref r2), some (V.int (pl + (k : Int))), some (V.ref c), w4, w5, w6, w7, w8, w9, w10, w11] ∧ Same H Hx) (ex8 none none none none none none none none ⟨rfl, Same.refl H⟩) (fun i σ Hx ⟨_, _, _, _, _, _, _, _, _, sx⟩ => sx.seq hC) ?_ ?_⟩
    · rintro i y p σ Hx hy np ⟨w4, w5, w6, w7, w8, w9, w10, w11, rfl, sx⟩
      rw [List.getElem?_map] at hy
      obtain ⟨cell, _, rfl⟩ := Option.map_eq_some_iff.mp hy
      have s1 : Same Hx _ := Same.new (o := .tup [.int (i : Int), .int cell]) np
      refine ⟨p, _, rfl, SqT.of upd_same, rfl, _, _, rfl, _, _, rfl, rfl, ?_⟩
      generalize upd Hx p (.tup [.int (i : Int), .int cell]) = H1 at s1 ⊢
      have s01 := sx.trans s1
      refine tSeq_cut fun K1 hK1 => ?_
      refine ⟨_, rfl, _, rfl, _, _, rfl, rfl, cell, _, rfl, fun R H2 nR s2 bt2 => hK1 _ _ (tSeq_cut fun K2 hK2 => ?_)⟩
      have s02 := s01.trans s2
      refine ⟨_, rfl, _, rfl, _, rfl, ex3 r dx _ ⟨rfl, s02 _ _ h1, rfl, ex8 r st en pl tm _ es tms ⟨rfl, (hW.same s02).one, _, rfl, _, _, rfl, rfl, _, _, rfl, rfl, R, _, rfl, bt2, by omega, Int.lt_of_le_of_lt (show pl + (tms.length : Int) - (pl + (k : Int)) + 2 ≤ 200 by omega) (by decide), fun z H3 z0 z1 bt3 k3 => ?_⟩⟩⟩
      have k23 : ButR R H2 H3 := k3
      have s13 : Same H1 H3 := same_of nR s2 k23
      have s03 := s01.trans s13
      obtain ⟨j, rfl⟩ := Int.eq_ofNat_of_zero_le z0
      refine ⟨_, _, rfl, rfl, hK2 _ _ (tSeq_cut fun K3 hK3 => ?_)⟩
      refine ⟨_, rfl, ex3 r dx _ ⟨rfl, s03 _ _ h1, rfl, _, rfl, ex9 r st en pl tm _ es tms _ ⟨rfl, (hW.same s03).one, hK3 _ _ (tSeq_cut fun K4 hK4 => ?_)⟩⟩⟩
      -- there
      refine ⟨fun σ Hy => ∃ th : Int, 0 ≤ th ∧ σ = [some (V.ref r), some (V.ref r2), some (V.int (pl + (k : Int))), some (V.ref c), some (V.int (i : Int)), some (V.int cell), some (V.ref R), some (V.int (pl + (k : Int) + (j : Int))), some (V.int th), w9, w10, w11] ∧ Bts Hy R ∧ ButR R H2 Hy, ?_, ?_⟩
      · refine ⟨_, rfl, rfl, _, rfl, ite2 (fun z => iteT ?_) (fun z => ?_)⟩
        · refine ⟨_, rfl, R, 5, rfl, bt3, by decide, by decide, fun t H4 t0 t1 bt4 k4 => ?_⟩
          exact ⟨t, t0, rfl, bt4, k23.trans k4⟩
        · refine ⟨_, rfl, R, 4, rfl, bt3, by decide, by decide, fun t H4 t0 t1 bt4 k4 => ?_⟩
          refine ⟨rfl, _, rfl, ite2 (fun _ => ?_) (fun _ => ?_)⟩
          · refine ⟨_, rfl, R, 5, rfl, bt4, by decide, by decide, fun t H5 t0 t1 bt5 k5 => ?_⟩
            exact ⟨t, t0, rfl, bt5, (k23.trans k4).trans k5⟩
          · have z : ¬ termV pl tm tms (pl + (k : Int) + (j : Int)) = .non := fun e => z (decide_eq_true e)
            have hj : k + j ≤ tms.length := Classical.byContradiction fun hn => z (termV_off pl tm tms (.inr (by omega)))
            have e := termV_at pl tm tms hj
            rw [show pl + ((k + j : Nat) : Int) = pl + (k : Int) + (j : Int) by omega] at e
            rw [e]
            refine ⟨_, hW.ge _ ?_, rfl, bt4, k23.trans k4⟩
            rw [List.getD_eq_getElem?_getD, List.getElem?_eq_getElem (by rw [List.length_cons]; omega)]
            exact List.getElem_mem _
      rintro σ Hy ⟨th, th0, rfl, bty, ky⟩
      refine hK4 _ _ (tSeq_cut fun K5 hK5 => ?_)
      have s1y : Same H1 Hy := same_of nR s2 ky
      have s0y := s01.trans s1y
      refine ⟨_, rfl, _, _, rfl, rfl, ⟨by decide, by decide⟩, _, rfl, _, _, rfl, rfl, ⟨by decide, by decide⟩, (by show 2 ≤ sizeLine; decide), fun l4 H4 n4 s4 e4 => ?_⟩
      have l4R : l4 ≠ R := bty.ne n4
      refine ⟨_, rfl, R, 2, rfl, bty.same s4, by decide, by decide, fun t H5 t0 t1 bt5 k5 => ?_⟩
      have s15 : Same H1 H5 := same_of nR s2 ((ky.trans (ButR.of s4)).trans k5)
      have s05 := s01.trans s15
      refine ⟨_, _, rfl, rfl, _, rfl, l4, _, rfl, SqL.of (k5 _ _ l4R e4), fun p6 np6 => ?_⟩
      obtain ⟨ls, els, hls⟩ := cut_ints2 [cell / 7, cell / 11] none (some (1 + t))
      rw [show cutV [V.int (cell / 7), V.int (cell / 11)] none (some (1 + t)) = ls.map V.int from els]
      have s6 : Same H5 _ := Same.new (o := .lst (ls.map V.int)) np6
      have e6 : upd H5 p6 (.lst (ls.map V.int)) p6 = _ := upd_same
      generalize upd H5 p6 (.lst (ls.map V.int)) = H6 at s6 e6 ⊢
      have hls2 : ls.length ≤ 2 := hls
      refine ⟨_, rfl, p6, ls, th, rfl, SqL.of e6, by omega, th0, fun m mt H7 nm hm hml s7 => ?_⟩
      obtain ⟨ms, hM⟩ := Ms.of hm
      have s07 := (s05.trans s6).trans s7
      have hW7 := hW.same s07
      have hml2 := hM.2.1
      refine hK5 _ _ (tSeq_cut fun K6 hK6 => ?_)
      refine ⟨_, rfl, ex3 r dx _ ⟨rfl, s07 _ _ h1, rfl, _, rfl, _, rfl, _, rfl, r, st, en, m, _, th, pl, tm, _, es, tms, k + j, 0, ms, mt, rfl, hW7.one, hM, by omega, .inl rfl, by omega, fun _ hne => hK6 _ _ (tSeq_cut fun K7 hK7 => ?_), fun heq r' en' H8 s8 hR8 => hK6 _ _ (tSeq_cut fun K7 hK7 => ?_)⟩⟩
      · refine ⟨_, rfl, ex3 r2 dy _ ⟨rfl, s07 _ _ h2, rfl, _, rfl, _, rfl, _, rfl, r2, st2, en2, m, _, th, _, _, _, _, _, j, 0, ms, mt, rfl, hW7.two, hM, by omega, .inl rfl, by rw [List.length_drop]; omega, fun _ hne2 => ?_, fun heq2 => ?_⟩⟩
        · refine hK7 _ _ (tSeq_cut fun K8 hK8 => ?_)
          refine ⟨_, rfl, rfl, _, rfl, rfl, rfl, _, rfl, iteNS rfl (hK8 _ _ ?_)⟩
          exact ⟨_, rfl, rfl, _, rfl, iteF (iteF (ex8 _ _ _ _ _ _ _ _ ⟨rfl, s07⟩))⟩
        · exact absurd ((termV_cut pl tm tms hk j) ▸ heq2 (by omega)) hne
      · have s08 := s07.trans s8
        have hW8 := hW.same s08
        have heq := heq (by omega)
        refine ⟨_, rfl, ex3 r2 dy _ ⟨rfl, s08 _ _ h2, rfl, _, rfl, _, rfl, _, rfl, r2, st2, en2, m, _, th, _, _, _, _, _, j, 0, ms, mt, rfl, hW8.two, hM.same s8, by omega, .inl rfl, by rw [List.length_drop]; omega, fun _ hne2 => ?_, fun heq2 r8 en8 H9 s9 hR9 => ?_⟩⟩
        · rw [termV_cut pl tm tms hk j] at hne2
          exact absurd heq hne2
        · have s09 := s08.trans s9
          have hW9 := hW.same s09
          refine hK7 _ _ (tSeq_cut fun K8 hK8 => ?_)
          refine ⟨_, rfl, rfl, _, rfl, rfl, rfl, _, rfl, iteNS rfl (hK8 _ _ ?_)⟩
          have hR8' := hR8.same s9
          rw [List.drop_zero, List.drop_zero] at hR9 hR8'
          obtain ⟨d8, o8⟩ := hR8'.obj
          obtain ⟨d9, o9⟩ := hR9.obj
          obtain ⟨d2, o2⟩ := hW9.two.obj
          refine ⟨_, rfl, rfl, _, rfl, iteT ?_⟩
          refine ⟨_, rfl, r8, C, d9, _, _, rfl, o9, T.cl, T.nS, flds_s _ _, _, rfl, r2, C, d2, _, _, rfl, o2, T.cl, T.nS, flds_s _ _, ?_⟩
          refine (ex3 st2 st2 _ ⟨rfl, rfl, SqT.of hW9.two.st, SqT.of hW9.two.st, fun v hv => ?_, _, rfl, iteF ?_⟩)
          · simp only [List.mem_cons] at hv
            rcases hv with rfl | rfl | rfl | hv
            · rfl
            · rfl
            · rfl
            · exact hW.sm v hv
          refine ⟨_, rfl, r8, C, d9, _, _, rfl, o9, T.cl, T.nE, flds_e _ _, _, rfl, r', d8, _, rfl, o8, rfl, _, rfl, ex9 r' st en' pl tm _ _ _ k ⟨rfl, hR8', fun t9 Ha sa ea => ?_⟩⟩
          have hR9a := hR9.same sa
          rw [fill_cut tms mt k j es ms (by omega)] at ea
          refine ⟨en8, t9, _, rfl, rfl, SqT.of hR9a.en, SqT.of ea, fun v hv => ?_, _, rfl, iteF (ex8 _ _ _ _ _ _ _ _ ⟨rfl, s09.trans sa⟩)⟩
          obtain ⟨a, _, rfl⟩ := List.mem_map.mp hv
          rfl
    · rintro σ Hx ⟨w4, w5, w6, w7, w8, w9, w10, w11, rfl, sx⟩
      have hx := hW.same sx
      refine hK0 _ _ ?_
      refine ⟨_, rfl, rfl, _, rfl, ite2 (fun _ => q Hx sx) (fun z => ?_)⟩
      have z : ¬ pl + (k : Int) = 0 := fun e => z (decide_eq_true (by rw [e]))
      refine ⟨_, rfl, ex3 r2 dy _ ⟨rfl, sx _ _ h2, rfl, _, rfl, _, _, rfl, rfl, _, rfl, ex3 r dx _ ⟨rfl, sx _ _ h1, rfl, _, rfl, ex9 r st en pl tm _ es tms k ⟨rfl, hx.one, fun t1 H1 s1 e1 => ?_⟩⟩⟩⟩
      refine ⟨_, rfl, t1, _, rfl, e1, fun t2 H2 s2 e2 => ?_⟩
      rw [show (0 : Int) = ((0 : Nat) : Int) from rfl, cut_to, List.take_zero] at e2
      have s02 := (sx.trans s1).trans s2
      have hx2 := hW.same s02
      refine ⟨r2, st2, en2, t2, _, 1, _, _, _, _, _, 0, 1, [], [], rfl, hx2.two, ⟨e2, rfl, fun i e t he => by simp at he⟩, by omega, .inr rfl, by rw [List.length_drop, List.length_nil]; omega, fun hp => absurd hp (by omega), fun _ r' en' H3 s3 hR3 => ?_⟩
      exact ⟨rfl, q H3 (s02.trans s3)⟩
end
end K23

set_option maxHeartbeats 4000000
namespace K23
open PySem L2
abbrev sLaw : Stmt := top 22
def spLaw (K : PySem.W.Frag) : Sp := fun vs H Q _ => ∃ (a : Addr) (ns : List Int), vs = [.ref a] ∧ SqL K H a (ns.map V.int) ∧ ns.length ≤ 63 ∧ ∀ H', Q (.bl true) H'
structure IsC (K : PySem.W.Frag) (C : Addr) : Prop where
  ha : PySem.W.findIn K (.ref C) "__class__" = some (some (.builtin "object.__class__"))
  hn : PySem.W.specialIn K (.builtin "object.__class__") "__get__" = some (some (.builtin "getset_descriptor.__get__"))
  htk : PySem.W.takesIn K (.builtin "object.__class__") = some true
  hm : PySem.W.mroIn K C (.type "object") = some true
  one : PySem.W.kitOne K (.ref C) (.ref C) = some true
theorem bIsi : bootBuiltins "isinstance" = some (.builtin "isinstance") := by decide +kernel
theorem bSort : bootBuiltins "sorted" = some (.builtin "sorted") := by decide +kernel
theorem BenchAt.bt {H : Hp} {b : Addr} {vs cs ls : List Str} (h : BenchAt H b vs cs ls) : BT H b := by
  obtain ⟨⟨v, c, l, h1, _⟩, _⟩ := h
  refine ⟨_, h1, fun x hx => ?_⟩
  simp only [List.mem_cons, List.not_mem_nil, or_false] at hx
  rcases hx with rfl | rfl | rfl <;> rfl
theorem EntryAt.bn {H : Hp} {e : Addr} {tm : Int} (h : EntryAt H e tm) : ∃ bn, BnAt H e bn := by
  obtain ⟨d, h1, h2, _⟩ := h
  cases h2 with
  | first h => exact ⟨none, tm, d, h1, .inr ⟨rfl, _, _, h, by decide +kernel⟩⟩
  | bench h hb => exact ⟨some _, tm, d, h1, .inl ⟨_, rfl, h, hb.bt⟩⟩
  | ask h => exact ⟨none, tm, d, h1, .inr ⟨rfl, _, _, h, by decide +kernel⟩⟩
theorem sm_refs (es : List Addr) : ∀ v ∈ es.map V.ref, smV v = true := fun v hv => by
  obtain ⟨e, _, rfl⟩ := List.mem_map.mp hv
  rfl
theorem call_len_seqC {X : Cx} {scope : Scope} {cl : List (Str × Addr)} {N2 ys : List Str} {C : Addr} {s : Shared} {H : Hp} {fp : List Addr} : CallR (cxC X scope cl N2 ys C s H fp) (.builtin "len") (fun xs H Q => ∃ p ys, xs = [.ref p] ∧ (SqL X.K H p ys ∨ SqT X.K H p ys) ∧ Q (.int ys.length) H) := call_len_seq
/-- numbers drawn one after another -/
theorem lcTk {n : Nat} {k : Nat} {σ : St} {H1 : Hp} {te : TE} {Q : VK} {R : Addr} (Rel : V → Prop) (hσ : σ.length = k) (bt : Bts H1 R) (hn : n ≤ 100)
    (turn : ∀ (i : Nat) (H' : Hp) (post : VK), Bts H' R → ButR R H1 H' → (∀ y H'', Bts H'' R → ButR R H' H'' → Rel y → post y H'') → te (σ ++ [some (.int (0 + (i : Int)))]) H' post)
    (fin : ∀ (l : Addr) (ys : List V) (H' : Hp), H1 l = none → H' l = some (.lst ys) → ys.length = n → (∀ y ∈ ys, Rel y) → Bts H' R → ButR R H1 H' → Q (.ref l) H') : LCT 1 (gName k) tYes te σ Q (Itr 0 n) H1 := by
  refine lcJ (n := n) (fun i => .int (0 + i)) (fun l i ys H' => H1 l = none ∧ Bts H' R ∧ ButR R H1 H' ∧ H' l = some (.lst ys) ∧ ys.length = i ∧ ∀ y ∈ ys, Rel y) hσ ?_ ?_ ?_ ?_ ?_ ?_
  · rintro D i ys H hi _
    exact hi
  · rintro D i ys H x H' hi _ ⟨e, y⟩
    exact ⟨e, y⟩
  · rintro D ys H _
    exact Nat.le_refl _
  · intro l hl
    exact ⟨hl, bt.same (.new hl), ButR.of (.new hl), upd_same, rfl, fun y hy => by cases hy⟩
  · rintro l i ys H' post hi ⟨hl0, bt', b', hl, hyl, hr⟩ hp
    refine turn i H' post bt' b' fun y H'' bt'' b'' hrel => ?_
    have lR : l ≠ R := bt.ne hl0
    have hl2 := b'' _ _ lR hl
    refine hp y H'' hl2 (small1000 (by omega)) ⟨hl0, ?_, ?_, upd_same, by rw [List.length_append, hyl]; rfl, fun z hz => ?_⟩
    · obtain ⟨u, v, e1, e2⟩ := bt''
      exact ⟨u, v, by rw [upd_ne lR.symm]; exact e1, e2⟩
    · exact fun c o hc e => by rw [upd_ne (ne_of_none e hl0)]; exact (b'.trans b'') c o hc e
    · rcases List.mem_append.mp hz with hz | hz
      · exact hr z hz
      · rw [List.mem_singleton.mp hz]
        exact hrel
  · rintro l ys H' ⟨h1, h2, h3, h4, h5, h6⟩
    exact fin l ys H' h1 h4 h5 h6 h2 h3
theorem two_places {ys : List V} {pl : Int} {m : Nat} (hl : ys.length = 2) (h : ∀ y ∈ ys, ∃ z : Nat, y = .int (pl + (z : Int)) ∧ z ≤ m) : ∃ ns : List Int, ys = ns.map V.int ∧ ns.length = 2 ∧ ∀ n ∈ ns, ∃ z : Nat, n = pl + (z : Int) ∧ z ≤ m := by
  match ys, hl with
  | [x, y], _ =>
    obtain ⟨z, rfl, hz⟩ := h x (by simp)
    obtain ⟨u, rfl, hu⟩ := h y (by simp)
    refine ⟨[pl + (z : Int), pl + (u : Int)], rfl, rfl, fun n hn => ?_⟩
    simp only [List.mem_cons, List.not_mem_nil, or_false] at hn
    rcases hn with rfl | rfl
    · exact ⟨z, rfl, hz⟩
    · exact ⟨u, rfl, hu⟩
theorem sorted_two {zs ns : List Int} {pl : Int} {m : Nat} (hp : zs.Perm ns) (hs : zs.Pairwise (· ≤ ·)) (hl : ns.length = 2) (h : ∀ n ∈ ns, ∃ z : Nat, n = pl + (z : Int) ∧ z ≤ m) : ∃ i j : Nat, zs = [pl + (i : Int), pl + (j : Int)] ∧ i ≤ j ∧ j ≤ m := by
  have hz : zs.length = 2 := by rw [hp.length_eq, hl]
  match zs, hz, hp, hs with
  | [x, y], _, hp, hs =>
    obtain ⟨i, rfl, hi⟩ := h x (hp.mem_iff.mp (by simp))
    obtain ⟨j, rfl, hj⟩ := h y (hp.mem_iff.mp (by simp))
    have := (List.pairwise_cons.mp hs).1 _ (List.mem_singleton.mpr rfl)
    exact ⟨i, j, rfl, by omega, hj⟩
theorem us3 {r t : Addr} {a b : Int} (h : a = b) : [V.ref r, V.int a, V.ref t] = [V.ref r, V.int b, V.ref t] := by rw [h]
theorem alks5 {K : PySem.W.Frag} {H : Hp} {a b : Addr} {p p' t t' : Int} {bn bn' c d c' d' : Addr} (h1 : H a = some (.tup [.int p, .int t, .ref bn, .ref c, .ref d])) (h2 : H b = some (.tup [.int p', .int t', .ref bn', .ref c', .ref d'])) (ep : p = p') (et : t = t') (eb : bn = bn') (hc : Alk K 2 H (.ref c) (.ref c')) (hd : Alk K 2 H (.ref d) (.ref d')) : Alks K H a b := by
  subst ep et eb
  refine ⟨2, _, _, by decide, SqT.of h1, SqT.of h2, rfl, fun i x y hx hy => ?_⟩
  match i, hx, hy with
  | 0, hx, hy => cases hx; cases hy; exact Alk.sm rfl
  | 1, hx, hy => cases hx; cases hy; exact Alk.sm rfl
  | 2, hx, hy => cases hx; cases hy; exact Alk.sm rfl
  | 3, hx, hy => cases hx; cases hy; exact hc
  | 4, hx, hy => cases hx; cases hy; exact hd
  | n + 5, hx, hy => simp at hx
theorem alks2 {K : PySem.W.Frag} {H : Hp} {a b c d c' d' : Addr} (h1 : H a = some (.tup [.ref c, .ref d])) (h2 : H b = some (.tup [.ref c', .ref d'])) (hc : Alk K 2 H (.ref c) (.ref c')) (hd : Alk K 2 H (.ref d) (.ref d')) : Alks K H a b := by
  refine ⟨2, _, _, by decide, SqT.of h1, SqT.of h2, rfl, fun i x y hx hy => ?_⟩
  match i, hx, hy with
  | 0, hx, hy => cases hx; cases hy; exact hc
  | 1, hx, hy => cases hx; cases hy; exact hd
  | n + 2, hx, hy => simp at hx
section
variable {P : Program} {w : World} {K : PySem.W.Frag} {mg : Str → Option Value} {base : Heap}
abbrev nLaw : List Str := ["_law_script", "_law_stand_here", "_law_entries_here", "_law_row", "_law_bits_here", "_law_places", "_law_table", "_law_held", "_law_asked", "_law_found", "_law_due", "_law_further", "_law_once", "_law_twice"]
theorem scLaw : FnScope nLaw ["_law_script"] (defScope sLaw) := ⟨rfl, rfl, rfl, by decide +kernel, rfl, by decide +kernel, by decide +kernel⟩
theorem ndLaw : (nLaw ++ (["_law_k"] : List Str)).Nodup := by decide +kernel
theorem ok_law {f C CT : Addr} {fd : FuncData} (F : Fun K "law" "law" sLaw f fd) (T : Cl K mg C) (I : IsC K C) (TT : T23.Cl K mg CT) (hisi : mg "isinstance" = none) (hlen : mg "len" = none) (hrange : mg "range" = none) (hsorted : mg "sorted" = none) (Fc : FnAt P w K mg base 1 "_law_cell_at" ["_law_script", "_law_k"] (spCell K)) (Fs : FnAt P w K mg base 6 "_law_stand" ["_law_cell"] spStand) (Fe : FnAt P w K mg base 8 "_law_entries" ["_law_cells", "_law_term"] (spEntries K))
    (Fb : FnAt P w K mg base 1 "_law_bits" ["_law_cell", "_law_k"] spBits) (Ft : FnAt P w K mg base 2 "_law_take" pTake spTake) (Fa : FnAt P w K mg base 4 "_law_table_at" pTabAt (spTabAt K CT)) (Fm : FnAt P w K mg base 5 "_law_same_from" pSame (spSame C)) (Ff : FnAt P w K mg base 9 "_law_fillings" pFill (spFill K C))
    (Mi : MkAt P w K mg base C 1 ["self", "stand", "entries"] (spInit C)) (Mo : MeAt P w K mg base CT 1 "told" ["self"] (T23.spTold K CT)) (Mc : MeAt P w K mg base C 3 "cut" ["self", "place", "table"] (spCut K C CT)) (Mt : MeAt P w K mg base C 2 "term_at" ["self", "place"] (spTermAt C)) (Mb : MeAt P w K mg base C 2 "bench_at" ["self", "place"] (spBenchAt C)) : FnOk P w K mg base CX0 10 f fd ["_law_script"] (spLaw K) := by
  refine F.ok scLaw (fun us H Q E h => ?_) (fun cdv A outer s H us Q E hr h => ?_)
  · obtain ⟨a, ns, rfl, _⟩ := h
    rfl
  · obtain ⟨a, ns, rfl, hS, hl63, q⟩ := h
    have hu := hu_of hr
    have hu64 := hr.units
    have nd := scLaw.nd
    have hs16 : sizeLine = 16777216 := sizeLine_eq
    have r1 : Room 1 _ := hr.mono (by decide)
    have r2 : Room 2 _ := hr.mono (by decide)
    have r3 : Room 3 _ := hr.mono (by decide)
    have r4 : Room 4 _ := hr.mono (by decide)
    have r5 : Room 5 _ := hr.mono (by decide)
    have r6 : Room 6 _ := hr.mono (by decide)
    have r8 : Room 8 _ := hr.mono (by decide)
    refine ⟨_, pss_cons (ps_set (i := 1) nd rfl (Or.inr rfl) (pe_callF Fs r6 (pa_cons (pe_callF Fc r1 (pa_cons (pv 0) (pa_cons pe_int pa_nil))) pa_nil))) <|
      pss_cons (ps_set (i := 2) nd rfl (Or.inr rfl) (pe_callF Fe r8 (pa_cons (pe_slice sl_list (pv 0) (po_some pe_int) (po_some pe_int)) (pa_cons (pe_ix ix_tup (pv 1) pe_int (fun _ _ => rfl)) pa_nil)))) <|
      pss_cons (ps_set (i := 3) nd rfl (Or.inl rfl) (pe_makeF Mi r2 T.mgC (pa_cons (pv 1) (pa_cons (pv 2) pa_nil)))) <|
      pss_cons (ps_set (i := 4) nd rfl (Or.inr rfl) (pe_callF Fb r1 (pa_cons (pe_callF Fc r1 (pa_cons (pv 0) (pa_cons pe_int pa_nil))) (pa_cons pe_int pa_nil)))) <|
      pss_cons (ps_set (i := 5) nd rfl (Or.inl rfl) (pe_callB call_sortI (by rfl) hsorted bSort (pa_cons (pe_lc nLaw nLaw ["_law_k"] (defScope sLaw) rfl rfl rfl (by decide +kernel) rfl rfl (by decide +kernel) (by decide +kernel) (by decide +kernel) (by decide +kernel)
          (pi_range1 (by rfl) hrange (pa_cons pe_int pa_nil)) (fun _ _ _ _ _ => pg_name (i := 14) ndLaw rfl (Or.inl rfl)) (fun _ _ _ _ _ => pts_nil)
          (fun _ _ _ _ _ => pe_op op_add (pe_ix T23.ix_tupC (pv 1) pe_int (fun _ _ => rfl)) (pe_callF (X := cxC _ _ _ _ _ _ _ _ _) Ft r2 (pa_cons (pv 4) (pa_cons (pe_op op_add (pe_callB call_len_seqC (by rfl) hlen PySem.boot_len (pa_cons (pv 2) pa_nil)) pe_int) pa_nil))))) pa_nil))) <|
      pss_cons (ps_set (i := 6) nd rfl (Or.inl rfl) (pe_callF Fa r4 (pa_cons (pv 1) (pa_cons (pv 2) (pa_cons (pe_ix ix_list (pv 5) pe_int (fun _ _ => rfl)) pa_nil))))) <|
      pss_cons (ps_asg (pe_methF0 Mo TT.cl r1 (pv 6)) (pg_tup rfl (pgs_cons (pg_name (i := 7) nd rfl (Or.inl rfl)) (pgs_cons (pg_name (i := 8) nd rfl (Or.inl rfl)) pgs_nil)))) <|
      pss_cons (ps_set (i := 9) nd rfl (Or.inl rfl) (pe_methF Mc T.cl r3 (pv 3) (pa_cons (pe_ix ix_list (pv 5) pe_int (fun _ _ => rfl)) (pa_cons (pv 6) pa_nil)))) <|
      pss_cons (ps_set (i := 10) nd rfl (Or.inl rfl) (pe_tupA (pa_cons (pe_ix ix_list (pv 5) pe_int (fun _ _ => rfl)) (pa_cons (pe_methF Mt T.cl r2 (pv 3) (pa_cons (pe_ix ix_list (pv 5) pe_int (fun _ _ => rfl)) pa_nil)) (pa_cons (pe_methF Mb T.cl r2 (pv 3) (pa_cons (pe_ix ix_list (pv 5) pe_int (fun _ _ => rfl)) pa_nil)) (pa_cons (pv 7) (pa_cons (pv 8) pa_nil))))))) <|
      pss_cons (ps_if (PW.pt (pw_or (pt_not (pt_val (pe_callB call_isC (by rfl) hisi bIsi (pa_cons (pv 9) (pa_cons (pe_glob (v := .ref C) (by rfl) T.mgC rfl) pa_nil))))) <| pw_or (pt_cmpR (op_neAk hu64) (pe_fld (pv 9) rfl) (pv 10) (nomark _)) <| pw_or1 (pt_cmpR (op_neSm hu) (pe_fld (pv 9) rfl) (pe_slice sl_tupU (pv 2) (po_some (pe_op op_sub (pe_ix ix_list (pv 5) pe_int (fun _ _ => rfl)) (pe_ix ix_tup (pv 1) pe_int (fun _ _ => rfl)))) po_none) (nomark _)))) (pss_one (ps_ret pe_bl)) pss_nil) <|
      pss_cons (ps_if (PW.pt (pw_or (pt_not (pt_val (pe_callF Fm r5 (pa_cons (pv 3) (pa_cons (pv 9) (pa_cons (pe_ix ix_list (pv 5) pe_int (fun _ _ => rfl)) pa_nil)))))) <| pw_or1 (pt_not (pt_val (pe_callF Ff hr (pa_cons (pv 3) (pa_cons (pv 9) (pa_cons (pe_ix ix_list (pv 5) pe_int (fun _ _ => rfl)) (pa_cons (pe_op op_catA (pe_lstA (pa_cons pe_int pa_nil)) (pe_slice sl_list (pv 0) (po_some pe_int) (po_some pe_int))) pa_nil))))))))) (pss_one (ps_ret pe_bl)) pss_nil) <|
      pss_cons (ps_set (i := 11) nd rfl (Or.inl rfl) (pe_callF Fa r4 (pa_cons (pv 1) (pa_cons (pv 2) (pa_cons (pe_ix ix_list (pv 5) pe_int (fun _ _ => rfl)) pa_nil))))) <|
      pss_cons (ps_set (i := 12) nd rfl (Or.inl rfl) (pe_methF Mc T.cl r3 (pv 3) (pa_cons (pe_ix ix_list (pv 5) pe_int (fun _ _ => rfl)) (pa_cons (pv 11) pa_nil)))) <|
      pss_cons (ps_set (i := 13) nd rfl (Or.inl rfl) (pe_methF Mc T.cl r3 (pv 9) (pa_cons (pe_ix ix_list (pv 5) pe_int (fun _ _ => rfl)) (pa_cons (pv 11) pa_nil)))) <|
      pss_cons (ps_if (PW.pt (pw_or (pt_cmpR (op_neAk hu64) (pe_fld (pv 12) rfl) (pe_fld (pv 13) rfl) (nomark _)) <| pw_or (pt_cmpR (op_neSm hu) (pe_fld (pv 12) rfl) (pe_fld (pv 13) rfl) (nomark _)) <| pw_or1 (pt_cmpR (op_neAk hu64) (pe_methF0 Mo TT.cl r1 (pv 6)) (pe_tupA (pa_cons (pv 7) (pa_cons (pv 8) pa_nil))) (nomark _)))) (pss_one (ps_ret pe_bl)) pss_nil) <|
      pss_one (ps_ret (pe_and (pe_cmpR (op_eqSm hu) (pe_fld (pv 3) rfl) (pv 1) (nomark _)) (pe_one (pe_cmpR (op_eqSm hu) (pe_fld (pv 3) rfl) (pv 2) (nomark _))))), ?_⟩
    refine tSeq_cut fun K1 hK1 => ?_
    refine ⟨_, rfl, a, ns, 0, rfl, hS, by decide, fun z => ⟨z, rfl, fun st pl tm H1 nst hst s1 => ?_⟩⟩
    refine hK1 _ _ ?_
    refine tSeq_cut fun K2 hK2 => ?_
    refine ⟨_, rfl, _, rfl, _, rfl, a, _, rfl, s1.seq hS, fun l hl2 => ?_⟩
    obtain ⟨ls, em, hml⟩ := cut_ints2 ns (some 3) (some 33)
    rw [em]
    have hls : ls.length ≤ 30 := by
      have e := congrArg List.length em
      rw [List.length_map] at e
      rw [← e]
      unfold cutV
      rw [List.length_take, show HT.sIx (ns.map V.int).length 0 (some 3) = min 3 (ns.map V.int).length from HT.sIx_nat _ _ 3, show HT.sIx (ns.map V.int).length (ns.map V.int).length (some 33) = min 33 (ns.map V.int).length from HT.sIx_nat _ _ 33, List.length_map]
      omega
    have s2 := Same.new (o := .lst (ls.map V.int)) hl2
    have e2 : upd H1 l (.lst (ls.map V.int)) l = some (.lst (ls.map V.int)) := upd_same
    generalize upd H1 l (.lst (ls.map V.int)) = H2 at s2 e2 ⊢
    have hst2 := hst
    obtain ⟨⟨b0, hd, ak, vs0, cs0, ls0, ks, qs, est, hbn, hhd, hak, _, hk3, hq2⟩, pl0, tm0, _, _⟩ := hst2
    refine ⟨_, rfl, ex4 st _ _ _ ⟨rfl, rfl, SqT.of (s2 _ _ est), at1, l, ls, tm, rfl, SqL.of e2, by omega, tm0, fun en tms H3 nen hen hml3 s3 => ?_⟩⟩
    refine hK2 _ _ ?_
    refine tSeq_cut fun K3 hK3 => ?_
    have s13 := s2.trans s3
    have hen3 := hen
    obtain ⟨es, een, hel, hE⟩ := hen
    refine ⟨_, rfl, _, rfl, ?_⟩
    intro r dx nr9 ndx9 nex9
    have nr9' : upd H3 dx (.own r) r = none := by rw [upd_ne nex9.symm]; exact nr9
    have s9 : Same H3 (upd (upd H3 dx (.own r)) r (.ins C dx [])) := (Same.new ndx9).trans (Same.new nr9')
    refine (ex5 r dx st en _ ⟨rfl, upd_same, s9 _ _ een, fun H4 k4 e4 => ⟨rfl, ?_⟩⟩)
    have s34 : Same H3 H4 := fun b o h => k4 b o (ne_of_none h nr9) (s9 b o h)
    have s04 : Same H H4 := (s1.trans s13).trans s34
    have s14 : Same H1 H4 := s13.trans s34
    have hes : es.length ≤ 40 := by omega
    have hEn : ∀ e ∈ es, ∃ t, EntryAt H4 e t ∧ 1 ≤ t := fun e he => by
      obtain ⟨i, hi, e'⟩ := List.getElem_of_mem he
      obtain ⟨d, g1, g2, g3⟩ := hE i e tms[i] (by rw [List.getElem?_eq_getElem hi, e']) (List.getElem?_eq_getElem (by omega))
      exact ⟨tms[i], EntryAt.keep (.of s34) ⟨d, g1, g2, g3⟩, g3⟩
    obtain ⟨bns, hB⟩ := Bns.make (H := H4) (es := es) fun e he => by
      obtain ⟨t, ht, _⟩ := hEn e he
      exact ht.bn
    have hBT : BT H4 b0 := (hbn.keep (.of s14)).bt
    have hRow : RowAt C H4 r st en pl tm [.ref b0, .ref hd, .ref ak] es tms := ⟨⟨dx, e4⟩, s14 _ _ est, s34 _ _ een, hel, fun i e t he ht => by
      obtain ⟨d, g1, _⟩ := hE i e t he ht
      exact ⟨d, s34 _ _ g1⟩, by omega⟩
    have hge : ∀ t ∈ tm :: tms, 0 ≤ t := fun t ht => by
      rcases List.mem_cons.mp ht with rfl | ht
      · exact tm0
      · obtain ⟨i, hi, e'⟩ := List.getElem_of_mem ht
        obtain ⟨d, _, _, g3⟩ := hE i es[i] t (List.getElem?_eq_getElem (by omega)) (by rw [List.getElem?_eq_getElem hi, e'])
        omega
    have hhd4 : RowOf RelH H4 hd ks := hhd.keep relH_keep (.of s14)
    have hak4 : RowOf RelA H4 ak qs := hak.keep relA_keep (.of s14)
    refine hK3 _ _ ?_
    generalize hsg : List.set _ _ _ = sg
    have hs2 : sg = [some (V.ref a), some (V.ref st), some (V.ref en), some (V.ref r), none, none, none, none, none, none, none, none, none, none] := by rw [← hsg]; rfl
    clear hsg
    subst hs2
    refine tSeq_cut fun K4 hK4 => ?_
    -- places
    refine ⟨_, rfl, a, ns, 2, rfl, s04.seq hS, by decide, fun z2 => ⟨z2, 9, rfl, fun R H5 nR s5 bt5 => ?_⟩⟩
    refine hK4 _ _ ?_
    refine tSeq_cut fun K5 hK5 => ?_
    refine ⟨2, rfl, by decide, by decide, ?_⟩
    have hen4 := s34 _ _ een
    have est4 := s14 _ _ est
    refine lcTk (R := R) (n := 2) (fun y => ∃ z : Nat, y = .int (pl + (z : Int)) ∧ z ≤ tms.length) rfl bt5 (by decide) (fun i H' post bt' b' hp => ?_) (fun l5 ys H6 nl5 el5 hyl hyr bt6 b6 => ?_)
    · have s4' : Same H4 H' := same_of nR s5 b'
      refine ⟨_, rfl, ex4 st _ _ _ ⟨rfl, rfl, SqT.of (s4' _ _ est4), at0, _, rfl, _, rfl, en, _, rfl, .inr (SqT.of (s4' _ _ hen4)), _, _, rfl, rfl, R, _, rfl, bt', ?_, ?_, fun z H'' z0 z1 bt'' k'' => ?_⟩⟩
      · rw [List.length_map]; omega
      · exact Int.lt_of_le_of_lt (show (((es.map V.ref).length : Nat) : Int) + 1 ≤ 100 by rw [List.length_map]; omega) (by decide)
      · refine ⟨_, _, rfl, rfl, hp _ _ bt'' k'' ?_⟩
        rw [List.length_map] at z1
        obtain ⟨j, rfl⟩ := Int.eq_ofNat_of_zero_le z0
        exact ⟨j, rfl, by omega⟩
    obtain ⟨ps, rfl, hps, hpr⟩ := two_places hyl hyr
    have s46 : Same H4 H6 := same_of nR s5 b6
    refine ⟨l5, ps, rfl, SqL.of el5, by omega, fun pa5 zs H7 npa5 s67 epa5 hperm hsort => ?_⟩
    obtain ⟨ka, kb, rfl, hab, hkb⟩ := sorted_two hperm hsort hps hpr
    have s47 : Same H4 H7 := s46.trans s67
    have epl : H7 pa5 = some (.lst [.int (pl + (ka : Int)), .int (pl + (kb : Int))]) := epa5
    have hka : ka ≤ tms.length := by omega
    refine hK5 _ _ ?_
    generalize hsg : List.set _ _ _ = sg
    have hs2 : sg = [some (V.ref a), some (V.ref st), some (V.ref en), some (V.ref r), some (V.ref R), some (V.ref pa5), none, none, none, none, none, none, none, none] := by rw [← hsg]; rfl
    clear hsg
    subst hs2
    refine tSeq_cut fun K6 hK6 => ?_
    have hEt : ∀ {Hx : Hp}, Same H4 Hx → ∀ e ∈ es, ∃ t, EntryAt Hx e t := fun sx e he => by
      obtain ⟨t, ht, _⟩ := hEn e he
      exact ⟨t, ht.keep (.of sx)⟩
    -- the first table
    refine ⟨_, rfl, _, rfl, _, rfl, ex4 pa5 _ _ _ ⟨rfl, rfl, SqL.of epl, at0, st, en, pl, tm, b0, hd, ak, ks, qs, es, ka, rfl, s47 _ _ est4, hhd4.keep relH_keep (.of s47), hak4.keep relA_keep (.of s47), hk3, hq2, s47 _ _ hen4, hes, hEt s47, fun Tb dT lT kvs las H8 s78 hTb nT nD nL => ?_⟩⟩
    refine hK6 _ _ ?_
    refine tSeq_cut fun K7 hK7 => ?_
    have s48 := s47.trans s78
    obtain ⟨⟨dxt, t1⟩, _⟩ := id hTb.at'
    refine ⟨_, rfl, ex3 Tb dxt _ ⟨rfl, t1, T23.flds_no _ _ (by decide +kernel) (by decide +kernel), Tb, dT, lT, kvs, las, rfl, hTb.at', hTb.ok, hTb.k64, hTb.l64, fun p9 ps0 qs0 H9 s89 hTell hTold => ?_⟩⟩
    obtain ⟨ph0, pa0, ep9, hHe0, hAs0⟩ := told_two hTell
    refine ⟨p9, _, rfl, SqT.of ep9, rfl, _, _, rfl, _, _, rfl, rfl, ?_⟩
    have s49 := s48.trans s89
    refine hK7 _ _ ?_
    generalize hsg : List.set _ _ _ = sg
    have hs2 : sg = [some (V.ref a), some (V.ref st), some (V.ref en), some (V.ref r), some (V.ref R), some (V.ref pa5), some (V.ref Tb), some (V.ref ph0), some (V.ref pa0), none, none, none, none, none] := by rw [← hsg]; rfl
    clear hsg
    subst hs2
    refine tSeq_cut fun K8 hK8 => ?_
    have epl9 := s89 _ _ (s78 _ _ epl)
    have hTb9 := hTb.same s89
    have e4r : ∀ {Hx : Hp}, Same H4 Hx → Hx r = some (.ins C dx (flds st en)) := fun sx => sx _ _ e4
    -- cut
    refine ⟨_, rfl, ex3 r dx _ ⟨rfl, e4r s49, rfl, _, rfl, ex4 pa5 _ _ _ ⟨rfl, rfl, SqL.of epl9, at0, _, rfl, r, st, en, pl, tm, b0, _, es, tms, bns, ka, Tb, dT, lT, kvs, las, rfl, hRow.same s49, hB.same s49, hka, hTb9, fun fo st2 en2 ph1 pa1 ps1 qs1 Ha s9a hFo hHe1 hAs1 hTold1 => ?_⟩⟩⟩
    refine hK8 _ _ ?_
    refine tSeq_cut fun K9 hK9 => ?_
    obtain ⟨e1, e2'⟩ := T23.IsTold.one hTb.ok hTb.ok (T23.Eqv.refl _ _) hTold hTold1
    subst e1 e2'
    obtain ⟨fl1, fl2⟩ := hTold.flat hTb.ok
    have s4a := s49.trans s9a
    have epla := s9a _ _ epl9
    refine ⟨_, rfl, ex4 pa5 _ _ _ ⟨rfl, rfl, SqL.of epla, at0, _, rfl, ex3 r dx _ ⟨rfl, e4r s4a, rfl, _, rfl, ex4 pa5 _ _ _ ⟨rfl, rfl, SqL.of epla, at0, r, st, en, pl, tm, _, es, tms, _, rfl, hRow.same s4a, ?_⟩⟩⟩⟩
    refine ⟨_, rfl, ex3 r dx _ ⟨rfl, e4r s4a, rfl, _, rfl, ex4 pa5 _ _ _ ⟨rfl, rfl, SqL.of epla, at0, r, st, en, pl, tm, b0, _, es, tms, bns, ka, rfl, hRow.same s4a, hB.same s4a, fun Hb sab => ?_⟩⟩⟩
    refine ⟨_, rfl, _, rfl, (by show 5 ≤ sizeLine; decide), fun du Hc nc sbc edu => ?_⟩
    have sac := sab.trans sbc
    have s4c := s4a.trans sac
    rw [termV_at pl tm tms hka] at edu
    refine hK9 _ _ ?_
    generalize hsg : List.set _ _ _ = sg
    have hs2 : sg = [some (V.ref a), some (V.ref st), some (V.ref en), some (V.ref r), some (V.ref R), some (V.ref pa5), some (V.ref Tb), some (V.ref ph0), some (V.ref pa0), some (V.ref fo), some (V.ref du), none, none, none] := by rw [← hsg]; rfl
    clear hsg
    subst hs2
    refine tSeq_cut fun K10 hK10 => ?_
    have hFoc := hFo.same sac
    obtain ⟨dxf, hf1⟩ := hFoc.obj
    have s9c := s9a.trans sac
    refine ⟨_, rfl, ex5 fo C dxf _ true ⟨rfl, hf1, TyOf.ins hf1 T.cl I.ha I.hn I.htk I.hm, I.one, _, rfl, iteF ?_⟩⟩
    refine ⟨_, rfl, ex5 fo C dxf _ _ ⟨rfl, hf1, T.cl, T.nS, flds_s _ _, _, rfl, st2, du, rfl, rfl, alks5 hFoc.st edu rfl rfl rfl (alk_held (hHe1.same sac) (hHe0.same s9c) fl1) (alk_asked (hAs1.same sac) (hAs0.same s9c) fl2), _, rfl, iteF ?_⟩⟩
    have eplc := sac _ _ epla
    refine ⟨_, rfl, ex5 fo C dxf _ _ ⟨rfl, hf1, T.cl, T.nE, flds_e _ _, _, rfl, _, rfl, ex4 pa5 _ _ _ ⟨rfl, rfl, SqL.of eplc, at0, _, rfl, ex4 st _ _ _ ⟨rfl, rfl, SqT.of (s4c _ _ est4), at0, _, _, rfl, rfl, _, rfl, en, _, rfl, s4c _ _ hen4, fun t5 Hd scd e5 => ?_⟩⟩⟩⟩
    rw [show pl + (ka : Int) - pl = (ka : Int) by omega, cut_from] at e5
    refine ⟨en2, t5, _, rfl, rfl, SqT.of (scd _ _ hFoc.en), SqT.of e5, sm_refs _, _, rfl, iteF ?_⟩
    refine hK10 _ _ ?_
    refine tSeq_cut fun K11 hK11 => ?_
    have s4d := s4c.trans scd
    have epld := scd _ _ eplc
    have hW : Two C Hd r st en pl tm b0 [.ref hd, .ref ak] es tms bns ka fo st2 en2 [.ref ph1, .ref pa1] := ⟨hRow.same s4d, hB.same s4d, hBT.same s4d, hka, hFoc.same scd, fun v hv => by
      simp only [List.mem_cons, List.not_mem_nil, or_false] at hv
      rcases hv with rfl | rfl <;> rfl, hge, by omega⟩
    refine ⟨_, rfl, _, rfl, _, rfl, ex4 pa5 _ _ _ ⟨rfl, rfl, SqL.of epld, at0, r, st, en, pl, tm, b0, _, es, tms, bns, ka, fo, st2, en2, _, rfl, hW, fun He sde => ⟨_, rfl, iteF ?_⟩⟩⟩
    have hWe := hW.same sde
    have s4e := s4d.trans sde
    refine ⟨_, rfl, _, rfl, _, rfl, ex4 pa5 _ _ _ ⟨rfl, rfl, SqL.of (sde _ _ epld), at0, (by show 1 ≤ sizeLine; decide), fun lz Hf nlz sef elz => ?_⟩⟩
    have s0f := (s04.trans s4e).trans sef
    refine ⟨_, rfl, _, rfl, _, rfl, a, _, rfl, s0f.seq hS, fun l6 hl6 => ?_⟩
    obtain ⟨ls6, em6, hml6⟩ := cut_ints2 ns (some 33) (some 63)
    rw [em6]
    have s6 := Same.new (o := .lst (ls6.map V.int)) hl6
    have e6 : upd Hf l6 (.lst (ls6.map V.int)) l6 = some (.lst (ls6.map V.int)) := upd_same
    generalize upd Hf l6 (.lst (ls6.map V.int)) = Hg at s6 e6 ⊢
    refine (ex4 lz l6 _ _ ⟨rfl, rfl, s6 _ _ elz, e6, by rw [List.length_map]; show 1 + _ ≤ _; omega, fun l7 Hh n7 sgh e7 => ?_⟩)
    have seh := (sef.trans s6).trans sgh
    have e7' : Hh l7 = some (.lst ((0 :: ls6).map V.int)) := e7
    refine ⟨r, st, en, pl, tm, b0, _, es, tms, bns, ka, fo, st2, en2, _, l7, 0 :: ls6, rfl, hWe.same seh, pl0, SqL.of e7', by rw [List.length_cons]; omega, fun Hi shi => ⟨_, rfl, iteF ?_⟩⟩
    refine hK11 _ _ ?_
    refine tSeq_cut fun K12 hK12 => ?_
    have sdi := (sde.trans seh).trans shi
    have s4i := s4d.trans sdi
    have s9i := s9c.trans (scd.trans sdi)
    have epli := sdi _ _ epld
    -- the second table
    refine ⟨_, rfl, _, rfl, _, rfl, ex4 pa5 _ _ _ ⟨rfl, rfl, SqL.of epli, at1, st, en, pl, tm, b0, hd, ak, ks, qs, es, kb, rfl, s4i _ _ est4, hhd4.keep relH_keep (.of s4i), hak4.keep relA_keep (.of s4i), hk3, hq2, s4i _ _ hen4, hes, hEt s4i, fun Tf dF lF kvf laf Hj sij hTf nTf nDf nLf => ?_⟩⟩
    refine hK12 _ _ ?_
    refine tSeq_cut fun K13 hK13 => ?_
    have s4j := s4i.trans sij
    have hFoj := (hFoc.same scd).same (sdi.trans sij)
    obtain ⟨dxf2, hf2⟩ := hFoj.obj
    refine ⟨_, rfl, ex3 r dx _ ⟨rfl, e4r s4j, rfl, _, rfl, ex4 pa5 _ _ _ ⟨rfl, rfl, SqL.of (sij _ _ epli), at1, _, rfl, r, st, en, pl, tm, b0, _, es, tms, bns, kb, Tf, dF, lF, kvf, laf, rfl, hRow.same s4j, hB.same s4j, by omega, hTf, fun ro st3 en3 ph3 pa3 ps3 qs3 Hk sjk hRo hHe3 hAs3 hTold3 => ?_⟩⟩⟩
    refine hK13 _ _ ?_
    refine tSeq_cut fun K14 hK14 => ?_
    refine ⟨_, rfl, ex3 fo dxf2 _ ⟨rfl, sjk _ _ hf2, rfl, _, rfl, ex4 pa5 _ _ _ ⟨rfl, rfl, SqL.of (sjk _ _ (sij _ _ epli)), at1, _, rfl, fo, st2, en2, _, _, _, _, _, _, bns.drop ka, kb - ka, Tf, dF, lF, kvf, laf, us3 (by omega), hFoj.same sjk, ((hB.same s4j).same sjk).drop ka, by rw [List.length_drop]; omega, hTf.same sjk, fun rt st4 en4 ph4 pa4 ps4 qs4 Hl skl hRt hHe4 hAs4 hTold4 => ?_⟩⟩⟩
    obtain ⟨e3, e4'⟩ := T23.IsTold.one hTf.ok hTf.ok (T23.Eqv.refl _ _) hTold3 hTold4
    subst e3 e4'
    obtain ⟨fl3, fl4⟩ := hTold3.flat hTf.ok
    refine hK14 _ _ ?_
    generalize hsg : List.set _ _ _ = sg
    have hs2 : sg = [some (V.ref a), some (V.ref st), some (V.ref en), some (V.ref r), some (V.ref R), some (V.ref pa5), some (V.ref Tb), some (V.ref ph0), some (V.ref pa0), some (V.ref fo), some (V.ref du), some (V.ref Tf), some (V.ref ro), some (V.ref rt)] := by rw [← hsg]; rfl
    clear hsg
    subst hs2
    refine tSeq_cut fun K15 hK15 => ?_
    have hRol := hRo.same skl
    obtain ⟨dr, hr1⟩ := hRol.obj
    obtain ⟨dt, ht1⟩ := hRt.obj
    have ekk : ka + (kb - ka) = kb := by omega
    refine ⟨_, rfl, ex5 ro C dr _ _ ⟨rfl, hr1, T.cl, T.nS, flds_s _ _, _, rfl, ex5 rt C dt _ _ ⟨rfl, ht1, T.cl, T.nS, flds_s _ _, st3, st4, rfl, rfl, alks5 hRol.st hRt.st (by omega) (by rw [getD_cut, ekk]) (by rw [bench_cut, ekk]) (alk_held (hHe3.same skl) hHe4 fl3) (alk_asked (hAs3.same skl) hAs4 fl4), _, rfl, iteF ?_⟩⟩⟩
    have een4 := hRt.en
    rw [List.drop_drop, ekk] at een4
    refine ⟨_, rfl, ex5 ro C dr _ _ ⟨rfl, hr1, T.cl, T.nE, flds_e _ _, _, rfl, ex5 rt C dt _ _ ⟨rfl, ht1, T.cl, T.nE, flds_e _ _, en3, en4, _, rfl, rfl, SqT.of hRol.en, SqT.of een4, sm_refs _, _, rfl, iteF ?_⟩⟩⟩
    have sil := (sij.trans sjk).trans skl
    have s9l := s9i.trans sil
    have hTbl := hTb9.same s9l
    obtain ⟨⟨dxu, u1⟩, _⟩ := id hTbl.at'
    refine ⟨_, rfl, ex3 Tb dxu _ ⟨rfl, u1, T23.flds_no _ _ (by decide +kernel) (by decide +kernel), Tb, dT, lT, kvs, las, rfl, hTbl.at', hTbl.ok, hTbl.k64, hTbl.l64, fun p5 ps5 qs5 Hm slm hTell5 hTold5 => ?_⟩⟩
    obtain ⟨ph5, pa5', ep5, hHe5, hAs5⟩ := told_two hTell5
    obtain ⟨e5a, e5b⟩ := T23.IsTold.one hTb.ok hTb.ok (T23.Eqv.refl _ _) hTold hTold5
    subst e5a e5b
    refine ⟨_, rfl, _, rfl, (by show 2 ≤ sizeLine; decide), fun p6 Hn nn smn ep6 => ?_⟩
    have s9n := (s9l.trans slm).trans smn
    refine ⟨p5, p6, rfl, rfl, alks2 (smn _ _ ep5) ep6 (alk_held (hHe5.same smn) (hHe0.same s9n) fl1) (alk_asked (hAs5.same smn) (hAs0.same s9n) fl2), _, rfl, iteF ?_⟩
    refine hK15 _ _ ?_
    have s4n := ((s4i.trans sil).trans slm).trans smn
    refine ⟨_, rfl, ex5 r C dx _ _ ⟨rfl, e4r s4n, T.cl, T.nS, flds_s _ _, _, rfl, ex3 st st _ ⟨rfl, rfl, SqT.of (s4n _ _ est4), SqT.of (s4n _ _ est4), fun v hv => ?_, _, rfl, iteT ?_⟩⟩⟩
    · simp only [List.mem_cons, List.not_mem_nil, or_false] at hv
      rcases hv with rfl | rfl | rfl | rfl | rfl <;> rfl
    exact ⟨_, rfl, ex5 r C dx _ _ ⟨rfl, e4r s4n, T.cl, T.nE, flds_e _ _, _, rfl, ex3 en en _ ⟨rfl, rfl, SqT.of (s4n _ _ hen4), SqT.of (s4n _ _ hen4), sm_refs _, q Hn⟩⟩⟩
end
end K23

set_option maxHeartbeats 4000000
namespace K23
open PySem L2
theorem all_mk {l : PySem.W.OpenLaw} {w : World} {K : PySem.W.Frag} {h : Heap} {mg : Str → Option Value} {fa : Addr} (X : K.In h) (G : h.Ns mainGlobals mg) (hfa : mg "law" = some (.ref fa))
    {C : Addr} (aC : PySem.W.nsIn K mainGlobals "Row" = some (some (.ref C)))
    {CT : Addr} (aCT : PySem.W.nsIn K mainGlobals "Table" = some (some (.ref CT)))
    {fcell : Addr} {odcell ancell : Option Addr} {slcell : Array (Option Value)} {occell kVcell dccell pmcell cdcell ctcell : Value} (acell : PySem.W.nsIn K mainGlobals "_law_cell_at" = some (some (.ref fcell))) (lcell : K.lookup fcell = some ⟨occell, odcell, .func (PySem.W.fnOf "_law_cell_at" "_law_cell_at" (defArgs sCell) (defBody sCell) (defScope sCell) .none kVcell dccell pmcell ancell cdcell ctcell), slcell⟩) (ccell : PySem.W.codeIn K cdcell "_law_cell_at" = true) (kcell : PySem.W.keepIn K (.ref fcell) = true)
    {fbits : Addr} {odbits anbits : Option Addr} {slbits : Array (Option Value)} {ocbits kVbits dcbits pmbits cdbits ctbits : Value} (abits : PySem.W.nsIn K mainGlobals "_law_bits" = some (some (.ref fbits))) (lbits : K.lookup fbits = some ⟨ocbits, odbits, .func (PySem.W.fnOf "_law_bits" "_law_bits" (defArgs sBits) (defBody sBits) (defScope sBits) .none kVbits dcbits pmbits anbits cdbits ctbits), slbits⟩) (cbits : PySem.W.codeIn K cdbits "_law_bits" = true) (kbits : PySem.W.keepIn K (.ref fbits) = true)
    {fnext : Addr} {odnext annext : Option Addr} {slnext : Array (Option Value)} {ocnext kVnext dcnext pmnext cdnext ctnext : Value} (anext : PySem.W.nsIn K mainGlobals "_law_next" = some (some (.ref fnext))) (lnext : K.lookup fnext = some ⟨ocnext, odnext, .func (PySem.W.fnOf "_law_next" "_law_next" (defArgs sNext) (defBody sNext) (defScope sNext) .none kVnext dcnext pmnext annext cdnext ctnext), slnext⟩) (cnext : PySem.W.codeIn K cdnext "_law_next" = true) (knext : PySem.W.keepIn K (.ref fnext) = true)
    {ftake : Addr} {odtake antake : Option Addr} {sltake : Array (Option Value)} {octake kVtake dctake pmtake cdtake cttake : Value} (atake : PySem.W.nsIn K mainGlobals "_law_take" = some (some (.ref ftake))) (ltake : K.lookup ftake = some ⟨octake, odtake, .func (PySem.W.fnOf "_law_take" "_law_take" (defArgs sTake) (defBody sTake) (defScope sTake) .none kVtake dctake pmtake antake cdtake cttake), sltake⟩) (ctake : PySem.W.codeIn K cdtake "_law_take" = true) (ktake : PySem.W.keepIn K (.ref ftake) = true)
    {fname : Addr} {odname anname : Option Addr} {slname : Array (Option Value)} {ocname kVname dcname pmname cdname ctname : Value} (aname : PySem.W.nsIn K mainGlobals "_law_name" = some (some (.ref fname))) (lname : K.lookup fname = some ⟨ocname, odname, .func (PySem.W.fnOf "_law_name" "_law_name" (defArgs sName) (defBody sName) (defScope sName) .none kVname dcname pmname anname cdname ctname), slname⟩) (cname : PySem.W.codeIn K cdname "_law_name" = true) (kname : PySem.W.keepIn K (.ref fname) = true)
    {fnames : Addr} {odnames annames : Option Addr} {slnames : Array (Option Value)} {ocnames kVnames dcnames pmnames cdnames ctnames : Value} (anames : PySem.W.nsIn K mainGlobals "_law_names" = some (some (.ref fnames))) (lnames : K.lookup fnames = some ⟨ocnames, odnames, .func (PySem.W.fnOf "_law_names" "_law_names" (defArgs sNames) (defBody sNames) (defScope sNames) .none kVnames dcnames pmnames annames cdnames ctnames), slnames⟩) (cnames : PySem.W.codeIn K cdnames "_law_names" = true) (knames : PySem.W.keepIn K (.ref fnames) = true)
    {fbench : Addr} {odbench anbench : Option Addr} {slbench : Array (Option Value)} {ocbench kVbench dcbench pmbench cdbench ctbench : Value} (abench : PySem.W.nsIn K mainGlobals "_law_bench" = some (some (.ref fbench))) (lbench : K.lookup fbench = some ⟨ocbench, odbench, .func (PySem.W.fnOf "_law_bench" "_law_bench" (defArgs sBench) (defBody sBench) (defScope sBench) .none kVbench dcbench pmbench anbench cdbench ctbench), slbench⟩) (cbench : PySem.W.codeIn K cdbench "_law_bench" = true) (kbench : PySem.W.keepIn K (.ref fbench) = true)
    {fnumber : Addr} {odnumber annumber : Option Addr} {slnumber : Array (Option Value)} {ocnumber kVnumber dcnumber pmnumber cdnumber ctnumber : Value} (anumber : PySem.W.nsIn K mainGlobals "_law_number" = some (some (.ref fnumber))) (lnumber : K.lookup fnumber = some ⟨ocnumber, odnumber, .func (PySem.W.fnOf "_law_number" "_law_number" (defArgs sNumber) (defBody sNumber) (defScope sNumber) .none kVnumber dcnumber pmnumber annumber cdnumber ctnumber), slnumber⟩) (cnumber : PySem.W.codeIn K cdnumber "_law_number" = true) (knumber : PySem.W.keepIn K (.ref fnumber) = true)
    {fwork : Addr} {odwork anwork : Option Addr} {slwork : Array (Option Value)} {ocwork kVwork dcwork pmwork cdwork ctwork : Value} (awork : PySem.W.nsIn K mainGlobals "_law_work" = some (some (.ref fwork))) (lwork : K.lookup fwork = some ⟨ocwork, odwork, .func (PySem.W.fnOf "_law_work" "_law_work" (defArgs sWork) (defBody sWork) (defScope sWork) .none kVwork dcwork pmwork anwork cdwork ctwork), slwork⟩) (cwork : PySem.W.codeIn K cdwork "_law_work" = true) (kwork : PySem.W.keepIn K (.ref fwork) = true)
    {fdeed : Addr} {oddeed andeed : Option Addr} {sldeed : Array (Option Value)} {ocdeed kVdeed dcdeed pmdeed cddeed ctdeed : Value} (adeed : PySem.W.nsIn K mainGlobals "_law_deed" = some (some (.ref fdeed))) (ldeed : K.lookup fdeed = some ⟨ocdeed, oddeed, .func (PySem.W.fnOf "_law_deed" "_law_deed" (defArgs sDeed) (defBody sDeed) (defScope sDeed) .none kVdeed dcdeed pmdeed andeed cddeed ctdeed), sldeed⟩) (cdeed : PySem.W.codeIn K cddeed "_law_deed" = true) (kdeed : PySem.W.keepIn K (.ref fdeed) = true)
    {fentry : Addr} {odentry anentry : Option Addr} {slentry : Array (Option Value)} {ocentry kVentry dcentry pmentry cdentry ctentry : Value} (aentry : PySem.W.nsIn K mainGlobals "_law_entry" = some (some (.ref fentry))) (lentry : K.lookup fentry = some ⟨ocentry, odentry, .func (PySem.W.fnOf "_law_entry" "_law_entry" (defArgs sEntry) (defBody sEntry) (defScope sEntry) .none kVentry dcentry pmentry anentry cdentry ctentry), slentry⟩) (centry : PySem.W.codeIn K cdentry "_law_entry" = true) (kentry : PySem.W.keepIn K (.ref fentry) = true)
    {fstand : Addr} {odstand anstand : Option Addr} {slstand : Array (Option Value)} {ocstand kVstand dcstand pmstand cdstand ctstand : Value} (astand : PySem.W.nsIn K mainGlobals "_law_stand" = some (some (.ref fstand))) (lstand : K.lookup fstand = some ⟨ocstand, odstand, .func (PySem.W.fnOf "_law_stand" "_law_stand" (defArgs sStand) (defBody sStand) (defScope sStand) .none kVstand dcstand pmstand anstand cdstand ctstand), slstand⟩) (cstand : PySem.W.codeIn K cdstand "_law_stand" = true) (kstand : PySem.W.keepIn K (.ref fstand) = true)
    {fentries : Addr} {odentries anentries : Option Addr} {slentries : Array (Option Value)} {ocentries kVentries dcentries pmentries cdentries ctentries : Value} (aentries : PySem.W.nsIn K mainGlobals "_law_entries" = some (some (.ref fentries))) (lentries : K.lookup fentries = some ⟨ocentries, odentries, .func (PySem.W.fnOf "_law_entries" "_law_entries" (defArgs sEntries) (defBody sEntries) (defScope sEntries) .none kVentries dcentries pmentries anentries cdentries ctentries), slentries⟩) (centries : PySem.W.codeIn K cdentries "_law_entries" = true) (kentries : PySem.W.keepIn K (.ref fentries) = true)
    {ftabat : Addr} {odtabat antabat : Option Addr} {sltabat : Array (Option Value)} {octabat kVtabat dctabat pmtabat cdtabat cttabat : Value} (atabat : PySem.W.nsIn K mainGlobals "_law_table_at" = some (some (.ref ftabat))) (ltabat : K.lookup ftabat = some ⟨octabat, odtabat, .func (PySem.W.fnOf "_law_table_at" "_law_table_at" (defArgs sTabAt) (defBody sTabAt) (defScope sTabAt) .none kVtabat dctabat pmtabat antabat cdtabat cttabat), sltabat⟩) (ctabat : PySem.W.codeIn K cdtabat "_law_table_at" = true) (ktabat : PySem.W.keepIn K (.ref ftabat) = true)
    {fsame : Addr} {odsame ansame : Option Addr} {slsame : Array (Option Value)} {ocsame kVsame dcsame pmsame cdsame ctsame : Value} (asame : PySem.W.nsIn K mainGlobals "_law_same_from" = some (some (.ref fsame))) (lsame : K.lookup fsame = some ⟨ocsame, odsame, .func (PySem.W.fnOf "_law_same_from" "_law_same_from" (defArgs sSame) (defBody sSame) (defScope sSame) .none kVsame dcsame pmsame ansame cdsame ctsame), slsame⟩) (csame : PySem.W.codeIn K cdsame "_law_same_from" = true) (ksame : PySem.W.keepIn K (.ref fsame) = true)
    {ffill : Addr} {odfill anfill : Option Addr} {slfill : Array (Option Value)} {ocfill kVfill dcfill pmfill cdfill ctfill : Value} (afill : PySem.W.nsIn K mainGlobals "_law_fillings" = some (some (.ref ffill))) (lfill : K.lookup ffill = some ⟨ocfill, odfill, .func (PySem.W.fnOf "_law_fillings" "_law_fillings" (defArgs sFill) (defBody sFill) (defScope sFill) .none kVfill dcfill pmfill anfill cdfill ctfill), slfill⟩) (cfill : PySem.W.codeIn K cdfill "_law_fillings" = true) (kfill : PySem.W.keepIn K (.ref ffill) = true)
    {flaw : Addr} {odlaw anlaw : Option Addr} {sllaw : Array (Option Value)} {oclaw kVlaw dclaw pmlaw cdlaw ctlaw : Value} (alaw : PySem.W.nsIn K mainGlobals "law" = some (some (.ref flaw))) (llaw : K.lookup flaw = some ⟨oclaw, odlaw, .func (PySem.W.fnOf "law" "law" (defArgs sLaw) (defBody sLaw) (defScope sLaw) .none kVlaw dclaw pmlaw anlaw cdlaw ctlaw), sllaw⟩) (claw : PySem.W.codeIn K cdlaw "law" = true) (klaw : PySem.W.keepIn K (.ref flaw) = true)
    {finit : Addr} {odinit aninit : Option Addr} {slinit : Array (Option Value)} {ocinit kVinit dcinit pminit cdinit ctinit : Value} (ainit : PySem.W.findIn K (.ref C) "__init__" = some (some (.ref finit))) (iinit : PySem.W.isFn K (.ref finit) = true) (linit : K.lookup finit = some ⟨ocinit, odinit, .func (PySem.W.fnOf "__init__" "Row.__init__" (defArgs sInit) (defBody sInit) (defScope sInit) .none kVinit dcinit pminit aninit cdinit ctinit), slinit⟩) (cinit : PySem.W.codeIn K cdinit "Row.__init__" = true) (kinit : PySem.W.keepIn K (.ref finit) = true)
    {flastp : Addr} {odlastp anlastp : Option Addr} {sllastp : Array (Option Value)} {oclastp kVlastp dclastp pmlastp cdlastp ctlastp : Value} (alastp : PySem.W.findIn K (.ref C) "last_place" = some (some (.ref flastp))) (ilastp : PySem.W.isFn K (.ref flastp) = true) (llastp : K.lookup flastp = some ⟨oclastp, odlastp, .func (PySem.W.fnOf "last_place" "Row.last_place" (defArgs sLastP) (defBody sLastP) (defScope sLastP) .none kVlastp dclastp pmlastp anlastp cdlastp ctlastp), sllastp⟩) (clastp : PySem.W.codeIn K cdlastp "Row.last_place" = true) (klastp : PySem.W.keepIn K (.ref flastp) = true)
    {flastt : Addr} {odlastt anlastt : Option Addr} {sllastt : Array (Option Value)} {oclastt kVlastt dclastt pmlastt cdlastt ctlastt : Value} (alastt : PySem.W.findIn K (.ref C) "last_term" = some (some (.ref flastt))) (ilastt : PySem.W.isFn K (.ref flastt) = true) (llastt : K.lookup flastt = some ⟨oclastt, odlastt, .func (PySem.W.fnOf "last_term" "Row.last_term" (defArgs sLastT) (defBody sLastT) (defScope sLastT) .none kVlastt dclastt pmlastt anlastt cdlastt ctlastt), sllastt⟩) (clastt : PySem.W.codeIn K cdlastt "Row.last_term" = true) (klastt : PySem.W.keepIn K (.ref flastt) = true)
    {ftermat : Addr} {odtermat antermat : Option Addr} {sltermat : Array (Option Value)} {octermat kVtermat dctermat pmtermat cdtermat cttermat : Value} (atermat : PySem.W.findIn K (.ref C) "term_at" = some (some (.ref ftermat))) (itermat : PySem.W.isFn K (.ref ftermat) = true) (ltermat : K.lookup ftermat = some ⟨octermat, odtermat, .func (PySem.W.fnOf "term_at" "Row.term_at" (defArgs sTermAt) (defBody sTermAt) (defScope sTermAt) .none kVtermat dctermat pmtermat antermat cdtermat cttermat), sltermat⟩) (ctermat : PySem.W.codeIn K cdtermat "Row.term_at" = true) (ktermat : PySem.W.keepIn K (.ref ftermat) = true)
    {fentat : Addr} {odentat anentat : Option Addr} {slentat : Array (Option Value)} {ocentat kVentat dcentat pmentat cdentat ctentat : Value} (aentat : PySem.W.findIn K (.ref C) "entry_at" = some (some (.ref fentat))) (ientat : PySem.W.isFn K (.ref fentat) = true) (lentat : K.lookup fentat = some ⟨ocentat, odentat, .func (PySem.W.fnOf "entry_at" "Row.entry_at" (defArgs sEntAt) (defBody sEntAt) (defScope sEntAt) .none kVentat dcentat pmentat anentat cdentat ctentat), slentat⟩) (centat : PySem.W.codeIn K cdentat "Row.entry_at" = true) (kentat : PySem.W.keepIn K (.ref fentat) = true)
    {fupto : Addr} {odupto anupto : Option Addr} {slupto : Array (Option Value)} {ocupto kVupto dcupto pmupto cdupto ctupto : Value} (aupto : PySem.W.findIn K (.ref C) "up_to" = some (some (.ref fupto))) (iupto : PySem.W.isFn K (.ref fupto) = true) (lupto : K.lookup fupto = some ⟨ocupto, odupto, .func (PySem.W.fnOf "up_to" "Row.up_to" (defArgs sUpTo) (defBody sUpTo) (defScope sUpTo) .none kVupto dcupto pmupto anupto cdupto ctupto), slupto⟩) (cupto : PySem.W.codeIn K cdupto "Row.up_to" = true) (kupto : PySem.W.keepIn K (.ref fupto) = true)
    {fbehind : Addr} {odbehind anbehind : Option Addr} {slbehind : Array (Option Value)} {ocbehind kVbehind dcbehind pmbehind cdbehind ctbehind : Value} (abehind : PySem.W.findIn K (.ref C) "behind" = some (some (.ref fbehind))) (ibehind : PySem.W.isFn K (.ref fbehind) = true) (lbehind : K.lookup fbehind = some ⟨ocbehind, odbehind, .func (PySem.W.fnOf "behind" "Row.behind" (defArgs sBehind) (defBody sBehind) (defScope sBehind) .none kVbehind dcbehind pmbehind anbehind cdbehind ctbehind), slbehind⟩) (cbehind : PySem.W.codeIn K cdbehind "Row.behind" = true) (kbehind : PySem.W.keepIn K (.ref fbehind) = true)
    {fbenchat : Addr} {odbenchat anbenchat : Option Addr} {slbenchat : Array (Option Value)} {ocbenchat kVbenchat dcbenchat pmbenchat cdbenchat ctbenchat : Value} (abenchat : PySem.W.findIn K (.ref C) "bench_at" = some (some (.ref fbenchat))) (ibenchat : PySem.W.isFn K (.ref fbenchat) = true) (lbenchat : K.lookup fbenchat = some ⟨ocbenchat, odbenchat, .func (PySem.W.fnOf "bench_at" "Row.bench_at" (defArgs sBenchAt) (defBody sBenchAt) (defScope sBenchAt) .none kVbenchat dcbenchat pmbenchat anbenchat cdbenchat ctbenchat), slbenchat⟩) (cbenchat : PySem.W.codeIn K cdbenchat "Row.bench_at" = true) (kbenchat : PySem.W.keepIn K (.ref fbenchat) = true)
    {fbenchm : Addr} {odbenchm anbenchm : Option Addr} {slbenchm : Array (Option Value)} {ocbenchm kVbenchm dcbenchm pmbenchm cdbenchm ctbenchm : Value} (abenchm : PySem.W.findIn K (.ref C) "bench" = some (some (.ref fbenchm))) (ibenchm : PySem.W.isFn K (.ref fbenchm) = true) (lbenchm : K.lookup fbenchm = some ⟨ocbenchm, odbenchm, .func (PySem.W.fnOf "bench" "Row.bench" (defArgs sBenchM) (defBody sBenchM) (defScope sBenchM) .none kVbenchm dcbenchm pmbenchm anbenchm cdbenchm ctbenchm), slbenchm⟩) (cbenchm : PySem.W.codeIn K cdbenchm "Row.bench" = true) (kbenchm : PySem.W.keepIn K (.ref fbenchm) = true)
    {fisb : Addr} {odisb anisb : Option Addr} {slisb : Array (Option Value)} {ocisb kVisb dcisb pmisb cdisb ctisb : Value} (aisb : PySem.W.findIn K (.ref C) "is_behind" = some (some (.ref fisb))) (iisb : PySem.W.isFn K (.ref fisb) = true) (lisb : K.lookup fisb = some ⟨ocisb, odisb, .func (PySem.W.fnOf "is_behind" "Row.is_behind" (defArgs sIsB) (defBody sIsB) (defScope sIsB) .none kVisb dcisb pmisb anisb cdisb ctisb), slisb⟩) (cisb : PySem.W.codeIn K cdisb "Row.is_behind" = true) (kisb : PySem.W.keepIn K (.ref fisb) = true)
    {ffilled : Addr} {odfilled anfilled : Option Addr} {slfilled : Array (Option Value)} {ocfilled kVfilled dcfilled pmfilled cdfilled ctfilled : Value} (afilled : PySem.W.findIn K (.ref C) "filled" = some (some (.ref ffilled))) (ifilled : PySem.W.isFn K (.ref ffilled) = true) (lfilled : K.lookup ffilled = some ⟨ocfilled, odfilled, .func (PySem.W.fnOf "filled" "Row.filled" (defArgs sFilled) (defBody sFilled) (defScope sFilled) .none kVfilled dcfilled pmfilled anfilled cdfilled ctfilled), slfilled⟩) (cfilled : PySem.W.codeIn K cdfilled "Row.filled" = true) (kfilled : PySem.W.keepIn K (.ref ffilled) = true)
    {fcut : Addr} {odcut ancut : Option Addr} {slcut : Array (Option Value)} {occut kVcut dccut pmcut cdcut ctcut : Value} (acut : PySem.W.findIn K (.ref C) "cut" = some (some (.ref fcut))) (icut : PySem.W.isFn K (.ref fcut) = true) (lcut : K.lookup fcut = some ⟨occut, odcut, .func (PySem.W.fnOf "cut" "Row.cut" (defArgs sCut) (defBody sCut) (defScope sCut) .none kVcut dccut pmcut ancut cdcut ctcut), slcut⟩) (ccut : PySem.W.codeIn K cdcut "Row.cut" = true) (kcut : PySem.W.keepIn K (.ref fcut) = true)
    (pgC : PySem.W.plainGet K C Str.empty = true) (hdC : PySem.W.hasDictIn K C = true) (poC : PySem.W.plainOver K C = true) (saC : PySem.W.findIn K (.ref C) "__setattr__" = some (some (.builtin "object.__setattr__"))) (mkC : PySem.W.makesIn K C = true) (kcC : PySem.W.keepIn K (.ref C) = true) (nC_stand : PySem.W.findIn K (.ref C) "stand" = some none) (nC_entries : PySem.W.findIn K (.ref C) "entries" = some none)
    {ftinit : Addr} {odtinit antinit : Option Addr} {sltinit : Array (Option Value)} {octinit kVtinit dctinit pmtinit cdtinit cttinit : Value} (atinit : PySem.W.findIn K (.ref CT) "__init__" = some (some (.ref ftinit))) (itinit : PySem.W.isFn K (.ref ftinit) = true) (ltinit : K.lookup ftinit = some ⟨octinit, odtinit, .func (PySem.W.fnOf "__init__" "Table.__init__" (defArgs T23.sInit) (defBody T23.sInit) (defScope T23.sInit) .none kVtinit dctinit pmtinit antinit cdtinit cttinit), sltinit⟩) (ctinit : PySem.W.codeIn K cdtinit "Table.__init__" = true) (ktinit : PySem.W.keepIn K (.ref ftinit) = true)
    {ftdoes : Addr} {odtdoes antdoes : Option Addr} {sltdoes : Array (Option Value)} {octdoes kVtdoes dctdoes pmtdoes cdtdoes cttdoes : Value} (atdoes : PySem.W.findIn K (.ref CT) "does" = some (some (.ref ftdoes))) (itdoes : PySem.W.isFn K (.ref ftdoes) = true) (ltdoes : K.lookup ftdoes = some ⟨octdoes, odtdoes, .func (PySem.W.fnOf "does" "Table.does" (defArgs T23.sDoes) (defBody T23.sDoes) (defScope T23.sDoes) .none kVtdoes dctdoes pmtdoes antdoes cdtdoes cttdoes), sltdoes⟩) (ctdoes : PySem.W.codeIn K cdtdoes "Table.does" = true) (ktdoes : PySem.W.keepIn K (.ref ftdoes) = true)
    {ftdone : Addr} {odtdone antdone : Option Addr} {sltdone : Array (Option Value)} {octdone kVtdone dctdone pmtdone cdtdone cttdone : Value} (atdone : PySem.W.findIn K (.ref CT) "work_done" = some (some (.ref ftdone))) (itdone : PySem.W.isFn K (.ref ftdone) = true) (ltdone : K.lookup ftdone = some ⟨octdone, odtdone, .func (PySem.W.fnOf "work_done" "Table.work_done" (defArgs T23.sDone) (defBody T23.sDone) (defScope T23.sDone) .none kVtdone dctdone pmtdone antdone cdtdone cttdone), sltdone⟩) (ctdone : PySem.W.codeIn K cdtdone "Table.work_done" = true) (ktdone : PySem.W.keepIn K (.ref ftdone) = true)
    {ftholds : Addr} {odtholds antholds : Option Addr} {sltholds : Array (Option Value)} {octholds kVtholds dctholds pmtholds cdtholds cttholds : Value} (atholds : PySem.W.findIn K (.ref CT) "holds" = some (some (.ref ftholds))) (itholds : PySem.W.isFn K (.ref ftholds) = true) (ltholds : K.lookup ftholds = some ⟨octholds, odtholds, .func (PySem.W.fnOf "holds" "Table.holds" (defArgs T23.sHolds) (defBody T23.sHolds) (defScope T23.sHolds) .none kVtholds dctholds pmtholds antholds cdtholds cttholds), sltholds⟩) (ctholds : PySem.W.codeIn K cdtholds "Table.holds" = true) (ktholds : PySem.W.keepIn K (.ref ftholds) = true)
    {ftlast : Addr} {odtlast antlast : Option Addr} {sltlast : Array (Option Value)} {octlast kVtlast dctlast pmtlast cdtlast cttlast : Value} (atlast : PySem.W.findIn K (.ref CT) "last_of" = some (some (.ref ftlast))) (itlast : PySem.W.isFn K (.ref ftlast) = true) (ltlast : K.lookup ftlast = some ⟨octlast, odtlast, .func (PySem.W.fnOf "last_of" "Table.last_of" (defArgs T23.sLast) (defBody T23.sLast) (defScope T23.sLast) .none kVtlast dctlast pmtlast antlast cdtlast cttlast), sltlast⟩) (ctlast : PySem.W.codeIn K cdtlast "Table.last_of" = true) (ktlast : PySem.W.keepIn K (.ref ftlast) = true)
    {fttold : Addr} {odttold anttold : Option Addr} {slttold : Array (Option Value)} {octtold kVttold dcttold pmttold cdttold ctttold : Value} (attold : PySem.W.findIn K (.ref CT) "told" = some (some (.ref fttold))) (ittold : PySem.W.isFn K (.ref fttold) = true) (lttold : K.lookup fttold = some ⟨octtold, odttold, .func (PySem.W.fnOf "told" "Table.told" (defArgs T23.sTold) (defBody T23.sTold) (defScope T23.sTold) .none kVttold dcttold pmttold anttold cdttold ctttold), slttold⟩) (cttold : PySem.W.codeIn K cdttold "Table.told" = true) (kttold : PySem.W.keepIn K (.ref fttold) = true)
    (pgCT : PySem.W.plainGet K CT Str.empty = true) (hdCT : PySem.W.hasDictIn K CT = true) (poCT : PySem.W.plainOver K CT = true) (saCT : PySem.W.findIn K (.ref CT) "__setattr__" = some (some (.builtin "object.__setattr__"))) (mkCT : PySem.W.makesIn K CT = true) (kcCT : PySem.W.keepIn K (.ref CT) = true) (nCT_held : PySem.W.findIn K (.ref CT) "held" = some none) (nCT_lasts : PySem.W.findIn K (.ref CT) "lasts" = some none)
     (zmax : PySem.W.nsIn K mainGlobals "max" = some none) (zrange : PySem.W.nsIn K mainGlobals "range" = some none) (ztuple : PySem.W.nsIn K mainGlobals "tuple" = some none) (zsorted : PySem.W.nsIn K mainGlobals "sorted" = some none) (zabs : PySem.W.nsIn K mainGlobals "abs" = some none) (zenumerate : PySem.W.nsIn K mainGlobals "enumerate" = some none) (zlen : PySem.W.nsIn K mainGlobals "len" = some none) (zisinstance : PySem.W.nsIn K mainGlobals "isinstance" = some none) (zdict : PySem.W.nsIn K mainGlobals "dict" = some none) (zreversed : PySem.W.nsIn K mainGlobals "reversed" = some none) (x1 : PySem.W.findIn K (.ref C) "__class__" = some (some (.builtin "object.__class__"))) (x2 : PySem.W.specialIn K (.builtin "object.__class__") "__get__" = some (some (.builtin "getset_descriptor.__get__"))) (x3 : PySem.W.takesIn K (.builtin "object.__class__") = some true) (x4 : PySem.W.mroIn K C (.type "object") = some true) :
    ∃ fd : FuncData, (∀ (s : Shared) (v : Value), BindsTo s fd ⟨[v], []⟩ [("_law_script", v)]) ∧ ∀ base : Heap, K.In base → base.Ns mainGlobals mg → FnOk l.prog w K mg base CX0 10 fa fd ["_law_script"] (spLaw K) := by
  have e := hfa.symm.trans (PySem.W.mg_of X G alaw)
  cases e
  have nmax := PySem.W.mg_none_of X G zmax
  have nrange := PySem.W.mg_none_of X G zrange
  have ntuple := PySem.W.mg_none_of X G ztuple
  have nsorted := PySem.W.mg_none_of X G zsorted
  have nabs := PySem.W.mg_none_of X G zabs
  have nenumerate := PySem.W.mg_none_of X G zenumerate
  have nlen := PySem.W.mg_none_of X G zlen
  have nisinstance := PySem.W.mg_none_of X G zisinstance
  have ndict := PySem.W.mg_none_of X G zdict
  have nreversed := PySem.W.mg_none_of X G zreversed
  have T : Cl K mg C := ⟨⟨pgC, hdC, poC, saC⟩, nC_stand, nC_entries, PySem.W.mg_of X G aC⟩
  have TT : T23.Cl K mg CT := ⟨⟨pgCT, hdCT, poCT, saCT⟩, nCT_held, nCT_lasts, PySem.W.mg_of X G aCT⟩
  have TB : T23.Blt mg := ⟨ntuple, ndict, nsorted⟩
  have I : IsC K C := ⟨x1, x2, x3, x4, by unfold PySem.W.kitOne; rw [if_pos (by simp)]⟩
  have Fcell := fun_mk (st := sCell) lcell ccell kcell
  have bcell := Fcell.binds (ps := ["_law_script", "_law_k"]) fun _ _ _ _ _ _ us hl => by obtain ⟨a0, a1, rfl⟩ := len2 hl; rfl
  have Fbits := fun_mk (st := sBits) lbits cbits kbits
  have bbits := Fbits.binds (ps := ["_law_cell", "_law_k"]) fun _ _ _ _ _ _ us hl => by obtain ⟨a0, a1, rfl⟩ := len2 hl; rfl
  have Fnext := fun_mk (st := sNext) lnext cnext knext
  have bnext := Fnext.binds (ps := ["_law_bits_here"]) fun _ _ _ _ _ _ us hl => by obtain ⟨a0, rfl⟩ := len1 hl; rfl
  have Ftake := fun_mk (st := sTake) ltake ctake ktake
  have btake := Ftake.binds (ps := ["_law_bits_here", "_law_size"]) fun _ _ _ _ _ _ us hl => by obtain ⟨a0, a1, rfl⟩ := len2 hl; rfl
  have Fname := fun_mk (st := sName) lname cname kname
  have bname := Fname.binds (ps := ["_law_bits_here"]) fun _ _ _ _ _ _ us hl => by obtain ⟨a0, rfl⟩ := len1 hl; rfl
  have Fnames := fun_mk (st := sNames) lnames cnames knames
  have bnames := Fnames.binds (ps := ["_law_bits_here", "_law_least", "_law_most", "_law_apart"]) fun _ _ _ _ _ _ us hl => by obtain ⟨a0, a1, a2, a3, rfl⟩ := len4 hl; rfl
  have Fbench := fun_mk (st := sBench) lbench cbench kbench
  have bbench := Fbench.binds (ps := ["_law_bits_here"]) fun _ _ _ _ _ _ us hl => by obtain ⟨a0, rfl⟩ := len1 hl; rfl
  have Fnumber := fun_mk (st := sNumber) lnumber cnumber knumber
  have bnumber := Fnumber.binds (ps := ["_law_bits_here"]) fun _ _ _ _ _ _ us hl => by obtain ⟨a0, rfl⟩ := len1 hl; rfl
  have Fwork := fun_mk (st := sWork) lwork cwork kwork
  have bwork := Fwork.binds (ps := ["_law_bits_here"]) fun _ _ _ _ _ _ us hl => by obtain ⟨a0, rfl⟩ := len1 hl; rfl
  have Fdeed := fun_mk (st := sDeed) ldeed cdeed kdeed
  have bdeed := Fdeed.binds (ps := ["_law_bits_here"]) fun _ _ _ _ _ _ us hl => by obtain ⟨a0, rfl⟩ := len1 hl; rfl
  have Fentry := fun_mk (st := sEntry) lentry centry kentry
  have bentry := Fentry.binds (ps := ["_law_cell", "_law_k", "_law_term"]) fun _ _ _ _ _ _ us hl => by obtain ⟨a0, a1, a2, rfl⟩ := len3 hl; rfl
  have Fstand := fun_mk (st := sStand) lstand cstand kstand
  have bstand := Fstand.binds (ps := ["_law_cell"]) fun _ _ _ _ _ _ us hl => by obtain ⟨a0, rfl⟩ := len1 hl; rfl
  have Fentries := fun_mk (st := sEntries) lentries centries kentries
  have bentries := Fentries.binds (ps := ["_law_cells", "_law_term"]) fun _ _ _ _ _ _ us hl => by obtain ⟨a0, a1, rfl⟩ := len2 hl; rfl
  have Ftabat := fun_mk (st := sTabAt) ltabat ctabat ktabat
  have btabat := Ftabat.binds (ps := ["_law_stand_here", "_law_entries_here", "_law_place"]) fun _ _ _ _ _ _ us hl => by obtain ⟨a0, a1, a2, rfl⟩ := len3 hl; rfl
  have Fsame := fun_mk (st := sSame) lsame csame ksame
  have bsame := Fsame.binds (ps := ["_law_row", "_law_cut_row", "_law_place"]) fun _ _ _ _ _ _ us hl => by obtain ⟨a0, a1, a2, rfl⟩ := len3 hl; rfl
  have Ffill := fun_mk (st := sFill) lfill cfill kfill
  have bfill := Ffill.binds (ps := ["_law_row", "_law_cut_row", "_law_place", "_law_cells"]) fun _ _ _ _ _ _ us hl => by obtain ⟨a0, a1, a2, a3, rfl⟩ := len4 hl; rfl
  have Flaw := fun_mk (st := sLaw) llaw claw klaw
  have Finit := fun_mk (st := sInit) linit cinit kinit
  have binit := Finit.binds (ps := ["self", "stand", "entries"]) fun _ _ _ _ _ _ us hl => by obtain ⟨a0, a1, a2, rfl⟩ := len3 hl; rfl
  have Flastp := fun_mk (st := sLastP) llastp clastp klastp
  have blastp := Flastp.binds (ps := ["self"]) fun _ _ _ _ _ _ us hl => by obtain ⟨a0, rfl⟩ := len1 hl; rfl
  have Flastt := fun_mk (st := sLastT) llastt clastt klastt
  have blastt := Flastt.binds (ps := ["self"]) fun _ _ _ _ _ _ us hl => by obtain ⟨a0, rfl⟩ := len1 hl; rfl
  have Ftermat := fun_mk (st := sTermAt) ltermat ctermat ktermat
  have btermat := Ftermat.binds (ps := ["self", "place"]) fun _ _ _ _ _ _ us hl => by obtain ⟨a0, a1, rfl⟩ := len2 hl; rfl
  have Fentat := fun_mk (st := sEntAt) lentat centat kentat
  have bentat := Fentat.binds (ps := ["self", "place"]) fun _ _ _ _ _ _ us hl => by obtain ⟨a0, a1, rfl⟩ := len2 hl; rfl
  have Fupto := fun_mk (st := sUpTo) lupto cupto kupto
  have bupto := Fupto.binds (ps := ["self", "place"]) fun _ _ _ _ _ _ us hl => by obtain ⟨a0, a1, rfl⟩ := len2 hl; rfl
  have Fbehind := fun_mk (st := sBehind) lbehind cbehind kbehind
  have bbehind := Fbehind.binds (ps := ["self", "place"]) fun _ _ _ _ _ _ us hl => by obtain ⟨a0, a1, rfl⟩ := len2 hl; rfl
  have Fbenchat := fun_mk (st := sBenchAt) lbenchat cbenchat kbenchat
  have bbenchat := Fbenchat.binds (ps := ["self", "place"]) fun _ _ _ _ _ _ us hl => by obtain ⟨a0, a1, rfl⟩ := len2 hl; rfl
  have Fbenchm := fun_mk (st := sBenchM) lbenchm cbenchm kbenchm
  have bbenchm := Fbenchm.binds (ps := ["self"]) fun _ _ _ _ _ _ us hl => by obtain ⟨a0, rfl⟩ := len1 hl; rfl
  have Fisb := fun_mk (st := sIsB) lisb cisb kisb
  have bisb := Fisb.binds (ps := ["self", "place", "term"]) fun _ _ _ _ _ _ us hl => by obtain ⟨a0, a1, a2, rfl⟩ := len3 hl; rfl
  have Ffilled := fun_mk (st := sFilled) lfilled cfilled kfilled
  have bfilled := Ffilled.binds (ps := ["self", "before", "there", "entries"]) fun _ _ _ _ _ _ us hl => by obtain ⟨a0, a1, a2, a3, rfl⟩ := len4 hl; rfl
  have Fcut := fun_mk (st := sCut) lcut ccut kcut
  have bcut := Fcut.binds (ps := ["self", "place", "table"]) fun _ _ _ _ _ _ us hl => by obtain ⟨a0, a1, a2, rfl⟩ := len3 hl; rfl
  have Ftinit := fun_mk (st := T23.sInit) ltinit ctinit ktinit
  have btinit := Ftinit.binds (ps := ["self", "held", "asked"]) fun _ _ _ _ _ _ us hl => by obtain ⟨a0, a1, a2, rfl⟩ := len3 hl; rfl
  have Ftdoes := fun_mk (st := T23.sDoes) ltdoes ctdoes ktdoes
  have btdoes := Ftdoes.binds (ps := ["self", "asker", "number", "work"]) fun _ _ _ _ _ _ us hl => by obtain ⟨a0, a1, a2, a3, rfl⟩ := len4 hl; rfl
  have Ftdone := fun_mk (st := T23.sDone) ltdone ctdone ktdone
  have btdone := Ftdone.binds (ps := ["self", "work"]) fun _ _ _ _ _ _ us hl => by obtain ⟨a0, a1, rfl⟩ := len2 hl; rfl
  have Ftholds := fun_mk (st := T23.sHolds) ltholds ctholds ktholds
  have btholds := Ftholds.binds (ps := ["self", "key"]) fun _ _ _ _ _ _ us hl => by obtain ⟨a0, a1, rfl⟩ := len2 hl; rfl
  have Ftlast := fun_mk (st := T23.sLast) ltlast ctlast ktlast
  have btlast := Ftlast.binds (ps := ["self", "asker"]) fun _ _ _ _ _ _ us hl => by obtain ⟨a0, a1, rfl⟩ := len2 hl; rfl
  have Fttold := fun_mk (st := T23.sTold) lttold cttold kttold
  have bttold := Fttold.binds (ps := ["self"]) fun _ _ _ _ _ _ us hl => by obtain ⟨a0, rfl⟩ := len1 hl; rfl
  refine ⟨PySem.W.fnOf "law" "law" (defArgs sLaw) (defBody sLaw) (defScope sLaw) .none kVlaw dclaw pmlaw anlaw cdlaw ctlaw, fun s v => .of_eq rfl, fun base _ _ => ?_⟩
  have Acell : FnAt l.prog w K mg base 1 "_law_cell_at" ["_law_script", "_law_k"] (spCell K) := ⟨_, _, ok_cell Fcell nlen, PySem.W.mg_of X G acell, kcell, bcell⟩
  have Abits : FnAt l.prog w K mg base 1 "_law_bits" ["_law_cell", "_law_k"] spBits := ⟨_, _, ok_bits Fbits nmax, PySem.W.mg_of X G abits, kbits, bbits⟩
  have Anext : FnAt l.prog w K mg base 1 "_law_next" ["_law_bits_here"] spNext := ⟨_, _, ok_next Fnext, PySem.W.mg_of X G anext, knext, bnext⟩
  have Atake : FnAt l.prog w K mg base 2 "_law_take" ["_law_bits_here", "_law_size"] spTake := ⟨_, _, ok_take Ftake Anext, PySem.W.mg_of X G atake, ktake, btake⟩
  have Aname : FnAt l.prog w K mg base 3 "_law_name" ["_law_bits_here"] spName := ⟨_, _, ok_name Fname nrange Atake, PySem.W.mg_of X G aname, kname, bname⟩
  have Anumber : FnAt l.prog w K mg base 3 "_law_number" ["_law_bits_here"] spNumber := ⟨_, _, ok_number Fnumber Atake, PySem.W.mg_of X G anumber, knumber, bnumber⟩
  have Awork : FnAt l.prog w K mg base 4 "_law_work" ["_law_bits_here"] spWork := ⟨_, _, ok_work Fwork Atake Aname Anumber, PySem.W.mg_of X G awork, kwork, bwork⟩
  have Anames : FnAt l.prog w K mg base 4 "_law_names" ["_law_bits_here", "_law_least", "_law_most", "_law_apart"] spNames := ⟨_, _, ok_names Fnames nrange ntuple nsorted Atake Aname, PySem.W.mg_of X G anames, knames, bnames⟩
  have Abench : FnAt l.prog w K mg base 5 "_law_bench" ["_law_bits_here"] spBench := ⟨_, _, ok_bench Fbench Atake Anames, PySem.W.mg_of X G abench, kbench, bbench⟩
  have Adeed : FnAt l.prog w K mg base 6 "_law_deed" ["_law_bits_here"] spDeed := ⟨_, _, ok_deed Fdeed nabs Atake Abench Aname Anumber Awork, PySem.W.mg_of X G adeed, kdeed, bdeed⟩
  have Aentry : FnAt l.prog w K mg base 7 "_law_entry" ["_law_cell", "_law_k", "_law_term"] spEntry := ⟨_, _, ok_entry Fentry nmax Abits Atake Adeed, PySem.W.mg_of X G aentry, kentry, bentry⟩
  have Astand : FnAt l.prog w K mg base 6 "_law_stand" ["_law_cell"] spStand := ⟨_, _, ok_stand Fstand ntuple Abits Atake Abench Anumber Anames, PySem.W.mg_of X G astand, kstand, bstand⟩
  have Aentries : FnAt l.prog w K mg base 8 "_law_entries" ["_law_cells", "_law_term"] (spEntries K) := ⟨_, _, ok_entries Fentries nenumerate ntuple Aentry, PySem.W.mg_of X G aentries, kentries, bentries⟩
  have Minit : MkAt l.prog w K mg base C 1 ["self", "stand", "entries"] (spInit C) := ⟨_, _, ok_init Finit T ntuple, binit, ⟨mkC, ainit, iinit, kcC⟩⟩
  have Mlastp : MeAt l.prog w K mg base C 1 "last_place" ["self"] (spLastP C) := ⟨_, _, ok_lastP Flastp T nlen, blastp, ⟨alastp, ilastp, klastp⟩⟩
  have Mentat : MeAt l.prog w K mg base C 1 "entry_at" ["self", "place"] (spEntAt C) := ⟨_, _, ok_entAt Fentat T, bentat, ⟨aentat, ientat, kentat⟩⟩
  have Mupto : MeAt l.prog w K mg base C 1 "up_to" ["self", "place"] (spUpTo C) := ⟨_, _, ok_upTo Fupto T, bupto, ⟨aupto, iupto, kupto⟩⟩
  have Mbehind : MeAt l.prog w K mg base C 1 "behind" ["self", "place"] (spBehind C) := ⟨_, _, ok_behind Fbehind T, bbehind, ⟨abehind, ibehind, kbehind⟩⟩
  have Mtermat : MeAt l.prog w K mg base C 2 "term_at" ["self", "place"] (spTermAt C) := ⟨_, _, ok_termAt Ftermat T Mlastp Mentat, btermat, ⟨atermat, itermat, ktermat⟩⟩
  have Mlastt : MeAt l.prog w K mg base C 3 "last_term" ["self"] (spLastT C) := ⟨_, _, ok_lastT Flastt T Mlastp Mtermat, blastt, ⟨alastt, ilastt, klastt⟩⟩
  have Mbenchat : MeAt l.prog w K mg base C 2 "bench_at" ["self", "place"] (spBenchAt C) := ⟨_, _, ok_benchAt Fbenchat T nreversed Mupto, bbenchat, ⟨abenchat, ibenchat, kbenchat⟩⟩
  have Mbenchm : MeAt l.prog w K mg base C 3 "bench" ["self"] (spBenchM C) := ⟨_, _, ok_benchM Fbenchm T Mlastp Mbenchat, bbenchm, ⟨abenchm, ibenchm, kbenchm⟩⟩
  have Misb : MeAt l.prog w K mg base C 4 "is_behind" ["self", "place", "term"] (spIsB C) := ⟨_, _, ok_isB Fisb T Mlastp Mlastt, bisb, ⟨aisb, iisb, kisb⟩⟩
  have Mfilled : MeAt l.prog w K mg base C 3 "filled" ["self", "before", "there", "entries"] (spFilled C) := ⟨_, _, ok_filled Ffilled T nenumerate ntuple Minit Mtermat Mupto, bfilled, ⟨afilled, ifilled, kfilled⟩⟩
  have Mtinit : MkAt l.prog w K mg base CT 1 ["self", "held", "asked"] (T23.spInit K CT) := ⟨_, _, T23.ok_init Ftinit TT TB, btinit, ⟨mkCT, atinit, itinit, kcCT⟩⟩
  have Gh : FnOk l.prog w K mg base CX0 1 ftholds _ ["self", "key"] (T23.spHolds K CT) := T23.ok_holds Ftholds TT
  have Gl : FnOk l.prog w K mg base CX0 1 ftlast _ ["self", "asker"] (T23.spLast K CT) := T23.ok_last Ftlast TT
  have Gd : FnOk l.prog w K mg base CX0 2 ftdone _ ["self", "work"] (T23.spDone K CT) := T23.ok_done Ftdone TT Gh btholds ⟨atholds, itholds, ktholds⟩
  have Mtdoes : MeAt l.prog w K mg base CT 3 "does" ["self", "asker", "number", "work"] (T23.spDoes K CT) := ⟨_, _, T23.ok_does Ftdoes TT Gl btlast ⟨atlast, itlast, ktlast⟩ Gd btdone ⟨atdone, itdone, ktdone⟩, btdoes, ⟨atdoes, itdoes, ktdoes⟩⟩
  have Mttold : MeAt l.prog w K mg base CT 1 "told" ["self"] (T23.spTold K CT) := ⟨_, _, T23.ok_told Fttold TT TB, bttold, ⟨attold, ittold, kttold⟩⟩
  have Mcut : MeAt l.prog w K mg base C 3 "cut" ["self", "place", "table"] (spCut K C CT) := ⟨_, _, ok_cut Fcut T TT Mttold Mtermat Mbenchat Mbehind Minit, bcut, ⟨acut, icut, kcut⟩⟩
  have Atabat : FnAt l.prog w K mg base 4 "_law_table_at" ["_law_stand_here", "_law_entries_here", "_law_place"] (spTabAt K CT) := ⟨_, _, ok_tabAt Ftabat TT Mtinit Mtdoes, PySem.W.mg_of X G atabat, ktabat, btabat⟩
  have Asame : FnAt l.prog w K mg base 5 "_law_same_from" ["_law_row", "_law_cut_row", "_law_place"] (spSame C) := ⟨_, _, ok_same Fsame T nrange nmax Mlastp Mlastt Mtermat Mbenchat Mentat Misb Mbenchm, PySem.W.mg_of X G asame, ksame, bsame⟩
  have Afill : FnAt l.prog w K mg base 9 "_law_fillings" ["_law_row", "_law_cut_row", "_law_place", "_law_cells"] (spFill K C) := ⟨_, _, ok_fill Ffill T nenumerate Abits Atake Aentries Mlastp Mtermat Mfilled Mbehind, PySem.W.mg_of X G afill, kfill, bfill⟩
  exact ok_law Flaw T I TT nisinstance nlen nrange nsorted Acell Astand Aentries Abits Atake Atabat Asame Afill Minit Mttold Mcut Mtermat Mbenchat
theorem walk {l : PySem.W.OpenLaw} {q : Program} {loose : List Str} {XP : (Str → Option Value) → Heap → Prop} {YP : World → Heap → Prop} {d : DefRec} {K : Params → PySem.W.Frag} (hn : l.most = some 63) (hdf : d.params.defaults = [])
    (hY : ∀ (w : World) (h : Heap), YP w h → (K w.params).In h)
    (F : ∀ (w : World) (mg : Str → Option Value) (fa : Addr) (h : Heap), (K w.params).In h → h.Ns mainGlobals mg → mg d.name = some (.ref fa) →
      ∃ fd : FuncData, (∀ (s : Shared) (u : Value), BindsTo s fd ⟨[u], []⟩ [("_law_script", u)]) ∧ ∀ base : Heap, (K w.params).In base → base.Ns mainGlobals mg → FnOk l.prog w (K w.params) mg base CX0 10 fa fd ["_law_script"] (spLaw (K w.params))) :
    PySem.W.WalkO q loose XP YP l.row.toRowW d [] (fun f vs => PySem.call f vs) :=
  L2.walk_of (n := 63) (k := 10) (x := "_law_script") (CX := fun _ => CX0) (sp := fun w => spLaw (K w.params)) hn (by decide) hdf ⟨rfl, by decide, by decide⟩ hY F (fun _ _ a ns hl _ hS => ⟨a, ns, rfl, hS, hl, fun _ => rfl⟩) fun _ _ _ _ _ z => z
end K23
/- k_head lays a twin of the heap that it wrote out, and never asks for it (its type bears a Frag): 4 MB of the compiled file. These two stand in its place. -/
def PySem.W.Fast.tw9664722676031489517 : Nat := 0
theorem PySem.W.Fast.te9664722676031489517 : True := trivial
open PySem PySem.W PyProof.Rows
set_option maxRecDepth 100000 in
set_option maxHeartbeats 0 in
theorem PySem.Challenge.cw_chainhouse_k23_rows_cut_holds : PySem.Challenge.rw_chainhouse_k23_rows_cut.Holds := by
  w_on; o_law; k_head; (case hw => w_witness2)
  k_fill
  refine K23.walk (l := PySem.Challenge.rw_chainhouse_k23_rows_cut) rfl rfl (fun w h Y => PySem.W.kIn_of Y) ?F
  case F =>
    intro w mg fa h KX G hmg
    refine' K23.all_mk KX G hmg ?aC ?aCT ?acell ?lcell ?ccell ?kcell ?abits ?lbits ?cbits ?kbits ?anext ?lnext ?cnext ?knext ?atake ?ltake ?ctake ?ktake ?aname ?lname ?cname ?kname ?anames ?lnames ?cnames ?knames ?abench ?lbench ?cbench ?kbench ?anumber ?lnumber ?cnumber ?knumber ?awork ?lwork ?cwork ?kwork ?adeed ?ldeed ?cdeed ?kdeed ?aentry ?lentry ?centry ?kentry ?astand ?lstand ?cstand ?kstand ?aentries ?lentries ?centries ?kentries ?atabat ?ltabat ?ctabat ?ktabat ?asame ?lsame ?csame ?ksame ?afill ?lfill ?cfill ?kfill ?alaw ?llaw ?claw ?klaw ?ainit ?iinit ?linit ?cinit ?kinit ?alastp ?ilastp ?llastp ?clastp ?klastp ?alastt ?ilastt ?llastt ?clastt ?klastt ?atermat ?itermat ?ltermat ?ctermat ?ktermat ?aentat ?ientat ?lentat ?centat ?kentat ?aupto ?iupto ?lupto ?cupto ?kupto ?abehind ?ibehind ?lbehind ?cbehind ?kbehind ?abenchat ?ibenchat ?lbenchat ?cbenchat ?kbenchat ?abenchm ?ibenchm ?lbenchm ?cbenchm ?kbenchm ?aisb ?iisb ?lisb ?cisb ?kisb ?afilled ?ifilled ?lfilled ?cfilled ?kfilled ?acut ?icut ?lcut ?ccut ?kcut ?pgC ?hdC ?poC ?saC ?mkC ?kcC ?nC_stand ?nC_entries ?atinit ?itinit ?ltinit ?ctinit ?ktinit ?atdoes ?itdoes ?ltdoes ?ctdoes ?ktdoes ?atdone ?itdone ?ltdone ?ctdone ?ktdone ?atholds ?itholds ?ltholds ?ctholds ?ktholds ?atlast ?itlast ?ltlast ?ctlast ?ktlast ?attold ?ittold ?lttold ?cttold ?kttold ?pgCT ?hdCT ?poCT ?saCT ?mkCT ?kcCT ?nCT_held ?nCT_lasts ?zmax ?zrange ?ztuple ?zsorted ?zabs ?zenumerate ?zlen ?zisinstance ?zdict ?zreversed ?x1 ?x2 ?x3 ?x4
    (case aC => k_is)
    (case aCT => k_is)
    (case acell => k_is)
    (case lcell => k_is)
    (case ccell => k_is)
    (case kcell => k_is)
    (case abits => k_is)
    (case lbits => k_is)
    (case cbits => k_is)
    (case kbits => k_is)
    (case anext => k_is)
    (case lnext => k_is)
    (case cnext => k_is)
    (case knext => k_is)
    (case atake => k_is)
    (case ltake => k_is)
    (case ctake => k_is)
    (case ktake => k_is)
    (case aname => k_is)
    (case lname => k_is)
    (case cname => k_is)
    (case kname => k_is)
    (case anames => k_is)
    (case lnames => k_is)
    (case cnames => k_is)
    (case knames => k_is)
    (case abench => k_is)
    (case lbench => k_is)
    (case cbench => k_is)
    (case kbench => k_is)
    (case anumber => k_is)
    (case lnumber => k_is)
    (case cnumber => k_is)
    (case knumber => k_is)
    (case awork => k_is)
    (case lwork => k_is)
    (case cwork => k_is)
    (case kwork => k_is)
    (case adeed => k_is)
    (case ldeed => k_is)
    (case cdeed => k_is)
    (case kdeed => k_is)
    (case aentry => k_is)
    (case lentry => k_is)
    (case centry => k_is)
    (case kentry => k_is)
    (case astand => k_is)
    (case lstand => k_is)
    (case cstand => k_is)
    (case kstand => k_is)
    (case aentries => k_is)
    (case lentries => k_is)
    (case centries => k_is)
    (case kentries => k_is)
    (case atabat => k_is)
    (case ltabat => k_is)
    (case ctabat => k_is)
    (case ktabat => k_is)
    (case asame => k_is)
    (case lsame => k_is)
    (case csame => k_is)
    (case ksame => k_is)
    (case afill => k_is)
    (case lfill => k_is)
    (case cfill => k_is)
    (case kfill => k_is)
    (case alaw => k_is)
    (case llaw => k_is)
    (case claw => k_is)
    (case klaw => k_is)
    (case ainit => k_is)
    (case iinit => k_is)
    (case linit => k_is)
    (case cinit => k_is)
    (case kinit => k_is)
    (case alastp => k_is)
    (case ilastp => k_is)
    (case llastp => k_is)
    (case clastp => k_is)
    (case klastp => k_is)
    (case alastt => k_is)
    (case ilastt => k_is)
    (case llastt => k_is)
    (case clastt => k_is)
    (case klastt => k_is)
    (case atermat => k_is)
    (case itermat => k_is)
    (case ltermat => k_is)
    (case ctermat => k_is)
    (case ktermat => k_is)
    (case aentat => k_is)
    (case ientat => k_is)
    (case lentat => k_is)
    (case centat => k_is)
    (case kentat => k_is)
    (case aupto => k_is)
    (case iupto => k_is)
    (case lupto => k_is)
    (case cupto => k_is)
    (case kupto => k_is)
    (case abehind => k_is)
    (case ibehind => k_is)
    (case lbehind => k_is)
    (case cbehind => k_is)
    (case kbehind => k_is)
    (case abenchat => k_is)
    (case ibenchat => k_is)
    (case lbenchat => k_is)
    (case cbenchat => k_is)
    (case kbenchat => k_is)
    (case abenchm => k_is)
    (case ibenchm => k_is)
    (case lbenchm => k_is)
    (case cbenchm => k_is)
    (case kbenchm => k_is)
    (case aisb => k_is)
    (case iisb => k_is)
    (case lisb => k_is)
    (case cisb => k_is)
    (case kisb => k_is)
    (case afilled => k_is)
    (case ifilled => k_is)
    (case lfilled => k_is)
    (case cfilled => k_is)
    (case kfilled => k_is)
    (case acut => k_is)
    (case icut => k_is)
    (case lcut => k_is)
    (case ccut => k_is)
    (case kcut => k_is)
    (case pgC => k_is)
    (case hdC => k_is)
    (case poC => k_is)
    (case saC => k_is)
    (case mkC => k_is)
    (case kcC => k_is)
    (case nC_stand => k_is)
    (case nC_entries => k_is)
    (case atinit => k_is)
    (case itinit => k_is)
    (case ltinit => k_is)
    (case ctinit => k_is)
    (case ktinit => k_is)
    (case atdoes => k_is)
    (case itdoes => k_is)
    (case ltdoes => k_is)
    (case ctdoes => k_is)
    (case ktdoes => k_is)
    (case atdone => k_is)
    (case itdone => k_is)
    (case ltdone => k_is)
    (case ctdone => k_is)
    (case ktdone => k_is)
    (case atholds => k_is)
    (case itholds => k_is)
    (case ltholds => k_is)
    (case ctholds => k_is)
    (case ktholds => k_is)
    (case atlast => k_is)
    (case itlast => k_is)
    (case ltlast => k_is)
    (case ctlast => k_is)
    (case ktlast => k_is)
    (case attold => k_is)
    (case ittold => k_is)
    (case lttold => k_is)
    (case cttold => k_is)
    (case kttold => k_is)
    (case pgCT => k_is)
    (case hdCT => k_is)
    (case poCT => k_is)
    (case saCT => k_is)
    (case mkCT => k_is)
    (case kcCT => k_is)
    (case nCT_held => k_is)
    (case nCT_lasts => k_is)
    (case zmax => k_is)
    (case zrange => k_is)
    (case ztuple => k_is)
    (case zsorted => k_is)
    (case zabs => k_is)
    (case zenumerate => k_is)
    (case zlen => k_is)
    (case zisinstance => k_is)
    (case zdict => k_is)
    (case zreversed => k_is)
    (case x1 => k_is)
    (case x2 => k_is)
    (case x3 => k_is)
    (case x4 => k_is)

