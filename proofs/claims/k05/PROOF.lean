import PyProof.Rows.All
import Wide.All
import OpenK.AllK
import Wide.FinOn
import Lean
import PyProof.EqAt
import PyProof.EqKinds
import PyProof.TupleCall
import PySem.Challenge.RW_chainhouse_k05_whole_again_changes_nothi
set_option Elab.async false
set_option linter.all false
set_option maxRecDepth 100000
/-! THE HAND LAYER, for ints, bools, texts, own classes, DICTS (int and text keys), calls, loops. Paste it whole ahead of your own text; what your proof does not reach may be deleted. -/
namespace L2
open PySem PySem.Spec PyProof.Rows

/-- a key: an int or a str -/
abbrev Key := Sum Int Str
def keyIs : Key → Value → Bool
  | .inl k, v => Value.isInt k v
  | .inr x, v => Value.isStrOf x v
def keyH (w : World) : Key → Int
  | .inl k => hashInt k
  | .inr x => hashStr w x
theorem keyIs_shape : ∀ {k : Key} {v : Value}, keyIs k v = true → (∃ i t, k = Sum.inl i ∧ v = Value.int i t) ∨ (∃ x t, k = Sum.inr x ∧ v = Value.str x t)
  | .inl i, v, h => by
    obtain ⟨t, e⟩ := Value.isInt_shape (k := i) (v := v) h
    exact .inl ⟨i, t, rfl, e⟩
  | .inr x, v, h => by
    obtain ⟨t, e⟩ := Value.isStrOf_shape (x := x) (v := v) h
    exact .inr ⟨x, t, rfl, e⟩
theorem keyIs_int (i : Int) (t : Tok) : keyIs (.inl i) (.int i t) = true := by simp [keyIs, Value.isInt]
theorem keyIs_str (x : Str) (t : Tok) : keyIs (.inr x) (.str x t) = true := by simp [keyIs, Value.isStrOf]
theorem key_ll (a b : Int) : decide ((Sum.inl a : Key) = Sum.inl b) = (a == b) := by
  by_cases e : a = b
  · subst e; simp
  · have h : ¬ (Sum.inl a : Key) = Sum.inl b := fun q => e (Sum.inl.inj q)
    rw [decide_eq_false h]
    exact (beq_eq_false_iff_ne.mpr e).symm
theorem key_rr (a b : Str) : decide ((Sum.inr a : Key) = Sum.inr b) = decide (a = b) := by
  by_cases e : a = b
  · subst e; simp
  · have h : ¬ (Sum.inr a : Key) = Sum.inr b := fun q => e (Sum.inr.inj q)
    rw [decide_eq_false h, decide_eq_false e]
theorem key_lr (a : Int) (b : Str) : decide ((Sum.inl a : Key) = Sum.inr b) = false := decide_eq_false (fun q => nomatch q)
theorem key_rl (a : Str) (b : Int) : decide ((Sum.inr a : Key) = Sum.inl b) = false := decide_eq_false (fun q => nomatch q)

def mixKind (prog : Program) (w : World) : PySem.KeyKind prog w Key where
  is := keyIs
  hash := keyH w
  inj := fun v a b ha hb => by
    rcases keyIs_shape ha with ⟨i, t, rfl, rfl⟩ | ⟨x, t, rfl, rfl⟩
    · rcases keyIs_shape hb with ⟨j, u, rfl, e⟩ | ⟨y, u, rfl, e⟩
      · injection e with e1 _; rw [e1]
      · exact nomatch e
    · rcases keyIs_shape hb with ⟨j, u, rfl, e⟩ | ⟨y, u, rfl, e⟩
      · exact nomatch e
      · injection e with e1 _; rw [e1]
  byValue := fun k v h => by
    rcases keyIs_shape h with ⟨i, t, rfl, rfl⟩ | ⟨x, t, rfl, rfl⟩ <;> rfl
  pyHash := fun hv h => by
    rcases keyIs_shape hv with ⟨i, t, rfl, rfl⟩ | ⟨x, t, rfl, rfl⟩
    · exact wpAny_pyHash_int h
    · exact wpAny_pyHash_str h
  eqBool := fun hu hv h => by
    rcases keyIs_shape hu with ⟨i, t, rfl, rfl⟩ | ⟨x, t, rfl, rfl⟩
    · rcases keyIs_shape hv with ⟨j, u, rfl, rfl⟩ | ⟨y, u, rfl, rfl⟩
      · rw [key_ll] at h; exact wpAny_eqBool_int h
      · rw [key_lr] at h; exact SeqAt.EqAt.int_str i t y u _ _ _ _ h
    · rcases keyIs_shape hv with ⟨j, u, rfl, rfl⟩ | ⟨y, u, rfl, rfl⟩
      · rw [key_rl] at h; exact SeqAt.EqAt.str_int x t j u _ _ _ _ h
      · rw [key_rr] at h; exact wpAny_eqBool_str h
  «strs» := fun k x t v h => by
    rcases keyIs_shape h with ⟨i, u, rfl, e⟩ | ⟨y, u, rfl, e⟩
    · exact nomatch e
    · injection e with e1 _
      subst e1
      cases v <;> rfl

theorem mixKind_is (prog : Program) (w : World) (k : Key) (v : Value) : (mixKind prog w).is k v = keyIs k v := rfl
theorem mixKind_int (prog : Program) (w : World) (i : Int) (t : Tok) : (mixKind prog w).is (.inl i) (.int i t) = true := keyIs_int i t
theorem mixKind_str (prog : Program) (w : World) (x : Str) (t : Tok) : (mixKind prog w).is (.inr x) (.str x t) = true := keyIs_str x t
end L2

namespace L2
open PySem PySem.Spec PyProof.Rows

/-- a value, without the heap -/
inductive V where
  | non | bl (b : Bool) | int (i : Int) | str (x : Str) | byt (b : Array UInt8) | flt (b : UInt64) | ref (a : Addr) | ty (n : String)
  deriving DecidableEq

def RelV : V → Value → Prop
  | .non, u => u = Value.none
  | .bl b, u => u = Value.bool b
  | .int i, u => ∃ t, u = Value.int i t
  | .str x, u => ∃ t, u = Value.str x t
  | .byt b, u => ∃ t, u = Value.bytes b t
  | .flt b, u => ∃ t, u = Value.float b t
  | .ref a, u => u = Value.ref a
  | .ty n, u => u = Value.type n

abbrev Vals : List V → List Value → Prop := Paired RelV
theorem Vals.length {xs : List V} {us : List Value} (r : Vals xs us) : xs.length = us.length := Paired.length r
theorem Vals.get : ∀ {xs : List V} {us : List Value} {i : Nat} {x : V}, Vals xs us → xs[i]? = some x → ∃ u, us[i]? = some u ∧ RelV x u
  | _, _, _, _, .nil, e => by simp at e
  | _, _, 0, _, .cons r _, e => by simp at e; subst e; exact ⟨_, rfl, r⟩
  | _, _, i + 1, x, .cons _ t, e => by
    obtain ⟨u, h1, h2⟩ := Vals.get (i := i) (x := x) t (by simpa using e)
    exact ⟨u, by simpa using h1, h2⟩
theorem Vals.set {x : V} {u : Value} (r : RelV x u) : ∀ {xs : List V} {us : List Value} (i : Nat), Vals xs us → Vals (xs.set i x) (us.set i u)
  | _, _, _, .nil => .nil
  | _, _, 0, .cons _ t => .cons r t
  | _, _, i + 1, .cons q t => .cons q (Vals.set r i t)
theorem Vals.append : ∀ {xs ys : List V} {us ws : List Value}, Vals xs us → Vals ys ws → Vals (xs ++ ys) (us ++ ws)
  | _, _, _, _, .nil, s => s
  | _, _, _, _, .cons r t, s => .cons r (Vals.append t s)
theorem Vals.take : ∀ {xs : List V} {us : List Value} (n : Nat), Vals xs us → Vals (xs.take n) (us.take n)
  | _, _, 0, _ => .nil
  | _, _, _ + 1, .nil => .nil
  | _, _, n + 1, .cons r t => .cons r (Vals.take n t)
theorem Vals.drop : ∀ {xs : List V} {us : List Value} (n : Nat), Vals xs us → Vals (xs.drop n) (us.drop n)
  | _, _, 0, r => r
  | _, _, _ + 1, .nil => .nil
  | _, _, n + 1, .cons _ t => Vals.drop n t
theorem Vals.none_of : ∀ {xs : List V} {us : List Value} {i : Nat}, Vals xs us → xs[i]? = none → us[i]? = none := fun {xs us i} r e => by
  have h1 := r.length
  have h2 : xs.length ≤ i := List.getElem?_eq_none_iff.mp e
  exact List.getElem?_eq_none_iff.mpr (by omega)

def RelO : Option V → Option Value → Prop
  | some v, some u => RelV v u
  | none, none => True
  | _, _ => False
def KV {κ : Type} : List (κ × V) → List (κ × Value) → Prop := Paired fun (p : κ × V) (q : κ × Value) => p.1 = q.1 ∧ RelV p.2 q.2

/-- a key of a dict (00_mix): an int or a text -/
def kV : Key → V
  | .inl i => .int i
  | .inr x => .str x

/-- what stands at a tracked address -/
inductive HO where
  /-- a list -/
  | lst (xs : List V)
  /-- a tuple (never changes) -/
  | tup (xs : List V)
  /-- a dict whose keys are ints and texts; one whose keys are tuples of ints and texts (the empty one is both) -/
  | dK (kvs : List (Key × V)) | dT (kvs : List (List Key × V))
  /-- a set of ints: its members, its size -/
  | set (S : Int → Bool) (n : Nat)
  /-- an instance of the class at C, its dict at dx, its attributes -/
  | ins (C dx : Addr) (fs : List (Str × V))
  /-- the dict of the instance at x -/
  | own (x : Addr)
  /-- the dict of an exception -/
  | xd (fs : List (Str × V))
  /-- a bound method, f of x -/
  | met (f x : Addr)
  /-- a range object lo, lo + 1, .. below hi -/
  | rng (lo hi : Int)
  /-- a thing that is known to the object (the script; a dict while a loop walks it): read, never written while it is so -/
  | frz (o : Obj) (u : HO)
  /-- a code object's table -/
  | tbl (ps : Array Value)
  /-- any other thing, by what is true of its one object (a def of one's own: SetO a S n := HO.ext fun h => ..) -/
  | ext (φ : Heap → Prop)

abbrev Hp := Addr → Option HO
def upd (H : Hp) (a : Addr) (o : HO) : Hp := fun b => if b = a then some o else H b
theorem upd_same {H : Hp} {a : Addr} {o : HO} : upd H a o a = some o := by unfold upd; rw [if_pos rfl]
theorem upd_ne {H : Hp} {a b : Addr} {o : HO} (h : b ≠ a) : upd H a o b = H b := by unfold upd; rw [if_neg h]
theorem upd_upd {H : Hp} {a : Addr} {o u : HO} : upd (upd H a o) a u = upd H a u := by
  funext b; unfold upd; split <;> rfl
/-- two objects of different content stand apart -/
theorem ne_of {H : Hp} {a b : Addr} {o u : HO} (h : H a = some o) (h' : H b = some u) (d : o ≠ u) : a ≠ b := by
  intro e; subst e; rw [h] at h'; exact d (Option.some.inj h')
theorem ne_of_none {H : Hp} {a b : Addr} {o : HO} (h : H a = some o) (h' : H b = none) : a ≠ b := by
  intro e; subst e; rw [h] at h'; cases h'

section
variable (P : Program) (w : World)
def ObjOk (H : Hp) (h : Heap) (a : Addr) : HO → Prop
  | .lst xs => xs.length ≤ sizeLine ∧ ∃ (its : List Value) (n : Nat), Vals xs its ∧ h.get? a = some { cls := .type "list", data := .seq its.toArray n }
  | .tup xs => xs.length ≤ sizeLine ∧ ∃ its : List Value, Vals xs its ∧ IsTup h a its.toArray
  | .dK kvs => kvs.length ≤ sizeLine ∧ (a == sysModules) = false ∧ ∃ vs, KV kvs vs ∧ h.DictOf (mixKind P w) a vs
  | .dT kvs => kvs.length ≤ sizeLine ∧ (a == sysModules) = false ∧ ∃ xs : List (List Key × Addr × Value),
      Paired (fun (p : List Key × V) (q : List Key × Addr × Value) => p.1 = q.1 ∧ H q.2.1 = some (.tup (p.1.map kV)) ∧ RelV p.2 q.2.2) kvs xs ∧
      ∃ o es ep, h.get? a = some o ∧ o.ExactDict ∧ o.data = .dict es ep ∧ es.toList = xs.map (entryOfKey (tupleKind (mixKind P w))) ∧ (xs.map (·.1)).Nodup
  | .set S n => h.SetOf (intKind P w) a S n
  | .ins C dx fs => H dx = some (.own a) ∧ fs.length ≤ 1000 ∧ dx ≠ a ∧ h.get? a = some (PySem.W.instObj C dx) ∧
      ∃ mA, h.Ns1 dx mA ∧ (∀ f, RelO (fs.lookup f) (mA f)) ∧ PySem.Within mA (fs.map (·.1))
  | .own _ => ∃ o, h.get? a = some o
  | .xd fs => ∃ mA, h.Ns1 a mA ∧ ∀ f, RelO (fs.lookup f) (mA f)
  | .rng lo hi => ∃ t u v, h.get? a = some { cls := .type "range", data := .fields #[.int lo t, .int hi u, .int 1 v] }
  | .frz o u => h.get? a = some o ∧ ObjOk H h a u
  | .tbl ps => h.get? a = some { cls := .none, data := .fields ps }
  | .met f x => h.get? a = some (PySem.W.methodObj (.ref f) (.ref x))
  | .ext φ => φ h ∧ (∃ o, h.get? a = some o) ∧ ∀ h1 h2 : Heap, φ h1 → (∀ o, h1.get? a = some o → h2.get? a = some o) → φ h2
/-- the abstract heap is held -/
def HOk (H : Hp) (h : Heap) : Prop := ∀ a o, H a = some o → ObjOk P w H h a o
end

section
variable {P : Program} {w : World} {H H' : Hp} {h h' : Heap} {a : Addr} {o : HO}
theorem ObjOk.lt (x : ObjOk P w H h a o) : a < h.objs.size := by
  cases o with
  | lst xs => obtain ⟨_, _, _, _, e⟩ := x; exact Heap.lt_size e
  | tup xs => obtain ⟨_, _, _, p⟩ := x; exact p.lt
  | dK kvs => obtain ⟨_, _, _, _, o, _, _, e, _⟩ := x; exact Heap.lt_size e
  | dT kvs => obtain ⟨_, _, _, _, o, _, _, e, _⟩ := x; exact Heap.lt_size e
  | set S n => obtain ⟨o, _, _, _, e, _⟩ := x; exact Heap.lt_size e
  | ins C dx fs => obtain ⟨_, _, _, e, _⟩ := x; exact Heap.lt_size e
  | own y => obtain ⟨_, e⟩ := x; exact Heap.lt_size e
  | xd fs => obtain ⟨_, ⟨_, _, _, e, _⟩, _⟩ := x; exact Heap.lt_size e
  | rng lo hi => obtain ⟨_, _, _, e⟩ := x; exact Heap.lt_size e
  | frz ob u => obtain ⟨e, _⟩ := x; exact Heap.lt_size e
  | tbl ps => exact Heap.lt_size (show h.get? a = some _ from x)
  | met f y => exact Heap.lt_size (show h.get? a = some _ from x)
  | ext φ => obtain ⟨_, ⟨_, e⟩, _⟩ := x; exact Heap.lt_size e
theorem Paired.mapP {α β : Type} {F G : α → β → Prop} : ∀ {l₁ : List α} {l₂ : List β}, Paired F l₁ l₂ → (∀ a b, F a b → G a b) → Paired G l₁ l₂
  | _, _, .nil, _ => .nil
  | _, _, .cons r t, f => .cons (f _ _ r) (Paired.mapP t f)
theorem Paired.imp' {α β : Type} {F G : α → β → Prop} (f : ∀ a b, F a b → G a b) {l₁ : List α} {l₂ : List β} (r : Paired F l₁ l₂) : Paired G l₁ l₂ := Paired.mapP r f
/-- what an object's description leans on: its own object, its own dict, the tuples -/
theorem ObjOk.stay (x : ObjOk P w H h a o) (k : ∀ b u, (b = a ∨ H b = some (.own a)) → h.get? b = some u → h'.get? b = some u)
    (ho : ∀ b, H b = some (.own a) → H' b = some (.own a)) (ht : ∀ b xs, H b = some (.tup xs) → H' b = some (.tup xs)) : ObjOk P w H' h' a o := by
  induction o with
  | lst xs => obtain ⟨z, its, n, r, e⟩ := x; exact ⟨z, its, n, r, k _ _ (.inl rfl) e⟩
  | tup xs => obtain ⟨z, its, r, ob, e, c⟩ := x; exact ⟨z, its, r, ob, k _ _ (.inl rfl) e, c⟩
  | dK kvs => obtain ⟨z, y, vs, r, ob, es, ep, e, c⟩ := x; exact ⟨z, y, vs, r, ob, es, ep, k _ _ (.inl rfl) e, c⟩
  | dT kvs =>
    obtain ⟨z, y, xs, r, ob, es, ep, e, c⟩ := x
    exact ⟨z, y, xs, Paired.mapP r fun p q z => ⟨z.1, ht _ _ z.2.1, z.2.2⟩, ob, es, ep, k _ _ (.inl rfl) e, c⟩
  | set S n => obtain ⟨ob, es, ep, t, e, c⟩ := x; exact ⟨ob, es, ep, t, k _ _ (.inl rfl) e, c⟩
  | ins C dx fs =>
    obtain ⟨d, z, ne, e, mA, ⟨od, es, ep, e2, c⟩, r⟩ := x
    exact ⟨ho _ d, z, ne, k _ _ (.inl rfl) e, mA, ⟨od, es, ep, k _ _ (.inr d) e2, c⟩, r⟩
  | own y => obtain ⟨ob, e⟩ := x; exact ⟨ob, k _ _ (.inl rfl) e⟩
  | xd fs => obtain ⟨mA, ⟨od, es, ep, e, c⟩, r⟩ := x; exact ⟨mA, ⟨od, es, ep, k _ _ (.inl rfl) e, c⟩, r⟩
  | rng lo hi => obtain ⟨t, u, v, e⟩ := x; exact ⟨t, u, v, k _ _ (.inl rfl) e⟩
  | frz ob u ih => obtain ⟨e, q⟩ := x; exact ⟨k _ _ (.inl rfl) e, ih q⟩
  | tbl ps =>
    have e : h.get? a = some { cls := .none, data := .fields ps } := x
    show h'.get? a = some { cls := .none, data := .fields ps }
    exact k a _ (.inl rfl) e
  | met f y =>
    have e : h.get? a = some (PySem.W.methodObj (.ref f) (.ref y)) := x
    show h'.get? a = some (PySem.W.methodObj (.ref f) (.ref y))
    exact k a _ (.inl rfl) e
  | ext φ => obtain ⟨p, ⟨o, e⟩, st⟩ := x; exact ⟨st _ _ p fun o q => k _ _ (.inl rfl) q, ⟨o, k _ _ (.inl rfl) e⟩, st⟩
theorem HOk.lt (x : HOk P w H h) (e : H a = some o) : a < h.objs.size := (x a o e).lt
theorem HOk.fresh (x : HOk P w H h) (e : h.objs.size ≤ a) : H a = none := by
  cases q : H a with
  | none => rfl
  | some u => exact absurd (Nat.lt_of_lt_of_le (x.lt q) e) (Nat.lt_irrefl _)
/-- every object of the heap is kept -/
theorem HOk.kept (x : HOk P w H h) (k : ∀ b u, h.get? b = some u → h'.get? b = some u) : HOk P w H h' := fun a o e =>
  (x a o e).stay (fun b u _ q => k b u q) (fun _ q => q) fun _ _ q => q
/-- a new object is laid and tracked -/
theorem HOk.laid (x : HOk P w H h) (k : ∀ b u, h.get? b = some u → h'.get? b = some u) (hp : h.objs.size ≤ a) (new : ObjOk P w (upd H a o) h' a o) : HOk P w (upd H a o) h' := fun b u e => by
  have hn := x.fresh hp
  by_cases hb : b = a
  · subst hb; rw [upd_same] at e; cases e; exact new
  · rw [upd_ne hb] at e
    exact (x b u e).stay (fun c v _ q => k c v q) (fun c q => by rw [upd_ne (ne_of_none q hn)]; exact q) fun c xs q => by rw [upd_ne (ne_of_none q hn)]; exact q
end

/-- what may be read as u: it is u, or a known u -/
def Rd (H : Hp) (a : Addr) (u : HO) : Prop := H a = some u ∨ ∃ o, H a = some (.frz o u)
theorem Rd.of {H : Hp} {a : Addr} {u : HO} (h : H a = some u) : Rd H a u := .inl h
theorem Rd.ok {P : Program} {w : World} {H : Hp} {h : Heap} {a : Addr} {u : HO} (r : Rd H a u) (x : HOk P w H h) : ObjOk P w H h a u := by
  rcases r with r | ⟨o, r⟩
  · exact x a u r
  · obtain ⟨_, q⟩ := x a _ r
    exact q
/-- what may be written -/
def Mut : Option HO → Prop
  | some (.lst _) => True
  | some (.dK _) => True
  | some (.dT _) => True
  | some (.set _ _) => True
  | some (.ins _ _ _) => True
  | some (.ext _) => True
  | _ => False
section
variable {P : Program} {w : World} {H : Hp} {h h' : Heap} {x e : Addr} {o' : HO}
/-- the object at e is changed: x itself, or the dict of the instance x -/
theorem HOk.write (ok : HOk P w H h) (mu : Mut (H x)) (he : e = x ∨ H e = some (.own x)) (k : ∀ b u, b ≠ e → h.get? b = some u → h'.get? b = some u) (heo : ∃ u, h'.get? e = some u)
    (new : ObjOk P w (upd H x o') h' x o') : HOk P w (upd H x o') h' := fun b u q => by
  have nown : ∀ c y, H c = some (.own y) → c ≠ x := fun c y r z => by subst z; rw [r] at mu; exact mu
  have ntup : ∀ c xs, H c = some (.tup xs) → c ≠ x := fun c xs r z => by subst z; rw [r] at mu; exact mu
  by_cases hb : b = x
  · subst hb; rw [upd_same] at q; cases q; exact new
  · rw [upd_ne hb] at q
    by_cases hbe : b = e
    · have q' : H b = some (.own x) := by
        rcases he with z | z
        · exact absurd (hbe.trans z) hb
        · rw [hbe]; exact z
      rw [q] at q'; cases q'
      obtain ⟨v, hv⟩ := heo
      exact ⟨v, by rw [hbe]; exact hv⟩
    · refine (ok b u q).stay (fun c v hc r => k c v ?_ r) (fun c r => by rw [upd_ne (nown c b r)]; exact r) fun c xs r => by rw [upd_ne (ntup c xs r)]; exact r
      rcases hc with rfl | hc
      · exact hbe
      · rintro rfl
        rcases he with z | z
        · exact nown c b hc z
        · rw [hc] at z; cases z; exact hb rfl
end

/-! ### kept unless tracked; of the frames at fs (the callers') the slots may change (an exception that passes writes there); of the records at ex (iterators) nothing is said -/
structure Un (fs ex : List Addr) (H H' : Hp) (h h' : Heap) : Prop where
  keep : ∀ b o, h.get? b = some o → H b = none → b ∉ fs → b ∉ ex → h'.get? b = some o
  slot : ∀ b o, h.get? b = some o → H b = none → b ∈ fs → b ∉ ex → ∃ sl, h'.get? b = some { o with slots := sl }
  free : ∀ b o, h.get? b = some o → H b = none → b ∉ ex → H' b = none
  there : ∀ b o, h.get? b = some o → b ∉ ex → ∃ o', h'.get? b = some o'
  tups : ∀ b xs, H b = some (.tup xs) → H' b = some (.tup xs)
  frzs : ∀ b o u, H b = some (.frz o u) → H' b = some (.frz o u)
  tbls : ∀ b ps, H b = some (.tbl ps) → ∃ more, H' b = some (.tbl (ps ++ more))
section
variable {fs fs' ex ex' : List Addr} {H H1 H2 : Hp} {h h1 h2 h' : Heap} {a x e : Addr} {o : HO}
theorem Un.any (u : Un fs ex H H1 h h1) {b : Addr} {ob : Obj} (q : h.get? b = some ob) (n : H b = none) (hx : b ∉ ex) : ∃ sl, h1.get? b = some { ob with slots := sl } := by
  by_cases hb : b ∈ fs
  · exact u.slot b ob q n hb hx
  · exact ⟨ob.slots, u.keep b ob q n hb hx⟩
theorem Un.trans (a : Un fs ex H H1 h h1) (b : Un fs ex H1 H2 h1 h2) : Un fs ex H H2 h h2 where
  keep := fun c ob q n hc hx => b.keep c ob (a.keep c ob q n hc hx) (a.free c ob q n hx) hc hx
  slot := fun c ob q n hc hx => by
    obtain ⟨sl, e1⟩ := a.slot c ob q n hc hx
    obtain ⟨sl', e2⟩ := b.slot c _ e1 (a.free c ob q n hx) hc hx
    exact ⟨sl', e2⟩
  free := fun c ob q n hx => by
    obtain ⟨o', e1⟩ := a.there c ob q hx
    exact b.free c o' e1 (a.free c ob q n hx) hx
  there := fun c ob q hx => by
    obtain ⟨o', e1⟩ := a.there c ob q hx
    exact b.there c o' e1 hx
  tups := fun c xs q => b.tups c xs (a.tups c xs q)
  frzs := fun c ob xs q => b.frzs c ob xs (a.frzs c ob xs q)
  tbls := fun c ps q => by
    obtain ⟨m1, e1⟩ := a.tbls c ps q
    obtain ⟨m2, e2⟩ := b.tbls c _ e1
    exact ⟨m1 ++ m2, by rw [e2, Array.append_assoc]⟩
theorem Un.kept (k : ∀ b u, h.get? b = some u → h'.get? b = some u) : Un fs ex H H h h' :=
  ⟨fun b ob q _ _ _ => k b ob q, fun b ob q _ _ _ => ⟨ob.slots, k b ob q⟩, fun _ _ _ n _ => n, fun b ob q _ => ⟨ob, k b ob q⟩, fun _ _ q => q, fun _ _ _ q => q, fun _ ps q => ⟨#[], by rw [q]; simp⟩⟩
theorem Un.refl : Un fs ex H H h h := Un.kept fun _ _ q => q
theorem Un.laid (k : ∀ b u, h.get? b = some u → h'.get? b = some u) (hp : h.objs.size ≤ a) (hn : H a = none) : Un fs ex H (upd H a o) h h' where
  keep := fun b u q _ _ _ => k b u q
  slot := fun b u q _ _ _ => ⟨u.slots, k b u q⟩
  free := fun b u q n _ => by rw [upd_ne (Nat.ne_of_lt (Nat.lt_of_lt_of_le (Heap.lt_size q) hp))]; exact n
  there := fun b u q _ => ⟨u, k b u q⟩
  tups := fun b xs q => by rw [upd_ne (ne_of_none q hn)]; exact q
  frzs := fun b u xs q => by rw [upd_ne (ne_of_none q hn)]; exact q
  tbls := fun b ps q => ⟨#[], by rw [upd_ne (ne_of_none q hn), q]; simp⟩
theorem Un.write (mu : Mut (H x)) (he : e = x ∨ H e = some (.own x)) (k : ∀ b u, b ≠ e → h.get? b = some u → h'.get? b = some u) (heo : ∃ u, h'.get? e = some u) : Un fs ex H (upd H x o) h h' := by
  have hx : ∀ b, H b = none → b ≠ x := fun b n z => by subst z; rw [n] at mu; exact mu
  have hb : ∀ b, H b = none → b ≠ e := fun b n z => by
    subst z
    rcases he with r | r
    · exact hx b n r
    · rw [n] at r; cases r
  have hm : ∀ b u, H b = some u → ¬ Mut (some u) → b ≠ x := fun b u q nm z => by subst z; rw [q] at mu; exact nm mu
  refine ⟨fun b u q n _ _ => k b u (hb b n) q, fun b u q n _ _ => ⟨u.slots, k b u (hb b n) q⟩, fun b u q n _ => by rw [upd_ne (hx b n)]; exact n, fun b u q _ => ?_,
    fun b xs q => by rw [upd_ne (hm b _ q fun z => z)]; exact q, fun b u xs q => by rw [upd_ne (hm b _ q fun z => z)]; exact q, fun b ps q => ⟨#[], by rw [upd_ne (hm b _ q fun z => z), q]; simp⟩⟩
  by_cases hbe : b = e
  · subst hbe; exact heo
  · exact ⟨u, k b u hbe q⟩
theorem Un.mono (u : Un fs ex H H1 h h1) (hs : ∀ b ∈ fs, b ∈ fs') (hx : ∀ b ∈ ex, b ∈ ex') : Un fs' ex' H H1 h h1 :=
  ⟨fun b ob q n hb he => u.keep b ob q n (fun z => hb (hs b z)) fun z => he (hx b z), fun _ _ q n _ he => u.any q n fun z => he (hx _ z), fun b ob q n he => u.free b ob q n fun z => he (hx b z), fun b ob q he => u.there b ob q fun z => he (hx b z), u.tups, u.frzs, u.tbls⟩
end

/-! ### the heap without what is tracked -/
def trk (h : Heap) (H : Hp) : List Addr := (List.range h.objs.size).filter fun a => (H a).isSome
def hidT (h : Heap) (H : Hp) : Heap := PySem.W.hideAll h (trk h H)
theorem hidT_size (h : Heap) (H : Hp) : (hidT h H).objs.size = h.objs.size := PySem.W.hideAll_size _ _
theorem hidT_get {h : Heap} {H : Hp} {b : Addr} {o : Obj} (e : h.get? b = some o) (n : H b = none) : (hidT h H).get? b = some o :=
  PySem.W.hideAll_get _ e fun hm => by
    have q : (H b).isSome = true := (List.mem_filter.mp hm).2
    rw [n] at q; simp at q
theorem of_hidT {h : Heap} {H : Hp} {b : Addr} {o : Obj} (e : (hidT h H).get? b = some o) : h.get? b = some o ∧ H b = none := by
  have e' : h.get? b = some o := PySem.W.of_hideAll (trk h H) e
  refine ⟨e', ?_⟩
  cases q : H b with
  | none => rfl
  | some x =>
    have hm : b ∈ trk h H := List.mem_filter.mpr ⟨List.mem_range.mpr (Heap.lt_size e'), by simp [q]⟩
    have z : (hidT h H).get? b = none := PySem.W.hideAll_none (trk h H) hm
    rw [z] at e; cases e

/-! ### OpenK's ledger, filled with every new object but one -/
def allNews (g h : Heap) (L : Addr) : List (Addr × Obj) := (List.range h.objs.size).filterMap fun a => if a = L ∨ (g.get? a).isSome = true then none else (h.get? a).map fun o => (a, o)
theorem mem_allNews {g h : Heap} {L a : Addr} {o : Obj} (h1 : a ≠ L) (h2 : g.get? a = none) (h3 : h.get? a = some o) : (a, o) ∈ allNews g h L :=
  List.mem_filterMap.mpr ⟨a, List.mem_range.mpr (Heap.lt_size h3), by simp [h1, h2, h3]⟩
theorem of_mem_allNews {g h : Heap} {L : Addr} {p : Addr × Obj} (hp : p ∈ allNews g h L) : p.1 ≠ L ∧ g.get? p.1 = none ∧ h.get? p.1 = some p.2 := by
  obtain ⟨b, _, e⟩ := List.mem_filterMap.mp hp
  split at e
  · cases e
  · rename_i hn
    cases q : h.get? b with
    | none => rw [q] at e; simp at e
    | some u =>
      rw [q] at e
      simp only [Option.map_some, Option.some.injEq] at e
      subst e
      refine ⟨fun z => hn (.inl z), ?_, q⟩
      show g.get? b = none
      cases r : g.get? b with
      | none => rfl
      | some v => exact (hn (.inr (by simp [r]))).elim
def rest (g h : Heap) (L d : Addr) : List (Addr × Obj) := (allNews g h L).filter fun p => decide (p.1 ≠ d)
theorem rest_ne {g h : Heap} {L d : Addr} : ∀ p ∈ rest g h L d, p.1 ≠ d := fun p hp => of_decide_eq_true (List.mem_filter.mp hp).2
theorem mem_rest {g h : Heap} {L d a : Addr} {o : Obj} (h1 : a ≠ L) (h2 : g.get? a = none) (h3 : h.get? a = some o) (h4 : a ≠ d) : (a, o) ∈ rest g h L d :=
  List.mem_filter.mpr ⟨mem_allNews h1 h2 h3, decide_eq_true h4⟩
theorem news_all {g h : Heap} {L : Addr} : News g L h (allNews g h L) := fun p hp => let ⟨a, b, c⟩ := of_mem_allNews hp; ⟨c, a, b⟩
theorem news_at {g h : Heap} {L d : Addr} {o : Obj} (h1 : d ≠ L) (h2 : g.get? d = none) (h3 : h.get? d = some o) : News g L h ((d, o) :: rest g h L d) := fun p hp => by
  rcases List.mem_cons.mp hp with rfl | hp
  · exact ⟨h3, h1, h2⟩
  · exact news_all p (List.mem_filter.mp hp).1
/-- behind a rule that changed d alone: all else but the frame is kept -/
theorem kept_of_news {g h h' : Heap} {L d : Addr} {m : Str → Option Value} (k : ∀ b o, g.get? b = some o → h.get? b = some o) (F : Fr g L h' m) (N : News g L h' (rest g h L d)) :
    ∀ b o, b ≠ L → b ≠ d → h.get? b = some o → h'.get? b = some o := fun b o h1 h2 e => by
  cases q : g.get? b with
  | some u =>
    have := k b u q
    rw [e] at this; cases this
    exact F.keep b _ q
  | none => exact (N (b, o) (mem_rest h1 q e h2)).1
end L2

namespace L2
open PySem PySem.Spec PyProof.Rows

/-- the module's facts, over the base: the heap at the law's entry without what is tracked there -/
structure Mod (K : PySem.W.Frag) (mg : Str → Option Value) (base : Heap) : Prop where
  kin : K.In base
  glob : base.Ns mainGlobals mg
  blt : ∃ mb, base.Ns builtinsNs mb ∧ ∀ x : Str, x ≠ "__name__" → mb x = bootBuiltins x
  nolimit : base.NoLimit

/-- the context: a def's body (or a comprehension's block) running. base: fixed through the whole law; s₀, H₀: the entry; outer: the frames whose slots others may change (a def's callers); stack: all frames that run;
   ex: iterators that were made ahead of the entry and are walked here (a comprehension's); fn: the names whose cells were made at the entry (a def: all; a comprehension's block: its own); calm: not within an except suite; pn: pins that every state bears; xe: what is wanted of an exception that leaves the code -/
structure Cx where
  prog : Program
  w : World
  K : PySem.W.Frag
  mg : Str → Option Value
  base : Heap
  A : Around
  N : List Str
  s₀ : Shared
  H₀ : Hp
  env : Env
  outer : List Env
  stack : List Env
  ex : List Addr
  fn : Str → Bool
  calm : Bool
  pn : List (Addr × Obj)
  xe : Value → Shared → Prop
/-- the callers' frames -/
def frs (l : List Env) : List Addr := l.filterMap (·.frame)
abbrev Cx.fs (X : Cx) : List Addr := frs X.outer

def Vis (sc : Scope) (x : Str) : Prop := sc.names.lookup x = some .local ∨ sc.names.lookup x = some .cell ∨ sc.names.lookup x = some .free
def Loc (sc : Scope) (x : Str) : Prop := sc.names.lookup x = some .local ∨ sc.names.lookup x = some .cell
def Look (env : Env) (h : Heap) (m : Str → Option Value) (x : Str) (u : Value) : Prop :=
  (env.kindOf x = some .local ∧ m x = some u) ∨ ((env.kindOf x = some .cell ∨ env.kindOf x = some .free) ∧ ∃ c, env.cells.lookup x = some c ∧ h.IsCell c (some u))

structure Cx.Ok (X : Cx) : Prop where
  mod : Mod X.K X.mg X.base
  kind : X.env.scope.kind = .function
  glob : X.env.globals = mainGlobals
  blt : X.env.builtins = builtinsNs
  above : X.s₀.heap.objs.size ≤ X.env.locals
  inj : ∀ x y c, X.env.cells.lookup x = some c → X.env.cells.lookup y = some c → x = y
  has : ∀ x, (X.env.kindOf x = some .cell ∨ X.env.kindOf x = some .free) → ∃ c, X.env.cells.lookup x = some c
  cab : ∀ x c, X.fn x = true → X.env.cells.lookup x = some c → X.s₀.heap.objs.size ≤ c
  hd : X.calm = true → X.A.handled = none
  frames : X.A.frames = some X.stack
  stk : X.stack = X.outer ∨ (X.stack = X.env :: X.outer ∧ X.env.frame = some X.env.locals)
  exf : ∀ b ∈ X.ex, b ≠ X.env.locals ∧ ∀ x c, X.env.cells.lookup x = some c → c ≠ b
  bs : ∀ b o, X.base.get? b = some o → X.s₀.heap.get? b = some o ∧ X.H₀ b = none
  bsz : X.base.objs.size ≤ X.s₀.heap.objs.size
  noex : ∀ b o, X.base.get? b = some o → b ∉ X.ex
  exfs : ∀ b ∈ X.ex, b ∉ X.fs
  funs : X.s₀.heap.FunFrames X.base X.outer
  frf : ∀ b ∈ X.fs, X.H₀ b = none

structure Inv (X : Cx) (pins : List (Addr × Obj)) (σ : List (Option V)) (H : Hp) (s : Shared) : Prop where
  ok : X.Ok
  os : s.os = X.s₀.os
  bare : AllBare s.gens
  base : Un X.fs X.ex X.H₀ H X.s₀.heap s.heap
  loc : ∃ m, s.heap.Ns X.env.locals m ∧ ∀ (i : Nat) (x : Str) (v : V), X.N[i]? = some x → σ[i]? = some (some v) → Vis X.env.scope x → ∃ u, RelV v u ∧ Look X.env s.heap m x u
  cell : ∀ x c, X.env.cells.lookup x = some c → ∃ v, s.heap.IsCell c v
  free : H X.env.locals = none
  freeC : ∀ x c, X.env.cells.lookup x = some c → H c = none
  pin : ∀ p ∈ X.pn ++ pins, s.heap.get? p.1 = some p.2 ∧ H p.1 = none ∧ p.1 ≠ X.env.locals ∧ p.1 ∉ X.fs ∧ ∀ v, p.2.data ≠ .cell v
  hok : HOk X.prog X.w H s.heap
  len : σ.length = X.N.length

section
variable {X : Cx} {pins : List (Addr × Obj)} {σ : List (Option V)} {H H' : Hp} {s : Shared} {h' : Heap}

theorem Cx.Ok.nofr (ok : X.Ok) {b : Addr} {o : Obj} (e : X.base.get? b = some o) : b ∉ X.fs := fun hb => by
  have := (ok.funs.mem hb).1
  rw [e] at this; cases this
theorem Inv.bs (I : Inv X pins σ H s) : ∀ b o, X.base.get? b = some o → s.heap.get? b = some o ∧ H b = none := fun b o e =>
  ⟨I.base.keep b o (I.ok.bs b o e).1 (I.ok.bs b o e).2 (I.ok.nofr e) (I.ok.noex b o e), I.base.free b o (I.ok.bs b o e).1 (I.ok.bs b o e).2 (I.ok.noex b o e)⟩
theorem Inv.bk (I : Inv X pins σ H s) : ∀ b o, X.base.get? b = some o → s.heap.get? b = some o := fun b o e => (I.bs b o e).1
theorem Inv.mod (I : Inv X pins σ H s) : Mod X.K X.mg X.base := I.ok.mod
theorem Inv.kIn (I : Inv X pins σ H s) : X.K.In s.heap := I.ok.mod.kin.keeps I.bk
theorem Inv.nolimit (I : Inv X pins σ H s) : s.heap.NoLimit := I.ok.mod.nolimit.keeps I.bk
/-- the frame over the base: for OpenK's rules (K.In X.base is I.mod.kin) -/
theorem Inv.fr (I : Inv X pins σ H s) : ∃ m, Fr X.base X.env.locals s.heap m :=
  let ⟨m, hn, _⟩ := I.loc
  ⟨m, hn, I.bk, Nat.le_trans I.ok.bsz I.ok.above⟩
theorem Inv.lt (I : Inv X pins σ H s) : X.env.locals < s.heap.objs.size := let ⟨_, hn, _⟩ := I.loc; hn.lt
theorem Inv.sz (I : Inv X pins σ H s) : X.s₀.heap.objs.size ≤ s.heap.objs.size := Nat.le_trans I.ok.above (Nat.le_of_lt I.lt)
theorem Inv.nofs (I : Inv X pins σ H s) {a : Addr} (h : s.heap.objs.size ≤ a) : a ∉ X.fs := fun hb => by
  obtain ⟨_, o, ho, _⟩ := I.ok.funs.mem hb
  exact absurd (Nat.lt_of_lt_of_le (Heap.lt_size ho) (Nat.le_trans I.sz h)) (Nat.lt_irrefl _)
theorem Inv.cne (I : Inv X pins σ H s) : ∀ x c, X.env.cells.lookup x = some c → c ≠ X.env.locals := fun x c e z => by
  obtain ⟨v, o, ho, hd⟩ := I.cell x c e
  obtain ⟨m, ⟨o', es, ep, ho', hd', _⟩, _⟩ := I.loc
  rw [z, ho'] at ho; cases ho; rw [hd'] at hd; cases hd
theorem Inv.funs (I : Inv X pins σ H s) : s.heap.FunFrames X.base X.outer := by
  have all : ∀ (l : List Env), (∀ b ∈ frs l, b ∈ X.fs) → X.s₀.heap.FunFrames X.base l → s.heap.FunFrames X.base l := by
    intro l
    induction l with
    | nil => intro _ _; trivial
    | cons env r ih =>
      intro hs hl
      obtain ⟨hk, ⟨L, o, hf, hn, ho, hd⟩, hr⟩ := hl
      have hL : L ∈ X.fs := hs L (by unfold frs; rw [List.filterMap_cons, hf]; exact List.mem_cons_self)
      obtain ⟨sl, e⟩ := I.base.slot L o ho (I.ok.frf L hL) hL fun z => I.ok.exfs L z hL
      exact ⟨hk, ⟨L, _, hf, hn, e, hd⟩, ih (fun b hb => hs b (by unfold frs; rw [List.filterMap_cons, hf]; exact List.mem_cons_of_mem _ hb)) hr⟩
  exact all X.outer (fun _ hb => hb) I.ok.funs

/-- the frames that run, for a call -/
theorem Inv.stack (I : Inv X pins σ H s) : s.heap.FunFrames X.base X.stack := by
  rcases I.ok.stk with e | ⟨e, hf⟩
  · rw [e]; exact I.funs
  · rw [e]
    obtain ⟨m, hn, _⟩ := I.loc
    refine .cons (by rw [I.ok.kind]; decide) hf hn ?_ I.funs
    exact Heap.get?_none_of_le (Nat.le_trans I.ok.bsz I.ok.above)
theorem Inv.stkSub (I : Inv X pins σ H s) : ∀ b ∈ frs X.stack, b ∈ X.env.locals :: X.fs := fun b hb => by
  rcases I.ok.stk with e | ⟨e, hf⟩
  · rw [e] at hb; exact List.mem_cons_of_mem _ hb
  · rw [e] at hb
    unfold frs at hb
    rw [List.filterMap_cons, hf] at hb
    exact hb
theorem Inv.stkFree (I : Inv X pins σ H s) : ∀ b ∈ frs X.stack, H b = none := fun b hb => by
  rcases List.mem_cons.mp (I.stkSub b hb) with e | hb
  · rw [e]; exact I.free
  · obtain ⟨_, o, ho, _⟩ := I.ok.funs.mem hb
    exact I.base.free b o ho (I.ok.frf b hb) fun z => I.ok.exfs b z hb

/-- THE STEP: the untracked objects but the frame and the records at ch are kept (the callers' frames up to slots), the frame's map is kept, the new abstract heap is held -/
theorem Inv.step {g' : Array GenState} {t' : Nat} {d' : Drawn} {ch : List Addr} (I : Inv X pins σ H s)
    (hch : ∀ b ∈ ch, (b ∈ X.ex ∨ X.s₀.heap.objs.size ≤ b) ∧ b ≠ X.env.locals ∧ (∀ x c, X.env.cells.lookup x = some c → c ≠ b) ∧ ∀ p ∈ X.pn ++ pins, p.1 ≠ b)
    (keep : ∀ b o, b ≠ X.env.locals → b ∉ X.fs → b ∉ ch → s.heap.get? b = some o → H b = none → h'.get? b = some o)
    (slot : ∀ b o, b ≠ X.env.locals → b ∈ X.fs → b ∉ ch → s.heap.get? b = some o → H b = none → ∃ sl, h'.get? b = some { o with slots := sl }) (free : ∀ b o, b ∉ ch → s.heap.get? b = some o → H b = none → H' b = none)
    (there : ∀ b o, b ∉ ch → s.heap.get? b = some o → ∃ o', h'.get? b = some o')
    (tups : ∀ b xs, H b = some (.tup xs) → H' b = some (.tup xs)) (frzs : ∀ b o u, H b = some (.frz o u) → H' b = some (.frz o u)) (tbls : ∀ b ps, H b = some (.tbl ps) → ∃ more, H' b = some (.tbl (ps ++ more)))
    (ns : ∀ m, s.heap.Ns X.env.locals m → h'.Ns X.env.locals m) (hok : HOk X.prog X.w H' h') (hg : AllBare g') :
    Inv X pins σ H' { s with heap := h', gens := g', drawn := d', toks := t' } := by
  have neL : ∀ b o, X.s₀.heap.get? b = some o → b ≠ X.env.locals := fun b o e => Nat.ne_of_lt (Nat.lt_of_lt_of_le (Heap.lt_size e) I.ok.above)
  have neC : ∀ b o, X.s₀.heap.get? b = some o → b ∉ X.ex → b ∉ ch := fun b o e hx hb => by
    rcases (hch b hb).1 with z | z
    · exact hx z
    · exact absurd (Nat.lt_of_lt_of_le (Heap.lt_size e) z) (Nat.lt_irrefl _)
  have cellK : ∀ x c, X.env.cells.lookup x = some c → ∀ v, s.heap.IsCell c v → h'.IsCell c v := fun x c e v ⟨o, ho, hd⟩ => by
    have nch : c ∉ ch := fun z => (hch c z).2.2.1 x c e rfl
    by_cases hc : c ∈ X.fs
    · obtain ⟨sl, q⟩ := slot c o (I.cne x c e) hc nch ho (I.freeC x c e)
      exact ⟨_, q, hd⟩
    · exact ⟨o, keep c o (I.cne x c e) hc nch ho (I.freeC x c e), hd⟩
  refine ⟨I.ok, I.os, hg, ⟨fun b o e n hb hx => ?_, fun b o e n hb hx => ?_, fun b o e n hx => ?_, fun b o e hx => ?_, fun b xs e => tups b xs (I.base.tups b xs e), fun b o xs e => frzs b o xs (I.base.frzs b o xs e), fun b ps e => ?_⟩, ?_, fun x c e => ?_, ?_, fun x c e => ?_, fun p hp => ?_, hok, I.len⟩
  · exact keep b o (neL b o e) hb (neC b o e hx) (I.base.keep b o e n hb hx) (I.base.free b o e n hx)
  · obtain ⟨sl, e1⟩ := I.base.slot b o e n hb hx
    obtain ⟨sl', e2⟩ := slot b _ (neL b o e) hb (neC b o e hx) e1 (I.base.free b o e n hx)
    exact ⟨sl', e2⟩
  · obtain ⟨o', e1⟩ := I.base.there b o e hx
    exact free b o' (neC b o e hx) e1 (I.base.free b o e n hx)
  · obtain ⟨o', e1⟩ := I.base.there b o e hx
    exact there b o' (neC b o e hx) e1
  · obtain ⟨m1, e1⟩ := I.base.tbls b ps e
    obtain ⟨m2, e2⟩ := tbls b _ e1
    exact ⟨m1 ++ m2, by rw [e2, Array.append_assoc]⟩
  · obtain ⟨m, hn, hl⟩ := I.loc
    refine ⟨m, ns m hn, fun i x v e1 e2 e3 => ?_⟩
    obtain ⟨u, r, l⟩ := hl i x v e1 e2 e3
    refine ⟨u, r, ?_⟩
    rcases l with l | ⟨k, c, e, z⟩
    · exact .inl l
    · exact .inr ⟨k, c, e, cellK x c e _ z⟩
  · obtain ⟨v, z⟩ := I.cell x c e
    exact ⟨v, cellK x c e v z⟩
  · obtain ⟨m, ⟨o, _, _, ho, _⟩, _⟩ := I.loc
    exact free _ o (fun z => (hch _ z).2.1 rfl) ho I.free
  · obtain ⟨v, o, ho, hd⟩ := I.cell x c e
    exact free c o (fun z => (hch c z).2.2.1 x c e rfl) ho (I.freeC x c e)
  · obtain ⟨e, n, ne, nf, d⟩ := I.pin p hp
    have nch : p.1 ∉ ch := fun z => (hch p.1 z).2.2.2 p hp rfl
    exact ⟨keep p.1 p.2 ne nf nch e n, free p.1 p.2 nch e n, ne, nf, d⟩
/-- .. where the frame's own object is kept too -/
theorem Inv.un {t' : Nat} (I : Inv X pins σ H s) (u : Un X.fs [] H H' s.heap h') (hok : HOk X.prog X.w H' h') : Inv X pins σ H' { s with heap := h', toks := t' } := by
  obtain ⟨m, ⟨o, es, ep, ho, r⟩, _⟩ := id I.loc
  obtain ⟨sl, hL⟩ := u.any ho I.free (by simp)
  exact I.step (g' := s.gens) (d' := s.drawn) (ch := []) (fun _ z => nomatch z) (fun b o _ hb _ e n => u.keep b o e n hb (by simp)) (fun b o _ hb _ e n => u.slot b o e n hb (by simp)) (fun b o _ e n => u.free b o e n (by simp)) (fun b o _ e => u.there b o e (by simp)) u.tups u.frzs u.tbls (fun m' hm => by
    obtain ⟨o', es', ep', ho', r'⟩ := hm
    rw [ho] at ho'; cases ho'
    exact ⟨_, es', ep', hL, r'⟩) hok I.bare
/-- behind a call (or a comprehension's block): the slots of this frame may have changed too, the records at ch may have turned -/
theorem Inv.call {g' : Array GenState} {t' : Nat} {d' : Drawn} {ch : List Addr} (I : Inv X pins σ H s) (u : Un (frs X.stack) ch H H' s.heap h') (hok : HOk X.prog X.w H' h') (hg : AllBare g')
    (hch : ∀ b ∈ ch, (b ∈ X.ex ∨ X.s₀.heap.objs.size ≤ b) ∧ b ≠ X.env.locals ∧ (∀ x c, X.env.cells.lookup x = some c → c ≠ b) ∧ ∀ p ∈ X.pn ++ pins, p.1 ≠ b) :
    Inv X pins σ H' { s with heap := h', gens := g', drawn := d', toks := t' } := by
  obtain ⟨m, ⟨o, es, ep, ho, r⟩, _⟩ := id I.loc
  obtain ⟨sl, hL⟩ := u.any ho I.free fun z => (hch _ z).2.1 rfl
  exact I.step (ch := ch) hch (fun b o hL hb hc e n => u.keep b o e n (fun z => (List.mem_cons.mp (I.stkSub b z)).elim hL hb) hc) (fun b o _ _ hc e n => u.any e n hc) (fun b o hc e n => u.free b o e n hc) (fun b o hc e => u.there b o e hc) u.tups u.frzs u.tbls (fun m' hm => by
    obtain ⟨o', es', ep', ho', r'⟩ := hm
    rw [ho] at ho'; cases ho'
    exact ⟨_, es', ep', hL, r'⟩) hok hg
/-- an untracked record of ours (an iterator) has turned -/
theorem Inv.turned {t' : Nat} {it : Addr} (I : Inv X pins σ H s) (k : ∀ b o, b ≠ it → s.heap.get? b = some o → h'.get? b = some o) (hn : H it = none) (hL : it ≠ X.env.locals)
    (h1 : it ∈ X.ex ∨ X.s₀.heap.objs.size ≤ it) (h2 : ∀ x c, X.env.cells.lookup x = some c → c ≠ it) (h3 : ∀ p ∈ X.pn ++ pins, p.1 ≠ it) : Inv X pins σ H { s with heap := h', toks := t' } := by
  have nit : ∀ b u, H b = some u → b ≠ it := fun b u e z => by rw [z, hn] at e; cases e
  refine I.step (g' := s.gens) (d' := s.drawn) (ch := [it]) (fun b hb => ?_) (fun b o _ _ hc e _ => k b o (fun z => hc (by simp [z])) e) (fun b o _ _ hc e _ => ⟨o.slots, k b o (fun z => hc (by simp [z])) e⟩) (fun _ _ _ _ n => n)
    (fun b o hc e => ⟨o, k b o (fun z => hc (by simp [z])) e⟩) (fun _ _ e => e) (fun _ _ _ e => e) (fun b ps e => ⟨#[], by rw [e]; simp⟩) (fun m hm => ?_) (fun b u e => ?_) I.bare
  · have e : b = it := by simpa using hb
    subst e
    exact ⟨h1, hL, h2, h3⟩
  · obtain ⟨o, es, ep, ho, r⟩ := hm
    exact ⟨o, es, ep, k _ o (Ne.symm hL) ho, r⟩
  · refine (I.hok b u e).stay (fun c v hc q => k c v ?_ q) (fun _ q => q) fun _ _ q => q
    rcases hc with z | z
    · rw [z]; exact nit b u e
    · exact nit c _ z
theorem Inv.tok (I : Inv X pins σ H s) (t : Nat) : Inv X pins σ H { s with toks := t } := I.un (h' := s.heap) (t' := t) Un.refl I.hok
/-- all objects kept -/
theorem Inv.kept {t' : Nat} (I : Inv X pins σ H s) (k : ∀ b u, s.heap.get? b = some u → h'.get? b = some u) : Inv X pins σ H { s with heap := h', toks := t' } := I.un (Un.kept k) (I.hok.kept k)
/-- a new object laid and tracked -/
theorem Inv.laid {a : Addr} {o : HO} {t' : Nat} (I : Inv X pins σ H s) (k : ∀ b u, s.heap.get? b = some u → h'.get? b = some u) (hp : s.heap.objs.size ≤ a) (new : ObjOk X.prog X.w (upd H a o) h' a o) :
    Inv X pins σ (upd H a o) { s with heap := h', toks := t' } := I.un (Un.laid k hp (I.hok.fresh hp)) (I.hok.laid k hp new)
/-- an object written -/
theorem Inv.write {x e : Addr} {o : HO} {t' : Nat} (I : Inv X pins σ H s) (mu : Mut (H x)) (he : e = x ∨ H e = some (.own x)) (k : ∀ b u, b ≠ e → s.heap.get? b = some u → h'.get? b = some u) (heo : ∃ u, h'.get? e = some u)
    (new : ObjOk X.prog X.w (upd H x o) h' x o) : Inv X pins σ (upd H x o) { s with heap := h', toks := t' } := I.un (Un.write mu he k heo) (I.hok.write mu he k heo new)
/-- forgetting slots, pins -/
theorem Inv.weak {σ' : List (Option V)} (I : Inv X pins σ H s) (hl : σ'.length = σ.length) (w : ∀ (i : Nat) v, σ'[i]? = some (some v) → σ[i]? = some (some v)) : Inv X pins σ' H s :=
  ⟨I.ok, I.os, I.bare, I.base, let ⟨m, hn, hl'⟩ := I.loc; ⟨m, hn, fun i x v e1 e2 e3 => hl' i x v e1 (w i v e2) e3⟩, I.cell, I.free, I.freeC, I.pin, I.hok, hl.trans I.len⟩
theorem Inv.pins_of {pins' : List (Addr × Obj)} (I : Inv X pins σ H s) (h : ∀ p ∈ pins', s.heap.get? p.1 = some p.2 ∧ H p.1 = none ∧ p.1 ≠ X.env.locals ∧ p.1 ∉ X.fs ∧ ∀ v, p.2.data ≠ .cell v) : Inv X pins' σ H s :=
  ⟨I.ok, I.os, I.bare, I.base, I.loc, I.cell, I.free, I.freeC, fun p hp => (List.mem_append.mp hp).elim (fun z => I.pin p (List.mem_append_left _ z)) (h p), I.hok, I.len⟩

theorem nodup_ix {N : List Str} (hN : N.Nodup) {i j : Nat} {x : Str} (a : N[i]? = some x) (b : N[j]? = some x) : i = j := by
  obtain ⟨h1, e1⟩ := List.getElem?_eq_some_iff.mp a
  obtain ⟨h2, e2⟩ := List.getElem?_eq_some_iff.mp b
  exact (List.getElem_inj hN).mp (e1.trans e2.symm)

/-- a name is stored; what changed -/
theorem store_ok2 {M : Model} {A : Around} {E : Value → Shared → Prop} {i : Nat} {x : Str} {v : V} {u : Value} {Q : Unit → Shared → Prop} (I : Inv X pins σ H s) (hN : X.N.Nodup) (hi : X.N[i]? = some x) (hx : Loc X.env.scope x) (r : RelV v u)
    (h : ∀ s', Inv X pins (σ.set i (some v)) H s' → (∃ a, Heap.SameBut a s.heap s'.heap ∧ (a = X.env.locals ∨ X.env.cells.lookup x = some a)) → Q () s') (hf : X.fn x = true ∨ X.env.scope.names.lookup x = some .local := by first | exact .inl rfl | exact .inr rfl | assumption) : wpAny M A (storeName X.env x u) Q E s := by
  obtain ⟨m, hn, hl⟩ := id I.loc
  have hcls : (X.env.scope.kind == .class || (X.env.scope.kind == .module && X.env.locals != X.env.globals)) = false := by rw [I.ok.kind]; rfl
  have hiσ : i < σ.length := by rw [I.len]; exact (List.getElem?_eq_some_iff.mp hi).1
  have cne := I.cne
  have tracked : ∀ {a : Addr} {h' : Heap}, (∃ o, s.heap.get? a = some o ∧ H a = none) → Heap.SameBut a s.heap h' → HOk X.prog X.w H h' := fun {a h'} ha hs b ob e => by
    obtain ⟨_, _, hfree⟩ := ha
    refine (I.hok b ob e).stay (fun c w' hc q => (hs.2 c ?_).trans q) (fun _ q => q) fun _ _ q => q
    rintro rfl
    rcases hc with rfl | hc
    · rw [hfree] at e; cases e
    · rw [hfree] at hc; cases hc
  rcases hx with hk | hk
  · refine wpAny_storeName_local hk hn (fun h' hn' hs => ?_) hcls
    obtain ⟨oL, _, _, hoL, _⟩ := id hn
    refine h _ ⟨I.ok, I.os, I.bare, ⟨fun b o e n hb hx => ?_, fun b o e n hb hx => ?_, I.base.free, fun b o e hx => ?_, I.base.tups, I.base.frzs, I.base.tbls⟩, ⟨_, hn', fun j y v' e1 e2 e3 => ?_⟩, fun y c e => ?_, I.free, I.freeC, fun p hp => ?_, tracked ⟨oL, hoL, I.free⟩ hs, by simpa using I.len⟩ ⟨_, hs, .inl rfl⟩
    · exact (hs.2 b (Nat.ne_of_lt (Nat.lt_of_lt_of_le (Heap.lt_size e) I.ok.above))).trans (I.base.keep b o e n hb hx)
    · obtain ⟨sl, e1⟩ := I.base.slot b o e n hb hx
      exact ⟨sl, (hs.2 b (Nat.ne_of_lt (Nat.lt_of_lt_of_le (Heap.lt_size e) I.ok.above))).trans e1⟩
    · obtain ⟨o', e1⟩ := I.base.there b o e hx
      exact ⟨o', (hs.2 b (Nat.ne_of_lt (Nat.lt_of_lt_of_le (Heap.lt_size e) I.ok.above))).trans e1⟩
    · by_cases hj : j = i
      · subst hj
        rw [hi] at e1; cases e1
        rw [List.getElem?_set_self hiσ] at e2
        cases e2
        exact ⟨u, r, .inl ⟨hk, by simp⟩⟩
      · rw [List.getElem?_set_ne (Ne.symm hj)] at e2
        obtain ⟨u', r', q⟩ := hl j y v' e1 e2 e3
        refine ⟨u', r', ?_⟩
        rcases q with ⟨k, e⟩ | ⟨k, c, e, z⟩
        · refine .inl ⟨k, ?_⟩
          have : y ≠ x := fun e => hj (nodup_ix hN e1 (e ▸ hi))
          simp [this, e]
        · exact .inr ⟨k, c, e, z.sameBut hs (cne y c e)⟩
    · obtain ⟨w', z⟩ := I.cell y c e
      exact ⟨w', z.sameBut hs (cne y c e)⟩
    · obtain ⟨e, n, ne, nf, d⟩ := I.pin p hp
      exact ⟨(hs.2 p.1 ne).trans e, n, ne, nf, d⟩
  · have hfn : X.fn x = true := by
      rcases hf with z | z
      · exact z
      · rw [z] at hk; cases hk
    obtain ⟨c, hc⟩ := I.ok.has x (.inl hk)
    obtain ⟨w', z⟩ := I.cell x c hc
    refine wpAny_storeName_cell I.ok.kind hk hc z (fun h' hc' hs => ?_)
    obtain ⟨oc, hoc, hocd⟩ := id z
    refine h { s with heap := h' } ⟨I.ok, I.os, I.bare, ⟨fun b o e n hb hx => ?_, fun b o e n hb hx => ?_, I.base.free, fun b o e hx => ?_, I.base.tups, I.base.frzs, I.base.tbls⟩, ⟨m, hn.sameBut hs (Ne.symm (cne x c hc)), fun j y v' e1 e2 e3 => ?_⟩, fun y c' e => ?_, I.free, I.freeC, fun p hp => ?_, tracked ⟨oc, hoc, I.freeC x c hc⟩ hs, by simpa using I.len⟩ ⟨c, hs, .inr hc⟩
    · exact (hs.2 b (Nat.ne_of_lt (Nat.lt_of_lt_of_le (Heap.lt_size e) (I.ok.cab x c hfn hc)))).trans (I.base.keep b o e n hb hx)
    · obtain ⟨sl, e1⟩ := I.base.slot b o e n hb hx
      exact ⟨sl, (hs.2 b (Nat.ne_of_lt (Nat.lt_of_lt_of_le (Heap.lt_size e) (I.ok.cab x c hfn hc)))).trans e1⟩
    · obtain ⟨o', e1⟩ := I.base.there b o e hx
      exact ⟨o', (hs.2 b (Nat.ne_of_lt (Nat.lt_of_lt_of_le (Heap.lt_size e) (I.ok.cab x c hfn hc)))).trans e1⟩
    · by_cases hj : j = i
      · subst hj
        rw [hi] at e1; cases e1
        rw [List.getElem?_set_self hiσ] at e2
        cases e2
        exact ⟨u, r, .inr ⟨.inl hk, c, hc, hc'⟩⟩
      · rw [List.getElem?_set_ne (Ne.symm hj)] at e2
        obtain ⟨u', r', q⟩ := hl j y v' e1 e2 e3
        refine ⟨u', r', ?_⟩
        rcases q with q | ⟨k, c', e, z'⟩
        · exact .inl q
        · refine .inr ⟨k, c', e, z'.sameBut hs ?_⟩
          rintro rfl
          exact hj (nodup_ix hN e1 (I.ok.inj _ _ _ e hc ▸ hi))
    · by_cases hcc : c' = c
      · subst hcc; exact ⟨_, hc'⟩
      · obtain ⟨w2, z2⟩ := I.cell y c' e
        exact ⟨w2, z2.sameBut hs hcc⟩
    · obtain ⟨e, n, ne, nf, d⟩ := I.pin p hp
      refine ⟨(hs.2 p.1 ?_).trans e, n, ne, nf, d⟩
      intro q
      rw [q, hoc] at e
      have q' : oc = p.2 := Option.some.inj e
      exact d w' (by rw [← q']; exact hocd)
theorem store_ok {M : Model} {A : Around} {E : Value → Shared → Prop} {i : Nat} {x : Str} {v : V} {u : Value} {Q : Unit → Shared → Prop} (I : Inv X pins σ H s) (hN : X.N.Nodup) (hi : X.N[i]? = some x) (hx : Loc X.env.scope x) (r : RelV v u)
    (h : ∀ s', Inv X pins (σ.set i (some v)) H s' → Q () s') (hf : X.fn x = true ∨ X.env.scope.names.lookup x = some .local := by first | exact .inl rfl | exact .inr rfl | assumption) : wpAny M A (storeName X.env x u) Q E s :=
  store_ok2 I hN hi hx r (fun s' I' _ => h s' I') hf
/-- behind a call or a block, the state as it is -/
theorem Inv.call' {s' : Shared} {ch : List Addr} (I : Inv X pins σ H s) (ho : s'.os = s.os) (u : Un (frs X.stack) ch H H' s.heap s'.heap) (hok : HOk X.prog X.w H' s'.heap) (hg : AllBare s'.gens)
    (hch : ∀ b ∈ ch, (b ∈ X.ex ∨ X.s₀.heap.objs.size ≤ b) ∧ b ≠ X.env.locals ∧ (∀ x c, X.env.cells.lookup x = some c → c ≠ b) ∧ ∀ p ∈ X.pn ++ pins, p.1 ≠ b) : Inv X pins σ H' s' := by
  obtain ⟨h', g', d', t', o'⟩ := s'
  have e : o' = s.os := ho
  subst e
  exact I.call (g' := g') (t' := t') (d' := d') u hok hg hch
end

/-! ### the judgements -/
/-- an exception: its class, its own dict's address (where it has one), the abstract heap behind it -/
abbrev XK := Value → Option Addr → Hp → Prop
abbrev St := List (Option V)
abbrev VK := V → Hp → Prop
/-- an expression's reading; a test's; an argument list's -/
abbrev TE := St → Hp → VK → Prop
abbrev TT := St → Hp → (Bool → Hp → Prop) → Prop
abbrev TA := St → Hp → (List V → Hp → Prop) → Prop
/-- what is wanted behind a statement -/
structure Ends where
  nx : St → Hp → Prop
  rt : VK
  bk : St → Hp → Prop := fun _ _ => False
  ct : St → Hp → Prop := fun _ _ => False
abbrev TS := Ends → St → Hp → Prop

def EP (X : Cx) (pins : List (Addr × Obj)) (σ : St) (Q : VK) (u : Value) (s' : Shared) : Prop := ∃ v H', Inv X pins σ H' s' ∧ RelV v u ∧ Q v H'
def TP (X : Cx) (pins : List (Addr × Obj)) (σ : St) (Q : Bool → Hp → Prop) (b : Bool) (s' : Shared) : Prop := ∃ H', Inv X pins σ H' s' ∧ Q b H'
def AP (X : Cx) (pins : List (Addr × Obj)) (σ : St) (Q : List V → Hp → Prop) (us : List Value) (s' : Shared) : Prop := ∃ vs H', Inv X pins σ H' s' ∧ Vals vs us ∧ Q vs H'
def SP (X : Cx) (pins : List (Addr × Obj)) (D : Ends) (f : Flow) (s' : Shared) : Prop :=
  match f with
  | .next => ∃ σ' H', Inv X pins σ' H' s' ∧ D.nx σ' H'
  | .brk => ∃ σ' H', Inv X pins σ' H' s' ∧ D.bk σ' H'
  | .cont => ∃ σ' H', Inv X pins σ' H' s' ∧ D.ct σ' H'
  | .ret u => ∃ v σ' H', Inv X pins σ' H' s' ∧ RelV v u ∧ D.rt v H'

def PE (X : Cx) (e : Expr) (t : TE) : Prop :=
  ∀ (pins : List (Addr × Obj)) (s : Shared) (σ : St) (H : Hp) (Q : VK), Inv X pins σ H s → t σ H Q → wpAny (model X.prog X.w) X.A (eval e X.env) (EP X pins σ Q) X.xe s
def PT (X : Cx) (e : Expr) (t : TT) : Prop :=
  ∀ (pins : List (Addr × Obj)) (s : Shared) (σ : St) (H : Hp) (Q : Bool → Hp → Prop), Inv X pins σ H s → t σ H Q → wpAny (model X.prog X.w) X.A (isTrue e X.env (eval e X.env)) (TP X pins σ Q) X.xe s
/-- a test whatever its 'whole' is (and, or) -/
def PW (X : Cx) (e : Expr) (t : TT) : Prop :=
  ∀ (whole : Sem Value) (pins : List (Addr × Obj)) (s : Shared) (σ : St) (H : Hp) (Q : Bool → Hp → Prop), Inv X pins σ H s → t σ H Q → wpAny (model X.prog X.w) X.A (isTrue e X.env whole) (TP X pins σ Q) X.xe s
theorem PW.pt {X : Cx} {e : Expr} {t : TT} (h : PW X e t) : PT X e t := h _
/-- an argument list (no star), from the left -/
def PA (X : Cx) (es : List Expr) (t : TA) : Prop :=
  ∀ (pos : Pos) (pins : List (Addr × Obj)) (s : Shared) (σ : St) (H : Hp) (Q : List V → Hp → Prop), Inv X pins σ H s → t σ H Q → wpAny (model X.prog X.w) X.A (spliced (backTo pos (starEach es X.env))) (AP X pins σ Q) X.xe s
def PS (X : Cx) (st : Stmt) (t : TS) : Prop :=
  ∀ (pins : List (Addr × Obj)) (s : Shared) (σ : St) (H : Hp) (D : Ends), Inv X pins σ H s → t D σ H → wpAny (model X.prog X.w) X.A (exec st X.env) (SP X pins D) X.xe s
def PSs (X : Cx) (st : List Stmt) (t : TS) : Prop :=
  ∀ (pins : List (Addr × Obj)) (s : Shared) (σ : St) (H : Hp) (D : Ends), Inv X pins σ H s → t D σ H → wpAny (model X.prog X.w) X.A (execs st X.env) (SP X pins D) X.xe s
/-- weaken the end -/
theorem thn {α : Type} {t : Sem α} {Q Q' : α → Shared → Prop} {M : Model} {A : Around} {E : Value → Shared → Prop} {s : Shared} (h : wpAny M A t Q E s) (hQ : ∀ a s, Q a s → Q' a s) : wpAny M A t Q' E s := wpAny_mono h hQ fun _ _ x => x
end L2

namespace L2
open PySem PySem.Spec PyProof.Rows
section
variable {X : Cx}

/-- two expressions in a row -/
theorem bin {a b : Expr} {ta tb : TE} (ha : PE X a ta) (hb : PE X b tb) {pins : List (Addr × Obj)} {s : Shared} {σ : St} {H : Hp} {R : V → V → Hp → Prop} (I : Inv X pins σ H s) (h : ta σ H fun x H1 => tb σ H1 fun y H2 => R x y H2)
    {α : Type} {Q : α → Shared → Prop} {f : Value → Value → Sem α}
    (hf : ∀ v u s2 x y H2, Inv X pins σ H2 s2 → RelV x v → RelV y u → R x y H2 → wpAny (model X.prog X.w) X.A (f v u) Q X.xe s2) :
    wpAny (model X.prog X.w) X.A (eval a X.env) (fun v s₁ => wpAny (model X.prog X.w) X.A (eval b X.env) (fun u s₂ => wpAny (model X.prog X.w) X.A (f v u) Q X.xe s₂) X.xe s₁) X.xe s := by
  refine thn (ha pins s σ H _ I h) fun v s1 ⟨x, H1, I1, r1, q1⟩ => ?_
  refine thn (hb pins s1 σ H1 _ I1 q1) fun u s2 ⟨y, H2, I2, r2, q2⟩ => ?_
  exact hf v u s2 x y H2 I2 r1 r2 q2

/-! ### names and constants -/
def tVar (i : Nat) : TE := fun σ H Q => ∃ v, σ[i]? = some (some v) ∧ Q v H
def tC (v : V) : TE := fun _ H Q => Q v H
theorem pe_var {i : Nat} {x : Str} {pos : Pos} (hN : X.N[i]? = some x) (hv : Vis X.env.scope x) (hd : (x == ("__debug__" : Str)) = false := by decide) (hcd : (x == ("__classdict__" : Str)) = false := by decide) : PE X (.Name x pos) (tVar i) := by
  intro pins s σ H Q I h
  obtain ⟨v, e, h⟩ := h
  obtain ⟨m, hn, hl⟩ := I.loc
  obtain ⟨u, r, l⟩ := hl i x v hN e hv
  have fin : EP X pins σ Q u s := ⟨v, H, I, r, h⟩
  rcases l with ⟨hk, hm⟩ | ⟨hk, c, hc, hcell⟩
  · exact wpAny_Name (wpAny_loadName_local I.ok.kind hk hn hm fin) hd
  · rcases hk with hk | hk
    · exact wpAny_Name (wpAny_loadName_cell I.ok.kind hk hc hcell fin) hd
    · exact wpAny_Name (wpAny_loadName_free I.ok.kind hk hc hcell fin hcd) hd
theorem pe_int {i j pos} : PE X (.Constant (.int i) j pos) (tC (.int i)) := fun _ _ _ H _ I h => wpAny_Constant_int ⟨.int i, H, I.tok _, ⟨_, rfl⟩, h⟩
theorem pe_bl {b j pos} : PE X (.Constant (.bool b) j pos) (tC (.bl b)) := fun _ _ _ H _ I h => Constant_bool ⟨.bl b, H, I, rfl, h⟩
theorem pe_non {j pos} : PE X (.Constant .none j pos) (tC .non) := fun _ _ _ H _ I h => Constant_none ⟨.non, H, I, rfl, h⟩
theorem pe_str {x j pos} : PE X (.Constant (.str x) j pos) (tC (.str x)) := fun _ _ _ H _ I h => Calls.Constant_str ⟨.str x, H, I.tok _, ⟨_, rfl⟩, h⟩

/-- a global name of the def -/
def Gl (X : Cx) (x : Str) : Prop := X.env.kindOf x = some .globalImplicit
theorem ld_glob {E : Value → Shared → Prop} {pins : List (Addr × Obj)} {s : Shared} {σ : St} {H : Hp} {x : Str} {u : Value} {pos : Pos} {Q : Value → Shared → Prop} (I : Inv X pins σ H s) (hg : Gl X x) (hm : X.mg x = some u) (h : Q u s)
    (hd : (x == ("__debug__" : Str)) = false := by decide) : wpAny (model X.prog X.w) X.A (eval (.Name x pos) X.env) Q E s :=
  Calls.Name_function_global I.ok.kind hg (Calls.loadGlobal_global (by rw [I.ok.glob]; exact I.mod.glob.keeps I.bk) hm h) hd
theorem ld_blt {E : Value → Shared → Prop} {pins : List (Addr × Obj)} {s : Shared} {σ : St} {H : Hp} {x : Str} {u : Value} {pos : Pos} {Q : Value → Shared → Prop} (I : Inv X pins σ H s) (hg : Gl X x) (hm : X.mg x = none) (hv : bootBuiltins x = some u) (h : Q u s)
    (hn : x ≠ "__name__" := by decide) (hd : (x == ("__debug__" : Str)) = false := by decide) : wpAny (model X.prog X.w) X.A (eval (.Name x pos) X.env) Q E s := by
  obtain ⟨mb, h1, h2⟩ := I.mod.blt
  exact Calls.Name_function_global I.ok.kind hg (Calls.loadGlobal_builtin (by rw [I.ok.glob]; exact I.mod.glob.keeps I.bk) hm (by rw [I.ok.blt]; exact h1.keeps I.bk) ((h2 x hn).trans hv) h) hd
/-- a module's constant, a class, a function, as a value -/
theorem pe_glob {x : Str} {v : V} {u : Value} {pos : Pos} (hg : Gl X x) (hm : X.mg x = some u) (r : RelV v u) (hd : (x == ("__debug__" : Str)) = false := by decide) : PE X (.Name x pos) (tC v) :=
  fun _ _ _ H _ I h => ld_glob I hg hm ⟨v, H, I, r, h⟩ hd
theorem pe_bltn {x : Str} {v : V} {u : Value} {pos : Pos} (hg : Gl X x) (hm : X.mg x = none) (hv : bootBuiltins x = some u) (r : RelV v u) (hn : x ≠ "__name__" := by decide) (hd : (x == ("__debug__" : Str)) = false := by decide) : PE X (.Name x pos) (tC v) :=
  fun _ _ _ H _ I h => ld_blt I hg hm hv ⟨v, H, I, r, h⟩ hn hd

/-! ### arithmetic -/
/-- two ints -/
def t2I (ta tb : TE) (k : Int → Int → Hp → Prop) : St → Hp → Prop := fun σ H => ta σ H fun x H1 => tb σ H1 fun y H2 => ∃ i j, x = .int i ∧ y = .int j ∧ k i j H2
def tAdd (ta tb : TE) : TE := fun σ H Q => t2I ta tb (fun i j H2 => Q (.int (i + j)) H2) σ H
def tSub (ta tb : TE) : TE := fun σ H Q => t2I ta tb (fun i j H2 => Q (.int (i - j)) H2) σ H
/-- the left factor below 2^64 -/
def tMul (ta tb : TE) : TE := fun σ H Q => t2I ta tb (fun i j H2 => (-(2 ^ 64) < i ∧ i < 2 ^ 64) ∧ Q (.int (i * j)) H2) σ H
variable {a b : Expr} {ta tb : TE} {pos : Pos}
theorem pe_add (ha : PE X a ta) (hb : PE X b tb) : PE X (.BinOp a .Add b pos) (tAdd ta tb) := by
  intro pins s σ H Q I h
  refine wpAny_BinOp (bin ha hb I h fun v u s2 x y H2 I2 rx ry q => ?_)
  obtain ⟨i, j, rfl, rfl, q⟩ := q
  obtain ⟨t, rfl⟩ := rx
  obtain ⟨t', rfl⟩ := ry
  exact add_int ⟨.int _, H2, I2.tok _, ⟨_, rfl⟩, q⟩
theorem pe_sub (ha : PE X a ta) (hb : PE X b tb) : PE X (.BinOp a .Sub b pos) (tSub ta tb) := by
  intro pins s σ H Q I h
  refine wpAny_BinOp (bin ha hb I h fun v u s2 x y H2 I2 rx ry q => ?_)
  obtain ⟨i, j, rfl, rfl, q⟩ := q
  obtain ⟨t, rfl⟩ := rx
  obtain ⟨t', rfl⟩ := ry
  exact sub_int ⟨.int _, H2, I2.tok _, ⟨_, rfl⟩, q⟩
theorem pe_mul (ha : PE X a ta) (hb : PE X b tb) : PE X (.BinOp a .Mult b pos) (tMul ta tb) := by
  intro pins s σ H Q I h
  refine wpAny_BinOp (bin ha hb I h fun v u s2 x y H2 I2 rx ry q => ?_)
  obtain ⟨i, j, rfl, rfl, ⟨q1, q2⟩, q⟩ := q
  obtain ⟨t, rfl⟩ := rx
  obtain ⟨t', rfl⟩ := ry
  exact mul_int ⟨.int _, H2, I2.tok _, ⟨_, rfl⟩, q⟩ (.of_left (intBits_le_64 q1 q2))

/-! ### comparisons -/
def PC (X : Cx) (op : CmpOp) (a b : Expr) (t : TE) : Prop :=
  ∀ (pins : List (Addr × Obj)) (s : Shared) (σ : St) (H : Hp) (Q : VK), Inv X pins σ H s → t σ H Q →
    wpAny (model X.prog X.w) X.A (eval a X.env) (fun v s₁ => wpAny (model X.prog X.w) X.A (eval b X.env) (fun u s₂ => wpAny (model X.prog X.w) X.A (compareOp op v u) (EP X pins σ Q) X.xe s₂) X.xe s₁) X.xe s
theorem nobehind (b : Expr) {op : CmpOp} (h : op ≠ .In) (h2 : op ≠ .NotIn) : behindInMarks op b = false := by
  have e1 : (op == CmpOp.In) = false := by cases op <;> first | rfl | exact absurd rfl h
  have e2 : (op == CmpOp.NotIn) = false := by cases op <;> first | rfl | exact absurd rfl h2
  cases b <;> simp [behindInMarks, e1, e2]
def tCmp (p : Int → Int → Bool) (ta tb : TE) : TE := fun σ H Q => t2I ta tb (fun i j H2 => Q (.bl (p i j)) H2) σ H
abbrev tLt : TE → TE → TE := tCmp fun i j => decide (i < j)
abbrev tLe : TE → TE → TE := tCmp fun i j => decide (i ≤ j)
abbrev tGt : TE → TE → TE := tCmp fun i j => decide (j < i)
abbrev tGe : TE → TE → TE := tCmp fun i j => decide (j ≤ i)
abbrev tEqI : TE → TE → TE := tCmp fun i j => decide (i = j)
abbrev tNeI : TE → TE → TE := tCmp fun i j => !decide (i = j)
/-- a comparison of two ints, by its rule -/
theorem pc_int {op : CmpOp} {p : Int → Int → Bool} (ha : PE X a ta) (hb : PE X b tb)
    (rule : ∀ (i j : Int) (t u : Tok) (Q : Value → Shared → Prop) (s : Shared), Q (.bool (p i j)) s → wpAny (model X.prog X.w) X.A (compareOp op (.int i t) (.int j u)) Q X.xe s) : PC X op a b (tCmp p ta tb) := by
  intro pins s σ H Q I h
  refine bin ha hb I h fun v u s2 x y H2 I2 rx ry q => ?_
  obtain ⟨i, j, rfl, rfl, q⟩ := q
  obtain ⟨t, rfl⟩ := rx
  obtain ⟨t', rfl⟩ := ry
  exact rule i j t t' _ s2 ⟨.bl _, H2, I2, rfl, q⟩
theorem pc_lt (ha : PE X a ta) (hb : PE X b tb) : PC X .Lt a b (tLt ta tb) := pc_int ha hb fun _ _ _ _ _ _ h => lt_int h
theorem pc_le (ha : PE X a ta) (hb : PE X b tb) : PC X .LtE a b (tLe ta tb) := pc_int ha hb fun _ _ _ _ _ _ h => le_int h
theorem pc_gt (ha : PE X a ta) (hb : PE X b tb) : PC X .Gt a b (tGt ta tb) := pc_int ha hb fun _ _ _ _ _ _ h => gt_int h
theorem pc_ge (ha : PE X a ta) (hb : PE X b tb) : PC X .GtE a b (tGe ta tb) := pc_int ha hb fun _ _ _ _ _ _ h => ge_int h
theorem pc_eqI (ha : PE X a ta) (hb : PE X b tb) : PC X .Eq a b (tEqI ta tb) := pc_int ha hb fun _ _ _ _ _ _ h => eq_int (by rw [Bool.beq_eq_decide_eq]; exact h)
theorem pc_neI (ha : PE X a ta) (hb : PE X b tb) : PC X .NotEq a b (tNeI ta tb) := pc_int ha hb fun _ _ _ _ _ _ h => ne_int (by rw [bne, Bool.beq_eq_decide_eq]; exact h)
/-- is None -/
def tIsN (ta : TE) : TE := fun σ H Q => ta σ H fun x H1 => Q (.bl (decide (x = .non))) H1
def tNotN (ta : TE) : TE := fun σ H Q => ta σ H fun x H1 => Q (.bl (!decide (x = .non))) H1
theorem RelV.none_iff {x : V} {v : Value} (r : RelV x v) : (v == Value.none) = decide (x = .non) := by
  cases x with
  | non => cases r; rfl
  | bl _ => cases r; rfl
  | int _ => obtain ⟨t, rfl⟩ := r; rfl
  | str _ => obtain ⟨t, rfl⟩ := r; rfl
  | byt _ => obtain ⟨t, rfl⟩ := r; rfl
  | flt _ => obtain ⟨t, rfl⟩ := r; rfl
  | ref _ => cases r; rfl
  | ty _ => cases r; rfl
theorem pc_isN {j pos'} (ha : PE X a ta) : PC X .Is a (.Constant .none j pos') (tIsN ta) := by
  intro pins s σ H Q I h
  refine thn (ha pins s σ H _ I h) fun v s1 ⟨x, H1, I1, r1, q1⟩ => ?_
  exact Constant_none (is_none_gen ⟨.bl _, H1, I1, by rw [r1.none_iff]; rfl, q1⟩)
theorem pc_notN {j pos'} (ha : PE X a ta) : PC X .IsNot a (.Constant .none j pos') (tNotN ta) := by
  intro pins s σ H Q I h
  refine thn (ha pins s σ H _ I h) fun v s1 ⟨x, H1, I1, r1, q1⟩ => ?_
  exact Constant_none (isnot_none_gen ⟨.bl _, H1, I1, by rw [r1.none_iff]; rfl, q1⟩)
/-- a comparison as a value, as a test -/
def tB (t : TE) : TT := fun σ H Q => t σ H fun x H1 => ∃ c, x = .bl c ∧ Q c H1
theorem pe_cmp {op : CmpOp} {t : TE} (h : PC X op a b t) (h1 : behindInMarks op b = false := by first | exact nobehind _ (by decide) (by decide) | rfl) : PE X (.Compare a [op] [b] pos) t := fun pins s σ H Q I hw => wpAny_Compare1 (h pins s σ H Q I hw) h1
theorem pt_cmp {op : CmpOp} {t : TE} (h : PC X op a b t) (h1 : behindInMarks op b = false := by first | exact nobehind _ (by decide) (by decide) | rfl) : PT X (.Compare a [op] [b] pos) (tB t) := by
  intro pins s σ H Q I hw
  refine wpAny_isTrue_Compare1 (thn (h pins s σ H _ I hw) fun v s1 h1 => thn h1 fun u s2 h2 => thn h2 fun c s3 ⟨x, H1, I1, r1, q1⟩ => ?_) h1
  obtain ⟨d, rfl, q⟩ := q1
  cases r1
  exact wpAny_truthy_bool ⟨H1, I1, q⟩
/-- an expression whose value is a bool, as a test -/
theorem pt_val {e : Expr} {t : TE} (h : PE X e t) (he : ∀ whole, isTrue e X.env whole = (do let v ← whole; standAt e.pos; holding [v] (truthy v)) := by intro _; rfl) : PT X e (tB t) := by
  intro pins s σ H Q I hw
  refine isTrue_plain (thn (h pins s σ H _ I hw) fun v s1 ⟨x, H1, I1, r1, q1⟩ => ?_) (he _)
  obtain ⟨d, rfl, q⟩ := q1
  cases r1
  exact wpAny_truthy_bool ⟨H1, I1, q⟩

/-! ### and, or, not -/
variable {tA tB' : TT} {rest : List Expr}
def tAnd (t u : TT) : TT := fun σ H Q => t σ H fun c H1 => if c = true then u σ H1 Q else Q false H1
def tOr (t u : TT) : TT := fun σ H Q => t σ H fun c H1 => if c = true then Q true H1 else u σ H1 Q
def tNot (t : TT) : TT := fun σ H Q => t σ H fun c H1 => Q (!c) H1
theorem pw_and1 (ha : PT X a tA) : PW X (.BoolOp .And [a] pos) tA := by
  intro wh pins s σ H Q I h
  refine isTrue_and (thn (ha pins s σ H Q I h) fun c s1 e => ?_)
  cases c with
  | true => exact isTrue_and_nil e
  | false => exact e
theorem pw_or1 (ha : PT X a tA) : PW X (.BoolOp .Or [a] pos) tA := by
  intro wh pins s σ H Q I h
  refine isTrue_or (thn (ha pins s σ H Q I h) fun c s1 e => ?_)
  cases c with
  | false => exact isTrue_or_nil e
  | true => exact e
theorem pw_and (ha : PT X a tA) (hb : PW X (.BoolOp .And (b :: rest) pos) tB') : PW X (.BoolOp .And (a :: b :: rest) pos) (tAnd tA tB') := by
  intro wh pins s σ H Q I h
  refine isTrue_and (thn (ha pins s σ H _ I h) fun c s1 ⟨H1, I1, q1⟩ => ?_)
  cases c with
  | true => exact hb wh pins s1 σ H1 Q I1 q1
  | false => exact ⟨H1, I1, q1⟩
theorem pw_or (ha : PT X a tA) (hb : PW X (.BoolOp .Or (b :: rest) pos) tB') : PW X (.BoolOp .Or (a :: b :: rest) pos) (tOr tA tB') := by
  intro wh pins s σ H Q I h
  refine isTrue_or (thn (ha pins s σ H _ I h) fun c s1 ⟨H1, I1, q1⟩ => ?_)
  cases c with
  | true => exact ⟨H1, I1, q1⟩
  | false => exact hb wh pins s1 σ H1 Q I1 q1
theorem pt_not (ha : PT X a tA) : PT X (.UnaryOp .Not a pos) (tNot tA) := by
  intro pins s σ H Q I h
  exact isTrue_not (ha pins s σ H (fun c H1 => Q (!c) H1) I h)
/-- .. as values (bools) -/
def tAndV (ta tb : TE) : TE := fun σ H Q => ta σ H fun x H1 => ∃ c, x = .bl c ∧ if c = true then tb σ H1 Q else Q (.bl false) H1
def tOrV (ta tb : TE) : TE := fun σ H Q => ta σ H fun x H1 => ∃ c, x = .bl c ∧ if c = true then Q (.bl true) H1 else tb σ H1 Q
def tNotV (ta : TE) : TE := fun σ H Q => ta σ H fun x H1 => ∃ c, x = .bl c ∧ Q (.bl (!c)) H1
theorem pe_one {op} {t : TE} (h : PE X a t) : PE X (.BoolOp op [a] pos) t := fun pins s σ H Q I hw => BoolOp_one (h pins s σ H Q I hw)
theorem pe_and (ha : PE X a ta) (hb : PE X (.BoolOp .And (b :: rest) pos) tb) : PE X (.BoolOp .And (a :: b :: rest) pos) (tAndV ta tb) := by
  intro pins s σ H Q I h
  refine BoolOp_and (thn (ha pins s σ H _ I h) fun v s1 ⟨x, H1, I1, r1, q1⟩ => ?_)
  obtain ⟨c, rfl, q1⟩ := q1
  cases r1
  refine wpAny_truthy_bool ?_
  cases c with
  | true => exact hb pins s1 σ H1 Q I1 q1
  | false => exact ⟨.bl false, H1, I1, rfl, q1⟩
theorem pe_or (ha : PE X a ta) (hb : PE X (.BoolOp .Or (b :: rest) pos) tb) : PE X (.BoolOp .Or (a :: b :: rest) pos) (tOrV ta tb) := by
  intro pins s σ H Q I h
  refine BoolOp_or (thn (ha pins s σ H _ I h) fun v s1 ⟨x, H1, I1, r1, q1⟩ => ?_)
  obtain ⟨c, rfl, q1⟩ := q1
  cases r1
  refine wpAny_truthy_bool ?_
  cases c with
  | false => exact hb pins s1 σ H1 Q I1 q1
  | true => exact ⟨.bl true, H1, I1, rfl, q1⟩
theorem pe_not (ha : PE X a ta) : PE X (.UnaryOp .Not a pos) (tNotV ta) := by
  intro pins s σ H Q I h
  refine UnaryOp_ (thn (ha pins s σ H _ I h) fun v s1 ⟨x, H1, I1, r1, q1⟩ => ?_)
  obtain ⟨c, rfl, q1⟩ := q1
  cases r1
  exact not_of (wpAny_truthy_bool ⟨.bl (!c), H1, I1, rfl, q1⟩)
/-- a if t else b -/
def tIf (t : TT) (ta tb : TE) : TE := fun σ H Q => t σ H fun c H1 => if c = true then ta σ H1 Q else tb σ H1 Q
theorem pe_ifExp {c : Expr} (hc : PT X c tA) (ha : PE X a ta) (hb : PE X b tb) : PE X (.IfExp c a b pos) (tIf tA ta tb) := by
  intro pins s σ H Q I h
  refine wpAny_IfExp (thn (hc pins s σ H _ I h) fun d s1 ⟨H1, I1, q1⟩ => ?_)
  cases d with
  | true => exact ha pins s1 σ H1 Q I1 q1
  | false => exact hb pins s1 σ H1 Q I1 q1
end
end L2

namespace L2
open PySem PySem.Spec PyProof.Rows

/-! ### a list, a tuple that is read: tracked, frozen, or an object of the module -/
def SqL (K : PySem.W.Frag) (H : Hp) (a : Addr) (xs : List V) : Prop :=
  Rd H a (.lst xs) ∨
    ∃ (o : Obj) (its : Array Value) (n : Nat), K.lookup a = some o ∧ o.cls = .type "list" ∧ o.dict = none ∧ o.data = .seq its n ∧ its.size ≤ sizeLine ∧ Vals xs its.toList
def SqT (K : PySem.W.Frag) (H : Hp) (a : Addr) (xs : List V) : Prop :=
  Rd H a (.tup xs) ∨
    ∃ (o : Obj) (its : Array Value) (n : Nat), K.lookup a = some o ∧ o.cls = .type "tuple" ∧ o.data = .seq its n ∧ its.size ≤ sizeLine ∧ Vals xs its.toList
def absV : Value → Option V
  | .none => some .non
  | .bool b => some (.bl b)
  | .int i _ => some (.int i)
  | .str x _ => some (.str x)
  | .bytes b _ => some (.byt b)
  | .float b _ => some (.flt b)
  | .ref a => some (.ref a)
  | .type n => some (.ty n)
  | _ => none
theorem RelV.abs {x : V} {u : Value} (r : RelV x u) : absV u = some x := by
  cases x with
  | non => cases r; rfl
  | bl _ => cases r; rfl
  | int _ => obtain ⟨t, rfl⟩ := r; rfl
  | str _ => obtain ⟨t, rfl⟩ := r; rfl
  | byt _ => obtain ⟨t, rfl⟩ := r; rfl
  | flt _ => obtain ⟨t, rfl⟩ := r; rfl
  | ref _ => cases r; rfl
  | ty _ => cases r; rfl
theorem RelV.inj {x y : V} {u : Value} (r : RelV x u) (q : RelV y u) : x = y := Option.some.inj (r.abs.symm.trans q.abs)
theorem Vals.inj : ∀ {xs ys : List V} {us : List Value}, Vals xs us → Vals ys us → xs = ys
  | _, _, _, .nil, .nil => rfl
  | _, _, _, .cons r t, .cons r' t' => by rw [r.inj r', Vals.inj t t']
section
variable {X : Cx} {pins : List (Addr × Obj)} {σ : St} {H : Hp} {s : Shared} {a : Addr} {xs ys : List V}
theorem SqL.of {K : PySem.W.Frag} (h : H a = some (.lst xs)) : SqL K H a xs := .inl (.inl h)
theorem SqT.of {K : PySem.W.Frag} (h : H a = some (.tup xs)) : SqT K H a xs := .inl (.inl h)
theorem Inv.list (I : Inv X pins σ H s) (h : SqL X.K H a xs) : ∃ its : List Value, Vals xs its ∧ PlainL s.heap a its.toArray ∧ xs.length ≤ sizeLine := by
  rcases h with h | ⟨o, its, n, hk, hc, hd, hs, hz, r⟩
  · obtain ⟨z, its, n, r, e⟩ := h.ok I.hok
    exact ⟨its, r, ⟨_, n, e, rfl, rfl, rfl⟩, z⟩
  · refine ⟨its.toList, r, ⟨o, n, I.kIn a o hk, hc, hd, by simpa using hs⟩, ?_⟩
    have e := r.length
    simp only [Array.length_toList] at e
    omega
theorem Inv.tuple (I : Inv X pins σ H s) (h : SqT X.K H a xs) : ∃ its : List Value, Vals xs its ∧ IsTup s.heap a its.toArray ∧ xs.length ≤ sizeLine := by
  rcases h with h | ⟨o, its, n, hk, hc, hs, hz, r⟩
  · obtain ⟨z, its, r, p⟩ := h.ok I.hok
    exact ⟨its, r, p, z⟩
  · refine ⟨its.toList, r, ⟨o, I.kIn a o hk, hc, n, by simpa using hs⟩, ?_⟩
    have e := r.length
    simp only [Array.length_toList] at e
    omega
theorem Inv.list_inj (I : Inv X pins σ H s) (h : SqL X.K H a xs) (h' : SqL X.K H a ys) : xs = ys := by
  obtain ⟨its, r, ⟨o, n, e, _, _, d⟩, _⟩ := I.list h
  obtain ⟨its', r', ⟨o', n', e', _, _, d'⟩, _⟩ := I.list h'
  rw [e] at e'; cases e'
  rw [d] at d'
  injection d' with d1 _
  have : its = its' := by simpa using congrArg Array.toList d1
  subst this
  exact r.inj r'
theorem Inv.tuple_inj (I : Inv X pins σ H s) (h : SqT X.K H a xs) (h' : SqT X.K H a ys) : xs = ys := by
  obtain ⟨its, r, ⟨o, e, _, n, d⟩, _⟩ := I.tuple h
  obtain ⟨its', r', ⟨o', e', _, n', d'⟩, _⟩ := I.tuple h'
  rw [e] at e'; cases e'
  rw [d] at d'
  injection d' with d1 _
  have : its = its' := by simpa using congrArg Array.toList d1
  subst this
  exact r.inj r'
end

/-! ### another wish about exceptions -/
abbrev Cx.wish (X : Cx) (E : Value → Shared → Prop) : Cx := { X with xe := E }
/-- no exception leaves -/
abbrev Cx.nox (X : Cx) : Cx := X.wish fun _ _ => False
theorem Cx.Ok.wish {X : Cx} (ok : X.Ok) (E : Value → Shared → Prop) : (X.wish E).Ok :=
  ⟨ok.mod, ok.kind, ok.glob, ok.blt, ok.above, ok.inj, ok.has, ok.cab, ok.hd, ok.frames, ok.stk, ok.exf, ok.bs, ok.bsz, ok.noex, ok.exfs, ok.funs, ok.frf⟩
theorem Cx.Ok.unwish {X : Cx} {E : Value → Shared → Prop} (ok : (X.wish E).Ok) : X.Ok :=
  ⟨ok.mod, ok.kind, ok.glob, ok.blt, ok.above, ok.inj, ok.has, ok.cab, ok.hd, ok.frames, ok.stk, ok.exf, ok.bs, ok.bsz, ok.noex, ok.exfs, ok.funs, ok.frf⟩
section
variable {X : Cx} {pins : List (Addr × Obj)} {σ : St} {H : Hp} {s : Shared} {E : Value → Shared → Prop}
theorem Inv.wish (I : Inv X pins σ H s) (E : Value → Shared → Prop) : Inv (X.wish E) pins σ H s := ⟨I.ok.wish E, I.os, I.bare, I.base, I.loc, I.cell, I.free, I.freeC, I.pin, I.hok, I.len⟩
theorem Inv.unwish (I : Inv (X.wish E) pins σ H s) : Inv X pins σ H s := ⟨I.ok.unwish, I.os, I.bare, I.base, I.loc, I.cell, I.free, I.freeC, I.pin, I.hok, I.len⟩
theorem SP.unwish {D : Ends} {f : Flow} {s' : Shared} (h : SP (X.wish E) pins D f s') : SP X pins D f s' := by
  cases f with
  | next => obtain ⟨σ', H', I, q⟩ := h; exact ⟨σ', H', I.unwish, q⟩
  | brk => obtain ⟨σ', H', I, q⟩ := h; exact ⟨σ', H', I.unwish, q⟩
  | cont => obtain ⟨σ', H', I, q⟩ := h; exact ⟨σ', H', I.unwish, q⟩
  | ret u => obtain ⟨v, σ', H', I, r, q⟩ := h; exact ⟨v, σ', H', I.unwish, r, q⟩
theorem PE.nox {e : Expr} {t : TE} (h : PE X.nox e t) : PE X e t := fun pins s σ H Q I hw =>
  wpAny_mono (h pins s σ H Q (I.wish _) hw) (fun _ _ ⟨v, H', I', r, q⟩ => ⟨v, H', I'.unwish, r, q⟩) fun _ _ z => False.elim z
theorem PT.nox {e : Expr} {t : TT} (h : PT X.nox e t) : PT X e t := fun pins s σ H Q I hw =>
  wpAny_mono (h pins s σ H Q (I.wish _) hw) (fun _ _ ⟨H', I', q⟩ => ⟨H', I'.unwish, q⟩) fun _ _ z => False.elim z
theorem PSs.nox {st : List Stmt} {t : TS} (h : PSs X.nox st t) : PSs X st t := fun pins s σ H D I hw =>
  wpAny_mono (h pins s σ H D (I.wish _) hw) (fun _ _ q => q.unwish) fun _ _ z => False.elim z
end

/-! ### blocks and small statements -/
section
variable {X : Cx} {st : Stmt} {rest : List Stmt} {t u : TS} {e : Expr} {te : TE} {pos : Pos}
def tNext : TS := fun D σ H => D.nx σ H
def tSeq (t u : TS) : TS := fun D σ H => t { D with nx := u D } σ H
theorem pss_nil : PSs X [] tNext := fun _ _ σ H _ I h => wpAny_execs_nil ⟨σ, H, I, h⟩
theorem pss_cons (h1 : PS X st t) (h2 : PSs X rest u) : PSs X (st :: rest) (tSeq t u) := by
  intro pins s σ H D I h
  refine wpAny_execs_cons (thn (h1 pins s σ H { D with nx := u D } I h) fun f s1 q => ?_)
  cases f with
  | next =>
    obtain ⟨σ', H', I', q⟩ := q
    exact h2 pins s1 σ' H' D I' q
  | ret v => exact q
  | brk => exact q
  | cont => exact q
theorem pss_one (h1 : PS X st t) : PSs X [st] t := by
  intro pins s σ H D I h
  refine wpAny_execs_cons (thn (h1 pins s σ H D I h) fun f s1 q => ?_)
  cases f with
  | next => exact wpAny_execs_nil q
  | ret v => exact q
  | brk => exact q
  | cont => exact q
def tBreak : TS := fun D σ H => D.bk σ H
def tCont : TS := fun D σ H => D.ct σ H
theorem ps_pass : PS X (.Pass pos) tNext := fun _ _ σ H _ I h => wpAny_Pass ⟨σ, H, I, h⟩
theorem ps_break : PS X (.Break pos) tBreak := fun _ _ σ H _ I h => wpAny_Break ⟨σ, H, I, h⟩
theorem ps_continue : PS X (.Continue pos) tCont := fun _ _ σ H _ I h => wpAny_Continue ⟨σ, H, I, h⟩
/-- in a def's body nothing is shown -/
theorem Inv.quiet {pins : List (Addr × Obj)} {σ : St} {H : Hp} {s : Shared} (I : Inv X pins σ H s) : interactive X.env = false := by simp [interactive, I.ok.kind]
/-- a docstring -/
theorem ps_doc {x j pos pos'} : PS X (.Expr (.Constant (.str x) j pos) pos') tNext := fun _ s σ H _ I h => wpAny_Expr (Calls.Constant_str (show SP X _ _ .next { s with toks := s.toks + 1 } from ⟨σ, H, I.tok _, h⟩)) I.quiet
/-- an expression whose value is dropped -/
def tDrop (te : TE) : TS := fun D σ H => te σ H fun _ H1 => D.nx σ H1
theorem ps_expr (he : PE X e te) (hs : swapsWith e none pos.line X.env = pure false := by rfl) : PS X (.Expr e pos) (tDrop te) := by
  intro pins s σ H D I h
  exact wpAny_Expr_any (thn (he pins s σ H _ I h) fun v s1 ⟨x, H1, I1, r1, q1⟩ => ⟨σ, H1, I1, q1⟩) I.quiet hs
def tRet (te : TE) : TS := fun D σ H => te σ H D.rt
theorem ps_ret (he : PE X e te) : PS X (.Return (some e) pos) (tRet te) := by
  intro pins s σ H D I h
  exact wpAny_Return_some (thn (he pins s σ H _ I h) fun v s1 ⟨x, H1, I1, r1, q1⟩ => ⟨x, σ, H1, I1, r1, q1⟩)
def tRetN : TS := fun D _ H => D.rt .non H
theorem ps_retN : PS X (.Return none pos) tRetN := fun _ _ σ H _ I h => wpAny_Return_none ⟨.non, σ, H, I, rfl, h⟩
def tIfS (c : TT) (t u : TS) : TS := fun D σ H => c σ H fun b H1 => if b = true then t D σ H1 else u D σ H1
theorem ps_if {c : Expr} {a b : List Stmt} {tc : TT} (hc : PT X c tc) (ha : PSs X a t) (hb : PSs X b u) : PS X (.If c a b pos) (tIfS tc t u) := by
  intro pins s σ H D I h
  refine wpAny_If (thn (hc pins s σ H _ I h) fun d s1 ⟨H1, I1, q1⟩ => ?_)
  cases d with
  | true => exact ha pins s1 σ H1 D I1 q1
  | false => exact hb pins s1 σ H1 D I1 q1
/-- code that the proof never comes to -/
def tNever : TS := fun _ _ _ => False
theorem ps_never : PS X st tNever := fun _ _ _ _ _ _ h => h.elim
theorem pss_never {sts : List Stmt} : PSs X sts tNever := fun _ _ _ _ _ _ h => h.elim
end

/-! ### targets -/
abbrev TG := V → St → Hp → (St → Hp → Prop) → Prop
abbrev TGs := List V → St → Hp → (St → Hp → Prop) → Prop
def PG (X : Cx) (target : Expr) (t : TG) : Prop :=
  ∀ (pins : List (Addr × Obj)) (s : Shared) (σ : St) (H : Hp) (v : V) (u : Value) (Q : St → Hp → Prop), Inv X pins σ H s → RelV v u → t v σ H Q →
    wpAny (model X.prog X.w) X.A (assign target X.env u) (fun _ s' => ∃ σ' H', Inv X pins σ' H' s' ∧ Q σ' H') X.xe s
/-- several targets, one after another -/
def PGs (X : Cx) (ts : List Expr) (t : TGs) : Prop :=
  ∀ (pins : List (Addr × Obj)) (s : Shared) (σ : St) (H : Hp) (vs : List V) (us : List Value) (Q : St → Hp → Prop), Inv X pins σ H s → Vals vs us → t vs σ H Q →
    wpAny (model X.prog X.w) X.A (assignInOrder ((assignEach ts X.env).map (·.2)) us) (fun _ s' => ∃ σ' H', Inv X pins σ' H' s' ∧ Q σ' H') X.xe s
/-- o[i] = v, by values -/
abbrev TSet := V → V → V → Hp → (Hp → Prop) → Prop
def PSet (X : Cx) (t : TSet) : Prop :=
  ∀ (pins : List (Addr × Obj)) (s : Shared) (σ : St) (H : Hp) (o i v : V) (ov iv u : Value) (Q : Hp → Prop), Inv X pins σ H s → RelV o ov → RelV i iv → RelV v u → t o i v H Q →
    wpAny (model X.prog X.w) X.A (setItem ov iv u) (fun _ s' => ∃ H', Inv X pins σ H' s' ∧ Q H') X.xe s
/-- a op= b, by values -/
abbrev TIp := V → V → Hp → VK → Prop
def PIp (X : Cx) (op : Operator) (t : TIp) : Prop :=
  ∀ (pins : List (Addr × Obj)) (s : Shared) (σ : St) (H : Hp) (x y : V) (v u : Value) (Q : VK), Inv X pins σ H s → RelV x v → RelV y u → t x y H Q →
    wpAny (model X.prog X.w) X.A (inplaceOp op v u) (EP X pins σ Q) X.xe s
section
variable {X : Cx} {pos : Pos}
def gName (i : Nat) : TG := fun v σ H Q => Q (σ.set i (some v)) H
theorem pg_name {i : Nat} {x : Str} (hN : X.N.Nodup) (hi : X.N[i]? = some x) (hx : Loc X.env.scope x) (hf : X.fn x = true ∨ X.env.scope.names.lookup x = some .local := by first | exact .inl rfl | exact .inr rfl | assumption) : PG X (.Name x pos) (gName i) := by
  intro pins s σ H v u Q I r h
  exact wpAny_assign_Name (store_ok I hN hi hx r (fun s' I' => ⟨_, H, I', h⟩) hf)
def gNil : TGs := fun vs σ H Q => vs = [] ∧ Q σ H
def gCons (t : TG) (u : TGs) : TGs := fun vs σ H Q => ∃ v r, vs = v :: r ∧ t v σ H fun σ' H' => u r σ' H' Q
theorem pgs_nil : PGs X [] gNil := by
  intro pins s σ H vs us Q I r h
  obtain ⟨e, h⟩ := h
  subst e
  cases r
  exact assignInOrder_nil ⟨σ, H, I, h⟩
theorem pgs_cons {e : Expr} {es : List Expr} {t : TG} {u : TGs} (h1 : PG X e t) (h2 : PGs X es u)
    (hs : (assignEach (e :: es) X.env).map (·.2) = assign e X.env :: (assignEach es X.env).map (·.2) := by rfl) : PGs X (e :: es) (gCons t u) := by
  intro pins s σ H vs us Q I r h
  obtain ⟨v, vr, e1, h⟩ := h
  subst e1
  cases r with
  | cons r rr =>
    rw [hs]
    refine assignInOrder_cons (thn (h1 pins s σ H _ _ _ I r h) fun _ s1 ⟨σ1, H1, I1, q1⟩ => ?_)
    exact h2 pins s1 σ1 H1 _ _ Q I1 rr q1
/-- (a, b, ..) = a tuple of that length -/
def gTup (K : PySem.W.Frag) (n : Nat) (t : TGs) : TG := fun v σ H Q => ∃ a xs, v = .ref a ∧ SqT K H a xs ∧ xs.length = n ∧ t xs σ H Q
theorem pg_tup {es : List Expr} {k : Nat} {t : TGs} {n : Nat} (hc : X.calm = true) (h : PGs X es t)
    (hn : (assignEach es X.env).length = n := by rfl) (hst : (assignEach es X.env).findIdx? (·.1) = none := by rfl) : PG X (.Tuple es k pos) (gTup X.K n t) := by
  intro pins s σ H v u Q I r hw
  obtain ⟨a, xs, e1, hq, hl, hw⟩ := hw
  subst e1
  cases r
  obtain ⟨its, rv, ht, hz⟩ := I.tuple hq
  refine assign_Tuple_tuple (I.ok.hd hc) ht (by simp [hn, ← hl, rv.length]) hst fun h' hx => ?_
  have I1 : Inv X pins σ H { s with heap := h' } := I.kept (t' := s.toks) fun b o e => hx b o (Nat.ne_of_lt (Heap.lt_size e)) e
  exact h pins _ σ H xs _ Q I1 (by simpa using rv) hw
/-- o[i] = .. -/
def gSub (to ti : TE) (t : TSet) : TG := fun v σ H Q => to σ H fun o H1 => ti σ H1 fun i H2 => t o i v H2 fun H3 => Q σ H3
theorem pg_sub {o i : Expr} {to ti : TE} {t : TSet} (ho : PE X o to) (hi : PE X i ti) (hs : PSet X t)
    (ha : ∀ v, assign (.Subscript o i pos) X.env v = (do
      let ov ← holding [v] (eval o X.env)
      let iv ← holding [v, ov] (eval i X.env)
      standAt pos
      holding [v, ov, iv] (setItem ov iv v)
      release [v, ov, iv] []) := by intro _; rfl) : PG X (.Subscript o i pos) (gSub to ti t) := by
  intro pins s σ H v u Q I r h
  rw [ha]
  refine wpAny_bind (wpAny_holding (thn (ho pins s σ H _ I h) fun ov s1 ⟨x, H1, I1, r1, q1⟩ => ?_))
  refine wpAny_bind (wpAny_holding (thn (hi pins s1 σ H1 _ I1 q1) fun iv s2 ⟨y, H2, I2, r2, q2⟩ => ?_))
  refine wpAny_bind (wpAny_standAt (wpAny_bind (wpAny_holding (thn (hs pins s2 σ H2 x y v ov iv u _ I2 r1 r2 r q2) fun _ s3 ⟨H3, I3, q3⟩ => ?_))))
  exact wpAny_release ⟨σ, H3, I3, q3⟩
/-- target = value -/
def tAsg (te : TE) (g : TG) : TS := fun D σ H => te σ H fun x H1 => g x σ H1 D.nx
theorem ps_asg {tg e : Expr} {te : TE} {g : TG} (he : PE X e te) (hg : PG X tg g) (hs : swapsWithSole [tg] e pos.line X.env = pure false := by rfl) (hw : swappedStores [tg] e X.env = pure none := by rfl)
    (h1 : (assignEach [tg] X.env).map (·.2) = [assign tg X.env] := by rfl) : PS X (.Assign [tg] e pos) (tAsg te g) := by
  intro pins s σ H D I h
  refine wpAny_Assign_stores (thn (he pins s σ H _ I h) fun v s1 ⟨x, H1, I1, r1, q1⟩ => ?_) hs hw
  rw [h1]
  exact thn (hg pins s1 σ H1 x v _ I1 r1 q1) fun _ s2 q => q
/-- name = value -/
theorem ps_set {i : Nat} {x : Str} {e : Expr} {te : TE} {pos' : Pos} (hN : X.N.Nodup) (hi : X.N[i]? = some x) (hx : Loc X.env.scope x) (he : PE X e te) (hs : swapsWith e (some (.Name x pos')) pos.line X.env = pure false := by rfl) (hf : X.fn x = true ∨ X.env.scope.names.lookup x = some .local := by first | exact .inl rfl | exact .inr rfl | assumption) :
    PS X (.Assign [.Name x pos'] e pos) (tAsg te (gName i)) := by
  intro pins s σ H D I h
  refine wpAny_Assign_Name (thn (he pins s σ H _ I h) fun v s1 ⟨y, H1, I1, r1, q1⟩ => ?_) hs
  exact store_ok I1 hN hi hx r1 (fun s2 I2 => ⟨_, H1, I2, q1⟩) hf
/-- a, b = x, y with plain local names: stored from the right; the pair itself is not tracked (the opening rows as in PyProof/Rows/TupAssign.lean:23) -/
def tPar (i j : Nat) (ta : TA) : TS := fun D σ H => ta σ H fun vs H1 => ∃ v w, vs = [v, w] ∧ D.nx ((σ.set i (some v)).set j (some w)) H1
theorem ps_par {i j : Nat} {x y : Str} {a b : Expr} {ta : TA} {px py pt : Pos} {kt k2 pt2} (hc : X.calm = true) (hN : X.N.Nodup) (hi : X.N[i]? = some x) (hj : X.N[j]? = some y) (hij : i ≠ j)
    (hx : X.env.scope.names.lookup x = some .local) (hy : X.env.scope.names.lookup y = some .local) (ha : PA X [a, b] ta)
    (hw : swappedStores [.Tuple [.Name x px, .Name y py] kt pt] (.Tuple [a, b] k2 pt2) X.env = pure (some [x, y]))
    (hs : swapsWithSole [.Tuple [.Name x px, .Name y py] kt pt] (.Tuple [a, b] k2 pt2) pos.line X.env = pure false := by rfl) :
    PS X (.Assign [.Tuple [.Name x px, .Name y py] kt pt] (.Tuple [a, b] k2 pt2) pos) (tPar i j ta) := by
  intro pins s σ H D I h
  rw [exec_Assign_arm]
  refine wpAny_bind (wpAny_standAt ?_)
  rw [hs]
  refine wpAny_bind (wpAny_pure ?_)
  rw [if_neg (by decide)]
  refine wpAny_bind (Tuple_ (thn (ha _ pins s σ H _ I h) fun us s1 ⟨vs, H1, I1, r1, q1⟩ => ?_))
  obtain ⟨v, w, e1, q1⟩ := q1
  subst e1
  obtain ⟨u1, u2, rfl, rv, rw'⟩ : ∃ u1 u2, us = [u1, u2] ∧ RelV v u1 ∧ RelV w u2 := by
    cases r1 with
    | cons p q =>
      cases q with
      | cons p' q' =>
        cases q'
        exact ⟨_, _, rfl, p, p'⟩
  refine wpAny_newObj_type ?_ (by show 2 ≤ sizeLine; decide)
  have I2 : Inv X pins σ H1 { s1 with heap := s1.heap.push { cls := .type "tuple", data := .seq [u1, u2].toArray } } := I1.kept (t' := s1.toks) fun b o e => Heap.get?_push_of_some _ e
  rw [hw]
  refine wpAny_bind (wpAny_pure ?_)
  show wpAny (model X.prog X.w) X.A (do rule "assign.swapped-stores"; let items ← unpackItems (.ref s1.heap.objs.size) 2 none; assignInOrder [fun v => bindName X.env y v, fun v => bindName X.env x v] items.reverse; pure Flow.next) _ _ _
  refine wpAny_bind (wpAny_rule (wpAny_bind (unpackItems_tuple (items := #[u1, u2]) (I.ok.hd hc) (IsTup.new s1.heap _) fun h' hx' => ?_)))
  have I3 := I2.kept (h' := h') (t' := s1.toks) fun b o e => hx' b o (Nat.ne_of_lt (Heap.lt_size e)) e
  show wpAny _ _ (assignInOrder [fun v => bindName X.env y v, fun v => bindName X.env x v] [u2, u1] >>= fun _ => pure Flow.next) _ _ _
  refine wpAny_bind (assignInOrder_cons (wpAny_bindName (store_ok I3 hN hj (.inl hy) rw' (fun s2 I4 => ?_) (.inr hy))))
  refine assignInOrder_cons (wpAny_bindName (store_ok I4 hN hi (.inl hx) rv (fun s3 I5 => assignInOrder_nil (wpAny_pure ?_)) (.inr hx)))
  rw [List.set_comm _ _ (Ne.symm hij)] at I5
  exact ⟨_, H1, I5, q1⟩
/-- name op= e -/
def tAug (i : Nat) (te : TE) (ti : TIp) : TS := fun D σ H => ∃ x, σ[i]? = some (some x) ∧ te σ H fun y H1 => ti x y H1 fun z H2 => D.nx (σ.set i (some z)) H2
theorem ps_aug {i : Nat} {x : Str} {e : Expr} {te : TE} {op : Operator} {ti : TIp} {pos' : Pos} (hN : X.N.Nodup) (hi : X.N[i]? = some x) (hx : Loc X.env.scope x) (he : PE X e te) (ho : PIp X op ti) (hf : X.fn x = true ∨ X.env.scope.names.lookup x = some .local := by first | exact .inl rfl | exact .inr rfl | assumption) :
    PS X (.AugAssign (.Name x pos') op e pos) (tAug i te ti) := by
  intro pins s σ H D I h
  obtain ⟨v, e1, h⟩ := h
  obtain ⟨m, hn, hl⟩ := I.loc
  have vis : Vis X.env.scope x := by rcases hx with k | k; exact .inl k; exact .inr (.inl k)
  obtain ⟨u, r, l⟩ := hl i x v hi e1 vis
  refine wpAny_AugAssign_Name ?_
  have go : wpAny (model X.prog X.w) X.A (eval e X.env) (fun w s₂ => wpAny (model X.prog X.w) X.A (inplaceOp op u w) (fun r s₃ => wpAny (model X.prog X.w) X.A (storeName X.env x r) (fun _ => SP X pins D .next) X.xe s₃) X.xe s₂) X.xe s := by
    refine thn (he pins s σ H _ I h) fun w s1 ⟨y, H1, I1, r1, q1⟩ => ?_
    refine thn (ho pins s1 σ H1 v y u w _ I1 r r1 q1) fun z s2 ⟨zv, H2, I2, r2, q2⟩ => ?_
    exact store_ok I2 hN hi hx r2 (fun s3 I3 => ⟨_, H2, I3, q2⟩) hf
  rcases l with ⟨hk, hm⟩ | ⟨hk, c, hc, hcell⟩
  · exact wpAny_loadName_local I.ok.kind hk hn hm go
  · rcases hk with hk | hk
    · exact wpAny_loadName_cell I.ok.kind hk hc hcell go
    · rcases hx with k | k
      · have : X.env.scope.names.lookup x = some .free := hk
        rw [k] at this; cases this
      · have : X.env.scope.names.lookup x = some .free := hk
        rw [k] at this; cases this
/-- o[i] op= e -/
def tAugS (to ti te : TE) (tget : V → V → Hp → VK → Prop) (tip : TIp) (tset : TSet) : TS := fun D σ H => to σ H fun o H1 => ti σ H1 fun i H2 => tget o i H2 fun x H3 => te σ H3 fun y H4 => tip x y H4 fun z H5 => tset o i z H5 fun H6 => D.nx σ H6
/-- o[i], by values -/
def PGet (X : Cx) (t : V → V → Hp → VK → Prop) : Prop :=
  ∀ (pins : List (Addr × Obj)) (s : Shared) (σ : St) (H : Hp) (o i : V) (ov iv : Value) (Q : VK), Inv X pins σ H s → RelV o ov → RelV i iv → t o i H Q →
    wpAny (model X.prog X.w) X.A (getItem ov iv) (EP X pins σ Q) X.xe s
theorem ps_augS {o i e : Expr} {to ti te : TE} {tget : V → V → Hp → VK → Prop} {tip : TIp} {tset : TSet} {op : Operator} {tpos : Pos} (ho : PE X o to) (hi : PE X i ti) (hg : PGet X tget) (he : PE X e te) (hp : PIp X op tip) (hs : PSet X tset)
    (ha : ∀ ov iv new, augStore i ov iv new = (do holding [new, ov, iv] (setItem ov iv new); release [new, ov, iv] []; pure .next) := by intros; rfl) : PS X (.AugAssign (.Subscript o i tpos) op e pos) (tAugS to ti te tget tip tset) := by
  intro pins s σ H D I h
  refine wpAny_AugAssign_SubscriptAny (thn (ho pins s σ H _ I h) fun ov s1 ⟨x1, H1, I1, r1, q1⟩ => ?_) ha
  refine thn (hi pins s1 σ H1 _ I1 q1) fun iv s2 ⟨x2, H2, I2, r2, q2⟩ => ?_
  refine thn (hg pins s2 σ H2 x1 x2 ov iv _ I2 r1 r2 q2) fun old s3 ⟨x3, H3, I3, r3, q3⟩ => ?_
  refine thn (he pins s3 σ H3 _ I3 q3) fun v s4 ⟨x4, H4, I4, r4, q4⟩ => ?_
  refine thn (hp pins s4 σ H4 x3 x4 old v _ I4 r3 r4 q4) fun new s5 ⟨x5, H5, I5, r5, q5⟩ => ?_
  exact thn (hs pins s5 σ H5 x1 x2 x5 ov iv new _ I5 r1 r2 r5 q5) fun _ s6 ⟨H6, I6, q6⟩ => ⟨σ, H6, I6, q6⟩
/-- ints -/
def ipI (f : Int → Int → Int) : TIp := fun x y H Q => ∃ i j, x = .int i ∧ y = .int j ∧ Q (.int (f i j)) H
theorem ip_add : PIp X .Add (ipI fun i j => i + j) := by
  intro pins s σ H x y v u Q I r1 r2 h
  obtain ⟨i, j, e1, e2, q⟩ := h
  subst e1; subst e2
  obtain ⟨t, rfl⟩ := r1
  obtain ⟨t', rfl⟩ := r2
  exact iadd_int ⟨.int _, H, I.tok _, ⟨_, rfl⟩, q⟩
theorem ip_sub : PIp X .Sub (ipI fun i j => i - j) := by
  intro pins s σ H x y v u Q I r1 r2 h
  obtain ⟨i, j, e1, e2, q⟩ := h
  subst e1; subst e2
  obtain ⟨t, rfl⟩ := r1
  obtain ⟨t', rfl⟩ := r2
  exact isub_int ⟨.int _, H, I.tok _, ⟨_, rfl⟩, q⟩
end

/-! ### while -/
section
variable {X : Cx} {pos : Pos}
/-- the invariant W with its measure -/
def tWhile (c : TT) (tb : TS) : TS := fun D σ H => ∃ W : Nat → St → Hp → Prop, (∃ m, W m σ H) ∧ ∀ m σ H, W m σ H →
  c σ H fun b H1 => if b = true then ∃ N : St → Hp → Prop, (∀ σ' H', N σ' H' → ∃ m', m' < m ∧ W m' σ' H') ∧ tb { D with nx := N, ct := N, bk := D.nx } σ H1 else D.nx σ H1
theorem ps_while {c : Expr} {body : List Stmt} {tc : TT} {tb : TS} (hp : PassesOwn (model X.prog X.w) X.A X.env X.xe) (hc : PT X c tc) (hb : PSs X body tb) : PS X (.While c body [] pos) (tWhile tc tb) := by
  intro pins s σ H D I h
  obtain ⟨W, ⟨m0, w0⟩, turn⟩ := h
  refine wpAny_While (codeAny_whileLoop (fun n s' => ∃ σ' H', Inv X pins σ' H' s' ∧ W n σ' H') ?_ m0 ⟨σ, H, I, w0⟩)
  rintro n s1 ⟨σ1, H1, I1, w1⟩
  refine wpAny_passesOwn hp (thn (hc pins s1 σ1 H1 _ I1 (turn n σ1 H1 w1)) fun b s2 ⟨H2, I2, q2⟩ => ?_)
  cases b with
  | true =>
    obtain ⟨N, hN, q2⟩ := q2
    rw [if_pos rfl]
    refine wpAny_passesOwn hp (thn (hb pins s2 σ1 H2 _ I2 q2) fun f s3 q3 => ?_)
    cases f with
    | next =>
      obtain ⟨σ3, H3, I3, n3⟩ := q3
      obtain ⟨m', hm, w3⟩ := hN σ3 H3 n3
      exact ⟨m', hm, σ3, H3, I3, w3⟩
    | cont =>
      obtain ⟨σ3, H3, I3, n3⟩ := q3
      obtain ⟨m', hm, w3⟩ := hN σ3 H3 n3
      exact ⟨m', hm, σ3, H3, I3, w3⟩
    | brk => exact q3
    | ret v => exact q3
  | false =>
    rw [if_neg Bool.false_ne_true]
    exact wpAny_execs_nil ⟨σ1, H2, I2, q2⟩
end

/-! ### what a loop or a comprehension walks -/
/-- at turn i: it yields x (the heap may grow), or it stops -/
structure It where
  go : Nat → Hp → Prop
  yld : Nat → Hp → V → Hp → Prop
  stop : Nat → Hp → Prop
/-- the iterator's own objects may turn: they are not the frame's, not pinned, younger than the entry (or a comprehension's own) -/
def FpOk (X : Cx) (pins : List (Addr × Obj)) (H : Hp) (b : Addr) : Prop :=
  H b = none ∧ b ≠ X.env.locals ∧ b ∉ X.fs ∧ (b ∈ X.ex ∨ X.s₀.heap.objs.size ≤ b) ∧ (∀ x c, X.env.cells.lookup x = some c → c ≠ b) ∧ ∀ p ∈ X.pn ++ pins, p.1 ≠ b
theorem Inv.fpOk {X : Cx} {pins : List (Addr × Obj)} {σ : St} {H H' : Hp} {s : Shared} {b : Addr} (I : Inv X pins σ H s) (hb : s.heap.objs.size ≤ b) (hn : H' b = none) : FpOk X pins H' b := by
  refine ⟨hn, Nat.ne_of_gt (Nat.lt_of_lt_of_le I.lt hb), I.nofs hb, .inr (Nat.le_trans I.sz hb), fun x c e z => ?_, fun p hp z => ?_⟩
  · obtain ⟨v, q⟩ := I.cell x c e
    exact absurd (Nat.lt_of_lt_of_le q.lt (by rw [z]; exact hb)) (Nat.lt_irrefl _)
  · exact absurd (Nat.lt_of_lt_of_le (Heap.lt_size (I.pin p hp).1) (by rw [z]; exact hb)) (Nat.lt_irrefl _)
structure Turn (P : Program) (w : World) (K : PySem.W.Frag) (tg : Expr) (J : It) (fp : List Addr) (it : Addr) (tn : Nat → Heap → Prop) : Prop where
  mem : it ∈ fp
  obj : ∀ i h, tn i h → ∀ b ∈ fp, ∃ o, h.get? b = some o ∧ ∀ v, o.data ≠ .cell v
  keep : ∀ i h h', tn i h → (∀ b ∈ fp, ∀ o, h.get? b = some o → h'.get? b = some o) → tn i h'
  item : ∀ (X : Cx), X.prog = P → X.w = w → X.K = K → X.calm = true → ∀ (i : Nat) (pins : List (Addr × Obj)) (s : Shared) (σ : St) (H : Hp) (E : Value → Shared → Prop), Inv X pins σ H s → (∀ b ∈ fp, FpOk X pins H b) → tn i s.heap → J.go i H →
    wpAny (model P w) X.A (pyNext (.ref it)) (fun r s1 => ∃ u, r = some u ∧
      wpAny (model P w) X.A (letOwnedTupleGo tg (.ref it) u) (fun _ s2 => ∃ x H', Inv X pins σ H' s2 ∧ RelV x u ∧ J.yld i H x H' ∧ tn (i + 1) s2.heap ∧ ∀ b ∈ fp, H' b = none) E s1) E s
  done : ∀ (X : Cx), X.prog = P → X.w = w → X.K = K → X.calm = true → ∀ (i : Nat) (pins : List (Addr × Obj)) (s : Shared) (σ : St) (H : Hp) (E : Value → Shared → Prop), Inv X pins σ H s → (∀ b ∈ fp, FpOk X pins H b) → tn i s.heap → J.stop i H →
    wpAny (model P w) X.A (pyNext (.ref it)) (fun r s1 => r = none ∧ Inv X pins σ H s1) E s
  self : ∀ (A : Around) (i : Nat) (s : Shared) (Q : Value → Shared → Prop) (E : Value → Shared → Prop), tn i s.heap → Q (.ref it) s → wpAny (model P w) A (pyIter (.ref it)) Q E s
abbrev TI := St → Hp → (It → Hp → Prop) → Prop
/-- an iterator has come -/
def PIE (X : Cx) (pins : List (Addr × Obj)) (σ : St) (tg : Expr) (R : It → Hp → Prop) (itv : Value) (s2 : Shared) : Prop :=
  ∃ (it : Addr) (fp : List Addr) (tn : Nat → Heap → Prop) (J : It) (H' : Hp), itv = .ref it ∧ Inv X pins σ H' s2 ∧ Turn X.prog X.w X.K tg J fp it tn ∧ tn 0 s2.heap ∧ (∀ b ∈ fp, FpOk X pins H' b) ∧ R J H'
def PI (X : Cx) (tg iter : Expr) (wi : TI) : Prop :=
  ∀ (pins : List (Addr × Obj)) (s : Shared) (σ : St) (H : Hp) (R : It → Hp → Prop), Inv X pins σ H s → wi σ H R →
    wpAny (model X.prog X.w) X.A (eval iter X.env) (fun v s1 => wpAny (model X.prog X.w) X.A (pyIter v) (PIE X pins σ tg R) X.xe s1) X.xe s

/-- the step ahead of the store is nothing for an iterator that keeps no tuple -/
theorem go_of {M : Model} {A : Around} {E : Value → Shared → Prop} {s : Shared} {tg : Expr} {it : Addr} {u : Value} {o : Obj} {n : String} {vs : Array Value} {Q : Unit → Shared → Prop} (ho : s.heap.get? it = some o) (hc : o.cls = .type n) (hd : o.data = .fields vs)
    (hn : ["enumerate", "zip", "dict_itemiterator", "dict_reverseitemiterator", "odict_iterator", "itertools.zip_longest", "itertools.pairwise"].contains n = false) (hQ : Q () s) : wpAny M A (letOwnedTupleGo tg (.ref it) u) Q E s := by
  unfold letOwnedTupleGo
  cases tg <;> first
    | exact wpAny_pure hQ
    | (cases u <;> first
        | exact wpAny_pure hQ
        | (refine wpAny_bind (wpAny_load ho ?_)
           rw [hc, hd]
           show wpAny M A (if (["enumerate", "zip", "dict_itemiterator", "dict_reverseitemiterator", "odict_iterator", "itertools.zip_longest", "itertools.pairwise"].contains n && vs[0]? == some (rawInt _)) = true then _ else _) Q E s
           rw [if_neg (by intro h; rw [hn, Bool.false_and] at h; cases h)]
           exact wpAny_pure hQ))

/-- the list at a, as it stands at each turn (a loop may append to it) -/
def Itl (K : PySem.W.Frag) (a : Addr) : It :=
  ⟨fun i H => ∃ xs x, SqL K H a xs ∧ xs[i]? = some x, fun i H x H' => H' = H ∧ ∀ xs, SqL K H a xs → xs[i]? = some x, fun i H => ∃ xs, SqL K H a xs ∧ xs.length ≤ i⟩
def Itt (K : PySem.W.Frag) (a : Addr) : It :=
  ⟨fun i H => ∃ xs x, SqT K H a xs ∧ xs[i]? = some x, fun i H x H' => H' = H ∧ ∀ xs, SqT K H a xs → xs[i]? = some x, fun i H => ∃ xs, SqT K H a xs ∧ xs.length ≤ i⟩
/-- lo, lo + 1, .. (n of them) -/
def Itr (lo : Int) (n : Nat) : It := ⟨fun i _ => i < n, fun i H x H' => H' = H ∧ x = .int (lo + i), fun i _ => n ≤ i⟩
theorem turn_list {P : Program} {w : World} {K : PySem.W.Frag} {tg : Expr} (a it : Addr) : Turn P w K tg (Itl K a) [it] it (fun i h => h.IsListIter it a i) where
  mem := by simp
  obj := fun i h st b hb => by
    have e : b = it := by simpa using hb
    subst e
    obtain ⟨o, e, c, d⟩ := st
    exact ⟨o, e, fun v z => by rw [d] at z; cases z⟩
  keep := fun i h h' st k => st.at fun o e => k it (by simp) o e
  item := by
    intro X hP hw hK hc i pins s σ H E I hf st hg
    subst hP hw hK
    obtain ⟨xs, x, hq, hx⟩ := hg
    obtain ⟨its, rv, p, hz⟩ := I.list hq
    obtain ⟨u, hu, ru⟩ := rv.get hx
    obtain ⟨f0, f1, f2, f3, f4, f5⟩ := hf it (by simp)
    refine wpAny_pyNext_list_item st p.isList (x := u) (by simpa using hu) fun h' st' sb => ?_
    have I1 : Inv X pins σ H { s with heap := h' } := I.turned (t' := s.toks) (fun b o hb e => (sb.2 b hb).trans e) f0 f1 f3 f4 f5
    obtain ⟨o, e, c, d⟩ := id st'
    exact ⟨u, rfl, go_of (s := { s with heap := h' }) e c d (by decide) ⟨x, H, I1, ru, ⟨rfl, fun ys hy => by rw [I.list_inj hy hq]; exact hx⟩, st', fun b hb => (hf b hb).1⟩⟩
  done := by
    intro X hP hw hK hc i pins s σ H E I hf st hg
    subst hP hw hK
    obtain ⟨xs, hq, hx⟩ := hg
    obtain ⟨its, rv, p, hz⟩ := I.list hq
    obtain ⟨f0, f1, f2, f3, f4, f5⟩ := hf it (by simp)
    have hl := rv.length
    exact wpAny_pyNext_list_end (I.ok.hd hc) st p.isList (by simp; omega) fun h' eb => ⟨rfl, I.turned (t' := s.toks) (fun b o hb e => eb b o hb e) f0 f1 f3 f4 f5⟩
  self := fun _ _ _ _ _ st h => wpAny_pyIter_listiter st h
theorem turn_tuple {P : Program} {w : World} {K : PySem.W.Frag} {tg : Expr} (a it : Addr) : Turn P w K tg (Itt K a) [it] it (fun i h => h.IsTupleIter it a i) where
  mem := by simp
  obj := fun i h st b hb => by
    have e : b = it := by simpa using hb
    subst e
    obtain ⟨o, e, c, d⟩ := st
    exact ⟨o, e, fun v z => by rw [d] at z; cases z⟩
  keep := fun i h h' st k => st.at fun o e => k it (by simp) o e
  item := by
    intro X hP hw hK hc i pins s σ H E I hf st hg
    subst hP hw hK
    obtain ⟨xs, x, hq, hx⟩ := hg
    obtain ⟨its, rv, p, hz⟩ := I.tuple hq
    obtain ⟨u, hu, ru⟩ := rv.get hx
    obtain ⟨f0, f1, f2, f3, f4, f5⟩ := hf it (by simp)
    refine wpAny_pyNext_tuple_item st (show s.heap.IsTuple a its.toArray from p) (x := u) (by simpa using hu) fun h' st' sb => ?_
    have I1 : Inv X pins σ H { s with heap := h' } := I.turned (t' := s.toks) (fun b o hb e => (sb.2 b hb).trans e) f0 f1 f3 f4 f5
    obtain ⟨o, e, c, d⟩ := id st'
    exact ⟨u, rfl, go_of (s := { s with heap := h' }) e c d (by decide) ⟨x, H, I1, ru, ⟨rfl, fun ys hy => by rw [I.tuple_inj hy hq]; exact hx⟩, st', fun b hb => (hf b hb).1⟩⟩
  done := by
    intro X hP hw hK hc i pins s σ H E I hf st hg
    subst hP hw hK
    obtain ⟨xs, hq, hx⟩ := hg
    obtain ⟨its, rv, p, hz⟩ := I.tuple hq
    obtain ⟨f0, f1, f2, f3, f4, f5⟩ := hf it (by simp)
    have hl := rv.length
    exact wpAny_pyNext_tuple_end (I.ok.hd hc) st (show s.heap.IsTuple a its.toArray from p) (by simp; omega) fun h' eb => ⟨rfl, I.turned (t' := s.toks) (fun b o hb e => eb b o hb e) f0 f1 f3 f4 f5⟩
  self := fun _ _ _ _ _ st h => wpAny_pyIter_tupleiter st h
theorem turn_range {P : Program} {w : World} {K : PySem.W.Frag} {tg : Expr} (it : Addr) (lo : Int) (n : Nat) : Turn P w K tg (Itr lo n) [it] it (fun i h => IsRangeIter h it (lo + (i : Nat) * 1) ((n : Int) - (i : Nat)) 1) where
  mem := by simp
  obj := fun i h st b hb => by
    have e : b = it := by simpa using hb
    subst e
    exact ⟨_, st, fun v z => by
      have z' : Data.fields _ = Data.cell v := z
      cases z'⟩
  keep := fun i h h' st k => k it (by simp) _ st
  item := by
    intro X hP hw hK hc i pins s σ H E I hf st hg
    subst hP hw hK
    obtain ⟨f0, f1, f2, f3, f4, f5⟩ := hf it (by simp)
    have W := Walks.range (prog := X.prog) (w := X.w) (I.ok.hd hc) it lo 1 n
    refine W.item i s _ _ hg st fun v h' tk hv st' kk => ?_
    obtain ⟨t, rfl⟩ := hv
    have I1 : Inv X pins σ H { s with heap := h', toks := tk } := I.turned (fun b o hb e => kk b o (by simpa using hb) e) f0 f1 f3 f4 f5
    refine ⟨_, rfl, go_of (s := { s with heap := h', toks := tk }) (n := "range_iterator") st' rfl rfl (by decide) ⟨.int (lo + i), H, I1, ⟨t, ?_⟩, ⟨rfl, rfl⟩, st', fun b hb => (hf b hb).1⟩⟩
    rw [Int.mul_one]
  done := by
    intro X hP hw hK hc i pins s σ H E I hf st hg
    subst hP hw hK
    obtain ⟨f0, f1, f2, f3, f4, f5⟩ := hf it (by simp)
    exact wpAny_pyNext_range_end (I.ok.hd hc) st (by have : n ≤ i := hg; omega) fun h' eb => ⟨rfl, I.turned (t' := s.toks) (fun b o hb e => eb b o hb e) f0 f1 f3 f4 f5⟩
  self := fun _ _ _ _ _ st h => wpAny_pyIter_rangeiter st h
end L2

namespace L2
open PySem PySem.Spec PyProof.Rows
section
variable {X : Cx} {tg : Expr}
def iList (K : PySem.W.Frag) (tl : TE) : TI := fun σ H R => tl σ H fun x H1 => ∃ a, x = .ref a ∧ (∃ xs, SqL K H1 a xs) ∧ R (Itl K a) H1
def iTup (K : PySem.W.Frag) (tl : TE) : TI := fun σ H R => tl σ H fun x H1 => ∃ a, x = .ref a ∧ (∃ xs, SqT K H1 a xs) ∧ R (Itt K a) H1
theorem pi_list {l : Expr} {tl : TE} (hl : PE X l tl) : PI X tg l (iList X.K tl) := by
  intro pins s σ H R I h
  refine thn (hl pins s σ H _ I h) fun v s1 ⟨x, H1, I1, r1, q1⟩ => ?_
  obtain ⟨a, e, ⟨xs, hq⟩, q⟩ := q1
  subst e
  cases r1
  obtain ⟨its, rv, p, hz⟩ := I1.list hq
  refine wpAny_pyIter_list p.isList ?_
  refine ⟨s1.heap.objs.size, [s1.heap.objs.size], _, _, H1, rfl, I1.kept (t' := s1.toks) fun b o e => Heap.get?_push_of_some _ e, turn_list a _, ⟨_, Heap.get?_push_size _ rfl, rfl, rfl⟩, fun b hb => ?_, q⟩
  have e : b = s1.heap.objs.size := by simpa using hb
  subst e
  exact I1.fpOk (Nat.le_refl _) (I1.hok.fresh (Nat.le_refl _))
theorem pi_tup {l : Expr} {tl : TE} (hl : PE X l tl) : PI X tg l (iTup X.K tl) := by
  intro pins s σ H R I h
  refine thn (hl pins s σ H _ I h) fun v s1 ⟨x, H1, I1, r1, q1⟩ => ?_
  obtain ⟨a, e, ⟨xs, hq⟩, q⟩ := q1
  subst e
  cases r1
  obtain ⟨its, rv, p, hz⟩ := I1.tuple hq
  refine wpAny_pyIter_tuple (show s1.heap.IsTuple a its.toArray from p) ?_
  refine ⟨s1.heap.objs.size, [s1.heap.objs.size], _, _, H1, rfl, I1.kept (t' := s1.toks) fun b o e => Heap.get?_push_of_some _ e, turn_tuple a _, ⟨_, Heap.get?_push_size _ rfl, rfl, rfl⟩, fun b hb => ?_, q⟩
  have e : b = s1.heap.objs.size := by simpa using hb
  subst e
  exact I1.fpOk (Nat.le_refl _) (I1.hok.fresh (Nat.le_refl _))
/-- a range object just made, walked -/
theorem range_it {pins : List (Addr × Obj)} {σ : St} {H : Hp} {s : Shared} {R : It → Hp → Prop} {E : Value → Shared → Prop} {lo hi : Int} {t u v : Tok} {tk : Nat} (I : Inv X pins σ H s) (h1 : -(2 ^ 62) ≤ lo) (h2 : lo < 2 ^ 62) (h3 : -(2 ^ 62) ≤ hi) (h4 : hi < 2 ^ 62)
    (q : R (Itr lo (hi - lo).toNat) H) : wpAny (model X.prog X.w) X.A (pyIter (.ref s.heap.objs.size)) (PIE X pins σ tg R) E { s with heap := s.heap.push { cls := .type "range", data := .fields #[.int lo t, .int hi u, .int 1 v] }, toks := tk } := by
  refine wpAny_pyIter_range (IsRange.new ..) (small_one h1 h2 h3 h4) ?_
  have I1 : Inv X pins σ H { s with heap := s.heap.push { cls := .type "range", data := .fields #[.int lo t, .int hi u, .int 1 v] }, toks := tk } := I.kept fun b o e => Heap.get?_push_of_some _ e
  refine ⟨(s.heap.push { cls := .type "range", data := .fields #[.int lo t, .int hi u, .int 1 v] }).objs.size, [(s.heap.push { cls := .type "range", data := .fields #[.int lo t, .int hi u, .int 1 v] }).objs.size], _, _, H, rfl,
    I1.kept (t' := tk) fun b o e => Heap.get?_push_of_some _ e, turn_range _ lo (hi - lo).toNat, ?_, fun b hb => ?_, q⟩
  · have e1 : lo + ((0 : Nat) : Int) * 1 = lo := by simp
    have e2 : (((hi - lo).toNat : Nat) : Int) - ((0 : Nat) : Int) = Builtin.Range.rangeSize lo hi 1 := by rw [rangeSize_one]; split <;> omega
    show IsRangeIter _ _ (lo + ((0 : Nat) : Int) * 1) ((((hi - lo).toNat : Nat) : Int) - ((0 : Nat) : Int)) 1
    rw [e1, e2]
    exact Heap.get?_push_size _ rfl
  · have e : b = (s.heap.push { cls := .type "range", data := .fields #[.int lo t, .int hi u, .int 1 v] }).objs.size := by simpa using hb
    subst e
    exact I1.fpOk (Nat.le_refl _) (I1.hok.fresh (Nat.le_refl _))
def iRng1 (ta : TA) : TI := fun σ H R => ta σ H fun vs H1 => ∃ j : Int, vs = [.int j] ∧ -(2 ^ 62) ≤ j ∧ j < 2 ^ 62 ∧ R (Itr 0 j.toNat) H1
def iRng2 (ta : TA) : TI := fun σ H R => ta σ H fun vs H1 => ∃ i j : Int, vs = [.int i, .int j] ∧ (-(2 ^ 62) ≤ i ∧ i < 2 ^ 62 ∧ -(2 ^ 62) ≤ j ∧ j < 2 ^ 62) ∧ R (Itr i (j - i).toNat) H1
theorem pi_range1 {a : Expr} {ta : TA} {p pos : Pos} (hg : Gl X "range") (hm : X.mg "range" = none) (ha : PA X [a] ta) (hs : starEach [a] X.env = [(false, eval a X.env)] := by rfl) : PI X tg (.Call (.Name "range" p) [a] [] pos) (iRng1 ta) := by
  intro pins s σ H R I h
  refine Call_ (ld_blt I hg hm boot_range (PyProof.Rows.callWith_type1 (thn (ha pos pins s σ H _ I h) fun us s1 ⟨vs, H1, I1, r1, q1⟩ => ?_) hs rfl))
  obtain ⟨j, e, q1, q2, q⟩ := q1
  subst e
  cases r1 with
  | cons r rr =>
    cases rr
    obtain ⟨t, rfl⟩ := r
    exact call_range_1 (range_it I1 (by omega) (by omega) q1 q2 (by simpa using q))
theorem pi_range2 {a b : Expr} {ta : TA} {p pos : Pos} (hg : Gl X "range") (hm : X.mg "range" = none) (ha : PA X [a, b] ta) (hs : starEach [a, b] X.env = [(false, eval a X.env), (false, eval b X.env)] := by rfl) (hs2 : starEach [b] X.env = [(false, eval b X.env)] := by rfl) :
    PI X tg (.Call (.Name "range" p) [a, b] [] pos) (iRng2 ta) := by
  intro pins s σ H R I h
  refine Call_ (ld_blt I hg hm boot_range (PyProof.Rows.callWith_type1 (thn (ha pos pins s σ H _ I h) fun us s1 ⟨vs, H1, I1, r1, q1⟩ => ?_) (by rw [hs, hs2]) (by rw [hs2]; rfl)))
  obtain ⟨i, j, e, ⟨q1, q2, q3, q4⟩, q⟩ := q1
  subst e
  cases r1 with
  | cons r rr =>
    cases rr with
    | cons r' rr =>
      cases rr
      obtain ⟨t, rfl⟩ := r
      obtain ⟨t', rfl⟩ := r'
      exact call_range_2 (range_it I1 q1 q2 q3 q4 q)

/-! ### for -/
/-- W: the invariant by the turn and a measure; N: what the body is to reach -/
def tFor (wi : TI) (g : TG) (tb : TS) : TS := fun D σ H => wi σ H fun J H1 => ∃ W : Nat → Nat → St → Hp → Prop, (∃ m, W 0 m σ H1) ∧ ∀ i m σ H, W i m σ H →
  (J.stop i H ∧ D.nx σ H) ∨ (J.go i H ∧ ∃ N : St → Hp → Prop, (∀ σ' H', N σ' H' → ∃ m', m' < m ∧ W (i + 1) m' σ' H') ∧ ∀ x H', J.yld i H x H' → g x σ H' fun σ2 H2 => tb { D with nx := N, ct := N, bk := D.nx } σ2 H2)
/-- the records at fp as they stand -/
def pinsAt (fp : List Addr) (h : Heap) : List (Addr × Obj) := fp.filterMap fun b => (h.get? b).map fun o => (b, o)
theorem mem_pinsAt {fp : List Addr} {h : Heap} {b : Addr} {o : Obj} (hb : b ∈ fp) (e : h.get? b = some o) : (b, o) ∈ pinsAt fp h := List.mem_filterMap.mpr ⟨b, hb, by rw [e]; rfl⟩
theorem of_pinsAt {fp : List Addr} {h : Heap} {p : Addr × Obj} (hp : p ∈ pinsAt fp h) : p.1 ∈ fp ∧ h.get? p.1 = some p.2 := by
  obtain ⟨b, hb, e⟩ := List.mem_filterMap.mp hp
  cases q : h.get? b with
  | none => rw [q] at e; cases e
  | some o =>
    rw [q] at e
    have e' : (b, o) = p := Option.some.inj e
    subst e'
    exact ⟨hb, q⟩
theorem Inv.pinned {pins : List (Addr × Obj)} {σ : St} {H : Hp} {s : Shared} {fp : List Addr} (I : Inv X pins σ H s) (hf : ∀ b ∈ fp, FpOk X pins H b) (ho : ∀ b ∈ fp, ∃ o, s.heap.get? b = some o ∧ ∀ v, o.data ≠ .cell v) : Inv X (pins ++ pinsAt fp s.heap) σ H s :=
  I.pins_of fun p hp => (List.mem_append.mp hp).elim (fun z => I.pin p (List.mem_append_right _ z)) fun z => by
    obtain ⟨hb, e⟩ := of_pinsAt z
    obtain ⟨f0, f1, f2, _⟩ := hf p.1 hb
    obtain ⟨o, e', d⟩ := ho p.1 hb
    rw [e] at e'; cases e'
    exact ⟨e, f0, f1, f2, d⟩
theorem Inv.unpinned {pins pl : List (Addr × Obj)} {σ : St} {H : Hp} {s : Shared} (I : Inv X (pins ++ pl) σ H s) : Inv X pins σ H s := I.pins_of fun p hp => I.pin p (List.mem_append_right _ (List.mem_append_left _ hp))
theorem ps_for {iter : Expr} {body : List Stmt} {wi : TI} {g : TG} {tb : TS} {pos : Pos} (hp : PassesOwn (model X.prog X.w) X.A X.env X.xe) (hc : X.calm = true) (hi : PI X tg iter wi) (hg : PG X tg g) (hb : PSs X body tb)
    (hs : ∀ x, foldedSetIterable iter X.env x = pure x := by intro _; rfl) : PS X (.For tg iter body [] pos) (tFor wi g tb) := by
  intro pins s σ H D I h
  refine wpAny_For (thn (hi pins s σ H _ I h) fun v s1 h1 => thn h1 fun itv s2 h2 => ?_) hs
  obtain ⟨it, fp, tn, J, H2, e, I2, T, st2, f2, W, ⟨m0, w0⟩, turn⟩ := h2
  subst e
  -- what stays true of the iterator's objects through the loop
  have stat : ∀ {H' : Hp}, (∀ b ∈ fp, H' b = none) → ∀ b ∈ fp, FpOk X pins H' b := fun hn b hb => ⟨hn b hb, (f2 b hb).2⟩
  refine codeAny_forLoop_any (fun n s' => ∃ i σ' H', Inv X pins σ' H' s' ∧ tn i s'.heap ∧ (∀ b ∈ fp, H' b = none) ∧ W i n σ' H') ?_ m0 ⟨0, σ, H2, I2, st2, fun b hb => (f2 b hb).1, w0⟩
  rintro n s3 ⟨i, σ3, H3, I3, st3, fr3, w3⟩
  rcases turn i n σ3 H3 w3 with ⟨stop, qn⟩ | ⟨go, N, hN, step⟩
  · refine wpAny_passesOwn hp (thn (T.done X rfl rfl rfl hc i pins s3 σ3 H3 X.xe I3 (stat fr3) st3 stop) fun r s4 ⟨hr, I4⟩ => ?_)
    subst hr
    exact wpAny_execs_nil ⟨σ3, H3, I4, qn⟩
  · refine wpAny_passesOwn hp (thn (T.item X rfl rfl rfl hc i pins s3 σ3 H3 X.xe I3 (stat fr3) st3 go) fun r s4 ⟨u, hr, h4⟩ => ?_)
    subst hr
    refine wpAny_passesOwn hp (thn h4 fun _ s5 ⟨x, H5, I5, r5, y5, st5, fr5⟩ => ?_)
    have I5' := I5.pinned (stat fr5) (T.obj _ _ st5)
    refine wpAny_passesOwn hp (thn (hg _ s5 σ3 H5 x u _ I5' r5 (step x H5 y5)) fun _ s6 ⟨σ6, H6, I6, q6⟩ => ?_)
    refine wpAny_passesOwn hp (thn (hb _ s6 σ6 H6 _ I6 q6) fun f s7 q7 => ?_)
    have again : ∀ {σ7 : St} {H7 : Hp}, Inv X (pins ++ pinsAt fp s5.heap) σ7 H7 s7 → N σ7 H7 → ∃ m, m < n ∧ ∃ i σ' H', Inv X pins σ' H' s7 ∧ tn i s7.heap ∧ (∀ b ∈ fp, H' b = none) ∧ W i m σ' H' := fun {σ7 H7} I7 n7 => by
      obtain ⟨m', hm, w7⟩ := hN σ7 H7 n7
      refine ⟨m', hm, i + 1, σ7, H7, I7.unpinned, T.keep _ _ _ st5 fun b hb o e => (I7.pin (b, o) (List.mem_append_right _ (List.mem_append_right _ (mem_pinsAt hb e)))).1, fun b hb => ?_, w7⟩
      obtain ⟨o, e, d⟩ := T.obj _ _ st5 b hb
      exact (I7.pin (b, o) (List.mem_append_right _ (List.mem_append_right _ (mem_pinsAt hb e)))).2.1
    cases f with
    | next => obtain ⟨σ7, H7, I7, n7⟩ := q7; exact again I7 n7
    | cont => obtain ⟨σ7, H7, I7, n7⟩ := q7; exact again I7 n7
    | brk => obtain ⟨σ7, H7, I7, q7⟩ := q7; exact ⟨σ7, H7, I7.unpinned, q7⟩
    | ret v => obtain ⟨x7, σ7, H7, I7, r7, q7⟩ := q7; exact ⟨x7, σ7, H7, I7.unpinned, r7, q7⟩
end

/-! ### the forms one uses -/
/-- over a list that the body leaves as it is -/
theorem for_list {K : PySem.W.Frag} {a : Addr} {xs : List V} {g : TG} {tb : TS} {D : Ends} {σ : St} {H : Hp} (Pv : Nat → St → Hp → Prop) (h0 : Pv 0 σ H) (hl : ∀ i σ H, i ≤ xs.length → Pv i σ H → SqL K H a xs)
    (hs : ∀ i x σ H, xs[i]? = some x → Pv i σ H → g x σ H fun σ2 H2 => tb { D with nx := Pv (i + 1), ct := Pv (i + 1), bk := D.nx } σ2 H2) (hd : ∀ σ H, Pv xs.length σ H → D.nx σ H) :
    ∃ W : Nat → Nat → St → Hp → Prop, (∃ m, W 0 m σ H) ∧ ∀ i m σ H, W i m σ H →
      ((Itl K a).stop i H ∧ D.nx σ H) ∨ ((Itl K a).go i H ∧ ∃ N : St → Hp → Prop, (∀ σ' H', N σ' H' → ∃ m', m' < m ∧ W (i + 1) m' σ' H') ∧ ∀ x H', (Itl K a).yld i H x H' → g x σ H' fun σ2 H2 => tb { D with nx := N, ct := N, bk := D.nx } σ2 H2) := by
  refine ⟨fun i m σ H => m = xs.length - i ∧ i ≤ xs.length ∧ Pv i σ H, ⟨xs.length, by simp, Nat.zero_le _, h0⟩, ?_⟩
  rintro i m σ H ⟨rfl, hi, p⟩
  have q := hl i σ H hi p
  by_cases hlt : i < xs.length
  · refine .inr ⟨⟨xs, xs[i], q, by simp [hlt]⟩, Pv (i + 1), fun σ' H' p' => ⟨xs.length - (i + 1), by omega, rfl, hlt, p'⟩, fun x H' y => ?_⟩
    obtain ⟨e, y⟩ := y
    subst e
    exact hs i x σ _ (y xs q) p
  · have e : i = xs.length := by omega
    subst e
    exact .inl ⟨⟨xs, q, Nat.le_refl _⟩, hd σ H p⟩
theorem for_tup {K : PySem.W.Frag} {a : Addr} {xs : List V} {g : TG} {tb : TS} {D : Ends} {σ : St} {H : Hp} (Pv : Nat → St → Hp → Prop) (h0 : Pv 0 σ H) (hl : ∀ i σ H, i ≤ xs.length → Pv i σ H → SqT K H a xs)
    (hs : ∀ i x σ H, xs[i]? = some x → Pv i σ H → g x σ H fun σ2 H2 => tb { D with nx := Pv (i + 1), ct := Pv (i + 1), bk := D.nx } σ2 H2) (hd : ∀ σ H, Pv xs.length σ H → D.nx σ H) :
    ∃ W : Nat → Nat → St → Hp → Prop, (∃ m, W 0 m σ H) ∧ ∀ i m σ H, W i m σ H →
      ((Itt K a).stop i H ∧ D.nx σ H) ∨ ((Itt K a).go i H ∧ ∃ N : St → Hp → Prop, (∀ σ' H', N σ' H' → ∃ m', m' < m ∧ W (i + 1) m' σ' H') ∧ ∀ x H', (Itt K a).yld i H x H' → g x σ H' fun σ2 H2 => tb { D with nx := N, ct := N, bk := D.nx } σ2 H2) := by
  refine ⟨fun i m σ H => m = xs.length - i ∧ i ≤ xs.length ∧ Pv i σ H, ⟨xs.length, by simp, Nat.zero_le _, h0⟩, ?_⟩
  rintro i m σ H ⟨rfl, hi, p⟩
  have q := hl i σ H hi p
  by_cases hlt : i < xs.length
  · refine .inr ⟨⟨xs, xs[i], q, by simp [hlt]⟩, Pv (i + 1), fun σ' H' p' => ⟨xs.length - (i + 1), by omega, rfl, hlt, p'⟩, fun x H' y => ?_⟩
    obtain ⟨e, y⟩ := y
    subst e
    exact hs i x σ _ (y xs q) p
  · have e : i = xs.length := by omega
    subst e
    exact .inl ⟨⟨xs, q, Nat.le_refl _⟩, hd σ H p⟩
theorem for_range {lo : Int} {n : Nat} {g : TG} {tb : TS} {D : Ends} {σ : St} {H : Hp} (Pv : Nat → St → Hp → Prop) (h0 : Pv 0 σ H)
    (hs : ∀ i σ H, i < n → Pv i σ H → g (.int (lo + i)) σ H fun σ2 H2 => tb { D with nx := Pv (i + 1), ct := Pv (i + 1), bk := D.nx } σ2 H2) (hd : ∀ σ H, Pv n σ H → D.nx σ H) :
    ∃ W : Nat → Nat → St → Hp → Prop, (∃ m, W 0 m σ H) ∧ ∀ i m σ H, W i m σ H →
      ((Itr lo n).stop i H ∧ D.nx σ H) ∨ ((Itr lo n).go i H ∧ ∃ N : St → Hp → Prop, (∀ σ' H', N σ' H' → ∃ m', m' < m ∧ W (i + 1) m' σ' H') ∧ ∀ x H', (Itr lo n).yld i H x H' → g x σ H' fun σ2 H2 => tb { D with nx := N, ct := N, bk := D.nx } σ2 H2) := by
  refine ⟨fun i m σ H => m = n - i ∧ i ≤ n ∧ Pv i σ H, ⟨n, by simp, Nat.zero_le _, h0⟩, ?_⟩
  rintro i m σ H ⟨rfl, hi, p⟩
  by_cases hlt : i < n
  · refine .inr ⟨hlt, Pv (i + 1), fun σ' H' p' => ⟨n - (i + 1), by omega, rfl, hlt, p'⟩, fun x H' y => ?_⟩
    obtain ⟨e, y⟩ := y
    subst e y
    exact hs i σ _ hlt p
  · have e : i = n := by omega
    subst e
    exact .inl ⟨Nat.le_refl _, hd σ H p⟩
/-- while, by a word and a measure of the state -/
theorem while_by {c : TT} {tb : TS} {D : Ends} {σ : St} {H : Hp} (Pv : St → Hp → Prop) (μ : St → Hp → Nat) (h0 : Pv σ H)
    (hs : ∀ σ H, Pv σ H → c σ H fun b H1 => if b = true then tb { D with nx := fun σ' H' => Pv σ' H' ∧ μ σ' H' < μ σ H, ct := fun σ' H' => Pv σ' H' ∧ μ σ' H' < μ σ H, bk := D.nx } σ H1 else D.nx σ H1)
    (mono : ∀ σ H Q Q', (∀ b H1, Q b H1 → Q' b H1) → c σ H Q → c σ H Q') : tWhile c tb D σ H := by
  refine ⟨fun m σ H => m = μ σ H ∧ Pv σ H, ⟨_, rfl, h0⟩, ?_⟩
  rintro m σ H ⟨rfl, p⟩
  refine mono σ H _ _ (fun b H1 q => ?_) (hs σ H p)
  cases b with
  | true => exact ⟨_, fun σ' H' ⟨p', l⟩ => ⟨_, l, rfl, p'⟩, q⟩
  | false => exact q
end L2

namespace L2
open PySem PySem.Spec PyProof.Rows

abbrev R2 := V → V → Hp → VK → Prop
/-- a two-place operation on values: f is binaryOp op, inplaceOp op or compareOp op -/
def OpR (X : Cx) (f : Value → Value → Sem Value) (r : R2) : Prop :=
  ∀ (pins : List (Addr × Obj)) (s : Shared) (σ : St) (H : Hp) (x y : V) (v u : Value) (Q : VK), Inv X pins σ H s → RelV x v → RelV y u → r x y H Q →
    wpAny (model X.prog X.w) X.A (f v u) (EP X pins σ Q) X.xe s
/-- a one-place operation -/
def UnR (X : Cx) (f : Value → Sem Value) (r : V → Hp → VK → Prop) : Prop :=
  ∀ (pins : List (Addr × Obj)) (s : Shared) (σ : St) (H : Hp) (x : V) (v : Value) (Q : VK), Inv X pins σ H s → RelV x v → r x H Q →
    wpAny (model X.prog X.w) X.A (f v) (EP X pins σ Q) X.xe s
/-- a call of a value that is known (a builtin, a type) with values -/
def CallR (X : Cx) (f : Value) (r : List V → Hp → VK → Prop) : Prop :=
  ∀ (pins : List (Addr × Obj)) (s : Shared) (σ : St) (H : Hp) (xs : List V) (us : List Value) (Q : VK), Inv X pins σ H s → Vals xs us → r xs H Q →
    wpAny (model X.prog X.w) X.A (call f us) (EP X pins σ Q) X.xe s
/-- a value's truth -/
def TruR (X : Cx) (r : V → Hp → (Bool → Hp → Prop) → Prop) : Prop :=
  ∀ (pins : List (Addr × Obj)) (s : Shared) (σ : St) (H : Hp) (x : V) (v : Value) (Q : Bool → Hp → Prop), Inv X pins σ H s → RelV x v → r x H Q →
    wpAny (model X.prog X.w) X.A (truthy v) (TP X pins σ Q) X.xe s

def tOp (r : R2) (ta tb : TE) : TE := fun σ H Q => ta σ H fun x H1 => tb σ H1 fun y H2 => r x y H2 Q
def tUn (r : V → Hp → VK → Prop) (ta : TE) : TE := fun σ H Q => ta σ H fun x H1 => r x H1 Q
/-- ints in, under C, and a value out -/
def rI (C : Int → Int → Prop) (g : Int → Int → V) : R2 := fun x y H Q => ∃ i j, x = .int i ∧ y = .int j ∧ C i j ∧ Q (g i j) H
def rI0 (g : Int → Int → V) : R2 := fun x y H Q => ∃ i j, x = .int i ∧ y = .int j ∧ Q (g i j) H
def rU (g : Int → V) : V → Hp → VK → Prop := fun x H Q => ∃ i, x = .int i ∧ Q (g i) H

section
variable {X : Cx} {a b c : Expr} {ta tb tc : TE} {pos : Pos}

theorem binT (ha : PE X a ta) (hb : PE X b tb) {pins : List (Addr × Obj)} {s : Shared} {σ : St} {H : Hp} {R : V → V → Hp → Prop} (I : Inv X pins σ H s)
    (h : ta σ H fun x H1 => tb σ H1 fun y H2 => R x y H2) {Q : Value → Shared → Prop} {f : Value → Value → Sem Value}
    (hf : ∀ v u s2 x y H2, Inv X pins σ H2 s2 → RelV x v → RelV y u → R x y H2 → wpAny (model X.prog X.w) X.A (f v u) Q X.xe s2) :
    wpAny (model X.prog X.w) X.A (eval a X.env) (fun v s₁ => wpAny (model X.prog X.w) X.A (eval b X.env) (fun u s₂ => wpAny (model X.prog X.w) X.A (f v u) Q X.xe s₂) X.xe s₁) X.xe s := by
  refine thn (ha pins s σ H _ I h) fun v s1 ⟨x, H1, I1, r1, q1⟩ => ?_
  refine thn (hb pins s1 σ H1 _ I1 q1) fun u s2 ⟨y, H2, I2, r2, q2⟩ => ?_
  exact hf v u s2 x y H2 I2 r1 r2 q2

theorem pe_op {op : Operator} {r : R2} (ho : OpR X (binaryOp op) r) (ha : PE X a ta) (hb : PE X b tb) : PE X (.BinOp a op b pos) (tOp r ta tb) := by
  intro pins s σ H Q I h
  exact wpAny_BinOp (binT ha hb I h fun v u s2 x y H2 I2 rx ry q => ho pins s2 σ H2 x y v u Q I2 rx ry q)
theorem pe_un {op : UnaryOp} {r : V → Hp → VK → Prop} (ho : UnR X (unaryOp op) r) (ha : PE X a ta) : PE X (.UnaryOp op a pos) (tUn r ta) := by
  intro pins s σ H Q I h
  exact UnaryOp_ (thn (ha pins s σ H _ I h) fun v s1 ⟨x, H1, I1, r1, q1⟩ => ho pins s1 σ H1 x v Q I1 r1 q1)
/-- a op= e at a name: the name's slot i -/
theorem augR {op : Operator} {r : R2} (ho : OpR X (inplaceOp op) r) {pins : List (Addr × Obj)} {s : Shared} {σ : St} {H : Hp} {x y : V} {v u : Value} {Q : VK} (I : Inv X pins σ H s)
    (rx : RelV x v) (ry : RelV y u) (q : r x y H Q) : wpAny (model X.prog X.w) X.A (inplaceOp op v u) (EP X pins σ Q) X.xe s := ho pins s σ H x y v u Q I rx ry q

/-! ### ints -/
theorem opI {f : Value → Value → Sem Value} {C : Int → Int → Prop} {g : Int → Int → Int}
    (rule : ∀ (i j : Int) (t u : Tok) (s : Shared) (Q : Value → Shared → Prop) (E : Value → Shared → Prop), C i j → Q (.int (g i j) s.toks) { s with toks := s.toks + 1 } → wpAny (model X.prog X.w) X.A (f (.int i t) (.int j u)) Q E s) :
    OpR X f (rI C fun i j => .int (g i j)) := by
  intro pins s σ H x y v u Q I rx ry h
  obtain ⟨i, j, rfl, rfl, hc, q⟩ := h
  obtain ⟨t, rfl⟩ := rx
  obtain ⟨t', rfl⟩ := ry
  exact rule i j t t' s _ _ hc ⟨.int (g i j), H, I.tok _, ⟨_, rfl⟩, q⟩
theorem opI0 {f : Value → Value → Sem Value} {g : Int → Int → Int}
    (rule : ∀ (i j : Int) (t u : Tok) (s : Shared) (Q : Value → Shared → Prop) (E : Value → Shared → Prop), Q (.int (g i j) s.toks) { s with toks := s.toks + 1 } → wpAny (model X.prog X.w) X.A (f (.int i t) (.int j u)) Q E s) :
    OpR X f (rI0 fun i j => .int (g i j)) := by
  intro pins s σ H x y v u Q I rx ry h
  obtain ⟨i, j, rfl, rfl, q⟩ := h
  obtain ⟨t, rfl⟩ := rx
  obtain ⟨t', rfl⟩ := ry
  exact rule i j t t' s _ _ ⟨.int (g i j), H, I.tok _, ⟨_, rfl⟩, q⟩
theorem opB0 {f : Value → Value → Sem Value} {g : Int → Int → Bool}
    (rule : ∀ (i j : Int) (t u : Tok) (s : Shared) (Q : Value → Shared → Prop) (E : Value → Shared → Prop), Q (.bool (g i j)) s → wpAny (model X.prog X.w) X.A (f (.int i t) (.int j u)) Q E s) :
    OpR X f (rI0 fun i j => .bl (g i j)) := by
  intro pins s σ H x y v u Q I rx ry h
  obtain ⟨i, j, rfl, rfl, q⟩ := h
  obtain ⟨t, rfl⟩ := rx
  obtain ⟨t', rfl⟩ := ry
  exact rule i j t t' s _ _ ⟨.bl (g i j), H, I, rfl, q⟩

def CDiv (i j : Int) : Prop := 0 < j ∧ j < 1073741824
def CDivN (i j : Int) : Prop := j ≠ 0 ∧ j.natAbs < 1073741824
def CPow (i j : Int) : Prop := 0 ≤ j ∧ j ≤ 1000000 ∧ i.natAbs < 2 ^ 64
def CMul (i j : Int) : Prop := (-(2 ^ 64) < i ∧ i < 2 ^ 64) ∨ (-(2 ^ 64) < j ∧ j < 2 ^ 64)
theorem CMul.ok {i j : Int} (h : CMul i j) : IntMulOk i j := by
  rcases h with ⟨h1, h2⟩ | ⟨h1, h2⟩
  · exact .of_left (intBits_le_64 h1 h2)
  · exact .of_right (intBits_le_64 h1 h2)
theorem two_pow_nn (k : Nat) : (0 : Int) ≤ 2 ^ k := by
  rw [two_pow_cast]
  exact Int.natCast_nonneg _

theorem op_add : OpR X (binaryOp .Add) (rI0 fun i j => .int (i + j)) := opI0 fun _ _ _ _ _ _ _ q => add_int q
theorem op_sub : OpR X (binaryOp .Sub) (rI0 fun i j => .int (i - j)) := opI0 fun _ _ _ _ _ _ _ q => sub_int q
theorem op_mul : OpR X (binaryOp .Mult) (rI CMul fun i j => .int (i * j)) := opI fun _ _ _ _ _ _ _ hc q => mul_int q hc.ok
/-- // by a positive divisor -/
theorem op_fdiv : OpR X (binaryOp .FloorDiv) (rI CDiv fun i j => .int (i / j)) := opI fun i j _ _ _ _ _ hc q => by
  have h1 : (0 : Int) < j := hc.1
  have h2 : j < 1073741824 := hc.2
  exact floordiv_int (by omega) (by rw [Int.fdiv_eq_ediv_of_nonneg i (by omega)]; exact q) (.inl (PyProof.noPylong_small (by omega)))
theorem op_fdivN : OpR X (binaryOp .FloorDiv) (rI CDivN fun i j => .int (i.fdiv j)) := opI fun _ _ _ _ _ _ _ hc q => floordiv_int hc.1 q (.inl (PyProof.noPylong_small hc.2))
/-- % by a positive divisor of any size -/
theorem op_mod : OpR X (binaryOp .Mod) (rI (fun _ j => 0 < j) fun i j => .int (i % j)) := opI fun i j _ _ _ _ _ hc q => by
  have h1 : (0 : Int) < j := hc
  exact mod_int' (by omega) (by rw [Int.fmod_eq_emod_of_nonneg i (by omega)]; exact q)
theorem op_modN : OpR X (binaryOp .Mod) (rI (fun _ j => j ≠ 0) fun i j => .int (i.fmod j)) := opI fun _ _ _ _ _ _ _ hc q => mod_int' hc q
theorem op_pow : OpR X (binaryOp .Pow) (rI CPow fun i j => .int (i ^ j.toNat)) := opI fun _ _ _ _ _ _ _ hc q => pow_int_small hc.1 hc.2.1 hc.2.2 q
theorem op_shl : OpR X (binaryOp .LShift) (rI CPow fun i j => .int (i * 2 ^ j.toNat)) := opI fun _ _ _ _ _ _ _ hc q => lshift_int_small hc.1 hc.2.1 hc.2.2 q
theorem op_shr : OpR X (binaryOp .RShift) (rI (fun _ j => 0 ≤ j) fun i j => .int (i / 2 ^ j.toNat)) := opI fun i j _ _ _ _ _ hc q =>
  rshift_int hc (by rw [Int.fdiv_eq_ediv_of_nonneg i (two_pow_nn _)]; exact q)
theorem op_and : OpR X (binaryOp .BitAnd) (rI0 fun i j => .int (Builtin.bitAnd i j)) := opI0 fun _ _ _ _ _ _ _ q => and_int q
theorem op_or : OpR X (binaryOp .BitOr) (rI0 fun i j => .int (Builtin.bitOr i j)) := opI0 fun _ _ _ _ _ _ _ q => or_int q
theorem op_xor : OpR X (binaryOp .BitXor) (rI0 fun i j => .int (Builtin.bitXor i j)) := opI0 fun _ _ _ _ _ _ _ q => xor_int q

theorem iop_add : OpR X (inplaceOp .Add) (rI0 fun i j => .int (i + j)) := opI0 fun _ _ _ _ _ _ _ q => iadd_int q
theorem iop_sub : OpR X (inplaceOp .Sub) (rI0 fun i j => .int (i - j)) := opI0 fun _ _ _ _ _ _ _ q => isub_int q
theorem iop_mul : OpR X (inplaceOp .Mult) (rI CMul fun i j => .int (i * j)) := opI fun _ _ _ _ _ _ _ hc q => imul_int q hc.ok
theorem iop_fdiv : OpR X (inplaceOp .FloorDiv) (rI CDiv fun i j => .int (i / j)) := opI fun i j _ _ _ _ _ hc q => by
  have h1 : (0 : Int) < j := hc.1
  have h2 : j < 1073741824 := hc.2
  exact ifloordiv_int (by omega) (by rw [Int.fdiv_eq_ediv_of_nonneg i (by omega)]; exact q) (.inl (PyProof.noPylong_small (by omega)))
theorem iop_mod : OpR X (inplaceOp .Mod) (rI (fun _ j => 0 < j) fun i j => .int (i % j)) := opI fun i j _ _ _ _ _ hc q => by
  have h1 : (0 : Int) < j := hc
  exact imod_int (by omega) (by rw [Int.fmod_eq_emod_of_nonneg i (by omega)]; exact q)
theorem iop_shl : OpR X (inplaceOp .LShift) (rI CPow fun i j => .int (i * 2 ^ j.toNat)) := opI fun _ _ _ _ _ _ _ hc q => ilshift_int_small hc.1 hc.2.1 hc.2.2 q
theorem iop_shr : OpR X (inplaceOp .RShift) (rI (fun _ j => 0 ≤ j) fun i j => .int (i / 2 ^ j.toNat)) := opI fun i j _ _ _ _ _ hc q =>
  irshift_int hc (by rw [Int.fdiv_eq_ediv_of_nonneg i (two_pow_nn _)]; exact q)
theorem iop_and : OpR X (inplaceOp .BitAnd) (rI0 fun i j => .int (Builtin.bitAnd i j)) := opI0 fun _ _ _ _ _ _ _ q => iand_int q
theorem iop_or : OpR X (inplaceOp .BitOr) (rI0 fun i j => .int (Builtin.bitOr i j)) := opI0 fun _ _ _ _ _ _ _ q => ior_int q
theorem iop_xor : OpR X (inplaceOp .BitXor) (rI0 fun i j => .int (Builtin.bitXor i j)) := opI0 fun _ _ _ _ _ _ _ q => ixor_int q

theorem unI {f : Value → Sem Value} {g : Int → Int}
    (rule : ∀ (i : Int) (t : Tok) (s : Shared) (Q : Value → Shared → Prop) (E : Value → Shared → Prop), Q (.int (g i) s.toks) { s with toks := s.toks + 1 } → wpAny (model X.prog X.w) X.A (f (.int i t)) Q E s) :
    UnR X f (rU fun i => .int (g i)) := by
  intro pins s σ H x v Q I rx h
  obtain ⟨i, rfl, q⟩ := h
  obtain ⟨t, rfl⟩ := rx
  exact rule i t s _ _ ⟨.int (g i), H, I.tok _, ⟨_, rfl⟩, q⟩
theorem un_neg : UnR X (unaryOp .USub) (rU fun i => .int (-i)) := unI fun _ _ _ _ _ q => neg_int q
theorem un_inv : UnR X (unaryOp .Invert) (rU fun i => .int (Builtin.bitNot i)) := unI fun _ _ _ _ _ q => invert_int q

/-! ### bools among ints: n += (a < b) -/
theorem op_add_ib : OpR X (binaryOp .Add) (fun x y H Q => ∃ i k, x = .int i ∧ y = .bl k ∧ Q (.int (i + b2i k)) H) := by
  intro pins s σ H x y v u Q I rx ry h
  obtain ⟨i, k, rfl, rfl, q⟩ := h
  obtain ⟨t, rfl⟩ := rx
  cases ry
  exact add_int_bool ⟨.int (i + b2i k), H, I.tok _, ⟨_, rfl⟩, q⟩
end

/-! ### comparisons -/
/-- the scalars that == tells apart as data does -/
def scal : V → V → Bool
  | .non, .non => true | .non, .int _ => true | .int _, .non => true | .non, .bl _ => true | .bl _, .non => true | .non, .str _ => true | .str _, .non => true
  | .int _, .int _ => true | .bl _, .bl _ => true | .str _, .str _ => true | .byt _, .byt _ => true
  | .int _, .str _ => true | .str _, .int _ => true | .bl _, .str _ => true | .str _, .bl _ => true
  | _, _ => false
def rEq : R2 := fun x y H Q => scal x y = true ∧ Q (.bl (decide (x = y))) H
def rNe : R2 := fun x y H Q => scal x y = true ∧ Q (.bl (!decide (x = y))) H

theorem dec_int {i j : Int} : decide (V.int i = V.int j) = (i == j) := by
  rw [Bool.eq_iff_iff]
  simp
theorem dec_bl {i j : Bool} : decide (V.bl i = V.bl j) = (i == j) := by
  rw [Bool.eq_iff_iff]
  simp
theorem dec_str {i j : Str} : decide (V.str i = V.str j) = (i == j) := by
  rw [Bool.eq_iff_iff]
  simp
theorem dec_byt {i j : Array UInt8} : decide (V.byt i = V.byt j) = (i.toList == j.toList) := by
  rw [Bool.eq_iff_iff]
  cases i
  cases j
  simp

section
variable {X : Cx} {a b c : Expr} {ta tb tc : TE} {pos : Pos}
theorem fin_bl {pins : List (Addr × Obj)} {σ : St} {H : Hp} {s : Shared} {Q : VK} {k k' : Bool} (I : Inv X pins σ H s) (q : Q (.bl k) H) (e : k = k') : EP X pins σ Q (.bool k') s := by
  subst e
  exact ⟨.bl k, H, I, rfl, q⟩
theorem op_eq : OpR X (compareOp .Eq) rEq := by
  intro pins s σ H x y v u Q I rx ry h
  obtain ⟨hs, q⟩ := h
  cases x with
  | non =>
    cases rx
    cases y with
    | non => cases ry; exact PySem.EqNone.eq_none_none (fin_bl I q (by simp))
    | bl j => cases ry; exact PySem.EqNone.eq_none_bool (fin_bl I q (by simp))
    | int j => obtain ⟨t', rfl⟩ := ry; exact PySem.EqNone.eq_none_int (fin_bl I q (by simp))
    | str j => obtain ⟨t', rfl⟩ := ry; exact PySem.EqNone.eq_none_str (fin_bl I q (by simp))
    | _ => exact absurd (show false = true from hs) Bool.false_ne_true
  | bl i =>
    cases rx
    cases y with
    | non => cases ry; exact PySem.EqNone.eq_bool_none (fin_bl I q (by simp))
    | bl j => cases ry; exact eq_bool (fin_bl I q dec_bl)
    | str j => obtain ⟨t', rfl⟩ := ry; exact PySem.EqMixed.eq_bool_str (fin_bl I q (by simp))
    | _ => exact absurd (show false = true from hs) Bool.false_ne_true
  | int i =>
    obtain ⟨t, rfl⟩ := rx
    cases y with
    | non => cases ry; exact PySem.EqNone.eq_int_none (fin_bl I q (by simp))
    | int j => obtain ⟨t', rfl⟩ := ry; exact eq_int (fin_bl I q dec_int)
    | str j => obtain ⟨t', rfl⟩ := ry; exact PySem.EqMixed.eq_int_str (fin_bl I q (by simp))
    | _ => exact absurd (show false = true from hs) Bool.false_ne_true
  | str i =>
    obtain ⟨t, rfl⟩ := rx
    cases y with
    | non => cases ry; exact PySem.EqNone.eq_str_none (fin_bl I q (by simp))
    | bl j => cases ry; exact PySem.EqMixed.eq_str_bool (fin_bl I q (by simp))
    | int j => obtain ⟨t', rfl⟩ := ry; exact PySem.EqMixed.eq_str_int (fin_bl I q (by simp))
    | str j => obtain ⟨t', rfl⟩ := ry; exact eq_str (fin_bl I q dec_str)
    | _ => exact absurd (show false = true from hs) Bool.false_ne_true
  | byt i =>
    obtain ⟨t, rfl⟩ := rx
    cases y with
    | byt j => obtain ⟨t', rfl⟩ := ry; exact PySem.W.eq_bytes (fin_bl I q dec_byt)
    | _ => exact absurd (show false = true from hs) Bool.false_ne_true
  | _ => cases y <;> exact absurd (show false = true from hs) Bool.false_ne_true
theorem op_ne : OpR X (compareOp .NotEq) rNe := by
  intro pins s σ H x y v u Q I rx ry h
  obtain ⟨hs, q⟩ := h
  cases x with
  | non =>
    cases rx
    cases y with
    | non => cases ry; exact PySem.EqNone.ne_none_none (fin_bl I q (by simp))
    | bl j => cases ry; exact PySem.EqNone.ne_none_bool (fin_bl I q (by simp))
    | int j => obtain ⟨t', rfl⟩ := ry; exact PySem.EqNone.ne_none_int (fin_bl I q (by simp))
    | str j => obtain ⟨t', rfl⟩ := ry; exact PySem.EqNone.ne_none_str (fin_bl I q (by simp))
    | _ => exact absurd (show false = true from hs) Bool.false_ne_true
  | bl i =>
    cases rx
    cases y with
    | non => cases ry; exact PySem.EqNone.ne_bool_none (fin_bl I q (by simp))
    | bl j => cases ry; exact ne_bool (fin_bl I q (congrArg not dec_bl))
    | str j => obtain ⟨t', rfl⟩ := ry; exact PySem.EqMixed.ne_bool_str (fin_bl I q (by simp))
    | _ => exact absurd (show false = true from hs) Bool.false_ne_true
  | int i =>
    obtain ⟨t, rfl⟩ := rx
    cases y with
    | non => cases ry; exact PySem.EqNone.ne_int_none (fin_bl I q (by simp))
    | int j => obtain ⟨t', rfl⟩ := ry; exact ne_int (fin_bl I q (congrArg not dec_int))
    | str j => obtain ⟨t', rfl⟩ := ry; exact PySem.EqMixed.ne_int_str (fin_bl I q (by simp))
    | _ => exact absurd (show false = true from hs) Bool.false_ne_true
  | str i =>
    obtain ⟨t, rfl⟩ := rx
    cases y with
    | non => cases ry; exact PySem.EqNone.ne_str_none (fin_bl I q (by simp))
    | bl j => cases ry; exact PySem.EqMixed.ne_str_bool (fin_bl I q (by simp))
    | int j => obtain ⟨t', rfl⟩ := ry; exact PySem.EqMixed.ne_str_int (fin_bl I q (by simp))
    | str j => obtain ⟨t', rfl⟩ := ry; exact ne_str (fin_bl I q (congrArg not dec_str))
    | _ => exact absurd (show false = true from hs) Bool.false_ne_true
  | byt i =>
    obtain ⟨t, rfl⟩ := rx
    cases y with
    | byt j => obtain ⟨t', rfl⟩ := ry; exact PySem.W.ne_bytes (fin_bl I q (congrArg not dec_byt))
    | _ => exact absurd (show false = true from hs) Bool.false_ne_true
  | _ => cases y <;> exact absurd (show false = true from hs) Bool.false_ne_true

theorem op_lt : OpR X (compareOp .Lt) (rI0 fun i j => .bl (decide (i < j))) := opB0 fun _ _ _ _ _ _ _ q => lt_int q
theorem op_le : OpR X (compareOp .LtE) (rI0 fun i j => .bl (decide (i ≤ j))) := opB0 fun _ _ _ _ _ _ _ q => le_int q
theorem op_gt : OpR X (compareOp .Gt) (rI0 fun i j => .bl (decide (j < i))) := opB0 fun _ _ _ _ _ _ _ q => gt_int q
theorem op_ge : OpR X (compareOp .GtE) (rI0 fun i j => .bl (decide (j ≤ i))) := opB0 fun _ _ _ _ _ _ _ q => ge_int q
theorem op_lt_str : OpR X (compareOp .Lt) (fun x y H Q => ∃ i j, x = .str i ∧ y = .str j ∧ Q (.bl (decide (i.cps.toList < j.cps.toList))) H) := by
  intro pins s σ H x y v u Q I rx ry h
  obtain ⟨i, j, rfl, rfl, q⟩ := h
  obtain ⟨t, rfl⟩ := rx
  obtain ⟨t', rfl⟩ := ry
  exact lt_str (fin_bl I q rfl)
/-- the one string within the other -/
theorem op_in_str : OpR X (compareOp .In) (fun x y H Q => ∃ i j, x = .str i ∧ y = .str j ∧ Q (.bl (!(Builtin.Str.occurrences j i 0 j.length 1).isEmpty)) H) := by
  intro pins s σ H x y v u Q I rx ry h
  obtain ⟨i, j, rfl, rfl, q⟩ := h
  obtain ⟨t, rfl⟩ := rx
  obtain ⟨t', rfl⟩ := ry
  exact in_str (fin_bl I q rfl)

/-- is None, is not None: the right side a value none -/
theorem op_isN : OpR X (compareOp .Is) (fun x y H Q => y = .non ∧ Q (.bl (decide (x = .non))) H) := by
  intro pins s σ H x y v u Q I rx ry h
  obtain ⟨rfl, q⟩ := h
  cases ry
  refine is_none_gen (fin_bl I q ?_)
  cases x <;> first
    | (cases rx; rfl)
    | (obtain ⟨t, rfl⟩ := rx; rfl)
theorem op_notN : OpR X (compareOp .IsNot) (fun x y H Q => y = .non ∧ Q (.bl (!decide (x = .non))) H) := by
  intro pins s σ H x y v u Q I rx ry h
  obtain ⟨rfl, q⟩ := h
  cases ry
  refine isnot_none_gen (fin_bl I q ?_)
  cases x <;> first
    | (cases rx; rfl)
    | (obtain ⟨t, rfl⟩ := rx; rfl)

theorem op_notin_str : OpR X (compareOp .NotIn) (fun x y H Q => ∃ i j, x = .str i ∧ y = .str j ∧ Q (.bl (!(!(Builtin.Str.occurrences j i 0 j.length 1).isEmpty))) H) := by
  intro pins s σ H x y v u Q I rx ry h
  obtain ⟨i, j, rfl, rfl, q⟩ := h
  obtain ⟨t, rfl⟩ := rx
  obtain ⟨t', rfl⟩ := ry
  exact notIn_str (fin_bl I q rfl)
/-- is, is not of two objects that are tracked lists or instances -/
def isObj : HO → Bool
  | .lst _ => true
  | .ins _ _ _ => true
  | _ => false
theorem obj_there {pins : List (Addr × Obj)} {s : Shared} {σ : St} {H : Hp} {a : Addr} {o : HO} (I : Inv X pins σ H s) (h : H a = some o) (p : isObj o = true) : ∃ ob, s.heap.get? a = some ob ∧ ob.cls ≠ .type "tuple" := by
  cases o with
  | lst xs =>
    obtain ⟨_, its, n, _, e⟩ : xs.length ≤ sizeLine ∧ ∃ (its : List Value) (n : Nat), Vals xs its ∧ s.heap.get? a = some { cls := .type "list", data := .seq its.toArray n } := I.hok a _ h
    exact ⟨_, e, (by show Value.type "list" ≠ .type "tuple"; decide +kernel)⟩
  | ins C dx fs =>
    have x := I.hok a _ h
    obtain ⟨_, _, _, e, _⟩ := x
    exact ⟨_, e, (by show Value.ref C ≠ .type "tuple"; exact fun z => by cases z)⟩
  | _ => exact absurd (show false = true from p) Bool.false_ne_true
theorem op_is_ref : OpR X (compareOp .Is) (fun x y H Q => ∃ a b oa ob, x = .ref a ∧ y = .ref b ∧ H a = some oa ∧ isObj oa = true ∧ H b = some ob ∧ isObj ob = true ∧ Q (.bl (decide (a = b))) H) := by
  intro pins s σ H x y v u Q I rx ry h
  obtain ⟨a, b, oa, ob, rfl, rfl, ha, pa, hb, pb, q⟩ := h
  cases rx
  cases ry
  obtain ⟨o1, e1, n1⟩ := obj_there I ha pa
  obtain ⟨o2, e2, _⟩ := obj_there I hb pb
  by_cases z : a = b
  · subst z
    exact wpAny_is_ref_self (fin_bl I q (by simp))
  · exact wpAny_is_ref_other z e1 e2 n1 (fin_bl I q (by simp [z]))
theorem op_isnot_ref : OpR X (compareOp .IsNot) (fun x y H Q => ∃ a b oa ob, x = .ref a ∧ y = .ref b ∧ H a = some oa ∧ isObj oa = true ∧ H b = some ob ∧ isObj ob = true ∧ Q (.bl (!decide (a = b))) H) := by
  intro pins s σ H x y v u Q I rx ry h
  obtain ⟨a, b, oa, ob, rfl, rfl, ha, pa, hb, pb, q⟩ := h
  cases rx
  cases ry
  obtain ⟨o1, e1, n1⟩ := obj_there I ha pa
  obtain ⟨o2, e2, _⟩ := obj_there I hb pb
  by_cases z : a = b
  · subst z
    exact wpAny_isNot_ref_self (fin_bl I q (by simp))
  · exact wpAny_isNot_ref_other z e1 e2 n1 (fin_bl I q (by simp [z]))

/-- two rules for one operation: by cases -/
theorem OpR.or {f : Value → Value → Sem Value} {r r' : R2} (h : OpR X f r) (h' : OpR X f r') : OpR X f (fun x y H Q => r x y H Q ∨ r' x y H Q) := by
  intro pins s σ H x y v u Q I rx ry q
  rcases q with q | q
  · exact h pins s σ H x y v u Q I rx ry q
  · exact h' pins s σ H x y v u Q I rx ry q

theorem nomark (b : Expr) {op : CmpOp} (h : op ≠ .In := by decide) (h2 : op ≠ .NotIn := by decide) : behindInMarks op b = false := by
  have e1 : (op == CmpOp.In) = false := by cases op <;> first | rfl | exact absurd rfl h
  have e2 : (op == CmpOp.NotIn) = false := by cases op <;> first | rfl | exact absurd rfl h2
  cases b <;> simp [behindInMarks, e1, e2]
/-- a comparison as a value; hm: nomark b, or (for in, not in) by with_unfolding_all rfl -/
theorem pe_cmpR {op : CmpOp} {r : R2} (ho : OpR X (compareOp op) r) (ha : PE X a ta) (hb : PE X b tb) (hm : behindInMarks op b = false) : PE X (.Compare a [op] [b] pos) (tOp r ta tb) := by
  intro pins s σ H Q I h
  exact wpAny_Compare1 (binT ha hb I h fun v u s2 x y H2 I2 rx ry q => ho pins s2 σ H2 x y v u Q I2 rx ry q) hm
/-- a reading of a value as a test -/
def tTest (t : TE) : TT := fun σ H Q => t σ H fun x H' => ∃ k, x = .bl k ∧ Q k H'
theorem pt_cmpR {op : CmpOp} {r : R2} (ho : OpR X (compareOp op) r) (ha : PE X a ta) (hb : PE X b tb) (hm : behindInMarks op b = false) : PT X (.Compare a [op] [b] pos) (tTest (tOp r ta tb)) := by
  intro pins s σ H Q I h
  refine wpAny_isTrue_Compare1 (thn (ha pins s σ H _ I h) fun v s1 ⟨x, H1, I1, r1, q1⟩ => thn (hb pins s1 σ H1 _ I1 q1) fun u s2 ⟨y, H2, I2, r2, q2⟩ =>
    thn (ho pins s2 σ H2 x y v u _ I2 r1 r2 q2) fun c s3 ⟨z, H3, I3, r3, k, e, q3⟩ => ?_) hm
  subst e
  cases r3
  exact wpAny_truthy_bool ⟨H3, I3, q3⟩
/-- a op1 b op2 c -/
def tChain (r r' : R2) (ta tb tc : TE) : TE := fun σ H Q => ta σ H fun x H1 => tb σ H1 fun y H2 => r x y H2 fun z H3 => ∃ k, z = .bl k ∧
  (if k = true then tc σ H3 fun w' H4 => r' y w' H4 Q else Q (.bl false) H3)
theorem pe_chain {op op' : CmpOp} {r r' : R2} (ho : OpR X (compareOp op) r) (ho' : OpR X (compareOp op') r') (ha : PE X a ta) (hb : PE X b tb) (hc : PE X c tc)
    (hm : lastMarks [op, op'] [b, c] = false := by with_unfolding_all rfl) : PE X (.Compare a [op, op'] [b, c] pos) (tChain r r' ta tb tc) := by
  intro pins s σ H Q I h
  refine Compare_chain (thn (ha pins s σ H _ I h) fun v s1 ⟨x, H1, I1, r1, q1⟩ => chain_link (thn (hb pins s1 σ H1 _ I1 q1) fun u s2 ⟨y, H2, I2, r2, q2⟩ =>
    thn (ho pins s2 σ H2 x y v u _ I2 r1 r2 q2) fun d s3 ⟨z, H3, I3, r3, k, e, q3⟩ => ?_)) hm
  subst e
  cases r3
  refine wpAny_truthy_bool ?_
  cases k with
  | false => exact ite_ff ⟨.bl false, H3, I3, rfl, q3⟩
  | true => exact ite_tt (chain_last (thn (hc pins s3 σ H3 _ I3 q3) fun w' s4 ⟨z', H4, I4, r4, q4⟩ => ho' pins s4 σ H4 y z' u w' Q I4 r2 r4 q4))
theorem pt_chain {op op' : CmpOp} {r r' : R2} (ho : OpR X (compareOp op) r) (ho' : OpR X (compareOp op') r') (ha : PE X a ta) (hb : PE X b tb) (hc : PE X c tc)
    (hm : lastMarks [op, op'] [b, c] = false := by with_unfolding_all rfl) : PT X (.Compare a [op, op'] [b, c] pos) (tTest (tChain r r' ta tb tc)) := by
  intro pins s σ H Q I h
  refine isTrue_chain (thn (ha pins s σ H _ I h) fun v s1 ⟨x, H1, I1, r1, q1⟩ => test_link (thn (hb pins s1 σ H1 _ I1 q1) fun u s2 ⟨y, H2, I2, r2, q2⟩ =>
    thn (ho pins s2 σ H2 x y v u _ I2 r1 r2 q2) fun d s3 ⟨z, H3, I3, r3, k, e, q3⟩ => ?_)) hm
  subst e
  cases r3
  refine wpAny_truthy_bool ?_
  cases k with
  | false =>
    obtain ⟨k', e', q'⟩ := q3
    cases e'
    exact ite_ff ⟨H3, I3, q'⟩
  | true =>
    refine ite_tt (test_last (thn (hc pins s3 σ H3 _ I3 q3) fun w' s4 ⟨z', H4, I4, r4, q4⟩ => thn (ho' pins s4 σ H4 y z' u w' _ I4 r2 r4 q4) fun d' s5 ⟨z2, H5, I5, r5, k2, e2, q5⟩ => ?_))
    subst e2
    cases r5
    exact wpAny_truthy_bool ⟨H5, I5, q5⟩

/-! ### truth -/
/-- a value's truth by the abstract heap -/
def TruV (K : PySem.W.Frag) (x : V) (H : Hp) (k : Bool) : Prop :=
  match x with
  | .non => k = false
  | .bl b => k = b
  | .int i => k = (i != 0)
  | .str y => y.length ≤ sizeLine ∧ k = ((y.length : Int) != 0)
  | .byt y => y.size ≤ sizeLine ∧ k = ((y.size : Int) != 0)
  | .ref p => (∃ xs, SqL K H p xs ∧ k = !xs.isEmpty) ∨ (∃ xs, SqT K H p xs ∧ k = !xs.isEmpty) ∨ ∃ kvs, H p = some (.dK kvs) ∧ k = !kvs.isEmpty
  | _ => False
theorem isEmpty_kv {κ : Type} {kvs : List (κ × V)} {vs : List (κ × Value)} (r : KV kvs vs) : (!vs.isEmpty) = !kvs.isEmpty := by
  cases r <;> rfl
theorem isEmpty_of {xs : List V} {its : List Value} (r : Vals xs its) : (!its.toArray.isEmpty) = !xs.isEmpty := by
  cases r <;> simp
theorem line63 : (sizeLine : Nat) < 2 ^ 63 := by rw [sizeLine_eq]; decide
theorem tru_ok : TruR X (fun x H Q => ∃ k, TruV X.K x H k ∧ Q k H) := by
  intro pins s σ H x v Q I rx h
  obtain ⟨k, e, q⟩ := h
  have hl := line63
  have hs : sizeLine = 16777216 := sizeLine_eq
  cases x with
  | non =>
    cases rx
    have e' : k = false := e
    subst e'
    exact truthy_none ⟨H, I, q⟩
  | bl b =>
    cases rx
    have e' : k = b := e
    subst e'
    exact wpAny_truthy_bool ⟨H, I, q⟩
  | int i =>
    obtain ⟨t, rfl⟩ := rx
    have e' : k = (i != 0) := e
    subst e'
    exact PySem.P.truthy_int ⟨H, I, q⟩
  | str y =>
    obtain ⟨t, rfl⟩ := rx
    obtain ⟨hy, e'⟩ : y.length ≤ sizeLine ∧ k = ((y.length : Int) != 0) := e
    subst e'
    exact PySem.P.truthy_str (by omega) ⟨H, I.tok _, q⟩
  | byt y =>
    obtain ⟨t, rfl⟩ := rx
    obtain ⟨hy, e'⟩ : y.size ≤ sizeLine ∧ k = ((y.size : Int) != 0) := e
    subst e'
    exact PySem.W.truthy_bytes (by omega) ⟨H, I.tok _, q⟩
  | ref p =>
    cases rx
    have e' : (∃ xs, SqL X.K H p xs ∧ k = !xs.isEmpty) ∨ (∃ xs, SqT X.K H p xs ∧ k = !xs.isEmpty) ∨ ∃ kvs, H p = some (.dK kvs) ∧ k = !kvs.isEmpty := e
    rcases e' with ⟨xs, hx, e'⟩ | ⟨xs, hx, e'⟩ | ⟨kvs, hx, e'⟩
    · subst e'
      obtain ⟨its, r, pl, hz⟩ := I.list hx
      have hlen := r.length
      exact wpAny_truthy_list pl.isList (by simp only [List.size_toArray]; omega) ⟨H, I.tok _, by rw [isEmpty_of r]; exact q⟩
    · subst e'
      obtain ⟨its, r, pl, hz⟩ := I.tuple hx
      have hlen := r.length
      exact truthy_tuple pl (by simp only [List.size_toArray]; omega) ⟨H, I.tok _, by rw [isEmpty_of r]; exact q⟩
    · subst e'
      obtain ⟨hz, hS, vs, r, m⟩ : kvs.length ≤ sizeLine ∧ (p == sysModules) = false ∧ ∃ vs, KV kvs vs ∧ s.heap.DictOf (mixKind X.prog X.w) p vs := I.hok p _ hx
      have hlen : kvs.length = vs.length := Paired.length r
      exact wpAny_truthy_dict hS m (by omega) ⟨H, I.tok _, by rw [isEmpty_kv r]; exact q⟩
  | _ => exact (show False from e).elim
/-- any expression whose test is its value's truth (a name, a call, a subscript, a field ..: he by fun _ => rfl) -/
theorem pt_truth (ha : PE X a ta) (he : ∀ whole, isTrue a X.env whole = (do let v ← whole; standAt a.pos; holding [v] (truthy v))) :
    PT X a (fun σ H Q => ta σ H fun x H' => ∃ k, TruV X.K x H' k ∧ Q k H') := by
  intro pins s σ H Q I h
  exact isTrue_plain (thn (ha pins s σ H _ I h) fun v s1 ⟨x, H1, I1, r1, q1⟩ => tru_ok pins s1 σ H1 x v Q I1 r1 q1) (he _)

/-! ### strs and bytes -/
theorem pe_byt {x : List UInt8} {k : Nat} : PE X (.Constant (.bytes x) k pos) (fun _ H Q => Q (.byt x.toArray) H) := fun _ _ _ H _ I h => PySem.W.Constant_bytes ⟨.byt x.toArray, H, I.tok _, ⟨_, rfl⟩, h⟩
theorem op_add_str : OpR X (binaryOp .Add) (fun x y H Q => ∃ i j, x = .str i ∧ y = .str j ∧ i.length + j.length ≤ sizeLine ∧ Q (.str (i ++ j)) H) := by
  intro pins s σ H x y v u Q I rx ry h
  obtain ⟨i, j, rfl, rfl, hz, q⟩ := h
  obtain ⟨t, rfl⟩ := rx
  obtain ⟨t', rfl⟩ := ry
  exact add_str (fun t' tk => ⟨.str (i ++ j), H, I.tok _, ⟨_, rfl⟩, q⟩) hz
theorem iop_add_str : OpR X (inplaceOp .Add) (fun x y H Q => ∃ i j, x = .str i ∧ y = .str j ∧ i.length + j.length ≤ sizeLine ∧ Q (.str (i ++ j)) H) := by
  intro pins s σ H x y v u Q I rx ry h
  obtain ⟨i, j, rfl, rfl, hz, q⟩ := h
  obtain ⟨t, rfl⟩ := rx
  obtain ⟨t', rfl⟩ := ry
  exact iadd_str (fun t' tk => ⟨.str (i ++ j), H, I.tok _, ⟨_, rfl⟩, q⟩) hz
theorem op_add_byt : OpR X (binaryOp .Add) (fun x y H Q => ∃ i j, x = .byt i ∧ y = .byt j ∧ i.size + j.size ≤ 16777216 ∧ Q (.byt (i ++ j)) H) := by
  intro pins s σ H x y v u Q I rx ry h
  obtain ⟨i, j, rfl, rfl, hz, q⟩ := h
  obtain ⟨t, rfl⟩ := rx
  obtain ⟨t', rfl⟩ := ry
  exact PySem.W.KBy.add_bytes hz (fun t' tk => ⟨.byt (i ++ j), H, I.tok _, ⟨_, rfl⟩, q⟩)

def PlainIxT (b : Expr) : Prop := ∀ o i, subscripted b false o i = operate [o, i] (getItem o i)
/-- s[i], 0 ≤ i < len -/
theorem pe_item_str (ha : PE X a ta) (hb : PE X b tb) (hs : PlainIxT b) :
    PE X (.Subscript a b pos) (tOp (fun x y H Q => ∃ z i c, x = .str z ∧ y = .int i ∧ 0 ≤ i ∧ i < 2 ^ 63 ∧ i < z.length ∧ z.cps[i.toNat]? = some c ∧ Q (.str ⟨#[c]⟩) H) ta tb) := by
  intro pins s σ H Q I h
  refine Subscript_ (binT ha hb I h fun v u s2 x y H2 I2 rx ry q => ?_)
  obtain ⟨z, i, c, rfl, rfl, h0, h63, h1, hc, q⟩ := q
  obtain ⟨t, rfl⟩ := rx
  obtain ⟨t', rfl⟩ := ry
  have e : seqIndex? i z.length = some i.toNat := PySem.StrLaws.seqIndex_nonneg h0 h1
  exact tail_any (typeIs_str s2 z t) slot_str_getitem.lookup (getItem_str (c := c) (by
    have e1 : decide (i < -(2 ^ 63 : Int)) = false := decide_eq_false (by omega)
    have e2 : decide (i ≥ 2 ^ 63) = false := decide_eq_false (by omega)
    rw [e1, e2] <;> rfl) (by rw [e]; exact hc) ⟨.str ⟨#[c]⟩, H2, I2.tok _, ⟨_, rfl⟩, q⟩) (hs _ _)
/-- b[i], 0 ≤ i < len -/
theorem pe_item_byt (ha : PE X a ta) (hb : PE X b tb) (hs : PlainIxT b) :
    PE X (.Subscript a b pos) (tOp (fun x y H Q => ∃ (z : List UInt8) (i : Int), x = .byt z.toArray ∧ y = .int i ∧ z.length ≤ sizeLine ∧ 0 ≤ i ∧ i < z.length ∧ Q (.int ((z.getD i.toNat 0).toNat : Nat)) H) ta tb) := by
  intro pins s σ H Q I h
  refine Subscript_ (binT ha hb I h fun v u s2 x y H2 I2 rx ry q => ?_)
  obtain ⟨z, i, rfl, rfl, hz, h0, h1, q⟩ := q
  obtain ⟨t, rfl⟩ := rx
  obtain ⟨t', rfl⟩ := ry
  have hl : sizeLine = 16777216 := sizeLine_eq
  exact tail_any (PySem.W.typeIs_bytes s2 z.toArray t) PySem.W.FB.slot_bytes_getitem.lookup (PySem.W.getItem_bytes (by omega) h0 h1 ⟨.int ((z.getD i.toNat 0).toNat : Nat), H2, I2.tok _, ⟨_, rfl⟩, q⟩) (hs _ _)

/-! ### scalar builtins, by CallR -/
theorem vals1 {x : V} {us : List Value} (r : Vals [x] us) : ∃ u, us = [u] ∧ RelV x u := by
  cases r with
  | cons r1 r2 => cases r2; exact ⟨_, rfl, r1⟩
theorem vals2 {x y : V} {us : List Value} (r : Vals [x, y] us) : ∃ u w', us = [u, w'] ∧ RelV x u ∧ RelV y w' := by
  cases r with
  | cons r1 r2 =>
    cases r2 with
    | cons r3 r4 => cases r4; exact ⟨_, _, rfl, r1, r3⟩
theorem call_abs : CallR X (.builtin "abs") (fun xs H Q => ∃ i, xs = [.int i] ∧ Q (.int (if i < 0 then -i else i)) H) := by
  intro pins s σ H xs us Q I r h
  obtain ⟨i, rfl, q⟩ := h
  obtain ⟨u, rfl, t, rfl⟩ := vals1 r
  exact call_abs_int fun u tk => ⟨.int (if i < 0 then -i else i), H, I.tok _, ⟨_, rfl⟩, q⟩
theorem call_max2 (hc : X.calm = true) : CallR X (.builtin "max") (fun xs H Q => ∃ i j, xs = [.int i, .int j] ∧ Q (.int (if j > i then j else i)) H) := by
  intro pins s σ H xs us Q I r h
  obtain ⟨i, j, rfl, q⟩ := h
  obtain ⟨u, w', rfl, ⟨t, rfl⟩, ⟨t', rfl⟩⟩ := vals2 r
  refine max_two_ints (I.ok.hd hc) fun h' tk k => ⟨_, H, I.kept k, ?_, q⟩
  by_cases hj : j > i
  · rw [if_pos hj, if_pos hj]; exact ⟨_, rfl⟩
  · rw [if_neg hj, if_neg hj]; exact ⟨_, rfl⟩
theorem call_min2 (hc : X.calm = true) : CallR X (.builtin "min") (fun xs H Q => ∃ i j, xs = [.int i, .int j] ∧ Q (.int (if j < i then j else i)) H) := by
  intro pins s σ H xs us Q I r h
  obtain ⟨i, j, rfl, q⟩ := h
  obtain ⟨u, w', rfl, ⟨t, rfl⟩, ⟨t', rfl⟩⟩ := vals2 r
  refine min_two_ints (I.ok.hd hc) fun h' tk k => ⟨_, H, I.kept k, ?_, q⟩
  by_cases hj : j < i
  · rw [if_pos hj, if_pos hj]; exact ⟨_, rfl⟩
  · rw [if_neg hj, if_neg hj]; exact ⟨_, rfl⟩
theorem call_int1 : CallR X (.type "int") (fun xs H Q => (∃ i, xs = [.int i] ∧ Q (.int i) H) ∨ ∃ k, xs = [.bl k] ∧ Q (.int (if k then 1 else 0)) H) := by
  intro pins s σ H xs us Q I r h
  rcases h with ⟨i, rfl, q⟩ | ⟨k, rfl, q⟩
  · obtain ⟨u, rfl, t, rfl⟩ := vals1 r
    exact call_int_int ⟨.int i, H, I, ⟨_, rfl⟩, q⟩
  · obtain ⟨u, rfl, r1⟩ := vals1 r
    cases r1
    exact call_int_bool ⟨.int (if k then 1 else 0), H, I.tok _, ⟨_, rfl⟩, q⟩
theorem call_bool1 : CallR X (.type "bool") (fun xs H Q => (∃ i, xs = [.int i] ∧ Q (.bl (i != 0)) H) ∨ ∃ k, xs = [.bl k] ∧ Q (.bl k) H) := by
  intro pins s σ H xs us Q I r h
  rcases h with ⟨i, rfl, q⟩ | ⟨k, rfl, q⟩
  · obtain ⟨u, rfl, t, rfl⟩ := vals1 r
    exact call_bool_int ⟨.bl (i != 0), H, I, rfl, q⟩
  · obtain ⟨u, rfl, r1⟩ := vals1 r
    cases r1
    exact call_bool_bool ⟨.bl k, H, I, rfl, q⟩
theorem call_str_int : CallR X (.type "str") (fun xs H Q => ∃ i, xs = [.int i] ∧ i.natAbs.log2 < 1920 ∧ Q (.str (toString i)) H) := by
  intro pins s σ H xs us Q I r h
  obtain ⟨i, rfl, hz, q⟩ := h
  obtain ⟨u, rfl, t, rfl⟩ := vals1 r
  exact PySem.P.str_of_int hz ⟨.str _, H, I.tok _, ⟨_, rfl⟩, q⟩
theorem call_ord : CallR X (.builtin "ord") (fun xs H Q => ∃ x, xs = [.str x] ∧ x.length = 1 ∧ Q (.int (x.cps.getD 0 0 : Nat)) H) := by
  intro pins s σ H xs us Q I r h
  obtain ⟨x, rfl, hz, q⟩ := h
  obtain ⟨u, rfl, t, rfl⟩ := vals1 r
  exact ord_of_one hz ⟨.int _, H, I.tok _, ⟨_, rfl⟩, q⟩
theorem call_chr : CallR X (.builtin "chr") (fun xs H Q => ∃ i, xs = [.int i] ∧ 0 ≤ i ∧ i ≤ 1114111 ∧ Q (.str ⟨#[i.toNat]⟩) H) := by
  intro pins s σ H xs us Q I r h
  obtain ⟨i, rfl, h0, h1, q⟩ := h
  obtain ⟨u, rfl, t, rfl⟩ := vals1 r
  exact chr_of_range h0 h1 ⟨.str _, H, I.tok _, ⟨_, rfl⟩, q⟩
/-- len of a str, a bytes, a list, a tuple -/
def LenV (K : PySem.W.Frag) (x : V) (H : Hp) (n : Nat) : Prop :=
  match x with
  | .str y => y.length ≤ sizeLine ∧ n = y.length
  | .byt y => y.size ≤ sizeLine ∧ n = y.size
  | .ref p => (∃ xs, SqL K H p xs ∧ n = xs.length) ∨ ∃ xs, SqT K H p xs ∧ n = xs.length
  | _ => False
theorem call_len : CallR X (.builtin "len") (fun xs H Q => ∃ x n, xs = [x] ∧ LenV X.K x H n ∧ Q (.int n) H) := by
  intro pins s σ H xs us Q I r h
  obtain ⟨x, n, rfl, e, q⟩ := h
  obtain ⟨u, rfl, rx⟩ := vals1 r
  have hl := line63
  have hs : sizeLine = 16777216 := sizeLine_eq
  cases x with
  | str y =>
    obtain ⟨t, rfl⟩ := rx
    obtain ⟨hy, e'⟩ : y.length ≤ sizeLine ∧ n = y.length := e
    subst e'
    exact len_str (by omega) ⟨.int _, H, I.tok _, ⟨_, rfl⟩, q⟩
  | byt y =>
    obtain ⟨t, rfl⟩ := rx
    obtain ⟨hy, e'⟩ : y.size ≤ sizeLine ∧ n = y.size := e
    subst e'
    exact PySem.W.len_bytes (by omega) ⟨.int _, H, I.tok _, ⟨_, rfl⟩, q⟩
  | ref p =>
    cases rx
    have e' : (∃ xs, SqL X.K H p xs ∧ n = xs.length) ∨ ∃ xs, SqT X.K H p xs ∧ n = xs.length := e
    rcases e' with ⟨xs, hx, e'⟩ | ⟨xs, hx, e'⟩
    · subst e'
      obtain ⟨its, r', pl, hz⟩ := I.list hx
      have hlen := r'.length
      exact Calls.call_len_list pl.isList (by simp only [List.size_toArray]; omega) ⟨.int xs.length, H, I.tok _, ⟨_, by simp only [List.size_toArray]; rw [hlen]⟩, q⟩
    · subst e'
      obtain ⟨its, r', pl, hz⟩ := I.tuple hx
      have hlen := r'.length
      exact len_tuple pl (by simp only [List.size_toArray]; omega) ⟨.int xs.length, H, I.tok _, ⟨_, by simp only [List.size_toArray]; rw [hlen]⟩, q⟩
  | _ => exact (show False from e).elim
/-- divmod: a new tuple -/
theorem call_divmod : CallR X (.builtin "divmod") (fun xs H Q => ∃ i j, xs = [.int i, .int j] ∧ CDiv i j ∧ ∀ p, H p = none → Q (.ref p) (upd H p (.tup [.int (i / j), .int (i % j)]))) := by
  intro pins s σ H xs us Q I r h
  obtain ⟨i, j, rfl, ⟨h1, h2⟩, q⟩ := h
  obtain ⟨u, w', rfl, ⟨t, rfl⟩, ⟨t', rfl⟩⟩ := vals2 r
  refine divmod_int (by omega) ?_ (.inl (PyProof.noPylong_small (by omega)))
  rw [Int.fdiv_eq_ediv_of_nonneg i (by omega), Int.fmod_eq_emod_of_nonneg i (by omega)]
  have hn : H s.heap.objs.size = none := I.hok.fresh (Nat.le_refl _)
  refine ⟨.ref s.heap.objs.size, _, ?_, rfl, q _ hn⟩
  refine I.laid (fun b o e => Heap.get?_push_of_some _ e) (Nat.le_refl _) ⟨by simp only [List.length_cons, List.length_nil]; rw [sizeLine_eq]; decide, [.int (i / j) s.toks, .int (i % j) (s.toks + 1)], .cons ⟨_, rfl⟩ (.cons ⟨_, rfl⟩ .nil), ?_⟩
  exact ⟨_, Heap.get?_push_size s.heap rfl, rfl, 0, rfl⟩
end
end L2

namespace L2
open PySem PySem.Spec PyProof.Rows

/-! ### an instance, its attributes a map -/
structure ObjM (h : Heap) (x dx C : Addr) (mA : Str → Option Value) : Prop where
  obj : h.get? x = some (PySem.W.instObj C dx)
  ns : h.Ns1 dx mA
  ne : dx ≠ x

theorem lookIn_ns {h : Heap} {dx : Addr} {mA : Str → Option Value} (n : h.Ns1 dx mA) : ∃ od, h.get? dx = some od ∧ ∀ name, PySem.W.lookIn name od = some (mA name) := by
  obtain ⟨o, es, ep, ho, hd, hk, _, hm⟩ := n
  refine ⟨o, ho, fun name => ?_⟩
  have e := hm name
  unfold nsFind findBy at e
  rw [← Array.find?_toList] at e
  unfold PySem.W.lookIn
  rw [hd]
  dsimp only
  split
  · rename_i y q
    rw [q] at e
    exact congrArg some e
  · rename_i q
    rw [q] at e
    have a : es.toList.any (·.refKey) = false := by
      rw [List.any_eq_false]
      intro y hy
      obtain ⟨z, t, hkey⟩ := hk y (Array.mem_toList_iff.mp hy)
      simp [DictEntry.refKey, hkey]
    have a' : ¬ es.toList.any (·.refKey) = true := by rw [a]; exact Bool.false_ne_true
    rw [if_neg a']
    exact congrArg some e

theorem ObjM.look {h : Heap} {x dx C : Addr} {mA : Str → Option Value} (I : ObjM h x dx C mA) : ∃ od, PySem.W.InstAt h x (PySem.W.instObj C dx) C (some od) ∧ ∀ name, PySem.W.lookIn name od = some (mA name) :=
  let ⟨od, ho, hl⟩ := lookIn_ns I.ns
  ⟨od, ⟨I.obj, rfl, rfl, ho⟩, hl⟩

section
variable {prog : Program} {w : World} {A : Around} {E : Value → Shared → Prop} {s : Shared} {K : PySem.W.Frag} {x dx C f : Addr} {mA : Str → Option Value} {name : Str} {v : Value}

theorem get_map {expr : Bool} {Q : Value → Shared → Prop} (X : K.In s.heap) (I : ObjM s.heap x dx C mA) (hg : PySem.W.plainGet K C name = true) (hh : PySem.W.hasDictIn K C = true)
    (ha : PySem.W.findIn K (.ref C) name = some none) (hv : mA name = some v) (hv' : PySem.W.handedIn v = true) (h : Q v { s with toks := s.toks + 1 }) :
    wpAny (model prog w) A (getAttr (.ref x) name expr) Q E s := by
  obtain ⟨od, J, hl⟩ := I.look
  exact PySem.W.get_value X J (PySem.W.plainGet_of hg).1 (PySem.W.findObj_own hh ha rfl (by rw [hl, hv])) hv' h

theorem get_const {expr : Bool} {a : Value} {Q : Value → Shared → Prop} (X : K.In s.heap) (I : ObjM s.heap x dx C mA) (hg : PySem.W.plainGet K C name = true) (hh : PySem.W.hasDictIn K C = true)
    (ha : PySem.W.findIn K (.ref C) name = some (some a)) (hn : PySem.W.specialIn K a "__get__" = some none) (hc : PySem.W.copiedNames.contains name = false) (hv : mA name = none) (hv' : PySem.W.handedIn a = true)
    (h : Q a { s with toks := s.toks + 1 }) : wpAny (model prog w) A (getAttr (.ref x) name expr) Q E s := by
  obtain ⟨od, J, hl⟩ := I.look
  exact PySem.W.get_value X J (PySem.W.plainGet_of hg).1 (PySem.W.findObj_cls hh ha hn hv' hc (by rw [hl, hv])) hv' h

theorem get_meth {pl : Sem Bool} {Q : Value × List Value → Shared → Prop} (X : K.In s.heap) (I : ObjM s.heap x dx C mA) (hg : PySem.W.plainGet K C name = true)
    (hf : PySem.W.findIn K (.ref C) name = some (some (.ref f))) (ht : PySem.W.isFn K (.ref f) = true) (hv : mA name = none) (h : Q (.ref f, [.ref x]) s) :
    wpAny (model prog w) A (getMethod (.ref x) name pl) Q E s := by
  obtain ⟨od, J, hl⟩ := I.look
  exact PySem.W.method_fn X J (PySem.W.plainGet_of hg).1 (PySem.W.plainGet_of hg).2 hf (beq_iff_eq.mp ht) (by show (PySem.W.lookIn name od).map (·.isSome) = some false; rw [hl, hv]; rfl) h

theorem set_map {ns : List Str} {Q : Unit → Shared → Prop} (X : K.In s.heap) (I : ObjM s.heap x dx C mA)
    (hs : PySem.W.findIn K (.ref C) "__setattr__" = some (some (.builtin "object.__setattr__"))) (hp : PySem.W.plainOver K C = true) (ht : PySem.W.takerIn K C name = some none) (hh : PySem.W.hasDictIn K C = true)
    (hw : PySem.Within mA ns) (hsz : ns.length ≤ sizeLine)
    (h : ∀ h', ObjM h' x dx C (fun y => if y = name then some v else mA y) → Heap.SameBut dx s.heap h' → Q () { s with heap := h', toks := s.toks + 2 }) :
    wpAny (model prog w) A (setAttr (.ref x) name v) Q E s := by
  obtain ⟨od, J, hl⟩ := I.look
  refine PySem.W.set_plain X J hs (PySem.W.osa_open (s := { s with toks := s.toks + 1 }) (r := none) X J hp ht fun b => ?_)
  obtain ⟨cd, hc, hd'⟩ := PySem.W.any_some hh
  have hx : s.heap.get? x = some ⟨.ref C, some dx, .plain, #[]⟩ := I.obj
  refine wpAny_bind (wpAny_pure (wpAny_bind (wpAny_bind (wpAny_loadPart hx (wpAny_bind (PySem.W.Looks.here (s := { s with toks := s.toks + 1 }) (PySem.W.looks_clsIn X hc) ?_))))))
  rw [hd']
  refine wpAny_pure (a := some dx) (wpAny_bind (wpAny_pure (wpAny_bind ?_)))
  refine wpAny_nsSet1 (s := { s with toks := s.toks + 1 }) I.ns fun h' hn2 hs2 => ?_
  obtain ⟨oD, esD, epD, hoD, hdD, hcD⟩ := hn2.count (PySem.Within.cons name v hw)
  refine wpAny_bind (wpAny_lookBehind hoD (by rw [hdD]; exact pastItsLine_dict (Nat.le_trans hcD (by rw [List.length_cons]; omega))) ?_)
  exact wpAny_pure (h _ ⟨(hs2.2 _ (Ne.symm I.ne)).trans I.obj, hn2, I.ne⟩ hs2)

/-- C(..): the dict at the heap's end, the instance behind it; then its __init__ -/
theorem make_map {R : Result → Shared → Prop} {vs : List Value} {kw : List (Str × Value)} (X : K.In s.heap) (hm : PySem.W.makesIn K C = true)
    (hi : PySem.W.findIn K (.ref C) "__init__" = some (some (.ref f))) (hf : PySem.W.typeIn K (.ref f) = some (.type "function"))
    (h : codeAny (model prog w) (A.under (.builtin "type.__call__" ⟨.ref C :: vs, kw⟩)) (.call (.ref f) ⟨.ref (s.heap.objs.size + 1) :: vs, kw⟩) (PySem.W.InitBack (s.heap.objs.size + 1) R)
      { s with heap := (s.heap.push PySem.W.emptyDict).push (PySem.W.instObj C s.heap.objs.size) }) :
    codeAny (model prog w) A (.call (.ref C) ⟨vs, kw⟩) R s := by
  obtain ⟨hh, g, d, t, os⟩ := s
  exact PySem.W.make_core (PySem.W.makes_of X hm) (PySem.W.looks_findIn X hi) (fun self => PySem.W.bind_fn X self hf) (.inl rfl) h
/-- C() where there is no __init__ but object's -/
theorem make_map0 {R : Result → Shared → Prop} (X : K.In s.heap) (hm : PySem.W.makesIn K C = true)
    (hi : PySem.W.findIn K (.ref C) "__init__" = some (some (.builtin "object.__init__")))
    (hb : ∀ self, PySem.W.Looks (model prog w) s.heap (bindSpecial (.builtin "object.__init__") self) (.builtin "object.__init__", [self]))
    (h : codeAny (model prog w) (A.under (.builtin "type.__call__" ⟨[.ref C], []⟩)) (.call (.builtin "object.__init__") ⟨[.ref (s.heap.objs.size + 1)], []⟩) (PySem.W.InitBack (s.heap.objs.size + 1) R)
      { s with heap := (s.heap.push PySem.W.emptyDict).push (PySem.W.instObj C s.heap.objs.size) }) :
    codeAny (model prog w) A (.call (.ref C) ⟨[], []⟩) R s := by
  obtain ⟨hh, g, d, t, os⟩ := s
  exact PySem.W.make_core (PySem.W.makes_of X hm) (PySem.W.looks_findIn X hi) hb (.inr ⟨rfl, rfl⟩) h
end

/-! ### the attributes as a list of pairs -/
def putF (f : Str) (v : V) : List (Str × V) → List (Str × V)
  | [] => [(f, v)]
  | (g, x) :: r => if g = f then (g, v) :: r else (g, x) :: putF f v r
theorem lookup_putF (f g : Str) (v : V) : ∀ fs : List (Str × V), (putF f v fs).lookup g = if g = f then some v else fs.lookup g
  | [] => by
    show List.lookup g [(f, v)] = _
    by_cases h : g = f
    · have hb : (g == f) = true := beq_iff_eq.mpr h
      simp only [List.lookup, hb, if_pos h]
    · have hb : (g == f) = false := beq_eq_false_iff_ne.mpr h
      simp only [List.lookup, hb, if_neg h]
  | (k, x) :: r => by
    have ih := lookup_putF f g v r
    rw [show putF f v ((k, x) :: r) = (if k = f then (k, v) :: r else (k, x) :: putF f v r) from rfl]
    by_cases hk : k = f
    · rw [if_pos hk]
      by_cases h : g = k
      · have hb : (g == k) = true := beq_iff_eq.mpr h
        simp only [List.lookup, hb, if_pos (h.trans hk)]
      · have hb : (g == k) = false := beq_eq_false_iff_ne.mpr h
        simp only [List.lookup, hb, if_neg (fun e : g = f => h (e.trans hk.symm))]
    · rw [if_neg hk]
      by_cases h : g = k
      · have hb : (g == k) = true := beq_iff_eq.mpr h
        simp only [List.lookup, hb, if_neg (fun e : g = f => hk (h.symm.trans e))]
      · have hb : (g == k) = false := beq_eq_false_iff_ne.mpr h
        simp only [List.lookup, hb]
        exact ih
theorem keys_putF (f : Str) (v : V) : ∀ fs : List (Str × V), f ∈ (putF f v fs).map (·.1) ∧ ∀ g, g ∈ fs.map (·.1) → g ∈ (putF f v fs).map (·.1)
  | [] => ⟨by simp [putF], fun g h => by simp at h⟩
  | (k, x) :: r => by
    obtain ⟨i1, i2⟩ := keys_putF f v r
    rw [show putF f v ((k, x) :: r) = (if k = f then (k, v) :: r else (k, x) :: putF f v r) from rfl]
    by_cases hk : k = f
    · rw [if_pos hk]
      subst hk
      exact ⟨by simp, fun g h => by simpa using h⟩
    · rw [if_neg hk]
      refine ⟨?_, fun g h => ?_⟩
      · rw [List.map_cons]
        exact List.mem_cons_of_mem _ i1
      · rw [List.map_cons] at h ⊢
        rcases List.mem_cons.mp h with e | e
        · exact List.mem_cons.mpr (.inl e)
        · exact List.mem_cons_of_mem _ (i2 g e)
theorem length_putF (f : Str) (v : V) : ∀ fs : List (Str × V), (putF f v fs).length ≤ fs.length + 1
  | [] => by simp [putF]
  | (k, x) :: r => by
    have ih := length_putF f v r
    rw [show putF f v ((k, x) :: r) = (if k = f then (k, v) :: r else (k, x) :: putF f v r) from rfl]
    by_cases hk : k = f
    · rw [if_pos hk, List.length_cons, List.length_cons]; omega
    · rw [if_neg hk, List.length_cons, List.length_cons]; omega

theorem RelO.some_of {v : V} {o : Option Value} (r : RelO (some v) o) : ∃ u, o = some u ∧ RelV v u := by
  cases o with
  | none => exact (show False from r).elim
  | some u => exact ⟨u, rfl, r⟩
theorem RelO.none_of {o : Option Value} (r : RelO none o) : o = none := by
  cases o with
  | none => rfl
  | some u => exact (show False from r).elim
theorem handed_of {v : V} {u : Value} (r : RelV v u) : PySem.W.handedIn u = true := by
  cases v with
  | non => cases (show u = Value.none from r); rfl
  | bl b => cases (show u = Value.bool b from r); rfl
  | int i => obtain ⟨t, e⟩ := (show ∃ t, u = Value.int i t from r); cases e; rfl
  | str x => obtain ⟨t, e⟩ := (show ∃ t, u = Value.str x t from r); cases e; rfl
  | byt b => obtain ⟨t, e⟩ := (show ∃ t, u = Value.bytes b t from r); cases e; rfl
  | flt b => obtain ⟨t, e⟩ := (show ∃ t, u = Value.float b t from r); cases e; rfl
  | ref a => cases (show u = Value.ref a from r); rfl
  | ty n => cases (show u = Value.type n from r); rfl

section
variable {P : Program} {w : World} {H H' : Hp} {h h' : Heap} {a C dx : Addr} {fs fs' : List (Str × V)}
theorem ins_get (hok : HOk P w H h) (e : H a = some (.ins C dx fs)) : ∃ mA, ObjM h a dx C mA ∧ (∀ f, RelO (fs.lookup f) (mA f)) ∧ PySem.Within mA (fs.map (·.1)) ∧ fs.length ≤ 1000 ∧ H dx = some (.own a) := by
  obtain ⟨d, z, ne, ob, mA, n, r, q⟩ := (show ObjOk P w H h a (.ins C dx fs) from hok a _ e)
  exact ⟨mA, ⟨ob, n, ne⟩, r, q, z, d⟩
end

/-! ### what of the text a class must have -/
structure Cls (K : PySem.W.Frag) (C : Addr) : Prop where
  pg : PySem.W.plainGet K C Str.empty = true
  hd : PySem.W.hasDictIn K C = true
  po : PySem.W.plainOver K C = true
  sa : PySem.W.findIn K (.ref C) "__setattr__" = some (some (.builtin "object.__setattr__"))
theorem Cls.get {K : PySem.W.Frag} {C : Addr} (c : Cls K C) (f : Str) : PySem.W.plainGet K C f = true := c.pg
/-- no class of it has the name -/
def NoAttr (K : PySem.W.Frag) (C : Addr) (f : Str) : Prop := PySem.W.findIn K (.ref C) f = some none
theorem NoAttr.taker {K : PySem.W.Frag} {C : Addr} {f : Str} (n : NoAttr K C f) : PySem.W.takerIn K C f = some none := by
  unfold PySem.W.takerIn
  rw [show PySem.W.findIn K (.ref C) f = some none from n]
  rfl
/-- a constant of the class -/
structure Con (K : PySem.W.Frag) (C : Addr) (f : Str) (v : V) (u : Value) : Prop where
  at_ : PySem.W.findIn K (.ref C) f = some (some u)
  rel : RelV v u
  get : PySem.W.specialIn K u "__get__" = some none
  cp : PySem.W.copiedNames.contains f = false
/-- a method: a plain def of the class or of one above it -/
structure Meth (K : PySem.W.Frag) (C : Addr) (m : Str) (f : Addr) : Prop where
  at_ : PySem.W.findIn K (.ref C) m = some (some (.ref f))
  fn : PySem.W.isFn K (.ref f) = true
  kp : PySem.W.keepIn K (.ref f) = true

section
variable {X : Cx} {pins : List (Addr × Obj)} {σ : St} {H : Hp} {s : Shared} {a C dx : Addr} {fs : List (Str × V)} {f : Str} {v : V} {A : Around} {E : Value → Shared → Prop}

theorem getattr_ok {b : Bool} {Q : Value → Shared → Prop} (I : Inv X pins σ H s) (e : H a = some (.ins C dx fs)) (c : Cls X.K C) (n : NoAttr X.K C f) (l : fs.lookup f = some v)
    (h : ∀ u s', Inv X pins σ H s' → RelV v u → Q u s') : wpAny (model X.prog X.w) A (getAttr (.ref a) f b) Q E s := by
  obtain ⟨mA, O, r, _, _, _⟩ := ins_get I.hok e
  obtain ⟨u, hu, ru⟩ := RelO.some_of (v := v) (o := mA f) (by rw [← l]; exact r f)
  exact get_map I.kIn O (c.get f) c.hd n hu (handed_of ru) (h u _ (I.tok _) ru)

theorem getcon_ok {b : Bool} {u : Value} {Q : Value → Shared → Prop} (I : Inv X pins σ H s) (e : H a = some (.ins C dx fs)) (c : Cls X.K C) (k : Con X.K C f v u) (l : fs.lookup f = none)
    (h : ∀ s', Inv X pins σ H s' → Q u s') : wpAny (model X.prog X.w) A (getAttr (.ref a) f b) Q E s := by
  obtain ⟨mA, O, r, _, _, _⟩ := ins_get I.hok e
  have hn : mA f = none := RelO.none_of (by rw [← l]; exact r f)
  exact get_const I.kIn O (c.get f) c.hd k.at_ k.get k.cp hn (handed_of k.rel) (h _ (I.tok _))

theorem getmeth_ok {m : Str} {g : Addr} {pl : Sem Bool} {Q : Value × List Value → Shared → Prop} (I : Inv X pins σ H s) (e : H a = some (.ins C dx fs)) (c : Cls X.K C) (k : Meth X.K C m g) (l : fs.lookup m = none)
    (h : Q (.ref g, [.ref a]) s) : wpAny (model X.prog X.w) A (getMethod (.ref a) m pl) Q E s := by
  obtain ⟨mA, O, r, _, _, _⟩ := ins_get I.hok e
  have hn : mA m = none := RelO.none_of (by rw [← l]; exact r m)
  exact get_meth I.kIn O (c.get m) k.at_ k.fn hn h

theorem setattr_ok {y : V} {u : Value} {Q : Unit → Shared → Prop} (I : Inv X pins σ H s) (e : H a = some (.ins C dx fs)) (c : Cls X.K C) (n : NoAttr X.K C f) (hl : fs.length < 1000) (ry : RelV y u)
    (h : ∀ s', Inv X pins σ (upd H a (.ins C dx (putF f y fs))) s' → Q () s') : wpAny (model X.prog X.w) A (setAttr (.ref a) f u) Q E s := by
  obtain ⟨mA, O, r, wi, _, ho⟩ := ins_get I.hok e
  have hz : (fs.map (·.1)).length ≤ sizeLine := by rw [List.length_map, sizeLine_eq]; omega
  refine set_map I.kIn O c.sa c.po n.taker c.hd wi hz fun h' O' sb => h _ ?_
  have hd : ∃ o, h'.get? dx = some o := let ⟨o, _, _, e', _⟩ := O'.ns; ⟨o, e'⟩
  refine I.write (x := a) (e := dx) (by rw [e]; exact True.intro) (.inr ho) (fun b q hb z => (sb.2 b hb).trans z) hd ?_
  refine ⟨by rw [upd_ne O.ne]; exact ho, ?_, O.ne, O'.obj, _, O'.ns, fun g => ?_, fun g hg => ?_⟩
  · have := length_putF f y fs; omega
  · show RelO ((putF f y fs).lookup g) (if g = f then some u else mA g)
    rw [lookup_putF]
    by_cases q : g = f
    · rw [if_pos q, if_pos q]; exact ry
    · rw [if_neg q, if_neg q]; exact r g
  · by_cases q : g = f
    · rw [q]; exact (keys_putF f y fs).1
    · refine (keys_putF f y fs).2 g (wi g fun z => hg ?_)
      show (if g = f then some u else mA g) = none
      rw [if_neg q]; exact z

/-- a new instance, tracked, without attributes -/
theorem Inv.made (I : Inv X pins σ H s) : Inv X pins σ (upd (upd H s.heap.objs.size (.own (s.heap.objs.size + 1))) (s.heap.objs.size + 1) (.ins C s.heap.objs.size []))
    { s with heap := (s.heap.push PySem.W.emptyDict).push (PySem.W.instObj C s.heap.objs.size) } := by
  have e1 : (s.heap.push PySem.W.emptyDict).get? s.heap.objs.size = some PySem.W.emptyDict := Heap.get?_push_size s.heap rfl
  have e2 : ((s.heap.push PySem.W.emptyDict).push (PySem.W.instObj C s.heap.objs.size)).get? (s.heap.objs.size + 1) = some (PySem.W.instObj C s.heap.objs.size) := by
    have := Heap.get?_push_size (s.heap.push PySem.W.emptyDict) (o := PySem.W.instObj C s.heap.objs.size) rfl
    rwa [Heap.size_push] at this
  have e3 : (s.heap.push PySem.W.emptyDict).Ns s.heap.objs.size (fun _ => none) := ⟨PySem.W.emptyDict, #[], _, e1, rfl, (fun e he => absurd he (by simp)), fun _ => rfl⟩
  have I1 := I.laid (a := s.heap.objs.size) (o := .own (s.heap.objs.size + 1)) (h' := s.heap.push PySem.W.emptyDict) (t' := s.toks) (fun b u q => Heap.get?_push_of_some _ q) (Nat.le_refl _) ⟨_, e1⟩
  refine I1.laid (a := s.heap.objs.size + 1) (o := .ins C s.heap.objs.size []) (t' := s.toks) (fun b u q => Heap.get?_push_of_some _ q) (Nat.le_of_eq (Heap.size_push _ _)) ?_
  have ne : s.heap.objs.size ≠ s.heap.objs.size + 1 := Nat.ne_of_lt (Nat.lt_succ_self _)
  refine ⟨by rw [upd_ne ne, upd_same], Nat.zero_le _, ne, e2, fun _ => none, (Heap.Ns1.of_empty e3).at fun o q => Heap.get?_push_of_some _ q, fun _ => True.intro, fun y hy => absurd rfl hy⟩

/-- e.f where nothing but the object is asked: through attributeBase (super) and the last hold -/
theorem attr_of {prog : Program} {w : World} {env : Env} {e : Expr} {f : Str} {pos : Pos} {s : Shared} {Q : Value → Shared → Prop} (hb : attributeBase e f env (eval e env) = eval e env)
    (h : wpAny (model prog w) A (eval e env) (fun o s₁ => wpAny (model prog w) A (getAttr o f true) Q E s₁) E s) : wpAny (model prog w) A (eval (.Attribute e f pos) env) Q E s :=
  Attribute_any_ h (by rw [arm_eval_Attribute, hb])
end

/-! ### readings and rules -/
/-- e.f, an attribute of the instance -/
def tFld (K : PySem.W.Frag) (ta : TE) (f : Str) : TE := fun σ H Q => ta σ H fun x H1 => ∃ a C dx fs v, x = .ref a ∧ H1 a = some (.ins C dx fs) ∧ Cls K C ∧ NoAttr K C f ∧ fs.lookup f = some v ∧ Q v H1
/-- e.f, a constant of the class -/
def tCon (K : PySem.W.Frag) (ta : TE) (f : Str) : TE := fun σ H Q => ta σ H fun x H1 => ∃ a C dx fs v u, x = .ref a ∧ H1 a = some (.ins C dx fs) ∧ Cls K C ∧ Con K C f v u ∧ fs.lookup f = none ∧ Q v H1
/-- e.f = value -/
def sFld (K : PySem.W.Frag) (ta tv : TE) (f : Str) : TS := fun D σ H => tv σ H fun y H1 => ta σ H1 fun x H2 => ∃ a C dx fs, x = .ref a ∧ H2 a = some (.ins C dx fs) ∧ Cls K C ∧ NoAttr K C f ∧ fs.length < 1000 ∧
  D.nx σ (upd H2 a (.ins C dx (putF f y fs)))
/-- an augmented operator on two values -/
def InOp (X : Cx) (op : Operator) (rd : V → V → Hp → VK → Prop) : Prop :=
  ∀ (pins : List (Addr × Obj)) (s : Shared) (σ : St) (H : Hp) (x y : V) (u v : Value) (Q : VK), Inv X pins σ H s → RelV x u → RelV y v → rd x y H Q → wpAny (model X.prog X.w) X.A (inplaceOp op u v) (EP X pins σ Q) X.xe s
/-- e.f op= value -/
def sFldAug (K : PySem.W.Frag) (ta tv : TE) (rd : V → V → Hp → VK → Prop) (f : Str) : TS := fun D σ H => ta σ H fun x H1 => ∃ a C dx fs v, x = .ref a ∧ H1 a = some (.ins C dx fs) ∧ Cls K C ∧ NoAttr K C f ∧ fs.lookup f = some v ∧
  tv σ H1 fun y H2 => rd v y H2 fun z H3 => ∃ dx' fs', H3 a = some (.ins C dx' fs') ∧ fs'.length < 1000 ∧ D.nx σ (upd H3 a (.ins C dx' (putF f z fs')))

section
variable {X : Cx} {o e value : Expr} {f : Str} {pos pos' tpos : Pos} {ta tv : TE}
theorem pe_fld (he : PE X e ta) (hb : attributeBase e f X.env (eval e X.env) = eval e X.env) : PE X (.Attribute e f pos) (tFld X.K ta f) := by
  intro pins s σ H Q I h
  refine attr_of hb (thn (he pins s σ H _ I h) fun u s1 ⟨x, H1, I1, rx, a, C, dx, fs, v, ex, ea, c, n, l, q⟩ => ?_)
  subst ex
  obtain rfl : u = Value.ref a := rx
  exact getattr_ok I1 ea c n l fun u' s2 I2 ru => ⟨v, H1, I2, ru, q⟩
theorem pe_con (he : PE X e ta) (hb : attributeBase e f X.env (eval e X.env) = eval e X.env) : PE X (.Attribute e f pos) (tCon X.K ta f) := by
  intro pins s σ H Q I h
  refine attr_of hb (thn (he pins s σ H _ I h) fun u s1 ⟨x, H1, I1, rx, a, C, dx, fs, v, u0, ex, ea, c, k, l, q⟩ => ?_)
  subst ex
  obtain rfl : u = Value.ref a := rx
  exact getcon_ok I1 ea c k l fun s2 I2 => ⟨v, H1, I2, k.rel, q⟩
theorem ps_fld (ha : PE X o ta) (hv : PE X value tv) (hs : swapsWith value (some (.Attribute o f pos')) pos.line X.env = pure false) : PS X (.Assign [.Attribute o f pos'] value pos) (sFld X.K ta tv f) := by
  intro pins s σ H D I h
  refine plainObj_wpAny_Assign_Attribute (thn (hv pins s σ H _ I h) fun u s1 ⟨y, H1, I1, ry, q⟩ => thn (ha pins s1 σ H1 _ I1 q) fun ov s2 ⟨x, H2, I2, rx, a, C, dx, fs, ex, ea, c, n, l, q2⟩ => ?_) hs
  subst ex
  obtain rfl : ov = Value.ref a := rx
  exact setattr_ok I2 ea c n l ry fun s3 I3 => ⟨σ, _, I3, q2⟩
theorem ps_fldaug {op : Operator} {rd : V → V → Hp → VK → Prop} (ha : PE X o ta) (hv : PE X value tv) (hop : InOp X op rd) : PS X (.AugAssign (.Attribute o f tpos) op value pos) (sFldAug X.K ta tv rd f) := by
  intro pins s σ H D I h
  refine wpAny_AugAssign_AttributeAny (thn (ha pins s σ H _ I h) fun ov s1 ⟨x, H1, I1, rx, a, C, dx, fs, v, ex, ea, c, n, l, q⟩ => ?_)
  subst ex
  obtain rfl : ov = Value.ref a := rx
  refine getattr_ok I1 ea c n l fun u s2 I2 ru => thn (hv pins s2 σ H1 _ I2 q) fun w3 s3 ⟨y, H2, I3, ry, q3⟩ => thn (hop pins s3 σ H2 v y u w3 _ I3 ru ry q3) fun w4 s4 ⟨z, H3, I4, rz, dx', fs', ea', l', q4⟩ => ?_
  exact setattr_ok I4 ea' c n l' rz fun s5 I5 => ⟨σ, _, I5, q4⟩
def rAdd : V → V → Hp → VK → Prop := fun x y H Q => ∃ i j, x = .int i ∧ y = .int j ∧ Q (.int (i + j)) H
def rSub : V → V → Hp → VK → Prop := fun x y H Q => ∃ i j, x = .int i ∧ y = .int j ∧ Q (.int (i - j)) H
theorem in_add : InOp X .Add rAdd := by
  rintro pins s σ H x y u v Q I rx ry ⟨i, j, rfl, rfl, q⟩
  obtain ⟨t, rfl⟩ := (show ∃ t, u = Value.int i t from rx)
  obtain ⟨t', rfl⟩ := (show ∃ t', v = Value.int j t' from ry)
  exact PyProof.Rows.iadd_int ⟨.int (i + j), H, I.tok _, ⟨_, rfl⟩, q⟩
theorem in_sub : InOp X .Sub rSub := by
  rintro pins s σ H x y u v Q I rx ry ⟨i, j, rfl, rfl, q⟩
  obtain ⟨t, rfl⟩ := (show ∃ t, u = Value.int i t from rx)
  obtain ⟨t', rfl⟩ := (show ∃ t', v = Value.int j t' from ry)
  exact PyProof.Rows.isub_int ⟨.int (i - j), H, I.tok _, ⟨_, rfl⟩, q⟩

/-- what is between an instance and its method: the tree of a method call -/
theorem methcall_of {pl : Sem Bool} {m : Str} {apos : Pos} {args : List Expr} {pins : List (Addr × Obj)} {s : Shared} {σ : St} {H : Hp} {Q : Value → Shared → Prop} {te : TE} (he : PE X e te) (I : Inv X pins σ H s)
    (h : te σ H fun x H1 => ∃ a C dx fs g, x = .ref a ∧ H1 a = some (.ins C dx fs) ∧ Cls X.K C ∧ Meth X.K C m g ∧ fs.lookup m = none ∧
      ∀ s1, Inv X pins σ H1 s1 → wpAny (model X.prog X.w) X.A (callWith pos (.ref g) [.ref a] (backTo pos (starEach args X.env)) (backToKw pos (keywordEach [] X.env))) Q X.xe s1)
    (ht : eval (.Call (.Attribute e m apos) args [] pos) X.env = (do
      let ov ← eval e X.env
      standAt apos.atName
      let (f, first) ← holding [ov] (getMethod ov m pl)
      callWith pos f first (backTo pos (starEach args X.env)) (backToKw pos (keywordEach [] X.env)))) :
    wpAny (model X.prog X.w) X.A (eval (.Call (.Attribute e m apos) args [] pos) X.env) Q X.xe s := by
  refine PySem.W.methodCall_KW (pl := pl) (thn (he pins s σ H _ I h) fun u s1 ⟨x, H1, I1, rx, a, C, dx, fs, g, ex, ea, c, k, l, q⟩ => ?_) ht
  subst ex
  obtain rfl : u = Value.ref a := rx
  exact getmeth_ok I1 ea c k l (q s1 I1)
end

/-! ### isinstance -/
section
variable {X : Cx} {pins : List (Addr × Obj)} {σ : St} {H : Hp} {s : Shared} {A : Around} {E : Value → Shared → Prop} {Q : Value → Shared → Prop} {c : Value} {b : Bool}
/-- the type of a value, as the fragment's deciders take it; for an instance its class -/
inductive TyOf (K : PySem.W.Frag) (H : Hp) : V → Value → Prop where
  | non : TyOf K H .non (.type "NoneType")
  | bl (x : Bool) : TyOf K H (.bl x) (.type "bool")
  | int (i : Int) : TyOf K H (.int i) (.type "int")
  | str (x : Str) : TyOf K H (.str x) (.type "str")
  | flt (x : UInt64) : TyOf K H (.flt x) (.type "float")
  | lst {a : Addr} {xs : List V} (e : H a = some (.lst xs)) : TyOf K H (.ref a) (.type "list")
  | frz {a : Addr} {o : Obj} {xs : List V} (e : H a = some (.frz o (.lst xs))) : TyOf K H (.ref a) (.type "list")
  | tup {a : Addr} {xs : List V} (e : H a = some (.tup xs)) : TyOf K H (.ref a) (.type "tuple")
  | dK {a : Addr} {kvs : List (Key × V)} (e : H a = some (.dK kvs)) : TyOf K H (.ref a) (.type "dict")
  | dT {a : Addr} {kvs : List (List Key × V)} (e : H a = some (.dT kvs)) : TyOf K H (.ref a) (.type "dict")
  | ins {a C dx : Addr} {fs : List (Str × V)} (e : H a = some (.ins C dx fs)) (cl : Cls K C) (ha : PySem.W.findIn K (.ref C) "__class__" = some (some (.builtin "object.__class__")))
      (hn : PySem.W.specialIn K (.builtin "object.__class__") "__get__" = some (some (.builtin "getset_descriptor.__get__"))) (htk : PySem.W.takesIn K (.builtin "object.__class__") = some true)
      (hm : PySem.W.mroIn K C (.type "object") = some true) : TyOf K H (.ref a) (.ref C)
/-- isinstance(x, c) for one class c, a built-in or an own one: kitOne's answer -/
theorem isinst_ok {x : V} {u t : Value} (I : Inv X pins σ H s) (rx : RelV x u) (ty : TyOf X.K H x t) (e : PySem.W.kitOne X.K t c = some b) (h : ∀ tk, Q (.bool b) { s with toks := tk }) :
    wpAny (model X.prog X.w) A (call (.builtin "isinstance") [u, c]) Q E s := by
  cases ty with
  | non => cases (show u = Value.none from rx); exact PySem.W.kia_one PySem.W.kitx_none I.kIn True.intro e (fun z => nomatch z) h
  | bl y => cases (show u = Value.bool y from rx); exact PySem.W.kia_one PySem.W.kitx_bool I.kIn True.intro e (fun z => nomatch z) h
  | int i => obtain ⟨t, q⟩ := (show ∃ t, u = Value.int i t from rx); cases q; exact PySem.W.kia_one PySem.W.kitx_int I.kIn True.intro e (fun z => nomatch z) h
  | str y => obtain ⟨t, q⟩ := (show ∃ t, u = Value.str y t from rx); cases q; exact PySem.W.kia_one PySem.W.kitx_str I.kIn True.intro e (fun z => nomatch z) h
  | flt y => obtain ⟨t, q⟩ := (show ∃ t, u = Value.float y t from rx); cases q; exact PySem.W.kia_one PySem.W.kitx_float I.kIn True.intro e (fun z => nomatch z) h
  | @lst a xs ea =>
    cases (show u = Value.ref a from rx)
    obtain ⟨_, _, n, _, h1⟩ := (show ObjOk X.prog X.w H s.heap a (.lst xs) from I.hok a _ ea)
    exact PySem.W.kia_one PySem.W.kitx_list I.kIn ⟨_, h1, rfl⟩ e (fun z => nomatch z) h
  | @frz a ob xs ea =>
    cases (show u = Value.ref a from rx)
    obtain ⟨_, _, _, n, _, h1⟩ := (show ObjOk X.prog X.w H s.heap a (.frz ob (.lst xs)) from I.hok a _ ea)
    exact PySem.W.kia_one PySem.W.kitx_list I.kIn ⟨_, h1, rfl⟩ e (fun z => nomatch z) h
  | @tup a xs ea =>
    cases (show u = Value.ref a from rx)
    obtain ⟨_, _, _, p⟩ := (show ObjOk X.prog X.w H s.heap a (.tup xs) from I.hok a _ ea)
    obtain ⟨o, h1, h2, _⟩ := p
    exact PySem.W.kia_one PySem.W.kitx_tuple I.kIn ⟨o, h1, h2⟩ e (fun z => nomatch z) h
  | @dK a kvs ea =>
    cases (show u = Value.ref a from rx)
    obtain ⟨_, _, vs, _, p⟩ := (show ObjOk X.prog X.w H s.heap a (.dK kvs) from I.hok a _ ea)
    obtain ⟨o, es, ep, h1, h2, _⟩ := p
    exact PySem.W.kia_one PySem.W.kitx_dict I.kIn ⟨o, h1, h2.1⟩ e (fun z => nomatch z) h
  | @dT a kvs ea =>
    cases (show u = Value.ref a from rx)
    obtain ⟨_, _, xs, _, o, es, ep, h1, h2, _⟩ := (show ObjOk X.prog X.w H s.heap a (.dT kvs) from I.hok a _ ea)
    exact PySem.W.kia_one PySem.W.kitx_dict I.kIn ⟨o, h1, h2.1⟩ e (fun z => nomatch z) h
  | @ins a C dx fs ea cl ha hn htk hm =>
    cases (show u = Value.ref a from rx)
    obtain ⟨mA, O, _⟩ := ins_get I.hok ea
    obtain ⟨od, J, _⟩ := O.look
    exact PySem.W.kia_one (PySem.W.kitx_own (cl.get _) cl.hd ha hn htk hm) I.kIn J e (fun z => nomatch z) h
end
end L2

namespace L2
open PySem PySem.Spec PyProof.Rows

/-! ### room -/
structure Room (k : Nat) (A : Around) : Prop where
  hd : A.handled = none
  dp : A.depth + 3 * k + 5 < recursionLimit
  un : A.units + 16 * k + 200 < cLine
theorem Room.mono {j k : Nat} {A : Around} (r : Room k A) (h : j ≤ k) : Room j A := ⟨r.hd, by have := r.dp; omega, by have := r.un; omega⟩
theorem Room.deeper {k : Nat} {A : Around} (r : Room (k + 1) A) (env : Env) : Room k (A.deeper env) :=
  ⟨r.hd, by have := r.dp; show A.depth + 1 + 3 * k + 5 < _; omega, by have := r.un; show A.units + 3 + 16 * k + 200 < _; omega⟩
theorem Room.in1 {k : Nat} {A : Around} (r : Room (k + 1) A) : Room k A.in1 :=
  ⟨r.hd, by have := r.dp; show A.depth + 3 * k + 5 < _; omega, by have := r.un; show A.units + 1 + 16 * k + 200 < _; omega⟩
theorem make_depth {A : Around} {C : Addr} {us : List Value} {kw : List (Str × Value)} : (A.under (.builtin "type.__call__" ⟨.ref C :: us, kw⟩)).depth = A.depth + 1 := by
  first | rfl | simp [Around.under, Code.weight, Code.isCreation, Code.isGuard, Code.isCaller, Code.frames, Code.isFrame, guardIds]
theorem make_units {A : Around} {C : Addr} {us : List Value} {kw : List (Str × Value)} : (A.under (.builtin "type.__call__" ⟨.ref C :: us, kw⟩)).units = A.units + 1 := by
  first | rfl | simp [Around.under, Code.cUnits, Code.frames, Code.isFrame]
theorem Room.make {k : Nat} {A : Around} (r : Room (k + 1) A) (C : Addr) (us : List Value) (kw : List (Str × Value)) : Room k (A.under (.builtin "type.__call__" ⟨.ref C :: us, kw⟩)) :=
  ⟨r.hd, by have := r.dp; rw [make_depth]; omega, by have := r.un; rw [make_units]; omega⟩
theorem Room.depth {k : Nat} {A : Around} (r : Room k A) : A.depth < recursionLimit := by have := r.dp; omega
theorem Room.units {k : Nat} {A : Around} (r : Room k A) : A.units + 64 < cLine := by have := r.un; omega
theorem Room.units0 {k : Nat} {A : Around} (r : Room k A) : A.units < cLine := by have := r.un; omega

/-! ### argument lists and displays -/
def tNil : TA := fun _ H Q => Q [] H
def tCons (ta : TE) (tr : TA) : TA := fun σ H Q => ta σ H fun x H1 => tr σ H1 fun xs H2 => Q (x :: xs) H2
section
variable {X : Cx} {e : Expr} {es : List Expr} {te : TE} {t : TA} {pos : Pos}
theorem pa_nil : PA X [] tNil := fun _ _ _ _ H Q I h => Calls.spliced_nil ⟨[], H, I, .nil, h⟩
theorem pa_cons (ha : PE X e te) (hr : PA X es t) (hs : starEach (e :: es) X.env = (false, eval e X.env) :: starEach es X.env := by rfl) : PA X (e :: es) (tCons te t) := by
  intro pos pins s σ H Q I h
  rw [hs]
  show wpAny _ _ (spliced ((false, eval e X.env) :: backTo pos (starEach es X.env))) _ _ s
  refine Calls.spliced_cons (thn (ha pins s σ H _ I h) fun u s1 ⟨x, H1, I1, r1, q1⟩ => ?_)
  exact thn (hr pos pins s1 σ H1 _ I1 q1) fun us s2 ⟨xs, H2, I2, r2, q2⟩ => ⟨x :: xs, H2, I2, .cons r1 r2, q2⟩

/-- a tuple, a list of written items -/
def tTup (t : TA) : TE := fun σ H Q => t σ H fun xs H1 => xs.length ≤ sizeLine ∧ ∀ p, H1 p = none → Q (.ref p) (upd H1 p (.tup xs))
def tLst (t : TA) : TE := fun σ H Q => t σ H fun xs H1 => xs.length ≤ sizeLine ∧ ∀ p, H1 p = none → Q (.ref p) (upd H1 p (.lst xs))
theorem pe_tup {x1} (h : PA X es t) : PE X (.Tuple es x1 pos) (tTup t) := by
  intro pins s σ H Q I hq
  refine wpAny_Tuple_spliced (thn (h pos pins s σ H _ I hq) fun us s1 ⟨xs, H1, I1, r, z, q⟩ => ⟨by rw [← r.length]; exact z, ?_⟩)
  have hf : H1 s1.heap.objs.size = none := I1.hok.fresh (Nat.le_refl _)
  refine ⟨.ref s1.heap.objs.size, upd H1 s1.heap.objs.size (.tup xs), I1.laid (t' := s1.toks) (fun b u e => Heap.get?_push_of_some _ e) (Nat.le_refl _) ?_, rfl, q _ hf⟩
  exact ⟨z, us, r, ⟨_, Heap.get?_push_size _ rfl, rfl, _, rfl⟩⟩
theorem pe_lst (h : PA X es t) : PE X (.List es pos) (tLst t) := by
  intro pins s σ H Q I hq
  refine wpAny_List_spliced (thn (h pos pins s σ H _ I hq) fun us s1 ⟨xs, H1, I1, r, z, q⟩ => ⟨by rw [← r.length]; exact z, ?_⟩)
  have hf : H1 s1.heap.objs.size = none := I1.hok.fresh (Nat.le_refl _)
  refine ⟨.ref s1.heap.objs.size, upd H1 s1.heap.objs.size (.lst xs), I1.laid (t' := s1.toks) (fun b u e => Heap.get?_push_of_some _ e) (Nat.le_refl _) ?_, rfl, q _ hf⟩
  exact ⟨z, us, 0, r, Heap.get?_push_size _ rfl⟩
end

/-! ### what a def promises -/
/-- a def's promise: the bound arguments in the parameters' order, the heap, the wanted end, the wanted exception -/
abbrev Sp := List V → Hp → VK → XK → Prop
/-- how an exception lies behind a call (file 08 gives it): the callers' frames, abstract heap and state ahead of the call, the wish, the exception, the state -/
abbrev CXT := List Env → Hp → Shared → XK → Value → Shared → Prop

/-- the state at a call -/
structure Env0 (P : Program) (w : World) (K : PySem.W.Frag) (mg : Str → Option Value) (base : Heap) (A : Around) (outer : List Env) (s : Shared) (H : Hp) : Prop where
  frames : A.frames = some outer
  mod : Mod K mg base
  bs : ∀ b o, base.get? b = some o → s.heap.get? b = some o ∧ H b = none
  bsz : base.objs.size ≤ s.heap.objs.size
  funs : s.heap.FunFrames base outer
  frf : ∀ b ∈ frs outer, H b = none
  hok : HOk P w H s.heap
  bare : AllBare s.gens
/-- a call's end -/
def CE (outer : List Env) (P : Program) (w : World) (H : Hp) (s : Shared) (Q : VK) (u : Value) (s' : Shared) : Prop :=
  ∃ v H', s'.os = s.os ∧ AllBare s'.gens ∧ Un (frs outer) [] H H' s.heap s'.heap ∧ HOk P w H' s'.heap ∧ RelV v u ∧ Q v H'
def CR (CX : CXT) (outer : List Env) (P : Program) (w : World) (H : Hp) (s : Shared) (Q : VK) (E : XK) (r : Result) (s' : Shared) : Prop :=
  match r with
  | .ok (.ret u) => CE outer P w H s Q u s'
  | .ok _ => False
  | .error e => CX outer H s E e s'
structure FnOk (P : Program) (w : World) (K : PySem.W.Frag) (mg : Str → Option Value) (base : Heap) (CX : CXT) (k : Nat) (f : Addr) (fd : FuncData) (ps : List Str) (sp : Sp) : Prop where
  len : ∀ vs H Q E, sp vs H Q E → vs.length = ps.length
  run : ∀ (A : Around) (outer : List Env) (s : Shared) (H : Hp) (args : Args) (us : List Value) (vs : List V) (Q : VK) (E : XK), Room k A → Env0 P w K mg base A outer s H → BindsTo s fd args (ps.zip us) → Vals vs us → sp vs H Q E →
    codeAny (model P w) A (.call (.ref f) args) (CR CX outer P w H s Q E) s
theorem FnOk.mono {P : Program} {w : World} {K : PySem.W.Frag} {mg : Str → Option Value} {base : Heap} {CX : CXT} {j k : Nat} {f : Addr} {fd : FuncData} {ps : List Str} {sp : Sp} (F : FnOk P w K mg base CX j f fd ps sp) (h : j ≤ k) :
    FnOk P w K mg base CX k f fd ps sp := ⟨F.len, fun A outer s H args us vs Q E hr => F.run A outer s H args us vs Q E (hr.mono h)⟩
/-- a weaker promise -/
theorem FnOk.imp {P : Program} {w : World} {K : PySem.W.Frag} {mg : Str → Option Value} {base : Heap} {CX : CXT} {k : Nat} {f : Addr} {fd : FuncData} {ps : List Str} {sp sp' : Sp} (F : FnOk P w K mg base CX k f fd ps sp)
    (h : ∀ vs H Q E, sp' vs H Q E → sp vs H Q E) : FnOk P w K mg base CX k f fd ps sp' :=
  ⟨fun vs H Q E q => F.len vs H Q E (h _ _ _ _ q), fun A outer s H args us vs Q E hr he hb hv hs => F.run A outer s H args us vs Q E hr he hb hv (h _ _ _ _ hs)⟩

theorem Env0.make {P : Program} {w : World} {K : PySem.W.Frag} {mg : Str → Option Value} {base : Heap} {A : Around} {outer : List Env} {s : Shared} {H : Hp} (e : Env0 P w K mg base A outer s H) (C : Addr) (us : List Value) (kw : List (Str × Value)) :
    Env0 P w K mg base (A.under (.builtin "type.__call__" ⟨.ref C :: us, kw⟩)) outer s H := ⟨by first | exact e.frames | (simpa [Around.under, Code.envs, Code.isFrame, pushEnvs] using e.frames), e.mod, e.bs, e.bsz, e.funs, e.frf, e.hok, e.bare⟩
theorem Env0.in1 {P : Program} {w : World} {K : PySem.W.Frag} {mg : Str → Option Value} {base : Heap} {A : Around} {outer : List Env} {s : Shared} {H : Hp} (e : Env0 P w K mg base A outer s H) :
    Env0 P w K mg base A.in1 outer s H := ⟨e.frames, e.mod, e.bs, e.bsz, e.funs, e.frf, e.hok, e.bare⟩

section
variable {X : Cx} {pins : List (Addr × Obj)} {σ : St} {H : Hp} {s s' : Shared}
/-- from a body: what a callee wants -/
theorem Inv.env0 (I : Inv X pins σ H s) : Env0 X.prog X.w X.K X.mg X.base X.A X.stack s H :=
  ⟨I.ok.frames, I.ok.mod, I.bs, Nat.le_trans I.ok.bsz I.sz, I.stack, I.stkFree, I.hok, I.bare⟩
/-- behind a call -/
theorem Inv.after {Q : VK} {u : Value} (I : Inv X pins σ H s) (h : CE X.stack X.prog X.w H s Q u s') : EP X pins σ Q u s' := by
  obtain ⟨v, H', os, bare, un, hok, r, q⟩ := h
  obtain ⟨hh, g, d, t, os'⟩ := s'
  obtain rfl : os' = s.os := os
  exact ⟨v, H', I.call (h' := hh) (g' := g) (d' := d) (t' := t) (ch := []) un hok bare (fun b z => absurd z (by simp)), r, q⟩
end

/-! ### calls -/
/-- f(..): the written arguments, then the defaults dvs; E: what is wanted of an exception -/
def tCall (sp : Sp) (dvs : List V) (E : XK) (t : TA) : TE := fun σ H Q => t σ H fun vs H1 => sp (vs ++ dvs) H1 Q E
/-- o.m(..) of an instance of the class at C -/
def tMeth (C : Addr) (m : Str) (sp : Sp) (dvs : List V) (E : XK) (ta : TE) (t : TA) : TE := fun σ H Q => ta σ H fun x H1 => ∃ a dx fs, x = .ref a ∧ H1 a = some (.ins C dx fs) ∧ fs.lookup m = none ∧
  t σ H1 fun vs H2 => sp (x :: (vs ++ dvs)) H2 Q E
/-- C(..): a new instance and its dict, then __init__ -/
def tMake (C : Addr) (sp : Sp) (dvs : List V) (E : XK) (t : TA) : TE := fun σ H Q => t σ H fun vs H1 => ∀ x dx, H1 x = none → H1 dx = none → dx ≠ x →
  sp (.ref x :: (vs ++ dvs)) (upd (upd H1 dx (.own x)) x (.ins C dx [])) (fun v H2 => v = .non ∧ Q (.ref x) H2) E

/-- how the parameters are bound: us the positional arguments, kw the keywords' values by name, ds the defaults that fill up -/
def Binds (K : PySem.W.Frag) (fd : FuncData) (ps : List Str) (ds : List Value) : Prop :=
  ∀ (s : Shared) (us : List Value), K.In s.heap → (us ++ ds).length = ps.length → BindsTo s fd ⟨us, []⟩ (ps.zip (us ++ ds))
/-- every parameter is given -/
theorem Binds.all {K : PySem.W.Frag} {fd : FuncData} {ps : List Str} (h : ∀ us : List Value, us.length = ps.length → bindArgs fd ⟨us, []⟩ = pure (ps.zip us)) : Binds K fd ps [] := fun s us _ hl => by
  rw [List.append_nil] at hl ⊢
  exact .of_eq (h us hl)

/-- an exception of a callee reaches what this body wants of exceptions -/
def Passes (CX : CXT) (X : Cx) (E : XK) : Prop := ∀ (pins : List (Addr × Obj)) (σ : St) (H : Hp) (s : Shared) (e : Value) (s' : Shared), Inv X pins σ H s → CX X.stack H s E e s' → X.xe e s'

section
variable {X : Cx} {CX : CXT} {k : Nat} {f C : Addr} {fd : FuncData} {ps : List Str} {sp : Sp} {dvs : List V} {ds : List Value} {E : XK} {x m : Str} {p pos apos : Pos} {e o : Expr} {es : List Expr} {ta : TE} {t : TA}

/-- the callee runs -/
theorem run_fn {pins : List (Addr × Obj)} {σ : St} {H : Hp} {s : Shared} {Q : VK} {us : List Value} {vs : List V} (F : FnOk X.prog X.w X.K X.mg X.base CX k f fd ps sp) (hr : Room k X.A) (hb : Binds X.K fd ps ds) (hd : Vals dvs ds) (hx : Passes CX X E)
    (I : Inv X pins σ H s) (r : Vals vs us) (h : sp (vs ++ dvs) H Q E) : wpAny (model X.prog X.w) X.A (call (.ref f) us) (EP X pins σ Q) X.xe s := by
  have r2 : Vals (vs ++ dvs) (us ++ ds) := r.append hd
  have hl : (us ++ ds).length = ps.length := by rw [← r2.length]; exact F.len _ _ _ _ h
  refine wpAny_call (codeAny_mono (F.run X.A X.stack s H ⟨us, []⟩ (us ++ ds) (vs ++ dvs) Q E hr I.env0 (hb s us I.kIn hl) r2 h) fun r s' hq => ?_)
  cases r with
  | error e => exact hx pins σ H s e s' I hq
  | ok fl =>
    cases fl with
    | ret u => exact I.after hq
    | next => exact False.elim hq
    | brk => exact False.elim hq
    | cont => exact False.elim hq

theorem pe_call (F : FnOk X.prog X.w X.K X.mg X.base CX k f fd ps sp) (hr : Room k X.A) (hg : Gl X x) (hm : X.mg x = some (.ref f)) (hk : PySem.W.keepIn X.K (.ref f) = true) (hb : Binds X.K fd ps ds) (hd : Vals dvs ds) (hx : Passes CX X E)
    (ha : PA X (e :: es) t) (hdb : (x == ("__debug__" : Str)) = false := by decide) (he : starEach (e :: es) X.env = (false, eval e X.env) :: starEach es X.env := by rfl) (hpl : (backTo pos (starEach es X.env)).any (·.1) = false := by rfl) :
    PE X (.Call (.Name x p) (e :: es) [] pos) (tCall sp dvs E t) := by
  intro pins s σ H Q I h
  refine wpAny_Call_Name_kw (ld_glob I hg hm ?_ hdb)
  refine PySem.W.callWith_K (h₀ := X.base) I.ok.mod.kin hk (thn (ha pos pins s σ H _ I h) fun us s1 ⟨vs, H1, I1, r, q⟩ => ⟨I1.kIn, ?_⟩) he hpl
  exact run_fn F hr hb hd hx I1 r q
theorem pe_call0 (F : FnOk X.prog X.w X.K X.mg X.base CX k f fd ps sp) (hr : Room k X.A) (hg : Gl X x) (hm : X.mg x = some (.ref f)) (hk : PySem.W.keepIn X.K (.ref f) = true) (hb : Binds X.K fd ps ds) (hd : Vals dvs ds) (hx : Passes CX X E)
    (hdb : (x == ("__debug__" : Str)) = false := by decide) : PE X (.Call (.Name x p) [] [] pos) (tCall sp dvs E tNil) := by
  intro pins s σ H Q I h
  refine wpAny_Call_Name_kw (ld_glob I hg hm ?_ hdb)
  exact PySem.W.callWith_K0 I.kIn hk (run_fn (us := []) F hr hb hd hx I .nil h)

/-- o.m(e, ..) -/
theorem pe_meth {pl : Sem Bool} (he : PE X o ta) (c : Cls X.K C) (hm : Meth X.K C m f) (F : FnOk X.prog X.w X.K X.mg X.base CX k f fd ps sp) (hr : Room k X.A) (hb : Binds X.K fd ps ds) (hd : Vals dvs ds) (hx : Passes CX X E) (ha : PA X (e :: es) t)
    (hst : starEach (e :: es) X.env = (false, eval e X.env) :: starEach es X.env := by rfl) (hpl : (backTo pos (starEach es X.env)).any (·.1) = false := by rfl)
    (ht : eval (.Call (.Attribute o m apos) (e :: es) [] pos) X.env = (do
      let ov ← eval o X.env
      standAt apos.atName
      let (f, first) ← holding [ov] (getMethod ov m pl)
      callWith pos f first (backTo pos (starEach (e :: es) X.env)) (backToKw pos (keywordEach [] X.env))) := by rfl) :
    PE X (.Call (.Attribute o m apos) (e :: es) [] pos) (tMeth C m sp dvs E ta t) := by
  intro pins s σ H Q I h
  refine PySem.W.methodCall_KW (pl := pl) (thn (he pins s σ H _ I h) fun u s1 ⟨x, H1, I1, rx, a, dx, fs, ex, ea, l, q⟩ => ?_) ht
  subst ex
  obtain rfl : u = Value.ref a := rx
  refine getmeth_ok I1 ea c hm l ?_
  refine PySem.W.callWith_K (first := [.ref a]) (h₀ := X.base) I.ok.mod.kin hm.kp (thn (ha pos pins s1 σ H1 _ I1 q) fun us s2 ⟨vs, H2, I2, r, q2⟩ => ⟨I2.kIn, ?_⟩) hst hpl
  exact run_fn (us := .ref a :: us) (vs := .ref a :: vs) F hr hb hd hx I2 (.cons rfl r) q2
/-- o.m() -/
theorem pe_meth0 {pl : Sem Bool} (he : PE X o ta) (c : Cls X.K C) (hm : Meth X.K C m f) (F : FnOk X.prog X.w X.K X.mg X.base CX k f fd ps sp) (hr : Room k X.A) (hb : Binds X.K fd ps ds) (hd : Vals dvs ds) (hx : Passes CX X E)
    (ht : eval (.Call (.Attribute o m apos) [] [] pos) X.env = (do
      let ov ← eval o X.env
      standAt apos.atName
      let (f, first) ← holding [ov] (getMethod ov m pl)
      callWith pos f first (backTo pos (starEach [] X.env)) (backToKw pos (keywordEach [] X.env))) := by rfl) :
    PE X (.Call (.Attribute o m apos) [] [] pos) (tMeth C m sp dvs E ta tNil) := by
  intro pins s σ H Q I h
  refine PySem.W.methodCall_KW (pl := pl) (thn (he pins s σ H _ I h) fun u s1 ⟨x, H1, I1, rx, a, dx, fs, ex, ea, l, q⟩ => ?_) ht
  subst ex
  obtain rfl : u = Value.ref a := rx
  refine getmeth_ok I1 ea c hm l ?_
  exact PySem.W.callWith_K0 (first := [.ref a]) I1.kIn hm.kp (run_fn (us := [.ref a]) (vs := [.ref a]) F hr hb hd hx I1 (.cons rfl .nil) q)

/-- what a class must have to be made -/
structure Mk (K : PySem.W.Frag) (C f : Addr) : Prop where
  makes : PySem.W.makesIn K C = true
  init : PySem.W.findIn K (.ref C) "__init__" = some (some (.ref f))
  fn : PySem.W.isFn K (.ref f) = true
  kp : PySem.W.keepIn K (.ref C) = true

theorem run_make {pins : List (Addr × Obj)} {σ : St} {H : Hp} {s : Shared} {Q : VK} {us : List Value} {vs : List V} (M : Mk X.K C f) (F : FnOk X.prog X.w X.K X.mg X.base CX k f fd ps sp) (hr : Room (k + 1) X.A) (hb : Binds X.K fd ps ds) (hd : Vals dvs ds)
    (hx : Passes CX X E) (I : Inv X pins σ H s) (r : Vals vs us)
    (h : ∀ x dx, H x = none → H dx = none → dx ≠ x → sp (.ref x :: (vs ++ dvs)) (upd (upd H dx (.own x)) x (.ins C dx [])) (fun v H2 => v = .non ∧ Q (.ref x) H2) E) :
    wpAny (model X.prog X.w) X.A (call (.ref C) us) (EP X pins σ Q) X.xe s := by
  have hq := h (s.heap.objs.size + 1) s.heap.objs.size (I.hok.fresh (Nat.le_succ _)) (I.hok.fresh (Nat.le_refl _)) (Nat.ne_of_lt (Nat.lt_succ_self _))
  have I2 := Inv.made (C := C) I
  have r2 : Vals (V.ref (s.heap.objs.size + 1) :: (vs ++ dvs)) (Value.ref (s.heap.objs.size + 1) :: (us ++ ds)) := .cons rfl (r.append hd)
  have hl : (Value.ref (s.heap.objs.size + 1) :: us ++ ds).length = ps.length := by
    have e := r2.length
    rw [F.len _ _ _ _ hq] at e
    exact e.symm
  refine wpAny_call (make_map (f := f) I.kIn M.makes M.init (beq_iff_eq.mp M.fn) (codeAny_mono (F.run _ X.stack _ _ ⟨Value.ref (s.heap.objs.size + 1) :: us, []⟩ (Value.ref (s.heap.objs.size + 1) :: (us ++ ds)) _ _ E (hr.make C us [])
    (I2.env0.make C us []) (hb _ (Value.ref (s.heap.objs.size + 1) :: us) I2.kIn hl) r2 hq) fun r s' hq' => ?_))
  cases r with
  | error e => exact hx pins σ _ _ e s' I2 hq'
  | ok fl =>
    cases fl with
    | ret u =>
      obtain ⟨v, H', I3, rv, ev, q3⟩ := I2.after hq'
      subst ev
      exact ⟨rv, ⟨V.ref (s.heap.objs.size + 1), H', I3, rfl, q3⟩⟩
    | next => exact False.elim hq'
    | brk => exact False.elim hq'
    | cont => exact False.elim hq'
theorem pe_make (M : Mk X.K C f) (F : FnOk X.prog X.w X.K X.mg X.base CX k f fd ps sp) (hr : Room (k + 1) X.A) (hg : Gl X x) (hm : X.mg x = some (.ref C)) (hb : Binds X.K fd ps ds) (hd : Vals dvs ds) (hx : Passes CX X E)
    (ha : PA X (e :: es) t) (hdb : (x == ("__debug__" : Str)) = false := by decide) (he : starEach (e :: es) X.env = (false, eval e X.env) :: starEach es X.env := by rfl) (hpl : (backTo pos (starEach es X.env)).any (·.1) = false := by rfl) :
    PE X (.Call (.Name x p) (e :: es) [] pos) (tMake C sp dvs E t) := by
  intro pins s σ H Q I h
  refine wpAny_Call_Name_kw (ld_glob I hg hm ?_ hdb)
  refine PySem.W.callWith_K (h₀ := X.base) I.ok.mod.kin M.kp (thn (ha pos pins s σ H _ I h) fun us s1 ⟨vs, H1, I1, r, q⟩ => ⟨I1.kIn, ?_⟩) he hpl
  exact run_make M F hr hb hd hx I1 r q
theorem pe_make0 (M : Mk X.K C f) (F : FnOk X.prog X.w X.K X.mg X.base CX k f fd ps sp) (hr : Room (k + 1) X.A) (hg : Gl X x) (hm : X.mg x = some (.ref C)) (hb : Binds X.K fd ps ds) (hd : Vals dvs ds) (hx : Passes CX X E)
    (hdb : (x == ("__debug__" : Str)) = false := by decide) : PE X (.Call (.Name x p) [] [] pos) (tMake C sp dvs E tNil) := by
  intro pins s σ H Q I h
  refine wpAny_Call_Name_kw (ld_glob I hg hm ?_ hdb)
  exact PySem.W.callWith_K0 I.kIn M.kp (run_make (us := []) M F hr hb hd hx I .nil h)
end

/-! ### keywords -/
/-- the values of the keywords, from the left -/
def PK (X : Cx) (kws : List Keyword) (t : TA) : Prop :=
  ∀ (pos : Pos) (pins : List (Addr × Obj)) (s : Shared) (σ : St) (H : Hp) (Q : List V → Hp → Prop), Inv X pins σ H s → t σ H Q → wpAny (model X.prog X.w) X.A (evalAll ((backToKw pos (keywordEach kws X.env)).map (·.2))) (AP X pins σ Q) X.xe s
section
variable {X : Cx} {CX : CXT} {k : Nat} {f C : Addr} {fd : FuncData} {ps ks : List Str} {sp : Sp} {E : XK} {x m : Str} {p pos apos kpos : Pos} {e o : Expr} {es : List Expr} {kws : List Keyword} {te ta : TE} {t tk : TA} {nm : Option Str}
theorem pk_nil : PK X [] tNil := fun _ _ _ _ H Q I h => wpAny_evalAll_nil ⟨[], H, I, .nil, h⟩
theorem pk_cons (ha : PE X e te) (hr : PK X kws t) : PK X (⟨nm, e, kpos⟩ :: kws) (tCons te t) := by
  intro pos pins s σ H Q I h
  show wpAny _ _ (evalAll ((do let v ← eval e X.env; standAt pos; pure v) :: (backToKw pos (keywordEach kws X.env)).map (·.2))) _ _ s
  refine wpAny_evalAll_cons (wpAny_bind (thn (ha pins s σ H _ I h) fun u s1 ⟨x, H1, I1, r1, q1⟩ => wpAny_bind (wpAny_standAt (wpAny_pure ?_))))
  exact thn (hr pos pins s1 σ H1 _ I1 q1) fun us s2 ⟨xs, H2, I2, r2, q2⟩ => ⟨x :: xs, H2, I2, .cons r1 r2, q2⟩

/-- how a call with keywords binds: g puts the positional values us and the keywords' values ws (names ks) in the parameters' order, defaults among them -/
structure KBinds (K : PySem.W.Frag) (fd : FuncData) (ps ks : List Str) (g : List Value → List Value → List Value) (gV : List V → List V → List V) : Prop where
  to : ∀ (s : Shared) (us ws : List Value), K.In s.heap → (g us ws).length = ps.length → BindsTo s fd ⟨us, ks.zip ws⟩ (ps.zip (g us ws))
  rel : ∀ {vs : List V} {us : List Value} {zs : List V} {ws : List Value}, Vals vs us → Vals zs ws → Vals (gV vs zs) (g us ws)
def tCallK (sp : Sp) (gV : List V → List V → List V) (E : XK) (t tk : TA) : TE := fun σ H Q => t σ H fun vs H1 => tk σ H1 fun zs H2 => sp (gV vs zs) H2 Q E
variable {g : List Value → List Value → List Value} {gV : List V → List V → List V}
theorem run_fnk {pins : List (Addr × Obj)} {σ : St} {H : Hp} {s : Shared} {Q : VK} {us ws : List Value} {vs zs : List V} (F : FnOk X.prog X.w X.K X.mg X.base CX k f fd ps sp) (hr : Room k X.A) (hb : KBinds X.K fd ps ks g gV) (hx : Passes CX X E)
    (I : Inv X pins σ H s) (r : Vals vs us) (rz : Vals zs ws) (h : sp (gV vs zs) H Q E) : wpAny (model X.prog X.w) X.A (call (.ref f) us (ks.zip ws)) (EP X pins σ Q) X.xe s := by
  have r2 := hb.rel r rz
  have hl : (g us ws).length = ps.length := by rw [← r2.length]; exact F.len _ _ _ _ h
  refine wpAny_call (codeAny_mono (F.run X.A X.stack s H ⟨us, ks.zip ws⟩ (g us ws) (gV vs zs) Q E hr I.env0 (hb.to s us ws I.kIn hl) r2 h) fun r s' hq => ?_)
  cases r with
  | error e => exact hx pins σ H s e s' I hq
  | ok fl =>
    cases fl with
    | ret u => exact I.after hq
    | next => exact False.elim hq
    | brk => exact False.elim hq
    | cont => exact False.elim hq
/-- f(e, .., k = v, ..) -/
theorem pe_callK (F : FnOk X.prog X.w X.K X.mg X.base CX k f fd ps sp) (hr : Room k X.A) (hg : Gl X x) (hm : X.mg x = some (.ref f)) (hk : PySem.W.keepIn X.K (.ref f) = true) (hb : KBinds X.K fd ps ks g gV) (hx : Passes CX X E)
    (ha : PA X (e :: es) t) (hkw : PK X kws tk) (hall : (backToKw pos (keywordEach kws X.env)).all (·.1.isSome) = true := by rfl) (hks : (backToKw pos (keywordEach kws X.env)).filterMap (·.1) = ks := by rfl)
    (hdb : (x == ("__debug__" : Str)) = false := by decide) (he : starEach (e :: es) X.env = (false, eval e X.env) :: starEach es X.env := by rfl)
    (hpl : ((backTo pos (starEach (e :: es) X.env)).any (·.1) || (backToKw pos (keywordEach kws X.env)).any (·.1.isNone)) = false := by rfl) :
    PE X (.Call (.Name x p) (e :: es) kws pos) (tCallK sp gV E t tk) := by
  intro pins s σ H Q I h
  refine wpAny_Call_Name_kw (ld_glob I hg hm ?_ hdb)
  refine PySem.W.callWith_KW (h₀ := X.base) I.ok.mod.kin hk hall (thn (ha pos pins s σ H _ I h) fun us s1 ⟨vs, H1, I1, r, q⟩ => ?_) hpl he
  refine thn (hkw pos pins s1 σ H1 _ I1 q) fun ws s2 ⟨zs, H2, I2, rz, q2⟩ => ⟨I2.kIn, ?_⟩
  rw [hks]
  exact run_fnk F hr hb hx I2 r rz q2
end

/-! ### a def's body keeps its promise -/
/-- names: the parameters first -/
structure FnScope (N P : List Str) (sc : Scope) : Prop where
  kind : sc.kind = .function
  co : sc.isCoroutine = false
  gen : sc.isGenerator = false
  nd : N.Nodup
  pre : N.take P.length = P
  par : ∀ x ∈ P, sc.names.lookup x = some .local ∨ sc.names.lookup x = some .cell
  nofree : ∀ y ∈ sc.names, y.2 ≠ .free

theorem bindL_out {kindOf : Str → Option NameKind} {x : Str} : ∀ {binds : List (Str × Value)} {m : Str → Option Value}, (∀ v, (x, v) ∉ binds) → bindL kindOf binds m x = m x
  | [], _, _ => rfl
  | (n, v) :: r, m, h => by
    unfold bindL
    rw [bindL_out fun w hw => h w (List.mem_cons_of_mem _ hw)]
    split
    · have : x ≠ n := by rintro rfl; exact h v List.mem_cons_self
      simp [this]
    · rfl
theorem bindC_out {kindOf : Str → Option NameKind} {x : Str} : ∀ {binds : List (Str × Value)} {m : Str → Option Value}, (∀ v, (x, v) ∉ binds) → bindC kindOf binds m x = m x
  | [], _, _ => rfl
  | (n, v) :: r, m, h => by
    unfold bindC
    rw [bindC_out fun w hw => h w (List.mem_cons_of_mem _ hw)]
    split
    · rfl
    · have : x ≠ n := by rintro rfl; exact h v List.mem_cons_self
      simp [this]
theorem bindL_get {kindOf : Str → Option NameKind} {x : Str} {v : Value} : ∀ {P : List Str} {vs : List Value} {i : Nat} {m : Str → Option Value}, P.Nodup → P[i]? = some x → vs[i]? = some v → kindOf x = some .local →
    bindL kindOf (P.zip vs) m x = some v
  | [], _, _, _, _, h, _, _ => by simp at h
  | _ :: _, [], _, _, _, _, h, _ => by simp at h
  | p :: P, w :: vs, 0, m, nd, h1, h2, hk => by
    simp at h1 h2; subst h1; subst h2
    show bindL kindOf ((p, w) :: P.zip vs) m p = _
    unfold bindL
    rw [bindL_out fun v hv => (List.nodup_cons.mp nd).1 (List.of_mem_zip hv).1, if_pos hk]
    simp
  | p :: P, w :: vs, i + 1, m, nd, h1, h2, hk => by
    show bindL kindOf ((p, w) :: P.zip vs) m x = _
    unfold bindL
    exact bindL_get (i := i) (List.nodup_cons.mp nd).2 (by simpa using h1) (by simpa using h2) hk
theorem bindC_get {kindOf : Str → Option NameKind} {x : Str} {v : Value} : ∀ {P : List Str} {vs : List Value} {i : Nat} {m : Str → Option Value}, P.Nodup → P[i]? = some x → vs[i]? = some v → kindOf x ≠ some .local →
    bindC kindOf (P.zip vs) m x = some v
  | [], _, _, _, _, h, _, _ => by simp at h
  | _ :: _, [], _, _, _, _, h, _ => by simp at h
  | p :: P, w :: vs, 0, m, nd, h1, h2, hk => by
    simp at h1 h2; subst h1; subst h2
    show bindC kindOf ((p, w) :: P.zip vs) m p = _
    unfold bindC
    rw [bindC_out fun v hv => (List.nodup_cons.mp nd).1 (List.of_mem_zip hv).1, if_neg hk]
    simp
  | p :: P, w :: vs, i + 1, m, nd, h1, h2, hk => by
    show bindC kindOf ((p, w) :: P.zip vs) m x = _
    unfold bindC
    exact bindC_get (i := i) (List.nodup_cons.mp nd).2 (by simpa using h1) (by simpa using h2) hk

/-- the names' values at the entry -/
def start (N : List Str) (vs : List V) : St := vs.map some ++ List.replicate (N.length - vs.length) none

/-- the context of a def's body, at its entry; an exception leaves the frame, then lies as CX says -/
def cxOf (CX : CXT) (P : Program) (w : World) (K : PySem.W.Frag) (mg : Str → Option Value) (base : Heap) (N : List Str) (qual : Str) (scope : Scope) (f : Addr) (cd : Value) (A : Around) (outer : List Env) (s : Shared) (H : Hp) (E : XK) : Cx where
  prog := P
  w := w
  K := K
  mg := mg
  base := base
  A := A.deeper (envOfC qual scope s.heap.objs.size f cd)
  N := N
  s₀ := s
  H₀ := H
  env := envOfC qual scope s.heap.objs.size f cd
  outer := outer
  stack := envOfC qual scope s.heap.objs.size f cd :: outer
  ex := []
  calm := true
  fn := fun _ => true
  pn := []
  xe := fun e s' => wpAny (model P w) (A.deeper (envOfC qual scope s.heap.objs.size f cd)) (leaving (envOfC qual scope s.heap.objs.size f cd) e) (fun _ s'' => CX outer H s E e s'') (fun e' s'' => CX outer H s E e' s'') s'

theorem cell_has {sc : Scope} {n : Nat} {x : Str} (h : sc.names.lookup x = some .cell) : ∃ c, (cellsFrom n sc.names []).lookup x = some c := by
  have q := PySem.W.cellsFrom_some sc.names n [] (.inl h)
  exact Option.isSome_iff_exists.mp q

theorem inv_start {CX : CXT} {P : Program} {w : World} {K : PySem.W.Frag} {mg : Str → Option Value} {base : Heap} {N ps : List Str} {qual : Str} {scope : Scope} {f : Addr} {cd : Value} {A : Around} {outer : List Env} {s s1 : Shared} {H : Hp} {E : XK} {us : List Value} {vs : List V}
    (S : FnScope N ps scope) (hd : A.handled = none) (e0 : Env0 P w K mg base A outer s H) (hl : vs.length = ps.length) (r : Vals vs us)
    (x : InCallC s s.heap.objs.size (bindL (envOfC qual scope s.heap.objs.size f cd).kindOf (ps.zip us) fun _ => none) (cellsFrom (s.heap.objs.size + 1) scope.names []) (bindC (envOfC qual scope s.heap.objs.size f cd).kindOf (ps.zip us) fun _ => none) s1) :
    Inv (cxOf CX P w K mg base N qual scope f cd A outer s H E) [] (start N vs) H s1 := by
  have hpl : ps.length ≤ N.length := by have := congrArg List.length S.pre; rw [List.length_take] at this; omega
  obtain ⟨h1, tk, rfl, hk⟩ := x.done
  have noA : ∀ b : Addr, b ∉ (cxOf CX P w K mg base N qual scope f cd A outer s H E).ex := fun b z => absurd (show b ∈ ([] : List Addr) from z) (by simp)
  refine ⟨⟨e0.mod, S.kind, rfl, rfl, Nat.le_refl _, fun y z c h1 h2 => ?_, fun y hy => ?_, fun y c _ h => ?_, fun _ => hd, Around.frames_deeper e0.frames, .inr ⟨rfl, rfl⟩, fun b z => absurd z (noA b), e0.bs, e0.bsz, fun b _ _ => noA b, fun b z => absurd z (noA b), e0.funs, e0.frf⟩,
    rfl, e0.bare, Un.kept hk, ⟨_, x.toInCall.ns, fun i y v h1 h2 h3 => ?_⟩, fun y c h => ⟨_, x.cell y c h⟩, e0.hok.fresh (Nat.le_refl _), fun y c h => ?_, fun p hp => absurd (show p ∈ ([] : List (Addr × Obj)) from hp) (by simp), e0.hok.kept hk, ?_⟩
  · exact name_of_addr x.apart (PySem.mem_of_lookup h1) (PySem.mem_of_lookup h2)
  · have hy : scope.names.lookup y = some .cell ∨ scope.names.lookup y = some .free := hy
    rcases hy with hy | hy
    · exact cell_has hy
    · exact absurd rfl (S.nofree _ (PySem.mem_of_lookup hy))
  · exact Nat.le_of_lt (x.above y c (PySem.mem_of_lookup h))
  · have hi : i < vs.length := by
      unfold start at h2
      by_cases hi : i < vs.length
      · exact hi
      · rw [List.getElem?_append_right (by simpa using hi)] at h2
        rw [List.getElem?_replicate] at h2
        split at h2 <;> cases h2
    have ha : vs[i]? = some v := by
      unfold start at h2
      rw [List.getElem?_append_left (by simpa using hi), List.getElem?_map] at h2
      cases e : vs[i]? with
      | none => rw [e] at h2; cases h2
      | some a => rw [e] at h2; cases h2; rfl
    obtain ⟨u, hu, rv⟩ := r.get ha
    have hp : ps[i]? = some y := by
      rw [← S.pre, List.getElem?_take_of_lt (by omega)]; exact h1
    have ndP : ps.Nodup := by rw [← S.pre]; exact S.nd.sublist (List.take_sublist _ _)
    refine ⟨u, rv, ?_⟩
    rcases S.par y (List.mem_of_getElem? hp) with k | k
    · exact .inl ⟨k, bindL_get ndP hp hu k⟩
    · obtain ⟨c, e⟩ := cell_has (n := s.heap.objs.size + 1) k
      refine .inr ⟨.inl k, c, e, ?_⟩
      have q := x.cell y c e
      rw [bindC_get ndP hp hu (by show scope.names.lookup y ≠ _; rw [k]; decide)] at q
      exact q
  · exact e0.hok.fresh (Nat.le_of_lt (x.above y c (PySem.mem_of_lookup h)))
  · unfold start
    show _ = N.length
    rw [List.length_append, List.length_map, List.length_replicate]
    omega

/-- THE RULE: a def (or a method) of the text, by its body. The body's reading t is chosen for each entry; it is run at the parameters' values -/
theorem fn_of {CX : CXT} {P : Program} {w : World} {K : PySem.W.Frag} {mg : Str → Option Value} {base : Heap} {k : Nat} {f : Addr} {name qual : Str} {params : Arguments} {body : List Stmt} {scope : Scope} {dV kV doc pm cdv ct oc : Value} {an od : Option Addr}
    {osl : Array (Option Value)} {N ps : List Str} {sp : Sp} (lk : K.lookup f = some ⟨oc, od, .func (PySem.W.fnOf name qual params body scope dV kV doc pm an cdv ct), osl⟩) (hcd : PySem.W.codeIn K cdv qual = true) (S : FnScope N ps scope)
    (len : ∀ vs H Q E, sp vs H Q E → vs.length = ps.length)
    (hbody : ∀ (A : Around) (outer : List Env) (s : Shared) (H : Hp) (vs : List V) (Q : VK) (E : XK), Room k (A.deeper (envOfC qual scope s.heap.objs.size f cdv)) → sp vs H Q E →
      ∃ t, PSs (cxOf CX P w K mg base N qual scope f cdv A outer s H E) body t ∧ t { nx := fun _ H' => Q .non H', rt := Q } (start N vs) H) :
    FnOk P w K mg base CX (k + 1) f (PySem.W.fnOf name qual params body scope dV kV doc pm an cdv ct) ps sp := by
  refine ⟨len, fun A outer s H args us vs Q E hr e0 hb r hsp => ?_⟩
  have hl := len _ _ _ _ hsp
  have KX : K.In s.heap := e0.mod.kin.keeps fun b o e => (e0.bs b o e).1
  have lim : s.heap.NoLimit := e0.mod.nolimit.keeps fun b o e => (e0.bs b o e).1
  have hkind : ∀ y ∈ ps.zip us, scope.names.lookup y.1 = some .local ∨ (scope.names.lookup y.1 = some .cell ∧ ((cellsFrom (s.heap.objs.size + 1) scope.names []).lookup y.1).isSome = true) := fun ⟨n, v⟩ hy => by
    rcases S.par n (List.of_mem_zip hy).1 with q | q
    · exact .inl q
    · exact .inr ⟨q, PySem.W.cellsFrom_some _ _ _ (.inl q)⟩
  refine codeAny_call_function hr.depth (KX _ _ lk) rfl S.co S.gen rfl (PySem.W.codeRec_of KX hcd) (hb _ _ _ _ ?_)
  refine wpAny_newFunctionEnv_cells S.kind hkind fun env he s1 x => ?_
  subst he
  refine ⟨lim.keeps x.toInCall.keep, codeAny_func ?_⟩
  obtain ⟨t, ht, hq⟩ := hbody A outer s H vs Q E (hr.deeper _) hsp
  have I : Inv (cxOf CX P w K mg base N qual scope f cdv A outer s H E) [] (start N vs) H s1 := inv_start S hr.hd e0 hl r x
  refine wpAny_mono (ht [] s1 (start N vs) H _ I hq) (fun fl s' hs => ?_) fun e s' hs => hs
  have fin : ∀ {σ' : St} {H' : Hp} {v : V} {u : Value}, Inv (cxOf CX P w K mg base N qual scope f cdv A outer s H E) [] σ' H' s' → RelV v u → Q v H' → CE outer P w H s Q u s' :=
    fun {σ' H' v u} J rv q => ⟨v, H', J.os, J.bare, J.base, J.hok, rv, q⟩
  cases fl with
  | ret u =>
    obtain ⟨v, σ', H', J, rv, q⟩ := hs
    exact fin J rv q
  | next =>
    obtain ⟨σ', H', J, q⟩ := hs
    exact fin (v := V.non) (u := Value.none) J rfl q
  | brk =>
    obtain ⟨_, _, _, q⟩ := hs
    exact False.elim q
  | cont =>
    obtain ⟨_, _, _, q⟩ := hs
    exact False.elim q
end L2

namespace L2
open PySem PySem.Spec PyProof.Rows
section
variable {X : Cx} {x : Str} {p pos : Pos} {e : Expr} {es : List Expr} {t : TA} {id T : String} {r : List V → Hp → VK → Prop}

def tCB (r : List V → Hp → VK → Prop) (t : TA) : TE := fun σ H Q => t σ H fun vs H1 => r vs H1 Q
/-- f(e, ..), f a built-in function -/
theorem pe_callB (hc : CallR X (.builtin id) r) (hg : Gl X x) (hm : X.mg x = none) (hv : bootBuiltins x = some (.builtin id)) (ha : PA X (e :: es) t) (hn : x ≠ "__name__" := by decide) (hdb : (x == ("__debug__" : Str)) = false := by decide)
    (he : starEach (e :: es) X.env = (false, eval e X.env) :: starEach es X.env := by rfl) (hpl : (backTo pos (starEach es X.env)).any (·.1) = false := by rfl) : PE X (.Call (.Name x p) (e :: es) [] pos) (tCB r t) := by
  intro pins s σ H Q I h
  refine wpAny_Call_Name_kw (ld_blt I hg hm hv ?_ hn hdb)
  exact PyProof.Rows.callWith_builtin1 (thn (ha pos pins s σ H _ I h) fun us s1 ⟨vs, H1, I1, r1, q1⟩ => hc pins s1 σ H1 vs us Q I1 r1 q1) he hpl
/-- T(e, ..), T a built-in type -/
theorem pe_callTy (hc : CallR X (.type T) r) (hg : Gl X x) (hm : X.mg x = none) (hv : bootBuiltins x = some (.type T)) (ha : PA X (e :: es) t) (hn : x ≠ "__name__" := by decide) (hdb : (x == ("__debug__" : Str)) = false := by decide)
    (he : starEach (e :: es) X.env = (false, eval e X.env) :: starEach es X.env := by rfl) (hpl : (backTo pos (starEach es X.env)).any (·.1) = false := by rfl) : PE X (.Call (.Name x p) (e :: es) [] pos) (tCB r t) := by
  intro pins s σ H Q I h
  refine wpAny_Call_Name_kw (ld_blt I hg hm hv ?_ hn hdb)
  exact PyProof.Rows.callWith_type1 (thn (ha pos pins s σ H _ I h) fun us s1 ⟨vs, H1, I1, r1, q1⟩ => hc pins s1 σ H1 vs us Q I1 r1 q1) he hpl
/-- T() -/
theorem pe_callTy0 (hc : CallR X (.type T) r) (hg : Gl X x) (hm : X.mg x = none) (hv : bootBuiltins x = some (.type T)) (hn : x ≠ "__name__" := by decide) (hdb : (x == ("__debug__" : Str)) = false := by decide) :
    PE X (.Call (.Name x p) [] [] pos) (tCB r tNil) := by
  intro pins s σ H Q I h
  refine wpAny_Call_Name_kw (ld_blt I hg hm hv ?_ hn hdb)
  exact PyProof.Rows.callWith_type0 (hc pins s σ H [] [] Q I .nil h)
end
end L2

namespace L2
open PySem PySem.Spec PyProof.Rows

/-! ### lists of pairs as tables -/
section
variable {κ : Type} [DecidableEq κ]
def valV (kvs : List (κ × V)) (k : κ) : Option V := (kvs.find? fun kv => decide (kv.1 = k)).map (·.2)
/-- in its place, or at the end -/
def putK (kvs : List (κ × V)) (k : κ) (v : V) : List (κ × V) :=
  if (kvs.any fun kv => decide (kv.1 = k)) = true then kvs.map (fun kv => if kv.1 = k then (kv.1, v) else kv) else kvs ++ [(k, v)]
def dropK (kvs : List (κ × V)) (k : κ) : List (κ × V) := kvs.filter fun kv => decide (kv.1 ≠ k)

theorem valV_nil {k : κ} : valV ([] : List (κ × V)) k = none := rfl
theorem valV_pos {p : κ × V} {r : List (κ × V)} {k : κ} (e : p.1 = k) : valV (p :: r) k = some p.2 := by simp [valV, List.find?_cons, e]
theorem valV_neg {p : κ × V} {r : List (κ × V)} {k : κ} (e : ¬ p.1 = k) : valV (p :: r) k = valV r k := by simp [valV, List.find?_cons, e]
theorem valV_any (k : κ) : ∀ kvs : List (κ × V), (kvs.any fun kv => decide (kv.1 = k)) = (valV kvs k).isSome
  | [] => rfl
  | p :: r => by
    rw [List.any_cons]
    by_cases e : p.1 = k
    · simp only [valV_pos e, decide_eq_true e, Bool.true_or, Option.isSome_some]
    · rw [valV_neg e, decide_eq_false e, Bool.false_or]; exact valV_any k r
theorem valV_map (k j : κ) (y : V) : ∀ kvs : List (κ × V), valV (kvs.map fun kv => if kv.1 = k then (kv.1, y) else kv) j = (valV kvs j).map fun x => if j = k then y else x
  | [] => rfl
  | p :: r => by
    have ih := valV_map k j y r
    rw [List.map_cons]
    by_cases h : p.1 = k
    · rw [if_pos h]
      by_cases e : p.1 = j
      · rw [valV_pos (p := (p.1, y)) e, valV_pos e, Option.map_some, if_pos (e.symm.trans h)]
      · rw [valV_neg (p := (p.1, y)) e, valV_neg e, ih]
    · rw [if_neg h]
      by_cases e : p.1 = j
      · rw [valV_pos (p := p) e, valV_pos e, Option.map_some, if_neg (fun z => h (e.trans z))]
      · rw [valV_neg (p := p) e, valV_neg e, ih]
theorem valV_snoc (k j : κ) (y : V) : ∀ kvs : List (κ × V), valV kvs k = none → valV (kvs ++ [(k, y)]) j = if j = k then some y else valV kvs j
  | [], _ => by
    by_cases e : k = j
    · rw [if_pos e.symm]; exact valV_pos (p := (k, y)) e
    · rw [if_neg (fun z => e z.symm)]; exact valV_neg (p := (k, y)) e
  | p :: r, hn => by
    rw [List.cons_append]
    have hk : ¬ p.1 = k := fun z => by rw [valV_pos z] at hn; cases hn
    rw [valV_neg hk] at hn
    have ih := valV_snoc k j y r hn
    by_cases e : p.1 = j
    · rw [valV_pos e, valV_pos e, if_neg (fun z => hk (e.trans z))]
    · rw [valV_neg e, valV_neg e, ih]
theorem valV_put (kvs : List (κ × V)) (k j : κ) (y : V) : valV (putK kvs k y) j = if j = k then some y else valV kvs j := by
  unfold putK
  by_cases a : (kvs.any fun kv => decide (kv.1 = k)) = true
  · rw [if_pos a, valV_map]
    rw [valV_any] at a
    by_cases e : j = k
    · obtain ⟨x, hx⟩ := Option.isSome_iff_exists.mp a
      rw [if_pos e, e, hx, Option.map_some, if_pos rfl]
    · rw [if_neg e]
      cases valV kvs j with
      | none => rfl
      | some x => rw [Option.map_some, if_neg e]
  · rw [if_neg a]
    refine valV_snoc k j y kvs ?_
    rw [valV_any] at a
    cases q : valV kvs k with
    | none => rfl
    | some x => rw [q] at a; exact (a rfl).elim
theorem length_putK (kvs : List (κ × V)) (k : κ) (v : V) : (putK kvs k v).length ≤ kvs.length + 1 := by
  unfold putK
  split
  · rw [List.length_map]; omega
  · rw [List.length_append, List.length_cons, List.length_nil]; omega
theorem putK_new {kvs : List (κ × V)} {k : κ} (v : V) (h : valV kvs k = none) : putK kvs k v = kvs ++ [(k, v)] := by
  unfold putK
  rw [valV_any, h]
  exact if_neg (by decide)

theorem RelO.isSome_eq {o : Option V} {u : Option Value} (r : RelO o u) : o.isSome = u.isSome := by
  cases o with
  | none => cases u with
    | none => rfl
    | some _ => exact (show False from r).elim
  | some _ => cases u with
    | none => exact (show False from r).elim
    | some _ => rfl
theorem RelO.getD {o : Option V} {u : Option Value} {d : V} {d' : Value} (r : RelO o u) (rd : RelV d d') : RelV (o.getD d) (u.getD d') := by
  cases o with
  | none => cases u with
    | none => exact rd
    | some _ => exact (show False from r).elim
  | some _ => cases u with
    | none => exact (show False from r).elim
    | some _ => exact r

/-- raw tables of the same keys -/
theorem KV.val {kvs : List (κ × V)} {vs : List (κ × Value)} (r : KV kvs vs) (k : κ) : RelO (valV kvs k) (valueAt vs k) := by
  unfold KV at r
  induction r with
  | nil => exact True.intro
  | @cons p q ps qs h t ih =>
    obtain ⟨h1, h2⟩ := h
    by_cases e : p.1 = k
    · have e' : q.1 = k := h1.symm.trans e
      have b : valueAt (q :: qs) k = some q.2 := by simp [valueAt, List.find?_cons, e']
      rw [valV_pos e, b]; exact h2
    · have e' : ¬ q.1 = k := fun z => e (h1.trans z)
      have b : valueAt (q :: qs) k = valueAt qs k := by simp [valueAt, List.find?_cons, e']
      rw [valV_neg e, b]; exact ih
theorem KV.any {kvs : List (κ × V)} {vs : List (κ × Value)} (r : KV kvs vs) (k : κ) : (kvs.any fun kv => decide (kv.1 = k)) = vs.any fun kv => decide (kv.1 = k) := by
  unfold KV at r
  induction r with
  | nil => rfl
  | cons h t ih => rw [List.any_cons, List.any_cons, ih, h.1]
theorem KV.repl {kvs : List (κ × V)} {vs : List (κ × Value)} (r : KV kvs vs) (k : κ) {y : V} {u : Value} (ry : RelV y u) :
    KV (kvs.map fun kv => if kv.1 = k then (kv.1, y) else kv) (vs.map fun kv => if kv.1 = k then (kv.1, u) else kv) := by
  unfold KV at r ⊢
  induction r with
  | nil => exact .nil
  | @cons p q ps qs h t ih =>
    rw [List.map_cons, List.map_cons]
    refine .cons ?_ ih
    obtain ⟨h1, h2⟩ := h
    by_cases e : p.1 = k
    · rw [if_pos e, if_pos (h1.symm.trans e)]; exact ⟨h1, ry⟩
    · rw [if_neg e, if_neg (fun z => e (h1.trans z))]; exact ⟨h1, h2⟩
theorem KV.put {kvs : List (κ × V)} {vs : List (κ × Value)} (r : KV kvs vs) (k : κ) {y : V} {u : Value} (ry : RelV y u) : KV (putK kvs k y) (stored vs k u) := by
  unfold putK stored
  rw [r.any k]
  by_cases e : (vs.any fun kv => decide (kv.1 = k)) = true
  · rw [if_pos e, if_pos e]; exact r.repl k ry
  · rw [if_neg e, if_neg e]; exact Paired.snoc r ⟨rfl, ry⟩
theorem KV.drop {kvs : List (κ × V)} {vs : List (κ × Value)} (r : KV kvs vs) (k : κ) : KV (dropK kvs k) (without vs k) := by
  unfold KV at r ⊢
  unfold dropK without
  induction r with
  | nil => exact .nil
  | @cons p q ps qs h t ih =>
    obtain ⟨h1, h2⟩ := h
    rw [List.filter_cons, List.filter_cons]
    by_cases e : p.1 = k
    · have a : ¬ decide (p.1 ≠ k) = true := by simp [e]
      have b : ¬ decide (q.1 ≠ k) = true := by simp [h1.symm.trans e]
      rw [if_neg a, if_neg b]; exact ih
    · have e' : ¬ q.1 = k := fun z => e (h1.trans z)
      have a : decide (p.1 ≠ k) = true := by simp [e]
      have b : decide (q.1 ≠ k) = true := by simp [e']
      rw [if_pos a, if_pos b]; exact .cons ⟨h1, h2⟩ ih
theorem KV.keys {kvs : List (κ × V)} {vs : List (κ × Value)} (r : KV kvs vs) : kvs.map (·.1) = vs.map (·.1) := by
  unfold KV at r
  induction r with
  | nil => rfl
  | cons h t ih => rw [List.map_cons, List.map_cons, ih, h.1]
theorem KV.length {kvs : List (κ × V)} {vs : List (κ × Value)} (r : KV kvs vs) : kvs.length = vs.length := Paired.length r
theorem dropK_le (kvs : List (κ × V)) (k : κ) : (dropK kvs k).length ≤ kvs.length := List.length_filter_le _ _
end


/-! ### a tracked dict, its keys ints and texts or tuples of these -/
theorem kV_is {P : Program} {w : World} {k : Key} {u : Value} (r : RelV (kV k) u) : (mixKind P w).is k u = true := by
  cases k with
  | inl i => obtain ⟨t, e⟩ := (show ∃ t, u = Value.int i t from r); subst e; exact mixKind_int P w i t
  | inr x => obtain ⟨t, e⟩ := (show ∃ t, u = Value.str x t from r); subst e; exact mixKind_str P w x t
theorem kV_inj {a b : Key} (e : kV a = kV b) : a = b := by
  cases a with
  | inl i => cases b with
    | inl j => have e' : V.int i = V.int j := e; injection e' with e'; rw [e']
    | inr y => exact nomatch (show V.int i = V.str y from e)
  | inr x => cases b with
    | inl j => exact nomatch (show V.str x = V.int j from e)
    | inr y => have e' : V.str x = V.str y := e; injection e' with e'; rw [e']
theorem kVs_inj : ∀ {a b : List Key}, a.map kV = b.map kV → a = b
  | [], [], _ => rfl
  | [], _ :: _, e => by simp at e
  | _ :: _, [], e => by simp at e
  | x :: xs, y :: ys, e => by
    rw [List.map_cons, List.map_cons] at e
    injection e with e1 e2
    rw [kV_inj e1, kVs_inj e2]
theorem items_are {P : Program} {w : World} : ∀ {ks : List Key} {us : List Value}, Vals (ks.map kV) us → ItemsAre (mixKind P w) ks us
  | [], _, r => by rw [List.map_nil] at r; cases r; exact .nil
  | k :: ks, _, r => by
    rw [List.map_cons] at r
    cases r with
    | cons h t => exact .cons (kV_is h) (items_are t)

/-- raw entries of a dict with tuple keys -/
abbrev KT (H : Hp) : List (List Key × V) → List (List Key × Addr × Value) → Prop := Paired fun p q => p.1 = q.1 ∧ H q.2.1 = some (.tup (p.1.map kV)) ∧ RelV p.2 q.2.2
theorem KT.val {H : Hp} {kvs : List (List Key × V)} {xs : List (List Key × Addr × Value)} (r : KT H kvs xs) (k : List Key) : RelO (valV kvs k) ((atKey xs k).map (·.2)) := by
  induction r with
  | nil => exact True.intro
  | @cons p q ps qs h t ih =>
    obtain ⟨h1, _, h2⟩ := h
    by_cases e : p.1 = k
    · have e' : q.1 = k := h1.symm.trans e
      have b : atKey (q :: qs) k = some q.2 := by simp [atKey, List.find?_cons, e']
      rw [valV_pos e, b]; exact h2
    · have e' : ¬ q.1 = k := fun z => e (h1.trans z)
      have b : atKey (q :: qs) k = atKey qs k := by simp [atKey, List.find?_cons, e']
      rw [valV_neg e, b]; exact ih
theorem KT.repl {H : Hp} {kvs : List (List Key × V)} {xs : List (List Key × Addr × Value)} (r : KT H kvs xs) (k : List Key) {y : V} {u : Value} (ry : RelV y u) :
    KT H (kvs.map fun kv => if kv.1 = k then (kv.1, y) else kv) (xs.map (putAt k u)) := by
  induction r with
  | nil => exact .nil
  | @cons p q ps qs h t ih =>
    rw [List.map_cons, List.map_cons]
    refine .cons ?_ ih
    obtain ⟨h1, h2, h3⟩ := h
    unfold putAt
    by_cases e : p.1 = k
    · rw [if_pos e, if_pos (h1.symm.trans e)]; exact ⟨h1, h2, ry⟩
    · rw [if_neg e, if_neg (fun z => e (h1.trans z))]; exact ⟨h1, h2, h3⟩
theorem KT.put {H : Hp} {kvs : List (List Key × V)} {xs : List (List Key × Addr × Value)} (r : KT H kvs xs) (k : List Key) {b : Addr} {y : V} {u : Value} (hb : H b = some (.tup (k.map kV))) (ry : RelV y u) :
    KT H (putK kvs k y) (storedH xs k b u) := by
  have e : (kvs.any fun kv => decide (kv.1 = k)) = (atKey xs k).isSome := by
    rw [valV_any, (r.val k).isSome_eq, Option.isSome_map]
  unfold putK storedH
  rw [e]
  by_cases q : (atKey xs k).isSome = true
  · rw [if_pos q, if_pos q]; exact r.repl k ry
  · rw [if_neg q, if_neg q]; exact Paired.snoc r ⟨rfl, hb, ry⟩
theorem KT.keeps {H H' : Hp} {kvs : List (List Key × V)} {xs : List (List Key × Addr × Value)} (r : KT H kvs xs) (ht : ∀ b ys, H b = some (.tup ys) → H' b = some (.tup ys)) : KT H' kvs xs :=
  Paired.mapP r fun _ _ z => ⟨z.1, ht _ _ z.2.1, z.2.2⟩

section
variable {P : Program} {w : World} {H : Hp} {h : Heap} {a : Addr}
theorem rd_of {u : HO} (ok : HOk P w H h) (e : Rd H a u) : ObjOk P w H h a u := e.ok ok
theorem dk_rd {kvs : List (Key × V)} (ok : HOk P w H h) (e : Rd H a (.dK kvs)) : kvs.length ≤ sizeLine ∧ (a == sysModules) = false ∧ ∃ vs, KV kvs vs ∧ h.DictOf (mixKind P w) a vs :=
  show ObjOk P w H h a (.dK kvs) from rd_of ok e
theorem dk_of {kvs : List (Key × V)} (ok : HOk P w H h) (e : H a = some (.dK kvs)) : kvs.length ≤ sizeLine ∧ (a == sysModules) = false ∧ ∃ vs, KV kvs vs ∧ h.DictOf (mixKind P w) a vs := dk_rd ok (.inl e)
/-- a tracked tuple of ints and texts is a key -/
theorem key_of {ks : List Key} (ok : HOk P w H h) (e : H a = some (.tup (ks.map kV))) : (tupleKind (mixKind P w)).is h ks a := by
  obtain ⟨_, its, r, o, h1, h2, n, h3⟩ := (show ObjOk P w H h a (.tup (ks.map kV)) from ok a _ e)
  exact ⟨o, its.toArray, n, h1, h2, h3, by simpa using items_are r⟩
theorem dt_rd {kvs : List (List Key × V)} (ok : HOk P w H h) (e : Rd H a (.dT kvs)) : kvs.length ≤ sizeLine ∧ (a == sysModules) = false ∧
    ∃ xs, KT H kvs xs ∧ h.DictOfH (tupleKind (mixKind P w)) a xs := by
  obtain ⟨z, y, xs, r, o, es, ep, h1, h2, h3, h4, h5⟩ := (show ObjOk P w H h a (.dT kvs) from rd_of ok e)
  refine ⟨z, y, xs, r, o, es, ep, h1, h2, h3, h4, fun x hx => ?_, h5⟩
  have all : ∀ {l : List (List Key × V)} {m : List (List Key × Addr × Value)}, KT H l m → ∀ x ∈ m, (tupleKind (mixKind P w)).is h x.1 x.2.1 := by
    intro l m q
    induction q with
    | nil => intro x hx; exact nomatch hx
    | @cons p q ps qs hq t ih =>
      intro x hx
      rcases List.mem_cons.mp hx with e | hx
      · subst e
        exact key_of ok (by rw [← hq.1]; exact hq.2.1)
      · exact ih x hx
  exact all r x hx
theorem dt_of {kvs : List (List Key × V)} (ok : HOk P w H h) (e : H a = some (.dT kvs)) : kvs.length ≤ sizeLine ∧ (a == sysModules) = false ∧
    ∃ xs, KT H kvs xs ∧ h.DictOfH (tupleKind (mixKind P w)) a xs := dt_rd ok (.inl e)
end

/-- what the dict at a holds at the key y -/
def DGet (H : Hp) (a : Addr) (y : V) (r : Option V) : Prop :=
  (∃ kvs k, Rd H a (.dK kvs) ∧ y = kV k ∧ r = valV kvs k) ∨ ∃ kvs k b, Rd H a (.dT kvs) ∧ y = .ref b ∧ H b = some (.tup (k.map kV)) ∧ r = valV kvs k
/-- the heap behind a[y] = v -/
def DPut (H : Hp) (a : Addr) (y v : V) (H' : Hp) : Prop :=
  (∃ kvs k, H a = some (.dK kvs) ∧ y = kV k ∧ kvs.length < sizeLine ∧ H' = upd H a (.dK (putK kvs k v))) ∨
  ∃ kvs k b, H a = some (.dT kvs) ∧ y = .ref b ∧ H b = some (.tup (k.map kV)) ∧ kvs.length < sizeLine ∧ H' = upd H a (.dT (putK kvs k v))
theorem DGet.k {H : Hp} {a : Addr} {kvs : List (Key × V)} {k : Key} (e : H a = some (.dK kvs)) : DGet H a (kV k) (valV kvs k) := .inl ⟨kvs, k, .inl e, rfl, rfl⟩
theorem DGet.t {H : Hp} {a b : Addr} {kvs : List (List Key × V)} {k : List Key} (e : H a = some (.dT kvs)) (eb : H b = some (.tup (k.map kV))) : DGet H a (.ref b) (valV kvs k) := .inr ⟨kvs, k, b, .inl e, rfl, eb, rfl⟩
theorem DPut.k {H : Hp} {a : Addr} {kvs : List (Key × V)} {k : Key} {v : V} (e : H a = some (.dK kvs)) (hl : kvs.length < sizeLine) : DPut H a (kV k) v (upd H a (.dK (putK kvs k v))) := .inl ⟨kvs, k, e, rfl, hl, rfl⟩
theorem DPut.t {H : Hp} {a b : Addr} {kvs : List (List Key × V)} {k : List Key} {v : V} (e : H a = some (.dT kvs)) (eb : H b = some (.tup (k.map kV))) (hl : kvs.length < sizeLine) :
    DPut H a (.ref b) v (upd H a (.dT (putK kvs k v))) := .inr ⟨kvs, k, b, e, rfl, eb, hl, rfl⟩


section
variable {X : Cx} {pins : List (Addr × Obj)} {σ : St} {H : Hp} {s : Shared} {a : Addr} {y v : V} {u r : Value} {o : Option V} {A : Around} {E : Value → Shared → Prop}

theorem Inv.big (I : Inv X pins σ H s) : sysModules < s.heap.objs.size := by
  have h : mainGlobals < s.heap.objs.size := (I.mod.glob.keeps I.bk).lt
  exact Nat.lt_trans (by decide) h

/-- d[y], there -/
theorem d_getItem {Q : Value → Shared → Prop} (hu : A.units + 1 < cLine) (I : Inv X pins σ H s) (g : DGet H a y (some v)) (ry : RelV y u) (h : ∀ w' s', Inv X pins σ H s' → RelV v w' → Q w' s') :
    wpAny (model X.prog X.w) A (getItem (.ref a) u) Q E s := by
  rcases g with ⟨kvs, k, e, ey, l⟩ | ⟨kvs, k, b, e, ey, eb, l⟩
  · subst ey
    obtain ⟨z, hd, vs, rel, dd⟩ := dk_rd I.hok e
    obtain ⟨w', hw, rw'⟩ := RelO.some_of (v := v) (o := valueAt vs k) (by rw [l]; exact rel.val k)
    exact wpAny_getItem_of (kV_is ry) dd.mapOf hw (h w' _ (I.tok _) rw')
  · subst ey
    cases (show u = Value.ref b from ry)
    obtain ⟨z, hd, xs, rel, dd⟩ := dt_rd I.hok e
    obtain ⟨w', hw, rw'⟩ := RelO.some_of (v := v) (o := (atKey xs k).map (·.2)) (by rw [l]; exact rel.val k)
    obtain ⟨p, hp, hp2⟩ := Option.map_eq_some_iff.mp hw
    refine wpAny_getItem_heap (tupleKind_room_in1 hu) (key_of I.hok eb) dd hp ?_
    rw [hp2]
    exact h w' _ (I.tok _) rw'
/-- y in d -/
theorem d_in {Q : Value → Shared → Prop} (hu : A.units + 1 < cLine) (I : Inv X pins σ H s) (g : DGet H a y o) (ry : RelV y u) (h : ∀ s', Inv X pins σ H s' → Q (.bool o.isSome) s') :
    wpAny (model X.prog X.w) A (compareOp .In u (.ref a)) Q E s := by
  rcases g with ⟨kvs, k, e, ey, l⟩ | ⟨kvs, k, b, e, ey, eb, l⟩
  · subst ey
    obtain ⟨z, hd, vs, rel, dd⟩ := dk_rd I.hok e
    refine wpAny_in_of (kV_is ry) hd dd.mapOf ?_
    rw [← (rel.val k).isSome_eq, ← l]
    exact h _ (I.tok _)
  · subst ey
    cases (show u = Value.ref b from ry)
    obtain ⟨z, hd, xs, rel, dd⟩ := dt_rd I.hok e
    refine wpAny_in_heap (tupleKind_room_in1 hu) (key_of I.hok eb) hd dd ?_
    have q := (rel.val k).isSome_eq
    rw [Option.isSome_map] at q
    rw [← q, ← l]
    exact h _ (I.tok _)
theorem d_notIn {Q : Value → Shared → Prop} (hu : A.units + 1 < cLine) (I : Inv X pins σ H s) (g : DGet H a y o) (ry : RelV y u) (h : ∀ s', Inv X pins σ H s' → Q (.bool (!o.isSome)) s') :
    wpAny (model X.prog X.w) A (compareOp .NotIn u (.ref a)) Q E s := by
  rcases g with ⟨kvs, k, e, ey, l⟩ | ⟨kvs, k, b, e, ey, eb, l⟩
  · subst ey
    obtain ⟨z, hd, vs, rel, dd⟩ := dk_rd I.hok e
    refine wpAny_notIn_of (kV_is ry) hd dd.mapOf ?_
    rw [← (rel.val k).isSome_eq, ← l]
    exact h _ (I.tok _)
  · subst ey
    cases (show u = Value.ref b from ry)
    obtain ⟨z, hd, xs, rel, dd⟩ := dt_rd I.hok e
    refine wpAny_notIn_heap (tupleKind_room_in1 hu) (key_of I.hok eb) hd dd ?_
    have q := (rel.val k).isSome_eq
    rw [Option.isSome_map] at q
    rw [← q, ← l]
    exact h _ (I.tok _)
/-- a dict's object is replaced -/
theorem d_write {h' : Heap} {t' : Nat} {ob : HO} (I : Inv X pins σ H s) (mu : Mut (H a)) (hs : Heap.SameBut a s.heap h') (he : ∃ q, h'.get? a = some q) (new : ObjOk X.prog X.w (upd H a ob) h' a ob) :
    Inv X pins σ (upd H a ob) { s with heap := h', toks := t' } :=
  I.write (x := a) (e := a) mu (.inl rfl) (fun b q hb z => (hs.2 b hb).trans z) he new
theorem dk_new {P : Program} {w : World} {H' : Hp} {h' : Heap} {kvs : List (Key × V)} {vs : List (Key × Value)} (z : kvs.length ≤ sizeLine) (hd : (a == sysModules) = false) (rel : KV kvs vs) (dd : h'.DictOf (mixKind P w) a vs) :
    ObjOk P w H' h' a (.dK kvs) := ⟨z, hd, vs, rel, dd⟩
/-- d[y] = v -/
theorem d_setItem {H' : Hp} {Q : Unit → Shared → Prop} (hu : A.units + 1 < cLine) (I : Inv X pins σ H s) (g : DPut H a y v H') (ry : RelV y u) (rv : RelV v r) (h : ∀ s', Inv X pins σ H' s' → Q () s') :
    wpAny (model X.prog X.w) A (setItem (.ref a) u r) Q E s := by
  rcases g with ⟨kvs, k, e, ey, l, eH⟩ | ⟨kvs, k, b, e, ey, eb, l, eH⟩
  · subst ey eH
    obtain ⟨z, hd, vs, rel, dd⟩ := dk_of I.hok e
    have hz : vs.length ≤ sizeLine := by rw [← rel.length]; exact z
    have hl : (putK kvs k v).length ≤ sizeLine := by have := length_putK kvs k v; omega
    refine wpAny_setItem_pairs (hsz := hz) (kV_is ry) dd fun h' dd' hs => h _ ?_
    have he : ∃ q, h'.get? a = some q := let ⟨q, _, _, hq, _⟩ := dd'; ⟨q, hq⟩
    exact d_write I (by rw [e]; exact True.intro) hs he (dk_new hl hd (rel.put k rv) dd')
  · subst ey eH
    cases (show u = Value.ref b from ry)
    obtain ⟨z, hd, xs, rel, dd⟩ := dt_of I.hok e
    have hz : xs.length ≤ sizeLine := by rw [← Paired.length rel]; exact z
    have hl : (putK kvs k v).length ≤ sizeLine := by have := length_putK kvs k v; omega
    refine wpAny_setItem_heap (hsz := hz) (tupleKind_room_in1 hu) (key_of I.hok eb) dd fun h' dd' hs => h _ ?_
    obtain ⟨q, es, ep, hq, h2, h3, h4, _, h5⟩ := dd'
    refine d_write I (by rw [e]; exact True.intro) hs ⟨q, hq⟩ ⟨hl, hd, _, (rel.put k eb rv).keeps fun c ys ec => ?_, q, es, ep, hq, h2, h3, h4, h5⟩
    rw [upd_ne (ne_of ec e (fun z => nomatch z))]
    exact ec
end

section
variable {X : Cx} {pins : List (Addr × Obj)} {σ : St} {H : Hp} {s : Shared} {a : Addr} {kvs : List (Key × V)} {k : Key} {u : Value} {A : Around} {E : Value → Shared → Prop}
/-- del d[k] -/
theorem d_delItem {Q : Unit → Shared → Prop} (I : Inv X pins σ H s) (e : H a = some (.dK kvs)) (ry : RelV (kV k) u) (l : (valV kvs k).isSome = true) (h : ∀ s', Inv X pins σ (upd H a (.dK (dropK kvs k))) s' → Q () s') :
    wpAny (model X.prog X.w) A (delItem (.ref a) u) Q E s := by
  obtain ⟨z, hd, vs, rel, dd⟩ := dk_of I.hok e
  refine wpAny_delItem_slot dd.typeIs (by decide) PySem.F.slot_dict_delitem
    (call_meetsIn PySem.F.slot_dict_delitem dd.typeIs PySem.F.entry_dict_delitem (PySem.F.args_dict_delitem_2 _ _) (meets_dict_delitem_pairs (mixKind X.prog X.w) a (kV_is ry)) ⟨vs, dd, by rw [← rel.length]; exact z, by rw [← (rel.val k).isSome_eq]; exact l, fun h' dd' hs => h _ ?_⟩)
  have he : ∃ q, h'.get? a = some q := let ⟨q, _, _, hq, _⟩ := dd'; ⟨q, hq⟩
  exact d_write I (by rw [e]; exact True.intro) hs he (dk_new (Nat.le_trans (dropK_le kvs k) z) hd (rel.drop k) dd')
/-- d.pop(k[, x]), there -/
theorem d_pop {v : V} {more : List Value} {Q : Value → Shared → Prop} (I : Inv X pins σ H s) (e : H a = some (.dK kvs)) (ry : RelV (kV k) u) (l : valV kvs k = some v) (hm : more = [] ∨ ∃ x, more = [x])
    (h : ∀ w' s', Inv X pins σ (upd H a (.dK (dropK kvs k))) s' → RelV v w' → Q w' s') : wpAny (model X.prog X.w) A (call (.builtin "dict.pop") (.ref a :: u :: more)) Q E s := by
  obtain ⟨z, hd, vs, rel, dd⟩ := dk_of I.hok e
  obtain ⟨w', hw, rw'⟩ := RelO.some_of (v := v) (o := valueAt vs k) (by rw [← l]; exact rel.val k)
  have hp : (keyPart u).isSome = true := by
    cases k with
    | inl i => obtain ⟨t, q⟩ := (show ∃ t, u = Value.int i t from ry); subst q; rfl
    | inr x => obtain ⟨t, q⟩ := (show ∃ t, u = Value.str x t from ry); subst q; rfl
  have ha : argsOk "dict.pop" ⟨.ref a :: u :: more, []⟩ := by
    rcases hm with q | ⟨x, q⟩
    · subst q; exact PySem.F.args_dict_pop_2 _ _
    · subst q; exact PySem.F.args_dict_pop_3 _ _ _
  refine call_meetsIn PySem.F.slot_dict_pop dd.typeIs PySem.F.entry_dict_pop ha (meets_dict_pop_there (mixKind X.prog X.w) a (kV_is ry) more hm hp)
    ⟨vs, w', dd, by rw [← rel.length]; exact z, hw, fun h' dd' hs => h w' _ ?_ rw'⟩
  have he : ∃ q, h'.get? a = some q := let ⟨q, _, _, hq, _⟩ := dd'; ⟨q, hq⟩
  exact d_write I (by rw [e]; exact True.intro) hs he (dk_new (Nat.le_trans (dropK_le kvs k) z) hd (rel.drop k) dd')
/-- d.pop(k, x), not there -/
theorem d_popD {r : Value} {Q : Value → Shared → Prop} (I : Inv X pins σ H s) (e : H a = some (.dK kvs)) (ry : RelV (kV k) u) (l : valV kvs k = none) (h : ∀ s', Inv X pins σ H s' → Q r s') :
    wpAny (model X.prog X.w) A (call (.builtin "dict.pop") [.ref a, u, r]) Q E s := by
  obtain ⟨z, hd, vs, rel, dd⟩ := dk_of I.hok e
  have hn : valueAt vs k = none := RelO.none_of (by rw [← l]; exact rel.val k)
  have hp : (keyPart u).isSome = true := by
    cases k with
    | inl i => obtain ⟨t, q⟩ := (show ∃ t, u = Value.int i t from ry); subst q; rfl
    | inr x => obtain ⟨t, q⟩ := (show ∃ t, u = Value.str x t from ry); subst q; rfl
  exact call_meetsIn PySem.F.slot_dict_pop dd.typeIs PySem.F.entry_dict_pop (PySem.F.args_dict_pop_3 _ _ _) (meets_dict_pop_default (mixKind X.prog X.w) a (kV_is ry) hd hp r) ⟨vs, dd, hn, h _ (I.tok _)⟩
/-- d.clear() -/
theorem d_clear {Q : Value → Shared → Prop} (I : Inv X pins σ H s) (e : H a = some (.dK kvs)) (h : ∀ s', Inv X pins σ (upd H a (.dK [])) s' → Q .none s') : wpAny (model X.prog X.w) A (call (.builtin "dict.clear") [.ref a]) Q E s := by
  obtain ⟨z, hd, vs, rel, dd⟩ := dk_of I.hok e
  refine call_meetsIn PySem.F.slot_dict_clear dd.typeIs PySem.F.entry_dict_clear (PySem.F.args_dict_clear_1 _) (meets_dict_clear (mixKind X.prog X.w) a) ⟨vs, dd, by rw [← rel.length]; exact z, fun h' dd' hs => h _ ?_⟩
  have he : ∃ q, h'.get? a = some q := let ⟨q, _, _, hq, _⟩ := dd'; ⟨q, hq⟩
  exact d_write (t' := s.toks) I (by rw [e]; exact True.intro) hs he (dk_new (Nat.zero_le _) hd .nil dd')
/-- len(d) -/
theorem d_len {Q : Value → Shared → Prop} (I : Inv X pins σ H s) (e : Rd H a (.dK kvs)) (h : ∀ t s', Inv X pins σ H s' → Q (.int kvs.length t) s') : wpAny (model X.prog X.w) A (call (.builtin "len") [.ref a]) Q E s := by
  obtain ⟨z, hd, vs, rel, dd⟩ := dk_rd I.hok e
  refine call_len_dict hd dd (by rw [← rel.length]; rw [sizeLine_eq] at z; omega) ?_
  rw [← rel.length]
  exact h _ _ (I.tok _)
/-- if d -/
theorem d_truth {Q : Bool → Shared → Prop} (I : Inv X pins σ H s) (e : Rd H a (.dK kvs)) (h : ∀ s', Inv X pins σ H s' → Q (!kvs.isEmpty) s') : wpAny (model X.prog X.w) A (truthy (.ref a)) Q E s := by
  obtain ⟨z, hd, vs, rel, dd⟩ := dk_rd I.hok e
  refine wpAny_truthy_dict hd dd (by rw [← rel.length]; rw [sizeLine_eq] at z; omega) ?_
  have q : kvs.isEmpty = vs.isEmpty := by cases rel <;> rfl
  rw [← q]
  exact h _ (I.tok _)
end


/-! ### readings and rules -/
/-- the element of a subscription, not a slice -/
def NoSl (i : Expr) : Prop := ∀ ov iv, subscripted i false ov iv = operate [ov, iv] (getItem ov iv)
theorem subD_of {prog : Program} {w : World} {A : Around} {E : Value → Shared → Prop} {s : Shared} {env : Env} {value slice : Expr} {pos : Pos} {T id : String} {Q : Value → Shared → Prop}
    (hl : typeLookup (.type T) "__getitem__" = pure (some (.builtin id))) (hs : NoSl slice)
    (h : wpAny (model prog w) A (eval value env) (fun o s₁ => wpAny (model prog w) A (eval slice env) (fun i s₂ => s₂.TypeIs o T ∧ wpAny (model prog w) A (getItem o i) Q E s₂) E s₁) E s) :
    wpAny (model prog w) A (eval (.Subscript value slice pos) env) Q E s := by
  refine Subscript_ (wpAny_mono h (fun o s₁ h₁ => wpAny_mono h₁ (fun i s₂ h₂ => ?_) fun _ _ x => x) fun _ _ x => x)
  obtain ⟨hT, h₂⟩ := h₂
  unfold subscriptTail
  refine wpAny_bind ?_
  rw [getitemInPython_of_ne hT.not_modules]
  refine wpAny_bind (wpAny_specialOf hT hl ?_)
  have fin : wpAny (model prog w) A (subscripted slice false o i) (fun r s₃ => wpAny (model prog w) A (letTemporaryGo value o r >>= fun _ => pure r) Q E s₃) E s₂ := by
    rw [hs o i]
    exact wpAny_operating (wpAny_mono h₂ (fun r s₃ h₃ => wpAny_bind (wpAny_letTemporaryGo (wpAny_pure h₃))) fun _ _ x => x)
  first
    | exact wpAny_pure (wpAny_bind fin)
    | exact wpAny_bind (wpAny_pure (wpAny_bind fin))
    | exact wpAny_bind fin

theorem dict_typeIs {X : Cx} {pins : List (Addr × Obj)} {σ : St} {H : Hp} {s : Shared} {a : Addr} {y : V} {o : Option V} (I : Inv X pins σ H s) (g : DGet H a y o) : s.TypeIs (.ref a) "dict" := by
  rcases g with ⟨kvs, k, e, _, _⟩ | ⟨kvs, k, b, e, _, _, _⟩
  · obtain ⟨_, _, vs, _, dd⟩ := dk_rd I.hok e
    exact dd.typeIs
  · obtain ⟨_, _, xs, _, dd⟩ := dt_rd I.hok e
    exact dd.typeIs
theorem dict_noDict {X : Cx} {pins : List (Addr × Obj)} {σ : St} {H : Hp} {s : Shared} {a : Addr} {y : V} {o : Option V} (I : Inv X pins σ H s) (g : DGet H a y o) :
    ∀ b, Value.ref a = .ref b → ∃ ob, s.heap.get? b = some ob ∧ ob.dict = none := fun b q => by
  cases q
  rcases g with ⟨kvs, k, e, _, _⟩ | ⟨kvs, k, b, e, _, _, _⟩
  · obtain ⟨_, _, vs, _, ob, _, _, h1, h2, _⟩ := dk_rd I.hok e
    exact ⟨ob, h1, h2.2.1⟩
  · obtain ⟨_, _, xs, _, ob, _, _, h1, h2, _⟩ := dt_rd I.hok e
    exact ⟨ob, h1, h2.2.1⟩

/-- d[y] -/
def tDGet (td ty : TE) : TE := fun σ H Q => td σ H fun x H1 => ty σ H1 fun y H2 => ∃ a v, x = .ref a ∧ DGet H2 a y (some v) ∧ Q v H2
/-- y in d, y not in d -/
def tDIn (ty td : TE) : TE := fun σ H Q => ty σ H fun y H1 => td σ H1 fun x H2 => ∃ a o, x = .ref a ∧ DGet H2 a y o ∧ Q (.bl o.isSome) H2
def tDNotIn (ty td : TE) : TE := fun σ H Q => ty σ H fun y H1 => td σ H1 fun x H2 => ∃ a o, x = .ref a ∧ DGet H2 a y o ∧ Q (.bl (!o.isSome)) H2
/-- d[y] = v -/
def sDPut (td ty tv : TE) : TS := fun D σ H => tv σ H fun v H1 => td σ H1 fun x H2 => ty σ H2 fun y H3 => ∃ a H4, x = .ref a ∧ DPut H3 a y v H4 ∧ D.nx σ H4
/-- d[y] op= v -/
def sDAug (td ty tv : TE) (rd : V → V → Hp → VK → Prop) : TS := fun D σ H => td σ H fun x H1 => ty σ H1 fun y H2 => ∃ a v, x = .ref a ∧ DGet H2 a y (some v) ∧
  tv σ H2 fun y2 H3 => rd v y2 H3 fun z H4 => ∃ H5, DPut H4 a y z H5 ∧ D.nx σ H5
/-- del d[y] -/
def sDDel (td ty : TE) : TS := fun D σ H => td σ H fun x H1 => ty σ H1 fun y H2 => ∃ a kvs k, x = .ref a ∧ H2 a = some (.dK kvs) ∧ y = kV k ∧ (valV kvs k).isSome = true ∧ D.nx σ (upd H2 a (.dK (dropK kvs k)))

section
variable {X : Cx} {o i e value : Expr} {pos pos' tpos : Pos} {td ty tv : TE}
theorem pe_dget (hu : X.A.units + 1 < cLine) (ho : PE X o td) (hi : PE X i ty) (hs : NoSl i) : PE X (.Subscript o i pos) (tDGet td ty) := by
  intro pins s σ H Q I h
  refine subD_of PySem.F.slot_dict_getitem.lookup hs (thn (ho pins s σ H _ I h) fun u s1 ⟨x, H1, I1, rx, q1⟩ => thn (hi pins s1 σ H1 _ I1 q1) fun iv s2 ⟨y, H2, I2, ry, a, v, ex, g, q2⟩ => ?_)
  subst ex
  obtain rfl : u = Value.ref a := rx
  exact ⟨dict_typeIs I2 g, d_getItem hu I2 g ry fun w' s3 I3 rw' => ⟨v, H2, I3, rw', q2⟩⟩
theorem pc_din (hu : X.A.units + 1 < cLine) (hi : PE X i ty) (ho : PE X o td) : PC X .In i o (tDIn ty td) := by
  intro pins s σ H Q I h
  refine thn (hi pins s σ H _ I h) fun iv s1 ⟨y, H1, I1, ry, q1⟩ => thn (ho pins s1 σ H1 _ I1 q1) fun u s2 ⟨x, H2, I2, rx, a, ov, ex, g, q2⟩ => ?_
  subst ex
  obtain rfl : u = Value.ref a := rx
  exact d_in hu I2 g ry fun s3 I3 => ⟨.bl ov.isSome, H2, I3, rfl, q2⟩
theorem pc_dnotin (hu : X.A.units + 1 < cLine) (hi : PE X i ty) (ho : PE X o td) : PC X .NotIn i o (tDNotIn ty td) := by
  intro pins s σ H Q I h
  refine thn (hi pins s σ H _ I h) fun iv s1 ⟨y, H1, I1, ry, q1⟩ => thn (ho pins s1 σ H1 _ I1 q1) fun u s2 ⟨x, H2, I2, rx, a, ov, ex, g, q2⟩ => ?_
  subst ex
  obtain rfl : u = Value.ref a := rx
  exact d_notIn hu I2 g ry fun s3 I3 => ⟨.bl (!ov.isSome), H2, I3, rfl, q2⟩
theorem ps_dput (hu : X.A.units + 1 < cLine) (ho : PE X o td) (hi : PE X i ty) (hv : PE X value tv) (hs : swapsWith value (some (.Subscript o i pos')) pos.line X.env = pure false) :
    PS X (.Assign [.Subscript o i pos'] value pos) (sDPut td ty tv) := by
  intro pins s σ H D I h
  refine wpAny_Assign_Subscript (thn (hv pins s σ H _ I h) fun r s1 ⟨v, H1, I1, rv, q1⟩ => thn (ho pins s1 σ H1 _ I1 q1) fun u s2 ⟨x, H2, I2, rx, q2⟩ => thn (hi pins s2 σ H2 _ I2 q2) fun iv s3 ⟨y, H3, I3, ry, a, H4, ex, g, q3⟩ => ?_) hs
  subst ex
  obtain rfl : u = Value.ref a := rx
  exact d_setItem hu I3 g ry rv fun s4 I4 => ⟨σ, H4, I4, q3⟩
theorem ps_daug {op : Operator} {rd : V → V → Hp → VK → Prop} (hu : X.A.units + 1 < cLine) (ho : PE X o td) (hi : PE X i ty) (hv : PE X value tv) (hop : InOp X op rd)
    (ha : ∀ ov iv new, augStore i ov iv new = (do holding [new, ov, iv] (setItem ov iv new); release [new, ov, iv] []; pure .next)) : PS X (.AugAssign (.Subscript o i tpos) op value pos) (sDAug td ty tv rd) := by
  intro pins s σ H D I h
  refine wpAny_AugAssign_SubscriptAny (thn (ho pins s σ H _ I h) fun u s1 ⟨x, H1, I1, rx, q1⟩ => thn (hi pins s1 σ H1 _ I1 q1) fun iv s2 ⟨y, H2, I2, ry, a, v, ex, g, q2⟩ => ?_) ha
  subst ex
  obtain rfl : u = Value.ref a := rx
  refine d_getItem hu I2 g ry fun w' s3 I3 rw' => thn (hv pins s3 σ H2 _ I3 q2) fun w2 s4 ⟨y2, H3, I4, ry2, q3⟩ => thn (hop pins s4 σ H3 v y2 w' w2 _ I4 rw' ry2 q3) fun w3 s5 ⟨z, H4, I5, rz, H5, g5, q4⟩ => ?_
  exact d_setItem hu I5 g5 ry rz fun s6 I6 => ⟨σ, H5, I6, q4⟩
theorem ps_ddel (ho : PE X o td) (hi : PE X i ty) : PS X (.Delete [.Subscript o i tpos] pos) (sDDel td ty) := by
  intro pins s σ H D I h
  refine wpAny_Delete (wpAny_deleteEach_cons (wpAny_delete_Subscript (thn (ho pins s σ H _ I h) fun u s1 ⟨x, H1, I1, rx, q1⟩ => thn (hi pins s1 σ H1 _ I1 q1) fun iv s2 ⟨y, H2, I2, ry, a, kvs, k, ex, e, ey, l, q2⟩ => ?_)))
  subst ex ey
  obtain rfl : u = Value.ref a := rx
  exact d_delItem I2 e ry l fun s3 I3 => wpAny_deleteEach_nil ⟨σ, _, I3, q2⟩
end


/-! ### displays -/
theorem dk_empty {P : Program} {w : World} {H : Hp} (h : Heap) (hb : sysModules < h.objs.size) : ObjOk P w H (h.push { cls := .type "dict", data := .dict #[] }) h.objs.size (.dK []) :=
  ⟨Nat.zero_le _, beq_eq_false_iff_ne.mpr (Ne.symm (Nat.ne_of_lt hb)), [], .nil, Heap.DictOf.new h⟩
theorem dt_empty {P : Program} {w : World} {H : Hp} (h : Heap) (hb : sysModules < h.objs.size) : ObjOk P w H (h.push { cls := .type "dict", data := .dict #[] }) h.objs.size (.dT []) :=
  ⟨Nat.zero_le _, beq_eq_false_iff_ne.mpr (Ne.symm (Nat.ne_of_lt hb)), [], .nil, _, #[], 0, Heap.get?_push_size _ rfl, ⟨rfl, rfl, rfl⟩, rfl, rfl, List.nodup_nil⟩
/-- {}, to be a dict of the kind that is wanted -/
def tDNewK : TE := fun _ H Q => ∀ p, H p = none → Q (.ref p) (upd H p (.dK []))
def tDNewT : TE := fun _ H Q => ∀ p, H p = none → Q (.ref p) (upd H p (.dT []))
section
variable {X : Cx} {pos : Pos}
theorem pe_dnewK : PE X (.Dict [] [] pos) tDNewK := fun pins s σ H Q I h =>
  wpAny_Dict_empty ⟨.ref s.heap.objs.size, _, I.laid (a := s.heap.objs.size) (o := .dK []) (t' := s.toks) (fun _ _ q => Heap.get?_push_of_some _ q) (Nat.le_refl _) (dk_empty s.heap I.big), rfl, h _ (I.hok.fresh (Nat.le_refl _))⟩
theorem pe_dnewT : PE X (.Dict [] [] pos) tDNewT := fun pins s σ H Q I h =>
  wpAny_Dict_empty ⟨.ref s.heap.objs.size, _, I.laid (a := s.heap.objs.size) (o := .dT []) (t' := s.toks) (fun _ _ q => Heap.get?_push_of_some _ q) (Nat.le_refl _) (dt_empty s.heap I.big), rfl, h _ (I.hok.fresh (Nat.le_refl _))⟩
end

/-- the pairs of a display, from the left -/
def tPairs : List (TE × TE) → St → Hp → (List (V × V) → Hp → Prop) → Prop
  | [], _, H, Q => Q [] H
  | (tk, tv) :: r, σ, H, Q => tk σ H fun x H1 => tv σ H1 fun y H2 => tPairs r σ H2 fun ps H3 => Q ((x, y) :: ps) H3
abbrev VV : List (V × V) → List (Value × Value) → Prop := Paired fun p q => RelV p.1 q.1 ∧ RelV p.2 q.2
def PPs (X : Cx) (pos : Pos) (keys : List (Option Expr)) (values : List Expr) (trs : List (TE × TE)) : Prop :=
  ∀ (pins : List (Addr × Obj)) (s : Shared) (σ : St) (H : Hp) (Q : List (V × V) → Hp → Prop), Inv X pins σ H s → tPairs trs σ H Q →
    wpAny (model X.prog X.w) X.A (evalPairs (pairTrees keys values X.env pos)) (fun vs s' => ∃ ps H', Inv X pins σ H' s' ∧ VV ps vs ∧ Q ps H') X.xe s
theorem pps_nil {X : Cx} {pos : Pos} : PPs X pos [] [] [] := fun pins s σ H Q I h => pairTrees_nil_walk ⟨[], H, I, .nil, h⟩
theorem pps_cons {X : Cx} {pos : Pos} {k v : Expr} {ks : List (Option Expr)} {vs : List Expr} {tk tv : TE} {trs : List (TE × TE)} (hk : PE X k tk) (hv : PE X v tv) (hr : PPs X pos ks vs trs) :
    PPs X pos (some k :: ks) (v :: vs) ((tk, tv) :: trs) := fun pins s σ H Q I h =>
  pairTrees_cons_walk (thn (hk pins s σ H _ I h) fun u s1 ⟨x, H1, I1, rx, q1⟩ => thn (hv pins s1 σ H1 _ I1 q1) fun w2 s2 ⟨y, H2, I2, ry, q2⟩ =>
    thn (hr pins s2 σ H2 _ I2 q2) fun ws s3 ⟨ps, H3, I3, rel, q3⟩ => ⟨(x, y) :: ps, H3, I3, .cons ⟨rx, ry⟩ rel, q3⟩)

def mergeK (kvs more : List (Key × V)) : List (Key × V) := more.foldl (fun acc kv => putK acc kv.1 kv.2) kvs
theorem KV.merge : ∀ {more : List (Key × V)} {rs : List (Key × Value)} {kvs : List (Key × V)} {vs : List (Key × Value)}, KV more rs → KV kvs vs → KV (mergeK kvs more) (merged vs rs) := by
  intro more rs kvs vs r
  unfold KV at r
  induction r generalizing kvs vs with
  | nil => intro q; exact q
  | @cons p q ps qs h t ih =>
    intro r0
    have e : KV (putK kvs p.1 p.2) (stored vs q.1 q.2) := by
      have := r0.put p.1 h.2
      rw [← h.1]; exact this
    exact ih e
theorem length_mergeK : ∀ (more kvs : List (Key × V)), (mergeK kvs more).length ≤ kvs.length + more.length
  | [], kvs => by show kvs.length ≤ kvs.length + 0; omega
  | p :: r, kvs => by
    have h1 := length_mergeK r (putK kvs p.1 p.2)
    have h2 := length_putK kvs p.1 p.2
    show (mergeK (putK kvs p.1 p.2) r).length ≤ _
    rw [List.length_cons]; omega
theorem carries_of {P : Program} {w : World} : ∀ {kvs : List (Key × V)} {ws : List (Value × Value)}, VV (kvs.map fun kv => (kV kv.1, kv.2)) ws → ∃ rs, Carries (mixKind P w) ws rs ∧ KV kvs rs
  | [], _, r => by rw [List.map_nil] at r; cases r; exact ⟨[], True.intro, .nil⟩
  | p :: kvs, _, r => by
    rw [List.map_cons] at r
    cases r with
    | @cons a b as bs h t =>
      obtain ⟨rs, c, q⟩ := carries_of (P := P) (w := w) t
      obtain ⟨b1, b2⟩ := b
      exact ⟨(p.1, b2) :: rs, ⟨kV_is h.1, rfl, c⟩, .cons ⟨rfl, h.2⟩ q⟩
/-- {k: v, ..} with keys ints and texts; the new dict stands empty while the pairs are made -/
def tDisp (trs : List (TE × TE)) : TE := fun σ H Q => ∀ p, H p = none → tPairs trs σ (upd H p (.dK [])) fun ps H2 => H2 p = some (.dK []) ∧ ∃ kvs : List (Key × V), ps = kvs.map (fun kv => (kV kv.1, kv.2)) ∧ kvs.length ≤ 15 ∧ Q (.ref p) (upd H2 p (.dK (mergeK [] kvs)))
theorem pe_disp {X : Cx} {pos : Pos} {keys : List (Option Expr)} {values : List Expr} {trs : List (TE × TE)} (h : PPs X pos keys values trs) (hall : keys.all (·.isSome) = true) (hl : keys.length = values.length) (h0 : keys ≠ [])
    (h15 : keys.length ≤ 15) : PE X (.Dict keys values pos) (tDisp trs) := by
  intro pins s σ H Q I q
  have hn := I.hok.fresh (Nat.le_refl s.heap.objs.size)
  have I1 := I.laid (a := s.heap.objs.size) (o := .dK []) (h' := s.heap.push { cls := .type "dict", data := .dict #[] }) (t' := s.toks) (fun _ _ q => Heap.get?_push_of_some _ q) (Nat.le_refl _) (dk_empty s.heap I.big)
  refine wpAny_Dict_walk (knd := mixKind X.prog X.w) hall hl h0 h15 (thn (h pins _ σ _ _ I1 (q _ hn)) fun ws s2 ⟨ps, H2, I2, rel, e, kvs, ep, lk, q2⟩ => ?_)
  subst ep
  obtain ⟨rs, c, rk⟩ := carries_of (P := X.prog) (w := X.w) rel
  obtain ⟨z, hd, vs0, r0, dd⟩ := dk_of I2.hok e
  cases r0
  refine ⟨rs, c, dd, fun h' dd' hs => ⟨.ref s.heap.objs.size, _, ?_, rfl, q2⟩⟩
  have hz : (mergeK [] kvs).length ≤ sizeLine := by
    have h1 := length_mergeK kvs []
    rw [List.length_nil] at h1
    rw [sizeLine_eq]; omega
  have he : ∃ q, h'.get? s.heap.objs.size = some q := let ⟨q, _, _, hq, _⟩ := dd'; ⟨q, hq⟩
  exact d_write I2 (by rw [e]; exact True.intro) hs he (dk_new hz hd (rk.merge .nil) dd')


/-! ### methods -/
/-- a method call o.m(e) of a built-in, with one argument: what must be seen of the text -/
structure M1 (X : Cx) (o : Expr) (m : Str) (apos : Pos) (e : Expr) (cpos : Pos) : Prop where
  base : attributeBase o m X.env (eval o X.env) = eval o X.env
  few : ((backTo cpos (starEach [e] X.env)).all (fun x => !x.1) && (backToKw cpos (keywordEach [] X.env)).all (fun x => x.1.isSome)
    && decide (([e] : List Expr).length + ([] : List Keyword).length + (if ([] : List Keyword).isEmpty then 0 else 1) < 30)) = true
  line : (apos.endLine == cpos.line) = true
  trees : backTo cpos (starEach [e] X.env) = [(false, eval e X.env)]
structure M2 (X : Cx) (o : Expr) (m : Str) (apos : Pos) (e f : Expr) (cpos : Pos) : Prop where
  base : attributeBase o m X.env (eval o X.env) = eval o X.env
  few : ((backTo cpos (starEach [e, f] X.env)).all (fun x => !x.1) && (backToKw cpos (keywordEach [] X.env)).all (fun x => x.1.isSome)
    && decide (([e, f] : List Expr).length + ([] : List Keyword).length + (if ([] : List Keyword).isEmpty then 0 else 1) < 30)) = true
  line : (apos.endLine == cpos.line) = true
  trees : backTo cpos (starEach [e, f] X.env) = [(false, eval e X.env), (false, eval f X.env)]

/-- a is a dict, whatever its keys -/
def IsD (H : Hp) (a : Addr) : Prop := (∃ kvs, Rd H a (.dK kvs)) ∨ ∃ kvs, Rd H a (.dT kvs)
theorem isD_at {X : Cx} {pins : List (Addr × Obj)} {σ : St} {H : Hp} {s : Shared} {a : Addr} (I : Inv X pins σ H s) (d : IsD H a) :
    s.TypeIs (.ref a) "dict" ∧ (∀ b, Value.ref a = .ref b → ∃ ob, s.heap.get? b = some ob ∧ ob.dict = none) ∧ (a == sysModules) = false := by
  rcases d with ⟨kvs, e⟩ | ⟨kvs, e⟩
  · obtain ⟨_, hd, vs, _, dd⟩ := dk_rd I.hok e
    refine ⟨dd.typeIs, fun b q => ?_, hd⟩
    cases q
    obtain ⟨ob, _, _, h1, h2, _⟩ := dd
    exact ⟨ob, h1, h2.2.1⟩
  · obtain ⟨_, hd, xs, _, dd⟩ := dt_rd I.hok e
    refine ⟨dd.typeIs, fun b q => ?_, hd⟩
    cases q
    obtain ⟨ob, _, _, h1, h2, _⟩ := dd
    exact ⟨ob, h1, h2.2.1⟩

section
variable {X : Cx} {pins : List (Addr × Obj)} {σ : St} {H : Hp} {s : Shared} {a : Addr} {y d : V} {u r : Value} {o : Option V} {A : Around} {E : Value → Shared → Prop}
/-- d.get(y) -/
theorem d_get1 {Q : Value → Shared → Prop} (hu : A.units + 1 < cLine) (I : Inv X pins σ H s) (g : DGet H a y o) (ry : RelV y u) (h : ∀ w' s', Inv X pins σ H s' → RelV (o.getD .non) w' → Q w' s') :
    wpAny (model X.prog X.w) A (call (.builtin "dict.get") [.ref a, u]) Q E s := by
  rcases g with ⟨kvs, k, e, ey, l⟩ | ⟨kvs, k, b, e, ey, eb, l⟩
  · subst ey
    obtain ⟨z, hd, vs, rel, dd⟩ := dk_rd I.hok e
    refine call_meetsIn PySem.F.slot_dict_get dd.typeIs PySem.F.entry_dict_get (PySem.F.args_dict_get_2 _ _) (meets_dict_get (mixKind X.prog X.w) a (kV_is ry) hd) ⟨_, dd.mapOf, h _ _ (I.tok _) ?_⟩
    rw [l]
    exact (rel.val k).getD rfl
  · subst ey
    cases (show u = Value.ref b from ry)
    obtain ⟨z, hd, xs, rel, dd⟩ := dt_rd I.hok e
    refine call_meetsIn PySem.F.slot_dict_get dd.typeIs PySem.F.entry_dict_get (PySem.F.args_dict_get_2 _ _) (meetsH_dict_get (tupleKind (mixKind X.prog X.w)) a b hd) ⟨tupleKind_room_in1 hu, k, xs, key_of I.hok eb, dd, h _ _ (I.tok _) ?_⟩
    rw [l]
    exact (rel.val k).getD rfl
/-- d.get(y, x) -/
theorem d_get2 {Q : Value → Shared → Prop} (hu : A.units + 1 < cLine) (I : Inv X pins σ H s) (g : DGet H a y o) (ry : RelV y u) (rd : RelV d r) (h : ∀ w' s', Inv X pins σ H s' → RelV (o.getD d) w' → Q w' s') :
    wpAny (model X.prog X.w) A (call (.builtin "dict.get") [.ref a, u, r]) Q E s := by
  rcases g with ⟨kvs, k, e, ey, l⟩ | ⟨kvs, k, b, e, ey, eb, l⟩
  · subst ey
    obtain ⟨z, hd, vs, rel, dd⟩ := dk_rd I.hok e
    refine call_meetsIn PySem.F.slot_dict_get dd.typeIs PySem.F.entry_dict_get (PySem.F.args_dict_get_3 _ _ _) (meets_dict_get_default (mixKind X.prog X.w) a (kV_is ry) hd r) ⟨_, dd.mapOf, h _ _ (I.tok _) ?_⟩
    rw [l]
    exact (rel.val k).getD rd
  · subst ey
    cases (show u = Value.ref b from ry)
    obtain ⟨z, hd, xs, rel, dd⟩ := dt_rd I.hok e
    refine call_meetsIn PySem.F.slot_dict_get dd.typeIs PySem.F.entry_dict_get (PySem.F.args_dict_get_3 _ _ _) (meetsH_dict_get_default (tupleKind (mixKind X.prog X.w)) a b hd r) ⟨tupleKind_room_in1 hu, k, xs, key_of I.hok eb, dd, h _ _ (I.tok _) ?_⟩
    rw [l]
    exact (rel.val k).getD rd
end

def tDGet1 (td ty : TE) : TE := fun σ H Q => td σ H fun x H1 => ∃ a, x = .ref a ∧ IsD H1 a ∧ ty σ H1 fun y H2 => ∃ o, DGet H2 a y o ∧ Q (o.getD .non) H2
def tDGet2 (td ty tx : TE) : TE := fun σ H Q => td σ H fun x H1 => ∃ a, x = .ref a ∧ IsD H1 a ∧ ty σ H1 fun y H2 => tx σ H2 fun z H3 => ∃ o, DGet H3 a y o ∧ Q (o.getD z) H3
/-- d.pop(k): there; d.pop(k, x): there or not -/
def tDPop1 (td ty : TE) : TE := fun σ H Q => td σ H fun x H1 => ∃ a, x = .ref a ∧ IsD H1 a ∧ ty σ H1 fun y H2 => ∃ kvs k v, H2 a = some (.dK kvs) ∧ y = kV k ∧ valV kvs k = some v ∧ Q v (upd H2 a (.dK (dropK kvs k)))
def tDPop2 (td ty tx : TE) : TE := fun σ H Q => td σ H fun x H1 => ∃ a, x = .ref a ∧ IsD H1 a ∧ ty σ H1 fun y H2 => tx σ H2 fun z H3 => ∃ kvs k, H3 a = some (.dK kvs) ∧ y = kV k ∧
  (∀ v, valV kvs k = some v → Q v (upd H3 a (.dK (dropK kvs k)))) ∧ (valV kvs k = none → Q z H3)
section
variable {X : Cx} {o e f : Expr} {apos cpos : Pos} {td ty tx : TE}
theorem pe_dget1 (hu : X.A.units + 1 < cLine) (ho : PE X o td) (he : PE X e ty) (m : M1 X o "get" apos e cpos) : PE X (.Call (.Attribute o "get" apos) [e] [] cpos) (tDGet1 td ty) := by
  intro pins s σ H Q I h
  refine wpAny_Call_method m.base m.few m.line PySem.F.plainAttrs_dict PySem.F.slot_dict_get PySem.F.type_dict_get (thn (ho pins s σ H _ I h) fun u s1 ⟨x, H1, I1, rx, a, ex, d, q1⟩ => ?_)
  subst ex
  obtain rfl : u = Value.ref a := rx
  obtain ⟨t1, t2, _⟩ := isD_at I1 d
  refine ⟨t1, t2, ?_⟩
  rw [m.trees]
  refine Calls.callWith_builtin rfl (Calls.evalArgs_plain (Calls.spliced_cons (thn (he pins s1 σ H1 _ I1 q1) fun iv s2 ⟨y, H2, I2, ry, ov, g, q2⟩ => Calls.spliced_nil ?_)))
  exact d_get1 hu I2 g ry fun w' s3 I3 rw' => ⟨_, H2, I3, rw', q2⟩
theorem pe_dget2 (hu : X.A.units + 1 < cLine) (ho : PE X o td) (he : PE X e ty) (hf : PE X f tx) (m : M2 X o "get" apos e f cpos) : PE X (.Call (.Attribute o "get" apos) [e, f] [] cpos) (tDGet2 td ty tx) := by
  intro pins s σ H Q I h
  refine wpAny_Call_method m.base m.few m.line PySem.F.plainAttrs_dict PySem.F.slot_dict_get PySem.F.type_dict_get (thn (ho pins s σ H _ I h) fun u s1 ⟨x, H1, I1, rx, a, ex, d, q1⟩ => ?_)
  subst ex
  obtain rfl : u = Value.ref a := rx
  obtain ⟨t1, t2, _⟩ := isD_at I1 d
  refine ⟨t1, t2, ?_⟩
  rw [m.trees]
  refine Calls.callWith_builtin rfl (Calls.evalArgs_plain (Calls.spliced_cons (thn (he pins s1 σ H1 _ I1 q1) fun iv s2 ⟨y, H2, I2, ry, q2⟩ =>
    Calls.spliced_cons (thn (hf pins s2 σ H2 _ I2 q2) fun fv s3 ⟨z, H3, I3, rz, ov, g, q3⟩ => Calls.spliced_nil ?_))))
  exact d_get2 hu I3 g ry rz fun w' s4 I4 rw' => ⟨_, H3, I4, rw', q3⟩
theorem pe_dpop1 (ho : PE X o td) (he : PE X e ty) (m : M1 X o "pop" apos e cpos) : PE X (.Call (.Attribute o "pop" apos) [e] [] cpos) (tDPop1 td ty) := by
  intro pins s σ H Q I h
  refine wpAny_Call_method m.base m.few m.line PySem.F.plainAttrs_dict PySem.F.slot_dict_pop PySem.F.type_dict_pop (thn (ho pins s σ H _ I h) fun u s1 ⟨x, H1, I1, rx, a, ex, d, q1⟩ => ?_)
  subst ex
  obtain rfl : u = Value.ref a := rx
  obtain ⟨t1, t2, _⟩ := isD_at I1 d
  refine ⟨t1, t2, ?_⟩
  rw [m.trees]
  refine Calls.callWith_builtin rfl (Calls.evalArgs_plain (Calls.spliced_cons (thn (he pins s1 σ H1 _ I1 q1) fun iv s2 ⟨y, H2, I2, ry, kvs, k, v, ea, ey, l, q2⟩ => Calls.spliced_nil ?_)))
  subst ey
  exact d_pop I2 ea ry l (.inl rfl) fun w' s3 I3 rw' => ⟨v, _, I3, rw', q2⟩
theorem pe_dpop2 (ho : PE X o td) (he : PE X e ty) (hf : PE X f tx) (m : M2 X o "pop" apos e f cpos) : PE X (.Call (.Attribute o "pop" apos) [e, f] [] cpos) (tDPop2 td ty tx) := by
  intro pins s σ H Q I h
  refine wpAny_Call_method m.base m.few m.line PySem.F.plainAttrs_dict PySem.F.slot_dict_pop PySem.F.type_dict_pop (thn (ho pins s σ H _ I h) fun u s1 ⟨x, H1, I1, rx, a, ex, d, q1⟩ => ?_)
  subst ex
  obtain rfl : u = Value.ref a := rx
  obtain ⟨t1, t2, _⟩ := isD_at I1 d
  refine ⟨t1, t2, ?_⟩
  rw [m.trees]
  refine Calls.callWith_builtin rfl (Calls.evalArgs_plain (Calls.spliced_cons (thn (he pins s1 σ H1 _ I1 q1) fun iv s2 ⟨y, H2, I2, ry, q2⟩ =>
    Calls.spliced_cons (thn (hf pins s2 σ H2 _ I2 q2) fun fv s3 ⟨z, H3, I3, rz, kvs, k, ea, ey, q3, q4⟩ => Calls.spliced_nil ?_))))
  subst ey
  cases l : valV kvs k with
  | some v => exact d_pop I3 ea ry l (.inr ⟨fv, rfl⟩) fun w' s4 I4 rw' => ⟨v, _, I4, rw', q3 v l⟩
  | none => exact d_popD I3 ea ry l fun s4 I4 => ⟨z, H3, I4, rz, q4 l⟩
end

/-! ### dict(d): a copy -/
section
variable {X : Cx} {pins : List (Addr × Obj)} {σ : St} {H : Hp} {s : Shared} {a : Addr} {kvs : List (Key × V)} {A : Around} {E : Value → Shared → Prop}
theorem d_copyOf {Q : Value → Shared → Prop} (I : Inv X pins σ H s) (e : Rd H a (.dK kvs)) (h : ∀ p s', H p = none → Inv X pins σ (upd H p (.dK kvs)) s' → Q (.ref p) s') : wpAny (model X.prog X.w) A (call (.type "dict") [.ref a]) Q E s := by
  obtain ⟨z, hd, vs, rel, dd⟩ := dk_rd I.hok e
  refine kt_call_dict hd dd (by rw [← rel.length]; exact z) fun h' dd' hs => ?_
  refine h _ _ (I.hok.fresh (Nat.le_refl _)) (I.laid (a := s.heap.objs.size) (o := .dK kvs) (t' := s.toks) (fun b q hq => ?_) (Nat.le_refl _) (dk_new z (beq_eq_false_iff_ne.mpr (Ne.symm (Nat.ne_of_lt I.big))) rel dd'))
  exact (hs.2 b (Nat.ne_of_lt (Heap.lt_size hq))).trans (Heap.get?_push_of_some _ hq)
end


section
variable {X : Cx} {pins : List (Addr × Obj)} {σ : St} {H : Hp} {s : Shared} {a : Addr} {y : V} {u : Value} {A : Around} {E : Value → Shared → Prop}
/-- d[y], not there: a KeyError -/
theorem d_missing {Q : Value → Shared → Prop} (hu : A.units + 1 < cLine) (hh : A.handled = none) (I : Inv X pins σ H s) (g : DGet H a y none) (ry : RelV y u)
    (h : ∀ h' e t', Heap.NewExc s.heap h' e "KeyError" → E (.ref e) { s with heap := h', toks := t' }) : wpAny (model X.prog X.w) A (getItem (.ref a) u) Q E s := by
  rcases g with ⟨kvs, k, e, ey, l⟩ | ⟨kvs, k, b, e, ey, eb, l⟩
  · subst ey
    obtain ⟨z, hd, vs, rel, dd⟩ := dk_rd I.hok e
    have hn : valueAt vs k = none := RelO.none_of (by rw [l]; exact rel.val k)
    exact wpAny_getItem_missing_of (kV_is ry) hd hh dd.mapOf hn fun h' ex ne => h h' ex _ ne
  · subst ey
    cases (show u = Value.ref b from ry)
    obtain ⟨z, hd, xs, rel, dd⟩ := dt_rd I.hok e
    have hn : (atKey xs k).map (·.2) = none := RelO.none_of (by rw [l]; exact rel.val k)
    exact wpAny_getItem_missing_heap (tupleKind_room_in1 hu) (key_of I.hok eb) hd hh dd (Option.map_eq_none_iff.mp hn) fun h' ex ne => h h' ex _ ne
end
end L2

namespace HT
open PySem PyProof.Rows

/-- t < u of tuples of ints -/
def lexLt : List Int → List Int → Bool
  | [], [] => false
  | [], _ :: _ => true
  | _ :: _, [] => false
  | x :: xs, y :: ys => if x = y then lexLt xs ys else decide (x < y)
theorem lexLt_cons (x y : Int) (xs ys : List Int) : lexLt (x :: xs) (y :: ys) = if x = y then lexLt xs ys else decide (x < y) := rfl
theorem lexLt_nil_nil : lexLt [] [] = false := rfl
theorem lexLt_nil_cons (y : Int) (ys : List Int) : lexLt [] (y :: ys) = true := rfl
theorem lexLt_cons_nil (x : Int) (xs : List Int) : lexLt (x :: xs) [] = false := rfl

theorem eqAt_int (A : Around) (s : Shared) (a : Int) (t : Tok) (c : Int) (u : Tok) : ∃ e, SeqAt.EqAt A s (.int a t) (.int c u) e ∧ (e = true ↔ a = c) :=
  ⟨(a == c), SeqAt.EqAt.int_int a t c u, by simp⟩
theorem rcLt_int (A : Around) (s : Shared) (a : Int) (t : Tok) (c : Int) (u : Tok) (prog : Program) (w : World) (E : Value → Shared → Prop) (Q : Value → Shared → Prop) (h : Q (.bool (decide (a < c))) s) :
    wpAny (model prog w) A (richCompare .Lt (.int a t) (.int c u)) Q E s :=
  (PyProof.Rows.lt_int h : wpAny (model prog w) A (compareOp .Lt (.int a t) (.int c u)) Q E s)

section
open PySem.SeqAt
open PySem.AutoSeq1 (wpAny_loadPart')
open PySem.MeetsSeq PySem.MeetsSeq2 PySem.MeetsSeq3

theorem tuple_lt_ints (l b : Addr) (items items2 : Array Value) (n n2 : Nat) (dd dd2 : Option Addr) (sl sl2 : Array (Option Value)) (ns ms : List Int) (hi : IntsAre items.toList ns) (hj : IntsAre items2.toList ms) :
    Meets (Builtin.«tuple.__lt__» ⟨[.ref l, .ref b], []⟩)
      (fun _ R s => s.heap.get? l = some { cls := .type "tuple", dict := dd, data := .seq items n, slots := sl } ∧ s.heap.get? b = some { cls := .type "tuple", dict := dd2, data := .seq items2 n2, slots := sl2 } ∧
        R (.ok (.ret (.bool (lexLt ns ms)))) s) :=
  .of_wp fun prog w A R s h => by
    obtain ⟨hp, g, d, tk, os⟩ := s; obtain ⟨hl, hb, h⟩ := h
    have f2 := AutoSeq1.sub_tuple_tuple
    have z1 : items.size = ns.length := by rw [← hi.length]; simp
    have z2 : items2.size = ms.length := by rw [← hj.length]; simp
    wp_walk using wpAny_loadPart' hl, wpAny_loadPart' hb, wpAny_forIn_list _ (fun rest b s' => b.1 = none ∧ s' = ⟨hp, g, d, tk, os⟩ ∧ ∃ (vs ws : List Value) (ns' ms' : List Int), rest = vs.zip ws ∧
      IntsAre vs ns' ∧ IntsAre ws ms' ∧ ns'.length + items2.size = ms'.length + items.size ∧ R (.ok (.ret (.bool (lexLt ns' ms')))) ⟨hp, g, d, tk, os⟩) _
    case turn =>
      rintro ⟨y, x⟩ rest b s' ⟨hb', rfl, vs, ws, ns', ms', hz, hvi, hwi, hlen, hR⟩
      cases hvi with
      | nil => rw [List.zip_nil_left] at hz; cases hz
      | cons a t hvi' =>
        cases hwi with
        | nil => rw [List.zip_nil_right] at hz; cases hz
        | cons c u hwi' =>
          rw [List.zip_cons_cons] at hz
          injection hz with hyx hrest
          injection hyx with hy hx
          subst hy hx
          rw [lexLt_cons] at hR
          simp only [List.length_cons] at hlen
          obtain ⟨e, he, hiff⟩ := eqAt_int A.in1 ⟨hp, g, d, tk, os⟩ a t c u
          refine wpAny_bind (he prog w _ _ ?_)
          cases e with
          | true =>
            rw [if_pos (hiff.mp rfl)] at hR
            wp_walk
            exact ⟨rfl, rfl, _, _, _, _, hrest, hvi', hwi', by omega, hR⟩
          | false =>
            rw [if_neg (fun q => absurd (hiff.mpr q) Bool.false_ne_true)] at hR
            have hri := rcLt_int A.in1 ⟨hp, g, d, tk, os⟩ a t c u prog w
            wp_walk using hri
            exact ⟨_, rfl, by simpa using hR⟩
    case fin =>
      rintro ⟨b1, b2⟩ s' ⟨hb', rfl, vs, ws, ns', ms', hz, hvi, hwi, hlen, hR⟩
      simp only at hb'
      subst hb'
      have hv : lexLt ns' ms' = decide (items.size < items2.size) := by
        cases hvi with
        | nil =>
          cases hwi with
          | nil =>
            simp only [List.length_nil] at hlen
            rw [lexLt_nil_nil]
            exact (decide_eq_false (by omega)).symm
          | cons c u hw =>
            simp only [List.length_nil, List.length_cons] at hlen
            rw [lexLt_nil_cons]
            exact (decide_eq_true (by omega)).symm
        | cons a t hv =>
          cases hwi with
          | nil =>
            simp only [List.length_nil, List.length_cons] at hlen
            rw [lexLt_cons_nil]
            exact (decide_eq_false (by omega)).symm
          | cons c u hw =>
            rw [List.zip_cons_cons] at hz
            cases hz
      rw [hv] at hR
      wp_walk
      exact ⟨_, rfl, by simpa [Builtin.Tuple.tupleCompareSizes] using hR⟩
    case h =>
      exact ⟨rfl, rfl, items.toList, items2.toList, ns, ms, rfl, hi, hj, by omega, h⟩
end

section
variable {prog : Program} {w : World} {A : Around} {E : Value → Shared → Prop} {s : Shared}

theorem lt_tupInts {l b : Addr} {items items2 : Array Value} {ns ms : List Int} {Q : Value → Shared → Prop} (hl : IsTup s.heap l items) (hb : IsTup s.heap b items2) (hi : IntsAre items.toList ns) (hj : IntsAre items2.toList ms)
    (hu : A.units < cLine) (h : Q (.bool (lexLt ns ms)) s) : wpAny (model prog w) A (compareOp .Lt (.ref l) (.ref b)) Q E s := by
  obtain ⟨⟨cls, dd, data, sl⟩, ho, hc, n, hd⟩ := id hl
  obtain ⟨⟨cls2, dd2, data2, sl2⟩, ho2, hc2, n2, hd2⟩ := id hb
  simp only at hc hd hc2 hd2
  subst hc hd hc2 hd2
  exact richCompare_meets_room (op := .Lt) ⟨_, ho, rfl⟩ ⟨_, ho2, rfl⟩ PySem.F.slot_tuple_lt PySem.F.entry_tuple_lt (PySem.F.args_tuple_lt_2 _ _) (tuple_lt_ints l b items items2 n n2 dd dd2 sl sl2 ns ms hi hj)
    ⟨ho, ho2, show Value.bool (lexLt ns ms) ≠ Value.notImplemented ∧ Q (.bool (lexLt ns ms)) s from ⟨(fun x => nomatch x), h⟩⟩ hu

/-- t + u, t not empty -/
theorem cat_tup {t b : Addr} {vs ws : List Value} {Q : Value → Shared → Prop} (ht : IsTup s.heap t vs.toArray) (hb : IsTup s.heap b ws.toArray) (hv : vs ≠ [])
    (h1 : ws = [] → Q (.ref t) s) (h2 : ws ≠ [] → Q (.ref s.heap.objs.size) { s with heap := s.heap.push { cls := .type "tuple", data := .seq (vs ++ ws).toArray } })
    (hsz : vs.length + ws.length ≤ sizeLine) : wpAny (model prog w) A (binaryOp .Add (.ref t) (.ref b)) Q E s := by
  obtain ⟨⟨cls, dd, data, sl⟩, ho, hc, n, hd⟩ := id ht
  obtain ⟨⟨cls2, dd2, data2, sl2⟩, ho2, hc2, n2, hd2⟩ := id hb
  simp only at hc hd hc2 hd2
  subst hc hd hc2 hd2
  have e : vs.toArray ++ ws.toArray = (vs ++ ws).toArray := by simp
  by_cases hw : ws = []
  · exact concat_meets ⟨_, ho, rfl⟩ ⟨_, ho2, rfl⟩ noFill_tuple_add seq_tuple_add PySem.F.slot_tuple_add PySem.F.entry_tuple_add (PySem.F.args_tuple_add_2 _ _)
      (tuple_addW1 t b vs.toArray ws.toArray n n2 dd dd2 sl sl2 (by simpa using hv) (by simp [hw])) ⟨ho, ho2, h1 hw⟩
  · refine concat_meets ⟨_, ho, rfl⟩ ⟨_, ho2, rfl⟩ noFill_tuple_add seq_tuple_add PySem.F.slot_tuple_add PySem.F.entry_tuple_add (PySem.F.args_tuple_add_2 _ _)
      (tuple_addW2 t b vs.toArray ws.toArray n n2 dd dd2 sl sl2 (by simpa using hv) (by simpa using hw) (by rw [List.size_toArray, List.size_toArray]; exact hsz)) ⟨ho, ho2, ?_⟩
    rw [e]
    exact h2 hw

/-! ### t[a:b], not the whole -/
/-- a slice's bound as a place among n (d where it is left out) -/
def sIx (n d : Nat) : Option Int → Nat
  | none => d
  | some v => if v < 0 then (v + (n : Int)).toNat else min v.toNat n
theorem sIx_none (n d : Nat) : sIx n d none = d := rfl
theorem sIx_nat (n d k : Nat) : sIx n d (some (k : Int)) = min k n := by
  show (if (k : Int) < 0 then ((k : Int) + (n : Int)).toNat else min (k : Int).toNat n) = min k n
  rw [if_neg (by omega), Int.toNat_natCast]
theorem sIx_le (n d : Nat) (hd : d ≤ n) (o : Option Int) : sIx n d o ≤ n := by
  cases o with
  | none => exact hd
  | some v =>
    show (if v < 0 then (v + (n : Int)).toNat else min v.toNat n) ≤ n
    by_cases hv : v < 0
    · rw [if_pos hv]; omega
    · rw [if_neg hv]; exact Nat.min_le_right _ _
theorem clip_eq (v : Int) (n d : Nat) : (if v < 0 then max (v + (n : Int)) 0 else min v (n : Int)) = ((sIx n d (some v) : Nat) : Int) := by
  show (if v < 0 then max (v + (n : Int)) 0 else min v (n : Int)) = (((if v < 0 then (v + (n : Int)).toNat else min v.toNat n) : Nat) : Int)
  by_cases hv : v < 0
  · simp only [if_pos hv]; omega
  · simp only [if_neg hv]; omega
theorem adjust_gen (lo hi : Option Int) (n : Nat) : Builtin.Slice.sliceAdjust lo hi 1 (n : Int) = (((sIx n 0 lo : Nat) : Int), ((sIx n n hi : Nat) : Int)) := by
  have h1 : ¬ ((1 : Int) < 0) := by omega
  unfold Builtin.Slice.sliceAdjust
  simp only [h1, if_false]
  refine Prod.ext ?_ ?_
  · cases lo with
    | none => rfl
    | some v => exact clip_eq v n 0
  · cases hi with
    | none => rfl
    | some v => exact clip_eq v n n
theorem places_gen (i j : Nat) : Builtin.Slice.slicePlaces (i : Int) (j : Int) 1 = j - i := by
  unfold Builtin.Slice.slicePlaces
  have h1 : (1 : Int) > 0 := by omega
  simp only [h1, if_true, Int.ediv_one]
  split <;> omega
theorem slicePart_ {v : Value} {o : Option Int} {Q : Option Int → Shared → Prop} (p : IsPart v o) (h : Q o s) : wpAny (model prog w) A (Builtin.Slice.slicePartIndex v) Q E s := by
  cases p with
  | none => exact slicePart_none h
  | int i t => exact slicePart_int h
theorem sliceApplied_gen {sl : Addr} {vl vu : Value} {lo hi : Option Int} {n : Nat} {Q : Int × Int × Nat → Shared → Prop} (hs : s.heap.IsSliceOf sl vl vu .none) (pl : IsPart vl lo) (pu : IsPart vu hi)
    (h : Q (((sIx n 0 lo : Nat) : Int), 1, sIx n n hi - sIx n 0 lo) s) : wpAny (model prog w) A (Builtin.Slice.sliceApplied (.ref sl) (pure (n : Int))) Q E s := by
  obtain ⟨os, hos, hcs, hds⟩ := id hs
  unfold Builtin.Slice.sliceApplied Builtin.Slice.sliceFields
  refine wpAny_bind (wpAny_bind (wpAny_field hos hds (x := vl) rfl (wpAny_bind (wpAny_field hos hds (x := vu) rfl (wpAny_bind (wpAny_field hos hds (x := .none) rfl (wpAny_pure ?_)))))))
  refine wpAny_bind (slicePart_none ?_)
  show wpAny _ _ (if ((1 : Int) == 0) = true then _ else _) _ _ s
  rw [if_neg (by decide)]
  refine wpAny_bind (slicePart_ pl (wpAny_bind (slicePart_ pu (wpAny_bind (wpAny_pure ?_)))))
  show wpAny _ _ (match Builtin.Slice.sliceAdjust lo hi 1 (n : Int) with | (lo, hi) => pure (lo, (1 : Int), Builtin.Slice.slicePlaces lo hi 1)) _ _ s
  rw [adjust_gen lo hi n]
  show wpAny _ _ (pure (((sIx n 0 lo : Nat) : Int), (1 : Int), Builtin.Slice.slicePlaces ((sIx n 0 lo : Nat) : Int) ((sIx n n hi : Nat) : Int) 1)) _ _ s
  rw [places_gen]
  exact wpAny_pure h
theorem pick_gen (xs : Array Value) (i k : Nat) : ((List.range k).filterMap fun (m : Nat) => xs[((i : Int) + (m : Int) * 1).toNat]?).toArray = ((xs.toList.drop i).take k).toArray := by
  have e : (fun (m : Nat) => xs[((i : Int) + (m : Int) * 1).toNat]?) = fun m => xs[i + m]? := by
    funext m
    have : ((i : Int) + (m : Int) * 1).toNat = i + m := by omega
    rw [this]
  rw [e]
  have := pick_run xs i k
  rw [List.filterMap_map] at this
  have e2 : ((fun x => xs[x]?) ∘ fun x => i + x) = fun m => xs[i + m]? := rfl
  rw [e2] at this
  rw [this]

theorem getItem_tuple_cut {t sl : Addr} {items : Array Value} {vl vu : Value} {lo hi : Option Int} {Q : Value → Shared → Prop} (ht : IsTup s.heap t items) (hs : s.heap.IsSliceOf sl vl vu .none) (pl : IsPart vl lo) (pu : IsPart vu hi)
    (hw : ¬ (sIx items.size 0 lo = 0 ∧ sIx items.size items.size hi = items.size))
    (h : Q (.ref s.heap.objs.size) { s with heap := s.heap.push { cls := .type "tuple", data := .seq ((items.toList.drop (sIx items.size 0 lo)).take (sIx items.size items.size hi - sIx items.size 0 lo)).toArray } })
    (hsz : items.size ≤ sizeLine) : wpAny (model prog w) A (getItem (.ref t) (.ref sl)) Q E s := by
  have htake : sizeOk (.seq ((items.toList.drop (sIx items.size 0 lo)).take (sIx items.size items.size hi - sIx items.size 0 lo)).toArray) := by
    show ((items.toList.drop (sIx items.size 0 lo)).take (sIx items.size items.size hi - sIx items.size 0 lo)).toArray.size ≤ sizeLine
    rw [List.size_toArray, List.length_take, List.length_drop, Array.length_toList]
    omega
  have hj : sIx items.size items.size hi ≤ items.size := sIx_le _ _ (Nat.le_refl _) hi
  obtain ⟨os, hos, hcs, hds⟩ := id hs
  have hTs : s.TypeIs (.ref sl) "slice" := ⟨os, hos, hcs⟩
  unfold getItem
  try with_reducible refine wpAny_holding ?_
  first | refine wpAny_bind (wpAny_pure ?_) | skip
  refine wpAny_bind (wpAny_sequenceKey ht.typeIs (by decide) ?_)
  refine wpAny_bind (wpAny_callSpecial?_slot (name := Str.ofString "__getitem__") ht.typeIs PyProof.Rows.slot_tuple_getitem
    (wpAny_call_entry PyProof.Rows.slot_tuple_getitem ht.typeIs entry_tuple_getitem ?_ (args_tuple_getitem _ _)))
  show wpAny _ _ (Builtin.Tuple.tupleItemsOf (.ref t) >>= _) _ _ s
  refine wpAny_bind (tupleItemsOf_ ht ?_)
  refine wpAny_bind (wpAny_typeOf hTs ?_)
  rw [if_pos (by decide)]
  refine wpAny_bind (sliceApplied_gen hs pl pu ?_)
  have hno : ¬ ((((sIx items.size 0 lo : Nat) : Int) == 0 && (1 : Int) == 1 && (sIx items.size items.size hi - sIx items.size 0 lo) == items.size) = true) := by
    intro q
    rw [Bool.and_eq_true, Bool.and_eq_true] at q
    have q1 : ((sIx items.size 0 lo : Nat) : Int) = 0 := eq_of_beq q.1.1
    have q2 : sIx items.size items.size hi - sIx items.size 0 lo = items.size := eq_of_beq q.2
    exact hw ⟨by omega, by omega⟩
  show wpAny _ _ (if (((sIx items.size 0 lo : Nat) : Int) == 0 && (1 : Int) == 1 && (sIx items.size items.size hi - sIx items.size 0 lo) == items.size) = true then _ else _) _ _ s
  rw [if_neg hno, pick_gen]
  first
    | exact wpAny_bind (m := Builtin.Tuple.tupleExact _) (wpAny_newObj_type (wpAny_pure ⟨_, rfl, wpAny_pure h⟩) htake)
    | exact wpAny_bind (m := Builtin.Tuple.tupleExact _) (wpAny_newObj_type (wpAny_bind (wpAny_pure (wpAny_pure ⟨_, rfl, wpAny_pure h⟩))) htake)
    | exact wpAny_bind (wpAny_bind (m := Builtin.Tuple.tupleExact _) (wpAny_newObj_type (wpAny_pure (wpAny_pure ⟨_, rfl, wpAny_pure h⟩)) htake))
    | exact wpAny_bind (wpAny_bind (m := Builtin.Tuple.tupleExact _) (wpAny_newObj_type (wpAny_pure ⟨_, rfl, wpAny_pure h⟩) htake))
end
end HT

namespace L2
open PySem PySem.Spec PyProof.Rows

/-! ### the parts of a slice -/
abbrev TO := St → Hp → (Option Int → Hp → Prop) → Prop
/-- a slice's part (left out, or an int) -/
def PO (X : Cx) (e : Option Expr) (t : TO) : Prop :=
  ∀ (pins : List (Addr × Obj)) (s : Shared) (σ : St) (H : Hp) (Q : Option Int → Hp → Prop), Inv X pins σ H s → t σ H Q →
    wpAny (model X.prog X.w) X.A (evalPart e X.env) (fun u s' => ∃ o H', Inv X pins σ H' s' ∧ IsPart u o ∧ Q o H') X.xe s
def tNoPart : TO := fun _ H Q => Q none H
def tPart (t : TE) : TO := fun σ H Q => t σ H fun x H1 => ∃ i, x = .int i ∧ Q (some i) H1

theorem intsAre_of {ns : List Int} : ∀ {us : List Value}, Vals (ns.map V.int) us → IntsAre us ns := by
  induction ns with
  | nil => intro us r; rw [List.map_nil] at r; cases r; exact .nil
  | cons n ns ih =>
    intro us r
    rw [List.map_cons] at r
    cases r with
    | cons r1 r2 =>
      obtain ⟨t, e⟩ := r1
      subst e
      exact .cons n t (ih r2)

section
variable {X : Cx} {e : Expr} {te : TE} {lo hi : Option Expr} {tl th : TO} {pos p2 : Pos}

theorem po_none : PO X none tNoPart := by
  intro pins s σ H Q I h
  rw [evalPart_none]
  exact wpAny_pure ⟨none, H, I, .none, h⟩
theorem po_some (h : PE X e te) : PO X (some e) (tPart te) := by
  intro pins s σ H Q I hw
  rw [evalPart_some]
  refine thn (h pins s σ H _ I hw) fun u s1 ⟨x, H1, I1, r1, q1⟩ => ?_
  obtain ⟨i, rfl, q⟩ := q1
  obtain ⟨t, rfl⟩ := r1
  exact ⟨some i, H1, I1, .int i t, q⟩

/-- what a slice of a value is, by values: the slice object stands at sl -/
def SlR (X : Cx) (r : V → Option Int → Option Int → Hp → VK → Prop) : Prop :=
  ∀ (pins : List (Addr × Obj)) (s : Shared) (σ : St) (H : Hp) (x : V) (v vl vu : Value) (lo hi : Option Int) (sl : Addr) (Q : VK), Inv X pins σ H s → RelV x v → s.heap.IsSliceOf sl vl vu .none → IsPart vl lo → IsPart vu hi → r x lo hi H Q →
    ∃ T id, typeLookup (.type T) "__getitem__" = pure (some (.builtin id)) ∧ s.TypeIs v T ∧ wpAny (model X.prog X.w) X.A (getItem v (.ref sl)) (EP X pins σ Q) X.xe s
theorem SlR.or {r r' : V → Option Int → Option Int → Hp → VK → Prop} (h : SlR X r) (h' : SlR X r') : SlR X (fun x lo hi H Q => r x lo hi H Q ∨ r' x lo hi H Q) := by
  intro pins s σ H x v vl vu lo hi sl Q I rx hs pl pu q
  rcases q with q | q
  · exact h pins s σ H x v vl vu lo hi sl Q I rx hs pl pu q
  · exact h' pins s σ H x v vl vu lo hi sl Q I rx hs pl pu q
def tSl (r : V → Option Int → Option Int → Hp → VK → Prop) (te : TE) (tl th : TO) : TE := fun σ H Q => te σ H fun x H1 => tl σ H1 fun l H2 => th σ H2 fun u H3 => r x l u H3 Q
/-- a[lo:hi], any a -/
theorem pe_slice {r : V → Option Int → Option Int → Hp → VK → Prop} (hr : SlR X r) (he : PE X e te) (hl : PO X lo tl) (hu : PO X hi th) : PE X (.Subscript e (.Slice lo hi none p2) pos) (tSl r te tl th) := by
  intro pins s σ H Q I h
  refine Subscript_ (thn (he pins s σ H _ I h) fun v s1 ⟨x, H1, I1, r1, q1⟩ => ?_)
  refine wpAny_Slice (thn (hl pins s1 σ H1 _ I1 q1) fun vl s2 ⟨l, H2, I2, pl, q2⟩ => thn (hu pins s2 σ H2 _ I2 q2) fun vu s3 ⟨u, H3, I3, pu, q3⟩ => ?_)
  rw [evalPart_none]
  refine wpAny_pure ?_
  have I4 : Inv X pins σ H3 { s3 with heap := s3.heap.push { cls := .type "slice", data := .fields #[vl, vu, .none] } } := I3.kept (t' := s3.toks) fun b ob q => Heap.get?_push_of_some _ q
  obtain ⟨T, id, hT, ht, hg⟩ := hr pins { s3 with heap := s3.heap.push { cls := .type "slice", data := .fields #[vl, vu, .none] } } σ H3 x v vl vu l u s3.heap.objs.size Q I4 r1 (Heap.IsSliceOf.new ..) pl pu q3
  show wpAny (model X.prog X.w) X.A (subscriptTail e (.Slice lo hi none p2) v (.ref s3.heap.objs.size)) (EP X pins σ Q) X.xe { s3 with heap := s3.heap.push { cls := .type "slice", data := .fields #[vl, vu, .none] } }
  exact tail_any (ops := [.ref s3.heap.objs.size, v]) ht hT hg (by with_unfolding_all rfl)

/-- the items of xs[lo:hi] -/
def cutV (xs : List V) (lo hi : Option Int) : List V := (xs.drop (HT.sIx xs.length 0 lo)).take (HT.sIx xs.length xs.length hi - HT.sIx xs.length 0 lo)
theorem cutV_length (xs : List V) (lo hi : Option Int) : (cutV xs lo hi).length ≤ xs.length := by
  unfold cutV
  rw [List.length_take, List.length_drop]
  omega
/-- t[lo:hi], not the whole of it (the whole would be t itself) -/
def rSlT (K : PySem.W.Frag) : V → Option Int → Option Int → Hp → VK → Prop := fun x lo hi H Q => ∃ a xs, x = .ref a ∧ SqT K H a xs ∧
  ¬ (HT.sIx xs.length 0 lo = 0 ∧ HT.sIx xs.length xs.length hi = xs.length) ∧ ∀ p, H p = none → Q (.ref p) (upd H p (.tup (cutV xs lo hi)))
theorem sl_tup : SlR X (rSlT X.K) := by
  intro pins s σ H x v vl vu lo hi sl Q I rx hs pl pu h
  obtain ⟨a, xs, rfl, hx, hw, q⟩ := h
  cases rx
  obtain ⟨its, r, ht, hz⟩ := I.tuple hx
  have hlen : its.toArray.size = xs.length := by rw [List.size_toArray]; exact r.length.symm
  refine ⟨"tuple", _, PyProof.Rows.slot_tuple_getitem.lookup, ht.typeIs, ?_⟩
  refine HT.getItem_tuple_cut ht hs pl pu (by rw [hlen]; exact hw) ?_ (by rw [hlen]; exact hz)
  rw [hlen]
  refine ⟨.ref s.heap.objs.size, _, I.laid (t' := s.toks) (o := .tup (cutV xs lo hi)) (fun b ob q => Heap.get?_push_of_some _ q) (Nat.le_refl _) ?_, rfl, q _ (I.hok.fresh (Nat.le_refl _))⟩
  exact ⟨Nat.le_trans (cutV_length xs lo hi) hz, _, (r.drop (HT.sIx xs.length 0 lo)).take (HT.sIx xs.length xs.length hi - HT.sIx xs.length 0 lo), IsTup.new _ _⟩

/-! ### t < u, t + u -/
def rLtT (K : PySem.W.Frag) : R2 := fun x y H Q => ∃ a b ns ms, x = .ref a ∧ y = .ref b ∧ SqT K H a (ns.map V.int) ∧ SqT K H b (ms.map V.int) ∧ Q (.bl (HT.lexLt ns ms)) H
theorem op_ltT (hu : X.A.units < cLine) : OpR X (compareOp .Lt) (rLtT X.K) := by
  intro pins s σ H x y v u Q I rx ry h
  obtain ⟨a, b, ns, ms, rfl, rfl, ha, hb, q⟩ := h
  cases rx
  cases ry
  obtain ⟨its, r1, p1, _⟩ := I.tuple ha
  obtain ⟨its2, r2, p2, _⟩ := I.tuple hb
  have i1 : IntsAre its.toArray.toList ns := intsAre_of r1
  have i2 : IntsAre its2.toArray.toList ms := intsAre_of r2
  exact HT.lt_tupInts p1 p2 i1 i2 hu ⟨.bl (HT.lexLt ns ms), H, I, rfl, q⟩
/-- t + u, t not empty: u empty gives t itself -/
def rCatT (K : PySem.W.Frag) : R2 := fun x y H Q => ∃ a b xs ys, x = .ref a ∧ y = .ref b ∧ SqT K H a xs ∧ SqT K H b ys ∧ xs ≠ [] ∧ xs.length + ys.length ≤ sizeLine ∧
  (ys = [] → Q (.ref a) H) ∧ (ys ≠ [] → ∀ p, H p = none → Q (.ref p) (upd H p (.tup (xs ++ ys))))
theorem Vals.nil_iff {xs : List V} {us : List Value} (r : Vals xs us) : us = [] ↔ xs = [] := by
  cases r with
  | nil => simp
  | cons _ _ => simp
theorem op_catT : OpR X (binaryOp .Add) (rCatT X.K) := by
  intro pins s σ H x y v u Q I rx ry h
  obtain ⟨a, b, xs, ys, rfl, rfl, ha, hb, hx, hz, q1, q2⟩ := h
  cases rx
  cases ry
  obtain ⟨its, r1, p1, _⟩ := I.tuple ha
  obtain ⟨its2, r2, p2, _⟩ := I.tuple hb
  refine HT.cat_tup p1 p2 (fun z => hx (r1.nil_iff.mp z)) (fun z => ⟨.ref a, H, I, rfl, q1 (r2.nil_iff.mp z)⟩) (fun z => ?_) (by rw [← r1.length, ← r2.length]; exact hz)
  refine ⟨.ref s.heap.objs.size, _, I.laid (t' := s.toks) (o := .tup (xs ++ ys)) (fun b ob q => Heap.get?_push_of_some _ q) (Nat.le_refl _) ?_, rfl, q2 (fun w => z (r2.nil_iff.mpr w)) _ (I.hok.fresh (Nat.le_refl _))⟩
  exact ⟨by rw [List.length_append]; exact hz, _, r1.append r2, IsTup.new _ _⟩
/-- tuple(t) -/
theorem call_tupleT : CallR X (.type "tuple") (fun xs H Q => ∃ a ys, xs = [.ref a] ∧ SqT X.K H a ys ∧ Q (.ref a) H) := by
  intro pins s σ H xs us Q I r h
  obtain ⟨a, ys, rfl, ha, q⟩ := h
  obtain ⟨u, rfl, ru⟩ := vals1 r
  cases ru
  obtain ⟨its, _, p1, _⟩ := I.tuple ha
  exact call_tuple_same (items := its.toArray) p1 ⟨.ref a, H, I, rfl, q⟩
end
end L2

namespace L2
open PySem PySem.Spec PyProof.Rows

/-! ### places -/
/-- the place that an index of any sign means -/
def ixN (n : Nat) (i : Int) : Option Nat := if 0 ≤ i then (if i < n then some i.toNat else none) else if -(n : Int) ≤ i then some (i + n).toNat else none
def atI {α : Type} (xs : List α) (i : Int) : Option α := (ixN xs.length i).bind fun j => xs[j]?
theorem ixN_seq {n : Nat} {i : Int} {j : Nat} (h : ixN n i = some j) : seqIndex? i n = some j ∧ j < n ∧ -(n : Int) ≤ i ∧ i < n := by
  unfold ixN at h
  by_cases h0 : 0 ≤ i
  · rw [if_pos h0] at h
    by_cases h1 : i < n
    · rw [if_pos h1] at h
      have e : i.toNat = j := Option.some.inj h
      exact ⟨by rw [seqIndex_of h0 h1, e], by omega, by omega, h1⟩
    · rw [if_neg h1] at h; cases h
  · rw [if_neg h0] at h
    by_cases h1 : -(n : Int) ≤ i
    · rw [if_pos h1] at h
      have e : (i + n).toNat = j := Option.some.inj h
      exact ⟨by rw [seqIndex_neg (by omega) h1, e], by omega, h1, by omega⟩
    · rw [if_neg h1] at h; cases h
theorem atI_get {α : Type} {xs : List α} {i : Int} {v : α} (h : atI xs i = some v) : ∃ j, seqIndex? i xs.length = some j ∧ xs[j]? = some v ∧ j < xs.length ∧ -(xs.length : Int) ≤ i ∧ i < xs.length := by
  unfold atI at h
  cases e : ixN xs.length i with
  | none => rw [e] at h; cases h
  | some j =>
    rw [e] at h
    obtain ⟨h1, h2, h3, h4⟩ := ixN_seq e
    exact ⟨j, h1, h, h2, h3, h4⟩
theorem atI_nat {α : Type} {xs : List α} {j : Nat} {v : α} (h : xs[j]? = some v) : atI xs (j : Int) = some v := by
  have hj : j < xs.length := (List.getElem?_eq_some_iff.mp h).1
  have e : ixN xs.length (j : Int) = some j := by
    unfold ixN
    rw [if_pos (by omega), if_pos (by omega)]; simp
  unfold atI; rw [e]; exact h
theorem atI_last {α : Type} (xs : List α) (v : α) : atI (xs ++ [v]) (-1) = some v := by
  have hl : (xs ++ [v]).length = xs.length + 1 := by simp
  have e : ixN (xs ++ [v]).length (-1) = some xs.length := by
    unfold ixN
    rw [hl, if_neg (by decide), if_pos (by omega)]
    congr 1
    omega
  unfold atI
  rw [e]
  show (xs ++ [v])[xs.length]? = some v
  simp

/-! ### what may be subscripted -/
/-- what stands as an index of a plain subscript -/
def PlainIx (b : Expr) : Prop := ∀ o i, subscripted b false o i = operate [o, i] (getItem o i)
/-- a subscript by values -/
def IxR (X : Cx) (r : R2) : Prop :=
  ∀ (value slice : Expr) (pins : List (Addr × Obj)) (s : Shared) (σ : St) (H : Hp) (x y : V) (v u : Value) (Q : VK), Inv X pins σ H s → RelV x v → RelV y u → r x y H Q →
    subscripted slice false v u = operate [v, u] (getItem v u) → wpAny (model X.prog X.w) X.A (subscriptTail value slice v u) (EP X pins σ Q) X.xe s
/-- a call of a builtin's method by values: the receiver, the arguments -/
def MtR (X : Cx) (id : String) (r : V → List V → Hp → VK → Prop) : Prop :=
  ∀ (pins : List (Addr × Obj)) (s : Shared) (σ : St) (H : Hp) (x : V) (xs : List V) (v : Value) (us : List Value) (Q : VK), Inv X pins σ H s → RelV x v → Vals xs us → r x xs H Q →
    wpAny (model X.prog X.w) X.A (call (.builtin id) (v :: us)) (EP X pins σ Q) X.xe s
section
variable {X : Cx} {a b : Expr} {ta tb : TE} {pos : Pos}
theorem IxR.or {r r' : R2} (h : IxR X r) (h' : IxR X r') : IxR X (fun x y H Q => r x y H Q ∨ r' x y H Q) := by
  intro value slice pins s σ H x y v u Q I rx ry q hs
  rcases q with q | q
  · exact h value slice pins s σ H x y v u Q I rx ry q hs
  · exact h' value slice pins s σ H x y v u Q I rx ry q hs
theorem MtR.or {id : String} {r r' : V → List V → Hp → VK → Prop} (h : MtR X id r) (h' : MtR X id r') : MtR X id (fun x xs H Q => r x xs H Q ∨ r' x xs H Q) := by
  intro pins s σ H x xs v us Q I rx rs q
  rcases q with q | q
  · exact h pins s σ H x xs v us Q I rx rs q
  · exact h' pins s σ H x xs v us Q I rx rs q
/-- a[b] -/
theorem pe_ix {r : R2} (hr : IxR X r) (ha : PE X a ta) (hb : PE X b tb) (hs : PlainIx b) : PE X (.Subscript a b pos) (tOp r ta tb) := by
  intro pins s σ H Q I h
  exact Subscript_ (binT ha hb I h fun v u s2 x y H2 I2 rx ry q => hr a b pins s2 σ H2 x y v u Q I2 rx ry q (hs _ _))

def rIxL (K : PySem.W.Frag) : R2 := fun x y H Q => ∃ p xs i v, x = .ref p ∧ y = .int i ∧ SqL K H p xs ∧ atI xs i = some v ∧ Q v H
def rIxT (K : PySem.W.Frag) : R2 := fun x y H Q => ∃ p xs i v, x = .ref p ∧ y = .int i ∧ SqT K H p xs ∧ atI xs i = some v ∧ Q v H
def rIxS : R2 := fun x y H Q => ∃ z i c, x = .str z ∧ y = .int i ∧ z.length ≤ sizeLine ∧ atI z.cps.toList i = some c ∧ Q (.str ⟨#[c]⟩) H
theorem ix_list : IxR X (rIxL X.K) := by
  intro value slice pins s σ H x y v u Q I rx ry h hs
  obtain ⟨p, xs, i, z, rfl, rfl, hq, he, q⟩ := h
  cases rx
  obtain ⟨t, rfl⟩ := ry
  obtain ⟨its, r, pl, hz⟩ := I.list hq
  obtain ⟨j, h1, h2, h3, h4, h5⟩ := atI_get he
  obtain ⟨w, ew, rw'⟩ := r.get h2
  have hl := r.length
  have hn := line63
  have fin : EP X pins σ Q w s := ⟨z, H, I, rw', q⟩
  by_cases h0 : 0 ≤ i
  · have hj : i.toNat = j := by
      rw [seqIndex_of h0 h5] at h1
      exact Option.some.inj h1
    exact item_listR pl.isList h0 (by omega) (by rw [hj]; simpa using ew) fin hs
  · have hj : (i + (its.toArray.size : Int)).toNat = j := by
      rw [seqIndex_neg (by omega) h4] at h1
      rw [List.size_toArray, ← hl]
      exact Option.some.inj h1
    exact subscriptTail_builtinR (x := w) pl.isList.typeIs slot_list_getitem.lookup
      (wpAny_getItem_list_neg (Q := fun r s' => r = w ∧ EP X pins σ Q r s') pl.isList (by omega) (by rw [List.size_toArray] <;> omega) (by omega) (by rw [hj]; simpa using ew) ⟨rfl, fin⟩) hs
theorem ix_tup : IxR X (rIxT X.K) := by
  intro value slice pins s σ H x y v u Q I rx ry h hs
  obtain ⟨p, xs, i, z, rfl, rfl, hq, he, q⟩ := h
  cases rx
  obtain ⟨t, rfl⟩ := ry
  obtain ⟨its, r, pl, hz⟩ := I.tuple hq
  obtain ⟨j, h1, h2, h3, h4, h5⟩ := atI_get he
  obtain ⟨w, ew, rw'⟩ := r.get h2
  have hl := r.length
  have hn := line63
  have fin : EP X pins σ Q w s := ⟨z, H, I, rw', q⟩
  exact subscriptTail_builtinR (x := w) pl.typeIs slot_tuple_getitem.lookup
    (getItem_tuple (j := j) (Q := fun r s' => r = w ∧ EP X pins σ Q r s') pl (by omega) (by omega) (by rw [List.size_toArray, ← hl]; exact h1) (by simpa using ew) ⟨rfl, fin⟩) hs
theorem ix_str : IxR X rIxS := by
  intro value slice pins s σ H x y v u Q I rx ry h hs
  obtain ⟨z, i, c, rfl, rfl, hz, he, q⟩ := h
  obtain ⟨t, rfl⟩ := rx
  obtain ⟨t', rfl⟩ := ry
  obtain ⟨j, h1, h2, h3, h4, h5⟩ := atI_get he
  have hl : z.cps.toList.length = z.length := by simp [Str.length]
  rw [hl] at h1 h4 h5
  have hn := line63
  exact tail_any (typeIs_str s z t) slot_str_getitem.lookup (getItem_str (c := c) (by
    have e1 : decide (i < -(2 ^ 63 : Int)) = false := decide_eq_false (by omega)
    have e2 : decide (i ≥ 2 ^ 63) = false := decide_eq_false (by omega)
    rw [e1, e2, Bool.or_false]) (by rw [h1]; simpa using h2) ⟨.str ⟨#[c]⟩, H, I.tok _, ⟨_, rfl⟩, q⟩) hs
/-- list, tuple or str -/
def rIx (K : PySem.W.Frag) : R2 := fun x y H Q => rIxL K x y H Q ∨ rIxT K x y H Q ∨ rIxS x y H Q
theorem ix_seq : IxR X (rIx X.K) := ix_list.or (ix_tup.or ix_str)

/-! ### xs[i] = v, any sign -/
/-- the list's object behind a store -/
theorem mapSeq_set (its : List Value) (n j : Nat) (u : Value) : Obj.mapSeq (·.setIfInBounds j u) { cls := .type "list", data := .seq its.toArray n } = { cls := .type "list", data := .seq (its.set j u).toArray n } := by
  simp [Obj.mapSeq]
theorem Inv.lst {pins : List (Addr × Obj)} {σ : St} {H : Hp} {s : Shared} {p : Addr} {xs : List V} (I : Inv X pins σ H s) (h : H p = some (.lst xs)) :
    ∃ (its : List Value) (n : Nat), Vals xs its ∧ s.heap.get? p = some { cls := .type "list", data := .seq its.toArray n } ∧ xs.length ≤ sizeLine := by
  obtain ⟨z, its, n, r, e⟩ := I.hok p _ h
  exact ⟨its, n, r, e, z⟩
/-- the list at p is written by an update of its object -/
theorem Inv.lstUpd {pins : List (Addr × Obj)} {σ : St} {H : Hp} {s : Shared} {p : Addr} {xs ys : List V} {its its' : List Value} {n n' : Nat} {f : Obj → Obj} (I : Inv X pins σ H s) (h : H p = some (.lst xs))
    (ho : s.heap.get? p = some { cls := .type "list", data := .seq its.toArray n }) (hf : f { cls := .type "list", data := .seq its.toArray n } = { cls := .type "list", data := .seq its'.toArray n' }) (r : Vals ys its') (hz : ys.length ≤ sizeLine) (t : Nat) :
    Inv X pins σ (upd H p (.lst ys)) { s with heap := s.heap.update p f, toks := t } := by
  have e : (s.heap.update p f).get? p = some { cls := .type "list", data := .seq its'.toArray n' } := by
    rw [Heap.get?_update_self f ho (by rw [hf] <;> rfl), hf]
  refine I.write (x := p) (e := p) (by rw [h]; trivial) (.inl rfl) (fun b u hb q => (Heap.get?_update_other _ _ (Ne.symm hb)).trans q) ⟨_, e⟩ ?_
  exact ⟨hz, its', n', r, e⟩
def rSetL : V → V → V → Hp → (Hp → Prop) → Prop := fun o i v H Q => ∃ p xs k j, o = .ref p ∧ i = .int k ∧ H p = some (.lst xs) ∧ ixN xs.length k = some j ∧ Q (upd H p (.lst (xs.set j v)))
theorem set_list : PSet X rSetL := by
  intro pins s σ H o i v ov iv u Q I ro ri rv h
  obtain ⟨p, xs, k, j, rfl, rfl, hp, hj, q⟩ := h
  cases ro
  obtain ⟨t, rfl⟩ := ri
  obtain ⟨its, n, r, ho, hz⟩ := I.lst hp
  obtain ⟨h1, h2, h3, h4⟩ := ixN_seq hj
  have hl := r.length
  have hn := line63
  have I' : Inv X pins σ (upd H p (.lst (xs.set j v))) { s with heap := s.heap.update p (Obj.mapSeq (·.setIfInBounds j u)) } :=
    I.lstUpd hp ho (mapSeq_set its n j u) (r.set rv j) (by rw [List.length_set]; exact hz) s.toks
  by_cases h0 : 0 ≤ k
  · have hk : k.toNat = j := by
      rw [seqIndex_of h0 h4] at h1
      exact Option.some.inj h1
    exact PySem.W.ki_setAt ho h0 (by omega) (by rw [List.size_toArray, ← hl]; exact h4) (by rw [hk]; exact ⟨_, I', q⟩)
  · have hk : (k + (its.toArray.size : Int)).toNat = j := by
      rw [seqIndex_neg (by omega) h3] at h1
      rw [List.size_toArray, ← hl]
      exact Option.some.inj h1
    exact PySem.W.ki_setBack ho (by omega) (by rw [List.size_toArray, ← hl]; exact h3) (by omega) (by rw [hk]; exact ⟨_, I', q⟩)

/-! ### slices -/
theorem slice_bounds (lo hi : Option Int) (n : Nat) : (sliceBounds lo hi none n).1 = ((HT.sIx n 0 lo : Nat) : Int) ∧ (sliceBounds lo hi none n).2.1 = ((HT.sIx n n hi : Nat) : Int) ∧ (sliceBounds lo hi none n).2.2 = 1 := by
  refine ⟨?_, ?_, rfl⟩
  · cases lo with
    | none => simp [sliceBounds, HT.sIx]
    | some i =>
      simp only [sliceBounds, HT.sIx, Option.getD_none, show (1 : Int) > 0 by decide, if_true]
      by_cases h : i < 0
      · simp only [h, if_true] <;> omega
      · simp only [h, if_false] <;> omega
  · cases hi with
    | none => simp [sliceBounds, HT.sIx]
    | some i =>
      simp only [sliceBounds, HT.sIx, Option.getD_none, show (1 : Int) > 0 by decide, if_true]
      by_cases h : i < 0
      · simp only [h, if_true] <;> omega
      · simp only [h, if_false] <;> omega
theorem slicePick_cut (its : List Value) (lo hi : Option Int) : slicePick its.toArray lo hi none = ((its.drop (HT.sIx its.length 0 lo)).take (HT.sIx its.length its.length hi - HT.sIx its.length 0 lo)).toArray := by
  obtain ⟨h1, h2, h3⟩ := slice_bounds lo hi its.toArray.size
  unfold slicePick
  rw [h1, h2, h3]
  simp only [sliceRange_one, pick_run, List.size_toArray] <;> rfl
/-- xs[lo:hi] of a list: a new list -/
def rSlL (K : PySem.W.Frag) : V → Option Int → Option Int → Hp → VK → Prop := fun x lo hi H Q => ∃ a xs, x = .ref a ∧ SqL K H a xs ∧ ∀ p, H p = none → Q (.ref p) (upd H p (.lst (cutV xs lo hi)))
theorem sl_list : SlR X (rSlL X.K) := by
  intro pins s σ H x v vl vu lo hi sl Q I rx hs pl pu h
  obtain ⟨a, xs, rfl, hx, q⟩ := h
  cases rx
  obtain ⟨its, r, ht, hz⟩ := I.list hx
  have hlen := r.length
  refine ⟨"list", _, slot_list_getitem.lookup, ht.isList.typeIs, ?_⟩
  refine wpAny_getItem_list_slice ht.isList hs pl pu .none (by simp) ?_ (by rw [List.size_toArray] <;> omega)
  rw [slicePick_cut, ← hlen]
  refine ⟨.ref s.heap.objs.size, _, I.laid (t' := s.toks) (o := .lst (cutV xs lo hi)) (fun b ob q => Heap.get?_push_of_some _ q) (Nat.le_refl _) ?_, rfl, q _ (I.hok.fresh (Nat.le_refl _))⟩
  exact ⟨Nat.le_trans (cutV_length xs lo hi) hz, _, 0, (r.drop (HT.sIx xs.length 0 lo)).take (HT.sIx xs.length xs.length hi - HT.sIx xs.length 0 lo), Heap.get?_push_size _ rfl⟩

/-! ### in, not in: flat items -/
def flatV : V → Bool
  | .non => true
  | .bl _ => true
  | .int _ => true
  | .str _ => true
  | _ => false
/-- == of flat values -/
def eqV : V → V → Bool
  | .non, .non => true
  | .bl a, .bl b => a == b
  | .bl a, .int b => (if a then 1 else 0) == b
  | .int a, .bl b => a == (if b then 1 else 0)
  | .int a, .int b => a == b
  | .str a, .str b => a == b
  | _, _ => false
theorem eqAt_V {A : Around} {s : Shared} {y x : V} {u v : Value} (ry : RelV y u) (rx : RelV x v) (fy : flatV y = true) (fx : flatV x = true) : SeqAt.EqAt A s u v (eqV y x) := by
  cases y with
  | non =>
    cases ry
    cases x with
    | non => cases rx; exact SeqAt.EqAt.same _
    | bl b => cases rx; exact SeqAt.EqAt.none_bool b
    | int b => obtain ⟨t, rfl⟩ := rx; exact SeqAt.EqAt.none_int b t
    | str b => obtain ⟨t, rfl⟩ := rx; exact SeqAt.EqAt.none_str b t
    | _ => exact absurd (show false = true from fx) Bool.false_ne_true
  | bl a =>
    cases ry
    cases x with
    | non => cases rx; exact SeqAt.EqAt.bool_none a
    | bl b => cases rx; exact SeqAt.EqAt.bool_bool a b
    | int b => obtain ⟨t, rfl⟩ := rx; exact SeqAt.EqAt.bool_int a b t
    | str b => obtain ⟨t, rfl⟩ := rx; exact SeqAt.EqAt.bool_str a b t
    | _ => exact absurd (show false = true from fx) Bool.false_ne_true
  | int a =>
    obtain ⟨t', rfl⟩ := ry
    cases x with
    | non => cases rx; exact SeqAt.EqAt.int_none a t'
    | bl b => cases rx; exact SeqAt.EqAt.int_bool a t' b
    | int b => obtain ⟨t, rfl⟩ := rx; exact SeqAt.EqAt.int_int a t' b t
    | str b => obtain ⟨t, rfl⟩ := rx; exact SeqAt.EqAt.int_str a t' b t
    | _ => exact absurd (show false = true from fx) Bool.false_ne_true
  | str a =>
    obtain ⟨t', rfl⟩ := ry
    cases x with
    | non => cases rx; exact SeqAt.EqAt.str_none a t'
    | bl b => cases rx; exact SeqAt.EqAt.str_bool a t' b
    | int b => obtain ⟨t, rfl⟩ := rx; exact SeqAt.EqAt.str_int a t' b t
    | str b => obtain ⟨t, rfl⟩ := rx; exact SeqAt.EqAt.str_str a t' b t
    | _ => exact absurd (show false = true from fx) Bool.false_ne_true
  | _ => exact absurd (show false = true from fy) Bool.false_ne_true
/-- the items' answers, read off the values (a value's own answer does not lean on its token) -/
def eqU (x : V) (u : Value) : Bool := match u with
  | .none => eqV .non x
  | .bool b => eqV (.bl b) x
  | .int i _ => eqV (.int i) x
  | .str z _ => eqV (.str z) x
  | _ => false
theorem eqU_of {x y : V} {u : Value} (r : RelV y u) (f : flatV y = true) : eqU x u = eqV y x := by
  cases y with
  | non => cases r; rfl
  | bl b => cases r; rfl
  | int i => obtain ⟨t, rfl⟩ := r; rfl
  | str z => obtain ⟨t, rfl⟩ := r; rfl
  | _ => exact absurd (show false = true from f) Bool.false_ne_true
theorem any_eqU {x : V} : ∀ {xs : List V} {us : List Value}, Vals xs us → xs.all flatV = true → us.any (eqU x) = xs.any fun y => eqV y x
  | _, _, .nil, _ => rfl
  | y :: xs, u :: us, .cons r t, f => by
    rw [List.all_cons, Bool.and_eq_true] at f
    rw [List.any_cons, List.any_cons, eqU_of r f.1, any_eqU t f.2]
theorem mem_eqAt {A : Around} {s : Shared} {x : V} {v : Value} (rx : RelV x v) (fx : flatV x = true) : ∀ {xs : List V} {us : List Value}, Vals xs us → xs.all flatV = true → ∀ u ∈ us, SeqAt.EqAt A s u v (eqU x u)
  | _, _, .nil, _ => fun u hu => by cases hu
  | y :: xs, u :: us, .cons r t, f => fun u' hu => by
    rw [List.all_cons, Bool.and_eq_true] at f
    rcases List.mem_cons.mp hu with rfl | hu
    · rw [eqU_of r f.1]; exact eqAt_V r rx f.1 fx
    · exact mem_eqAt rx fx t f.2 u' hu
def inV (x : V) (xs : List V) : Bool := xs.any fun y => eqV y x
/-- x in a list or tuple of flat items -/
def rIn (K : PySem.W.Frag) (neg : Bool) : R2 := fun x y H Q => ∃ p xs, y = .ref p ∧ (SqL K H p xs ∨ SqT K H p xs) ∧ flatV x = true ∧ xs.all flatV = true ∧ Q (.bl (if neg then !inV x xs else inV x xs)) H
theorem op_in_seq : OpR X (compareOp .In) (rIn X.K false) := by
  intro pins s σ H x y v u Q I rx ry h
  obtain ⟨p, xs, rfl, hq, fx, fs, q⟩ := h
  cases ry
  rcases hq with hq | hq
  · obtain ⟨its, r, pl, hz⟩ := I.list hq
    refine SeqAt.in_listAt (eqU x) pl.isList (fun w hw => mem_eqAt rx fx r fs w (by simpa using hw)) ⟨.bl _, H, I, rfl, ?_⟩
    rw [show its.toArray.any (eqU x) = its.any (eqU x) by simp, any_eqU r fs]
    exact q
  · obtain ⟨its, r, pl, hz⟩ := I.tuple hq
    refine SeqAt.in_tupleAt (eqU x) pl (fun w hw => mem_eqAt rx fx r fs w (by simpa using hw)) ⟨.bl _, H, I, rfl, ?_⟩
    rw [show its.toArray.any (eqU x) = its.any (eqU x) by simp, any_eqU r fs]
    exact q
theorem op_notIn_seq : OpR X (compareOp .NotIn) (rIn X.K true) := by
  intro pins s σ H x y v u Q I rx ry h
  obtain ⟨p, xs, rfl, hq, fx, fs, q⟩ := h
  cases ry
  rcases hq with hq | hq
  · obtain ⟨its, r, pl, hz⟩ := I.list hq
    refine SeqAt.notIn_listAt (eqU x) pl.isList (fun w hw => mem_eqAt rx fx r fs w (by simpa using hw)) ⟨.bl _, H, I, rfl, ?_⟩
    rw [show its.toArray.any (eqU x) = its.any (eqU x) by simp, any_eqU r fs]
    exact q
  · obtain ⟨its, r, pl, hz⟩ := I.tuple hq
    refine SeqAt.notIn_tupleAt (eqU x) pl (fun w hw => mem_eqAt rx fx r fs w (by simpa using hw)) ⟨.bl _, H, I, rfl, ?_⟩
    rw [show its.toArray.any (eqU x) = its.any (eqU x) by simp, any_eqU r fs]
    exact q
theorem op_notIn_str : OpR X (compareOp .NotIn) (fun x y H Q => ∃ i j, x = .str i ∧ y = .str j ∧ Q (.bl (!(!(Builtin.Str.occurrences j i 0 j.length 1).isEmpty))) H) := by
  intro pins s σ H x y v u Q I rx ry h
  obtain ⟨i, j, rfl, rfl, q⟩ := h
  obtain ⟨t, rfl⟩ := rx
  obtain ⟨t', rfl⟩ := ry
  exact notIn_str ⟨.bl _, H, I, rfl, q⟩

/-! ### len, list(x), tuple(x) of any list or tuple that is read -/
theorem call_len_seq : CallR X (.builtin "len") (fun xs H Q => ∃ p ys, xs = [.ref p] ∧ (SqL X.K H p ys ∨ SqT X.K H p ys) ∧ Q (.int ys.length) H) := by
  intro pins s σ H xs us Q I r h
  obtain ⟨p, ys, rfl, hq, q⟩ := h
  obtain ⟨u, rfl, rx⟩ := vals1 r
  cases rx
  have hn := line63
  rcases hq with hq | hq
  · obtain ⟨its, r', pl, hz⟩ := I.list hq
    have hlen := r'.length
    exact Calls.call_len_list pl.isList (by simp only [List.size_toArray] <;> omega) ⟨.int ys.length, H, I.tok _, ⟨s.toks + 1, by rw [List.size_toArray, hlen]⟩, q⟩
  · obtain ⟨its, r', pl, hz⟩ := I.tuple hq
    have hlen := r'.length
    exact len_tuple pl (by simp only [List.size_toArray] <;> omega) ⟨.int ys.length, H, I.tok _, ⟨s.toks + 1, by rw [List.size_toArray, hlen]⟩, q⟩
theorem call_len_str : CallR X (.builtin "len") (fun xs H Q => ∃ z, xs = [.str z] ∧ z.length ≤ sizeLine ∧ Q (.int z.length) H) := by
  intro pins s σ H xs us Q I r h
  obtain ⟨z, rfl, hz, q⟩ := h
  obtain ⟨u, rfl, t, rfl⟩ := vals1 r
  have hn := line63
  exact len_str (by omega) ⟨.int z.length, H, I.tok _, ⟨_, rfl⟩, q⟩
theorem CallR.or {f : Value} {r r' : List V → Hp → VK → Prop} (h : CallR X f r) (h' : CallR X f r') : CallR X f (fun xs H Q => r xs H Q ∨ r' xs H Q) := by
  intro pins s σ H xs us Q I rs q
  rcases q with q | q
  · exact h pins s σ H xs us Q I rs q
  · exact h' pins s σ H xs us Q I rs q
theorem call_list_of : CallR X (.type "list") (fun xs H Q => ∃ p ys, xs = [.ref p] ∧ (SqL X.K H p ys ∨ SqT X.K H p ys) ∧ ∀ l, H l = none → Q (.ref l) (upd H l (.lst ys))) := by
  intro pins s σ H xs us Q I r h
  obtain ⟨p, ys, rfl, hq, q⟩ := h
  obtain ⟨u, rfl, rx⟩ := vals1 r
  cases rx
  have fin : ∀ (its : List Value), Vals ys its → ys.length ≤ sizeLine → ∀ (h' : Heap) (c' : Nat), (∀ b o', s.heap.get? b = some o' → h'.get? b = some o') →
      h'.get? s.heap.objs.size = some { cls := .type "list", dict := none, data := .seq its.toArray c', slots := #[] } → EP X pins σ Q (.ref s.heap.objs.size) { s with heap := h' } := fun its r' hz h' c' kp e =>
    ⟨.ref s.heap.objs.size, _, I.laid (t' := s.toks) kp (Nat.le_refl _) (show ObjOk X.prog X.w _ h' _ (.lst ys) from ⟨hz, its, c', r', e⟩), rfl, q _ (I.hok.fresh (Nat.le_refl _))⟩
  rcases hq with hq | hq
  · obtain ⟨its, r', pl, hz⟩ := I.list hq
    have hlen := r'.length
    obtain ⟨o, ho, hc, n, hd⟩ := pl.isList
    exact call_list_seq p (.inl rfl) ho hc hd (fun h' c' kp e => fin its r' hz h' c' kp e) (by simp only [List.size_toArray] <;> omega)
  · obtain ⟨its, r', pl, hz⟩ := I.tuple hq
    have hlen := r'.length
    obtain ⟨o, ho, hc, n, hd⟩ := pl
    exact call_list_seq p (.inr rfl) ho hc hd (fun h' c' kp e => fin its r' hz h' c' kp e) (by simp only [List.size_toArray] <;> omega)
theorem call_tuple_of : CallR X (.type "tuple") (fun xs H Q => ∃ p ys, xs = [.ref p] ∧ ((SqL X.K H p ys ∧ ∀ l, H l = none → Q (.ref l) (upd H l (.tup ys))) ∨ (SqT X.K H p ys ∧ Q (.ref p) H))) := by
  intro pins s σ H xs us Q I r h
  obtain ⟨p, ys, rfl, h⟩ := h
  obtain ⟨u, rfl, rx⟩ := vals1 r
  cases rx
  rcases h with ⟨hq, q⟩ | ⟨hq, q⟩
  · obtain ⟨its, r', pl, hz⟩ := I.list hq
    have hlen := r'.length
    refine call_tuple_list pl.isList (fun h' kp => ?_) (by simp only [List.size_toArray] <;> omega)
    have I1 : Inv X pins σ H { s with heap := h' } := I.kept (t' := s.toks) kp
    have I2 : Inv X pins σ (upd H h'.objs.size (.tup ys)) { s with heap := h'.push { cls := .type "tuple", data := .seq its.toArray } } :=
      I1.laid (t' := s.toks) (fun b o e => Heap.get?_push_of_some _ e) (Nat.le_refl _) (show ObjOk X.prog X.w _ _ _ (.tup ys) from ⟨hz, its, r', IsTup.new _ _⟩)
    exact ⟨.ref h'.objs.size, _, I2, rfl, q _ (I1.hok.fresh (Nat.le_refl _))⟩
  · obtain ⟨its, r', pl, hz⟩ := I.tuple hq
    exact call_tuple_same pl ⟨.ref p, H, I, rfl, q⟩

/-! ### the call of a builtin's method: o.m(..) -/
/-- the value is of that builtin type -/
def tyV (K : PySem.W.Frag) (T : String) (x : V) (H : Hp) : Prop := match x with
  | .str _ => T = "str"
  | .int _ => T = "int"
  | .ref p => (T = "list" ∧ ∃ xs, SqL K H p xs) ∨ (T = "tuple" ∧ ∃ o, K.lookup p = some o ∧ o.cls = .type "tuple" ∧ o.dict = none) ∨
      (T = "dict" ∧ ((∃ kvs, H p = some (.dK kvs)) ∨ ∃ kvs, H p = some (.dT kvs))) ∨ (T = "set" ∧ ∃ S n, H p = some (.set S n))
  | _ => False
theorem tyV_is {pins : List (Addr × Obj)} {σ : St} {H : Hp} {s : Shared} {T : String} {x : V} {v : Value} (I : Inv X pins σ H s) (r : RelV x v) (ty : tyV X.K T x H) :
    s.TypeIs v T ∧ ∀ a, v = .ref a → ∃ ob, s.heap.get? a = some ob ∧ ob.dict = none := by
  cases x with
  | str z =>
    obtain ⟨t, rfl⟩ := r
    cases (show T = "str" from ty)
    exact ⟨typeIs_str s z t, fun _ e => nomatch e⟩
  | int i =>
    obtain ⟨t, rfl⟩ := r
    cases (show T = "int" from ty)
    exact ⟨typeIs_int s i t, fun _ e => nomatch e⟩
  | ref p =>
    cases r
    rcases ty with ⟨rfl, xs, hq⟩ | ⟨rfl, o, hk, hc, hd⟩ | ⟨rfl, hk⟩ | ⟨rfl, S, n, hk⟩
    · obtain ⟨its, _, pl, _⟩ := I.list hq
      refine ⟨pl.isList.typeIs, fun a e => ?_⟩
      cases e
      obtain ⟨o, n, e, c, hd, _⟩ := pl
      exact ⟨o, e, hd⟩
    · refine ⟨⟨o, I.kIn p o hk, hc⟩, fun a e => ?_⟩
      cases e
      exact ⟨o, I.kIn _ o hk, hd⟩
    · have z : ∃ o, s.heap.get? p = some o ∧ o.ExactDict := by
        rcases hk with ⟨kvs, hk⟩ | ⟨kvs, hk⟩
        · obtain ⟨_, _, _, _, o, _, _, e, ex, _⟩ := I.hok p _ hk
          exact ⟨o, e, ex⟩
        · obtain ⟨_, _, _, _, o, _, _, e, ex, _⟩ := I.hok p _ hk
          exact ⟨o, e, ex⟩
      obtain ⟨o, e, ex⟩ := z
      refine ⟨⟨o, e, ex.1⟩, fun a e2 => ?_⟩
      cases e2
      exact ⟨o, e, ex.2.1⟩
    · obtain ⟨o, _, _, _, e, ex, _⟩ := I.hok p _ hk
      refine ⟨⟨o, e, ex.1⟩, fun a e2 => ?_⟩
      cases e2
      exact ⟨o, e, ex.2.1⟩
  | _ => exact False.elim ty
def tBM0 (K : PySem.W.Frag) (T : String) (r : V → List V → Hp → VK → Prop) (to : TE) : TE := fun σ H Q => to σ H fun x H1 => tyV K T x H1 ∧ r x [] H1 Q
def tBM (K : PySem.W.Frag) (T : String) (r : V → List V → Hp → VK → Prop) (to : TE) (t : TA) : TE := fun σ H Q => to σ H fun x H1 => tyV K T x H1 ∧ t σ H1 fun xs H2 => r x xs H2 Q
variable {o e : Expr} {es : List Expr} {to : TE} {t : TA} {name : Str} {apos cpos : Pos} {T id : String} {r : V → List V → Hp → VK → Prop}
theorem pe_bm0 (pa : PlainAttrs T) (slot : Slot T name id) (hty : typeOf (.builtin id) = pure (.type "method_descriptor")) (hm : MtR X id r) (ho : PE X o to)
    (hbase : attributeBase o name X.env (eval o X.env) = eval o X.env := by rfl) (hline : (apos.endLine == cpos.line) = true := by rfl) : PE X (.Call (.Attribute o name apos) [] [] cpos) (tBM0 X.K T r to) := by
  intro pins s σ H Q I h
  refine wpAny_Call_method0_late hbase hline (thn (ho pins s σ H _ I h) fun v s1 ⟨x, H1, I1, r1, ty, q1⟩ => ?_)
  obtain ⟨h1, h2⟩ := tyV_is I1 r1 ty
  exact ⟨T, id, pa, slot, hty, h1, h2, Calls.callWith_builtin rfl (PySem.evalArgs_none (hm pins s1 σ H1 x [] v [] Q I1 r1 .nil q1))⟩
theorem pe_bm (pa : PlainAttrs T) (slot : Slot T name id) (hty : typeOf (.builtin id) = pure (.type "method_descriptor")) (hm : MtR X id r) (ho : PE X o to) (ha : PA X (e :: es) t)
    (hbase : attributeBase o name X.env (eval o X.env) = eval o X.env := by rfl)
    (hfew : ((backTo cpos (starEach (e :: es) X.env)).all (fun x => !x.1) && (backToKw cpos (keywordEach [] X.env)).all (fun x => x.1.isSome)
      && decide ((e :: es).length + ([] : List Keyword).length + (if ([] : List Keyword).isEmpty then 0 else 1) < 30)) = true := by rfl)
    (hline : (apos.endLine == cpos.line) = true := by rfl) (hs : starEach (e :: es) X.env = (false, eval e X.env) :: starEach es X.env := by rfl) (hplain : (backTo cpos (starEach es X.env)).any (·.1) = false := by rfl) :
    PE X (.Call (.Attribute o name apos) (e :: es) [] cpos) (tBM X.K T r to t) := by
  intro pins s σ H Q I h
  refine wpAny_Call_method_late hbase hfew hline rfl (thn (ho pins s σ H _ I h) fun v s1 ⟨x, H1, I1, r1, ty, q1⟩ => ?_)
  obtain ⟨h1, h2⟩ := tyV_is I1 r1 ty
  refine ⟨T, id, pa, slot, hty, h1, h2, ?_⟩
  have hA := ha cpos pins s1 σ H1 _ I1 q1
  rw [hs] at hA ⊢
  refine Calls.callWith_builtin (by show (false || (backTo cpos (starEach es X.env)).any (·.1)) = false; rw [hplain] <;> rfl) (Calls.evalArgs_plain ?_)
  exact thn hA fun us s2 ⟨vs, H2, I2, r2, q2⟩ => hm pins s2 σ H2 x vs v us Q I2 r1 r2 q2
/- xs.append(e), list.index on a module's tuple .. are MtR facts of 06m -/
end
end L2

namespace L2
open PySem PySem.Spec PyProof.Rows

def MtM (X : Cx) (id : String) (r : V → List V → Hp → VK → Prop) : Prop :=
  ∀ (pins : List (Addr × Obj)) (s : Shared) (σ : St) (H : Hp) (x : V) (xs : List V) (v : Value) (us : List Value) (Q : VK), Inv X pins σ H s → RelV x v → Vals xs us → r x xs H Q →
    wpAny (model X.prog X.w) X.A (call (.builtin id) (v :: us)) (EP X pins σ Q) X.xe s

/-! ### lists of values -/
theorem Vals.one : ∀ {x : V} {us : List Value}, Vals [x] us → ∃ u, us = [u] ∧ RelV x u
  | _, _, .cons r .nil => ⟨_, rfl, r⟩
theorem Vals.two : ∀ {x y : V} {us : List Value}, Vals [x, y] us → ∃ u v, us = [u, v] ∧ RelV x u ∧ RelV y v
  | _, _, _, .cons r (.cons q .nil) => ⟨_, _, rfl, r, q⟩
theorem Vals.zero : ∀ {us : List Value}, Vals [] us → us = []
  | _, .nil => rfl
theorem Vals.dropLast {xs : List V} {us : List Value} (h : Vals xs us) : Vals xs.dropLast us.dropLast := by
  induction h with
  | nil => exact .nil
  | cons r t ih =>
    cases t with
    | nil => exact .nil
    | cons q t' => exact .cons r ih
theorem Vals.eraseIdx : ∀ {xs : List V} {us : List Value} (i : Nat), Vals xs us → Vals (xs.eraseIdx i) (us.eraseIdx i)
  | _, _, _, .nil => .nil
  | _, _, 0, .cons _ t => t
  | _, _, i + 1, .cons r t => .cons r (Vals.eraseIdx i t)
theorem Vals.reverse {xs : List V} {us : List Value} (h : Vals xs us) : Vals xs.reverse us.reverse := by
  induction h with
  | nil => exact .nil
  | cons r t ih => rw [List.reverse_cons, List.reverse_cons]; exact Vals.append ih (.cons r .nil)
theorem Vals.rep {xs : List V} {us : List Value} (h : Vals xs us) : ∀ k : Nat, Vals (List.replicate k xs).flatten (List.replicate k us).flatten
  | 0 => .nil
  | k + 1 => by
    rw [List.replicate_succ, List.replicate_succ, List.flatten_cons, List.flatten_cons]
    exact Vals.append h (Vals.rep h k)
theorem erase_last {α : Type} (l : List α) : l.eraseIdx (l.length - 1) = l.dropLast := by
  induction l with
  | nil => rfl
  | cons a r ih =>
    cases r with
    | nil => rfl
    | cons b r =>
      have e : (a :: b :: r).length - 1 = ((b :: r).length - 1) + 1 := by
        have h1 : (a :: b :: r).length = r.length + 2 := rfl
        have h2 : (b :: r).length = r.length + 1 := rfl
        omega
      rw [e, List.eraseIdx_cons_succ, ih]
      all_goals rfl
theorem len_erase {α : Type} : ∀ (l : List α) (i : Nat), (l.eraseIdx i).length ≤ l.length
  | [], _ => Nat.le_refl _
  | _ :: _, 0 => Nat.le_succ _
  | _ :: r, i + 1 => Nat.succ_le_succ (len_erase r i)
theorem foldl_rep (its : List Value) : ∀ (k : Nat) (acc : List Value),
    List.foldl (fun x1 x2 => x1 ++ x2) acc.toArray (List.replicate k its.toArray) = (acc ++ (List.replicate k its).flatten).toArray
  | 0, acc => by simp
  | k + 1, acc => by
    have e : acc.toArray ++ its.toArray = (acc ++ its).toArray := by simp
    have e2 : (acc ++ its) ++ (List.replicate k its).flatten = acc ++ (List.replicate (k + 1) its).flatten := by
      rw [List.replicate_succ, List.flatten_cons, List.append_assoc]
    rw [← e2, ← foldl_rep its k (acc ++ its), ← e, List.replicate_succ, List.foldl_cons]

section
variable {X : Cx} {pins : List (Addr × Obj)} {σ : St} {H : Hp} {s : Shared} {l b : Addr} {xs ys zs : List V}

/-! ### the two steps: a tracked list is rewritten, a new list is laid -/
theorem Inv.lset {its its' : List Value} {n : Nat} {f : Array Value → Array Value} {t' : Nat} (I : Inv X pins σ H s) (hH : H l = some (.lst xs))
    (e : s.heap.get? l = some { cls := .type "list", data := .seq its.toArray n }) (hf : f its.toArray = its'.toArray) (hv : Vals ys its') (hz : ys.length ≤ sizeLine) :
    Inv X pins σ (upd H l (.lst ys)) { s with heap := s.heap.update l (Obj.mapSeq f), toks := t' } := by
  have q := PySem.IsL.update e f
  rw [hf] at q
  refine I.write (x := l) (e := l) (by rw [hH]; exact trivial) (.inl rfl) (fun b' u hb hu => (Heap.get?_update_other s.heap (Obj.mapSeq f) (Ne.symm hb)).trans hu) ⟨_, q⟩ ?_
  exact ⟨hz, its', _, hv, q⟩
theorem Inv.lnew {its : List Value} {t' : Nat} (I : Inv X pins σ H s) (hv : Vals ys its) (hz : ys.length ≤ sizeLine) :
    Inv X pins σ (upd H s.heap.objs.size (.lst ys)) { s with heap := s.heap.push { cls := .type "list", data := .seq its.toArray }, toks := t' } :=
  I.laid (fun _ _ q => Heap.get?_push_of_some _ q) (Nat.le_refl _) ⟨hz, its, 0, hv, Heap.get?_push_size _ rfl⟩
theorem Inv.fresh (I : Inv X pins σ H s) : H s.heap.objs.size = none := I.hok.fresh (Nat.le_refl _)
theorem Inv.lstM (I : Inv X pins σ H s) (hH : H l = some (.lst xs)) : xs.length ≤ sizeLine ∧ ∃ (its : List Value) (n : Nat), Vals xs its ∧ xs.length = its.length ∧ s.heap.get? l = some { cls := .type "list", data := .seq its.toArray n } := by
  obtain ⟨z, its, n, r, e⟩ := I.hok l _ hH
  exact ⟨z, its, n, r, r.length, e⟩

theorem notLongL {n : Nat} (h : n ≤ sizeLine) : Builtin.List.listTooLong n = false := by
  unfold Builtin.List.listTooLong
  exact decide_eq_false (by omega)
end

section
variable {X : Cx}

/-! ### methods -/
def rAppend : V → List V → Hp → VK → Prop := fun x vs H Q => ∃ l xs y, x = .ref l ∧ vs = [y] ∧ H l = some (.lst xs) ∧ xs.length < sizeLine ∧ Q .non (upd H l (.lst (xs ++ [y])))
theorem mt_append : MtM X "list.append" rAppend := by
  intro pins s σ H x vs v us Q I rx rv h
  obtain ⟨l, xs, y, rfl, rfl, hH, hz, q⟩ := h
  cases rx
  obtain ⟨u, rfl, ru⟩ := rv.one
  obtain ⟨z, its, n, r, hl, e⟩ := I.lstM hH
  refine call_meets F.slot_list_append ⟨_, e, rfl⟩ F.entry_list_append (F.args_list_append_2 _ _) (PySem.list_append l its.toArray n u (by rw [List.size_toArray]; omega)) ⟨e, ?_⟩
  refine ⟨.non, _, I.lset (its' := its ++ [u]) hH e (by simp) (r.append (.cons ru .nil)) ?_, rfl, q⟩
  rw [List.length_append, List.length_singleton]
  omega

def rExtend : V → List V → Hp → VK → Prop := fun x vs H Q => ∃ l b xs zs, x = .ref l ∧ vs = [.ref b] ∧ H l = some (.lst xs) ∧ H b = some (.lst zs) ∧ xs.length + zs.length ≤ sizeLine ∧ Q .non (upd H l (.lst (xs ++ zs)))
theorem mt_extend : MtM X "list.extend" rExtend := by
  intro pins s σ H x vs v us Q I rx rv h
  obtain ⟨l, b, xs, zs, rfl, rfl, hH, hB, hz, q⟩ := h
  cases rx
  obtain ⟨u, rfl, ru⟩ := rv.one
  cases ru
  obtain ⟨z, its, n, r, hl, e⟩ := I.lstM hH
  obtain ⟨z2, its2, n2, r2, hl2, e2⟩ := I.lstM hB
  have hsz : its.toArray.size + its2.toArray.size ≤ sizeLine := by rw [List.size_toArray, List.size_toArray]; omega
  have hlong : ¬ (!its.toArray.isEmpty && Builtin.List.listTooLong (its.toArray.size + its2.toArray.size)) = true := by
    rw [notLongL hsz, Bool.and_false]
    exact Bool.false_ne_true
  refine call_meets F.slot_list_extend ⟨_, e, rfl⟩ F.entry_list_extend (F.args_list_extend_2 _ _)
    (AutoSeq1.list_extend_list_list_0 l its.toArray n b its2.toArray n2 hlong (by rw [List.size_toArray]; omega) (by omega)) ⟨e, e2, ?_⟩
  refine ⟨.non, _, I.lset (its' := its ++ its2) hH e (by simp) (r.append r2) ?_, rfl, q⟩
  rw [List.length_append]
  omega

def rPop : V → List V → Hp → VK → Prop := fun x vs H Q => ∃ l xs y, x = .ref l ∧ vs = [] ∧ H l = some (.lst xs) ∧ xs[xs.length - 1]? = some y ∧ Q y (upd H l (.lst xs.dropLast))
theorem mt_pop : MtM X "list.pop" rPop := by
  intro pins s σ H x vs v us Q I rx rv h
  obtain ⟨l, xs, y, rfl, rfl, hH, hy, q⟩ := h
  cases rx
  have hus := rv.zero
  subst hus
  obtain ⟨z, its, n, r, hl, e⟩ := I.lstM hH
  obtain ⟨u, hu, ru⟩ := r.get hy
  have hy' : its.toArray[its.toArray.size - 1]? = some u := by
    show its.toArray[its.length - 1]? = some u
    rw [← Array.getElem?_toList, ← hl]
    exact hu
  refine call_meets F.slot_list_pop ⟨_, e, rfl⟩ F.entry_list_pop (F.args_list_pop_1 _) (MeetsSeq.list_pop_last l its.toArray n u hy' (by rw [List.size_toArray]; omega)) ⟨e, ?_⟩
  refine ⟨y, _, I.lset (its' := its.dropLast) hH e ?_ r.dropLast ?_, ru, q⟩
  · show its.toArray.eraseIdxIfInBounds (its.toArray.size - 1) = its.dropLast.toArray
    rw [List.size_toArray, List.eraseIdxIfInBounds_toArray, erase_last]
  · rw [List.length_dropLast]
    omega

def rPopAt : V → List V → Hp → VK → Prop := fun x vs H Q => ∃ l xs i k y, x = .ref l ∧ vs = [.int i] ∧ H l = some (.lst xs) ∧ -(2 ^ 63) ≤ i ∧ i < 2 ^ 63 ∧ seqIndex? i xs.length = some k ∧ xs[k]? = some y ∧ Q y (upd H l (.lst (xs.eraseIdx k)))
theorem mt_popAt : MtM X "list.pop" rPopAt := by
  intro pins s σ H x vs v us Q I rx rv h
  obtain ⟨l, xs, i, k, y, rfl, rfl, hH, h1, h2, hk, hy, q⟩ := h
  cases rx
  obtain ⟨u, rfl, ru⟩ := rv.one
  obtain ⟨t, rfl⟩ := ru
  obtain ⟨z, its, n, r, hl, e⟩ := I.lstM hH
  obtain ⟨w, hw, rw'⟩ := r.get hy
  refine call_meets F.slot_list_pop ⟨_, e, rfl⟩ F.entry_list_pop (F.args_list_pop_2 _ _)
    (MeetsSeq.list_pop_at l its.toArray n i t k w (fitsIndex_both h1 h2) (by rw [List.size_toArray, ← hl]; exact hk) (by rw [← Array.getElem?_toList]; exact hw) (by rw [List.size_toArray]; omega)) ⟨e, ?_⟩
  refine ⟨y, _, I.lset (its' := its.eraseIdx k) hH e ?_ (r.eraseIdx k) ?_, rw', q⟩
  · show its.toArray.eraseIdxIfInBounds k = (its.eraseIdx k).toArray
    rw [List.eraseIdxIfInBounds_toArray]
  · have := len_erase xs k
    omega

def rReverse : V → List V → Hp → VK → Prop := fun x vs H Q => ∃ l xs, x = .ref l ∧ vs = [] ∧ H l = some (.lst xs) ∧ Q .non (upd H l (.lst xs.reverse))
theorem mt_reverse : MtM X "list.reverse" rReverse := by
  intro pins s σ H x vs v us Q I rx rv h
  obtain ⟨l, xs, rfl, rfl, hH, q⟩ := h
  cases rx
  have hus := rv.zero
  subst hus
  obtain ⟨z, its, n, r, hl, e⟩ := I.lstM hH
  refine call_meets F.slot_list_reverse ⟨_, e, rfl⟩ F.entry_list_reverse (F.args_list_reverse_1 _) (AutoSeq1.list_reverse_list_0 l its.toArray n (by rw [List.size_toArray]; omega)) ⟨e, ?_⟩
  refine ⟨.non, _, I.lset (its' := its.reverse) hH e (by simp) r.reverse ?_, rfl, q⟩
  rw [List.length_reverse]
  omega

def rClear : V → List V → Hp → VK → Prop := fun x vs H Q => ∃ l xs, x = .ref l ∧ vs = [] ∧ H l = some (.lst xs) ∧ Q .non (upd H l (.lst []))
theorem mt_clear : MtM X "list.clear" rClear := by
  intro pins s σ H x vs v us Q I rx rv h
  obtain ⟨l, xs, rfl, rfl, hH, q⟩ := h
  cases rx
  have hus := rv.zero
  subst hus
  obtain ⟨z, its, n, r, hl, e⟩ := I.lstM hH
  refine call_meets F.slot_list_clear ⟨_, e, rfl⟩ F.entry_list_clear (F.args_list_clear_1 _) (AutoSeq1.list_clear_list_0 l its.toArray n (by rw [List.size_toArray]; omega)) ⟨e, ?_⟩
  exact ⟨.non, _, I.lset (its' := []) (ys := []) hH e rfl .nil (Nat.zero_le _), rfl, q⟩

/-! ### list + list, list += list, list * int -/
def rCat : R2 := fun x y H Q => ∃ l b xs zs, x = .ref l ∧ y = .ref b ∧ H l = some (.lst xs) ∧ H b = some (.lst zs) ∧ xs.length + zs.length ≤ sizeLine ∧ ∀ p, H p = none → Q (.ref p) (upd H p (.lst (xs ++ zs)))
theorem op_cat : OpR X (binaryOp .Add) rCat := by
  intro pins s σ H x y v u Q I rx ry h
  obtain ⟨l, b, xs, zs, rfl, rfl, hH, hB, hz, q⟩ := h
  cases rx
  cases ry
  obtain ⟨z, its, n, r, hl, e⟩ := I.lstM hH
  obtain ⟨z2, its2, n2, r2, hl2, e2⟩ := I.lstM hB
  refine PySem.P.add_list e e2 ?_ (by rw [List.size_toArray, List.size_toArray]; omega)
  have ea : its.toArray ++ its2.toArray = (its ++ its2).toArray := by simp
  rw [ea]
  exact ⟨.ref _, _, I.lnew (t' := s.toks) (r.append r2) (by rw [List.length_append]; omega), rfl, q _ I.fresh⟩
/-- a list times an int (a negative one is nothing) -/
def rRep : R2 := fun x y H Q => ∃ l k xs, x = .ref l ∧ y = .int k ∧ H l = some (.lst xs) ∧ -(2 ^ 63) ≤ k ∧ k < 2 ^ 63 ∧ xs.length * k.toNat ≤ sizeLine ∧
  ∀ p, H p = none → Q (.ref p) (upd H p (.lst (List.replicate k.toNat xs).flatten))
theorem len_rep {α : Type} (xs : List α) (k : Nat) : (List.replicate k xs).flatten.length = k * xs.length := by
  induction k with
  | zero => simp
  | succ k ih => rw [List.replicate_succ, List.flatten_cons, List.length_append, ih, Nat.succ_mul, Nat.add_comm]
theorem op_rep : OpR X (binaryOp .Mult) rRep := by
  intro pins s σ H x y v u Q I rx ry h
  obtain ⟨l, k, xs, rfl, rfl, hH, h1, h2, hz, q⟩ := h
  cases rx
  obtain ⟨t, rfl⟩ := ry
  obtain ⟨z, its, n, r, hl, e⟩ := I.lstM hH
  have hlen : its.toArray.size * k.toNat ≤ sizeLine := by rw [List.size_toArray, ← hl]; exact hz
  have hcap : ¬ its.toArray.size * k.toNat > (2 ^ 63 - 1) / 8 := by
    have : (sizeLine : Nat) ≤ (2 ^ 63 - 1) / 8 := by decide
    omega
  have hfit : ¬ (!Builtin.List.listFitsIndex k) = true := by
    rw [fitsIndex_both h1 h2]
    exact Bool.false_ne_true
  have hlong : ¬ Builtin.List.listTooLong (its.toArray.size * k.toNat) = true := by
    rw [notLongL hlen]
    exact Bool.false_ne_true
  have hnew : List.foldl (fun x1 x2 => x1 ++ x2) #[] (List.replicate (if its.toArray.isEmpty = true then 0 else k.toNat) its.toArray) = (List.replicate k.toNat its).flatten.toArray := by
    have f0 : ∀ m : Nat, List.foldl (fun x1 x2 => x1 ++ x2) #[] (List.replicate m its.toArray) = (List.replicate m its).flatten.toArray := fun m => by
      have := foldl_rep its m []
      rw [List.nil_append] at this
      exact this
    rw [f0]
    cases its with
    | nil => simp
    | cons a r' => rw [if_neg (by simp)]
  refine wpAny_binaryOp_repeat_ref (T := "list") (U := "int") (by decide) ⟨_, e, rfl⟩ (fun s' => typeIs_int s' k t) noFill_list_mul F.fills_int_mul F.slot_int_rmul repeat_list F.slot_int_index.lookup
    (call_meets F.slot_int_rmul (typeIs_int s k t) F.entry_int_rmul (F.args_int_rmul_2 _ _) (int___rmul___int_list k t l its.toArray n)
      ⟨e, rfl, ⟨_, e, rfl⟩, call_meets F.slot_list_mul ⟨_, e, rfl⟩ F.entry_list_mul (F.args_list_mul_2 _ _) (AutoListH.list___mul___list_int_3 l its.toArray n k t hfit hcap hlong) ⟨e, ?_⟩⟩)
  rw [hnew]
  exact ⟨.ref _, _, I.lnew (t' := s.toks) (r.rep k.toNat) (by rw [len_rep, Nat.mul_comm]; exact hz), rfl, q _ I.fresh⟩

/-! ### del xs[i] -/
theorem del_list {pins : List (Addr × Obj)} {s : Shared} {σ : St} {H : Hp} {l : Addr} {xs : List V} {i : Int} {t : Tok} {k : Nat} {Q : Unit → Shared → Prop} (I : Inv X pins σ H s) (hH : H l = some (.lst xs))
    (h1 : -(2 ^ 63) ≤ i) (h2 : i < 2 ^ 63) (hk : seqIndex? i xs.length = some k) (h : ∀ s', Inv X pins σ (upd H l (.lst (xs.eraseIdx k))) s' → Q () s') :
    wpAny (model X.prog X.w) X.A (delItem (.ref l) (.int i t)) Q X.xe s := by
  obtain ⟨z, its, n, r, hl, e⟩ := I.lstM hH
  refine PySem.P.delItem_list (k := k) e (fitsIndex_both h1 h2) (by rw [List.size_toArray, ← hl]; exact hk) (h _ ?_) (by rw [List.size_toArray]; omega)
  refine I.lset (its' := its.eraseIdx k) (t' := s.toks) hH e ?_ (r.eraseIdx k) ?_
  · show its.toArray.eraseIdxIfInBounds k = (its.eraseIdx k).toArray
    rw [List.eraseIdxIfInBounds_toArray]
  · have := len_erase xs k
    omega
end

/-! ### xs[a:b] = ys -/
section
variable {prog : Program} {w : World} {A : Around} {E : Value → Shared → Prop} {s : Shared}
theorem splice_eq (its its2 : List Value) (a c : Nat) : its.toArray.extract 0 a ++ its2.toArray ++ its.toArray.extract c its.toArray.size = (its.take a ++ its2 ++ its.drop c).toArray := by
  apply Array.toList_inj.mp
  first
    | (simp
       exact List.take_of_length_le (by simp))
    | simp [List.take_of_length_le]
    | simp
theorem bounds_run {a c n : Nat} (hac : a ≤ c) (hc : c ≤ n) : sliceBounds (some (a : Int)) (some (c : Int)) none n = ((a : Int), (c : Int), 1) := by
  simp only [sliceBounds, Option.getD_none]
  have h1 : ¬ ((a : Int) < 0) := by omega
  have h2 : ¬ ((c : Int) < 0) := by omega
  simp only [h1, h2, if_false, show (1 : Int) > 0 by decide, if_true]
  congr 1
  · omega
  · congr 1; omega
set_option maxRecDepth 100000 in
/-- list.__setitem__ with a slice of step one and another list -/
theorem setItem_slice {l b sl : Addr} {items new : Array Value} {n n2 : Nat} {vl vu : Value} {a c : Nat} {Q : Unit → Shared → Prop}
    (e : s.heap.get? l = some { cls := .type "list", data := .seq items n }) (e2 : s.heap.get? b = some { cls := .type "list", data := .seq new n2 }) (hne : l ≠ b)
    (hs : s.heap.IsSliceOf sl vl vu .none) (pl : IsPart vl (some (a : Int))) (pu : IsPart vu (some (c : Int))) (hac : a ≤ c) (hc : c ≤ items.size)
    (hsz : items.size + new.size ≤ sizeLine) (h : Q () { s with heap := s.heap.update l (Obj.mapSeq fun xs => xs.extract 0 a ++ new ++ xs.extract c xs.size) }) :
    wpAny (model prog w) A (setItem (.ref l) (.ref sl) (.ref b)) Q E s := by
  have hl : s.heap.IsList l items := PySem.IsL.isList e
  have hb : s.heap.IsList b new := PySem.IsL.isList e2
  obtain ⟨os, hos, hcs, hds⟩ := id hs
  have hTs : s.TypeIs (.ref sl) "slice" := ⟨os, hos, hcs⟩
  have hstep : ¬ ((rawPart none == rawInt 0) = true) := Bool.false_ne_true
  have hsame : Builtin.List.listSameRef (.ref l) (.ref b) = false := by
    unfold Builtin.List.listSameRef
    exact beq_eq_false_iff_ne.mpr hne
  have hmax : (max (a : Int) (c : Int)).toNat = c := by omega
  have hz' : ((fun xs : Array Value => xs.extract 0 a ++ new ++ xs.extract c xs.size) items).size ≤ sizeLine + 1 := by
    simp only [Array.size_append, Array.size_extract]
    omega
  unfold setItem
  try with_reducible refine wpAny_holding ?_
  first | refine wpAny_bind (wpAny_pure ?_) | skip
  refine wpAny_bind (wpAny_sequenceKey hl.typeIs (by decide) ?_)
  refine wpAny_bind (wpAny_callSpecial?_slot (name := Str.ofString "__setitem__") hl.typeIs slot_list_setitem
    (wpAny_call_entry slot_list_setitem hl.typeIs entry_list_setitem ?_ (args_list_setitem _ _ _)))
  show wpAny _ _ (Builtin.List.listSubscript? (.ref sl) >>= _) _ _ s
  refine wpAny_bind ?_
  unfold Builtin.List.listSubscript?
  refine wpAny_bind (wpAny_specialOf hTs slice_no_index ?_)
  simp only [Option.isNone_none, if_true]
  refine wpAny_pure ?_
  show wpAny _ _ (typeOf (.ref sl) >>= _) _ _ s
  refine wpAny_bind (wpAny_typeOf hTs ?_)
  first
    | rw [if_neg (by decide)]
    | refine PySem.W.KFB.if_not (by decide) ?_
  rw [listSliceParts_eq]
  refine wpAny_bind (wpAny_bind (wpAny_field hos hds (x := .none) rfl (wpAny_bind (wpAny_listPart .none ?_))))
  rw [if_neg hstep]
  refine wpAny_bind (wpAny_field hos hds (x := vl) rfl (wpAny_bind (wpAny_listPart pl ?_)))
  refine wpAny_bind (wpAny_field hos hds (x := vu) rfl (wpAny_bind (wpAny_listPart pu (wpAny_pure ?_))))
  first
    | simp only [hsame, Bool.false_eq_true, if_false]
    | refine PySem.W.KFB.if_not hsame ?_
    | (dsimp only
       rw [if_neg (by rw [hsame]; exact Bool.false_ne_true)])
  refine wpAny_bind (m := Builtin.List.listAllItems (.ref b) "must assign iterable to extended slice") ?_
  unfold Builtin.List.listAllItems
  refine wpAny_bind (wpAny_typeOf hb.typeIs ?_)
  first
    | refine PySem.W.KFB.if_so (by decide) ?_
    | rw [if_pos (by decide)]
    | simp only [beq_self_eq_true, Bool.true_or, if_true]
  unfold Builtin.List.listItems
  refine wpAny_bind (wpAny_seqItems e2 rfl (wpAny_pure ?_))
  refine wpAny_bind (wpAny_bind (wpAny_seqItems e rfl (wpAny_pure ?_)))
  refine wpAny_bind (wpAny_of_eq ((sliceIndices_raw (some (a : Int)) (some (c : Int)) none items.size (by simp)).trans (congrArg (pure : Int × Int × Int → Sem (Int × Int × Int)) (bounds_run hac hc))) ?_)
  show wpAny _ _ (if ((1 : Int) == 1) = true then _ else _) _ _ s
  rw [if_pos (by decide)]
  refine wpAny_bind (wpAny_rule ?_)
  first
    | simp only [notLongL hsz, Bool.false_eq_true, if_false]
    | refine PySem.W.KFB.if_not (notLongL hsz) ?_
  first | refine wpAny_bind (wpAny_pure ?_) | skip
  show wpAny _ _ (updateSeq l (fun xs => xs.extract 0 ((a : Int)).toNat ++ new ++ xs.extract (max (a : Int) (c : Int)).toNat xs.size) >>= _) _ _ s
  rw [hmax, Int.toNat_natCast]
  refine wpAny_bind (wpAny_updateSeq (hz := Nat.le_trans (Nat.le_add_right _ _) hsz) (_hz' := hz') e rfl ?_)
  refine wpAny_bind (wpAny_letGo ?_)
  first
    | exact wpAny_bind (wpAny_pure (wpAny_pure ⟨.none, rfl, wpAny_pure h⟩))
    | exact wpAny_pure ⟨.none, rfl, wpAny_pure h⟩
end

section
variable {X : Cx}
/-- xs[a:c] = ys of another list, at the value level: sl is the slice object that was just made -/
theorem set_slice {pins : List (Addr × Obj)} {s : Shared} {σ : St} {H : Hp} {l b sl : Addr} {xs ys : List V} {a c : Int} {vl vu : Value} {Q : Unit → Shared → Prop} (I : Inv X pins σ H s)
    (hH : H l = some (.lst xs)) (hB : H b = some (.lst ys)) (hne : l ≠ b) (hs : s.heap.IsSliceOf sl vl vu .none) (ra : RelV (.int a) vl) (rc : RelV (.int c) vu) (h0 : 0 ≤ a) (hac : a ≤ c) (hc : c ≤ xs.length)
    (hz : xs.length + ys.length ≤ sizeLine) (h : ∀ s', Inv X pins σ (upd H l (.lst (xs.take a.toNat ++ ys ++ xs.drop c.toNat))) s' → Q () s') :
    wpAny (model X.prog X.w) X.A (setItem (.ref l) (.ref sl) (.ref b)) Q X.xe s := by
  obtain ⟨ta, rfl⟩ := ra
  obtain ⟨tc, rfl⟩ := rc
  obtain ⟨z, its, n, r, hl, e⟩ := I.lstM hH
  obtain ⟨z2, its2, n2, r2, hl2, e2⟩ := I.lstM hB
  obtain ⟨a', rfl⟩ := Int.eq_ofNat_of_zero_le h0
  obtain ⟨c', rfl⟩ := Int.eq_ofNat_of_zero_le (Int.le_trans h0 hac)
  simp only [Int.toNat_natCast] at h
  refine setItem_slice (a := a') (c := c') e e2 hne hs (.int _ _) (.int _ _) (by omega) (by rw [List.size_toArray]; omega) (by rw [List.size_toArray, List.size_toArray]; omega) (h _ ?_)
  refine I.lset (its' := its.take a' ++ its2 ++ its.drop c') (t' := s.toks) hH e ?_ (Vals.append (Vals.append (r.take _) r2) (r.drop _)) ?_
  · exact splice_eq its its2 a' c'
  · rw [List.length_append, List.length_append, List.length_take, List.length_drop]
    omega
end
end L2

namespace Att
open PySem PySem.W PySem.Calls PyProof.Rows

/-! ### the script -/
theorem ints_of_wellAll {P : Params} {h : Heap} : ∀ (ns : List Int) (vs : List Value), WellAll P h vs (ns.map WData.int) → IntsAre vs ns := by
  intro ns
  induction ns with
  | nil =>
    intro vs w
    rw [List.map_nil] at w
    cases w
    exact .nil
  | cons n ns ih =>
    intro vs w
    rw [List.map_cons] at w
    cases w with
    | cons a b =>
      cases a
      exact .cons _ _ (ih _ b)

theorem script_of {l : OpenLaw} {n : Nat} (hn : l.most = some n) {P : Params} {h : Heap} {args : List WData} {vals : List Value}
    (hpre : l.row.toRowW.claim.pre args = true) (hwl : WellAll P h vals args) :
    ∃ a vs ns, vals = [Value.ref a] ∧ args = [WData.list (ns.map WData.int)] ∧ h.get? a = some { cls := .type "list", data := .seq vs.toArray } ∧ IntsAre vs ns ∧ ns.length ≤ n := by
  have hsh : WShape.hasAll [] args [.list .int] = true := (pre_splitW hpre).1
  have hc : l.pre.holds [] { args := args } = true := (pre_splitW hpre).2
  obtain ⟨d, r, rfl, h1, h2⟩ := hasAllW_cons hsh
  obtain rfl := hasAllW_nil h2
  obtain ⟨xs, rfl, h3⟩ := hasW_list h1
  obtain ⟨ns, rfl⟩ := items_int h3
  have hlen : ns.length ≤ n := by
    unfold OpenLaw.pre at hc
    have h4 : (WTm.not (.lt (.lit (.int (n : Int))) (.len (.arg 0)))).holds [] { args := [.list (ns.map .int)] } = true := by
      have h4 := (holds_andW hc).1
      rw [hn] at h4
      exact h4
    have h5 := condW_of h4 (w_not (w_lt w_lit (w_len_list (w_arg rfl))))
    rw [List.length_map] at h5
    refine Nat.le_of_not_lt fun q => ?_
    have q' : (n : Int) < ((ns.length : Nat) : Int) := by omega
    first
      | (rw [decide_eq_true q'] at h5; exact absurd h5 (by decide))
      | (simp at h5; omega)
  cases hwl with
  | cons w1 w2 =>
    cases w2
    cases w1 with
    | list ho hall => exact ⟨_, _, ns, rfl, rfl, ho, ints_of_wellAll ns _ hall, hlen⟩

theorem post_true (l : OpenLaw) (args : List WData) : l.row.toRowW.claim.post args (.bool true) args = true :=
  postW_of (r := l.row.toRowW) (X := (true == true))
    (show WShape.has [] (.bool true) .bool = true by first | rfl | decide | simp [WShape.has, WShape.arms, WShape.armsAll])
    (show (WTm.eq .res (.lit (.bool true))).value [] { args := args, res := some (.bool true), after := args } = some (.bool (true == true)) from w_eq_bool (w_res rfl) w_lit) rfl

/-! ### the attachment: holds_open's last premise (the goal 'hc' behind k_head) from a wpAny of the law's body -/
theorem attach {l : OpenLaw} {n : Nat} {q : Program} {loose : List Str} {XP : (Str → Option Value) → Heap → Prop} {YP : World → Heap → Prop} {d : DefRec} {x : Str}
    (hn : l.most = some n) (hdf : d.params.defaults = [])
    (hbind : ∀ pm cd doc v : Value, bindArgs (docDef d.name d.params d.body d.scope pm cd doc) ⟨[v], []⟩ = pure [(x, v)])
    (hx : d.scope.names.lookup x = some .local ∨ d.scope.names.lookup x = some .cell)
    (hk : d.scope.kind = .function) (hco : d.scope.isCoroutine = false) (hgen : d.scope.isGenerator = false)
    (body : ∀ (w : World) (s₀ s₁ s : Shared) (mg mb : Str → Option Value) (fa : Addr) (o : Obj) (pm cd doc : Value) (a : Addr) (vs : List Value) (ns : List Int),
      Ground q loose [] XP w s₀ mg mb s₁.heap → YP w s₁.heap →
      s₁.heap.get? fa = some o → o.data = .func (docDef d.name d.params d.body d.scope pm cd doc) → s₁.heap.CodeRec cd d.name → mg d.name = some (.ref fa) →
      s₁.heap.get? a = some { cls := .type "list", data := .seq vs.toArray } → IntsAre vs ns → ns.length ≤ n →
      s.gens = #[] → s.os = s₁.os →
      Fr s₁.heap s₁.heap.objs.size s.heap (bindL (envOfC d.name d.scope s₁.heap.objs.size fa cd).kindOf [(x, .ref a)] fun _ => none) →
      Cl s₁.heap.objs.size (cellsFrom (s₁.heap.objs.size + 1) d.scope.names []) s.heap (bindC (envOfC d.name d.scope s₁.heap.objs.size fa cd).kindOf [(x, .ref a)] fun _ => none) →
      wpAny (model l.prog w) (callerA.deeper (envOfC d.name d.scope s₁.heap.objs.size fa cd)) (execs d.body (envOfC d.name d.scope s₁.heap.objs.size fa cd))
        (fun f s' => f = .ret (.bool true) ∧ OldK s₁.heap s'.heap ∧ s'.os = s₁.os ∧ AllBare s'.gens) (fun _ _ => False) s) :
    WalkO q loose XP YP l.row.toRowW d [] (fun f vs => PySem.call f vs) := by
  intro w s₀ s₁ mg mb G Y fa o pm cd doc dV kV ho hd hcd hD hmg hg args vals as hpre hlay hrd hwl hlo
  obtain rfl : dV = .none := Dflts.none hD hdf
  obtain rfl : kV = .none := Dflts.noKw hD
  obtain ⟨a, vs, ns, rfl, rfl, hobj, hints, hlen⟩ := script_of hn hpre hwl
  refine enter_call ?_
  refine call_cells_ret (o := o) (by rw [depth_caller]; decide) ho (fd_plain hd) G.T.nolimit hcd (hbind pm cd doc (.ref a)) (fun y hy => ?_) (fun h₁ tk F X => ?_) hco hgen hk
  · obtain rfl : y = (x, Value.ref a) := List.mem_singleton.mp hy
    rcases hx with e | e
    · exact .inl e
    · exact .inr ⟨e, cellsFrom_some _ _ _ (.inl e)⟩
  · refine wpAny_mono (body w s₀ s₁ { s₁ with heap := h₁, toks := tk } mg mb fa o pm cd doc a vs ns G Y ho (fd_plain hd) hcd hmg hobj hints hlen hg rfl F X) (fun f s' hq => ?_) (fun _ _ hq => hq)
    obtain ⟨rfl, h2, h3, h4⟩ := hq
    exact ⟨.inl ⟨.bool true, .bool true, [], rfl, fun _ => rfl, .bool true, post_true l _, fun _ => ⟨List.Pairwise.nil, fun _ hm => (nomatch hm)⟩⟩, h2, h3, h4⟩

/-- the same from a codeAny of the CALL (for a layer whose function contracts speak of calls) -/
theorem attach_call {l : OpenLaw} {n : Nat} {q : Program} {loose : List Str} {XP : (Str → Option Value) → Heap → Prop} {YP : World → Heap → Prop} {d : DefRec}
    (hn : l.most = some n) (hdf : d.params.defaults = [])
    (call : ∀ (w : World) (s₀ s₁ : Shared) (mg mb : Str → Option Value) (fa : Addr) (o : Obj) (pm cd doc : Value) (a : Addr) (vs : List Value) (ns : List Int),
      Ground q loose [] XP w s₀ mg mb s₁.heap → YP w s₁.heap →
      s₁.heap.get? fa = some o → o.data = .func (docDef d.name d.params d.body d.scope pm cd doc) → s₁.heap.CodeRec cd d.name → mg d.name = some (.ref fa) →
      s₁.heap.get? a = some { cls := .type "list", data := .seq vs.toArray } → IntsAre vs ns → ns.length ≤ n → s₁.gens = #[] →
      codeAny (model l.prog w) callerA (.call (.ref fa) ⟨[.ref a], []⟩) (fun r s' => r = .ok (.ret (.bool true)) ∧ OldK s₁.heap s'.heap ∧ s'.os = s₁.os ∧ AllBare s'.gens) s₁) :
    WalkO q loose XP YP l.row.toRowW d [] (fun f vs => PySem.call f vs) := by
  intro w s₀ s₁ mg mb G Y fa o pm cd doc dV kV ho hd hcd hD hmg hg args vals as hpre hlay hrd hwl hlo
  obtain rfl : dV = .none := Dflts.none hD hdf
  obtain rfl : kV = .none := Dflts.noKw hD
  obtain ⟨a, vs, ns, rfl, rfl, hobj, hints, hlen⟩ := script_of hn hpre hwl
  refine enter_call (codeAny_mono (call w s₀ s₁ mg mb fa o pm cd doc a vs ns G Y ho (fd_plain hd) hcd hmg hobj hints hlen hg) fun r s' hq => ?_)
  obtain ⟨rfl, h2, h3, h4⟩ := hq
  exact ⟨.inl ⟨.bool true, .bool true, [], rfl, fun _ => rfl, .bool true, post_true l _, fun _ => ⟨List.Pairwise.nil, fun _ hm => (nomatch hm)⟩⟩, h2, h3, h4⟩

/-- the same where the top left finished generators (o_head chose holds_openN): nothing may have changed at all and no generator may be left -/
theorem attachN {l : OpenLaw} {n : Nat} {q : Program} {loose : List Str} {XP : (Str → Option Value) → Heap → Prop} {YP : World → Heap → Prop} {d : DefRec} {x : Str}
    (hn : l.most = some n) (hdf : d.params.defaults = [])
    (hbind : ∀ pm cd doc v : Value, bindArgs (docDef d.name d.params d.body d.scope pm cd doc) ⟨[v], []⟩ = pure [(x, v)])
    (hx : d.scope.names.lookup x = some .local ∨ d.scope.names.lookup x = some .cell)
    (hk : d.scope.kind = .function) (hco : d.scope.isCoroutine = false) (hgen : d.scope.isGenerator = false)
    (body : ∀ (w : World) (s₀ s₁ s : Shared) (mg mb : Str → Option Value) (fa : Addr) (o : Obj) (pm cd doc : Value) (a : Addr) (vs : List Value) (ns : List Int),
      Ground q loose [] XP w s₀ mg mb s₁.heap → YP w s₁.heap →
      s₁.heap.get? fa = some o → o.data = .func (docDef d.name d.params d.body d.scope pm cd doc) → s₁.heap.CodeRec cd d.name → mg d.name = some (.ref fa) →
      s₁.heap.get? a = some { cls := .type "list", data := .seq vs.toArray } → IntsAre vs ns → ns.length ≤ n →
      s.gens = #[] → s.os = s₁.os →
      Fr s₁.heap s₁.heap.objs.size s.heap (bindL (envOfC d.name d.scope s₁.heap.objs.size fa cd).kindOf [(x, .ref a)] fun _ => none) →
      Cl s₁.heap.objs.size (cellsFrom (s₁.heap.objs.size + 1) d.scope.names []) s.heap (bindC (envOfC d.name d.scope s₁.heap.objs.size fa cd).kindOf [(x, .ref a)] fun _ => none) →
      wpAny (model l.prog w) (callerA.deeper (envOfC d.name d.scope s₁.heap.objs.size fa cd)) (execs d.body (envOfC d.name d.scope s₁.heap.objs.size fa cd))
        (fun f s' => f = .ret (.bool true) ∧ (∀ b o, s₁.heap.get? b = some o → s'.heap.get? b = some o) ∧ s'.os = s₁.os ∧ s'.gens = #[]) (fun _ _ => False) s) :
    WalkN q loose XP YP l.row.toRowW d [] (fun f vs => PySem.call f vs) := by
  intro w s₀ s₁ mg mb G Y fa o pm cd doc dV kV ho hd hcd hD hmg hg args vals as hpre hlay hrd hwl hlo
  obtain rfl : dV = .none := Dflts.none hD hdf
  obtain rfl : kV = .none := Dflts.noKw hD
  obtain ⟨a, vs, ns, rfl, rfl, hobj, hints, hlen⟩ := script_of hn hpre hwl
  refine enter_callW ?_
  refine call_cells_ret (o := o) (by rw [depth_caller]; decide) ho (fd_plain hd) G.T.nolimit hcd (hbind pm cd doc (.ref a)) (fun y hy => ?_) (fun h₁ tk F X => ?_) hco hgen hk
  · obtain rfl : y = (x, Value.ref a) := List.mem_singleton.mp hy
    rcases hx with e | e
    · exact .inl e
    · exact .inr ⟨e, cellsFrom_some _ _ _ (.inl e)⟩
  · refine wpAny_mono (body w s₀ s₁ { s₁ with heap := h₁, toks := tk } mg mb fa o pm cd doc a vs ns G Y ho (fd_plain hd) hcd hmg hobj hints hlen hg rfl F X) (fun f s' hq => ?_) (fun _ _ hq => hq)
    obtain ⟨rfl, h2, h3, h4⟩ := hq
    exact ⟨.inl ⟨.bool true, .bool true, [], rfl, fun _ => rfl, .bool true, post_true l _, fun _ => ⟨List.Pairwise.nil, fun _ hm => (nomatch hm)⟩⟩, h2, h3, h4⟩

/-! ### rules over ANY heap (no ledger) from facts about the written part K: the library's own take a ledger (News) for what they write -/
section
variable {prog : Program} {w : World} {A : Around} {E : Value → Shared → Prop} {s : Shared} {K : Frag}

/-- a def of the module, or a method (qual 'C.m'), entered: the frame is the next address; cells behind it -/
theorem call_fn {R : Result → Shared → Prop} {name qual : Str} {params : Arguments} {body : List Stmt} {scope : Scope} {dV kV doc pm cdv ct oc : Value} {an od : Option Addr} {osl : Array (Option Value)} {f : Addr} {args : Args} {binds : List (Str × Value)}
    (X : K.In s.heap) (hlim : s.heap.NoLimit) (ho : K.lookup f = some ⟨oc, od, .func (fnOf name qual params body scope dV kV doc pm an cdv ct), osl⟩) (hcd : codeIn K cdv qual = true) (hroom : A.depth < recursionLimit)
    (hbind : BindsTo s (fnOf name qual params body scope dV kV doc pm an cdv ct) args binds)
    (hkind : (binds.all fun y => scope.names.lookup y.1 == some .local || scope.names.lookup y.1 == some .cell) = true)
    (h : ∀ s₁, InCallC s s.heap.objs.size (bindL (envOfC qual scope s.heap.objs.size f cdv).kindOf binds fun _ => none) (cellsFrom (s.heap.objs.size + 1) scope.names [])
        (bindC (envOfC qual scope s.heap.objs.size f cdv).kindOf binds fun _ => none) s₁ →
      wpAny (model prog w) (A.deeper (envOfC qual scope s.heap.objs.size f cdv)) (execs body (envOfC qual scope s.heap.objs.size f cdv))
        (fun fl s' => R (.ok (.ret (match fl with | .ret v => v | _ => .none))) s')
        (fun e s' => wpAny (model prog w) (A.deeper (envOfC qual scope s.heap.objs.size f cdv)) (leaving (envOfC qual scope s.heap.objs.size f cdv) e) (fun _ s'' => R (.error e) s'') (fun e' s'' => R (.error e') s'') s') s₁)
    (hco : scope.isCoroutine = false) (hgen : scope.isGenerator = false) (hk : scope.kind = .function) : codeAny (model prog w) A (.call (.ref f) args) R s := by
  refine codeAny_call_function hroom (X _ _ ho) rfl hco hgen rfl (codeRec_of X hcd) (hbind _ _ _ _ ?_)
  refine wpAny_newFunctionEnv_cells hk (kindsX hkind _) fun env he s₁ x => ?_
  subst he
  exact ⟨hlim.keeps x.toInCall.keep, codeAny_func (h s₁ x)⟩

/-- C(..): dict at size, instance at size + 1, then __init__ -/
theorem make_obj {R : Result → Shared → Prop} {C fI : Addr} {rest : List Value} {kw : List (Str × Value)}
    (X : K.In s.heap) (hm : makesIn K C = true) (hi : findIn K (.ref C) "__init__" = some (some (.ref fI))) (hf : isFn K (.ref fI) = true)
    (h : codeAny (model prog w) (A.under (.builtin "type.__call__" ⟨.ref C :: rest, kw⟩)) (.call (.ref fI) ⟨.ref (s.heap.objs.size + 1) :: rest, kw⟩) (InitBack (s.heap.objs.size + 1) R)
      { s with heap := (s.heap.push emptyDict).push (instObj C s.heap.objs.size) }) : codeAny (model prog w) A (.call (.ref C) ⟨rest, kw⟩) R s := by
  obtain ⟨hh, g, d, t, os⟩ := s
  exact make_core (makes_of X hm) (looks_findIn X hi) (fun self => bind_fn X self (beq_iff_eq.mp hf)) (.inl rfl) h

/-- x.name where the instance's dict holds the name and the class does not -/
theorem get_field {x C : Addr} {ox : Obj} {es : List DictEntry} {n : Nat} {name : Str} {expr : Bool} {v : Value} {Q : Value → Shared → Prop}
    (X : K.In s.heap) (I : PySem.W.InstAt s.heap x ox C (some (dictOf es n))) (hg : plainGet K C name = true) (hh : hasDictIn K C = true) (ha : findIn K (.ref C) name = some none)
    (hl : getL name es = some (some v)) (hv : handedIn v = true) (h : Q v { s with toks := s.toks + 1 }) : wpAny (model prog w) A (getAttr (.ref x) name expr) Q E s :=
  get_value X I (plainGet_of hg).1 (findObj_own hh ha rfl hl) hv h

/-- x.m(..): the method found in the class -/
theorem get_method {x C f : Addr} {ox : Obj} {es : List DictEntry} {n : Nat} {name : Str} {pl : Sem Bool} {Q : Value × List Value → Shared → Prop}
    (X : K.In s.heap) (I : PySem.W.InstAt s.heap x ox C (some (dictOf es n))) (hg : plainGet K C name = true) (hf : findIn K (.ref C) name = some (some (.ref f))) (ht : isFn K (.ref f) = true)
    (hl : getL name es = some none) (h : Q (.ref f, [.ref x]) s) : wpAny (model prog w) A (getMethod (.ref x) name pl) Q E s :=
  method_fn X I (plainGet_of hg).1 (plainGet_of hg).2 hf (beq_iff_eq.mp ht) (by show (lookIn name (dictOf es n)).map _ = _; rw [lookIn_dict, hl]; rfl) h

/-! the whole heap as the ledger: makes every rule that writes through a ledger a rule over any heap -/
def noObjs (h : Heap) : Heap := { h with objs := #[] }
theorem noObjs_get (h : Heap) (b : Addr) : (noObjs h).get? b = none := by
  cases e : (noObjs h).get? b with
  | none => rfl
  | some o => exact absurd (Heap.lt_size e) (Nat.not_lt_zero _)
def ledger (h : Heap) (L d : Addr) : List (Addr × Obj) := (List.range h.objs.size).filterMap fun a => if a = L ∨ a = d then none else (h.get? a).map fun o => (a, o)
theorem mem_ledger {h : Heap} {L d a : Addr} {o : Obj} : (a, o) ∈ ledger h L d ↔ a ≠ L ∧ a ≠ d ∧ h.get? a = some o := by
  unfold ledger
  rw [List.mem_filterMap]
  constructor
  · rintro ⟨b, _, e⟩
    split at e
    · cases e
    · rename_i hb
      obtain ⟨o', ho, e'⟩ := Option.map_eq_some_iff.mp e
      cases e'
      exact ⟨fun q => hb (.inl q), fun q => hb (.inr q), ho⟩
  · rintro ⟨n1, n2, ho⟩
    refine ⟨a, List.mem_range.mpr (Heap.lt_size ho), ?_⟩
    rw [if_neg (show ¬ (a = L ∨ a = d) from fun q => q.elim n1 n2), ho] <;> rfl
theorem news_ledger {h : Heap} {L d : Addr} {od : Obj} (hne : d ≠ L) (ho : h.get? d = some od) : News (noObjs h) L h ([] ++ (d, od) :: ledger h L d) := by
  rintro ⟨a, o⟩ hp
  rcases List.mem_cons.mp hp with e | hp
  · cases e
    exact ⟨ho, hne, noObjs_get _ _⟩
  · obtain ⟨n1, n2, e⟩ := mem_ledger.mp hp
    exact ⟨e, n1, noObjs_get _ _⟩
theorem fr_all {h : Heap} {L : Addr} {m : Str → Option Value} (n : h.Ns L m) : Fr (noObjs h) L h m :=
  ⟨n, fun b o e => (by rw [noObjs_get] at e; cases e), Nat.zero_le _⟩
/-- Upd of the head entry (for append_K, setItem_K ..) -/
theorem upd_ledger {h : Heap} {L d : Addr} {o o' : Obj} : Upd d o o' ((d, o) :: ledger h L d) ((d, o') :: ledger h L d) :=
  .head fun ⟨_, _⟩ hp => (mem_ledger.mp hp).2.1

/-- x.name = v over any heap: L is any namespace of the heap (the frame's, say): its map stays, its object is not told; all else but the dict stays -/
theorem set_field {x C dx L : Addr} {ox : Obj} {m : Str → Option Value} {es es' : List DictEntry} {n n' : Nat} {name : Str} {v : Value} {Q : Unit → Shared → Prop}
    (X : K.In s.heap) (I : PySem.W.InstAt s.heap x ox C (some (dictOf es n))) (hd : ox.dict = some dx) (hL : s.heap.Ns L m) (hne : dx ≠ L)
    (hs : findIn K (.ref C) "__setattr__" = some (some (.builtin "object.__setattr__"))) (hp : plainOver K C = true) (ht : takerIn K C name = some none) (hh : hasDictIn K C = true) (hl : (getL name es).isSome = true)
    (e : (putL name (PyData.keyHash w.params name) (.str name (s.toks + 1)) v es, putN name es n) = (es', n')) (hz : es'.length ≤ 1000)
    (h : ∀ h' : Heap, h'.Ns L m → h'.get? dx = some (dictOf es' n') → (∀ b o, b ≠ dx → b ≠ L → s.heap.get? b = some o → h'.get? b = some o) → Q () { s with heap := h', toks := s.toks + 2 }) :
    wpAny (model prog w) A (setAttr (.ref x) name v) Q E s := by
  obtain ⟨e1, e2⟩ := Prod.mk.inj e
  have hdx : s.heap.get? dx = some (dictOf es n) := by
    have := I.dict
    rw [hd] at this
    exact this
  refine set_plain X I hs (osa_dict (s := { s with toks := s.toks + 1 }) (h₀ := noObjs s.heap) (L := L) (m := m) (od := dictOf es n) (od' := dictOf es' n') (es := es') (n := n') (pre := []) (post := ledger s.heap L dx)
    (fr_all hL) (news_ledger hne hdx) X I hd hp ht hh hl (fun _ q => nomatch q) (fun ⟨_, _⟩ q => (mem_ledger.mp q).2.1) (by rw [putName_dict, e1, e2]) rfl hz fun h' F' N' => ?_)
  exact h h' F'.ns (N'.get (List.Mem.head _)) fun b o n1 n2 ho => N'.get (List.Mem.tail _ (mem_ledger.mpr ⟨n2, n1, ho⟩))
end
end Att

namespace L2
open PySem PySem.Spec PyProof.Rows

theorem vals_ints : ∀ {vs : List Value} {ns : List Int}, IntsAre vs ns → Vals (ns.map V.int) vs
  | _, _, .nil => .nil
  | _, _, .cons n t h => .cons ⟨t, rfl⟩ (vals_ints h)

/-- nothing is tracked but the script, known to the object (or it is an object of the module) -/
def Only (H : Hp) : Prop := ∀ b, H b = none ∨ ∃ o xs, H b = some (.frz o (.lst xs))

/-- THE HEAD: the law's promise, at the heap behind the top. F, the promise of the law's def, may use that base is part of the heap (so K.In base, base.Ns mainGlobals mg stand in Mod) -/
theorem law_call {P : Program} {w : World} {K : PySem.W.Frag} {mg mb : Str → Option Value} {CX : CXT} {k : Nat} {fa a : Addr} {fd : FuncData} {x : Str} {sp : Sp} {s₁ : Shared} {vs : List Value} {ns : List Int}
    (KX : K.In s₁.heap) (hns : s₁.heap.Ns mainGlobals mg) (hb : s₁.heap.Ns builtinsNs mb) (hbb : ∀ x : Str, x ≠ "__name__" → mb x = bootBuiltins x) (hlim : s₁.heap.NoLimit) (hg : s₁.gens = #[])
    (ha : s₁.heap.get? a = some { cls := .type "list", data := .seq vs.toArray }) (hi : IntsAre vs ns) (hl : ns.length ≤ sizeLine) (hr : Room k callerA)
    (F : ∀ base : Heap, K.In base → base.Ns mainGlobals mg → FnOk P w K mg base CX k fa fd [x] sp) (hbind : ∀ (s : Shared) (u : Value), BindsTo s fd ⟨[u], []⟩ [(x, u)])
    (hsp : ∀ H : Hp, Only H → SqL K H a (ns.map V.int) → sp [.ref a] H (fun v _ => v = .bl true) fun _ _ _ => False)
    (hCX : ∀ H e s', CX [] H s₁ (fun _ _ _ => False) e s' → False) :
    codeAny (model P w) callerA (.call (.ref fa) ⟨[.ref a], []⟩) (fun r s' => r = .ok (.ret (.bool true)) ∧ OldK s₁.heap s'.heap ∧ s'.os = s₁.os ∧ AllBare s'.gens) s₁ := by
  have rv := vals_ints hi
  have lenV := hi.length
  -- from an abstract heap in which nothing but the script may be tracked
  have core : ∀ H : Hp, Only H → SqL K H a (ns.map V.int) → HOk P w H s₁.heap → (∀ b, H b ≠ none → b = a) → (H a ≠ none → K.lookup a = none) →
      codeAny (model P w) callerA (.call (.ref fa) ⟨[.ref a], []⟩) (fun r s' => r = .ok (.ret (.bool true)) ∧ OldK s₁.heap s'.heap ∧ s'.os = s₁.os ∧ AllBare s'.gens) s₁ := by
    intro H hO hS hok hA hK
    have base_of : ∀ {b : Addr} {o : Obj}, s₁.heap.get? b = some o → H b = none → (hidT s₁.heap H).get? b = some o := fun e n => hidT_get e n
    have noA : ∀ {b : Addr} {o : Obj} {es : Array DictEntry} {ep : Nat}, s₁.heap.get? b = some o → o.data = .dict es ep → H b = none := fun {b o es ep} e d => by
      cases q : H b with
      | none => rfl
      | some u =>
        have e' : b = a := hA b (by rw [q]; simp)
        subst e'
        rw [ha] at e; cases e
        have d' : Data.seq vs.toArray _ = Data.dict es ep := d
        cases d'
    have nsK : ∀ {b : Addr} {m : Str → Option Value}, s₁.heap.Ns b m → (hidT s₁.heap H).Ns b m := fun {b m} ⟨o, es, ep, e, d, r⟩ => ⟨o, es, ep, base_of e (noA e d), d, r⟩
    have hKb : K.In (hidT s₁.heap H) := fun b o e => base_of (KX b o e) (by
      cases q : H b with
      | none => rfl
      | some u =>
        have e' : b = a := hA b (by rw [q]; simp)
        subst e'
        rw [hK (by rw [q]; simp)] at e; cases e)
    have hM : Mod K mg (hidT s₁.heap H) := ⟨hKb, nsK hns, ⟨mb, nsK hb, hbb⟩, let ⟨mc, h1, h2⟩ := hlim; ⟨mc, nsK h1, h2⟩⟩
    have e0 : Env0 P w K mg (hidT s₁.heap H) callerA [] s₁ H := ⟨rfl, hM, fun b o e => of_hidT e, Nat.le_of_eq (hidT_size _ _), trivial, fun b hb => absurd (show b ∈ ([] : List Addr) from hb) (by simp), hok, .of_eq hg⟩
    refine codeAny_mono ((F _ hKb (nsK hns)).run callerA [] s₁ H ⟨[.ref a], []⟩ [.ref a] [.ref a] _ _ hr e0 (hbind s₁ (.ref a)) (.cons rfl .nil) (hsp H hO hS)) fun r s' h => ?_
    cases r with
    | error e => exact (hCX H e s' h).elim
    | ok fl =>
      cases fl with
      | next => exact False.elim h
      | brk => exact False.elim h
      | cont => exact False.elim h
      | ret u =>
        obtain ⟨v, H', os, bare, un, hok', r', q⟩ := h
        have q' : v = .bl true := q
        subst q'
        obtain rfl : u = Value.bool true := r'
        refine ⟨rfl, OldK.of_keep fun b o e => ?_, os, bare⟩
        cases q : H b with
        | none => exact un.keep b o e q (by intro z; exact absurd (show b ∈ ([] : List Addr) from z) (by simp)) (by simp)
        | some u =>
          rcases hO b with z | ⟨ob, xs, z⟩
          · rw [q] at z; cases z
          · have z2 := un.frzs b ob _ z
            obtain ⟨e1, _⟩ := hok b _ z
            obtain ⟨e2, _⟩ := hok' b _ z2
            rw [e] at e1; cases e1
            exact e2
  cases hk : K.lookup a with
  | some o =>
    -- the script is one of the module's own objects
    have e := KX a o hk
    rw [ha] at e
    cases e
    refine core (fun _ => none) (fun _ => .inl rfl) (.inr ⟨_, vs.toArray, _, hk, rfl, rfl, rfl, by rw [List.size_toArray, lenV]; exact hl, by simpa using rv⟩) (fun b u z => by have z' : (none : Option HO) = some u := z; cases z') (fun b z => absurd rfl z) fun z => absurd rfl z
  | none =>
    refine core (fun b => if b = a then some (.frz { cls := .type "list", data := .seq vs.toArray } (.lst (ns.map V.int))) else none) (fun b => ?_) (.inl (.inr ⟨{ cls := .type "list", data := .seq vs.toArray }, if_pos rfl⟩)) (fun b u z => ?_) (fun b z => ?_) fun _ => hk
    · by_cases hb : b = a
      · exact .inr ⟨_, _, if_pos hb⟩
      · exact .inl (if_neg hb)
    · by_cases hb : b = a
      · have z' := (if_pos hb).symm.trans z
        cases z'
        subst hb
        exact ⟨ha, by rw [List.length_map]; exact hl, vs, _, rv, ha⟩
      · have z' := (if_neg hb).symm.trans z
        cases z'
    · by_cases hb : b = a
      · exact hb
      · exact absurd (if_neg hb) z
end L2

namespace L2
open PySem PySem.Spec PyProof.Rows

abbrev KOf {K : PySem.W.Frag} {h : Heap} (_ : K.In h) : PySem.W.Frag := K

/-- the goal that k_head leaves (case hc), from the law's promise. F gives the function object fd (K's own) once, then the promise over every base -/
theorem walk_of {l : PySem.W.OpenLaw} {n k : Nat} {q : Program} {loose : List Str} {XP : (Str → Option Value) → Heap → Prop} {YP : World → Heap → Prop} {d : DefRec} {K : Params → PySem.W.Frag} {CX : World → CXT} {sp : World → Sp} {x : Str}
    (hn : l.most = some n) (hn2 : n ≤ sizeLine) (hdf : d.params.defaults = []) (hr : Room k callerA)
    (hY : ∀ (w : World) (h : Heap), YP w h → (K w.params).In h)
    (F : ∀ (w : World) (mg : Str → Option Value) (fa : Addr) (h : Heap), (K w.params).In h → h.Ns mainGlobals mg → mg d.name = some (.ref fa) →
      ∃ fd : FuncData, (∀ (s : Shared) (u : Value), BindsTo s fd ⟨[u], []⟩ [(x, u)]) ∧
        ∀ base : Heap, (K w.params).In base → base.Ns mainGlobals mg → FnOk l.prog w (K w.params) mg base (CX w) k fa fd [x] (sp w))
    (hsp : ∀ (w : World) (H : Hp) (a : Addr) (ns : List Int), ns.length ≤ n → Only H → SqL (K w.params) H a (ns.map V.int) → sp w [.ref a] H (fun v _ => v = .bl true) fun _ _ _ => False)
    (hCX : ∀ (w : World) (H : Hp) (s : Shared) (e : Value) (s' : Shared), CX w [] H s (fun _ _ _ => False) e s' → False) :
    PySem.W.WalkO q loose XP YP l.row.toRowW d [] (fun f vs => PySem.call f vs) := by
  refine Att.attach_call hn hdf fun w s₀ s₁ mg mb fa o pm cd doc a vs ns G Y ho hd hcd hmg hobj hints hlen hg => ?_
  have KX := hY w _ Y
  obtain ⟨fd, hb, hF⟩ := F w mg fa _ KX G.T.g hmg
  exact law_call KX G.T.g G.T.b G.T.builtins G.T.nolimit hg hobj hints (Nat.le_trans hlen hn2) hr hF hb (fun H hO hS => hsp w H a ns hlen hO hS) fun H e s' => hCX w H s₁ e s'
/-- the same where the promise hangs on the written part alone: (sp := My.sp_law), no hole under a binder -/
theorem walk_ofK {l : PySem.W.OpenLaw} {n k : Nat} {q : Program} {loose : List Str} {XP : (Str → Option Value) → Heap → Prop} {YP : World → Heap → Prop} {d : DefRec} {K : Params → PySem.W.Frag} {CX : CXT} {sp : PySem.W.Frag → Sp} {x : Str}
    (hn : l.most = some n) (hn2 : n ≤ sizeLine) (hdf : d.params.defaults = []) (hr : Room k callerA)
    (hY : ∀ (w : World) (h : Heap), YP w h → (K w.params).In h)
    (F : ∀ (w : World) (mg : Str → Option Value) (fa : Addr) (h : Heap), (K w.params).In h → h.Ns mainGlobals mg → mg d.name = some (.ref fa) →
      ∃ fd : FuncData, (∀ (s : Shared) (u : Value), BindsTo s fd ⟨[u], []⟩ [(x, u)]) ∧
        ∀ base : Heap, (K w.params).In base → base.Ns mainGlobals mg → FnOk l.prog w (K w.params) mg base CX k fa fd [x] (sp (K w.params)))
    (hsp : ∀ (K : PySem.W.Frag) (H : Hp) (a : Addr) (ns : List Int), ns.length ≤ n → Only H → SqL K H a (ns.map V.int) → sp K [.ref a] H (fun v _ => v = .bl true) fun _ _ _ => False)
    (hCX : ∀ (H : Hp) (s : Shared) (e : Value) (s' : Shared), CX [] H s (fun _ _ _ => False) e s' → False) :
    PySem.W.WalkO q loose XP YP l.row.toRowW d [] (fun f vs => PySem.call f vs) :=
  walk_of (K := K) (CX := fun _ => CX) (sp := fun w => sp (K w.params)) hn hn2 hdf hr hY F (fun w H a ns h1 h2 h3 => hsp (K w.params) H a ns h1 h2 h3) fun _ H s e s' => hCX H s e s'
end L2

/- THE LAST THEOREM (shape; LID, My.* are yours):
   My.Adr: a structure of the addresses that your layer names (classes, functions); My.Txt K t: a structure (Prop) of the equations over K;
   My.txt_mk : {K} {implicit addresses ..} (e1 : nsIn K mainGlobals "law" = some (some (.ref f))) (e2 : K.lookup f = some ⟨oc, od, .func (fnOf "law" "law" params body scope dV kV doc pm an cdv ct), sl⟩) (e3 : codeIn K cdv "law" = true) .. : ∃ t, My.Txt K t

set_option maxRecDepth 100000 in
set_option maxHeartbeats 0 in
theorem PySem.Challenge.cw_LID_holds : PySem.Challenge.rw_LID.Holds := by
  w_on; o_law; k_head; (case hw => w_witness2)
  k_fill
  refine L2.walk_of (l := PySem.Challenge.rw_LID) (n := 63) (k := 40) (x := "script") (CX := fun w => ..) (sp := fun _ => My.sp_law) rfl (by decide) rfl ⟨rfl, by decide, by decide⟩ (fun w h Y => PySem.W.kIn_of Y) ?F ?S ?C
  case F =>
    intro w mg fa h KX G hmg
    have T : ∃ t, My.Txt (L2.KOf KX) t := by
      dsimp only [L2.KOf]                          -- K must stand as «<heap const> w.params» for k_is
      refine' My.txt_mk ?e1 ?e2 ?e3 ..
      (case e1 => PySem.W.k_is)                    -- in the order: a name -> its address -> its object -> its parts
      (case e2 => PySem.W.k_is)
      ..
    obtain ⟨t, T⟩ := T
    have e0 := hmg.symm.trans (PySem.W.mg_of KX G T.law)
    cases e0                                       -- fa is the law's own address
    exact ⟨_, fun s u => .of_eq rfl, fun base kb nb => My.law_fn T kb nb⟩     -- if «.of_eq rfl» comes too early: refine' ⟨_, ?b, fun base kb nb => My.law_fn T kb nb⟩; exact fun s u => .of_eq rfl
  case S => exact fun w H a ns hl hO hS => ..
  case C => exact ..
(the tactic k_is has no namespace: write k_is) -/

/-! SHORT WORDS over the layer: a def of the text, its body, what a loop and a test want. -/
namespace L2
open PySem PySem.Spec PyProof.Rows

/-! ### the text by places -/
/-- the j-th statement of a class's body -/
def inClass (s : Stmt) (j : Nat) : Stmt := match s with
  | .ClassDef _ _ _ body _ _ _ _ _ _ _ => body.getD j (.Pass ⟨0, 0, 0, 0⟩)
  | _ => .Pass ⟨0, 0, 0, 0⟩
def defArgs (s : Stmt) : Arguments := match s with
  | .FunctionDef _ a _ _ _ _ _ _ _ _ => a
  | _ => { posonlyargs := [], args := [], vararg := none, kwonlyargs := [], kw_defaults := [], kwarg := none, defaults := [] }
def defBody (s : Stmt) : List Stmt := match s with
  | .FunctionDef _ _ b _ _ _ _ _ _ _ => b
  | _ => []
def defScope (s : Stmt) : Scope := match s with
  | .FunctionDef _ _ _ _ _ _ sc _ _ _ => sc
  | _ => { kind := .function, names := [], isGenerator := false, isCoroutine := false }

/-! ### no exception leaves a def -/
abbrev CX0 : CXT := fun _ _ _ _ _ _ => False
abbrev E0 : XK := fun _ _ _ => False
theorem pass0 {X : Cx} : Passes CX0 X E0 := fun _ _ _ _ _ _ _ h => h.elim

/-! ### a def (or method) of the text as it stands behind the top -/
structure Fun (K : PySem.W.Frag) (x qual : Str) (st : Stmt) (f : Addr) (fd : FuncData) : Prop where
  ex : ∃ (oc : Value) (od : Option Addr) (kV doc pm : Value) (an : Option Addr) (cdv ct : Value) (osl : Array (Option Value)),
    fd = PySem.W.fnOf x qual (defArgs st) (defBody st) (defScope st) .none kV doc pm an cdv ct ∧ K.lookup f = some ⟨oc, od, .func fd, osl⟩ ∧ PySem.W.codeIn K cdv qual = true
  kp : PySem.W.keepIn K (.ref f) = true
section
variable {P : Program} {w : World} {K : PySem.W.Frag} {mg : Str → Option Value} {base : Heap}
/-- THE RULE for a def: its body as a term of rules, and the reading of that term -/
theorem Fun.ok {x qual : Str} {st : Stmt} {f : Addr} {fd : FuncData} {N ps : List Str} {k : Nat} {sp : Sp} (F : Fun K x qual st f fd) (S : FnScope N ps (defScope st)) (len : ∀ vs H Q E, sp vs H Q E → vs.length = ps.length)
    (hbody : ∀ (cdv : Value) (A : Around) (outer : List Env) (s : Shared) (H : Hp) (vs : List V) (Q : VK) (E : XK), Room k (A.deeper (envOfC qual (defScope st) s.heap.objs.size f cdv)) → sp vs H Q E →
      ∃ t, PSs (cxOf CX0 P w K mg base N qual (defScope st) f cdv A outer s H E).nox (defBody st) t ∧ t { nx := fun _ H' => Q .non H', rt := Q } (start N vs) H) : FnOk P w K mg base CX0 (k + 1) f fd ps sp := by
  obtain ⟨oc, od, kV, doc, pm, an, cdv, ct, osl, rfl, lk, hcd⟩ := F.ex
  refine fn_of lk hcd S len fun A outer s H vs Q E hr hsp => ?_
  obtain ⟨t, h, q⟩ := hbody cdv A outer s H vs Q E hr hsp
  exact ⟨t, h.nox, q⟩
/-- how its arguments bind (no defaults): h is «fun _ _ _ _ _ _ us hl => match us, hl with | [_, _], _ => rfl», one _ a parameter -/
theorem Fun.binds {x qual : Str} {st : Stmt} {f : Addr} {fd : FuncData} {ps : List Str} (F : Fun K x qual st f fd)
    (h : ∀ (kV doc pm : Value) (an : Option Addr) (cdv ct : Value) (us : List Value), us.length = ps.length → bindArgs (PySem.W.fnOf x qual (defArgs st) (defBody st) (defScope st) .none kV doc pm an cdv ct) ⟨us, []⟩ = pure (ps.zip us)) : Binds K fd ps [] := by
  obtain ⟨oc, od, kV, doc, pm, an, cdv, ct, osl, rfl, lk, hcd⟩ := F.ex
  exact .all (h kV doc pm an cdv ct)
theorem fun_mk {x qual : Str} {st : Stmt} {f : Addr} {oc : Value} {od an : Option Addr} {osl : Array (Option Value)} {kV doc pm cdv ct : Value} (l : K.lookup f = some ⟨oc, od, .func (PySem.W.fnOf x qual (defArgs st) (defBody st) (defScope st) .none kV doc pm an cdv ct), osl⟩)
    (c : PySem.W.codeIn K cdv qual = true) (k : PySem.W.keepIn K (.ref f) = true) : Fun K x qual st f (PySem.W.fnOf x qual (defArgs st) (defBody st) (defScope st) .none kV doc pm an cdv ct) := ⟨⟨oc, od, kV, doc, pm, an, cdv, ct, osl, rfl, l, c⟩, k⟩
end
theorem hu_of {A : Around} {k : Nat} (hr : Room k A) : A.units + 1 < cLine := Nat.lt_of_le_of_lt (Nat.add_le_add_left (by decide : 1 ≤ 64) _) hr.units
theorem small1000 {n : Nat} (h : n ≤ 1000) : n < sizeLine := Nat.lt_of_le_of_lt h (by decide)

/-! ### expressions in short: the name that stands in the i-th slot -/
section
variable {X : Cx}
theorem pv (i : Nat) {x : Str} {pos : Pos} (hN : X.N[i]? = some x := by rfl) (hv : Vis X.env.scope x := by first | exact Or.inl rfl | exact Or.inr (Or.inl rfl) | exact Or.inr (Or.inr rfl)) (hd : (x == ("__debug__" : Str)) = false := by decide)
    (hcd : (x == ("__classdict__" : Str)) = false := by decide) : PE X (.Name x pos) (tVar i) := pe_var hN hv hd hcd
/-- len of a dict -/
theorem call_lenD : CallR X (.builtin "len") (fun xs H Q => ∃ a kvs, xs = [V.ref a] ∧ H a = some (.dK kvs) ∧ Q (.int kvs.length) H) := by
  intro pins s σ H xs us Q I r h
  obtain ⟨a, kvs, rfl, ha, q⟩ := h
  obtain ⟨u, rfl, ru⟩ := vals1 r
  cases ru
  exact d_len I (.inl ha) fun t s' I' => ⟨.int kvs.length, H, I', ⟨t, rfl⟩, q⟩
end

/-! ### tests -/
theorem iteF {A B : Prop} (h : B) : if false = true then A else B := by
  rw [if_neg Bool.false_ne_true]
  exact h
theorem iteT {A B : Prop} (h : A) : if true = true then A else B := by
  rw [if_pos rfl]
  exact h
theorem ite2 {c A B : Prop} [Decidable c] (h1 : c → A) (h2 : ¬ c → B) : if c then A else B := by
  by_cases h : c
  · rw [if_pos h]
    exact h1 h
  · rw [if_neg h]
    exact h2 h
theorem iteNS {c A B : Prop} [Decidable c] (hc : c) (h : B) : if (!decide c) = true then A else B := by
  rw [decide_eq_true hc]
  exact iteF h

/-! ### heaps -/
/-- all that was tracked is as it was -/
def Same (H H' : Hp) : Prop := ∀ b o, H b = some o → H' b = some o
theorem Same.refl (H : Hp) : Same H H := fun _ _ h => h
theorem Same.trans {H H1 H2 : Hp} (a : Same H H1) (b : Same H1 H2) : Same H H2 := fun c o h => b c o (a c o h)
theorem Same.free {H H' : Hp} (e : Same H H') {l : Addr} (h : H' l = Option.none) : H l = Option.none := by
  cases q : H l with
  | none => rfl
  | some o =>
    rw [e l o q] at h
    cases h
theorem Same.seq {K : PySem.W.Frag} {H H' : Hp} {a : Addr} {xs : List V} (e : Same H H') (h : SqL K H a xs) : SqL K H' a xs := by
  rcases h with (h | ⟨o, h⟩) | h
  · exact .inl (.inl (e _ _ h))
  · exact .inl (.inr ⟨o, e _ _ h⟩)
  · exact .inr h

/-! ### a dict's pairs: keys that differ -/
section
variable {κ : Type} [DecidableEq κ]
theorem valV_not {kvs : List (κ × V)} {k : κ} (h : valV kvs k = none) : ¬ k ∈ kvs.map (·.1) := by
  intro m
  obtain ⟨p, hp, e⟩ := List.mem_map.mp m
  have q : (kvs.any fun kv => decide (kv.1 = k)) = true := List.any_eq_true.mpr ⟨p, hp, decide_eq_true e⟩
  rw [valV_any, h] at q
  exact absurd q (by simp)
theorem valV_in {kvs : List (κ × V)} {k : κ} {v : V} (h : valV kvs k = some v) : k ∈ kvs.map (·.1) := by
  have q : (kvs.any fun kv => decide (kv.1 = k)) = true := by
    rw [valV_any, h]
    all_goals rfl
  obtain ⟨p, hp, e⟩ := List.any_eq_true.mp q
  exact List.mem_map.mpr ⟨p, hp, of_decide_eq_true e⟩
theorem nd_snoc : ∀ {l : List κ} {k : κ}, l.Nodup → ¬ k ∈ l → (l ++ [k]).Nodup
  | [], k, _, _ => by simp
  | a :: r, k, h, hk => by
    obtain ⟨h1, h2⟩ := List.nodup_cons.mp h
    show (a :: (r ++ [k])).Nodup
    refine List.nodup_cons.mpr ⟨fun m => ?_, nd_snoc h2 fun m => hk (List.mem_cons.mpr (Or.inr m))⟩
    rcases List.mem_append.mp m with q | q
    · exact h1 q
    · exact hk (List.mem_cons.mpr (Or.inl (List.mem_singleton.mp q).symm))
theorem nd_putK {kvs : List (κ × V)} {k : κ} (v : V) (hn : (kvs.map (·.1)).Nodup) (h : valV kvs k = none) : ((putK kvs k v).map (·.1)).Nodup := by
  rw [putK_new v h, List.map_append]
  exact nd_snoc hn (valV_not h)
theorem dropK_pos {p : κ × V} {r : List (κ × V)} {k : κ} (e : p.1 = k) : dropK (p :: r) k = dropK r k := by
  unfold dropK
  rw [List.filter_cons, if_neg (by simp [e])]
theorem dropK_neg {p : κ × V} {r : List (κ × V)} {k : κ} (e : ¬ p.1 = k) : dropK (p :: r) k = p :: dropK r k := by
  unfold dropK
  rw [List.filter_cons, if_pos (by simp [e])]
theorem dropK_no : ∀ {kvs : List (κ × V)} {k : κ}, ¬ k ∈ kvs.map (·.1) → dropK kvs k = kvs
  | [], _, _ => rfl
  | p :: r, k, h => by
    have h' : ¬ k ∈ r.map (·.1) := fun m => by
      obtain ⟨q, hq, e⟩ := List.mem_map.mp m
      exact h (List.mem_map.mpr ⟨q, List.mem_cons.mpr (Or.inr hq), e⟩)
    rw [dropK_neg fun e => h (List.mem_map.mpr ⟨p, List.mem_cons.mpr (Or.inl rfl), e⟩), dropK_no h']
theorem dropK_mem {kvs : List (κ × V)} {k : κ} {p : κ × V} (h : p ∈ dropK kvs k) : p ∈ kvs := (List.mem_filter.mp h).1
theorem nd_dropK : ∀ {kvs : List (κ × V)} {k : κ}, (kvs.map (·.1)).Nodup → ((dropK kvs k).map (·.1)).Nodup
  | [], _, _ => List.nodup_nil
  | p :: r, k, h => by
    have h : (p.1 :: r.map (·.1)).Nodup := h
    obtain ⟨h1, h2⟩ := List.nodup_cons.mp h
    by_cases e : p.1 = k
    · rw [dropK_pos e]
      exact nd_dropK h2
    · rw [dropK_neg e]
      show (p.1 :: (dropK r k).map (·.1)).Nodup
      refine List.nodup_cons.mpr ⟨fun m => h1 ?_, nd_dropK h2⟩
      obtain ⟨q, hq, eq⟩ := List.mem_map.mp m
      exact List.mem_map.mpr ⟨q, dropK_mem hq, eq⟩
theorem dropK_len : ∀ {kvs : List (κ × V)} {k : κ}, (kvs.map (·.1)).Nodup → k ∈ kvs.map (·.1) → (dropK kvs k).length + 1 = kvs.length
  | [], _, _, m => by simp at m
  | p :: r, k, h, m => by
    have h : (p.1 :: r.map (·.1)).Nodup := h
    have m : k = p.1 ∨ k ∈ r.map (·.1) := List.mem_cons.mp m
    obtain ⟨h1, h2⟩ := List.nodup_cons.mp h
    by_cases e : p.1 = k
    · subst e
      rw [dropK_pos rfl, dropK_no h1]
      all_goals rfl
    · have m' : k ∈ r.map (·.1) := m.resolve_left fun z => e z.symm
      have q := dropK_len h2 m'
      rw [dropK_neg e, List.length_cons, List.length_cons]
      omega
end
end L2

set_option maxHeartbeats 4000000
namespace L2
open PySem PySem.Spec PyProof.Rows

/-! ### comprehensions -/
theorem closure_go {env : Env} : ∀ (l : List (Str × NameKind)) (acc : List (Str × Addr)), (∀ x ∈ l, x.2 = NameKind.free → ∃ c, env.cells.lookup x.1 = some c) → (∀ x c, acc.lookup x = some c → env.cells.lookup x = some c) →
    ∃ cl : List (Str × Addr), (forIn l acc (fun (p : Str × NameKind) (cs : List (Str × Addr)) => if (p.2 == NameKind.free) = true then (do let c ← cellOf env p.1; pure (ForInStep.yield ((p.1, c) :: cs))) else pure (ForInStep.yield cs)) : Sem (List (Str × Addr))) = pure cl ∧
      (∀ x c, cl.lookup x = some c → env.cells.lookup x = some c) ∧ (∀ x, (x, NameKind.free) ∈ l → ∃ c, cl.lookup x = some c) ∧ ∀ x c, acc.lookup x = some c → ∃ c', cl.lookup x = some c'
  | [], acc, _, ha => ⟨acc, rfl, ha, fun _ z => (nomatch z), fun x c e => ⟨c, e⟩⟩
  | (n, k) :: r, acc, h, ha => by
    by_cases hk : k = NameKind.free
    · subst hk
      obtain ⟨c, hc⟩ := h (n, NameKind.free) List.mem_cons_self rfl
      obtain ⟨cl, e1, e2, e3, e4⟩ := closure_go r ((n, c) :: acc) (fun x hx => h x (List.mem_cons_of_mem _ hx)) (fun x c' e => by
        by_cases hx : x = n
        · subst hx
          simp only [List.lookup_cons, beq_self_eq_true] at e
          cases e
          exact hc
        · have hb : (x == n) = false := by simpa using hx
          simp only [List.lookup_cons, hb] at e
          exact ha x c' e)
      have hn : ∃ c', cl.lookup n = some c' := e4 n c (by simp only [List.lookup_cons, beq_self_eq_true])
      refine ⟨cl, ?_, e2, fun x hx => ?_, fun x c' e => ?_⟩
      · have hcell : cellOf env n = pure c := by unfold cellOf; rw [hc]
        rw [List.forIn_cons]
        show ((if (NameKind.free == NameKind.free) = true then (do let c ← cellOf env n; pure (ForInStep.yield ((n, c) :: acc))) else pure (ForInStep.yield acc)) >>= _) = pure cl
        rw [if_pos (by decide), hcell, pure_bind, pure_bind]
        exact e1
      · rcases List.mem_cons.mp hx with q | q
        · cases q; exact hn
        · exact e3 x q
      · by_cases hx : x = n
        · subst hx; exact hn
        · refine e4 x c' ?_
          have hb : (x == n) = false := by simpa using hx
          simp only [List.lookup_cons, hb]
          exact e
    · obtain ⟨cl, e1, e2, e3, e4⟩ := closure_go r acc (fun x hx => h x (List.mem_cons_of_mem _ hx)) ha
      refine ⟨cl, ?_, e2, fun x hx => ?_, e4⟩
      · have hb : (k == NameKind.free) = false := by simpa using hk
        rw [List.forIn_cons]
        show ((if (k == NameKind.free) = true then (do let c ← cellOf env n; pure (ForInStep.yield ((n, c) :: acc))) else pure (ForInStep.yield acc)) >>= _) = pure cl
        rw [hb, if_neg (by decide), pure_bind]
        exact e1
      · rcases List.mem_cons.mp hx with q | q
        · cases q; exact absurd rfl hk
        · exact e3 x q
theorem closure_of {scope : Scope} {env : Env} (h : ∀ x ∈ scope.names, x.2 = NameKind.free → ∃ c, env.cells.lookup x.1 = some c) :
    ∃ cl : List (Str × Addr), closureFor scope env = pure cl ∧ (∀ x c, cl.lookup x = some c → env.cells.lookup x = some c) ∧ ∀ x, (x, NameKind.free) ∈ scope.names → ∃ c, cl.lookup x = some c := by
  obtain ⟨cl, e1, e2, e3, _⟩ := closure_go scope.names [] h (fun x c e => by simp at e)
  refine ⟨cl, ?_, e2, e3⟩
  unfold closureFor
  show (forIn scope.names [] _ >>= fun cs => pure cs) = pure cl
  have e1' : (forIn scope.names ([] : List (Str × Addr)) (fun (x : Str × NameKind) (cs : List (Str × Addr)) => if (x.2 == NameKind.free) = true then (do let c ← cellOf env x.1; pure (ForInStep.yield ((x.1, c) :: cs))) else pure (ForInStep.yield cs)) : Sem (List (Str × Addr))) = pure cl := e1
  have e5 : ∀ (m : Sem (List (Str × Addr))), m = pure cl → (m >>= fun cs => pure cs) = pure cl := fun m e => by rw [e, pure_bind]
  exact e5 _ e1'

/-- the context of a comprehension's block: the enclosing names first, then the block's own -/
def cxC (X : Cx) (scope : Scope) (cl : List (Str × Addr)) (N2 ys : List Str) (C : Addr) (s : Shared) (H : Hp) (fp : List Addr) : Cx :=
  { prog := X.prog, w := X.w, K := X.K, mg := X.mg, base := X.base, A := X.A, N := N2 ++ ys, s₀ := s, H₀ := H, env := compEnvC scope cl C X.env, outer := X.stack, stack := X.stack, ex := fp, fn := fun _ => false, calm := X.calm, pn := [], xe := fun _ _ => False }

/-- the tests of a clause -/
def PTs (X : Cx) (ifs : List Expr) (t : TT) : Prop :=
  ∀ (pins : List (Addr × Obj)) (s : Shared) (σ : St) (H : Hp) (Q : Bool → Hp → Prop), Inv X pins σ H s → t σ H Q →
    wpAny (model X.prog X.w) X.A (forIn ifs true fun c r => if r = true then do let ok ← isTrue c X.env (eval c X.env); pure (ForInStep.yield ok) else pure (ForInStep.yield r)) (TP X pins σ Q) X.xe s
def tYes : TT := fun _ H Q => Q true H
theorem pts_nil {X : Cx} : PTs X [] tYes := fun _ _ _ H _ I h => wpAny_tests_nil ⟨H, I, h⟩
theorem pts_one {X : Cx} {c : Expr} {t : TT} (h : PT X c t) : PTs X [c] t := fun pins s σ H Q I q => wpAny_tests_one (h pins s σ H Q I q)

theorem compLoop_go {prog : Program} {w : World} {A : Around} {R : Result → Shared → Prop} {s : Shared} {elt target iter : Expr} {ifs : List Expr} {scope : Scope} {pos : Pos} {it acc : Value} {env : Env} (I : Nat → Shared → Prop)
    (turn : ∀ n s, I n s → wpAny (model prog w) A (pyNext it) (fun r s₁ => match r with
      | none => R (.ok .next) s₁
      | some v => wpAny (model prog w) A (letOwnedTupleGo target it v) (fun _ s₁' => wpAny (model prog w) A (assign target env v) (fun _ s₂ =>
          wpAny (model prog w) A (forIn ifs true fun c r => if r = true then do let ok ← isTrue c env (eval c env); pure (ForInStep.yield ok) else pure (ForInStep.yield r)) (fun ok s₃ =>
            if ok = true then wpAny (model prog w) A (eval elt env) (fun x s₄ =>
              wpAny (model prog w) A (call (.builtin "list.append") [acc, x]) (fun _ s₅ => ∃ m, m < n ∧ I m s₅) (notedBy (model prog w) A env fun e s' => R (.error e) s') s₄) (notedBy (model prog w) A env fun e s' => R (.error e) s') s₃
            else ∃ m, m < n ∧ I m s₃) (notedBy (model prog w) A env fun e s' => R (.error e) s') s₂) (notedBy (model prog w) A env fun e s' => R (.error e) s') s₁') (notedBy (model prog w) A env fun e s' => R (.error e) s') s₁) (notedBy (model prog w) A env fun e s' => R (.error e) s') s)
    (n : Nat) (h : I n s) :
    codeAny (model prog w) A (.compLoop (.ListComp elt [⟨target, iter, ifs, 0⟩] scope pos) 0 it acc env) R s := by
  refine codeAny_loop rfl I (fun n s hI => ?_) n h
  show wpAny _ A ((compTurn (.ListComp elt [⟨target, iter, ifs, 0⟩] scope pos) 0 it acc env).onRaise (fun x => do noteFrame x env; theTreesLotGoes x)) _ _ s
  refine wpAny_noted ?_
  rw [compTurn_list]
  refine wpAny_bind (wpAny_standAt (wpAny_bind (wpAny_mono (turn n s hI) (fun r s₁ h₁ => ?_) fun _ _ h' => h')))
  cases r with
  | none => exact wpAny_pure h₁
  | some v =>
    refine wpAny_bind (wpAny_mono h₁ (fun _ s₁' h₁' => ?_) fun _ _ h' => h')
    refine wpAny_bind (wpAny_mono h₁' (fun _ s₂ h₂ => wpAny_bind (wpAny_mono h₂ (fun ok s₃ h₃ => ?_) fun _ _ h' => h')) fun _ _ h' => h')
    cases ok with
    | false => exact wpAny_pure ⟨rfl, h₃⟩
    | true =>
      exact wpAny_bind (wpAny_bind (wpAny_mono h₃ (fun x s₄ h₄ => wpAny_bind (wpAny_mono h₄ (fun _ s₅ h₅ => wpAny_pure (wpAny_pure ⟨rfl, h₅⟩)) fun _ _ h' => h')) fun _ _ h' => h'))

/-- [elt for tg in iter if ..]: k names of its own -/
def LCT (k : Nat) (g : TG) (tt : TT) (te : TE) (σ : St) (Q : VK) (J : It) (H1 : Hp) : Prop := ∀ D, H1 D = none → ∃ W : Nat → Nat → List V → Hp → Prop, (∃ m, W 0 m [] (upd H1 D (.lst []))) ∧ ∀ i m ys H, W i m ys H →
  (J.stop i H ∧ Q (.ref D) H) ∨ (J.go i H ∧ ∀ x H', J.yld i H x H' → g x (σ ++ List.replicate k none) H' fun σ2 H2 => (∃ τ : St, σ2 = σ ++ τ ∧ τ.length = k) ∧
    tt σ2 H2 fun b H3 => if b = true then te σ2 H3 fun y H4 => H4 D = some (.lst ys) ∧ ys.length < sizeLine ∧ ∃ m', m' < m ∧ W (i + 1) m' (ys ++ [y]) (upd H4 D (.lst (ys ++ [y]))) else ∃ m', m' < m ∧ W (i + 1) m' ys H3)
def tLC (k : Nat) (wi : TI) (g : TG) (tt : TT) (te : TE) : TE := fun σ H Q => wi σ H (LCT k g tt te σ Q)

theorem lookup_relabel {env : Env} : ∀ {names : List (Str × NameKind)} {x : Str} {k : NameKind}, (names.map fun (n, k) => if (k == NameKind.free && env.scope.kind == .function && env.kindOf n == some .cell) then (n, NameKind.cell) else (n, k)).lookup x = some k →
    (names.lookup x = some k) ∨ (names.lookup x = some .free ∧ k = .cell)
  | [], _, _, h => by simp at h
  | (n, k0) :: r, x, k, h => by
    have ih := @lookup_relabel env r x k
    have h : List.lookup x ((if (k0 == NameKind.free && env.scope.kind == .function && env.kindOf n == some .cell) = true then (n, NameKind.cell) else (n, k0)) :: r.map fun (n, k) => if (k == NameKind.free && env.scope.kind == .function && env.kindOf n == some .cell) then (n, NameKind.cell) else (n, k)) = some k := h
    cases hx : x == n with
    | true =>
      by_cases hc : (k0 == NameKind.free && env.scope.kind == .function && env.kindOf n == some .cell) = true
      · rw [if_pos hc] at h
        simp only [List.lookup_cons, hx] at h
        cases h
        have hf : k0 = .free := by
          have := hc
          simp only [Bool.and_eq_true, beq_iff_eq] at this
          exact this.1.1
        right
        simp only [List.lookup_cons, hx, hf, and_self]
      · rw [if_neg hc] at h
        simp only [List.lookup_cons, hx] at h
        cases h
        left
        simp only [List.lookup_cons, hx]
    | false =>
      have h' : List.lookup x (r.map fun (n, k) => if (k == NameKind.free && env.scope.kind == .function && env.kindOf n == some .cell) then (n, NameKind.cell) else (n, k)) = some k := by
        by_cases hc : (k0 == NameKind.free && env.scope.kind == .function && env.kindOf n == some .cell) = true
        · rw [if_pos hc] at h
          simp only [List.lookup_cons, hx] at h
          exact h
        · rw [if_neg hc] at h
          simp only [List.lookup_cons, hx] at h
          exact h
      rcases ih h' with q | q
      · left; simp only [List.lookup_cons, hx]; exact q
      · right; simp only [List.lookup_cons, hx]; exact q

theorem pe_lc {X : Cx} {elt tg iter : Expr} {ifs : List Expr} {scope : Scope} {pos : Pos} {wi : TI} {g : TG} {tt : TT} {te : TE}
    (N N2 ys : List Str) (sc : Scope) (hc : X.calm = true) (hNe : X.N = N) (hNl : N2.length = N.length) (hsub : ∀ p ∈ N2.zip N, p.1 = p.2 ∨ ¬ scope.names.lookup p.1 = some .free) (hsc : X.env.scope = sc) (hkind : scope.kind = .function) (hcell : ∀ y ∈ scope.names, y.2 ≠ .cell) (hnames : ∀ y ∈ scope.names, y.2 = .local → scope.names.lookup y.1 = some .local)
    (hfr : ∀ y ∈ scope.names, y.2 = .free → sc.names.lookup y.1 = some .cell) (hloc : ∀ y ∈ N2, scope.names.lookup y ≠ some .local)
    (hi : PI X tg iter wi) (hg : ∀ cl C s H fp, PG (cxC X scope cl N2 ys C s H fp) tg g) (ht : ∀ cl C s H fp, PTs (cxC X scope cl N2 ys C s H fp) ifs tt) (he : ∀ cl C s H fp, PE (cxC X scope cl N2 ys C s H fp) elt te)
    (hs : ∀ x, foldedSetIterable iter X.env x = pure x := by intro _; rfl) :
    PE X (.ListComp elt [⟨tg, iter, ifs, 0⟩] scope pos) (tLC ys.length wi g tt te) := by
  intro pins s σ H Q I h
  rw [eval_ListComp]
  obtain ⟨cl, hclos, cl1, cl2⟩ := closure_of (scope := scope) (env := X.env) (fun x hx hf => I.ok.has x.1 (.inl (by
    show X.env.scope.names.lookup x.1 = _
    rw [hsc]; exact hfr x hx hf)))
  refine wpAny_comprehension_free (use := none) rfl hs hclos hkind hnames (thn (hi pins s σ H _ I h) fun v s1 h1 => thn h1 fun itv s2 h2 => ?_)
  obtain ⟨it, fp, tn, J, H2, e, I2, T, st2, f2, hD⟩ := h2
  subst e
  refine wpAny_newObj_type (wpAny_newFunctionEnv hcell (by intro y hy; simp at hy) (fun h₁ hns₁ hsb₁ => ?_) hkind)
  have I3 : Inv X pins σ (upd H2 s2.heap.objs.size (.lst [])) { s2 with heap := s2.heap.push { cls := .type "list", data := .seq ([] : List Value).toArray }, toks := s2.toks } := I2.lnew (ys := []) (its := []) .nil (Nat.zero_le _)
  have fD : H2 s2.heap.objs.size = none := I2.hok.fresh (Nat.le_refl _)
  obtain ⟨W, ⟨m0, w0⟩, turn⟩ := hD _ fD
  have hfp2 : ∀ b ∈ fp, b < s2.heap.objs.size := fun b hb => by
    obtain ⟨o, e, _⟩ := T.obj 0 s2.heap st2 b hb
    exact Heap.lt_size e
  dsimp only at hns₁ hsb₁ I3 ⊢
  generalize hH2 : s2.heap.push { cls := .type "list", dict := none, data := .seq ([] : List Value).toArray } = H3h at hns₁ hsb₁ I3 ⊢
  generalize hDd : s2.heap.objs.size = D at *
  have hC : H3h.objs.size = D + 1 := by rw [← hH2, Heap.size_push, hDd]
  generalize hCc : H3h.objs.size = C at *
  have hDC : D < C := by rw [hC]; exact Nat.lt_succ_self _
  have hCD : C ≠ D := Nat.ne_of_gt hDC
  have hfpC : ∀ b ∈ fp, b ≠ C := fun b hb => Nat.ne_of_lt (Nat.lt_trans (hfp2 b hb) hDC)
  have hfpD : ∀ b ∈ fp, b ≠ D := fun b hb => Nat.ne_of_lt (hfp2 b hb)
  have old2 : ∀ b o, s2.heap.get? b = some o → H3h.get? b = some o := fun b o e => by rw [← hH2]; exact Heap.get?_push_of_some _ e
  have old : ∀ b o, H3h.get? b = some o → h₁.get? b = some o := fun b o e => hsb₁.extBut b o (Nat.ne_of_lt (by have := Heap.lt_size e; rw [hCc] at this; exact this)) (Heap.get?_push_of_some _ e)
  have frH : upd H2 D (.lst []) C = none := by rw [upd_ne hCD]; exact I2.hok.fresh (by rw [hDd]; exact Nat.le_of_lt hDC)
  -- the block's context
  have ok' : (cxC X scope cl N2 ys C { s2 with heap := H3h } (upd H2 D (.lst [])) fp).Ok := by
    refine ⟨I.ok.mod, hkind, I.ok.glob, I.ok.blt, ?_, ?_, ?_, ?_, I.ok.hd, I.ok.frames, .inl rfl, ?_, ?_, ?_, ?_, ?_, ?_, ?_⟩
    · show H3h.objs.size ≤ C
      exact Nat.le_of_eq hCc
    · intro x y c h1 h2
      exact I.ok.inj x y c (cl1 x c h1) (cl1 y c h2)
    · intro x hx
      have hx : (relabel scope X.env).names.lookup x = some .cell ∨ (relabel scope X.env).names.lookup x = some .free := hx
      have key : scope.names.lookup x = some .free ∨ scope.names.lookup x = some .cell := by
        rcases hx with q | q
        · rcases lookup_relabel q with z | z
          · exact .inr z
          · exact .inl z.1
        · rcases lookup_relabel q with z | z
          · exact .inl z
          · exact .inl z.1
      rcases key with q | q
      · exact cl2 x (PySem.mem_of_lookup q)
      · exact absurd rfl (hcell _ (PySem.mem_of_lookup q))
    · intro x c z _
      exact absurd (show false = true from z) (by decide)
    · intro b hb
      refine ⟨fun z => ?_, fun x c e => ?_⟩
      · exact hfpC b hb z
      · exact (f2 b hb).2.2.2.2.1 x c (cl1 x c e)
    · intro b o e
      exact ⟨I3.bk b o e, (I3.bs b o e).2⟩
    · exact Nat.le_trans I.ok.bsz I3.sz
    · intro b o e hb
      rcases (f2 b hb).2.2.2.1 with q | q
      · exact I.ok.noex b o e q
      · exact absurd (Nat.lt_of_lt_of_le (Heap.lt_size e) (Nat.le_trans I.ok.bsz q)) (Nat.lt_irrefl _)
    · intro b hb hz
      rcases List.mem_cons.mp (I.stkSub b hz) with q | q
      · exact (f2 b hb).2.1 q
      · exact (f2 b hb).2.2.1 q
    · exact I3.stack
    · intro b hb
      exact I3.stkFree b hb
  have lenN : N2.length = X.N.length := by rw [hNl, hNe]
  have lenR : (σ ++ List.replicate ys.length (none : Option V)).length = (N2 ++ ys).length := by
    rw [List.length_append, List.length_append, List.length_replicate, I.len, lenN]
  have I4 : Inv (cxC X scope cl N2 ys C { s2 with heap := H3h } (upd H2 D (.lst [])) fp) [] (σ ++ List.replicate ys.length none) (upd H2 D (.lst [])) { s2 with heap := h₁, toks := s2.toks + ([] : List (Str × Value)).length } := by
    refine ⟨ok', rfl, I2.bare, Un.kept old, ⟨_, hns₁, ?_⟩, ?_, frH, ?_, ?_, I3.hok.kept old, lenR⟩
    · intro i x v h1 h2 h3
      have hi : i < X.N.length := by
        by_cases hi : i < X.N.length
        · exact hi
        · exfalso
          rw [List.getElem?_append_right (by rw [I.len]; omega), List.getElem?_replicate] at h2
          split at h2 <;> cases h2
      have h1 : N2[i]? = some x := by
        have h1 : (N2 ++ ys)[i]? = some x := h1
        rw [List.getElem?_append_left (by rw [lenN]; exact hi)] at h1
        exact h1
      have h2 : σ[i]? = some (some v) := by
        rw [List.getElem?_append_left (by rw [I.len]; exact hi)] at h2
        exact h2
      have h3 : Vis (relabel scope X.env) x := h3
      have hx : x ∈ N2 := List.mem_of_getElem? h1
      have hfree : scope.names.lookup x = some .free := by
        rcases h3 with q | q | q
        · rcases lookup_relabel q with z | z
          · exact absurd z (hloc x hx)
          · exact z.1
        · rcases lookup_relabel q with z | z
          · exact absurd rfl (hcell _ (PySem.mem_of_lookup z))
          · exact z.1
        · rcases lookup_relabel q with z | z
          · exact z
          · exact z.1
      have h1 : X.N[i]? = some x := by
        rw [hNe] at hi ⊢
        have h1z : (N2.zip N)[i]? = some (x, N[i]) := by
          rw [List.getElem?_zip_eq_some]
          exact ⟨h1, List.getElem?_eq_getElem hi⟩
        rcases hsub _ (List.mem_of_getElem? h1z) with e | e
        · rw [List.getElem?_eq_getElem hi]
          exact congrArg some e.symm
        · exact absurd hfree e
      have hk : X.env.scope.names.lookup x = some .cell := by rw [hsc]; exact hfr _ (PySem.mem_of_lookup hfree) rfl
      obtain ⟨m, hn, hl⟩ := I3.loc
      obtain ⟨u, r, l⟩ := hl i x v h1 h2 (.inr (.inl hk))
      refine ⟨u, r, .inr ⟨?_, ?_⟩⟩
      · show (relabel scope X.env).names.lookup x = some .cell ∨ (relabel scope X.env).names.lookup x = some .free
        rcases h3 with q | q | q
        · rcases lookup_relabel q with z | z
          · exact absurd z (hloc x hx)
          · cases z.2
        · exact .inl q
        · exact .inr q
      · rcases l with ⟨q, _⟩ | ⟨_, c, e, z⟩
        · have q : X.env.scope.names.lookup x = some .local := q
          rw [hk] at q; cases q
        · obtain ⟨c', e'⟩ := cl2 x (PySem.mem_of_lookup hfree)
          have := cl1 x c' e'
          rw [e] at this; cases this
          obtain ⟨o, ho, hd⟩ := z
          exact ⟨c, e', o, old c o ho, hd⟩
    · intro x c e
      obtain ⟨v, o, ho, hd⟩ := I3.cell x c (cl1 x c e)
      exact ⟨v, o, old c o ho, hd⟩
    · intro x c e
      exact I3.freeC x c (cl1 x c e)
    · intro p hp
      exact absurd (show p ∈ ([] : List (Addr × Obj)) from hp) (by simp)
  have stat : ∀ {H' : Hp}, (∀ b ∈ fp, H' b = none) → ∀ b ∈ fp, FpOk (cxC X scope cl N2 ys C { s2 with heap := H3h } (upd H2 D (.lst [])) fp) [] H' b := fun hn b hb => by
    refine ⟨hn b hb, fun z => ?_, ok'.exfs b hb, .inl hb, fun x c e => (f2 b hb).2.2.2.2.1 x c (cl1 x c e), fun p hp => absurd (show p ∈ ([] : List (Addr × Obj)) from hp) (by simp)⟩
    exact hfpC b hb z
  have frD : ∀ b ∈ fp, upd H2 D (.lst []) b = none := fun b hb => by
    rw [upd_ne (hfpD b hb)]
    exact (f2 b hb).1
  have tn4 : tn 0 h₁ := T.keep _ _ _ st2 fun b _ o e => old b o (old2 b o e)
  -- behind the block
  have fin : ∀ {σ' : St} {H' : Hp} {s' : Shared}, Inv (cxC X scope cl N2 ys C { s2 with heap := H3h } (upd H2 D (.lst [])) fp) [] σ' H' s' → Q (.ref D) H' →
      compPost (model X.prog X.w) X.A X.xe none (EP X pins σ Q) (.ref D) C (.ok .next) s' := fun {σ' H' s'} I' q => by
    obtain ⟨m, hn, _⟩ := I'.loc
    refine ⟨m, hn, fun h' hs' => ?_⟩
    have uab : Un (frs X.stack) fp H2 H' s2.heap s'.heap := (Un.laid (fs := frs X.stack) (ex := fp) (h := s2.heap) (h' := H3h) (a := D) (o := .lst []) old2 (Nat.le_of_eq hDd) fD).trans I'.base
    have neC : ∀ b o, s2.heap.get? b = some o → b ≠ C := fun b o e => Nat.ne_of_lt (Nat.lt_trans (by have := Heap.lt_size e; rw [hDd] at this; exact this) hDC)
    have u' : Un (frs X.stack) fp H2 H' s2.heap h' := by
      refine ⟨fun b o e n hb hx => ?_, fun b o e n hb hx => ?_, uab.free, fun b o e hx => ?_, uab.tups, uab.frzs, uab.tbls⟩
      · exact (hs'.2 b (neC b o e)).trans (uab.keep b o e n hb hx)
      · obtain ⟨sl, q⟩ := uab.slot b o e n hb hx
        exact ⟨sl, (hs'.2 b (neC b o e)).trans q⟩
      · obtain ⟨o', q⟩ := uab.there b o e hx
        exact ⟨o', (hs'.2 b (neC b o e)).trans q⟩
    have nC : H' C = none := I'.free
    have hok' : HOk X.prog X.w H' h' := fun a o e => (I'.hok a o e).stay (fun b u hb q => (hs'.2 b (by
      rintro rfl
      rcases hb with rfl | hb
      · rw [nC] at e; cases e
      · rw [nC] at hb; cases hb)).trans q) (fun _ q => q) fun _ _ q => q
    refine ⟨.ref D, H', I2.call' (s' := { s' with heap := h' }) (ch := fp) I'.os u' hok' I'.bare (fun b hb => ?_), rfl, q⟩
    obtain ⟨f0, f1, _, f3, f4, f5⟩ := f2 b hb
    exact ⟨f3, f1, f4, f5⟩
  have loop : codeAny (model X.prog X.w) X.A (.compLoop (.ListComp elt [⟨tg, iter, ifs, 0⟩] scope pos) 0 (.ref it) (.ref D) (compEnvC scope cl C X.env)) (compPost (model X.prog X.w) X.A X.xe none (EP X pins σ Q) (.ref D) C) { s2 with heap := h₁, toks := s2.toks + ([] : List (Str × Value)).length } := by
    refine compLoop_go (fun n s' => ∃ i zs H', Inv (cxC X scope cl N2 ys C { s2 with heap := H3h } (upd H2 D (.lst [])) fp) [] (σ ++ List.replicate ys.length none) H' s' ∧ tn i s'.heap ∧ (∀ b ∈ fp, H' b = none) ∧ W i n zs H') ?_ m0
      ⟨0, [], _, I4, tn4, frD, w0⟩
    rintro n s3 ⟨i, zs, H3, J3, st3, fr3, w3⟩
    rcases turn i n zs H3 w3 with ⟨stop, qn⟩ | ⟨go, step⟩
    · refine thn (T.done (cxC X scope cl N2 ys C { s2 with heap := H3h } (upd H2 D (.lst [])) fp) rfl rfl rfl hc i [] s3 _ H3 _ J3 (stat fr3) st3 stop) fun r s4 ⟨hr, J4⟩ => ?_
      subst hr
      exact fin J4 qn
    · refine thn (T.item (cxC X scope cl N2 ys C { s2 with heap := H3h } (upd H2 D (.lst [])) fp) rfl rfl rfl hc i [] s3 _ H3 _ J3 (stat fr3) st3 go) fun r s4 ⟨u, hr, h4⟩ => ?_
      subst hr
      refine thn h4 fun _ s5 ⟨x, H5, J5, r5, y5, st5, fr5⟩ => ?_
      have J5' := J5.pinned (stat fr5) (T.obj _ _ st5)
      refine wpAny_mono (hg cl C _ _ fp _ s5 _ H5 x u _ J5' r5 (step x H5 y5)) (fun _ s6 ⟨σ6, H6, J6, ⟨τ, eτ, lτ⟩, q6⟩ => ?_) fun _ _ z => False.elim z
      refine wpAny_mono (ht cl C _ _ fp _ s6 σ6 H6 _ J6 q6) (fun b s7 ⟨H7, J7, q7⟩ => ?_) fun _ _ z => False.elim z
      have again : ∀ {H8 : Hp} {s8 : Shared} {zs' : List V}, Inv (cxC X scope cl N2 ys C { s2 with heap := H3h } (upd H2 D (.lst [])) fp) ([] ++ pinsAt fp s5.heap) σ6 H8 s8 → (∃ m', m' < n ∧ W (i + 1) m' zs' H8) →
          ∃ m, m < n ∧ ∃ i zs H', Inv (cxC X scope cl N2 ys C { s2 with heap := H3h } (upd H2 D (.lst [])) fp) [] (σ ++ List.replicate ys.length none) H' s8 ∧ tn i s8.heap ∧ (∀ b ∈ fp, H' b = none) ∧ W i m zs H' := fun {H8 s8 zs'} J8 ⟨m', hm, w8⟩ => by
        refine ⟨m', hm, i + 1, zs', H8, J8.unpinned.weak (by rw [eτ, List.length_append, List.length_append, List.length_replicate, lτ]) (fun j v e => ?_), T.keep _ _ _ st5 fun b hb o e => (J8.pin (b, o) (List.mem_append_right _ (List.mem_append_right _ (mem_pinsAt hb e)))).1, fun b hb => ?_, w8⟩
        · rw [eτ]
          by_cases hj : j < σ.length
          · rw [List.getElem?_append_left hj] at e ⊢
            exact e
          · exfalso
            rw [List.getElem?_append_right (by omega), List.getElem?_replicate] at e
            split at e <;> cases e
        · obtain ⟨o, e, d⟩ := T.obj _ _ st5 b hb
          exact (J8.pin (b, o) (List.mem_append_right _ (List.mem_append_right _ (mem_pinsAt hb e)))).2.1
      cases b with
      | false =>
        rw [if_neg (by decide)] at q7 ⊢
        exact again J7 q7
      | true =>
        rw [if_pos rfl] at q7 ⊢
        refine wpAny_mono (he cl C _ _ fp _ s7 σ6 H7 _ J7 q7) (fun y s8 ⟨yv, H8, J8, r8, hD8, hz8, w8⟩ => ?_) fun _ _ z => False.elim z
        refine wpAny_mono (mt_append (X := (cxC X scope cl N2 ys C { s2 with heap := H3h } (upd H2 D (.lst [])) fp)) _ s8 σ6 H8 (.ref D) [yv] (.ref D) [y] (fun _ H9 => ∃ m', m' < n ∧ W (i + 1) m' (zs ++ [yv]) H9) J8 rfl (.cons r8 .nil) ⟨D, zs, yv, rfl, rfl, hD8, hz8, w8⟩) (fun _ s9 ⟨_, H9, J9, _, w9⟩ => ?_) fun _ _ z => False.elim z
        exact again J9 w9
  exact codeAny_compStart_list loop (T.self _ 0 _ _ _ tn4 loop)

/-- the tail of a comprehension's reading, by an invariant: one name of its own, no test -/
theorem lcJ {J : It} {n k : Nat} {σ : St} {H1 : Hp} {te : TE} {Q : VK} (xv : Nat → V) (Pv : Addr → Nat → List V → Hp → Prop) (hk : σ.length = k)
    (hgo : ∀ D i ys H, i < n → Pv D i ys H → J.go i H) (hyld : ∀ D i ys H x H', i < n → Pv D i ys H → J.yld i H x H' → H' = H ∧ x = xv i) (hstop : ∀ D ys H, Pv D n ys H → J.stop n H)
    (h0 : ∀ D, H1 D = none → Pv D 0 [] (upd H1 D (.lst [])))
    (turn : ∀ D i ys H (post : VK), i < n → Pv D i ys H → (∀ y H4, H4 D = some (.lst ys) → ys.length < sizeLine → Pv D (i + 1) (ys ++ [y]) (upd H4 D (.lst (ys ++ [y]))) → post y H4) → te (σ ++ [some (xv i)]) H post)
    (fin : ∀ D ys H, Pv D n ys H → Q (.ref D) H) :
    LCT 1 (gName k) tYes te σ Q J H1 := by
  intro D hD
  refine ⟨fun i m ys H => m = n - i ∧ i ≤ n ∧ Pv D i ys H, ⟨n, by simp, Nat.zero_le _, h0 D hD⟩, ?_⟩
  rintro i m ys H ⟨rfl, hi, p⟩
  by_cases hlt : i < n
  · refine .inr ⟨hgo D i ys H hlt p, fun x H' y => ?_⟩
    obtain ⟨rfl, rfl⟩ := hyld D i ys H x H' hlt p y
    have e : (σ ++ List.replicate 1 (none : Option V)).set k (some (xv i)) = σ ++ [some (xv i)] := by
      subst hk
      simp [List.set_append]
    unfold gName
    rw [e]
    unfold tYes
    refine ⟨⟨_, rfl, rfl⟩, ?_⟩
    refine iteT ?_
    exact turn D i ys H' _ hlt p fun y H4 h1 h2 h3 => ⟨h1, h2, n - (i + 1), by omega, rfl, hlt, h3⟩
  · have e : i = n := by omega
    subst e
    exact .inl ⟨hstop D ys H p, fin D ys H p⟩
/-- elements that make nothing: over a list, over a range -/
theorem lcL0 {K : PySem.W.Frag} {a : Addr} {xs : List V} {k : Nat} {σ : St} {H1 : Hp} {te : TE} {Q : VK} (R : Nat → V → Prop) (hk : σ.length = k) (hq : SqL K H1 a xs) (hz : xs.length ≤ 1000)
    (turn : ∀ D i x ys (post : VK), xs[i]? = some x → H1 D = none → (∀ y, R i y → post y (upd H1 D (.lst ys))) → te (σ ++ [some x]) (upd H1 D (.lst ys)) post)
    (fin : ∀ D ys, H1 D = none → ys.length = xs.length → (∀ i y, ys[i]? = some y → R i y) → Q (.ref D) (upd H1 D (.lst ys))) :
    LCT 1 (gName k) tYes te σ Q (Itl K a) H1 := by
  have sq : ∀ D ys, H1 D = none → SqL K (upd H1 D (.lst ys)) a xs := fun D ys h => Same.seq (fun b u e => by rw [upd_ne (ne_of_none e h)]; exact e) hq
  refine lcJ (n := xs.length) (fun i => xs.getD i .non) (fun D i ys H => H1 D = none ∧ ys.length = i ∧ (∀ j y, ys[j]? = some y → R j y) ∧ H = upd H1 D (.lst ys)) hk ?_ ?_ ?_ ?_ ?_ ?_
  · rintro D i ys H hi ⟨h1, h2, h3, rfl⟩
    exact ⟨xs, xs[i], sq D ys h1, by simp [hi]⟩
  · rintro D i ys H x H' hi ⟨h1, h2, h3, rfl⟩ ⟨e, y⟩
    refine ⟨e, ?_⟩
    have := y xs (sq D ys h1)
    rw [List.getD_eq_getElem?_getD, this]; rfl
  · rintro D ys H ⟨h1, h2, h3, rfl⟩
    exact ⟨xs, sq D ys h1, Nat.le_refl _⟩
  · intro D hD
    exact ⟨hD, rfl, fun j y e => by simp at e, rfl⟩
  · rintro D i ys H post hi ⟨h1, h2, h3, rfl⟩ hp
    have hx : xs[i]? = some (xs.getD i .non) := by rw [List.getD_eq_getElem?_getD, List.getElem?_eq_getElem hi]; rfl
    refine turn D i _ ys post hx h1 fun y hy => hp y _ upd_same (small1000 (by omega)) ⟨h1, by rw [List.length_append, h2]; rfl, fun j z e => ?_, by rw [upd_upd]⟩
    by_cases hj : j < ys.length
    · rw [List.getElem?_append_left hj] at e
      exact h3 j z e
    · rw [List.getElem?_append_right (by omega)] at e
      have hj2 : j = i := by
        have := (List.getElem?_eq_some_iff.mp e).1
        simp at this
        omega
      subst hj2
      rw [h2, Nat.sub_self] at e
      cases e
      exact hy
  · rintro D ys H ⟨h1, h2, h3, rfl⟩
    exact fin D ys h1 h2 h3
theorem lcR0 {lo : Int} {n : Nat} {k : Nat} {σ : St} {H1 : Hp} {te : TE} {Q : VK} (R : Nat → V → Prop) (hk : σ.length = k) (hz : n ≤ 1000)
    (turn : ∀ D i ys (post : VK), i < n → H1 D = none → (∀ y, R i y → post y (upd H1 D (.lst ys))) → te (σ ++ [some (.int (lo + i))]) (upd H1 D (.lst ys)) post)
    (fin : ∀ D ys, H1 D = none → ys.length = n → (∀ i y, ys[i]? = some y → R i y) → Q (.ref D) (upd H1 D (.lst ys))) :
    LCT 1 (gName k) tYes te σ Q (Itr lo n) H1 := by
  refine lcJ (n := n) (fun i => .int (lo + i)) (fun D i ys H => H1 D = none ∧ ys.length = i ∧ (∀ j y, ys[j]? = some y → R j y) ∧ H = upd H1 D (.lst ys)) hk ?_ ?_ ?_ ?_ ?_ ?_
  · rintro D i ys H hi _
    exact hi
  · rintro D i ys H x H' hi _ ⟨e, y⟩
    exact ⟨e, y⟩
  · rintro D ys H _
    exact Nat.le_refl _
  · intro D hD
    exact ⟨hD, rfl, fun j y e => by simp at e, rfl⟩
  · rintro D i ys H post hi ⟨h1, h2, h3, rfl⟩ hp
    refine turn D i ys post hi h1 fun y hy => hp y _ upd_same (small1000 (by omega)) ⟨h1, by rw [List.length_append, h2]; rfl, fun j z e => ?_, by rw [upd_upd]⟩
    by_cases hj : j < ys.length
    · rw [List.getElem?_append_left hj] at e
      exact h3 j z e
    · rw [List.getElem?_append_right (by omega)] at e
      have hj2 : j = i := by
        have := (List.getElem?_eq_some_iff.mp e).1
        simp at this
        omega
      subst hj2
      rw [h2, Nat.sub_self] at e
      cases e
      exact hy
  · rintro D ys H ⟨h1, h2, h3, rfl⟩
    exact fin D ys h1 h2 h3
end L2

namespace L2
open PySem PySem.Spec PyProof.Rows PySem.Builtin PySem.Builtin.Str

section
variable {X : Cx}
/-! ### isinstance -/
theorem call_isi : CallR X (.builtin "isinstance") (fun xs H Q => ∃ x c t b, xs = [x, .ty c] ∧ TyOf X.K H x t ∧ PySem.W.kitOne X.K t (.type c) = some b ∧ Q (.bl b) H) := by
  intro pins s σ H xs us Q I rv h
  obtain ⟨x, c, t, b, rfl, ty, e, q⟩ := h
  obtain ⟨u, u2, rfl, r1, r2⟩ := vals2 rv
  cases r2
  exact isinst_ok I r1 ty e fun tk => ⟨.bl b, H, I.tok tk, rfl, q⟩
theorem kit_self {K : PySem.W.Frag} {T : String} : PySem.W.kitOne K (.type T) (.type T) = some true := by
  unfold PySem.W.kitOne
  rw [if_pos (by simp)]

/-! ### texts -/
theorem op_mul_str : OpR X (binaryOp .Mult) (fun x y H Q => ∃ z n, x = .str z ∧ y = .int n ∧ MulOk z n ∧ Q (.str (Txt.mul z n)) H) := by
  intro pins s σ H x y v u Q I rx ry h
  obtain ⟨z, n, rfl, rfl, hok, q⟩ := h
  obtain ⟨t, rfl⟩ := rx
  obtain ⟨t', rfl⟩ := ry
  exact SB.mul hok fun t2 k => ⟨.str _, H, I.tok _, ⟨_, rfl⟩, q⟩
theorem mulOk_small {z : Str} {n : Int} (h0 : 0 ≤ n) (h1 : n ≤ 1000) (hz : z.length ≤ 1000) : MulOk z n := by
  have e : (2 : Int) ^ 63 = 9223372036854775808 := by decide
  refine ⟨?_, fun h2 _ => ?_, fun _ _ => ?_⟩
  · rw [e]
    simp only [Bool.or_eq_false_iff, decide_eq_false_iff_not]
    omega
  · rw [e]
    have h3 : (9223372036854775808 - 1 : Int) / n ≥ 9223372036854775807 / 1000 := by
      have hn : 0 < n := by omega
      rw [ge_iff_le, Int.le_ediv_iff_mul_le hn]
      have : (9223372036854775807 / 1000 : Int) * n ≤ (9223372036854775807 / 1000 : Int) * 1000 := Int.mul_le_mul_of_nonneg_left h1 (by decide)
      have e2 : (9223372036854775807 / 1000 : Int) * 1000 ≤ 9223372036854775808 - 1 := by decide
      omega
    omega
  · have hn : n.toNat ≤ 1000 := by omega
    have h4 : z.length * n.toNat ≤ 1000 * 1000 := Nat.mul_le_mul hz hn
    have hs : sizeLine = 16777216 := sizeLine_eq
    unfold tooLong
    rw [hs]
    exact decide_eq_false (by omega)
theorem len_mulS {z : Str} {n : Int} {L N : Nat} (hz : z.length ≤ L) (hn : n ≤ N) : (Txt.mul z n).length ≤ L * N := len_mul_leN hz hn

def rSlS : V → Option Int → Option Int → Hp → VK → Prop := fun x lo hi H Q => ∃ z, x = .str z ∧ z.length ≤ sizeLine ∧ Q (.str (Txt.slice z lo hi)) H
theorem sl_str : SlR X rSlS := by
  intro pins s σ H x v vl vu lo hi sl Q I rx hs pl pu h
  obtain ⟨z, rfl, hz, q⟩ := h
  obtain ⟨t, rfl⟩ := rx
  refine ⟨"str", _, F.slot_str_getitem.lookup, typeIs_str _ _ _, ?_⟩
  have key : ∀ (l u : Option (Int × Tok)), vl = partValue l → vu = partValue u → lo = l.map (·.1) → hi = u.map (·.1) → wpAny (model X.prog X.w) X.A (getItem (.str z t) (.ref sl)) (EP X pins σ Q) X.xe s := by
    rintro l u rfl rfl rfl rfl
    refine wpAny_getItem_str_slice (l := l) (u := u) (st := none) ?_ rfl (post_val_or_str ⟨Nat.le_trans (Txt.slice_le z _ _) hz, fun t' k => ⟨.str _, H, I.tok _, ⟨_, rfl⟩, q⟩⟩)
    obtain ⟨o, h1, h2, h3⟩ := hs
    exact ⟨o, h1, h2, h3⟩
  cases pl with
  | none =>
    cases pu with
    | none => exact key none none rfl rfl rfl rfl
    | int j t2 => exact key none (some (j, t2)) rfl rfl rfl rfl
  | int i t1 =>
    cases pu with
    | none => exact key (some (i, t1)) none rfl rfl rfl rfl
    | int j t2 => exact key (some (i, t1)) (some (j, t2)) rfl rfl rfl rfl

theorem strsAre_of : ∀ {ys : List Str} {us : List Value}, Vals (ys.map V.str) us → StrsAre us ys
  | [], us, r => by
    cases r
    exact .nil
  | y :: ys, us, r => by
    have r : Vals (V.str y :: ys.map V.str) us := r
    cases r with
    | cons h t =>
      obtain ⟨tk, rfl⟩ := h
      exact .cons _ _ (strsAre_of t)
def rJoin (K : PySem.W.Frag) : V → List V → Hp → VK → Prop := fun x vs H Q => ∃ z p ys, x = .str z ∧ vs = [.ref p] ∧ SqL K H p (ys.map V.str) ∧ (ys.map (·.length)).sum + ys.length * z.length ≤ 16777216 ∧ Q (.str (Txt.join z ys)) H
theorem mt_join : MtR X "str.join" (rJoin X.K) := by
  intro pins s σ H x vs v us Q I rx rv h
  obtain ⟨z, p, ys, rfl, rfl, hS, hz, q⟩ := h
  obtain ⟨t, rfl⟩ := rx
  obtain ⟨u, rfl, ru⟩ := rv.one
  cases ru
  obtain ⟨its, r, hp, _⟩ := I.list hS
  exact join_list hp.isList (by simpa using strsAre_of r) hz fun t' k => ⟨.str _, H, I.tok _, ⟨_, rfl⟩, q⟩
theorem len_join (z : Str) (ys : List Str) : (Txt.join z ys).length ≤ (ys.map (·.length)).sum + ys.length * z.length := by
  show (glued z ys).length ≤ _
  rw [StrLaws.glued_eq_join]
  exact StrLaws.join_length_le z ys

/-! ### the empty tuple, known to the object; dict(()) -/
def tTup0 : TE := fun _ H Q => ∀ p, H p = none → Q (.ref p) (upd H p (.frz { cls := .type "tuple", data := .seq #[] } (.tup [])))
theorem pe_tup0 {x1 : Nat} {pos : Pos} : PE X (.Tuple [] x1 pos) tTup0 := by
  intro pins s σ H Q I hq
  refine wpAny_Tuple_spliced (thn (pa_nil (X := X) pos pins s σ H (fun xs H1 => xs = [] ∧ H1 = H) I ⟨rfl, rfl⟩) fun us s1 ⟨xs, H1, I1, r, e1, e2⟩ => ?_)
  subst e1 e2
  cases r
  refine ⟨Nat.zero_le _, ?_⟩
  have hf : H1 s1.heap.objs.size = none := I1.hok.fresh (Nat.le_refl _)
  refine ⟨.ref s1.heap.objs.size, upd H1 s1.heap.objs.size _, I1.laid (t' := s1.toks) (fun b u e => Heap.get?_push_of_some _ e) (Nat.le_refl _) ?_, rfl, hq _ hf⟩
  exact ⟨Heap.get?_push_size _ rfl, Nat.zero_le _, [], .nil, ⟨_, Heap.get?_push_size _ rfl, rfl, _, rfl⟩⟩
end

set_option maxRecDepth 8000 in
theorem getAttrQ_miss_tuple {prog : Program} {w : World} {A : Around} {E : Value → Shared → Prop} {s : Shared} {a : Addr} {o : Obj} {xs : Array Value} {k : Nat} {name : Str} {Q : Option Value → Shared → Prop}
    (hx : s.heap.get? a = some o) (hc : o.cls = .type "tuple") (hdat : o.data = .seq xs k) (hd : o.dict = none) (hmiss : typeLookup (.type "tuple") name = pure none) (hname : (["__module__", "__name__", "__qualname__", "__doc__", "__annotations__"] : List Str).contains name = false) (hA : A.handled = none)
    (h : ∀ h' tk, (∀ b o, s.heap.get? b = some o → h'.get? b = some o) → Q none { s with heap := h', toks := tk }) (hsz : name.length + 100 ≤ sizeLine := by size_fits) :
    wpAny (model prog w) A (getAttr? (.ref a) name) Q E s := by
  obtain ⟨c, dct, dat, sl⟩ := o
  simp only at hc hdat hd
  subst hc hdat hd
  obtain ⟨hp, g, d, tk, os⟩ := s
  have hT : ∀ tk', (⟨hp, g, d, tk', os⟩ : Shared).TypeIs (.ref a) "tuple" := fun _ => ⟨_, hx, rfl⟩
  have f1 := sub_AttributeError
  have f3 := F.slot_tuple_getattribute.lookup
  have f4 := F.slot_tuple_getattribute.bind (.ref a)
  have f5 := am_tuple_getattr_none
  unfold getAttr? getAttrBy? getAttrBy
  repeat (any_goals (first | assumption | exact hT _ | ((with_reducible show wpAny _ _ (call (Value.builtin "tuple.__getattribute__") _ _) _ _ _); refine call_meets F.slot_tuple_getattribute (hT _) am_entry_tuple_getattribute (F.args_tuple_getattribute_2 _ _) (meets_getattribute_miss_tuple a xs k sl name _ hmiss hname hsz) ⟨hx, hA, fun h' tk' e hx' => ?_⟩) | wp_step))
  obtain ⟨t', u', he⟩ := hx'.there
  show wpAny _ _ (getattributeRaised _ _ _ _ _ _ _) _ _ _
  unfold getattributeRaised
  repeat (any_goals (first | assumption | wp_step))
  exact h _ _ (fun b o q => hx'.of.keeps b o q)
end L2

namespace L2
open PySem PySem.Spec PyProof.Rows

theorem upd_id {H : Hp} {a : Addr} {o : HO} (h : H a = some o) : upd H a o = H := by
  funext b
  unfold upd
  split
  · rename_i e; subst e; exact h.symm
  · rfl
theorem SqT.upd {K : PySem.W.Frag} {H : Hp} {d b : Addr} {m : List (Key × V)} {o : HO} {xs : List V} (h : SqT K H b xs) (e : H d = some (.dK m)) : SqT K (L2.upd H d o) b xs := by
  rcases h with (h | ⟨o', h⟩) | h
  · exact .inl (.inl (by rw [upd_ne (ne_of h e (by intro z; cases z))]; exact h))
  · exact .inl (.inr ⟨o', by rw [upd_ne (ne_of h e (by intro z; cases z))]; exact h⟩)
  · exact .inr h
theorem entry_dict_loop : entryFor table "dict.update.loop" = some Builtin.«dict.update.loop» := entryFor_of_tree (by kernel_rfl)

theorem dict_loop {X : Cx} {pins : List (Addr × Obj)} {σ : St} {A : Around} {E : Value → Shared → Prop} {a d it : Addr} {ps : List V} {Q : Shared → Prop} (hA : A.handled = none) :
    ∀ (kvs : List (Key × V)) (i : Nat) (s : Shared) (H : Hp) (m : List (Key × V)), Inv X pins σ H s → SqT X.K H a ps → FpOk X pins H it → s.heap.IsTupleIter it a i → H d = some (.dK m) → m.length + kvs.length ≤ sizeLine →
      (∀ j kv, kvs[j]? = some kv → ∃ b, ps[i + j]? = some (.ref b) ∧ SqT X.K H b [kV kv.1, kv.2]) → ps.length = i + kvs.length →
      (∀ s', Inv X pins σ (upd H d (.dK (kvs.foldl (fun m kv => putK m kv.1 kv.2) m))) s' → Q s') →
      codeAny (model X.prog X.w) A (.builtin "dict.update.loop" ⟨[.ref d, .ref it, .int i 0, .none], []⟩) (wants (fun r s₂ => r = .none ∧ Q s₂) E) s := by
  intro kvs
  induction kvs with
  | nil =>
    intro i s H m I ha hf hit hd hm hp hl hQ
    obtain ⟨its, rv, p, hz⟩ := I.tuple ha
    obtain ⟨f0, f1, f2, f3, f4, f5⟩ := hf
    have hlen := rv.length
    refine codeAny_builtin entry_dict_loop ?_
    unfold Builtin.«dict.update.loop»
    refine wpAny_bind (wpAny_pyNext_tuple_end (by first | exact hA | (simpa [Around.under] using hA)) hit (show s.heap.IsTuple a its.toArray from p) (by simp at hl ⊢; omega) fun h' eb => ?_)
    show wpAny _ _ (Builtin.Dict.addKeywords d [] >>= fun _ => ret Value.none) _ _ _
    refine wpAny_bind (wpAny_pure (wpAny_pure ⟨rfl, hQ _ ?_⟩))
    show Inv X pins σ (upd H d (.dK m)) _
    rw [upd_id hd]
    exact I.turned (t' := s.toks) (fun b o hb e => eb b o hb e) f0 f1 f3 f4 f5
  | cons kv rest ih =>
    intro i s H m I ha hf hit hd hm hp hl hQ
    obtain ⟨its, rv, p, hz⟩ := I.tuple ha
    obtain ⟨b, hb, hbt⟩ := hp 0 kv rfl
    obtain ⟨u, hu, ru⟩ := rv.get (show ps[i]? = some (.ref b) from hb)
    cases ru
    have hf' := hf
    obtain ⟨f0, f1, f2, f3, f4, f5⟩ := hf
    refine codeAny_builtin entry_dict_loop ?_
    unfold Builtin.«dict.update.loop»
    refine wpAny_bind (wpAny_pyNext_tuple_item hit (show s.heap.IsTuple a its.toArray from p) (x := .ref b) (by simpa using hu) fun h' st' sb => ?_)
    have I1 : Inv X pins σ H { s with heap := h' } := I.turned (t' := s.toks) (fun b o hb e => (sb.2 b hb).trans e) f0 f1 f3 f4 f5
    obtain ⟨pr, rp, pt, _⟩ := I1.tuple hbt
    obtain ⟨ku, vu, epr, rk, rvv⟩ : ∃ ku vu, pr = [ku, vu] ∧ RelV (kV kv.1) ku ∧ RelV kv.2 vu := by
      obtain ⟨u1, u2, e1, r1, r2⟩ := vals2 rp
      exact ⟨u1, u2, e1, r1, r2⟩
    subst epr
    obtain ⟨ob, ho, hc, n, hdt⟩ := id pt
    show wpAny _ _ (holding [Value.ref b] _ >>= _) _ _ _
    refine wpAny_bind (wpAny_holding ?_)
    refine wpAny_bind (wpAny_tryCatch ?_)
    unfold Builtin.Dict.pairItems
    refine wpAny_bind (wpAny_typeOf (show ({ s with heap := h' } : Shared).TypeIs (.ref b) "tuple" from ⟨ob, ho, hc⟩) ?_)
    rw [if_pos (by decide)]
    refine wpAny_bind (wpAny_seqItems ho hdt (wpAny_pure ?_))
    show wpAny _ _ (holding [ku, vu] (dictSet d ku vu)) _ _ _
    refine wpAny_holding ?_
    obtain ⟨z, hdd, vs, rel, dd⟩ := dk_of I1.hok hd
    have hz2 : vs.length ≤ sizeLine := by rw [← rel.length]; exact z
    simp only [List.length_cons] at hm hl
    have hl2 : (putK m kv.1 kv.2).length ≤ m.length + 1 := length_putK m kv.1 kv.2
    refine wpAny_dictSet_pairs (hsz := hz2) (kV_is rk) dd fun h2 dd' hs => ?_
    have he : ∃ q, h2.get? d = some q := let ⟨q, _, _, hq, _⟩ := dd'; ⟨q, hq⟩
    have I2 : Inv X pins σ (upd H d (.dK (putK m kv.1 kv.2))) { heap := h2, gens := s.gens, drawn := s.drawn, toks := s.toks + 1, os := s.os } := d_write (s := { s with heap := h' }) (t' := s.toks + 1) I1 (by rw [hd]; exact True.intro) hs he (dk_new (by omega) hdd (rel.put kv.1 rvv) dd')
    have nit : it ≠ d := by
      rintro rfl
      rw [hd] at f0; cases f0
    refine wpAny_pure ⟨Code.quiet_builtin _ (by decide +kernel), ?_⟩
    have := ih (i + 1) { heap := h2, gens := s.gens, drawn := s.drawn, toks := s.toks + 1, os := s.os } (upd H d (.dK (putK m kv.1 kv.2))) (putK m kv.1 kv.2) I2 (ha.upd hd) ⟨by rw [upd_ne nit]; exact f0, f1, f2, f3, f4, f5⟩
      (st'.at fun o e => (hs.2 it nit).trans e) upd_same (by omega) (fun j kv' e => by
        obtain ⟨b', h1, h2⟩ := hp (j + 1) kv' (by simpa using e)
        exact ⟨b', by rw [show i + 1 + j = i + (j + 1) by omega]; exact h1, h2.upd hd⟩) (by omega) (fun s' I' => hQ s' (by rw [upd_upd] at I'; exact I'))
    exact this

/-- dict(t), t a tuple of pairs that is known to the object -/
def rDictOf (K : PySem.W.Frag) : List V → Hp → VK → Prop := fun xs H Q => ∃ (a : Addr) (o : Obj) (ps : List V) (kvs : List (Key × V)), xs = [.ref a] ∧ H a = some (.frz o (.tup ps)) ∧ o.dict = none ∧ ps.length = kvs.length ∧ (∀ (j : Nat) (kv : Key × V), kvs[j]? = some kv → ∃ b, ps[j]? = some (.ref b) ∧ SqT K H b [kV kv.1, kv.2]) ∧
  ∀ d, H d = none → Q (.ref d) (upd H d (.dK (kvs.foldl (fun m kv => putK m kv.1 kv.2) [])))
theorem SqT.new {K : PySem.W.Frag} {H : Hp} {d b : Addr} {o : HO} {xs : List V} (h : SqT K H b xs) (e : H d = none) : SqT K (L2.upd H d o) b xs := by
  rcases h with (h | ⟨o', h⟩) | h
  · exact .inl (.inl (by rw [upd_ne (ne_of_none h e)]; exact h))
  · exact .inl (.inr ⟨o', by rw [upd_ne (ne_of_none h e)]; exact h⟩)
  · exact .inr h
theorem call_dict {X : Cx} (hc : X.calm = true) : CallR X (.type "dict") (rDictOf X.K) := by
  intro pins s σ H xs us Q I rv h
  obtain ⟨a, o, ps, kvs, rfl, ha, hod, hlen, hp, q⟩ := h
  obtain ⟨u, rfl, ru⟩ := rv.one
  cases ru
  have haT : SqT X.K H a ps := .inl (.inr ⟨o, ha⟩)
  obtain ⟨hao, hz, its, rvs, p⟩ := (show ObjOk X.prog X.w H s.heap a (.frz o (.tup ps)) from I.hok a _ ha)
  obtain ⟨o', ho', hcl, n, hdt⟩ := id p
  rw [hao] at ho'; cases ho'
  have fd : H s.heap.objs.size = none := I.hok.fresh (Nat.le_refl _)
  have I1 : Inv X pins σ (upd H s.heap.objs.size (.dK [])) { s with heap := s.heap.push { cls := .type "dict", data := .dict #[] } } := I.laid (t' := s.toks) (fun _ _ q => Heap.get?_push_of_some _ q) (Nat.le_refl _) (dk_empty s.heap I.big)
  refine callType_codes (Q₁ := fun obj s₁ => obj = .ref s.heap.objs.size ∧ s₁ = { s with heap := s.heap.push { cls := .type "dict", data := .dict #[] } }) F.kt_called_dict (F.kt_typeCall_dict_1 _) F.entry_dict_init (kt_code_dict_new _ ⟨rfl, rfl⟩) ?_
  rintro obj s₁ ⟨rfl, rfl⟩
  have hnew : (s.heap.push { cls := .type "dict", data := .dict #[] }).DictOf (mixKind X.prog X.w) s.heap.objs.size [] := Heap.DictOf.new s.heap
  refine ⟨hnew.typeIs, F.args_dict_init_2 _ _, ?_⟩
  unfold Builtin.«dict.__init__»
  refine wpAny_bind ?_
  unfold Builtin.Dict.selfAndRest
  refine wpAny_bind (wpAny_notOrdered_dict hnew.typeIs ?_)
  show wpAny _ _ (pure (s.heap.objs.size, [Value.ref a])) _ _ _
  refine wpAny_pure ?_
  show wpAny _ _ (Builtin.Dict.updateFrom "dict.__init__" s.heap.objs.size (.ref a) [] .none) _ _ _
  unfold Builtin.Dict.updateFrom
  have ha1 : (s.heap.push { cls := .type "dict", data := .dict #[] }).get? a = some o := Heap.get?_push_of_some _ hao
  refine wpAny_bind (wpAny_typeOf (show ({ s with heap := s.heap.push { cls := .type "dict", data := .dict #[] } } : Shared).TypeIs (.ref a) "tuple" from ⟨o, ha1, hcl⟩) ?_)
  rw [if_pos (by decide)]
  have hh : X.A.handled = none := I.ok.hd hc
  refine wpAny_bind (getAttrQ_miss_tuple (A := X.A.in1.in1) (name := "keys") ha1 hcl hdt hod (am_miss_of_fast (by decide +kernel)) (by decide +kernel) hh fun h' tk keep => ?_)
  have I2 : Inv X pins σ (upd H s.heap.objs.size (.dK [])) { s with heap := h', toks := tk } := I1.kept (t' := tk) keep
  rw [if_pos (show (none : Option Value).isNone = true from rfl)]
  refine wpAny_bind (wpAny_rule (wpAny_bind ?_))
  obtain ⟨its2, rv2, p2, _⟩ := I2.tuple (haT.new fd)
  refine wpAny_pyIter_tuple (show h'.IsTuple a its2.toArray from p2) ?_
  have I3 : Inv X pins σ (upd H s.heap.objs.size (.dK [])) { s with heap := h'.push { cls := .type "tuple_iterator", data := .fields #[.ref a, .int 0 0] }, toks := tk } := I2.kept (t' := tk) fun b o e => Heap.get?_push_of_some _ e
  refine wpAny_pure ⟨Code.quiet_builtin _ (by decide +kernel), ?_⟩
  refine dict_loop (A := X.A.in1) (E := X.xe) (Q := fun s₂ => EP X pins σ Q (Value.ref s.heap.objs.size) s₂) (X := X) (pins := pins) (σ := σ) (a := a) (ps := ps) (d := s.heap.objs.size) (it := h'.objs.size) hh kvs 0 _ (upd H s.heap.objs.size (.dK [])) [] I3 (haT.new fd)
    (I2.fpOk (Nat.le_refl _) (I2.hok.fresh (Nat.le_refl _))) ⟨_, Heap.get?_push_size _ rfl, rfl, rfl⟩ upd_same (by rw [List.length_nil]; omega) (fun j kv e => ?_) (by omega) (fun s' I' => ?_)
  · obtain ⟨b, h1, h2⟩ := hp j kv e
    exact ⟨b, by rw [Nat.zero_add]; exact h1, h2.new fd⟩
  · rw [upd_upd] at I'
    exact ⟨.ref s.heap.objs.size, _, I', rfl, q _ fd⟩
end L2

namespace L2
open PySem PySem.Spec PyProof.Rows

section
variable {X : Cx}
/-- a list against the empty one -/
theorem op_neE (hu : X.A.units + 1 < cLine) : OpR X (compareOp .NotEq) (fun x y H Q => ∃ a b xs, x = .ref a ∧ y = .ref b ∧ SqL X.K H a xs ∧ SqL X.K H b [] ∧ Q (.bl (!xs.isEmpty)) H) := by
  intro pins s σ H x y v u Q I rx ry h
  obtain ⟨a, b, xs, rfl, rfl, ha, hb, q⟩ := h
  cases rx
  cases ry
  obtain ⟨its, rv, p, _⟩ := I.list ha
  obtain ⟨its2, rv2, p2, _⟩ := I.list hb
  cases rv2
  have hl := rv.length
  cases xs with
  | nil =>
    cases rv
    exact SeqAt.RcNeAt.lists (e := fun _ => true) p.isList p2.isList rfl (Nat.lt_of_succ_lt hu) (fun j h1 _ => absurd h1 (by simp)) _ _ _ _ (fin_bl I q (by rfl))
  | cons z r =>
    exact SeqAt.RcNeAt.lists_lengths p.isList p2.isList (by simp only [List.size_toArray, ← hl, List.length_cons, List.length_nil]; simp) (Nat.lt_of_succ_lt hu) _ _ _ _ (fin_bl I q (by rfl))

theorem bls_get {bs : List Bool} {us : List Value} (r : Vals (bs.map V.bl) us) {i : Nat} {v : Value} (h : us[i]? = some v) : ∃ b, bs[i]? = some b ∧ v = .bool b := by
  have hl := r.length
  rw [List.length_map] at hl
  have hi : i < bs.length := by have := (List.getElem?_eq_some_iff.mp h).1; omega
  obtain ⟨u, e, ru⟩ := r.get (i := i) (x := V.bl bs[i]) (by rw [List.getElem?_map, List.getElem?_eq_getElem hi]; rfl)
  rw [h] at e; cases e
  exact ⟨_, List.getElem?_eq_getElem hi, ru⟩
theorem range_allG (bs : List Bool) : ((List.range bs.length).all fun i => (bs[i]?).getD true) = bs.all id := by
  rw [Bool.eq_iff_iff, List.all_eq_true, List.all_eq_true]
  constructor
  · intro h b hb
    obtain ⟨i, hi, rfl⟩ := List.mem_iff_getElem.mp hb
    have := h i (List.mem_range.mpr hi)
    rw [List.getElem?_eq_getElem hi] at this
    exact this
  · intro h i hi
    have hi := List.mem_range.mp hi
    rw [List.getElem?_eq_getElem hi]
    exact h _ (List.getElem_mem hi)
theorem call_allB (hc : X.calm = true) : CallR X (.builtin "all") (fun xs H Q => ∃ (p : Addr) (bs : List Bool), xs = [.ref p] ∧ SqL X.K H p (bs.map V.bl) ∧ Q (.bl (bs.all id)) H) := by
  intro pins s σ H xs us Q I rv h
  obtain ⟨p, bs, rfl, hS, q⟩ := h
  obtain ⟨u, rfl, ru⟩ := rv.one
  cases ru
  obtain ⟨its, r, hp, _⟩ := I.list hS
  have hlen : its.length = bs.length := by have := r.length; rw [List.length_map] at this; omega
  have hl := hp.isList
  have hlt : p < s.heap.objs.size := by obtain ⟨_, e, _⟩ := hl; exact Heap.lt_size e
  refine call_all_walk (wpAny_pyIter_list hl ?_)
  refine ⟨s.heap.objs.size, [s.heap.objs.size, p], [s.heap.objs.size], its.toArray.size, _, _, fun i => (bs[i]?).getD true, rfl, Walks.list (A := X.A.in1) (I.ok.hd hc) _ p (Nat.ne_of_lt hlt) its.toArray,
    ⟨⟨_, Heap.get?_push_size _ rfl, rfl, rfl⟩, hl.push _⟩, fun i v s' Q' E' hP hQ => ?_, fun h' tk hk => ?_⟩
  · obtain ⟨b, e, rfl⟩ := bls_get r (i := i) (v := v) (by simpa using hP)
    simp only [e, Option.getD_some] at hQ
    exact wpAny_truthy_bool hQ
  · rw [List.size_toArray, hlen, range_allG]
    refine ⟨.bl _, H, I.kept (t' := tk) fun b o e => hk b o (fun hm => ?_) (Heap.get?_push_of_some _ e), rfl, q⟩
    rw [List.mem_singleton.mp hm] at e
    exact Nat.lt_irrefl _ (Heap.lt_size e)
theorem call_maxL (hc : X.calm = true) : CallR X (.builtin "max") (fun xs H Q => ∃ (p : Addr) (ns : List Int), xs = [.ref p] ∧ SqL X.K H p (ns.map V.int) ∧ 0 < ns.length ∧ ∀ M : Int, M ∈ ns → (∀ a ∈ ns, a ≤ M) → Q (.int M) H) := by
  intro pins s σ H xs us Q I rv h
  obtain ⟨p, ns, rfl, hS, hne, q⟩ := h
  obtain ⟨u, rfl, ru⟩ := rv.one
  cases ru
  obtain ⟨its, r, hp, _⟩ := I.list hS
  have hi := intsAre_of r
  obtain ⟨ys, e⟩ := hi.allInts.items
  have hns : ns = ys.toList.map (·.1) := by rw [← hi.numsOf, ← nums_intItems, ← e]
  have hsz : 0 < ys.size := by
    have h3 := hne; rw [hns, List.length_map, Array.length_toList] at h3; exact h3
  have hl := hp.isList
  rw [e] at hl
  refine max_intList (I.ok.hd hc) hl hsz fun v h' tk hv hk => ?_
  obtain ⟨t, rfl⟩ := intItems_at hv
  obtain ⟨h1, h2⟩ := argBest_gt (numAt ys) (ys.size - 1)
  refine ⟨.int _, H, I.kept (t' := tk) hk, ⟨t, rfl⟩, q _ ?_ fun a ha => ?_⟩
  · rw [hns, numAt_eq]; exact getD_mem (by rw [List.length_map, Array.length_toList]; omega)
  · rw [hns] at ha
    obtain ⟨j, hj, rfl⟩ := mem_getD ha
    rw [List.length_map, Array.length_toList] at hj
    rw [← numAt_eq]; exact h2 j (by omega)
end

/-- the tail of a comprehension's reading, any target, any test -/
theorem lcP {J : It} {n k : Nat} {σ : St} {H1 : Hp} {g : TG} {tt : TT} {te : TE} {Q : VK} (xv : Nat → V) (Pv : Addr → Nat → List V → Hp → Prop)
    (hgo : ∀ D i ys H, i < n → Pv D i ys H → J.go i H) (hyld : ∀ D i ys H x H', i < n → Pv D i ys H → J.yld i H x H' → H' = H ∧ x = xv i) (hstop : ∀ D ys H, Pv D n ys H → J.stop n H)
    (h0 : ∀ D, H1 D = none → Pv D 0 [] (upd H1 D (.lst [])))
    (turn : ∀ D i ys H (yes : VK) (no : Hp → Prop), i < n → Pv D i ys H → (∀ y H4, H4 D = some (.lst ys) → ys.length < sizeLine → Pv D (i + 1) (ys ++ [y]) (upd H4 D (.lst (ys ++ [y]))) → yes y H4) → (∀ H3, Pv D (i + 1) ys H3 → no H3) →
      g (xv i) (σ ++ List.replicate k none) H fun σ2 H2 => (∃ τ : St, σ2 = σ ++ τ ∧ τ.length = k) ∧ tt σ2 H2 fun b H3 => if b = true then te σ2 H3 yes else no H3)
    (fin : ∀ D ys H, Pv D n ys H → Q (.ref D) H) : LCT k g tt te σ Q J H1 := by
  intro D hD
  refine ⟨fun i m ys H => m = n - i ∧ i ≤ n ∧ Pv D i ys H, ⟨n, by simp, Nat.zero_le _, h0 D hD⟩, ?_⟩
  rintro i m ys H ⟨rfl, hi, p⟩
  by_cases hlt : i < n
  · refine .inr ⟨hgo D i ys H hlt p, fun x H' y => ?_⟩
    obtain ⟨rfl, rfl⟩ := hyld D i ys H x H' hlt p y
    exact turn D i ys H' _ _ hlt p (fun y H4 h1 h2 h3 => ⟨h1, h2, n - (i + 1), by omega, rfl, hlt, h3⟩) fun H3 h3 => ⟨n - (i + 1), by omega, rfl, hlt, h3⟩
  · have e : i = n := by omega
    subst e
    exact .inl ⟨hstop D ys H p, fin D ys H p⟩
end L2

namespace L2
open PySem PySem.Spec PyProof.Rows
theorem lc_core {X : Cx} {elt tg iter : Expr} {ifs : List Expr} {scope : Scope} {pos cpos : Pos} {use : Option (Value → Sem Unit)} {QQ : Value → Shared → Prop} {pins : List (Addr × Obj)} {s : Shared} {σ : St} {H : Hp} {Q : VK} {wi : TI} {g : TG} {tt : TT} {te : TE}
    (N N2 ys : List Str) (sc : Scope) (hc : X.calm = true) (hNe : X.N = N) (hNl : N2.length = N.length) (hsub : ∀ p ∈ N2.zip N, p.1 = p.2 ∨ ¬ scope.names.lookup p.1 = some .free) (hsc : X.env.scope = sc) (hkind : scope.kind = .function) (hcell : ∀ y ∈ scope.names, y.2 ≠ .cell) (hnames : ∀ y ∈ scope.names, y.2 = .local → scope.names.lookup y.1 = some .local)
    (hfr : ∀ y ∈ scope.names, y.2 = .free → sc.names.lookup y.1 = some .cell) (hloc : ∀ y ∈ N2, scope.names.lookup y ≠ some .local)
    (hi : PI X tg iter wi) (hg : ∀ cl C s H fp, PG (cxC X scope cl N2 ys C s H fp) tg g) (ht : ∀ cl C s H fp, PTs (cxC X scope cl N2 ys C s H fp) ifs tt) (he : ∀ cl C s H fp, PE (cxC X scope cl N2 ys C s H fp) elt te)
    (I : Inv X pins σ H s) (h : tLC ys.length wi g tt te σ H Q)
    (fin0 : ∀ (D C : Addr) (H' : Hp) (s' : Shared), Inv X pins σ H' s' → FpOk X pins H' C → (∃ m, s'.heap.Ns C m) → Q (.ref D) H' → compPost (model X.prog X.w) X.A X.xe use QQ (.ref D) C (.ok .next) s')
    (hs : ∀ x, foldedSetIterable iter X.env x = pure x := by intro _; rfl) :
    wpAny (model X.prog X.w) X.A (comprehension (.ListComp elt [⟨tg, iter, ifs, 0⟩] scope pos) scope X.env cpos (newList []) false (eval iter X.env) use) QQ X.xe s := by
  obtain ⟨cl, hclos, cl1, cl2⟩ := closure_of (scope := scope) (env := X.env) (fun x hx hf => I.ok.has x.1 (.inl (by
    show X.env.scope.names.lookup x.1 = _
    rw [hsc]; exact hfr x hx hf)))
  refine wpAny_comprehension_free (use := use) rfl hs hclos hkind hnames (thn (hi pins s σ H _ I h) fun v s1 h1 => thn h1 fun itv s2 h2 => ?_)
  obtain ⟨it, fp, tn, J, H2, e, I2, T, st2, f2, hD⟩ := h2
  subst e
  refine wpAny_newObj_type (wpAny_newFunctionEnv hcell (by intro y hy; simp at hy) (fun h₁ hns₁ hsb₁ => ?_) hkind)
  have I3 : Inv X pins σ (upd H2 s2.heap.objs.size (.lst [])) { s2 with heap := s2.heap.push { cls := .type "list", data := .seq ([] : List Value).toArray }, toks := s2.toks } := I2.lnew (ys := []) (its := []) .nil (Nat.zero_le _)
  have fD : H2 s2.heap.objs.size = none := I2.hok.fresh (Nat.le_refl _)
  obtain ⟨W, ⟨m0, w0⟩, turn⟩ := hD _ fD
  have hfp2 : ∀ b ∈ fp, b < s2.heap.objs.size := fun b hb => by
    obtain ⟨o, e, _⟩ := T.obj 0 s2.heap st2 b hb
    exact Heap.lt_size e
  dsimp only at hns₁ hsb₁ I3 ⊢
  generalize hH2 : s2.heap.push { cls := .type "list", dict := none, data := .seq ([] : List Value).toArray } = H3h at hns₁ hsb₁ I3 ⊢
  generalize hDd : s2.heap.objs.size = D at *
  have hC : H3h.objs.size = D + 1 := by rw [← hH2, Heap.size_push, hDd]
  generalize hCc : H3h.objs.size = C at *
  have hDC : D < C := by rw [hC]; exact Nat.lt_succ_self _
  have hCD : C ≠ D := Nat.ne_of_gt hDC
  have hfpC : ∀ b ∈ fp, b ≠ C := fun b hb => Nat.ne_of_lt (Nat.lt_trans (hfp2 b hb) hDC)
  have hfpD : ∀ b ∈ fp, b ≠ D := fun b hb => Nat.ne_of_lt (hfp2 b hb)
  have old2 : ∀ b o, s2.heap.get? b = some o → H3h.get? b = some o := fun b o e => by rw [← hH2]; exact Heap.get?_push_of_some _ e
  have old : ∀ b o, H3h.get? b = some o → h₁.get? b = some o := fun b o e => hsb₁.extBut b o (Nat.ne_of_lt (by have := Heap.lt_size e; rw [hCc] at this; exact this)) (Heap.get?_push_of_some _ e)
  have frH : upd H2 D (.lst []) C = none := by rw [upd_ne hCD]; exact I2.hok.fresh (by rw [hDd]; exact Nat.le_of_lt hDC)
  -- the block's context
  have ok' : (cxC X scope cl N2 ys C { s2 with heap := H3h } (upd H2 D (.lst [])) fp).Ok := by
    refine ⟨I.ok.mod, hkind, I.ok.glob, I.ok.blt, ?_, ?_, ?_, ?_, I.ok.hd, I.ok.frames, .inl rfl, ?_, ?_, ?_, ?_, ?_, ?_, ?_⟩
    · show H3h.objs.size ≤ C
      exact Nat.le_of_eq hCc
    · intro x y c h1 h2
      exact I.ok.inj x y c (cl1 x c h1) (cl1 y c h2)
    · intro x hx
      have hx : (relabel scope X.env).names.lookup x = some .cell ∨ (relabel scope X.env).names.lookup x = some .free := hx
      have key : scope.names.lookup x = some .free ∨ scope.names.lookup x = some .cell := by
        rcases hx with q | q
        · rcases lookup_relabel q with z | z
          · exact .inr z
          · exact .inl z.1
        · rcases lookup_relabel q with z | z
          · exact .inl z
          · exact .inl z.1
      rcases key with q | q
      · exact cl2 x (PySem.mem_of_lookup q)
      · exact absurd rfl (hcell _ (PySem.mem_of_lookup q))
    · intro x c z _
      exact absurd (show false = true from z) (by decide)
    · intro b hb
      refine ⟨fun z => ?_, fun x c e => ?_⟩
      · exact hfpC b hb z
      · exact (f2 b hb).2.2.2.2.1 x c (cl1 x c e)
    · intro b o e
      exact ⟨I3.bk b o e, (I3.bs b o e).2⟩
    · exact Nat.le_trans I.ok.bsz I3.sz
    · intro b o e hb
      rcases (f2 b hb).2.2.2.1 with q | q
      · exact I.ok.noex b o e q
      · exact absurd (Nat.lt_of_lt_of_le (Heap.lt_size e) (Nat.le_trans I.ok.bsz q)) (Nat.lt_irrefl _)
    · intro b hb hz
      rcases List.mem_cons.mp (I.stkSub b hz) with q | q
      · exact (f2 b hb).2.1 q
      · exact (f2 b hb).2.2.1 q
    · exact I3.stack
    · intro b hb
      exact I3.stkFree b hb
  have lenN : N2.length = X.N.length := by rw [hNl, hNe]
  have lenR : (σ ++ List.replicate ys.length (none : Option V)).length = (N2 ++ ys).length := by
    rw [List.length_append, List.length_append, List.length_replicate, I.len, lenN]
  have I4 : Inv (cxC X scope cl N2 ys C { s2 with heap := H3h } (upd H2 D (.lst [])) fp) [] (σ ++ List.replicate ys.length none) (upd H2 D (.lst [])) { s2 with heap := h₁, toks := s2.toks + ([] : List (Str × Value)).length } := by
    refine ⟨ok', rfl, I2.bare, Un.kept old, ⟨_, hns₁, ?_⟩, ?_, frH, ?_, ?_, I3.hok.kept old, lenR⟩
    · intro i x v h1 h2 h3
      have hi : i < X.N.length := by
        by_cases hi : i < X.N.length
        · exact hi
        · exfalso
          rw [List.getElem?_append_right (by rw [I.len]; omega), List.getElem?_replicate] at h2
          split at h2 <;> cases h2
      have h1 : N2[i]? = some x := by
        have h1 : (N2 ++ ys)[i]? = some x := h1
        rw [List.getElem?_append_left (by rw [lenN]; exact hi)] at h1
        exact h1
      have h2 : σ[i]? = some (some v) := by
        rw [List.getElem?_append_left (by rw [I.len]; exact hi)] at h2
        exact h2
      have h3 : Vis (relabel scope X.env) x := h3
      have hx : x ∈ N2 := List.mem_of_getElem? h1
      have hfree : scope.names.lookup x = some .free := by
        rcases h3 with q | q | q
        · rcases lookup_relabel q with z | z
          · exact absurd z (hloc x hx)
          · exact z.1
        · rcases lookup_relabel q with z | z
          · exact absurd rfl (hcell _ (PySem.mem_of_lookup z))
          · exact z.1
        · rcases lookup_relabel q with z | z
          · exact z
          · exact z.1
      have h1 : X.N[i]? = some x := by
        rw [hNe] at hi ⊢
        have h1z : (N2.zip N)[i]? = some (x, N[i]) := by
          rw [List.getElem?_zip_eq_some]
          exact ⟨h1, List.getElem?_eq_getElem hi⟩
        rcases hsub _ (List.mem_of_getElem? h1z) with e | e
        · rw [List.getElem?_eq_getElem hi]
          exact congrArg some e.symm
        · exact absurd hfree e
      have hk : X.env.scope.names.lookup x = some .cell := by rw [hsc]; exact hfr _ (PySem.mem_of_lookup hfree) rfl
      obtain ⟨m, hn, hl⟩ := I3.loc
      obtain ⟨u, r, l⟩ := hl i x v h1 h2 (.inr (.inl hk))
      refine ⟨u, r, .inr ⟨?_, ?_⟩⟩
      · show (relabel scope X.env).names.lookup x = some .cell ∨ (relabel scope X.env).names.lookup x = some .free
        rcases h3 with q | q | q
        · rcases lookup_relabel q with z | z
          · exact absurd z (hloc x hx)
          · cases z.2
        · exact .inl q
        · exact .inr q
      · rcases l with ⟨q, _⟩ | ⟨_, c, e, z⟩
        · have q : X.env.scope.names.lookup x = some .local := q
          rw [hk] at q; cases q
        · obtain ⟨c', e'⟩ := cl2 x (PySem.mem_of_lookup hfree)
          have := cl1 x c' e'
          rw [e] at this; cases this
          obtain ⟨o, ho, hd⟩ := z
          exact ⟨c, e', o, old c o ho, hd⟩
    · intro x c e
      obtain ⟨v, o, ho, hd⟩ := I3.cell x c (cl1 x c e)
      exact ⟨v, o, old c o ho, hd⟩
    · intro x c e
      exact I3.freeC x c (cl1 x c e)
    · intro p hp
      exact absurd (show p ∈ ([] : List (Addr × Obj)) from hp) (by simp)
  have stat : ∀ {H' : Hp}, (∀ b ∈ fp, H' b = none) → ∀ b ∈ fp, FpOk (cxC X scope cl N2 ys C { s2 with heap := H3h } (upd H2 D (.lst [])) fp) [] H' b := fun hn b hb => by
    refine ⟨hn b hb, fun z => ?_, ok'.exfs b hb, .inl hb, fun x c e => (f2 b hb).2.2.2.2.1 x c (cl1 x c e), fun p hp => absurd (show p ∈ ([] : List (Addr × Obj)) from hp) (by simp)⟩
    exact hfpC b hb z
  have frD : ∀ b ∈ fp, upd H2 D (.lst []) b = none := fun b hb => by
    rw [upd_ne (hfpD b hb)]
    exact (f2 b hb).1
  have tn4 : tn 0 h₁ := T.keep _ _ _ st2 fun b _ o e => old b o (old2 b o e)
  -- behind the block
  have fin : ∀ {σ' : St} {H' : Hp} {s' : Shared}, Inv (cxC X scope cl N2 ys C { s2 with heap := H3h } (upd H2 D (.lst [])) fp) [] σ' H' s' → Q (.ref D) H' →
      compPost (model X.prog X.w) X.A X.xe use QQ (.ref D) C (.ok .next) s' := fun {σ' H' s'} I' q => by
    obtain ⟨m, hn, _⟩ := I'.loc
    have uab : Un (frs X.stack) fp H2 H' s2.heap s'.heap := (Un.laid (fs := frs X.stack) (ex := fp) (h := s2.heap) (h' := H3h) (a := D) (o := .lst []) old2 (Nat.le_of_eq hDd) fD).trans I'.base
    have I'' : Inv X pins σ H' s' := I2.call' (ch := fp) I'.os uab I'.hok I'.bare (fun b hb => by
      obtain ⟨f0, f1, _, f3, f4, f5⟩ := f2 b hb
      exact ⟨f3, f1, f4, f5⟩)
    exact fin0 D C H' s' I'' (I2.fpOk (by rw [hDd]; exact Nat.le_of_lt hDC) I'.free) ⟨m, hn⟩ q
  have loop : codeAny (model X.prog X.w) X.A (.compLoop (.ListComp elt [⟨tg, iter, ifs, 0⟩] scope pos) 0 (.ref it) (.ref D) (compEnvC scope cl C X.env)) (compPost (model X.prog X.w) X.A X.xe use QQ (.ref D) C) { s2 with heap := h₁, toks := s2.toks + ([] : List (Str × Value)).length } := by
    refine compLoop_go (fun n s' => ∃ i zs H', Inv (cxC X scope cl N2 ys C { s2 with heap := H3h } (upd H2 D (.lst [])) fp) [] (σ ++ List.replicate ys.length none) H' s' ∧ tn i s'.heap ∧ (∀ b ∈ fp, H' b = none) ∧ W i n zs H') ?_ m0
      ⟨0, [], _, I4, tn4, frD, w0⟩
    rintro n s3 ⟨i, zs, H3, J3, st3, fr3, w3⟩
    rcases turn i n zs H3 w3 with ⟨stop, qn⟩ | ⟨go, step⟩
    · refine thn (T.done (cxC X scope cl N2 ys C { s2 with heap := H3h } (upd H2 D (.lst [])) fp) rfl rfl rfl hc i [] s3 _ H3 _ J3 (stat fr3) st3 stop) fun r s4 ⟨hr, J4⟩ => ?_
      subst hr
      exact fin J4 qn
    · refine thn (T.item (cxC X scope cl N2 ys C { s2 with heap := H3h } (upd H2 D (.lst [])) fp) rfl rfl rfl hc i [] s3 _ H3 _ J3 (stat fr3) st3 go) fun r s4 ⟨u, hr, h4⟩ => ?_
      subst hr
      refine thn h4 fun _ s5 ⟨x, H5, J5, r5, y5, st5, fr5⟩ => ?_
      have J5' := J5.pinned (stat fr5) (T.obj _ _ st5)
      refine wpAny_mono (hg cl C _ _ fp _ s5 _ H5 x u _ J5' r5 (step x H5 y5)) (fun _ s6 ⟨σ6, H6, J6, ⟨τ, eτ, lτ⟩, q6⟩ => ?_) fun _ _ z => False.elim z
      refine wpAny_mono (ht cl C _ _ fp _ s6 σ6 H6 _ J6 q6) (fun b s7 ⟨H7, J7, q7⟩ => ?_) fun _ _ z => False.elim z
      have again : ∀ {H8 : Hp} {s8 : Shared} {zs' : List V}, Inv (cxC X scope cl N2 ys C { s2 with heap := H3h } (upd H2 D (.lst [])) fp) ([] ++ pinsAt fp s5.heap) σ6 H8 s8 → (∃ m', m' < n ∧ W (i + 1) m' zs' H8) →
          ∃ m, m < n ∧ ∃ i zs H', Inv (cxC X scope cl N2 ys C { s2 with heap := H3h } (upd H2 D (.lst [])) fp) [] (σ ++ List.replicate ys.length none) H' s8 ∧ tn i s8.heap ∧ (∀ b ∈ fp, H' b = none) ∧ W i m zs H' := fun {H8 s8 zs'} J8 ⟨m', hm, w8⟩ => by
        refine ⟨m', hm, i + 1, zs', H8, J8.unpinned.weak (by rw [eτ, List.length_append, List.length_append, List.length_replicate, lτ]) (fun j v e => ?_), T.keep _ _ _ st5 fun b hb o e => (J8.pin (b, o) (List.mem_append_right _ (List.mem_append_right _ (mem_pinsAt hb e)))).1, fun b hb => ?_, w8⟩
        · rw [eτ]
          by_cases hj : j < σ.length
          · rw [List.getElem?_append_left hj] at e ⊢
            exact e
          · exfalso
            rw [List.getElem?_append_right (by omega), List.getElem?_replicate] at e
            split at e <;> cases e
        · obtain ⟨o, e, d⟩ := T.obj _ _ st5 b hb
          exact (J8.pin (b, o) (List.mem_append_right _ (List.mem_append_right _ (mem_pinsAt hb e)))).2.1
      cases b with
      | false =>
        rw [if_neg (by decide)] at q7 ⊢
        exact again J7 q7
      | true =>
        rw [if_pos rfl] at q7 ⊢
        refine wpAny_mono (he cl C _ _ fp _ s7 σ6 H7 _ J7 q7) (fun y s8 ⟨yv, H8, J8, r8, hD8, hz8, w8⟩ => ?_) fun _ _ z => False.elim z
        refine wpAny_mono (mt_append (X := (cxC X scope cl N2 ys C { s2 with heap := H3h } (upd H2 D (.lst [])) fp)) _ s8 σ6 H8 (.ref D) [yv] (.ref D) [y] (fun _ H9 => ∃ m', m' < n ∧ W (i + 1) m' (zs ++ [yv]) H9) J8 rfl (.cons r8 .nil) ⟨D, zs, yv, rfl, rfl, hD8, hz8, w8⟩) (fun _ s9 ⟨_, H9, J9, _, w9⟩ => ?_) fun _ _ z => False.elim z
        exact again J9 w9
  exact codeAny_compStart_list loop (T.self _ 0 _ _ _ tn4 loop)


/-- x = [..], x stored within the comprehension's own steps -/
theorem ps_setC {X : Cx} {elt tg iter : Expr} {ifs : List Expr} {scope : Scope} {pos spos py : Pos} {wi : TI} {g : TG} {tt : TT} {te : TE} {i : Nat} {y : Str} (hN : X.N.Nodup) (hiy : X.N[i]? = some y) (hy : Loc X.env.scope y)
    (N N2 ys : List Str) (sc : Scope) (hc : X.calm = true) (hNe : X.N = N) (hNl : N2.length = N.length) (hsub : ∀ p ∈ N2.zip N, p.1 = p.2 ∨ ¬ scope.names.lookup p.1 = some .free) (hsc : X.env.scope = sc) (hkind : scope.kind = .function) (hcell : ∀ y ∈ scope.names, y.2 ≠ .cell) (hnames : ∀ y ∈ scope.names, y.2 = .local → scope.names.lookup y.1 = some .local)
    (hfr : ∀ y ∈ scope.names, y.2 = .free → sc.names.lookup y.1 = some .cell) (hloc : ∀ y ∈ N2, scope.names.lookup y ≠ some .local)
    (hi : PI X tg iter wi) (hg : ∀ cl C s H fp, PG (cxC X scope cl N2 ys C s H fp) tg g) (ht : ∀ cl C s H fp, PTs (cxC X scope cl N2 ys C s H fp) ifs tt) (he : ∀ cl C s H fp, PE (cxC X scope cl N2 ys C s H fp) elt te)
    (hsw : swapsWith (.ListComp elt [⟨tg, iter, ifs, 0⟩] scope pos) (some (.Name y py)) spos.line X.env = pure true)
    (hs : ∀ x, foldedSetIterable iter X.env x = pure x := by intro _; rfl) (hf : X.fn y = true ∨ X.env.scope.names.lookup y = some .local := by first | exact .inl rfl | exact .inr rfl | assumption) :
    PS X (.Assign [.Name y py] (.ListComp elt [⟨tg, iter, ifs, 0⟩] scope pos) spos) (tAsg (tLC ys.length wi g tt te) (gName i)) := by
  intro pins s σ H D I h
  rw [exec_Assign_Name_used _ _ _ _ hsw]
  refine wpAny_bind (wpAny_standAt (wpAny_bind ?_))
  show wpAny _ X.A (do let _ ← comprehension (.ListComp elt [⟨tg, iter, ifs, 0⟩] scope pos) scope X.env _ (newList []) false (eval iter X.env) (some (assign (.Name y py) X.env))) _ _ s
  refine wpAny_bind (wpAny_mono (lc_core (use := some (assign (.Name y py) X.env)) (QQ := fun _ s' => SP X pins D .next s') N N2 ys sc hc hNe hNl hsub hsc hkind hcell hnames hfr hloc hi hg ht he I h (fun D' C H' s' I' cf hns q => ?_) hs) (fun _ s' hq => wpAny_pure (wpAny_pure hq)) fun _ _ e => e)
  obtain ⟨m, hn⟩ := hns
  obtain ⟨f0, f1, f2, f3, f4, f5⟩ := cf
  show wpAny _ X.A (assign (.Name y py) X.env (.ref D')) _ _ s'
  refine wpAny_assign_Name (store_ok2 I' hN hiy hy (show RelV (V.ref D') (Value.ref D') from rfl) (fun s'' I'' hsb => ?_) hf)
  obtain ⟨a, sb, ha⟩ := hsb
  have hCa : C ≠ a := by
    rcases ha with e | e
    · rw [e]; exact f1
    · exact (f4 y a e).symm
  refine ⟨m, hn.sameBut sb hCa, fun h' hs' => ⟨_, H', ?_, q⟩⟩
  exact I''.turned (t' := s''.toks) (it := C) (fun b o hb e => (hs'.2 b hb).trans e) f0 f1 f3 f4 f5

/-! ### sorted(d), d a dict of texts -/
theorem strsAre_get : ∀ {us : List Value} {ss : List Str}, us.length = ss.length → (∀ (j : Nat) (v : Value), us[j]? = some v → ∃ x t, ss[j]? = some x ∧ v = .str x t) → StrsAre us ss
  | [], [], _, _ => .nil
  | [], _ :: _, h, _ => by simp at h
  | _ :: _, [], h, _ => by simp at h
  | u :: us, x :: ss, h, k => by
    obtain ⟨x', t, e1, e2⟩ := k 0 u rfl
    cases e1
    subst e2
    exact .cons _ _ (strsAre_get (by simpa using h) fun j v e => k (j + 1) v (by simpa using e))
theorem strs_vals {us : List Value} {ss : List Str} (h : StrsAre us ss) : Vals (ss.map V.str) us := by
  induction h with
  | nil => exact .nil
  | cons y t r ih => exact .cons ⟨t, rfl⟩ ih
def leS (a b : Str) : Prop := ltCps b.cps.toList a.cps.toList = false
theorem sorted_out_pw {vs : List Value} {ss : List Str} (hS : StrsAre vs ss) {xs : Array Keyed} (hp : xs.Perm (pairsOf vs)) (hs : SortedToK strKind xs (pairsOf vs).size) :
    ∃ ss', StrsAre (xs.map (·.2)).toList ss' ∧ ss'.Perm ss ∧ ss'.Pairwise leS := by
  have hl : xs.toList.Perm (vs.zip vs) := by rw [← pairsOf_toList]; exact Array.perm_iff_toList_perm.mp hp
  have hmem : ∀ p, p ∈ xs.toList → p.1 = p.2 ∧ p.1 ∈ vs := fun p hp' => mem_zip_self (hl.mem_iff.mp hp')
  refine ⟨xs.toList.map (fun p => strOf p.1), ?_, ?_, ?_⟩
  · have e : (xs.map (·.2)).toList = xs.toList.map (·.1) := by
      rw [Array.toList_map]; exact List.map_congr_left fun p hp' => (hmem p hp').1.symm
    rw [e]
    have h1 := strsAre_map (xs.toList.map (·.1)) (by
      intro v hv
      obtain ⟨p, hp', rfl⟩ := List.mem_map.mp hv
      exact hS.all _ (hmem p hp').2)
    rwa [List.map_map] at h1
  · have h1 := hl.map (fun p => strOf p.1)
    have e2 : (vs.zip vs).map (fun p => strOf p.1) = ss := by
      have : (vs.zip vs).map (fun p => strOf p.1) = ((vs.zip vs).map Prod.fst).map strOf := by rw [List.map_map]; rfl
      rw [this, List.map_fst_zip (Nat.le_refl _), hS.strs]
    rwa [e2] at h1
  · rw [List.pairwise_iff_getElem]
    intro i j hi hj hij
    have hi' : i < xs.size := by simpa using hi
    have hj' : j < xs.size := by simpa using hj
    have h1 := hs i j (Nat.le_of_lt hij) (by rw [← hp.size_eq]; exact hj')
    obtain ⟨x, t, ex⟩ := hS.all _ (hmem xs[i] (by simp)).2
    obtain ⟨y, u, ey⟩ := hS.all _ (hmem xs[j] (by simp)).2
    rw [KK_str hi' (x := x) (t := t) (q := xs[i].2) (Prod.ext ex rfl), KK_str hj' (x := y) (t := u) (q := xs[j].2) (Prod.ext ey rfl)] at h1
    change decide (y.cps.toList < x.cps.toList) = false at h1
    unfold leS
    simp only [List.getElem_map, Array.getElem_toList]
    rw [show strOf xs[i].1 = x by rw [ex]; rfl, show strOf xs[j].1 = y by rw [ey]; rfl, ltCps_eq]
    exact h1
theorem call_sortD {X : Cx} (hc : X.calm = true) : CallR X (.builtin "sorted") (fun xs H Q => ∃ (a : Addr) (kvs : List (Key × V)) (ss : List Str), xs = [.ref a] ∧ H a = some (.dK kvs) ∧ kvs.map (·.1) = ss.map Sum.inr ∧ kvs.length < 64 ∧
    ∀ (p : Addr) (ss' : List Str), H p = none → ss'.Perm ss → ss'.Pairwise leS → Q (.ref p) (upd H p (.lst (ss'.map V.str)))) := by
  intro pins s σ H xs us Q I rv h
  obtain ⟨a, kvs, ss, rfl, hd, hks, h64, q⟩ := h
  obtain ⟨u, rfl, ru⟩ := rv.one
  cases ru
  obtain ⟨z, lo, vs, rel, dd⟩ := dk_of I.hok hd
  obtain ⟨ep, hat⟩ := dd.dictAt
  have hlen : vs.length = kvs.length := rel.length.symm
  have hss : ss.length = kvs.length := by have := congrArg List.length hks; simpa using this.symm
  have hh : X.A.handled = none := I.ok.hd hc
  refine Calls.call_function_entry kind_sorted plain_sorted entry_sorted (args_sorted1 _) ?_
  unfold Builtin.«sorted»
  refine wpAny_bind (m := checkCount "sorted" 1 1 _) (wpAny_pure ?_)
  refine wpAny_bind (PySem.W.kdu_collect (A := X.A.in1) (PySem.W.kdl_dict (knd := mixKind X.prog X.w) (kvs := vs) (ep := ep) lo) hh hat (by rw [hlen]; exact z) fun h' tk acc hk hacc => ?_)
  have hal : acc.toList.length = vs.length := by rw [Array.length_toList]; exact hacc.1
  refine wpAny_bind (wpAny_newList ?_ (by rw [hal, hlen]; exact z))
  have hS : StrsAre acc.toList ss := strsAre_get (by omega) fun j v e => by
    obtain ⟨k, x, e1, e2⟩ := hacc.2 j v (by rw [← Array.getElem?_toList]; exact e)
    have hj : j < kvs.length := by have := (List.getElem?_eq_some_iff.mp e1).1; omega
    have key : (kvs.map (·.1))[j]? = some k := by
      have h2 : ∀ {l : List (Key × V)} {m : List (Key × Value)} {j : Nat} {q : Key × Value}, KV l m → m[j]? = some q → (l.map (·.1))[j]? = some q.1 := by
        intro l m
        intro j q r
        unfold KV at r
        induction r generalizing j with
        | nil => intro e; simp at e
        | cons h t ih =>
          intro e
          cases j with
          | zero => simp at e; subst e; simp [h.1]
          | succ j => simp at e ⊢; have := ih e; simpa using this
      exact h2 rel e1
    rw [hks, List.getElem?_map] at key
    cases es : ss[j]? with
    | none => rw [es] at key; cases key
    | some x' =>
      rw [es] at key
      cases key
      rcases keyIs_shape (show keyIs (Sum.inr x') v = true from e2) with ⟨i, t, e3, _⟩ | ⟨y, t, e3, e4⟩
      · cases e3
      · cases e3
        exact ⟨x', t, rfl, e4⟩
  have I1 : Inv X pins σ H { s with heap := h', toks := tk } := I.kept (t' := tk) hk
  have hoL : (h'.push { cls := .type "list", data := .seq acc.toList.toArray }).get? h'.objs.size = some (seqObj "list" acc.toList.toArray 0) := Heap.get?_push_size _ rfl
  refine wpAny_bind (wpAny_holding (wpAny_call_entry slot_list_sort ⟨_, hoL, rfl⟩ entry_list_sort (list_sort_treeK strKind_oneLt hoL hS.keysOf (fun v₁ v₂ rest e => keyKind_strs (by rw [← e]; exact hS)) (by omega) fun st' hp hs => ⟨_, rfl, ?_⟩) (args_list_sort _)))
  obtain ⟨ss', h1, h2, h3⟩ := sorted_out_pw hS hp hs
  refine wpAny_pure ⟨_, rfl, ?_⟩
  obtain ⟨e, he⟩ := sortedHeap_at (out := (arrOf st').map (·.2)) hoL
  refine ⟨.ref h'.objs.size, _, I1.laid (t' := tk) (a := h'.objs.size) (o := .lst (ss'.map V.str)) (fun b o e => ?_) (Nat.le_refl _) ?_, rfl, q h'.objs.size ss' (I1.hok.fresh (Nat.le_refl _)) h2 h3⟩
  · have hb := Heap.lt_size e
    rw [sortedHeap_old (Nat.ne_of_lt hb) (by rw [Heap.size_push]; exact Nat.lt_succ_of_lt hb)]
    exact Heap.get?_push_of_some _ e
  · exact ⟨by rw [List.length_map, h2.length_eq, hss]; exact z, ((arrOf st').map (·.2)).toList, e, strs_vals h1, by rw [Array.toArray_toList]; exact he⟩
/-- tuple(l), known to the object -/
theorem call_tupF {X : Cx} : CallR X (.type "tuple") (fun xs H Q => ∃ p ys, xs = [.ref p] ∧ SqL X.K H p ys ∧ ∀ (l : Addr) (o : Obj), H l = none → o.dict = none → Q (.ref l) (upd H l (.frz o (.tup ys)))) := by
  intro pins s σ H xs us Q I r h
  obtain ⟨p, ys, rfl, hq, q⟩ := h
  obtain ⟨u, rfl, rx⟩ := vals1 r
  cases rx
  obtain ⟨its, r', pl, hz⟩ := I.list hq
  have hlen := r'.length
  refine call_tuple_list pl.isList (fun h' kp => ?_) (by simp only [List.size_toArray] <;> omega)
  have I1 : Inv X pins σ H { s with heap := h' } := I.kept (t' := s.toks) kp
  have I2 : Inv X pins σ (upd H h'.objs.size (.frz { cls := .type "tuple", data := .seq its.toArray } (.tup ys))) { s with heap := h'.push { cls := .type "tuple", data := .seq its.toArray } } :=
    I1.laid (t' := s.toks) (fun b o e => Heap.get?_push_of_some _ e) (Nat.le_refl _) (show ObjOk X.prog X.w _ _ _ (.frz _ (.tup ys)) from ⟨Heap.get?_push_size _ rfl, hz, its, r', IsTup.new _ _⟩)
  exact ⟨.ref h'.objs.size, _, I2, rfl, q _ _ (I1.hok.fresh (Nat.le_refl _)) rfl⟩
end L2

namespace L2
open PySem PySem.Spec PyProof.Rows
section
variable {X : Cx}
/-- records of ours have turned, and a tuple has come -/
theorem Inv.turnedT {pins : List (Addr × Obj)} {σ : St} {H : Hp} {s : Shared} {h' : Heap} {t' : Nat} {ch : List Addr} {T : Addr} {xs : List V} {us : List Value} (I : Inv X pins σ H s) (k : ∀ b o, b ∉ ch → s.heap.get? b = some o → h'.get? b = some o)
    (hf : ∀ b ∈ ch, FpOk X pins H b) (hT : s.heap.objs.size ≤ T) (hz : xs.length ≤ sizeLine) (hv : Vals xs us) (ht : IsTup h' T us.toArray) : Inv X pins σ (upd H T (.tup xs)) { s with heap := h', toks := t' } := by
  have hn : H T = none := I.hok.fresh hT
  have nch : ∀ b u, H b = some u → b ∉ ch := fun b u e z => by rw [(hf b z).1] at e; cases e
  refine I.step (g' := s.gens) (d' := s.drawn) (ch := ch) (fun b hb => ?_) (fun b o _ _ hc e _ => k b o hc e) (fun b o _ _ hc e _ => ⟨o.slots, k b o hc e⟩) (fun b o _ e n => ?_)
    (fun b o hc e => ⟨o, k b o hc e⟩) (fun b ys e => ?_) (fun b o u e => ?_) (fun b ps e => ⟨#[], ?_⟩) (fun m hm => ?_) (fun b u e => ?_) I.bare
  · obtain ⟨_, h1, _, h3, h4, h5⟩ := hf b hb
    exact ⟨h3, h1, h4, h5⟩
  · rw [upd_ne (Nat.ne_of_lt (Nat.lt_of_lt_of_le (Heap.lt_size e) hT))]
    exact n
  · rw [upd_ne (ne_of_none e hn)]; exact e
  · rw [upd_ne (ne_of_none e hn)]; exact e
  · rw [upd_ne (ne_of_none e hn), e]; simp
  · obtain ⟨o, es, ep, ho, r⟩ := hm
    exact ⟨o, es, ep, k _ o (fun z => (hf _ z).2.1 rfl) ho, r⟩
  · by_cases hb : b = T
    · subst hb
      rw [upd_same] at e
      cases e
      exact ⟨hz, us, hv, ht⟩
    · rw [upd_ne hb] at e
      refine (I.hok b u e).stay (fun c v hc q => k c v ?_ q) (fun c q => by rw [upd_ne (ne_of_none q hn)]; exact q) fun c ys q => by rw [upd_ne (ne_of_none q hn)]; exact q
      rcases hc with z | z
      · rw [z]; exact nch b u e
      · exact nch c _ z
theorem Inv.turnedL {pins : List (Addr × Obj)} {σ : St} {H : Hp} {s : Shared} {h' : Heap} {t' : Nat} {ch : List Addr} (I : Inv X pins σ H s) (k : ∀ b o, b ∉ ch → s.heap.get? b = some o → h'.get? b = some o)
    (hf : ∀ b ∈ ch, FpOk X pins H b) : Inv X pins σ H { s with heap := h', toks := t' } := by
  have nch : ∀ b u, H b = some u → b ∉ ch := fun b u e z => by rw [(hf b z).1] at e; cases e
  refine I.step (g' := s.gens) (d' := s.drawn) (ch := ch) (fun b hb => ?_) (fun b o _ _ hc e _ => k b o hc e) (fun b o _ _ hc e _ => ⟨o.slots, k b o hc e⟩) (fun b o _ e n => n)
    (fun b o hc e => ⟨o, k b o hc e⟩) (fun b ys e => e) (fun b o u e => e) (fun b ps e => ⟨#[], by rw [e]; simp⟩) (fun m hm => ?_) (fun b u e => ?_) I.bare
  · obtain ⟨_, h1, _, h3, h4, h5⟩ := hf b hb
    exact ⟨h3, h1, h4, h5⟩
  · obtain ⟨o, es, ep, ho, r⟩ := hm
    exact ⟨o, es, ep, k _ o (fun z => (hf _ z).2.1 rfl) ho, r⟩
  · refine (I.hok b u e).stay (fun c v hc q => k c v ?_ q) (fun c q => q) fun c ys q => q
    rcases hc with z | z
    · rw [z]; exact nch b u e
    · exact nch c _ z
/-- two lists walked together -/
def Itz (K : PySem.W.Frag) (l1 l2 : Addr) : It :=
  ⟨fun i H => ∃ xs ys x y, SqL K H l1 xs ∧ SqL K H l2 ys ∧ xs[i]? = some x ∧ ys[i]? = some y, fun i H v H' => ∃ p, v = .ref p ∧ H p = none ∧ ∀ xs ys, SqL K H l1 xs → SqL K H l2 ys → ∃ x y, xs[i]? = some x ∧ ys[i]? = some y ∧ H' = upd H p (.tup [x, y]),
    fun i H => ∃ xs ys, SqL K H l1 xs ∧ SqL K H l2 ys ∧ i = min xs.length ys.length⟩
def TnZ (z TI TO i1 i2 l1 l2 : Addr) (i : Nat) (h : Heap) : Prop := IsZip h z TI TO Value.none ∧ IsPair h TI (Value.ref i1) (Value.ref i2) ∧ (∃ a b, IsPair h TO a b) ∧ h.IsListIter i1 l1 i ∧ h.IsListIter i2 l2 i
theorem turn_zip {P : Program} {w : World} {K : PySem.W.Frag} {elts : List Expr} {k : Nat} {pos : Pos} {z TI TO i1 i2 l1 l2 : Addr} (ap : ZipApart z TI TO i1 i2 l1 l2) : Turn P w K (.Tuple elts k pos) (Itz K l1 l2) [z, TI, TO, i1, i2] z (TnZ z TI TO i1 i2 l1 l2) where
  mem := by simp
  obj := fun i h st b hb => by
    obtain ⟨h1, h2, ⟨u, v, h3⟩, h4, h5⟩ := st
    simp only [List.mem_cons, List.not_mem_nil, or_false] at hb
    rcases hb with rfl | rfl | rfl | rfl | rfl
    · exact ⟨_, h1, fun v e => by cases e⟩
    · exact ⟨_, h2, fun v e => by cases e⟩
    · exact ⟨_, h3, fun v e => by cases e⟩
    · obtain ⟨o, e, c, d⟩ := h4
      exact ⟨o, e, fun v z => by rw [d] at z; cases z⟩
    · obtain ⟨o, e, c, d⟩ := h5
      exact ⟨o, e, fun v z => by rw [d] at z; cases z⟩
  keep := fun i h h' st kk => by
    obtain ⟨h1, h2, ⟨u, v, h3⟩, h4, h5⟩ := st
    exact ⟨kk _ (by simp) _ h1, kk _ (by simp) _ h2, ⟨u, v, kk _ (by simp) _ h3⟩, h4.at fun o e => kk _ (by simp) o e, h5.at fun o e => kk _ (by simp) o e⟩
  item := by
    intro X hP hw hK hc i pins s σ H E I hf st hg
    subst hP hw hK
    obtain ⟨xs, ys, x, y, hx, hy, ex, ey⟩ := hg
    obtain ⟨its, rv, p, hz⟩ := I.list hx
    obtain ⟨jts, rv', p', hz'⟩ := I.list hy
    obtain ⟨u, hu, ru⟩ := rv.get ex
    obtain ⟨v, hv, rv2⟩ := rv'.get ey
    have W := WalksT.zip2 (prog := X.prog) (w := X.w) (I.ok.hd hc) z TI TO i1 i2 l1 l2 ap its.toArray jts.toArray
    have hi1 : i < its.length := (List.getElem?_eq_some_iff.mp hu).1
    have hi2 : i < jts.length := (List.getElem?_eq_some_iff.mp hv).1
    obtain ⟨st1, st2, st3, st4, st5⟩ := st
    refine W.item i s _ _ (by simp only [List.size_toArray]; omega) ⟨st1, st2, st3, st4, st5, p.isList, p'.isList⟩ fun T vals h' tk hpt hT ht mid kk => ?_
    obtain ⟨a, b, ea, eb, rfl⟩ := hpt
    have ea' : its[i]? = some a := by simpa using ea
    have eb' : jts[i]? = some b := by simpa using eb
    rw [hu] at ea'; cases ea'
    rw [hv] at eb'; cases eb'
    refine ⟨_, rfl, W.go elts k pos i T _ _ _ mid fun h'' st'' kk2 => ?_⟩
    have nT := W.apart i T h' mid
    have hTup : IsTup h'' T [u, v].toArray := by
      obtain ⟨o, e, c⟩ := ht
      exact ⟨o, kk2 _ _ nT e, c⟩
    have hfw : ∀ b ∈ ([z, TO, i1, i2] : List Addr), FpOk X pins H b := fun b hb => hf b (by simp only [List.mem_cons, List.not_mem_nil, or_false] at hb ⊢; rcases hb with h | h | h | h <;> simp [h])
    have I1 := I.turnedT (h' := h'') (t' := tk) (xs := [x, y]) (us := [u, v]) (ch := [z, TO, i1, i2]) (fun b o hb e => kk2 _ _ hb (kk _ _ hb e)) hfw hT (by show 2 ≤ sizeLine; decide) (.cons ru (.cons rv2 .nil)) hTup
    refine ⟨.ref T, _, I1, rfl, ⟨T, rfl, I.hok.fresh hT, fun xs' ys' hx' hy' => ⟨x, y, ?_, ?_, rfl⟩⟩, ⟨st''.1, st''.2.1, st''.2.2.1, st''.2.2.2.1, st''.2.2.2.2.1⟩, fun b hb => ?_⟩
    · rw [I.list_inj hx' hx]; exact ex
    · rw [I.list_inj hy' hy]; exact ey
    · have hb' : ∃ o, s.heap.get? b = some o := by
        simp only [List.mem_cons, List.not_mem_nil, or_false] at hb
        obtain ⟨u', v', st3⟩ := st3
        obtain ⟨o4, e4, _⟩ := st4
        obtain ⟨o5, e5, _⟩ := st5
        rcases hb with h | h | h | h | h <;> rw [h]
        · exact ⟨_, st1⟩
        · exact ⟨_, st2⟩
        · exact ⟨_, st3⟩
        · exact ⟨_, e4⟩
        · exact ⟨_, e5⟩
      obtain ⟨o, e⟩ := hb'
      rw [upd_ne (Nat.ne_of_lt (Nat.lt_of_lt_of_le (Heap.lt_size e) hT))]
      exact (hf b hb).1
  done := by
    intro X hP hw hK hc i pins s σ H E I hf st hg
    subst hP hw hK
    obtain ⟨xs, ys, hx, hy, rfl⟩ := hg
    obtain ⟨its, rv, p, hz⟩ := I.list hx
    obtain ⟨jts, rv', p', hz'⟩ := I.list hy
    have W := WalksT.zip2 (prog := X.prog) (w := X.w) (I.ok.hd hc) z TI TO i1 i2 l1 l2 ap its.toArray jts.toArray
    obtain ⟨st1, st2, st3, st4, st5⟩ := st
    have hfw : ∀ b ∈ ([z, TO, i1, i2] : List Addr), FpOk X pins H b := fun b hb => hf b (by simp only [List.mem_cons, List.not_mem_nil, or_false] at hb ⊢; rcases hb with h | h | h | h <;> simp [h])
    have e : min xs.length ys.length = min its.toArray.size jts.toArray.size := by rw [rv.length, rv'.length, List.size_toArray, List.size_toArray]
    rw [e] at st4 st5
    refine W.done s _ _ ⟨st1, st2, st3, st4, st5, p.isList, p'.isList⟩ fun h' tk kk => ⟨rfl, I.turnedL (ch := [z, TO, i1, i2]) kk hfw⟩
  self := fun _ _ _ _ _ st h => wpAny_pyIter_zip st.1 h
def iZip (K : PySem.W.Frag) (ta : TA) : TI := fun σ H R => ta σ H fun vs H1 => ∃ a b xs ys, vs = [.ref a, .ref b] ∧ SqL K H1 a xs ∧ SqL K H1 b ys ∧ R (Itz K a b) H1
theorem pi_zip {elts : List Expr} {k : Nat} {tpos : Pos} {a b : Expr} {ta : TA} {p pos : Pos} (hg : Gl X "zip") (hm : X.mg "zip" = none) (ha : PA X [a, b] ta) (hs : starEach [a, b] X.env = [(false, eval a X.env), (false, eval b X.env)] := by rfl) (hs2 : starEach [b] X.env = [(false, eval b X.env)] := by rfl) :
    PI X (.Tuple elts k tpos) (.Call (.Name "zip" p) [a, b] [] pos) (iZip X.K ta) := by
  intro pins s σ H R I h
  refine Call_ (ld_blt I hg hm boot_zip (PyProof.Rows.callWith_type1 (thn (ha pos pins s σ H _ I h) fun us s1 ⟨vs, H1, I1, r1, q1⟩ => ?_) (by rw [hs, hs2]) (by rw [hs2]; rfl)))
  obtain ⟨l1, l2, xs, ys, e, hx, hy, q⟩ := q1
  subst e
  obtain ⟨u, u2, rfl, rr1, rr2⟩ := vals2 r1
  cases rr1
  cases rr2
  obtain ⟨its, rv, p1, hz⟩ := I1.list hx
  obtain ⟨jts, rv', p2, hz'⟩ := I1.list hy
  refine call_zip_2 p1.isList p2.isList fun h' z1 z2 z3 z4 z5 hsz kk => ?_
  refine wpAny_pyIter_zip (s := { s1 with heap := h' }) z1 ?_
  have h1 : l1 < s1.heap.objs.size := by obtain ⟨o, e, _⟩ := p1.isList; exact Heap.lt_size e
  have h2 : l2 < s1.heap.objs.size := by obtain ⟨o, e, _⟩ := p2.isList; exact Heap.lt_size e
  refine ⟨_, [s1.heap.objs.size + 4, s1.heap.objs.size + 2, s1.heap.objs.size + 3, s1.heap.objs.size, s1.heap.objs.size + 1], _, _, H1, rfl, I1.kept (t' := s1.toks) kk, turn_zip (zipApart_new h1 h2), ⟨z1, z2, ⟨_, _, z3⟩, z4, z5⟩, fun b hb => ?_, q⟩
  have hb' : s1.heap.objs.size ≤ b := by
    simp only [List.mem_cons, List.not_mem_nil, or_false] at hb
    rcases hb with h | h | h | h | h <;> rw [h] <;> first | exact Nat.le_add_right _ _ | exact Nat.le_refl _
  exact I1.fpOk hb' (I1.hok.fresh hb')
/-- over two lists that the body leaves as they are -/
theorem for_zip {K : PySem.W.Frag} {a b : Addr} {xs ys : List V} {g : TG} {tb : TS} {D : Ends} {σ : St} {H : Hp} (Pv : Nat → St → Hp → Prop) (h0 : Pv 0 σ H) (hl : ∀ i σ H, Pv i σ H → SqL K H a xs ∧ SqL K H b ys) (hlen : xs.length = ys.length)
    (hs : ∀ i x y p σ H, xs[i]? = some x → ys[i]? = some y → H p = none → Pv i σ H → g (.ref p) σ (upd H p (.tup [x, y])) fun σ2 H2 => tb { D with nx := Pv (i + 1), ct := Pv (i + 1), bk := D.nx } σ2 H2) (hd : ∀ σ H, Pv xs.length σ H → D.nx σ H) :
    ∃ W : Nat → Nat → St → Hp → Prop, (∃ m, W 0 m σ H) ∧ ∀ i m σ H, W i m σ H →
      ((Itz K a b).stop i H ∧ D.nx σ H) ∨ ((Itz K a b).go i H ∧ ∃ N : St → Hp → Prop, (∀ σ' H', N σ' H' → ∃ m', m' < m ∧ W (i + 1) m' σ' H') ∧ ∀ x H', (Itz K a b).yld i H x H' → g x σ H' fun σ2 H2 => tb { D with nx := N, ct := N, bk := D.nx } σ2 H2) := by
  refine ⟨fun i m σ H => m = xs.length - i ∧ i ≤ xs.length ∧ Pv i σ H, ⟨xs.length, by simp, Nat.zero_le _, h0⟩, ?_⟩
  rintro i m σ H ⟨rfl, hi, p⟩
  obtain ⟨q1, q2⟩ := hl i σ H p
  by_cases hlt : i < xs.length
  · refine .inr ⟨⟨xs, ys, xs[i], ys[i]'(by omega), q1, q2, by simp [hlt], by simp⟩, Pv (i + 1), fun σ' H' p' => ⟨xs.length - (i + 1), by omega, rfl, hlt, p'⟩, fun x H' y => ?_⟩
    obtain ⟨t, rfl, ht, y⟩ := y
    obtain ⟨u, v, eu, ev, rfl⟩ := y xs ys q1 q2
    exact hs i u v t σ H eu ev ht p
  · have e : i = xs.length := by omega
    subst e
    exact .inl ⟨⟨xs, ys, q1, q2, by omega⟩, hd σ H p⟩

/-! ### list(range(n)) -/
theorem call_rngV : CallR X (.type "range") (fun xs H Q => ∃ j : Int, xs = [.int j] ∧ ∀ p, H p = none → Q (.ref p) (upd H p (.rng 0 j))) := by
  intro pins s σ H xs us Q I rv h
  obtain ⟨j, rfl, q⟩ := h
  cases rv with
  | cons r rr =>
    cases rr
    obtain ⟨t, rfl⟩ := r
    refine call_range_1 ?_
    have hf : H s.heap.objs.size = none := I.hok.fresh (Nat.le_refl _)
    refine ⟨.ref s.heap.objs.size, _, I.laid (o := .rng 0 j) (fun b u e => Heap.get?_push_of_some _ e) (Nat.le_refl _) ?_, rfl, q _ hf⟩
    exact ⟨_, _, _, Heap.get?_push_size _ rfl⟩
def rngV (n : Nat) : List V := (List.range n).map fun (i : Nat) => V.int (i : Int)
theorem vals_of : ∀ {xs : List V} {us : List Value}, xs.length = us.length → (∀ (i : Nat) (x : V) (u : Value), xs[i]? = some x → us[i]? = some u → RelV x u) → Vals xs us
  | [], [], _, _ => .nil
  | [], _ :: _, e, _ => nomatch e
  | _ :: _, [], e, _ => nomatch e
  | x :: xs, u :: us, e, h => .cons (h 0 x u rfl rfl) (vals_of (Nat.succ.inj e) fun i y w h1 h2 => h (i + 1) y w h1 h2)
theorem call_listR (hc : X.calm = true) : CallR X (.type "list") (fun xs H Q => ∃ (p : Addr) (n : Nat), xs = [.ref p] ∧ H p = some (.rng 0 (n : Int)) ∧ n ≤ 1000 ∧ ∀ l, H l = none → Q (.ref l) (upd H l (.lst (rngV n)))) := by
  intro pins s σ H xs us Q I rv h
  obtain ⟨p, n, rfl, hp, hn, q⟩ := h
  cases rv with
  | cons r rr =>
    cases rr
    cases r
    obtain ⟨t, u, v, e⟩ := I.hok p _ hp
    have hsz : Builtin.Range.rangeSize 0 (n : Int) 1 = ((n : Nat) : Int) := by rw [rangeSize_one]; split <;> omega
    refine call_list_range (I.ok.hd hc) e (small_one (by decide) (by decide) (by omega) (by omega)) hsz (by omega) fun h' tk acc c' kk ha hi => ?_
    have hf : H s.heap.objs.size = none := I.hok.fresh (Nat.le_refl _)
    have hl : acc.toList.length = n := by rw [Array.length_toList]; exact hi.1
    have hV : Vals (rngV n) acc.toList := by
      refine vals_of ?_ ?_
      · unfold rngV; rw [List.length_map, List.length_range, hl]
      · intro j x w hx hw
        obtain ⟨hj, _⟩ := List.getElem?_eq_some_iff.mp hw
        have hxj : x = V.int (j : Int) := by
          unfold rngV at hx
          rw [List.getElem?_map, List.getElem?_range (by omega)] at hx
          exact (Option.some.inj hx).symm
        subst hxj
        obtain ⟨t', e'⟩ := hi.2 j w (by rw [← Array.getElem?_toList]; exact hw)
        exact ⟨t', by rw [e']; simp⟩
    refine ⟨.ref s.heap.objs.size, _, I.laid (o := .lst (rngV n)) kk (Nat.le_refl _) ⟨?_, acc.toList, c', hV, ?_⟩, rfl, q _ hf⟩
    · rw [hV.length, hl]; exact Nat.le_of_lt (small1000 hn)
    · rw [Array.toArray_toList]; exact ha
/-! ### lists of tuples, compared -/
def FlatV (z : V) : Prop := z = .non ∨ (∃ i : Int, z = .int i) ∨ ∃ x : Str, z = .str x
theorem eq_flat {A : Around} {s : Shared} {z : V} {u v : Value} (h : FlatV z) (ru : RelV z u) (rv : RelV z v) : SeqAt.EqAt A s u v true := by
  rcases h with rfl | ⟨i, rfl⟩ | ⟨x, rfl⟩
  · cases ru; cases rv
    exact SeqAt.EqAt.same _
  · obtain ⟨t, rfl⟩ := ru
    obtain ⟨t', rfl⟩ := rv
    have := SeqAt.EqAt.int_int (A := A) (s := s) i t i t'
    rwa [show (i == i) = true from beq_self_eq_true i] at this
  · obtain ⟨t, rfl⟩ := ru
    obtain ⟨t', rfl⟩ := rv
    have := SeqAt.EqAt.str_str (A := A) (s := s) x t x t'
    rwa [show (x == x) = true from beq_self_eq_true x] at this
theorem op_neTL (hu : X.A.units + 1 < cLine) : OpR X (compareOp .NotEq) (fun x y H Q => ∃ (a b : Addr) (xs ys : List V), x = .ref a ∧ y = .ref b ∧ SqL X.K H a xs ∧ SqL X.K H b ys ∧ xs.length = ys.length ∧
    (∀ (i : Nat) (u v : V), xs[i]? = some u → ys[i]? = some v → ∃ (p r : Addr) (zs : List V), u = .ref p ∧ v = .ref r ∧ SqT X.K H p zs ∧ SqT X.K H r zs ∧ ∀ z ∈ zs, FlatV z) ∧ Q (.bl false) H) := by
  intro pins s σ H x y v u Q I rx ry h
  obtain ⟨a, b, xs, ys, rfl, rfl, ha, hb, hlen, hall, q⟩ := h
  cases rx
  cases ry
  obtain ⟨its, rv, p, _⟩ := I.list ha
  obtain ⟨jts, rv2, p2, _⟩ := I.list hb
  have e1 := rv.length
  have e2 := rv2.length
  have eqs : (!(List.range its.toArray.size).all fun _ => true) = false := by simp
  have := SeqAt.RcNeAt.lists (A := X.A) (s := s) (e := fun _ => true) p.isList p2.isList (by simp only [List.size_toArray]; omega) (Nat.lt_of_succ_lt hu) (fun j h1 h2 => ?_)
  · rw [eqs] at this
    exact this _ _ _ _ (fin_bl I q rfl)
  · have hj1 : j < its.length := by simpa using h1
    have hj2 : j < jts.length := by simpa using h2
    obtain ⟨u1, hu1, ru1⟩ := rv.get (i := j) (x := xs[j]'(by omega)) (List.getElem?_eq_getElem _)
    obtain ⟨u2, hu2, ru2⟩ := rv2.get (i := j) (x := ys[j]'(by omega)) (List.getElem?_eq_getElem _)
    obtain ⟨p', r', zs, ep, er, hp, hr, hz⟩ := hall j _ _ (List.getElem?_eq_getElem (by omega)) (List.getElem?_eq_getElem (by omega))
    rw [ep] at ru1
    rw [er] at ru2
    cases ru1
    cases ru2
    have i1 : its.toArray[j] = Value.ref p' := by
      have := List.getElem?_eq_getElem hj1
      rw [hu1] at this
      simpa using (Option.some.inj this).symm
    have i2 : jts.toArray[j] = Value.ref r' := by
      have := List.getElem?_eq_getElem hj2
      rw [hu2] at this
      simpa using (Option.some.inj this).symm
    rw [i1, i2]
    by_cases hpr : p' = r'
    · subst hpr; exact SeqAt.EqAt.same _
    · refine SeqAt.EqAt.of_refs hpr ?_
      obtain ⟨ps, rp, tp, _⟩ := I.tuple hp
      obtain ⟨qs, rq, tq, _⟩ := I.tuple hr
      have lp := rp.length
      have lq := rq.length
      have := SeqAt.RcAt.tuples (A := X.A.in1) (s := s) (e := fun _ => true) (show s.heap.IsTuple p' ps.toArray from tp) (show s.heap.IsTuple r' qs.toArray from tq) hu (fun k g1 g2 => ?_)
      · have hb' : ((List.range (min ps.toArray.size qs.toArray.size)).all (fun _ => true) && ps.toArray.size == qs.toArray.size) = true := by
          simp only [List.size_toArray, Bool.and_eq_true, beq_iff_eq, List.all_eq_true]
          exact ⟨fun _ _ => trivial, by omega⟩
        rw [hb'] at this
        exact this
      · have g1' : k < ps.length := by simpa using g1
        have g2' : k < qs.length := by simpa using g2
        obtain ⟨v1, hv1, rv1⟩ := rp.get (i := k) (x := zs[k]'(by omega)) (List.getElem?_eq_getElem _)
        obtain ⟨v2, hv2, rv2'⟩ := rq.get (i := k) (x := zs[k]'(by omega)) (List.getElem?_eq_getElem _)
        have k1 : ps.toArray[k] = v1 := by
          have := List.getElem?_eq_getElem g1'
          rw [hv1] at this
          simpa using (Option.some.inj this).symm
        have k2 : qs.toArray[k] = v2 := by
          have := List.getElem?_eq_getElem g2'
          rw [hv2] at this
          simpa using (Option.some.inj this).symm
        rw [k1, k2]
        exact eq_flat (hz _ (List.getElem_mem _)) rv1 rv2'
end
end L2

/-! a function of the text, known by its promise -/
namespace L2
open PySem PySem.Spec PyProof.Rows
structure FnAt (P : Program) (w : World) (K : PySem.W.Frag) (mg : Str → Option Value) (base : Heap) (k : Nat) (x : Str) (ps : List Str) (sp : Sp) : Prop where
  ex : ∃ f fd, FnOk P w K mg base CX0 k f fd ps sp ∧ mg x = some (.ref f) ∧ PySem.W.keepIn K (.ref f) = true ∧ Binds K fd ps []
theorem pe_callF {X : Cx} {k : Nat} {x : Str} {ps : List Str} {sp : Sp} {e : Expr} {es : List Expr} {t : TA} {p pos : Pos} (F : FnAt X.prog X.w X.K X.mg X.base k x ps sp) (hr : Room k X.A) (ha : PA X (e :: es) t) (hg : Gl X x := by rfl)
    (hdb : (x == ("__debug__" : Str)) = false := by decide) (he : starEach (e :: es) X.env = (false, eval e X.env) :: starEach es X.env := by rfl) (hpl : (backTo pos (starEach es X.env)).any (·.1) = false := by rfl) :
    PE X (.Call (.Name x p) (e :: es) [] pos) (tCall sp [] E0 t) := by
  obtain ⟨f, fd, G, m, kp, b⟩ := F.ex
  exact pe_call G hr hg m kp b .nil pass0 ha hdb he hpl
theorem Same.new {H : Hp} {a : Addr} {o : HO} (h : H a = none) : Same H (upd H a o) := fun b u e => by rw [upd_ne (ne_of_none e h)]; exact e
theorem Same.up {H H1 : Hp} {a : Addr} {o : HO} (e : Same H H1) (h : H a = none) : Same H (upd H1 a o) := fun b u q => by rw [upd_ne (ne_of_none q h)]; exact e b u q
theorem Same.none {H H' : Hp} (e : Same H H') {a : Addr} (h : H' a = Option.none) : H a = Option.none := e.free h
theorem atI_map {α β : Type} {f : α → β} {xs : List α} {i : Int} {x : α} (h0 : 0 ≤ i) (h : xs[i.toNat]? = some x) : atI (xs.map f) i = some (f x) := by
  obtain ⟨n, rfl⟩ := Int.eq_ofNat_of_zero_le h0
  have hn : n < xs.length := by
    have := (List.getElem?_eq_some_iff.mp h).1
    simpa using this
  unfold atI ixN
  rw [if_pos h0, if_pos (by rw [List.length_map]; omega)]
  show (xs.map f)[(n : Int).toNat]? = _
  rw [List.getElem?_map, h]; rfl
end L2
namespace K05
open PySem L2
def top (i : Nat) : Stmt := PySem.Challenge.pw_chainhouse_k05_whole_again_changes_nothi.main.body.getD i (.Pass ⟨0, 0, 0, 0⟩)
abbrev sCell : Stmt := top 4
abbrev sNext : Stmt := top 5
abbrev sOther : Stmt := top 6
abbrev sNumber : Stmt := top 7
abbrev sDigits : Stmt := top 8
theorem bInt : bootBuiltins "int" = some (.type "int") := by decide +kernel
theorem bBool : bootBuiltins "bool" = some (.type "bool") := by decide +kernel
theorem bDict : bootBuiltins "dict" = some (.type "dict") := by decide +kernel
theorem bTuple : bootBuiltins "tuple" = some (.type "tuple") := by decide +kernel
theorem bMin : bootBuiltins "min" = some (.builtin "min") := by decide +kernel
theorem bIsi : bootBuiltins "isinstance" = some (.builtin "isinstance") := by decide +kernel
theorem bMax : bootBuiltins "max" = some (.builtin "max") := by decide +kernel
theorem bAll : bootBuiltins "all" = some (.builtin "all") := by decide +kernel
theorem bList : bootBuiltins "list" = some (.type "list") := by decide +kernel
theorem bRange : bootBuiltins "range" = some (.type "range") := by decide +kernel
theorem bSorted : bootBuiltins "sorted" = some (.builtin "sorted") := by decide +kernel
theorem bStr : bootBuiltins "str" = some (.type "str") := by decide +kernel
theorem at2 (x y : Int) (c : Bool) : ∃ z : Int, atI [V.int x, V.int y] (if c = true then (1 : Int) else 0) = some (.int z) := by
  cases c
  · exact ⟨x, rfl⟩
  · exact ⟨y, rfl⟩
/-- the built-in names that no def of the text hides -/
structure Blt (mg : Str → Option Value) : Prop where
  len : mg "len" = none
  range : mg "range" = none
  int : mg "int" = none
  min : mg "min" = none
  isi : mg "isinstance" = none
  tuple : mg "tuple" = none
  bool : mg "bool" = none
  dict : mg "dict" = none
  max : mg "max" = none
  all : mg "all" = none
  str : mg "str" = none
  sorted : mg "sorted" = none
  list : mg "list" = none
  zip : mg "zip" = none
def spCell (K : PySem.W.Frag) : Sp := fun vs H Q _ => ∃ (a : Addr) (ns : List Int) (k : Int), vs = [.ref a, .int k] ∧ SqL K H a (ns.map V.int) ∧ 0 ≤ k ∧ ∀ z : Int, Q (.int z) H
def spNext : Sp := fun vs H Q _ => ∃ x : Int, vs = [.int x] ∧ 0 ≤ x ∧ x < 2 ^ 40 ∧ ∀ z : Int, 0 ≤ z → z < 2147483648 → Q (.int z) H
def spNumber (K : PySem.W.Frag) : Sp := fun vs H Q _ => ∃ (a : Addr) (ns : List Int) (k : Int), vs = [.ref a, .int k] ∧ SqL K H a (ns.map V.int) ∧ 0 ≤ k ∧ k ≤ 100 ∧ ∀ z : Int, Q (.int z) H
def spDigits (K : PySem.W.Frag) : Sp := fun vs H Q _ => ∃ (a : Addr) (ns : List Int) (k b m : Int), vs = [.ref a, .int k, .int b, .int m] ∧ SqL K H a (ns.map V.int) ∧ 0 ≤ k ∧ k ≤ 100 ∧ 0 < b ∧ b < 100000 ∧ 0 ≤ m ∧ m ≤ 100 ∧
  ∀ (ds : List Int) (p : Addr) (H' : Hp), Same H H' → H p = none → H' p = some (.lst (ds.map V.int)) → (ds.length : Int) = m → (∀ d ∈ ds, 0 ≤ d ∧ d < b) → Q (.ref p) H'
section
variable {P : Program} {w : World} {K : PySem.W.Frag} {mg : Str → Option Value} {base : Heap}
theorem scCell : FnScope ["_law_script", "_law_k"] ["_law_script", "_law_k"] (defScope sCell) := ⟨rfl, rfl, rfl, by decide +kernel, rfl, by decide +kernel, by decide +kernel⟩
theorem ok_cell {f : Addr} {fd : FuncData} (F : Fun K "_law_cell_at" "_law_cell_at" sCell f fd) (T : Blt mg) : FnOk P w K mg base CX0 1 f fd ["_law_script", "_law_k"] (spCell K) := by
  refine F.ok scCell (fun vs H Q E h => ?_) (fun cdv A outer s H vs Q E hr h => ?_)
  · obtain ⟨a, ns, k, rfl, _⟩ := h
    rfl
  · obtain ⟨a, ns, k, rfl, hS, h0, q⟩ := h
    refine ⟨_, pss_cons (ps_if (pt_cmpR op_lt (pv 1) (pe_callB call_len_seq (by rfl) T.len PySem.boot_len (pa_cons (pv 0) pa_nil)) (nomark _)) (pss_one (ps_ret (pe_ix ix_list (pv 0) (pv 1) (fun _ _ => rfl)))) pss_nil)
      (pss_one (ps_ret pe_int)), ?_⟩
    refine ⟨_, rfl, _, rfl, a, _, rfl, .inl hS, _, _, rfl, rfl, _, rfl, ?_⟩
    refine ite2 (fun h => ?_) (fun _ => q 0)
    have h := of_decide_eq_true h
    rw [List.length_map] at h
    have hk : k.toNat < ns.length := by omega
    exact ⟨_, rfl, _, rfl, a, _, k, _, rfl, rfl, hS, atI_map h0 (List.getElem?_eq_getElem hk), q _⟩
theorem scNext : FnScope ["_law_x"] ["_law_x"] (defScope sNext) := ⟨rfl, rfl, rfl, by decide +kernel, rfl, by decide +kernel, by decide +kernel⟩
theorem ok_next {f : Addr} {fd : FuncData} (F : Fun K "_law_next" "_law_next" sNext f fd) : FnOk P w K mg base CX0 1 f fd ["_law_x"] spNext := by
  refine F.ok scNext (fun vs H Q E h => ?_) (fun cdv A outer s H vs Q E hr h => ?_)
  · obtain ⟨x, rfl, _⟩ := h
    rfl
  · obtain ⟨x, rfl, h0, h1, q⟩ := h
    refine ⟨_, pss_one (ps_ret (pe_op op_mod (pe_op op_add (pe_op op_add (pe_op op_mul (pv 0) (pv 0)) (pe_op op_mul pe_int (pv 0))) pe_int) pe_int)), ?_⟩
    refine ⟨_, rfl, _, rfl, _, _, rfl, rfl, .inl ⟨by omega, by omega⟩, _, rfl, _, _, rfl, rfl, .inl ⟨by decide, by decide⟩, _, _, rfl, rfl, _, _, rfl, rfl, _, _, rfl, rfl, (by dsimp only; decide), ?_⟩
    exact q _ (Int.emod_nonneg _ (by decide)) (by have := Int.emod_lt_of_pos (x * x + 48271 * x + 11) (show (0 : Int) < 2147483647 by decide); omega)
theorem scOther : FnScope ["_law_x"] ["_law_x"] (defScope sOther) := ⟨rfl, rfl, rfl, by decide +kernel, rfl, by decide +kernel, by decide +kernel⟩
theorem ok_other {f : Addr} {fd : FuncData} (F : Fun K "_law_other" "_law_other" sOther f fd) : FnOk P w K mg base CX0 1 f fd ["_law_x"] spNext := by
  refine F.ok scOther (fun vs H Q E h => ?_) (fun cdv A outer s H vs Q E hr h => ?_)
  · obtain ⟨x, rfl, _⟩ := h
    rfl
  · obtain ⟨x, rfl, h0, h1, q⟩ := h
    refine ⟨_, pss_one (ps_ret (pe_op op_mod (pe_op op_add (pe_op op_add (pe_op op_mul (pv 0) (pv 0)) (pe_op op_mul pe_int (pv 0))) pe_int) pe_int)), ?_⟩
    refine ⟨_, rfl, _, rfl, _, _, rfl, rfl, .inl ⟨by omega, by omega⟩, _, rfl, _, _, rfl, rfl, .inl ⟨by decide, by decide⟩, _, _, rfl, rfl, _, _, rfl, rfl, _, _, rfl, rfl, (by dsimp only; decide), ?_⟩
    exact q _ (Int.emod_nonneg _ (by decide)) (by have := Int.emod_lt_of_pos (x * x + 69621 * x + 5) (show (0 : Int) < 2147483629 by decide); omega)
theorem scNumber : FnScope ["_law_script", "_law_k", "_law_cell"] ["_law_script", "_law_k"] (defScope sNumber) := ⟨rfl, rfl, rfl, by decide +kernel, rfl, by decide +kernel, by decide +kernel⟩
theorem ok_number {f : Addr} {fd : FuncData} (F : Fun K "_law_number" "_law_number" sNumber f fd) (Fc : FnAt P w K mg base 1 "_law_cell_at" ["_law_script", "_law_k"] (spCell K)) (Fn : FnAt P w K mg base 1 "_law_next" ["_law_x"] spNext) (Fo : FnAt P w K mg base 1 "_law_other" ["_law_x"] spNext) :
    FnOk P w K mg base CX0 2 f fd ["_law_script", "_law_k"] (spNumber K) := by
  refine F.ok scNumber (fun vs H Q E h => ?_) (fun cdv A outer s H vs Q E hr h => ?_)
  · obtain ⟨a, ns, k, rfl, _⟩ := h
    rfl
  · obtain ⟨a, ns, k, rfl, hS, h0, h1, q⟩ := h
    refine ⟨_, pss_cons (ps_set (i := 2) scNumber.nd rfl (Or.inl rfl) (pe_callF Fc hr (pa_cons (pv 0) (pa_cons (pv 1) pa_nil))))
      (pss_cons (ps_if (pt_cmpR op_eq (pe_op op_mod (pv 2) pe_int) pe_int (nomark _)) (pss_one (ps_ret (pe_op op_fdiv (pv 2) pe_int))) pss_nil)
      (pss_one (ps_ret (pe_callF Fo hr (pa_cons (pe_callF Fn hr (pa_cons (pe_op op_mod (pe_op op_add (pv 2) (pe_op op_mul (pe_op op_mul pe_int (pv 1)) (pv 1))) pe_int) pa_nil)) pa_nil))))), ?_⟩
    refine ⟨_, rfl, _, rfl, a, ns, k, rfl, hS, h0, fun z => ?_⟩
    refine ⟨_, rfl, _, _, rfl, rfl, (by dsimp only; decide), rfl, _, rfl, ?_⟩
    refine ite2 (fun _ => ?_) (fun _ => ?_)
    · exact ⟨_, rfl, _, _, rfl, rfl, ⟨by decide, by decide⟩, q _⟩
    · refine ⟨_, rfl, _, rfl, _, _, rfl, rfl, .inl ⟨by decide, by decide⟩, _, rfl, _, _, rfl, rfl, .inr ⟨by omega, by omega⟩, _, _, rfl, rfl, _, _, rfl, rfl, (by dsimp only; decide), ?_⟩
      refine ⟨_, rfl, Int.emod_nonneg _ (by decide), ?_, fun y h2 h3 => ?_⟩
      · have := Int.emod_lt_of_pos (z + 69621 * k * k) (show (0 : Int) < 2147483647 by decide)
        omega
      · exact ⟨_, rfl, h2, by omega, fun u _ _ => q u⟩
theorem scDigits : FnScope ["_law_script", "_law_k", "_law_base", "_law_many", "_law_left", "_law_found", "_law_x", "_law_j"] ["_law_script", "_law_k", "_law_base", "_law_many"] (defScope sDigits) := ⟨rfl, rfl, rfl, by decide +kernel, rfl, by decide +kernel, by decide +kernel⟩
theorem ok_digits {f : Addr} {fd : FuncData} (F : Fun K "_law_digits" "_law_digits" sDigits f fd) (T : Blt mg) (Fc : FnAt P w K mg base 1 "_law_cell_at" ["_law_script", "_law_k"] (spCell K)) (Fn : FnAt P w K mg base 1 "_law_next" ["_law_x"] spNext) (Fo : FnAt P w K mg base 1 "_law_other" ["_law_x"] spNext)
    (Fm : FnAt P w K mg base 2 "_law_number" ["_law_script", "_law_k"] (spNumber K)) : FnOk P w K mg base CX0 3 f fd ["_law_script", "_law_k", "_law_base", "_law_many"] (spDigits K) := by
  refine F.ok scDigits (fun vs H Q E h => ?_) (fun cdv A outer s H vs Q E hr h => ?_)
  · obtain ⟨a, ns, k, b, m, rfl, _⟩ := h
    rfl
  · obtain ⟨a, ns, k, b, m, rfl, hS, h0, h1, hb0, hb1, hm0, hm1, q⟩ := h
    have hr1 : Room 1 _ := hr.mono (by decide)
    have nd := scDigits.nd
    refine ⟨_, pss_cons (ps_set (i := 4) nd rfl (Or.inl rfl) (pe_callF Fm hr (pa_cons (pv 0) (pa_cons (pv 1) pa_nil))))
      (pss_cons (ps_set (i := 5) nd rfl (Or.inl rfl) (pe_lst pa_nil))
      (pss_cons (ps_set (i := 6) nd rfl (Or.inl rfl) (pe_op op_mod (pe_op op_add (pv 4) (pe_op op_mul pe_int (pv 1))) pe_int))
      (pss_cons (ps_if (pt_cmpR op_eq (pe_op op_mod (pe_callF Fc hr1 (pa_cons (pv 0) (pa_cons (pv 1) pa_nil))) pe_int) pe_int (nomark _)) (pss_one (ps_set (i := 4) nd rfl (Or.inl rfl) pe_int)) pss_nil)
      (pss_cons (ps_for PassesOwn.never rfl (pi_range1 rfl T.range (pa_cons (pv 3) pa_nil)) (pg_name (i := 7) nd rfl (Or.inl rfl))
        (pss_cons (ps_set (i := 6) nd rfl (Or.inl rfl) (pe_callF Fo hr1 (pa_cons (pe_callF Fn hr1 (pa_cons (pe_op op_add (pv 6) (pv 7)) pa_nil)) pa_nil)))
        (pss_cons (ps_expr (pe_bm PySem.F.plainAttrs_list PySem.F.slot_list_append PySem.F.type_list_append mt_append (pv 5) (pa_cons (pe_op op_mod (pe_ix ix_list (pe_lst (pa_cons (pv 6) (pa_cons (pv 4) pa_nil))) (pe_callTy call_int1 (by rfl) T.int bInt (pa_cons (pe_cmpR op_gt (pv 4) pe_int (nomark _)) pa_nil)) (fun _ _ => rfl)) (pv 2)) pa_nil)))
        (pss_one (ps_set (i := 4) nd rfl (Or.inl rfl) (pe_op op_fdiv (pv 4) (pv 2)))))))
      (pss_one (ps_ret (pv 5))))))), ?_⟩
    refine ⟨_, rfl, _, rfl, a, ns, k, rfl, hS, h0, h1, fun z => ?_⟩
    refine ⟨Nat.zero_le _, fun p hp => ?_⟩
    refine ⟨_, rfl, _, rfl, _, _, rfl, rfl, .inl ⟨by decide, by decide⟩, _, _, rfl, rfl, _, _, rfl, rfl, (by dsimp only; decide), ?_⟩
    have s1 : Same H (upd H p (.lst [])) := .new hp
    refine ⟨_, rfl, _, rfl, a, ns, k, rfl, s1.seq hS, h0, fun z2 => ?_⟩
    refine ⟨_, _, rfl, rfl, (by dsimp only; decide), rfl, _, rfl, ?_⟩
    have hx0 := Int.emod_nonneg (z + 7919 * k) (show (2147483647 : Int) ≠ 0 by decide)
    have hx1 := Int.emod_lt_of_pos (z + 7919 * k) (show (0 : Int) < 2147483647 by decide)
    refine ite2 (fun _ => ?_) (fun _ => ?_)
    all_goals
      refine ⟨_, rfl, m, rfl, by omega, by omega, for_range (lo := 0) (n := m.toNat) (fun i σ H2 => ∃ (left x : Int) (jv : Option V) (ds : List Int), σ = [some (V.ref a), some (V.int k), some (V.int b), some (V.int m), some (V.int left), some (V.ref p), some (V.int x), jv] ∧ 0 ≤ x ∧ x < 2147483648 ∧ ds.length = i ∧ (∀ d ∈ ds, 0 ≤ d ∧ d < b) ∧ H2 p = some (.lst (ds.map V.int)) ∧ Same H H2)
        ⟨_, _, none, [], rfl, hx0, by omega, rfl, fun d hd => (by simp at hd), upd_same, s1⟩ ?_ ?_⟩
      · rintro i σ H2 hi ⟨left, x, jv, ds, rfl, h2, h3, hl, hd, hH, sm⟩
        refine ⟨_, rfl, _, rfl, _, _, rfl, rfl, _, rfl, by omega, by omega, fun y h4 h5 => ?_⟩
        refine ⟨_, rfl, h4, by omega, fun x' h6 h7 => ?_⟩
        refine ⟨_, rfl, .inl ⟨rfl, _, SqL.of hH⟩, _, rfl, _, rfl, (by show 2 ≤ sizeLine; decide), fun l hl2 => ?_⟩
        have npl : p ≠ l := ne_of_none hH hl2
        refine ⟨_, rfl, _, _, rfl, rfl, .inr ⟨_, rfl, ?_⟩⟩
        obtain ⟨z3, hz3⟩ := at2 x' left (decide (0 < left))
        refine ⟨l, _, _, _, rfl, rfl, SqL.of upd_same, hz3, _, rfl, _, _, rfl, rfl, hb0, ?_⟩
        refine ⟨p, _, _, rfl, rfl, (by rw [upd_ne npl]; exact hH), (by rw [List.length_map]; exact small1000 (by omega)), ?_⟩
        refine ⟨_, rfl, _, rfl, _, _, rfl, rfl, ⟨hb0, by omega⟩, ?_⟩
        refine ⟨_, x', _, ds ++ [z3 % b], rfl, h6, h7, by rw [List.length_append, hl]; rfl, ?_, by rw [upd_same, List.map_append]; rfl, ?_⟩
        · intro d hd'
          rcases List.mem_append.mp hd' with q1 | q1
          · exact hd d q1
          · rw [List.mem_singleton.mp q1]
            exact ⟨Int.emod_nonneg _ (by omega), Int.emod_lt_of_pos _ hb0⟩
        · exact fun c o e => by
            rw [upd_ne (ne_of_none e hp), upd_ne (ne_of_none (sm c o e) hl2)]
            exact sm c o e
      · rintro σ H2 ⟨left, x, jv, ds, rfl, h2, h3, hl, hd, hH, sm⟩
        exact ⟨_, rfl, q ds p H2 sm hp hH (by omega) hd⟩
end
end K05

namespace L2
open PySem PySem.Spec PyProof.Rows
theorem ix_listC {X : Cx} {scope : Scope} {cl : List (Str × Addr)} {N2 ys : List Str} {C : Addr} {s : Shared} {H : Hp} {fp : List Addr} : IxR (cxC X scope cl N2 ys C s H fp) (rIxL X.K) := ix_list
end L2
namespace K05
open PySem L2
abbrev sNames : Stmt := top 9
def spNames (K : PySem.W.Frag) : Sp := fun vs H Q _ => ∃ (a : Addr) (ns : List Int) (k m : Int), vs = [.ref a, .int k, .int m] ∧ SqL K H a (ns.map V.int) ∧ 0 ≤ k ∧ k ≤ 100 ∧ 1 ≤ m ∧ m ≤ 8 ∧
  ∀ (ys : List Str) (p : Addr) (H' : Hp), Same H H' → H p = none → H' p = some (.lst (ys.map V.str)) → (ys.length : Int) = m → (∀ (i j : Nat) (y : Str), ys[i]? = some y → ys[j]? = some y → i = j) → Q (.ref p) H'
abbrev nNames : List Str := ["_law_script", "_law_k", "_law_many", "_law_letters", "_law_row", "_law_size", "_law_base", "_law_at"]
theorem abc_len : (Str.ofString "abcdefghijklmnopqrstuvwxyz").cps.toList.length = 26 := by decide +kernel
theorem abc_all : ∀ n : _root_.Fin 26, (Str.ofString "abcdefghijklmnopqrstuvwxyz").cps.toList[n.val]? = some (97 + n.val) := by decide +kernel
theorem abc_at {i : Int} (h0 : 0 ≤ i) (h1 : i < 26) : atI (Str.ofString "abcdefghijklmnopqrstuvwxyz").cps.toList i = some (97 + i.toNat) := by
  obtain ⟨n, rfl⟩ := Int.eq_ofNat_of_zero_le h0
  exact atI_nat (abc_all ⟨n, by omega⟩)
/-- slices from the first sign on -/
theorem idx0 {n len : Nat} (h : n ≤ len) : Builtin.Str.strSliceIndices none (some (n : Int)) 1 len = (List.range n).map fun k => 0 + k := by
  have e := StrLaws.strSliceIndices_plain (a := 0) (b := n) (len := len) (Nat.zero_le _) h
  rw [Nat.sub_zero] at e
  rw [← e]
  have z : max (0 : Int) (min 0 (len : Int)) = 0 := by omega
  unfold Builtin.Str.strSliceIndices sliceRange
  simp [z]
theorem slice0 {x : Str} {n : Nat} (h : n ≤ x.length) : (Txt.slice x none (some (n : Int))).cps.toList = x.cps.toList.take n := by
  have hx : x.cps.toList.length = x.length := by simp [Str.length]
  unfold Txt.slice
  have e : (Builtin.Str.strSliceIndices none (some (n : Int)) 1 x.length).length = n := by rw [idx0 h, List.length_map, List.length_range]
  by_cases c : n = x.length
  · rw [if_pos (by rw [e, c]; simp), c, ← hx, List.take_length]
  · rw [if_neg (by rw [e]; simp [c])]
    have e2 : Builtin.Str.strSliceIndices none (some (n : Int)) 1 x.length = Builtin.Str.strSliceIndices (some ((0 : Nat) : Int)) (some (n : Int)) 1 x.length := by
      rw [idx0 h, StrLaws.strSliceIndices_plain (Nat.zero_le _) h, Nat.sub_zero]
    rw [e2]
    show ((Builtin.Str.strSliceIndices (some ((0 : Nat) : Int)) (some (n : Int)) 1 x.length).filterMap (x.cps[·]?)).toArray.toList = _
    rw [StrLaws.sliced_plain x (Nat.zero_le _) h]
    simp
theorem slice0_len {x : Str} {n : Nat} (h : n ≤ x.length) : (Txt.slice x none (some (n : Int))).length = n := by
  have hx : x.cps.toList.length = x.length := by simp [Str.length]
  have e := congrArg List.length (slice0 h)
  rw [List.length_take, hx, Nat.min_eq_left h] at e
  simpa [Str.length] using e
theorem join_len : ∀ zs : List Str, (Txt.join (Str.ofString "") zs).length = (zs.map (·.length)).sum := by
  intro zs
  show (Builtin.Str.glued (Str.ofString "") zs).length = _
  rw [StrLaws.glued_eq_join]
  induction zs with
  | nil => rfl
  | cons z r ih =>
    cases r with
    | nil => simp [Str.join]
    | cons y r' =>
      show (z ++ Str.ofString "" ++ Str.join (Str.ofString "") (y :: r')).length = _
      rw [Str.length_append, Str.length_append, ih]
      have e0 : (Str.ofString "").length = 0 := rfl
      rw [e0]
      simp only [List.map_cons, List.sum_cons]
      omega
theorem sum_eq {zs : List Str} (h : ∀ z ∈ zs, z.length = 1) : (zs.map (·.length)).sum = zs.length := by
  induction zs with
  | nil => rfl
  | cons z r ih =>
    simp only [List.map_cons, List.sum_cons, List.length_cons]
    have := h z List.mem_cons_self
    have := ih fun y hy => h y (List.mem_cons_of_mem _ hy)
    omega
theorem cut_len {xs : List V} {s : Int} (hl : xs.length = 10) (h0 : 0 ≤ s) (h1 : s ≤ 8) : (cutV xs (some 2) (some (2 + s))).length = s.toNat := by
  obtain ⟨n, rfl⟩ := Int.eq_ofNat_of_zero_le h0
  unfold cutV
  have e1 : HT.sIx xs.length 0 (some 2) = 2 := by rw [show HT.sIx xs.length 0 (some 2) = min 2 xs.length from HT.sIx_nat _ _ 2]; omega
  have e2 : HT.sIx xs.length xs.length (some (2 + (n : Int))) = 2 + n := by
    have := HT.sIx_nat xs.length xs.length (2 + n)
    rw [show (2 + (n : Int)) = ((2 + n : Nat) : Int) by omega, this]
    omega
  rw [e1, e2, List.length_take, List.length_drop]
  omega
theorem mul_first (c : Nat) {n : Int} (h : 1 ≤ n) : (Txt.mul ⟨#[c]⟩ n).cps.toList.getD 0 0 = c := by
  unfold Txt.mul
  rw [if_neg (by omega)]
  split
  · rfl
  · obtain ⟨k, rfl⟩ : ∃ k : Nat, n = ((k + 1 : Nat) : Int) := ⟨(n - 1).toNat, by omega⟩
    rw [Int.toNat_natCast, List.replicate_succ, List.foldl_cons]
    have key : ∀ (l : List (Array Nat)) (a : Array Nat), a.toList.getD 0 0 = c → 0 < a.toList.length → (l.foldl (· ++ ·) a).toList.getD 0 0 = c := by
      intro l
      induction l with
      | nil => intro a h _; exact h
      | cons b r ih =>
        intro a ha hl
        rw [List.foldl_cons]
        refine ih _ ?_ ?_
        · rw [Array.toList_append, List.getD_eq_getElem?_getD, List.getElem?_append_left hl, ← List.getD_eq_getElem?_getD]
          exact ha
        · rw [Array.toList_append, List.length_append]; omega
    exact key _ _ (by simp) (by simp)
theorem abc_le : (Str.ofString "abcdefghijklmnopqrstuvwxyz").length ≤ sizeLine := by
  have : (Str.ofString "abcdefghijklmnopqrstuvwxyz").length = 26 := abc_len
  rw [this, sizeLine_eq]; decide
/-- texts of a list of values that are all texts -/
theorem strs_of {ys : List V} {L : Nat} (h : ∀ (i : Nat) (y : V), ys[i]? = some y → ∃ x : Str, y = V.str x ∧ x.length ≤ L) : ∃ zs : List Str, ys = zs.map V.str ∧ zs.length = ys.length ∧ ∀ z ∈ zs, z.length ≤ L := by
  induction ys with
  | nil => exact ⟨[], rfl, rfl, fun z hz => by simp at hz⟩
  | cons y r ih =>
    obtain ⟨x, rfl, hx⟩ := h 0 y rfl
    obtain ⟨zs, e, el, hz⟩ := ih fun i z e => h (i + 1) z (by simpa using e)
    refine ⟨x :: zs, by rw [e]; rfl, by simp [el], fun z hz' => ?_⟩
    rcases List.mem_cons.mp hz' with rfl | q
    · exact hx
    · exact hz z q
theorem sum_le {zs : List Str} {L : Nat} (h : ∀ z ∈ zs, z.length ≤ L) : (zs.map (·.length)).sum ≤ zs.length * L := by
  induction zs with
  | nil => simp
  | cons z r ih =>
    simp only [List.map_cons, List.sum_cons, List.length_cons, Nat.succ_mul]
    have := h z List.mem_cons_self
    have := ih fun y hy => h y (List.mem_cons_of_mem _ hy)
    omega
theorem ints_at {ds : List Int} {i : Nat} (h : i < ds.length) : atI (ds.map V.int) (i : Int) = some (.int (ds.getD i 0)) := by
  refine atI_map (f := V.int) (by omega) ?_
  rw [Int.toNat_natCast, List.getElem?_eq_getElem h, List.getD_eq_getElem?_getD, List.getElem?_eq_getElem h]; rfl
theorem mem_getD {ds : List Int} {i : Nat} (h : i < ds.length) : ds.getD i 0 ∈ ds := by
  rw [List.getD_eq_getElem?_getD, List.getElem?_eq_getElem h]
  exact List.getElem_mem h
theorem strsP {ys : List V} {R : Nat → Str → Prop} (h : ∀ (i : Nat) (y : V), ys[i]? = some y → ∃ x : Str, y = V.str x ∧ R i x) : ∃ zs : List Str, ys = zs.map V.str ∧ ∀ (i : Nat) (z : Str), zs[i]? = some z → R i z := by
  induction ys generalizing R with
  | nil => exact ⟨[], rfl, fun i z hz => by simp at hz⟩
  | cons y r ih =>
    obtain ⟨x, rfl, hx⟩ := h 0 y rfl
    obtain ⟨zs, e, hz⟩ := ih (R := fun i => R (i + 1)) fun i z e => h (i + 1) z (by simpa using e)
    refine ⟨x :: zs, by rw [e]; rfl, fun i z hz' => ?_⟩
    cases i with
    | zero => simp at hz'; subst hz'; exact hx
    | succ i => exact hz i z (by simpa using hz')
theorem mid {a b : Str} {c n : Nat} (h : a.length = n) : ((a ++ ⟨#[c]⟩) ++ b).cps.toList.getD n 0 = c := by
  have hx : a.cps.toList.length = n := by rw [← h]; simp [Str.length]
  rw [Str.cps_append, Str.cps_append, Array.toList_append, Array.toList_append, List.getD_eq_getElem?_getD, List.append_assoc, List.getElem?_append_right (by omega), hx, Nat.sub_self]
  rfl
section
variable {P : Program} {w : World} {K : PySem.W.Frag} {mg : Str → Option Value} {base : Heap}
theorem scNames : FnScope nNames ["_law_script", "_law_k", "_law_many"] (defScope sNames) := ⟨rfl, rfl, rfl, by decide +kernel, rfl, by decide +kernel, by decide +kernel⟩
theorem ndDigit : (nNames ++ (["_law_digit"] : List Str)).Nodup := by decide +kernel
theorem ndJ : (nNames ++ (["_law_j"] : List Str)).Nodup := by decide +kernel
theorem ok_names {f : Addr} {fd : FuncData} (F : Fun K "_law_names" "_law_names" sNames f fd) (T : Blt mg) (Fd : FnAt P w K mg base 3 "_law_digits" ["_law_script", "_law_k", "_law_base", "_law_many"] (spDigits K)) :
    FnOk P w K mg base CX0 4 f fd ["_law_script", "_law_k", "_law_many"] (spNames K) := by
  refine F.ok scNames (fun vs H Q E h => ?_) (fun cdv A outer s H vs Q E hr h => ?_)
  · obtain ⟨a, ns, k, m, rfl, _⟩ := h
    rfl
  · obtain ⟨a, ns, k, m, rfl, hS, h0, h1, hm0, hm1, q⟩ := h
    have nd := scNames.nd
    refine ⟨_, pss_cons (ps_set (i := 3) nd rfl (Or.inr rfl) pe_str)
      (pss_cons (ps_set (i := 4) nd rfl (Or.inr rfl) (pe_callF Fd hr (pa_cons (pv 0) (pa_cons (pv 1) (pa_cons pe_int (pa_cons pe_int pa_nil))))))
      (pss_cons (ps_set (i := 5) nd rfl (Or.inl rfl) (pe_op op_add pe_int (pe_op op_mod (pe_ix ix_list (pv 4) pe_int (fun _ _ => rfl)) pe_int)))
      (pss_cons (ps_set (i := 6) nd rfl (Or.inr rfl) (pe_bm PySem.F.plainAttrs_str PySem.F.slot_str_join PySem.F.type_str_join mt_join pe_str (pa_cons
        (pe_lc nNames nNames ["_law_digit"] (defScope sNames) rfl rfl rfl (by decide +kernel) rfl rfl (by decide +kernel) (by decide +kernel) (by decide +kernel) (by decide +kernel)
          (pi_list (pe_slice sl_list (pv 4) (po_some pe_int) (po_some (pe_op op_add pe_int (pv 5))))) (fun _ _ _ _ _ => pg_name (i := 8) ndDigit rfl (Or.inl rfl)) (fun _ _ _ _ _ => pts_nil)
          (fun _ _ _ _ _ => pe_ix ix_str (pv 3) (pe_op op_mod (pv 8) pe_int) (fun _ _ => rfl))) pa_nil)))
      (pss_cons (ps_if (pw_and (pt_cmpR op_eq (pe_op op_mod (pe_ix ix_list (pv 4) pe_int (fun _ _ => rfl)) pe_int) pe_int (nomark _)) (pw_and1 (pt_cmpR op_lt (pv 2) pe_int (nomark _)))).pt
        (pss_cons (ps_set (i := 6) nd rfl (Or.inr rfl) (pe_bm PySem.F.plainAttrs_str PySem.F.slot_str_join PySem.F.type_str_join mt_join pe_str (pa_cons
          (pe_lc nNames nNames ["_law_digit"] (defScope sNames) rfl rfl rfl (by decide +kernel) rfl rfl (by decide +kernel) (by decide +kernel) (by decide +kernel) (by decide +kernel)
            (pi_list (pe_slice sl_list (pv 4) (po_some pe_int) (po_some pe_int))) (fun _ _ _ _ _ => pg_name (i := 8) ndDigit rfl (Or.inl rfl)) (fun _ _ _ _ _ => pts_nil)
            (fun _ _ _ _ _ => pe_ix ix_str (pv 3) (pe_op op_mod (pv 8) pe_int) (fun _ _ => rfl))) pa_nil)))
        (pss_one (ps_ret (pe_lc nNames nNames ["_law_j"] (defScope sNames) rfl rfl rfl (by decide +kernel) rfl rfl (by decide +kernel) (by decide +kernel) (by decide +kernel) (by decide +kernel)
          (pi_range1 (by rfl) T.range (pa_cons (pv 2) pa_nil)) (fun _ _ _ _ _ => pg_name (i := 8) ndJ rfl (Or.inl rfl)) (fun _ _ _ _ _ => pts_nil)
          (fun _ _ _ _ _ => pe_slice sl_str (pv 6) po_none (po_some (pe_op op_add (pv 8) pe_int))))))) pss_nil)
      (pss_cons (ps_if (pt_cmpR op_eq (pe_op op_mod (pe_ix ix_list (pv 4) pe_int (fun _ _ => rfl)) pe_int) pe_int (nomark _))
        (pss_one (ps_ret (pe_lc nNames nNames ["_law_j"] (defScope sNames) rfl rfl rfl (by decide +kernel) rfl rfl (by decide +kernel) (by decide +kernel) (by decide +kernel) (by decide +kernel)
          (pi_range1 (by rfl) T.range (pa_cons (pv 2) pa_nil)) (fun _ _ _ _ _ => pg_name (i := 8) ndJ rfl (Or.inl rfl)) (fun _ _ _ _ _ => pts_nil)
          (fun _ _ _ _ _ => pe_op op_mul_str (pe_ix ix_str (pv 3) (pe_op op_mod (pe_op op_add (pe_ix ix_listC (pv 4) pe_int (fun _ _ => rfl)) (pe_op op_mul pe_int (pv 8))) pe_int) (fun _ _ => rfl))
            (pe_op op_add pe_int (pe_op op_mod (pe_op op_add (pe_ix ix_listC (pv 4) (pe_op op_add pe_int (pe_op op_mod (pv 8) pe_int)) (fun _ _ => rfl)) (pv 8)) pe_int)))))) pss_nil)
      (pss_cons (ps_set (i := 7) nd rfl (Or.inr rfl) (pe_op op_mod (pe_op op_fdiv (pe_ix ix_list (pv 4) pe_int (fun _ _ => rfl)) pe_int) (pv 5)))
      (pss_one (ps_ret (pe_lc nNames nNames ["_law_j"] (defScope sNames) rfl rfl rfl (by decide +kernel) rfl rfl (by decide +kernel) (by decide +kernel) (by decide +kernel) (by decide +kernel)
          (pi_range1 (by rfl) T.range (pa_cons (pv 2) pa_nil)) (fun _ _ _ _ _ => pg_name (i := 8) ndJ rfl (Or.inl rfl)) (fun _ _ _ _ _ => pts_nil)
          (fun _ _ _ _ _ => pe_op op_add_str (pe_op op_add_str (pe_slice sl_str (pv 6) po_none (po_some (pv 7)))
            (pe_ix ix_str (pv 3) (pe_op op_mod (pe_op op_add (pe_ix ix_listC (pv 4) (pe_op op_add pe_int (pv 7)) (fun _ _ => rfl)) (pv 8)) pe_int) (fun _ _ => rfl)))
            (pe_slice sl_str (pv 6) (po_some (pe_op op_add (pv 7) pe_int)) po_none))))))))))), ?_⟩
    have cut_int : ∀ (ds : List Int) (lo hi : Option Int) (i : Nat) (x : V), (cutV (ds.map V.int) lo hi)[i]? = some x → ∃ d : Int, x = .int d := fun ds lo hi i x e => by
      have hm : x ∈ cutV (ds.map V.int) lo hi := List.mem_of_getElem? e
      have hm2 : x ∈ ds.map V.int := List.mem_of_mem_drop (List.mem_of_mem_take hm)
      obtain ⟨d, _, rfl⟩ := List.mem_map.mp hm2
      exact ⟨d, rfl⟩
    refine ⟨_, rfl, _, rfl, a, ns, k, 208, 10, rfl, hS, h0, h1, by decide, by decide, by decide, by decide, fun ds p H1 sm1 hp hH hl hd => ?_⟩
    have hl : ds.length = 10 := by omega
    have dA : ∀ i : Nat, i < 10 → 0 ≤ ds.getD i 0 ∧ ds.getD i 0 < 208 := fun i hi => hd _ (mem_getD (by omega))
    have rA : ∀ i : Nat, i < 10 → atI (ds.map V.int) (i : Int) = some (.int (ds.getD i 0)) := fun i hi => ints_at (by omega)
    refine ⟨_, rfl, p, _, _, _, rfl, rfl, SqL.of hH, rA 0 (by decide), _, _, rfl, rfl, (by dsimp only; decide), _, _, rfl, rfl, ?_⟩
    have one : ∀ (d : Int), atI (Str.ofString "abcdefghijklmnopqrstuvwxyz").cps.toList (d % 26) = some (97 + (d % 26).toNat) := fun d => abc_at (Int.emod_nonneg _ (by decide)) (Int.emod_lt_of_pos _ (by decide))
    have hz0 := Int.emod_nonneg (ds.getD 0 0) (show (8 : Int) ≠ 0 by decide)
    have hz8 := Int.emod_lt_of_pos (ds.getD 0 0) (show (0 : Int) < 8 by decide)
    have hs16 : sizeLine = 16777216 := sizeLine_eq
    have e00 : (Str.ofString "").length = 0 := rfl
    have hml : (ds.map V.int).length = 10 := by rw [List.length_map]; exact hl
    refine ⟨rfl, _, rfl, _, rfl, _, rfl, _, _, rfl, rfl, _, rfl, p, _, rfl, SqL.of hH, fun p2 hp2 => ?_⟩
    refine ⟨p2, rfl, ⟨_, SqL.of upd_same⟩, ?_⟩
    have cl1 := cut_len (s := 1 + ds.getD 0 0 % 8) hml (by omega) (by omega)
    refine lcL0 (xs := cutV (ds.map V.int) (some 2) (some (2 + (1 + ds.getD 0 0 % 8)))) (fun _ y => ∃ x : Str, y = V.str x ∧ x.length = 1) ?_ ?_ ?_ ?_ ?_
    · rfl
    · exact SqL.of upd_same
    · rw [cl1]; omega
    · intro D i x ys post hx hD hpost
      obtain ⟨d, rfl⟩ := cut_int _ _ _ _ _ hx
      exact ⟨_, rfl, _, rfl, _, _, rfl, rfl, (by dsimp only; decide), _, _, _, rfl, rfl, abc_le, one d, hpost _ ⟨_, rfl, rfl⟩⟩
    intro D ys hD hyl hR
    obtain ⟨zs, rfl, hzz⟩ := strsP (R := fun _ x => x.length = 1) hR
    have hz1 : ∀ z ∈ zs, z.length = 1 := fun z hz => by
      obtain ⟨i, hi, rfl⟩ := List.mem_iff_getElem.mp hz
      exact hzz i _ (List.getElem?_eq_getElem hi)
    have hzl : zs.length = (1 + ds.getD 0 0 % 8).toNat := by rw [List.length_map] at hyl; omega
    have hsum := sum_eq hz1
    refine ⟨_, D, zs, rfl, rfl, SqL.of upd_same, (by rw [e00]; omega), ?_⟩
    have hb : (Txt.join (Str.ofString "") zs).length = (1 + ds.getD 0 0 % 8).toNat := by rw [join_len]; omega
    generalize Txt.join (Str.ofString "") zs = bs at hb ⊢
    have s2 : Same H1 (upd (upd H1 p2 (HO.lst (cutV (ds.map V.int) (some 2) (some (2 + (1 + ds.getD 0 0 % 8)))))) D (HO.lst (zs.map V.str))) := (Same.new hp2).trans (Same.new hD)
    generalize upd (upd H1 p2 (HO.lst (cutV (ds.map V.int) (some 2) (some (2 + (1 + ds.getD 0 0 % 8)))))) D (HO.lst (zs.map V.str)) = H2 at s2 ⊢
    have hH2 := s2 _ _ hH
    have sm2 : Same H H2 := sm1.trans s2
    -- the end: a comprehension over range(m) that gives texts, each with a mark of its own
    have fin : ∀ (H3 : Hp) (D' : Addr) (vs : List V) (fm : Str → Nat) (gm : Nat → Nat), Same H H3 → H3 D' = none → vs.length = m.toNat → (∀ (i : Nat) (y : V), vs[i]? = some y → ∃ x : Str, y = V.str x ∧ fm x = gm i) → (∀ i j, i < 8 → j < 8 → gm i = gm j → i = j) → Q (.ref D') (upd H3 D' (.lst vs)) := fun H3 D' vs fm gm e hD' hvl hv hg => by
      obtain ⟨xs, rfl, hxx⟩ := strsP (R := fun i x => fm x = gm i) hv
      rw [List.length_map] at hvl
      refine q xs D' _ (e.trans (.new hD')) (e.none hD') upd_same (by omega) (fun i j y h1 h2 => ?_)
      have hi := (List.getElem?_eq_some_iff.mp h1).1
      have hj := (List.getElem?_eq_some_iff.mp h2).1
      exact hg i j (by omega) (by omega) ((hxx i y h1).symm.trans (hxx j y h2))
    refine ⟨_, rfl, p, _, _, _, rfl, rfl, SqL.of hH2, rA 1 (by decide), _, _, rfl, rfl, (by dsimp only; decide), rfl, _, rfl, ?_⟩
    refine ite2 (fun _ => ?_) (fun _ => ?_)
    · refine ⟨_, rfl, _, _, rfl, rfl, _, rfl, ?_⟩
      refine ite2 (fun _ => ?_) (fun z => absurd (decide_eq_true (by omega)) z)
      refine ⟨rfl, _, rfl, _, rfl, _, rfl, p, _, rfl, SqL.of hH2, fun p3 hp3 => ?_⟩
      refine ⟨p3, rfl, ⟨_, SqL.of upd_same⟩, ?_⟩
      have cl2 : (cutV (ds.map V.int) (some 2) (some 10)).length = 8 := cut_len (s := 8) hml (by decide) (by decide)
      refine lcL0 (xs := cutV (ds.map V.int) (some 2) (some 10)) (fun _ y => ∃ x : Str, y = V.str x ∧ x.length = 1) ?_ ?_ ?_ ?_ ?_
      · rfl
      · exact SqL.of upd_same
      · omega
      · intro D i x ys post hx hD hpost
        obtain ⟨d, rfl⟩ := cut_int _ _ _ _ _ hx
        exact ⟨_, rfl, _, rfl, _, _, rfl, rfl, (by dsimp only; decide), _, _, _, rfl, rfl, abc_le, one d, hpost _ ⟨_, rfl, rfl⟩⟩
      intro D2 ys2 hD2 hyl2 hR2
      obtain ⟨zs2, rfl, hzz2⟩ := strsP (R := fun _ x => x.length = 1) hR2
      have hz2 : ∀ z ∈ zs2, z.length = 1 := fun z hz => by
        obtain ⟨i, hi, rfl⟩ := List.mem_iff_getElem.mp hz
        exact hzz2 i _ (List.getElem?_eq_getElem hi)
      have hsum2 := sum_eq hz2
      have hzl2 : zs2.length = 8 := by rw [List.length_map] at hyl2; omega
      refine ⟨_, D2, zs2, rfl, rfl, SqL.of upd_same, (by rw [e00]; omega), ?_⟩
      have hb2 : (Txt.join (Str.ofString "") zs2).length = 8 := by rw [join_len]; omega
      refine ⟨_, rfl, m, rfl, by omega, by omega, ?_⟩
      refine lcR0 (fun i y => ∃ x : Str, y = V.str x ∧ x.length = i + 1) ?_ ?_ ?_ ?_
      · rfl
      · omega
      · intro D i ys post hi hD hpost
        have e1 : (0 + (i : Int) + 1) = ((i + 1 : Nat) : Int) := by omega
        exact ⟨_, rfl, _, rfl, _, _, rfl, rfl, _, rfl, _, rfl, by omega, hpost _ ⟨_, rfl, by rw [e1]; exact slice0_len (by omega)⟩⟩
      · intro D' vs hD' hvl hv
        exact fin _ D' vs (fun x => x.length) (fun i => i + 1) (sm2.trans ((Same.new hp3).trans (.new hD2))) hD' hvl hv (fun i j _ _ h => by omega)
    · refine iteF ?_
      refine ⟨_, rfl, p, _, _, _, rfl, rfl, SqL.of hH2, rA 1 (by decide), _, _, rfl, rfl, (by dsimp only; decide), rfl, _, rfl, ?_⟩
      refine ite2 (fun _ => ?_) (fun _ => ?_)
      · refine ⟨_, rfl, m, rfl, by omega, by omega, ?_⟩
        refine lcR0 (fun i y => ∃ x : Str, y = V.str x ∧ x.cps.toList.getD 0 0 = 97 + ((ds.getD 2 0 + 5 * (0 + (i : Int))) % 26).toNat) ?_ ?_ ?_ ?_
        · rfl
        · omega
        · intro D i ys post hi hD hpost
          have hH3 : (upd H2 D (.lst ys)) p = some (.lst (ds.map V.int)) := by rw [upd_ne (ne_of_none hH2 hD)]; exact hH2
          have hc := one (ds.getD 2 0 + 5 * (0 + (i : Int)))
          have e7 : (3 + (0 + (i : Int)) % 7) = ((3 + i % 7 : Nat) : Int) := by omega
          refine ⟨_, rfl, _, rfl, p, _, _, _, rfl, rfl, SqL.of hH3, rA 2 (by decide), _, rfl, _, _, rfl, rfl, .inl ⟨by decide, by decide⟩, _, _, rfl, rfl, _, _, rfl, rfl, (by dsimp only; decide), _, _, _, rfl, rfl, abc_le, hc, ?_⟩
          refine ⟨_, rfl, _, rfl, _, _, rfl, rfl, (by dsimp only; decide), _, _, rfl, rfl, p, _, _, _, rfl, rfl, SqL.of hH3, (by rw [e7]; exact rA _ (by omega)), _, rfl, _, _, rfl, rfl, _, _, rfl, rfl, (by dsimp only; decide), _, _, rfl, rfl, ?_⟩
          have hm0 := Int.emod_nonneg (ds.getD (3 + i % 7) 0 + (0 + (i : Int))) (show (8 : Int) ≠ 0 by decide)
          have hm1 := Int.emod_lt_of_pos (ds.getD (3 + i % 7) 0 + (0 + (i : Int))) (show (0 : Int) < 8 by decide)
          refine ⟨_, _, rfl, rfl, mulOk_small (by omega) (by omega) (by show 1 ≤ 1000; decide), hpost _ ⟨_, rfl, ?_⟩⟩
          exact mul_first _ (by omega)
        · intro D' vs hD' hvl hv
          exact fin _ D' vs (fun x => x.cps.toList.getD 0 0) (fun i => 97 + ((ds.getD 2 0 + 5 * (0 + (i : Int))) % 26).toNat) sm2 hD' hvl hv (fun i j _ _ h => by omega)
      · refine ⟨_, rfl, p, _, _, _, rfl, rfl, SqL.of hH2, rA 1 (by decide), _, _, rfl, rfl, ⟨by decide, by decide⟩, _, rfl, _, _, rfl, rfl, ?_, ?_⟩
        · dsimp only
          omega
        have ha0 := Int.emod_nonneg (ds.getD 1 0 / 4) (show 1 + ds.getD 0 0 % 8 ≠ 0 by omega)
        have ha1 := Int.emod_lt_of_pos (ds.getD 1 0 / 4) (show (0 : Int) < 1 + ds.getD 0 0 % 8 by omega)
        obtain ⟨n, hn⟩ : ∃ n : Nat, ds.getD 1 0 / 4 % (1 + ds.getD 0 0 % 8) = (n : Int) := ⟨(ds.getD 1 0 / 4 % (1 + ds.getD 0 0 % 8)).toNat, by omega⟩
        have e2 : ((2 : Int) + ds.getD 1 0 / 4 % (1 + ds.getD 0 0 % 8)) = ((2 + n : Nat) : Int) := by omega
        refine ⟨_, rfl, m, rfl, by omega, by omega, ?_⟩
        refine lcR0 (fun i y => ∃ x : Str, y = V.str x ∧ x.cps.toList.getD n 0 = 97 + ((ds.getD (2 + n) 0 + (0 + (i : Int))) % 26).toNat) ?_ ?_ ?_ ?_
        · rfl
        · omega
        · intro D i ys post hi hD hpost
          have hH3 : (upd H2 D (.lst ys)) p = some (.lst (ds.map V.int)) := by rw [upd_ne (ne_of_none hH2 hD)]; exact hH2
          have hc := one (ds.getD (2 + n) 0 + (0 + (i : Int)))
          have l1 : (Txt.slice bs none (some (ds.getD 1 0 / 4 % (1 + ds.getD 0 0 % 8)))).length = n := by rw [hn]; exact slice0_len (by omega)
          have l2 := Txt.slice_le bs (some (ds.getD 1 0 / 4 % (1 + ds.getD 0 0 % 8) + 1)) none
          refine ⟨_, rfl, _, rfl, _, rfl, _, rfl, by omega, ?_⟩
          refine ⟨_, rfl, _, rfl, _, rfl, _, _, rfl, rfl, p, _, _, _, rfl, rfl, SqL.of hH3, (by rw [e2]; exact rA _ (by omega)), _, rfl, _, _, rfl, rfl, _, _, rfl, rfl, (by dsimp only; decide), _, _, _, rfl, rfl, abc_le, hc, ?_⟩
          have lc : ∀ c : Nat, (⟨#[c]⟩ : Str).length = 1 := fun _ => rfl
          refine ⟨_, _, rfl, rfl, by rw [lc]; omega, ?_⟩
          refine ⟨_, rfl, _, rfl, _, _, rfl, rfl, _, rfl, _, rfl, by omega, ?_⟩
          exact ⟨_, _, rfl, rfl, by rw [Str.length_append, lc]; omega, hpost _ ⟨_, rfl, mid l1⟩⟩
        · intro D' vs hD' hvl hv
          exact fin _ D' vs (fun x => x.cps.toList.getD n 0) (fun i => 97 + ((ds.getD (2 + n) 0 + (0 + (i : Int))) % 26).toNat) sm2 hD' hvl hv (fun i j _ _ h => by omega)
end
end K05

namespace K05
open PySem L2
abbrev sWide : Stmt := top 10
abbrev sWork : Stmt := top 11
/-- a work -/
inductive Wk where
  | put (k : Str) (n : Int) | add (k : Str) (n : Int) | drop (k : Str)
def Wk.key : Wk → Str
  | .put k _ => k | .add k _ => k | .drop k => k
def Wk.vs : Wk → List V
  | .put k n => [.str "put", .str k, .int n]
  | .add k n => [.str "add", .str k, .int n]
  | .drop k => [.str "drop", .str k]
abbrev Kvs := List (Key × V)
/-- all that is held are ints -/
def Ints (kvs : Kvs) : Prop := ∀ k v, valV kvs k = some v → ∃ i : Int, v = .int i
def num (kvs : Kvs) (k : Str) : Int := match valV kvs (Sum.inr k) with
  | some (.int i) => i
  | _ => 0
def Wk.to (kvs : Kvs) : Wk → Kvs
  | .put k n => putK kvs (Sum.inr k) (.int n)
  | .add k n => putK kvs (Sum.inr k) (.int (num kvs k + n))
  | .drop k => dropK kvs (Sum.inr k)
def Wk.ans (kvs : Kvs) : Wk → V
  | .put k _ => (valV kvs (Sum.inr k)).getD .non
  | .add k n => .int (num kvs k + n)
  | .drop k => (valV kvs (Sum.inr k)).getD .non
theorem valV_drop {kvs : Kvs} {k j : Key} {v : V} (h : valV (dropK kvs k) j = some v) : valV kvs j = some v := by
  induction kvs with
  | nil => exact h
  | cons p r ih =>
    by_cases e : p.1 = k
    · rw [dropK_pos e] at h
      have h' := ih h
      by_cases e2 : p.1 = j
      · exfalso
        have : k = j := e.symm.trans e2
        subst this
        have hk : ∀ (l : Kvs), valV (dropK l k) k = none := by
          intro l
          induction l with
          | nil => rfl
          | cons q l ihl =>
            by_cases eq : q.1 = k
            · rw [dropK_pos eq]; exact ihl
            · rw [dropK_neg eq, valV_neg eq]; exact ihl
        rw [hk r] at h
        cases h
      · rw [valV_neg e2]; exact h'
    · rw [dropK_neg e] at h
      by_cases e2 : p.1 = j
      · rw [valV_pos e2] at h ⊢; exact h
      · rw [valV_neg e2] at h ⊢; exact ih h
theorem Ints.to {kvs : Kvs} (h : Ints kvs) (x : Wk) : Ints (x.to kvs) := by
  intro k v e
  cases x with
  | put a n =>
    rw [show Wk.to kvs (.put a n) = putK kvs (Sum.inr a) (.int n) from rfl, valV_put] at e
    split at e
    · cases e; exact ⟨_, rfl⟩
    · exact h k v e
  | add a n =>
    rw [show Wk.to kvs (.add a n) = putK kvs (Sum.inr a) (.int (num kvs a + n)) from rfl, valV_put] at e
    split at e
    · cases e; exact ⟨_, rfl⟩
    · exact h k v e
  | drop a => exact h k v (valV_drop e)
theorem to_len (kvs : Kvs) (x : Wk) : (x.to kvs).length ≤ kvs.length + 1 := by
  cases x with
  | put a n => exact length_putK _ _ _
  | add a n => exact length_putK _ _ _
  | drop a => exact Nat.le_trans (List.length_filter_le _ _) (Nat.le_succ _)
theorem Ints.ans {kvs : Kvs} (h : Ints kvs) (x : Wk) : x.ans kvs = .non ∨ ∃ i : Int, x.ans kvs = .int i := by
  have key : ∀ a : Str, (valV kvs (Sum.inr a)).getD .non = .non ∨ ∃ i : Int, (valV kvs (Sum.inr a)).getD .non = .int i := fun a => by
    cases e : valV kvs (Sum.inr a : Key) with
    | none => exact .inl rfl
    | some v =>
      obtain ⟨i, rfl⟩ := h _ _ e
      exact .inr ⟨i, rfl⟩
  cases x with
  | put a n => exact key a
  | add a n => exact .inr ⟨_, rfl⟩
  | drop a => exact key a
theorem num_get {kvs : Kvs} (h : Ints kvs) (k : Str) : (valV kvs (Sum.inr k)).getD (.int 0) = .int (num kvs k) := by
  unfold num
  cases e : valV kvs (Sum.inr k : Key) with
  | none => rfl
  | some v =>
    obtain ⟨i, rfl⟩ := h _ _ e
    rfl
def spWide (K : PySem.W.Frag) : Sp := fun vs H Q _ => ∃ (p : Addr) (ds : List Int), vs = [.ref p] ∧ SqL K H p (ds.map V.int) ∧ 1 ≤ ds.length ∧ ds.length ≤ 100 ∧ ∀ (z : Int) (H' : Hp), Same H H' → Q (.int z) H'
def spWork (K : PySem.W.Frag) : Sp := fun vs H Q _ => ∃ (p r : Addr) (ds : List Int) (ks : List Str), vs = [.ref p, .ref r] ∧ SqL K H p (ds.map V.int) ∧ 3 ≤ ds.length ∧ ds.length ≤ 100 ∧ SqL K H r (ks.map V.str) ∧ 1 ≤ ks.length ∧ ks.length ≤ 100 ∧
  ∀ (x : Wk) (t : Addr) (H' : Hp), Same H H' → H t = none → H' t = some (.tup x.vs) → Q (.ref t) H'
/-- what a call leaves: all but d -/
def But (d : Addr) (H H' : Hp) : Prop := ∀ b o, H b = some o → b ≠ d → H' b = some o
section
variable {P : Program} {w : World} {K : PySem.W.Frag} {mg : Str → Option Value} {base : Heap}
abbrev nWide : List Str := ["_law_row", "_law_number_here", "_law_digit"]
theorem scWide : FnScope nWide ["_law_row"] (defScope sWide) := ⟨rfl, rfl, rfl, by decide +kernel, rfl, by decide +kernel, by decide +kernel⟩
theorem ok_wide {f : Addr} {fd : FuncData} (F : Fun K "_law_wide" "_law_wide" sWide f fd) : FnOk P w K mg base CX0 1 f fd ["_law_row"] (spWide K) := by
  refine F.ok scWide (fun vs H Q E h => ?_) (fun cdv A outer s H vs Q E hr h => ?_)
  · obtain ⟨p, ds, rfl, _⟩ := h
    rfl
  · obtain ⟨p, ds, rfl, hS, hl0, hl1, q⟩ := h
    have nd := scWide.nd
    refine ⟨_, pss_cons (ps_set (i := 1) nd rfl (Or.inl rfl) (pe_op op_sub (pe_op op_mod (pe_ix ix_list (pv 0) pe_int (fun _ _ => rfl)) pe_int) pe_int))
      (pss_cons (ps_if (pt_cmpR op_eq (pe_op op_mod (pe_op op_fdiv (pe_ix ix_list (pv 0) pe_int (fun _ _ => rfl)) pe_int) pe_int) pe_int (nomark _))
        (pss_cons (ps_set (i := 1) nd rfl (Or.inl rfl) pe_int)
        (pss_cons (ps_for PassesOwn.never rfl (pi_list (pe_slice sl_list (pv 0) (po_some pe_int) (po_some (pe_op op_add pe_int (pe_op op_mod (pe_op op_fdiv (pe_ix ix_list (pv 0) pe_int (fun _ _ => rfl)) pe_int) pe_int))))) (pg_name (i := 2) nd rfl (Or.inl rfl))
          (pss_one (ps_set (i := 1) nd rfl (Or.inl rfl) (pe_op op_add (pe_op op_mul (pv 1) pe_int) (pe_op op_mod (pv 2) pe_int)))))
        (pss_one (ps_if (pt_cmpR op_eq (pe_op op_mod (pe_op op_fdiv (pe_ix ix_list (pv 0) pe_int (fun _ _ => rfl)) pe_int) pe_int) pe_int (nomark _)) (pss_one (ps_set (i := 1) nd rfl (Or.inl rfl) (pe_op op_sub pe_int (pv 1)))) pss_nil)))) pss_nil)
      (pss_one (ps_ret (pv 1)))), ?_⟩
    have r0 : atI (ds.map V.int) (0 : Int) = some (.int (ds.getD 0 0)) := ints_at (i := 0) (by omega)
    refine ⟨_, rfl, p, _, _, _, rfl, rfl, hS, r0, _, _, rfl, rfl, (by dsimp only; decide), _, _, rfl, rfl, ?_⟩
    refine ⟨_, rfl, p, _, _, _, rfl, rfl, hS, r0, _, _, rfl, rfl, ⟨by decide, by decide⟩, _, _, rfl, rfl, (by dsimp only; decide), rfl, _, rfl, ?_⟩
    refine ite2 (fun _ => ?_) (fun _ => ⟨_, rfl, q _ H (Same.refl H)⟩)
    refine ⟨_, rfl, _, rfl, _, rfl, p, _, _, _, rfl, rfl, hS, r0, _, _, rfl, rfl, ⟨by decide, by decide⟩, _, _, rfl, rfl, (by dsimp only; decide), _, _, rfl, rfl, _, rfl, p, _, rfl, hS, fun p2 hp2 => ?_⟩
    have s1 : Same H (upd H p2 (.lst (cutV (ds.map V.int) (some 1) (some (2 + ds.getD 0 0 / 27 % 20))))) := .new hp2
    have hp : ∀ H2, Same H H2 → SqL K H2 p (ds.map V.int) := fun H2 e => e.seq hS
    refine ⟨p2, rfl, ⟨_, SqL.of upd_same⟩, for_list (K := K) (a := p2) (xs := cutV (ds.map V.int) (some 1) (some (2 + ds.getD 0 0 / 27 % 20))) (fun i σ H2 => ∃ (z : Int) (v : Option V), σ = [some (.ref p), some (.int z), v] ∧ H2 = upd H p2 (.lst (cutV (ds.map V.int) (some 1) (some (2 + ds.getD 0 0 / 27 % 20)))))
      ⟨0, none, rfl, rfl⟩ (fun i σ H2 _ ⟨_, _, _, e⟩ => by rw [e]; exact SqL.of upd_same) ?_ ?_⟩
    · rintro i y σ H2 hy ⟨z, v, rfl, rfl⟩
      obtain ⟨d, rfl⟩ : ∃ d : Int, y = .int d := by
        have hm2 : y ∈ ds.map V.int := List.mem_of_mem_drop (List.mem_of_mem_take (List.mem_of_getElem? hy))
        obtain ⟨d, _, rfl⟩ := List.mem_map.mp hm2
        exact ⟨d, rfl⟩
      exact ⟨_, rfl, _, _, rfl, rfl, .inr ⟨by decide, by decide⟩, _, rfl, _, _, rfl, rfl, (by dsimp only; decide), _, _, rfl, rfl, _, _, rfl, rfl⟩
    · rintro σ H2 ⟨z, v, rfl, rfl⟩
      refine ⟨_, rfl, p, _, _, _, rfl, rfl, hp _ s1, r0, _, _, rfl, rfl, ⟨by decide, by decide⟩, _, _, rfl, rfl, (by dsimp only; decide), rfl, _, rfl, ?_⟩
      refine ite2 (fun _ => ?_) (fun _ => ⟨_, rfl, q _ _ s1⟩)
      exact ⟨_, rfl, _, _, rfl, rfl, _, rfl, q _ _ s1⟩
abbrev nWork : List Str := ["_law_row", "_law_keys", "_law_key", "_law_number_here"]
theorem scWork : FnScope nWork ["_law_row", "_law_keys"] (defScope sWork) := ⟨rfl, rfl, rfl, by decide +kernel, rfl, by decide +kernel, by decide +kernel⟩
theorem ok_work {f : Addr} {fd : FuncData} (F : Fun K "_law_work" "_law_work" sWork f fd) (T : Blt mg) (Fw : FnAt P w K mg base 1 "_law_wide" ["_law_row"] (spWide K)) : FnOk P w K mg base CX0 2 f fd ["_law_row", "_law_keys"] (spWork K) := by
  refine F.ok scWork (fun vs H Q E h => ?_) (fun cdv A outer s H vs Q E hr h => ?_)
  · obtain ⟨p, r, ds, ks, rfl, _⟩ := h
    rfl
  · obtain ⟨p, r, ds, ks, rfl, hS, hl0, hl1, hR, hk0, hk1, q⟩ := h
    have nd := scWork.nd
    refine ⟨_, pss_cons (ps_set (i := 2) nd rfl (Or.inl rfl) (pe_ix ix_list (pv 1) (pe_op op_mod (pe_ix ix_list (pv 0) pe_int (fun _ _ => rfl)) (pe_callB call_len_seq (by rfl) T.len PySem.boot_len (pa_cons (pv 1) pa_nil))) (fun _ _ => rfl)))
      (pss_cons (ps_set (i := 3) nd rfl (Or.inl rfl) (pe_callF Fw hr (pa_cons (pe_slice sl_list (pv 0) (po_some pe_int) po_none) pa_nil)))
      (pss_one (ps_ret (pe_ix ix_list (pe_lst (pa_cons (pe_tup (pa_cons pe_str (pa_cons (pv 2) (pa_cons (pv 3) pa_nil)))) (pa_cons (pe_tup (pa_cons pe_str (pa_cons (pv 2) (pa_cons (pv 3) pa_nil)))) (pa_cons (pe_tup (pa_cons pe_str (pa_cons (pv 2) pa_nil))) pa_nil))))
        (pe_op op_mod (pe_ix ix_list (pv 0) pe_int (fun _ _ => rfl)) pe_int) (fun _ _ => rfl))))), ?_⟩
    have rA : ∀ i : Nat, i < 3 → atI (ds.map V.int) (i : Int) = some (.int (ds.getD i 0)) := fun i hi => ints_at (by omega)
    have kl : (0 : Int) < ((ks.map V.str).length : Int) := by rw [List.length_map]; omega
    have m0 := Int.emod_nonneg (ds.getD 1 0) (show ((ks.map V.str).length : Int) ≠ 0 by omega)
    have m1 := Int.emod_lt_of_pos (ds.getD 1 0) kl
    have m1' : (ds.getD 1 0 % ((ks.map V.str).length : Int)).toNat < ks.length := by rw [List.length_map] at m0 m1 ⊢; omega
    refine ⟨_, rfl, _, rfl, p, _, _, _, rfl, rfl, hS, rA 1 (by decide), _, rfl, r, _, rfl, .inl hR, _, _, rfl, rfl, kl, r, _, _, _, rfl, rfl, hR, atI_map m0 (List.getElem?_eq_getElem m1'), ?_⟩
    generalize ks[(ds.getD 1 0 % ((ks.map V.str).length : Int)).toNat] = key
    refine ⟨_, rfl, _, rfl, p, _, rfl, hS, fun p2 hp2 => ?_⟩
    have e2 : cutV (ds.map V.int) (some 2) none = (ds.drop 2).map V.int := by
      unfold cutV
      rw [HT.sIx_none, show HT.sIx (ds.map V.int).length 0 (some 2) = min 2 (ds.map V.int).length from HT.sIx_nat _ _ 2, List.length_map, Nat.min_eq_left (by omega), List.map_drop, List.take_of_length_le (by rw [List.length_drop, List.length_map]; omega)]
    refine ⟨p2, ds.drop 2, rfl, by rw [← e2]; exact SqL.of upd_same, by rw [List.length_drop]; omega, by rw [List.length_drop]; omega, fun z H1 sm1 => ?_⟩
    have s1 : Same H H1 := (Same.new hp2).trans sm1
    refine ⟨_, rfl, _, rfl, (by show 3 ≤ sizeLine; decide), fun t1 h1 => ⟨_, rfl, _, rfl, (by show 3 ≤ sizeLine; decide), fun t2 h2 => ⟨_, rfl, (by show 2 ≤ sizeLine; decide), fun t3 h3 => ⟨(by show 3 ≤ sizeLine; decide), fun l hl => ?_⟩⟩⟩⟩
    have s2 := s1.trans (Same.new (o := .tup [V.str "put", V.str key, V.int z]) h1)
    have s3 := s2.trans (Same.new (o := .tup [V.str "add", V.str key, V.int z]) h2)
    have s4 := s3.trans (Same.new (o := .tup [V.str "drop", V.str key]) h3)
    have s5 := s4.trans (Same.new (o := .lst [V.ref t1, V.ref t2, V.ref t3]) hl)
    refine ⟨_, rfl, p, _, _, _, rfl, rfl, s5.seq hS, rA 0 (by decide), _, _, rfl, rfl, (by dsimp only; decide), l, [V.ref t1, V.ref t2, V.ref t3], ds.getD 0 0 % 3, ?_⟩
    have c0 := Int.emod_nonneg (ds.getD 0 0) (show (3 : Int) ≠ 0 by decide)
    have c1 := Int.emod_lt_of_pos (ds.getD 0 0) (show (0 : Int) < 3 by decide)
    rcases (show ds.getD 0 0 % 3 = 0 ∨ ds.getD 0 0 % 3 = 1 ∨ ds.getD 0 0 % 3 = 2 by omega) with e | e | e
    · exact ⟨V.ref t1, rfl, rfl, SqL.of upd_same, by rw [e]; rfl, q (.put key z) t1 _ s5 (s1.none h1) (((Same.new h2).trans ((Same.new h3).trans (Same.new hl))) t1 _ upd_same)⟩
    · exact ⟨V.ref t2, rfl, rfl, SqL.of upd_same, by rw [e]; rfl, q (.add key z) t2 _ s5 (s2.none h2) (((Same.new h3).trans (Same.new hl)) t2 _ upd_same)⟩
    · exact ⟨V.ref t3, rfl, rfl, SqL.of upd_same, by rw [e]; rfl, q (.drop key) t3 _ s5 (s3.none h3) ((Same.new hl) t3 _ upd_same)⟩
theorem dne1 : ¬ (V.str "add" = V.str "put") := by decide +kernel
theorem dne2 : ¬ (V.str "drop" = V.str "put") := by decide +kernel
theorem dne3 : ¬ (V.str "drop" = V.str "add") := by decide +kernel
theorem kit_ib {K : PySem.W.Frag} : PySem.W.kitOne K (.type "int") (.type "bool") = some false := by
  unfold PySem.W.kitOne
  rw [if_neg (by decide +kernel)]
  unfold PySem.W.kitCls
  dsimp only
  rw [if_pos (by decide +kernel)]
  with_unfolding_all rfl
end
end K05

namespace K05
open PySem L2
abbrev sInit : Stmt := inClass (top 2) 0
abbrev sDoes : Stmt := inClass (top 2) 1
abbrev sDone : Stmt := inClass (top 2) 2
abbrev sHolds : Stmt := inClass (top 2) 3
abbrev sLast : Stmt := inClass (top 2) 4
/-! the fields -/
theorem ne_hl : ¬ (("held" : Str) = "lasts") := by decide +kernel
theorem ne_lh : ¬ (("lasts" : Str) = "held") := by decide +kernel
def flds (d l : Addr) : List (Str × V) := putF "lasts" (.ref l) (putF "held" (.ref d) [])
theorem flds_h (d l : Addr) : (flds d l).lookup ("held" : Str) = some (.ref d) := by
  unfold flds
  rw [lookup_putF, if_neg ne_hl, lookup_putF, if_pos rfl]
theorem flds_l (d l : Addr) : (flds d l).lookup ("lasts" : Str) = some (.ref l) := by
  unfold flds
  rw [lookup_putF, if_pos rfl]
theorem flds_no (d l : Addr) {m : Str} (h1 : ¬ m = "lasts") (h2 : ¬ m = "held") : (flds d l).lookup m = none := by
  unfold flds
  rw [lookup_putF, if_neg h1, lookup_putF, if_neg h2]
  all_goals rfl
/-! each asker's last ask -/
abbrev Las := List (Key × (Int × V))
def getL (las : Las) (k : Key) : Option (Int × V) := (las.find? fun kv => decide (kv.1 = k)).map (·.2)
def putL (las : Las) (k : Key) (q : Int × V) : Las := if (las.any fun kv => decide (kv.1 = k)) = true then las.map (fun kv => if kv.1 = k then (kv.1, q) else kv) else las ++ [(k, q)]
theorem getL_pos {p : Key × (Int × V)} {r : Las} {k : Key} (e : p.1 = k) : getL (p :: r) k = some p.2 := by simp [getL, List.find?_cons, e]
theorem getL_neg {p : Key × (Int × V)} {r : Las} {k : Key} (e : ¬ p.1 = k) : getL (p :: r) k = getL r k := by simp [getL, List.find?_cons, e]
theorem getL_any (k : Key) : ∀ las : Las, (las.any fun kv => decide (kv.1 = k)) = (getL las k).isSome
  | [] => rfl
  | p :: r => by
    rw [List.any_cons]
    by_cases e : p.1 = k
    · simp only [getL_pos e, decide_eq_true e, Bool.true_or, Option.isSome_some]
    · rw [getL_neg e, decide_eq_false e, Bool.false_or]; exact getL_any k r
theorem getL_map (k j : Key) (y : Int × V) : ∀ las : Las, getL (las.map fun kv => if kv.1 = k then (kv.1, y) else kv) j = (getL las j).map fun x => if j = k then y else x
  | [] => rfl
  | p :: r => by
    have ih := getL_map k j y r
    rw [List.map_cons]
    by_cases h : p.1 = k
    · rw [if_pos h]
      by_cases e : p.1 = j
      · rw [getL_pos (p := (p.1, y)) e, getL_pos e, Option.map_some, if_pos (e.symm.trans h)]
      · rw [getL_neg (p := (p.1, y)) e, getL_neg e, ih]
    · rw [if_neg h]
      by_cases e : p.1 = j
      · rw [getL_pos (p := p) e, getL_pos e, Option.map_some, if_neg (fun z => h (e.trans z))]
      · rw [getL_neg (p := p) e, getL_neg e, ih]
theorem getL_snoc (k j : Key) (y : Int × V) : ∀ las : Las, getL las k = none → getL (las ++ [(k, y)]) j = if j = k then some y else getL las j
  | [], _ => by
    by_cases e : k = j
    · rw [if_pos e.symm]; exact getL_pos (p := (k, y)) e
    · rw [if_neg (fun z => e z.symm)]; exact getL_neg (p := (k, y)) e
  | p :: r, hn => by
    rw [List.cons_append]
    have hk : ¬ p.1 = k := fun z => by rw [getL_pos z] at hn; cases hn
    rw [getL_neg hk] at hn
    have ih := getL_snoc k j y r hn
    by_cases e : p.1 = j
    · rw [getL_pos e, getL_pos e, if_neg (fun z => hk (e.trans z))]
    · rw [getL_neg e, getL_neg e, ih]
theorem getL_put (las : Las) (k j : Key) (y : Int × V) : getL (putL las k y) j = if j = k then some y else getL las j := by
  unfold putL
  by_cases a : (las.any fun kv => decide (kv.1 = k)) = true
  · rw [if_pos a, getL_map]
    rw [getL_any] at a
    by_cases e : j = k
    · obtain ⟨x, hx⟩ := Option.isSome_iff_exists.mp a
      rw [if_pos e, e, hx, Option.map_some, if_pos rfl]
    · rw [if_neg e]
      cases getL las j with
      | none => rfl
      | some x => rw [Option.map_some, if_neg e]
  · rw [if_neg a]
    refine getL_snoc k j y las ?_
    rw [getL_any] at a
    cases q : getL las k with
    | none => rfl
    | some x => rw [q] at a; exact (a rfl).elim
theorem putL_len (las : Las) (k : Key) (y : Int × V) : (putL las k y).length ≤ las.length + 1 := by
  unfold putL
  split
  · rw [List.length_map]; omega
  · rw [List.length_append]; exact Nat.le_refl _
def LRel (K : PySem.W.Frag) (H : Hp) (p : Key × V) (q : Key × (Int × V)) : Prop := p.1 = q.1 ∧ ∃ t, p.2 = .ref t ∧ SqT K H t [.int q.2.1, q.2.2]
abbrev LR (K : PySem.W.Frag) (H : Hp) : Kvs → Las → Prop := Paired (LRel K H)
theorem LR.mono {K : PySem.W.Frag} {H H' : Hp} {lk : Kvs} {las : Las} (r : LR K H lk las) (h : ∀ t xs, SqT K H t xs → SqT K H' t xs) : LR K H' lk las :=
  Paired.mapP r fun p q ⟨e, t, e2, s⟩ => ⟨e, t, e2, h _ _ s⟩
theorem LR.val {K : PySem.W.Frag} {H : Hp} {lk : Kvs} {las : Las} (r : LR K H lk las) (k : Key) : (valV lk k = none ∧ getL las k = none) ∨ ∃ t q, valV lk k = some (.ref t) ∧ getL las k = some q ∧ SqT K H t [.int q.1, q.2] := by
  induction r with
  | nil => exact .inl ⟨rfl, rfl⟩
  | @cons p q ps qs h t ih =>
    obtain ⟨h1, tt, h2, h3⟩ := h
    by_cases e : p.1 = k
    · exact .inr ⟨tt, q.2, by rw [valV_pos e, h2], getL_pos (h1.symm.trans e), h3⟩
    · rw [valV_neg e, getL_neg (fun z => e (h1.trans z))]; exact ih
theorem LR.any {K : PySem.W.Frag} {H : Hp} {lk : Kvs} {las : Las} (r : LR K H lk las) (k : Key) : (lk.any fun kv => decide (kv.1 = k)) = las.any fun kv => decide (kv.1 = k) := by
  induction r with
  | nil => rfl
  | cons h t ih => rw [List.any_cons, List.any_cons, ih, h.1]
theorem LR.put {K : PySem.W.Frag} {H : Hp} {lk : Kvs} {las : Las} (r : LR K H lk las) (k : Key) {t : Addr} {n : Int} {a : V} (s : SqT K H t [.int n, a]) : LR K H (putK lk k (.ref t)) (putL las k (n, a)) := by
  unfold putK putL
  rw [r.any k]
  by_cases e : (las.any fun kv => decide (kv.1 = k)) = true
  · rw [if_pos e, if_pos e]
    clear e
    induction r with
    | nil => exact .nil
    | @cons p q ps qs h t ih =>
      rw [List.map_cons, List.map_cons]
      refine .cons ?_ ih
      obtain ⟨h1, tt, h2, h3⟩ := h
      by_cases e : p.1 = k
      · rw [if_pos e, if_pos (h1.symm.trans e)]; exact ⟨h1, _, rfl, s⟩
      · rw [if_neg e, if_neg (fun z => e (h1.trans z))]; exact ⟨h1, tt, h2, h3⟩
  · rw [if_neg e, if_neg e]; exact Paired.snoc r ⟨rfl, _, rfl, s⟩
theorem LR.len {K : PySem.W.Frag} {H : Hp} {lk : Kvs} {las : Las} (r : LR K H lk las) : lk.length = las.length := Paired.length r
theorem SqT.but {K : PySem.W.Frag} {H H' : Hp} {d t : Addr} {m : Kvs} {xs : List V} (e : But d H H') (hd : H d = some (.dK m)) (h : SqT K H t xs) : SqT K H' t xs := by
  rcases h with (h | ⟨o', h⟩) | h
  · exact .inl (.inl (e _ _ h (ne_of h hd (by intro z; cases z))))
  · exact .inl (.inr ⟨o', e _ _ h (ne_of h hd (by intro z; cases z))⟩)
  · exact .inr h
theorem SqT.same {K : PySem.W.Frag} {H H' : Hp} {t : Addr} {xs : List V} (e : Same H H') (h : SqT K H t xs) : SqT K H' t xs := by
  rcases h with (h | ⟨o', h⟩) | h
  · exact .inl (.inl (e _ _ h))
  · exact .inl (.inr ⟨o', e _ _ h⟩)
  · exact .inr h
def lastN (las : Las) (x : Str) : Int := match getL las (Sum.inr x) with
  | some q => q.1
  | none => 0
def lastA (las : Las) (x : Str) : V := match getL las (Sum.inr x) with
  | some q => q.2
  | none => .non
/-- a table stands at T: its dicts at d and l -/
structure TabAt (K : PySem.W.Frag) (C : Addr) (H : Hp) (T d l : Addr) (kvs : Kvs) (las : Las) : Prop where
  ob : ∃ dx, H T = some (.ins C dx (flds d l))
  hd : H d = some (.dK kvs)
  hl : ∃ lk, H l = some (.dK lk) ∧ LR K H lk las
  ne : d ≠ l
structure Cl (K : PySem.W.Frag) (mg : Str → Option Value) (C : Addr) : Prop where
  cl : Cls K C
  nH : NoAttr K C "held"
  nL : NoAttr K C "lasts"
  mgC : mg "Table" = some (.ref C)
def spHolds (K : PySem.W.Frag) (C : Addr) : Sp := fun vs H Q _ => ∃ (T d l : Addr) (kvs : Kvs) (las : Las) (k : Str), vs = [.ref T, .str k] ∧ TabAt K C H T d l kvs las ∧ Q ((valV kvs (Sum.inr k)).getD .non) H
def spLast (K : PySem.W.Frag) (C : Addr) : Sp := fun vs H Q _ => ∃ (T d l : Addr) (kvs : Kvs) (las : Las) (x : Str), vs = [.ref T, .str x] ∧ TabAt K C H T d l kvs las ∧ Q (.int (lastN las x)) H
def spDone (K : PySem.W.Frag) (C : Addr) : Sp := fun vs H Q _ => ∃ (T d l t : Addr) (kvs : Kvs) (las : Las) (x : Wk), vs = [.ref T, .ref t] ∧ TabAt K C H T d l kvs las ∧ kvs.length ≤ 1000 ∧ Ints kvs ∧ SqT K H t x.vs ∧
  ∀ H', But d H H' → H' d = some (.dK (x.to kvs)) → Q (x.ans kvs) H'
/-- the kind of the answer, the answer, what is held, what was asked behind an ask -/
def tagR (las : Las) (x : Str) (n : Int) : V := if n < lastN las x then .str "old" else if n = lastN las x then .str "again" else .str "done"
def ansR (kvs : Kvs) (las : Las) (x : Str) (n : Int) (wk : Wk) : V := if n < lastN las x then .non else if n = lastN las x then lastA las x else wk.ans kvs
def heldR (kvs : Kvs) (las : Las) (x : Str) (n : Int) (wk : Wk) : Kvs := if n < lastN las x then kvs else if n = lastN las x then kvs else wk.to kvs
def lasR (kvs : Kvs) (las : Las) (x : Str) (n : Int) (wk : Wk) : Las := if n < lastN las x then las else if n = lastN las x then las else putL las (Sum.inr x) (n, wk.ans kvs)
/-- all but d and l -/
def But2 (d l : Addr) (H H' : Hp) : Prop := ∀ b o, H b = some o → b ≠ d → b ≠ l → H' b = some o
def spDoes (K : PySem.W.Frag) (C : Addr) : Sp := fun vs H Q _ => ∃ (T d l t : Addr) (kvs : Kvs) (las : Las) (x : Str) (n : Int) (wk : Wk), vs = [.ref T, .str x, .int n, .ref t] ∧ TabAt K C H T d l kvs las ∧ kvs.length ≤ 1000 ∧ las.length ≤ 1000 ∧ Ints kvs ∧ 1 ≤ n ∧ SqT K H t wk.vs ∧
  ∀ (r : Addr) (H' : Hp), H r = none → H' r = some (.tup [tagR las x n, ansR kvs las x n wk]) → TabAt K C H' T d l (heldR kvs las x n wk) (lasR kvs las x n wk) → But2 d l H H' → Q (.ref r) H'
section
variable {P : Program} {w : World} {K : PySem.W.Frag} {mg : Str → Option Value} {base : Heap}
theorem scHolds : FnScope ["self", "key"] ["self", "key"] (defScope sHolds) := ⟨rfl, rfl, rfl, by decide +kernel, rfl, by decide +kernel, by decide +kernel⟩
theorem ok_holds {f C : Addr} {fd : FuncData} (F : Fun K "holds" "Table.holds" sHolds f fd) (T : Cl K mg C) : FnOk P w K mg base CX0 1 f fd ["self", "key"] (spHolds K C) := by
  refine F.ok scHolds (fun vs H Q E h => ?_) (fun cdv A outer s H vs Q E hr h => ?_)
  · obtain ⟨T', d, l, kvs, las, k, rfl, _⟩ := h
    rfl
  · obtain ⟨T', d, l, kvs, las, k, rfl, S, q⟩ := h
    have hu := hu_of hr
    obtain ⟨⟨dx, h1⟩, hd, hl, hne⟩ := id S
    refine ⟨_, pss_one (ps_ret (pe_dget1 hu (pe_fld (pv 0) rfl) (pv 1) ⟨rfl, rfl, rfl, rfl⟩)), ?_⟩
    exact ⟨_, rfl, T', C, dx, _, _, rfl, h1, T.cl, T.nH, flds_h _ _, d, rfl, .inl ⟨kvs, .inl hd⟩, _, rfl, _, DGet.k (k := Sum.inr k) hd, q⟩
theorem scLast : FnScope ["self", "asker"] ["self", "asker"] (defScope sLast) := ⟨rfl, rfl, rfl, by decide +kernel, rfl, by decide +kernel, by decide +kernel⟩
theorem ok_last {f C : Addr} {fd : FuncData} (F : Fun K "last_of" "Table.last_of" sLast f fd) (T : Cl K mg C) : FnOk P w K mg base CX0 1 f fd ["self", "asker"] (spLast K C) := by
  refine F.ok scLast (fun vs H Q E h => ?_) (fun cdv A outer s H vs Q E hr h => ?_)
  · obtain ⟨T', d, l, kvs, las, k, rfl, _⟩ := h
    rfl
  · obtain ⟨T', d, l, kvs, las, x, rfl, S, q⟩ := h
    have hu := hu_of hr
    obtain ⟨⟨dx, h1⟩, hd, ⟨lk, hl, lr⟩, hne⟩ := id S
    refine ⟨_, pss_cons (ps_if (pt_cmp (pc_dnotin hu (pv 1) (pe_fld (pv 0) rfl))) (pss_one (ps_ret pe_int)) pss_nil)
      (pss_one (ps_ret (pe_ix ix_tup (pe_dget hu (pe_fld (pv 0) rfl) (pv 1) (fun _ _ => rfl)) pe_int (fun _ _ => rfl)))), ?_⟩
    refine ⟨_, rfl, _, rfl, T', C, dx, _, _, rfl, h1, T.cl, T.nL, flds_l _ _, l, _, rfl, DGet.k (k := Sum.inr x) hl, _, rfl, ?_⟩
    rcases lr.val (Sum.inr x) with ⟨e1, e2⟩ | ⟨t, q', e1, e2, e3⟩
    · rw [e1]
      refine iteT ?_
      unfold lastN at q
      rw [e2] at q
      exact q
    · rw [e1]
      refine iteF ?_
      unfold lastN at q
      rw [e2] at q
      refine ⟨_, rfl, T', C, dx, _, _, rfl, h1, T.cl, T.nL, flds_l _ _, _, rfl, l, V.ref t, rfl, ?_, t, _, _, _, rfl, rfl, e3, rfl, q⟩
      have := DGet.k (H := H) (a := l) (k := Sum.inr x) hl
      rw [e1] at this
      exact this
abbrev nDone : List Str := ["self", "work", "key", "before"]
theorem scDone : FnScope nDone ["self", "work"] (defScope sDone) := ⟨rfl, rfl, rfl, by decide +kernel, rfl, by decide +kernel, by decide +kernel⟩
theorem dne4 : ¬ (V.str "put" = V.str "drop") := by decide +kernel
theorem dne5 : ¬ (V.str "add" = V.str "drop") := by decide +kernel
theorem ok_done {f C fH : Addr} {fd fdH : FuncData} (F : Fun K "work_done" "Table.work_done" sDone f fd) (T : Cl K mg C) (GH : FnOk P w K mg base CX0 1 fH fdH ["self", "key"] (spHolds K C)) (bH : Binds K fdH ["self", "key"] []) (mH : Meth K C "holds" fH) :
    FnOk P w K mg base CX0 2 f fd ["self", "work"] (spDone K C) := by
  refine F.ok scDone (fun vs H Q E h => ?_) (fun cdv A outer s H vs Q E hr h => ?_)
  · obtain ⟨T', d, l, t, kvs, las, x, rfl, _⟩ := h
    rfl
  · obtain ⟨T', d, l, t, kvs, las, x, rfl, S, hlen, hI, hT, q⟩ := h
    have hu := hu_of hr
    have nd := scDone.nd
    obtain ⟨⟨dx, h1⟩, hd, _, hne⟩ := id S
    refine ⟨_, pss_cons (ps_set (i := 2) nd rfl (Or.inl rfl) (pe_ix ix_tup (pv 1) pe_int (fun _ _ => rfl)))
      (pss_cons (ps_set (i := 3) nd rfl (Or.inl rfl) (pe_meth (pv 0) T.cl mH GH hr bH .nil pass0 (pa_cons (pv 2) pa_nil)))
      (pss_cons (ps_if (pt_cmpR op_eq (pe_ix ix_tup (pv 1) pe_int (fun _ _ => rfl)) pe_str (nomark _))
        (pss_cons (ps_expr (pe_dpop2 (pe_fld (pv 0) rfl) (pv 2) pe_non ⟨rfl, rfl, rfl, rfl⟩)) (pss_one (ps_ret (pv 3)))) pss_nil)
      (pss_cons (ps_if (pt_cmpR op_eq (pe_ix ix_tup (pv 1) pe_int (fun _ _ => rfl)) pe_str (nomark _))
        (pss_cons (ps_dput hu (pe_fld (pv 0) rfl) (pv 2) (pe_ix ix_tup (pv 1) pe_int (fun _ _ => rfl)) rfl) (pss_one (ps_ret (pv 3)))) pss_nil)
      (pss_cons (ps_dput hu (pe_fld (pv 0) rfl) (pv 2) (pe_op op_add (pe_dget2 hu (pe_fld (pv 0) rfl) (pv 2) pe_int ⟨rfl, rfl, rfl, rfl⟩) (pe_ix ix_tup (pv 1) pe_int (fun _ _ => rfl))) rfl)
      (pss_one (ps_ret (pe_dget hu (pe_fld (pv 0) rfl) (pv 2) (fun _ _ => rfl)))))))), ?_⟩
    have isd : IsD H d := .inl ⟨kvs, .inl hd⟩
    have but : ∀ (m : Kvs), But d H (upd H d (.dK m)) := fun m b o e hb => by rw [upd_ne hb]; exact e
    have a1 : atI x.vs (1 : Int) = some (.str x.key) := by cases x <;> rfl
    have nTd : T' ≠ d := ne_of h1 hd (by intro z; cases z)
    refine ⟨_, rfl, t, _, _, _, rfl, rfl, hT, a1, ?_⟩
    refine ⟨_, rfl, T', dx, _, rfl, h1, flds_no _ _ (by decide +kernel) (by decide +kernel), _, rfl, T', d, l, kvs, las, x.key, rfl, S, ?_⟩
    cases x with
    | drop a =>
      refine ⟨_, rfl, t, _, _, _, rfl, rfl, hT, rfl, rfl, _, rfl, ?_⟩
      refine ite2 (fun _ => ?_) (fun z => absurd (decide_eq_true rfl) z)
      refine ⟨_, rfl, T', C, dx, _, _, rfl, h1, T.cl, T.nH, flds_h _ _, d, rfl, isd, _, rfl, kvs, Sum.inr a, hd, rfl, fun v e => ?_, fun e => ?_⟩
      · exact ⟨_, rfl, q _ (but _) upd_same⟩
      · have e3 : Wk.to kvs (.drop a) = kvs := dropK_no (valV_not e)
        exact ⟨_, rfl, q H (fun b o h _ => h) (by rw [e3]; exact hd)⟩
    | put a n =>
      refine ⟨_, rfl, t, _, _, _, rfl, rfl, hT, rfl, rfl, _, rfl, ?_⟩
      refine ite2 (fun z => absurd (of_decide_eq_true z) dne4) (fun _ => ?_)
      refine ⟨_, rfl, t, _, _, _, rfl, rfl, hT, rfl, rfl, _, rfl, ?_⟩
      refine ite2 (fun _ => ?_) (fun z => absurd (decide_eq_true rfl) z)
      refine ⟨_, rfl, t, _, _, _, rfl, rfl, hT, rfl, _, rfl, T', C, dx, _, _, rfl, h1, T.cl, T.nH, flds_h _ _, _, rfl, d, _, rfl, DPut.k (k := Sum.inr a) hd (small1000 hlen), ?_⟩
      exact ⟨_, rfl, q _ (but _) upd_same⟩
    | add a n =>
      refine ⟨_, rfl, t, _, _, _, rfl, rfl, hT, rfl, rfl, _, rfl, ?_⟩
      refine ite2 (fun z => absurd (of_decide_eq_true z) dne5) (fun _ => ?_)
      refine ⟨_, rfl, t, _, _, _, rfl, rfl, hT, rfl, rfl, _, rfl, ?_⟩
      refine ite2 (fun z => absurd (of_decide_eq_true z) dne1) (fun _ => ?_)
      refine ⟨_, rfl, T', C, dx, _, _, rfl, h1, T.cl, T.nH, flds_h _ _, d, rfl, isd, _, rfl, _, DGet.k (k := Sum.inr a) hd, _, rfl, t, _, _, _, rfl, rfl, hT, rfl, ?_⟩
      refine ⟨_, _, num_get hI a, rfl, ?_⟩
      refine ⟨_, rfl, T', C, dx, _, _, rfl, h1, T.cl, T.nH, flds_h _ _, _, rfl, d, _, rfl, DPut.k (k := Sum.inr a) hd (small1000 hlen), ?_⟩
      have h1' : (upd H d (.dK (putK kvs (Sum.inr a) (.int (num kvs a + n))))) T' = some (.ins C dx (flds d l)) := by rw [upd_ne nTd]; exact h1
      refine ⟨_, rfl, T', C, dx, _, _, rfl, h1', T.cl, T.nH, flds_h _ _, _, rfl, d, V.int (num kvs a + n), rfl, ?_, q _ (but _) upd_same⟩
      have := DGet.k (H := upd H d (.dK (putK kvs (Sum.inr a) (.int (num kvs a + n))))) (k := Sum.inr a) upd_same
      rw [valV_put, if_pos rfl] at this
      exact this
abbrev nDoes : List Str := ["self", "asker", "number", "work", "last", "answer"]
theorem scDoes : FnScope nDoes ["self", "asker", "number", "work"] (defScope sDoes) := ⟨rfl, rfl, rfl, by decide +kernel, rfl, by decide +kernel, by decide +kernel⟩
theorem ok_does {f C fL fD : Addr} {fd fdL fdD : FuncData} (F : Fun K "does" "Table.does" sDoes f fd) (T : Cl K mg C) (GL : FnOk P w K mg base CX0 1 fL fdL ["self", "asker"] (spLast K C)) (bL : Binds K fdL ["self", "asker"] []) (mL : Meth K C "last_of" fL)
    (GD : FnOk P w K mg base CX0 2 fD fdD ["self", "work"] (spDone K C)) (bD : Binds K fdD ["self", "work"] []) (mD : Meth K C "work_done" fD) :
    FnOk P w K mg base CX0 3 f fd ["self", "asker", "number", "work"] (spDoes K C) := by
  refine F.ok scDoes (fun vs H Q E h => ?_) (fun cdv A outer s H vs Q E hr h => ?_)
  · obtain ⟨T', d, l, t, kvs, las, x, n, wk, rfl, _⟩ := h
    rfl
  · obtain ⟨T', d, l, t, kvs, las, x, n, wk, rfl, S, hlen, hll, hI, hn, hT, q⟩ := h
    have hu := hu_of hr
    have hr1 : Room 1 _ := hr.mono (by decide)
    have nd := scDoes.nd
    obtain ⟨⟨dx, h1⟩, hd, ⟨lk, hl, lr⟩, hne⟩ := id S
    refine ⟨_, pss_cons (ps_set (i := 4) nd rfl (Or.inl rfl) (pe_meth (pv 0) T.cl mL GL hr1 bL .nil pass0 (pa_cons (pv 1) pa_nil)))
      (pss_cons (ps_if (pt_cmpR op_lt (pv 2) (pv 4) (nomark _)) (pss_one (ps_ret (pe_tup (pa_cons pe_str (pa_cons pe_non pa_nil))))) pss_nil)
      (pss_cons (ps_if (pt_cmpR op_eq (pv 2) (pv 4) (nomark _)) (pss_one (ps_ret (pe_tup (pa_cons pe_str (pa_cons (pe_ix ix_tup (pe_dget hu (pe_fld (pv 0) rfl) (pv 1) (fun _ _ => rfl)) pe_int (fun _ _ => rfl)) pa_nil))))) pss_nil)
      (pss_cons (ps_set (i := 5) nd rfl (Or.inl rfl) (pe_meth (pv 0) T.cl mD GD hr bD .nil pass0 (pa_cons (pv 3) pa_nil)))
      (pss_cons (ps_dput hu (pe_fld (pv 0) rfl) (pv 1) (pe_tup (pa_cons (pv 2) (pa_cons (pv 5) pa_nil))) rfl)
      (pss_one (ps_ret (pe_tup (pa_cons pe_str (pa_cons (pv 5) pa_nil))))))))), ?_⟩
    have nl1 : (flds d l).lookup ("last_of" : Str) = none := flds_no _ _ (by decide +kernel) (by decide +kernel)
    have nl2 : (flds d l).lookup ("work_done" : Str) = none := flds_no _ _ (by decide +kernel) (by decide +kernel)
    refine ⟨_, rfl, T', dx, _, rfl, h1, nl1, _, rfl, T', d, l, kvs, las, x, rfl, S, ?_⟩
    refine ⟨_, rfl, _, rfl, _, _, rfl, rfl, _, rfl, ?_⟩
    -- the table where nothing but a new tuple came
    have stay : ∀ (r : Addr) (o : HO), H r = none → TabAt K C (upd H r o) T' d l kvs las := fun r o hr' =>
      ⟨⟨dx, (Same.new hr') _ _ h1⟩, (Same.new hr') _ _ hd, ⟨lk, (Same.new hr') _ _ hl, lr.mono fun t xs => SqT.same (.new hr')⟩, hne⟩
    refine ite2 (fun c1 => ?_) (fun c1 => ?_)
    · have c1 : n < lastN las x := of_decide_eq_true c1
      refine ⟨(by show 2 ≤ sizeLine; decide), fun r hr' => ?_⟩
      have := q r (upd H r (.tup [V.str "old", V.non])) hr'
      unfold tagR ansR heldR lasR at this
      rw [if_pos c1, if_pos c1, if_pos c1, if_pos c1] at this
      exact this upd_same (stay r _ hr') (fun b o e _ _ => (Same.new hr') b o e)
    · have c1 : ¬ n < lastN las x := fun z => c1 (decide_eq_true z)
      refine ⟨_, rfl, _, rfl, rfl, _, rfl, ?_⟩
      refine ite2 (fun c2 => ?_) (fun c2 => ?_)
      · have c2 : n = lastN las x := V.int.inj (of_decide_eq_true c2)
        rcases lr.val (Sum.inr x) with ⟨e1, e2⟩ | ⟨tt, q', e1, e2, e3⟩
        · exfalso
          unfold lastN at c2
          rw [e2] at c2
          dsimp only at c2
          omega
        · have hA : lastA las x = q'.2 := by unfold lastA; rw [e2]
          refine ⟨_, rfl, T', C, dx, _, _, rfl, h1, T.cl, T.nL, flds_l _ _, _, rfl, l, V.ref tt, rfl, ?_, tt, _, _, _, rfl, rfl, e3, rfl, ?_⟩
          · have := DGet.k (H := H) (a := l) (k := Sum.inr x) hl
            rw [e1] at this
            exact this
          refine ⟨(by show 2 ≤ sizeLine; decide), fun r hr' => ?_⟩
          have := q r (upd H r (.tup [V.str "again", q'.2])) hr'
          unfold tagR ansR heldR lasR at this
          rw [if_neg c1, if_pos c2, if_neg c1, if_pos c2, if_neg c1, if_pos c2, if_neg c1, if_pos c2, hA] at this
          exact this upd_same (stay r _ hr') (fun b o e _ _ => (Same.new hr') b o e)
      · have c2 : ¬ n = lastN las x := fun z => c2 (decide_eq_true (congrArg V.int z))
        refine ⟨_, rfl, T', dx, _, rfl, h1, nl2, _, rfl, T', d, l, t, kvs, las, wk, rfl, S, hlen, hI, hT, fun H1 bt hd1 => ?_⟩
        have nTd : T' ≠ d := ne_of h1 hd (by intro z; cases z)
        have nTl : T' ≠ l := ne_of h1 hl (by intro z; cases z)
        have h11 : H1 T' = some (.ins C dx (flds d l)) := bt _ _ h1 nTd
        have hl1 : H1 l = some (.dK lk) := bt _ _ hl hne.symm
        have lr1 : LR K H1 lk las := lr.mono fun t xs => SqT.but bt hd
        refine ⟨_, rfl, _, rfl, (by show 2 ≤ sizeLine; decide), fun t2 ht2 => ?_⟩
        have h12 := (Same.new (o := .tup [V.int n, wk.ans kvs]) ht2) _ _ h11
        have hl2 := (Same.new (o := .tup [V.int n, wk.ans kvs]) ht2) _ _ hl1
        have hd2 := (Same.new (o := .tup [V.int n, wk.ans kvs]) ht2) _ _ hd1
        refine ⟨_, rfl, T', C, dx, _, _, rfl, h12, T.cl, T.nL, flds_l _ _, _, rfl, l, _, rfl, DPut.k (k := Sum.inr x) hl2 (small1000 (by rw [lr.len]; exact hll)), ?_⟩
        refine ⟨_, rfl, (by show 2 ≤ sizeLine; decide), fun r hr' => ?_⟩
        have lr2 : LR K (upd (upd H1 t2 (.tup [V.int n, wk.ans kvs])) l (.dK (putK lk (Sum.inr x) (.ref t2)))) (putK lk (Sum.inr x) (.ref t2)) (putL las (Sum.inr x) (n, wk.ans kvs)) := by
          refine LR.put (lr1.mono fun t xs e => (SqT.same (.new ht2) e).upd hl2) (Sum.inr x) (SqT.upd (SqT.of upd_same) hl2)
        have hrH : H r = none := by
          cases e : H r with
          | none => rfl
          | some o =>
            exfalso
            have ntl : l ≠ r := by
              rintro rfl
              rw [upd_same] at hr'; cases hr'
            have ntd : d ≠ r := by
              rintro rfl
              rw [upd_ne hne, hd2] at hr'; cases hr'
            have : upd (upd H1 t2 (.tup [V.int n, wk.ans kvs])) l (.dK (putK lk (Sum.inr x) (.ref t2))) r = some o := by
              rw [upd_ne ntl.symm]
              exact (Same.new ht2) _ _ (bt _ _ e ntd.symm)
            rw [this] at hr'; cases hr'
        have := q r (upd (upd (upd H1 t2 (.tup [V.int n, wk.ans kvs])) l (.dK (putK lk (Sum.inr x) (.ref t2)))) r (.tup [V.str "done", wk.ans kvs])) hrH
        unfold tagR ansR heldR lasR at this
        rw [if_neg c1, if_neg c2, if_neg c1, if_neg c2, if_neg c1, if_neg c2, if_neg c1, if_neg c2] at this
        refine this upd_same ⟨⟨dx, ?_⟩, ?_, ⟨putK lk (Sum.inr x) (.ref t2), ?_, lr2.mono fun t xs => SqT.same (.new hr')⟩, hne⟩ (fun b o e nb1 nb2 => ?_)
        · exact (Same.new hr') _ _ (by rw [upd_ne nTl]; exact h12)
        · exact (Same.new hr') _ _ (by rw [upd_ne hne]; exact hd2)
        · exact (Same.new hr') _ _ upd_same
        · exact (Same.new hr') _ _ (by rw [upd_ne nb2]; exact (Same.new ht2) _ _ (bt _ _ e nb1))
end
end K05

namespace K05
open PySem L2
/-- the table of two tuples, as __init__ makes it -/
def heldOf (ps : List (Key × V)) : Kvs := ps.foldl (fun m kv => putK m kv.1 kv.2) []
def lasOf (qs : List (Str × Int × V)) : Las := qs.foldl (fun m q => putL m (Sum.inr q.1) q.2) []
def spInit (K : PySem.W.Frag) (C : Addr) : Sp := fun vs H Q _ => ∃ (T dx hh aa : Addr) (o : Obj) (ps as : List V) (kvs : List (Key × V)) (qs : List (Str × Int × V)), vs = [.ref T, .ref hh, .ref aa] ∧ H T = some (.ins C dx []) ∧ H hh = some (.frz o (.tup ps)) ∧ o.dict = none ∧ ps.length = kvs.length ∧
  (∀ (j : Nat) (kv : Key × V), kvs[j]? = some kv → ∃ b, ps[j]? = some (.ref b) ∧ SqT K H b [kV kv.1, kv.2]) ∧ SqT K H aa as ∧ as.length = qs.length ∧ qs.length ≤ 900 ∧ (∀ (j : Nat) (q : Str × Int × V), qs[j]? = some q → ∃ b, as[j]? = some (.ref b) ∧ SqT K H b [.str q.1, .int q.2.1, q.2.2]) ∧
  ∀ (d l : Addr) (H' : Hp), H d = none → H l = none → TabAt K C H' T d l (heldOf kvs) (lasOf qs) → But T H H' → Q .non H'
theorem lasOf_len (qs : List (Str × Int × V)) : ∀ m : Las, (qs.foldl (fun m q => putL m (Sum.inr q.1) q.2) m).length ≤ m.length + qs.length := by
  induction qs with
  | nil => intro m; exact Nat.le_refl _
  | cons q r ih =>
    intro m
    have := ih (putL m (Sum.inr q.1) q.2)
    have := putL_len m (Sum.inr q.1) q.2
    simp only [List.foldl_cons, List.length_cons]
    omega
section
variable {P : Program} {w : World} {K : PySem.W.Frag} {mg : Str → Option Value} {base : Heap}
abbrev nInit : List Str := ["self", "held", "asked", "asker", "number", "answer"]
theorem scInit : FnScope nInit ["self", "held", "asked"] (defScope sInit) := ⟨rfl, rfl, rfl, by decide +kernel, rfl, by decide +kernel, by decide +kernel⟩
theorem ok_init {f C : Addr} {fd : FuncData} (F : Fun K "__init__" "Table.__init__" sInit f fd) (T : Cl K mg C) (B : Blt mg) : FnOk P w K mg base CX0 1 f fd ["self", "held", "asked"] (spInit K C) := by
  refine F.ok scInit (fun vs H Q E h => ?_) (fun cdv A outer s H vs Q E hr h => ?_)
  · obtain ⟨T', dx, hh, aa, o, ps, as, kvs, qs, rfl, _⟩ := h
    rfl
  · obtain ⟨T', dx, hh, aa, o, ps, as, kvs, qs, rfl, hT, hh1, ho, hpl, hps, haa, hal, hq9, has, q⟩ := h
    have hu := hu_of hr
    have nd := scInit.nd
    refine ⟨_, pss_cons (ps_fld (pv 0) (pe_callTy (call_dict rfl) (by rfl) B.dict bDict (pa_cons (pv 1) pa_nil)) rfl)
      (pss_cons (ps_fld (pv 0) pe_dnewK rfl)
      (pss_one (ps_for PassesOwn.never rfl (pi_tup (pv 2)) (pg_tup rfl (pgs_cons (pg_name (i := 3) nd rfl (Or.inl rfl)) (pgs_cons (pg_name (i := 4) nd rfl (Or.inl rfl)) (pgs_cons (pg_name (i := 5) nd rfl (Or.inl rfl)) pgs_nil))))
        (pss_one (ps_dput hu (pe_fld (pv 0) rfl) (pv 3) (pe_tup (pa_cons (pv 4) (pa_cons (pv 5) pa_nil))) rfl))))), ?_⟩
    refine ⟨_, rfl, hh, o, ps, kvs, rfl, hh1, ho, hpl, hps, fun d hd => ?_⟩
    have hT1 := (Same.new (o := .dK (heldOf kvs)) hd) _ _ hT
    refine ⟨_, rfl, T', C, dx, [], rfl, hT1, T.cl, T.nH, (by show 0 < 1000; decide), ?_⟩
    have nTd : T' ≠ d := ne_of_none hT hd
    intro l hl
    have nTl : T' ≠ l := ne_of_none upd_same hl
    have hlH : H l = none := by
      rw [upd_ne nTl.symm] at hl
      exact (Same.new (o := .dK (heldOf kvs)) hd).none hl
    have ndl : d ≠ l := by
      rintro rfl
      rw [upd_ne nTl.symm, upd_same] at hl
      cases hl
    refine ⟨_, rfl, T', C, dx, _, rfl, (by rw [upd_ne nTl]; exact upd_same), T.cl, T.nL, (by show 1 < 1000; decide), ?_⟩
    -- the heap of the loop
    have start : ∃ H3, H3 = upd (upd (upd (upd H d (.dK (heldOf kvs))) T' (.ins C dx (putF "held" (.ref d) []))) l (.dK [])) T' (.ins C dx (flds d l)) := ⟨_, rfl⟩
    obtain ⟨H3, e3⟩ := start
    have b3 : But T' H H3 := fun b o' e hb => by
      rw [e3, upd_ne hb, upd_ne (ne_of_none e hlH), upd_ne hb, upd_ne (ne_of_none e hd)]
      exact e
    have sqB : ∀ {H4 : Hp} {b : Addr} {xs : List V}, But T' H H4 → SqT K H b xs → SqT K H4 b xs := fun bt h => by
      rcases h with (h | ⟨o', h⟩) | h
      · exact .inl (.inl (bt _ _ h (ne_of h hT (by intro z; cases z))))
      · exact .inl (.inr ⟨o', bt _ _ h (ne_of h hT (by intro z; cases z))⟩)
      · exact .inr h
    refine ⟨_, rfl, aa, rfl, ⟨as, ?_⟩, for_tup (K := K) (a := aa) (xs := as) (fun i σ H4 => ∃ (u v w' : Option V), σ = [some (.ref T'), some (.ref hh), some (.ref aa), u, v, w'] ∧ But T' H H4 ∧ TabAt K C H4 T' d l (heldOf kvs) ((qs.take i).foldl (fun m q => putL m (Sum.inr q.1) q.2) []))
      ⟨none, none, none, rfl, ?_, ?_⟩ (fun i σ H4 _ ⟨_, _, _, _, bt, _⟩ => sqB bt haa) ?_ ?_⟩
    · have := sqB b3 haa
      rw [e3] at this
      exact this
    · rw [e3] at b3
      exact b3
    · refine ⟨⟨dx, upd_same⟩, ?_, ⟨[], ?_, .nil⟩, ndl⟩
      · rw [upd_ne nTd.symm, upd_ne ndl, upd_ne nTd.symm]
        exact upd_same
      · rw [upd_ne nTl.symm]
        exact upd_same
    · rintro i y σ H4 hy ⟨u, v, w', rfl, bt, S⟩
      have hi : i < as.length := (List.getElem?_eq_some_iff.mp hy).1
      obtain ⟨q', hq'⟩ : ∃ q', qs[i]? = some q' := ⟨_, List.getElem?_eq_getElem (by omega)⟩
      obtain ⟨b, hb, hbt⟩ := has i q' hq'
      rw [hb] at hy
      cases hy
      have et : qs.take (i + 1) = qs.take i ++ [q'] := by rw [List.take_add_one, hq']; rfl
      obtain ⟨⟨dx', h1⟩, hd4, ⟨lk, hl4, lr⟩, _⟩ := id S
      refine ⟨b, _, rfl, sqB bt hbt, rfl, _, _, rfl, _, _, rfl, _, _, rfl, rfl, ?_⟩
      refine ⟨_, rfl, _, rfl, (by show 2 ≤ sizeLine; decide), fun t ht => ?_⟩
      have h1' := (Same.new (o := .tup [V.int q'.2.1, q'.2.2]) ht) _ _ h1
      have hl' := (Same.new (o := .tup [V.int q'.2.1, q'.2.2]) ht) _ _ hl4
      have hd' := (Same.new (o := .tup [V.int q'.2.1, q'.2.2]) ht) _ _ hd4
      have hlen : lk.length < sizeLine := by
        have h2 := lasOf_len (qs.take i) []
        rw [← lr.len, List.length_take] at h2
        exact small1000 (by simp at h2; omega)
      refine ⟨_, rfl, T', C, dx', _, _, rfl, h1', T.cl, T.nL, flds_l _ _, _, rfl, l, _, rfl, DPut.k (k := Sum.inr q'.1) hl' hlen, ?_⟩
      refine ⟨_, _, _, rfl, fun c o' e hc => ?_, ⟨dx', ?_⟩, ?_, ⟨putK lk (Sum.inr q'.1) (.ref t), upd_same, ?_⟩, ndl⟩
      · rw [upd_ne (ne_of_none e hlH)]
        exact (Same.new ht) _ _ (bt _ _ e hc)
      · rw [upd_ne nTl]; exact h1'
      · rw [upd_ne ndl]; exact hd'
      · rw [et, List.foldl_append]
        exact LR.put (lr.mono fun t' xs e => (SqT.same (.new ht) e).upd hl') (Sum.inr q'.1) (SqT.upd (SqT.of upd_same) hl')
    · rintro σ H4 ⟨u, v, w', rfl, bt, S⟩
      rw [hal, List.take_length] at S
      exact q d l H4 hd hlH S bt
end
end K05

namespace L2
open PySem PySem.Spec PyProof.Rows
/-- the kind of a value, a known tuple among them -/
def TyX (K : PySem.W.Frag) (H : Hp) (x : V) (t : Value) : Prop := TyOf K H x t ∨ ∃ (a : Addr) (o : Obj) (zs : List V), x = .ref a ∧ H a = some (.frz o (.tup zs)) ∧ t = .type "tuple"
theorem TyX.tup {K : PySem.W.Frag} {H : Hp} {a : Addr} {xs : List V} (h : Rd H a (.tup xs)) : TyX K H (.ref a) (.type "tuple") := by
  rcases h with h | ⟨o, h⟩
  · exact .inl (.tup h)
  · exact .inr ⟨a, o, xs, rfl, h, rfl⟩
theorem call_isx {X : Cx} : CallR X (.builtin "isinstance") (fun xs H Q => ∃ x c t b, xs = [x, .ty c] ∧ TyX X.K H x t ∧ PySem.W.kitOne X.K t (.type c) = some b ∧ Q (.bl b) H) := by
  intro pins s σ H xs us Q I rv h
  obtain ⟨x, c, t, b, rfl, ty, e, q⟩ := h
  obtain ⟨u, u2, rfl, r1, r2⟩ := vals2 rv
  cases r2
  rcases ty with ty | ⟨a, o, zs, rfl, ea, rfl⟩
  · exact isinst_ok I r1 ty e fun tk => ⟨.bl b, H, I.tok tk, rfl, q⟩
  · cases (show u = Value.ref a from r1)
    obtain ⟨_, _, _, _, p⟩ := (show ObjOk X.prog X.w H s.heap a (.frz o (.tup zs)) from I.hok a _ ea)
    obtain ⟨o', h1, h2, _⟩ := p
    exact PySem.W.kia_one PySem.W.kitx_tuple I.kIn ⟨o', h1, h2⟩ e (fun z => nomatch z) fun tk => ⟨.bl b, H, I.tok tk, rfl, q⟩
theorem ix_tupC {X : Cx} {scope : Scope} {cl : List (Str × Addr)} {N2 ys : List Str} {C : Addr} {s : Shared} {H : Hp} {fp : List Addr} : IxR (cxC X scope cl N2 ys C s H fp) (rIxT X.K) := ix_tup
theorem Rd.same {H H' : Hp} {a : Addr} {u : HO} (e : Same H H') (h : Rd H a u) : Rd H' a u := by
  rcases h with h | ⟨o, h⟩
  · exact .inl (e _ _ h)
  · exact .inr ⟨o, e _ _ h⟩
theorem SqT.updL {K : PySem.W.Frag} {H : Hp} {d b : Addr} {m : List V} {o : HO} {xs : List V} (h : SqT K H b xs) (e : H d = some (.lst m)) : SqT K (L2.upd H d o) b xs := by
  rcases h with (h | ⟨o', h⟩) | h
  · exact .inl (.inl (by rw [upd_ne (ne_of h e (by intro z; cases z))]; exact h))
  · exact .inl (.inr ⟨o', by rw [upd_ne (ne_of h e (by intro z; cases z))]; exact h⟩)
  · exact .inr h
theorem kit_no {K : PySem.W.Frag} {T c : String} (h1 : (Value.type T == Value.type c) = false) (h2 : PySem.W.kitMeta c = true) (h3 : (PySem.W.subIn K (.type T) (.type c)) = some false) : PySem.W.kitOne K (.type T) (.type c) = some false := by
  unfold PySem.W.kitOne
  rw [if_neg (by rw [h1]; decide)]
  unfold PySem.W.kitCls
  dsimp only
  rw [if_pos h2]
  exact h3
theorem kit_nt {K : PySem.W.Frag} : PySem.W.kitOne K (.type "NoneType") (.type "tuple") = some false := kit_no (by decide +kernel) (by decide +kernel) (by with_unfolding_all rfl)
theorem kit_it {K : PySem.W.Frag} : PySem.W.kitOne K (.type "int") (.type "tuple") = some false := kit_no (by decide +kernel) (by decide +kernel) (by with_unfolding_all rfl)
theorem kit_st {K : PySem.W.Frag} : PySem.W.kitOne K (.type "str") (.type "tuple") = some false := kit_no (by decide +kernel) (by decide +kernel) (by with_unfolding_all rfl)
theorem kit_is {K : PySem.W.Frag} : PySem.W.kitOne K (.type "int") (.type "str") = some false := kit_no (by decide +kernel) (by decide +kernel) (by with_unfolding_all rfl)
end L2
namespace K05
open PySem L2
abbrev sAsks : Stmt := top 13
abbrev sSame : Stmt := top 12
abbrev sDone5 : Stmt := top 14
abbrev sDbl : Stmt := top 15
abbrev sRight : Stmt := top 16
abbrev sLaw : Stmt := top 17
abbrev nSame : List Str := ["_law_found", "_law_due"]
abbrev Rel2 := V → V → Hp → Prop
/-- alike: flat, or two tuples of things that are -/
def SameS (R : Rel2) : Rel2 := fun a b H => (a = b ∧ (a = .non ∨ (∃ i : Int, a = .int i) ∨ ∃ x : Str, a = .str x)) ∨
  ∃ (p r : Addr) (xs ys : List V), a = .ref p ∧ b = .ref r ∧ Rd H p (.tup xs) ∧ Rd H r (.tup ys) ∧ xs.length = ys.length ∧ xs.length ≤ 900 ∧ ∀ (i : Nat) (x y : V), xs[i]? = some x → ys[i]? = some y → R x y H
def SameN : Nat → Rel2
  | 0 => SameS fun _ _ _ => False
  | n + 1 => SameS (SameN n)
def Stable (R : Rel2) : Prop := ∀ a b H H', Same H H' → R a b H → R a b H'
theorem SameS.stable {R : Rel2} (h : Stable R) : Stable (SameS R) := fun a b H H' e q => by
  rcases q with q | ⟨p, r, xs, ys, e1, e2, h1, h2, h3, h4, h5⟩
  · exact .inl q
  · exact .inr ⟨p, r, xs, ys, e1, e2, h1.same e, h2.same e, h3, h4, fun i x y hx hy => h x y H H' e (h5 i x y hx hy)⟩
theorem SameN.stable : ∀ n, Stable (SameN n)
  | 0 => SameS.stable fun _ _ _ _ _ h => h
  | n + 1 => SameS.stable (SameN.stable n)
theorem SameN.flat {n : Nat} {a : V} {H : Hp} (h : a = .non ∨ (∃ i : Int, a = .int i) ∨ ∃ x : Str, a = .str x) : SameN n a a H := by
  cases n with
  | zero => exact .inl ⟨rfl, h⟩
  | succ n => exact .inl ⟨rfl, h⟩
def spSame (R : Rel2) : Sp := fun vs H Q _ => ∃ a b : V, vs = [a, b] ∧ R a b H ∧ ∀ H', Same H H' → Q (.bl true) H'
section
variable {P : Program} {w : World} {K : PySem.W.Frag} {mg : Str → Option Value} {base : Heap}
theorem scSame : FnScope nSame nSame (defScope sSame) := ⟨rfl, rfl, rfl, by decide +kernel, rfl, by decide +kernel, by decide +kernel⟩
theorem ndSK : (nSame ++ (["_law_k"] : List Str)).Nodup := by decide +kernel
theorem same_body {f : Addr} {fd : FuncData} {k : Nat} {R : Rel2} (F : Fun K "_law_same" "_law_same" sSame f fd) (B : Blt mg) (st : Stable R) (Fr : FnAt P w K mg base k "_law_same" nSame (spSame R)) : FnOk P w K mg base CX0 (k + 1) f fd nSame (spSame (SameS R)) := by
  refine F.ok scSame (fun vs H Q E h => ?_) (fun cdv A outer s H vs Q E hr h => ?_)
  · obtain ⟨a, b, rfl, _⟩ := h
    rfl
  · obtain ⟨a, b, rfl, hab, q⟩ := h
    refine ⟨_, pss_cons (ps_if (pt_val (pe_callB call_isx (by rfl) B.isi bIsi (pa_cons (pv 1) (pa_cons (pe_bltn (v := .ty "tuple") (by rfl) B.tuple bTuple rfl) pa_nil))))
        (pss_cons (ps_if (PW.pt (pw_or (pt_not (pt_val (pe_callB call_isx (by rfl) B.isi bIsi (pa_cons (pv 0) (pa_cons (pe_bltn (v := .ty "tuple") (by rfl) B.tuple bTuple rfl) pa_nil))))) <|
            pw_or1 (pt_cmpR op_ne (pe_callB call_len_seq (by rfl) B.len PySem.boot_len (pa_cons (pv 0) pa_nil)) (pe_callB call_len_seq (by rfl) B.len PySem.boot_len (pa_cons (pv 1) pa_nil)) (nomark _)))) (pss_one (ps_ret pe_bl)) pss_nil) <|
          pss_one <| ps_ret <| pe_callB (call_allB rfl) (by rfl) B.all bAll (pa_cons (pe_lc nSame nSame ["_law_k"] (defScope sSame) rfl rfl rfl (by decide +kernel) rfl rfl (by decide +kernel) (by decide +kernel) (by decide +kernel) (by decide +kernel)
            (pi_range1 (by rfl) B.range (pa_cons (pe_callB call_len_seq (by rfl) B.len PySem.boot_len (pa_cons (pv 1) pa_nil)) pa_nil)) (fun _ _ _ _ _ => pg_name (i := 2) ndSK rfl (Or.inl rfl)) (fun _ _ _ _ _ => pts_nil)
            (fun _ _ _ _ _ => pe_callF Fr hr (pa_cons (pe_ix ix_tupC (pv 0) (pv 2) (fun _ _ => rfl)) (pa_cons (pe_ix ix_tupC (pv 1) (pv 2) (fun _ _ => rfl)) pa_nil)))) pa_nil))
        pss_nil) <|
      pss_cons (ps_if (pt_cmpR op_isN (pv 1) pe_non (nomark _)) (pss_one (ps_ret (pe_cmpR op_isN (pv 0) pe_non (nomark _)))) pss_nil) <|
      pss_cons (ps_if (pt_val (pe_callB call_isx (by rfl) B.isi bIsi (pa_cons (pv 1) (pa_cons (pe_bltn (v := .ty "str") (by rfl) B.str bStr rfl) pa_nil))))
        (pss_one (ps_ret (pe_and (pe_callB call_isx (by rfl) B.isi bIsi (pa_cons (pv 0) (pa_cons (pe_bltn (v := .ty "str") (by rfl) B.str bStr rfl) pa_nil))) (pe_one (pe_cmpR op_eq (pv 0) (pv 1) (nomark _)))))) pss_nil) <|
      pss_one <| ps_ret <| pe_and (pe_callB call_isx (by rfl) B.isi bIsi (pa_cons (pv 0) (pa_cons (pe_bltn (v := .ty "int") (by rfl) B.int bInt rfl) pa_nil))) <|
        pe_and (pe_not (pe_callB call_isx (by rfl) B.isi bIsi (pa_cons (pv 0) (pa_cons (pe_bltn (v := .ty "bool") (by rfl) B.bool bBool rfl) pa_nil)))) <|
        pe_one <| pe_cmpR op_eq (pv 0) (pv 1) (nomark _), ?_⟩
    have qq : Q (.bl true) H := q H (Same.refl H)
    rcases hab with ⟨rfl, rfl | ⟨i, rfl⟩ | ⟨x, rfl⟩⟩ | ⟨p, r, xs, ys, rfl, rfl, h1, h2, h3, h4, h5⟩
    · refine ⟨_, rfl, _, _, _, _, rfl, .inl .non, kit_nt, _, rfl, ?_⟩
      refine iteF ?_
      refine ⟨_, rfl, rfl, _, rfl, ?_⟩
      refine ite2 (fun _ => ?_) (fun z => absurd (decide_eq_true rfl) z)
      exact ⟨_, rfl, rfl, qq⟩
    · refine ⟨_, rfl, _, _, _, _, rfl, .inl (.int i), kit_it, _, rfl, ?_⟩
      refine iteF ?_
      refine ⟨_, rfl, rfl, _, rfl, ?_⟩
      refine ite2 (fun z => absurd (of_decide_eq_true z) (by simp)) (fun _ => ?_)
      refine ⟨_, rfl, _, _, _, _, rfl, .inl (.int i), kit_is, _, rfl, ?_⟩
      refine iteF ?_
      refine ⟨_, rfl, _, _, _, _, rfl, .inl (.int i), kit_self, _, rfl, ?_⟩
      refine iteT ?_
      refine ⟨_, rfl, _, _, _, _, rfl, .inl (.int i), kit_ib, _, rfl, _, rfl, ?_⟩
      refine iteT ?_
      refine ⟨_, rfl, _, rfl, rfl, ?_⟩
      have e : decide (V.int i = V.int i) = true := decide_eq_true rfl
      rw [e]
      exact qq
    · refine ⟨_, rfl, _, _, _, _, rfl, .inl (.str x), kit_st, _, rfl, ?_⟩
      refine iteF ?_
      refine ⟨_, rfl, rfl, _, rfl, ?_⟩
      refine ite2 (fun z => absurd (of_decide_eq_true z) (by simp)) (fun _ => ?_)
      refine ⟨_, rfl, _, _, _, _, rfl, .inl (.str x), kit_self, _, rfl, ?_⟩
      refine iteT ?_
      refine ⟨_, rfl, _, _, _, _, rfl, .inl (.str x), kit_self, _, rfl, ?_⟩
      refine iteT ?_
      refine ⟨_, rfl, _, rfl, rfl, ?_⟩
      have e : decide (V.str x = V.str x) = true := decide_eq_true rfl
      rw [e]
      exact qq
    · refine ⟨_, rfl, _, _, _, _, rfl, TyX.tup h2, kit_self, _, rfl, ?_⟩
      refine iteT ?_
      refine ⟨_, rfl, _, _, _, _, rfl, TyX.tup h1, kit_self, _, rfl, ?_⟩
      refine iteF ?_
      refine ⟨_, rfl, p, _, rfl, .inr (.inl h1), _, rfl, r, _, rfl, .inr (.inl h2), rfl, _, rfl, ?_⟩
      refine ite2 (fun z => absurd z (by simp [h3])) (fun _ => ?_)
      refine ⟨_, rfl, r, _, rfl, .inr (.inl h2), (ys.length : Int), rfl, by omega, by omega, ?_⟩
      rw [Int.toNat_natCast]
      refine lcP (n := ys.length) (fun i => .int (0 + i)) (fun D i zs H' => H D = none ∧ zs = List.replicate i (.bl true) ∧ Same H H' ∧ H' D = some (.lst zs)) ?_ ?_ ?_ ?_ ?_ ?_
      · rintro D i zs H' hi _
        exact hi
      · rintro D i zs H' x H'' hi _ ⟨e, y⟩
        exact ⟨e, y⟩
      · rintro D zs H' _
        exact Nat.le_refl _
      · intro D hD
        exact ⟨hD, rfl, .new hD, upd_same⟩
      · rintro D i zs H' yes no hi ⟨hD, rfl, sm, hH'⟩ hy hn
        refine ⟨⟨[some (.int (0 + i))], rfl, rfl⟩, ?_⟩
        refine iteT (B := no H') ?_
        obtain ⟨x, hx⟩ : ∃ x, xs[i]? = some x := ⟨_, List.getElem?_eq_getElem (by omega)⟩
        obtain ⟨y, hyy⟩ : ∃ y, ys[i]? = some y := ⟨_, List.getElem?_eq_getElem hi⟩
        have e0 : (0 + (i : Int)) = (i : Int) := by omega
        refine ⟨_, rfl, _, rfl, p, xs, _, x, rfl, rfl, .inl (h1.same sm), (by rw [e0]; exact atI_nat hx), _, rfl, _, rfl, r, ys, _, y, rfl, rfl, .inl (h2.same sm), (by rw [e0]; exact atI_nat hyy), ?_⟩
        refine ⟨x, y, rfl, st _ _ _ _ sm (h5 i x y hx hyy), fun H'' sm2 => ?_⟩
        refine hy (.bl true) H'' (sm2 _ _ hH') (by rw [List.length_replicate]; exact small1000 (by omega)) ⟨hD, by rw [← List.replicate_succ'], fun b o e => ?_, upd_same⟩
        rw [upd_ne (ne_of_none e hD)]
        exact sm2 _ _ (sm _ _ e)
      · rintro D zs H' ⟨hD, rfl, sm, hH'⟩
        refine ⟨D, List.replicate ys.length true, rfl, SqL.of (by rw [List.map_replicate]; exact hH'), ?_⟩
        have e : (List.replicate ys.length true).all id = true := by
          rw [List.all_eq_true]
          intro b hb
          rw [List.eq_of_mem_replicate hb]
          rfl
        rw [e]
        exact q H' sm
theorem ok_same {f : Addr} {fd : FuncData} (F : Fun K "_law_same" "_law_same" sSame f fd) (B : Blt mg) (m : mg "_law_same" = some (.ref f)) (kp : PySem.W.keepIn K (.ref f) = true) (b : Binds K fd nSame []) :
    ∀ n, FnAt P w K mg base (n + 1) "_law_same" nSame (spSame (SameN n))
  | 0 => ⟨f, fd, same_body F B (fun _ _ _ _ _ h => h) ⟨f, fd, ⟨fun _ _ _ _ h => (by obtain ⟨_, _, rfl, _⟩ := h; rfl), fun _ _ _ _ _ _ _ _ _ _ _ _ _ h => (by obtain ⟨_, _, _, h, _⟩ := h; exact h.elim)⟩, m, kp, b⟩, m, kp, b⟩
  | n + 1 => ⟨f, fd, same_body F B (SameN.stable n) (ok_same F B m kp b n), m, kp, b⟩
end
end K05

namespace L2
open PySem PySem.Spec PyProof.Rows
theorem pg_tupC {X : Cx} {scope : Scope} {cl : List (Str × Addr)} {N2 ys : List Str} {C : Addr} {s : Shared} {H : Hp} {fp : List Addr} {pos : Pos} {es : List Expr} {k : Nat} {t : TGs} {n : Nat} (hc : X.calm = true) (h : PGs (cxC X scope cl N2 ys C s H fp) es t)
    (hn : (assignEach es (cxC X scope cl N2 ys C s H fp).env).length = n := by rfl) (hst : (assignEach es (cxC X scope cl N2 ys C s H fp).env).findIdx? (·.1) = none := by rfl) : PG (cxC X scope cl N2 ys C s H fp) (.Tuple es k pos) (gTup X.K n t) :=
  pg_tup (X := cxC X scope cl N2 ys C s H fp) hc h hn hst
end L2
namespace K05
open PySem L2
/-- an ask stands at r: of one of the askers as -/
structure AskIs where
  x : Str
  n : Int
  wk : Wk
def AskAt (K : PySem.W.Frag) (as : List Str) (H : Hp) (r : Addr) (k : AskIs) : Prop := ∃ t, SqT K H r [.str k.x, .int k.n, .ref t] ∧ SqT K H t k.wk.vs ∧ 1 ≤ k.n ∧ k.x ∈ as
theorem AskAt.mono {K : PySem.W.Frag} {as : List Str} {H H' : Hp} {r : Addr} {k : AskIs} (h : AskAt K as H r k) (e : ∀ t xs, SqT K H t xs → SqT K H' t xs) : AskAt K as H' r k := by
  obtain ⟨t, h1, h2, h3, h4⟩ := h
  exact ⟨t, e _ _ h1, e _ _ h2, h3, h4⟩
end K05

namespace K05
open PySem L2
section
variable {P : Program} {w : World} {K : PySem.W.Frag} {mg : Str → Option Value} {base : Heap}
/-- a method, known by its promise -/
structure MeAt (P : Program) (w : World) (K : PySem.W.Frag) (mg : Str → Option Value) (base : Heap) (C : Addr) (k : Nat) (x : Str) (ps : List Str) (sp : Sp) : Prop where
  ex : ∃ f fd, FnOk P w K mg base CX0 k f fd ps sp ∧ Binds K fd ps [] ∧ Meth K C x f
structure MkAt (P : Program) (w : World) (K : PySem.W.Frag) (mg : Str → Option Value) (base : Heap) (C : Addr) (k : Nat) (ps : List Str) (sp : Sp) : Prop where
  ex : ∃ f fd, FnOk P w K mg base CX0 k f fd ps sp ∧ Binds K fd ps [] ∧ Mk K C f
def spLaw (K : PySem.W.Frag) : Sp := fun vs H Q _ => ∃ (a : Addr) (ns : List Int), vs = [.ref a] ∧ SqL K H a (ns.map V.int) ∧ ns.length ≤ 63 ∧ ∀ H', Q (.bl true) H'
theorem TabAt.but2 {K : PySem.W.Frag} {C : Addr} {H H' : Hp} {T d l h g : Addr} {kvs : Kvs} {las : Las} {m m' : Kvs} (S : TabAt K C H T d l kvs las) (e : But2 h g H H') (hh : H h = some (.dK m)) (hg : H g = some (.dK m')) (n1 : h ≠ d) (n2 : h ≠ l) (n3 : g ≠ d) (n4 : g ≠ l) : TabAt K C H' T d l kvs las := by
  obtain ⟨⟨dx, h1⟩, hd, ⟨lk, hl, lr⟩, hne⟩ := S
  refine ⟨⟨dx, e _ _ h1 (ne_of h1 hh (by intro z; cases z)) (ne_of h1 hg (by intro z; cases z))⟩, e _ _ hd n1.symm n3.symm, ⟨lk, e _ _ hl n2.symm n4.symm, lr.mono fun t xs q => ?_⟩, hne⟩
  rcases q with (q | ⟨o', q⟩) | q
  · exact .inl (.inl (e _ _ q (ne_of q hh (by intro z; cases z)) (ne_of q hg (by intro z; cases z))))
  · exact .inl (.inr ⟨o', e _ _ q (ne_of q hh (by intro z; cases z)) (ne_of q hg (by intro z; cases z))⟩)
  · exact .inr q
theorem TabAt.same {K : PySem.W.Frag} {C : Addr} {H H' : Hp} {T d l : Addr} {kvs : Kvs} {las : Las} (S : TabAt K C H T d l kvs las) (e : Same H H') : TabAt K C H' T d l kvs las := by
  obtain ⟨⟨dx, h1⟩, hd, ⟨lk, hl, lr⟩, hne⟩ := S
  exact ⟨⟨dx, e _ _ h1⟩, e _ _ hd, ⟨lk, e _ _ hl, lr.mono fun t xs => SqT.same e⟩, hne⟩
theorem SqT.but2 {K : PySem.W.Frag} {H H' : Hp} {h g t : Addr} {m m' : Kvs} {xs : List V} (e : But2 h g H H') (hh : H h = some (.dK m)) (hg : H g = some (.dK m')) (q : SqT K H t xs) : SqT K H' t xs := by
  rcases q with (q | ⟨o', q⟩) | q
  · exact .inl (.inl (e _ _ q (ne_of q hh (by intro z; cases z)) (ne_of q hg (by intro z; cases z))))
  · exact .inl (.inr ⟨o', e _ _ q (ne_of q hh (by intro z; cases z)) (ne_of q hg (by intro z; cases z))⟩)
  · exact .inr q
/-- what is held behind an ask: ints; what came of it: few; of whom -/
theorem heldR_ints {kvs : Kvs} {las : Las} (h : Ints kvs) (x : Str) (n : Int) (wk : Wk) : Ints (heldR kvs las x n wk) := by
  unfold heldR
  split
  · exact h
  · split
    · exact h
    · exact h.to wk
theorem heldR_len (kvs : Kvs) (las : Las) (x : Str) (n : Int) (wk : Wk) : (heldR kvs las x n wk).length ≤ kvs.length + 1 := by
  unfold heldR
  split
  · exact Nat.le_succ _
  · split
    · exact Nat.le_succ _
    · exact to_len kvs wk
theorem lasR_len (kvs : Kvs) (las : Las) (x : Str) (n : Int) (wk : Wk) : (lasR kvs las x n wk).length ≤ las.length + 1 := by
  unfold lasR
  split
  · exact Nat.le_succ _
  · split
    · exact Nat.le_succ _
    · exact putL_len _ _ _
/-- answers are numbers or None; the askers are among as -/
def Good (as : List Str) (las : Las) : Prop := ∀ k q, getL las k = some q → (∃ x ∈ as, k = Sum.inr x) ∧ (q.2 = .non ∨ ∃ i : Int, q.2 = .int i)
theorem Good.to {as : List Str} {kvs : Kvs} {las : Las} (h : Good as las) (hI : Ints kvs) {x : Str} (hx : x ∈ as) (n : Int) (wk : Wk) : Good as (lasR kvs las x n wk) := by
  unfold lasR
  split
  · exact h
  · split
    · exact h
    · intro k q e
      rw [getL_put] at e
      split at e
      · rename_i hk
        cases e
        exact ⟨⟨x, hx, hk⟩, hI.ans wk⟩
      · exact h k q e
theorem ansR_flat {as : List Str} {kvs : Kvs} {las : Las} (h : Good as las) (hI : Ints kvs) (x : Str) (n : Int) (wk : Wk) : ansR kvs las x n wk = .non ∨ (∃ i : Int, ansR kvs las x n wk = .int i) ∨ ∃ y : Str, ansR kvs las x n wk = .str y := by
  unfold ansR
  split
  · exact .inl rfl
  · split
    · unfold lastA
      cases e : getL las (Sum.inr x : Key) with
      | none => exact .inl rfl
      | some q =>
        rcases (h _ _ e).2 with z | z
        · exact .inl z
        · exact .inr (.inl z)
    · rcases hI.ans wk with z | z
      · exact .inl z
      · exact .inr (.inl z)
theorem tagR_str (las : Las) (x : Str) (n : Int) : ∃ y : Str, tagR las x n = .str y := by
  unfold tagR
  split
  · exact ⟨_, rfl⟩
  · split <;> exact ⟨_, rfl⟩
end
end K05

/-! the mathematics of tables told -/
namespace KM
open PySem PySem.Spec L2
def keyOf : Key → Str
  | .inr x => x
  | .inl _ => ""
def keysS {α : Type} (l : List (Key × α)) : List Str := l.map fun p => keyOf p.1
/-- keys are texts, none twice -/
structure GoodK {α : Type} (l : List (Key × α)) : Prop where
  txt : ∀ p ∈ l, ∃ x : Str, p.1 = Sum.inr x
  nd : (l.map (·.1)).Nodup
theorem GoodK.keys {α : Type} {l : List (Key × α)} (h : GoodK l) : l.map (·.1) = (keysS l).map Sum.inr := by
  unfold keysS
  rw [List.map_map]
  refine List.map_congr_left fun p hp => ?_
  obtain ⟨x, e⟩ := h.txt p hp
  show p.1 = Sum.inr (keyOf p.1)
  rw [e]; rfl
theorem inj_inr {l : List Str} (h : (l.map (Sum.inr : Str → Key)).Nodup) : l.Nodup := by
  induction l with
  | nil => exact List.nodup_nil
  | cons x r ih =>
    have h : ((Sum.inr x : Key) :: r.map Sum.inr).Nodup := h
    obtain ⟨h1, h2⟩ := List.nodup_cons.mp h
    exact List.nodup_cons.mpr ⟨fun m => h1 (List.mem_map.mpr ⟨x, m, rfl⟩), ih h2⟩
theorem GoodK.nodup {α : Type} {l : List (Key × α)} (h : GoodK l) : (keysS l).Nodup := inj_inr (by rw [← h.keys]; exact h.nd)
theorem GoodK.mem {α : Type} {l : List (Key × α)} (h : GoodK l) {x : Str} : x ∈ keysS l ↔ (Sum.inr x : Key) ∈ l.map (·.1) := by
  rw [h.keys]
  constructor
  · intro m; exact List.mem_map.mpr ⟨x, m, rfl⟩
  · intro m
    obtain ⟨y, hy, e⟩ := List.mem_map.mp m
    cases e; exact hy
/-- the look, over any values -/
def getG {α : Type} (l : List (Key × α)) (k : Key) : Option α := (l.find? fun kv => decide (kv.1 = k)).map (·.2)
def putG {α : Type} (l : List (Key × α)) (k : Key) (v : α) : List (Key × α) := if (l.any fun kv => decide (kv.1 = k)) = true then l.map (fun kv => if kv.1 = k then (kv.1, v) else kv) else l ++ [(k, v)]
section
variable {α : Type}
theorem getG_pos {p : Key × α} {r : List (Key × α)} {k : Key} (e : p.1 = k) : getG (p :: r) k = some p.2 := by simp [getG, List.find?_cons, e]
theorem getG_neg {p : Key × α} {r : List (Key × α)} {k : Key} (e : ¬ p.1 = k) : getG (p :: r) k = getG r k := by simp [getG, List.find?_cons, e]
theorem getG_any (k : Key) : ∀ l : List (Key × α), (l.any fun kv => decide (kv.1 = k)) = (getG l k).isSome
  | [] => rfl
  | p :: r => by
    rw [List.any_cons]
    by_cases e : p.1 = k
    · simp only [getG_pos e, decide_eq_true e, Bool.true_or, Option.isSome_some]
    · rw [getG_neg e, decide_eq_false e, Bool.false_or]; exact getG_any k r
theorem getG_mem {l : List (Key × α)} {k : Key} : k ∈ l.map (·.1) ↔ (getG l k).isSome = true := by
  rw [← getG_any, List.any_eq_true]
  constructor
  · intro m
    obtain ⟨p, hp, e⟩ := List.mem_map.mp m
    exact ⟨p, hp, decide_eq_true e⟩
  · rintro ⟨p, hp, e⟩
    exact List.mem_map.mpr ⟨p, hp, of_decide_eq_true e⟩
theorem getG_map (k j : Key) (y : α) : ∀ l : List (Key × α), getG (l.map fun kv => if kv.1 = k then (kv.1, y) else kv) j = (getG l j).map fun x => if j = k then y else x
  | [] => rfl
  | p :: r => by
    have ih := getG_map k j y r
    rw [List.map_cons]
    by_cases h : p.1 = k
    · rw [if_pos h]
      by_cases e : p.1 = j
      · rw [getG_pos (p := (p.1, y)) e, getG_pos e, Option.map_some, if_pos (e.symm.trans h)]
      · rw [getG_neg (p := (p.1, y)) e, getG_neg e, ih]
    · rw [if_neg h]
      by_cases e : p.1 = j
      · rw [getG_pos (p := p) e, getG_pos e, Option.map_some, if_neg (fun z => h (e.trans z))]
      · rw [getG_neg (p := p) e, getG_neg e, ih]
theorem getG_snoc (k j : Key) (y : α) : ∀ l : List (Key × α), getG l k = none → getG (l ++ [(k, y)]) j = if j = k then some y else getG l j
  | [], _ => by
    by_cases e : k = j
    · rw [if_pos e.symm]; exact getG_pos (p := (k, y)) e
    · rw [if_neg (fun z => e z.symm)]; exact getG_neg (p := (k, y)) e
  | p :: r, hn => by
    rw [List.cons_append]
    have hk : ¬ p.1 = k := fun z => by rw [getG_pos z] at hn; cases hn
    rw [getG_neg hk] at hn
    have ih := getG_snoc k j y r hn
    by_cases e : p.1 = j
    · rw [getG_pos e, getG_pos e, if_neg (fun z => hk (e.trans z))]
    · rw [getG_neg e, getG_neg e, ih]
theorem getG_put (l : List (Key × α)) (k j : Key) (y : α) : getG (putG l k y) j = if j = k then some y else getG l j := by
  unfold putG
  by_cases a : (l.any fun kv => decide (kv.1 = k)) = true
  · rw [if_pos a, getG_map]
    rw [getG_any] at a
    by_cases e : j = k
    · obtain ⟨x, hx⟩ := Option.isSome_iff_exists.mp a
      rw [if_pos e, e, hx, Option.map_some, if_pos rfl]
    · rw [if_neg e]
      cases getG l j with
      | none => rfl
      | some x => rw [Option.map_some, if_neg e]
  · rw [if_neg a]
    refine getG_snoc k j y l ?_
    rw [getG_any] at a
    cases q : getG l k with
    | none => rfl
    | some x => rw [q] at a; exact (a rfl).elim
theorem GoodK.put {l : List (Key × α)} (h : GoodK l) (x : Str) (v : α) : GoodK (putG l (Sum.inr x) v) := by
  unfold putG
  by_cases a : (l.any fun kv => decide (kv.1 = (Sum.inr x : Key))) = true
  · rw [if_pos a]
    have e : (l.map (fun kv => if kv.1 = (Sum.inr x : Key) then (kv.1, v) else kv)).map (·.1) = l.map (·.1) := by
      rw [List.map_map]
      refine List.map_congr_left fun p _ => ?_
      show (if p.1 = (Sum.inr x : Key) then (p.1, v) else p).1 = p.1
      split <;> rfl
    refine ⟨fun p hp => ?_, by rw [e]; exact h.nd⟩
    have : p.1 ∈ l.map (·.1) := by rw [← e]; exact List.mem_map.mpr ⟨p, hp, rfl⟩
    obtain ⟨q, hq, eq⟩ := List.mem_map.mp this
    obtain ⟨y, ey⟩ := h.txt q hq
    exact ⟨y, eq.symm.trans ey⟩
  · rw [if_neg a]
    refine ⟨fun p hp => ?_, ?_⟩
    · rcases List.mem_append.mp hp with q | q
      · exact h.txt p q
      · rw [List.mem_singleton.mp q]; exact ⟨x, rfl⟩
    · rw [List.map_append]
      refine nd_snoc h.nd fun m => a ?_
      rw [getG_any]
      exact getG_mem.mp m
theorem getG_drop (l : List (Key × α)) (k j : Key) : getG (l.filter fun kv => decide (kv.1 ≠ k)) j = if j = k then none else getG l j := by
  induction l with
  | nil => simp [getG]
  | cons p r ih =>
    rw [List.filter_cons]
    by_cases e : p.1 = k
    · rw [if_neg (by simp [e]), ih]
      by_cases e2 : j = k
      · rw [if_pos e2, if_pos e2]
      · rw [if_neg e2, if_neg e2, getG_neg (fun z => e2 (z.symm.trans e))]
    · rw [if_pos (by simp [e])]
      by_cases e2 : p.1 = j
      · rw [getG_pos e2, getG_pos e2, if_neg (fun z => e (e2.trans z))]
      · rw [getG_neg e2, getG_neg e2, ih]
theorem GoodK.drop {l : List (Key × α)} (h : GoodK l) (k : Key) : GoodK (l.filter fun kv => decide (kv.1 ≠ k)) :=
  ⟨fun p hp => h.txt p (List.mem_filter.mp hp).1, h.nd.sublist (List.Sublist.map _ (List.filter_sublist))⟩
theorem fold_get (l : List (Key × α)) : ∀ (m : List (Key × α)) (j : Key), (l.map (·.1)).Nodup → getG (l.foldl (fun m kv => putG m kv.1 kv.2) m) j = (match getG l j with | some v => some v | none => getG m j) := by
  induction l with
  | nil => intro m j _; rfl
  | cons p r ih =>
    intro m j hn
    have hn : (p.1 :: r.map (·.1)).Nodup := hn
    obtain ⟨h1, h2⟩ := List.nodup_cons.mp hn
    rw [List.foldl_cons, ih _ j h2, getG_put]
    by_cases e : p.1 = j
    · have hr : getG r j = none := by
        cases q : getG r j with
        | none => rfl
        | some v =>
          exfalso
          exact h1 (by rw [e]; exact getG_mem.mpr (by rw [q]; rfl))
      rw [hr, getG_pos e, if_pos e.symm]
    · rw [getG_neg e, if_neg (fun z => e z.symm)]
theorem fold_good (l : List (Key × α)) : ∀ m : List (Key × α), (∀ p ∈ l, ∃ x : Str, p.1 = Sum.inr x) → GoodK m → GoodK (l.foldl (fun m kv => putG m kv.1 kv.2) m) := by
  induction l with
  | nil => intro m _ h; exact h
  | cons p r ih =>
    intro m hl h
    rw [List.foldl_cons]
    obtain ⟨x, e⟩ := hl p List.mem_cons_self
    refine ih _ (fun q hq => hl q (List.mem_cons_of_mem _ hq)) ?_
    rw [e]; exact h.put x p.2
theorem fold_len (l : List (Key × α)) : ∀ m : List (Key × α), (l.foldl (fun m kv => putG m kv.1 kv.2) m).length ≤ m.length + l.length := by
  induction l with
  | nil => intro m; exact Nat.le_refl _
  | cons p r ih =>
    intro m
    have := ih (putG m p.1 p.2)
    have h2 : (putG m p.1 p.2).length ≤ m.length + 1 := by
      unfold putG
      split
      · rw [List.length_map]; omega
      · rw [List.length_append]; exact Nat.le_refl _
    simp only [List.foldl_cons, List.length_cons]
    omega
/-- a list made of keys -/
theorem getG_of (f : Str → α) : ∀ (ss : List Str) (x : Str), getG (ss.map fun k => ((Sum.inr k : Key), f k)) (Sum.inr x) = if x ∈ ss then some (f x) else none
  | [], x => by simp [getG]
  | k :: r, x => by
    rw [List.map_cons]
    by_cases e : k = x
    · subst e
      rw [getG_pos (p := ((Sum.inr k : Key), f k)) rfl, if_pos List.mem_cons_self]
    · rw [getG_neg (p := ((Sum.inr k : Key), f k)) (fun z => e (Sum.inr.inj z)), getG_of f r x]
      by_cases m : x ∈ r
      · rw [if_pos m, if_pos (List.mem_cons_of_mem _ m)]
      · rw [if_neg m, if_neg (fun z => by
          rcases List.mem_cons.mp z with q | q
          · exact e q.symm
          · exact m q)]
/-- made anew of what is told: the same look -/
theorem remade {l : List (Key × α)} (h : GoodK l) {ss : List Str} (hp : ss.Perm (keysS l)) (f : Str → α) (hf : ∀ x v, getG l (Sum.inr x) = some v → f x = v) :
    (∀ k, getG ((ss.map fun k => ((Sum.inr k : Key), f k)).foldl (fun m kv => putG m kv.1 kv.2) []) k = getG l k) ∧ GoodK ((ss.map fun k => ((Sum.inr k : Key), f k)).foldl (fun m kv => putG m kv.1 kv.2) []) := by
  have ek : (ss.map fun k => ((Sum.inr k : Key), f k)).map (·.1) = ss.map Sum.inr := by rw [List.map_map]; rfl
  have hn : ((ss.map fun k => ((Sum.inr k : Key), f k)).map (·.1)).Nodup := by
    rw [ek]
    have h1 := (hp.map (Sum.inr : Str → Key))
    rw [← h.keys] at h1
    exact h1.nodup_iff.mpr h.nd
  refine ⟨fun k => ?_, fold_good _ _ (fun p hp => ?_) ⟨fun p hp => (by cases hp), List.nodup_nil⟩⟩
  · rw [fold_get _ _ _ hn]
    cases k with
    | inr x =>
      rw [getG_of]
      by_cases m : x ∈ ss
      · rw [if_pos m]
        have hm := getG_mem.mp (h.mem.mp (hp.mem_iff.mp m))
        obtain ⟨v, hv⟩ := Option.isSome_iff_exists.mp hm
        rw [hv, hf x v hv]
      · rw [if_neg m]
        cases q : getG l (Sum.inr x) with
        | none => rfl
        | some v => exact absurd (hp.mem_iff.mpr (h.mem.mpr (getG_mem.mpr (by rw [q]; rfl)))) m
    | inl i =>
      have h1 : getG (ss.map fun k => ((Sum.inr k : Key), f k)) (Sum.inl i) = none := by
        cases q : getG (ss.map fun k => ((Sum.inr k : Key), f k)) (Sum.inl i) with
        | none => rfl
        | some v =>
          have : (Sum.inl i : Key) ∈ (ss.map fun k => ((Sum.inr k : Key), f k)).map (·.1) := getG_mem.mpr (by rw [q]; rfl)
          rw [ek] at this
          obtain ⟨_, _, e⟩ := List.mem_map.mp this
          cases e
      have h2 : getG l (Sum.inl i) = none := by
        cases q : getG l (Sum.inl i) with
        | none => rfl
        | some v =>
          have : (Sum.inl i : Key) ∈ l.map (·.1) := getG_mem.mpr (by rw [q]; rfl)
          rw [h.keys] at this
          obtain ⟨_, _, e⟩ := List.mem_map.mp this
          cases e
      rw [h1, h2]; rfl
  · obtain ⟨k, _, rfl⟩ := List.mem_map.mp hp
    exact ⟨k, rfl⟩
end
/-! the order of texts -/
theorem lt_anti : ∀ {a b : List Nat}, ltCps a b = false → ltCps b a = false → a = b
  | [], [], _, _ => rfl
  | [], _ :: _, h, _ => by simp [ltCps] at h
  | _ :: _, [], _, h => by simp [ltCps] at h
  | x :: r, y :: t, h1, h2 => by
    simp only [ltCps, Bool.or_eq_false_iff, decide_eq_false_iff_not, Bool.and_eq_false_iff, beq_eq_false_iff_ne] at h1 h2
    have e : x = y := by omega
    subst e
    have h3 := h1.2.resolve_left (fun z => z rfl)
    have h4 := h2.2.resolve_left (fun z => z rfl)
    rw [lt_anti h3 h4]
theorem leS_anti {a b : Str} (h1 : leS a b) (h2 : leS b a) : a = b := by
  have := lt_anti (show ltCps b.cps.toList a.cps.toList = false from h1) (show ltCps a.cps.toList b.cps.toList = false from h2)
  exact PySem.Str.ext' (by rw [← Array.toArray_toList (xs := a.cps), ← Array.toArray_toList (xs := b.cps), this])
theorem sorted_one {ss tt : List Str} (h1 : ss.Pairwise leS) (h2 : tt.Pairwise leS) (hp : ss.Perm tt) : ss = tt :=
  List.Perm.eq_of_pairwise (fun _ _ _ _ => leS_anti) h1 h2 hp
/-- two tables of the same look have the same keys -/
theorem keys_perm {α : Type} {l m : List (Key × α)} (hl : GoodK l) (hm : GoodK m) (h : ∀ k, getG l k = getG m k) : (keysS l).Perm (keysS m) := by
  rw [List.perm_ext_iff_of_nodup hl.nodup hm.nodup]
  intro x
  rw [hl.mem, hm.mem, getG_mem, getG_mem, h]
end KM

namespace K05
open PySem L2 KM
theorem valV_G (kvs : Kvs) (k : Key) : valV kvs k = getG kvs k := rfl
theorem getL_G (las : Las) (k : Key) : getL las k = getG las k := rfl
/-- the state of a table -/
structure StOk (kvs : Kvs) (las : Las) : Prop where
  gk : GoodK kvs
  gl : GoodK las
  ik : Ints kvs
  fl : ∀ k q, getL las k = some q → q.2 = .non ∨ ∃ i : Int, q.2 = .int i
structure Eqv (kvs : Kvs) (las : Las) (kvs' : Kvs) (las' : Las) : Prop where
  k : ∀ j, valV kvs j = valV kvs' j
  l : ∀ j, getL las j = getL las' j
theorem Eqv.refl (kvs : Kvs) (las : Las) : Eqv kvs las kvs las := ⟨fun _ => rfl, fun _ => rfl⟩
theorem Eqv.lastN {kvs kvs' : Kvs} {las las' : Las} (e : Eqv kvs las kvs' las') (x : Str) : lastN las x = lastN las' x := by unfold K05.lastN; rw [e.l]
theorem Eqv.lastA {kvs kvs' : Kvs} {las las' : Las} (e : Eqv kvs las kvs' las') (x : Str) : lastA las x = lastA las' x := by unfold K05.lastA; rw [e.l]
theorem Eqv.ans {kvs kvs' : Kvs} {las las' : Las} (e : Eqv kvs las kvs' las') (wk : Wk) : wk.ans kvs = wk.ans kvs' := by
  cases wk with
  | put a n => unfold Wk.ans; dsimp only; rw [e.k]
  | add a n => unfold Wk.ans num; dsimp only; rw [e.k]
  | drop a => unfold Wk.ans; dsimp only; rw [e.k]
theorem Eqv.to {kvs kvs' : Kvs} {las las' : Las} (e : Eqv kvs las kvs' las') (wk : Wk) (j : Key) : valV (wk.to kvs) j = valV (wk.to kvs') j := by
  cases wk with
  | put a n => unfold Wk.to; dsimp only; rw [valV_put, valV_put, e.k]
  | add a n =>
    have hn : num kvs a = num kvs' a := by unfold num; rw [e.k]
    unfold Wk.to; dsimp only; rw [valV_put, valV_put, e.k, hn]
  | drop a =>
    show getG (kvs.filter fun kv => decide (kv.1 ≠ (Sum.inr a : Key))) j = getG (kvs'.filter fun kv => decide (kv.1 ≠ (Sum.inr a : Key))) j
    rw [getG_drop, getG_drop, ← valV_G, ← valV_G, e.k]
theorem Eqv.tag {kvs kvs' : Kvs} {las las' : Las} (e : Eqv kvs las kvs' las') (x : Str) (n : Int) : tagR las x n = tagR las' x n := by unfold tagR; rw [e.lastN]
theorem Eqv.ansR {kvs kvs' : Kvs} {las las' : Las} (e : Eqv kvs las kvs' las') (x : Str) (n : Int) (wk : Wk) : ansR kvs las x n wk = ansR kvs' las' x n wk := by unfold K05.ansR; rw [e.lastN, e.lastA, e.ans]
theorem Eqv.step {kvs kvs' : Kvs} {las las' : Las} (e : Eqv kvs las kvs' las') (x : Str) (n : Int) (wk : Wk) : Eqv (heldR kvs las x n wk) (lasR kvs las x n wk) (heldR kvs' las' x n wk) (lasR kvs' las' x n wk) := by
  unfold heldR lasR
  rw [e.lastN]
  split
  · exact e
  · split
    · exact e
    · exact ⟨fun j => e.to wk j, fun j => by rw [getL_put, getL_put, e.l, e.ans]⟩
theorem StOk.step {kvs : Kvs} {las : Las} (h : StOk kvs las) (x : Str) (n : Int) (wk : Wk) : StOk (heldR kvs las x n wk) (lasR kvs las x n wk) := by
  unfold heldR lasR
  split
  · exact h
  · split
    · exact h
    · refine ⟨?_, h.gl.put x _, h.ik.to wk, fun k q e => ?_⟩
      · cases wk with
        | put a n => exact h.gk.put a _
        | add a n => exact h.gk.put a _
        | drop a => exact h.gk.drop _
      · rw [getL_put] at e
        split at e
        · cases e; exact h.ik.ans wk
        · exact h.fl k q e
theorem StOk.empty : StOk [] [] := ⟨⟨fun p hp => (by cases hp), List.nodup_nil⟩, ⟨fun p hp => (by cases hp), List.nodup_nil⟩, fun k v e => (by cases e), fun k q e => (by cases e)⟩
/-- what is told of it -/
def psOf (kvs : Kvs) (ss : List Str) : List (Str × V) := ss.map fun k => (k, (valV kvs (Sum.inr k)).getD .non)
def qsOf (las : Las) (tt : List Str) : List (Str × Int × V) := tt.map fun x => (x, lastN las x, lastA las x)
structure IsTold (kvs : Kvs) (las : Las) (ps : List (Str × V)) (qs : List (Str × Int × V)) : Prop where
  h : ∃ ss : List Str, ss.Perm (keysS kvs) ∧ ss.Pairwise leS ∧ ps = psOf kvs ss
  a : ∃ tt : List Str, tt.Perm (keysS las) ∧ tt.Pairwise leS ∧ qs = qsOf las tt
theorem IsTold.one {kvs kvs' : Kvs} {las las' : Las} {ps ps' : List (Str × V)} {qs qs' : List (Str × Int × V)} (o : StOk kvs las) (o' : StOk kvs' las') (e : Eqv kvs las kvs' las') (h : IsTold kvs las ps qs) (h' : IsTold kvs' las' ps' qs') : ps = ps' ∧ qs = qs' := by
  obtain ⟨⟨ss, s1, s2, s3⟩, tt, t1, t2, t3⟩ := h
  obtain ⟨⟨ss', s1', s2', s3'⟩, tt', t1', t2', t3'⟩ := h'
  have es : ss = ss' := sorted_one s2 s2' (s1.trans ((keys_perm o.gk o'.gk fun k => e.k k).trans s1'.symm))
  have et : tt = tt' := sorted_one t2 t2' (t1.trans ((keys_perm o.gl o'.gl fun k => e.l k).trans t1'.symm))
  subst es et s3 t3 s3' t3'
  refine ⟨?_, ?_⟩
  · unfold psOf
    exact List.map_congr_left fun k _ => by rw [e.k]
  · unfold qsOf
    exact List.map_congr_left fun k _ => by rw [e.lastN, e.lastA]
abbrev kvOf (ps : List (Str × V)) : List (Key × V) := ps.map fun p => (Sum.inr p.1, p.2)
theorem IsTold.made {kvs : Kvs} {las : Las} {ps : List (Str × V)} {qs : List (Str × Int × V)} (o : StOk kvs las) (h : IsTold kvs las ps qs) :
    Eqv (heldOf (kvOf ps)) (lasOf qs) kvs las ∧ StOk (heldOf (kvOf ps)) (lasOf qs) ∧ (heldOf (kvOf ps)).length ≤ kvs.length ∧ (lasOf qs).length ≤ las.length := by
  obtain ⟨⟨ss, s1, s2, s3⟩, tt, t1, t2, t3⟩ := h
  subst s3 t3
  have e1 : heldOf (kvOf (psOf kvs ss)) = (ss.map fun k => ((Sum.inr k : Key), (valV kvs (Sum.inr k)).getD .non)).foldl (fun m kv => putG m kv.1 kv.2) [] := by
    unfold heldOf psOf kvOf
    rw [List.map_map]
    rfl
  have e2 : lasOf (qsOf las tt) = (tt.map fun k => ((Sum.inr k : Key), (lastN las k, lastA las k))).foldl (fun m kv => putG m kv.1 kv.2) [] := by
    unfold lasOf qsOf
    rw [List.foldl_map, List.foldl_map]
    rfl
  obtain ⟨g1, g2⟩ := remade o.gk s1 (fun k => (valV kvs (Sum.inr k)).getD .non) (fun x v e => by rw [valV_G, e]; rfl)
  obtain ⟨f1, f2⟩ := remade o.gl t1 (fun k => (lastN las k, lastA las k)) (fun x v e => by
    have e : getL las (Sum.inr x) = some v := e
    unfold lastN lastA
    rw [e])
  rw [e1, e2]
  have hk : ∀ j, valV ((ss.map fun k => ((Sum.inr k : Key), (valV kvs (Sum.inr k)).getD .non)).foldl (fun m kv => putG m kv.1 kv.2) []) j = valV kvs j := g1
  have hl : ∀ j, getL ((tt.map fun k => ((Sum.inr k : Key), (lastN las k, lastA las k))).foldl (fun m kv => putG m kv.1 kv.2) []) j = getL las j := f1
  refine ⟨⟨hk, hl⟩, ⟨g2, f2, fun k v e => o.ik k v (by rw [← hk]; exact e), fun k q e => o.fl k q (by rw [← hl]; exact e)⟩, ?_, ?_⟩
  · refine Nat.le_trans (fold_len _ _) ?_
    have h2 := s1.length_eq
    unfold keysS at h2
    rw [List.length_map] at h2
    rw [List.length_nil, List.length_map]
    omega
  · refine Nat.le_trans (fold_len _ _) ?_
    have h2 := t1.length_eq
    unfold keysS at h2
    rw [List.length_map] at h2
    rw [List.length_nil, List.length_map]
    omega
/-! ### told, on the heap -/
/-- all but dicts stay -/
def KeepN (H H' : Hp) : Prop := ∀ b o, H b = some o → (∀ m, o ≠ .dK m) → H' b = some o
theorem KeepN.refl (H : Hp) : KeepN H H := fun _ _ e _ => e
theorem KeepN.trans {H H1 H2 : Hp} (a : KeepN H H1) (b : KeepN H1 H2) : KeepN H H2 := fun c o e n => b c o (a c o e n) n
theorem Same.keepN {H H' : Hp} (e : Same H H') : KeepN H H' := fun b o q _ => e b o q
theorem But2.keepN {H H' : Hp} {d l : Addr} {m m' : Kvs} (e : But2 d l H H') (hd : H d = some (.dK m)) (hl : H l = some (.dK m')) : KeepN H H' := fun b o q n => by
  refine e b o q ?_ ?_
  · rintro rfl; rw [hd] at q; cases q; exact n _ rfl
  · rintro rfl; rw [hl] at q; cases q; exact n _ rfl
theorem SqT.keepN {K : PySem.W.Frag} {H H' : Hp} {t : Addr} {xs : List V} (e : KeepN H H') (q : SqT K H t xs) : SqT K H' t xs := by
  rcases q with (q | ⟨o', q⟩) | q
  · exact .inl (.inl (e _ _ q (by intro m z; cases z)))
  · exact .inl (.inr ⟨o', e _ _ q (by intro m z; cases z)⟩)
  · exact .inr q
def TellAt (H : Hp) (p : Addr) (ps : List (Str × V)) (qs : List (Str × Int × V)) : Prop := ∃ (ph pa : Addr) (oh oa : Obj) (hs as : List V), H p = some (.tup [.ref ph, .ref pa]) ∧ H ph = some (.frz oh (.tup hs)) ∧ oh.dict = none ∧ H pa = some (.frz oa (.tup as)) ∧ hs.length = ps.length ∧ as.length = qs.length ∧
  (∀ (j : Nat) (kv : Str × V), ps[j]? = some kv → ∃ b, hs[j]? = some (.ref b) ∧ H b = some (.tup [.str kv.1, kv.2])) ∧ (∀ (j : Nat) (q : Str × Int × V), qs[j]? = some q → ∃ b, as[j]? = some (.ref b) ∧ H b = some (.tup [.str q.1, .int q.2.1, q.2.2]))
theorem TellAt.keepN {H H' : Hp} {p : Addr} {ps : List (Str × V)} {qs : List (Str × Int × V)} (h : TellAt H p ps qs) (e : KeepN H H') : TellAt H' p ps qs := by
  obtain ⟨ph, pa, oh, oa, hs, as, h1, h2, h3, h4, h5, h6, h7, h8⟩ := h
  refine ⟨ph, pa, oh, oa, hs, as, e _ _ h1 (by intro m z; cases z), e _ _ h2 (by intro m z; cases z), h3, e _ _ h4 (by intro m z; cases z), h5, h6, fun j kv q => ?_, fun j kv q => ?_⟩
  · obtain ⟨b, b1, b2⟩ := h7 j kv q
    exact ⟨b, b1, e _ _ b2 (by intro m z; cases z)⟩
  · obtain ⟨b, b1, b2⟩ := h8 j kv q
    exact ⟨b, b1, e _ _ b2 (by intro m z; cases z)⟩
theorem IsTold.flat {kvs : Kvs} {las : Las} {ps : List (Str × V)} {qs : List (Str × Int × V)} (o : StOk kvs las) (h : IsTold kvs las ps qs) : (∀ p ∈ ps, p.2 = .non ∨ ∃ i : Int, p.2 = .int i) ∧ ∀ q ∈ qs, q.2.2 = .non ∨ ∃ i : Int, q.2.2 = .int i := by
  obtain ⟨⟨ss, s1, s2, rfl⟩, tt, t1, t2, rfl⟩ := h
  refine ⟨fun p hp => ?_, fun q hq => ?_⟩
  · obtain ⟨k, _, rfl⟩ := List.mem_map.mp hp
    dsimp only
    cases e : valV kvs (Sum.inr k : Key) with
    | none => exact .inl rfl
    | some v => obtain ⟨i, rfl⟩ := o.ik _ _ e; exact .inr ⟨i, rfl⟩
  · obtain ⟨k, _, rfl⟩ := List.mem_map.mp hq
    dsimp only
    unfold lastA
    cases e : getL las (Sum.inr k : Key) with
    | none => exact .inl rfl
    | some v => exact o.fl _ _ e
theorem TellAt.same {H : Hp} {p p' : Addr} {ps : List (Str × V)} {qs : List (Str × Int × V)} (h : TellAt H p ps qs) (h' : TellAt H p' ps qs) (hp : ∀ p ∈ ps, p.2 = .non ∨ ∃ i : Int, p.2 = .int i) (hq : ∀ q ∈ qs, q.2.2 = .non ∨ ∃ i : Int, q.2.2 = .int i) (hl : ps.length ≤ 900) (hl' : qs.length ≤ 900) : SameN 3 (.ref p) (.ref p') H := by
  obtain ⟨ph, pa, oh, oa, hs, as, h1, h2, h3, h4, h5, h6, h7, h8⟩ := h
  obtain ⟨ph', pa', oh', oa', hs', as', h1', h2', h3', h4', h5', h6', h7', h8'⟩ := h'
  refine .inr ⟨p, p', _, _, rfl, rfl, .inl h1, .inl h1', rfl, (by show 2 ≤ 900; decide), fun i x y hx hy => ?_⟩
  match i, hx, hy with
  | 0, hx, hy =>
    cases hx; cases hy
    refine .inr ⟨ph, ph', hs, hs', rfl, rfl, .inr ⟨oh, h2⟩, .inr ⟨oh', h2'⟩, by omega, by omega, fun j x y hx hy => ?_⟩
    have hj : j < ps.length := by have := (List.getElem?_eq_some_iff.mp hx).1; omega
    obtain ⟨kv, hkv⟩ : ∃ kv, ps[j]? = some kv := ⟨_, List.getElem?_eq_getElem hj⟩
    obtain ⟨b, b1, b2⟩ := h7 j kv hkv
    obtain ⟨b', b1', b2'⟩ := h7' j kv hkv
    rw [hx] at b1; cases b1
    rw [hy] at b1'; cases b1'
    refine .inr ⟨b, b', _, _, rfl, rfl, .inl b2, .inl b2', rfl, (by show 2 ≤ 900; decide), fun i x y hx hy => ?_⟩
    rw [hx] at hy; cases hy
    match i, hx with
    | 0, hx => cases hx; exact SameN.flat (n := 0) (.inr (.inr ⟨_, rfl⟩))
    | 1, hx =>
      cases hx
      rcases hp kv (List.mem_of_getElem? hkv) with z | z
      · exact SameN.flat (n := 0) (.inl z)
      · exact SameN.flat (n := 0) (.inr (.inl z))
    | _ + 2, hx => simp at hx
  | 1, hx, hy =>
    cases hx; cases hy
    refine .inr ⟨pa, pa', as, as', rfl, rfl, .inr ⟨oa, h4⟩, .inr ⟨oa', h4'⟩, by omega, by omega, fun j x y hx hy => ?_⟩
    have hj : j < qs.length := by have := (List.getElem?_eq_some_iff.mp hx).1; omega
    obtain ⟨kv, hkv⟩ : ∃ kv, qs[j]? = some kv := ⟨_, List.getElem?_eq_getElem hj⟩
    obtain ⟨b, b1, b2⟩ := h8 j kv hkv
    obtain ⟨b', b1', b2'⟩ := h8' j kv hkv
    rw [hx] at b1; cases b1
    rw [hy] at b1'; cases b1'
    refine .inr ⟨b, b', _, _, rfl, rfl, .inl b2, .inl b2', rfl, (by show 3 ≤ 900; decide), fun i x y hx hy => ?_⟩
    rw [hx] at hy; cases hy
    match i, hx with
    | 0, hx => cases hx; exact SameN.flat (n := 0) (.inr (.inr ⟨_, rfl⟩))
    | 1, hx => cases hx; exact SameN.flat (n := 0) (.inr (.inl ⟨_, rfl⟩))
    | 2, hx =>
      cases hx
      rcases hq kv (List.mem_of_getElem? hkv) with z | z
      · exact SameN.flat (n := 0) (.inl z)
      · exact SameN.flat (n := 0) (.inr (.inl z))
    | _ + 3, hx => simp at hx
  | _ + 2, hx, _ => simp at hx
end K05

/-! the mathematics of asks told again -/
namespace K05
open PySem L2 KM
abbrev S2 := Kvs × Las
def stepR (s : S2) (a : AskIs) : S2 := (heldR s.1 s.2 a.x a.n a.wk, lasR s.1 s.2 a.x a.n a.wk)
def answ (s : S2) (a : AskIs) : List V := [tagR s.2 a.x a.n, ansR s.1 s.2 a.x a.n a.wk]
def runR (s : S2) (as : List AskIs) : S2 := as.foldl stepR s
def stA (as : List AskIs) (c : Nat) : S2 := runR ([], []) (as.take c)
structure Rising (as : List AskIs) : Prop where
  up : as.Pairwise fun a b => a.x = b.x → a.n < b.n
  one : ∀ a ∈ as, 1 ≤ a.n
theorem Rising.lt {as : List AskIs} (h : Rising as) {i j : Nat} {a b : AskIs} (ij : i < j) (hi : as[i]? = some a) (hj : as[j]? = some b) (e : a.x = b.x) : a.n < b.n := by
  obtain ⟨h1, rfl⟩ := List.getElem?_eq_some_iff.mp hi
  obtain ⟨h2, rfl⟩ := List.getElem?_eq_some_iff.mp hj
  exact List.pairwise_iff_getElem.mp h.up i j h1 h2 ij e
theorem runR_snoc (s : S2) (as : List AskIs) (a : AskIs) : runR s (as ++ [a]) = stepR (runR s as) a := by unfold runR; rw [List.foldl_append]; rfl
theorem runR_app (s : S2) (as bs : List AskIs) : runR s (as ++ bs) = runR (runR s as) bs := by unfold runR; rw [List.foldl_append]
theorem stA_succ {as : List AskIs} {c : Nat} {a : AskIs} (h : as[c]? = some a) : stA as (c + 1) = stepR (stA as c) a := by
  unfold stA
  rw [List.take_add_one, h]
  exact runR_snoc _ _ _
theorem runR_take {s : S2} {as : List AskIs} {c : Nat} {a : AskIs} (h : as[c]? = some a) : runR s (as.take (c + 1)) = stepR (runR s (as.take c)) a := by
  rw [List.take_add_one, h]
  exact runR_snoc _ _ _
theorem stA_add (as : List AskIs) (h i : Nat) : stA as (h + i) = runR (stA as h) ((as.drop h).take i) := by
  unfold stA
  rw [← runR_app, List.take_add]
theorem runR_ok {s : S2} (h : StOk s.1 s.2) : ∀ as : List AskIs, StOk (runR s as).1 (runR s as).2 := by
  intro as
  induction as generalizing s with
  | nil => exact h
  | cons a r ih => exact ih (s := stepR s a) (h.step a.x a.n a.wk)
theorem runR_len (s : S2) : ∀ as : List AskIs, (runR s as).1.length ≤ s.1.length + as.length ∧ (runR s as).2.length ≤ s.2.length + as.length := by
  intro as
  induction as generalizing s with
  | nil => exact ⟨Nat.le_refl _, Nat.le_refl _⟩
  | cons a r ih =>
    have h := ih (stepR s a)
    have h1 := heldR_len s.1 s.2 a.x a.n a.wk
    have h2 := lasR_len s.1 s.2 a.x a.n a.wk
    have e : runR s (a :: r) = runR (stepR s a) r := rfl
    rw [e, List.length_cons]
    unfold stepR at h ⊢
    dsimp only at h
    omega
theorem Eqv.run {s s' : S2} (e : Eqv s.1 s.2 s'.1 s'.2) : ∀ as : List AskIs, Eqv (runR s as).1 (runR s as).2 (runR s' as).1 (runR s' as).2 := by
  intro as
  induction as generalizing s s' with
  | nil => exact e
  | cons a r ih => exact ih (s := stepR s a) (s' := stepR s' a) (e.step a.x a.n a.wk)
theorem Eqv.answ {s s' : S2} (e : Eqv s.1 s.2 s'.1 s'.2) (a : AskIs) : answ s a = answ s' a := by
  unfold K05.answ
  rw [e.tag, e.ansR]
theorem answ_flat {s : S2} (o : StOk s.1 s.2) (a : AskIs) : ∀ z ∈ answ s a, FlatV z := by
  intro z hz
  unfold answ at hz
  rcases List.mem_cons.mp hz with rfl | hz
  · obtain ⟨y, e⟩ := tagR_str s.2 a.x a.n
    exact .inr (.inr ⟨y, e⟩)
  · rw [List.mem_singleton.mp hz]
    unfold ansR
    split
    · exact .inl rfl
    · split
      · unfold lastA
        cases e : getL s.2 (Sum.inr a.x : Key) with
        | none => exact .inl rfl
        | some q =>
          rcases o.fl _ _ e with z | z
          · exact .inl z
          · exact .inr (.inl z)
      · rcases o.ik.ans a.wk with z | z
        · exact .inl z
        · exact .inr (.inl z)
/-- of each asker: none yet, or its last ask -/
def Jv (as : List AskIs) (c : Nat) : Prop := ∀ x : Str, (getL (stA as c).2 (Sum.inr x) = none ∧ ∀ (k : Nat) (a : AskIs), k < c → as[k]? = some a → a.x ≠ x) ∨
  ∃ (k : Nat) (a : AskIs), k < c ∧ as[k]? = some a ∧ a.x = x ∧ getL (stA as c).2 (Sum.inr x) = some (a.n, ansR (stA as k).1 (stA as k).2 a.x a.n a.wk) ∧ ∀ (k' : Nat) (a' : AskIs), k' < c → as[k']? = some a' → a'.x = x → k' ≤ k
theorem lt_new {as : List AskIs} (R : Rising as) {c : Nat} {a : AskIs} (h : as[c]? = some a) (J : Jv as c) : lastN (stA as c).2 a.x < a.n := by
  unfold lastN
  rcases J a.x with ⟨e, _⟩ | ⟨k, b, hk, hb, ex, e, _⟩
  · rw [e]
    have := R.one a (List.mem_of_getElem? h)
    show (0 : Int) < a.n
    omega
  · rw [e]
    exact R.lt hk hb h ex
theorem le_old {as : List AskIs} (R : Rising as) {c k : Nat} {a : AskIs} (hk : k < c) (h : as[k]? = some a) (J : Jv as c) : a.n ≤ lastN (stA as c).2 a.x := by
  unfold lastN
  rcases J a.x with ⟨_, e⟩ | ⟨k', b, hk', hb, ex, e, mx⟩
  · exact absurd rfl (e k a hk h)
  · rw [e]
    have := mx k a hk h rfl
    rcases Nat.lt_or_ge k k' with z | z
    · exact Int.le_of_lt (R.lt z h hb ex.symm)
    · have : k = k' := by omega
      subst this
      rw [h] at hb
      cases hb
      exact Int.le_refl _
theorem again_of {as : List AskIs} (R : Rising as) {c k : Nat} {a : AskIs} (hk : k < c) (h : as[k]? = some a) (J : Jv as c) (el : lastN (stA as c).2 a.x = a.n) : lastA (stA as c).2 a.x = ansR (stA as k).1 (stA as k).2 a.x a.n a.wk := by
  unfold lastN at el
  unfold lastA
  rcases J a.x with ⟨_, e⟩ | ⟨k', b, hk', hb, ex, e, mx⟩
  · exact absurd rfl (e k a hk h)
  · rw [e] at el ⊢
    have el : b.n = a.n := el
    have := mx k a hk h rfl
    rcases Nat.lt_or_ge k k' with z | z
    · have := R.lt z h hb ex.symm
      omega
    · have : k = k' := by omega
      subst this
      rw [h] at hb
      cases hb
      rfl
theorem new_step {as : List AskIs} (R : Rising as) {c : Nat} {a : AskIs} (h : as[c]? = some a) (J : Jv as c) : stA as (c + 1) = (a.wk.to (stA as c).1, putL (stA as c).2 (Sum.inr a.x) (a.n, a.wk.ans (stA as c).1)) ∧ ansR (stA as c).1 (stA as c).2 a.x a.n a.wk = a.wk.ans (stA as c).1 ∧ tagR (stA as c).2 a.x a.n = .str "done" := by
  have hl := lt_new R h J
  have n1 : ¬ a.n < lastN (stA as c).2 a.x := by omega
  have n2 : ¬ a.n = lastN (stA as c).2 a.x := by omega
  rw [stA_succ h]
  unfold stepR heldR lasR ansR tagR
  rw [if_neg n1, if_neg n2, if_neg n1, if_neg n2, if_neg n1, if_neg n2, if_neg n1, if_neg n2]
  exact ⟨rfl, rfl, rfl⟩
theorem jv {as : List AskIs} (R : Rising as) : ∀ c, c ≤ as.length → Jv as c := by
  intro c
  induction c with
  | zero =>
    intro _ x
    exact .inl ⟨rfl, fun k a hk => absurd hk (Nat.not_lt_zero _)⟩
  | succ c ih =>
    intro hc x
    have J := ih (by omega)
    obtain ⟨a, ha⟩ : ∃ a, as[c]? = some a := ⟨_, List.getElem?_eq_getElem (by omega)⟩
    obtain ⟨e1, e2, _⟩ := new_step R ha J
    have eg : ∀ y : Str, getL (stA as (c + 1)).2 (Sum.inr y) = if (Sum.inr y : Key) = Sum.inr a.x then some (a.n, a.wk.ans (stA as c).1) else getL (stA as c).2 (Sum.inr y) := fun y => by rw [e1]; exact getL_put _ _ _ _
    by_cases hx : x = a.x
    · subst hx
      refine .inr ⟨c, a, Nat.lt_succ_self _, ha, rfl, ?_, fun k' a' hk' _ _ => by omega⟩
      rw [eg, if_pos rfl, e2]
    · have hne : ¬ ((Sum.inr x : Key) = Sum.inr a.x) := fun z => hx (Sum.inr.inj z)
      rcases J x with ⟨e, hn⟩ | ⟨k, b, hk, hb, ex, e, mx⟩
      · refine .inl ⟨by rw [eg, if_neg hne]; exact e, fun k b hk hb => ?_⟩
        rcases Nat.lt_or_ge k c with z | z
        · exact hn k b z hb
        · have : k = c := by omega
          subst this
          rw [ha] at hb
          cases hb
          exact fun z => hx z.symm
      · refine .inr ⟨k, b, by omega, hb, ex, by rw [eg, if_neg hne]; exact e, fun k' b' hk' hb' ex' => ?_⟩
        rcases Nat.lt_or_ge k' c with z | z
        · exact mx k' b' z hb' ex'
        · have : k' = c := by omega
          subst this
          rw [ha] at hb'
          cases hb'
          exact absurd ex'.symm hx
theorem old_step {as : List AskIs} (R : Rising as) {c k : Nat} {a : AskIs} (hk : k < c) (h : as[k]? = some a) (J : Jv as c) : stepR (stA as c) a = stA as c := by
  have hl := le_old R hk h J
  unfold stepR heldR lasR
  by_cases n1 : a.n < lastN (stA as c).2 a.x
  · rw [if_pos n1, if_pos n1]
  · have n2 : a.n = lastN (stA as c).2 a.x := by omega
    rw [if_neg n1, if_pos n2, if_neg n1, if_pos n2]
/-! the order of asks: first comings in their order -/
def reach : Nat → List Nat → Option Nat
  | c, [] => some c
  | c, k :: r => if k = c then reach (c + 1) r else if k < c then reach c r else none
theorem reach_le : ∀ {os : List Nat} {c n : Nat}, reach c os = some n → c ≤ n
  | [], c, n, h => by cases h; exact Nat.le_refl _
  | k :: r, c, n, h => by
    unfold reach at h
    split at h
    · have := reach_le h; omega
    · split at h
      · exact reach_le h
      · cases h
theorem reach_cons {c n k : Nat} {r : List Nat} (h : reach c (k :: r) = some n) : (k = c ∧ reach (c + 1) r = some n) ∨ (k < c ∧ reach c r = some n) := by
  unfold reach at h
  split at h
  · exact .inl ⟨by assumption, h⟩
  · split at h
    · exact .inr ⟨by assumption, h⟩
    · cases h
theorem reach_app : ∀ {a b : List Nat} {c d n : Nat}, reach c a = some d → reach d b = some n → reach c (a ++ b) = some n
  | [], b, c, d, n, h, h' => by cases h; exact h'
  | k :: r, b, c, d, n, h, h' => by
    show reach c (k :: (r ++ b)) = some n
    unfold reach
    rcases reach_cons h with ⟨e, z⟩ | ⟨e, z⟩
    · rw [if_pos e]; exact reach_app z h'
    · rw [if_neg (by omega), if_pos e]; exact reach_app z h'
theorem reach_low : ∀ {os : List Nat} {c : Nat}, (∀ k ∈ os, k < c) → reach c os = some c
  | [], c, _ => rfl
  | k :: r, c, h => by
    have := h k List.mem_cons_self
    unfold reach
    rw [if_neg (by omega), if_pos this]
    exact reach_low fun j hj => h j (List.mem_cons_of_mem _ hj)
def askOf (as : List AskIs) (k : Nat) : AskIs := as.getD k ⟨"", 0, .drop ""⟩
theorem askOf_of {as : List AskIs} {k : Nat} {a : AskIs} (h : as[k]? = some a) : askOf as k = a := by unfold askOf; rw [List.getD_eq_getElem?_getD, h]; rfl
theorem reach_lt : ∀ {os : List Nat} {c n : Nat}, reach c os = some n → ∀ k ∈ os, k < n
  | [], c, n, h, k, hk => nomatch hk
  | j :: r, c, n, h, k, hk => by
    rcases reach_cons h with ⟨e, z⟩ | ⟨e, z⟩
    · rcases List.mem_cons.mp hk with q | q
      · have := reach_le z; omega
      · exact reach_lt z k q
    · rcases List.mem_cons.mp hk with q | q
      · have := reach_le z; omega
      · exact reach_lt z k q
theorem run_reach {as : List AskIs} (R : Rising as) : ∀ {os : List Nat} {c n : Nat}, reach c os = some n → n ≤ as.length → runR (stA as c) (os.map (askOf as)) = stA as n
  | [], c, n, h, _ => by cases h; rfl
  | k :: r, c, n, h, hn => by
    show runR (stepR (stA as c) (askOf as k)) (r.map (askOf as)) = stA as n
    rcases reach_cons h with ⟨e, z⟩ | ⟨e, z⟩
    · have hl := reach_le z
      obtain ⟨a, ha⟩ : ∃ a, as[c]? = some a := ⟨_, List.getElem?_eq_getElem (by omega)⟩
      subst e
      rw [askOf_of ha, ← stA_succ ha]
      exact run_reach R z hn
    · have hl := reach_le z
      obtain ⟨a, ha⟩ : ∃ a, as[k]? = some a := ⟨_, List.getElem?_eq_getElem (by omega)⟩
      rw [askOf_of ha, old_step R e ha (jv R c (by omega))]
      exact run_reach R z hn
end K05

namespace L2
open PySem PySem.Spec PyProof.Rows
theorem pe_fldC {X : Cx} {scope : Scope} {cl : List (Str × Addr)} {N2 ys : List Str} {C : Addr} {s : Shared} {H : Hp} {fp : List Addr} {e : Expr} {f : Str} {pos : Pos} {ta : TE} (he : PE (cxC X scope cl N2 ys C s H fp) e ta)
    (hb : attributeBase e f (cxC X scope cl N2 ys C s H fp).env (eval e (cxC X scope cl N2 ys C s H fp).env) = eval e (cxC X scope cl N2 ys C s H fp).env) : PE (cxC X scope cl N2 ys C s H fp) (.Attribute e f pos) (tFld X.K ta f) := pe_fld he hb
/-- a row of tuples made of texts -/
theorem lcTell {K : PySem.W.Frag} {a : Addr} {ss : List Str} {k : Nat} {σ : St} {H1 : Hp} {te : TE} {Q : VK} (row : Str → List V) (hk : σ.length = k) (hq : SqL K H1 a (ss.map V.str)) (hz : ss.length ≤ 900)
    (turn : ∀ (x : Str) (H' : Hp) (post : VK), x ∈ ss → Same H1 H' → (∀ t, H' t = none → post (.ref t) (upd H' t (.tup (row x)))) → te (σ ++ [some (.str x)]) H' post)
    (fin : ∀ (D : Addr) (bs : List Addr) (H' : Hp), H1 D = none → Same H1 H' → H' D = some (.lst (bs.map V.ref)) → bs.length = ss.length → (∀ (j : Nat) (x : Str), ss[j]? = some x → ∃ b, bs[j]? = some b ∧ H' b = some (.tup (row x))) → Q (.ref D) H') :
    LCT 1 (gName k) tYes te σ Q (Itl K a) H1 := by
  refine lcJ (n := ss.length) (fun i => .str (ss.getD i "")) (fun D i ys H => H1 D = none ∧ Same H1 H ∧ H D = some (.lst ys) ∧ ∃ bs : List Addr, ys = bs.map V.ref ∧ bs.length = i ∧ ∀ (j : Nat) (x : Str), j < i → ss[j]? = some x → ∃ b, bs[j]? = some b ∧ H b = some (.tup (row x))) hk ?_ ?_ ?_ ?_ ?_ ?_
  · rintro D i ys H hi ⟨h1, h2, _⟩
    exact ⟨_, V.str ss[i], h2.seq hq, by rw [List.getElem?_map, List.getElem?_eq_getElem hi]; rfl⟩
  · rintro D i ys H x H' hi ⟨h1, h2, _⟩ ⟨e, y⟩
    refine ⟨e, ?_⟩
    have := y _ (h2.seq hq)
    rw [List.getElem?_map, List.getElem?_eq_getElem hi] at this
    rw [List.getD_eq_getElem?_getD, List.getElem?_eq_getElem hi]
    exact (Option.some.inj this).symm
  · rintro D ys H ⟨h1, h2, _⟩
    exact ⟨_, h2.seq hq, by rw [List.length_map]; exact Nat.le_refl _⟩
  · intro D hD
    exact ⟨hD, .new hD, upd_same, [], rfl, rfl, fun j x hj => absurd hj (Nat.not_lt_zero _)⟩
  · rintro D i ys H post hi ⟨h1, h2, h3, bs, rfl, hbl, hbs⟩ hp
    have hx : ss[i]? = some (ss.getD i "") := by rw [List.getD_eq_getElem?_getD, List.getElem?_eq_getElem hi]; rfl
    refine turn _ H post (List.mem_of_getElem? hx) h2 fun t ht => ?_
    have nDt : D ≠ t := ne_of_none h3 ht
    refine hp (.ref t) _ (by rw [upd_ne nDt]; exact h3) (by rw [List.length_map]; exact small1000 (by omega)) ⟨h1, fun b o e => ?_, upd_same, bs ++ [t], by rw [List.map_append]; rfl, by rw [List.length_append, hbl]; rfl, fun j x hj hx' => ?_⟩
    · rw [upd_ne (ne_of_none e h1), upd_ne (ne_of_none (h2 _ _ e) ht)]
      exact h2 _ _ e
    · by_cases hji : j < i
      · obtain ⟨b, b1, b2⟩ := hbs j x hji hx'
        refine ⟨b, by rw [List.getElem?_append_left (by omega)]; exact b1, ?_⟩
        have nbD : b ≠ D := by rintro rfl; rw [h3] at b2; cases b2
        rw [upd_ne nbD, upd_ne (ne_of_none b2 ht)]
        exact b2
      · have e : j = i := by omega
        subst e
        rw [hx] at hx'
        cases hx'
        refine ⟨t, by rw [List.getElem?_append_right (by omega), hbl, Nat.sub_self]; rfl, ?_⟩
        rw [upd_ne nDt.symm]
        exact upd_same
  · rintro D ys H ⟨h1, h2, h3, bs, rfl, hbl, hbs⟩
    exact fin D bs H h1 h2 h3 hbl fun j x hx => hbs j x (List.getElem?_eq_some_iff.mp hx).1 hx
end L2
namespace K05
open PySem L2 KM
abbrev sTold : Stmt := inClass (top 2) 5
def spTold (K : PySem.W.Frag) (C : Addr) : Sp := fun vs H Q _ => ∃ (T d l : Addr) (kvs : Kvs) (las : Las), vs = [.ref T] ∧ TabAt K C H T d l kvs las ∧ StOk kvs las ∧ kvs.length < 64 ∧ las.length < 64 ∧
  ∀ (p : Addr) (ps : List (Str × V)) (qs : List (Str × Int × V)) (H' : Hp), Same H H' → TellAt H' p ps qs → IsTold kvs las ps qs → Q (.ref p) H'
theorem LR.keys {K : PySem.W.Frag} {H : Hp} {lk : Kvs} {las : Las} (r : LR K H lk las) : lk.map (·.1) = las.map (·.1) := by
  induction r with
  | nil => rfl
  | cons h t ih => rw [List.map_cons, List.map_cons, ih, h.1]
/-- two rows of tuples, told -/
theorem tell_mk {H : Hp} {p ph pa : Addr} {oh oa : Obj} {kvs : Kvs} {las : Las} {ss tt : List Str} {bs cs : List Addr} (h1 : H p = some (.tup [.ref ph, .ref pa])) (h2 : H ph = some (.frz oh (.tup (bs.map V.ref)))) (h3 : oh.dict = none) (h4 : H pa = some (.frz oa (.tup (cs.map V.ref))))
    (hb : bs.length = ss.length) (hc : cs.length = tt.length) (hbs : ∀ (j : Nat) (x : Str), ss[j]? = some x → ∃ b, bs[j]? = some b ∧ H b = some (.tup [.str x, (valV kvs (Sum.inr x)).getD .non]))
    (hcs : ∀ (j : Nat) (x : Str), tt[j]? = some x → ∃ b, cs[j]? = some b ∧ H b = some (.tup [.str x, .int (lastN las x), lastA las x])) : TellAt H p (psOf kvs ss) (qsOf las tt) := by
  refine ⟨ph, pa, oh, oa, _, _, h1, h2, h3, h4, by unfold psOf; rw [List.length_map, List.length_map, hb], by unfold qsOf; rw [List.length_map, List.length_map, hc], fun j kv e => ?_, fun j q e => ?_⟩
  · unfold psOf at e
    rw [List.getElem?_map] at e
    cases es : ss[j]? with
    | none => rw [es] at e; cases e
    | some x =>
      rw [es] at e
      cases e
      obtain ⟨b, b1, b2⟩ := hbs j x es
      exact ⟨b, by rw [List.getElem?_map, b1]; rfl, b2⟩
  · unfold qsOf at e
    rw [List.getElem?_map] at e
    cases es : tt[j]? with
    | none => rw [es] at e; cases e
    | some x =>
      rw [es] at e
      cases e
      obtain ⟨b, b1, b2⟩ := hcs j x es
      exact ⟨b, by rw [List.getElem?_map, b1]; rfl, b2⟩
section
variable {P : Program} {w : World} {K : PySem.W.Frag} {mg : Str → Option Value} {base : Heap}
abbrev nTold : List Str := ["self", "held", "asked"]
theorem scTold : FnScope nTold ["self"] (defScope sTold) := ⟨rfl, rfl, rfl, by decide +kernel, rfl, by decide +kernel, by decide +kernel⟩
theorem ndTK : (nTold ++ (["key"] : List Str)).Nodup := by decide +kernel
theorem ndTA : (nTold ++ (["asker"] : List Str)).Nodup := by decide +kernel
theorem ok_told {f C : Addr} {fd : FuncData} (F : Fun K "told" "Table.told" sTold f fd) (T : Cl K mg C) (B : Blt mg) : FnOk P w K mg base CX0 1 f fd ["self"] (spTold K C) := by
  refine F.ok scTold (fun vs H Q E h => ?_) (fun cdv A outer s H vs Q E hr h => ?_)
  · obtain ⟨T', d, l, kvs, las, rfl, _⟩ := h
    rfl
  · obtain ⟨T', d, l, kvs, las, rfl, S, ok, hk64, hl64, q⟩ := h
    have hu := hu_of hr
    have nd := scTold.nd
    obtain ⟨⟨dx, h1⟩, hd, ⟨lk, hl, lr⟩, hne⟩ := id S
    refine ⟨_, pss_cons (ps_set (i := 1) nd rfl (Or.inl rfl) (pe_callTy call_tupF (by rfl) B.tuple bTuple (pa_cons (pe_lc nTold nTold ["key"] (defScope sTold) rfl rfl rfl (by decide +kernel) rfl rfl (by decide +kernel) (by decide +kernel) (by decide +kernel) (by decide +kernel)
        (pi_list (pe_callB (call_sortD rfl) (by rfl) B.sorted bSorted (pa_cons (pe_fld (pv 0) rfl) pa_nil))) (fun _ _ _ _ _ => pg_name (i := 3) ndTK rfl (Or.inl rfl)) (fun _ _ _ _ _ => pts_nil)
        (fun _ _ _ _ _ => pe_tup (pa_cons (pv 3) (pa_cons (pe_dget hu (pe_fldC (pv 0) rfl) (pv 3) (fun _ _ => rfl)) pa_nil)))) pa_nil))) <|
      pss_cons (ps_set (i := 2) nd rfl (Or.inl rfl) (pe_callTy call_tupF (by rfl) B.tuple bTuple (pa_cons (pe_lc nTold nTold ["asker"] (defScope sTold) rfl rfl rfl (by decide +kernel) rfl rfl (by decide +kernel) (by decide +kernel) (by decide +kernel) (by decide +kernel)
        (pi_list (pe_callB (call_sortD rfl) (by rfl) B.sorted bSorted (pa_cons (pe_fld (pv 0) rfl) pa_nil))) (fun _ _ _ _ _ => pg_name (i := 3) ndTA rfl (Or.inl rfl)) (fun _ _ _ _ _ => pts_nil)
        (fun _ _ _ _ _ => pe_tup (pa_cons (pv 3) (pa_cons (pe_ix ix_tupC (pe_dget hu (pe_fldC (pv 0) rfl) (pv 3) (fun _ _ => rfl)) pe_int (fun _ _ => rfl)) (pa_cons (pe_ix ix_tupC (pe_dget hu (pe_fldC (pv 0) rfl) (pv 3) (fun _ _ => rfl)) pe_int (fun _ _ => rfl)) pa_nil))))) pa_nil))) <|
      pss_one <| ps_ret <| pe_tup <| pa_cons (pv 1) <| pa_cons (pv 2) pa_nil, ?_⟩
    have kk := ok.gk.keys
    have hlk : lk.map (·.1) = (keysS las).map Sum.inr := by rw [← ok.gl.keys]; exact lr.keys
    refine ⟨_, rfl, T', C, dx, _, _, rfl, h1, T.cl, T.nH, flds_h _ _, d, kvs, keysS kvs, rfl, hd, kk, hk64, fun p1 ss hp1 pm1 pw1 => ?_⟩
    refine ⟨p1, rfl, ⟨_, SqL.of upd_same⟩, ?_⟩
    have s1 : Same H (upd H p1 (.lst (ss.map V.str))) := .new hp1
    have hsl : ss.length < 64 := by rw [pm1.length_eq]; unfold keysS; rw [List.length_map]; exact hk64
    refine lcTell (ss := ss) (fun x => [.str x, (valV kvs (Sum.inr x)).getD .non]) ?_ ?_ ?_ ?_ ?_
    · rfl
    · exact SqL.of upd_same
    · omega
    · intro x H' post hx sm hpost
      have s1' := s1.trans sm
      obtain ⟨v, hv⟩ : ∃ v, valV kvs (Sum.inr x) = some v := Option.isSome_iff_exists.mp (getG_mem.mp (ok.gk.mem.mp (pm1.mem_iff.mp hx)))
      refine ⟨_, rfl, _, rfl, T', C, dx, _, _, rfl, s1' _ _ h1, T.cl, T.nH, flds_h _ _, _, rfl, d, v, rfl, ?_, (by show 2 ≤ sizeLine; decide), fun t ht => ?_⟩
      · have := DGet.k (H := H') (k := Sum.inr x) (s1' _ _ hd)
        rw [hv] at this
        exact this
      · have := hpost t ht
        rw [hv] at this
        exact this
    intro D bs H2 hD s2 hD2 hbl hbs
    refine ⟨D, _, rfl, SqL.of hD2, fun ph oh hph hoh => ?_⟩
    have s3 : Same H (upd H2 ph (.frz oh (.tup (bs.map V.ref)))) := s1.trans (s2.trans (.new hph))
    have sph : Same H2 (upd H2 ph (.frz oh (.tup (bs.map V.ref)))) := .new hph
    have hph3 : upd H2 ph (.frz oh (.tup (bs.map V.ref))) ph = some (.frz oh (.tup (bs.map V.ref))) := upd_same
    generalize upd H2 ph (.frz oh (.tup (bs.map V.ref))) = H3 at s3 sph hph3
    -- asked
    refine ⟨_, rfl, T', C, dx, _, _, rfl, s3 _ _ h1, T.cl, T.nL, flds_l _ _, l, lk, keysS las, rfl, s3 _ _ hl, hlk, (by rw [lr.len]; exact hl64), fun p2 tt hp2 pm2 pw2 => ?_⟩
    refine ⟨p2, rfl, ⟨_, SqL.of upd_same⟩, ?_⟩
    have s4 : Same H3 (upd H3 p2 (.lst (tt.map V.str))) := .new hp2
    have htl : tt.length < 64 := by rw [pm2.length_eq]; unfold keysS; rw [List.length_map]; exact hl64
    refine lcTell (ss := tt) (fun x => [.str x, .int (lastN las x), lastA las x]) ?_ ?_ ?_ ?_ ?_
    · rfl
    · exact SqL.of upd_same
    · omega
    · intro x H' post hx sm hpost
      have s1' := s3.trans (s4.trans sm)
      have hm : (getL las (Sum.inr x)).isSome = true := getG_mem.mp (ok.gl.mem.mp (pm2.mem_iff.mp hx))
      rcases lr.val (Sum.inr x) with ⟨_, e2⟩ | ⟨tx, q', e1, e2, e3⟩
      · rw [e2] at hm; cases hm
      · have hN : lastN las x = q'.1 := by unfold lastN; rw [e2]
        have hA : lastA las x = q'.2 := by unfold lastA; rw [e2]
        have hg : DGet H' l (.str x) (some (.ref tx)) := by
          have := DGet.k (H := H') (k := Sum.inr x) (s1' _ _ hl)
          rw [e1] at this
          exact this
        refine ⟨_, rfl, _, rfl, T', C, dx, _, _, rfl, s1' _ _ h1, T.cl, T.nL, flds_l _ _, _, rfl, l, _, rfl, hg, tx, _, _, _, rfl, rfl, SqT.same s1' e3, rfl, ?_⟩
        refine ⟨_, rfl, T', C, dx, _, _, rfl, s1' _ _ h1, T.cl, T.nL, flds_l _ _, _, rfl, l, _, rfl, hg, tx, _, _, _, rfl, rfl, SqT.same s1' e3, rfl, (by show 3 ≤ sizeLine; decide), fun t ht => ?_⟩
        have := hpost t ht
        rw [hN, hA] at this
        exact this
    intro D2 cs H4 hD2' s5 hD4 hcl hcs
    refine ⟨D2, _, rfl, SqL.of hD4, fun pa oa hpa hoa => ?_⟩
    refine ⟨_, rfl, _, rfl, (by show 2 ≤ sizeLine; decide), fun p hp => ?_⟩
    have s35 : Same H3 (upd (upd H4 pa (.frz oa (.tup (cs.map V.ref)))) p (.tup [V.ref ph, V.ref pa])) := s4.trans (s5.trans ((Same.new hpa).trans (.new hp)))
    have s45 : Same H4 (upd (upd H4 pa (.frz oa (.tup (cs.map V.ref)))) p (.tup [V.ref ph, V.ref pa])) := (Same.new hpa).trans (.new hp)
    refine q p (psOf kvs ss) (qsOf las tt) _ (s3.trans s35) (tell_mk upd_same (s35 _ _ hph3) hoh ((Same.new hp) _ _ upd_same) hbl hcl (fun j x hx => ?_) (fun j x hx => ?_)) ⟨⟨ss, pm1, pw1, rfl⟩, tt, pm2, pw2, rfl⟩
    · obtain ⟨b, b1, b2⟩ := hbs j x hx
      exact ⟨b, b1, s35 _ _ (sph _ _ b2)⟩
    · obtain ⟨b, b1, b2⟩ := hcs j x hx
      exact ⟨b, b1, s45 _ _ b2⟩
/-- Table(held, asked) of what was told -/
theorem init_of {H H1 : Hp} {C T' dx ph pa : Addr} {oh oa : Obj} {hs as : List V} {ps : List (Str × V)} {qs : List (Str × Int × V)} {Q : VK} {E : XK} (hT : H1 T' = some (.ins C dx [])) (sm : Same H H1) (h2 : H ph = some (.frz oh (.tup hs))) (h3 : oh.dict = none) (h4 : H pa = some (.frz oa (.tup as))) (h5 : hs.length = ps.length) (h6 : as.length = qs.length)
    (h7 : ∀ (j : Nat) (kv : Str × V), ps[j]? = some kv → ∃ b, hs[j]? = some (.ref b) ∧ H b = some (.tup [.str kv.1, kv.2])) (h8 : ∀ (j : Nat) (q : Str × Int × V), qs[j]? = some q → ∃ b, as[j]? = some (.ref b) ∧ H b = some (.tup [.str q.1, .int q.2.1, q.2.2])) (hq9 : qs.length ≤ 900)
    (q : ∀ (d l : Addr) (H' : Hp), H1 d = none → H1 l = none → TabAt K C H' T' d l (heldOf (kvOf ps)) (lasOf qs) → But T' H1 H' → Q .non H') : spInit K C [.ref T', .ref ph, .ref pa] H1 Q E := by
  refine ⟨T', dx, ph, pa, oh, hs, as, kvOf ps, qs, rfl, hT, sm _ _ h2, h3, by rw [List.length_map]; exact h5, fun j kv e => ?_, .inl (.inr ⟨oa, sm _ _ h4⟩), h6, hq9, fun j q' e => ?_, q⟩
  · rw [List.getElem?_map] at e
    cases es : ps[j]? with
    | none => rw [es] at e; cases e
    | some x =>
      rw [es] at e
      cases e
      obtain ⟨b, b1, b2⟩ := h7 j x es
      exact ⟨b, b1, SqT.of (sm _ _ b2)⟩
  · obtain ⟨b, b1, b2⟩ := h8 j q' e
    exact ⟨b, b1, SqT.of (sm _ _ b2)⟩
theorem IsTold.len {kvs : Kvs} {las : Las} {ps : List (Str × V)} {qs : List (Str × Int × V)} (h : IsTold kvs las ps qs) : ps.length = kvs.length ∧ qs.length = las.length := by
  obtain ⟨⟨ss, s1, s2, rfl⟩, tt, t1, t2, rfl⟩ := h
  have h1 := s1.length_eq
  have h2 := t1.length_eq
  unfold keysS at h1 h2
  rw [List.length_map] at h1 h2
  unfold psOf qsOf
  rw [List.length_map, List.length_map]
  exact ⟨h1, h2⟩
end
end K05

namespace K05
open PySem L2 KM
/-- a row of asks -/
structure AsksAt (K : PySem.W.Frag) (ns : List Str) (H : Hp) (rs : List Addr) (as : List AskIs) : Prop where
  len : rs.length = as.length
  at' : ∀ (i : Nat) (r : Addr) (a : AskIs), rs[i]? = some r → as[i]? = some a → AskAt K ns H r a
theorem AsksAt.mono {K : PySem.W.Frag} {ns : List Str} {H H' : Hp} {rs : List Addr} {as : List AskIs} (h : AsksAt K ns H rs as) (e : ∀ t xs, SqT K H t xs → SqT K H' t xs) : AsksAt K ns H' rs as :=
  ⟨h.len, fun i r a h1 h2 => (h.at' i r a h1 h2).mono e⟩
theorem AsksAt.get {K : PySem.W.Frag} {ns : List Str} {H : Hp} {rs : List Addr} {as : List AskIs} (h : AsksAt K ns H rs as) {i : Nat} {r : Addr} (hr : rs[i]? = some r) : ∃ a, as[i]? = some a ∧ AskAt K ns H r a := by
  obtain ⟨hi, _⟩ := List.getElem?_eq_some_iff.mp hr
  have hi' : i < as.length := by rw [← h.len]; exact hi
  exact ⟨_, List.getElem?_eq_getElem hi', h.at' i r _ hr (List.getElem?_eq_getElem hi')⟩
def spAsks (K : PySem.W.Frag) : Sp := fun vs H Q _ => ∃ (c k a : Addr) (ns : List Int) (ks as : List Str), vs = [.ref c, .ref k, .ref a] ∧ SqL K H c (ns.map V.int) ∧ ns.length ≤ 63 ∧ SqL K H k (ks.map V.str) ∧ 1 ≤ ks.length ∧ ks.length ≤ 100 ∧ SqL K H a (as.map V.str) ∧ 1 ≤ as.length ∧ as.length ≤ 100 ∧ (∀ (i j : Nat) (y : Str), as[i]? = some y → as[j]? = some y → i = j) ∧
  ∀ (q : Addr) (H' : Hp) (rs : List Addr) (aa : List AskIs), Same H H' → H q = none → H' q = some (.lst (rs.map V.ref)) → rs.length ≤ 60 → AsksAt K as H' rs aa → Rising aa → Q (.ref q) H'
section
variable {P : Program} {w : World} {K : PySem.W.Frag} {mg : Str → Option Value} {base : Heap}
abbrev nAsks : List Str := ["_law_script", "_law_keys", "_law_askers", "_law_asks_here", "_law_last", "_law_k", "_law_row", "_law_at"]
theorem scAsks : FnScope nAsks ["_law_script", "_law_keys", "_law_askers"] (defScope sAsks) := ⟨rfl, rfl, rfl, by decide +kernel, rfl, by decide +kernel, by decide +kernel⟩
theorem atI_le {α : Type} {xs : List α} {i : Int} {x : α} (h0 : 0 ≤ i) (h : xs[i.toNat]? = some x) : atI xs i = some x := by
  obtain ⟨n, rfl⟩ := Int.eq_ofNat_of_zero_le h0
  exact atI_nat h
theorem ixN_le {n : Nat} {i : Int} (h0 : 0 ≤ i) (h : i.toNat < n) : ixN n i = some i.toNat := by
  unfold ixN
  rw [if_pos h0, if_pos (by omega)]
theorem ok_asks {f : Addr} {fd : FuncData} (F : Fun K "_law_asks" "_law_asks" sAsks f fd) (B : Blt mg) (Fd : FnAt P w K mg base 3 "_law_digits" ["_law_script", "_law_k", "_law_base", "_law_many"] (spDigits K)) (Fw : FnAt P w K mg base 2 "_law_work" ["_law_row", "_law_keys"] (spWork K)) :
    FnOk P w K mg base CX0 4 f fd ["_law_script", "_law_keys", "_law_askers"] (spAsks K) := by
  refine F.ok scAsks (fun vs H Q E h => ?_) (fun cdv A outer s H vs Q E hr h => ?_)
  · obtain ⟨c, k, a, ns, ks, as, rfl, _⟩ := h
    rfl
  · obtain ⟨c, k, a, ns, ks, as, rfl, hc, hns, hk, hk0, hk1, ha, ha0, ha1, had, q⟩ := h
    have nd := scAsks.nd
    have hr2 : Room 2 _ := hr.mono (by decide)
    refine ⟨_, pss_cons (ps_set (i := 3) nd rfl (Or.inl rfl) (pe_lst pa_nil)) <|
      pss_cons (ps_set (i := 4) nd rfl (Or.inl rfl) (pe_op op_rep (pe_lst (pa_cons pe_int pa_nil)) (pe_callB call_len_seq (by rfl) B.len PySem.boot_len (pa_cons (pv 2) pa_nil)))) <|
      pss_cons (ps_for PassesOwn.never rfl (pi_range2 rfl B.range (pa_cons pe_int (pa_cons (pe_callB (call_min2 rfl) (by rfl) B.min bMin (pa_cons (pe_callB call_len_seq (by rfl) B.len PySem.boot_len (pa_cons (pv 0) pa_nil)) (pa_cons pe_int pa_nil))) pa_nil))) (pg_name (i := 5) nd rfl (Or.inl rfl)) <|
        pss_cons (ps_set (i := 6) nd rfl (Or.inl rfl) (pe_callF Fd hr (pa_cons (pv 0) (pa_cons (pv 5) (pa_cons pe_int (pa_cons pe_int pa_nil)))))) <|
        pss_cons (ps_set (i := 7) nd rfl (Or.inl rfl) (pe_op op_mod (pe_op op_fdiv (pe_ix ix_list (pv 6) pe_int (fun _ _ => rfl)) pe_int) (pe_callB call_len_seq (by rfl) B.len PySem.boot_len (pa_cons (pv 2) pa_nil)))) <|
        pss_cons (ps_asg (pe_op op_add (pe_op op_add (pe_ix ix_list (pv 4) (pv 7) (fun _ _ => rfl)) pe_int) (pe_op op_mod (pe_ix ix_list (pv 6) pe_int (fun _ _ => rfl)) pe_int)) (pg_sub (pv 4) (pv 7) set_list)) <|
        pss_one <| ps_expr <| pe_bm PySem.F.plainAttrs_list PySem.F.slot_list_append PySem.F.type_list_append mt_append (pv 3) <| pa_cons (pe_tup (pa_cons (pe_ix ix_list (pv 2) (pv 7) (fun _ _ => rfl)) (pa_cons (pe_ix ix_list (pv 4) (pv 7) (fun _ _ => rfl)) (pa_cons (pe_callF Fw hr2 (pa_cons (pv 6) (pa_cons (pv 1) pa_nil))) pa_nil)))) pa_nil) <|
      pss_one <| ps_ret (pv 3), ?_⟩
    refine ⟨(by show 0 ≤ sizeLine; decide), fun l hl => ?_⟩
    have s1 : Same H (upd H l (.lst [])) := .new hl
    refine ⟨(by show 1 ≤ sizeLine; decide), fun l0 hl0 => ?_⟩
    have s2 : Same (upd H l (.lst [])) (upd (upd H l (.lst [])) l0 (.lst [V.int 0])) := .new hl0
    refine ⟨_, rfl, a, _, rfl, .inl ((s1.trans s2).seq ha), l0, _, _, rfl, rfl, upd_same, by omega, (by rw [List.length_map]; omega), (by rw [List.length_map, Int.toNat_natCast]; exact Nat.le_of_lt (small1000 (by simp; omega))), fun l1 hl1 => ?_⟩
    have er : (List.replicate ((as.map V.str).length : Int).toNat [V.int 0]).flatten = (List.replicate as.length (0 : Int)).map V.int := by
      rw [List.length_map, Int.toNat_natCast, List.flatten_replicate_singleton, List.map_replicate]
    rw [er]
    have s3 : Same (upd (upd H l (.lst [])) l0 (.lst [V.int 0])) (upd (upd (upd H l (.lst [])) l0 (.lst [V.int 0])) l1 (.lst ((List.replicate as.length (0 : Int)).map V.int))) := .new hl1
    have hll : (upd (upd (upd H l (.lst [])) l0 (.lst [V.int 0])) l1 (.lst ((List.replicate as.length (0 : Int)).map V.int))) l = some (.lst []) := s3 _ _ (s2 _ _ upd_same)
    have hll1 : (upd (upd (upd H l (.lst [])) l0 (.lst [V.int 0])) l1 (.lst ((List.replicate as.length (0 : Int)).map V.int))) l1 = some (.lst ((List.replicate as.length (0 : Int)).map V.int)) := upd_same
    have sA : Same H (upd (upd (upd H l (.lst [])) l0 (.lst [V.int 0])) l1 (.lst ((List.replicate as.length (0 : Int)).map V.int))) := s1.trans (s2.trans s3)
    have hHl1 : H l1 = none := (s1.trans s2).none hl1
    have nll : l ≠ l1 := ne_of_none (s2 _ _ upd_same) hl1
    generalize upd (upd (upd H l (.lst [])) l0 (.lst [V.int 0])) l1 (.lst ((List.replicate as.length (0 : Int)).map V.int)) = HA at sA hll hll1
    have hj : ∀ j : Int, j = (if (63 : Int) < ((ns.map V.int).length : Int) then 63 else ((ns.map V.int).length : Int)) → 0 ≤ j ∧ j ≤ 63 := fun j e => by
      rw [List.length_map] at e
      split at e <;> omega
    have hjj := hj _ rfl
    refine ⟨_, rfl, c, _, rfl, .inl (sA.seq hc), _, _, rfl, 3, _, rfl, ⟨by omega, by omega, Int.le_trans (by decide) hjj.1, Int.lt_of_le_of_lt hjj.2 (by decide)⟩, for_range (lo := 3) (fun i σ H2 => ∃ (rs : List Addr) (aa : List AskIs) (ls : List Int) (kv rv av : Option V), σ = [some (.ref c), some (.ref k), some (.ref a), some (.ref l), some (.ref l1), kv, rv, av] ∧ Same H H2 ∧ H2 l = some (.lst (rs.map V.ref)) ∧ H2 l1 = some (.lst (ls.map V.int)) ∧ ls.length = as.length ∧ rs.length = i ∧ AsksAt K as H2 rs aa ∧ Rising aa ∧ (∀ b ∈ aa, ∀ (j : Nat) (v : Int), as[j]? = some b.x → ls[j]? = some v → b.n ≤ v) ∧ ∀ v ∈ ls, 0 ≤ v)
      ⟨[], [], _, none, none, none, rfl, sA, hll, hll1, List.length_replicate, rfl, ⟨rfl, fun i r a h => (by cases h)⟩, ⟨List.Pairwise.nil, fun b hb => (by cases hb)⟩, fun b hb => (by cases hb), fun v hv => (by rw [List.eq_of_mem_replicate hv]; exact Int.le_refl _)⟩ ?_ ?_⟩
    · rintro i σ H2 hi ⟨rs, aa, ls, kv, rv, av, rfl, sm, hl2, hl12, hls, hrl, hAA, hR, hb, hpos⟩
      have hi60 : i < 60 := by have := hjj.2; omega
      refine ⟨_, rfl, _, rfl, c, ns, _, 1080, 24, rfl, sm.seq hc, by omega, by omega, by decide, by decide, by decide, by decide, fun ds p H3 s3 hp hp3 hdl hd3 => ?_⟩
      have rA : ∀ i : Nat, i < 24 → atI (ds.map V.int) (i : Int) = some (.int (ds.getD i 0)) := fun i hi => ints_at (by omega)
      have al : (0 : Int) < ((as.map V.str).length : Int) := by rw [List.length_map]; omega
      have m0 := Int.emod_nonneg (ds.getD 22 0 / 12) (show ((as.map V.str).length : Int) ≠ 0 by omega)
      have m1 := Int.emod_lt_of_pos (ds.getD 22 0 / 12) al
      obtain ⟨j, hj⟩ : ∃ j : Nat, ds.getD 22 0 / 12 % ((as.map V.str).length : Int) = (j : Int) := ⟨_, (Int.toNat_of_nonneg m0).symm⟩
      have hjl : j < as.length := by rw [hj, List.length_map] at m1; omega
      refine ⟨_, rfl, p, _, _, _, rfl, rfl, SqL.of hp3, rA 22 (by decide), _, _, rfl, rfl, ⟨by decide, by decide⟩, _, rfl, a, _, rfl, .inl ((sm.trans s3).seq ha), _, _, rfl, rfl, al, ?_⟩
      have hv : ((fun i j : Int => V.int (i % j)) (ds.getD 22 0 / 12) ((as.map V.str).length : Int)) = V.int j := congrArg V.int hj
      rw [hv]
      have hl13 := s3 _ _ hl12
      have hl23 := s3 _ _ hl2
      obtain ⟨v0, hv0⟩ : ∃ v0, ls[j]? = some v0 := ⟨_, List.getElem?_eq_getElem (by omega)⟩
      obtain ⟨x, hx⟩ : ∃ x, as[j]? = some x := ⟨_, List.getElem?_eq_getElem hjl⟩
      have e0 := Int.emod_nonneg (ds.getD 23 0) (show (3 : Int) ≠ 0 by decide)
      have hv00 : 0 ≤ v0 := hpos v0 (List.mem_of_getElem? hv0)
      have hat : atI (ls.map V.int) (j : Int) = some (.int v0) := atI_nat (by rw [List.getElem?_map, hv0]; rfl)
      refine ⟨_, rfl, _, rfl, l1, _, _, _, rfl, rfl, SqL.of hl13, hat, _, _, rfl, rfl, _, rfl, p, _, _, _, rfl, rfl, SqL.of hp3, rA 23 (by decide), _, _, rfl, rfl, (by dsimp only; decide), _, _, rfl, rfl, ?_⟩
      refine ⟨_, rfl, _, rfl, l1, _, _, _, rfl, rfl, hl13, ixN_le (by omega) (by rw [List.length_map, Int.toNat_natCast]; omega), ?_⟩
      rw [Int.toNat_natCast]
      have ems : (ls.map V.int).set j (V.int (v0 + 1 + ds.getD 23 0 % 3)) = (ls.set j (v0 + 1 + ds.getD 23 0 % 3)).map V.int := by rw [List.map_set]
      obtain ⟨nv, hnv⟩ : ∃ nv : Int, nv = v0 + 1 + ds.getD 23 0 % 3 := ⟨_, rfl⟩
      have hH3l : H3 l1 = some (.lst (ls.map V.int)) := hl13
      have hnv1 : v0 < nv := by omega
      rw [ems, ← hnv]
      have hl24 : upd H3 l1 (.lst ((ls.set j nv).map V.int)) l = some (.lst (rs.map V.ref)) := by rw [upd_ne nll]; exact hl23
      have hl14 : upd H3 l1 (.lst ((ls.set j nv).map V.int)) l1 = some (.lst ((ls.set j nv).map V.int)) := upd_same
      have sm4 : Same H (upd H3 l1 (.lst ((ls.set j nv).map V.int))) := fun b o e => by rw [upd_ne (ne_of_none e hHl1)]; exact s3 _ _ (sm _ _ e)
      have hp4 : upd H3 l1 (.lst ((ls.set j nv).map V.int)) p = some (.lst (ds.map V.int)) := by rw [upd_ne (by rintro rfl; rw [hl12] at hp; cases hp)]; exact hp3
      have hA4 : AsksAt K as (upd H3 l1 (.lst ((ls.set j nv).map V.int))) rs aa := hAA.mono fun t xs e => (SqT.same s3 e).updL hl13
      generalize upd H3 l1 (.lst ((ls.set j nv).map V.int)) = H4 at hl24 hl14 sm4 hp4 hA4
      have hat1 : atI ((ls.set j nv).map V.int) (j : Int) = some (.int nv) := atI_nat (by rw [List.getElem?_map, List.getElem?_set_self (by omega)]; rfl)
      have hat2 : atI (as.map V.str) (j : Int) = some (.str x) := atI_nat (by rw [List.getElem?_map, hx]; rfl)
      refine ⟨_, rfl, .inl ⟨rfl, _, SqL.of hl24⟩, _, rfl, _, rfl, a, _, _, _, rfl, rfl, sm4.seq ha, hat2, _, rfl, _, rfl, l1, _, _, _, rfl, rfl, SqL.of hl14, hat1, _, rfl, _, rfl, p, k, ds, ks, rfl, SqL.of hp4, by omega, by omega, sm4.seq hk, hk0, hk1, fun wk t H5 s5 ht0 ht5 => ⟨(by show 3 ≤ sizeLine; decide), fun r hr' => ?_⟩⟩
      have s6 : Same H4 (upd H5 r (.tup [V.str x, V.int nv, V.ref t])) := s5.trans (.new hr')
      have hr6 : upd H5 r (.tup [V.str x, V.int nv, V.ref t]) r = some (.tup [V.str x, V.int nv, V.ref t]) := upd_same
      have ht6 : upd H5 r (.tup [V.str x, V.int nv, V.ref t]) t = some (.tup wk.vs) := (Same.new hr') _ _ ht5
      generalize upd H5 r (.tup [V.str x, V.int nv, V.ref t]) = H6 at s6 hr6 ht6
      have hl26 := s6 _ _ hl24
      refine ⟨l, _, _, rfl, rfl, hl26, (by rw [List.length_map]; exact small1000 (by omega)), ?_⟩
      have hHl : H l = none := hl
      have hAl := hAA.len
      refine ⟨rs ++ [r], aa ++ [⟨x, nv, wk⟩], ls.set j nv, _, _, _, rfl, fun b o e => ?_, by rw [upd_same, List.map_append]; rfl, by rw [upd_ne nll.symm]; exact s6 _ _ hl14, by rw [List.length_set]; exact hls, by rw [List.length_append, hrl]; rfl, ⟨by rw [List.length_append, List.length_append, hAl]; rfl, fun i' r' a' h1 h2 => ?_⟩, ⟨?_, fun b hb' => ?_⟩, fun b hb' j' v h1 h2 => ?_, fun v hv => ?_⟩
      · rw [upd_ne (ne_of_none e hHl)]
        exact s6 _ _ (sm4 _ _ e)
      · rcases Nat.lt_or_ge i' rs.length with z | z
        · rw [List.getElem?_append_left z] at h1
          rw [List.getElem?_append_left (by omega)] at h2
          exact (hA4.at' i' r' a' h1 h2).mono fun t xs e => (SqT.same s6 e).updL hl26
        · have ei : i' = rs.length := by
            have := (List.getElem?_eq_some_iff.mp h1).1
            rw [List.length_append, List.length_singleton] at this
            omega
          subst ei
          rw [List.getElem?_append_right (Nat.le_refl _), Nat.sub_self] at h1
          rw [List.getElem?_append_right (by omega), show rs.length - aa.length = 0 by omega] at h2
          cases h1
          cases h2
          exact ⟨t, (SqT.of hr6).updL hl26, (SqT.of ht6).updL hl26, by show 1 ≤ nv; omega, List.mem_of_getElem? hx⟩
      · refine List.pairwise_append.mpr ⟨hR.up, List.pairwise_singleton _ _, fun b hb' c hc' ex => ?_⟩
        rw [List.mem_singleton.mp hc'] at ex ⊢
        have ex : b.x = x := ex
        have := hb b hb' j v0 (by rw [ex]; exact hx) hv0
        show b.n < nv
        omega
      · rcases List.mem_append.mp hb' with z | z
        · exact hR.one b z
        · rw [List.mem_singleton.mp z]
          show 1 ≤ nv
          omega
      · rcases List.mem_append.mp hb' with z | z
        · by_cases ej : j' = j
          · subst ej
            rw [List.getElem?_set_self (by omega)] at h2
            cases h2
            have := hb b z j' v0 h1 hv0
            omega
          · rw [List.getElem?_set_ne (fun z => ej z.symm)] at h2
            exact hb b z j' v h1 h2
        · rw [List.mem_singleton.mp z] at h1 ⊢
          have h1 : as[j']? = some x := h1
          have ej := had j' j x h1 hx
          subst ej
          rw [List.getElem?_set_self (by omega)] at h2
          cases h2
          exact Int.le_refl _
      · rcases List.mem_or_eq_of_mem_set hv with z | z
        · exact hpos v z
        · rw [z]; omega
    · rintro σ H2 ⟨rs, aa, ls, kv, rv, av, rfl, sm, hl2, hl12, hls, hrl, hAA, hR, hb, hpos⟩
      refine ⟨_, rfl, q l H2 rs aa sm hl hl2 ?_ hAA hR⟩
      have := hjj.2
      omega
end
end K05

namespace K05
open PySem L2 KM
theorem SqL.but2 {K : PySem.W.Frag} {H H' : Hp} {h g t : Addr} {m m' : Kvs} {xs : List V} (e : But2 h g H H') (hh : H h = some (.dK m)) (hg : H g = some (.dK m')) (q : SqL K H t xs) : SqL K H' t xs := by
  rcases q with (q | ⟨o', q⟩) | q
  · exact .inl (.inl (e _ _ q (ne_of q hh (by intro z; cases z)) (ne_of q hg (by intro z; cases z))))
  · exact .inl (.inr ⟨o', e _ _ q (ne_of q hh (by intro z; cases z)) (ne_of q hg (by intro z; cases z))⟩)
  · exact .inr q
theorem TabAt.updL {K : PySem.W.Frag} {C : Addr} {H : Hp} {T d l D : Addr} {kvs : Kvs} {las : Las} {m : List V} {o : HO} (S : TabAt K C H T d l kvs las) (e : H D = some (.lst m)) : TabAt K C (upd H D o) T d l kvs las := by
  obtain ⟨⟨dx, h1⟩, hd, ⟨lk, hl, lr⟩, hne⟩ := S
  refine ⟨⟨dx, by rw [upd_ne (ne_of h1 e (by intro z; cases z))]; exact h1⟩, by rw [upd_ne (ne_of hd e (by intro z; cases z))]; exact hd, ⟨lk, by rw [upd_ne (ne_of hl e (by intro z; cases z))]; exact hl, lr.mono fun t xs q => q.updL e⟩, hne⟩
/-- the answers to a row of asks, from a state on -/
structure AnsAt (H : Hp) (ts : List Addr) (s : S2) (as : List AskIs) : Prop where
  len : ts.length = as.length
  at' : ∀ (i : Nat) (t : Addr) (a : AskIs), ts[i]? = some t → as[i]? = some a → H t = some (.tup (answ (runR s (as.take i)) a))
theorem AnsAt.keepN {H H' : Hp} {ts : List Addr} {s : S2} {as : List AskIs} (h : AnsAt H ts s as) (e : KeepN H H') : AnsAt H' ts s as :=
  ⟨h.len, fun i t a h1 h2 => e _ _ (h.at' i t a h1 h2) (by intro m z; cases z)⟩
def spDone5 (K : PySem.W.Frag) (C : Addr) : Sp := fun vs H Q _ => ∃ (T d l q : Addr) (s : S2) (ns : List Str) (rs : List Addr) (as : List AskIs), vs = [.ref T, .ref q] ∧ TabAt K C H T d l s.1 s.2 ∧ StOk s.1 s.2 ∧ s.1.length + as.length ≤ 900 ∧ s.2.length + as.length ≤ 900 ∧ SqL K H q (rs.map V.ref) ∧ AsksAt K ns H rs as ∧
  ∀ (p : Addr) (ts : List Addr) (H' : Hp), H p = none → H' p = some (.lst (ts.map V.ref)) → AnsAt H' ts s as → TabAt K C H' T d l (runR s as).1 (runR s as).2 → But2 d l H H' → Q (.ref p) H'
section
variable {P : Program} {w : World} {K : PySem.W.Frag} {mg : Str → Option Value} {base : Heap}
abbrev nDn : List Str := ["_law_table", "_law_asks_here"]
abbrev nDnC : List Str := ["_law_asker", "_law_number_here", "_law_work_here"]
theorem scDn : FnScope nDn nDn (defScope sDone5) := ⟨rfl, rfl, rfl, by decide +kernel, rfl, by decide +kernel, by decide +kernel⟩
theorem ndDn : (nDn ++ nDnC).Nodup := by decide +kernel
theorem ok_done5 {f C : Addr} {fd : FuncData} (F : Fun K "_law_done" "_law_done" sDone5 f fd) (T : Cl K mg C) (Md : MeAt P w K mg base C 3 "does" ["self", "asker", "number", "work"] (spDoes K C)) : FnOk P w K mg base CX0 4 f fd nDn (spDone5 K C) := by
  obtain ⟨fD, fdD, GD, bD, MD⟩ := Md.ex
  refine F.ok scDn (fun vs H Q E h => ?_) (fun cdv A outer s H vs Q E hr h => ?_)
  · obtain ⟨T', d, l, q, s2, ns, rs, as, rfl, _⟩ := h
    rfl
  · obtain ⟨T', d, l, qa, s2, ns, rs, as, rfl, S, ok, hkl, hll, hq, hA, q⟩ := h
    have nd := scDn.nd
    refine ⟨_, pss_one (ps_ret (pe_lc nDn nDn nDnC (defScope sDone5) rfl rfl rfl (by decide +kernel) rfl rfl (by decide +kernel) (by decide +kernel) (by decide +kernel) (by decide +kernel)
      (pi_list (pv 1)) (fun _ _ _ _ _ => pg_tupC (n := 3) rfl (pgs_cons (pg_name (i := 2) ndDn rfl (Or.inl rfl)) (pgs_cons (pg_name (i := 3) ndDn rfl (Or.inl rfl)) (pgs_cons (pg_name (i := 4) ndDn rfl (Or.inl rfl)) pgs_nil)))) (fun _ _ _ _ _ => pts_nil)
      (fun _ _ _ _ _ => pe_meth (pv 0) T.cl MD GD hr bD .nil pass0 (pa_cons (pv 2) (pa_cons (pv 3) (pa_cons (pv 4) pa_nil)))))), ?_⟩
    obtain ⟨_, hd, ⟨lk, hl, _⟩, _⟩ := id S
    have hAl := hA.len
    have nlD : (flds d l).lookup ("does" : Str) = none := flds_no _ _ (by decide +kernel) (by decide +kernel)
    refine ⟨_, rfl, qa, rfl, ⟨_, hq⟩, ?_⟩
    refine lcP (n := rs.length) (fun i => .ref (rs.getD i 0)) (fun D i zs H' => H D = none ∧ H' D = some (.lst zs) ∧ But2 d l H H' ∧ TabAt K C H' T' d l (runR s2 (as.take i)).1 (runR s2 (as.take i)).2 ∧ ∃ ts : List Addr, zs = ts.map V.ref ∧ ts.length = i ∧ ∀ (j : Nat) (t : Addr) (a : AskIs), ts[j]? = some t → as[j]? = some a → H' t = some (.tup (answ (runR s2 (as.take j)) a))) ?_ ?_ ?_ ?_ ?_ ?_
    · rintro D i zs H' hi ⟨hD, _, b, _⟩
      exact ⟨_, V.ref rs[i], SqL.but2 b hd hl hq, by rw [List.getElem?_map, List.getElem?_eq_getElem hi]; rfl⟩
    · rintro D i zs H' y H'' hi ⟨hD, _, b, _⟩ ⟨e, hy⟩
      refine ⟨e, ?_⟩
      have := hy _ (SqL.but2 b hd hl hq)
      rw [List.getElem?_map, List.getElem?_eq_getElem hi] at this
      rw [List.getD_eq_getElem?_getD, List.getElem?_eq_getElem hi]
      exact (Option.some.inj this).symm
    · rintro D zs H' ⟨hD, _, b, _⟩
      exact ⟨_, SqL.but2 b hd hl hq, by rw [List.length_map]; exact Nat.le_refl _⟩
    · intro D hD
      refine ⟨hD, upd_same, fun b o e _ _ => (Same.new hD) _ _ e, S.same (.new hD), [], rfl, rfl, fun j t a h => by simp at h⟩
    · rintro D i zs H' yes no hi ⟨hD, hD', b, S', ts, rfl, htl, hts⟩ hy hn
      have hr0 : rs[i]? = some (rs.getD i 0) := by rw [List.getD_eq_getElem?_getD, List.getElem?_eq_getElem hi]; rfl
      obtain ⟨⟨x, m, wk⟩, ha, hAt⟩ := hA.get hr0
      obtain ⟨tt, ht1, ht2, hn1, hxs⟩ := hAt
      have ht1' := SqT.but2 b hd hl ht1
      have ht2' := SqT.but2 b hd hl ht2
      refine ⟨rs.getD i 0, _, rfl, ht1', rfl, _, _, rfl, _, _, rfl, _, _, rfl, rfl, ?_⟩
      refine ⟨⟨[some (.str x), some (.int m), some (.ref tt)], rfl, rfl⟩, ?_⟩
      refine iteT (B := no H') ?_
      obtain ⟨⟨dy, hT'⟩, hd', ⟨lk', hl', _⟩, _⟩ := id S'
      have hlen := runR_len s2 (as.take i)
      rw [List.length_take] at hlen
      refine ⟨_, rfl, T', dy, _, rfl, hT', nlD, _, rfl, _, rfl, _, rfl, T', d, l, tt, _, _, x, m, wk, rfl, S', by omega, by omega, (runR_ok ok _).ik, hn1, ht2', fun r2 H8 hr2 hr28 S8 b8 => ?_⟩
      have nDd : D ≠ d := (ne_of_none hd hD).symm
      have nDl : D ≠ l := (ne_of_none hl hD).symm
      have hD8 : H8 D = some (.lst (ts.map V.ref)) := b8 _ _ hD' nDd nDl
      refine hy (.ref r2) H8 hD8 (by rw [List.length_map]; exact small1000 (by omega)) ⟨hD, upd_same, fun c o e h1 h2 => ?_, ?_, ts ++ [r2], by rw [List.map_append]; rfl, by rw [List.length_append, htl]; rfl, fun j t a h1 h2 => ?_⟩
      · rw [upd_ne (ne_of_none e hD)]
        exact b8 _ _ (b _ _ e h1 h2) h1 h2
      · rw [runR_take ha]
        exact S8.updL hD8
      · rcases Nat.lt_or_ge j ts.length with z | z
        · rw [List.getElem?_append_left z] at h1
          have h3 := hts j t a h1 h2
          have h4 : H8 t = some (.tup (answ (runR s2 (as.take j)) a)) := b8 _ _ h3 (ne_of h3 hd' (by intro z; cases z)) (ne_of h3 hl' (by intro z; cases z))
          rw [upd_ne (ne_of h4 hD8 (by intro z; cases z))]
          exact h4
        · have ej : j = ts.length := by
            have := (List.getElem?_eq_some_iff.mp h1).1
            rw [List.length_append, List.length_singleton] at this
            omega
          subst ej
          rw [List.getElem?_append_right (Nat.le_refl _), Nat.sub_self] at h1
          cases h1
          rw [htl, ha] at h2
          cases h2
          rw [htl, upd_ne (ne_of hr28 hD8 (by intro z; cases z))]
          exact hr28
    · rintro D zs H' ⟨hD, hD', b, S', ts, rfl, htl, hts⟩
      rw [hAl, List.take_length] at S'
      exact q D ts H' hD hD' ⟨by omega, hts⟩ S' b
end
end K05

namespace K05
open PySem L2 KM
abbrev ordV (os : List Nat) : List V := os.map fun (k : Nat) => V.int (k : Int)
def spDbl (K : PySem.W.Frag) : Sp := fun vs H Q _ => ∃ (c q : Addr) (ns : List Int) (rs : List Addr), vs = [.ref c, .ref q] ∧ SqL K H c (ns.map V.int) ∧ SqL K H q (rs.map V.ref) ∧ rs.length ≤ 60 ∧
  ∀ (p : Addr) (H' : Hp) (os : List Nat), Same H H' → H p = none → H' p = some (.lst (ordV os)) → reach 0 os = some rs.length → os.length = 3 * rs.length → Q (.ref p) H'
section
variable {P : Program} {w : World} {K : PySem.W.Frag} {mg : Str → Option Value} {base : Heap}
abbrev nDb : List Str := ["_law_script", "_law_asks_here", "_law_found", "_law_k", "_law_row"]
theorem scDb : FnScope nDb ["_law_script", "_law_asks_here"] (defScope sDbl) := ⟨rfl, rfl, rfl, by decide +kernel, rfl, by decide +kernel, by decide +kernel⟩
theorem rngV_ord (n : Nat) : rngV n = ordV (List.range n) := rfl
theorem ok_dbl {f : Addr} {fd : FuncData} (F : Fun K "_law_doubled" "_law_doubled" sDbl f fd) (B : Blt mg) (Fd : FnAt P w K mg base 3 "_law_digits" ["_law_script", "_law_k", "_law_base", "_law_many"] (spDigits K)) :
    FnOk P w K mg base CX0 4 f fd ["_law_script", "_law_asks_here"] (spDbl K) := by
  refine F.ok scDb (fun vs H Q E h => ?_) (fun cdv A outer s H vs Q E hr h => ?_)
  · obtain ⟨c, q, ns, rs, rfl, _⟩ := h
    rfl
  · obtain ⟨c, qa, ns, rs, rfl, hc, hq, hrl, q⟩ := h
    have nd := scDb.nd
    refine ⟨_, pss_cons (ps_set (i := 2) nd rfl (Or.inl rfl) (pe_lst pa_nil)) <|
      pss_cons (ps_for PassesOwn.never rfl (pi_range1 rfl B.range (pa_cons (pe_callB call_len_seq (by rfl) B.len PySem.boot_len (pa_cons (pv 1) pa_nil)) pa_nil)) (pg_name (i := 3) nd rfl (Or.inl rfl)) <|
        pss_cons (ps_expr <| pe_bm PySem.F.plainAttrs_list PySem.F.slot_list_append PySem.F.type_list_append mt_append (pv 2) <| pa_cons (pv 3) pa_nil) <|
        pss_cons (ps_set (i := 4) nd rfl (Or.inl rfl) (pe_callF Fd hr (pa_cons (pv 0) (pa_cons (pe_op op_add pe_int (pv 3)) (pa_cons pe_int (pa_cons pe_int pa_nil)))))) <|
        pss_one <| ps_expr <| pe_bm PySem.F.plainAttrs_list PySem.F.slot_list_append PySem.F.type_list_append mt_append (pv 2) <| pa_cons (pe_op op_mod (pe_ix ix_list (pv 4) pe_int (fun _ _ => rfl)) (pe_op op_add (pv 3) pe_int)) pa_nil) <|
      pss_one <| ps_ret <| pe_op op_cat (pv 2) (pe_callTy (call_listR rfl) (by rfl) B.list bList (pa_cons (pe_callTy call_rngV (by rfl) B.range bRange (pa_cons (pe_callB call_len_seq (by rfl) B.len PySem.boot_len (pa_cons (pv 1) pa_nil)) pa_nil)) pa_nil)), ?_⟩
    refine ⟨(by show 0 ≤ sizeLine; decide), fun l hl => ?_⟩
    have s1 : Same H (upd H l (.lst [])) := .new hl
    have hl1 : upd H l (.lst []) l = some (.lst []) := upd_same
    generalize upd H l (.lst []) = H1 at s1 hl1
    refine ⟨_, rfl, qa, _, rfl, .inl (s1.seq hq), ((rs.map V.ref).length : Int), rfl, by rw [List.length_map]; omega, by rw [List.length_map]; omega, for_range (lo := 0) (fun i σ H2 => ∃ (os : List Nat) (kv rv : Option V), σ = [some (.ref c), some (.ref qa), some (.ref l), kv, rv] ∧ Same H H2 ∧ H2 l = some (.lst (ordV os)) ∧ os.length = 2 * i ∧ reach 0 os = some i)
      ⟨[], none, none, rfl, s1, hl1, rfl, rfl⟩ ?_ ?_⟩
    · rintro i σ H2 hi ⟨os, kv, rv, rfl, sm, hl2, hol, hre⟩
      have hi60 : i < 60 := by rw [List.length_map] at hi; omega
      have e0 : (0 + (i : Int)) = (i : Int) := by omega
      rw [e0]
      refine ⟨_, rfl, .inl ⟨rfl, _, SqL.of hl2⟩, _, rfl, l, _, _, rfl, rfl, hl2, (by rw [List.length_map]; exact small1000 (by omega)), ?_⟩
      have sm3 : Same H (upd H2 l (.lst (ordV os ++ [V.int (i : Int)]))) := fun b o e => by rw [upd_ne (ne_of_none e hl)]; exact sm _ _ e
      have hl3 : upd H2 l (.lst (ordV os ++ [V.int (i : Int)])) l = some (.lst (ordV (os ++ [i]))) := by rw [upd_same]; unfold ordV; rw [List.map_append]; rfl
      generalize upd H2 l (.lst (ordV os ++ [V.int (i : Int)])) = H3 at sm3 hl3
      refine ⟨_, rfl, _, rfl, _, _, rfl, rfl, c, ns, _, 1080, 24, rfl, sm3.seq hc, by omega, by omega, by decide, by decide, by decide, by decide, fun ds p H4 s4 hp hp4 hdl hd4 => ?_⟩
      have hl4 := s4 _ _ hl3
      have rA : atI (ds.map V.int) (21 : Int) = some (.int (ds.getD 21 0)) := ints_at (i := 21) (by omega)
      have m0 := Int.emod_nonneg (ds.getD 21 0) (show (i : Int) + 1 ≠ 0 by omega)
      have m1 := Int.emod_lt_of_pos (ds.getD 21 0) (show (0 : Int) < (i : Int) + 1 by omega)
      obtain ⟨j, hj⟩ : ∃ j : Nat, ds.getD 21 0 % ((i : Int) + 1) = (j : Int) := ⟨_, (Int.toNat_of_nonneg m0).symm⟩
      refine ⟨_, rfl, .inl ⟨rfl, _, SqL.of hl4⟩, _, rfl, p, _, _, _, rfl, rfl, SqL.of hp4, rA, _, rfl, _, _, rfl, rfl, _, _, rfl, rfl, (by show (0 : Int) < (i : Int) + 1; omega), ?_⟩
      have hv : ((fun i j : Int => V.int (i % j)) (ds.getD 21 0) ((i : Int) + 1)) = V.int j := congrArg V.int hj
      rw [hv]
      refine ⟨l, _, _, rfl, rfl, hl4, (by rw [List.length_map, List.length_append, List.length_singleton]; exact small1000 (by omega)), ?_⟩
      refine ⟨os ++ [i] ++ [j], _, _, rfl, fun b o e => ?_, ?_, ?_, ?_⟩
      · rw [upd_ne (ne_of_none e hl)]; exact s4 _ _ (sm3 _ _ e)
      · rw [upd_same]; unfold ordV; rw [List.map_append (l₂ := [j])]; rfl
      · rw [List.length_append, List.length_append, List.length_singleton, List.length_singleton]; omega
      · refine reach_app (reach_app hre (d := i) (n := i + 1) ?_) ?_
        · unfold reach; rw [if_pos rfl]; rfl
        · exact reach_low fun k hk => by rw [List.mem_singleton.mp hk]; omega
    · rintro σ H2 ⟨os, kv, rv, rfl, sm, hl2, hol, hre⟩
      rw [Int.toNat_natCast, List.length_map] at hol hre
      refine ⟨_, rfl, _, rfl, qa, _, rfl, .inl (sm.seq hq), _, rfl, fun p1 hp1 => ?_⟩
      have s3 : Same H2 (upd H2 p1 (.rng 0 ((rs.map V.ref).length : Int))) := .new hp1
      refine ⟨p1, (rs.map V.ref).length, rfl, upd_same, by rw [List.length_map]; omega, fun p2 hp2 => ?_⟩
      have s4 : Same (upd H2 p1 (.rng 0 ((rs.map V.ref).length : Int))) (upd (upd H2 p1 (.rng 0 ((rs.map V.ref).length : Int))) p2 (.lst (rngV (rs.map V.ref).length))) := .new hp2
      refine ⟨l, p2, _, _, rfl, rfl, s4 _ _ (s3 _ _ hl2), upd_same, ?_, fun p hp => ?_⟩
      · unfold rngV
        rw [List.length_map, List.length_map, List.length_range, List.length_map]
        exact Nat.le_of_lt (small1000 (by omega))
      · have sA := sm.trans (s3.trans s4)
        refine q p _ (os ++ List.range rs.length) (sA.trans (.new hp)) (sA.none hp) ?_ ?_ ?_
        · rw [upd_same, List.length_map, rngV_ord]
          unfold ordV
          rw [List.map_append]
        · exact reach_app hre (reach_low fun k hk => List.mem_range.mp hk)
        · rw [List.length_append, List.length_range]; omega
end
end K05

namespace K05
open PySem L2 KM
theorem same_flat {H : Hp} {t u : Addr} {zs : List V} (h : H t = some (.tup zs)) (h' : H u = some (.tup zs)) (hl : zs.length ≤ 900) (hz : ∀ z ∈ zs, FlatV z) : SameN 1 (.ref t) (.ref u) H := by
  refine .inr ⟨t, u, _, _, rfl, rfl, .inl h, .inl h', rfl, hl, fun i x y hx hy => ?_⟩
  rw [hx] at hy
  cases hy
  exact SameN.flat (n := 0) (hz x (List.mem_of_getElem? hx))
theorem putK_len5 (kvs : Kvs) (k : Key) (v : V) : (putK kvs k v).length ≤ kvs.length + 1 := by
  unfold putK
  split
  · rw [List.length_map]; omega
  · rw [List.length_append]; exact Nat.le_refl _
/-- what _law_right has seen -/
structure RS (aa : List AskIs) (c : Nat) (seen lastd : Kvs) : Prop where
  sn : ∀ k : Nat, valV seen (Sum.inl (k : Int)) = if k < c then some (.bl true) else none
  ls : ∀ x : Str, (valV lastd (Sum.inr x) = none ∧ getL (stA aa c).2 (Sum.inr x) = none) ∨ (valV lastd (Sum.inr x) = some (.int (lastN (stA aa c).2 x)) ∧ ∃ q, getL (stA aa c).2 (Sum.inr x) = some q)
theorem RS.get {aa : List AskIs} {c : Nat} {seen lastd : Kvs} (h : RS aa c seen lastd) (x : Str) : (valV lastd (Sum.inr x)).getD (.int 0) = .int (lastN (stA aa c).2 x) := by
  rcases h.ls x with ⟨e1, e2⟩ | ⟨e1, _⟩
  · rw [e1]
    unfold lastN
    rw [e2]
    rfl
  · rw [e1]; rfl
theorem RS.seen {aa : List AskIs} {c k : Nat} {seen lastd : Kvs} {a : AskIs} (h : RS aa c seen lastd) (hk : k < c) (ha : aa[k]? = some a) (J : Jv aa c) : valV lastd (Sum.inr a.x) = some (.int (lastN (stA aa c).2 a.x)) := by
  rcases h.ls a.x with ⟨_, e2⟩ | ⟨e1, _⟩
  · rcases J a.x with ⟨_, e⟩ | ⟨k', b, hk', hb, ex, e, mx⟩
    · exact absurd rfl (e k a hk ha)
    · rw [e2] at e; cases e
  · exact e1
theorem RS.new {aa : List AskIs} {c : Nat} {seen lastd : Kvs} {a : AskIs} (h : RS aa c seen lastd) (R : Rising aa) (ha : aa[c]? = some a) (J : Jv aa c) : RS aa (c + 1) (putK seen (Sum.inl (c : Int)) (.bl true)) (putK lastd (Sum.inr a.x) (.int a.n)) := by
  obtain ⟨e1, _, _⟩ := new_step R ha J
  have eg : ∀ y : Str, getL (stA aa (c + 1)).2 (Sum.inr y) = if (Sum.inr y : Key) = Sum.inr a.x then some (a.n, a.wk.ans (stA aa c).1) else getL (stA aa c).2 (Sum.inr y) := fun y => by rw [e1]; exact getL_put _ _ _ _
  refine ⟨fun k => ?_, fun x => ?_⟩
  · rw [valV_put]
    by_cases e : k = c
    · subst e; rw [if_pos rfl, if_pos (Nat.lt_succ_self _)]
    · rw [if_neg (fun z => e (by have := Sum.inl.inj z; omega)), h.sn]
      by_cases z : k < c
      · rw [if_pos z, if_pos (by omega)]
      · rw [if_neg z, if_neg (by omega)]
  · rw [valV_put]
    unfold lastN
    rw [eg]
    by_cases e : x = a.x
    · subst e
      rw [if_pos rfl, if_pos rfl]
      exact .inr ⟨rfl, _, rfl⟩
    · have hne : ¬ ((Sum.inr x : Key) = Sum.inr a.x) := fun z => e (Sum.inr.inj z)
      rw [if_neg hne, if_neg hne]
      exact h.ls x
theorem RS.old {aa : List AskIs} {c k : Nat} {seen lastd : Kvs} {a : AskIs} (h : RS aa c seen lastd) (hk : k < c) (ha : aa[k]? = some a) (J : Jv aa c) : RS aa c (putK seen (Sum.inl (k : Int)) (.bl true)) (putK lastd (Sum.inr a.x) (.int (lastN (stA aa c).2 a.x))) := by
  have hs := h.seen hk ha J
  refine ⟨fun j => ?_, fun x => ?_⟩
  · rw [valV_put]
    by_cases e : j = k
    · subst e; rw [if_pos rfl, if_pos hk]
    · rw [if_neg (fun z => e (by have := Sum.inl.inj z; omega)), h.sn]
  · rw [valV_put]
    by_cases e : x = a.x
    · subst e
      rw [if_pos rfl]
      rcases h.ls a.x with ⟨e1, _⟩ | ⟨_, q⟩
      · rw [e1] at hs; cases hs
      · exact .inr ⟨rfl, q⟩
    · rw [if_neg (fun z => e (Sum.inr.inj z))]
      exact h.ls x
def spRight (K : PySem.W.Frag) : Sp := fun vs H Q _ => ∃ (q po pt pn : Addr) (ns : List Str) (rs ts an : List Addr) (aa : List AskIs) (os : List Nat), vs = [.ref q, .ref po, .ref pt, .ref pn] ∧ SqL K H q (rs.map V.ref) ∧ AsksAt K ns H rs aa ∧ rs.length ≤ 60 ∧ Rising aa ∧ SqL K H po (ordV os) ∧ reach 0 os = some rs.length ∧ os.length ≤ 200 ∧
  SqL K H pt (ts.map V.ref) ∧ AnsAt H ts ([], []) (os.map (askOf aa)) ∧ SqL K H pn (an.map V.ref) ∧ AnsAt H an ([], []) aa ∧ ∀ H', Same H H' → Q (.bl true) H'
section
variable {P : Program} {w : World} {K : PySem.W.Frag} {mg : Str → Option Value} {base : Heap}
abbrev nRt : List Str := ["_law_asks_here", "_law_order", "_law_told", "_law_answers", "_law_seen", "_law_last", "_law_k", "_law_found", "_law_asker", "_law_number_here", "_law_work_here", "_law_due"]
theorem scRt : FnScope nRt ["_law_asks_here", "_law_order", "_law_told", "_law_answers"] (defScope sRight) := ⟨rfl, rfl, rfl, by decide +kernel, rfl, by decide +kernel, by decide +kernel⟩
theorem ok_right {f : Addr} {fd : FuncData} (F : Fun K "_law_right" "_law_right" sRight f fd) (B : Blt mg) (Fs1 : FnAt P w K mg base 2 "_law_same" nSame (spSame (SameN 1))) :
    FnOk P w K mg base CX0 3 f fd ["_law_asks_here", "_law_order", "_law_told", "_law_answers"] (spRight K) := by
  refine F.ok scRt (fun vs H Q E h => ?_) (fun cdv A outer s H vs Q E hr h => ?_)
  · obtain ⟨q, po, pt, pn, ns, rs, ts, an, aa, os, rfl, _⟩ := h
    rfl
  · obtain ⟨qa, po, pt, pn, ns, rs, ts, an, aa, os, rfl, hq, hA, hrl, R, hpo, hre, hol, hpt, hts, hpn, han, q⟩ := h
    have nd := scRt.nd
    have hu := hu_of hr
    refine ⟨_, pss_cons (ps_set (i := 4) nd rfl (Or.inl rfl) pe_dnewK) <|
      pss_cons (ps_set (i := 5) nd rfl (Or.inl rfl) pe_dnewK) <|
      pss_cons (ps_for PassesOwn.never rfl (pi_zip rfl B.zip (pa_cons (pv 1) (pa_cons (pv 2) pa_nil))) (pg_tup rfl (pgs_cons (pg_name (i := 6) nd rfl (Or.inl rfl)) (pgs_cons (pg_name (i := 7) nd rfl (Or.inl rfl)) pgs_nil))) <|
        pss_cons (ps_asg (pe_ix ix_list (pv 0) (pv 6) (fun _ _ => rfl)) (pg_tup rfl (pgs_cons (pg_name (i := 8) nd rfl (Or.inl rfl)) (pgs_cons (pg_name (i := 9) nd rfl (Or.inl rfl)) (pgs_cons (pg_name (i := 10) nd rfl (Or.inl rfl)) pgs_nil))))) <|
        pss_cons (ps_set (i := 11) nd rfl (Or.inl rfl) (pe_tup (pa_cons pe_str (pa_cons pe_non pa_nil)))) <|
        pss_cons (ps_if (pt_cmp (pc_dnotin hu (pv 6) (pv 4))) (pss_one (ps_set (i := 11) nd rfl (Or.inl rfl) (pe_ix ix_list (pv 3) (pv 6) (fun _ _ => rfl))))
          (pss_one (ps_if (pt_cmpR op_eq (pe_dget hu (pv 5) (pv 8) (fun _ _ => rfl)) (pv 9) (nomark _)) (pss_one (ps_set (i := 11) nd rfl (Or.inl rfl) (pe_tup (pa_cons pe_str (pa_cons (pe_ix ix_tup (pe_ix ix_list (pv 3) (pv 6) (fun _ _ => rfl)) pe_int (fun _ _ => rfl)) pa_nil))))) pss_nil))) <|
        pss_cons (ps_dput hu (pv 4) (pv 6) pe_bl rfl) <|
        pss_cons (ps_dput hu (pv 5) (pv 8) (pe_callB (call_max2 rfl) (by rfl) B.max bMax (pa_cons (pv 9) (pa_cons (pe_dget2 hu (pv 5) (pv 8) pe_int ⟨rfl, rfl, rfl, rfl⟩) pa_nil))) rfl) <|
        pss_one <| ps_if (pt_not (pt_val (pe_callF Fs1 hr (pa_cons (pv 7) (pa_cons (pv 11) pa_nil))))) (pss_one (ps_ret pe_bl)) pss_nil) <|
      pss_one <| ps_ret pe_bl, ?_⟩
    intro sd nsd
    intro ld nld
    have s1 : Same H (upd H sd (.dK [])) := .new nsd
    have s2 : Same (upd H sd (.dK [])) (upd (upd H sd (.dK [])) ld (.dK [])) := .new nld
    have nsl : sd ≠ ld := ne_of_none upd_same nld
    have hHl : H ld = none := s1.none nld
    have hsd : upd (upd H sd (.dK [])) ld (.dK []) sd = some (.dK []) := s2 _ _ upd_same
    have hld : upd (upd H sd (.dK [])) ld (.dK []) ld = some (.dK []) := upd_same
    have sA := s1.trans s2
    generalize upd (upd H sd (.dK [])) ld (.dK []) = HA at sA hsd hld
    have htl : ts.length = os.length := by rw [hts.len, List.length_map]
    refine ⟨_, rfl, _, rfl, po, pt, _, _, rfl, sA.seq hpo, sA.seq hpt, for_zip (K := K) (a := po) (b := pt) (xs := ordV os) (ys := ts.map V.ref) (fun i σ H2 => ∃ (c : Nat) (seen lastd : Kvs) (kv fv xv nv wv dv : Option V), σ = [some (.ref qa), some (.ref po), some (.ref pt), some (.ref pn), some (.ref sd), some (.ref ld), kv, fv, xv, nv, wv, dv] ∧
        Same H H2 ∧ H2 sd = some (.dK seen) ∧ H2 ld = some (.dK lastd) ∧ seen.length ≤ i ∧ lastd.length ≤ i ∧ reach c (os.drop i) = some rs.length ∧ runR ([], []) ((os.take i).map (askOf aa)) = stA aa c ∧ RS aa c seen lastd)
      ⟨0, [], [], none, none, none, none, none, none, rfl, sA, hsd, hld, Nat.le_refl _, Nat.le_refl _, hre, rfl, ⟨fun k => rfl, fun x => .inl ⟨rfl, rfl⟩⟩⟩ (fun i σ H2 ⟨_, _, _, _, _, _, _, _, _, _, e, _⟩ => ⟨e.seq hpo, e.seq hpt⟩) (by rw [List.length_map, List.length_map, htl]) ?_ ?_⟩
    · rintro i u v p σ H2 hu1 hv1 hp ⟨c, seen, lastd, kv, fv, xv, nv, wv, dv, rfl, sm, hsd2, hld2, hsl, hll, hre2, hst, hRS⟩
      have hi : i < os.length := by have := (List.getElem?_eq_some_iff.mp hu1).1; rw [List.length_map] at this; exact this
      obtain ⟨k, hk⟩ : ∃ k, os[i]? = some k := ⟨_, List.getElem?_eq_getElem hi⟩
      obtain ⟨t, ht⟩ : ∃ t, ts[i]? = some t := ⟨_, List.getElem?_eq_getElem (by omega)⟩
      rw [List.getElem?_map, hk] at hu1
      rw [List.getElem?_map, ht] at hv1
      cases hu1
      cases hv1
      have hkn : k < rs.length := reach_lt hre k (List.mem_of_getElem? hk)
      have hAl := hA.len
      obtain ⟨r, hr0⟩ : ∃ r, rs[k]? = some r := ⟨_, List.getElem?_eq_getElem hkn⟩
      obtain ⟨⟨x, m, wk⟩, ha, hAt⟩ := hA.get hr0
      obtain ⟨tw, ht1, ht2, hn1, hxs⟩ := hAt
      have hdrop : os.drop i = k :: os.drop (i + 1) := by
        rw [List.drop_eq_getElem_cons hi]
        obtain ⟨_, e⟩ := List.getElem?_eq_some_iff.mp hk
        rw [e]
      rw [hdrop] at hre2
      have hcn : c ≤ aa.length := by have := reach_le hre2; omega
      have J := jv R c hcn
      have okc : StOk (stA aa c).1 (stA aa c).2 := runR_ok StOk.empty _
      have hask : (os.map (askOf aa))[i]? = some ⟨x, m, wk⟩ := by rw [List.getElem?_map, hk]; exact congrArg some (askOf_of ha)
      have htt : H t = some (.tup (answ (stA aa c) ⟨x, m, wk⟩)) := by
        have := hts.at' i t _ ht hask
        rw [← List.map_take, hst] at this
        exact this
      have htake : runR ([], []) ((os.take (i + 1)).map (askOf aa)) = stepR (stA aa c) ⟨x, m, wk⟩ := by
        rw [List.map_take, runR_take hask, ← List.map_take, hst]
      obtain ⟨tn, htn⟩ : ∃ tn, an[k]? = some tn := ⟨_, List.getElem?_eq_getElem (by rw [han.len]; omega)⟩
      have hann : H tn = some (.tup (answ (stA aa k) ⟨x, m, wk⟩)) := han.at' k tn _ htn ha
      -- k, found; asker, number, work; due
      have s3 : Same H2 (upd H2 p (.tup [V.int (k : Int), V.ref t])) := .new hp
      refine ⟨p, _, rfl, SqT.of upd_same, rfl, _, _, rfl, _, _, rfl, rfl, ?_⟩
      have sm3 := sm.trans s3
      have hsd3 := s3 _ _ hsd2
      have hld3 := s3 _ _ hld2
      generalize upd H2 p (.tup [V.int (k : Int), V.ref t]) = H3 at sm3 hsd3 hld3
      have hat : atI (rs.map V.ref) (k : Int) = some (.ref r) := atI_nat (by rw [List.getElem?_map, hr0]; rfl)
      refine ⟨_, rfl, _, rfl, qa, _, _, _, rfl, rfl, sm3.seq hq, hat, r, _, rfl, SqT.same sm3 ht1, rfl, _, _, rfl, _, _, rfl, _, _, rfl, rfl, ?_⟩
      refine ⟨(by show 2 ≤ sizeLine; decide), fun d0 hd0 => ?_⟩
      have s4 : Same H3 (upd H3 d0 (.tup [V.str "old", V.non])) := .new hd0
      have sm4 := sm3.trans s4
      have hsd4 := s4 _ _ hsd3
      have hld4 := s4 _ _ hld3
      have hd04 : upd H3 d0 (.tup [V.str "old", V.non]) d0 = some (.tup [V.str "old", V.non]) := upd_same
      generalize upd H3 d0 (.tup [V.str "old", V.non]) = H4 at sm4 hsd4 hld4 hd04
      have hatn : atI (an.map V.ref) (k : Int) = some (.ref tn) := atI_nat (by rw [List.getElem?_map, htn]; rfl)
      refine ⟨_, rfl, _, rfl, sd, _, rfl, DGet.k (k := Sum.inl (k : Int)) hsd4, _, rfl, ?_⟩
      rw [hRS.sn k]
      rcases reach_cons hre2 with ⟨ek, hre3⟩ | ⟨hkc, hre3⟩
      · -- a first coming
        subst ek
        rw [if_neg (Nat.lt_irrefl _)]
        refine iteT ?_
        refine ⟨_, rfl, _, rfl, pn, _, _, _, rfl, rfl, sm4.seq hpn, hatn, ?_⟩
        have hlt := lt_new R ha J
        obtain ⟨vv, hvv⟩ : ∃ vv : Int, vv = m := ⟨_, rfl⟩
        have hmax : (if lastN (stA aa k).2 x > m then lastN (stA aa k).2 x else m) = vv := by
          have hlt : lastN (stA aa k).2 x < m := hlt
          rw [if_neg (by omega), hvv]
        obtain ⟨c', hc'⟩ : ∃ c', c' = k + 1 := ⟨_, rfl⟩
        have hst3 : runR ([], []) ((os.take (i + 1)).map (askOf aa)) = stA aa c' := by rw [htake, hc', stA_succ ha]
        have hRS3 : RS aa c' (putK seen (Sum.inl (k : Int)) (.bl true)) (putK lastd (Sum.inr x) (.int vv)) := by rw [hc', hvv]; exact hRS.new R ha J
        rw [← hc'] at hre3
        have ht5 := sm4 _ _ htt
        have hdu5 := sm4 _ _ hann
        have hsd5 := hsd4
        have hld5 := hld4
        have sm5 := sm4
        generalize H4 = H5 at ht5 hdu5 hsd5 hld5 sm5
        refine ⟨_, rfl, _, rfl, sd, _, rfl, DPut.k (k := Sum.inl (k : Int)) hsd5 (small1000 (by omega)), ?_⟩
        have hld6 : upd H5 sd (.dK (putK seen (Sum.inl (k : Int)) (.bl true))) ld = some (.dK lastd) := by rw [upd_ne nsl.symm]; exact hld5
        have hget := hRS.get x
        refine ⟨_, rfl, _, rfl, ld, rfl, .inl ⟨_, .inl hld6⟩, _, rfl, _, DGet.k (k := Sum.inr x) hld6, ?_⟩
        rw [hget]
        refine ⟨_, _, rfl, _, rfl, _, rfl, ld, _, rfl, DPut.k (k := Sum.inr x) hld6 (small1000 (by omega)), ?_⟩
        rw [hmax]
        have sm7 : Same H (upd (upd H5 sd (.dK (putK seen (Sum.inl (k : Int)) (.bl true)))) ld (.dK (putK lastd (Sum.inr x) (.int vv)))) := fun b o e => by
          rw [upd_ne (ne_of_none e hHl), upd_ne (ne_of_none e nsd)]
          exact sm5 _ _ e
        have up7 : ∀ {b : Addr} {zs : List V}, H5 b = some (.tup zs) → upd (upd H5 sd (.dK (putK seen (Sum.inl (k : Int)) (.bl true)))) ld (.dK (putK lastd (Sum.inr x) (.int vv))) b = some (.tup zs) := fun {b zs} e => by
          rw [upd_ne (ne_of e hld5 (by intro z; cases z)), upd_ne (ne_of e hsd5 (by intro z; cases z))]
          exact e
        have ht7 := up7 ht5
        have hdu7 := up7 hdu5
        have hsd7 : upd (upd H5 sd (.dK (putK seen (Sum.inl (k : Int)) (.bl true)))) ld (.dK (putK lastd (Sum.inr x) (.int vv))) sd = some (.dK (putK seen (Sum.inl (k : Int)) (.bl true))) := by rw [upd_ne nsl]; exact upd_same
        have hld7 : upd (upd H5 sd (.dK (putK seen (Sum.inl (k : Int)) (.bl true)))) ld (.dK (putK lastd (Sum.inr x) (.int vv))) ld = some (.dK (putK lastd (Sum.inr x) (.int vv))) := upd_same
        generalize upd (upd H5 sd (.dK (putK seen (Sum.inl (k : Int)) (.bl true)))) ld (.dK (putK lastd (Sum.inr x) (.int vv))) = H7 at sm7 ht7 hdu7 hsd7 hld7
        refine ⟨_, rfl, _, rfl, _, _, rfl, same_flat ht7 hdu7 (by show 2 ≤ 900; decide) (answ_flat okc _), fun H8 s8 => ⟨_, rfl, ?_⟩⟩
        refine iteF ?_
        have l1 := putK_len5 seen (Sum.inl (k : Int)) (.bl true)
        have l2 := putK_len5 lastd (Sum.inr x) (.int vv)
        exact ⟨c', _, _, _, _, _, _, _, _, rfl, sm7.trans s8, s8 _ _ hsd7, s8 _ _ hld7, by omega, by omega, hre3, hst3, hRS3⟩
      · -- seen
        rw [if_pos hkc]
        refine iteF ?_
        have hseen := hRS.seen hkc ha J
        have hle : m ≤ lastN (stA aa c).2 x := le_old R hkc ha J
        obtain ⟨vv, hvv⟩ : ∃ vv : Int, vv = lastN (stA aa c).2 x := ⟨_, rfl⟩
        have hmax : (if lastN (stA aa c).2 x > m then lastN (stA aa c).2 x else m) = vv := by
          rw [hvv]
          split <;> omega
        obtain ⟨c', hc'⟩ : ∃ c', c' = c := ⟨_, rfl⟩
        have hst3 : runR ([], []) ((os.take (i + 1)).map (askOf aa)) = stA aa c' := by rw [htake, hc', old_step R hkc ha J]
        have hRS3 : RS aa c' (putK seen (Sum.inl (k : Int)) (.bl true)) (putK lastd (Sum.inr x) (.int vv)) := by rw [hc', hvv]; exact hRS.old hkc ha J
        rw [← hc'] at hre3
        have hdg : DGet H4 ld (.str x) (some (.int (lastN (stA aa c).2 x))) := by
          have := DGet.k (H := H4) (k := Sum.inr x) hld4
          rw [hseen] at this
          exact this
        refine ⟨_, rfl, _, rfl, ld, _, rfl, hdg, _, rfl, rfl, _, rfl, ?_⟩
        refine ite2 (fun e => ?_) (fun e => ?_)
        · -- again
          have e : lastN (stA aa c).2 x = m := by
            have := of_decide_eq_true e
            exact V.int.inj this
          have hag := again_of R hkc ha J e
          refine ⟨_, rfl, _, rfl, pn, _, _, _, rfl, rfl, sm4.seq hpn, hatn, tn, _, _, _, rfl, rfl, SqT.of (sm4 _ _ hann), rfl, (by show 2 ≤ sizeLine; decide), fun d1 hd1 => ?_⟩
          have s5 : Same H4 (upd H4 d1 (.tup [V.str "again", ansR (stA aa k).1 (stA aa k).2 x m wk])) := .new hd1
          have hdu5 : upd H4 d1 (.tup [V.str "again", ansR (stA aa k).1 (stA aa k).2 x m wk]) d1 = some (.tup (answ (stA aa c) ⟨x, m, wk⟩)) := by
            rw [upd_same]
            unfold answ tagR
            have n1 : ¬ m < lastN (stA aa c).2 x := by omega
            dsimp only
            rw [if_neg n1, if_pos e.symm]
            rw [show ansR (stA aa c).1 (stA aa c).2 x m wk = lastA (stA aa c).2 x by unfold ansR; rw [if_neg n1, if_pos e.symm], hag]
          have ht5 := s5 _ _ (sm4 _ _ htt)
          have hsd5 := s5 _ _ hsd4
          have hld5 := s5 _ _ hld4
          have sm5 := sm4.trans s5
          generalize upd H4 d1 (.tup [V.str "again", ansR (stA aa k).1 (stA aa k).2 x m wk]) = H5 at ht5 hdu5 hsd5 hld5 sm5
          refine ⟨_, rfl, _, rfl, sd, _, rfl, DPut.k (k := Sum.inl (k : Int)) hsd5 (small1000 (by omega)), ?_⟩
          have hld6 : upd H5 sd (.dK (putK seen (Sum.inl (k : Int)) (.bl true))) ld = some (.dK lastd) := by rw [upd_ne nsl.symm]; exact hld5
          have hget := hRS.get x
          refine ⟨_, rfl, _, rfl, ld, rfl, .inl ⟨_, .inl hld6⟩, _, rfl, _, DGet.k (k := Sum.inr x) hld6, ?_⟩
          rw [hget]
          refine ⟨_, _, rfl, _, rfl, _, rfl, ld, _, rfl, DPut.k (k := Sum.inr x) hld6 (small1000 (by omega)), ?_⟩
          rw [hmax]
          have sm7 : Same H (upd (upd H5 sd (.dK (putK seen (Sum.inl (k : Int)) (.bl true)))) ld (.dK (putK lastd (Sum.inr x) (.int vv)))) := fun b o e => by
            rw [upd_ne (ne_of_none e hHl), upd_ne (ne_of_none e nsd)]
            exact sm5 _ _ e
          have up7 : ∀ {b : Addr} {zs : List V}, H5 b = some (.tup zs) → upd (upd H5 sd (.dK (putK seen (Sum.inl (k : Int)) (.bl true)))) ld (.dK (putK lastd (Sum.inr x) (.int vv))) b = some (.tup zs) := fun {b zs} e => by
            rw [upd_ne (ne_of e hld5 (by intro z; cases z)), upd_ne (ne_of e hsd5 (by intro z; cases z))]
            exact e
          have ht7 := up7 ht5
          have hdu7 := up7 hdu5
          have hsd7 : upd (upd H5 sd (.dK (putK seen (Sum.inl (k : Int)) (.bl true)))) ld (.dK (putK lastd (Sum.inr x) (.int vv))) sd = some (.dK (putK seen (Sum.inl (k : Int)) (.bl true))) := by rw [upd_ne nsl]; exact upd_same
          have hld7 : upd (upd H5 sd (.dK (putK seen (Sum.inl (k : Int)) (.bl true)))) ld (.dK (putK lastd (Sum.inr x) (.int vv))) ld = some (.dK (putK lastd (Sum.inr x) (.int vv))) := upd_same
          generalize upd (upd H5 sd (.dK (putK seen (Sum.inl (k : Int)) (.bl true)))) ld (.dK (putK lastd (Sum.inr x) (.int vv))) = H7 at sm7 ht7 hdu7 hsd7 hld7
          refine ⟨_, rfl, _, rfl, _, _, rfl, same_flat ht7 hdu7 (by show 2 ≤ 900; decide) (answ_flat okc _), fun H8 s8 => ⟨_, rfl, ?_⟩⟩
          refine iteF ?_
          have l1 := putK_len5 seen (Sum.inl (k : Int)) (.bl true)
          have l2 := putK_len5 lastd (Sum.inr x) (.int vv)
          exact ⟨c', _, _, _, _, _, _, _, _, rfl, sm7.trans s8, s8 _ _ hsd7, s8 _ _ hld7, by omega, by omega, hre3, hst3, hRS3⟩
        · -- old
          have e : ¬ lastN (stA aa c).2 x = m := fun z => e (decide_eq_true (by rw [z]))
          have hdu5 : H4 d0 = some (.tup (answ (stA aa c) ⟨x, m, wk⟩)) := by
            rw [hd04]
            unfold answ tagR ansR
            dsimp only
            rw [if_pos (by omega), if_pos (by omega)]
          have ht5 := sm4 _ _ htt
          have hsd5 := hsd4
          have hld5 := hld4
          have sm5 := sm4
          generalize H4 = H5 at ht5 hdu5 hsd5 hld5 sm5
          refine ⟨_, rfl, _, rfl, sd, _, rfl, DPut.k (k := Sum.inl (k : Int)) hsd5 (small1000 (by omega)), ?_⟩
          have hld6 : upd H5 sd (.dK (putK seen (Sum.inl (k : Int)) (.bl true))) ld = some (.dK lastd) := by rw [upd_ne nsl.symm]; exact hld5
          have hget := hRS.get x
          refine ⟨_, rfl, _, rfl, ld, rfl, .inl ⟨_, .inl hld6⟩, _, rfl, _, DGet.k (k := Sum.inr x) hld6, ?_⟩
          rw [hget]
          refine ⟨_, _, rfl, _, rfl, _, rfl, ld, _, rfl, DPut.k (k := Sum.inr x) hld6 (small1000 (by omega)), ?_⟩
          rw [hmax]
          have sm7 : Same H (upd (upd H5 sd (.dK (putK seen (Sum.inl (k : Int)) (.bl true)))) ld (.dK (putK lastd (Sum.inr x) (.int vv)))) := fun b o e => by
            rw [upd_ne (ne_of_none e hHl), upd_ne (ne_of_none e nsd)]
            exact sm5 _ _ e
          have up7 : ∀ {b : Addr} {zs : List V}, H5 b = some (.tup zs) → upd (upd H5 sd (.dK (putK seen (Sum.inl (k : Int)) (.bl true)))) ld (.dK (putK lastd (Sum.inr x) (.int vv))) b = some (.tup zs) := fun {b zs} e => by
            rw [upd_ne (ne_of e hld5 (by intro z; cases z)), upd_ne (ne_of e hsd5 (by intro z; cases z))]
            exact e
          have ht7 := up7 ht5
          have hdu7 := up7 hdu5
          have hsd7 : upd (upd H5 sd (.dK (putK seen (Sum.inl (k : Int)) (.bl true)))) ld (.dK (putK lastd (Sum.inr x) (.int vv))) sd = some (.dK (putK seen (Sum.inl (k : Int)) (.bl true))) := by rw [upd_ne nsl]; exact upd_same
          have hld7 : upd (upd H5 sd (.dK (putK seen (Sum.inl (k : Int)) (.bl true)))) ld (.dK (putK lastd (Sum.inr x) (.int vv))) ld = some (.dK (putK lastd (Sum.inr x) (.int vv))) := upd_same
          generalize upd (upd H5 sd (.dK (putK seen (Sum.inl (k : Int)) (.bl true)))) ld (.dK (putK lastd (Sum.inr x) (.int vv))) = H7 at sm7 ht7 hdu7 hsd7 hld7
          refine ⟨_, rfl, _, rfl, _, _, rfl, same_flat ht7 hdu7 (by show 2 ≤ 900; decide) (answ_flat okc _), fun H8 s8 => ⟨_, rfl, ?_⟩⟩
          refine iteF ?_
          have l1 := putK_len5 seen (Sum.inl (k : Int)) (.bl true)
          have l2 := putK_len5 lastd (Sum.inr x) (.int vv)
          exact ⟨c', _, _, _, _, _, _, _, _, rfl, sm7.trans s8, s8 _ _ hsd7, s8 _ _ hld7, by omega, by omega, hre3, hst3, hRS3⟩
    · rintro σ H2 ⟨c, seen, lastd, kv, fv, xv, nv, wv, dv, rfl, sm, _⟩
      exact q _ sm
end
end K05

namespace K05
open PySem L2 KM
theorem SqL.keepN {K : PySem.W.Frag} {H H' : Hp} {t : Addr} {xs : List V} (e : KeepN H H') (q : SqL K H t xs) : SqL K H' t xs := by
  rcases q with (q | ⟨o', q⟩) | q
  · exact .inl (.inl (e _ _ q (by intro m z; cases z)))
  · exact .inl (.inr ⟨o', e _ _ q (by intro m z; cases z)⟩)
  · exact .inr q
theorem TabAt.ap {K : PySem.W.Frag} {C : Addr} {H : Hp} {T d l d' l' : Addr} {kvs : Kvs} {las : Las} (h : TabAt K C H T d l kvs las) (hd : H d' = none) (hl : H l' = none) : d' ≠ d ∧ d' ≠ l ∧ l' ≠ d ∧ l' ≠ l := by
  obtain ⟨_, h1, ⟨lk, h2, _⟩, _⟩ := h
  exact ⟨(ne_of_none h1 hd).symm, (ne_of_none h2 hd).symm, (ne_of_none h1 hl).symm, (ne_of_none h2 hl).symm⟩
abbrev eTup : HO := .frz { cls := .type "tuple", data := .seq #[] } (.tup [])
theorem mk_empty {K : PySem.W.Frag} {C : Addr} {H : Hp} {t1 t2 T' dx : Addr} {Q : VK} {E : XK} (ht1 : H t1 = none) (ht2 : upd H t1 eTup t2 = none) (nT : upd (upd H t1 eTup) t2 eTup T' = none) (ndx : upd (upd H t1 eTup) t2 eTup dx = none) (nex : dx ≠ T')
    (q : ∀ (d l : Addr) (H3 : Hp), H d = none → H l = none → TabAt K C H3 T' d l [] [] → Same H H3 → Q .non H3) : spInit K C [.ref T', .ref t1, .ref t2] (upd (upd (upd (upd H t1 eTup) t2 eTup) dx (.own T')) T' (.ins C dx [])) Q E := by
  have nT' : (upd (upd (upd H t1 eTup) t2 eTup) dx (.own T')) T' = none := by rw [upd_ne nex.symm]; exact nT
  have s3 : Same H (upd (upd (upd (upd H t1 eTup) t2 eTup) dx (.own T')) T' (.ins C dx [])) := (Same.new ht1).trans ((Same.new ht2).trans ((Same.new ndx).trans (Same.new nT')))
  have f1 : (upd (upd (upd (upd H t1 eTup) t2 eTup) dx (.own T')) T' (.ins C dx [])) t1 = some eTup := ((Same.new ht2).trans ((Same.new ndx).trans (Same.new nT'))) _ _ upd_same
  have f2 : (upd (upd (upd (upd H t1 eTup) t2 eTup) dx (.own T')) T' (.ins C dx [])) t2 = some eTup := ((Same.new ndx).trans (Same.new nT')) _ _ upd_same
  refine ⟨T', dx, t1, t2, _, [], [], [], [], rfl, upd_same, f1, rfl, rfl, fun j kv e => by simp at e, .inl (.inr ⟨_, f2⟩), rfl, by decide, fun j kv e => by simp at e, fun d l H3 hd hl S bt => ?_⟩
  have nT2 : H T' = none := ((Same.new ht1).trans (Same.new ht2)).none nT
  exact q d l H3 (s3.none hd) (s3.none hl) S fun b o e => bt _ _ (s3 _ _ e) (ne_of_none e nT2)
theorem told_same {H : Hp} {p p' : Addr} {kvs kvs' : Kvs} {las las' : Las} {ps ps' : List (Str × V)} {qs qs' : List (Str × Int × V)} (o : StOk kvs las) (o' : StOk kvs' las') (e : Eqv kvs las kvs' las') (h : IsTold kvs las ps qs) (h' : IsTold kvs' las' ps' qs') (hk : kvs.length ≤ 900) (hl : las.length ≤ 900) (t : TellAt H p ps qs) (t' : TellAt H p' ps' qs') : SameN 3 (.ref p) (.ref p') H := by
  obtain ⟨e1, e2⟩ := IsTold.one o o' e h h'
  subst e1 e2
  obtain ⟨f1, f2⟩ := h.flat o
  exact t.same t' f1 f2 (by rw [h.len.1]; exact hk) (by rw [h.len.2]; exact hl)
section
variable {P : Program} {w : World} {K : PySem.W.Frag} {mg : Str → Option Value} {base : Heap}
abbrev nLaw : List Str := ["_law_script", "_law_keys", "_law_askers", "_law_asks_here", "_law_table", "_law_answers", "_law_order", "_law_other_here", "_law_told", "_law_half", "_law_held", "_law_asked", "_law_later"]
theorem scLaw : FnScope nLaw ["_law_script"] (defScope sLaw) := ⟨rfl, rfl, rfl, by decide +kernel, rfl, by decide +kernel, by decide +kernel⟩
theorem ndLO : (nLaw ++ (["_law_one"] : List Str)).Nodup := by decide +kernel
theorem ndLK : (nLaw ++ (["_law_k"] : List Str)).Nodup := by decide +kernel
theorem ok_law {f C : Addr} {fd : FuncData} (F : Fun K "law" "law" sLaw f fd) (B : Blt mg) (T : Cl K mg C) (Fc : FnAt P w K mg base 1 "_law_cell_at" ["_law_script", "_law_k"] (spCell K)) (Fn : FnAt P w K mg base 4 "_law_names" ["_law_script", "_law_k", "_law_many"] (spNames K))
    (Fk : FnAt P w K mg base 4 "_law_asks" ["_law_script", "_law_keys", "_law_askers"] (spAsks K)) (Fo : FnAt P w K mg base 4 "_law_done" nDn (spDone5 K C)) (Fb : FnAt P w K mg base 4 "_law_doubled" ["_law_script", "_law_asks_here"] (spDbl K))
    (Fr : FnAt P w K mg base 3 "_law_right" ["_law_asks_here", "_law_order", "_law_told", "_law_answers"] (spRight K)) (Fs3 : FnAt P w K mg base 4 "_law_same" nSame (spSame (SameN 3)))
    (Mi : MkAt P w K mg base C 1 ["self", "held", "asked"] (spInit K C)) (Mt : MeAt P w K mg base C 1 "told" ["self"] (spTold K C)) :
    FnOk P w K mg base CX0 5 f fd ["_law_script"] (spLaw K) := by
  obtain ⟨fI, fdI, GI, bI, MI⟩ := Mi.ex
  obtain ⟨fT, fdT, GT, bT, MT⟩ := Mt.ex
  refine F.ok scLaw (fun vs H Q E h => ?_) (fun cdv A outer s H vs Q E hr h => ?_)
  · obtain ⟨a, ns, rfl, _⟩ := h
    rfl
  · obtain ⟨a, ns, rfl, hS, hlen, q⟩ := h
    have hu := hu_of hr
    have nd := scLaw.nd
    have hr1 : Room 1 _ := hr.mono (by decide)
    have hr2 : Room 2 _ := hr.mono (by decide)
    have hr3 : Room 3 _ := hr.mono (by decide)
    refine ⟨_, pss_cons (ps_set (i := 1) nd rfl (Or.inl rfl) (pe_callF Fn hr (pa_cons (pv 0) <| pa_cons pe_int <| pa_cons (pe_op op_add pe_int (pe_op op_mod (pe_callF Fc hr1 (pa_cons (pv 0) (pa_cons pe_int pa_nil))) pe_int)) pa_nil))) <|
      pss_cons (ps_set (i := 2) nd rfl (Or.inl rfl) (pe_callF Fn hr (pa_cons (pv 0) <| pa_cons pe_int <| pa_cons (pe_op op_add pe_int (pe_op op_mod (pe_op op_fdiv (pe_callF Fc hr1 (pa_cons (pv 0) (pa_cons pe_int pa_nil))) pe_int) pe_int)) pa_nil))) <|
      pss_cons (ps_set (i := 3) nd rfl (Or.inr rfl) (pe_callF Fk hr (pa_cons (pv 0) (pa_cons (pv 1) (pa_cons (pv 2) pa_nil))))) <|
      pss_cons (ps_set (i := 4) nd rfl (Or.inl rfl) (pe_make MI GI hr2 rfl T.mgC bI .nil pass0 (pa_cons pe_tup0 (pa_cons pe_tup0 pa_nil)))) <|
      pss_cons (ps_set (i := 5) nd rfl (Or.inl rfl) (pe_callF Fo hr (pa_cons (pv 4) (pa_cons (pv 3) pa_nil)))) <|
      pss_cons (ps_if (pt_cmpR (op_neE hu) (pe_lc nLaw nLaw ["_law_one"] (defScope sLaw) rfl rfl rfl (by decide +kernel) rfl rfl (by decide +kernel) (by decide +kernel) (by decide +kernel) (by decide +kernel)
          (pi_list (pv 5)) (fun _ _ _ _ _ => pg_name (i := 13) ndLO rfl (Or.inl rfl)) (fun _ _ _ _ _ => pts_one (pt_cmpR op_ne (pe_ix ix_tupC (pv 13) pe_int (fun _ _ => rfl)) pe_str (nomark _))) (fun _ _ _ _ _ => pv 13)) (pe_lst pa_nil) (nomark _)) (pss_one (ps_ret pe_bl)) pss_nil) <|
      pss_cons (ps_set (i := 6) nd rfl (Or.inl rfl) (pe_callF Fb hr (pa_cons (pv 0) (pa_cons (pv 3) pa_nil)))) <|
      pss_cons (ps_set (i := 7) nd rfl (Or.inl rfl) (pe_make MI GI hr2 rfl T.mgC bI .nil pass0 (pa_cons pe_tup0 (pa_cons pe_tup0 pa_nil)))) <|
      pss_cons (ps_set (i := 8) nd rfl (Or.inl rfl) (pe_callF Fo hr (pa_cons (pv 7) (pa_cons (pe_lc nLaw nLaw ["_law_k"] (defScope sLaw) rfl rfl rfl (by decide +kernel) rfl rfl (by decide +kernel) (by decide +kernel) (by decide +kernel) (by decide +kernel)
          (pi_list (pv 6)) (fun _ _ _ _ _ => pg_name (i := 13) ndLK rfl (Or.inl rfl)) (fun _ _ _ _ _ => pts_nil) (fun _ _ _ _ _ => pe_ix ix_listC (pv 3) (pv 13) (fun _ _ => rfl))) pa_nil)))) <|
      pss_cons (ps_if (PW.pt (pw_or (pt_not (pt_val (pe_callF Fr hr3 (pa_cons (pv 3) (pa_cons (pv 6) (pa_cons (pv 8) (pa_cons (pv 5) pa_nil))))))) <| pw_or1 (pt_not (pt_val (pe_callF Fs3 hr (pa_cons (pe_meth0 (pv 7) T.cl MT GT hr1 bT .nil pass0) (pa_cons (pe_meth0 (pv 4) T.cl MT GT hr1 bT .nil pass0) pa_nil))))))) (pss_one (ps_ret pe_bl)) pss_nil) <|
      pss_cons (ps_set (i := 9) nd rfl (Or.inl rfl) (pe_make MI GI hr2 rfl T.mgC bI .nil pass0 (pa_cons pe_tup0 (pa_cons pe_tup0 pa_nil)))) <|
      pss_cons (ps_expr (pe_callF Fo hr (pa_cons (pv 9) (pa_cons (pe_slice sl_list (pv 3) po_none (po_some (pe_op op_fdiv (pe_callB call_len_seq (by rfl) B.len PySem.boot_len (pa_cons (pv 3) pa_nil)) pe_int))) pa_nil)))) <|
      pss_cons (ps_asg (pe_meth0 (pv 9) T.cl MT GT hr1 bT .nil pass0) (pg_tup rfl (pgs_cons (pg_name (i := 10) nd rfl (Or.inl rfl)) (pgs_cons (pg_name (i := 11) nd rfl (Or.inl rfl)) pgs_nil)))) <|
      pss_cons (ps_set (i := 12) nd rfl (Or.inl rfl) (pe_make MI GI hr2 rfl T.mgC bI .nil pass0 (pa_cons (pv 10) (pa_cons (pv 11) pa_nil)))) <|
      pss_cons (ps_if (pt_cmpR (op_neTL hu) (pe_callF Fo hr (pa_cons (pv 12) (pa_cons (pe_slice sl_list (pv 3) (po_some (pe_op op_fdiv (pe_callB call_len_seq (by rfl) B.len PySem.boot_len (pa_cons (pv 3) pa_nil)) pe_int)) po_none) pa_nil))) (pe_slice sl_list (pv 5) (po_some (pe_op op_fdiv (pe_callB call_len_seq (by rfl) B.len PySem.boot_len (pa_cons (pv 3) pa_nil)) pe_int)) po_none) (nomark _)) (pss_one (ps_ret pe_bl)) pss_nil) <|
      pss_one <| ps_ret <| pe_callF Fs3 hr (pa_cons (pe_meth0 (pv 12) T.cl MT GT hr1 bT .nil pass0) (pa_cons (pe_meth0 (pv 4) T.cl MT GT hr1 bT .nil pass0) pa_nil)), ?_⟩
    -- READ
    -- keys
    refine ⟨_, rfl, _, rfl, a, ns, 1, rfl, hS, by decide, fun z => ?_⟩
    refine ⟨_, _, rfl, rfl, (by dsimp only; decide), _, _, rfl, rfl, ?_⟩
    have z0 := Int.emod_nonneg z (show (8 : Int) ≠ 0 by decide)
    have z1 := Int.emod_lt_of_pos z (show (0 : Int) < 8 by decide)
    refine ⟨a, ns, 0, _, rfl, hS, by decide, by decide, by omega, by omega, fun ys ks H1 sm1 hk0 hk1 hkl _ => ?_⟩
    -- askers
    refine ⟨_, rfl, _, rfl, a, ns, 1, rfl, sm1.seq hS, by decide, fun z2 => ?_⟩
    refine ⟨_, _, rfl, rfl, ⟨by decide, by decide⟩, _, _, rfl, rfl, (by dsimp only; decide), _, _, rfl, rfl, ?_⟩
    have w0 := Int.emod_nonneg (z2 / 8) (show (5 : Int) ≠ 0 by decide)
    have w1 := Int.emod_lt_of_pos (z2 / 8) (show (0 : Int) < 5 by decide)
    refine ⟨a, ns, 2, _, rfl, sm1.seq hS, by decide, by decide, by omega, by omega, fun as pa H2 sm2 ha0 ha1 hal had => ?_⟩
    have s2 : Same H H2 := sm1.trans sm2
    -- the asks
    refine ⟨_, rfl, _, rfl, _, rfl, a, ks, pa, ns, ys, as, rfl, s2.seq hS, hlen, SqL.of (sm2 _ _ hk1), by omega, by omega, SqL.of ha1, by omega, by omega, had, fun qa H3 rs aa s3 hq0 hq3 hrl hA3 R => ?_⟩
    have hAl := hA3.len
    have hS3 := (s2.trans s3).seq hS
    clear hk1 ha1 sm1 sm2 s2 s3
    obtain ⟨sF, hsF⟩ : ∃ sF, sF = runR ([], []) aa := ⟨_, rfl⟩
    have okF : StOk sF.1 sF.2 := by rw [hsF]; exact runR_ok StOk.empty _
    have lenF : sF.1.length ≤ 60 ∧ sF.2.length ≤ 60 := by
      have := runR_len ([], []) aa
      rw [← hsF] at this
      simp only [List.length_nil] at this
      omega
    have eF : stA aa aa.length = sF := by unfold stA; rw [List.take_length, hsF]
    have nlT : ∀ d l : Addr, (flds d l).lookup ("told" : Str) = none := fun d l => flds_no _ _ (by decide +kernel) (by decide +kernel)
    -- a table, and what it answers
    intro t1 ht1 t2 ht2
    intro T0 dx0 nT0 ndx0 nex0
    refine mk_empty ht1 ht2 nT0 ndx0 nex0 fun d0 l0 H4 hd0 hl0 S0 s4 => ⟨rfl, ?_⟩
    have hq4 := s4 _ _ hq3
    have hA4 := hA3.mono fun t xs e => SqT.same s4 e
    have hS4 := s4.seq hS3
    refine ⟨_, rfl, _, rfl, T0, d0, l0, qa, ([], []), as, rs, aa, rfl, S0, StOk.empty, by simp; omega, by simp; omega, SqL.of hq4, hA4, fun pn an H5 hpn0 hpn5 han5 S05 b5 => ?_⟩
    rw [← hsF] at S05
    have kp5 : KeepN H4 H5 := by
      obtain ⟨_, h1, ⟨lk, h2, _⟩, _⟩ := id S0
      exact But2.keepN b5 h1 h2
    have hq5 := kp5 _ _ hq4 (by intro m z; cases z)
    have hA5 := hA4.mono fun t xs e => SqT.keepN kp5 e
    have hS5 := SqL.keepN kp5 hS4
    have hanl := han5.len
    -- none of them but done
    refine ⟨_, rfl, pn, rfl, ⟨_, SqL.of hpn5⟩, ?_⟩
    have sq5 : ∀ D, H5 D = none → SqL K (upd H5 D (.lst [])) pn (an.map V.ref) := fun D hD => (Same.new hD).seq (SqL.of hpn5)
    refine lcP (n := an.length) (fun i => .ref (an.getD i 0)) (fun D i zs H' => H5 D = none ∧ zs = [] ∧ H' = upd H5 D (.lst [])) ?_ ?_ ?_ ?_ ?_ ?_
    · rintro D i zs H' hi ⟨hD, _, rfl⟩
      exact ⟨_, V.ref an[i], sq5 D hD, by rw [List.getElem?_map, List.getElem?_eq_getElem hi]; rfl⟩
    · rintro D i zs H' y H'' hi ⟨hD, _, rfl⟩ ⟨e, hy⟩
      refine ⟨e, ?_⟩
      have := hy _ (sq5 D hD)
      rw [List.getElem?_map, List.getElem?_eq_getElem hi] at this
      rw [List.getD_eq_getElem?_getD, List.getElem?_eq_getElem hi]
      exact (Option.some.inj this).symm
    · rintro D zs H' ⟨hD, _, rfl⟩
      exact ⟨_, sq5 D hD, by rw [List.length_map]; exact Nat.le_refl _⟩
    · intro D hD
      exact ⟨hD, rfl, rfl⟩
    · rintro D i zs H' yes no hi ⟨hD, rfl, rfl⟩ hy hn
      have ht0 : an[i]? = some (an.getD i 0) := by rw [List.getD_eq_getElem?_getD, List.getElem?_eq_getElem hi]; rfl
      obtain ⟨b, hb⟩ : ∃ b, aa[i]? = some b := ⟨_, List.getElem?_eq_getElem (by omega)⟩
      have htt := han5.at' i _ b ht0 hb
      obtain ⟨_, _, e3⟩ := new_step R hb (jv R i (by omega))
      have e3 : answ (runR ([], []) (aa.take i)) b = [.str "done", ansR (stA aa i).1 (stA aa i).2 b.x b.n b.wk] := by
        show [tagR (stA aa i).2 b.x b.n, _] = _
        rw [e3]; rfl
      rw [e3] at htt
      refine ⟨⟨[some (.ref (an.getD i 0))], rfl, rfl⟩, ?_⟩
      refine ⟨_, rfl, _, _, _, _, rfl, rfl, SqT.of ((Same.new hD) _ _ htt), rfl, rfl, _, rfl, ?_⟩
      refine ite2 (fun z => absurd z (by simp)) (fun _ => ?_)
      exact hn _ ⟨hD, rfl, rfl⟩
    rintro D zs H' ⟨hD, rfl, rfl⟩
    have s6 : Same H5 (upd H5 D (.lst [])) := .new hD
    refine ⟨(by show 0 ≤ sizeLine; decide), fun e0 he0 => ?_⟩
    have s6' : Same (upd H5 D (.lst [])) (upd (upd H5 D (.lst [])) e0 (.lst [])) := .new he0
    refine ⟨D, e0, [], rfl, rfl, SqL.of (s6' _ _ upd_same), SqL.of upd_same, _, rfl, ?_⟩
    refine iteF ?_
    have s56 := s6.trans s6'
    generalize upd (upd H5 D (.lst [])) e0 (.lst []) = H6 at s56
    clear s6 s6'
    -- the order
    refine ⟨_, rfl, _, rfl, a, qa, ns, rs, rfl, s56.seq hS5, SqL.of (s56 _ _ hq5), hrl, fun po H7 os s7 hpo0 hpo7 hre hol => ?_⟩
    have s57 := s56.trans s7
    -- the other table
    intro u1 hu1 u2 hu2
    intro T1 dx1 nT1 ndx1 nex1
    refine mk_empty hu1 hu2 nT1 ndx1 nex1 fun d1 l1 H8 hd1 hl1 S1 s8 => ⟨rfl, ?_⟩
    have S07 := S05.same s57
    have ap1 := S07.ap hd1 hl1
    have s58 := s57.trans s8
    have S08 := S05.same s58
    have hq8 := s58 _ _ hq5
    have hpn8 := s58 _ _ hpn5
    have hpo8 := s8 _ _ hpo7
    have hA8 := hA5.mono fun t xs e => SqT.same s58 e
    have han8 := han5.keepN (Same.keepN s58)
    have hos : ∀ k ∈ os, k < rs.length := reach_lt hre
    have orow : (os.map (askOf aa)).length = os.length := List.length_map _
    refine ⟨_, rfl, _, rfl, po, rfl, ⟨_, SqL.of hpo8⟩, ?_⟩
    refine lcP (n := os.length) (fun i => .int ((os.getD i 0 : Nat) : Int)) (fun D i zs H' => H8 D = none ∧ zs = (os.take i).map (fun k => V.ref (rs.getD k 0)) ∧ Same H8 H' ∧ H' D = some (.lst zs)) ?_ ?_ ?_ ?_ ?_ ?_
    · rintro D i zs H' hi ⟨hD, _, sm, _⟩
      exact ⟨_, V.int (os[i] : Int), SqL.of (sm _ _ hpo8), by rw [List.getElem?_map, List.getElem?_eq_getElem hi]; rfl⟩
    · rintro D i zs H' y H'' hi ⟨hD, _, sm, _⟩ ⟨e, hy⟩
      refine ⟨e, ?_⟩
      have := hy _ (SqL.of (sm _ _ hpo8))
      rw [List.getElem?_map, List.getElem?_eq_getElem hi] at this
      rw [List.getD_eq_getElem?_getD, List.getElem?_eq_getElem hi]
      exact (Option.some.inj this).symm
    · rintro D zs H' ⟨hD, _, sm, _⟩
      exact ⟨_, SqL.of (sm _ _ hpo8), by rw [List.length_map]; exact Nat.le_refl _⟩
    · intro D hD
      exact ⟨hD, rfl, .new hD, upd_same⟩
    · rintro D i zs H' yes no hi ⟨hD, rfl, sm, hH'⟩ hy hn
      have hk0 : os[i]? = some (os.getD i 0) := by rw [List.getD_eq_getElem?_getD, List.getElem?_eq_getElem hi]; rfl
      have hkl := hos _ (List.mem_of_getElem? hk0)
      generalize os.getD i 0 = k at hk0 hkl
      refine ⟨⟨[some (.int (k : Int))], rfl, rfl⟩, ?_⟩
      refine iteT (B := no H') ?_
      have hat : atI (rs.map V.ref) (k : Int) = some (.ref (rs.getD k 0)) := atI_nat (by rw [List.getElem?_map, List.getElem?_eq_getElem hkl, List.getD_eq_getElem?_getD, List.getElem?_eq_getElem hkl]; rfl)
      refine ⟨_, rfl, _, rfl, qa, _, _, _, rfl, rfl, SqL.of (sm _ _ hq8), hat, ?_⟩
      have hlz : ((os.take i).map (fun k => V.ref (rs.getD k 0))).length < sizeLine := by rw [List.length_map, List.length_take]; exact small1000 (by omega)
      refine hy _ H' hH' hlz ⟨hD, ?_, fun b o e => ?_, upd_same⟩
      · rw [List.take_add_one, hk0, List.map_append]; rfl
      · rw [upd_ne (ne_of_none e hD)]; exact sm _ _ e
    rintro D2 zs H9 ⟨hD2, rfl, s9, hD29⟩
    rw [List.take_length] at hD29
    have S19 := S1.same s9
    have hD29' : H9 D2 = some (.lst ((os.map fun k => rs.getD k 0).map V.ref)) := by rw [hD29, List.map_map]; rfl
    have hA9 : AsksAt K as H9 (os.map fun k => rs.getD k 0) (os.map (askOf aa)) := by
      refine ⟨by rw [List.length_map, List.length_map], fun i r b h1 h2 => ?_⟩
      rw [List.getElem?_map] at h1 h2
      cases hk : os[i]? with
      | none => rw [hk] at h1; cases h1
      | some k =>
        rw [hk] at h1 h2
        have hkl := hos k (List.mem_of_getElem? hk)
        have h1 : rs.getD k 0 = r := Option.some.inj h1
        have h2 : askOf aa k = b := Option.some.inj h2
        subst h1 h2
        refine (hA8.at' k _ _ (?_ : rs[k]? = some (rs.getD k 0)) (?_ : aa[k]? = some (askOf aa k))).mono fun t xs e => SqT.same s9 e
        · rw [List.getD_eq_getElem?_getD, List.getElem?_eq_getElem hkl]; rfl
        · rw [askOf_of (List.getElem?_eq_getElem (by omega))]; exact List.getElem?_eq_getElem (by omega)
    refine ⟨T1, d1, l1, D2, ([], []), as, _, os.map (askOf aa), rfl, S19, StOk.empty, by simp; omega, by simp; omega, SqL.of hD29', hA9, fun pt ts H10 hpt0 hpt10 hts10 S110 b10 => ?_⟩
    have eO : runR ([], []) (os.map (askOf aa)) = sF := by
      have := run_reach R hre (by omega : rs.length ≤ aa.length)
      rw [hAl, eF] at this
      exact this
    rw [eO] at S110
    have hd19 : H9 d1 = some (.dK []) := S19.hd
    obtain ⟨lk1, hl19, _⟩ := id S19.hl
    have kp10 : KeepN H9 H10 := But2.keepN b10 hd19 hl19
    have S09 := S08.same s9
    have S010 := S09.but2 b10 hd19 hl19 ap1.1 ap1.2.1 ap1.2.2.1 ap1.2.2.2
    have kp810 : KeepN H8 H10 := (Same.keepN s9).trans kp10
    have hq10 := kp810 _ _ hq8 (by intro m z; cases z)
    have hpn10 := kp810 _ _ hpn8 (by intro m z; cases z)
    have hpo10 := kp810 _ _ hpo8 (by intro m z; cases z)
    have hA10 := hA8.mono fun t xs e => SqT.keepN kp810 e
    have han10 := han8.keepN kp810
    -- right
    refine ⟨_, rfl, _, rfl, _, rfl, _, rfl, qa, po, pt, pn, as, rs, ts, an, aa, os, rfl, SqL.of hq10, hA10, hrl, R, SqL.of hpo10, hre, by omega, SqL.of hpt10, hts10, SqL.of hpn10, han10, fun H11 s11 => ⟨_, rfl, ?_⟩⟩
    refine iteF ?_
    have S111 := S110.same s11
    obtain ⟨⟨e1, hT111⟩, _, _, _⟩ := id S111
    refine ⟨_, rfl, T1, e1, _, rfl, hT111, nlT _ _, T1, d1, l1, _, _, rfl, S111, okF, by omega, by omega, fun p1 ps1 qs1 H12 s12 tl1 it1 => ?_⟩
    have S012 := S010.same (s11.trans s12)
    obtain ⟨⟨e2, hT012⟩, _, _, _⟩ := id S012
    refine ⟨_, rfl, T0, e2, _, rfl, hT012, nlT _ _, T0, d0, l0, _, _, rfl, S012, okF, by omega, by omega, fun p2 ps2 qs2 H13 s13 tl2 it2 => ?_⟩
    refine ⟨.ref p1, .ref p2, rfl, told_same okF okF (Eqv.refl _ _) it1 it2 (by omega) (by omega) (tl1.keepN (Same.keepN s13)) tl2, fun H14 s14 => ⟨_, rfl, ?_⟩⟩
    refine iteF ?_
    have s1014 := s11.trans (s12.trans (s13.trans s14))
    have S014 := S010.same s1014
    have hq14 := s1014 _ _ hq10
    have hpn14 := s1014 _ _ hpn10
    have hA14 := hA10.mono fun t xs e => SqT.same s1014 e
    have han14 := han10.keepN (Same.keepN s1014)
    clear hA10 hA9 hA8 hA5 hA4 hA3 han10 han8 han5 S012 S010 S09 S08 S07 S05 S19 S111 S110 S1
    -- half
    intro v1 hv1 v2 hv2
    intro T2 dx2 nT2 ndx2 nex2
    refine mk_empty hv1 hv2 nT2 ndx2 nex2 fun d2 l2 H15 hd2 hl2 S2 s15 => ⟨rfl, ?_⟩
    have ap2 := S014.ap hd2 hl2
    have S015 := S014.same s15
    have hq15 := s15 _ _ hq14
    obtain ⟨n, hn⟩ : ∃ n : Nat, n = rs.length / 2 := ⟨_, rfl⟩
    have hh : ((rs.map V.ref).length : Int) / 2 = (n : Int) := by rw [List.length_map, hn]; omega
    have hnl : n ≤ rs.length := by omega
    have ecut1 : cutV (rs.map V.ref) none (some (((rs.map V.ref).length : Int) / 2)) = (rs.take n).map V.ref := by
      rw [hh]
      unfold cutV
      rw [HT.sIx_none, HT.sIx_nat, List.length_map, Nat.sub_zero, List.drop_zero, Nat.min_eq_left (by omega), List.map_take]
    have ecut2 : ∀ zs : List Addr, zs.length = rs.length → cutV (zs.map V.ref) (some (((rs.map V.ref).length : Int) / 2)) none = (zs.drop n).map V.ref := fun zs hz => by
      rw [hh]
      unfold cutV
      rw [HT.sIx_none, HT.sIx_nat, List.length_map, Nat.min_eq_left (by omega), List.map_drop]
      exact List.take_of_length_le (by rw [List.length_drop, List.length_map]; exact Nat.le_refl _)
    refine ⟨_, rfl, _, rfl, _, rfl, qa, _, rfl, .inl (SqL.of hq15), _, _, rfl, rfl, ⟨by decide, by decide⟩, _, rfl, qa, _, rfl, SqL.of hq15, fun pf hpf => ?_⟩
    have hpf16 : upd H15 pf (.lst (cutV (rs.map V.ref) none (some (((rs.map V.ref).length : Int) / 2)))) pf = some (.lst ((rs.take n).map V.ref)) := by rw [upd_same, ecut1]
    have s16 : Same H15 (upd H15 pf (.lst (cutV (rs.map V.ref) none (some (((rs.map V.ref).length : Int) / 2))))) := .new hpf
    have hA16 : AsksAt K as (upd H15 pf (.lst (cutV (rs.map V.ref) none (some (((rs.map V.ref).length : Int) / 2))))) (rs.take n) (aa.take n) := by
      refine ⟨by rw [List.length_take, List.length_take, hAl], fun i r b h1 h2 => ?_⟩
      have hi : i < n := by have := (List.getElem?_eq_some_iff.mp h1).1; rw [List.length_take] at this; omega
      rw [List.getElem?_take_of_lt hi] at h1 h2
      exact (hA14.at' i r b h1 h2).mono fun t xs e => SqT.same (s15.trans s16) e
    refine ⟨T2, d2, l2, pf, ([], []), as, _, aa.take n, rfl, S2.same s16, StOk.empty, by simp; omega, by simp; omega, SqL.of hpf16, hA16, fun px tx H17 hpx0 hpx17 _ S217 b17 => ?_⟩
    clear hA16
    have S216 := S2.same s16
    have hd216 := S216.hd
    obtain ⟨lk2, hl216, _⟩ := id S216.hl
    have kp17 := But2.keepN b17 hd216 hl216
    have S017 := (S015.same s16).but2 b17 hd216 hl216 ap2.1 ap2.2.1 ap2.2.2.1 ap2.2.2.2
    have kp1417 : KeepN H14 H17 := (Same.keepN (s15.trans s16)).trans kp17
    have hq17 := kp1417 _ _ hq14 (by intro m z; cases z)
    have hpn17 := kp1417 _ _ hpn14 (by intro m z; cases z)
    have hA17 := hA14.mono fun t xs e => SqT.keepN kp1417 e
    have han17 := han14.keepN kp1417
    obtain ⟨sh, hsh⟩ : ∃ sh, sh = runR ([], []) (aa.take n) := ⟨_, rfl⟩
    rw [← hsh] at S217
    have okh : StOk sh.1 sh.2 := by rw [hsh]; exact runR_ok StOk.empty _
    have lenh : sh.1.length ≤ n ∧ sh.2.length ≤ n := by
      have := runR_len ([], []) (aa.take n)
      rw [← hsh] at this
      simp only [List.length_nil, List.length_take] at this
      omega
    -- told, and made anew
    obtain ⟨⟨e3, hT217⟩, _, _, _⟩ := id S217
    refine ⟨_, rfl, T2, e3, _, rfl, hT217, nlT _ _, T2, d2, l2, _, _, rfl, S217, okh, by omega, by omega, fun p3 ps3 qs3 H18 s18 tl3 it3 => ?_⟩
    obtain ⟨ph, pq, oh, oa, hs', as', g1, g2, g3, g4, g5, g6, g7, g8⟩ := id tl3
    refine ⟨p3, _, rfl, SqT.of g1, rfl, _, _, rfl, _, _, rfl, rfl, ?_⟩
    refine ⟨_, rfl, _, rfl, ?_⟩
    intro T3 dx3 nT3 ndx3 nex3
    have sN3 : Same H18 (upd (upd H18 dx3 (.own T3)) T3 (.ins C dx3 [])) := by
      refine (Same.new ndx3).trans (Same.new ?_)
      rw [upd_ne nex3.symm]; exact nT3
    refine init_of upd_same sN3 g2 g3 g4 g5 g6 g7 g8 (by have := it3.len.2; omega) (fun d3 l3 H19 hd3' hl3' S3 bt3 => ⟨rfl, ?_⟩)
    have s19 : Same H18 H19 := fun b o e => bt3 _ _ (sN3 _ _ e) (ne_of_none e nT3)
    have hd3' := sN3.none hd3'
    have hl3' := sN3.none hl3'
    have S018 := S017.same s18
    have ap3 := S018.ap hd3' hl3'
    have s1719 := s18.trans s19
    have S019 := S018.same s19
    have hq19 := s1719 _ _ hq17
    have hpn19 := s1719 _ _ hpn17
    have hA19 := hA17.mono fun t xs e => SqT.same s1719 e
    have han19 := han17.keepN (Same.keepN s1719)
    obtain ⟨eq3, ok3, lk3, ll3⟩ := it3.made okh
    obtain ⟨sm, hsm⟩ : ∃ sm : K05.S2, sm = (heldOf (kvOf ps3), lasOf qs3) := ⟨_, rfl⟩
    have eq3 : Eqv sm.1 sm.2 sh.1 sh.2 := by rw [hsm]; exact eq3
    have ok3 : StOk sm.1 sm.2 := by rw [hsm]; exact ok3
    have S3 : TabAt K C H19 T3 d3 l3 sm.1 sm.2 := by rw [hsm]; exact S3
    have lm1 : sm.1.length ≤ n := by rw [hsm]; exact Nat.le_trans lk3 lenh.1
    have lm2 : sm.2.length ≤ n := by rw [hsm]; exact Nat.le_trans ll3 lenh.2
    clear hA17 hA14 han17 han14 S018 S017 S015 S014
    -- the later asks
    refine ⟨_, rfl, _, rfl, _, rfl, qa, _, rfl, .inl (SqL.of hq19), _, _, rfl, rfl, ⟨by decide, by decide⟩, _, rfl, qa, _, rfl, SqL.of hq19, fun pg hpg => ?_⟩
    have hpg20 : upd H19 pg (.lst (cutV (rs.map V.ref) (some (((rs.map V.ref).length : Int) / 2)) none)) pg = some (.lst ((rs.drop n).map V.ref)) := by rw [upd_same, ecut2 rs rfl]
    have s20 : Same H19 (upd H19 pg (.lst (cutV (rs.map V.ref) (some (((rs.map V.ref).length : Int) / 2)) none))) := .new hpg
    have hA20 : AsksAt K as (upd H19 pg (.lst (cutV (rs.map V.ref) (some (((rs.map V.ref).length : Int) / 2)) none))) (rs.drop n) (aa.drop n) := by
      refine ⟨by rw [List.length_drop, List.length_drop, hAl], fun i r b h1 h2 => ?_⟩
      rw [List.getElem?_drop] at h1 h2
      exact (hA19.at' _ r b h1 h2).mono fun t xs e => SqT.same s20 e
    have S320 := S3.same s20
    refine ⟨T3, d3, l3, pg, sm, as, _, aa.drop n, rfl, S320, ok3, by rw [List.length_drop]; omega, by rw [List.length_drop]; omega, SqL.of hpg20, hA20, fun py ty H21 hpy0 hpy21 hty S321 b21 => ?_⟩
    have hd320 := S320.hd
    obtain ⟨lk3', hl320, _⟩ := id S320.hl
    have kp21 := But2.keepN b21 hd320 hl320
    have S021 := (S019.same s20).but2 b21 hd320 hl320 ap3.1 ap3.2.1 ap3.2.2.1 ap3.2.2.2
    have kp1921 : KeepN H19 H21 := (Same.keepN s20).trans kp21
    have hq21 := kp1921 _ _ hq19 (by intro m z; cases z)
    have hpn21 := kp1921 _ _ hpn19 (by intro m z; cases z)
    have han21 := han19.keepN kp1921
    refine ⟨_, rfl, _, rfl, qa, _, rfl, .inl (SqL.of hq21), _, _, rfl, rfl, ⟨by decide, by decide⟩, _, rfl, pn, _, rfl, SqL.of hpn21, fun pz hpz => ?_⟩
    have hpz22 : upd H21 pz (.lst (cutV (an.map V.ref) (some (((rs.map V.ref).length : Int) / 2)) none)) pz = some (.lst ((an.drop n).map V.ref)) := by rw [upd_same, ecut2 an (by omega)]
    have s22 : Same H21 (upd H21 pz (.lst (cutV (an.map V.ref) (some (((rs.map V.ref).length : Int) / 2)) none))) := .new hpz
    generalize upd H21 pz (.lst (cutV (an.map V.ref) (some (((rs.map V.ref).length : Int) / 2)) none)) = H22 at hpz22 s22
    have htyl := hty.len
    rw [List.length_drop] at htyl
    refine ⟨py, pz, _, _, rfl, rfl, SqL.of (s22 _ _ hpy21), SqL.of hpz22, by rw [List.length_map, List.length_map, List.length_drop]; omega, fun i u v h1 h2 => ?_, _, rfl, ?_⟩
    · rw [List.getElem?_map] at h1 h2
      cases ht : ty[i]? with
      | none => rw [ht] at h1; cases h1
      | some t =>
        cases hz : (an.drop n)[i]? with
        | none => rw [hz] at h2; cases h2
        | some zt =>
          rw [ht] at h1
          rw [hz] at h2
          cases h1
          cases h2
          have hi : i < aa.length - n := by have := (List.getElem?_eq_some_iff.mp ht).1; omega
          obtain ⟨b, hb⟩ : ∃ b, (aa.drop n)[i]? = some b := ⟨_, List.getElem?_eq_getElem (by rw [List.length_drop]; exact hi)⟩
          have e1 := s22 _ _ (hty.at' i t b ht hb)
          rw [List.getElem?_drop] at hz
          have hb' := hb
          rw [List.getElem?_drop] at hb'
          have e2 := s22 _ _ (han21.at' _ zt b hz hb')
          have e3 : answ (runR sm ((aa.drop n).take i)) b = answ (runR ([], []) (aa.take (n + i))) b := by
            have h1 : runR ([], []) (aa.take (n + i)) = runR sh ((aa.drop n).take i) := by rw [hsh]; exact stA_add aa n i
            rw [h1]
            exact (Eqv.run eq3 _).answ b
          rw [e3] at e1
          exact ⟨t, zt, _, rfl, rfl, SqT.of e1, SqT.of e2, answ_flat (runR_ok StOk.empty _) b⟩
    · refine iteF ?_
      have S322 := S321.same s22
      have okE : StOk (runR sm (aa.drop n)).1 (runR sm (aa.drop n)).2 := runR_ok ok3 _
      have lenE : (runR sm (aa.drop n)).1.length ≤ 60 ∧ (runR sm (aa.drop n)).2.length ≤ 60 := by
        have h1 := runR_len sm (aa.drop n)
        rw [List.length_drop] at h1
        omega
      have eqE : Eqv (runR sm (aa.drop n)).1 (runR sm (aa.drop n)).2 sF.1 sF.2 := by
        have h1 : sF = runR sh (aa.drop n) := by rw [hsF, hsh, ← runR_app, List.take_append_drop]
        rw [h1]
        exact Eqv.run eq3 _
      obtain ⟨⟨e4, hT322⟩, _, _, _⟩ := id S322
      refine ⟨_, rfl, T3, e4, _, rfl, hT322, nlT _ _, T3, d3, l3, _, _, rfl, S322, okE, by omega, by omega, fun p4 ps4 qs4 H23 s23 tl4 it4 => ?_⟩
      have S023 := S021.same (s22.trans s23)
      obtain ⟨⟨e5, hT023⟩, _, _, _⟩ := id S023
      refine ⟨_, rfl, T0, e5, _, rfl, hT023, nlT _ _, T0, d0, l0, _, _, rfl, S023, okF, by omega, by omega, fun p5 ps5 qs5 H24 s24 tl5 it5 => ?_⟩
      exact ⟨.ref p4, .ref p5, rfl, told_same okE okF eqE it4 it5 (by omega) (by omega) (tl4.keepN (Same.keepN s24)) tl5, fun H25 s25 => q _⟩
end
end K05

namespace K05
open PySem L2
theorem all_mk {l : PySem.W.OpenLaw} {w : World} {K : PySem.W.Frag} {h : Heap} {mg : Str → Option Value} {fa C : Addr} (X : K.In h) (G : h.Ns mainGlobals mg) (hfa : mg "law" = some (.ref fa))
    (aC : PySem.W.nsIn K mainGlobals "Table" = some (some (.ref C)))
    {fcell : Addr} {odcell ancell : Option Addr} {slcell : Array (Option Value)} {occell kVcell dccell pmcell cdcell ctcell : Value} (acell : PySem.W.nsIn K mainGlobals "_law_cell_at" = some (some (.ref fcell))) (lcell : K.lookup fcell = some ⟨occell, odcell, .func (PySem.W.fnOf "_law_cell_at" "_law_cell_at" (defArgs sCell) (defBody sCell) (defScope sCell) .none kVcell dccell pmcell ancell cdcell ctcell), slcell⟩) (ccell : PySem.W.codeIn K cdcell "_law_cell_at" = true) (kcell : PySem.W.keepIn K (.ref fcell) = true)
    {fnext : Addr} {odnext annext : Option Addr} {slnext : Array (Option Value)} {ocnext kVnext dcnext pmnext cdnext ctnext : Value} (anext : PySem.W.nsIn K mainGlobals "_law_next" = some (some (.ref fnext))) (lnext : K.lookup fnext = some ⟨ocnext, odnext, .func (PySem.W.fnOf "_law_next" "_law_next" (defArgs sNext) (defBody sNext) (defScope sNext) .none kVnext dcnext pmnext annext cdnext ctnext), slnext⟩) (cnext : PySem.W.codeIn K cdnext "_law_next" = true) (knext : PySem.W.keepIn K (.ref fnext) = true)
    {fother : Addr} {odother another : Option Addr} {slother : Array (Option Value)} {ocother kVother dcother pmother cdother ctother : Value} (aother : PySem.W.nsIn K mainGlobals "_law_other" = some (some (.ref fother))) (lother : K.lookup fother = some ⟨ocother, odother, .func (PySem.W.fnOf "_law_other" "_law_other" (defArgs sOther) (defBody sOther) (defScope sOther) .none kVother dcother pmother another cdother ctother), slother⟩) (cother : PySem.W.codeIn K cdother "_law_other" = true) (kother : PySem.W.keepIn K (.ref fother) = true)
    {fnumber : Addr} {odnumber annumber : Option Addr} {slnumber : Array (Option Value)} {ocnumber kVnumber dcnumber pmnumber cdnumber ctnumber : Value} (anumber : PySem.W.nsIn K mainGlobals "_law_number" = some (some (.ref fnumber))) (lnumber : K.lookup fnumber = some ⟨ocnumber, odnumber, .func (PySem.W.fnOf "_law_number" "_law_number" (defArgs sNumber) (defBody sNumber) (defScope sNumber) .none kVnumber dcnumber pmnumber annumber cdnumber ctnumber), slnumber⟩) (cnumber : PySem.W.codeIn K cdnumber "_law_number" = true) (knumber : PySem.W.keepIn K (.ref fnumber) = true)
    {fdigits : Addr} {oddigits andigits : Option Addr} {sldigits : Array (Option Value)} {ocdigits kVdigits dcdigits pmdigits cddigits ctdigits : Value} (adigits : PySem.W.nsIn K mainGlobals "_law_digits" = some (some (.ref fdigits))) (ldigits : K.lookup fdigits = some ⟨ocdigits, oddigits, .func (PySem.W.fnOf "_law_digits" "_law_digits" (defArgs sDigits) (defBody sDigits) (defScope sDigits) .none kVdigits dcdigits pmdigits andigits cddigits ctdigits), sldigits⟩) (cdigits : PySem.W.codeIn K cddigits "_law_digits" = true) (kdigits : PySem.W.keepIn K (.ref fdigits) = true)
    {fnames : Addr} {odnames annames : Option Addr} {slnames : Array (Option Value)} {ocnames kVnames dcnames pmnames cdnames ctnames : Value} (anames : PySem.W.nsIn K mainGlobals "_law_names" = some (some (.ref fnames))) (lnames : K.lookup fnames = some ⟨ocnames, odnames, .func (PySem.W.fnOf "_law_names" "_law_names" (defArgs sNames) (defBody sNames) (defScope sNames) .none kVnames dcnames pmnames annames cdnames ctnames), slnames⟩) (cnames : PySem.W.codeIn K cdnames "_law_names" = true) (knames : PySem.W.keepIn K (.ref fnames) = true)
    {fwide : Addr} {odwide anwide : Option Addr} {slwide : Array (Option Value)} {ocwide kVwide dcwide pmwide cdwide ctwide : Value} (awide : PySem.W.nsIn K mainGlobals "_law_wide" = some (some (.ref fwide))) (lwide : K.lookup fwide = some ⟨ocwide, odwide, .func (PySem.W.fnOf "_law_wide" "_law_wide" (defArgs sWide) (defBody sWide) (defScope sWide) .none kVwide dcwide pmwide anwide cdwide ctwide), slwide⟩) (cwide : PySem.W.codeIn K cdwide "_law_wide" = true) (kwide : PySem.W.keepIn K (.ref fwide) = true)
    {fwork : Addr} {odwork anwork : Option Addr} {slwork : Array (Option Value)} {ocwork kVwork dcwork pmwork cdwork ctwork : Value} (awork : PySem.W.nsIn K mainGlobals "_law_work" = some (some (.ref fwork))) (lwork : K.lookup fwork = some ⟨ocwork, odwork, .func (PySem.W.fnOf "_law_work" "_law_work" (defArgs sWork) (defBody sWork) (defScope sWork) .none kVwork dcwork pmwork anwork cdwork ctwork), slwork⟩) (cwork : PySem.W.codeIn K cdwork "_law_work" = true) (kwork : PySem.W.keepIn K (.ref fwork) = true)
    {fsame : Addr} {odsame ansame : Option Addr} {slsame : Array (Option Value)} {ocsame kVsame dcsame pmsame cdsame ctsame : Value} (asame : PySem.W.nsIn K mainGlobals "_law_same" = some (some (.ref fsame))) (lsame : K.lookup fsame = some ⟨ocsame, odsame, .func (PySem.W.fnOf "_law_same" "_law_same" (defArgs sSame) (defBody sSame) (defScope sSame) .none kVsame dcsame pmsame ansame cdsame ctsame), slsame⟩) (csame : PySem.W.codeIn K cdsame "_law_same" = true) (ksame : PySem.W.keepIn K (.ref fsame) = true)
    {fasks : Addr} {odasks anasks : Option Addr} {slasks : Array (Option Value)} {ocasks kVasks dcasks pmasks cdasks ctasks : Value} (aasks : PySem.W.nsIn K mainGlobals "_law_asks" = some (some (.ref fasks))) (lasks : K.lookup fasks = some ⟨ocasks, odasks, .func (PySem.W.fnOf "_law_asks" "_law_asks" (defArgs sAsks) (defBody sAsks) (defScope sAsks) .none kVasks dcasks pmasks anasks cdasks ctasks), slasks⟩) (casks : PySem.W.codeIn K cdasks "_law_asks" = true) (kasks : PySem.W.keepIn K (.ref fasks) = true)
    {fdon : Addr} {oddon andon : Option Addr} {sldon : Array (Option Value)} {ocdon kVdon dcdon pmdon cddon ctdon : Value} (adon : PySem.W.nsIn K mainGlobals "_law_done" = some (some (.ref fdon))) (ldon : K.lookup fdon = some ⟨ocdon, oddon, .func (PySem.W.fnOf "_law_done" "_law_done" (defArgs sDone5) (defBody sDone5) (defScope sDone5) .none kVdon dcdon pmdon andon cddon ctdon), sldon⟩) (cdon : PySem.W.codeIn K cddon "_law_done" = true) (kdon : PySem.W.keepIn K (.ref fdon) = true)
    {fdbl : Addr} {oddbl andbl : Option Addr} {sldbl : Array (Option Value)} {ocdbl kVdbl dcdbl pmdbl cddbl ctdbl : Value} (adbl : PySem.W.nsIn K mainGlobals "_law_doubled" = some (some (.ref fdbl))) (ldbl : K.lookup fdbl = some ⟨ocdbl, oddbl, .func (PySem.W.fnOf "_law_doubled" "_law_doubled" (defArgs sDbl) (defBody sDbl) (defScope sDbl) .none kVdbl dcdbl pmdbl andbl cddbl ctdbl), sldbl⟩) (cdbl : PySem.W.codeIn K cddbl "_law_doubled" = true) (kdbl : PySem.W.keepIn K (.ref fdbl) = true)
    {fright : Addr} {odright anright : Option Addr} {slright : Array (Option Value)} {ocright kVright dcright pmright cdright ctright : Value} (aright : PySem.W.nsIn K mainGlobals "_law_right" = some (some (.ref fright))) (lright : K.lookup fright = some ⟨ocright, odright, .func (PySem.W.fnOf "_law_right" "_law_right" (defArgs sRight) (defBody sRight) (defScope sRight) .none kVright dcright pmright anright cdright ctright), slright⟩) (cright : PySem.W.codeIn K cdright "_law_right" = true) (kright : PySem.W.keepIn K (.ref fright) = true)
    {flaw : Addr} {odlaw anlaw : Option Addr} {sllaw : Array (Option Value)} {oclaw kVlaw dclaw pmlaw cdlaw ctlaw : Value} (alaw : PySem.W.nsIn K mainGlobals "law" = some (some (.ref flaw))) (llaw : K.lookup flaw = some ⟨oclaw, odlaw, .func (PySem.W.fnOf "law" "law" (defArgs sLaw) (defBody sLaw) (defScope sLaw) .none kVlaw dclaw pmlaw anlaw cdlaw ctlaw), sllaw⟩) (claw : PySem.W.codeIn K cdlaw "law" = true) (klaw : PySem.W.keepIn K (.ref flaw) = true)
    {finit : Addr} {odinit aninit : Option Addr} {slinit : Array (Option Value)} {ocinit kVinit dcinit pminit cdinit ctinit : Value} (ainit : PySem.W.findIn K (.ref C) "__init__" = some (some (.ref finit))) (iinit : PySem.W.isFn K (.ref finit) = true) (linit : K.lookup finit = some ⟨ocinit, odinit, .func (PySem.W.fnOf "__init__" "Table.__init__" (defArgs sInit) (defBody sInit) (defScope sInit) .none kVinit dcinit pminit aninit cdinit ctinit), slinit⟩) (cinit : PySem.W.codeIn K cdinit "Table.__init__" = true) (kinit : PySem.W.keepIn K (.ref finit) = true)
    {fdoes : Addr} {oddoes andoes : Option Addr} {sldoes : Array (Option Value)} {ocdoes kVdoes dcdoes pmdoes cddoes ctdoes : Value} (adoes : PySem.W.findIn K (.ref C) "does" = some (some (.ref fdoes))) (idoes : PySem.W.isFn K (.ref fdoes) = true) (ldoes : K.lookup fdoes = some ⟨ocdoes, oddoes, .func (PySem.W.fnOf "does" "Table.does" (defArgs sDoes) (defBody sDoes) (defScope sDoes) .none kVdoes dcdoes pmdoes andoes cddoes ctdoes), sldoes⟩) (cdoes : PySem.W.codeIn K cddoes "Table.does" = true) (kdoes : PySem.W.keepIn K (.ref fdoes) = true)
    {fdone : Addr} {oddone andone : Option Addr} {sldone : Array (Option Value)} {ocdone kVdone dcdone pmdone cddone ctdone : Value} (adone : PySem.W.findIn K (.ref C) "work_done" = some (some (.ref fdone))) (idone : PySem.W.isFn K (.ref fdone) = true) (ldone : K.lookup fdone = some ⟨ocdone, oddone, .func (PySem.W.fnOf "work_done" "Table.work_done" (defArgs sDone) (defBody sDone) (defScope sDone) .none kVdone dcdone pmdone andone cddone ctdone), sldone⟩) (cdone : PySem.W.codeIn K cddone "Table.work_done" = true) (kdone : PySem.W.keepIn K (.ref fdone) = true)
    {fholds : Addr} {odholds anholds : Option Addr} {slholds : Array (Option Value)} {ocholds kVholds dcholds pmholds cdholds ctholds : Value} (aholds : PySem.W.findIn K (.ref C) "holds" = some (some (.ref fholds))) (iholds : PySem.W.isFn K (.ref fholds) = true) (lholds : K.lookup fholds = some ⟨ocholds, odholds, .func (PySem.W.fnOf "holds" "Table.holds" (defArgs sHolds) (defBody sHolds) (defScope sHolds) .none kVholds dcholds pmholds anholds cdholds ctholds), slholds⟩) (cholds : PySem.W.codeIn K cdholds "Table.holds" = true) (kholds : PySem.W.keepIn K (.ref fholds) = true)
    {flast : Addr} {odlast anlast : Option Addr} {sllast : Array (Option Value)} {oclast kVlast dclast pmlast cdlast ctlast : Value} (alast : PySem.W.findIn K (.ref C) "last_of" = some (some (.ref flast))) (ilast : PySem.W.isFn K (.ref flast) = true) (llast : K.lookup flast = some ⟨oclast, odlast, .func (PySem.W.fnOf "last_of" "Table.last_of" (defArgs sLast) (defBody sLast) (defScope sLast) .none kVlast dclast pmlast anlast cdlast ctlast), sllast⟩) (clast : PySem.W.codeIn K cdlast "Table.last_of" = true) (klast : PySem.W.keepIn K (.ref flast) = true)
    {fmT : Addr} {odmT anmT : Option Addr} {slmT : Array (Option Value)} {ocmT kVmT dcmT pmmT cdmT ctmT : Value} (amT : PySem.W.findIn K (.ref C) "told" = some (some (.ref fmT))) (imT : PySem.W.isFn K (.ref fmT) = true) (lmT : K.lookup fmT = some ⟨ocmT, odmT, .func (PySem.W.fnOf "told" "Table.told" (defArgs sTold) (defBody sTold) (defScope sTold) .none kVmT dcmT pmmT anmT cdmT ctmT), slmT⟩) (cmT : PySem.W.codeIn K cdmT "Table.told" = true) (kmT : PySem.W.keepIn K (.ref fmT) = true)
    (pg : PySem.W.plainGet K C Str.empty = true) (hd : PySem.W.hasDictIn K C = true) (po : PySem.W.plainOver K C = true) (sa : PySem.W.findIn K (.ref C) "__setattr__" = some (some (.builtin "object.__setattr__"))) (mk : PySem.W.makesIn K C = true) (kc : PySem.W.keepIn K (.ref C) = true)
    (nH : PySem.W.findIn K (.ref C) "held" = some none) (nL : PySem.W.findIn K (.ref C) "lasts" = some none) (zlen : PySem.W.nsIn K mainGlobals "len" = some none) (zrange : PySem.W.nsIn K mainGlobals "range" = some none) (zint : PySem.W.nsIn K mainGlobals "int" = some none) (zmin : PySem.W.nsIn K mainGlobals "min" = some none) (zisinstance : PySem.W.nsIn K mainGlobals "isinstance" = some none) (ztuple : PySem.W.nsIn K mainGlobals "tuple" = some none) (zbool : PySem.W.nsIn K mainGlobals "bool" = some none) (zdict : PySem.W.nsIn K mainGlobals "dict" = some none) (zmax : PySem.W.nsIn K mainGlobals "max" = some none) (zall : PySem.W.nsIn K mainGlobals "all" = some none) (zstr : PySem.W.nsIn K mainGlobals "str" = some none) (zsorted : PySem.W.nsIn K mainGlobals "sorted" = some none) (zlist : PySem.W.nsIn K mainGlobals "list" = some none) (zzip : PySem.W.nsIn K mainGlobals "zip" = some none) :
    ∃ fd : FuncData, (∀ (s : Shared) (v : Value), BindsTo s fd ⟨[v], []⟩ [("_law_script", v)]) ∧ ∀ base : Heap, K.In base → base.Ns mainGlobals mg → FnOk l.prog w K mg base CX0 5 fa fd ["_law_script"] (spLaw K) := by
  have e := hfa.symm.trans (PySem.W.mg_of X G alaw)
  cases e
  have T : Cl K mg C := ⟨⟨pg, hd, po, sa⟩, nH, nL, PySem.W.mg_of X G aC⟩
  have B : Blt mg := { len := PySem.W.mg_none_of X G zlen, range := PySem.W.mg_none_of X G zrange, int := PySem.W.mg_none_of X G zint, min := PySem.W.mg_none_of X G zmin, isi := PySem.W.mg_none_of X G zisinstance, tuple := PySem.W.mg_none_of X G ztuple, bool := PySem.W.mg_none_of X G zbool, dict := PySem.W.mg_none_of X G zdict, max := PySem.W.mg_none_of X G zmax, all := PySem.W.mg_none_of X G zall, str := PySem.W.mg_none_of X G zstr, sorted := PySem.W.mg_none_of X G zsorted, list := PySem.W.mg_none_of X G zlist, zip := PySem.W.mg_none_of X G zzip }
  have Fcell := fun_mk (st := sCell) lcell ccell kcell
  have bcell := Fcell.binds (ps := ["_law_script", "_law_k"]) fun _ _ _ _ _ _ us hl => match us, hl with | [_, _], _ => rfl
  have Fnext := fun_mk (st := sNext) lnext cnext knext
  have bnext := Fnext.binds (ps := ["_law_x"]) fun _ _ _ _ _ _ us hl => match us, hl with | [_], _ => rfl
  have Fother := fun_mk (st := sOther) lother cother kother
  have bother := Fother.binds (ps := ["_law_x"]) fun _ _ _ _ _ _ us hl => match us, hl with | [_], _ => rfl
  have Fnumber := fun_mk (st := sNumber) lnumber cnumber knumber
  have bnumber := Fnumber.binds (ps := ["_law_script", "_law_k"]) fun _ _ _ _ _ _ us hl => match us, hl with | [_, _], _ => rfl
  have Fdigits := fun_mk (st := sDigits) ldigits cdigits kdigits
  have bdigits := Fdigits.binds (ps := ["_law_script", "_law_k", "_law_base", "_law_many"]) fun _ _ _ _ _ _ us hl => match us, hl with | [_, _, _, _], _ => rfl
  have Fnames := fun_mk (st := sNames) lnames cnames knames
  have bnames := Fnames.binds (ps := ["_law_script", "_law_k", "_law_many"]) fun _ _ _ _ _ _ us hl => match us, hl with | [_, _, _], _ => rfl
  have Fwide := fun_mk (st := sWide) lwide cwide kwide
  have bwide := Fwide.binds (ps := ["_law_row"]) fun _ _ _ _ _ _ us hl => match us, hl with | [_], _ => rfl
  have Fwork := fun_mk (st := sWork) lwork cwork kwork
  have bwork := Fwork.binds (ps := ["_law_row", "_law_keys"]) fun _ _ _ _ _ _ us hl => match us, hl with | [_, _], _ => rfl
  have Fsame := fun_mk (st := sSame) lsame csame ksame
  have bsame := Fsame.binds (ps := ["_law_found", "_law_due"]) fun _ _ _ _ _ _ us hl => match us, hl with | [_, _], _ => rfl
  have Fasks := fun_mk (st := sAsks) lasks casks kasks
  have basks := Fasks.binds (ps := ["_law_script", "_law_keys", "_law_askers"]) fun _ _ _ _ _ _ us hl => match us, hl with | [_, _, _], _ => rfl
  have Fdon := fun_mk (st := sDone5) ldon cdon kdon
  have bdon := Fdon.binds (ps := ["_law_table", "_law_asks_here"]) fun _ _ _ _ _ _ us hl => match us, hl with | [_, _], _ => rfl
  have Fdbl := fun_mk (st := sDbl) ldbl cdbl kdbl
  have bdbl := Fdbl.binds (ps := ["_law_script", "_law_asks_here"]) fun _ _ _ _ _ _ us hl => match us, hl with | [_, _], _ => rfl
  have Fright := fun_mk (st := sRight) lright cright kright
  have bright := Fright.binds (ps := ["_law_asks_here", "_law_order", "_law_told", "_law_answers"]) fun _ _ _ _ _ _ us hl => match us, hl with | [_, _, _, _], _ => rfl
  have Flaw := fun_mk (st := sLaw) llaw claw klaw
  have Finit := fun_mk (st := sInit) linit cinit kinit
  have binit := Finit.binds (ps := ["self", "held", "asked"]) fun _ _ _ _ _ _ us hl => match us, hl with | [_, _, _], _ => rfl
  have Fdoes := fun_mk (st := sDoes) ldoes cdoes kdoes
  have bdoes := Fdoes.binds (ps := ["self", "asker", "number", "work"]) fun _ _ _ _ _ _ us hl => match us, hl with | [_, _, _, _], _ => rfl
  have Fdone := fun_mk (st := sDone) ldone cdone kdone
  have bdone := Fdone.binds (ps := ["self", "work"]) fun _ _ _ _ _ _ us hl => match us, hl with | [_, _], _ => rfl
  have Fholds := fun_mk (st := sHolds) lholds cholds kholds
  have bholds := Fholds.binds (ps := ["self", "key"]) fun _ _ _ _ _ _ us hl => match us, hl with | [_, _], _ => rfl
  have Flast := fun_mk (st := sLast) llast clast klast
  have blast := Flast.binds (ps := ["self", "asker"]) fun _ _ _ _ _ _ us hl => match us, hl with | [_, _], _ => rfl
  have FmT := fun_mk (st := sTold) lmT cmT kmT
  have bmT := FmT.binds (ps := ["self"]) fun _ _ _ _ _ _ us hl => match us, hl with | [_], _ => rfl
  refine ⟨PySem.W.fnOf "law" "law" (defArgs sLaw) (defBody sLaw) (defScope sLaw) .none kVlaw dclaw pmlaw anlaw cdlaw ctlaw, fun s v => .of_eq rfl, fun base _ _ => ?_⟩
  have Ac : FnAt l.prog w K mg base 1 "_law_cell_at" ["_law_script", "_law_k"] (spCell K) := ⟨_, _, ok_cell Fcell B, PySem.W.mg_of X G acell, kcell, bcell⟩
  have An : FnAt l.prog w K mg base 1 "_law_next" ["_law_x"] spNext := ⟨_, _, ok_next Fnext, PySem.W.mg_of X G anext, knext, bnext⟩
  have Ao : FnAt l.prog w K mg base 1 "_law_other" ["_law_x"] spNext := ⟨_, _, ok_other Fother, PySem.W.mg_of X G aother, kother, bother⟩
  have Am : FnAt l.prog w K mg base 2 "_law_number" ["_law_script", "_law_k"] (spNumber K) := ⟨_, _, ok_number Fnumber Ac An Ao, PySem.W.mg_of X G anumber, knumber, bnumber⟩
  have Ad : FnAt l.prog w K mg base 3 "_law_digits" ["_law_script", "_law_k", "_law_base", "_law_many"] (spDigits K) := ⟨_, _, ok_digits Fdigits B Ac An Ao Am, PySem.W.mg_of X G adigits, kdigits, bdigits⟩
  have Aa : FnAt l.prog w K mg base 4 "_law_names" ["_law_script", "_law_k", "_law_many"] (spNames K) := ⟨_, _, ok_names Fnames B Ad, PySem.W.mg_of X G anames, knames, bnames⟩
  have Ai : FnAt l.prog w K mg base 1 "_law_wide" ["_law_row"] (spWide K) := ⟨_, _, ok_wide Fwide, PySem.W.mg_of X G awide, kwide, bwide⟩
  have Aw : FnAt l.prog w K mg base 2 "_law_work" ["_law_row", "_law_keys"] (spWork K) := ⟨_, _, ok_work Fwork B Ai, PySem.W.mg_of X G awork, kwork, bwork⟩
  have Gh : FnOk l.prog w K mg base CX0 1 fholds _ ["self", "key"] (spHolds K C) := ok_holds Fholds T
  have Gl : FnOk l.prog w K mg base CX0 1 flast _ ["self", "asker"] (spLast K C) := ok_last Flast T
  have Gd : FnOk l.prog w K mg base CX0 2 fdone _ ["self", "work"] (spDone K C) := ok_done Fdone T Gh bholds ⟨aholds, iholds, kholds⟩
  have Mi : MkAt l.prog w K mg base C 1 ["self", "held", "asked"] (spInit K C) := ⟨_, _, ok_init Finit T B, binit, ⟨mk, ainit, iinit, kc⟩⟩
  have Md : MeAt l.prog w K mg base C 3 "does" ["self", "asker", "number", "work"] (spDoes K C) := ⟨_, _, ok_does Fdoes T Gl blast ⟨alast, ilast, klast⟩ Gd bdone ⟨adone, idone, kdone⟩, bdoes, ⟨adoes, idoes, kdoes⟩⟩
  have As := fun n => ok_same (P := l.prog) (w := w) (base := base) Fsame B (PySem.W.mg_of X G asame) ksame bsame n
  have Aasks : FnAt l.prog w K mg base 4 "_law_asks" ["_law_script", "_law_keys", "_law_askers"] (spAsks K) := ⟨_, _, ok_asks Fasks B Ad Aw, PySem.W.mg_of X G aasks, kasks, basks⟩
  have Adon : FnAt l.prog w K mg base 4 "_law_done" nDn (spDone5 K C) := ⟨_, _, ok_done5 Fdon T Md, PySem.W.mg_of X G adon, kdon, bdon⟩
  have Adbl : FnAt l.prog w K mg base 4 "_law_doubled" ["_law_script", "_law_asks_here"] (spDbl K) := ⟨_, _, ok_dbl Fdbl B Ad, PySem.W.mg_of X G adbl, kdbl, bdbl⟩
  have Aright : FnAt l.prog w K mg base 3 "_law_right" ["_law_asks_here", "_law_order", "_law_told", "_law_answers"] (spRight K) := ⟨_, _, ok_right Fright B (As 1), PySem.W.mg_of X G aright, kright, bright⟩
  have Mt : MeAt l.prog w K mg base C 1 "told" ["self"] (spTold K C) := ⟨_, _, ok_told FmT T B, bmT, ⟨amT, imT, kmT⟩⟩
  exact ok_law Flaw B T Ac Aa Aasks Adon Adbl Aright (As 3) Mi Mt
theorem walk {l : PySem.W.OpenLaw} {q : Program} {loose : List Str} {XP : (Str → Option Value) → Heap → Prop} {YP : World → Heap → Prop} {d : DefRec} {K : Params → PySem.W.Frag} (hn : l.most = some 63) (hdf : d.params.defaults = [])
    (hY : ∀ (w : World) (h : Heap), YP w h → (K w.params).In h)
    (F : ∀ (w : World) (mg : Str → Option Value) (fa : Addr) (h : Heap), (K w.params).In h → h.Ns mainGlobals mg → mg d.name = some (.ref fa) →
      ∃ fd : FuncData, (∀ (s : Shared) (u : Value), BindsTo s fd ⟨[u], []⟩ [("_law_script", u)]) ∧ ∀ base : Heap, (K w.params).In base → base.Ns mainGlobals mg → FnOk l.prog w (K w.params) mg base CX0 5 fa fd ["_law_script"] (spLaw (K w.params))) :
    PySem.W.WalkO q loose XP YP l.row.toRowW d [] (fun f vs => PySem.call f vs) :=
  L2.walk_of (n := 63) (k := 5) (x := "_law_script") (CX := fun _ => CX0) (sp := fun w => spLaw (K w.params)) hn (by decide) hdf ⟨rfl, by decide, by decide⟩ hY F (fun _ _ a ns hl _ hS => ⟨a, ns, rfl, hS, hl, fun _ => rfl⟩) fun _ _ _ _ _ z => z
end K05
open PySem PySem.W PyProof.Rows
set_option maxRecDepth 100000 in
set_option maxHeartbeats 0 in
theorem PySem.Challenge.cw_chainhouse_k05_whole_again_changes_nothi_holds : PySem.Challenge.rw_chainhouse_k05_whole_again_changes_nothi.Holds := by
  w_on; o_law; k_head; (case hw => w_witness2)
  k_fill
  refine K05.walk (l := PySem.Challenge.rw_chainhouse_k05_whole_again_changes_nothi) rfl rfl (fun w h Y => PySem.W.kIn_of Y) ?F
  case F =>
    intro w mg fa h KX G hmg
    refine' K05.all_mk KX G hmg ?aC ?acell ?lcell ?ccell ?kcell ?anext ?lnext ?cnext ?knext ?aother ?lother ?cother ?kother ?anumber ?lnumber ?cnumber ?knumber ?adigits ?ldigits ?cdigits ?kdigits ?anames ?lnames ?cnames ?knames ?awide ?lwide ?cwide ?kwide ?awork ?lwork ?cwork ?kwork ?asame ?lsame ?csame ?ksame ?aasks ?lasks ?casks ?kasks ?adon ?ldon ?cdon ?kdon ?adbl ?ldbl ?cdbl ?kdbl ?aright ?lright ?cright ?kright ?alaw ?llaw ?claw ?klaw ?ainit ?iinit ?linit ?cinit ?kinit ?adoes ?idoes ?ldoes ?cdoes ?kdoes ?adone ?idone ?ldone ?cdone ?kdone ?aholds ?iholds ?lholds ?cholds ?kholds ?alast ?ilast ?llast ?clast ?klast ?amT ?imT ?lmT ?cmT ?kmT ?pg ?hd ?po ?sa ?mk ?kc ?nH ?nL ?zlen ?zrange ?zint ?zmin ?zisinstance ?ztuple ?zbool ?zdict ?zmax ?zall ?zstr ?zsorted ?zlist ?zzip
    (case aC => k_is)
    (case acell => k_is)
    (case lcell => k_is)
    (case ccell => k_is)
    (case kcell => k_is)
    (case anext => k_is)
    (case lnext => k_is)
    (case cnext => k_is)
    (case knext => k_is)
    (case aother => k_is)
    (case lother => k_is)
    (case cother => k_is)
    (case kother => k_is)
    (case anumber => k_is)
    (case lnumber => k_is)
    (case cnumber => k_is)
    (case knumber => k_is)
    (case adigits => k_is)
    (case ldigits => k_is)
    (case cdigits => k_is)
    (case kdigits => k_is)
    (case anames => k_is)
    (case lnames => k_is)
    (case cnames => k_is)
    (case knames => k_is)
    (case awide => k_is)
    (case lwide => k_is)
    (case cwide => k_is)
    (case kwide => k_is)
    (case awork => k_is)
    (case lwork => k_is)
    (case cwork => k_is)
    (case kwork => k_is)
    (case asame => k_is)
    (case lsame => k_is)
    (case csame => k_is)
    (case ksame => k_is)
    (case aasks => k_is)
    (case lasks => k_is)
    (case casks => k_is)
    (case kasks => k_is)
    (case adon => k_is)
    (case ldon => k_is)
    (case cdon => k_is)
    (case kdon => k_is)
    (case adbl => k_is)
    (case ldbl => k_is)
    (case cdbl => k_is)
    (case kdbl => k_is)
    (case aright => k_is)
    (case lright => k_is)
    (case cright => k_is)
    (case kright => k_is)
    (case alaw => k_is)
    (case llaw => k_is)
    (case claw => k_is)
    (case klaw => k_is)
    (case ainit => k_is)
    (case iinit => k_is)
    (case linit => k_is)
    (case cinit => k_is)
    (case kinit => k_is)
    (case adoes => k_is)
    (case idoes => k_is)
    (case ldoes => k_is)
    (case cdoes => k_is)
    (case kdoes => k_is)
    (case adone => k_is)
    (case idone => k_is)
    (case ldone => k_is)
    (case cdone => k_is)
    (case kdone => k_is)
    (case aholds => k_is)
    (case iholds => k_is)
    (case lholds => k_is)
    (case cholds => k_is)
    (case kholds => k_is)
    (case alast => k_is)
    (case ilast => k_is)
    (case llast => k_is)
    (case clast => k_is)
    (case klast => k_is)
    (case amT => k_is)
    (case imT => k_is)
    (case lmT => k_is)
    (case cmT => k_is)
    (case kmT => k_is)
    (case pg => k_is)
    (case hd => k_is)
    (case po => k_is)
    (case sa => k_is)
    (case mk => k_is)
    (case kc => k_is)
    (case nH => k_is)
    (case nL => k_is)
    (case zlen => k_is)
    (case zrange => k_is)
    (case zint => k_is)
    (case zmin => k_is)
    (case zisinstance => k_is)
    (case ztuple => k_is)
    (case zbool => k_is)
    (case zdict => k_is)
    (case zmax => k_is)
    (case zall => k_is)
    (case zstr => k_is)
    (case zsorted => k_is)
    (case zlist => k_is)
    (case zzip => k_is)

