import PyProof.Rows.All
import Wide.All
import OpenK.AllK
import Wide.FinOn
import Lean
import PyProof.EqAt
import PyProof.EqKinds
import PyProof.TupleCall
import PyProof.Rows.Range3
import PyProof.WalksEnum
import PyProof.EnumMake
import PyProof.Rows.EnumRows
import PyProof.Rows.SetFrom
import PyProof.CollectStr
import PyProof.ZipIter
import PyProof.ExcAttrAll.ValueError
import PyProof.P3Eq
import PyProof.NeKinds
import PyProof.Draws
import PyProof.LongRange
import PyProof.Rows.FStr
import PyProof.StrCalls2
import PyProof.StrLawsTight
import PyProof.Rows.StrItems
import PyProof.Rows.ReprOcc
import PyProof.Rows.CatFin
import PySem.Challenge.RW_chainhouse_k28_texts_that_write_no_stand
set_option Elab.async false
set_option linter.all false
set_option maxRecDepth 100000
set_option maxHeartbeats 8000000
namespace L2
open PySem PySem.Spec PyProof.Rows
abbrev Key:=Sum Int Str
def keyIs:Key -> Value -> Bool
 | .inl k,v=>Value.isInt k v
 | .inr x,v=>Value.isStrOf x v
def keyH (w:World):Key -> Int
 | .inl k=>hashInt k
 | .inr x=>hashStr w x
theorem bI:∀ {k:Key} {v:Value},keyIs k v=true -> (∃ i t,k=Sum.inl i /\ v=Value.int i t) \/ (∃ x t,k=Sum.inr x /\ v=Value.str x t)
 | .inl i,v,h=>by
  obtain ⟨t,e⟩:=Value.isInt_shape (k:=i) (v:=v) h
  exact .inl ⟨i,t,rfl,e⟩
 | .inr x,v,h=>by
  obtain ⟨t,e⟩:=Value.isStrOf_shape (x:=x) (v:=v) h
  exact .inr ⟨x,t,rfl,e⟩
theorem key_ll (a b:Int):decide ((Sum.inl a:Key)=Sum.inl b)=(a == b):=by
 by_cases e:a=b
 ·subst e; simp
 ·have h:¬ (Sum.inl a:Key)=Sum.inl b:=fun q=>e (Sum.inl.inj q)
  rw [decide_eq_false h]
  exact (beq_eq_false_iff_ne.mpr e).symm
theorem key_rr (a b:Str):decide ((Sum.inr a:Key)=Sum.inr b)=decide (a=b):=by
 by_cases e:a=b
 ·subst e; simp
 ·have h:¬ (Sum.inr a:Key)=Sum.inr b:=fun q=>e (Sum.inr.inj q)
  rw [decide_eq_false h,decide_eq_false e]
theorem key_lr (a:Int) (b:Str):decide ((Sum.inl a:Key)=Sum.inr b)=false:=decide_eq_false (fun q=>nomatch q)
theorem key_rl (a:Str) (b:Int):decide ((Sum.inr a:Key)=Sum.inl b)=false:=decide_eq_false (fun q=>nomatch q)
def kD (prog:Program) (w:World):PySem.KeyKind prog w Key where
 is:=keyIs
 hash:=keyH w
 inj:=fun v a b ha hb=>by
  rcases bI ha with ⟨i,t,rfl,rfl⟩ | ⟨x,t,rfl,rfl⟩
  ·rcases bI hb with ⟨j,u,rfl,e⟩ | ⟨y,u,rfl,e⟩
   ·injection e with e1 _; rw [e1]
   ·exact nomatch e
  ·rcases bI hb with ⟨j,u,rfl,e⟩ | ⟨y,u,rfl,e⟩
   ·exact nomatch e
   ·injection e with e1 _; rw [e1]
 byValue:=fun k v h=>by
  rcases bI h with ⟨i,t,rfl,rfl⟩ | ⟨x,t,rfl,rfl⟩ <;> rfl
 pyHash:=fun hv h=>by
  rcases bI hv with ⟨i,t,rfl,rfl⟩ | ⟨x,t,rfl,rfl⟩
  ·exact wpAny_pyHash_int h
  ·exact wpAny_pyHash_str h
 eqBool:=fun hu hv h=>by
  rcases bI hu with ⟨i,t,rfl,rfl⟩ | ⟨x,t,rfl,rfl⟩
  ·rcases bI hv with ⟨j,u,rfl,rfl⟩ | ⟨y,u,rfl,rfl⟩
   ·rw [key_ll] at h; exact wpAny_eqBool_int h
   ·rw [key_lr] at h; exact SeqAt.EqAt.int_str i t y u _ _ _ _ h
  ·rcases bI hv with ⟨j,u,rfl,rfl⟩ | ⟨y,u,rfl,rfl⟩
   ·rw [key_rl] at h; exact SeqAt.EqAt.str_int x t j u _ _ _ _ h
   ·rw [key_rr] at h; exact wpAny_eqBool_str h
 «strs»:=fun k x t v h=>by
  rcases bI h with ⟨i,u,rfl,e⟩ | ⟨y,u,rfl,e⟩
  ·exact nomatch e
  ·injection e with e1 _
   subst e1
   cases v <;> rfl
inductive V where
 | non | bl (b:Bool) | int (i:Int) | str (x:Str) | byt (b:Array UInt8) | flt (b:UInt64) | ref (a:Addr) | ty (n:String)
 deriving DecidableEq
def bu:V -> Value -> Prop
 | .non,u=>u=Value.none
 | .bl b,u=>u=Value.bool b
 | .int i,u=>∃ t,u=Value.int i t
 | .str x,u=>∃ t,u=Value.str x t
 | .byt b,u=>∃ t,u=Value.bytes b t
 | .flt b,u=>∃ t,u=Value.float b t
 | .ref a,u=>u=Value.ref a
 | .ty n,u=>u=Value.type n
abbrev aZ:List V -> List Value -> Prop:=Paired bu
theorem aZ.length {xs:List V} {us:List Value} (r:aZ xs us):xs.length=us.length:=Paired.length r
theorem aZ.get:∀ {xs:List V} {us:List Value} {i:Nat} {x:V},aZ xs us -> xs[i]?=some x -> ∃ u,us[i]?=some u /\ bu x u
 | _,_,_,_,.nil,e=>by simp at e
 | _,_,0,_,.cons r _,e=>by simp at e; subst e; exact ⟨_,rfl,r⟩
 | _,_,i + 1,x,.cons _ t,e=>by
  obtain ⟨u,h1,h2⟩:=aZ.get (i:=i) (x:=x) t (by simpa using e)
  exact ⟨u,by simpa using h1,h2⟩
theorem aZ.append:∀ {xs ys:List V} {us ws:List Value},aZ xs us -> aZ ys ws -> aZ (xs ++ ys) (us ++ ws)
 | _,_,_,_,.nil,s=>s
 | _,_,_,_,.cons r t,s=>.cons r (aZ.append t s)
theorem aZ.take:∀ {xs:List V} {us:List Value} (n:Nat),aZ xs us -> aZ (xs.take n) (us.take n)
 | _,_,0,_=>.nil
 | _,_,_ + 1,.nil=>.nil
 | _,_,n + 1,.cons r t=>.cons r (aZ.take n t)
theorem aZ.drop:∀ {xs:List V} {us:List Value} (n:Nat),aZ xs us -> aZ (xs.drop n) (us.drop n)
 | _,_,0,r=>r
 | _,_,_ + 1,.nil=>.nil
 | _,_,n + 1,.cons _ t=>aZ.drop n t
def RelO:Option V -> Option Value -> Prop
 | some v,some u=>bu v u
 | none,none=>True
 | _,_=>False
def KV {κ:Type}:List (κ × V) -> List (κ × Value) -> Prop:=Paired fun (p:κ × V) (q:κ × Value)=>p.1=q.1 /\ bu p.2 q.2
def kV:Key -> V
 | .inl i=>.int i
 | .inr x=>.str x
inductive HO where
 | lst (xs:List V)
 | tup (xs:List V)
 | dK (kvs:List (Key × V)) | dT (kvs:List (List Key × V))
 | set (S:Int -> Bool) (n:Nat)
 | ins (C dx:Addr) (fs:List (Str × V))
 | own (x:Addr)
 | xd (fs:List (Str × V))
 | met (f x:Addr)
 | rng (lo hi:Int)
 | frz (o:Obj) (u:HO)
 | tbl (ps:Array Value)
 | ext (φ:Heap -> Prop)
abbrev Hp:=Addr -> Option HO
def upd (H:Hp) (a:Addr) (o:HO):Hp:=fun b=>if b=a then some o else H b
theorem au {H:Hp} {a:Addr} {o:HO}:upd H a o a=some o:=by unfold upd; rw [if_pos rfl]
theorem aD {H:Hp} {a b:Addr} {o:HO} (h:b ≠ a):upd H a o b=H b:=by unfold upd; rw [if_neg h]
theorem iN {H:Hp} {a:Addr} {o u:HO}:upd (upd H a o) a u=upd H a u:=by
 funext b; unfold upd; split <;> rfl
theorem mG {H:Hp} {a b:Addr} {o u:HO} (h:H a=some o) (h':H b=some u) (d:o ≠ u):a ≠ b:=by
 intro e; subst e; rw [h] at h'; exact d (Option.some.inj h')
theorem aA {H:Hp} {a b:Addr} {o:HO} (h:H a=some o) (h':H b=none):a ≠ b:=by
 intro e; subst e; rw [h] at h'; cases h'
section
variable (P:Program) (w:World)
def bX (H:Hp) (h:Heap) (a:Addr):HO -> Prop
 | .lst xs=>xs.length <= sizeLine /\ ∃ (its:List Value) (n:Nat),aZ xs its /\ h.get? a=some { cls:=.type "list",data:=.seq its.toArray n }
 | .tup xs=>xs.length <= sizeLine /\ ∃ its:List Value,aZ xs its /\ IsTup h a its.toArray
 | .dK kvs=>kvs.length <= sizeLine /\ (a == sysModules)=false /\ ∃ vs,KV kvs vs /\ h.DictOf (kD P w) a vs
 | .dT kvs=>kvs.length <= sizeLine /\ (a == sysModules)=false /\ ∃ xs:List (List Key × Addr × Value),
   Paired (fun (p:List Key × V) (q:List Key × Addr × Value)=>p.1=q.1 /\ H q.2.1=some (.tup (p.1.map kV)) /\ bu p.2 q.2.2) kvs xs /\
   ∃ o es ep,h.get? a=some o /\ o.ExactDict /\ o.data=.dict es ep /\ es.toList=xs.map (entryOfKey (tupleKind (kD P w))) /\ (xs.map (·.1)).Nodup
 | .set S n=>h.SetOf (intKind P w) a S n
 | .ins C dx fs=>H dx=some (.own a) /\ fs.length <= 1000 /\ dx ≠ a /\ h.get? a=some (PySem.W.instObj C dx) /\
   ∃ mA,h.Ns1 dx mA /\ (∀ f,RelO (fs.lookup f) (mA f)) /\ PySem.Within mA (fs.map (·.1))
 | .own _=>∃ o,h.get? a=some o
 | .xd fs=>∃ mA,h.Ns1 a mA /\ ∀ f,RelO (fs.lookup f) (mA f)
 | .rng lo hi=>∃ t u v,h.get? a=some { cls:=.type "range",data:=.fields #[.int lo t,.int hi u,.int 1 v] }
 | .frz o u=>h.get? a=some o /\ bX H h a u
 | .tbl ps=>h.get? a=some { cls:=.none,data:=.fields ps }
 | .met f x=>h.get? a=some (PySem.W.methodObj (.ref f) (.ref x))
 | .ext φ=>φ h /\ (∃ o,h.get? a=some o) /\ ∀ h1 h2:Heap,φ h1 -> (∀ o,h1.get? a=some o -> h2.get? a=some o) -> φ h2
def HOk (H:Hp) (h:Heap):Prop:=∀ a o,H a=some o -> bX P w H h a o
end
section
variable {P:Program} {w:World} {H H':Hp} {h h':Heap} {a:Addr} {o:HO}
theorem bX.lt (x:bX P w H h a o):a < h.objs.size:=by
 cases o with
 | lst xs=>obtain ⟨_,_,_,_,e⟩:=x; exact Heap.lt_size e
 | tup xs=>obtain ⟨_,_,_,p⟩:=x; exact p.lt
 | dK kvs=>obtain ⟨_,_,_,_,o,_,_,e,_⟩:=x; exact Heap.lt_size e
 | dT kvs=>obtain ⟨_,_,_,_,o,_,_,e,_⟩:=x; exact Heap.lt_size e
 | set S n=>obtain ⟨o,_,_,_,e,_⟩:=x; exact Heap.lt_size e
 | ins C dx fs=>obtain ⟨_,_,_,e,_⟩:=x; exact Heap.lt_size e
 | own y=>obtain ⟨_,e⟩:=x; exact Heap.lt_size e
 | xd fs=>obtain ⟨_,⟨_,_,_,e,_⟩,_⟩:=x; exact Heap.lt_size e
 | rng lo hi=>obtain ⟨_,_,_,e⟩:=x; exact Heap.lt_size e
 | frz ob u=>obtain ⟨e,_⟩:=x; exact Heap.lt_size e
 | tbl ps=>exact Heap.lt_size (show h.get? a=some _ from x)
 | met f y=>exact Heap.lt_size (show h.get? a=some _ from x)
 | ext φ=>obtain ⟨_,⟨_,e⟩,_⟩:=x; exact Heap.lt_size e
theorem Paired.mapP {α β:Type} {F G:α -> β -> Prop}:∀ {l₁:List α} {l₂:List β},Paired F l₁ l₂ -> (∀ a b,F a b -> G a b) -> Paired G l₁ l₂
 | _,_,.nil,_=>.nil
 | _,_,.cons r t,f=>.cons (f _ _ r) (Paired.mapP t f)
theorem Paired.imp' {α β:Type} {F G:α -> β -> Prop} (f:∀ a b,F a b -> G a b) {l₁:List α} {l₂:List β} (r:Paired F l₁ l₂):Paired G l₁ l₂:=Paired.mapP r f
theorem bX.stay (x:bX P w H h a o) (k:∀ b u,(b=a \/ H b=some (.own a)) -> h.get? b=some u -> h'.get? b=some u)
  (ho:∀ b,H b=some (.own a) -> H' b=some (.own a)) (ht:∀ b xs,H b=some (.tup xs) -> H' b=some (.tup xs)):bX P w H' h' a o:=by
 induction o with
 | lst xs=>obtain ⟨z,its,n,r,e⟩:=x; exact ⟨z,its,n,r,k _ _ (.inl rfl) e⟩
 | tup xs=>obtain ⟨z,its,r,ob,e,c⟩:=x; exact ⟨z,its,r,ob,k _ _ (.inl rfl) e,c⟩
 | dK kvs=>obtain ⟨z,y,vs,r,ob,es,ep,e,c⟩:=x; exact ⟨z,y,vs,r,ob,es,ep,k _ _ (.inl rfl) e,c⟩
 | dT kvs =>
  obtain ⟨z,y,xs,r,ob,es,ep,e,c⟩:=x
  exact ⟨z,y,xs,Paired.mapP r fun p q z=>⟨z.1,ht _ _ z.2.1,z.2.2⟩,ob,es,ep,k _ _ (.inl rfl) e,c⟩
 | set S n=>obtain ⟨ob,es,ep,t,e,c⟩:=x; exact ⟨ob,es,ep,t,k _ _ (.inl rfl) e,c⟩
 | ins C dx fs =>
  obtain ⟨d,z,ne,e,mA,⟨od,es,ep,e2,c⟩,r⟩:=x
  exact ⟨ho _ d,z,ne,k _ _ (.inl rfl) e,mA,⟨od,es,ep,k _ _ (.inr d) e2,c⟩,r⟩
 | own y=>obtain ⟨ob,e⟩:=x; exact ⟨ob,k _ _ (.inl rfl) e⟩
 | xd fs=>obtain ⟨mA,⟨od,es,ep,e,c⟩,r⟩:=x; exact ⟨mA,⟨od,es,ep,k _ _ (.inl rfl) e,c⟩,r⟩
 | rng lo hi=>obtain ⟨t,u,v,e⟩:=x; exact ⟨t,u,v,k _ _ (.inl rfl) e⟩
 | frz ob u ih=>obtain ⟨e,q⟩:=x; exact ⟨k _ _ (.inl rfl) e,ih q⟩
 | tbl ps =>
  have e:h.get? a=some { cls:=.none,data:=.fields ps }:=x
  show h'.get? a=some { cls:=.none,data:=.fields ps }
  exact k a _ (.inl rfl) e
 | met f y =>
  have e:h.get? a=some (PySem.W.methodObj (.ref f) (.ref y)):=x
  show h'.get? a=some (PySem.W.methodObj (.ref f) (.ref y))
  exact k a _ (.inl rfl) e
 | ext φ=>obtain ⟨p,⟨o,e⟩,st⟩:=x; exact ⟨st _ _ p fun o q=>k _ _ (.inl rfl) q,⟨o,k _ _ (.inl rfl) e⟩,st⟩
theorem HOk.lt (x:HOk P w H h) (e:H a=some o):a < h.objs.size:=(x a o e).lt
theorem HOk.fresh (x:HOk P w H h) (e:h.objs.size <= a):H a=none:=by
 cases q:H a with
 | none=>rfl
 | some u=>exact absurd (Nat.lt_of_lt_of_le (x.lt q) e) (Nat.lt_irrefl _)
theorem HOk.kept (x:HOk P w H h) (k:∀ b u,h.get? b=some u -> h'.get? b=some u):HOk P w H h':=fun a o e =>
 (x a o e).stay (fun b u _ q=>k b u q) (fun _ q=>q) fun _ _ q=>q
theorem HOk.laid (x:HOk P w H h) (k:∀ b u,h.get? b=some u -> h'.get? b=some u) (hp:h.objs.size <= a) (new:bX P w (upd H a o) h' a o):HOk P w (upd H a o) h':=fun b u e=>by
 have hn:=x.fresh hp
 by_cases hb:b=a
 ·subst hb; rw [au] at e; cases e; exact new
 ·rw [aD hb] at e
  exact (x b u e).stay (fun c v _ q=>k c v q) (fun c q=>by rw [aD (aA q hn)]; exact q) fun c xs q=>by rw [aD (aA q hn)]; exact q
end
def Rd (H:Hp) (a:Addr) (u:HO):Prop:=H a=some u \/ ∃ o,H a=some (.frz o u)
theorem Rd.ok {P:Program} {w:World} {H:Hp} {h:Heap} {a:Addr} {u:HO} (r:Rd H a u) (x:HOk P w H h):bX P w H h a u:=by
 rcases r with r | ⟨o,r⟩
 ·exact x a u r
 ·obtain ⟨_,q⟩:=x a _ r
  exact q
def Mut:Option HO -> Prop
 | some (.lst _)=>True
 | some (.dK _)=>True
 | some (.dT _)=>True
 | some (.set _ _)=>True
 | some (.ins _ _ _)=>True
 | some (.ext _)=>True
 | _=>False
section
variable {P:Program} {w:World} {H:Hp} {h h':Heap} {x e:Addr} {o':HO}
theorem HOk.write (ok:HOk P w H h) (mu:Mut (H x)) (he:e=x \/ H e=some (.own x)) (k:∀ b u,b ≠ e -> h.get? b=some u -> h'.get? b=some u) (heo:∃ u,h'.get? e=some u)
  (new:bX P w (upd H x o') h' x o'):HOk P w (upd H x o') h':=fun b u q=>by
 have nown:∀ c y,H c=some (.own y) -> c ≠ x:=fun c y r z=>by subst z; rw [r] at mu; exact mu
 have ntup:∀ c xs,H c=some (.tup xs) -> c ≠ x:=fun c xs r z=>by subst z; rw [r] at mu; exact mu
 by_cases hb:b=x
 ·subst hb; rw [au] at q; cases q; exact new
 ·rw [aD hb] at q
  by_cases hbe:b=e
  ·have q':H b=some (.own x):=by
    rcases he with z | z
    ·exact absurd (hbe.trans z) hb
    ·rw [hbe]; exact z
   rw [q] at q'; cases q'
   obtain ⟨v,hv⟩:=heo
   exact ⟨v,by rw [hbe]; exact hv⟩
  ·refine (ok b u q).stay (fun c v hc r=>k c v ?_ r) (fun c r=>by rw [aD (nown c b r)]; exact r) fun c xs r=>by rw [aD (ntup c xs r)]; exact r
   rcases hc with rfl | hc
   ·exact hbe
   ·rintro rfl
    rcases he with z | z
    ·exact nown c b hc z
    ·rw [hc] at z; cases z; exact hb rfl
end
structure Un (fs ex:List Addr) (H H':Hp) (h h':Heap):Prop where
 keep:∀ b o,h.get? b=some o -> H b=none -> b ∉ fs -> b ∉ ex -> h'.get? b=some o
 slot:∀ b o,h.get? b=some o -> H b=none -> b ∈ fs -> b ∉ ex -> ∃ sl,h'.get? b=some { o with slots:=sl }
 free:∀ b o,h.get? b=some o -> H b=none -> b ∉ ex -> H' b=none
 there:∀ b o,h.get? b=some o -> b ∉ ex -> ∃ o',h'.get? b=some o'
 tups:∀ b xs,H b=some (.tup xs) -> H' b=some (.tup xs)
 frzs:∀ b o u,H b=some (.frz o u) -> H' b=some (.frz o u)
 tbls:∀ b ps,H b=some (.tbl ps) -> ∃ more,H' b=some (.tbl (ps ++ more))
section
variable {fs fs' ex ex':List Addr} {H H1 H2:Hp} {h h1 h2 h':Heap} {a x e:Addr} {o:HO}
theorem Un.any (u:Un fs ex H H1 h h1) {b:Addr} {ob:Obj} (q:h.get? b=some ob) (n:H b=none) (hx:b ∉ ex):∃ sl,h1.get? b=some { ob with slots:=sl }:=by
 by_cases hb:b ∈ fs
 ·exact u.slot b ob q n hb hx
 ·exact ⟨ob.slots,u.keep b ob q n hb hx⟩
theorem Un.trans (a:Un fs ex H H1 h h1) (b:Un fs ex H1 H2 h1 h2):Un fs ex H H2 h h2 where
 keep:=fun c ob q n hc hx=>b.keep c ob (a.keep c ob q n hc hx) (a.free c ob q n hx) hc hx
 slot:=fun c ob q n hc hx=>by
  obtain ⟨sl,e1⟩:=a.slot c ob q n hc hx
  obtain ⟨sl',e2⟩:=b.slot c _ e1 (a.free c ob q n hx) hc hx
  exact ⟨sl',e2⟩
 free:=fun c ob q n hx=>by
  obtain ⟨o',e1⟩:=a.there c ob q hx
  exact b.free c o' e1 (a.free c ob q n hx) hx
 there:=fun c ob q hx=>by
  obtain ⟨o',e1⟩:=a.there c ob q hx
  exact b.there c o' e1 hx
 tups:=fun c xs q=>b.tups c xs (a.tups c xs q)
 frzs:=fun c ob xs q=>b.frzs c ob xs (a.frzs c ob xs q)
 tbls:=fun c ps q=>by
  obtain ⟨m1,e1⟩:=a.tbls c ps q
  obtain ⟨m2,e2⟩:=b.tbls c _ e1
  exact ⟨m1 ++ m2,by rw [e2,Array.append_assoc]⟩
theorem Un.kept (k:∀ b u,h.get? b=some u -> h'.get? b=some u):Un fs ex H H h h' :=
 ⟨fun b ob q _ _ _=>k b ob q,fun b ob q _ _ _=>⟨ob.slots,k b ob q⟩,fun _ _ _ n _=>n,fun b ob q _=>⟨ob,k b ob q⟩,fun _ _ q=>q,fun _ _ _ q=>q,fun _ ps q=>⟨#[],by rw [q]; simp⟩⟩
theorem Un.refl:Un fs ex H H h h:=Un.kept fun _ _ q=>q
theorem Un.laid (k:∀ b u,h.get? b=some u -> h'.get? b=some u) (hp:h.objs.size <= a) (hn:H a=none):Un fs ex H (upd H a o) h h' where
 keep:=fun b u q _ _ _=>k b u q
 slot:=fun b u q _ _ _=>⟨u.slots,k b u q⟩
 free:=fun b u q n _=>by rw [aD (Nat.ne_of_lt (Nat.lt_of_lt_of_le (Heap.lt_size q) hp))]; exact n
 there:=fun b u q _=>⟨u,k b u q⟩
 tups:=fun b xs q=>by rw [aD (aA q hn)]; exact q
 frzs:=fun b u xs q=>by rw [aD (aA q hn)]; exact q
 tbls:=fun b ps q=>⟨#[],by rw [aD (aA q hn),q]; simp⟩
theorem Un.write (mu:Mut (H x)) (he:e=x \/ H e=some (.own x)) (k:∀ b u,b ≠ e -> h.get? b=some u -> h'.get? b=some u) (heo:∃ u,h'.get? e=some u):Un fs ex H (upd H x o) h h':=by
 have hx:∀ b,H b=none -> b ≠ x:=fun b n z=>by subst z; rw [n] at mu; exact mu
 have hb:∀ b,H b=none -> b ≠ e:=fun b n z=>by
  subst z
  rcases he with r | r
  ·exact hx b n r
  ·rw [n] at r; cases r
 have hm:∀ b u,H b=some u -> ¬ Mut (some u) -> b ≠ x:=fun b u q nm z=>by subst z; rw [q] at mu; exact nm mu
 refine ⟨fun b u q n _ _=>k b u (hb b n) q,fun b u q n _ _=>⟨u.slots,k b u (hb b n) q⟩,fun b u q n _=>by rw [aD (hx b n)]; exact n,fun b u q _=>?_,
  fun b xs q=>by rw [aD (hm b _ q fun z=>z)]; exact q,fun b u xs q=>by rw [aD (hm b _ q fun z=>z)]; exact q,fun b ps q=>⟨#[],by rw [aD (hm b _ q fun z=>z),q]; simp⟩⟩
 by_cases hbe:b=e
 ·subst hbe; exact heo
 ·exact ⟨u,k b u hbe q⟩
theorem Un.mono (u:Un fs ex H H1 h h1) (hs:∀ b ∈ fs,b ∈ fs') (hx:∀ b ∈ ex,b ∈ ex'):Un fs' ex' H H1 h h1 :=
 ⟨fun b ob q n hb he=>u.keep b ob q n (fun z=>hb (hs b z)) fun z=>he (hx b z),fun _ _ q n _ he=>u.any q n fun z=>he (hx _ z),fun b ob q n he=>u.free b ob q n fun z=>he (hx b z),fun b ob q he=>u.there b ob q fun z=>he (hx b z),u.tups,u.frzs,u.tbls⟩
end
def trk (h:Heap) (H:Hp):List Addr:=(List.range h.objs.size).filter fun a=>(H a).isSome
def iO (h:Heap) (H:Hp):Heap:=PySem.W.hideAll h (trk h H)
theorem lB (h:Heap) (H:Hp):(iO h H).objs.size=h.objs.size:=PySem.W.hideAll_size _ _
theorem mH {h:Heap} {H:Hp} {b:Addr} {o:Obj} (e:h.get? b=some o) (n:H b=none):(iO h H).get? b=some o :=
 PySem.W.hideAll_get _ e fun hm=>by
  have q:(H b).isSome=true:=(List.mem_filter.mp hm).2
  rw [n] at q; simp at q
theorem of_hidT {h:Heap} {H:Hp} {b:Addr} {o:Obj} (e:(iO h H).get? b=some o):h.get? b=some o /\ H b=none:=by
 have e':h.get? b=some o:=PySem.W.of_hideAll (trk h H) e
 refine ⟨e',?_⟩
 cases q:H b with
 | none=>rfl
 | some x =>
  have hm:b ∈ trk h H:=List.mem_filter.mpr ⟨List.mem_range.mpr (Heap.lt_size e'),by simp [q]⟩
  have z:(iO h H).get? b=none:=PySem.W.hideAll_none (trk h H) hm
  rw [z] at e; cases e
structure Mod (K:PySem.W.Frag) (mg:Str -> Option Value) (base:Heap):Prop where
 kin:K.In base
 glob:base.Ns mainGlobals mg
 blt:∃ mb,base.Ns builtinsNs mb /\ ∀ x:Str,x ≠ "__name__" -> mb x=bootBuiltins x
 nolimit:base.NoLimit
structure Cx where
 prog:Program
 w:World
 K:PySem.W.Frag
 mg:Str -> Option Value
 base:Heap
 A:Around
 N:List Str
 s₀:Shared
 H₀:Hp
 env:Env
 outer:List Env
 stack:List Env
 ex:List Addr
 fn:Str -> Bool
 calm:Bool
 pn:List (Addr × Obj)
 xe:Value -> Shared -> Prop
def frs (l:List Env):List Addr:=l.filterMap (·.frame)
abbrev Cx.fs (X:Cx):List Addr:=frs X.outer
def Vis (sc:Scope) (x:Str):Prop:=sc.names.lookup x=some .local \/ sc.names.lookup x=some .cell \/ sc.names.lookup x=some .free
def Loc (sc:Scope) (x:Str):Prop:=sc.names.lookup x=some .local \/ sc.names.lookup x=some .cell
def Look (env:Env) (h:Heap) (m:Str -> Option Value) (x:Str) (u:Value):Prop :=
 (env.kindOf x=some .local /\ m x=some u) \/ ((env.kindOf x=some .cell \/ env.kindOf x=some .free) /\ ∃ c,env.cells.lookup x=some c /\ h.IsCell c (some u))
structure Cx.Ok (X:Cx):Prop where
 mod:Mod X.K X.mg X.base
 kind:X.env.scope.kind=.function
 glob:X.env.globals=mainGlobals
 blt:X.env.builtins=builtinsNs
 above:X.s₀.heap.objs.size <= X.env.locals
 inj:∀ x y c,X.env.cells.lookup x=some c -> X.env.cells.lookup y=some c -> x=y
 has:∀ x,(X.env.kindOf x=some .cell \/ X.env.kindOf x=some .free) -> ∃ c,X.env.cells.lookup x=some c
 cab:∀ x c,X.fn x=true -> X.env.cells.lookup x=some c -> X.s₀.heap.objs.size <= c
 hd:X.calm=true -> X.A.handled=none
 frames:X.A.frames=some X.stack
 stk:X.stack=X.outer \/ (X.stack=X.env :: X.outer /\ X.env.frame=some X.env.locals)
 exf:∀ b ∈ X.ex,b ≠ X.env.locals /\ ∀ x c,X.env.cells.lookup x=some c -> c ≠ b
 bs:∀ b o,X.base.get? b=some o -> X.s₀.heap.get? b=some o /\ X.H₀ b=none
 bsz:X.base.objs.size <= X.s₀.heap.objs.size
 noex:∀ b o,X.base.get? b=some o -> b ∉ X.ex
 exfs:∀ b ∈ X.ex,b ∉ X.fs
 funs:X.s₀.heap.FunFrames X.base X.outer
 frf:∀ b ∈ X.fs,X.H₀ b=none
structure Inv (X:Cx) (pins:List (Addr × Obj)) (σ:List (Option V)) (H:Hp) (s:Shared):Prop where
 ok:X.Ok
 os:s.os=X.s₀.os
 bare:AllBare s.gens
 base:Un X.fs X.ex X.H₀ H X.s₀.heap s.heap
 loc:∃ m,s.heap.Ns X.env.locals m /\ ∀ (i:Nat) (x:Str) (v:V),X.N[i]?=some x -> σ[i]?=some (some v) -> Vis X.env.scope x -> ∃ u,bu v u /\ Look X.env s.heap m x u
 cell:∀ x c,X.env.cells.lookup x=some c -> ∃ v,s.heap.IsCell c v
 free:H X.env.locals=none
 freeC:∀ x c,X.env.cells.lookup x=some c -> H c=none
 pin:∀ p ∈ X.pn ++ pins,s.heap.get? p.1=some p.2 /\ H p.1=none /\ p.1 ≠ X.env.locals /\ p.1 ∉ X.fs /\ ∀ v,p.2.data ≠ .cell v
 hok:HOk X.prog X.w H s.heap
 len:σ.length=X.N.length
section
variable {X:Cx} {pins:List (Addr × Obj)} {σ:List (Option V)} {H H':Hp} {s:Shared} {h':Heap}
theorem Cx.Ok.nofr (ok:X.Ok) {b:Addr} {o:Obj} (e:X.base.get? b=some o):b ∉ X.fs:=fun hb=>by
 have:=(ok.funs.mem hb).1
 rw [e] at this; cases this
theorem Inv.bs (I:Inv X pins σ H s):∀ b o,X.base.get? b=some o -> s.heap.get? b=some o /\ H b=none:=fun b o e =>
 ⟨I.base.keep b o (I.ok.bs b o e).1 (I.ok.bs b o e).2 (I.ok.nofr e) (I.ok.noex b o e),I.base.free b o (I.ok.bs b o e).1 (I.ok.bs b o e).2 (I.ok.noex b o e)⟩
theorem Inv.bk (I:Inv X pins σ H s):∀ b o,X.base.get? b=some o -> s.heap.get? b=some o:=fun b o e=>(I.bs b o e).1
theorem Inv.mod (I:Inv X pins σ H s):Mod X.K X.mg X.base:=I.ok.mod
theorem Inv.kIn (I:Inv X pins σ H s):X.K.In s.heap:=I.ok.mod.kin.keeps I.bk
theorem Inv.fr (I:Inv X pins σ H s):∃ m,Fr X.base X.env.locals s.heap m :=
 let ⟨m,hn,_⟩:=I.loc
 ⟨m,hn,I.bk,Nat.le_trans I.ok.bsz I.ok.above⟩
theorem Inv.lt (I:Inv X pins σ H s):X.env.locals < s.heap.objs.size:=let ⟨_,hn,_⟩:=I.loc; hn.lt
theorem Inv.sz (I:Inv X pins σ H s):X.s₀.heap.objs.size <= s.heap.objs.size:=Nat.le_trans I.ok.above (Nat.le_of_lt I.lt)
theorem Inv.nofs (I:Inv X pins σ H s) {a:Addr} (h:s.heap.objs.size <= a):a ∉ X.fs:=fun hb=>by
 obtain ⟨_,o,ho,_⟩:=I.ok.funs.mem hb
 exact absurd (Nat.lt_of_lt_of_le (Heap.lt_size ho) (Nat.le_trans I.sz h)) (Nat.lt_irrefl _)
theorem Inv.cne (I:Inv X pins σ H s):∀ x c,X.env.cells.lookup x=some c -> c ≠ X.env.locals:=fun x c e z=>by
 obtain ⟨v,o,ho,hd⟩:=I.cell x c e
 obtain ⟨m,⟨o',es,ep,ho',hd',_⟩,_⟩:=I.loc
 rw [z,ho'] at ho; cases ho; rw [hd'] at hd; cases hd
theorem Inv.funs (I:Inv X pins σ H s):s.heap.FunFrames X.base X.outer:=by
 have all:∀ (l:List Env),(∀ b ∈ frs l,b ∈ X.fs) -> X.s₀.heap.FunFrames X.base l -> s.heap.FunFrames X.base l:=by
  intro l
  induction l with
  | nil=>intro _ _; trivial
  | cons env r ih =>
   intro hs hl
   obtain ⟨hk,⟨L,o,hf,hn,ho,hd⟩,hr⟩:=hl
   have hL:L ∈ X.fs:=hs L (by unfold frs; rw [List.filterMap_cons,hf]; exact List.mem_cons_self)
   obtain ⟨sl,e⟩:=I.base.slot L o ho (I.ok.frf L hL) hL fun z=>I.ok.exfs L z hL
   exact ⟨hk,⟨L,_,hf,hn,e,hd⟩,ih (fun b hb=>hs b (by unfold frs; rw [List.filterMap_cons,hf]; exact List.mem_cons_of_mem _ hb)) hr⟩
 exact all X.outer (fun _ hb=>hb) I.ok.funs
theorem Inv.stack (I:Inv X pins σ H s):s.heap.FunFrames X.base X.stack:=by
 rcases I.ok.stk with e | ⟨e,hf⟩
 ·rw [e]; exact I.funs
 ·rw [e]
  obtain ⟨m,hn,_⟩:=I.loc
  refine .cons (by rw [I.ok.kind]; decide) hf hn ?_ I.funs
  exact Heap.get?_none_of_le (Nat.le_trans I.ok.bsz I.ok.above)
theorem Inv.stkSub (I:Inv X pins σ H s):∀ b ∈ frs X.stack,b ∈ X.env.locals :: X.fs:=fun b hb=>by
 rcases I.ok.stk with e | ⟨e,hf⟩
 ·rw [e] at hb; exact List.mem_cons_of_mem _ hb
 ·rw [e] at hb
  unfold frs at hb
  rw [List.filterMap_cons,hf] at hb
  exact hb
theorem Inv.stkFree (I:Inv X pins σ H s):∀ b ∈ frs X.stack,H b=none:=fun b hb=>by
 rcases List.mem_cons.mp (I.stkSub b hb) with e | hb
 ·rw [e]; exact I.free
 ·obtain ⟨_,o,ho,_⟩:=I.ok.funs.mem hb
  exact I.base.free b o ho (I.ok.frf b hb) fun z=>I.ok.exfs b z hb
theorem Inv.step {g':Array GenState} {t':Nat} {d':Drawn} {ch:List Addr} (I:Inv X pins σ H s)
  (hch:∀ b ∈ ch,(b ∈ X.ex \/ X.s₀.heap.objs.size <= b) /\ b ≠ X.env.locals /\ (∀ x c,X.env.cells.lookup x=some c -> c ≠ b) /\ ∀ p ∈ X.pn ++ pins,p.1 ≠ b)
  (keep:∀ b o,b ≠ X.env.locals -> b ∉ X.fs -> b ∉ ch -> s.heap.get? b=some o -> H b=none -> h'.get? b=some o)
  (slot:∀ b o,b ≠ X.env.locals -> b ∈ X.fs -> b ∉ ch -> s.heap.get? b=some o -> H b=none -> ∃ sl,h'.get? b=some { o with slots:=sl }) (free:∀ b o,b ∉ ch -> s.heap.get? b=some o -> H b=none -> H' b=none)
  (there:∀ b o,b ∉ ch -> s.heap.get? b=some o -> ∃ o',h'.get? b=some o')
  (tups:∀ b xs,H b=some (.tup xs) -> H' b=some (.tup xs)) (frzs:∀ b o u,H b=some (.frz o u) -> H' b=some (.frz o u)) (tbls:∀ b ps,H b=some (.tbl ps) -> ∃ more,H' b=some (.tbl (ps ++ more)))
  (ns:∀ m,s.heap.Ns X.env.locals m -> h'.Ns X.env.locals m) (hok:HOk X.prog X.w H' h') (hg:AllBare g') :
  Inv X pins σ H' { s with heap:=h',gens:=g',drawn:=d',toks:=t' }:=by
 have neL:∀ b o,X.s₀.heap.get? b=some o -> b ≠ X.env.locals:=fun b o e=>Nat.ne_of_lt (Nat.lt_of_lt_of_le (Heap.lt_size e) I.ok.above)
 have neC:∀ b o,X.s₀.heap.get? b=some o -> b ∉ X.ex -> b ∉ ch:=fun b o e hx hb=>by
  rcases (hch b hb).1 with z | z
  ·exact hx z
  ·exact absurd (Nat.lt_of_lt_of_le (Heap.lt_size e) z) (Nat.lt_irrefl _)
 have cellK:∀ x c,X.env.cells.lookup x=some c -> ∀ v,s.heap.IsCell c v -> h'.IsCell c v:=fun x c e v ⟨o,ho,hd⟩=>by
  have nch:c ∉ ch:=fun z=>(hch c z).2.2.1 x c e rfl
  by_cases hc:c ∈ X.fs
  ·obtain ⟨sl,q⟩:=slot c o (I.cne x c e) hc nch ho (I.freeC x c e)
   exact ⟨_,q,hd⟩
  ·exact ⟨o,keep c o (I.cne x c e) hc nch ho (I.freeC x c e),hd⟩
 refine ⟨I.ok,I.os,hg,⟨fun b o e n hb hx=>?_,fun b o e n hb hx=>?_,fun b o e n hx=>?_,fun b o e hx=>?_,fun b xs e=>tups b xs (I.base.tups b xs e),fun b o xs e=>frzs b o xs (I.base.frzs b o xs e),fun b ps e=>?_⟩,?_,fun x c e=>?_,?_,fun x c e=>?_,fun p hp=>?_,hok,I.len⟩
 ·exact keep b o (neL b o e) hb (neC b o e hx) (I.base.keep b o e n hb hx) (I.base.free b o e n hx)
 ·obtain ⟨sl,e1⟩:=I.base.slot b o e n hb hx
  obtain ⟨sl',e2⟩:=slot b _ (neL b o e) hb (neC b o e hx) e1 (I.base.free b o e n hx)
  exact ⟨sl',e2⟩
 ·obtain ⟨o',e1⟩:=I.base.there b o e hx
  exact free b o' (neC b o e hx) e1 (I.base.free b o e n hx)
 ·obtain ⟨o',e1⟩:=I.base.there b o e hx
  exact there b o' (neC b o e hx) e1
 ·obtain ⟨m1,e1⟩:=I.base.tbls b ps e
  obtain ⟨m2,e2⟩:=tbls b _ e1
  exact ⟨m1 ++ m2,by rw [e2,Array.append_assoc]⟩
 ·obtain ⟨m,hn,hl⟩:=I.loc
  refine ⟨m,ns m hn,fun i x v e1 e2 e3=>?_⟩
  obtain ⟨u,r,l⟩:=hl i x v e1 e2 e3
  refine ⟨u,r,?_⟩
  rcases l with l | ⟨k,c,e,z⟩
  ·exact .inl l
  ·exact .inr ⟨k,c,e,cellK x c e _ z⟩
 ·obtain ⟨v,z⟩:=I.cell x c e
  exact ⟨v,cellK x c e v z⟩
 ·obtain ⟨m,⟨o,_,_,ho,_⟩,_⟩:=I.loc
  exact free _ o (fun z=>(hch _ z).2.1 rfl) ho I.free
 ·obtain ⟨v,o,ho,hd⟩:=I.cell x c e
  exact free c o (fun z=>(hch c z).2.2.1 x c e rfl) ho (I.freeC x c e)
 ·obtain ⟨e,n,ne,nf,d⟩:=I.pin p hp
  have nch:p.1 ∉ ch:=fun z=>(hch p.1 z).2.2.2 p hp rfl
  exact ⟨keep p.1 p.2 ne nf nch e n,free p.1 p.2 nch e n,ne,nf,d⟩
theorem Inv.un {t':Nat} (I:Inv X pins σ H s) (u:Un X.fs [] H H' s.heap h') (hok:HOk X.prog X.w H' h'):Inv X pins σ H' { s with heap:=h',toks:=t' }:=by
 obtain ⟨m,⟨o,es,ep,ho,r⟩,_⟩:=id I.loc
 obtain ⟨sl,hL⟩:=u.any ho I.free (by simp)
 exact I.step (g':=s.gens) (d':=s.drawn) (ch:=[]) (fun _ z=>nomatch z) (fun b o _ hb _ e n=>u.keep b o e n hb (by simp)) (fun b o _ hb _ e n=>u.slot b o e n hb (by simp)) (fun b o _ e n=>u.free b o e n (by simp)) (fun b o _ e=>u.there b o e (by simp)) u.tups u.frzs u.tbls (fun m' hm=>by
  obtain ⟨o',es',ep',ho',r'⟩:=hm
  rw [ho] at ho'; cases ho'
  exact ⟨_,es',ep',hL,r'⟩) hok I.bare
theorem Inv.call {g':Array GenState} {t':Nat} {d':Drawn} {ch:List Addr} (I:Inv X pins σ H s) (u:Un (frs X.stack) ch H H' s.heap h') (hok:HOk X.prog X.w H' h') (hg:AllBare g')
  (hch:∀ b ∈ ch,(b ∈ X.ex \/ X.s₀.heap.objs.size <= b) /\ b ≠ X.env.locals /\ (∀ x c,X.env.cells.lookup x=some c -> c ≠ b) /\ ∀ p ∈ X.pn ++ pins,p.1 ≠ b) :
  Inv X pins σ H' { s with heap:=h',gens:=g',drawn:=d',toks:=t' }:=by
 obtain ⟨m,⟨o,es,ep,ho,r⟩,_⟩:=id I.loc
 obtain ⟨sl,hL⟩:=u.any ho I.free fun z=>(hch _ z).2.1 rfl
 exact I.step (ch:=ch) hch (fun b o hL hb hc e n=>u.keep b o e n (fun z=>(List.mem_cons.mp (I.stkSub b z)).elim hL hb) hc) (fun b o _ _ hc e n=>u.any e n hc) (fun b o hc e n=>u.free b o e n hc) (fun b o hc e=>u.there b o e hc) u.tups u.frzs u.tbls (fun m' hm=>by
  obtain ⟨o',es',ep',ho',r'⟩:=hm
  rw [ho] at ho'; cases ho'
  exact ⟨_,es',ep',hL,r'⟩) hok hg
theorem Inv.turned {t':Nat} {it:Addr} (I:Inv X pins σ H s) (k:∀ b o,b ≠ it -> s.heap.get? b=some o -> h'.get? b=some o) (hn:H it=none) (hL:it ≠ X.env.locals)
  (h1:it ∈ X.ex \/ X.s₀.heap.objs.size <= it) (h2:∀ x c,X.env.cells.lookup x=some c -> c ≠ it) (h3:∀ p ∈ X.pn ++ pins,p.1 ≠ it):Inv X pins σ H { s with heap:=h',toks:=t' }:=by
 have nit:∀ b u,H b=some u -> b ≠ it:=fun b u e z=>by rw [z,hn] at e; cases e
 refine I.step (g':=s.gens) (d':=s.drawn) (ch:=[it]) (fun b hb=>?_) (fun b o _ _ hc e _=>k b o (fun z=>hc (by simp [z])) e) (fun b o _ _ hc e _=>⟨o.slots,k b o (fun z=>hc (by simp [z])) e⟩) (fun _ _ _ _ n=>n)
  (fun b o hc e=>⟨o,k b o (fun z=>hc (by simp [z])) e⟩) (fun _ _ e=>e) (fun _ _ _ e=>e) (fun b ps e=>⟨#[],by rw [e]; simp⟩) (fun m hm=>?_) (fun b u e=>?_) I.bare
 ·have e:b=it:=by simpa using hb
  subst e
  exact ⟨h1,hL,h2,h3⟩
 ·obtain ⟨o,es,ep,ho,r⟩:=hm
  exact ⟨o,es,ep,k _ o (Ne.symm hL) ho,r⟩
 ·refine (I.hok b u e).stay (fun c v hc q=>k c v ?_ q) (fun _ q=>q) fun _ _ q=>q
  rcases hc with z | z
  ·rw [z]; exact nit b u e
  ·exact nit c _ z
theorem Inv.tok (I:Inv X pins σ H s) (t:Nat):Inv X pins σ H { s with toks:=t }:=I.un (h':=s.heap) (t':=t) Un.refl I.hok
theorem Inv.kept {t':Nat} (I:Inv X pins σ H s) (k:∀ b u,s.heap.get? b=some u -> h'.get? b=some u):Inv X pins σ H { s with heap:=h',toks:=t' }:=I.un (Un.kept k) (I.hok.kept k)
theorem Inv.laid {a:Addr} {o:HO} {t':Nat} (I:Inv X pins σ H s) (k:∀ b u,s.heap.get? b=some u -> h'.get? b=some u) (hp:s.heap.objs.size <= a) (new:bX X.prog X.w (upd H a o) h' a o) :
  Inv X pins σ (upd H a o) { s with heap:=h',toks:=t' }:=I.un (Un.laid k hp (I.hok.fresh hp)) (I.hok.laid k hp new)
theorem Inv.write {x e:Addr} {o:HO} {t':Nat} (I:Inv X pins σ H s) (mu:Mut (H x)) (he:e=x \/ H e=some (.own x)) (k:∀ b u,b ≠ e -> s.heap.get? b=some u -> h'.get? b=some u) (heo:∃ u,h'.get? e=some u)
  (new:bX X.prog X.w (upd H x o) h' x o):Inv X pins σ (upd H x o) { s with heap:=h',toks:=t' }:=I.un (Un.write mu he k heo) (I.hok.write mu he k heo new)
theorem Inv.weak {σ':List (Option V)} (I:Inv X pins σ H s) (hl:σ'.length=σ.length) (w:∀ (i:Nat) v,σ'[i]?=some (some v) -> σ[i]?=some (some v)):Inv X pins σ' H s :=
 ⟨I.ok,I.os,I.bare,I.base,let ⟨m,hn,hl'⟩:=I.loc; ⟨m,hn,fun i x v e1 e2 e3=>hl' i x v e1 (w i v e2) e3⟩,I.cell,I.free,I.freeC,I.pin,I.hok,hl.trans I.len⟩
theorem Inv.pins_of {pins':List (Addr × Obj)} (I:Inv X pins σ H s) (h:∀ p ∈ pins',s.heap.get? p.1=some p.2 /\ H p.1=none /\ p.1 ≠ X.env.locals /\ p.1 ∉ X.fs /\ ∀ v,p.2.data ≠ .cell v):Inv X pins' σ H s :=
 ⟨I.ok,I.os,I.bare,I.base,I.loc,I.cell,I.free,I.freeC,fun p hp=>(List.mem_append.mp hp).elim (fun z=>I.pin p (List.mem_append_left _ z)) (h p),I.hok,I.len⟩
theorem cB {N:List Str} (hN:N.Nodup) {i j:Nat} {x:Str} (a:N[i]?=some x) (b:N[j]?=some x):i=j:=by
 obtain ⟨h1,e1⟩:=List.getElem?_eq_some_iff.mp a
 obtain ⟨h2,e2⟩:=List.getElem?_eq_some_iff.mp b
 exact (List.getElem_inj hN).mp (e1.trans e2.symm)
theorem ik {M:Model} {A:Around} {E:Value -> Shared -> Prop} {i:Nat} {x:Str} {v:V} {u:Value} {Q:Unit -> Shared -> Prop} (I:Inv X pins σ H s) (hN:X.N.Nodup) (hi:X.N[i]?=some x) (hx:Loc X.env.scope x) (r:bu v u)
  (h:∀ s',Inv X pins (σ.set i (some v)) H s' -> (∃ a,Heap.SameBut a s.heap s'.heap /\ (a=X.env.locals \/ X.env.cells.lookup x=some a)) -> Q () s') (hf:X.fn x=true \/ X.env.scope.names.lookup x=some .local:=by first | exact .inl rfl | exact .inr rfl | assumption):wpAny M A (storeName X.env x u) Q E s:=by
 obtain ⟨m,hn,hl⟩:=id I.loc
 have hcls:(X.env.scope.kind == .class || (X.env.scope.kind == .module && X.env.locals != X.env.globals))=false:=by rw [I.ok.kind]; rfl
 have hiσ:i < σ.length:=by rw [I.len]; exact (List.getElem?_eq_some_iff.mp hi).1
 have cne:=I.cne
 have tracked:∀ {a:Addr} {h':Heap},(∃ o,s.heap.get? a=some o /\ H a=none) -> Heap.SameBut a s.heap h' -> HOk X.prog X.w H h':=fun {a h'} ha hs b ob e=>by
  obtain ⟨_,_,hfree⟩:=ha
  refine (I.hok b ob e).stay (fun c w' hc q=>(hs.2 c ?_).trans q) (fun _ q=>q) fun _ _ q=>q
  rintro rfl
  rcases hc with rfl | hc
  ·rw [hfree] at e; cases e
  ·rw [hfree] at hc; cases hc
 rcases hx with hk | hk
 ·refine wpAny_storeName_local hk hn (fun h' hn' hs=>?_) hcls
  obtain ⟨oL,_,_,hoL,_⟩:=id hn
  refine h _ ⟨I.ok,I.os,I.bare,⟨fun b o e n hb hx=>?_,fun b o e n hb hx=>?_,I.base.free,fun b o e hx=>?_,I.base.tups,I.base.frzs,I.base.tbls⟩,⟨_,hn',fun j y v' e1 e2 e3=>?_⟩,fun y c e=>?_,I.free,I.freeC,fun p hp=>?_,tracked ⟨oL,hoL,I.free⟩ hs,by simpa using I.len⟩ ⟨_,hs,.inl rfl⟩
  ·exact (hs.2 b (Nat.ne_of_lt (Nat.lt_of_lt_of_le (Heap.lt_size e) I.ok.above))).trans (I.base.keep b o e n hb hx)
  ·obtain ⟨sl,e1⟩:=I.base.slot b o e n hb hx
   exact ⟨sl,(hs.2 b (Nat.ne_of_lt (Nat.lt_of_lt_of_le (Heap.lt_size e) I.ok.above))).trans e1⟩
  ·obtain ⟨o',e1⟩:=I.base.there b o e hx
   exact ⟨o',(hs.2 b (Nat.ne_of_lt (Nat.lt_of_lt_of_le (Heap.lt_size e) I.ok.above))).trans e1⟩
  ·by_cases hj:j=i
   ·subst hj
    rw [hi] at e1; cases e1
    rw [List.getElem?_set_self hiσ] at e2
    cases e2
    exact ⟨u,r,.inl ⟨hk,by simp⟩⟩
   ·rw [List.getElem?_set_ne (Ne.symm hj)] at e2
    obtain ⟨u',r',q⟩:=hl j y v' e1 e2 e3
    refine ⟨u',r',?_⟩
    rcases q with ⟨k,e⟩ | ⟨k,c,e,z⟩
    ·refine .inl ⟨k,?_⟩
     have:y ≠ x:=fun e=>hj (cB hN e1 (e ▸ hi))
     simp [this,e]
    ·exact .inr ⟨k,c,e,z.sameBut hs (cne y c e)⟩
  ·obtain ⟨w',z⟩:=I.cell y c e
   exact ⟨w',z.sameBut hs (cne y c e)⟩
  ·obtain ⟨e,n,ne,nf,d⟩:=I.pin p hp
   exact ⟨(hs.2 p.1 ne).trans e,n,ne,nf,d⟩
 ·have hfn:X.fn x=true:=by
   rcases hf with z | z
   ·exact z
   ·rw [z] at hk; cases hk
  obtain ⟨c,hc⟩:=I.ok.has x (.inl hk)
  obtain ⟨w',z⟩:=I.cell x c hc
  refine wpAny_storeName_cell I.ok.kind hk hc z (fun h' hc' hs=>?_)
  obtain ⟨oc,hoc,hocd⟩:=id z
  refine h { s with heap:=h' } ⟨I.ok,I.os,I.bare,⟨fun b o e n hb hx=>?_,fun b o e n hb hx=>?_,I.base.free,fun b o e hx=>?_,I.base.tups,I.base.frzs,I.base.tbls⟩,⟨m,hn.sameBut hs (Ne.symm (cne x c hc)),fun j y v' e1 e2 e3=>?_⟩,fun y c' e=>?_,I.free,I.freeC,fun p hp=>?_,tracked ⟨oc,hoc,I.freeC x c hc⟩ hs,by simpa using I.len⟩ ⟨c,hs,.inr hc⟩
  ·exact (hs.2 b (Nat.ne_of_lt (Nat.lt_of_lt_of_le (Heap.lt_size e) (I.ok.cab x c hfn hc)))).trans (I.base.keep b o e n hb hx)
  ·obtain ⟨sl,e1⟩:=I.base.slot b o e n hb hx
   exact ⟨sl,(hs.2 b (Nat.ne_of_lt (Nat.lt_of_lt_of_le (Heap.lt_size e) (I.ok.cab x c hfn hc)))).trans e1⟩
  ·obtain ⟨o',e1⟩:=I.base.there b o e hx
   exact ⟨o',(hs.2 b (Nat.ne_of_lt (Nat.lt_of_lt_of_le (Heap.lt_size e) (I.ok.cab x c hfn hc)))).trans e1⟩
  ·by_cases hj:j=i
   ·subst hj
    rw [hi] at e1; cases e1
    rw [List.getElem?_set_self hiσ] at e2
    cases e2
    exact ⟨u,r,.inr ⟨.inl hk,c,hc,hc'⟩⟩
   ·rw [List.getElem?_set_ne (Ne.symm hj)] at e2
    obtain ⟨u',r',q⟩:=hl j y v' e1 e2 e3
    refine ⟨u',r',?_⟩
    rcases q with q | ⟨k,c',e,z'⟩
    ·exact .inl q
    ·refine .inr ⟨k,c',e,z'.sameBut hs ?_⟩
     rintro rfl
     exact hj (cB hN e1 (I.ok.inj _ _ _ e hc ▸ hi))
  ·by_cases hcc:c'=c
   ·subst hcc; exact ⟨_,hc'⟩
   ·obtain ⟨w2,z2⟩:=I.cell y c' e
    exact ⟨w2,z2.sameBut hs hcc⟩
  ·obtain ⟨e,n,ne,nf,d⟩:=I.pin p hp
   refine ⟨(hs.2 p.1 ?_).trans e,n,ne,nf,d⟩
   intro q
   rw [q,hoc] at e
   have q':oc=p.2:=Option.some.inj e
   exact d w' (by rw [<- q']; exact hocd)
theorem gt {M:Model} {A:Around} {E:Value -> Shared -> Prop} {i:Nat} {x:Str} {v:V} {u:Value} {Q:Unit -> Shared -> Prop} (I:Inv X pins σ H s) (hN:X.N.Nodup) (hi:X.N[i]?=some x) (hx:Loc X.env.scope x) (r:bu v u)
  (h:∀ s',Inv X pins (σ.set i (some v)) H s' -> Q () s') (hf:X.fn x=true \/ X.env.scope.names.lookup x=some .local:=by first | exact .inl rfl | exact .inr rfl | assumption):wpAny M A (storeName X.env x u) Q E s :=
 ik I hN hi hx r (fun s' I' _=>h s' I') hf
theorem Inv.call' {s':Shared} {ch:List Addr} (I:Inv X pins σ H s) (ho:s'.os=s.os) (u:Un (frs X.stack) ch H H' s.heap s'.heap) (hok:HOk X.prog X.w H' s'.heap) (hg:AllBare s'.gens)
  (hch:∀ b ∈ ch,(b ∈ X.ex \/ X.s₀.heap.objs.size <= b) /\ b ≠ X.env.locals /\ (∀ x c,X.env.cells.lookup x=some c -> c ≠ b) /\ ∀ p ∈ X.pn ++ pins,p.1 ≠ b):Inv X pins σ H' s':=by
 obtain ⟨h',g',d',t',o'⟩:=s'
 have e:o'=s.os:=ho
 subst e
 exact I.call (g':=g') (t':=t') (d':=d') u hok hg hch
end
abbrev XK:=Value -> Option Addr -> Hp -> Prop
abbrev St:=List (Option V)
abbrev VK:=V -> Hp -> Prop
abbrev TE:=St -> Hp -> VK -> Prop
abbrev TT:=St -> Hp -> (Bool -> Hp -> Prop) -> Prop
abbrev TA:=St -> Hp -> (List V -> Hp -> Prop) -> Prop
structure eC where
 nx:St -> Hp -> Prop
 rt:VK
 bk:St -> Hp -> Prop:=fun _ _=>False
 ct:St -> Hp -> Prop:=fun _ _=>False
abbrev TS:=eC -> St -> Hp -> Prop
def EP (X:Cx) (pins:List (Addr × Obj)) (σ:St) (Q:VK) (u:Value) (s':Shared):Prop:=∃ v H',Inv X pins σ H' s' /\ bu v u /\ Q v H'
def TP (X:Cx) (pins:List (Addr × Obj)) (σ:St) (Q:Bool -> Hp -> Prop) (b:Bool) (s':Shared):Prop:=∃ H',Inv X pins σ H' s' /\ Q b H'
def AP (X:Cx) (pins:List (Addr × Obj)) (σ:St) (Q:List V -> Hp -> Prop) (us:List Value) (s':Shared):Prop:=∃ vs H',Inv X pins σ H' s' /\ aZ vs us /\ Q vs H'
def SP (X:Cx) (pins:List (Addr × Obj)) (D:eC) (f:Flow) (s':Shared):Prop :=
 match f with
 | .next=>∃ σ' H',Inv X pins σ' H' s' /\ D.nx σ' H'
 | .brk=>∃ σ' H',Inv X pins σ' H' s' /\ D.bk σ' H'
 | .cont=>∃ σ' H',Inv X pins σ' H' s' /\ D.ct σ' H'
 | .ret u=>∃ v σ' H',Inv X pins σ' H' s' /\ bu v u /\ D.rt v H'
def PE (X:Cx) (e:Expr) (t:TE):Prop :=
 ∀ (pins:List (Addr × Obj)) (s:Shared) (σ:St) (H:Hp) (Q:VK),Inv X pins σ H s -> t σ H Q -> wpAny (model X.prog X.w) X.A (eval e X.env) (EP X pins σ Q) X.xe s
def PT (X:Cx) (e:Expr) (t:TT):Prop :=
 ∀ (pins:List (Addr × Obj)) (s:Shared) (σ:St) (H:Hp) (Q:Bool -> Hp -> Prop),Inv X pins σ H s -> t σ H Q -> wpAny (model X.prog X.w) X.A (isTrue e X.env (eval e X.env)) (TP X pins σ Q) X.xe s
def PW (X:Cx) (e:Expr) (t:TT):Prop :=
 ∀ (whole:Sem Value) (pins:List (Addr × Obj)) (s:Shared) (σ:St) (H:Hp) (Q:Bool -> Hp -> Prop),Inv X pins σ H s -> t σ H Q -> wpAny (model X.prog X.w) X.A (isTrue e X.env whole) (TP X pins σ Q) X.xe s
theorem PW.pt {X:Cx} {e:Expr} {t:TT} (h:PW X e t):PT X e t:=h _
def PA (X:Cx) (es:List Expr) (t:TA):Prop :=
 ∀ (pos:Pos) (pins:List (Addr × Obj)) (s:Shared) (σ:St) (H:Hp) (Q:List V -> Hp -> Prop),Inv X pins σ H s -> t σ H Q -> wpAny (model X.prog X.w) X.A (spliced (backTo pos (starEach es X.env))) (AP X pins σ Q) X.xe s
def PS (X:Cx) (st:Stmt) (t:TS):Prop :=
 ∀ (pins:List (Addr × Obj)) (s:Shared) (σ:St) (H:Hp) (D:eC),Inv X pins σ H s -> t D σ H -> wpAny (model X.prog X.w) X.A (exec st X.env) (SP X pins D) X.xe s
def PSs (X:Cx) (st:List Stmt) (t:TS):Prop :=
 ∀ (pins:List (Addr × Obj)) (s:Shared) (σ:St) (H:Hp) (D:eC),Inv X pins σ H s -> t D σ H -> wpAny (model X.prog X.w) X.A (execs st X.env) (SP X pins D) X.xe s
theorem thn {α:Type} {t:Sem α} {Q Q':α -> Shared -> Prop} {M:Model} {A:Around} {E:Value -> Shared -> Prop} {s:Shared} (h:wpAny M A t Q E s) (hQ:∀ a s,Q a s -> Q' a s):wpAny M A t Q' E s:=wpAny_mono h hQ fun _ _ x=>x
section
variable {X:Cx}
def tVar (i:Nat):TE:=fun σ H Q=>∃ v,σ[i]?=some (some v) /\ Q v H
def tC (v:V):TE:=fun _ H Q=>Q v H
theorem pe_var {i:Nat} {x:Str} {pos:Pos} (hN:X.N[i]?=some x) (hv:Vis X.env.scope x) (hd:(x == ("__debug__":Str))=false:=by decide) (hcd:(x == ("__classdict__":Str))=false:=by decide):PE X (.Name x pos) (tVar i):=by
 intro pins s σ H Q I h
 obtain ⟨v,e,h⟩:=h
 obtain ⟨m,hn,hl⟩:=I.loc
 obtain ⟨u,r,l⟩:=hl i x v hN e hv
 have fin:EP X pins σ Q u s:=⟨v,H,I,r,h⟩
 rcases l with ⟨hk,hm⟩ | ⟨hk,c,hc,hcell⟩
 ·exact wpAny_Name (wpAny_loadName_local I.ok.kind hk hn hm fin) hd
 ·rcases hk with hk | hk
  ·exact wpAny_Name (wpAny_loadName_cell I.ok.kind hk hc hcell fin) hd
  ·exact wpAny_Name (wpAny_loadName_free I.ok.kind hk hc hcell fin hcd) hd
theorem ac {i j pos}:PE X (.Constant (.int i) j pos) (tC (.int i)):=fun _ _ _ H _ I h=>wpAny_Constant_int ⟨.int i,H,I.tok _,⟨_,rfl⟩,h⟩
theorem dw {b j pos}:PE X (.Constant (.bool b) j pos) (tC (.bl b)):=fun _ _ _ H _ I h=>Constant_bool ⟨.bl b,H,I,rfl,h⟩
theorem iP {j pos}:PE X (.Constant .none j pos) (tC .non):=fun _ _ _ H _ I h=>Constant_none ⟨.non,H,I,rfl,h⟩
theorem ao {x j pos}:PE X (.Constant (.str x) j pos) (tC (.str x)):=fun _ _ _ H _ I h=>Calls.Constant_str ⟨.str x,H,I.tok _,⟨_,rfl⟩,h⟩
def Gl (X:Cx) (x:Str):Prop:=X.env.kindOf x=some .globalImplicit
theorem eP {E:Value -> Shared -> Prop} {pins:List (Addr × Obj)} {s:Shared} {σ:St} {H:Hp} {x:Str} {u:Value} {pos:Pos} {Q:Value -> Shared -> Prop} (I:Inv X pins σ H s) (hg:Gl X x) (hm:X.mg x=some u) (h:Q u s)
  (hd:(x == ("__debug__":Str))=false:=by decide):wpAny (model X.prog X.w) X.A (eval (.Name x pos) X.env) Q E s :=
 Calls.Name_function_global I.ok.kind hg (Calls.loadGlobal_global (by rw [I.ok.glob]; exact I.mod.glob.keeps I.bk) hm h) hd
theorem eE {E:Value -> Shared -> Prop} {pins:List (Addr × Obj)} {s:Shared} {σ:St} {H:Hp} {x:Str} {u:Value} {pos:Pos} {Q:Value -> Shared -> Prop} (I:Inv X pins σ H s) (hg:Gl X x) (hm:X.mg x=none) (hv:bootBuiltins x=some u) (h:Q u s)
  (hn:x ≠ "__name__":=by decide) (hd:(x == ("__debug__":Str))=false:=by decide):wpAny (model X.prog X.w) X.A (eval (.Name x pos) X.env) Q E s:=by
 obtain ⟨mb,h1,h2⟩:=I.mod.blt
 exact Calls.Name_function_global I.ok.kind hg (Calls.loadGlobal_builtin (by rw [I.ok.glob]; exact I.mod.glob.keeps I.bk) hm (by rw [I.ok.blt]; exact h1.keeps I.bk) ((h2 x hn).trans hv) h) hd
theorem bD {x:Str} {v:V} {u:Value} {pos:Pos} (hg:Gl X x) (hm:X.mg x=some u) (r:bu v u) (hd:(x == ("__debug__":Str))=false:=by decide):PE X (.Name x pos) (tC v) :=
 fun _ _ _ H _ I h=>eP I hg hm ⟨v,H,I,r,h⟩ hd
theorem fY {x:Str} {v:V} {u:Value} {pos:Pos} (hg:Gl X x) (hm:X.mg x=none) (hv:bootBuiltins x=some u) (r:bu v u) (hn:x ≠ "__name__":=by decide) (hd:(x == ("__debug__":Str))=false:=by decide):PE X (.Name x pos) (tC v) :=
 fun _ _ _ H _ I h=>eE I hg hm hv ⟨v,H,I,r,h⟩ hn hd
variable {a b:Expr} {ta tb:TE} {pos:Pos}
def PC (X:Cx) (op:CmpOp) (a b:Expr) (t:TE):Prop :=
 ∀ (pins:List (Addr × Obj)) (s:Shared) (σ:St) (H:Hp) (Q:VK),Inv X pins σ H s -> t σ H Q ->
  wpAny (model X.prog X.w) X.A (eval a X.env) (fun v s₁=>wpAny (model X.prog X.w) X.A (eval b X.env) (fun u s₂=>wpAny (model X.prog X.w) X.A (compareOp op v u) (EP X pins σ Q) X.xe s₂) X.xe s₁) X.xe s
theorem mI (b:Expr) {op:CmpOp} (h:op ≠ .In) (h2:op ≠ .NotIn):behindInMarks op b=false:=by
 have e1:(op == CmpOp.In)=false:=by cases op <;> first | rfl | exact absurd rfl h
 have e2:(op == CmpOp.NotIn)=false:=by cases op <;> first | rfl | exact absurd rfl h2
 cases b <;> simp [behindInMarks,e1,e2]
def tIsN (ta:TE):TE:=fun σ H Q=>ta σ H fun x H1=>Q (.bl (decide (x=.non))) H1
theorem bu.none_iff {x:V} {v:Value} (r:bu x v):(v == Value.none)=decide (x=.non):=by
 cases x with
 | non=>cases r; rfl
 | bl _=>cases r; rfl
 | int _=>obtain ⟨t,rfl⟩:=r; rfl
 | str _=>obtain ⟨t,rfl⟩:=r; rfl
 | byt _=>obtain ⟨t,rfl⟩:=r; rfl
 | flt _=>obtain ⟨t,rfl⟩:=r; rfl
 | ref _=>cases r; rfl
 | ty _=>cases r; rfl
theorem jR {j pos'} (ha:PE X a ta):PC X .Is a (.Constant .none j pos') (tIsN ta):=by
 intro pins s σ H Q I h
 refine thn (ha pins s σ H _ I h) fun v s1 ⟨x,H1,I1,r1,q1⟩=>?_
 exact Constant_none (is_none_gen ⟨.bl _,H1,I1,by rw [r1.none_iff]; rfl,q1⟩)
def tB (t:TE):TT:=fun σ H Q=>t σ H fun x H1=>∃ c,x=.bl c /\ Q c H1
theorem jS {op:CmpOp} {t:TE} (h:PC X op a b t) (h1:behindInMarks op b=false:=by first | exact mI _ (by decide) (by decide) | rfl):PT X (.Compare a [op] [b] pos) (tB t):=by
 intro pins s σ H Q I hw
 refine wpAny_isTrue_Compare1 (thn (h pins s σ H _ I hw) fun v s1 h1=>thn h1 fun u s2 h2=>thn h2 fun c s3 ⟨x,H1,I1,r1,q1⟩=>?_) h1
 obtain ⟨d,rfl,q⟩:=q1
 cases r1
 exact wpAny_truthy_bool ⟨H1,I1,q⟩
theorem bV {e:Expr} {t:TE} (h:PE X e t) (he:∀ whole,isTrue e X.env whole=(do let v <- whole; standAt e.pos; holding [v] (truthy v)):=by intro _; rfl):PT X e (tB t):=by
 intro pins s σ H Q I hw
 refine isTrue_plain (thn (h pins s σ H _ I hw) fun v s1 ⟨x,H1,I1,r1,q1⟩=>?_) (he _)
 obtain ⟨d,rfl,q⟩:=q1
 cases r1
 exact wpAny_truthy_bool ⟨H1,I1,q⟩
variable {tA tB':TT} {rest:List Expr}
def tAnd (t u:TT):TT:=fun σ H Q=>t σ H fun c H1=>if c=true then u σ H1 Q else Q false H1
def tOr (t u:TT):TT:=fun σ H Q=>t σ H fun c H1=>if c=true then Q true H1 else u σ H1 Q
def tNot (t:TT):TT:=fun σ H Q=>t σ H fun c H1=>Q (!c) H1
theorem iQ (ha:PT X a tA):PW X (.BoolOp .And [a] pos) tA:=by
 intro wh pins s σ H Q I h
 refine isTrue_and (thn (ha pins s σ H Q I h) fun c s1 e=>?_)
 cases c with
 | true=>exact isTrue_and_nil e
 | false=>exact e
theorem c9 (ha:PT X a tA):PW X (.BoolOp .Or [a] pos) tA:=by
 intro wh pins s σ H Q I h
 refine isTrue_or (thn (ha pins s σ H Q I h) fun c s1 e=>?_)
 cases c with
 | false=>exact isTrue_or_nil e
 | true=>exact e
theorem jT (ha:PT X a tA) (hb:PW X (.BoolOp .And (b :: rest) pos) tB'):PW X (.BoolOp .And (a :: b :: rest) pos) (tAnd tA tB'):=by
 intro wh pins s σ H Q I h
 refine isTrue_and (thn (ha pins s σ H _ I h) fun c s1 ⟨H1,I1,q1⟩=>?_)
 cases c with
 | true=>exact hb wh pins s1 σ H1 Q I1 q1
 | false=>exact ⟨H1,I1,q1⟩
theorem cE (ha:PT X a tA) (hb:PW X (.BoolOp .Or (b :: rest) pos) tB'):PW X (.BoolOp .Or (a :: b :: rest) pos) (tOr tA tB'):=by
 intro wh pins s σ H Q I h
 refine isTrue_or (thn (ha pins s σ H _ I h) fun c s1 ⟨H1,I1,q1⟩=>?_)
 cases c with
 | true=>exact ⟨H1,I1,q1⟩
 | false=>exact hb wh pins s1 σ H1 Q I1 q1
theorem cm (ha:PT X a tA):PT X (.UnaryOp .Not a pos) (tNot tA):=by
 intro pins s σ H Q I h
 exact isTrue_not (ha pins s σ H (fun c H1=>Q (!c) H1) I h)
def tAndV (ta tb:TE):TE:=fun σ H Q=>ta σ H fun x H1=>∃ c,x=.bl c /\ if c=true then tb σ H1 Q else Q (.bl false) H1
def tOrV (ta tb:TE):TE:=fun σ H Q=>ta σ H fun x H1=>∃ c,x=.bl c /\ if c=true then Q (.bl true) H1 else tb σ H1 Q
def tNotV (ta:TE):TE:=fun σ H Q=>ta σ H fun x H1=>∃ c,x=.bl c /\ Q (.bl (!c)) H1
theorem eF {op} {t:TE} (h:PE X a t):PE X (.BoolOp op [a] pos) t:=fun pins s σ H Q I hw=>BoolOp_one (h pins s σ H Q I hw)
theorem dy (ha:PE X a ta) (hb:PE X (.BoolOp .And (b :: rest) pos) tb):PE X (.BoolOp .And (a :: b :: rest) pos) (tAndV ta tb):=by
 intro pins s σ H Q I h
 refine BoolOp_and (thn (ha pins s σ H _ I h) fun v s1 ⟨x,H1,I1,r1,q1⟩=>?_)
 obtain ⟨c,rfl,q1⟩:=q1
 cases r1
 refine wpAny_truthy_bool ?_
 cases c with
 | true=>exact hb pins s1 σ H1 Q I1 q1
 | false=>exact ⟨.bl false,H1,I1,rfl,q1⟩
theorem pe_or (ha:PE X a ta) (hb:PE X (.BoolOp .Or (b :: rest) pos) tb):PE X (.BoolOp .Or (a :: b :: rest) pos) (tOrV ta tb):=by
 intro pins s σ H Q I h
 refine BoolOp_or (thn (ha pins s σ H _ I h) fun v s1 ⟨x,H1,I1,r1,q1⟩=>?_)
 obtain ⟨c,rfl,q1⟩:=q1
 cases r1
 refine wpAny_truthy_bool ?_
 cases c with
 | false=>exact hb pins s1 σ H1 Q I1 q1
 | true=>exact ⟨.bl true,H1,I1,rfl,q1⟩
theorem pe_not (ha:PE X a ta):PE X (.UnaryOp .Not a pos) (tNotV ta):=by
 intro pins s σ H Q I h
 refine UnaryOp_ (thn (ha pins s σ H _ I h) fun v s1 ⟨x,H1,I1,r1,q1⟩=>?_)
 obtain ⟨c,rfl,q1⟩:=q1
 cases r1
 exact not_of (wpAny_truthy_bool ⟨.bl (!c),H1,I1,rfl,q1⟩)
def tIf (t:TT) (ta tb:TE):TE:=fun σ H Q=>t σ H fun c H1=>if c=true then ta σ H1 Q else tb σ H1 Q
theorem eQ {c:Expr} (hc:PT X c tA) (ha:PE X a ta) (hb:PE X b tb):PE X (.IfExp c a b pos) (tIf tA ta tb):=by
 intro pins s σ H Q I h
 refine wpAny_IfExp (thn (hc pins s σ H _ I h) fun d s1 ⟨H1,I1,q1⟩=>?_)
 cases d with
 | true=>exact ha pins s1 σ H1 Q I1 q1
 | false=>exact hb pins s1 σ H1 Q I1 q1
end
def SqL (K:PySem.W.Frag) (H:Hp) (a:Addr) (xs:List V):Prop :=
 Rd H a (.lst xs) \/
  ∃ (o:Obj) (its:Array Value) (n:Nat),K.lookup a=some o /\ o.cls=.type "list" /\ o.dict=none /\ o.data=.seq its n /\ its.size <= sizeLine /\ aZ xs its.toList
def SqT (K:PySem.W.Frag) (H:Hp) (a:Addr) (xs:List V):Prop :=
 Rd H a (.tup xs) \/
  ∃ (o:Obj) (its:Array Value) (n:Nat),K.lookup a=some o /\ o.cls=.type "tuple" /\ o.data=.seq its n /\ its.size <= sizeLine /\ aZ xs its.toList
def absV:Value -> Option V
 | .none=>some .non
 | .bool b=>some (.bl b)
 | .int i _=>some (.int i)
 | .str x _=>some (.str x)
 | .bytes b _=>some (.byt b)
 | .float b _=>some (.flt b)
 | .ref a=>some (.ref a)
 | .type n=>some (.ty n)
 | _=>none
theorem bu.abs {x:V} {u:Value} (r:bu x u):absV u=some x:=by
 cases x with
 | non=>cases r; rfl
 | bl _=>cases r; rfl
 | int _=>obtain ⟨t,rfl⟩:=r; rfl
 | str _=>obtain ⟨t,rfl⟩:=r; rfl
 | byt _=>obtain ⟨t,rfl⟩:=r; rfl
 | flt _=>obtain ⟨t,rfl⟩:=r; rfl
 | ref _=>cases r; rfl
 | ty _=>cases r; rfl
theorem bu.inj {x y:V} {u:Value} (r:bu x u) (q:bu y u):x=y:=Option.some.inj (r.abs.symm.trans q.abs)
theorem aZ.inj:∀ {xs ys:List V} {us:List Value},aZ xs us -> aZ ys us -> xs=ys
 | _,_,_,.nil,.nil=>rfl
 | _,_,_,.cons r t,.cons r' t'=>by rw [r.inj r',aZ.inj t t']
section
variable {X:Cx} {pins:List (Addr × Obj)} {σ:St} {H:Hp} {s:Shared} {a:Addr} {xs ys:List V}
theorem SqL.of {K:PySem.W.Frag} (h:H a=some (.lst xs)):SqL K H a xs:=.inl (.inl h)
theorem SqT.of {K:PySem.W.Frag} (h:H a=some (.tup xs)):SqT K H a xs:=.inl (.inl h)
theorem Inv.list (I:Inv X pins σ H s) (h:SqL X.K H a xs):∃ its:List Value,aZ xs its /\ PlainL s.heap a its.toArray /\ xs.length <= sizeLine:=by
 rcases h with h | ⟨o,its,n,hk,hc,hd,hs,hz,r⟩
 ·obtain ⟨z,its,n,r,e⟩:=h.ok I.hok
  exact ⟨its,r,⟨_,n,e,rfl,rfl,rfl⟩,z⟩
 ·refine ⟨its.toList,r,⟨o,n,I.kIn a o hk,hc,hd,by simpa using hs⟩,?_⟩
  have e:=r.length
  simp only [Array.length_toList] at e
  lia
theorem Inv.tuple (I:Inv X pins σ H s) (h:SqT X.K H a xs):∃ its:List Value,aZ xs its /\ IsTup s.heap a its.toArray /\ xs.length <= sizeLine:=by
 rcases h with h | ⟨o,its,n,hk,hc,hs,hz,r⟩
 ·obtain ⟨z,its,r,p⟩:=h.ok I.hok
  exact ⟨its,r,p,z⟩
 ·refine ⟨its.toList,r,⟨o,I.kIn a o hk,hc,n,by simpa using hs⟩,?_⟩
  have e:=r.length
  simp only [Array.length_toList] at e
  lia
theorem Inv.list_inj (I:Inv X pins σ H s) (h:SqL X.K H a xs) (h':SqL X.K H a ys):xs=ys:=by
 obtain ⟨its,r,⟨o,n,e,_,_,d⟩,_⟩:=I.list h
 obtain ⟨its',r',⟨o',n',e',_,_,d'⟩,_⟩:=I.list h'
 rw [e] at e'; cases e'
 rw [d] at d'
 injection d' with d1 _
 have:its=its':=by simpa using congrArg Array.toList d1
 subst this
 exact r.inj r'
theorem Inv.tuple_inj (I:Inv X pins σ H s) (h:SqT X.K H a xs) (h':SqT X.K H a ys):xs=ys:=by
 obtain ⟨its,r,⟨o,e,_,n,d⟩,_⟩:=I.tuple h
 obtain ⟨its',r',⟨o',e',_,n',d'⟩,_⟩:=I.tuple h'
 rw [e] at e'; cases e'
 rw [d] at d'
 injection d' with d1 _
 have:its=its':=by simpa using congrArg Array.toList d1
 subst this
 exact r.inj r'
end
abbrev Cx.wish (X:Cx) (E:Value -> Shared -> Prop):Cx:={ X with xe:=E }
abbrev Cx.nox (X:Cx):Cx:=X.wish fun _ _=>False
theorem Cx.Ok.wish {X:Cx} (ok:X.Ok) (E:Value -> Shared -> Prop):(X.wish E).Ok :=
 ⟨ok.mod,ok.kind,ok.glob,ok.blt,ok.above,ok.inj,ok.has,ok.cab,ok.hd,ok.frames,ok.stk,ok.exf,ok.bs,ok.bsz,ok.noex,ok.exfs,ok.funs,ok.frf⟩
theorem Cx.Ok.unwish {X:Cx} {E:Value -> Shared -> Prop} (ok:(X.wish E).Ok):X.Ok :=
 ⟨ok.mod,ok.kind,ok.glob,ok.blt,ok.above,ok.inj,ok.has,ok.cab,ok.hd,ok.frames,ok.stk,ok.exf,ok.bs,ok.bsz,ok.noex,ok.exfs,ok.funs,ok.frf⟩
section
variable {X:Cx} {pins:List (Addr × Obj)} {σ:St} {H:Hp} {s:Shared} {E:Value -> Shared -> Prop}
theorem Inv.wish (I:Inv X pins σ H s) (E:Value -> Shared -> Prop):Inv (X.wish E) pins σ H s:=⟨I.ok.wish E,I.os,I.bare,I.base,I.loc,I.cell,I.free,I.freeC,I.pin,I.hok,I.len⟩
theorem Inv.unwish (I:Inv (X.wish E) pins σ H s):Inv X pins σ H s:=⟨I.ok.unwish,I.os,I.bare,I.base,I.loc,I.cell,I.free,I.freeC,I.pin,I.hok,I.len⟩
theorem SP.unwish {D:eC} {f:Flow} {s':Shared} (h:SP (X.wish E) pins D f s'):SP X pins D f s':=by
 cases f with
 | next=>obtain ⟨σ',H',I,q⟩:=h; exact ⟨σ',H',I.unwish,q⟩
 | brk=>obtain ⟨σ',H',I,q⟩:=h; exact ⟨σ',H',I.unwish,q⟩
 | cont=>obtain ⟨σ',H',I,q⟩:=h; exact ⟨σ',H',I.unwish,q⟩
 | ret u=>obtain ⟨v,σ',H',I,r,q⟩:=h; exact ⟨v,σ',H',I.unwish,r,q⟩
theorem PSs.nox {st:List Stmt} {t:TS} (h:PSs X.nox st t):PSs X st t:=fun pins s σ H D I hw =>
 wpAny_mono (h pins s σ H D (I.wish _) hw) (fun _ _ q=>q.unwish) fun _ _ z=>False.elim z
end
section
variable {X:Cx} {st:Stmt} {rest:List Stmt} {t u:TS} {e:Expr} {te:TE} {pos:Pos}
def tNext:TS:=fun D σ H=>D.nx σ H
def tSeq (t u:TS):TS:=fun D σ H=>t { D with nx:=u D } σ H
theorem aQ:PSs X [] tNext:=fun _ _ σ H _ I h=>wpAny_execs_nil ⟨σ,H,I,h⟩
theorem ag (h1:PS X st t) (h2:PSs X rest u):PSs X (st :: rest) (tSeq t u):=by
 intro pins s σ H D I h
 refine wpAny_execs_cons (thn (h1 pins s σ H { D with nx:=u D } I h) fun f s1 q=>?_)
 cases f with
 | next =>
  obtain ⟨σ',H',I',q⟩:=q
  exact h2 pins s1 σ' H' D I' q
 | ret v=>exact q
 | brk=>exact q
 | cont=>exact q
theorem am (h1:PS X st t):PSs X [st] t:=by
 intro pins s σ H D I h
 refine wpAny_execs_cons (thn (h1 pins s σ H D I h) fun f s1 q=>?_)
 cases f with
 | next=>exact wpAny_execs_nil q
 | ret v=>exact q
 | brk=>exact q
 | cont=>exact q
theorem Inv.quiet {pins:List (Addr × Obj)} {σ:St} {H:Hp} {s:Shared} (I:Inv X pins σ H s):interactive X.env=false:=by simp [interactive,I.ok.kind]
def tDrop (te:TE):TS:=fun D σ H=>te σ H fun _ H1=>D.nx σ H1
theorem dO (he:PE X e te) (hs:swapsWith e none pos.line X.env=pure false:=by rfl):PS X (.Expr e pos) (tDrop te):=by
 intro pins s σ H D I h
 exact wpAny_Expr_any (thn (he pins s σ H _ I h) fun v s1 ⟨x,H1,I1,r1,q1⟩=>⟨σ,H1,I1,q1⟩) I.quiet hs
def tRet (te:TE):TS:=fun D σ H=>te σ H D.rt
theorem aF (he:PE X e te):PS X (.Return (some e) pos) (tRet te):=by
 intro pins s σ H D I h
 exact wpAny_Return_some (thn (he pins s σ H _ I h) fun v s1 ⟨x,H1,I1,r1,q1⟩=>⟨x,σ,H1,I1,r1,q1⟩)
def tIfS (c:TT) (t u:TS):TS:=fun D σ H=>c σ H fun b H1=>if b=true then t D σ H1 else u D σ H1
theorem be {c:Expr} {a b:List Stmt} {tc:TT} (hc:PT X c tc) (ha:PSs X a t) (hb:PSs X b u):PS X (.If c a b pos) (tIfS tc t u):=by
 intro pins s σ H D I h
 refine wpAny_If (thn (hc pins s σ H _ I h) fun d s1 ⟨H1,I1,q1⟩=>?_)
 cases d with
 | true=>exact ha pins s1 σ H1 D I1 q1
 | false=>exact hb pins s1 σ H1 D I1 q1
end
abbrev TG:=V -> St -> Hp -> (St -> Hp -> Prop) -> Prop
abbrev TGs:=List V -> St -> Hp -> (St -> Hp -> Prop) -> Prop
def PG (X:Cx) (target:Expr) (t:TG):Prop :=
 ∀ (pins:List (Addr × Obj)) (s:Shared) (σ:St) (H:Hp) (v:V) (u:Value) (Q:St -> Hp -> Prop),Inv X pins σ H s -> bu v u -> t v σ H Q ->
  wpAny (model X.prog X.w) X.A (assign target X.env u) (fun _ s'=>∃ σ' H',Inv X pins σ' H' s' /\ Q σ' H') X.xe s
def PGs (X:Cx) (ts:List Expr) (t:TGs):Prop :=
 ∀ (pins:List (Addr × Obj)) (s:Shared) (σ:St) (H:Hp) (vs:List V) (us:List Value) (Q:St -> Hp -> Prop),Inv X pins σ H s -> aZ vs us -> t vs σ H Q ->
  wpAny (model X.prog X.w) X.A (assignInOrder ((assignEach ts X.env).map (·.2)) us) (fun _ s'=>∃ σ' H',Inv X pins σ' H' s' /\ Q σ' H') X.xe s
section
variable {X:Cx} {pos:Pos}
def dc (i:Nat):TG:=fun v σ H Q=>Q (σ.set i (some v)) H
theorem aH {i:Nat} {x:Str} (hN:X.N.Nodup) (hi:X.N[i]?=some x) (hx:Loc X.env.scope x) (hf:X.fn x=true \/ X.env.scope.names.lookup x=some .local:=by first | exact .inl rfl | exact .inr rfl | assumption):PG X (.Name x pos) (dc i):=by
 intro pins s σ H v u Q I r h
 exact wpAny_assign_Name (gt I hN hi hx r (fun s' I'=>⟨_,H,I',h⟩) hf)
def gNil:TGs:=fun vs σ H Q=>vs=[] /\ Q σ H
def gCons (t:TG) (u:TGs):TGs:=fun vs σ H Q=>∃ v r,vs=v :: r /\ t v σ H fun σ' H'=>u r σ' H' Q
theorem cG:PGs X [] gNil:=by
 intro pins s σ H vs us Q I r h
 obtain ⟨e,h⟩:=h
 subst e
 cases r
 exact assignInOrder_nil ⟨σ,H,I,h⟩
theorem aX {e:Expr} {es:List Expr} {t:TG} {u:TGs} (h1:PG X e t) (h2:PGs X es u)
  (hs:(assignEach (e :: es) X.env).map (·.2)=assign e X.env :: (assignEach es X.env).map (·.2):=by rfl):PGs X (e :: es) (gCons t u):=by
 intro pins s σ H vs us Q I r h
 obtain ⟨v,vr,e1,h⟩:=h
 subst e1
 cases r with
 | cons r rr =>
  rw [hs]
  refine assignInOrder_cons (thn (h1 pins s σ H _ _ _ I r h) fun _ s1 ⟨σ1,H1,I1,q1⟩=>?_)
  exact h2 pins s1 σ1 H1 _ _ Q I1 rr q1
def gTup (K:PySem.W.Frag) (n:Nat) (t:TGs):TG:=fun v σ H Q=>∃ a xs,v=.ref a /\ SqT K H a xs /\ xs.length=n /\ t xs σ H Q
theorem iR {es:List Expr} {k:Nat} {t:TGs} {n:Nat} (hc:X.calm=true) (h:PGs X es t)
  (hn:(assignEach es X.env).length=n:=by rfl) (hst:(assignEach es X.env).findIdx? (·.1)=none:=by rfl):PG X (.Tuple es k pos) (gTup X.K n t):=by
 intro pins s σ H v u Q I r hw
 obtain ⟨a,xs,e1,hq,hl,hw⟩:=hw
 subst e1
 cases r
 obtain ⟨its,rv,ht,hz⟩:=I.tuple hq
 refine assign_Tuple_tuple (I.ok.hd hc) ht (by simp [hn,<- hl,rv.length]) hst fun h' hx=>?_
 have I1:Inv X pins σ H { s with heap:=h' }:=I.kept (t':=s.toks) fun b o e=>hx b o (Nat.ne_of_lt (Heap.lt_size e)) e
 exact h pins _ σ H xs _ Q I1 (by simpa using rv) hw
def mJ (te:TE) (g:TG):TS:=fun D σ H=>te σ H fun x H1=>g x σ H1 D.nx
theorem ps_asg {tg e:Expr} {te:TE} {g:TG} (he:PE X e te) (hg:PG X tg g) (hs:swapsWithSole [tg] e pos.line X.env=pure false:=by rfl) (hw:swappedStores [tg] e X.env=pure none:=by rfl)
  (h1:(assignEach [tg] X.env).map (·.2)=[assign tg X.env]:=by rfl):PS X (.Assign [tg] e pos) (mJ te g):=by
 intro pins s σ H D I h
 refine wpAny_Assign_stores (thn (he pins s σ H _ I h) fun v s1 ⟨x,H1,I1,r1,q1⟩=>?_) hs hw
 rw [h1]
 exact thn (hg pins s1 σ H1 x v _ I1 r1 q1) fun _ s2 q=>q
theorem aw {i:Nat} {x:Str} {e:Expr} {te:TE} {pos':Pos} (hN:X.N.Nodup) (hi:X.N[i]?=some x) (hx:Loc X.env.scope x) (he:PE X e te) (hs:swapsWith e (some (.Name x pos')) pos.line X.env=pure false:=by rfl) (hf:X.fn x=true \/ X.env.scope.names.lookup x=some .local:=by first | exact .inl rfl | exact .inr rfl | assumption) :
  PS X (.Assign [.Name x pos'] e pos) (mJ te (dc i)):=by
 intro pins s σ H D I h
 refine wpAny_Assign_Name (thn (he pins s σ H _ I h) fun v s1 ⟨y,H1,I1,r1,q1⟩=>?_) hs
 exact gt I1 hN hi hx r1 (fun s2 I2=>⟨_,H1,I2,q1⟩) hf
end
section
variable {X:Cx} {pos:Pos}
end
structure It where
 go:Nat -> Hp -> Prop
 yld:Nat -> Hp -> V -> Hp -> Prop
 stop:Nat -> Hp -> Prop
def ej (X:Cx) (pins:List (Addr × Obj)) (H:Hp) (b:Addr):Prop :=
 H b=none /\ b ≠ X.env.locals /\ b ∉ X.fs /\ (b ∈ X.ex \/ X.s₀.heap.objs.size <= b) /\ (∀ x c,X.env.cells.lookup x=some c -> c ≠ b) /\ ∀ p ∈ X.pn ++ pins,p.1 ≠ b
theorem Inv.fpOk {X:Cx} {pins:List (Addr × Obj)} {σ:St} {H H':Hp} {s:Shared} {b:Addr} (I:Inv X pins σ H s) (hb:s.heap.objs.size <= b) (hn:H' b=none):ej X pins H' b:=by
 refine ⟨hn,Nat.ne_of_gt (Nat.lt_of_lt_of_le I.lt hb),I.nofs hb,.inr (Nat.le_trans I.sz hb),fun x c e z=>?_,fun p hp z=>?_⟩
 ·obtain ⟨v,q⟩:=I.cell x c e
  exact absurd (Nat.lt_of_lt_of_le q.lt (by rw [z]; exact hb)) (Nat.lt_irrefl _)
 ·exact absurd (Nat.lt_of_lt_of_le (Heap.lt_size (I.pin p hp).1) (by rw [z]; exact hb)) (Nat.lt_irrefl _)
structure jj (P:Program) (w:World) (K:PySem.W.Frag) (tg:Expr) (J:It) (fp:List Addr) (it:Addr) (tn:Nat -> Heap -> Prop):Prop where
 mem:it ∈ fp
 obj:∀ i h,tn i h -> ∀ b ∈ fp,∃ o,h.get? b=some o /\ ∀ v,o.data ≠ .cell v
 keep:∀ i h h',tn i h -> (∀ b ∈ fp,∀ o,h.get? b=some o -> h'.get? b=some o) -> tn i h'
 item:∀ (X:Cx),X.prog=P -> X.w=w -> X.K=K -> X.calm=true -> ∀ (i:Nat) (pins:List (Addr × Obj)) (s:Shared) (σ:St) (H:Hp) (E:Value -> Shared -> Prop),Inv X pins σ H s -> (∀ b ∈ fp,ej X pins H b) -> tn i s.heap -> J.go i H ->
  wpAny (model P w) X.A (pyNext (.ref it)) (fun r s1=>∃ u,r=some u /\
   wpAny (model P w) X.A (letOwnedTupleGo tg (.ref it) u) (fun _ s2=>∃ x H',Inv X pins σ H' s2 /\ bu x u /\ J.yld i H x H' /\ tn (i + 1) s2.heap /\ ∀ b ∈ fp,H' b=none) E s1) E s
 done:∀ (X:Cx),X.prog=P -> X.w=w -> X.K=K -> X.calm=true -> ∀ (i:Nat) (pins:List (Addr × Obj)) (s:Shared) (σ:St) (H:Hp) (E:Value -> Shared -> Prop),Inv X pins σ H s -> (∀ b ∈ fp,ej X pins H b) -> tn i s.heap -> J.stop i H ->
  wpAny (model P w) X.A (pyNext (.ref it)) (fun r s1=>r=none /\ Inv X pins σ H s1) E s
 self:∀ (A:Around) (i:Nat) (s:Shared) (Q:Value -> Shared -> Prop) (E:Value -> Shared -> Prop),tn i s.heap -> Q (.ref it) s -> wpAny (model P w) A (pyIter (.ref it)) Q E s
abbrev TI:=St -> Hp -> (It -> Hp -> Prop) -> Prop
def PIE (X:Cx) (pins:List (Addr × Obj)) (σ:St) (tg:Expr) (R:It -> Hp -> Prop) (itv:Value) (s2:Shared):Prop :=
 ∃ (it:Addr) (fp:List Addr) (tn:Nat -> Heap -> Prop) (J:It) (H':Hp),itv=.ref it /\ Inv X pins σ H' s2 /\ jj X.prog X.w X.K tg J fp it tn /\ tn 0 s2.heap /\ (∀ b ∈ fp,ej X pins H' b) /\ R J H'
def PI (X:Cx) (tg iter:Expr) (wi:TI):Prop :=
 ∀ (pins:List (Addr × Obj)) (s:Shared) (σ:St) (H:Hp) (R:It -> Hp -> Prop),Inv X pins σ H s -> wi σ H R ->
  wpAny (model X.prog X.w) X.A (eval iter X.env) (fun v s1=>wpAny (model X.prog X.w) X.A (pyIter v) (PIE X pins σ tg R) X.xe s1) X.xe s
theorem jk {M:Model} {A:Around} {E:Value -> Shared -> Prop} {s:Shared} {tg:Expr} {it:Addr} {u:Value} {o:Obj} {n:String} {vs:Array Value} {Q:Unit -> Shared -> Prop} (ho:s.heap.get? it=some o) (hc:o.cls=.type n) (hd:o.data=.fields vs)
  (hn:["enumerate","zip","dict_itemiterator","dict_reverseitemiterator","odict_iterator","itertools.zip_longest","itertools.pairwise"].contains n=false) (hQ:Q () s):wpAny M A (letOwnedTupleGo tg (.ref it) u) Q E s:=by
 unfold letOwnedTupleGo
 cases tg <;> first
  | exact wpAny_pure hQ
  | (cases u <;> first
    | exact wpAny_pure hQ
    | (refine wpAny_bind (wpAny_load ho ?_)
       rw [hc,hd]
       show wpAny M A (if (["enumerate","zip","dict_itemiterator","dict_reverseitemiterator","odict_iterator","itertools.zip_longest","itertools.pairwise"].contains n && vs[0]? == some (rawInt _))=true then _ else _) Q E s
       rw [if_neg (by intro h; rw [hn,Bool.false_and] at h; cases h)]
       exact wpAny_pure hQ))
def Itl (K:PySem.W.Frag) (a:Addr):It :=
 ⟨fun i H=>∃ xs x,SqL K H a xs /\ xs[i]?=some x,fun i H x H'=>H'=H /\ ∀ xs,SqL K H a xs -> xs[i]?=some x,fun i H=>∃ xs,SqL K H a xs /\ xs.length <= i⟩
def Itt (K:PySem.W.Frag) (a:Addr):It :=
 ⟨fun i H=>∃ xs x,SqT K H a xs /\ xs[i]?=some x,fun i H x H'=>H'=H /\ ∀ xs,SqT K H a xs -> xs[i]?=some x,fun i H=>∃ xs,SqT K H a xs /\ xs.length <= i⟩
def Itr (lo:Int) (n:Nat):It:=⟨fun i _=>i < n,fun i H x H'=>H'=H /\ x=.int (lo + i),fun i _=>n <= i⟩
theorem lC {P:Program} {w:World} {K:PySem.W.Frag} {tg:Expr} (a it:Addr):jj P w K tg (Itl K a) [it] it (fun i h=>h.IsListIter it a i) where
 mem:=by simp
 obj:=fun i h st b hb=>by
  have e:b=it:=by simpa using hb
  subst e
  obtain ⟨o,e,c,d⟩:=st
  exact ⟨o,e,fun v z=>by rw [d] at z; cases z⟩
 keep:=fun i h h' st k=>st.at fun o e=>k it (by simp) o e
 item:=by
  intro X hP hw hK hc i pins s σ H E I hf st hg
  subst hP hw hK
  obtain ⟨xs,x,hq,hx⟩:=hg
  obtain ⟨its,rv,p,hz⟩:=I.list hq
  obtain ⟨u,hu,ru⟩:=rv.get hx
  obtain ⟨f0,f1,f2,f3,f4,f5⟩:=hf it (by simp)
  refine wpAny_pyNext_list_item st p.isList (x:=u) (by simpa using hu) fun h' st' sb=>?_
  have I1:Inv X pins σ H { s with heap:=h' }:=I.turned (t':=s.toks) (fun b o hb e=>(sb.2 b hb).trans e) f0 f1 f3 f4 f5
  obtain ⟨o,e,c,d⟩:=id st'
  exact ⟨u,rfl,jk (s:={ s with heap:=h' }) e c d (by decide) ⟨x,H,I1,ru,⟨rfl,fun ys hy=>by rw [I.list_inj hy hq]; exact hx⟩,st',fun b hb=>(hf b hb).1⟩⟩
 done:=by
  intro X hP hw hK hc i pins s σ H E I hf st hg
  subst hP hw hK
  obtain ⟨xs,hq,hx⟩:=hg
  obtain ⟨its,rv,p,hz⟩:=I.list hq
  obtain ⟨f0,f1,f2,f3,f4,f5⟩:=hf it (by simp)
  have hl:=rv.length
  exact wpAny_pyNext_list_end (I.ok.hd hc) st p.isList (by simp; lia) fun h' eb=>⟨rfl,I.turned (t':=s.toks) (fun b o hb e=>eb b o hb e) f0 f1 f3 f4 f5⟩
 self:=fun _ _ _ _ _ st h=>wpAny_pyIter_listiter st h
theorem jU {P:Program} {w:World} {K:PySem.W.Frag} {tg:Expr} (a it:Addr):jj P w K tg (Itt K a) [it] it (fun i h=>h.IsTupleIter it a i) where
 mem:=by simp
 obj:=fun i h st b hb=>by
  have e:b=it:=by simpa using hb
  subst e
  obtain ⟨o,e,c,d⟩:=st
  exact ⟨o,e,fun v z=>by rw [d] at z; cases z⟩
 keep:=fun i h h' st k=>st.at fun o e=>k it (by simp) o e
 item:=by
  intro X hP hw hK hc i pins s σ H E I hf st hg
  subst hP hw hK
  obtain ⟨xs,x,hq,hx⟩:=hg
  obtain ⟨its,rv,p,hz⟩:=I.tuple hq
  obtain ⟨u,hu,ru⟩:=rv.get hx
  obtain ⟨f0,f1,f2,f3,f4,f5⟩:=hf it (by simp)
  refine wpAny_pyNext_tuple_item st (show s.heap.IsTuple a its.toArray from p) (x:=u) (by simpa using hu) fun h' st' sb=>?_
  have I1:Inv X pins σ H { s with heap:=h' }:=I.turned (t':=s.toks) (fun b o hb e=>(sb.2 b hb).trans e) f0 f1 f3 f4 f5
  obtain ⟨o,e,c,d⟩:=id st'
  exact ⟨u,rfl,jk (s:={ s with heap:=h' }) e c d (by decide) ⟨x,H,I1,ru,⟨rfl,fun ys hy=>by rw [I.tuple_inj hy hq]; exact hx⟩,st',fun b hb=>(hf b hb).1⟩⟩
 done:=by
  intro X hP hw hK hc i pins s σ H E I hf st hg
  subst hP hw hK
  obtain ⟨xs,hq,hx⟩:=hg
  obtain ⟨its,rv,p,hz⟩:=I.tuple hq
  obtain ⟨f0,f1,f2,f3,f4,f5⟩:=hf it (by simp)
  have hl:=rv.length
  exact wpAny_pyNext_tuple_end (I.ok.hd hc) st (show s.heap.IsTuple a its.toArray from p) (by simp; lia) fun h' eb=>⟨rfl,I.turned (t':=s.toks) (fun b o hb e=>eb b o hb e) f0 f1 f3 f4 f5⟩
 self:=fun _ _ _ _ _ st h=>wpAny_pyIter_tupleiter st h
theorem gu {P:Program} {w:World} {K:PySem.W.Frag} {tg:Expr} (it:Addr) (lo:Int) (n:Nat):jj P w K tg (Itr lo n) [it] it (fun i h=>IsRangeIter h it (lo + (i:Nat) * 1) ((n:Int) - (i:Nat)) 1) where
 mem:=by simp
 obj:=fun i h st b hb=>by
  have e:b=it:=by simpa using hb
  subst e
  exact ⟨_,st,fun v z=>by
   have z':Data.fields _=Data.cell v:=z
   cases z'⟩
 keep:=fun i h h' st k=>k it (by simp) _ st
 item:=by
  intro X hP hw hK hc i pins s σ H E I hf st hg
  subst hP hw hK
  obtain ⟨f0,f1,f2,f3,f4,f5⟩:=hf it (by simp)
  have W:=Walks.range (prog:=X.prog) (w:=X.w) (I.ok.hd hc) it lo 1 n
  refine W.item i s _ _ hg st fun v h' tk hv st' kk=>?_
  obtain ⟨t,rfl⟩:=hv
  have I1:Inv X pins σ H { s with heap:=h',toks:=tk }:=I.turned (fun b o hb e=>kk b o (by simpa using hb) e) f0 f1 f3 f4 f5
  refine ⟨_,rfl,jk (s:={ s with heap:=h',toks:=tk }) (n:="range_iterator") st' rfl rfl (by decide) ⟨.int (lo + i),H,I1,⟨t,?_⟩,⟨rfl,rfl⟩,st',fun b hb=>(hf b hb).1⟩⟩
  rw [Int.mul_one]
 done:=by
  intro X hP hw hK hc i pins s σ H E I hf st hg
  subst hP hw hK
  obtain ⟨f0,f1,f2,f3,f4,f5⟩:=hf it (by simp)
  exact wpAny_pyNext_range_end (I.ok.hd hc) st (by have:n <= i:=hg; lia) fun h' eb=>⟨rfl,I.turned (t':=s.toks) (fun b o hb e=>eb b o hb e) f0 f1 f3 f4 f5⟩
 self:=fun _ _ _ _ _ st h=>wpAny_pyIter_rangeiter st h
section
variable {X:Cx} {tg:Expr}
def iList (K:PySem.W.Frag) (tl:TE):TI:=fun σ H R=>tl σ H fun x H1=>∃ a,x=.ref a /\ (∃ xs,SqL K H1 a xs) /\ R (Itl K a) H1
def iTup (K:PySem.W.Frag) (tl:TE):TI:=fun σ H R=>tl σ H fun x H1=>∃ a,x=.ref a /\ (∃ xs,SqT K H1 a xs) /\ R (Itt K a) H1
theorem dP {l:Expr} {tl:TE} (hl:PE X l tl):PI X tg l (iList X.K tl):=by
 intro pins s σ H R I h
 refine thn (hl pins s σ H _ I h) fun v s1 ⟨x,H1,I1,r1,q1⟩=>?_
 obtain ⟨a,e,⟨xs,hq⟩,q⟩:=q1
 subst e
 cases r1
 obtain ⟨its,rv,p,hz⟩:=I1.list hq
 refine wpAny_pyIter_list p.isList ?_
 refine ⟨s1.heap.objs.size,[s1.heap.objs.size],_,_,H1,rfl,I1.kept (t':=s1.toks) fun b o e=>Heap.get?_push_of_some _ e,lC a _,⟨_,Heap.get?_push_size _ rfl,rfl,rfl⟩,fun b hb=>?_,q⟩
 have e:b=s1.heap.objs.size:=by simpa using hb
 subst e
 exact I1.fpOk (Nat.le_refl _) (I1.hok.fresh (Nat.le_refl _))
theorem cM {l:Expr} {tl:TE} (hl:PE X l tl):PI X tg l (iTup X.K tl):=by
 intro pins s σ H R I h
 refine thn (hl pins s σ H _ I h) fun v s1 ⟨x,H1,I1,r1,q1⟩=>?_
 obtain ⟨a,e,⟨xs,hq⟩,q⟩:=q1
 subst e
 cases r1
 obtain ⟨its,rv,p,hz⟩:=I1.tuple hq
 refine wpAny_pyIter_tuple (show s1.heap.IsTuple a its.toArray from p) ?_
 refine ⟨s1.heap.objs.size,[s1.heap.objs.size],_,_,H1,rfl,I1.kept (t':=s1.toks) fun b o e=>Heap.get?_push_of_some _ e,jU a _,⟨_,Heap.get?_push_size _ rfl,rfl,rfl⟩,fun b hb=>?_,q⟩
 have e:b=s1.heap.objs.size:=by simpa using hb
 subst e
 exact I1.fpOk (Nat.le_refl _) (I1.hok.fresh (Nat.le_refl _))
theorem mK {pins:List (Addr × Obj)} {σ:St} {H:Hp} {s:Shared} {R:It -> Hp -> Prop} {E:Value -> Shared -> Prop} {lo hi:Int} {t u v:Tok} {tk:Nat} (I:Inv X pins σ H s) (h1:-(2 ^ 62) <= lo) (h2:lo < 2 ^ 62) (h3:-(2 ^ 62) <= hi) (h4:hi < 2 ^ 62)
  (q:R (Itr lo (hi - lo).toNat) H):wpAny (model X.prog X.w) X.A (pyIter (.ref s.heap.objs.size)) (PIE X pins σ tg R) E { s with heap:=s.heap.push { cls:=.type "range",data:=.fields #[.int lo t,.int hi u,.int 1 v] },toks:=tk }:=by
 refine wpAny_pyIter_range (IsRange.new ..) (small_one h1 h2 h3 h4) ?_
 have I1:Inv X pins σ H { s with heap:=s.heap.push { cls:=.type "range",data:=.fields #[.int lo t,.int hi u,.int 1 v] },toks:=tk }:=I.kept fun b o e=>Heap.get?_push_of_some _ e
 refine ⟨(s.heap.push { cls:=.type "range",data:=.fields #[.int lo t,.int hi u,.int 1 v] }).objs.size,[(s.heap.push { cls:=.type "range",data:=.fields #[.int lo t,.int hi u,.int 1 v] }).objs.size],_,_,H,rfl,
  I1.kept (t':=tk) fun b o e=>Heap.get?_push_of_some _ e,gu _ lo (hi - lo).toNat,?_,fun b hb=>?_,q⟩
 ·have e1:lo + ((0:Nat):Int) * 1=lo:=by simp
  have e2:(((hi - lo).toNat:Nat):Int) - ((0:Nat):Int)=Builtin.Range.rangeSize lo hi 1:=by rw [rangeSize_one]; split <;> lia
  show IsRangeIter _ _ (lo + ((0:Nat):Int) * 1) ((((hi - lo).toNat:Nat):Int) - ((0:Nat):Int)) 1
  rw [e1,e2]
  exact Heap.get?_push_size _ rfl
 ·have e:b=(s.heap.push { cls:=.type "range",data:=.fields #[.int lo t,.int hi u,.int 1 v] }).objs.size:=by simpa using hb
  subst e
  exact I1.fpOk (Nat.le_refl _) (I1.hok.fresh (Nat.le_refl _))
def iRng1 (ta:TA):TI:=fun σ H R=>ta σ H fun vs H1=>∃ j:Int,vs=[.int j] /\ -(2 ^ 62) <= j /\ j < 2 ^ 62 /\ R (Itr 0 j.toNat) H1
theorem de {a:Expr} {ta:TA} {p pos:Pos} (hg:Gl X "range") (hm:X.mg "range"=none) (ha:PA X [a] ta) (hs:starEach [a] X.env=[(false,eval a X.env)]:=by rfl):PI X tg (.Call (.Name "range" p) [a] [] pos) (iRng1 ta):=by
 intro pins s σ H R I h
 refine Call_ (eE I hg hm boot_range (PyProof.Rows.callWith_type1 (thn (ha pos pins s σ H _ I h) fun us s1 ⟨vs,H1,I1,r1,q1⟩=>?_) hs rfl))
 obtain ⟨j,e,q1,q2,q⟩:=q1
 subst e
 cases r1 with
 | cons r rr =>
  cases rr
  obtain ⟨t,rfl⟩:=r
  exact call_range_1 (mK I1 (by lia) (by lia) q1 q2 (by simpa using q))
def tFor (wi:TI) (g:TG) (tb:TS):TS:=fun D σ H=>wi σ H fun J H1=>∃ W:Nat -> Nat -> St -> Hp -> Prop,(∃ m,W 0 m σ H1) /\ ∀ i m σ H,W i m σ H ->
 (J.stop i H /\ D.nx σ H) \/ (J.go i H /\ ∃ N:St -> Hp -> Prop,(∀ σ' H',N σ' H' -> ∃ m',m' < m /\ W (i + 1) m' σ' H') /\ ∀ x H',J.yld i H x H' -> g x σ H' fun σ2 H2=>tb { D with nx:=N,ct:=N,bk:=D.nx } σ2 H2)
def fw (fp:List Addr) (h:Heap):List (Addr × Obj):=fp.filterMap fun b=>(h.get? b).map fun o=>(b,o)
theorem cu {fp:List Addr} {h:Heap} {b:Addr} {o:Obj} (hb:b ∈ fp) (e:h.get? b=some o):(b,o) ∈ fw fp h:=List.mem_filterMap.mpr ⟨b,hb,by rw [e]; rfl⟩
theorem lD {fp:List Addr} {h:Heap} {p:Addr × Obj} (hp:p ∈ fw fp h):p.1 ∈ fp /\ h.get? p.1=some p.2:=by
 obtain ⟨b,hb,e⟩:=List.mem_filterMap.mp hp
 cases q:h.get? b with
 | none=>rw [q] at e; cases e
 | some o =>
  rw [q] at e
  have e':(b,o)=p:=Option.some.inj e
  subst e'
  exact ⟨hb,q⟩
theorem Inv.pinned {pins:List (Addr × Obj)} {σ:St} {H:Hp} {s:Shared} {fp:List Addr} (I:Inv X pins σ H s) (hf:∀ b ∈ fp,ej X pins H b) (ho:∀ b ∈ fp,∃ o,s.heap.get? b=some o /\ ∀ v,o.data ≠ .cell v):Inv X (pins ++ fw fp s.heap) σ H s :=
 I.pins_of fun p hp=>(List.mem_append.mp hp).elim (fun z=>I.pin p (List.mem_append_right _ z)) fun z=>by
  obtain ⟨hb,e⟩:=lD z
  obtain ⟨f0,f1,f2,_⟩:=hf p.1 hb
  obtain ⟨o,e',d⟩:=ho p.1 hb
  rw [e] at e'; cases e'
  exact ⟨e,f0,f1,f2,d⟩
theorem Inv.unpinned {pins pl:List (Addr × Obj)} {σ:St} {H:Hp} {s:Shared} (I:Inv X (pins ++ pl) σ H s):Inv X pins σ H s:=I.pins_of fun p hp=>I.pin p (List.mem_append_right _ (List.mem_append_left _ hp))
theorem eG {iter:Expr} {body:List Stmt} {wi:TI} {g:TG} {tb:TS} {pos:Pos} (hp:PassesOwn (model X.prog X.w) X.A X.env X.xe) (hc:X.calm=true) (hi:PI X tg iter wi) (hg:PG X tg g) (hb:PSs X body tb)
  (hs:∀ x,foldedSetIterable iter X.env x=pure x:=by intro _; rfl):PS X (.For tg iter body [] pos) (tFor wi g tb):=by
 intro pins s σ H D I h
 refine wpAny_For (thn (hi pins s σ H _ I h) fun v s1 h1=>thn h1 fun itv s2 h2=>?_) hs
 obtain ⟨it,fp,tn,J,H2,e,I2,T,st2,f2,W,⟨m0,w0⟩,turn⟩:=h2
 subst e
 have stat:∀ {H':Hp},(∀ b ∈ fp,H' b=none) -> ∀ b ∈ fp,ej X pins H' b:=fun hn b hb=>⟨hn b hb,(f2 b hb).2⟩
 refine codeAny_forLoop_any (fun n s'=>∃ i σ' H',Inv X pins σ' H' s' /\ tn i s'.heap /\ (∀ b ∈ fp,H' b=none) /\ W i n σ' H') ?_ m0 ⟨0,σ,H2,I2,st2,fun b hb=>(f2 b hb).1,w0⟩
 rintro n s3 ⟨i,σ3,H3,I3,st3,fr3,w3⟩
 rcases turn i n σ3 H3 w3 with ⟨stop,qn⟩ | ⟨go,N,hN,step⟩
 ·refine wpAny_passesOwn hp (thn (T.done X rfl rfl rfl hc i pins s3 σ3 H3 X.xe I3 (stat fr3) st3 stop) fun r s4 ⟨hr,I4⟩=>?_)
  subst hr
  exact wpAny_execs_nil ⟨σ3,H3,I4,qn⟩
 ·refine wpAny_passesOwn hp (thn (T.item X rfl rfl rfl hc i pins s3 σ3 H3 X.xe I3 (stat fr3) st3 go) fun r s4 ⟨u,hr,h4⟩=>?_)
  subst hr
  refine wpAny_passesOwn hp (thn h4 fun _ s5 ⟨x,H5,I5,r5,y5,st5,fr5⟩=>?_)
  have I5':=I5.pinned (stat fr5) (T.obj _ _ st5)
  refine wpAny_passesOwn hp (thn (hg _ s5 σ3 H5 x u _ I5' r5 (step x H5 y5)) fun _ s6 ⟨σ6,H6,I6,q6⟩=>?_)
  refine wpAny_passesOwn hp (thn (hb _ s6 σ6 H6 _ I6 q6) fun f s7 q7=>?_)
  have again:∀ {σ7:St} {H7:Hp},Inv X (pins ++ fw fp s5.heap) σ7 H7 s7 -> N σ7 H7 -> ∃ m,m < n /\ ∃ i σ' H',Inv X pins σ' H' s7 /\ tn i s7.heap /\ (∀ b ∈ fp,H' b=none) /\ W i m σ' H':=fun {σ7 H7} I7 n7=>by
   obtain ⟨m',hm,w7⟩:=hN σ7 H7 n7
   refine ⟨m',hm,i + 1,σ7,H7,I7.unpinned,T.keep _ _ _ st5 fun b hb o e=>(I7.pin (b,o) (List.mem_append_right _ (List.mem_append_right _ (cu hb e)))).1,fun b hb=>?_,w7⟩
   obtain ⟨o,e,d⟩:=T.obj _ _ st5 b hb
   exact (I7.pin (b,o) (List.mem_append_right _ (List.mem_append_right _ (cu hb e)))).2.1
  cases f with
  | next=>obtain ⟨σ7,H7,I7,n7⟩:=q7; exact again I7 n7
  | cont=>obtain ⟨σ7,H7,I7,n7⟩:=q7; exact again I7 n7
  | brk=>obtain ⟨σ7,H7,I7,q7⟩:=q7; exact ⟨σ7,H7,I7.unpinned,q7⟩
  | ret v=>obtain ⟨x7,σ7,H7,I7,r7,q7⟩:=q7; exact ⟨x7,σ7,H7,I7.unpinned,r7,q7⟩
end
theorem mL {K:PySem.W.Frag} {a:Addr} {xs:List V} {g:TG} {tb:TS} {D:eC} {σ:St} {H:Hp} (Pv:Nat -> St -> Hp -> Prop) (h0:Pv 0 σ H) (hl:∀ i σ H,i <= xs.length -> Pv i σ H -> SqL K H a xs)
  (hs:∀ i x σ H,xs[i]?=some x -> Pv i σ H -> g x σ H fun σ2 H2=>tb { D with nx:=Pv (i + 1),ct:=Pv (i + 1),bk:=D.nx } σ2 H2) (hd:∀ σ H,Pv xs.length σ H -> D.nx σ H) :
  ∃ W:Nat -> Nat -> St -> Hp -> Prop,(∃ m,W 0 m σ H) /\ ∀ i m σ H,W i m σ H ->
   ((Itl K a).stop i H /\ D.nx σ H) \/ ((Itl K a).go i H /\ ∃ N:St -> Hp -> Prop,(∀ σ' H',N σ' H' -> ∃ m',m' < m /\ W (i + 1) m' σ' H') /\ ∀ x H',(Itl K a).yld i H x H' -> g x σ H' fun σ2 H2=>tb { D with nx:=N,ct:=N,bk:=D.nx } σ2 H2):=by
 refine ⟨fun i m σ H=>m=xs.length - i /\ i <= xs.length /\ Pv i σ H,⟨xs.length,by simp,Nat.zero_le _,h0⟩,?_⟩
 rintro i m σ H ⟨rfl,hi,p⟩
 have q:=hl i σ H hi p
 by_cases hlt:i < xs.length
 ·refine .inr ⟨⟨xs,xs[i],q,by simp [hlt]⟩,Pv (i + 1),fun σ' H' p'=>⟨xs.length - (i + 1),by lia,rfl,hlt,p'⟩,fun x H' y=>?_⟩
  obtain ⟨e,y⟩:=y
  subst e
  exact hs i x σ _ (y xs q) p
 ·have e:i=xs.length:=by lia
  subst e
  exact .inl ⟨⟨xs,q,Nat.le_refl _⟩,hd σ H p⟩
theorem iS {K:PySem.W.Frag} {a:Addr} {xs:List V} {g:TG} {tb:TS} {D:eC} {σ:St} {H:Hp} (Pv:Nat -> St -> Hp -> Prop) (h0:Pv 0 σ H) (hl:∀ i σ H,i <= xs.length -> Pv i σ H -> SqT K H a xs)
  (hs:∀ i x σ H,xs[i]?=some x -> Pv i σ H -> g x σ H fun σ2 H2=>tb { D with nx:=Pv (i + 1),ct:=Pv (i + 1),bk:=D.nx } σ2 H2) (hd:∀ σ H,Pv xs.length σ H -> D.nx σ H) :
  ∃ W:Nat -> Nat -> St -> Hp -> Prop,(∃ m,W 0 m σ H) /\ ∀ i m σ H,W i m σ H ->
   ((Itt K a).stop i H /\ D.nx σ H) \/ ((Itt K a).go i H /\ ∃ N:St -> Hp -> Prop,(∀ σ' H',N σ' H' -> ∃ m',m' < m /\ W (i + 1) m' σ' H') /\ ∀ x H',(Itt K a).yld i H x H' -> g x σ H' fun σ2 H2=>tb { D with nx:=N,ct:=N,bk:=D.nx } σ2 H2):=by
 refine ⟨fun i m σ H=>m=xs.length - i /\ i <= xs.length /\ Pv i σ H,⟨xs.length,by simp,Nat.zero_le _,h0⟩,?_⟩
 rintro i m σ H ⟨rfl,hi,p⟩
 have q:=hl i σ H hi p
 by_cases hlt:i < xs.length
 ·refine .inr ⟨⟨xs,xs[i],q,by simp [hlt]⟩,Pv (i + 1),fun σ' H' p'=>⟨xs.length - (i + 1),by lia,rfl,hlt,p'⟩,fun x H' y=>?_⟩
  obtain ⟨e,y⟩:=y
  subst e
  exact hs i x σ _ (y xs q) p
 ·have e:i=xs.length:=by lia
  subst e
  exact .inl ⟨⟨xs,q,Nat.le_refl _⟩,hd σ H p⟩
theorem fz {lo:Int} {n:Nat} {g:TG} {tb:TS} {D:eC} {σ:St} {H:Hp} (Pv:Nat -> St -> Hp -> Prop) (h0:Pv 0 σ H)
  (hs:∀ i σ H,i < n -> Pv i σ H -> g (.int (lo + i)) σ H fun σ2 H2=>tb { D with nx:=Pv (i + 1),ct:=Pv (i + 1),bk:=D.nx } σ2 H2) (hd:∀ σ H,Pv n σ H -> D.nx σ H) :
  ∃ W:Nat -> Nat -> St -> Hp -> Prop,(∃ m,W 0 m σ H) /\ ∀ i m σ H,W i m σ H ->
   ((Itr lo n).stop i H /\ D.nx σ H) \/ ((Itr lo n).go i H /\ ∃ N:St -> Hp -> Prop,(∀ σ' H',N σ' H' -> ∃ m',m' < m /\ W (i + 1) m' σ' H') /\ ∀ x H',(Itr lo n).yld i H x H' -> g x σ H' fun σ2 H2=>tb { D with nx:=N,ct:=N,bk:=D.nx } σ2 H2):=by
 refine ⟨fun i m σ H=>m=n - i /\ i <= n /\ Pv i σ H,⟨n,by simp,Nat.zero_le _,h0⟩,?_⟩
 rintro i m σ H ⟨rfl,hi,p⟩
 by_cases hlt:i < n
 ·refine .inr ⟨hlt,Pv (i + 1),fun σ' H' p'=>⟨n - (i + 1),by lia,rfl,hlt,p'⟩,fun x H' y=>?_⟩
  obtain ⟨e,y⟩:=y
  subst e y
  exact hs i σ _ hlt p
 ·have e:i=n:=by lia
  subst e
  exact .inl ⟨Nat.le_refl _,hd σ H p⟩
abbrev R2:=V -> V -> Hp -> VK -> Prop
def OpR (X:Cx) (f:Value -> Value -> Sem Value) (r:R2):Prop :=
 ∀ (pins:List (Addr × Obj)) (s:Shared) (σ:St) (H:Hp) (x y:V) (v u:Value) (Q:VK),Inv X pins σ H s -> bu x v -> bu y u -> r x y H Q ->
  wpAny (model X.prog X.w) X.A (f v u) (EP X pins σ Q) X.xe s
def cj (X:Cx) (f:Value) (r:List V -> Hp -> VK -> Prop):Prop :=
 ∀ (pins:List (Addr × Obj)) (s:Shared) (σ:St) (H:Hp) (xs:List V) (us:List Value) (Q:VK),Inv X pins σ H s -> aZ xs us -> r xs H Q ->
  wpAny (model X.prog X.w) X.A (call f us) (EP X pins σ Q) X.xe s
def tOp (r:R2) (ta tb:TE):TE:=fun σ H Q=>ta σ H fun x H1=>tb σ H1 fun y H2=>r x y H2 Q
def rI (C:Int -> Int -> Prop) (g:Int -> Int -> V):R2:=fun x y H Q=>∃ i j,x=.int i /\ y=.int j /\ C i j /\ Q (g i j) H
def rI0 (g:Int -> Int -> V):R2:=fun x y H Q=>∃ i j,x=.int i /\ y=.int j /\ Q (g i j) H
section
variable {X:Cx} {a b c:Expr} {ta tb tc:TE} {pos:Pos}
theorem binT (ha:PE X a ta) (hb:PE X b tb) {pins:List (Addr × Obj)} {s:Shared} {σ:St} {H:Hp} {R:V -> V -> Hp -> Prop} (I:Inv X pins σ H s)
  (h:ta σ H fun x H1=>tb σ H1 fun y H2=>R x y H2) {Q:Value -> Shared -> Prop} {f:Value -> Value -> Sem Value}
  (hf:∀ v u s2 x y H2,Inv X pins σ H2 s2 -> bu x v -> bu y u -> R x y H2 -> wpAny (model X.prog X.w) X.A (f v u) Q X.xe s2) :
  wpAny (model X.prog X.w) X.A (eval a X.env) (fun v s₁=>wpAny (model X.prog X.w) X.A (eval b X.env) (fun u s₂=>wpAny (model X.prog X.w) X.A (f v u) Q X.xe s₂) X.xe s₁) X.xe s:=by
 refine thn (ha pins s σ H _ I h) fun v s1 ⟨x,H1,I1,r1,q1⟩=>?_
 refine thn (hb pins s1 σ H1 _ I1 q1) fun u s2 ⟨y,H2,I2,r2,q2⟩=>?_
 exact hf v u s2 x y H2 I2 r1 r2 q2
theorem aj {op:Operator} {r:R2} (ho:OpR X (binaryOp op) r) (ha:PE X a ta) (hb:PE X b tb):PE X (.BinOp a op b pos) (tOp r ta tb):=by
 intro pins s σ H Q I h
 exact wpAny_BinOp (binT ha hb I h fun v u s2 x y H2 I2 rx ry q=>ho pins s2 σ H2 x y v u Q I2 rx ry q)
theorem opI {f:Value -> Value -> Sem Value} {C:Int -> Int -> Prop} {g:Int -> Int -> Int}
  (rule:∀ (i j:Int) (t u:Tok) (s:Shared) (Q:Value -> Shared -> Prop) (E:Value -> Shared -> Prop),C i j -> Q (.int (g i j) s.toks) { s with toks:=s.toks + 1 } -> wpAny (model X.prog X.w) X.A (f (.int i t) (.int j u)) Q E s) :
  OpR X f (rI C fun i j=>.int (g i j)):=by
 intro pins s σ H x y v u Q I rx ry h
 obtain ⟨i,j,rfl,rfl,hc,q⟩:=h
 obtain ⟨t,rfl⟩:=rx
 obtain ⟨t',rfl⟩:=ry
 exact rule i j t t' s _ _ hc ⟨.int (g i j),H,I.tok _,⟨_,rfl⟩,q⟩
theorem opI0 {f:Value -> Value -> Sem Value} {g:Int -> Int -> Int}
  (rule:∀ (i j:Int) (t u:Tok) (s:Shared) (Q:Value -> Shared -> Prop) (E:Value -> Shared -> Prop),Q (.int (g i j) s.toks) { s with toks:=s.toks + 1 } -> wpAny (model X.prog X.w) X.A (f (.int i t) (.int j u)) Q E s) :
  OpR X f (rI0 fun i j=>.int (g i j)):=by
 intro pins s σ H x y v u Q I rx ry h
 obtain ⟨i,j,rfl,rfl,q⟩:=h
 obtain ⟨t,rfl⟩:=rx
 obtain ⟨t',rfl⟩:=ry
 exact rule i j t t' s _ _ ⟨.int (g i j),H,I.tok _,⟨_,rfl⟩,q⟩
theorem opB0 {f:Value -> Value -> Sem Value} {g:Int -> Int -> Bool}
  (rule:∀ (i j:Int) (t u:Tok) (s:Shared) (Q:Value -> Shared -> Prop) (E:Value -> Shared -> Prop),Q (.bool (g i j)) s -> wpAny (model X.prog X.w) X.A (f (.int i t) (.int j u)) Q E s) :
  OpR X f (rI0 fun i j=>.bl (g i j)):=by
 intro pins s σ H x y v u Q I rx ry h
 obtain ⟨i,j,rfl,rfl,q⟩:=h
 obtain ⟨t,rfl⟩:=rx
 obtain ⟨t',rfl⟩:=ry
 exact rule i j t t' s _ _ ⟨.bl (g i j),H,I,rfl,q⟩
def CDiv (i j:Int):Prop:=0 < j /\ j < 1073741824
def CPow (i j:Int):Prop:=0 <= j /\ j <= 1000000 /\ i.natAbs < 2 ^ 64
def CMul (i j:Int):Prop:=(-(2 ^ 64) < i /\ i < 2 ^ 64) \/ (-(2 ^ 64) < j /\ j < 2 ^ 64)
theorem CMul.ok {i j:Int} (h:CMul i j):IntMulOk i j:=by
 rcases h with ⟨h1,h2⟩ | ⟨h1,h2⟩
 ·exact .of_left (intBits_le_64 h1 h2)
 ·exact .of_right (intBits_le_64 h1 h2)
theorem bd:OpR X (binaryOp .Add) (rI0 fun i j=>.int (i + j)):=opI0 fun _ _ _ _ _ _ _ q=>add_int q
theorem da:OpR X (binaryOp .Sub) (rI0 fun i j=>.int (i - j)):=opI0 fun _ _ _ _ _ _ _ q=>sub_int q
theorem db:OpR X (binaryOp .Mult) (rI CMul fun i j=>.int (i * j)):=opI fun _ _ _ _ _ _ _ hc q=>mul_int q hc.ok
theorem bx:OpR X (binaryOp .FloorDiv) (rI CDiv fun i j=>.int (i / j)):=opI fun i j _ _ _ _ _ hc q=>by
 have h1:(0:Int) < j:=hc.1
 have h2:j < 1073741824:=hc.2
 exact floordiv_int (by lia) (by rw [Int.fdiv_eq_ediv_of_nonneg i (by lia)]; exact q) (.inl (PyProof.noPylong_small (by lia)))
theorem aS:OpR X (binaryOp .Mod) (rI (fun _ j=>0 < j) fun i j=>.int (i % j)):=opI fun i j _ _ _ _ _ hc q=>by
 have h1:(0:Int) < j:=hc
 exact mod_int' (by lia) (by rw [Int.fmod_eq_emod_of_nonneg i (by lia)]; exact q)
theorem iT:OpR X (binaryOp .Pow) (rI CPow fun i j=>.int (i ^ j.toNat)):=opI fun _ _ _ _ _ _ _ hc q=>pow_int_small hc.1 hc.2.1 hc.2.2 q
end
def scal:V -> V -> Bool
 | .non,.non=>true | .non,.int _=>true | .int _,.non=>true | .non,.bl _=>true | .bl _,.non=>true | .non,.str _=>true | .str _,.non=>true
 | .int _,.int _=>true | .bl _,.bl _=>true | .str _,.str _=>true | .byt _,.byt _=>true
 | .int _,.str _=>true | .str _,.int _=>true | .bl _,.str _=>true | .str _,.bl _=>true
 | _,_=>false
def rEq:R2:=fun x y H Q=>scal x y=true /\ Q (.bl (decide (x=y))) H
def rNe:R2:=fun x y H Q=>scal x y=true /\ Q (.bl (!decide (x=y))) H
theorem kE {i j:Int}:decide (V.int i=V.int j)=(i == j):=by
 rw [Bool.eq_iff_iff]
 simp
theorem mM {i j:Bool}:decide (V.bl i=V.bl j)=(i == j):=by
 rw [Bool.eq_iff_iff]
 simp
theorem kF {i j:Str}:decide (V.str i=V.str j)=(i == j):=by
 rw [Bool.eq_iff_iff]
 simp
theorem kG {i j:Array UInt8}:decide (V.byt i=V.byt j)=(i.toList == j.toList):=by
 rw [Bool.eq_iff_iff]
 cases i
 cases j
 simp
section
variable {X:Cx} {a b c:Expr} {ta tb tc:TE} {pos:Pos}
theorem aW {pins:List (Addr × Obj)} {σ:St} {H:Hp} {s:Shared} {Q:VK} {k k':Bool} (I:Inv X pins σ H s) (q:Q (.bl k) H) (e:k=k'):EP X pins σ Q (.bool k') s:=by
 subst e
 exact ⟨.bl k,H,I,rfl,q⟩
theorem bK:OpR X (compareOp .Eq) rEq:=by
 intro pins s σ H x y v u Q I rx ry h
 obtain ⟨hs,q⟩:=h
 cases x with
 | non =>
  cases rx
  cases y with
  | non=>cases ry; exact PySem.EqNone.eq_none_none (aW I q (by simp))
  | bl j=>cases ry; exact PySem.EqNone.eq_none_bool (aW I q (by simp))
  | int j=>obtain ⟨t',rfl⟩:=ry; exact PySem.EqNone.eq_none_int (aW I q (by simp))
  | str j=>obtain ⟨t',rfl⟩:=ry; exact PySem.EqNone.eq_none_str (aW I q (by simp))
  | _=>exact absurd (show false=true from hs) Bool.false_ne_true
 | bl i =>
  cases rx
  cases y with
  | non=>cases ry; exact PySem.EqNone.eq_bool_none (aW I q (by simp))
  | bl j=>cases ry; exact eq_bool (aW I q mM)
  | str j=>obtain ⟨t',rfl⟩:=ry; exact PySem.EqMixed.eq_bool_str (aW I q (by simp))
  | _=>exact absurd (show false=true from hs) Bool.false_ne_true
 | int i =>
  obtain ⟨t,rfl⟩:=rx
  cases y with
  | non=>cases ry; exact PySem.EqNone.eq_int_none (aW I q (by simp))
  | int j=>obtain ⟨t',rfl⟩:=ry; exact eq_int (aW I q kE)
  | str j=>obtain ⟨t',rfl⟩:=ry; exact PySem.EqMixed.eq_int_str (aW I q (by simp))
  | _=>exact absurd (show false=true from hs) Bool.false_ne_true
 | str i =>
  obtain ⟨t,rfl⟩:=rx
  cases y with
  | non=>cases ry; exact PySem.EqNone.eq_str_none (aW I q (by simp))
  | bl j=>cases ry; exact PySem.EqMixed.eq_str_bool (aW I q (by simp))
  | int j=>obtain ⟨t',rfl⟩:=ry; exact PySem.EqMixed.eq_str_int (aW I q (by simp))
  | str j=>obtain ⟨t',rfl⟩:=ry; exact eq_str (aW I q kF)
  | _=>exact absurd (show false=true from hs) Bool.false_ne_true
 | byt i =>
  obtain ⟨t,rfl⟩:=rx
  cases y with
  | byt j=>obtain ⟨t',rfl⟩:=ry; exact PySem.W.eq_bytes (aW I q kG)
  | _=>exact absurd (show false=true from hs) Bool.false_ne_true
 | _=>cases y <;> exact absurd (show false=true from hs) Bool.false_ne_true
theorem il:OpR X (compareOp .NotEq) rNe:=by
 intro pins s σ H x y v u Q I rx ry h
 obtain ⟨hs,q⟩:=h
 cases x with
 | non =>
  cases rx
  cases y with
  | non=>cases ry; exact PySem.EqNone.ne_none_none (aW I q (by simp))
  | bl j=>cases ry; exact PySem.EqNone.ne_none_bool (aW I q (by simp))
  | int j=>obtain ⟨t',rfl⟩:=ry; exact PySem.EqNone.ne_none_int (aW I q (by simp))
  | str j=>obtain ⟨t',rfl⟩:=ry; exact PySem.EqNone.ne_none_str (aW I q (by simp))
  | _=>exact absurd (show false=true from hs) Bool.false_ne_true
 | bl i =>
  cases rx
  cases y with
  | non=>cases ry; exact PySem.EqNone.ne_bool_none (aW I q (by simp))
  | bl j=>cases ry; exact ne_bool (aW I q (congrArg not mM))
  | str j=>obtain ⟨t',rfl⟩:=ry; exact PySem.EqMixed.ne_bool_str (aW I q (by simp))
  | _=>exact absurd (show false=true from hs) Bool.false_ne_true
 | int i =>
  obtain ⟨t,rfl⟩:=rx
  cases y with
  | non=>cases ry; exact PySem.EqNone.ne_int_none (aW I q (by simp))
  | int j=>obtain ⟨t',rfl⟩:=ry; exact ne_int (aW I q (congrArg not kE))
  | str j=>obtain ⟨t',rfl⟩:=ry; exact PySem.EqMixed.ne_int_str (aW I q (by simp))
  | _=>exact absurd (show false=true from hs) Bool.false_ne_true
 | str i =>
  obtain ⟨t,rfl⟩:=rx
  cases y with
  | non=>cases ry; exact PySem.EqNone.ne_str_none (aW I q (by simp))
  | bl j=>cases ry; exact PySem.EqMixed.ne_str_bool (aW I q (by simp))
  | int j=>obtain ⟨t',rfl⟩:=ry; exact PySem.EqMixed.ne_str_int (aW I q (by simp))
  | str j=>obtain ⟨t',rfl⟩:=ry; exact ne_str (aW I q (congrArg not kF))
  | _=>exact absurd (show false=true from hs) Bool.false_ne_true
 | byt i =>
  obtain ⟨t,rfl⟩:=rx
  cases y with
  | byt j=>obtain ⟨t',rfl⟩:=ry; exact PySem.W.ne_bytes (aW I q (congrArg not kG))
  | _=>exact absurd (show false=true from hs) Bool.false_ne_true
 | _=>cases y <;> exact absurd (show false=true from hs) Bool.false_ne_true
theorem cN:OpR X (compareOp .Lt) (rI0 fun i j=>.bl (decide (i < j))):=opB0 fun _ _ _ _ _ _ _ q=>lt_int q
theorem op_le:OpR X (compareOp .LtE) (rI0 fun i j=>.bl (decide (i <= j))):=opB0 fun _ _ _ _ _ _ _ q=>le_int q
theorem fN:OpR X (compareOp .Gt) (rI0 fun i j=>.bl (decide (j < i))):=opB0 fun _ _ _ _ _ _ _ q=>gt_int q
theorem op_ge:OpR X (compareOp .GtE) (rI0 fun i j=>.bl (decide (j <= i))):=opB0 fun _ _ _ _ _ _ _ q=>ge_int q
theorem lE:OpR X (compareOp .Lt) (fun x y H Q=>∃ i j,x=.str i /\ y=.str j /\ Q (.bl (decide (i.cps.toList < j.cps.toList))) H):=by
 intro pins s σ H x y v u Q I rx ry h
 obtain ⟨i,j,rfl,rfl,q⟩:=h
 obtain ⟨t,rfl⟩:=rx
 obtain ⟨t',rfl⟩:=ry
 exact lt_str (aW I q rfl)
theorem im:OpR X (compareOp .In) (fun x y H Q=>∃ i j,x=.str i /\ y=.str j /\ Q (.bl (!(Builtin.Str.occurrences j i 0 j.length 1).isEmpty)) H):=by
 intro pins s σ H x y v u Q I rx ry h
 obtain ⟨i,j,rfl,rfl,q⟩:=h
 obtain ⟨t,rfl⟩:=rx
 obtain ⟨t',rfl⟩:=ry
 exact in_str (aW I q rfl)
theorem aC (b:Expr) {op:CmpOp} (h:op ≠ .In:=by decide) (h2:op ≠ .NotIn:=by decide):behindInMarks op b=false:=by
 have e1:(op == CmpOp.In)=false:=by cases op <;> first | rfl | exact absurd rfl h
 have e2:(op == CmpOp.NotIn)=false:=by cases op <;> first | rfl | exact absurd rfl h2
 cases b <;> simp [behindInMarks,e1,e2]
theorem bo {op:CmpOp} {r:R2} (ho:OpR X (compareOp op) r) (ha:PE X a ta) (hb:PE X b tb) (hm:behindInMarks op b=false):PE X (.Compare a [op] [b] pos) (tOp r ta tb):=by
 intro pins s σ H Q I h
 exact wpAny_Compare1 (binT ha hb I h fun v u s2 x y H2 I2 rx ry q=>ho pins s2 σ H2 x y v u Q I2 rx ry q) hm
def tTest (t:TE):TT:=fun σ H Q=>t σ H fun x H'=>∃ k,x=.bl k /\ Q k H'
theorem aE {op:CmpOp} {r:R2} (ho:OpR X (compareOp op) r) (ha:PE X a ta) (hb:PE X b tb) (hm:behindInMarks op b=false):PT X (.Compare a [op] [b] pos) (tTest (tOp r ta tb)):=by
 intro pins s σ H Q I h
 refine wpAny_isTrue_Compare1 (thn (ha pins s σ H _ I h) fun v s1 ⟨x,H1,I1,r1,q1⟩=>thn (hb pins s1 σ H1 _ I1 q1) fun u s2 ⟨y,H2,I2,r2,q2⟩ =>
  thn (ho pins s2 σ H2 x y v u _ I2 r1 r2 q2) fun c s3 ⟨z,H3,I3,r3,k,e,q3⟩=>?_) hm
 subst e
 cases r3
 exact wpAny_truthy_bool ⟨H3,I3,q3⟩
theorem gw:(sizeLine:Nat) < 2 ^ 63:=by rw [sizeLine_eq]; decide
theorem aq:OpR X (binaryOp .Add) (fun x y H Q=>∃ i j,x=.str i /\ y=.str j /\ i.length + j.length <= sizeLine /\ Q (.str (i ++ j)) H):=by
 intro pins s σ H x y v u Q I rx ry h
 obtain ⟨i,j,rfl,rfl,hz,q⟩:=h
 obtain ⟨t,rfl⟩:=rx
 obtain ⟨t',rfl⟩:=ry
 exact add_str (fun t' tk=>⟨.str (i ++ j),H,I.tok _,⟨_,rfl⟩,q⟩) hz
theorem gx {x:V} {us:List Value} (r:aZ [x] us):∃ u,us=[u] /\ bu x u:=by
 cases r with
 | cons r1 r2=>cases r2; exact ⟨_,rfl,r1⟩
theorem gy {x y:V} {us:List Value} (r:aZ [x,y] us):∃ u w',us=[u,w'] /\ bu x u /\ bu y w':=by
 cases r with
 | cons r1 r2 =>
  cases r2 with
  | cons r3 r4=>cases r4; exact ⟨_,_,rfl,r1,r3⟩
theorem lF (hc:X.calm=true):cj X (.builtin "min") (fun xs H Q=>∃ i j,xs=[.int i,.int j] /\ Q (.int (if j < i then j else i)) H):=by
 intro pins s σ H xs us Q I r h
 obtain ⟨i,j,rfl,q⟩:=h
 obtain ⟨u,w',rfl,⟨t,rfl⟩,⟨t',rfl⟩⟩:=gy r
 refine min_two_ints (I.ok.hd hc) fun h' tk k=>⟨_,H,I.kept k,?_,q⟩
 by_cases hj:j < i
 ·rw [if_pos hj,if_pos hj]; exact ⟨_,rfl⟩
 ·rw [if_neg hj,if_neg hj]; exact ⟨_,rfl⟩
theorem dQ:cj X (.type "int") (fun xs H Q=>(∃ i,xs=[.int i] /\ Q (.int i) H) \/ ∃ k,xs=[.bl k] /\ Q (.int (if k then 1 else 0)) H):=by
 intro pins s σ H xs us Q I r h
 rcases h with ⟨i,rfl,q⟩ | ⟨k,rfl,q⟩
 ·obtain ⟨u,rfl,t,rfl⟩:=gx r
  exact call_int_int ⟨.int i,H,I,⟨_,rfl⟩,q⟩
 ·obtain ⟨u,rfl,r1⟩:=gx r
  cases r1
  exact call_int_bool ⟨.int (if k then 1 else 0),H,I.tok _,⟨_,rfl⟩,q⟩
theorem bQ:cj X (.type "str") (fun xs H Q=>∃ i,xs=[.int i] /\ i.natAbs.log2 < 1920 /\ Q (.str (toString i)) H):=by
 intro pins s σ H xs us Q I r h
 obtain ⟨i,rfl,hz,q⟩:=h
 obtain ⟨u,rfl,t,rfl⟩:=gx r
 exact PySem.P.str_of_int hz ⟨.str _,H,I.tok _,⟨_,rfl⟩,q⟩
end
section
variable {prog:Program} {w:World} {A:Around} {E:Value -> Shared -> Prop} {s:Shared} {K:PySem.W.Frag} {x dx C f:Addr} {mA:Str -> Option Value} {name:Str} {v:Value}
end
section
variable {P:Program} {w:World} {H H':Hp} {h h':Heap} {a C dx:Addr} {fs fs':List (Str × V)}
end
section
variable {X:Cx} {pins:List (Addr × Obj)} {σ:St} {H:Hp} {s:Shared} {a C dx:Addr} {fs:List (Str × V)} {f:Str} {v:V} {A:Around} {E:Value -> Shared -> Prop}
end
section
variable {X:Cx} {o e value:Expr} {f:Str} {pos pos' tpos:Pos} {ta tv:TE}
end
section
variable {X:Cx} {pins:List (Addr × Obj)} {σ:St} {H:Hp} {s:Shared} {A:Around} {E:Value -> Shared -> Prop} {Q:Value -> Shared -> Prop} {c:Value} {b:Bool}
end
structure bP (k:Nat) (A:Around):Prop where
 hd:A.handled=none
 dp:A.depth + 3 * k + 5 < recursionLimit
 un:A.units + 16 * k + 200 < cLine
theorem bP.mono {j k:Nat} {A:Around} (r:bP k A) (h:j <= k):bP j A:=⟨r.hd,by have:=r.dp; lia,by have:=r.un; lia⟩
theorem bP.deeper {k:Nat} {A:Around} (r:bP (k + 1) A) (env:Env):bP k (A.deeper env) :=
 ⟨r.hd,by have:=r.dp; show A.depth + 1 + 3 * k + 5 < _; lia,by have:=r.un; show A.units + 3 + 16 * k + 200 < _; lia⟩
theorem bP.depth {k:Nat} {A:Around} (r:bP k A):A.depth < recursionLimit:=by have:=r.dp; lia
theorem bP.units {k:Nat} {A:Around} (r:bP k A):A.units + 64 < cLine:=by have:=r.un; lia
def tNil:TA:=fun _ H Q=>Q [] H
def tCons (ta:TE) (tr:TA):TA:=fun σ H Q=>ta σ H fun x H1=>tr σ H1 fun xs H2=>Q (x :: xs) H2
section
variable {X:Cx} {e:Expr} {es:List Expr} {te:TE} {t:TA} {pos:Pos}
theorem af:PA X [] tNil:=fun _ _ _ _ H Q I h=>Calls.spliced_nil ⟨[],H,I,.nil,h⟩
theorem aa (ha:PE X e te) (hr:PA X es t) (hs:starEach (e :: es) X.env=(false,eval e X.env) :: starEach es X.env:=by rfl):PA X (e :: es) (tCons te t):=by
 intro pos pins s σ H Q I h
 rw [hs]
 show wpAny _ _ (spliced ((false,eval e X.env) :: backTo pos (starEach es X.env))) _ _ s
 refine Calls.spliced_cons (thn (ha pins s σ H _ I h) fun u s1 ⟨x,H1,I1,r1,q1⟩=>?_)
 exact thn (hr pos pins s1 σ H1 _ I1 q1) fun us s2 ⟨xs,H2,I2,r2,q2⟩=>⟨x :: xs,H2,I2,.cons r1 r2,q2⟩
def tTup (t:TA):TE:=fun σ H Q=>t σ H fun xs H1=>xs.length <= sizeLine /\ ∀ p,H1 p=none -> Q (.ref p) (upd H1 p (.tup xs))
def tLst (t:TA):TE:=fun σ H Q=>t σ H fun xs H1=>xs.length <= sizeLine /\ ∀ p,H1 p=none -> Q (.ref p) (upd H1 p (.lst xs))
theorem jV {x1} (h:PA X es t):PE X (.Tuple es x1 pos) (tTup t):=by
 intro pins s σ H Q I hq
 refine wpAny_Tuple_spliced (thn (h pos pins s σ H _ I hq) fun us s1 ⟨xs,H1,I1,r,z,q⟩=>⟨by rw [<- r.length]; exact z,?_⟩)
 have hf:H1 s1.heap.objs.size=none:=I1.hok.fresh (Nat.le_refl _)
 refine ⟨.ref s1.heap.objs.size,upd H1 s1.heap.objs.size (.tup xs),I1.laid (t':=s1.toks) (fun b u e=>Heap.get?_push_of_some _ e) (Nat.le_refl _) ?_,rfl,q _ hf⟩
 exact ⟨z,us,r,⟨_,Heap.get?_push_size _ rfl,rfl,_,rfl⟩⟩
theorem mO (h:PA X es t):PE X (.List es pos) (tLst t):=by
 intro pins s σ H Q I hq
 refine wpAny_List_spliced (thn (h pos pins s σ H _ I hq) fun us s1 ⟨xs,H1,I1,r,z,q⟩=>⟨by rw [<- r.length]; exact z,?_⟩)
 have hf:H1 s1.heap.objs.size=none:=I1.hok.fresh (Nat.le_refl _)
 refine ⟨.ref s1.heap.objs.size,upd H1 s1.heap.objs.size (.lst xs),I1.laid (t':=s1.toks) (fun b u e=>Heap.get?_push_of_some _ e) (Nat.le_refl _) ?_,rfl,q _ hf⟩
 exact ⟨z,us,0,r,Heap.get?_push_size _ rfl⟩
end
abbrev Sp:=List V -> Hp -> VK -> XK -> Prop
abbrev CXT:=List Env -> Hp -> Shared -> XK -> Value -> Shared -> Prop
structure Env0 (P:Program) (w:World) (K:PySem.W.Frag) (mg:Str -> Option Value) (base:Heap) (A:Around) (outer:List Env) (s:Shared) (H:Hp):Prop where
 frames:A.frames=some outer
 mod:Mod K mg base
 bs:∀ b o,base.get? b=some o -> s.heap.get? b=some o /\ H b=none
 bsz:base.objs.size <= s.heap.objs.size
 funs:s.heap.FunFrames base outer
 frf:∀ b ∈ frs outer,H b=none
 hok:HOk P w H s.heap
 bare:AllBare s.gens
def CE (outer:List Env) (P:Program) (w:World) (H:Hp) (s:Shared) (Q:VK) (u:Value) (s':Shared):Prop :=
 ∃ v H',s'.os=s.os /\ AllBare s'.gens /\ Un (frs outer) [] H H' s.heap s'.heap /\ HOk P w H' s'.heap /\ bu v u /\ Q v H'
def CR (CX:CXT) (outer:List Env) (P:Program) (w:World) (H:Hp) (s:Shared) (Q:VK) (E:XK) (r:Result) (s':Shared):Prop :=
 match r with
 | .ok (.ret u)=>CE outer P w H s Q u s'
 | .ok _=>False
 | .error e=>CX outer H s E e s'
structure bG (P:Program) (w:World) (K:PySem.W.Frag) (mg:Str -> Option Value) (base:Heap) (CX:CXT) (k:Nat) (f:Addr) (fd:FuncData) (ps:List Str) (sp:Sp):Prop where
 len:∀ vs H Q E,sp vs H Q E -> vs.length=ps.length
 run:∀ (A:Around) (outer:List Env) (s:Shared) (H:Hp) (args:Args) (us:List Value) (vs:List V) (Q:VK) (E:XK),bP k A -> Env0 P w K mg base A outer s H -> BindsTo s fd args (ps.zip us) -> aZ vs us -> sp vs H Q E ->
  codeAny (model P w) A (.call (.ref f) args) (CR CX outer P w H s Q E) s
section
variable {X:Cx} {pins:List (Addr × Obj)} {σ:St} {H:Hp} {s s':Shared}
theorem Inv.env0 (I:Inv X pins σ H s):Env0 X.prog X.w X.K X.mg X.base X.A X.stack s H :=
 ⟨I.ok.frames,I.ok.mod,I.bs,Nat.le_trans I.ok.bsz I.sz,I.stack,I.stkFree,I.hok,I.bare⟩
theorem Inv.after {Q:VK} {u:Value} (I:Inv X pins σ H s) (h:CE X.stack X.prog X.w H s Q u s'):EP X pins σ Q u s':=by
 obtain ⟨v,H',os,bare,un,hok,r,q⟩:=h
 obtain ⟨hh,g,d,t,os'⟩:=s'
 obtain rfl:os'=s.os:=os
 exact ⟨v,H',I.call (h':=hh) (g':=g) (d':=d) (t':=t) (ch:=[]) un hok bare (fun b z=>absurd z (by simp)),r,q⟩
end
def mP (sp:Sp) (dvs:List V) (E:XK) (t:TA):TE:=fun σ H Q=>t σ H fun vs H1=>sp (vs ++ dvs) H1 Q E
def gz (K:PySem.W.Frag) (fd:FuncData) (ps:List Str) (ds:List Value):Prop :=
 ∀ (s:Shared) (us:List Value),K.In s.heap -> (us ++ ds).length=ps.length -> BindsTo s fd ⟨us,[]⟩ (ps.zip (us ++ ds))
theorem gz.all {K:PySem.W.Frag} {fd:FuncData} {ps:List Str} (h:∀ us:List Value,us.length=ps.length -> bindArgs fd ⟨us,[]⟩=pure (ps.zip us)):gz K fd ps []:=fun s us _ hl=>by
 rw [List.append_nil] at hl ⊢
 exact .of_eq (h us hl)
def cw (CX:CXT) (X:Cx) (E:XK):Prop:=∀ (pins:List (Addr × Obj)) (σ:St) (H:Hp) (s:Shared) (e:Value) (s':Shared),Inv X pins σ H s -> CX X.stack H s E e s' -> X.xe e s'
section
variable {X:Cx} {CX:CXT} {k:Nat} {f C:Addr} {fd:FuncData} {ps:List Str} {sp:Sp} {dvs:List V} {ds:List Value} {E:XK} {x m:Str} {p pos apos:Pos} {e o:Expr} {es:List Expr} {ta:TE} {t:TA}
theorem run_fn {pins:List (Addr × Obj)} {σ:St} {H:Hp} {s:Shared} {Q:VK} {us:List Value} {vs:List V} (F:bG X.prog X.w X.K X.mg X.base CX k f fd ps sp) (hr:bP k X.A) (hb:gz X.K fd ps ds) (hd:aZ dvs ds) (hx:cw CX X E)
  (I:Inv X pins σ H s) (r:aZ vs us) (h:sp (vs ++ dvs) H Q E):wpAny (model X.prog X.w) X.A (call (.ref f) us) (EP X pins σ Q) X.xe s:=by
 have r2:aZ (vs ++ dvs) (us ++ ds):=r.append hd
 have hl:(us ++ ds).length=ps.length:=by rw [<- r2.length]; exact F.len _ _ _ _ h
 refine wpAny_call (codeAny_mono (F.run X.A X.stack s H ⟨us,[]⟩ (us ++ ds) (vs ++ dvs) Q E hr I.env0 (hb s us I.kIn hl) r2 h) fun r s' hq=>?_)
 cases r with
 | error e=>exact hx pins σ H s e s' I hq
 | ok fl =>
  cases fl with
  | ret u=>exact I.after hq
  | next=>exact False.elim hq
  | brk=>exact False.elim hq
  | cont=>exact False.elim hq
theorem kH (F:bG X.prog X.w X.K X.mg X.base CX k f fd ps sp) (hr:bP k X.A) (hg:Gl X x) (hm:X.mg x=some (.ref f)) (hk:PySem.W.keepIn X.K (.ref f)=true) (hb:gz X.K fd ps ds) (hd:aZ dvs ds) (hx:cw CX X E)
  (ha:PA X (e :: es) t) (hdb:(x == ("__debug__":Str))=false:=by decide) (he:starEach (e :: es) X.env=(false,eval e X.env) :: starEach es X.env:=by rfl) (hpl:(backTo pos (starEach es X.env)).any (·.1)=false:=by rfl) :
  PE X (.Call (.Name x p) (e :: es) [] pos) (mP sp dvs E t):=by
 intro pins s σ H Q I h
 refine wpAny_Call_Name_kw (eP I hg hm ?_ hdb)
 refine PySem.W.callWith_K (h₀:=X.base) I.ok.mod.kin hk (thn (ha pos pins s σ H _ I h) fun us s1 ⟨vs,H1,I1,r,q⟩=>⟨I1.kIn,?_⟩) he hpl
 exact run_fn F hr hb hd hx I1 r q
end
section
variable {X:Cx} {CX:CXT} {k:Nat} {f C:Addr} {fd:FuncData} {ps ks:List Str} {sp:Sp} {E:XK} {x m:Str} {p pos apos kpos:Pos} {e o:Expr} {es:List Expr} {kws:List Keyword} {te ta:TE} {t tk:TA} {nm:Option Str}
variable {g:List Value -> List Value -> List Value} {gV:List V -> List V -> List V}
end
structure aN (N P:List Str) (sc:Scope):Prop where
 kind:sc.kind=.function
 co:sc.isCoroutine=false
 gen:sc.isGenerator=false
 nd:N.Nodup
 pre:N.take P.length=P
 par:∀ x ∈ P,sc.names.lookup x=some .local \/ sc.names.lookup x=some .cell
 nofree:∀ y ∈ sc.names,y.2 ≠ .free
theorem fsc {N P:List Str} {sc:Scope} (h:sc.kind=.function /\ sc.isCoroutine=false /\ sc.isGenerator=false /\ N.Nodup /\ N.take P.length=P /\ (∀ x ∈ P,sc.names.lookup x=some .local \/ sc.names.lookup x=some .cell) /\ ∀ y ∈ sc.names,y.2 ≠ .free):aN N P sc:=⟨h.1,h.2.1,h.2.2.1,h.2.2.2.1,h.2.2.2.2.1,h.2.2.2.2.2.1,h.2.2.2.2.2.2⟩
theorem io {kindOf:Str -> Option NameKind} {x:Str}:∀ {binds:List (Str × Value)} {m:Str -> Option Value},(∀ v,(x,v) ∉ binds) -> bindL kindOf binds m x=m x
 | [],_,_=>rfl
 | (n,v) :: r,m,h=>by
  unfold bindL
  rw [io fun w hw=>h w (List.mem_cons_of_mem _ hw)]
  split
  ·have:x ≠ n:=by rintro rfl; exact h v List.mem_cons_self
   simp [this]
  ·rfl
theorem ip {kindOf:Str -> Option NameKind} {x:Str}:∀ {binds:List (Str × Value)} {m:Str -> Option Value},(∀ v,(x,v) ∉ binds) -> bindC kindOf binds m x=m x
 | [],_,_=>rfl
 | (n,v) :: r,m,h=>by
  unfold bindC
  rw [ip fun w hw=>h w (List.mem_cons_of_mem _ hw)]
  split
  ·rfl
  ·have:x ≠ n:=by rintro rfl; exact h v List.mem_cons_self
   simp [this]
theorem iq {kindOf:Str -> Option NameKind} {x:Str} {v:Value}:∀ {P:List Str} {vs:List Value} {i:Nat} {m:Str -> Option Value},P.Nodup -> P[i]?=some x -> vs[i]?=some v -> kindOf x=some .local ->
  bindL kindOf (P.zip vs) m x=some v
 | [],_,_,_,_,h,_,_=>by simp at h
 | _ :: _,[],_,_,_,_,h,_=>by simp at h
 | p :: P,w :: vs,0,m,nd,h1,h2,hk=>by
  simp at h1 h2; subst h1; subst h2
  show bindL kindOf ((p,w) :: P.zip vs) m p=_
  unfold bindL
  rw [io fun v hv=>(List.nodup_cons.mp nd).1 (List.of_mem_zip hv).1,if_pos hk]
  simp
 | p :: P,w :: vs,i + 1,m,nd,h1,h2,hk=>by
  show bindL kindOf ((p,w) :: P.zip vs) m x=_
  unfold bindL
  exact iq (i:=i) (List.nodup_cons.mp nd).2 (by simpa using h1) (by simpa using h2) hk
theorem ir {kindOf:Str -> Option NameKind} {x:Str} {v:Value}:∀ {P:List Str} {vs:List Value} {i:Nat} {m:Str -> Option Value},P.Nodup -> P[i]?=some x -> vs[i]?=some v -> kindOf x ≠ some .local ->
  bindC kindOf (P.zip vs) m x=some v
 | [],_,_,_,_,h,_,_=>by simp at h
 | _ :: _,[],_,_,_,_,h,_=>by simp at h
 | p :: P,w :: vs,0,m,nd,h1,h2,hk=>by
  simp at h1 h2; subst h1; subst h2
  show bindC kindOf ((p,w) :: P.zip vs) m p=_
  unfold bindC
  rw [ip fun v hv=>(List.nodup_cons.mp nd).1 (List.of_mem_zip hv).1,if_neg hk]
  simp
 | p :: P,w :: vs,i + 1,m,nd,h1,h2,hk=>by
  show bindC kindOf ((p,w) :: P.zip vs) m x=_
  unfold bindC
  exact ir (i:=i) (List.nodup_cons.mp nd).2 (by simpa using h1) (by simpa using h2) hk
def eR (N:List Str) (vs:List V):St:=vs.map some ++ List.replicate (N.length - vs.length) none
def dm (CX:CXT) (P:Program) (w:World) (K:PySem.W.Frag) (mg:Str -> Option Value) (base:Heap) (N:List Str) (qual:Str) (scope:Scope) (f:Addr) (cd:Value) (A:Around) (outer:List Env) (s:Shared) (H:Hp) (E:XK):Cx where
 prog:=P
 w:=w
 K:=K
 mg:=mg
 base:=base
 A:=A.deeper (envOfC qual scope s.heap.objs.size f cd)
 N:=N
 s₀:=s
 H₀:=H
 env:=envOfC qual scope s.heap.objs.size f cd
 outer:=outer
 stack:=envOfC qual scope s.heap.objs.size f cd :: outer
 ex:=[]
 calm:=true
 fn:=fun _=>true
 pn:=[]
 xe:=fun e s'=>wpAny (model P w) (A.deeper (envOfC qual scope s.heap.objs.size f cd)) (leaving (envOfC qual scope s.heap.objs.size f cd) e) (fun _ s''=>CX outer H s E e s'') (fun e' s''=>CX outer H s E e' s'') s'
theorem jl {sc:Scope} {n:Nat} {x:Str} (h:sc.names.lookup x=some .cell):∃ c,(cellsFrom n sc.names []).lookup x=some c:=by
 have q:=PySem.W.cellsFrom_some sc.names n [] (.inl h)
 exact Option.isSome_iff_exists.mp q
theorem lG {CX:CXT} {P:Program} {w:World} {K:PySem.W.Frag} {mg:Str -> Option Value} {base:Heap} {N ps:List Str} {qual:Str} {scope:Scope} {f:Addr} {cd:Value} {A:Around} {outer:List Env} {s s1:Shared} {H:Hp} {E:XK} {us:List Value} {vs:List V}
  (S:aN N ps scope) (hd:A.handled=none) (e0:Env0 P w K mg base A outer s H) (hl:vs.length=ps.length) (r:aZ vs us)
  (x:InCallC s s.heap.objs.size (bindL (envOfC qual scope s.heap.objs.size f cd).kindOf (ps.zip us) fun _=>none) (cellsFrom (s.heap.objs.size + 1) scope.names []) (bindC (envOfC qual scope s.heap.objs.size f cd).kindOf (ps.zip us) fun _=>none) s1) :
  Inv (dm CX P w K mg base N qual scope f cd A outer s H E) [] (eR N vs) H s1:=by
 have hpl:ps.length <= N.length:=by have:=congrArg List.length S.pre; rw [List.length_take] at this; lia
 obtain ⟨h1,tk,rfl,hk⟩:=x.done
 have noA:∀ b:Addr,b ∉ (dm CX P w K mg base N qual scope f cd A outer s H E).ex:=fun b z=>absurd (show b ∈ ([]:List Addr) from z) (by simp)
 refine ⟨⟨e0.mod,S.kind,rfl,rfl,Nat.le_refl _,fun y z c h1 h2=>?_,fun y hy=>?_,fun y c _ h=>?_,fun _=>hd,Around.frames_deeper e0.frames,.inr ⟨rfl,rfl⟩,fun b z=>absurd z (noA b),e0.bs,e0.bsz,fun b _ _=>noA b,fun b z=>absurd z (noA b),e0.funs,e0.frf⟩,
  rfl,e0.bare,Un.kept hk,⟨_,x.toInCall.ns,fun i y v h1 h2 h3=>?_⟩,fun y c h=>⟨_,x.cell y c h⟩,e0.hok.fresh (Nat.le_refl _),fun y c h=>?_,fun p hp=>absurd (show p ∈ ([]:List (Addr × Obj)) from hp) (by simp),e0.hok.kept hk,?_⟩
 ·exact name_of_addr x.apart (PySem.mem_of_lookup h1) (PySem.mem_of_lookup h2)
 ·have hy:scope.names.lookup y=some .cell \/ scope.names.lookup y=some .free:=hy
  rcases hy with hy | hy
  ·exact jl hy
  ·exact absurd rfl (S.nofree _ (PySem.mem_of_lookup hy))
 ·exact Nat.le_of_lt (x.above y c (PySem.mem_of_lookup h))
 ·have hi:i < vs.length:=by
   unfold eR at h2
   by_cases hi:i < vs.length
   ·exact hi
   ·rw [List.getElem?_append_right (by simpa using hi)] at h2
    rw [List.getElem?_replicate] at h2
    split at h2 <;> cases h2
  have ha:vs[i]?=some v:=by
   unfold eR at h2
   rw [List.getElem?_append_left (by simpa using hi),List.getElem?_map] at h2
   cases e:vs[i]? with
   | none=>rw [e] at h2; cases h2
   | some a=>rw [e] at h2; cases h2; rfl
  obtain ⟨u,hu,rv⟩:=r.get ha
  have hp:ps[i]?=some y:=by
   rw [<- S.pre,List.getElem?_take_of_lt (by lia)]; exact h1
  have ndP:ps.Nodup:=by rw [<- S.pre]; exact S.nd.sublist (List.take_sublist _ _)
  refine ⟨u,rv,?_⟩
  rcases S.par y (List.mem_of_getElem? hp) with k | k
  ·exact .inl ⟨k,iq ndP hp hu k⟩
  ·obtain ⟨c,e⟩:=jl (n:=s.heap.objs.size + 1) k
   refine .inr ⟨.inl k,c,e,?_⟩
   have q:=x.cell y c e
   rw [ir ndP hp hu (by show scope.names.lookup y ≠ _; rw [k]; decide)] at q
   exact q
 ·exact e0.hok.fresh (Nat.le_of_lt (x.above y c (PySem.mem_of_lookup h)))
 ·unfold eR
  show _=N.length
  rw [List.length_append,List.length_map,List.length_replicate]
  lia
theorem fn_of {CX:CXT} {P:Program} {w:World} {K:PySem.W.Frag} {mg:Str -> Option Value} {base:Heap} {k:Nat} {f:Addr} {name qual:Str} {params:Arguments} {body:List Stmt} {scope:Scope} {dV kV doc pm cdv ct oc:Value} {an od:Option Addr}
  {osl:Array (Option Value)} {N ps:List Str} {sp:Sp} (lk:K.lookup f=some ⟨oc,od,.func (PySem.W.fnOf name qual params body scope dV kV doc pm an cdv ct),osl⟩) (hcd:PySem.W.codeIn K cdv qual=true) (S:aN N ps scope)
  (len:∀ vs H Q E,sp vs H Q E -> vs.length=ps.length)
  (hbody:∀ (A:Around) (outer:List Env) (s:Shared) (H:Hp) (vs:List V) (Q:VK) (E:XK),bP k (A.deeper (envOfC qual scope s.heap.objs.size f cdv)) -> sp vs H Q E ->
   ∃ t,PSs (dm CX P w K mg base N qual scope f cdv A outer s H E) body t /\ t { nx:=fun _ H'=>Q .non H',rt:=Q } (eR N vs) H) :
  bG P w K mg base CX (k + 1) f (PySem.W.fnOf name qual params body scope dV kV doc pm an cdv ct) ps sp:=by
 refine ⟨len,fun A outer s H args us vs Q E hr e0 hb r hsp=>?_⟩
 have hl:=len _ _ _ _ hsp
 have KX:K.In s.heap:=e0.mod.kin.keeps fun b o e=>(e0.bs b o e).1
 have lim:s.heap.NoLimit:=e0.mod.nolimit.keeps fun b o e=>(e0.bs b o e).1
 have hkind:∀ y ∈ ps.zip us,scope.names.lookup y.1=some .local \/ (scope.names.lookup y.1=some .cell /\ ((cellsFrom (s.heap.objs.size + 1) scope.names []).lookup y.1).isSome=true):=fun ⟨n,v⟩ hy=>by
  rcases S.par n (List.of_mem_zip hy).1 with q | q
  ·exact .inl q
  ·exact .inr ⟨q,PySem.W.cellsFrom_some _ _ _ (.inl q)⟩
 refine codeAny_call_function hr.depth (KX _ _ lk) rfl S.co S.gen rfl (PySem.W.codeRec_of KX hcd) (hb _ _ _ _ ?_)
 refine wpAny_newFunctionEnv_cells S.kind hkind fun env he s1 x=>?_
 subst he
 refine ⟨lim.keeps x.toInCall.keep,codeAny_func ?_⟩
 obtain ⟨t,ht,hq⟩:=hbody A outer s H vs Q E (hr.deeper _) hsp
 have I:Inv (dm CX P w K mg base N qual scope f cdv A outer s H E) [] (eR N vs) H s1:=lG S hr.hd e0 hl r x
 refine wpAny_mono (ht [] s1 (eR N vs) H _ I hq) (fun fl s' hs=>?_) fun e s' hs=>hs
 have fin:∀ {σ':St} {H':Hp} {v:V} {u:Value},Inv (dm CX P w K mg base N qual scope f cdv A outer s H E) [] σ' H' s' -> bu v u -> Q v H' -> CE outer P w H s Q u s' :=
  fun {σ' H' v u} J rv q=>⟨v,H',J.os,J.bare,J.base,J.hok,rv,q⟩
 cases fl with
 | ret u =>
  obtain ⟨v,σ',H',J,rv,q⟩:=hs
  exact fin J rv q
 | next =>
  obtain ⟨σ',H',J,q⟩:=hs
  exact fin (v:=V.non) (u:=Value.none) J rfl q
 | brk =>
  obtain ⟨_,_,_,q⟩:=hs
  exact False.elim q
 | cont =>
  obtain ⟨_,_,_,q⟩:=hs
  exact False.elim q
section
variable {X:Cx} {x:Str} {p pos:Pos} {e:Expr} {es:List Expr} {t:TA} {id T:String} {r:List V -> Hp -> VK -> Prop}
def tCB (r:List V -> Hp -> VK -> Prop) (t:TA):TE:=fun σ H Q=>t σ H fun vs H1=>r vs H1 Q
theorem ax (hc:cj X (.builtin id) r) (hg:Gl X x) (hm:X.mg x=none) (hv:bootBuiltins x=some (.builtin id)) (ha:PA X (e :: es) t) (hn:x ≠ "__name__":=by decide) (hdb:(x == ("__debug__":Str))=false:=by decide)
  (he:starEach (e :: es) X.env=(false,eval e X.env) :: starEach es X.env:=by rfl) (hpl:(backTo pos (starEach es X.env)).any (·.1)=false:=by rfl):PE X (.Call (.Name x p) (e :: es) [] pos) (tCB r t):=by
 intro pins s σ H Q I h
 refine wpAny_Call_Name_kw (eE I hg hm hv ?_ hn hdb)
 exact PyProof.Rows.callWith_builtin1 (thn (ha pos pins s σ H _ I h) fun us s1 ⟨vs,H1,I1,r1,q1⟩=>hc pins s1 σ H1 vs us Q I1 r1 q1) he hpl
theorem aT (hc:cj X (.type T) r) (hg:Gl X x) (hm:X.mg x=none) (hv:bootBuiltins x=some (.type T)) (ha:PA X (e :: es) t) (hn:x ≠ "__name__":=by decide) (hdb:(x == ("__debug__":Str))=false:=by decide)
  (he:starEach (e :: es) X.env=(false,eval e X.env) :: starEach es X.env:=by rfl) (hpl:(backTo pos (starEach es X.env)).any (·.1)=false:=by rfl):PE X (.Call (.Name x p) (e :: es) [] pos) (tCB r t):=by
 intro pins s σ H Q I h
 refine wpAny_Call_Name_kw (eE I hg hm hv ?_ hn hdb)
 exact PyProof.Rows.callWith_type1 (thn (ha pos pins s σ H _ I h) fun us s1 ⟨vs,H1,I1,r1,q1⟩=>hc pins s1 σ H1 vs us Q I1 r1 q1) he hpl
end
section
variable {κ:Type} [DecidableEq κ]
end
section
variable {P:Program} {w:World} {H:Hp} {h:Heap} {a:Addr}
end
section
variable {X:Cx} {pins:List (Addr × Obj)} {σ:St} {H:Hp} {s:Shared} {a:Addr} {y v:V} {u r:Value} {o:Option V} {A:Around} {E:Value -> Shared -> Prop}
end
section
variable {X:Cx} {pins:List (Addr × Obj)} {σ:St} {H:Hp} {s:Shared} {a:Addr} {kvs:List (Key × V)} {k:Key} {u:Value} {A:Around} {E:Value -> Shared -> Prop}
end
section
variable {X:Cx} {o i e value:Expr} {pos pos' tpos:Pos} {td ty tv:TE}
end
section
variable {X:Cx} {pos:Pos}
end
section
variable {X:Cx} {pins:List (Addr × Obj)} {σ:St} {H:Hp} {s:Shared} {a:Addr} {y d:V} {u r:Value} {o:Option V} {A:Around} {E:Value -> Shared -> Prop}
end
section
variable {X:Cx} {o e f:Expr} {apos cpos:Pos} {td ty tx:TE}
end
section
variable {X:Cx} {pins:List (Addr × Obj)} {σ:St} {H:Hp} {s:Shared} {a:Addr} {kvs:List (Key × V)} {A:Around} {E:Value -> Shared -> Prop}
end
section
variable {X:Cx} {pins:List (Addr × Obj)} {σ:St} {H:Hp} {s:Shared} {a:Addr} {y:V} {u:Value} {A:Around} {E:Value -> Shared -> Prop}
end
end L2
namespace HT
open PySem PyProof.Rows
section
open PySem.SeqAt
open PySem.AutoSeq1 (wpAny_loadPart')
open PySem.MeetsSeq PySem.MeetsSeq2 PySem.MeetsSeq3
end
section
variable {prog:Program} {w:World} {A:Around} {E:Value -> Shared -> Prop} {s:Shared}
theorem cat_tup {t b:Addr} {vs ws:List Value} {Q:Value -> Shared -> Prop} (ht:IsTup s.heap t vs.toArray) (hb:IsTup s.heap b ws.toArray) (hv:vs ≠ [])
  (h1:ws=[] -> Q (.ref t) s) (h2:ws ≠ [] -> Q (.ref s.heap.objs.size) { s with heap:=s.heap.push { cls:=.type "tuple",data:=.seq (vs ++ ws).toArray } })
  (hsz:vs.length + ws.length <= sizeLine):wpAny (model prog w) A (binaryOp .Add (.ref t) (.ref b)) Q E s:=by
 obtain ⟨⟨cls,dd,data,sl⟩,ho,hc,n,hd⟩:=id ht
 obtain ⟨⟨cls2,dd2,data2,sl2⟩,ho2,hc2,n2,hd2⟩:=id hb
 simp only at hc hd hc2 hd2
 subst hc hd hc2 hd2
 have e:vs.toArray ++ ws.toArray=(vs ++ ws).toArray:=by simp
 by_cases hw:ws=[]
 ·exact concat_meets ⟨_,ho,rfl⟩ ⟨_,ho2,rfl⟩ noFill_tuple_add seq_tuple_add PySem.F.slot_tuple_add PySem.F.entry_tuple_add (PySem.F.args_tuple_add_2 _ _)
   (tuple_addW1 t b vs.toArray ws.toArray n n2 dd dd2 sl sl2 (by simpa using hv) (by simp [hw])) ⟨ho,ho2,h1 hw⟩
 ·refine concat_meets ⟨_,ho,rfl⟩ ⟨_,ho2,rfl⟩ noFill_tuple_add seq_tuple_add PySem.F.slot_tuple_add PySem.F.entry_tuple_add (PySem.F.args_tuple_add_2 _ _)
   (tuple_addW2 t b vs.toArray ws.toArray n n2 dd dd2 sl sl2 (by simpa using hv) (by simpa using hw) (by rw [List.size_toArray,List.size_toArray]; exact hsz)) ⟨ho,ho2,?_⟩
  rw [e]
  exact h2 hw
def sIx (n d:Nat):Option Int -> Nat
 | none=>d
 | some v=>if v < 0 then (v + (n:Int)).toNat else min v.toNat n
theorem dz (n d:Nat):sIx n d none=d:=rfl
theorem bY (n d k:Nat):sIx n d (some (k:Int))=min k n:=by
 show (if (k:Int) < 0 then ((k:Int) + (n:Int)).toNat else min (k:Int).toNat n)=min k n
 rw [if_neg (by lia),Int.toNat_natCast]
theorem sIx_le (n d:Nat) (hd:d <= n) (o:Option Int):sIx n d o <= n:=by
 cases o with
 | none=>exact hd
 | some v =>
  show (if v < 0 then (v + (n:Int)).toNat else min v.toNat n) <= n
  by_cases hv:v < 0
  ·rw [if_pos hv]; lia
  ·rw [if_neg hv]; exact Nat.min_le_right _ _
theorem kI (v:Int) (n d:Nat):(if v < 0 then max (v + (n:Int)) 0 else min v (n:Int))=((sIx n d (some v):Nat):Int):=by
 show (if v < 0 then max (v + (n:Int)) 0 else min v (n:Int))=(((if v < 0 then (v + (n:Int)).toNat else min v.toNat n):Nat):Int)
 by_cases hv:v < 0
 ·simp only [if_pos hv]; lia
 ·simp only [if_neg hv]; lia
theorem jW (lo hi:Option Int) (n:Nat):Builtin.Slice.sliceAdjust lo hi 1 (n:Int)=(((sIx n 0 lo:Nat):Int),((sIx n n hi:Nat):Int)):=by
 have h1:¬ ((1:Int) < 0):=by lia
 unfold Builtin.Slice.sliceAdjust
 simp only [h1,if_false]
 refine Prod.ext ?_ ?_
 ·cases lo with
  | none=>rfl
  | some v=>exact kI v n 0
 ·cases hi with
  | none=>rfl
  | some v=>exact kI v n n
theorem jX (i j:Nat):Builtin.Slice.slicePlaces (i:Int) (j:Int) 1=j - i:=by
 unfold Builtin.Slice.slicePlaces
 have h1:(1:Int) > 0:=by lia
 simp only [h1,if_true,Int.ediv_one]
 split <;> lia
theorem gA {v:Value} {o:Option Int} {Q:Option Int -> Shared -> Prop} (p:IsPart v o) (h:Q o s):wpAny (model prog w) A (Builtin.Slice.slicePartIndex v) Q E s:=by
 cases p with
 | none=>exact slicePart_none h
 | int i t=>exact slicePart_int h
theorem df {sl:Addr} {vl vu:Value} {lo hi:Option Int} {n:Nat} {Q:Int × Int × Nat -> Shared -> Prop} (hs:s.heap.IsSliceOf sl vl vu .none) (pl:IsPart vl lo) (pu:IsPart vu hi)
  (h:Q (((sIx n 0 lo:Nat):Int),1,sIx n n hi - sIx n 0 lo) s):wpAny (model prog w) A (Builtin.Slice.sliceApplied (.ref sl) (pure (n:Int))) Q E s:=by
 obtain ⟨os,hos,hcs,hds⟩:=id hs
 unfold Builtin.Slice.sliceApplied Builtin.Slice.sliceFields
 refine wpAny_bind (wpAny_bind (wpAny_field hos hds (x:=vl) rfl (wpAny_bind (wpAny_field hos hds (x:=vu) rfl (wpAny_bind (wpAny_field hos hds (x:=.none) rfl (wpAny_pure ?_)))))))
 refine wpAny_bind (slicePart_none ?_)
 show wpAny _ _ (if ((1:Int) == 0)=true then _ else _) _ _ s
 rw [if_neg (by decide)]
 refine wpAny_bind (gA pl (wpAny_bind (gA pu (wpAny_bind (wpAny_pure ?_)))))
 show wpAny _ _ (match Builtin.Slice.sliceAdjust lo hi 1 (n:Int) with | (lo,hi)=>pure (lo,(1:Int),Builtin.Slice.slicePlaces lo hi 1)) _ _ s
 rw [jW lo hi n]
 show wpAny _ _ (pure (((sIx n 0 lo:Nat):Int),(1:Int),Builtin.Slice.slicePlaces ((sIx n 0 lo:Nat):Int) ((sIx n n hi:Nat):Int) 1)) _ _ s
 rw [jX]
 exact wpAny_pure h
theorem mQ (xs:Array Value) (i k:Nat):((List.range k).filterMap fun (m:Nat)=>xs[((i:Int) + (m:Int) * 1).toNat]?).toArray=((xs.toList.drop i).take k).toArray:=by
 have e:(fun (m:Nat)=>xs[((i:Int) + (m:Int) * 1).toNat]?)=fun m=>xs[i + m]?:=by
  funext m
  have:((i:Int) + (m:Int) * 1).toNat=i + m:=by lia
  rw [this]
 rw [e]
 have:=pick_run xs i k
 rw [List.filterMap_map] at this
 have e2:((fun x=>xs[x]?) ∘ fun x=>i + x)=fun m=>xs[i + m]?:=rfl
 rw [e2] at this
 rw [this]
theorem eS {t sl:Addr} {items:Array Value} {vl vu:Value} {lo hi:Option Int} {Q:Value -> Shared -> Prop} (ht:IsTup s.heap t items) (hs:s.heap.IsSliceOf sl vl vu .none) (pl:IsPart vl lo) (pu:IsPart vu hi)
  (hw:¬ (sIx items.size 0 lo=0 /\ sIx items.size items.size hi=items.size))
  (h:Q (.ref s.heap.objs.size) { s with heap:=s.heap.push { cls:=.type "tuple",data:=.seq ((items.toList.drop (sIx items.size 0 lo)).take (sIx items.size items.size hi - sIx items.size 0 lo)).toArray } })
  (hsz:items.size <= sizeLine):wpAny (model prog w) A (getItem (.ref t) (.ref sl)) Q E s:=by
 have htake:sizeOk (.seq ((items.toList.drop (sIx items.size 0 lo)).take (sIx items.size items.size hi - sIx items.size 0 lo)).toArray):=by
  show ((items.toList.drop (sIx items.size 0 lo)).take (sIx items.size items.size hi - sIx items.size 0 lo)).toArray.size <= sizeLine
  rw [List.size_toArray,List.length_take,List.length_drop,Array.length_toList]
  lia
 have hj:sIx items.size items.size hi <= items.size:=sIx_le _ _ (Nat.le_refl _) hi
 obtain ⟨os,hos,hcs,hds⟩:=id hs
 have hTs:s.TypeIs (.ref sl) "slice":=⟨os,hos,hcs⟩
 unfold getItem
 try with_reducible refine wpAny_holding ?_
 first | refine wpAny_bind (wpAny_pure ?_) | skip
 refine wpAny_bind (wpAny_sequenceKey ht.typeIs (by decide) ?_)
 refine wpAny_bind (wpAny_callSpecial?_slot (name:=Str.ofString "__getitem__") ht.typeIs PyProof.Rows.slot_tuple_getitem
  (wpAny_call_entry PyProof.Rows.slot_tuple_getitem ht.typeIs entry_tuple_getitem ?_ (args_tuple_getitem _ _)))
 show wpAny _ _ (Builtin.Tuple.tupleItemsOf (.ref t) >>= _) _ _ s
 refine wpAny_bind (tupleItemsOf_ ht ?_)
 refine wpAny_bind (wpAny_typeOf hTs ?_)
 rw [if_pos (by decide)]
 refine wpAny_bind (df hs pl pu ?_)
 have hno:¬ ((((sIx items.size 0 lo:Nat):Int) == 0 && (1:Int) == 1 && (sIx items.size items.size hi - sIx items.size 0 lo) == items.size)=true):=by
  intro q
  rw [Bool.and_eq_true,Bool.and_eq_true] at q
  have q1:((sIx items.size 0 lo:Nat):Int)=0:=eq_of_beq q.1.1
  have q2:sIx items.size items.size hi - sIx items.size 0 lo=items.size:=eq_of_beq q.2
  exact hw ⟨by lia,by lia⟩
 show wpAny _ _ (if (((sIx items.size 0 lo:Nat):Int) == 0 && (1:Int) == 1 && (sIx items.size items.size hi - sIx items.size 0 lo) == items.size)=true then _ else _) _ _ s
 rw [if_neg hno,mQ]
 first
  | exact wpAny_bind (m:=Builtin.Tuple.tupleExact _) (wpAny_newObj_type (wpAny_pure ⟨_,rfl,wpAny_pure h⟩) htake)
  | exact wpAny_bind (m:=Builtin.Tuple.tupleExact _) (wpAny_newObj_type (wpAny_bind (wpAny_pure (wpAny_pure ⟨_,rfl,wpAny_pure h⟩))) htake)
  | exact wpAny_bind (wpAny_bind (m:=Builtin.Tuple.tupleExact _) (wpAny_newObj_type (wpAny_pure (wpAny_pure ⟨_,rfl,wpAny_pure h⟩)) htake))
  | exact wpAny_bind (wpAny_bind (m:=Builtin.Tuple.tupleExact _) (wpAny_newObj_type (wpAny_pure ⟨_,rfl,wpAny_pure h⟩) htake))
end
end HT
namespace L2
open PySem PySem.Spec PyProof.Rows
abbrev TO:=St -> Hp -> (Option Int -> Hp -> Prop) -> Prop
def PO (X:Cx) (e:Option Expr) (t:TO):Prop :=
 ∀ (pins:List (Addr × Obj)) (s:Shared) (σ:St) (H:Hp) (Q:Option Int -> Hp -> Prop),Inv X pins σ H s -> t σ H Q ->
  wpAny (model X.prog X.w) X.A (evalPart e X.env) (fun u s'=>∃ o H',Inv X pins σ H' s' /\ IsPart u o /\ Q o H') X.xe s
def tNoPart:TO:=fun _ H Q=>Q none H
def tPart (t:TE):TO:=fun σ H Q=>t σ H fun x H1=>∃ i,x=.int i /\ Q (some i) H1
section
variable {X:Cx} {e:Expr} {te:TE} {lo hi:Option Expr} {tl th:TO} {pos p2:Pos}
theorem aV:PO X none tNoPart:=by
 intro pins s σ H Q I h
 rw [evalPart_none]
 exact wpAny_pure ⟨none,H,I,.none,h⟩
theorem aI (h:PE X e te):PO X (some e) (tPart te):=by
 intro pins s σ H Q I hw
 rw [evalPart_some]
 refine thn (h pins s σ H _ I hw) fun u s1 ⟨x,H1,I1,r1,q1⟩=>?_
 obtain ⟨i,rfl,q⟩:=q1
 obtain ⟨t,rfl⟩:=r1
 exact ⟨some i,H1,I1,.int i t,q⟩
def SlR (X:Cx) (r:V -> Option Int -> Option Int -> Hp -> VK -> Prop):Prop :=
 ∀ (pins:List (Addr × Obj)) (s:Shared) (σ:St) (H:Hp) (x:V) (v vl vu:Value) (lo hi:Option Int) (sl:Addr) (Q:VK),Inv X pins σ H s -> bu x v -> s.heap.IsSliceOf sl vl vu .none -> IsPart vl lo -> IsPart vu hi -> r x lo hi H Q ->
  ∃ T id,typeLookup (.type T) "__getitem__"=pure (some (.builtin id)) /\ s.TypeIs v T /\ wpAny (model X.prog X.w) X.A (getItem v (.ref sl)) (EP X pins σ Q) X.xe s
def tSl (r:V -> Option Int -> Option Int -> Hp -> VK -> Prop) (te:TE) (tl th:TO):TE:=fun σ H Q=>te σ H fun x H1=>tl σ H1 fun l H2=>th σ H2 fun u H3=>r x l u H3 Q
theorem aG {r:V -> Option Int -> Option Int -> Hp -> VK -> Prop} (hr:SlR X r) (he:PE X e te) (hl:PO X lo tl) (hu:PO X hi th):PE X (.Subscript e (.Slice lo hi none p2) pos) (tSl r te tl th):=by
 intro pins s σ H Q I h
 refine Subscript_ (thn (he pins s σ H _ I h) fun v s1 ⟨x,H1,I1,r1,q1⟩=>?_)
 refine wpAny_Slice (thn (hl pins s1 σ H1 _ I1 q1) fun vl s2 ⟨l,H2,I2,pl,q2⟩=>thn (hu pins s2 σ H2 _ I2 q2) fun vu s3 ⟨u,H3,I3,pu,q3⟩=>?_)
 rw [evalPart_none]
 refine wpAny_pure ?_
 have I4:Inv X pins σ H3 { s3 with heap:=s3.heap.push { cls:=.type "slice",data:=.fields #[vl,vu,.none] } }:=I3.kept (t':=s3.toks) fun b ob q=>Heap.get?_push_of_some _ q
 obtain ⟨T,id,hT,ht,hg⟩:=hr pins { s3 with heap:=s3.heap.push { cls:=.type "slice",data:=.fields #[vl,vu,.none] } } σ H3 x v vl vu l u s3.heap.objs.size Q I4 r1 (Heap.IsSliceOf.new ..) pl pu q3
 show wpAny (model X.prog X.w) X.A (subscriptTail e (.Slice lo hi none p2) v (.ref s3.heap.objs.size)) (EP X pins σ Q) X.xe { s3 with heap:=s3.heap.push { cls:=.type "slice",data:=.fields #[vl,vu,.none] } }
 exact tail_any (ops:=[.ref s3.heap.objs.size,v]) ht hT hg (by with_unfolding_all rfl)
def bB (xs:List V) (lo hi:Option Int):List V:=(xs.drop (HT.sIx xs.length 0 lo)).take (HT.sIx xs.length xs.length hi - HT.sIx xs.length 0 lo)
theorem fO (xs:List V) (lo hi:Option Int):(bB xs lo hi).length <= xs.length:=by
 unfold bB
 rw [List.length_take,List.length_drop]
 lia
def rSlT (K:PySem.W.Frag):V -> Option Int -> Option Int -> Hp -> VK -> Prop:=fun x lo hi H Q=>∃ a xs,x=.ref a /\ SqT K H a xs /\
 ¬ (HT.sIx xs.length 0 lo=0 /\ HT.sIx xs.length xs.length hi=xs.length) /\ ∀ p,H p=none -> Q (.ref p) (upd H p (.tup (bB xs lo hi)))
theorem sl_tup:SlR X (rSlT X.K):=by
 intro pins s σ H x v vl vu lo hi sl Q I rx hs pl pu h
 obtain ⟨a,xs,rfl,hx,hw,q⟩:=h
 cases rx
 obtain ⟨its,r,ht,hz⟩:=I.tuple hx
 have hlen:its.toArray.size=xs.length:=by rw [List.size_toArray]; exact r.length.symm
 refine ⟨"tuple",_,PyProof.Rows.slot_tuple_getitem.lookup,ht.typeIs,?_⟩
 refine HT.eS ht hs pl pu (by rw [hlen]; exact hw) ?_ (by rw [hlen]; exact hz)
 rw [hlen]
 refine ⟨.ref s.heap.objs.size,_,I.laid (t':=s.toks) (o:=.tup (bB xs lo hi)) (fun b ob q=>Heap.get?_push_of_some _ q) (Nat.le_refl _) ?_,rfl,q _ (I.hok.fresh (Nat.le_refl _))⟩
 exact ⟨Nat.le_trans (fO xs lo hi) hz,_,(r.drop (HT.sIx xs.length 0 lo)).take (HT.sIx xs.length xs.length hi - HT.sIx xs.length 0 lo),IsTup.new _ _⟩
def rCatT (K:PySem.W.Frag):R2:=fun x y H Q=>∃ a b xs ys,x=.ref a /\ y=.ref b /\ SqT K H a xs /\ SqT K H b ys /\ xs ≠ [] /\ xs.length + ys.length <= sizeLine /\
 (ys=[] -> Q (.ref a) H) /\ (ys ≠ [] -> ∀ p,H p=none -> Q (.ref p) (upd H p (.tup (xs ++ ys))))
theorem aZ.nil_iff {xs:List V} {us:List Value} (r:aZ xs us):us=[] ↔ xs=[]:=by
 cases r with
 | nil=>simp
 | cons _ _=>simp
theorem op_catT:OpR X (binaryOp .Add) (rCatT X.K):=by
 intro pins s σ H x y v u Q I rx ry h
 obtain ⟨a,b,xs,ys,rfl,rfl,ha,hb,hx,hz,q1,q2⟩:=h
 cases rx
 cases ry
 obtain ⟨its,r1,p1,_⟩:=I.tuple ha
 obtain ⟨its2,r2,p2,_⟩:=I.tuple hb
 refine HT.cat_tup p1 p2 (fun z=>hx (r1.nil_iff.mp z)) (fun z=>⟨.ref a,H,I,rfl,q1 (r2.nil_iff.mp z)⟩) (fun z=>?_) (by rw [<- r1.length,<- r2.length]; exact hz)
 refine ⟨.ref s.heap.objs.size,_,I.laid (t':=s.toks) (o:=.tup (xs ++ ys)) (fun b ob q=>Heap.get?_push_of_some _ q) (Nat.le_refl _) ?_,rfl,q2 (fun w=>z (r2.nil_iff.mpr w)) _ (I.hok.fresh (Nat.le_refl _))⟩
 exact ⟨by rw [List.length_append]; exact hz,_,r1.append r2,IsTup.new _ _⟩
end
def ixN (n:Nat) (i:Int):Option Nat:=if 0 <= i then (if i < n then some i.toNat else none) else if -(n:Int) <= i then some (i + n).toNat else none
def atI {α:Type} (xs:List α) (i:Int):Option α:=(ixN xs.length i).bind fun j=>xs[j]?
theorem ixN_seq {n:Nat} {i:Int} {j:Nat} (h:ixN n i=some j):seqIndex? i n=some j /\ j < n /\ -(n:Int) <= i /\ i < n:=by
 unfold ixN at h
 by_cases h0:0 <= i
 ·rw [if_pos h0] at h
  by_cases h1:i < n
  ·rw [if_pos h1] at h
   have e:i.toNat=j:=Option.some.inj h
   exact ⟨by rw [seqIndex_of h0 h1,e],by lia,by lia,h1⟩
  ·rw [if_neg h1] at h; cases h
 ·rw [if_neg h0] at h
  by_cases h1:-(n:Int) <= i
  ·rw [if_pos h1] at h
   have e:(i + n).toNat=j:=Option.some.inj h
   exact ⟨by rw [seqIndex_neg (by lia) h1,e],by lia,h1,by lia⟩
  ·rw [if_neg h1] at h; cases h
theorem iU {α:Type} {xs:List α} {i:Int} {v:α} (h:atI xs i=some v):∃ j,seqIndex? i xs.length=some j /\ xs[j]?=some v /\ j < xs.length /\ -(xs.length:Int) <= i /\ i < xs.length:=by
 unfold atI at h
 cases e:ixN xs.length i with
 | none=>rw [e] at h; cases h
 | some j =>
  rw [e] at h
  obtain ⟨h1,h2,h3,h4⟩:=ixN_seq e
  exact ⟨j,h1,h,h2,h3,h4⟩
theorem ba {α:Type} {xs:List α} {j:Nat} {v:α} (h:xs[j]?=some v):atI xs (j:Int)=some v:=by
 have hj:j < xs.length:=(List.getElem?_eq_some_iff.mp h).1
 have e:ixN xs.length (j:Int)=some j:=by
  unfold ixN
  rw [if_pos (by lia),if_pos (by lia)]; simp
 unfold atI; rw [e]; exact h
def PlainIx (b:Expr):Prop:=∀ o i,subscripted b false o i=operate [o,i] (getItem o i)
def IxR (X:Cx) (r:R2):Prop :=
 ∀ (value slice:Expr) (pins:List (Addr × Obj)) (s:Shared) (σ:St) (H:Hp) (x y:V) (v u:Value) (Q:VK),Inv X pins σ H s -> bu x v -> bu y u -> r x y H Q ->
  subscripted slice false v u=operate [v,u] (getItem v u) -> wpAny (model X.prog X.w) X.A (subscriptTail value slice v u) (EP X pins σ Q) X.xe s
def MtR (X:Cx) (id:String) (r:V -> List V -> Hp -> VK -> Prop):Prop :=
 ∀ (pins:List (Addr × Obj)) (s:Shared) (σ:St) (H:Hp) (x:V) (xs:List V) (v:Value) (us:List Value) (Q:VK),Inv X pins σ H s -> bu x v -> aZ xs us -> r x xs H Q ->
  wpAny (model X.prog X.w) X.A (call (.builtin id) (v :: us)) (EP X pins σ Q) X.xe s
section
variable {X:Cx} {a b:Expr} {ta tb:TE} {pos:Pos}
theorem aB {r:R2} (hr:IxR X r) (ha:PE X a ta) (hb:PE X b tb) (hs:PlainIx b):PE X (.Subscript a b pos) (tOp r ta tb):=by
 intro pins s σ H Q I h
 exact Subscript_ (binT ha hb I h fun v u s2 x y H2 I2 rx ry q=>hr a b pins s2 σ H2 x y v u Q I2 rx ry q (hs _ _))
def rIxL (K:PySem.W.Frag):R2:=fun x y H Q=>∃ p xs i v,x=.ref p /\ y=.int i /\ SqL K H p xs /\ atI xs i=some v /\ Q v H
def rIxT (K:PySem.W.Frag):R2:=fun x y H Q=>∃ p xs i v,x=.ref p /\ y=.int i /\ SqT K H p xs /\ atI xs i=some v /\ Q v H
def rIxS:R2:=fun x y H Q=>∃ z i c,x=.str z /\ y=.int i /\ z.length <= sizeLine /\ atI z.cps.toList i=some c /\ Q (.str ⟨#[c]⟩) H
theorem ay:IxR X (rIxL X.K):=by
 intro value slice pins s σ H x y v u Q I rx ry h hs
 obtain ⟨p,xs,i,z,rfl,rfl,hq,he,q⟩:=h
 cases rx
 obtain ⟨t,rfl⟩:=ry
 obtain ⟨its,r,pl,hz⟩:=I.list hq
 obtain ⟨j,h1,h2,h3,h4,h5⟩:=iU he
 obtain ⟨w,ew,rw'⟩:=r.get h2
 have hl:=r.length
 have hn:=gw
 have fin:EP X pins σ Q w s:=⟨z,H,I,rw',q⟩
 by_cases h0:0 <= i
 ·have hj:i.toNat=j:=by
   rw [seqIndex_of h0 h5] at h1
   exact Option.some.inj h1
  exact item_listR pl.isList h0 (by lia) (by rw [hj]; simpa using ew) fin hs
 ·have hj:(i + (its.toArray.size:Int)).toNat=j:=by
   rw [seqIndex_neg (by lia) h4] at h1
   rw [List.size_toArray,<- hl]
   exact Option.some.inj h1
  exact subscriptTail_builtinR (x:=w) pl.isList.typeIs slot_list_getitem.lookup
   (wpAny_getItem_list_neg (Q:=fun r s'=>r=w /\ EP X pins σ Q r s') pl.isList (by lia) (by rw [List.size_toArray] <;> lia) (by lia) (by rw [hj]; simpa using ew) ⟨rfl,fin⟩) hs
theorem bN:IxR X (rIxT X.K):=by
 intro value slice pins s σ H x y v u Q I rx ry h hs
 obtain ⟨p,xs,i,z,rfl,rfl,hq,he,q⟩:=h
 cases rx
 obtain ⟨t,rfl⟩:=ry
 obtain ⟨its,r,pl,hz⟩:=I.tuple hq
 obtain ⟨j,h1,h2,h3,h4,h5⟩:=iU he
 obtain ⟨w,ew,rw'⟩:=r.get h2
 have hl:=r.length
 have hn:=gw
 have fin:EP X pins σ Q w s:=⟨z,H,I,rw',q⟩
 exact subscriptTail_builtinR (x:=w) pl.typeIs slot_tuple_getitem.lookup
  (getItem_tuple (j:=j) (Q:=fun r s'=>r=w /\ EP X pins σ Q r s') pl (by lia) (by lia) (by rw [List.size_toArray,<- hl]; exact h1) (by simpa using ew) ⟨rfl,fin⟩) hs
theorem fB:IxR X rIxS:=by
 intro value slice pins s σ H x y v u Q I rx ry h hs
 obtain ⟨z,i,c,rfl,rfl,hz,he,q⟩:=h
 obtain ⟨t,rfl⟩:=rx
 obtain ⟨t',rfl⟩:=ry
 obtain ⟨j,h1,h2,h3,h4,h5⟩:=iU he
 have hl:z.cps.toList.length=z.length:=by simp [Str.length]
 rw [hl] at h1 h4 h5
 have hn:=gw
 exact tail_any (typeIs_str s z t) slot_str_getitem.lookup (getItem_str (c:=c) (by
  have e1:decide (i < -(2 ^ 63:Int))=false:=decide_eq_false (by lia)
  have e2:decide (i ≥ 2 ^ 63)=false:=decide_eq_false (by lia)
  rw [e1,e2,Bool.or_false]) (by rw [h1]; simpa using h2) ⟨.str ⟨#[c]⟩,H,I.tok _,⟨_,rfl⟩,q⟩) hs
theorem iV (lo hi:Option Int) (n:Nat):(sliceBounds lo hi none n).1=((HT.sIx n 0 lo:Nat):Int) /\ (sliceBounds lo hi none n).2.1=((HT.sIx n n hi:Nat):Int) /\ (sliceBounds lo hi none n).2.2=1:=by
 refine ⟨?_,?_,rfl⟩
 ·cases lo with
  | none=>simp [sliceBounds,HT.sIx]
  | some i =>
   simp only [sliceBounds,HT.sIx,Option.getD_none,show (1:Int) > 0 by decide,if_true]
   by_cases h:i < 0
   ·simp only [h,if_true] <;> lia
   ·simp only [h,if_false] <;> lia
 ·cases hi with
  | none=>simp [sliceBounds,HT.sIx]
  | some i =>
   simp only [sliceBounds,HT.sIx,Option.getD_none,show (1:Int) > 0 by decide,if_true]
   by_cases h:i < 0
   ·simp only [h,if_true] <;> lia
   ·simp only [h,if_false] <;> lia
theorem ib (its:List Value) (lo hi:Option Int):slicePick its.toArray lo hi none=((its.drop (HT.sIx its.length 0 lo)).take (HT.sIx its.length its.length hi - HT.sIx its.length 0 lo)).toArray:=by
 obtain ⟨h1,h2,h3⟩:=iV lo hi its.toArray.size
 unfold slicePick
 rw [h1,h2,h3]
 simp only [sliceRange_one,pick_run,List.size_toArray] <;> rfl
def rSlL (K:PySem.W.Frag):V -> Option Int -> Option Int -> Hp -> VK -> Prop:=fun x lo hi H Q=>∃ a xs,x=.ref a /\ SqL K H a xs /\ ∀ p,H p=none -> Q (.ref p) (upd H p (.lst (bB xs lo hi)))
theorem bO:SlR X (rSlL X.K):=by
 intro pins s σ H x v vl vu lo hi sl Q I rx hs pl pu h
 obtain ⟨a,xs,rfl,hx,q⟩:=h
 cases rx
 obtain ⟨its,r,ht,hz⟩:=I.list hx
 have hlen:=r.length
 refine ⟨"list",_,slot_list_getitem.lookup,ht.isList.typeIs,?_⟩
 refine wpAny_getItem_list_slice ht.isList hs pl pu .none (by simp) ?_ (by rw [List.size_toArray] <;> lia)
 rw [ib,<- hlen]
 refine ⟨.ref s.heap.objs.size,_,I.laid (t':=s.toks) (o:=.lst (bB xs lo hi)) (fun b ob q=>Heap.get?_push_of_some _ q) (Nat.le_refl _) ?_,rfl,q _ (I.hok.fresh (Nat.le_refl _))⟩
 exact ⟨Nat.le_trans (fO xs lo hi) hz,_,0,(r.drop (HT.sIx xs.length 0 lo)).take (HT.sIx xs.length xs.length hi - HT.sIx xs.length 0 lo),Heap.get?_push_size _ rfl⟩
def cO:V -> Bool
 | .non=>true
 | .bl _=>true
 | .int _=>true
 | .str _=>true
 | _=>false
def eqV:V -> V -> Bool
 | .non,.non=>true
 | .bl a,.bl b=>a == b
 | .bl a,.int b=>(if a then 1 else 0) == b
 | .int a,.bl b=>a == (if b then 1 else 0)
 | .int a,.int b=>a == b
 | .str a,.str b=>a == b
 | _,_=>false
theorem jY {A:Around} {s:Shared} {y x:V} {u v:Value} (ry:bu y u) (rx:bu x v) (fy:cO y=true) (fx:cO x=true):SeqAt.EqAt A s u v (eqV y x):=by
 cases y with
 | non =>
  cases ry
  cases x with
  | non=>cases rx; exact SeqAt.EqAt.same _
  | bl b=>cases rx; exact SeqAt.EqAt.none_bool b
  | int b=>obtain ⟨t,rfl⟩:=rx; exact SeqAt.EqAt.none_int b t
  | str b=>obtain ⟨t,rfl⟩:=rx; exact SeqAt.EqAt.none_str b t
  | _=>exact absurd (show false=true from fx) Bool.false_ne_true
 | bl a =>
  cases ry
  cases x with
  | non=>cases rx; exact SeqAt.EqAt.bool_none a
  | bl b=>cases rx; exact SeqAt.EqAt.bool_bool a b
  | int b=>obtain ⟨t,rfl⟩:=rx; exact SeqAt.EqAt.bool_int a b t
  | str b=>obtain ⟨t,rfl⟩:=rx; exact SeqAt.EqAt.bool_str a b t
  | _=>exact absurd (show false=true from fx) Bool.false_ne_true
 | int a =>
  obtain ⟨t',rfl⟩:=ry
  cases x with
  | non=>cases rx; exact SeqAt.EqAt.int_none a t'
  | bl b=>cases rx; exact SeqAt.EqAt.int_bool a t' b
  | int b=>obtain ⟨t,rfl⟩:=rx; exact SeqAt.EqAt.int_int a t' b t
  | str b=>obtain ⟨t,rfl⟩:=rx; exact SeqAt.EqAt.int_str a t' b t
  | _=>exact absurd (show false=true from fx) Bool.false_ne_true
 | str a =>
  obtain ⟨t',rfl⟩:=ry
  cases x with
  | non=>cases rx; exact SeqAt.EqAt.str_none a t'
  | bl b=>cases rx; exact SeqAt.EqAt.str_bool a t' b
  | int b=>obtain ⟨t,rfl⟩:=rx; exact SeqAt.EqAt.str_int a t' b t
  | str b=>obtain ⟨t,rfl⟩:=rx; exact SeqAt.EqAt.str_str a t' b t
  | _=>exact absurd (show false=true from fx) Bool.false_ne_true
 | _=>exact absurd (show false=true from fy) Bool.false_ne_true
def eqU (x:V) (u:Value):Bool:=match u with
 | .none=>eqV .non x
 | .bool b=>eqV (.bl b) x
 | .int i _=>eqV (.int i) x
 | .str z _=>eqV (.str z) x
 | _=>false
theorem mR {x y:V} {u:Value} (r:bu y u) (f:cO y=true):eqU x u=eqV y x:=by
 cases y with
 | non=>cases r; rfl
 | bl b=>cases r; rfl
 | int i=>obtain ⟨t,rfl⟩:=r; rfl
 | str z=>obtain ⟨t,rfl⟩:=r; rfl
 | _=>exact absurd (show false=true from f) Bool.false_ne_true
theorem eT {x:V}:∀ {xs:List V} {us:List Value},aZ xs us -> xs.all cO=true -> us.any (eqU x)=xs.any fun y=>eqV y x
 | _,_,.nil,_=>rfl
 | y :: xs,u :: us,.cons r t,f=>by
  rw [List.all_cons,Bool.and_eq_true] at f
  rw [List.any_cons,List.any_cons,mR r f.1,eT t f.2]
theorem dB {A:Around} {s:Shared} {x:V} {v:Value} (rx:bu x v) (fx:cO x=true):∀ {xs:List V} {us:List Value},aZ xs us -> xs.all cO=true -> ∀ u ∈ us,SeqAt.EqAt A s u v (eqU x u)
 | _,_,.nil,_=>fun u hu=>by cases hu
 | y :: xs,u :: us,.cons r t,f=>fun u' hu=>by
  rw [List.all_cons,Bool.and_eq_true] at f
  rcases List.mem_cons.mp hu with rfl | hu
  ·rw [mR r f.1]; exact jY r rx f.1 fx
  ·exact dB rx fx t f.2 u' hu
def inV (x:V) (xs:List V):Bool:=xs.any fun y=>eqV y x
def rIn (K:PySem.W.Frag) (neg:Bool):R2:=fun x y H Q=>∃ p xs,y=.ref p /\ (SqL K H p xs \/ SqT K H p xs) /\ cO x=true /\ xs.all cO=true /\ Q (.bl (if neg then !inV x xs else inV x xs)) H
theorem lH:OpR X (compareOp .In) (rIn X.K false):=by
 intro pins s σ H x y v u Q I rx ry h
 obtain ⟨p,xs,rfl,hq,fx,fs,q⟩:=h
 cases ry
 rcases hq with hq | hq
 ·obtain ⟨its,r,pl,hz⟩:=I.list hq
  refine SeqAt.in_listAt (eqU x) pl.isList (fun w hw=>dB rx fx r fs w (by simpa using hw)) ⟨.bl _,H,I,rfl,?_⟩
  rw [show its.toArray.any (eqU x)=its.any (eqU x) by simp,eT r fs]
  exact q
 ·obtain ⟨its,r,pl,hz⟩:=I.tuple hq
  refine SeqAt.in_tupleAt (eqU x) pl (fun w hw=>dB rx fx r fs w (by simpa using hw)) ⟨.bl _,H,I,rfl,?_⟩
  rw [show its.toArray.any (eqU x)=its.any (eqU x) by simp,eT r fs]
  exact q
theorem iW:OpR X (compareOp .NotIn) (rIn X.K true):=by
 intro pins s σ H x y v u Q I rx ry h
 obtain ⟨p,xs,rfl,hq,fx,fs,q⟩:=h
 cases ry
 rcases hq with hq | hq
 ·obtain ⟨its,r,pl,hz⟩:=I.list hq
  refine SeqAt.notIn_listAt (eqU x) pl.isList (fun w hw=>dB rx fx r fs w (by simpa using hw)) ⟨.bl _,H,I,rfl,?_⟩
  rw [show its.toArray.any (eqU x)=its.any (eqU x) by simp,eT r fs]
  exact q
 ·obtain ⟨its,r,pl,hz⟩:=I.tuple hq
  refine SeqAt.notIn_tupleAt (eqU x) pl (fun w hw=>dB rx fx r fs w (by simpa using hw)) ⟨.bl _,H,I,rfl,?_⟩
  rw [show its.toArray.any (eqU x)=its.any (eqU x) by simp,eT r fs]
  exact q
theorem aO:cj X (.builtin "len") (fun xs H Q=>∃ p ys,xs=[.ref p] /\ (SqL X.K H p ys \/ SqT X.K H p ys) /\ Q (.int ys.length) H):=by
 intro pins s σ H xs us Q I r h
 obtain ⟨p,ys,rfl,hq,q⟩:=h
 obtain ⟨u,rfl,rx⟩:=gx r
 cases rx
 have hn:=gw
 rcases hq with hq | hq
 ·obtain ⟨its,r',pl,hz⟩:=I.list hq
  have hlen:=r'.length
  exact Calls.call_len_list pl.isList (by simp only [List.size_toArray] <;> lia) ⟨.int ys.length,H,I.tok _,⟨s.toks + 1,by rw [List.size_toArray,hlen]⟩,q⟩
 ·obtain ⟨its,r',pl,hz⟩:=I.tuple hq
  have hlen:=r'.length
  exact len_tuple pl (by simp only [List.size_toArray] <;> lia) ⟨.int ys.length,H,I.tok _,⟨s.toks + 1,by rw [List.size_toArray,hlen]⟩,q⟩
theorem bR:cj X (.builtin "len") (fun xs H Q=>∃ z,xs=[.str z] /\ z.length <= sizeLine /\ Q (.int z.length) H):=by
 intro pins s σ H xs us Q I r h
 obtain ⟨z,rfl,hz,q⟩:=h
 obtain ⟨u,rfl,t,rfl⟩:=gx r
 have hn:=gw
 exact len_str (by lia) ⟨.int z.length,H,I.tok _,⟨_,rfl⟩,q⟩
theorem ic:cj X (.type "tuple") (fun xs H Q=>∃ p ys,xs=[.ref p] /\ ((SqL X.K H p ys /\ ∀ l,H l=none -> Q (.ref l) (upd H l (.tup ys))) \/ (SqT X.K H p ys /\ Q (.ref p) H))):=by
 intro pins s σ H xs us Q I r h
 obtain ⟨p,ys,rfl,h⟩:=h
 obtain ⟨u,rfl,rx⟩:=gx r
 cases rx
 rcases h with ⟨hq,q⟩ | ⟨hq,q⟩
 ·obtain ⟨its,r',pl,hz⟩:=I.list hq
  have hlen:=r'.length
  refine call_tuple_list pl.isList (fun h' kp=>?_) (by simp only [List.size_toArray] <;> lia)
  have I1:Inv X pins σ H { s with heap:=h' }:=I.kept (t':=s.toks) kp
  have I2:Inv X pins σ (upd H h'.objs.size (.tup ys)) { s with heap:=h'.push { cls:=.type "tuple",data:=.seq its.toArray } } :=
   I1.laid (t':=s.toks) (fun b o e=>Heap.get?_push_of_some _ e) (Nat.le_refl _) (show bX X.prog X.w _ _ _ (.tup ys) from ⟨hz,its,r',IsTup.new _ _⟩)
  exact ⟨.ref h'.objs.size,_,I2,rfl,q _ (I1.hok.fresh (Nat.le_refl _))⟩
 ·obtain ⟨its,r',pl,hz⟩:=I.tuple hq
  exact call_tuple_same pl ⟨.ref p,H,I,rfl,q⟩
def tyV (K:PySem.W.Frag) (T:String) (x:V) (H:Hp):Prop:=match x with
 | .str _=>T="str"
 | .int _=>T="int"
 | .ref p=>(T="list" /\ ∃ xs,SqL K H p xs) \/ (T="tuple" /\ ∃ o,K.lookup p=some o /\ o.cls=.type "tuple" /\ o.dict=none) \/
   (T="dict" /\ ((∃ kvs,H p=some (.dK kvs)) \/ ∃ kvs,H p=some (.dT kvs))) \/ (T="set" /\ ∃ S n,H p=some (.set S n))
 | _=>False
theorem mS {pins:List (Addr × Obj)} {σ:St} {H:Hp} {s:Shared} {T:String} {x:V} {v:Value} (I:Inv X pins σ H s) (r:bu x v) (ty:tyV X.K T x H) :
  s.TypeIs v T /\ ∀ a,v=.ref a -> ∃ ob,s.heap.get? a=some ob /\ ob.dict=none:=by
 cases x with
 | str z =>
  obtain ⟨t,rfl⟩:=r
  cases (show T="str" from ty)
  exact ⟨typeIs_str s z t,fun _ e=>nomatch e⟩
 | int i =>
  obtain ⟨t,rfl⟩:=r
  cases (show T="int" from ty)
  exact ⟨typeIs_int s i t,fun _ e=>nomatch e⟩
 | ref p =>
  cases r
  rcases ty with ⟨rfl,xs,hq⟩ | ⟨rfl,o,hk,hc,hd⟩ | ⟨rfl,hk⟩ | ⟨rfl,S,n,hk⟩
  ·obtain ⟨its,_,pl,_⟩:=I.list hq
   refine ⟨pl.isList.typeIs,fun a e=>?_⟩
   cases e
   obtain ⟨o,n,e,c,hd,_⟩:=pl
   exact ⟨o,e,hd⟩
  ·refine ⟨⟨o,I.kIn p o hk,hc⟩,fun a e=>?_⟩
   cases e
   exact ⟨o,I.kIn _ o hk,hd⟩
  ·have z:∃ o,s.heap.get? p=some o /\ o.ExactDict:=by
    rcases hk with ⟨kvs,hk⟩ | ⟨kvs,hk⟩
    ·obtain ⟨_,_,_,_,o,_,_,e,ex,_⟩:=I.hok p _ hk
     exact ⟨o,e,ex⟩
    ·obtain ⟨_,_,_,_,o,_,_,e,ex,_⟩:=I.hok p _ hk
     exact ⟨o,e,ex⟩
   obtain ⟨o,e,ex⟩:=z
   refine ⟨⟨o,e,ex.1⟩,fun a e2=>?_⟩
   cases e2
   exact ⟨o,e,ex.2.1⟩
  ·obtain ⟨o,_,_,_,e,ex,_⟩:=I.hok p _ hk
   refine ⟨⟨o,e,ex.1⟩,fun a e2=>?_⟩
   cases e2
   exact ⟨o,e,ex.2.1⟩
 | _=>exact False.elim ty
def tBM0 (K:PySem.W.Frag) (T:String) (r:V -> List V -> Hp -> VK -> Prop) (to:TE):TE:=fun σ H Q=>to σ H fun x H1=>tyV K T x H1 /\ r x [] H1 Q
def tBM (K:PySem.W.Frag) (T:String) (r:V -> List V -> Hp -> VK -> Prop) (to:TE) (t:TA):TE:=fun σ H Q=>to σ H fun x H1=>tyV K T x H1 /\ t σ H1 fun xs H2=>r x xs H2 Q
variable {o e:Expr} {es:List Expr} {to:TE} {t:TA} {name:Str} {apos cpos:Pos} {T id:String} {r:V -> List V -> Hp -> VK -> Prop}
theorem pe_bm0 (pa:PlainAttrs T) (slot:Slot T name id) (hty:typeOf (.builtin id)=pure (.type "method_descriptor")) (hm:MtR X id r) (ho:PE X o to)
  (hbase:attributeBase o name X.env (eval o X.env)=eval o X.env:=by rfl) (hline:(apos.endLine == cpos.line)=true:=by rfl):PE X (.Call (.Attribute o name apos) [] [] cpos) (tBM0 X.K T r to):=by
 intro pins s σ H Q I h
 refine wpAny_Call_method0_late hbase hline (thn (ho pins s σ H _ I h) fun v s1 ⟨x,H1,I1,r1,ty,q1⟩=>?_)
 obtain ⟨h1,h2⟩:=mS I1 r1 ty
 exact ⟨T,id,pa,slot,hty,h1,h2,Calls.callWith_builtin rfl (PySem.evalArgs_none (hm pins s1 σ H1 x [] v [] Q I1 r1 .nil q1))⟩
theorem ck (pa:PlainAttrs T) (slot:Slot T name id) (hty:typeOf (.builtin id)=pure (.type "method_descriptor")) (hm:MtR X id r) (ho:PE X o to) (ha:PA X (e :: es) t)
  (hbase:attributeBase o name X.env (eval o X.env)=eval o X.env:=by rfl)
  (hfew:((backTo cpos (starEach (e :: es) X.env)).all (fun x=>!x.1) && (backToKw cpos (keywordEach [] X.env)).all (fun x=>x.1.isSome)
   && decide ((e :: es).length + ([]:List Keyword).length + (if ([]:List Keyword).isEmpty then 0 else 1) < 30))=true:=by rfl)
  (hline:(apos.endLine == cpos.line)=true:=by rfl) (hs:starEach (e :: es) X.env=(false,eval e X.env) :: starEach es X.env:=by rfl) (hplain:(backTo cpos (starEach es X.env)).any (·.1)=false:=by rfl) :
  PE X (.Call (.Attribute o name apos) (e :: es) [] cpos) (tBM X.K T r to t):=by
 intro pins s σ H Q I h
 refine wpAny_Call_method_late hbase hfew hline rfl (thn (ho pins s σ H _ I h) fun v s1 ⟨x,H1,I1,r1,ty,q1⟩=>?_)
 obtain ⟨h1,h2⟩:=mS I1 r1 ty
 refine ⟨T,id,pa,slot,hty,h1,h2,?_⟩
 have hA:=ha cpos pins s1 σ H1 _ I1 q1
 rw [hs] at hA ⊢
 refine Calls.callWith_builtin (by show (false || (backTo cpos (starEach es X.env)).any (·.1))=false; rw [hplain] <;> rfl) (Calls.evalArgs_plain ?_)
 exact thn hA fun us s2 ⟨vs,H2,I2,r2,q2⟩=>hm pins s2 σ H2 x vs v us Q I2 r1 r2 q2
end
def MtM (X:Cx) (id:String) (r:V -> List V -> Hp -> VK -> Prop):Prop :=
 ∀ (pins:List (Addr × Obj)) (s:Shared) (σ:St) (H:Hp) (x:V) (xs:List V) (v:Value) (us:List Value) (Q:VK),Inv X pins σ H s -> bu x v -> aZ xs us -> r x xs H Q ->
  wpAny (model X.prog X.w) X.A (call (.builtin id) (v :: us)) (EP X pins σ Q) X.xe s
theorem aZ.one:∀ {x:V} {us:List Value},aZ [x] us -> ∃ u,us=[u] /\ bu x u
 | _,_,.cons r .nil=>⟨_,rfl,r⟩
theorem aZ.rep {xs:List V} {us:List Value} (h:aZ xs us):∀ k:Nat,aZ (List.replicate k xs).flatten (List.replicate k us).flatten
 | 0=>.nil
 | k + 1=>by
  rw [List.replicate_succ,List.replicate_succ,List.flatten_cons,List.flatten_cons]
  exact aZ.append h (aZ.rep h k)
theorem iu (its:List Value):∀ (k:Nat) (acc:List Value),
  List.foldl (fun x1 x2=>x1 ++ x2) acc.toArray (List.replicate k its.toArray)=(acc ++ (List.replicate k its).flatten).toArray
 | 0,acc=>by simp
 | k + 1,acc=>by
  have e:acc.toArray ++ its.toArray=(acc ++ its).toArray:=by simp
  have e2:(acc ++ its) ++ (List.replicate k its).flatten=acc ++ (List.replicate (k + 1) its).flatten:=by
   rw [List.replicate_succ,List.flatten_cons,List.append_assoc]
  rw [<- e2,<- iu its k (acc ++ its),<- e,List.replicate_succ,List.foldl_cons]
section
variable {X:Cx} {pins:List (Addr × Obj)} {σ:St} {H:Hp} {s:Shared} {l b:Addr} {xs ys zs:List V}
theorem Inv.lset {its its':List Value} {n:Nat} {f:Array Value -> Array Value} {t':Nat} (I:Inv X pins σ H s) (hH:H l=some (.lst xs))
  (e:s.heap.get? l=some { cls:=.type "list",data:=.seq its.toArray n }) (hf:f its.toArray=its'.toArray) (hv:aZ ys its') (hz:ys.length <= sizeLine) :
  Inv X pins σ (upd H l (.lst ys)) { s with heap:=s.heap.update l (Obj.mapSeq f),toks:=t' }:=by
 have q:=PySem.IsL.update e f
 rw [hf] at q
 refine I.write (x:=l) (e:=l) (by rw [hH]; exact trivial) (.inl rfl) (fun b' u hb hu=>(Heap.get?_update_other s.heap (Obj.mapSeq f) (Ne.symm hb)).trans hu) ⟨_,q⟩ ?_
 exact ⟨hz,its',_,hv,q⟩
theorem Inv.lnew {its:List Value} {t':Nat} (I:Inv X pins σ H s) (hv:aZ ys its) (hz:ys.length <= sizeLine) :
  Inv X pins σ (upd H s.heap.objs.size (.lst ys)) { s with heap:=s.heap.push { cls:=.type "list",data:=.seq its.toArray },toks:=t' } :=
 I.laid (fun _ _ q=>Heap.get?_push_of_some _ q) (Nat.le_refl _) ⟨hz,its,0,hv,Heap.get?_push_size _ rfl⟩
theorem Inv.fresh (I:Inv X pins σ H s):H s.heap.objs.size=none:=I.hok.fresh (Nat.le_refl _)
theorem Inv.lstM (I:Inv X pins σ H s) (hH:H l=some (.lst xs)):xs.length <= sizeLine /\ ∃ (its:List Value) (n:Nat),aZ xs its /\ xs.length=its.length /\ s.heap.get? l=some { cls:=.type "list",data:=.seq its.toArray n }:=by
 obtain ⟨z,its,n,r,e⟩:=I.hok l _ hH
 exact ⟨z,its,n,r,r.length,e⟩
theorem gB {n:Nat} (h:n <= sizeLine):Builtin.List.listTooLong n=false:=by
 unfold Builtin.List.listTooLong
 exact decide_eq_false (by lia)
end
section
variable {X:Cx}
def rAppend:V -> List V -> Hp -> VK -> Prop:=fun x vs H Q=>∃ l xs y,x=.ref l /\ vs=[y] /\ H l=some (.lst xs) /\ xs.length < sizeLine /\ Q .non (upd H l (.lst (xs ++ [y])))
theorem dg:MtM X "list.append" rAppend:=by
 intro pins s σ H x vs v us Q I rx rv h
 obtain ⟨l,xs,y,rfl,rfl,hH,hz,q⟩:=h
 cases rx
 obtain ⟨u,rfl,ru⟩:=rv.one
 obtain ⟨z,its,n,r,hl,e⟩:=I.lstM hH
 refine call_meets F.slot_list_append ⟨_,e,rfl⟩ F.entry_list_append (F.args_list_append_2 _ _) (PySem.list_append l its.toArray n u (by rw [List.size_toArray]; lia)) ⟨e,?_⟩
 refine ⟨.non,_,I.lset (its':=its ++ [u]) hH e (by simp) (r.append (.cons ru .nil)) ?_,rfl,q⟩
 rw [List.length_append,List.length_singleton]
 lia
def rExtend:V -> List V -> Hp -> VK -> Prop:=fun x vs H Q=>∃ l b xs zs,x=.ref l /\ vs=[.ref b] /\ H l=some (.lst xs) /\ H b=some (.lst zs) /\ xs.length + zs.length <= sizeLine /\ Q .non (upd H l (.lst (xs ++ zs)))
theorem lI:MtM X "list.extend" rExtend:=by
 intro pins s σ H x vs v us Q I rx rv h
 obtain ⟨l,b,xs,zs,rfl,rfl,hH,hB,hz,q⟩:=h
 cases rx
 obtain ⟨u,rfl,ru⟩:=rv.one
 cases ru
 obtain ⟨z,its,n,r,hl,e⟩:=I.lstM hH
 obtain ⟨z2,its2,n2,r2,hl2,e2⟩:=I.lstM hB
 have hsz:its.toArray.size + its2.toArray.size <= sizeLine:=by rw [List.size_toArray,List.size_toArray]; lia
 have hlong:¬ (!its.toArray.isEmpty && Builtin.List.listTooLong (its.toArray.size + its2.toArray.size))=true:=by
  rw [gB hsz,Bool.and_false]
  exact Bool.false_ne_true
 refine call_meets F.slot_list_extend ⟨_,e,rfl⟩ F.entry_list_extend (F.args_list_extend_2 _ _)
  (AutoSeq1.list_extend_list_list_0 l its.toArray n b its2.toArray n2 hlong (by rw [List.size_toArray]; lia) (by lia)) ⟨e,e2,?_⟩
 refine ⟨.non,_,I.lset (its':=its ++ its2) hH e (by simp) (r.append r2) ?_,rfl,q⟩
 rw [List.length_append]
 lia
def rCat:R2:=fun x y H Q=>∃ l b xs zs,x=.ref l /\ y=.ref b /\ H l=some (.lst xs) /\ H b=some (.lst zs) /\ xs.length + zs.length <= sizeLine /\ ∀ p,H p=none -> Q (.ref p) (upd H p (.lst (xs ++ zs)))
theorem op_cat:OpR X (binaryOp .Add) rCat:=by
 intro pins s σ H x y v u Q I rx ry h
 obtain ⟨l,b,xs,zs,rfl,rfl,hH,hB,hz,q⟩:=h
 cases rx
 cases ry
 obtain ⟨z,its,n,r,hl,e⟩:=I.lstM hH
 obtain ⟨z2,its2,n2,r2,hl2,e2⟩:=I.lstM hB
 refine PySem.P.add_list e e2 ?_ (by rw [List.size_toArray,List.size_toArray]; lia)
 have ea:its.toArray ++ its2.toArray=(its ++ its2).toArray:=by simp
 rw [ea]
 exact ⟨.ref _,_,I.lnew (t':=s.toks) (r.append r2) (by rw [List.length_append]; lia),rfl,q _ I.fresh⟩
def rRep:R2:=fun x y H Q=>∃ l k xs,x=.ref l /\ y=.int k /\ H l=some (.lst xs) /\ -(2 ^ 63) <= k /\ k < 2 ^ 63 /\ xs.length * k.toNat <= sizeLine /\
 ∀ p,H p=none -> Q (.ref p) (upd H p (.lst (List.replicate k.toNat xs).flatten))
theorem len_rep {α:Type} (xs:List α) (k:Nat):(List.replicate k xs).flatten.length=k * xs.length:=by
 induction k with
 | zero=>simp
 | succ k ih=>rw [List.replicate_succ,List.flatten_cons,List.length_append,ih,Nat.succ_mul,Nat.add_comm]
theorem op_rep:OpR X (binaryOp .Mult) rRep:=by
 intro pins s σ H x y v u Q I rx ry h
 obtain ⟨l,k,xs,rfl,rfl,hH,h1,h2,hz,q⟩:=h
 cases rx
 obtain ⟨t,rfl⟩:=ry
 obtain ⟨z,its,n,r,hl,e⟩:=I.lstM hH
 have hlen:its.toArray.size * k.toNat <= sizeLine:=by rw [List.size_toArray,<- hl]; exact hz
 have hcap:¬ its.toArray.size * k.toNat > (2 ^ 63 - 1) / 8:=by
  have:(sizeLine:Nat) <= (2 ^ 63 - 1) / 8:=by decide
  lia
 have hfit:¬ (!Builtin.List.listFitsIndex k)=true:=by
  rw [fitsIndex_both h1 h2]
  exact Bool.false_ne_true
 have hlong:¬ Builtin.List.listTooLong (its.toArray.size * k.toNat)=true:=by
  rw [gB hlen]
  exact Bool.false_ne_true
 have hnew:List.foldl (fun x1 x2=>x1 ++ x2) #[] (List.replicate (if its.toArray.isEmpty=true then 0 else k.toNat) its.toArray)=(List.replicate k.toNat its).flatten.toArray:=by
  have f0:∀ m:Nat,List.foldl (fun x1 x2=>x1 ++ x2) #[] (List.replicate m its.toArray)=(List.replicate m its).flatten.toArray:=fun m=>by
   have:=iu its m []
   rw [List.nil_append] at this
   exact this
  rw [f0]
  cases its with
  | nil=>simp
  | cons a r'=>rw [if_neg (by simp)]
 refine wpAny_binaryOp_repeat_ref (T:="list") (U:="int") (by decide) ⟨_,e,rfl⟩ (fun s'=>typeIs_int s' k t) noFill_list_mul F.fills_int_mul F.slot_int_rmul repeat_list F.slot_int_index.lookup
  (call_meets F.slot_int_rmul (typeIs_int s k t) F.entry_int_rmul (F.args_int_rmul_2 _ _) (int___rmul___int_list k t l its.toArray n)
   ⟨e,rfl,⟨_,e,rfl⟩,call_meets F.slot_list_mul ⟨_,e,rfl⟩ F.entry_list_mul (F.args_list_mul_2 _ _) (AutoListH.list___mul___list_int_3 l its.toArray n k t hfit hcap hlong) ⟨e,?_⟩⟩)
 rw [hnew]
 exact ⟨.ref _,_,I.lnew (t':=s.toks) (r.rep k.toNat) (by rw [len_rep,Nat.mul_comm]; exact hz),rfl,q _ I.fresh⟩
end
section
variable {prog:Program} {w:World} {A:Around} {E:Value -> Shared -> Prop} {s:Shared}
end
section
variable {X:Cx}
end
end L2
namespace Att
open PySem PySem.W PySem.Calls PyProof.Rows
theorem fU {P:Params} {h:Heap}:∀ (ns:List Int) (vs:List Value),WellAll P h vs (ns.map WData.int) -> IntsAre vs ns:=by
 intro ns
 induction ns with
 | nil =>
  intro vs w
  rw [List.map_nil] at w
  cases w
  exact .nil
 | cons n ns ih =>
  intro vs w
  rw [List.map_cons] at w
  cases w with
  | cons a b =>
   cases a
   exact .cons _ _ (ih _ b)
theorem lJ {l:OpenLaw} {n:Nat} (hn:l.most=some n) {P:Params} {h:Heap} {args:List WData} {vals:List Value}
  (hpre:l.row.toRowW.claim.pre args=true) (hwl:WellAll P h vals args) :
  ∃ a vs ns,vals=[Value.ref a] /\ args=[WData.list (ns.map WData.int)] /\ h.get? a=some { cls:=.type "list",data:=.seq vs.toArray } /\ IntsAre vs ns /\ ns.length <= n:=by
 have hsh:WShape.hasAll [] args [.list .int]=true:=(pre_splitW hpre).1
 have hc:l.pre.holds [] { args:=args }=true:=(pre_splitW hpre).2
 obtain ⟨d,r,rfl,h1,h2⟩:=hasAllW_cons hsh
 obtain rfl:=hasAllW_nil h2
 obtain ⟨xs,rfl,h3⟩:=hasW_list h1
 obtain ⟨ns,rfl⟩:=items_int h3
 have hlen:ns.length <= n:=by
  unfold OpenLaw.pre at hc
  have h4:(WTm.not (.lt (.lit (.int (n:Int))) (.len (.arg 0)))).holds [] { args:=[.list (ns.map .int)] }=true:=by
   have h4:=(holds_andW hc).1
   rw [hn] at h4
   exact h4
  have h5:=condW_of h4 (w_not (w_lt w_lit (w_len_list (w_arg rfl))))
  rw [List.length_map] at h5
  refine Nat.le_of_not_lt fun q=>?_
  have q':(n:Int) < ((ns.length:Nat):Int):=by lia
  first
   | (rw [decide_eq_true q'] at h5; exact absurd h5 (by decide))
   | (simp at h5; lia)
 cases hwl with
 | cons w1 w2 =>
  cases w2
  cases w1 with
  | list ho hall=>exact ⟨_,_,ns,rfl,rfl,ho,fU ns _ hall,hlen⟩
theorem lK (l:OpenLaw) (args:List WData):l.row.toRowW.claim.post args (.bool true) args=true :=
 postW_of (r:=l.row.toRowW) (X:=(true == true))
  (show WShape.has [] (.bool true) .bool=true by first | rfl | decide | simp [WShape.has,WShape.arms,WShape.armsAll])
  (show (WTm.eq .res (.lit (.bool true))).value [] { args:=args,res:=some (.bool true),after:=args }=some (.bool (true == true)) from w_eq_bool (w_res rfl) w_lit) rfl
theorem jm {l:OpenLaw} {n:Nat} {q:Program} {loose:List Str} {XP:(Str -> Option Value) -> Heap -> Prop} {YP:World -> Heap -> Prop} {d:DefRec}
  (hn:l.most=some n) (hdf:d.params.defaults=[])
  (call:∀ (w:World) (s₀ s₁:Shared) (mg mb:Str -> Option Value) (fa:Addr) (o:Obj) (pm cd doc:Value) (a:Addr) (vs:List Value) (ns:List Int),
   Ground q loose [] XP w s₀ mg mb s₁.heap -> YP w s₁.heap ->
   s₁.heap.get? fa=some o -> o.data=.func (docDef d.name d.params d.body d.scope pm cd doc) -> s₁.heap.CodeRec cd d.name -> mg d.name=some (.ref fa) ->
   s₁.heap.get? a=some { cls:=.type "list",data:=.seq vs.toArray } -> IntsAre vs ns -> ns.length <= n -> s₁.gens=#[] ->
   codeAny (model l.prog w) callerA (.call (.ref fa) ⟨[.ref a],[]⟩) (fun r s'=>r=.ok (.ret (.bool true)) /\ OldK s₁.heap s'.heap /\ s'.os=s₁.os /\ AllBare s'.gens) s₁) :
  WalkO q loose XP YP l.row.toRowW d [] (fun f vs=>PySem.call f vs):=by
 intro w s₀ s₁ mg mb G Y fa o pm cd doc dV kV ho hd hcd hD hmg hg args vals as hpre hlay hrd hwl hlo
 obtain rfl:dV=.none:=Dflts.none hD hdf
 obtain rfl:kV=.none:=Dflts.noKw hD
 obtain ⟨a,vs,ns,rfl,rfl,hobj,hints,hlen⟩:=lJ hn hpre hwl
 refine enter_call (codeAny_mono (call w s₀ s₁ mg mb fa o pm cd doc a vs ns G Y ho (fd_plain hd) hcd hmg hobj hints hlen hg) fun r s' hq=>?_)
 obtain ⟨rfl,h2,h3,h4⟩:=hq
 exact ⟨.inl ⟨.bool true,.bool true,[],rfl,fun _=>rfl,.bool true,lK l _,fun _=>⟨List.Pairwise.nil,fun _ hm=>(nomatch hm)⟩⟩,h2,h3,h4⟩
section
variable {prog:Program} {w:World} {A:Around} {E:Value -> Shared -> Prop} {s:Shared} {K:Frag}
end
end Att
namespace L2
open PySem PySem.Spec PyProof.Rows
theorem iv:∀ {vs:List Value} {ns:List Int},IntsAre vs ns -> aZ (ns.map V.int) vs
 | _,_,.nil=>.nil
 | _,_,.cons n t h=>.cons ⟨t,rfl⟩ (iv h)
def Only (H:Hp):Prop:=∀ b,H b=none \/ ∃ o xs,H b=some (.frz o (.lst xs))
theorem mT {P:Program} {w:World} {K:PySem.W.Frag} {mg mb:Str -> Option Value} {CX:CXT} {k:Nat} {fa a:Addr} {fd:FuncData} {x:Str} {sp:Sp} {s₁:Shared} {vs:List Value} {ns:List Int}
  (KX:K.In s₁.heap) (hns:s₁.heap.Ns mainGlobals mg) (hb:s₁.heap.Ns builtinsNs mb) (hbb:∀ x:Str,x ≠ "__name__" -> mb x=bootBuiltins x) (hlim:s₁.heap.NoLimit) (hg:s₁.gens=#[])
  (ha:s₁.heap.get? a=some { cls:=.type "list",data:=.seq vs.toArray }) (hi:IntsAre vs ns) (hl:ns.length <= sizeLine) (hr:bP k callerA)
  (F:∀ base:Heap,K.In base -> base.Ns mainGlobals mg -> bG P w K mg base CX k fa fd [x] sp) (hbind:∀ (s:Shared) (u:Value),BindsTo s fd ⟨[u],[]⟩ [(x,u)])
  (hsp:∀ H:Hp,Only H -> SqL K H a (ns.map V.int) -> sp [.ref a] H (fun v _=>v=.bl true) fun _ _ _=>False)
  (hCX:∀ H e s',CX [] H s₁ (fun _ _ _=>False) e s' -> False) :
  codeAny (model P w) callerA (.call (.ref fa) ⟨[.ref a],[]⟩) (fun r s'=>r=.ok (.ret (.bool true)) /\ OldK s₁.heap s'.heap /\ s'.os=s₁.os /\ AllBare s'.gens) s₁:=by
 have rv:=iv hi
 have lenV:=hi.length
 have core:∀ H:Hp,Only H -> SqL K H a (ns.map V.int) -> HOk P w H s₁.heap -> (∀ b,H b ≠ none -> b=a) -> (H a ≠ none -> K.lookup a=none) ->
   codeAny (model P w) callerA (.call (.ref fa) ⟨[.ref a],[]⟩) (fun r s'=>r=.ok (.ret (.bool true)) /\ OldK s₁.heap s'.heap /\ s'.os=s₁.os /\ AllBare s'.gens) s₁:=by
  intro H hO hS hok hA hK
  have base_of:∀ {b:Addr} {o:Obj},s₁.heap.get? b=some o -> H b=none -> (iO s₁.heap H).get? b=some o:=fun e n=>mH e n
  have noA:∀ {b:Addr} {o:Obj} {es:Array DictEntry} {ep:Nat},s₁.heap.get? b=some o -> o.data=.dict es ep -> H b=none:=fun {b o es ep} e d=>by
   cases q:H b with
   | none=>rfl
   | some u =>
    have e':b=a:=hA b (by rw [q]; simp)
    subst e'
    rw [ha] at e; cases e
    have d':Data.seq vs.toArray _=Data.dict es ep:=d
    cases d'
  have nsK:∀ {b:Addr} {m:Str -> Option Value},s₁.heap.Ns b m -> (iO s₁.heap H).Ns b m:=fun {b m} ⟨o,es,ep,e,d,r⟩=>⟨o,es,ep,base_of e (noA e d),d,r⟩
  have hKb:K.In (iO s₁.heap H):=fun b o e=>base_of (KX b o e) (by
   cases q:H b with
   | none=>rfl
   | some u =>
    have e':b=a:=hA b (by rw [q]; simp)
    subst e'
    rw [hK (by rw [q]; simp)] at e; cases e)
  have hM:Mod K mg (iO s₁.heap H):=⟨hKb,nsK hns,⟨mb,nsK hb,hbb⟩,let ⟨mc,h1,h2⟩:=hlim; ⟨mc,nsK h1,h2⟩⟩
  have e0:Env0 P w K mg (iO s₁.heap H) callerA [] s₁ H:=⟨rfl,hM,fun b o e=>of_hidT e,Nat.le_of_eq (lB _ _),trivial,fun b hb=>absurd (show b ∈ ([]:List Addr) from hb) (by simp),hok,.of_eq hg⟩
  refine codeAny_mono ((F _ hKb (nsK hns)).run callerA [] s₁ H ⟨[.ref a],[]⟩ [.ref a] [.ref a] _ _ hr e0 (hbind s₁ (.ref a)) (.cons rfl .nil) (hsp H hO hS)) fun r s' h=>?_
  cases r with
  | error e=>exact (hCX H e s' h).elim
  | ok fl =>
   cases fl with
   | next=>exact False.elim h
   | brk=>exact False.elim h
   | cont=>exact False.elim h
   | ret u =>
    obtain ⟨v,H',os,bare,un,hok',r',q⟩:=h
    have q':v=.bl true:=q
    subst q'
    obtain rfl:u=Value.bool true:=r'
    refine ⟨rfl,OldK.of_keep fun b o e=>?_,os,bare⟩
    cases q:H b with
    | none=>exact un.keep b o e q (by intro z; exact absurd (show b ∈ ([]:List Addr) from z) (by simp)) (by simp)
    | some u =>
     rcases hO b with z | ⟨ob,xs,z⟩
     ·rw [q] at z; cases z
     ·have z2:=un.frzs b ob _ z
      obtain ⟨e1,_⟩:=hok b _ z
      obtain ⟨e2,_⟩:=hok' b _ z2
      rw [e] at e1; cases e1
      exact e2
 cases hk:K.lookup a with
 | some o =>
  have e:=KX a o hk
  rw [ha] at e
  cases e
  refine core (fun _=>none) (fun _=>.inl rfl) (.inr ⟨_,vs.toArray,_,hk,rfl,rfl,rfl,by rw [List.size_toArray,lenV]; exact hl,by simpa using rv⟩) (fun b u z=>by have z':(none:Option HO)=some u:=z; cases z') (fun b z=>absurd rfl z) fun z=>absurd rfl z
 | none =>
  refine core (fun b=>if b=a then some (.frz { cls:=.type "list",data:=.seq vs.toArray } (.lst (ns.map V.int))) else none) (fun b=>?_) (.inl (.inr ⟨{ cls:=.type "list",data:=.seq vs.toArray },if_pos rfl⟩)) (fun b u z=>?_) (fun b z=>?_) fun _=>hk
  ·by_cases hb:b=a
   ·exact .inr ⟨_,_,if_pos hb⟩
   ·exact .inl (if_neg hb)
  ·by_cases hb:b=a
   ·have z':=(if_pos hb).symm.trans z
    cases z'
    subst hb
    exact ⟨ha,by rw [List.length_map]; exact hl,vs,_,rv,ha⟩
   ·have z':=(if_neg hb).symm.trans z
    cases z'
  ·by_cases hb:b=a
   ·exact hb
   ·exact absurd (if_neg hb) z
theorem walk_of {l:PySem.W.OpenLaw} {n k:Nat} {q:Program} {loose:List Str} {XP:(Str -> Option Value) -> Heap -> Prop} {YP:World -> Heap -> Prop} {d:DefRec} {K:Params -> PySem.W.Frag} {CX:World -> CXT} {sp:World -> Sp} {x:Str}
  (hn:l.most=some n) (hn2:n <= sizeLine) (hdf:d.params.defaults=[]) (hr:bP k callerA)
  (hY:∀ (w:World) (h:Heap),YP w h -> (K w.params).In h)
  (F:∀ (w:World) (mg:Str -> Option Value) (fa:Addr) (h:Heap),(K w.params).In h -> h.Ns mainGlobals mg -> mg d.name=some (.ref fa) ->
   ∃ fd:FuncData,(∀ (s:Shared) (u:Value),BindsTo s fd ⟨[u],[]⟩ [(x,u)]) /\
    ∀ base:Heap,(K w.params).In base -> base.Ns mainGlobals mg -> bG l.prog w (K w.params) mg base (CX w) k fa fd [x] (sp w))
  (hsp:∀ (w:World) (H:Hp) (a:Addr) (ns:List Int),ns.length <= n -> Only H -> SqL (K w.params) H a (ns.map V.int) -> sp w [.ref a] H (fun v _=>v=.bl true) fun _ _ _=>False)
  (hCX:∀ (w:World) (H:Hp) (s:Shared) (e:Value) (s':Shared),CX w [] H s (fun _ _ _=>False) e s' -> False) :
  PySem.W.WalkO q loose XP YP l.row.toRowW d [] (fun f vs=>PySem.call f vs):=by
 refine Att.jm hn hdf fun w s₀ s₁ mg mb fa o pm cd doc a vs ns G Y ho hd hcd hmg hobj hints hlen hg=>?_
 have KX:=hY w _ Y
 obtain ⟨fd,hb,hF⟩:=F w mg fa _ KX G.T.g hmg
 exact mT KX G.T.g G.T.b G.T.builtins G.T.nolimit hg hobj hints (Nat.le_trans hlen hn2) hr hF hb (fun H hO hS=>hsp w H a ns hlen hO hS) fun H e s'=>hCX w H s₁ e s'
def aP (s:Stmt):Arguments:=match s with
 | .FunctionDef _ a _ _ _ _ _ _ _ _=>a
 | _=>{ posonlyargs:=[],args:=[],vararg:=none,kwonlyargs:=[],kw_defaults:=[],kwarg:=none,defaults:=[] }
def aK (s:Stmt):List Stmt:=match s with
 | .FunctionDef _ _ b _ _ _ _ _ _ _=>b
 | _=>[]
def ai (s:Stmt):Scope:=match s with
 | .FunctionDef _ _ _ _ _ _ sc _ _ _=>sc
 | _=>{ kind:=.function,names:=[],isGenerator:=false,isCoroutine:=false }
abbrev CX0:CXT:=fun _ _ _ _ _ _=>False
abbrev E0:XK:=fun _ _ _=>False
theorem pass0 {X:Cx}:cw CX0 X E0:=fun _ _ _ _ _ _ _ h=>h.elim
structure Fun (K:PySem.W.Frag) (x qual:Str) (st:Stmt) (f:Addr) (fd:FuncData):Prop where
 ex:∃ (oc:Value) (od:Option Addr) (kV doc pm:Value) (an:Option Addr) (cdv ct:Value) (osl:Array (Option Value)),
  fd=PySem.W.fnOf x qual (aP st) (aK st) (ai st) .none kV doc pm an cdv ct /\ K.lookup f=some ⟨oc,od,.func fd,osl⟩ /\ PySem.W.codeIn K cdv qual=true
 kp:PySem.W.keepIn K (.ref f)=true
section
variable {P:Program} {w:World} {K:PySem.W.Frag} {mg:Str -> Option Value} {base:Heap}
theorem Fun.ok {x qual:Str} {st:Stmt} {f:Addr} {fd:FuncData} {N ps:List Str} {k:Nat} {sp:Sp} (F:Fun K x qual st f fd) (S:aN N ps (ai st)) (len:∀ vs H Q E,sp vs H Q E -> vs.length=ps.length)
  (hbody:∀ (cdv:Value) (A:Around) (outer:List Env) (s:Shared) (H:Hp) (vs:List V) (Q:VK) (E:XK),bP k (A.deeper (envOfC qual (ai st) s.heap.objs.size f cdv)) -> sp vs H Q E ->
   ∃ t,PSs (dm CX0 P w K mg base N qual (ai st) f cdv A outer s H E).nox (aK st) t /\ t { nx:=fun _ H'=>Q .non H',rt:=Q } (eR N vs) H):bG P w K mg base CX0 (k + 1) f fd ps sp:=by
 obtain ⟨oc,od,kV,doc,pm,an,cdv,ct,osl,rfl,lk,hcd⟩:=F.ex
 refine fn_of lk hcd S len fun A outer s H vs Q E hr hsp=>?_
 obtain ⟨t,h,q⟩:=hbody cdv A outer s H vs Q E hr hsp
 exact ⟨t,h.nox,q⟩
theorem Fun.binds {x qual:Str} {st:Stmt} {f:Addr} {fd:FuncData} {ps:List Str} (F:Fun K x qual st f fd)
  (h:∀ (kV doc pm:Value) (an:Option Addr) (cdv ct:Value) (us:List Value),us.length=ps.length -> bindArgs (PySem.W.fnOf x qual (aP st) (aK st) (ai st) .none kV doc pm an cdv ct) ⟨us,[]⟩=pure (ps.zip us)):gz K fd ps []:=by
 obtain ⟨oc,od,kV,doc,pm,an,cdv,ct,osl,rfl,lk,hcd⟩:=F.ex
 exact .all (h kV doc pm an cdv ct)
theorem aY {x qual:Str} {st:Stmt} {f:Addr} {oc:Value} {od an:Option Addr} {osl:Array (Option Value)} {kV doc pm cdv ct:Value} (l:K.lookup f=some ⟨oc,od,.func (PySem.W.fnOf x qual (aP st) (aK st) (ai st) .none kV doc pm an cdv ct),osl⟩)
  (c:PySem.W.codeIn K cdv qual=true) (k:PySem.W.keepIn K (.ref f)=true):Fun K x qual st f (PySem.W.fnOf x qual (aP st) (aK st) (ai st) .none kV doc pm an cdv ct):=⟨⟨oc,od,kV,doc,pm,an,cdv,ct,osl,rfl,l,c⟩,k⟩
end
theorem bM {n:Nat} (h:n <= 1000):n < sizeLine:=Nat.lt_of_le_of_lt h (by decide)
section
variable {X:Cx}
theorem pv (i:Nat) {x:Str} {pos:Pos} (hN:X.N[i]?=some x:=by rfl) (hv:Vis X.env.scope x:=by first | exact Or.inl rfl | exact Or.inr (Or.inl rfl) | exact Or.inr (Or.inr rfl)) (hd:(x == ("__debug__":Str))=false:=by decide)
  (hcd:(x == ("__classdict__":Str))=false:=by decide):PE X (.Name x pos) (tVar i):=pe_var hN hv hd hcd
end
theorem bZ {A B:Prop} (h:B):if false=true then A else B:=by
 rw [if_neg Bool.false_ne_true]
 exact h
theorem cW {A B:Prop} (h:A):if true=true then A else B:=by
 rw [if_pos rfl]
 exact h
theorem bz {c A B:Prop} [Decidable c] (h1:c -> A) (h2:¬ c -> B):if c then A else B:=by
 by_cases h:c
 ·rw [if_pos h]
  exact h1 h
 ·rw [if_neg h]
  exact h2 h
theorem iteNS {c A B:Prop} [Decidable c] (hc:c) (h:B):if (!decide c)=true then A else B:=by
 rw [decide_eq_true hc]
 exact bZ h
def ar (H H':Hp):Prop:=∀ b o,H b=some o -> H' b=some o
theorem ar.refl (H:Hp):ar H H:=fun _ _ h=>h
theorem ar.trans {H H1 H2:Hp} (a:ar H H1) (b:ar H1 H2):ar H H2:=fun c o h=>b c o (a c o h)
theorem ar.free {H H':Hp} (e:ar H H') {l:Addr} (h:H' l=Option.none):H l=Option.none:=by
 cases q:H l with
 | none=>rfl
 | some o =>
  rw [e l o q] at h
  cases h
theorem ar.seq {K:PySem.W.Frag} {H H':Hp} {a:Addr} {xs:List V} (e:ar H H') (h:SqL K H a xs):SqL K H' a xs:=by
 rcases h with (h | ⟨o,h⟩) | h
 ·exact .inl (.inl (e _ _ h))
 ·exact .inl (.inr ⟨o,e _ _ h⟩)
 ·exact .inr h
section
variable {κ:Type} [DecidableEq κ]
end
theorem eH {env:Env}:∀ (l:List (Str × NameKind)) (acc:List (Str × Addr)),(∀ x ∈ l,x.2=NameKind.free -> ∃ c,env.cells.lookup x.1=some c) -> (∀ x c,acc.lookup x=some c -> env.cells.lookup x=some c) ->
  ∃ cl:List (Str × Addr),(forIn l acc (fun (p:Str × NameKind) (cs:List (Str × Addr))=>if (p.2 == NameKind.free)=true then (do let c <- cellOf env p.1; pure (ForInStep.yield ((p.1,c) :: cs))) else pure (ForInStep.yield cs)):Sem (List (Str × Addr)))=pure cl /\
   (∀ x c,cl.lookup x=some c -> env.cells.lookup x=some c) /\ (∀ x,(x,NameKind.free) ∈ l -> ∃ c,cl.lookup x=some c) /\ ∀ x c,acc.lookup x=some c -> ∃ c',cl.lookup x=some c'
 | [],acc,_,ha=>⟨acc,rfl,ha,fun _ z=>(nomatch z),fun x c e=>⟨c,e⟩⟩
 | (n,k) :: r,acc,h,ha=>by
  by_cases hk:k=NameKind.free
  ·subst hk
   obtain ⟨c,hc⟩:=h (n,NameKind.free) List.mem_cons_self rfl
   obtain ⟨cl,e1,e2,e3,e4⟩:=eH r ((n,c) :: acc) (fun x hx=>h x (List.mem_cons_of_mem _ hx)) (fun x c' e=>by
    by_cases hx:x=n
    ·subst hx
     simp only [List.lookup_cons,beq_self_eq_true] at e
     cases e
     exact hc
    ·have hb:(x == n)=false:=by simpa using hx
     simp only [List.lookup_cons,hb] at e
     exact ha x c' e)
   have hn:∃ c',cl.lookup n=some c':=e4 n c (by simp only [List.lookup_cons,beq_self_eq_true])
   refine ⟨cl,?_,e2,fun x hx=>?_,fun x c' e=>?_⟩
   ·have hcell:cellOf env n=pure c:=by unfold cellOf; rw [hc]
    rw [List.forIn_cons]
    show ((if (NameKind.free == NameKind.free)=true then (do let c <- cellOf env n; pure (ForInStep.yield ((n,c) :: acc))) else pure (ForInStep.yield acc)) >>= _)=pure cl
    rw [if_pos (by decide),hcell,pure_bind,pure_bind]
    exact e1
   ·rcases List.mem_cons.mp hx with q | q
    ·cases q; exact hn
    ·exact e3 x q
   ·by_cases hx:x=n
    ·subst hx; exact hn
    ·refine e4 x c' ?_
     have hb:(x == n)=false:=by simpa using hx
     simp only [List.lookup_cons,hb]
     exact e
  ·obtain ⟨cl,e1,e2,e3,e4⟩:=eH r acc (fun x hx=>h x (List.mem_cons_of_mem _ hx)) ha
   refine ⟨cl,?_,e2,fun x hx=>?_,e4⟩
   ·have hb:(k == NameKind.free)=false:=by simpa using hk
    rw [List.forIn_cons]
    show ((if (k == NameKind.free)=true then (do let c <- cellOf env n; pure (ForInStep.yield ((n,c) :: acc))) else pure (ForInStep.yield acc)) >>= _)=pure cl
    rw [hb,if_neg (by decide),pure_bind]
    exact e1
   ·rcases List.mem_cons.mp hx with q | q
    ·cases q; exact absurd rfl hk
    ·exact e3 x q
theorem gC {scope:Scope} {env:Env} (h:∀ x ∈ scope.names,x.2=NameKind.free -> ∃ c,env.cells.lookup x.1=some c) :
  ∃ cl:List (Str × Addr),closureFor scope env=pure cl /\ (∀ x c,cl.lookup x=some c -> env.cells.lookup x=some c) /\ ∀ x,(x,NameKind.free) ∈ scope.names -> ∃ c,cl.lookup x=some c:=by
 obtain ⟨cl,e1,e2,e3,_⟩:=eH scope.names [] h (fun x c e=>by simp at e)
 refine ⟨cl,?_,e2,e3⟩
 unfold closureFor
 show (forIn scope.names [] _ >>= fun cs=>pure cs)=pure cl
 have e1':(forIn scope.names ([]:List (Str × Addr)) (fun (x:Str × NameKind) (cs:List (Str × Addr))=>if (x.2 == NameKind.free)=true then (do let c <- cellOf env x.1; pure (ForInStep.yield ((x.1,c) :: cs))) else pure (ForInStep.yield cs)):Sem (List (Str × Addr)))=pure cl:=e1
 have e5:∀ (m:Sem (List (Str × Addr))),m=pure cl -> (m >>= fun cs=>pure cs)=pure cl:=fun m e=>by rw [e,pure_bind]
 exact e5 _ e1'
def cxC (X:Cx) (scope:Scope) (cl:List (Str × Addr)) (N2 ys:List Str) (C:Addr) (s:Shared) (H:Hp) (fp:List Addr):Cx :=
 { prog:=X.prog,w:=X.w,K:=X.K,mg:=X.mg,base:=X.base,A:=X.A,N:=N2 ++ ys,s₀:=s,H₀:=H,env:=compEnvC scope cl C X.env,outer:=X.stack,stack:=X.stack,ex:=fp,fn:=fun _=>false,calm:=X.calm,pn:=[],xe:=fun _ _=>False }
def PTs (X:Cx) (ifs:List Expr) (t:TT):Prop :=
 ∀ (pins:List (Addr × Obj)) (s:Shared) (σ:St) (H:Hp) (Q:Bool -> Hp -> Prop),Inv X pins σ H s -> t σ H Q ->
  wpAny (model X.prog X.w) X.A (forIn ifs true fun c r=>if r=true then do let ok <- isTrue c X.env (eval c X.env); pure (ForInStep.yield ok) else pure (ForInStep.yield r)) (TP X pins σ Q) X.xe s
def gD:TT:=fun _ H Q=>Q true H
theorem bE {X:Cx}:PTs X [] gD:=fun _ _ _ H _ I h=>wpAny_tests_nil ⟨H,I,h⟩
theorem fZ {X:Cx} {c:Expr} {t:TT} (h:PT X c t):PTs X [c] t:=fun pins s σ H Q I q=>wpAny_tests_one (h pins s σ H Q I q)
theorem fP {prog:Program} {w:World} {A:Around} {R:Result -> Shared -> Prop} {s:Shared} {elt target iter:Expr} {ifs:List Expr} {scope:Scope} {pos:Pos} {it acc:Value} {env:Env} (I:Nat -> Shared -> Prop)
  (turn:∀ n s,I n s -> wpAny (model prog w) A (pyNext it) (fun r s₁=>match r with
   | none=>R (.ok .next) s₁
   | some v=>wpAny (model prog w) A (letOwnedTupleGo target it v) (fun _ s₁'=>wpAny (model prog w) A (assign target env v) (fun _ s₂ =>
     wpAny (model prog w) A (forIn ifs true fun c r=>if r=true then do let ok <- isTrue c env (eval c env); pure (ForInStep.yield ok) else pure (ForInStep.yield r)) (fun ok s₃ =>
      if ok=true then wpAny (model prog w) A (eval elt env) (fun x s₄ =>
       wpAny (model prog w) A (call (.builtin "list.append") [acc,x]) (fun _ s₅=>∃ m,m < n /\ I m s₅) (notedBy (model prog w) A env fun e s'=>R (.error e) s') s₄) (notedBy (model prog w) A env fun e s'=>R (.error e) s') s₃
      else ∃ m,m < n /\ I m s₃) (notedBy (model prog w) A env fun e s'=>R (.error e) s') s₂) (notedBy (model prog w) A env fun e s'=>R (.error e) s') s₁') (notedBy (model prog w) A env fun e s'=>R (.error e) s') s₁) (notedBy (model prog w) A env fun e s'=>R (.error e) s') s)
  (n:Nat) (h:I n s) :
  codeAny (model prog w) A (.compLoop (.ListComp elt [⟨target,iter,ifs,0⟩] scope pos) 0 it acc env) R s:=by
 refine codeAny_loop rfl I (fun n s hI=>?_) n h
 show wpAny _ A ((compTurn (.ListComp elt [⟨target,iter,ifs,0⟩] scope pos) 0 it acc env).onRaise (fun x=>do noteFrame x env; theTreesLotGoes x)) _ _ s
 refine wpAny_noted ?_
 rw [compTurn_list]
 refine wpAny_bind (wpAny_standAt (wpAny_bind (wpAny_mono (turn n s hI) (fun r s₁ h₁=>?_) fun _ _ h'=>h')))
 cases r with
 | none=>exact wpAny_pure h₁
 | some v =>
  refine wpAny_bind (wpAny_mono h₁ (fun _ s₁' h₁'=>?_) fun _ _ h'=>h')
  refine wpAny_bind (wpAny_mono h₁' (fun _ s₂ h₂=>wpAny_bind (wpAny_mono h₂ (fun ok s₃ h₃=>?_) fun _ _ h'=>h')) fun _ _ h'=>h')
  cases ok with
  | false=>exact wpAny_pure ⟨rfl,h₃⟩
  | true =>
   exact wpAny_bind (wpAny_bind (wpAny_mono h₃ (fun x s₄ h₄=>wpAny_bind (wpAny_mono h₄ (fun _ s₅ h₅=>wpAny_pure (wpAny_pure ⟨rfl,h₅⟩)) fun _ _ h'=>h')) fun _ _ h'=>h'))
def LCT (k:Nat) (g:TG) (tt:TT) (te:TE) (σ:St) (Q:VK) (J:It) (H1:Hp):Prop:=∀ D,H1 D=none -> ∃ W:Nat -> Nat -> List V -> Hp -> Prop,(∃ m,W 0 m [] (upd H1 D (.lst []))) /\ ∀ i m ys H,W i m ys H ->
 (J.stop i H /\ Q (.ref D) H) \/ (J.go i H /\ ∀ x H',J.yld i H x H' -> g x (σ ++ List.replicate k none) H' fun σ2 H2=>(∃ τ:St,σ2=σ ++ τ /\ τ.length=k) /\
  tt σ2 H2 fun b H3=>if b=true then te σ2 H3 fun y H4=>H4 D=some (.lst ys) /\ ys.length < sizeLine /\ ∃ m',m' < m /\ W (i + 1) m' (ys ++ [y]) (upd H4 D (.lst (ys ++ [y]))) else ∃ m',m' < m /\ W (i + 1) m' ys H3)
def tLC (k:Nat) (wi:TI) (g:TG) (tt:TT) (te:TE):TE:=fun σ H Q=>wi σ H (LCT k g tt te σ Q)
theorem aU {env:Env}:∀ {names:List (Str × NameKind)} {x:Str} {k:NameKind},(names.map fun (n,k)=>if (k == NameKind.free && env.scope.kind == .function && env.kindOf n == some .cell) then (n,NameKind.cell) else (n,k)).lookup x=some k ->
  (names.lookup x=some k) \/ (names.lookup x=some .free /\ k=.cell)
 | [],_,_,h=>by simp at h
 | (n,k0) :: r,x,k,h=>by
  have ih:=@aU env r x k
  have h:List.lookup x ((if (k0 == NameKind.free && env.scope.kind == .function && env.kindOf n == some .cell)=true then (n,NameKind.cell) else (n,k0)) :: r.map fun (n,k)=>if (k == NameKind.free && env.scope.kind == .function && env.kindOf n == some .cell) then (n,NameKind.cell) else (n,k))=some k:=h
  cases hx:x == n with
  | true =>
   by_cases hc:(k0 == NameKind.free && env.scope.kind == .function && env.kindOf n == some .cell)=true
   ·rw [if_pos hc] at h
    simp only [List.lookup_cons,hx] at h
    cases h
    have hf:k0=.free:=by
     have:=hc
     simp only [Bool.and_eq_true,beq_iff_eq] at this
     exact this.1.1
    right
    simp only [List.lookup_cons,hx,hf,and_self]
   ·rw [if_neg hc] at h
    simp only [List.lookup_cons,hx] at h
    cases h
    left
    simp only [List.lookup_cons,hx]
  | false =>
   have h':List.lookup x (r.map fun (n,k)=>if (k == NameKind.free && env.scope.kind == .function && env.kindOf n == some .cell) then (n,NameKind.cell) else (n,k))=some k:=by
    by_cases hc:(k0 == NameKind.free && env.scope.kind == .function && env.kindOf n == some .cell)=true
    ·rw [if_pos hc] at h
     simp only [List.lookup_cons,hx] at h
     exact h
    ·rw [if_neg hc] at h
     simp only [List.lookup_cons,hx] at h
     exact h
   rcases ih h' with q | q
   ·left; simp only [List.lookup_cons,hx]; exact q
   ·right; simp only [List.lookup_cons,hx]; exact q
theorem lcJ {J:It} {n k:Nat} {σ:St} {H1:Hp} {te:TE} {Q:VK} (xv:Nat -> V) (Pv:Addr -> Nat -> List V -> Hp -> Prop) (hk:σ.length=k)
  (hgo:∀ D i ys H,i < n -> Pv D i ys H -> J.go i H) (hyld:∀ D i ys H x H',i < n -> Pv D i ys H -> J.yld i H x H' -> H'=H /\ x=xv i) (hstop:∀ D ys H,Pv D n ys H -> J.stop n H)
  (h0:∀ D,H1 D=none -> Pv D 0 [] (upd H1 D (.lst [])))
  (turn:∀ D i ys H (post:VK),i < n -> Pv D i ys H -> (∀ y H4,H4 D=some (.lst ys) -> ys.length < sizeLine -> Pv D (i + 1) (ys ++ [y]) (upd H4 D (.lst (ys ++ [y]))) -> post y H4) -> te (σ ++ [some (xv i)]) H post)
  (fin:∀ D ys H,Pv D n ys H -> Q (.ref D) H) :
  LCT 1 (dc k) gD te σ Q J H1:=by
 intro D hD
 refine ⟨fun i m ys H=>m=n - i /\ i <= n /\ Pv D i ys H,⟨n,by simp,Nat.zero_le _,h0 D hD⟩,?_⟩
 rintro i m ys H ⟨rfl,hi,p⟩
 by_cases hlt:i < n
 ·refine .inr ⟨hgo D i ys H hlt p,fun x H' y=>?_⟩
  obtain ⟨rfl,rfl⟩:=hyld D i ys H x H' hlt p y
  have e:(σ ++ List.replicate 1 (none:Option V)).set k (some (xv i))=σ ++ [some (xv i)]:=by
   subst hk
   simp [List.set_append]
  unfold dc
  rw [e]
  unfold gD
  refine ⟨⟨_,rfl,rfl⟩,?_⟩
  refine cW ?_
  exact turn D i ys H' _ hlt p fun y H4 h1 h2 h3=>⟨h1,h2,n - (i + 1),by omega,rfl,hlt,h3⟩
 ·have e:i=n:=by omega
  subst e
  exact .inl ⟨hstop D ys H p,fin D ys H p⟩
theorem lcL0 {K:PySem.W.Frag} {a:Addr} {xs:List V} {k:Nat} {σ:St} {H1:Hp} {te:TE} {Q:VK} (R:Nat -> V -> Prop) (hk:σ.length=k) (hq:SqL K H1 a xs) (hz:xs.length <= 1000)
  (turn:∀ D i x ys (post:VK),xs[i]?=some x -> H1 D=none -> (∀ y,R i y -> post y (upd H1 D (.lst ys))) -> te (σ ++ [some x]) (upd H1 D (.lst ys)) post)
  (fin:∀ D ys,H1 D=none -> ys.length=xs.length -> (∀ i y,ys[i]?=some y -> R i y) -> Q (.ref D) (upd H1 D (.lst ys))) :
  LCT 1 (dc k) gD te σ Q (Itl K a) H1:=by
 have sq:∀ D ys,H1 D=none -> SqL K (upd H1 D (.lst ys)) a xs:=fun D ys h=>ar.seq (fun b u e=>by rw [aD (aA e h)]; exact e) hq
 refine lcJ (n:=xs.length) (fun i=>xs.getD i .non) (fun D i ys H=>H1 D=none /\ ys.length=i /\ (∀ j y,ys[j]?=some y -> R j y) /\ H=upd H1 D (.lst ys)) hk ?_ ?_ ?_ ?_ ?_ ?_
 ·rintro D i ys H hi ⟨h1,h2,h3,rfl⟩
  exact ⟨xs,xs[i],sq D ys h1,by simp [hi]⟩
 ·rintro D i ys H x H' hi ⟨h1,h2,h3,rfl⟩ ⟨e,y⟩
  refine ⟨e,?_⟩
  have:=y xs (sq D ys h1)
  rw [List.getD_eq_getElem?_getD,this]; rfl
 ·rintro D ys H ⟨h1,h2,h3,rfl⟩
  exact ⟨xs,sq D ys h1,Nat.le_refl _⟩
 ·intro D hD
  exact ⟨hD,rfl,fun j y e=>by simp at e,rfl⟩
 ·rintro D i ys H post hi ⟨h1,h2,h3,rfl⟩ hp
  have hx:xs[i]?=some (xs.getD i .non):=by rw [List.getD_eq_getElem?_getD,List.getElem?_eq_getElem hi]; rfl
  refine turn D i _ ys post hx h1 fun y hy=>hp y _ au (bM (by omega)) ⟨h1,by rw [List.length_append,h2]; rfl,fun j z e=>?_,by rw [iN]⟩
  by_cases hj:j < ys.length
  ·rw [List.getElem?_append_left hj] at e
   exact h3 j z e
  ·rw [List.getElem?_append_right (by omega)] at e
   have hj2:j=i:=by
    have:=(List.getElem?_eq_some_iff.mp e).1
    simp at this
    omega
   subst hj2
   rw [h2,Nat.sub_self] at e
   cases e
   exact hy
 ·rintro D ys H ⟨h1,h2,h3,rfl⟩
  exact fin D ys h1 h2 h3
theorem lcR0 {lo:Int} {n:Nat} {k:Nat} {σ:St} {H1:Hp} {te:TE} {Q:VK} (R:Nat -> V -> Prop) (hk:σ.length=k) (hz:n <= 1000)
  (turn:∀ D i ys (post:VK),i < n -> H1 D=none -> (∀ y,R i y -> post y (upd H1 D (.lst ys))) -> te (σ ++ [some (.int (lo + i))]) (upd H1 D (.lst ys)) post)
  (fin:∀ D ys,H1 D=none -> ys.length=n -> (∀ i y,ys[i]?=some y -> R i y) -> Q (.ref D) (upd H1 D (.lst ys))) :
  LCT 1 (dc k) gD te σ Q (Itr lo n) H1:=by
 refine lcJ (n:=n) (fun i=>.int (lo + i)) (fun D i ys H=>H1 D=none /\ ys.length=i /\ (∀ j y,ys[j]?=some y -> R j y) /\ H=upd H1 D (.lst ys)) hk ?_ ?_ ?_ ?_ ?_ ?_
 ·rintro D i ys H hi _
  exact hi
 ·rintro D i ys H x H' hi _ ⟨e,y⟩
  exact ⟨e,y⟩
 ·rintro D ys H _
  exact Nat.le_refl _
 ·intro D hD
  exact ⟨hD,rfl,fun j y e=>by simp at e,rfl⟩
 ·rintro D i ys H post hi ⟨h1,h2,h3,rfl⟩ hp
  refine turn D i ys post hi h1 fun y hy=>hp y _ au (bM (by omega)) ⟨h1,by rw [List.length_append,h2]; rfl,fun j z e=>?_,by rw [iN]⟩
  by_cases hj:j < ys.length
  ·rw [List.getElem?_append_left hj] at e
   exact h3 j z e
  ·rw [List.getElem?_append_right (by omega)] at e
   have hj2:j=i:=by
    have:=(List.getElem?_eq_some_iff.mp e).1
    simp at this
    omega
   subst hj2
   rw [h2,Nat.sub_self] at e
   cases e
   exact hy
 ·rintro D ys H ⟨h1,h2,h3,rfl⟩
  exact fin D ys h1 h2 h3
end L2
namespace L2
open PySem PySem.Spec PyProof.Rows PySem.Builtin PySem.Builtin.Str
section
variable {X:Cx}
theorem gE {K:PySem.W.Frag} {T:String}:PySem.W.kitOne K (.type T) (.type T)=some true:=by
 unfold PySem.W.kitOne
 rw [if_pos (by simp)]
theorem eI:OpR X (binaryOp .Mult) (fun x y H Q=>∃ z n,x=.str z /\ y=.int n /\ MulOk z n /\ Q (.str (Txt.mul z n)) H):=by
 intro pins s σ H x y v u Q I rx ry h
 obtain ⟨z,n,rfl,rfl,hok,q⟩:=h
 obtain ⟨t,rfl⟩:=rx
 obtain ⟨t',rfl⟩:=ry
 exact SB.mul hok fun t2 k=>⟨.str _,H,I.tok _,⟨_,rfl⟩,q⟩
theorem dC {z:Str} {n:Int} (h0:0 <= n) (h1:n <= 1000) (hz:z.length <= 1000):MulOk z n:=by
 have e:(2:Int) ^ 63=9223372036854775808:=by decide
 refine ⟨?_,fun h2 _=>?_,fun _ _=>?_⟩
 ·rw [e]
  simp only [Bool.or_eq_false_iff,decide_eq_false_iff_not]
  omega
 ·rw [e]
  have h3:(9223372036854775808 - 1:Int) / n ≥ 9223372036854775807 / 1000:=by
   have hn:0 < n:=by omega
   rw [ge_iff_le,Int.le_ediv_iff_mul_le hn]
   have:(9223372036854775807 / 1000:Int) * n <= (9223372036854775807 / 1000:Int) * 1000:=Int.mul_le_mul_of_nonneg_left h1 (by decide)
   have e2:(9223372036854775807 / 1000:Int) * 1000 <= 9223372036854775808 - 1:=by decide
   omega
  omega
 ·have hn:n.toNat <= 1000:=by omega
  have h4:z.length * n.toNat <= 1000 * 1000:=Nat.mul_le_mul hz hn
  have hs:sizeLine=16777216:=sizeLine_eq
  unfold tooLong
  rw [hs]
  exact decide_eq_false (by omega)
theorem jn {z:Str} {n:Int} {L N:Nat} (hz:z.length <= L) (hn:n <= N):(Txt.mul z n).length <= L * N:=len_mul_leN hz hn
def rSlS:V -> Option Int -> Option Int -> Hp -> VK -> Prop:=fun x lo hi H Q=>∃ z,x=.str z /\ z.length <= sizeLine /\ Q (.str (Txt.slice z lo hi)) H
theorem eJ:SlR X rSlS:=by
 intro pins s σ H x v vl vu lo hi sl Q I rx hs pl pu h
 obtain ⟨z,rfl,hz,q⟩:=h
 obtain ⟨t,rfl⟩:=rx
 refine ⟨"str",_,F.slot_str_getitem.lookup,typeIs_str _ _ _,?_⟩
 have key:∀ (l u:Option (Int × Tok)),vl=partValue l -> vu=partValue u -> lo=l.map (·.1) -> hi=u.map (·.1) -> wpAny (model X.prog X.w) X.A (getItem (.str z t) (.ref sl)) (EP X pins σ Q) X.xe s:=by
  rintro l u rfl rfl rfl rfl
  refine wpAny_getItem_str_slice (l:=l) (u:=u) (st:=none) ?_ rfl (post_val_or_str ⟨Nat.le_trans (Txt.slice_le z _ _) hz,fun t' k=>⟨.str _,H,I.tok _,⟨_,rfl⟩,q⟩⟩)
  obtain ⟨o,h1,h2,h3⟩:=hs
  exact ⟨o,h1,h2,h3⟩
 cases pl with
 | none =>
  cases pu with
  | none=>exact key none none rfl rfl rfl rfl
  | int j t2=>exact key none (some (j,t2)) rfl rfl rfl rfl
 | int i t1 =>
  cases pu with
  | none=>exact key (some (i,t1)) none rfl rfl rfl rfl
  | int j t2=>exact key (some (i,t1)) (some (j,t2)) rfl rfl rfl rfl
theorem dn:∀ {ys:List Str} {us:List Value},aZ (ys.map V.str) us -> StrsAre us ys
 | [],us,r=>by
  cases r
  exact .nil
 | y :: ys,us,r=>by
  have r:aZ (V.str y :: ys.map V.str) us:=r
  cases r with
  | cons h t =>
   obtain ⟨tk,rfl⟩:=h
   exact .cons _ _ (dn t)
def rJoin (K:PySem.W.Frag):V -> List V -> Hp -> VK -> Prop:=fun x vs H Q=>∃ z p ys,x=.str z /\ vs=[.ref p] /\ SqL K H p (ys.map V.str) /\ (ys.map (·.length)).sum + ys.length * z.length <= 16777216 /\ Q (.str (Txt.join z ys)) H
theorem gb:MtR X "str.join" (rJoin X.K):=by
 intro pins s σ H x vs v us Q I rx rv h
 obtain ⟨z,p,ys,rfl,rfl,hS,hz,q⟩:=h
 obtain ⟨t,rfl⟩:=rx
 obtain ⟨u,rfl,ru⟩:=rv.one
 cases ru
 obtain ⟨its,r,hp,_⟩:=I.list hS
 exact join_list hp.isList (by simpa using dn r) hz fun t' k=>⟨.str _,H,I.tok _,⟨_,rfl⟩,q⟩
theorem gF (z:Str) (ys:List Str):(Txt.join z ys).length <= (ys.map (·.length)).sum + ys.length * z.length:=by
 show (glued z ys).length <= _
 rw [StrLaws.glued_eq_join]
 exact StrLaws.join_length_le z ys
end
end L2
namespace L2
open PySem PySem.Spec PyProof.Rows
section
variable {X:Cx}
theorem kJ {bs:List Bool} {us:List Value} (r:aZ (bs.map V.bl) us) {i:Nat} {v:Value} (h:us[i]?=some v):∃ b,bs[i]?=some b /\ v=.bool b:=by
 have hl:=r.length
 rw [List.length_map] at hl
 have hi:i < bs.length:=by have:=(List.getElem?_eq_some_iff.mp h).1; omega
 obtain ⟨u,e,ru⟩:=r.get (i:=i) (x:=V.bl bs[i]) (by rw [List.getElem?_map,List.getElem?_eq_getElem hi]; rfl)
 rw [h] at e; cases e
 exact ⟨_,List.getElem?_eq_getElem hi,ru⟩
theorem jZ (bs:List Bool):((List.range bs.length).all fun i=>(bs[i]?).getD true)=bs.all id:=by
 rw [Bool.eq_iff_iff,List.all_eq_true,List.all_eq_true]
 constructor
 ·intro h b hb
  obtain ⟨i,hi,rfl⟩:=List.mem_iff_getElem.mp hb
  have:=h i (List.mem_range.mpr hi)
  rw [List.getElem?_eq_getElem hi] at this
  exact this
 ·intro h i hi
  have hi:=List.mem_range.mp hi
  rw [List.getElem?_eq_getElem hi]
  exact h _ (List.getElem_mem hi)
theorem cK (hc:X.calm=true):cj X (.builtin "all") (fun xs H Q=>∃ (p:Addr) (bs:List Bool),xs=[.ref p] /\ SqL X.K H p (bs.map V.bl) /\ Q (.bl (bs.all id)) H):=by
 intro pins s σ H xs us Q I rv h
 obtain ⟨p,bs,rfl,hS,q⟩:=h
 obtain ⟨u,rfl,ru⟩:=rv.one
 cases ru
 obtain ⟨its,r,hp,_⟩:=I.list hS
 have hlen:its.length=bs.length:=by have:=r.length; rw [List.length_map] at this; omega
 have hl:=hp.isList
 have hlt:p < s.heap.objs.size:=by obtain ⟨_,e,_⟩:=hl; exact Heap.lt_size e
 refine call_all_walk (wpAny_pyIter_list hl ?_)
 refine ⟨s.heap.objs.size,[s.heap.objs.size,p],[s.heap.objs.size],its.toArray.size,_,_,fun i=>(bs[i]?).getD true,rfl,Walks.list (A:=X.A.in1) (I.ok.hd hc) _ p (Nat.ne_of_lt hlt) its.toArray,
  ⟨⟨_,Heap.get?_push_size _ rfl,rfl,rfl⟩,hl.push _⟩,fun i v s' Q' E' hP hQ=>?_,fun h' tk hk=>?_⟩
 ·obtain ⟨b,e,rfl⟩:=kJ r (i:=i) (v:=v) (by simpa using hP)
  simp only [e,Option.getD_some] at hQ
  exact wpAny_truthy_bool hQ
 ·rw [List.size_toArray,hlen,jZ]
  refine ⟨.bl _,H,I.kept (t':=tk) fun b o e=>hk b o (fun hm=>?_) (Heap.get?_push_of_some _ e),rfl,q⟩
  rw [List.mem_singleton.mp hm] at e
  exact Nat.lt_irrefl _ (Heap.lt_size e)
end
theorem kK {X:Cx} {elt tg iter:Expr} {ifs:List Expr} {scope:Scope} {pos cpos:Pos} {use:Option (Value -> Sem Unit)} {QQ:Value -> Shared -> Prop} {pins:List (Addr × Obj)} {s:Shared} {σ:St} {H:Hp} {Q:VK} {wi:TI} {g:TG} {tt:TT} {te:TE}
  (N N2 ys:List Str) (sc:Scope) (hc:X.calm=true) (hNe:X.N=N) (hNl:N2.length=N.length) (hsub:∀ p ∈ N2.zip N,p.1=p.2 \/ ¬ scope.names.lookup p.1=some .free) (hsc:X.env.scope=sc) (hkind:scope.kind=.function) (hcell:∀ y ∈ scope.names,y.2 ≠ .cell) (hnames:∀ y ∈ scope.names,y.2=.local -> scope.names.lookup y.1=some .local)
  (hfr:∀ y ∈ scope.names,y.2=.free -> sc.names.lookup y.1=some .cell) (hloc:∀ y ∈ N2,scope.names.lookup y ≠ some .local)
  (hi:PI X tg iter wi) (hg:∀ cl C s H fp,PG (cxC X scope cl N2 ys C s H fp) tg g) (ht:∀ cl C s H fp,PTs (cxC X scope cl N2 ys C s H fp) ifs tt) (he:∀ cl C s H fp,PE (cxC X scope cl N2 ys C s H fp) elt te)
  (I:Inv X pins σ H s) (h:tLC ys.length wi g tt te σ H Q)
  (fin0:∀ (D C:Addr) (H':Hp) (s':Shared),Inv X pins σ H' s' -> ej X pins H' C -> (∃ m,s'.heap.Ns C m) -> Q (.ref D) H' -> compPost (model X.prog X.w) X.A X.xe use QQ (.ref D) C (.ok .next) s')
  (hs:∀ x,foldedSetIterable iter X.env x=pure x:=by intro _; rfl) :
  wpAny (model X.prog X.w) X.A (comprehension (.ListComp elt [⟨tg,iter,ifs,0⟩] scope pos) scope X.env cpos (newList []) false (eval iter X.env) use) QQ X.xe s:=by
 obtain ⟨cl,hclos,cl1,cl2⟩:=gC (scope:=scope) (env:=X.env) (fun x hx hf=>I.ok.has x.1 (.inl (by
  show X.env.scope.names.lookup x.1=_
  rw [hsc]; exact hfr x hx hf)))
 refine wpAny_comprehension_free (use:=use) rfl hs hclos hkind hnames (thn (hi pins s σ H _ I h) fun v s1 h1=>thn h1 fun itv s2 h2=>?_)
 obtain ⟨it,fp,tn,J,H2,e,I2,T,st2,f2,hD⟩:=h2
 subst e
 refine wpAny_newObj_type (wpAny_newFunctionEnv hcell (by intro y hy; simp at hy) (fun h₁ hns₁ hsb₁=>?_) hkind)
 have I3:Inv X pins σ (upd H2 s2.heap.objs.size (.lst [])) { s2 with heap:=s2.heap.push { cls:=.type "list",data:=.seq ([]:List Value).toArray },toks:=s2.toks }:=I2.lnew (ys:=[]) (its:=[]) .nil (Nat.zero_le _)
 have fD:H2 s2.heap.objs.size=none:=I2.hok.fresh (Nat.le_refl _)
 obtain ⟨W,⟨m0,w0⟩,turn⟩:=hD _ fD
 have hfp2:∀ b ∈ fp,b < s2.heap.objs.size:=fun b hb=>by
  obtain ⟨o,e,_⟩:=T.obj 0 s2.heap st2 b hb
  exact Heap.lt_size e
 dsimp only at hns₁ hsb₁ I3 ⊢
 generalize hH2:s2.heap.push { cls:=.type "list",dict:=none,data:=.seq ([]:List Value).toArray }=H3h at hns₁ hsb₁ I3 ⊢
 generalize hDd:s2.heap.objs.size=D at *
 have hC:H3h.objs.size=D + 1:=by rw [<- hH2,Heap.size_push,hDd]
 generalize hCc:H3h.objs.size=C at *
 have hDC:D < C:=by rw [hC]; exact Nat.lt_succ_self _
 have hCD:C ≠ D:=Nat.ne_of_gt hDC
 have hfpC:∀ b ∈ fp,b ≠ C:=fun b hb=>Nat.ne_of_lt (Nat.lt_trans (hfp2 b hb) hDC)
 have hfpD:∀ b ∈ fp,b ≠ D:=fun b hb=>Nat.ne_of_lt (hfp2 b hb)
 have old2:∀ b o,s2.heap.get? b=some o -> H3h.get? b=some o:=fun b o e=>by rw [<- hH2]; exact Heap.get?_push_of_some _ e
 have old:∀ b o,H3h.get? b=some o -> h₁.get? b=some o:=fun b o e=>hsb₁.extBut b o (Nat.ne_of_lt (by have:=Heap.lt_size e; rw [hCc] at this; exact this)) (Heap.get?_push_of_some _ e)
 have frH:upd H2 D (.lst []) C=none:=by rw [aD hCD]; exact I2.hok.fresh (by rw [hDd]; exact Nat.le_of_lt hDC)
 have ok':(cxC X scope cl N2 ys C { s2 with heap:=H3h } (upd H2 D (.lst [])) fp).Ok:=by
  refine ⟨I.ok.mod,hkind,I.ok.glob,I.ok.blt,?_,?_,?_,?_,I.ok.hd,I.ok.frames,.inl rfl,?_,?_,?_,?_,?_,?_,?_⟩
  ·show H3h.objs.size <= C
   exact Nat.le_of_eq hCc
  ·intro x y c h1 h2
   exact I.ok.inj x y c (cl1 x c h1) (cl1 y c h2)
  ·intro x hx
   have hx:(relabel scope X.env).names.lookup x=some .cell \/ (relabel scope X.env).names.lookup x=some .free:=hx
   have key:scope.names.lookup x=some .free \/ scope.names.lookup x=some .cell:=by
    rcases hx with q | q
    ·rcases aU q with z | z
     ·exact .inr z
     ·exact .inl z.1
    ·rcases aU q with z | z
     ·exact .inl z
     ·exact .inl z.1
   rcases key with q | q
   ·exact cl2 x (PySem.mem_of_lookup q)
   ·exact absurd rfl (hcell _ (PySem.mem_of_lookup q))
  ·intro x c z _
   exact absurd (show false=true from z) (by decide)
  ·intro b hb
   refine ⟨fun z=>?_,fun x c e=>?_⟩
   ·exact hfpC b hb z
   ·exact (f2 b hb).2.2.2.2.1 x c (cl1 x c e)
  ·intro b o e
   exact ⟨I3.bk b o e,(I3.bs b o e).2⟩
  ·exact Nat.le_trans I.ok.bsz I3.sz
  ·intro b o e hb
   rcases (f2 b hb).2.2.2.1 with q | q
   ·exact I.ok.noex b o e q
   ·exact absurd (Nat.lt_of_lt_of_le (Heap.lt_size e) (Nat.le_trans I.ok.bsz q)) (Nat.lt_irrefl _)
  ·intro b hb hz
   rcases List.mem_cons.mp (I.stkSub b hz) with q | q
   ·exact (f2 b hb).2.1 q
   ·exact (f2 b hb).2.2.1 q
  ·exact I3.stack
  ·intro b hb
   exact I3.stkFree b hb
 have lenN:N2.length=X.N.length:=by rw [hNl,hNe]
 have lenR:(σ ++ List.replicate ys.length (none:Option V)).length=(N2 ++ ys).length:=by
  rw [List.length_append,List.length_append,List.length_replicate,I.len,lenN]
 have I4:Inv (cxC X scope cl N2 ys C { s2 with heap:=H3h } (upd H2 D (.lst [])) fp) [] (σ ++ List.replicate ys.length none) (upd H2 D (.lst [])) { s2 with heap:=h₁,toks:=s2.toks + ([]:List (Str × Value)).length }:=by
  refine ⟨ok',rfl,I2.bare,Un.kept old,⟨_,hns₁,?_⟩,?_,frH,?_,?_,I3.hok.kept old,lenR⟩
  ·intro i x v h1 h2 h3
   have hi:i < X.N.length:=by
    by_cases hi:i < X.N.length
    ·exact hi
    ·exfalso
     rw [List.getElem?_append_right (by rw [I.len]; omega),List.getElem?_replicate] at h2
     split at h2 <;> cases h2
   have h1:N2[i]?=some x:=by
    have h1:(N2 ++ ys)[i]?=some x:=h1
    rw [List.getElem?_append_left (by rw [lenN]; exact hi)] at h1
    exact h1
   have h2:σ[i]?=some (some v):=by
    rw [List.getElem?_append_left (by rw [I.len]; exact hi)] at h2
    exact h2
   have h3:Vis (relabel scope X.env) x:=h3
   have hx:x ∈ N2:=List.mem_of_getElem? h1
   have hfree:scope.names.lookup x=some .free:=by
    rcases h3 with q | q | q
    ·rcases aU q with z | z
     ·exact absurd z (hloc x hx)
     ·exact z.1
    ·rcases aU q with z | z
     ·exact absurd rfl (hcell _ (PySem.mem_of_lookup z))
     ·exact z.1
    ·rcases aU q with z | z
     ·exact z
     ·exact z.1
   have h1:X.N[i]?=some x:=by
    rw [hNe] at hi ⊢
    have h1z:(N2.zip N)[i]?=some (x,N[i]):=by
     rw [List.getElem?_zip_eq_some]
     exact ⟨h1,List.getElem?_eq_getElem hi⟩
    rcases hsub _ (List.mem_of_getElem? h1z) with e | e
    ·rw [List.getElem?_eq_getElem hi]
     exact congrArg some e.symm
    ·exact absurd hfree e
   have hk:X.env.scope.names.lookup x=some .cell:=by rw [hsc]; exact hfr _ (PySem.mem_of_lookup hfree) rfl
   obtain ⟨m,hn,hl⟩:=I3.loc
   obtain ⟨u,r,l⟩:=hl i x v h1 h2 (.inr (.inl hk))
   refine ⟨u,r,.inr ⟨?_,?_⟩⟩
   ·show (relabel scope X.env).names.lookup x=some .cell \/ (relabel scope X.env).names.lookup x=some .free
    rcases h3 with q | q | q
    ·rcases aU q with z | z
     ·exact absurd z (hloc x hx)
     ·cases z.2
    ·exact .inl q
    ·exact .inr q
   ·rcases l with ⟨q,_⟩ | ⟨_,c,e,z⟩
    ·have q:X.env.scope.names.lookup x=some .local:=q
     rw [hk] at q; cases q
    ·obtain ⟨c',e'⟩:=cl2 x (PySem.mem_of_lookup hfree)
     have:=cl1 x c' e'
     rw [e] at this; cases this
     obtain ⟨o,ho,hd⟩:=z
     exact ⟨c,e',o,old c o ho,hd⟩
  ·intro x c e
   obtain ⟨v,o,ho,hd⟩:=I3.cell x c (cl1 x c e)
   exact ⟨v,o,old c o ho,hd⟩
  ·intro x c e
   exact I3.freeC x c (cl1 x c e)
  ·intro p hp
   exact absurd (show p ∈ ([]:List (Addr × Obj)) from hp) (by simp)
 have stat:∀ {H':Hp},(∀ b ∈ fp,H' b=none) -> ∀ b ∈ fp,ej (cxC X scope cl N2 ys C { s2 with heap:=H3h } (upd H2 D (.lst [])) fp) [] H' b:=fun hn b hb=>by
  refine ⟨hn b hb,fun z=>?_,ok'.exfs b hb,.inl hb,fun x c e=>(f2 b hb).2.2.2.2.1 x c (cl1 x c e),fun p hp=>absurd (show p ∈ ([]:List (Addr × Obj)) from hp) (by simp)⟩
  exact hfpC b hb z
 have frD:∀ b ∈ fp,upd H2 D (.lst []) b=none:=fun b hb=>by
  rw [aD (hfpD b hb)]
  exact (f2 b hb).1
 have tn4:tn 0 h₁:=T.keep _ _ _ st2 fun b _ o e=>old b o (old2 b o e)
 have fin:∀ {σ':St} {H':Hp} {s':Shared},Inv (cxC X scope cl N2 ys C { s2 with heap:=H3h } (upd H2 D (.lst [])) fp) [] σ' H' s' -> Q (.ref D) H' ->
   compPost (model X.prog X.w) X.A X.xe use QQ (.ref D) C (.ok .next) s':=fun {σ' H' s'} I' q=>by
  obtain ⟨m,hn,_⟩:=I'.loc
  have uab:Un (frs X.stack) fp H2 H' s2.heap s'.heap:=(Un.laid (fs:=frs X.stack) (ex:=fp) (h:=s2.heap) (h':=H3h) (a:=D) (o:=.lst []) old2 (Nat.le_of_eq hDd) fD).trans I'.base
  have I'':Inv X pins σ H' s':=I2.call' (ch:=fp) I'.os uab I'.hok I'.bare (fun b hb=>by
   obtain ⟨f0,f1,_,f3,f4,f5⟩:=f2 b hb
   exact ⟨f3,f1,f4,f5⟩)
  exact fin0 D C H' s' I'' (I2.fpOk (by rw [hDd]; exact Nat.le_of_lt hDC) I'.free) ⟨m,hn⟩ q
 have loop:codeAny (model X.prog X.w) X.A (.compLoop (.ListComp elt [⟨tg,iter,ifs,0⟩] scope pos) 0 (.ref it) (.ref D) (compEnvC scope cl C X.env)) (compPost (model X.prog X.w) X.A X.xe use QQ (.ref D) C) { s2 with heap:=h₁,toks:=s2.toks + ([]:List (Str × Value)).length }:=by
  refine fP (fun n s'=>∃ i zs H',Inv (cxC X scope cl N2 ys C { s2 with heap:=H3h } (upd H2 D (.lst [])) fp) [] (σ ++ List.replicate ys.length none) H' s' /\ tn i s'.heap /\ (∀ b ∈ fp,H' b=none) /\ W i n zs H') ?_ m0
   ⟨0,[],_,I4,tn4,frD,w0⟩
  rintro n s3 ⟨i,zs,H3,J3,st3,fr3,w3⟩
  rcases turn i n zs H3 w3 with ⟨stop,qn⟩ | ⟨go,step⟩
  ·refine thn (T.done (cxC X scope cl N2 ys C { s2 with heap:=H3h } (upd H2 D (.lst [])) fp) rfl rfl rfl hc i [] s3 _ H3 _ J3 (stat fr3) st3 stop) fun r s4 ⟨hr,J4⟩=>?_
   subst hr
   exact fin J4 qn
  ·refine thn (T.item (cxC X scope cl N2 ys C { s2 with heap:=H3h } (upd H2 D (.lst [])) fp) rfl rfl rfl hc i [] s3 _ H3 _ J3 (stat fr3) st3 go) fun r s4 ⟨u,hr,h4⟩=>?_
   subst hr
   refine thn h4 fun _ s5 ⟨x,H5,J5,r5,y5,st5,fr5⟩=>?_
   have J5':=J5.pinned (stat fr5) (T.obj _ _ st5)
   refine wpAny_mono (hg cl C _ _ fp _ s5 _ H5 x u _ J5' r5 (step x H5 y5)) (fun _ s6 ⟨σ6,H6,J6,⟨τ,eτ,lτ⟩,q6⟩=>?_) fun _ _ z=>False.elim z
   refine wpAny_mono (ht cl C _ _ fp _ s6 σ6 H6 _ J6 q6) (fun b s7 ⟨H7,J7,q7⟩=>?_) fun _ _ z=>False.elim z
   have again:∀ {H8:Hp} {s8:Shared} {zs':List V},Inv (cxC X scope cl N2 ys C { s2 with heap:=H3h } (upd H2 D (.lst [])) fp) ([] ++ fw fp s5.heap) σ6 H8 s8 -> (∃ m',m' < n /\ W (i + 1) m' zs' H8) ->
     ∃ m,m < n /\ ∃ i zs H',Inv (cxC X scope cl N2 ys C { s2 with heap:=H3h } (upd H2 D (.lst [])) fp) [] (σ ++ List.replicate ys.length none) H' s8 /\ tn i s8.heap /\ (∀ b ∈ fp,H' b=none) /\ W i m zs H':=fun {H8 s8 zs'} J8 ⟨m',hm,w8⟩=>by
    refine ⟨m',hm,i + 1,zs',H8,J8.unpinned.weak (by rw [eτ,List.length_append,List.length_append,List.length_replicate,lτ]) (fun j v e=>?_),T.keep _ _ _ st5 fun b hb o e=>(J8.pin (b,o) (List.mem_append_right _ (List.mem_append_right _ (cu hb e)))).1,fun b hb=>?_,w8⟩
    ·rw [eτ]
     by_cases hj:j < σ.length
     ·rw [List.getElem?_append_left hj] at e ⊢
      exact e
     ·exfalso
      rw [List.getElem?_append_right (by omega),List.getElem?_replicate] at e
      split at e <;> cases e
    ·obtain ⟨o,e,d⟩:=T.obj _ _ st5 b hb
     exact (J8.pin (b,o) (List.mem_append_right _ (List.mem_append_right _ (cu hb e)))).2.1
   cases b with
   | false =>
    rw [if_neg (by decide)] at q7 ⊢
    exact again J7 q7
   | true =>
    rw [if_pos rfl] at q7 ⊢
    refine wpAny_mono (he cl C _ _ fp _ s7 σ6 H7 _ J7 q7) (fun y s8 ⟨yv,H8,J8,r8,hD8,hz8,w8⟩=>?_) fun _ _ z=>False.elim z
    refine wpAny_mono (dg (X:=(cxC X scope cl N2 ys C { s2 with heap:=H3h } (upd H2 D (.lst [])) fp)) _ s8 σ6 H8 (.ref D) [yv] (.ref D) [y] (fun _ H9=>∃ m',m' < n /\ W (i + 1) m' (zs ++ [yv]) H9) J8 rfl (.cons r8 .nil) ⟨D,zs,yv,rfl,rfl,hD8,hz8,w8⟩) (fun _ s9 ⟨_,H9,J9,_,w9⟩=>?_) fun _ _ z=>False.elim z
    exact again J9 w9
 exact codeAny_compStart_list loop (T.self _ 0 _ _ _ tn4 loop)
theorem b8 {X:Cx} {elt tg iter:Expr} {ifs:List Expr} {scope:Scope} {pos:Pos} {wi:TI} {g:TG} {tt:TT} {te:TE}
  (N N2 ys:List Str) (sc:Scope) (hc:X.calm=true) (hNe:X.N=N) (hNl:N2.length=N.length) (hsub:∀ p ∈ N2.zip N,p.1=p.2 \/ ¬ scope.names.lookup p.1=some .free) (hsc:X.env.scope=sc) (hkind:scope.kind=.function) (hcell:∀ y ∈ scope.names,y.2 ≠ .cell) (hnames:∀ y ∈ scope.names,y.2=.local -> scope.names.lookup y.1=some .local)
  (hfr:∀ y ∈ scope.names,y.2=.free -> sc.names.lookup y.1=some .cell) (hloc:∀ y ∈ N2,scope.names.lookup y ≠ some .local)
  (hi:PI X tg iter wi) (hg:∀ cl C s H fp,PG (cxC X scope cl N2 ys C s H fp) tg g) (ht:∀ cl C s H fp,PTs (cxC X scope cl N2 ys C s H fp) ifs tt) (he:∀ cl C s H fp,PE (cxC X scope cl N2 ys C s H fp) elt te)
  (hs:∀ x,foldedSetIterable iter X.env x=pure x:=by intro _; rfl) :
  PE X (.ListComp elt [⟨tg,iter,ifs,0⟩] scope pos) (tLC ys.length wi g tt te):=by
 intro pins s σ H Q I h
 rw [eval_ListComp]
 refine kK (use:=none) N N2 ys sc hc hNe hNl hsub hsc hkind hcell hnames hfr hloc hi hg ht he I h (fun D C H' s' I' cf hns q=>?_) hs
 obtain ⟨m,hn⟩:=hns
 obtain ⟨f0,f1,f2,f3,f4,f5⟩:=cf
 exact ⟨m,hn,fun h' hs'=>⟨.ref D,H',I'.turned (t':=s'.toks) (it:=C) (fun b o hb e=>(hs'.2 b hb).trans e) f0 f1 f3 f4 f5,rfl,q⟩⟩
theorem ps_setC {X:Cx} {elt tg iter:Expr} {ifs:List Expr} {scope:Scope} {pos spos py:Pos} {wi:TI} {g:TG} {tt:TT} {te:TE} {i:Nat} {y:Str} (hN:X.N.Nodup) (hiy:X.N[i]?=some y) (hy:Loc X.env.scope y)
  (N N2 ys:List Str) (sc:Scope) (hc:X.calm=true) (hNe:X.N=N) (hNl:N2.length=N.length) (hsub:∀ p ∈ N2.zip N,p.1=p.2 \/ ¬ scope.names.lookup p.1=some .free) (hsc:X.env.scope=sc) (hkind:scope.kind=.function) (hcell:∀ y ∈ scope.names,y.2 ≠ .cell) (hnames:∀ y ∈ scope.names,y.2=.local -> scope.names.lookup y.1=some .local)
  (hfr:∀ y ∈ scope.names,y.2=.free -> sc.names.lookup y.1=some .cell) (hloc:∀ y ∈ N2,scope.names.lookup y ≠ some .local)
  (hi:PI X tg iter wi) (hg:∀ cl C s H fp,PG (cxC X scope cl N2 ys C s H fp) tg g) (ht:∀ cl C s H fp,PTs (cxC X scope cl N2 ys C s H fp) ifs tt) (he:∀ cl C s H fp,PE (cxC X scope cl N2 ys C s H fp) elt te)
  (hsw:swapsWith (.ListComp elt [⟨tg,iter,ifs,0⟩] scope pos) (some (.Name y py)) spos.line X.env=pure true)
  (hs:∀ x,foldedSetIterable iter X.env x=pure x:=by intro _; rfl) (hf:X.fn y=true \/ X.env.scope.names.lookup y=some .local:=by first | exact .inl rfl | exact .inr rfl | assumption) :
  PS X (.Assign [.Name y py] (.ListComp elt [⟨tg,iter,ifs,0⟩] scope pos) spos) (mJ (tLC ys.length wi g tt te) (dc i)):=by
 intro pins s σ H D I h
 rw [exec_Assign_Name_used _ _ _ _ hsw]
 refine wpAny_bind (wpAny_standAt (wpAny_bind ?_))
 show wpAny _ X.A (do let _ <- comprehension (.ListComp elt [⟨tg,iter,ifs,0⟩] scope pos) scope X.env _ (newList []) false (eval iter X.env) (some (assign (.Name y py) X.env))) _ _ s
 refine wpAny_bind (wpAny_mono (kK (use:=some (assign (.Name y py) X.env)) (QQ:=fun _ s'=>SP X pins D .next s') N N2 ys sc hc hNe hNl hsub hsc hkind hcell hnames hfr hloc hi hg ht he I h (fun D' C H' s' I' cf hns q=>?_) hs) (fun _ s' hq=>wpAny_pure (wpAny_pure hq)) fun _ _ e=>e)
 obtain ⟨m,hn⟩:=hns
 obtain ⟨f0,f1,f2,f3,f4,f5⟩:=cf
 show wpAny _ X.A (assign (.Name y py) X.env (.ref D')) _ _ s'
 refine wpAny_assign_Name (ik I' hN hiy hy (show bu (V.ref D') (Value.ref D') from rfl) (fun s'' I'' hsb=>?_) hf)
 obtain ⟨a,sb,ha⟩:=hsb
 have hCa:C ≠ a:=by
  rcases ha with e | e
  ·rw [e]; exact f1
  ·exact (f4 y a e).symm
 refine ⟨m,hn.sameBut sb hCa,fun h' hs'=>⟨_,H',?_,q⟩⟩
 exact I''.turned (t':=s''.toks) (it:=C) (fun b o hb e=>(hs'.2 b hb).trans e) f0 f1 f3 f4 f5
theorem lL {us:List Value} {ss:List Str} (h:StrsAre us ss):aZ (ss.map V.str) us:=by
 induction h with
 | nil=>exact .nil
 | cons y t r ih=>exact .cons ⟨t,rfl⟩ ih
def leS (a b:Str):Prop:=ltCps b.cps.toList a.cps.toList=false
theorem ie {vs:List Value} {ss:List Str} (hS:StrsAre vs ss) {xs:Array Keyed} (hp:xs.Perm (pairsOf vs)) (hs:SortedToK strKind xs (pairsOf vs).size) :
  ∃ ss',StrsAre (xs.map (·.2)).toList ss' /\ ss'.Perm ss /\ ss'.Pairwise leS:=by
 have hl:xs.toList.Perm (vs.zip vs):=by rw [<- pairsOf_toList]; exact Array.perm_iff_toList_perm.mp hp
 have hmem:∀ p,p ∈ xs.toList -> p.1=p.2 /\ p.1 ∈ vs:=fun p hp'=>mem_zip_self (hl.mem_iff.mp hp')
 refine ⟨xs.toList.map (fun p=>strOf p.1),?_,?_,?_⟩
 ·have e:(xs.map (·.2)).toList=xs.toList.map (·.1):=by
   rw [Array.toList_map]; exact List.map_congr_left fun p hp'=>(hmem p hp').1.symm
  rw [e]
  have h1:=strsAre_map (xs.toList.map (·.1)) (by
   intro v hv
   obtain ⟨p,hp',rfl⟩:=List.mem_map.mp hv
   exact hS.all _ (hmem p hp').2)
  rwa [List.map_map] at h1
 ·have h1:=hl.map (fun p=>strOf p.1)
  have e2:(vs.zip vs).map (fun p=>strOf p.1)=ss:=by
   have:(vs.zip vs).map (fun p=>strOf p.1)=((vs.zip vs).map Prod.fst).map strOf:=by rw [List.map_map]; rfl
   rw [this,List.map_fst_zip (Nat.le_refl _),hS.strs]
  rwa [e2] at h1
 ·rw [List.pairwise_iff_getElem]
  intro i j hi hj hij
  have hi':i < xs.size:=by simpa using hi
  have hj':j < xs.size:=by simpa using hj
  have h1:=hs i j (Nat.le_of_lt hij) (by rw [<- hp.size_eq]; exact hj')
  obtain ⟨x,t,ex⟩:=hS.all _ (hmem xs[i] (by simp)).2
  obtain ⟨y,u,ey⟩:=hS.all _ (hmem xs[j] (by simp)).2
  rw [KK_str hi' (x:=x) (t:=t) (q:=xs[i].2) (Prod.ext ex rfl),KK_str hj' (x:=y) (t:=u) (q:=xs[j].2) (Prod.ext ey rfl)] at h1
  change decide (y.cps.toList < x.cps.toList)=false at h1
  unfold leS
  simp only [List.getElem_map,Array.getElem_toList]
  rw [show strOf xs[i].1=x by rw [ex]; rfl,show strOf xs[j].1=y by rw [ey]; rfl,ltCps_eq]
  exact h1
section
variable {X:Cx}
theorem Inv.turnedT {pins:List (Addr × Obj)} {σ:St} {H:Hp} {s:Shared} {h':Heap} {t':Nat} {ch:List Addr} {T:Addr} {xs:List V} {us:List Value} (I:Inv X pins σ H s) (k:∀ b o,b ∉ ch -> s.heap.get? b=some o -> h'.get? b=some o)
  (hf:∀ b ∈ ch,ej X pins H b) (hT:s.heap.objs.size <= T) (hz:xs.length <= sizeLine) (hv:aZ xs us) (ht:IsTup h' T us.toArray):Inv X pins σ (upd H T (.tup xs)) { s with heap:=h',toks:=t' }:=by
 have hn:H T=none:=I.hok.fresh hT
 have nch:∀ b u,H b=some u -> b ∉ ch:=fun b u e z=>by rw [(hf b z).1] at e; cases e
 refine I.step (g':=s.gens) (d':=s.drawn) (ch:=ch) (fun b hb=>?_) (fun b o _ _ hc e _=>k b o hc e) (fun b o _ _ hc e _=>⟨o.slots,k b o hc e⟩) (fun b o _ e n=>?_)
  (fun b o hc e=>⟨o,k b o hc e⟩) (fun b ys e=>?_) (fun b o u e=>?_) (fun b ps e=>⟨#[],?_⟩) (fun m hm=>?_) (fun b u e=>?_) I.bare
 ·obtain ⟨_,h1,_,h3,h4,h5⟩:=hf b hb
  exact ⟨h3,h1,h4,h5⟩
 ·rw [aD (Nat.ne_of_lt (Nat.lt_of_lt_of_le (Heap.lt_size e) hT))]
  exact n
 ·rw [aD (aA e hn)]; exact e
 ·rw [aD (aA e hn)]; exact e
 ·rw [aD (aA e hn),e]; simp
 ·obtain ⟨o,es,ep,ho,r⟩:=hm
  exact ⟨o,es,ep,k _ o (fun z=>(hf _ z).2.1 rfl) ho,r⟩
 ·by_cases hb:b=T
  ·subst hb
   rw [au] at e
   cases e
   exact ⟨hz,us,hv,ht⟩
  ·rw [aD hb] at e
   refine (I.hok b u e).stay (fun c v hc q=>k c v ?_ q) (fun c q=>by rw [aD (aA q hn)]; exact q) fun c ys q=>by rw [aD (aA q hn)]; exact q
   rcases hc with z | z
   ·rw [z]; exact nch b u e
   ·exact nch c _ z
theorem Inv.turnedL {pins:List (Addr × Obj)} {σ:St} {H:Hp} {s:Shared} {h':Heap} {t':Nat} {ch:List Addr} (I:Inv X pins σ H s) (k:∀ b o,b ∉ ch -> s.heap.get? b=some o -> h'.get? b=some o)
  (hf:∀ b ∈ ch,ej X pins H b):Inv X pins σ H { s with heap:=h',toks:=t' }:=by
 have nch:∀ b u,H b=some u -> b ∉ ch:=fun b u e z=>by rw [(hf b z).1] at e; cases e
 refine I.step (g':=s.gens) (d':=s.drawn) (ch:=ch) (fun b hb=>?_) (fun b o _ _ hc e _=>k b o hc e) (fun b o _ _ hc e _=>⟨o.slots,k b o hc e⟩) (fun b o _ e n=>n)
  (fun b o hc e=>⟨o,k b o hc e⟩) (fun b ys e=>e) (fun b o u e=>e) (fun b ps e=>⟨#[],by rw [e]; simp⟩) (fun m hm=>?_) (fun b u e=>?_) I.bare
 ·obtain ⟨_,h1,_,h3,h4,h5⟩:=hf b hb
  exact ⟨h3,h1,h4,h5⟩
 ·obtain ⟨o,es,ep,ho,r⟩:=hm
  exact ⟨o,es,ep,k _ o (fun z=>(hf _ z).2.1 rfl) ho,r⟩
 ·refine (I.hok b u e).stay (fun c v hc q=>k c v ?_ q) (fun c q=>q) fun c ys q=>q
  rcases hc with z | z
  ·rw [z]; exact nch b u e
  ·exact nch c _ z
def Itz (K:PySem.W.Frag) (l1 l2:Addr):It :=
 ⟨fun i H=>∃ xs ys x y,SqL K H l1 xs /\ SqL K H l2 ys /\ xs[i]?=some x /\ ys[i]?=some y,fun i H v H'=>∃ p,v=.ref p /\ H p=none /\ ∀ xs ys,SqL K H l1 xs -> SqL K H l2 ys -> ∃ x y,xs[i]?=some x /\ ys[i]?=some y /\ H'=upd H p (.tup [x,y]),
  fun i H=>∃ xs ys,SqL K H l1 xs /\ SqL K H l2 ys /\ i=min xs.length ys.length⟩
def TnZ (z TI TO i1 i2 l1 l2:Addr) (i:Nat) (h:Heap):Prop:=IsZip h z TI TO Value.none /\ IsPair h TI (Value.ref i1) (Value.ref i2) /\ (∃ a b,IsPair h TO a b) /\ h.IsListIter i1 l1 i /\ h.IsListIter i2 l2 i
theorem mU {P:Program} {w:World} {K:PySem.W.Frag} {elts:List Expr} {k:Nat} {pos:Pos} {z TI TO i1 i2 l1 l2:Addr} (ap:ZipApart z TI TO i1 i2 l1 l2):jj P w K (.Tuple elts k pos) (Itz K l1 l2) [z,TI,TO,i1,i2] z (TnZ z TI TO i1 i2 l1 l2) where
 mem:=by simp
 obj:=fun i h st b hb=>by
  obtain ⟨h1,h2,⟨u,v,h3⟩,h4,h5⟩:=st
  simp only [List.mem_cons,List.not_mem_nil,or_false] at hb
  rcases hb with rfl | rfl | rfl | rfl | rfl
  ·exact ⟨_,h1,fun v e=>by cases e⟩
  ·exact ⟨_,h2,fun v e=>by cases e⟩
  ·exact ⟨_,h3,fun v e=>by cases e⟩
  ·obtain ⟨o,e,c,d⟩:=h4
   exact ⟨o,e,fun v z=>by rw [d] at z; cases z⟩
  ·obtain ⟨o,e,c,d⟩:=h5
   exact ⟨o,e,fun v z=>by rw [d] at z; cases z⟩
 keep:=fun i h h' st kk=>by
  obtain ⟨h1,h2,⟨u,v,h3⟩,h4,h5⟩:=st
  exact ⟨kk _ (by simp) _ h1,kk _ (by simp) _ h2,⟨u,v,kk _ (by simp) _ h3⟩,h4.at fun o e=>kk _ (by simp) o e,h5.at fun o e=>kk _ (by simp) o e⟩
 item:=by
  intro X hP hw hK hc i pins s σ H E I hf st hg
  subst hP hw hK
  obtain ⟨xs,ys,x,y,hx,hy,ex,ey⟩:=hg
  obtain ⟨its,rv,p,hz⟩:=I.list hx
  obtain ⟨jts,rv',p',hz'⟩:=I.list hy
  obtain ⟨u,hu,ru⟩:=rv.get ex
  obtain ⟨v,hv,rv2⟩:=rv'.get ey
  have W:=WalksT.zip2 (prog:=X.prog) (w:=X.w) (I.ok.hd hc) z TI TO i1 i2 l1 l2 ap its.toArray jts.toArray
  have hi1:i < its.length:=(List.getElem?_eq_some_iff.mp hu).1
  have hi2:i < jts.length:=(List.getElem?_eq_some_iff.mp hv).1
  obtain ⟨st1,st2,st3,st4,st5⟩:=st
  refine W.item i s _ _ (by simp only [List.size_toArray]; omega) ⟨st1,st2,st3,st4,st5,p.isList,p'.isList⟩ fun T vals h' tk hpt hT ht mid kk=>?_
  obtain ⟨a,b,ea,eb,rfl⟩:=hpt
  have ea':its[i]?=some a:=by simpa using ea
  have eb':jts[i]?=some b:=by simpa using eb
  rw [hu] at ea'; cases ea'
  rw [hv] at eb'; cases eb'
  refine ⟨_,rfl,W.go elts k pos i T _ _ _ mid fun h'' st'' kk2=>?_⟩
  have nT:=W.apart i T h' mid
  have hTup:IsTup h'' T [u,v].toArray:=by
   obtain ⟨o,e,c⟩:=ht
   exact ⟨o,kk2 _ _ nT e,c⟩
  have hfw:∀ b ∈ ([z,TO,i1,i2]:List Addr),ej X pins H b:=fun b hb=>hf b (by simp only [List.mem_cons,List.not_mem_nil,or_false] at hb ⊢; rcases hb with h | h | h | h <;> simp [h])
  have I1:=I.turnedT (h':=h'') (t':=tk) (xs:=[x,y]) (us:=[u,v]) (ch:=[z,TO,i1,i2]) (fun b o hb e=>kk2 _ _ hb (kk _ _ hb e)) hfw hT (by show 2 <= sizeLine; decide) (.cons ru (.cons rv2 .nil)) hTup
  refine ⟨.ref T,_,I1,rfl,⟨T,rfl,I.hok.fresh hT,fun xs' ys' hx' hy'=>⟨x,y,?_,?_,rfl⟩⟩,⟨st''.1,st''.2.1,st''.2.2.1,st''.2.2.2.1,st''.2.2.2.2.1⟩,fun b hb=>?_⟩
  ·rw [I.list_inj hx' hx]; exact ex
  ·rw [I.list_inj hy' hy]; exact ey
  ·have hb':∃ o,s.heap.get? b=some o:=by
    simp only [List.mem_cons,List.not_mem_nil,or_false] at hb
    obtain ⟨u',v',st3⟩:=st3
    obtain ⟨o4,e4,_⟩:=st4
    obtain ⟨o5,e5,_⟩:=st5
    rcases hb with h | h | h | h | h <;> rw [h]
    ·exact ⟨_,st1⟩
    ·exact ⟨_,st2⟩
    ·exact ⟨_,st3⟩
    ·exact ⟨_,e4⟩
    ·exact ⟨_,e5⟩
   obtain ⟨o,e⟩:=hb'
   rw [aD (Nat.ne_of_lt (Nat.lt_of_lt_of_le (Heap.lt_size e) hT))]
   exact (hf b hb).1
 done:=by
  intro X hP hw hK hc i pins s σ H E I hf st hg
  subst hP hw hK
  obtain ⟨xs,ys,hx,hy,rfl⟩:=hg
  obtain ⟨its,rv,p,hz⟩:=I.list hx
  obtain ⟨jts,rv',p',hz'⟩:=I.list hy
  have W:=WalksT.zip2 (prog:=X.prog) (w:=X.w) (I.ok.hd hc) z TI TO i1 i2 l1 l2 ap its.toArray jts.toArray
  obtain ⟨st1,st2,st3,st4,st5⟩:=st
  have hfw:∀ b ∈ ([z,TO,i1,i2]:List Addr),ej X pins H b:=fun b hb=>hf b (by simp only [List.mem_cons,List.not_mem_nil,or_false] at hb ⊢; rcases hb with h | h | h | h <;> simp [h])
  have e:min xs.length ys.length=min its.toArray.size jts.toArray.size:=by rw [rv.length,rv'.length,List.size_toArray,List.size_toArray]
  rw [e] at st4 st5
  refine W.done s _ _ ⟨st1,st2,st3,st4,st5,p.isList,p'.isList⟩ fun h' tk kk=>⟨rfl,I.turnedL (ch:=[z,TO,i1,i2]) kk hfw⟩
 self:=fun _ _ _ _ _ st h=>wpAny_pyIter_zip st.1 h
def iZip (K:PySem.W.Frag) (ta:TA):TI:=fun σ H R=>ta σ H fun vs H1=>∃ a b xs ys,vs=[.ref a,.ref b] /\ SqL K H1 a xs /\ SqL K H1 b ys /\ R (Itz K a b) H1
theorem j0 {elts:List Expr} {k:Nat} {tpos:Pos} {a b:Expr} {ta:TA} {p pos:Pos} (hg:Gl X "zip") (hm:X.mg "zip"=none) (ha:PA X [a,b] ta) (hs:starEach [a,b] X.env=[(false,eval a X.env),(false,eval b X.env)]:=by rfl) (hs2:starEach [b] X.env=[(false,eval b X.env)]:=by rfl) :
  PI X (.Tuple elts k tpos) (.Call (.Name "zip" p) [a,b] [] pos) (iZip X.K ta):=by
 intro pins s σ H R I h
 refine Call_ (eE I hg hm boot_zip (PyProof.Rows.callWith_type1 (thn (ha pos pins s σ H _ I h) fun us s1 ⟨vs,H1,I1,r1,q1⟩=>?_) (by rw [hs,hs2]) (by rw [hs2]; rfl)))
 obtain ⟨l1,l2,xs,ys,e,hx,hy,q⟩:=q1
 subst e
 obtain ⟨u,u2,rfl,rr1,rr2⟩:=gy r1
 cases rr1
 cases rr2
 obtain ⟨its,rv,p1,hz⟩:=I1.list hx
 obtain ⟨jts,rv',p2,hz'⟩:=I1.list hy
 refine call_zip_2 p1.isList p2.isList fun h' z1 z2 z3 z4 z5 hsz kk=>?_
 refine wpAny_pyIter_zip (s:={ s1 with heap:=h' }) z1 ?_
 have h1:l1 < s1.heap.objs.size:=by obtain ⟨o,e,_⟩:=p1.isList; exact Heap.lt_size e
 have h2:l2 < s1.heap.objs.size:=by obtain ⟨o,e,_⟩:=p2.isList; exact Heap.lt_size e
 refine ⟨_,[s1.heap.objs.size + 4,s1.heap.objs.size + 2,s1.heap.objs.size + 3,s1.heap.objs.size,s1.heap.objs.size + 1],_,_,H1,rfl,I1.kept (t':=s1.toks) kk,mU (zipApart_new h1 h2),⟨z1,z2,⟨_,_,z3⟩,z4,z5⟩,fun b hb=>?_,q⟩
 have hb':s1.heap.objs.size <= b:=by
  simp only [List.mem_cons,List.not_mem_nil,or_false] at hb
  rcases hb with h | h | h | h | h <;> rw [h] <;> first | exact Nat.le_add_right _ _ | exact Nat.le_refl _
 exact I1.fpOk hb' (I1.hok.fresh hb')
end
end L2
namespace KR
open PySem
section
variable {prog:Program} {w:World} {A:Around} {E:Value -> Shared -> Prop} {s:Shared}
end
end KR
namespace L2
open PySem PySem.Spec PyProof.Rows
section
variable {X:Cx}
theorem mV (hu:X.A.units + 1 < cLine):OpR X (compareOp .Eq) (fun x y H Q=>∃ a b xs,x=.ref a /\ y=.ref b /\ SqL X.K H a xs /\ SqL X.K H b [] /\ Q (.bl xs.isEmpty) H):=by
 intro pins s σ H x y v u Q I rx ry h
 obtain ⟨a,b,xs,rfl,rfl,ha,hb,q⟩:=h
 cases rx
 cases ry
 obtain ⟨its,rv,p,_⟩:=I.list ha
 obtain ⟨its2,rv2,p2,_⟩:=I.list hb
 cases rv2
 have hl:=rv.length
 cases xs with
 | nil =>
  cases rv
  exact SeqAt.RcAt.lists (e:=fun _=>true) p.isList p2.isList rfl (Nat.lt_of_succ_lt hu) (fun j h1 _=>absurd h1 (by simp)) _ _ _ _ (aW I q (by rfl))
 | cons z r =>
  exact SeqAt.RcAt.lists_lengths p.isList p2.isList (by simp only [List.size_toArray,<- hl,List.length_cons,List.length_nil]; simp) (Nat.lt_of_succ_lt hu) _ _ _ _ (aW I q (by rfl))
theorem op_mulB:OpR X (binaryOp .Mult) (rI (fun i j=>IntMulOk i j) fun i j=>.int (i * j)):=opI fun _ _ _ _ _ _ _ hc q=>mul_int q hc
def Itx (x:Str):It:=⟨fun i _=>i < x.cps.size,fun i H v H'=>H'=H /\ ∃ c,x.cps[i]?=some c /\ v=.str ⟨#[c]⟩,fun i _=>i=x.cps.size⟩
theorem mW {P:Program} {w:World} {K:PySem.W.Frag} {tg:Expr} (it:Addr) (x:Str) (t:Tok) {ty:String} (hty:ty="str_ascii_iterator" \/ ty="str_iterator"):jj P w K tg (Itx x) [it] it (fun i h=>h.IsStrIter it ty x t i) where
 mem:=by simp
 obj:=fun i h st b hb=>by
  have e:b=it:=by simpa using hb
  subst e
  obtain ⟨o,e,c,d⟩:=st
  exact ⟨o,e,fun v z=>by rw [d] at z; cases z⟩
 keep:=fun i h h' st k=>by
  obtain ⟨o,e,c⟩:=st
  exact ⟨o,k it (by simp) o e,c⟩
 item:=by
  intro X hP hw hK hc i pins s σ H E I hf st hg
  subst hP hw hK
  have W:Walks X.prog X.w X.A it [it] [it] x.cps.size (SignAt x) (fun i h=>h.IsStrIter it ty x t i):=by
   rcases hty with rfl | rfl
   ·exact Walks.strAscii (I.ok.hd hc) it x t
   ·exact Walks.strWide (I.ok.hd hc) it x t
  refine W.item i s _ _ hg st fun v h' tk hv st' kk=>?_
  obtain ⟨c,u,e1,rfl⟩:=hv
  have I1:Inv X pins σ H { s with heap:=h',toks:=tk }:=I.turnedL (ch:=[it]) kk (fun b hb=>hf b hb)
  obtain ⟨o,eo,co,d⟩:=id st'
  refine ⟨_,rfl,jk (s:={ s with heap:=h',toks:=tk }) (n:=ty) eo co d (by rcases hty with rfl | rfl <;> decide) ⟨.str ⟨#[c]⟩,H,I1,⟨u,rfl⟩,⟨rfl,c,e1,rfl⟩,st',fun b hb=>(hf b hb).1⟩⟩
 done:=by
  intro X hP hw hK hc i pins s σ H E I hf st hg
  subst hP hw hK
  have W:Walks X.prog X.w X.A it [it] [it] x.cps.size (SignAt x) (fun i h=>h.IsStrIter it ty x t i):=by
   rcases hty with rfl | rfl
   ·exact Walks.strAscii (I.ok.hd hc) it x t
   ·exact Walks.strWide (I.ok.hd hc) it x t
  have hg:i=x.cps.size:=hg
  subst hg
  exact W.done s _ _ st fun h' tk kk=>⟨rfl,I.turnedL (ch:=[it]) kk (fun b hb=>hf b hb)⟩
 self:=fun _ _ _ _ _ st h=>by
  rcases hty with rfl | rfl
  ·exact wpAny_pyIter_striter_ascii st h
  ·exact wpAny_pyIter_striter_wide st h
def iStr (te:TE):TI:=fun σ H R=>te σ H fun x H1=>∃ z:Str,x=.str z /\ R (Itx z) H1
theorem mX {tg e:Expr} {te:TE} (he:PE X e te):PI X tg e (iStr te):=by
 intro pins s σ H R I h
 refine thn (he pins s σ H _ I h) fun v s1 ⟨x,H1,I1,r1,q1⟩=>?_
 obtain ⟨z,e,q⟩:=q1
 subst e
 obtain ⟨t,rfl⟩:=r1
 refine wpAny_pyIter_strU ?_
 have hty:strIterType z="str_ascii_iterator" \/ strIterType z="str_iterator":=by
  unfold strIterType
  split
  ·exact .inl rfl
  ·exact .inr rfl
 refine ⟨s1.heap.objs.size,[s1.heap.objs.size],_,_,H1,rfl,I1.kept (t':=s1.toks) fun b o e=>Heap.get?_push_of_some _ e,mW s1.heap.objs.size z t hty,⟨_,Heap.get?_push_size _ rfl,rfl,rfl⟩,fun b hb=>?_,q⟩
 have e:b=s1.heap.objs.size:=by simpa using hb
 subst e
 exact I1.fpOk (Nat.le_refl _) (I1.hok.fresh (Nat.le_refl _))
inductive Kd:Hp -> V -> String -> Prop
 | non {H:Hp}:Kd H .non "NoneType"
 | bl {H:Hp} (b:Bool):Kd H (.bl b) "bool"
 | int {H:Hp} (i:Int):Kd H (.int i) "int"
 | str {H:Hp} (x:Str):Kd H (.str x) "str"
 | lst {H:Hp} {a:Addr} {xs:List V}:Rd H a (.lst xs) -> Kd H (.ref a) "list"
 | tup {H:Hp} {a:Addr} {xs:List V}:Rd H a (.tup xs) -> Kd H (.ref a) "tuple"
theorem Kd.kit {pins:List (Addr × Obj)} {σ:St} {H:Hp} {s:Shared} {x:V} {u:Value} {k:String} (I:Inv X pins σ H s) (h:Kd H x k) (r:bu x u):∃ Y:Heap -> Prop,PySem.W.KitX X.K u (.type k) Y /\ Y s.heap /\ u ≠ Value.builtin "__main__.__loader__#opaque":=by
 cases h with
 | non=>cases r; exact ⟨_,PySem.W.kitx_none,trivial,fun z=>nomatch z⟩
 | bl b=>cases r; exact ⟨_,PySem.W.kitx_bool,trivial,fun z=>nomatch z⟩
 | int i=>obtain ⟨t,rfl⟩:=r; exact ⟨_,PySem.W.kitx_int,trivial,fun z=>nomatch z⟩
 | str y=>obtain ⟨t,rfl⟩:=r; exact ⟨_,PySem.W.kitx_str,trivial,fun z=>nomatch z⟩
 | lst h =>
  cases r
  obtain ⟨_,its,n,rv,p⟩:=h.ok I.hok
  exact ⟨_,PySem.W.kitx_list,⟨_,p,rfl⟩,fun z=>nomatch z⟩
 | tup h =>
  cases r
  obtain ⟨_,its,rv,o,e1,e2,_⟩:=h.ok I.hok
  exact ⟨_,PySem.W.kitx_tuple,⟨o,e1,e2⟩,fun z=>nomatch z⟩
theorem gG:cj X (.builtin "isinstance") (fun xs H Q=>∃ x c k b,xs=[x,.ty c] /\ Kd H x k /\ PySem.W.kitOne X.K (.type k) (.type c)=some b /\ Q (.bl b) H):=by
 intro pins s σ H xs us Q I rv h
 obtain ⟨x,c,k,b,rfl,hk,e,q⟩:=h
 obtain ⟨u,u2,rfl,r1,r2⟩:=gy rv
 cases r2
 obtain ⟨Y,kx,hy,ne⟩:=hk.kit I r1
 exact PySem.W.kia_one kx I.kIn hy e ne fun tk=>⟨.bl b,H,I.tok tk,rfl,q⟩
end
end L2
namespace HT
open PySem PySem.Spec PyProof.Rows
section
variable {prog:Program} {w:World} {A:Around} {E:Value -> Shared -> Prop} {s:Shared}
theorem lN {t sl:Addr} {items:Array Value} {vl vu:Value} {lo hi:Option Int} {Q:Value -> Shared -> Prop} (ht:IsTup s.heap t items) (hs:s.heap.IsSliceOf sl vl vu .none) (pl:IsPart vl lo) (pu:IsPart vu hi)
  (h1:sIx items.size 0 lo=0) (h2:sIx items.size items.size hi=items.size) (h:Q (.ref t) s):wpAny (model prog w) A (getItem (.ref t) (.ref sl)) Q E s:=by
 obtain ⟨os,hos,hcs,hds⟩:=id hs
 have hTs:s.TypeIs (.ref sl) "slice":=⟨os,hos,hcs⟩
 unfold getItem
 try with_reducible refine wpAny_holding ?_
 first | refine wpAny_bind (wpAny_pure ?_) | skip
 refine wpAny_bind (wpAny_sequenceKey ht.typeIs (by decide) ?_)
 refine wpAny_bind (wpAny_callSpecial?_slot (name:=Str.ofString "__getitem__") ht.typeIs PyProof.Rows.slot_tuple_getitem
  (wpAny_call_entry PyProof.Rows.slot_tuple_getitem ht.typeIs entry_tuple_getitem ?_ (args_tuple_getitem _ _)))
 show wpAny _ _ (Builtin.Tuple.tupleItemsOf (.ref t) >>= _) _ _ s
 refine wpAny_bind (tupleItemsOf_ ht ?_)
 refine wpAny_bind (wpAny_typeOf hTs ?_)
 rw [if_pos (by decide)]
 refine wpAny_bind (df hs pl pu ?_)
 rw [h1,h2]
 show wpAny _ _ (if (((0:Nat):Int) == 0 && (1:Int) == 1 && (items.size - 0) == items.size)=true then _ else _) _ _ s
 rw [if_pos (by simp)]
 unfold Builtin.Tuple.tupleIsExact
 refine wpAny_bind (wpAny_bind (wpAny_typeOf ht.typeIs (wpAny_pure ?_)))
 rw [if_pos (by decide)]
 exact wpAny_bind (wpAny_rule (wpAny_pure ⟨_,rfl,wpAny_pure h⟩))
theorem mY {t b:Addr} {vs ws:List Value} {Q:Value -> Shared -> Prop} (ht:IsTup s.heap t vs.toArray) (hb:IsTup s.heap b ws.toArray) (hv:vs=[]) (h1:Q (.ref b) s):wpAny (model prog w) A (binaryOp .Add (.ref t) (.ref b)) Q E s:=by
 obtain ⟨⟨cls,dd,data,sl⟩,ho,hc,n,hd⟩:=id ht
 obtain ⟨⟨cls2,dd2,data2,sl2⟩,ho2,hc2,n2,hd2⟩:=id hb
 simp only at hc hd hc2 hd2
 subst hc hd hc2 hd2
 exact concat_meets ⟨_,ho,rfl⟩ ⟨_,ho2,rfl⟩ noFill_tuple_add seq_tuple_add PySem.F.slot_tuple_add PySem.F.entry_tuple_add (PySem.F.args_tuple_add_2 _ _)
  (tuple_addW0 t b vs.toArray ws.toArray n n2 dd dd2 sl sl2 (by simp [hv])) ⟨ho,ho2,h1⟩
end
end HT
namespace L2
open PySem PySem.Spec PyProof.Rows
theorem cP {H:Hp} {a:Addr} {o:HO} (h:H a=none):ar H (upd H a o):=fun b u e=>by rw [aD (aA e h)]; exact e
section
variable {X:Cx}
theorem sl_tupU:SlR X (fun x lo hi H Q=>∃ a xs,x=.ref a /\ H a=some (.tup xs) /\ ∀ p H',ar H H' -> H' p=some (.tup (bB xs lo hi)) -> Q (.ref p) H'):=by
 intro pins s σ H x v vl vu lo hi sl Q I rx hs pl pu h
 obtain ⟨a,xs,rfl,hx,q⟩:=h
 by_cases hw:HT.sIx xs.length 0 lo=0 /\ HT.sIx xs.length xs.length hi=xs.length
 ·cases rx
  obtain ⟨its,r,ht,hz⟩:=I.tuple (SqT.of (K:=X.K) hx)
  have hlen:its.toArray.size=xs.length:=by rw [List.size_toArray]; exact r.length.symm
  refine ⟨"tuple",_,PyProof.Rows.slot_tuple_getitem.lookup,ht.typeIs,?_⟩
  refine HT.lN ht hs pl pu (by rw [hlen]; exact hw.1) (by rw [hlen]; exact hw.2) ⟨.ref a,H,I,rfl,q a H (ar.refl H) ?_⟩
  rw [hx]
  unfold bB
  rw [hw.1,hw.2]
  simp
 ·exact sl_tup pins s σ H (.ref a) v vl vu lo hi sl Q I rx hs pl pu ⟨a,xs,rfl,SqT.of hx,hw,fun p hp=>q p _ (cP hp) au⟩
theorem eU:OpR X (binaryOp .Add) (fun x y H Q=>∃ a b xs ys,x=.ref a /\ y=.ref b /\ H a=some (.tup xs) /\ H b=some (.tup ys) /\ xs.length + ys.length <= sizeLine /\ ∀ p H',ar H H' -> H' p=some (.tup (xs ++ ys)) -> Q (.ref p) H'):=by
 intro pins s σ H x y v u Q I rx ry h
 obtain ⟨a,b,xs,ys,rfl,rfl,ha,hb,hz,q⟩:=h
 by_cases hx:xs=[]
 ·subst hx
  cases rx
  cases ry
  obtain ⟨its,r1,p1,_⟩:=I.tuple (SqT.of (K:=X.K) ha)
  obtain ⟨its2,r2,p2,_⟩:=I.tuple (SqT.of (K:=X.K) hb)
  exact HT.mY p1 p2 (r1.nil_iff.mpr rfl) ⟨.ref b,H,I,rfl,q b H (ar.refl H) hb⟩
 ·exact op_catT pins s σ H _ _ v u Q I rx ry ⟨a,b,xs,ys,rfl,rfl,SqT.of ha,SqT.of hb,hx,hz,fun e=>q a H (ar.refl H) (by rw [ha,e,List.append_nil]),fun _ p hp=>q p _ (cP hp) au⟩
def mZ (t:TA):TE:=fun σ H Q=>t σ H fun xs H1=>xs.length <= sizeLine /\ ∀ p H2,H1 p=none -> ar H1 H2 -> H2 p=some (.lst xs) -> Q (.ref p) H2
def tTupA (t:TA):TE:=fun σ H Q=>t σ H fun xs H1=>xs.length <= sizeLine /\ ∀ p H2,H1 p=none -> ar H1 H2 -> H2 p=some (.tup xs) -> Q (.ref p) H2
theorem aJ {es:List Expr} {t:TA} {pos:Pos} (h:PA X es t):PE X (.List es pos) (mZ t):=by
 intro pins s σ H Q I hq
 refine wpAny_List_spliced (thn (h pos pins s σ H _ I hq) fun us s1 ⟨xs,H1,I1,r,z,q⟩=>⟨by rw [<- r.length]; exact z,?_⟩)
 have hf:H1 s1.heap.objs.size=none:=I1.hok.fresh (Nat.le_refl _)
 refine ⟨.ref s1.heap.objs.size,upd H1 s1.heap.objs.size (.lst xs),I1.laid (t':=s1.toks) (fun b u e=>Heap.get?_push_of_some _ e) (Nat.le_refl _) ?_,rfl,q _ _ hf (cP hf) au⟩
 exact ⟨z,us,0,r,Heap.get?_push_size _ rfl⟩
theorem b9 {es:List Expr} {t:TA} {pos:Pos} {x1:Nat} (h:PA X es t):PE X (.Tuple es x1 pos) (tTupA t):=by
 intro pins s σ H Q I hq
 refine wpAny_Tuple_spliced (thn (h pos pins s σ H _ I hq) fun us s1 ⟨xs,H1,I1,r,z,q⟩=>⟨by rw [<- r.length]; exact z,?_⟩)
 have hf:H1 s1.heap.objs.size=none:=I1.hok.fresh (Nat.le_refl _)
 refine ⟨.ref s1.heap.objs.size,upd H1 s1.heap.objs.size (.tup xs),I1.laid (t':=s1.toks) (fun b u e=>Heap.get?_push_of_some _ e) (Nat.le_refl _) ?_,rfl,q _ _ hf (cP hf) au⟩
 exact ⟨z,us,r,⟨_,Heap.get?_push_size _ rfl,rfl,_,rfl⟩⟩
theorem bi:OpR X (binaryOp .Add) (fun x y H Q=>∃ l b xs zs,x=.ref l /\ y=.ref b /\ H l=some (.lst xs) /\ H b=some (.lst zs) /\ xs.length + zs.length <= sizeLine /\ ∀ p H2,H p=none -> ar H H2 -> H2 p=some (.lst (xs ++ zs)) -> Q (.ref p) H2):=by
 intro pins s σ H x y v u Q I rx ry h
 obtain ⟨l,b,xs,zs,h1,h2,h3,h4,h5,q⟩:=h
 exact op_cat pins s σ H x y v u Q I rx ry ⟨l,b,xs,zs,h1,h2,h3,h4,h5,fun p hp=>q p _ hp (cP hp) au⟩
theorem ng {v:V} (h:cO v=true):eqV v v=true:=by
 cases v with
 | non=>rfl
 | bl b=>cases b <;> rfl
 | int i=>show (i == i)=true; exact beq_self_eq_true i
 | str x=>show (x == x)=true; exact beq_self_eq_true x
 | _=>exact absurd h (by simp [cO])
theorem eV {A:Around} {s:Shared} {v:V} {u1 u2:Value} (h:cO v=true) (r1:bu v u1) (r2:bu v u2):SeqAt.EqAt A s u1 u2 true:=by
 have:=jY (A:=A) (s:=s) r1 r2 h h
 rwa [ng h] at this
end
theorem lcT {x:Str} {k:Nat} {σ:St} {H1:Hp} {te:TE} {Q:VK} (f:Nat -> V) (hk:σ.length=k) (hz:x.cps.size <= 1000)
  (turn:∀ D c ys (post:VK),H1 D=none -> post (f c) (upd H1 D (.lst ys)) -> te (σ ++ [some (.str ⟨#[c]⟩)]) (upd H1 D (.lst ys)) post)
  (fin:∀ D,H1 D=none -> Q (.ref D) (upd H1 D (.lst (x.cps.toList.map f)))):LCT 1 (dc k) gD te σ Q (Itx x) H1:=by
 have hl:x.cps.toList.length=x.cps.size:=Array.length_toList
 refine lcJ (n:=x.cps.size) (fun i=>.str ⟨#[x.cps.toList.getD i 0]⟩) (fun D i ys H=>H1 D=none /\ ys=(x.cps.toList.take i).map f /\ H=upd H1 D (.lst ys)) hk ?_ ?_ ?_ ?_ ?_ ?_
 ·rintro D i ys H hi _
  exact hi
 ·rintro D i ys H y H' hi _ ⟨e,c,hc,rfl⟩
  refine ⟨e,?_⟩
  rw [<- Array.getElem?_toList] at hc
  rw [List.getD_eq_getElem?_getD,hc]; rfl
 ·rintro D ys H _
  exact rfl
 ·intro D hD
  exact ⟨hD,by simp,rfl⟩
 ·rintro D i ys H post hi ⟨h1,h2,rfl⟩ hp
  have hx:x.cps.toList[i]?=some (x.cps.toList.getD i 0):=by rw [List.getD_eq_getElem?_getD,List.getElem?_eq_getElem (by omega)]; rfl
  refine turn D _ ys post h1 (hp _ _ au ?_ ⟨h1,?_,by rw [iN]⟩)
  ·rw [h2,List.length_map,List.length_take]; exact bM (by omega)
  ·rw [h2,List.take_add_one,hx]; simp
 ·rintro D ys H ⟨h1,h2,rfl⟩
  rw [h2,List.take_of_length_le (by omega)]
  exact fin D h1
section
variable {X:Cx}
theorem du:cj X (.builtin "sorted") (fun xs H Q=>∃ (p:Addr) (ss:List Str),xs=[.ref p] /\ SqL X.K H p (ss.map V.str) /\ ss.length < 64 /\
  ∀ (l:Addr) (zs:List Str) (H2:Hp),H l=none -> ar H H2 -> H2 l=some (.lst (zs.map V.str)) -> zs.Perm ss -> zs.Pairwise leS -> Q (.ref l) H2):=by
 intro pins s σ H xs us Q I rv h
 obtain ⟨p,ss,rfl,hp,h64,q⟩:=h
 obtain ⟨u,rfl,ru⟩:=rv.one
 cases ru
 obtain ⟨its,r,pl,hz⟩:=I.list hp
 have hS:StrsAre its ss:=dn r
 have hl:its.length=ss.length:=by have:=r.length; rw [List.length_map] at this; exact this.symm
 refine sortedK strKind_oneLt (vs:=its) pl.isList hS.keysOf (fun v₁ v₂ rest e=>keyKind_strs (by rw [<- e]; exact hS)) (by omega) fun st' hp hs=>?_
 obtain ⟨ss',h1,h2,h3⟩:=ie hS hp hs
 obtain ⟨e,he⟩:=sortedAll_at s.heap its ((arrOf st').map (·.2))
 have hf:H (s.heap.objs.size + 1)=none:=I.hok.fresh (Nat.le_succ _)
 refine ⟨.ref (s.heap.objs.size + 1),_,I.laid (t':=s.toks) (a:=s.heap.objs.size + 1) (o:=.lst (ss'.map V.str)) (fun b o e=>sortedAll_old e) (Nat.le_succ _) ?_,rfl,q _ ss' _ hf (cP hf) au h2 h3⟩
 exact ⟨by rw [List.length_map,h2.length_eq]; exact Nat.le_of_lt (bM (by omega)),((arrOf st').map (·.2)).toList,e,lL h1,by rw [Array.toArray_toList]; exact he⟩
theorem bh:cj X (.type "tuple") (fun xs H Q=>∃ p ys,xs=[.ref p] /\ SqL X.K H p ys /\ ∀ l H2,H l=none -> ar H H2 -> H2 l=some (.tup ys) -> Q (.ref l) H2):=by
 intro pins s σ H xs us Q I r h
 obtain ⟨p,ys,h1,h2,q⟩:=h
 exact ic pins s σ H xs us Q I r ⟨p,ys,h1,.inl ⟨h2,fun l hl=>q l _ hl (cP hl) au⟩⟩
end
structure bb (P:Program) (w:World) (K:PySem.W.Frag) (mg:Str -> Option Value) (base:Heap) (k:Nat) (x:Str) (ps:List Str) (sp:Sp):Prop where
 ex:∃ f fd,bG P w K mg base CX0 k f fd ps sp /\ mg x=some (.ref f) /\ PySem.W.keepIn K (.ref f)=true /\ gz K fd ps []
theorem az {X:Cx} {k:Nat} {x:Str} {ps:List Str} {sp:Sp} {e:Expr} {es:List Expr} {t:TA} {p pos:Pos} (F:bb X.prog X.w X.K X.mg X.base k x ps sp) (hr:bP k X.A) (ha:PA X (e :: es) t) (hg:Gl X x:=by rfl)
  (hdb:(x == ("__debug__":Str))=false:=by decide) (he:starEach (e :: es) X.env=(false,eval e X.env) :: starEach es X.env:=by rfl) (hpl:(backTo pos (starEach es X.env)).any (·.1)=false:=by rfl) :
  PE X (.Call (.Name x p) (e :: es) [] pos) (mP sp [] E0 t):=by
 obtain ⟨f,fd,G,m,kp,b⟩:=F.ex
 exact kH G hr hg m kp b .nil pass0 ha hdb he hpl
theorem ar.new {H:Hp} {a:Addr} {o:HO} (h:H a=none):ar H (upd H a o):=fun b u e=>by rw [aD (aA e h)]; exact e
theorem ar.up {H H1:Hp} {a:Addr} {o:HO} (e:ar H H1) (h:H a=none):ar H (upd H1 a o):=fun b u q=>by rw [aD (aA q h)]; exact e b u q
theorem ar.none {H H':Hp} (e:ar H H') {a:Addr} (h:H' a=Option.none):H a=Option.none:=e.free h
theorem kit_is {K:PySem.W.Frag} {T c:String} {b:Bool} (h1:(Value.type T == Value.type c)=false) (h2:PySem.W.kitMeta c=true) (h3:(PySem.W.subIn K (.type T) (.type c))=some b):PySem.W.kitOne K (.type T) (.type c)=some b:=by
 unfold PySem.W.kitOne
 rw [if_neg (by rw [h1]; decide)]
 unfold PySem.W.kitCls
 dsimp only
 rw [if_pos h2]
 exact h3
def isStrV:V -> Bool | .str _=>true | _=>false
theorem kit_str {K:PySem.W.Frag} {H:Hp} {x:V} {k:String} (h:Kd H x k):PySem.W.kitOne K (.type k) (.type "str")=some (isStrV x):=by cases h <;> first | exact gE | exact kit_is (by decide +kernel) (by decide +kernel) (by with_unfolding_all rfl)
def ltS (a b:Str):Prop:=leS a b /\ a ≠ b
theorem dR {zs:List Str} (h:zs.Pairwise leS) (hn:zs.Nodup):zs.Pairwise ltS:=List.Pairwise.and h hn
section
variable {X:Cx}
end
section
variable {X:Cx}
end
theorem ig {X:Cx} {scope:Scope} {cl:List (Str × Addr)} {N2 ys:List Str} {C:Addr} {s:Shared} {H:Hp} {fp:List Addr}:OpR (cxC X scope cl N2 ys C s H fp) (compareOp .NotIn) (rIn X.K true):=iW
theorem kL {x:Str} {zs:List Str}:inV (.str x) (zs.map V.str)=decide (x ∈ zs):=by
 unfold inV
 rw [Bool.eq_iff_iff,List.any_eq_true,decide_eq_true_iff]
 constructor
 ·rintro ⟨y,hy,e⟩
  obtain ⟨z,hz,rfl⟩:=List.mem_map.mp hy
  have e:z=x:=beq_iff_eq.mp (show (z == x)=true from e)
  exact e ▸ hz
 ·intro h
  exact ⟨.str x,List.mem_map.mpr ⟨x,h,rfl⟩,show (x == x)=true from beq_self_eq_true x⟩
theorem dS (zs:List Str):(zs.map V.str).all cO=true:=by
 rw [List.all_map]
 exact List.all_eq_true.mpr fun _ _=>rfl
def rJoinT (K:PySem.W.Frag):V -> List V -> Hp -> VK -> Prop:=fun x vs H Q=>∃ z p ys,x=.str z /\ vs=[.ref p] /\ SqT K H p (ys.map V.str) /\ (ys.map (·.length)).sum + ys.length * z.length <= 16777216 /\ Q (.str (Txt.join z ys)) H
theorem ni {X:Cx}:MtR X "str.join" (rJoinT X.K):=by
 intro pins s σ H x vs v us Q I rx rv h
 obtain ⟨z,p,ys,rfl,rfl,hS,hz,q⟩:=h
 obtain ⟨t,rfl⟩:=rx
 obtain ⟨u,rfl,ru⟩:=rv.one
 cases ru
 obtain ⟨its,r,hp,_⟩:=I.tuple hS
 exact join_tuple hp (by simpa using dn r) hz fun t' k=>⟨.str _,H,I.tok _,⟨_,rfl⟩,q⟩
theorem j1 {X:Cx} {scope:Scope} {cl:List (Str × Addr)} {N2 ys:List Str} {C:Addr} {s:Shared} {H:Hp} {fp:List Addr}:OpR (cxC X scope cl N2 ys C s H fp) (compareOp .In) (rIn X.K false):=lH
theorem kM {α β:Type} {f:α -> β} {xs:List α} {i:Int} {x:α} (h0:0 <= i) (h:xs[i.toNat]?=some x):atI (xs.map f) i=some (f x):=by
 obtain ⟨n,rfl⟩:=Int.eq_ofNat_of_zero_le h0
 have hn:n < xs.length:=by
  have:=(List.getElem?_eq_some_iff.mp h).1
  simpa using this
 unfold atI ixN
 rw [if_pos h0,if_pos (by rw [List.length_map]; omega)]
 show (xs.map f)[(n:Int).toNat]?=_
 rw [List.getElem?_map,h]; rfl
section
variable {X:Cx}
end
section
variable {X:Cx} {k:Nat} {C:Addr} {m x:Str} {ps:List Str} {sp:Sp} {o e:Expr} {es:List Expr} {ta:TE} {t:TA} {p pos apos:Pos}
end
def smV:V -> Bool
 | .ref _=>true
 | v=>cO v
theorem nj {A:Around} {s:Shared} {v:V} {u1 u2:Value} (h:smV v=true) (r1:bu v u1) (r2:bu v u2):SeqAt.EqAt A s u1 u2 true:=by
 cases v with
 | ref a =>
  cases r1
  cases r2
  exact SeqAt.EqAt.same _
 | non=>exact eV (v:=.non) rfl r1 r2
 | bl b=>exact eV (v:=.bl b) rfl r1 r2
 | int i=>exact eV (v:=.int i) rfl r1 r2
 | str x=>exact eV (v:=.str x) rfl r1 r2
 | _=>exact absurd h (by simp [smV,cO])
theorem eqAt_sm {A:Around} {s:Shared} {xs:List V} {its jts:List Value} (hx:∀ v ∈ xs,smV v=true) (r1:aZ xs its) (r2:aZ xs jts) (j:Nat) (h1:j < its.toArray.size) (h2:j < jts.toArray.size):SeqAt.EqAt A s its.toArray[j] jts.toArray[j] true:=by
 have hj1:j < its.length:=by simpa using h1
 have hj2:j < jts.length:=by simpa using h2
 have hj:j < xs.length:=by rw [r1.length]; exact hj1
 obtain ⟨u1,hu1,ru1⟩:=r1.get (i:=j) (x:=xs[j]) (List.getElem?_eq_getElem hj)
 obtain ⟨u2,hu2,ru2⟩:=r2.get (i:=j) (x:=xs[j]) (List.getElem?_eq_getElem hj)
 have i1:its.toArray[j]=u1:=by
  have:=List.getElem?_eq_getElem hj1
  rw [hu1] at this
  simpa using (Option.some.inj this).symm
 have i2:jts.toArray[j]=u2:=by
  have:=List.getElem?_eq_getElem hj2
  rw [hu2] at this
  simpa using (Option.some.inj this).symm
 rw [i1,i2]
 exact nj (hx _ (List.getElem_mem hj)) ru1 ru2
section
variable {X:Cx}
theorem gH (n m:Nat) (h:n=m):((List.range (min n m)).all (fun _=>true) && n == m)=true:=by
 subst h
 simp
end
theorem dU {X:Cx} {scope:Scope} {cl:List (Str × Addr)} {N2 ys:List Str} {C:Addr} {s:Shared} {H:Hp} {fp:List Addr} {pos:Pos} {es:List Expr} {k:Nat} {t:TGs} {n:Nat} (hc:X.calm=true) (h:PGs (cxC X scope cl N2 ys C s H fp) es t)
  (hn:(assignEach es (cxC X scope cl N2 ys C s H fp).env).length=n:=by rfl) (hst:(assignEach es (cxC X scope cl N2 ys C s H fp).env).findIdx? (·.1)=none:=by rfl):PG (cxC X scope cl N2 ys C s H fp) (.Tuple es k pos) (gTup X.K n t) :=
 iR (X:=cxC X scope cl N2 ys C s H fp) hc h hn hst
end L2
namespace L2.RV
open PySem PySem.Spec PyProof.Rows
section
variable {prog:Program} {w:World} {A:Around} {E:Value -> Shared -> Prop} {s:Shared}
end
end L2.RV
namespace L2
open PySem PySem.Spec PyProof.Rows
section
variable {X:Cx} {tg:Expr}
end
end L2
namespace L2.ST
open PySem PySem.Spec PyProof.Rows
section
variable {prog:Program} {w:World} {A:Around} {E:Value -> Shared -> Prop} {s:Shared}
end
section
variable {prog:Program} {w:World} {A:Around} {R:Result -> Shared -> Prop} {I:Addr} {fp wr:List Addr} {G:Array GenState -> Array GenState -> Prop} {n:Nat} {P:Nat -> Value -> Prop} {St:Nat -> Shared -> Prop}
end
section
variable {prog:Program} {w:World} {A:Around} {E:Value -> Shared -> Prop} {s:Shared}
end
section
variable {prog:Program} {w:World} {A:Around} {E:Value -> Shared -> Prop} {s:Shared}
end
section
variable {prog:Program} {w:World} {A:Around} {E:Value -> Shared -> Prop} {s:Shared}
end
section
variable {prog:Program} {w:World} {A:Around} {E:Value -> Shared -> Prop} {s:Shared}
end
end L2.ST
namespace L2
open PySem PySem.Spec PyProof.Rows
section
variable {X:Cx}
theorem jo {a b:Str} (h1:leS a b) (h2:leS b a):a=b:=by
 unfold leS at h1 h2
 rw [ltCps_eq,decide_eq_false_iff_not] at h1 h2
 have:a.cps.toList=b.cps.toList:=List.le_antisymm (List.not_lt.mp h1) (List.not_lt.mp h2)
 cases a with | mk x=>cases b with | mk y=>exact congrArg Str.mk (Array.toList_inj.mp this)
end
end L2
namespace L2.ZT
open PySem PySem.Spec PyProof.Rows
section
variable {prog:Program} {w:World} {A:Around} {E:Value -> Shared -> Prop} {s:Shared}
theorem fC {q tp:Addr} {j:Nat} {us:Array Value} {y:Value} {R:Value -> Shared -> Prop} (hq:s.heap.IsTupleIter q tp j) (htp:s.heap.IsTuple tp us) (hy:us[j]?=some y)
  (hR:∀ g,g.IsTupleIter q tp (j + 1) -> Heap.SameBut q s.heap g -> R y { s with heap:=g }):wpAny (model prog w) A (Builtin.SmallTypes.nextOf (.ref q)) R E s:=by
 obtain ⟨oq,eq1,cq,dq⟩:=id hq
 obtain ⟨ot,et,_,nt,dt⟩:=htp
 unfold Builtin.SmallTypes.nextOf
 refine wpAny_bind (wpAny_callSpecial?_slot (name:=Str.ofString "__next__") hq.typeIs F.slot_tuple_iterator_next (wpAny_call_entry F.slot_tuple_iterator_next hq.typeIs F.entry_tuple_iterator_next ?_ (F.args_tuple_iterator_next_1 _)))
 show wpAny _ _ (field (.ref q) 0 >>= _) _ _ s
 refine wpAny_bind (wpAny_field eq1 dq (x:=.ref tp) rfl ?_)
 show wpAny _ _ (if (Value.ref tp == Value.none)=true then _ else _) _ _ s
 rw [if_neg (show ¬ ((Value.ref tp == Value.none)=true) from Bool.false_ne_true)]
 show wpAny _ _ (field (.ref q) 1 >>= _) _ _ s
 refine wpAny_bind (wpAny_field eq1 dq (x:=.int j 0) rfl ?_)
 show wpAny _ _ (seqItems? (.ref tp) >>= _) _ _ s
 refine wpAny_bind (wpAny_seqItems et dt ?_)
 simp only [Int.toNat_natCast,hy]
 refine wpAny_bind (wpAny_setField eq1 dq (by simp) (wpAny_pure ⟨y,rfl,wpAny_pure (hR _ ?_ (Heap.SameBut.update ..))⟩))
 exact ⟨_,Heap.get?_update_self _ eq1 (Obj.isFreed_of_fields (Obj.data_mapFields dq _)),(Obj.cls_mapFields ..).trans cq,by rw [Obj.data_mapFields dq]; simp [rawInt]⟩
theorem jp {q tp:Addr} {j:Nat} {us:Array Value} {R:Value -> Shared -> Prop} (nh:A.handled=none) (hq:s.heap.IsTupleIter q tp j) (htp:s.heap.IsTuple tp us) (hy:us[j]?=none)
  (hX:∀ g e,Heap.ExtBut q s.heap g -> (∃ o,g.get? e=some o /\ o.cls=.type "StopIteration") -> E (.ref e) { s with heap:=g }):wpAny (model prog w) A (Builtin.SmallTypes.nextOf (.ref q)) R E s:=by
 obtain ⟨oq,eq1,cq,dq⟩:=id hq
 obtain ⟨ot,et,_,nt,dt⟩:=htp
 unfold Builtin.SmallTypes.nextOf
 refine wpAny_bind (wpAny_callSpecial?_slot (name:=Str.ofString "__next__") hq.typeIs F.slot_tuple_iterator_next (wpAny_call_entry F.slot_tuple_iterator_next hq.typeIs F.entry_tuple_iterator_next ?_ (F.args_tuple_iterator_next_1 _)))
 show wpAny _ _ (field (.ref q) 0 >>= _) _ _ s
 refine wpAny_bind (wpAny_field eq1 dq (x:=.ref tp) rfl ?_)
 show wpAny _ _ (if (Value.ref tp == Value.none)=true then _ else _) _ _ s
 rw [if_neg (show ¬ ((Value.ref tp == Value.none)=true) from Bool.false_ne_true)]
 show wpAny _ _ (field (.ref q) 1 >>= _) _ _ s
 refine wpAny_bind (wpAny_field eq1 dq (x:=.int j 0) rfl ?_)
 show wpAny _ _ (seqItems? (.ref tp) >>= _) _ _ s
 refine wpAny_bind (wpAny_seqItems et dt ?_)
 simp only [Int.toNat_natCast,hy]
 refine wpAny_bind (wpAny_rule (wpAny_bind (wpAny_setField eq1 dq (by simp) (wpAny_bind (m:=newExc (.type "StopIteration") []) ?_))))
 simp only [newExc,newTuple]
 refine wpAny_bind (wpAny_newObj_type (wpAny_bind (m:=firstArgMember _ _) (wpAny_of_eq (a:=Value.none) (by first | rfl | (simp only [firstArgMember]; rfl)) (wpAny_newObj_type ?_ (by size_fits)))) (by size_fits))
 simp only [raiseNew]
 refine wpAny_bind (wpAny_handled ?_)
 rw [show A.in1.handled=none from nh]
 exact wpAny_bind (wpAny_pure (wpAny_throw (hX _ _ (((Heap.SameBut.update ..).extBut.push _).push _) ⟨_,Heap.get?_push_size _ rfl,rfl⟩)))
section
variable {z TI TO p r a b:Addr} {us vs:Array Value} {o1 o2:Value} {m n:Nat}
theorem nk {x y:Value} {R:Value -> Shared -> Prop} (ap:ZipApart z TI TO p r a b) (hz:IsZip s.heap z TI TO .none) (hI:IsPair s.heap TI (.ref p) (.ref r)) (hO:IsPair s.heap TO o1 o2)
  (hp:s.heap.IsTupleIter p a m) (hr:s.heap.IsTupleIter r b n) (ha:s.heap.IsTuple a us) (hb:s.heap.IsTuple b vs) (hx:us[m]?=some x) (hy:vs[n]?=some y)
  (hR:∀ g,IsZip g z TI TO (rawInt s.heap.objs.size) -> IsPair g TO x y -> g.IsTupleIter p a (m + 1) -> g.IsTupleIter r b (n + 1) -> IsPair g s.heap.objs.size x y -> g.objs.size=s.heap.objs.size + 1 ->
   (∀ c o,c ≠ z -> c ≠ TO -> c ≠ p -> c ≠ r -> s.heap.get? c=some o -> g.get? c=some o) -> R (.ref s.heap.objs.size) { s with heap:=g }) :
  wpAny (model prog w) A (Builtin.«zip.__next__» ⟨[.ref z],[]⟩) (fun fin s'=>∃ v,fin=.done (.ret v) /\ R v s') E s:=by
 show wpAny _ _ (field (.ref z) 2 >>= _) _ _ _
 refine wpAny_bind (wpAny_field hz rfl (x:=.bool false) rfl (wpAny_bind (m:=field (.ref z) 3) (wpAny_field hz rfl (x:=.ref TI) rfl (wpAny_bind (wpAny_seqItems hI rfl ?_)))))
 show wpAny _ _ (Builtin.SmallTypes.ownedTupleIsFree (.ref z) >>= _) _ _ _
 unfold Builtin.SmallTypes.ownedTupleIsFree
 refine wpAny_bind (wpAny_bind (wpAny_field hz rfl (x:=.none) rfl (wpAny_pure ?_)))
 simp only [if_true]
 refine wpAny_bind (wpAny_rule (wpAny_bind (wpAny_field hz rfl (x:=.ref TO) rfl (wpAny_bind (wpAny_setField_rec hz (by simp) fun g1 z1 k1=>wpAny_bind ?_)))))
 have z1:IsZip g1 z TI TO .ellipsis:=z1
 simp only [List.zipIdx_cons,List.zipIdx_nil,List.forIn_cons,List.forIn_nil]
 refine wpAny_bind (wpAny_bind (wpAny_onRaise (wpAny_bind (m:=Builtin.SmallTypes.nextOf (.ref p)) (fC (hp.extBut k1.extBut ap.i1z) (ha.extBut k1.extBut ap.l1z) hx fun g2 p2 k2=>wpAny_pure ?_))))
 have O2:IsPair g2 TO o1 o2:=k2.extBut _ _ ap.TOi1 (k1.extBut _ _ ap.TOz hO)
 refine wpAny_bind (wpAny_seqItems O2 rfl (wpAny_bind (wpAny_updateSeq_pair O2 fun g3 O3 k3=>wpAny_bind (wpAny_letGo (wpAny_pure ?_)))))
 have O3:IsPair g3 TO x o2:=O3
 refine wpAny_bind (wpAny_bind (wpAny_onRaise (wpAny_bind (m:=Builtin.SmallTypes.nextOf (.ref r)) (fC (((hr.extBut k1.extBut ap.i2z).extBut k2.extBut ap.i12.symm).extBut k3.extBut ap.TOi2.symm)
  (((hb.extBut k1.extBut ap.l2z).extBut k2.extBut ap.l2i1).extBut k3.extBut ap.l2TO) hy fun g4 r4 k4=>wpAny_pure ?_))))
 have O4:IsPair g4 TO x o2:=k4.extBut _ _ ap.TOi2 O3
 refine wpAny_bind (wpAny_seqItems O4 rfl (wpAny_bind (wpAny_updateSeq_pair O4 fun g5 O5 k5=>wpAny_bind (wpAny_letGo (wpAny_pure (wpAny_pure ?_))))))
 have O5:IsPair g5 TO x y:=O5
 refine wpAny_bind (wpAny_seqItems O5 rfl (wpAny_bind (wpAny_newTuple ?_)))
 have sz:g5.objs.size=s.heap.objs.size:=by rw [k5.1,k4.1,k3.1,k2.1,k1.1]
 have z5:IsZip g5 z TI TO .ellipsis:=k5.extBut _ _ ap.TOz.symm (k4.extBut _ _ ap.i2z.symm (k3.extBut _ _ ap.TOz.symm (k2.extBut _ _ ap.i1z.symm z1)))
 have k05:∀ c o,c ≠ z -> c ≠ TO -> c ≠ p -> c ≠ r -> s.heap.get? c=some o -> g5.get? c=some o:=fun c o n1 n2 n3 n4 e=>k5.extBut _ _ n2 (k4.extBut _ _ n4 (k3.extBut _ _ n2 (k2.extBut _ _ n3 (k1.extBut _ _ n1 e))))
 have p5:g5.IsTupleIter p a (m + 1):=((p2.extBut k3.extBut ap.TOi1.symm).extBut k4.extBut ap.i12).extBut k5.extBut ap.TOi1.symm
 have r5:g5.IsTupleIter r b (n + 1):=r4.extBut k5.extBut ap.TOi2.symm
 have zl:z < g5.objs.size:=Heap.lt_size z5
 show wpAny _ _ (Builtin.SmallTypes.ownedTupleHandOut (.ref z) (.ref g5.objs.size) >>= _) _ _ _
 unfold Builtin.SmallTypes.ownedTupleHandOut
 have z6:IsZip (g5.push { cls:=.type "tuple",data:=.seq #[x,y] }) z TI TO .ellipsis:=Heap.get?_push_of_some _ z5
 refine wpAny_bind (wpAny_bind (wpAny_setField_rec z6 (by simp) fun g7 z7 k7=>?_))
 have z7:IsZip g7 z TI TO (rawInt g5.objs.size):=z7
 refine wpAny_setField_rec z7 (by simp) fun g8 z8 k8=>?_
 have z8:IsZip g8 z TI TO (rawInt g5.objs.size):=z8
 have up:∀ c o,c ≠ z -> g5.get? c=some o -> g8.get? c=some o:=fun c o n1 e=>k8.extBut _ _ n1 (k7.extBut _ _ n1 (Heap.get?_push_of_some _ e))
 have T8:IsPair g8 g5.objs.size x y:=k8.extBut _ _ (Nat.ne_of_gt zl) (k7.extBut _ _ (Nat.ne_of_gt zl) (Heap.get?_push_size _ rfl))
 have s8:g8.objs.size=g5.objs.size + 1:=by rw [k8.1,k7.1,Heap.size_push]
 rw [sz] at z8 T8 s8
 refine wpAny_pure ⟨_,rfl,(?_:R (.ref g5.objs.size) _)⟩
 rw [sz]
 exact hR g8 z8 (up _ _ ap.TOz O5) (p5.at fun o e=>up _ o ap.i1z e) (r5.at fun o e=>up _ o ap.i2z e) T8 s8 fun c o n1 n2 n3 n4 e=>up c o n1 (k05 c o n1 n2 n3 n4 e)
theorem zip_end {R:Fin -> Shared -> Prop} (nh:A.handled=none) (ap:ZipApart z TI TO p r a b) (hz:IsZip s.heap z TI TO .none) (hI:IsPair s.heap TI (.ref p) (.ref r)) (hO:IsPair s.heap TO o1 o2)
  (hp:s.heap.IsTupleIter p a m) (hr:s.heap.IsTupleIter r b n) (ha:s.heap.IsTuple a us) (hb:s.heap.IsTuple b vs) (hend:us[m]?=none \/ vs[n]?=none)
  (hX:∀ g e,(∀ c o,c ≠ z -> c ≠ TO -> c ≠ p -> c ≠ r -> s.heap.get? c=some o -> g.get? c=some o) -> (∃ o,g.get? e=some o /\ o.cls=.type "StopIteration") -> E (.ref e) { s with heap:=g }) :
  wpAny (model prog w) A (Builtin.«zip.__next__» ⟨[.ref z],[]⟩) R E s:=by
 show wpAny _ _ (field (.ref z) 2 >>= _) _ _ _
 refine wpAny_bind (wpAny_field hz rfl (x:=.bool false) rfl (wpAny_bind (m:=field (.ref z) 3) (wpAny_field hz rfl (x:=.ref TI) rfl (wpAny_bind (wpAny_seqItems hI rfl ?_)))))
 show wpAny _ _ (Builtin.SmallTypes.ownedTupleIsFree (.ref z) >>= _) _ _ _
 unfold Builtin.SmallTypes.ownedTupleIsFree
 refine wpAny_bind (wpAny_bind (wpAny_field hz rfl (x:=.none) rfl (wpAny_pure ?_)))
 simp only [if_true]
 refine wpAny_bind (wpAny_rule (wpAny_bind (wpAny_field hz rfl (x:=.ref TO) rfl (wpAny_bind (wpAny_setField_rec hz (by simp) fun g1 z1 k1=>wpAny_bind ?_)))))
 have z1:IsZip g1 z TI TO .ellipsis:=z1
 simp only [List.zipIdx_cons,List.zipIdx_nil,List.forIn_cons,List.forIn_nil]
 refine wpAny_bind (wpAny_bind (wpAny_onRaise (wpAny_bind (m:=Builtin.SmallTypes.nextOf (.ref p)) ?_)))
 have off:∀ {g:Heap} {e:Addr} {oe:Obj},IsZip g z TI TO .ellipsis -> g.get? e=some oe -> oe.cls=.type "StopIteration" -> e ≠ z:=fun hg he hc y=>by subst y; rw [hg] at he; cases he; simp at hc
 cases hx:us[m]? with
 | none =>
  refine jp nh (hp.extBut k1.extBut ap.i1z) (ha.extBut k1.extBut ap.l1z) hx fun g2 e k2 ⟨oe,he,ce⟩=>?_
  have z2:IsZip g2 z TI TO .ellipsis:=k2 _ _ ap.i1z.symm z1
  exact wpAny_setField_rec z2 (by simp) fun g3 _ k3=>hX g3 e (fun c o n1 _ n3 _ q=>k3.extBut _ _ n1 (k2 _ _ n3 (k1.extBut _ _ n1 q))) ⟨oe,k3.extBut _ _ (off z2 he ce) he,ce⟩
 | some x =>
  have hy:vs[n]?=none:=hend.resolve_left (by rw [hx]; exact fun h=>nomatch h)
  refine fC (hp.extBut k1.extBut ap.i1z) (ha.extBut k1.extBut ap.l1z) hx fun g2 p2 k2=>wpAny_pure ?_
  have O2:IsPair g2 TO o1 o2:=k2.extBut _ _ ap.TOi1 (k1.extBut _ _ ap.TOz hO)
  refine wpAny_bind (wpAny_seqItems O2 rfl (wpAny_bind (wpAny_updateSeq_pair O2 fun g3 O3 k3=>wpAny_bind (wpAny_letGo (wpAny_pure ?_)))))
  refine wpAny_bind (wpAny_bind (wpAny_onRaise (wpAny_bind (m:=Builtin.SmallTypes.nextOf (.ref r)) (jp nh (((hr.extBut k1.extBut ap.i2z).extBut k2.extBut ap.i12.symm).extBut k3.extBut ap.TOi2.symm)
   (((hb.extBut k1.extBut ap.l2z).extBut k2.extBut ap.l2i1).extBut k3.extBut ap.l2TO) hy fun g4 e k4 ⟨oe,he,ce⟩=>?_))))
  have z4:IsZip g4 z TI TO .ellipsis:=k4 _ _ ap.i2z.symm (k3.extBut _ _ ap.TOz.symm (k2.extBut _ _ ap.i1z.symm z1))
  exact wpAny_setField_rec z4 (by simp) fun g5 _ k5=>hX g5 e (fun c o n1 n2 n3 n4 q=>k5.extBut _ _ n1 (k4 _ _ n4 (k3.extBut _ _ n2 (k2.extBut _ _ n3 (k1.extBut _ _ n1 q))))) ⟨oe,k5.extBut _ _ (off z4 he ce) he,ce⟩
end
abbrev g1 (h:Heap) (a:Addr):Heap:=h.push { cls:=.type "tuple_iterator",data:=.fields #[.ref a,.int 0 0] }
abbrev g2 (h:Heap) (a b:Addr):Heap:=(g1 h a).push { cls:=.type "tuple_iterator",data:=.fields #[.ref b,.int 0 0] }
abbrev g3 (h:Heap) (a b:Addr):Heap:=(g2 h a b).push { cls:=.type "tuple",data:=.seq #[.ref h.objs.size,.ref (g1 h a).objs.size] }
abbrev g4 (h:Heap) (a b:Addr):Heap:=(g3 h a b).push { cls:=.type "tuple",data:=.seq #[.none,.none] }
abbrev g5 (h:Heap) (a b:Addr):Heap:=(g4 h a b).push { cls:=.type "zip",data:=.fields #[.none,.bool false,.bool false,.ref (g2 h a b).objs.size,.ref (g3 h a b).objs.size] }
theorem lO (a b:Addr) (us vs:Array Value):Meets (Builtin.«zip.__new__» ⟨[.type "zip",.ref a,.ref b],[]⟩) (fun _ R s=>s.heap.IsTuple a us /\ s.heap.IsTuple b vs /\ R (.ok (.ret (.ref (g4 s.heap a b).objs.size))) { s with heap:=g5 s.heap a b }) :=
 .of_wp fun prog w A R s h=>by
  obtain ⟨hp,gs,dr,tk,os⟩:=s
  obtain ⟨ha,hb,h⟩:=h
  have sub:=sub_zip
  have ha1:Heap.IsTuple (Shared.heap ⟨hp,gs,dr,tk,os⟩) a us:=ha
  have hb1:Heap.IsTuple (Shared.heap ⟨hp.push { cls:=.type "tuple_iterator",data:=.fields #[.ref a,.int 0 0] },gs,dr,tk,os⟩) b vs:=Heap.IsTuple.push hb _
  wp_walk using wpAny_pyIter_tuple ha1,wpAny_pyIter_tuple hb1
  exact ⟨_,rfl,h⟩
theorem nr {a b:Addr} {us vs:Array Value} {R:Value -> Shared -> Prop} (ha:s.heap.IsTuple a us) (hb:s.heap.IsTuple b vs)
  (h:∀ g,IsZip g (s.heap.objs.size + 4) (s.heap.objs.size + 2) (s.heap.objs.size + 3) .none -> IsPair g (s.heap.objs.size + 2) (.ref s.heap.objs.size) (.ref (s.heap.objs.size + 1)) -> IsPair g (s.heap.objs.size + 3) .none .none ->
   g.IsTupleIter s.heap.objs.size a 0 -> g.IsTupleIter (s.heap.objs.size + 1) b 0 -> (∀ c o,s.heap.get? c=some o -> g.get? c=some o) -> R (.ref (s.heap.objs.size + 4)) { s with heap:=g }) :
  wpAny (model prog w) A (call (.type "zip") [.ref a,.ref b]) R E s:=by
 refine callType_new F.called_zip (by decide) (F.typeCall_zip_2 _ _) (F.newCall_zip_2 _ _) (fun obj=>F.args_object_init_3 obj _ _) F.entry_zip_new (lO a b us vs) ⟨ha,hb,?_⟩
 have s1:(g1 s.heap a).objs.size=s.heap.objs.size + 1:=Heap.size_push ..
 have s2:(g2 s.heap a b).objs.size=s.heap.objs.size + 2:=by rw [Heap.size_push,s1]
 have s3:(g3 s.heap a b).objs.size=s.heap.objs.size + 3:=by rw [Heap.size_push,s2]
 have s4:(g4 s.heap a b).objs.size=s.heap.objs.size + 4:=by rw [Heap.size_push,s3]
 have e5:(g5 s.heap a b).get? (g4 s.heap a b).objs.size=some _:=Heap.get?_push_size _ rfl
 have e4:(g5 s.heap a b).get? (g3 s.heap a b).objs.size=some _:=Heap.get?_push_of_some _ (Heap.get?_push_size _ rfl)
 have e3:(g5 s.heap a b).get? (g2 s.heap a b).objs.size=some _:=Heap.get?_push_of_some _ (Heap.get?_push_of_some _ (Heap.get?_push_size _ rfl))
 have e2:(g5 s.heap a b).get? (g1 s.heap a).objs.size=some _:=Heap.get?_push_of_some _ (Heap.get?_push_of_some _ (Heap.get?_push_of_some _ (Heap.get?_push_size _ rfl)))
 have e1:(g5 s.heap a b).get? s.heap.objs.size=some _:=Heap.get?_push_of_some _ (Heap.get?_push_of_some _ (Heap.get?_push_of_some _ (Heap.get?_push_of_some _ (Heap.get?_push_size _ rfl))))
 show _ /\ _
 rw [s2,s3,s4] at e5
 rw [s1,s2] at e3
 rw [s3] at e4
 rw [s1] at e2
 rw [s4]
 exact ⟨⟨_,e5,rfl⟩,h _ e5 e3 e4 ⟨_,e1,rfl,rfl⟩ ⟨_,e2,rfl,rfl⟩ fun c o x=>Heap.get?_push_of_some _ (Heap.get?_push_of_some _ (Heap.get?_push_of_some _ (Heap.get?_push_of_some _ (Heap.get?_push_of_some _ x))))⟩
end
end L2.ZT
namespace L2
open PySem PySem.Spec PyProof.Rows
def Itu (K:PySem.W.Frag) (l1 l2:Addr):It :=
 ⟨fun i H=>∃ xs ys x y,SqT K H l1 xs /\ SqT K H l2 ys /\ xs[i]?=some x /\ ys[i]?=some y,fun i H v H'=>∃ p,v=.ref p /\ H p=none /\ ∀ xs ys,SqT K H l1 xs -> SqT K H l2 ys -> ∃ x y,xs[i]?=some x /\ ys[i]?=some y /\ H'=upd H p (.tup [x,y]),
  fun i H=>∃ xs ys,SqT K H l1 xs /\ SqT K H l2 ys /\ i=min xs.length ys.length⟩
def TnU (z TI TO i1 i2 l1 l2:Addr) (i:Nat) (h:Heap):Prop:=IsZip h z TI TO Value.none /\ IsPair h TI (Value.ref i1) (Value.ref i2) /\ (∃ a b,IsPair h TO a b) /\ h.IsTupleIter i1 l1 i /\ h.IsTupleIter i2 l2 i
theorem lP {P:Program} {w:World} {K:PySem.W.Frag} {elts:List Expr} {k:Nat} {pos:Pos} {z TI TO i1 i2 l1 l2:Addr} (ap:ZipApart z TI TO i1 i2 l1 l2):jj P w K (.Tuple elts k pos) (Itu K l1 l2) [z,TI,TO,i1,i2] z (TnU z TI TO i1 i2 l1 l2) where
 mem:=by simp
 obj:=fun i h st b hb=>by
  obtain ⟨h1,h2,⟨u,v,h3⟩,h4,h5⟩:=st
  simp only [List.mem_cons,List.not_mem_nil,or_false] at hb
  rcases hb with rfl | rfl | rfl | rfl | rfl
  ·exact ⟨_,h1,fun v e=>by cases e⟩
  ·exact ⟨_,h2,fun v e=>by cases e⟩
  ·exact ⟨_,h3,fun v e=>by cases e⟩
  ·obtain ⟨o,e,c,d⟩:=h4
   exact ⟨o,e,fun v z=>by rw [d] at z; cases z⟩
  ·obtain ⟨o,e,c,d⟩:=h5
   exact ⟨o,e,fun v z=>by rw [d] at z; cases z⟩
 keep:=fun i h h' st kk=>by
  obtain ⟨h1,h2,⟨u,v,h3⟩,h4,h5⟩:=st
  exact ⟨kk _ (by simp) _ h1,kk _ (by simp) _ h2,⟨u,v,kk _ (by simp) _ h3⟩,h4.at fun o e=>kk _ (by simp) o e,h5.at fun o e=>kk _ (by simp) o e⟩
 item:=by
  intro X hP hw hK hc i pins s σ H E I hf st hg
  subst hP hw hK
  obtain ⟨xs,ys,x,y,hx,hy,ex,ey⟩:=hg
  obtain ⟨its,rv,p,hz⟩:=I.tuple hx
  obtain ⟨jts,rv',p',hz'⟩:=I.tuple hy
  obtain ⟨u,hu,ru⟩:=rv.get ex
  obtain ⟨v,hv,rv2⟩:=rv'.get ey
  obtain ⟨st1,st2,⟨oa,ob,st3⟩,st4,st5⟩:=st
  have hT:s.TypeIs (.ref z) "zip":=⟨_,st1,rfl⟩
  unfold pyNext
  refine wpAny_bind (wpAny_attempt (wpAny_callSpecial?_slot (name:=Str.ofString "__next__") hT F.slot_zip_next (wpAny_call_entry F.slot_zip_next hT F.entry_zip_next
   (ZT.nk ap st1 st2 st3 st4 st5 (show s.heap.IsTuple l1 its.toArray from p) (show s.heap.IsTuple l2 jts.toArray from p') (x:=u) (y:=v) (by simpa using hu) (by simpa using hv) fun g a1 a2 a3 a4 a5 a6 kk=>wpAny_pure ?_) (F.args_zip_next_1 _))))
  refine ⟨_,rfl,wpAny_letOwnedTupleGo_zip a1 fun g' zz sb=>?_⟩
  have lt:∀ {c:Addr} {o:Obj},s.heap.get? c=some o -> s.heap.objs.size ≠ c:=fun e=>Nat.ne_of_gt (Heap.lt_size e)
  have up:∀ c o,c ≠ z -> g.get? c=some o -> g'.get? c=some o:=fun c o n e=>sb.extBut _ _ n e
  have hTup:IsTup g' s.heap.objs.size [u,v].toArray:=⟨_,up _ _ (lt st1) a5,rfl,_,rfl⟩
  have hfw:∀ b ∈ ([z,TO,i1,i2]:List Addr),ej X pins H b:=fun b hb=>hf b (by simp only [List.mem_cons,List.not_mem_nil,or_false] at hb ⊢; rcases hb with h | h | h | h <;> simp [h])
  have kk2:∀ b o,b ∉ ([z,TO,i1,i2]:List Addr) -> s.heap.get? b=some o -> g'.get? b=some o:=fun b o hb e=>by
   simp only [List.mem_cons,List.not_mem_nil,or_false,not_or] at hb
   exact up _ _ hb.1 (kk b o hb.1 hb.2.1 hb.2.2.1 hb.2.2.2 e)
  have I1:=I.turnedT (h':=g') (t':=s.toks) (T:=s.heap.objs.size) (xs:=[x,y]) (us:=[u,v]) (ch:=[z,TO,i1,i2]) kk2 hfw (Nat.le_refl _) (by show 2 <= sizeLine; decide) (.cons ru (.cons rv2 .nil)) hTup
  refine ⟨.ref s.heap.objs.size,_,I1,rfl,⟨_,rfl,I.hok.fresh (Nat.le_refl _),fun xs' ys' hx' hy'=>⟨x,y,?_,?_,rfl⟩⟩,⟨zz,up _ _ ap.TIz (kk _ _ ap.TIz ap.TITO ap.TIi1 ap.TIi2 st2),⟨_,_,up _ _ ap.TOz a2⟩,a3.at fun o e=>up _ o ap.i1z e,a4.at fun o e=>up _ o ap.i2z e⟩,fun b hb=>?_⟩
  ·rw [I.tuple_inj hx' hx]; exact ex
  ·rw [I.tuple_inj hy' hy]; exact ey
  ·have hb':∃ o,s.heap.get? b=some o:=by
    simp only [List.mem_cons,List.not_mem_nil,or_false] at hb
    obtain ⟨o4,e4,_⟩:=st4
    obtain ⟨o5,e5,_⟩:=st5
    rcases hb with h | h | h | h | h <;> rw [h]
    ·exact ⟨_,st1⟩
    ·exact ⟨_,st2⟩
    ·exact ⟨_,st3⟩
    ·exact ⟨_,e4⟩
    ·exact ⟨_,e5⟩
   obtain ⟨o,e⟩:=hb'
   rw [aD (Nat.ne_of_lt (Heap.lt_size e))]
   exact (hf b hb).1
 done:=by
  intro X hP hw hK hc i pins s σ H E I hf st hg
  subst hP hw hK
  obtain ⟨xs,ys,hx,hy,rfl⟩:=hg
  obtain ⟨its,rv,p,hz⟩:=I.tuple hx
  obtain ⟨jts,rv',p',hz'⟩:=I.tuple hy
  obtain ⟨st1,st2,⟨oa,ob,st3⟩,st4,st5⟩:=st
  have hfw:∀ b ∈ ([z,TO,i1,i2]:List Addr),ej X pins H b:=fun b hb=>hf b (by simp only [List.mem_cons,List.not_mem_nil,or_false] at hb ⊢; rcases hb with h | h | h | h <;> simp [h])
  have e1:=rv.length
  have e2:=rv'.length
  have hend:its.toArray[min xs.length ys.length]?=none \/ jts.toArray[min xs.length ys.length]?=none:=by
   by_cases h:xs.length <= ys.length
   ·exact .inl (Array.getElem?_eq_none (by rw [List.size_toArray]; omega))
   ·exact .inr (Array.getElem?_eq_none (by rw [List.size_toArray]; omega))
  have hT:s.TypeIs (.ref z) "zip":=⟨_,st1,rfl⟩
  unfold pyNext
  refine wpAny_bind (wpAny_attempt (wpAny_callSpecial?_slot (name:=Str.ofString "__next__") hT F.slot_zip_next (wpAny_call_entry F.slot_zip_next hT F.entry_zip_next
   (ZT.zip_end (I.ok.hd hc) ap st1 st2 st3 st4 st5 (show s.heap.IsTuple l1 its.toArray from p) (show s.heap.IsTuple l2 jts.toArray from p') hend fun g e kk ⟨oe,he,ce⟩=>?_) (F.args_zip_next_1 _))))
  refine wpAny_bind (wpAny_isInstance (T:="StopIteration") (b:=true) ⟨oe,he,ce⟩ isSubtype_stop (wpAny_pure ⟨rfl,I.turnedL (t':=s.toks) (ch:=[z,TO,i1,i2]) (fun b o hb e=>?_) hfw⟩))
  simp only [List.mem_cons,List.not_mem_nil,or_false,not_or] at hb
  exact kk b o hb.1 hb.2.1 hb.2.2.1 hb.2.2.2 e
 self:=fun _ _ _ _ _ st h=>wpAny_pyIter_zip st.1 h
section
variable {X:Cx}
def iZipT (K:PySem.W.Frag) (ta:TA):TI:=fun σ H R=>ta σ H fun vs H1=>∃ a b xs ys,vs=[.ref a,.ref b] /\ SqT K H1 a xs /\ SqT K H1 b ys /\ R (Itu K a b) H1
theorem pi_zipT {elts:List Expr} {k:Nat} {tpos:Pos} {a b:Expr} {ta:TA} {p pos:Pos} (hg:Gl X "zip") (hm:X.mg "zip"=none) (ha:PA X [a,b] ta) (hs:starEach [a,b] X.env=[(false,eval a X.env),(false,eval b X.env)]:=by rfl) (hs2:starEach [b] X.env=[(false,eval b X.env)]:=by rfl) :
  PI X (.Tuple elts k tpos) (.Call (.Name "zip" p) [a,b] [] pos) (iZipT X.K ta):=by
 intro pins s σ H R I h
 refine Call_ (eE I hg hm boot_zip (PyProof.Rows.callWith_type1 (thn (ha pos pins s σ H _ I h) fun us s1 ⟨vs,H1,I1,r1,q1⟩=>?_) (by rw [hs,hs2]) (by rw [hs2]; rfl)))
 obtain ⟨l1,l2,xs,ys,e,hx,hy,q⟩:=q1
 subst e
 obtain ⟨u,u2,rfl,rr1,rr2⟩:=gy r1
 cases rr1
 cases rr2
 obtain ⟨its,rv,p1,hz⟩:=I1.tuple hx
 obtain ⟨jts,rv',p2,hz'⟩:=I1.tuple hy
 have h1:l1 < s1.heap.objs.size:=by obtain ⟨o,e,_⟩:=id p1; exact Heap.lt_size e
 have h2:l2 < s1.heap.objs.size:=by obtain ⟨o,e,_⟩:=id p2; exact Heap.lt_size e
 refine ZT.nr (show s1.heap.IsTuple l1 its.toArray from p1) (show s1.heap.IsTuple l2 jts.toArray from p2) fun h' z1 z2 z3 z4 z5 kk=>?_
 refine wpAny_pyIter_zip (s:={ s1 with heap:=h' }) z1 ?_
 refine ⟨_,[s1.heap.objs.size + 4,s1.heap.objs.size + 2,s1.heap.objs.size + 3,s1.heap.objs.size,s1.heap.objs.size + 1],_,_,H1,rfl,I1.kept (t':=s1.toks) kk,lP (zipApart_new h1 h2),⟨z1,z2,⟨_,_,z3⟩,z4,z5⟩,fun b hb=>?_,q⟩
 have hb':s1.heap.objs.size <= b:=by
  simp only [List.mem_cons,List.not_mem_nil,or_false] at hb
  rcases hb with h | h | h | h | h <;> rw [h] <;> first | exact Nat.le_add_right _ _ | exact Nat.le_refl _
 exact I1.fpOk hb' (I1.hok.fresh hb')
end
theorem j2 {K:PySem.W.Frag} {a:Addr} {xs:List V} {k:Nat} {σ:St} {H1:Hp} {te:TE} {Q:VK} (f:V -> V) (hk:σ.length=k) (hq:H1 a=some (.tup xs)) (hz:xs.length <= 1000)
  (turn:∀ D x ys H (post:VK),H1 D=none -> x ∈ xs -> ar H1 H -> H D=some (.lst ys) -> (∀ H',ar H H' -> post (f x) H') -> te (σ ++ [some x]) H post)
  (fin:∀ D H,H1 D=none -> ar H1 H -> H D=some (.lst (xs.map f)) -> Q (.ref D) H):LCT 1 (dc k) gD te σ Q (Itt K a) H1:=by
 refine lcJ (n:=xs.length) (fun i=>xs.getD i .non) (fun D i ys H=>H1 D=none /\ ar H1 H /\ H D=some (.lst ys) /\ ys=(xs.take i).map f) hk ?_ ?_ ?_ ?_ ?_ ?_
 ·rintro D i ys H hi ⟨h1,h2,h3,rfl⟩
  exact ⟨xs,xs[i],SqT.of (h2 _ _ hq),by simp [hi]⟩
 ·rintro D i ys H x H' hi ⟨h1,h2,h3,rfl⟩ ⟨e,y⟩
  refine ⟨e,?_⟩
  have:=y xs (SqT.of (h2 _ _ hq))
  rw [List.getD_eq_getElem?_getD,this]; rfl
 ·rintro D ys H ⟨h1,h2,h3,rfl⟩
  exact ⟨xs,SqT.of (h2 _ _ hq),Nat.le_refl _⟩
 ·intro D hD
  exact ⟨hD,ar.new hD,au,rfl⟩
 ·rintro D i ys H post hi ⟨h1,h2,h3,rfl⟩ hp
  have hx:xs.getD i .non=xs[i]:=by simp [hi]
  rw [hx]
  refine turn D xs[i] _ H post h1 (List.getElem_mem hi) h2 h3 fun H' s'=>hp _ _ (s' _ _ h3) ?_ ⟨h1,fun b o e=>?_,au,?_⟩
  ·rw [List.length_map,List.length_take]
   exact bM (by omega)
  ·rw [aD (aA e h1)]
   exact s' _ _ (h2 _ _ e)
  ·rw [List.take_add_one,List.getElem?_eq_getElem hi,List.map_append]; rfl
 ·rintro D ys H ⟨h1,h2,h3,rfl⟩
  rw [List.take_length] at h3
  exact fin D H h1 h2 h3
theorem lcZU {K:PySem.W.Frag} {a b:Addr} {xs ys:List V} {g:TG} {σ:St} {H1:Hp} {te:TE} {Q:VK} (f:V -> V -> V) (ha:H1 a=some (.tup xs)) (hb:H1 b=some (.tup ys)) (hz:xs.length <= 1000)
  (hg:∀ (p:Addr) (x y:V) (H:Hp) (R:St -> Hp -> Prop),H p=some (.tup [x,y]) -> R (σ ++ [some x,some y]) H -> g (.ref p) (σ ++ List.replicate 2 none) H R)
  (turn:∀ (i:Nat) x y H (post:VK),xs[i]?=some x -> ys[i]?=some y -> ar H1 H -> (∀ H',ar H H' -> post (f x y) H') -> te (σ ++ [some x,some y]) H post)
  (fin:∀ D H,H1 D=none -> ar H1 H -> H D=some (.lst ((xs.zip ys).map fun p=>f p.1 p.2)) -> Q (.ref D) H):LCT 2 g gD te σ Q (Itu K a b) H1:=by
 have hzl:(xs.zip ys).length=min xs.length ys.length:=List.length_zip ..
 intro D hD
 refine ⟨fun i m us H=>m=(xs.zip ys).length - i /\ i <= (xs.zip ys).length /\ ar H1 H /\ H D=some (.lst us) /\ us=((xs.zip ys).take i).map fun p=>f p.1 p.2,⟨(xs.zip ys).length,by simp,Nat.zero_le _,ar.new hD,au,rfl⟩,?_⟩
 rintro i m us H ⟨rfl,hi,sm,hDD,rfl⟩
 by_cases hlt:i < (xs.zip ys).length
 ·have h1:i < xs.length:=by omega
  have h2:i < ys.length:=by omega
  refine .inr ⟨⟨xs,ys,xs[i],ys[i],SqT.of (sm _ _ ha),SqT.of (sm _ _ hb),by simp,by simp⟩,fun v H' y=>?_⟩
  obtain ⟨p,rfl,hp,y⟩:=y
  obtain ⟨x',y',ex,ey,rfl⟩:=y xs ys (SqT.of (sm _ _ ha)) (SqT.of (sm _ _ hb))
  have s2:=ar.new (o:=.tup [x',y']) hp
  refine hg p x' y' _ _ au ⟨⟨_,rfl,rfl⟩,?_⟩
  unfold gD
  refine cW (turn i x' y' _ _ ex ey (sm.trans s2) fun H4 s4=>⟨s4 _ _ (s2 _ _ hDD),?_,(xs.zip ys).length - (i + 1),by omega,rfl,hlt,fun c o e=>?_,au,?_⟩)
  ·rw [List.length_map,List.length_take]
   exact bM (by omega)
  ·rw [aD (aA e hD)]
   exact s4 _ _ (s2 _ _ (sm _ _ e))
  ·rw [List.take_add_one,List.getElem?_eq_getElem hlt,List.map_append]
   have e1:(xs.zip ys)[i]=(x',y'):=by
    rw [List.getElem_zip]
    rw [List.getElem?_eq_getElem h1] at ex
    rw [List.getElem?_eq_getElem h2] at ey
    rw [Option.some.inj ex,Option.some.inj ey]
   rw [e1]; rfl
 ·have e:i=(xs.zip ys).length:=by omega
  subst e
  rw [List.take_length] at hDD
  exact .inl ⟨⟨xs,ys,SqT.of (sm _ _ ha),SqT.of (sm _ _ hb),hzl⟩,fin D H hD sm hDD⟩
section
variable {X:Cx}
theorem j3 (bs:List Bool):((List.range bs.length).any fun i=>(bs[i]?).getD false)=bs.any id:=by
 rw [Bool.eq_iff_iff,List.any_eq_true,List.any_eq_true]
 constructor
 ·rintro ⟨i,hi,h⟩
  have hi:=List.mem_range.mp hi
  rw [List.getElem?_eq_getElem hi] at h
  exact ⟨_,List.getElem_mem hi,h⟩
 ·rintro ⟨b,hb,h⟩
  obtain ⟨i,hi,e⟩:=List.getElem_of_mem hb
  exact ⟨i,List.mem_range.mpr hi,by rw [List.getElem?_eq_getElem hi,e]; exact h⟩
theorem lQ (hc:X.calm=true):cj X (.builtin "any") (fun xs H Q=>∃ (p:Addr) (bs:List Bool),xs=[.ref p] /\ SqL X.K H p (bs.map V.bl) /\ Q (.bl (bs.any id)) H):=by
 intro pins s σ H xs us Q I rv h
 obtain ⟨p,bs,rfl,hS,q⟩:=h
 obtain ⟨u,rfl,ru⟩:=rv.one
 cases ru
 obtain ⟨its,r,hp,_⟩:=I.list hS
 have hlen:its.length=bs.length:=by have:=r.length; rw [List.length_map] at this; omega
 have hl:=hp.isList
 have hlt:p < s.heap.objs.size:=by obtain ⟨_,e,_⟩:=hl; exact Heap.lt_size e
 refine call_any_walk (wpAny_pyIter_list hl ?_)
 refine ⟨s.heap.objs.size,[s.heap.objs.size,p],[s.heap.objs.size],its.toArray.size,_,_,fun i=>(bs[i]?).getD false,rfl,Walks.list (A:=X.A.in1) (I.ok.hd hc) _ p (Nat.ne_of_lt hlt) its.toArray,
  ⟨⟨_,Heap.get?_push_size _ rfl,rfl,rfl⟩,hl.push _⟩,fun i v s' Q' E' hP hQ=>?_,fun h' tk hk=>?_⟩
 ·obtain ⟨b,e,rfl⟩:=kJ r (i:=i) (v:=v) (by simpa using hP)
  simp only [e,Option.getD_some] at hQ
  exact wpAny_truthy_bool hQ
 ·rw [List.size_toArray,hlen,j3]
  refine ⟨.bl _,H,I.kept (t':=tk) fun b o e=>hk b o (fun hm=>?_) (Heap.get?_push_of_some _ e),rfl,q⟩
  rw [List.mem_singleton.mp hm] at e
  exact Nat.lt_irrefl _ (Heap.lt_size e)
end
def tJoin (t:TS):TS:=fun D σ H=>∃ J:St -> Hp -> Prop,t { D with nx:=J } σ H /\ ∀ σ' H',J σ' H' -> D.nx σ' H'
theorem iX {X:Cx} {st:Stmt} {t:TS} (h:PS X st t):PS X st (tJoin t):=by
 intro pins s σ H D I hh
 obtain ⟨J,h1,h2⟩:=hh
 refine thn (h pins s σ H { D with nx:=J } I h1) fun f s1 q=>?_
 cases f with
 | next =>
  obtain ⟨σ',H',I',q⟩:=q
  exact ⟨σ',H',I',h2 _ _ q⟩
 | ret v=>exact q
 | brk=>exact q
 | cont=>exact q
section
variable {P:Program} {w:World} {H H' H1 H2:Hp} {h h0 h1 h2 B:Heap} {a:Addr} {o:HO} {fs:List Addr}
theorem bX.there (x:bX P w H h a o):∃ u,h.get? a=some u:=by
 cases o with
 | lst xs=>obtain ⟨_,_,_,_,e⟩:=x; exact ⟨_,e⟩
 | tup xs=>obtain ⟨_,_,_,ob,e,_⟩:=x; exact ⟨_,e⟩
 | dK kvs=>obtain ⟨_,_,_,_,o,_,_,e,_⟩:=x; exact ⟨_,e⟩
 | dT kvs=>obtain ⟨_,_,_,_,o,_,_,e,_⟩:=x; exact ⟨_,e⟩
 | set S n=>obtain ⟨o,_,_,_,e,_⟩:=x; exact ⟨_,e⟩
 | ins C dx fs=>obtain ⟨_,_,_,e,_⟩:=x; exact ⟨_,e⟩
 | own y=>exact x
 | xd fs=>obtain ⟨_,⟨_,_,_,e,_⟩,_⟩:=x; exact ⟨_,e⟩
 | rng lo hi=>obtain ⟨_,_,_,e⟩:=x; exact ⟨_,e⟩
 | frz ob u=>obtain ⟨e,_⟩:=x; exact ⟨_,e⟩
 | tbl ps=>exact ⟨_,(show h.get? a=some _ from x)⟩
 | met f y=>exact ⟨_,(show h.get? a=some _ from x)⟩
 | ext φ=>obtain ⟨_,e,_⟩:=x; exact e
def Cov (fs:List Addr) (h0 h1:Heap) (H':Hp) (B:Heap):Prop:=∀ b u,h1.get? b=some u -> ((∃ o,h0.get? b=some o) \/ H' b ≠ none) -> b ∉ fs -> B.get? b=some u
theorem fQ (un:Un fs [] H H2 h0 h1) (hok:HOk P w H2 h1) (cov:Cov fs h0 h1 H2 B) (st:B.StaysIn h2) (up:h1.UpToSlots h2) (nf:∀ b ∈ fs,H2 b=none) (fd:∀ b ∈ fs,∀ o,h1.get? b=some o -> ∀ vs,o.data ≠ .fields vs) :
  Un fs [] H H2 h0 h2 /\ HOk P w H2 h2 /\ Cov fs h0 h2 H2 B:=by
 have one:∀ b u,h1.get? b=some u -> ((∃ o,h0.get? b=some o) \/ H2 b ≠ none) -> b ∉ fs -> h2.get? b=some u:=fun b u e c n=>st b u (cov b u e c n)
 refine ⟨⟨fun b ob e n hb hx=>?_,fun b ob e n hb hx=>?_,un.free,fun b ob e hx=>?_,un.tups,un.frzs,un.tbls⟩,fun b u e=>?_,fun b u e c n=>?_⟩
 ·exact one b ob (un.keep b ob e n hb hx) (.inl ⟨ob,e⟩) hb
 ·obtain ⟨sl,e1⟩:=un.slot b ob e n hb hx
  obtain ⟨sl',e2⟩:=up b _ e1 (fd b hb _ e1)
  exact ⟨sl',e2⟩
 ·obtain ⟨o',e1⟩:=un.there b ob e hx
  by_cases hb:b ∈ fs
  ·obtain ⟨sl',e2⟩:=up b _ e1 (fd b hb _ e1)
   exact ⟨_,e2⟩
  ·exact ⟨_,one b o' e1 (.inl ⟨ob,e⟩) hb⟩
 ·refine (hok b u e).stay (fun c v hc q=>?_) (fun _ q=>q) fun _ _ q=>q
  have hn:H2 c ≠ none:=by
   rcases hc with rfl | hc
   ·rw [e]; intro z; cases z
   ·rw [hc]; intro z; cases z
  exact one c v q (.inr hn) fun z=>hn (nf c z)
 ·have:∃ v,h1.get? b=some v:=by
   rcases c with ⟨o',e1⟩ | c
   ·exact un.there b o' e1 (by simp)
   ·cases hq:H2 b with
    | none=>exact absurd hq c
    | some q=>exact (hok b q hq).there
  obtain ⟨v,hv⟩:=this
  have:=cov b v hv c n
  have e2:=st b v this
  rw [e] at e2
  cases e2
  exact this
end
def CXR (P:Program) (w:World) (base:Heap):CXT:=fun outer H s E e s'=>∃ (ea:Addr) (cls a0:Value) (H':Hp) (B:Heap),e=.ref ea /\ s'.os=s.os /\ AllBare s'.gens /\ Un (frs outer) [] H H' s.heap s'.heap /\ HOk P w H' s'.heap /\ H' ea=none /\
 base.StaysIn B /\ Heap.FlyingW B outer ea cls a0 s'.heap /\ Cov (frs outer) s.heap s'.heap H' B /\ E cls none H'
section
variable {X:Cx} {pins:List (Addr × Obj)} {σ:St} {H H2:Hp} {s s':Shared}
theorem eX (I:Inv X pins σ H s) (un:Un (frs X.stack) [] H H2 s.heap s'.heap):∀ b ∈ frs X.stack,H2 b=none:=fun b hb=>by
 obtain ⟨_,o,ho,_⟩:=I.stack.mem hb
 exact un.free b o ho (I.stkFree b hb) (by simp)
theorem dh {B h:Heap} {l:List Env} {e:Addr} {cls a0:Value} (f:Heap.FlyingW B l e cls a0 h):∀ b ∈ frs l,∀ o,h.get? b=some o -> ∀ vs,o.data ≠ .fields vs:=fun b hb o ho=>by
 obtain ⟨_,o',ho',hd⟩:=f.2.2.1.mem hb
 rw [ho] at ho'
 cases ho'
 exact hd
end
theorem kN {X:Cx} {pins:List (Addr × Obj)} {σ:St} {H H2:Hp} {s:Shared} {h:Heap} (I:Inv X pins σ H s) (hex:X.ex=[]) (u:Un (frs X.stack) [] H H2 s.heap h):Un (frs X.outer) [] X.H₀ H2 X.s₀.heap h:=by
 have b0:=I.base
 rw [hex] at b0
 have nm:∀ b o,X.s₀.heap.get? b=some o -> b ∉ frs X.outer -> b ∉ frs X.stack:=fun b o e n z=>by
  rcases List.mem_cons.mp (I.stkSub b z) with q | q
  ·have h1:=Heap.lt_size e
   have h2:=I.ok.above
   rw [<- q] at h2
   exact absurd (Nat.lt_of_lt_of_le h1 h2) (Nat.lt_irrefl _)
  ·exact n q
 refine ⟨fun b o e n hb hx=>?_,fun b o e n hb hx=>?_,fun b o e n hx=>?_,fun b o e hx=>?_,fun b xs e=>u.tups b xs (b0.tups b xs e),fun b o v e=>u.frzs b o v (b0.frzs b o v e),fun b ps e=>?_⟩
 ·exact u.keep b o (b0.keep b o e n hb hx) (b0.free b o e n hx) (nm b o e hb) hx
 ·obtain ⟨sl,e1⟩:=b0.slot b o e n hb hx
  obtain ⟨sl',e2⟩:=u.any e1 (b0.free b o e n hx) hx
  exact ⟨sl',e2⟩
 ·obtain ⟨o',e1⟩:=b0.there b o e hx
  exact u.free b o' e1 (b0.free b o e n hx) hx
 ·obtain ⟨o',e1⟩:=b0.there b o e hx
  exact u.there b o' e1 hx
 ·obtain ⟨m1,e1⟩:=b0.tbls b ps e
  obtain ⟨m2,e2⟩:=u.tbls b _ e1
  exact ⟨m1 ++ m2,by rw [e2,Array.append_assoc]⟩
theorem jq {X:Cx} {pins:List (Addr × Obj)} {σ:St} {H H2:Hp} {s:Shared} {h B:Heap} (I:Inv X pins σ H s) (hex:X.ex=[]) (nf:∀ b ∈ frs X.stack,H2 b=none) (c:Cov (frs X.stack) s.heap h H2 B):Cov (frs X.outer) X.s₀.heap h H2 B:=by
 have b0:=I.base
 rw [hex] at b0
 intro b u e q n
 refine c b u e ?_ fun z=>?_
 ·rcases q with ⟨o,q⟩ | q
  ·exact .inl (b0.there b o q (by simp))
  ·exact .inr q
 ·rcases q with ⟨o,q⟩ | q
  ·rcases List.mem_cons.mp (I.stkSub b z) with y | y
   ·have h1:=Heap.lt_size q
    have h2:=I.ok.above
    rw [<- y] at h2
    exact absurd (Nat.lt_of_lt_of_le h1 h2) (Nat.lt_irrefl _)
   ·exact n y
  ·exact q (nf b z)
section
variable {P:Program} {w:World} {K:PySem.W.Frag} {mg:Str -> Option Value} {base:Heap} {N:List Str} {qual:Str} {scope:Scope} {f:Addr} {cd:Value} {A:Around} {outer:List Env} {s:Shared} {H:Hp} {E:XK}
theorem eY:cw (CXR P w base) (dm (CXR P w base) P w K mg base N qual scope f cd A outer s H E) E:=by
 intro pins σ H1 s1 e s' I hx
 obtain ⟨ea,cls,a0,H2,B,rfl,os,bare,un,hok,hea,hb,fly,cov,hE⟩:=hx
 show wpAny _ _ (leaving _ (.ref ea)) _ _ s'
 refine wpAny_leaves_onW I.ok.frames rfl fly fun h' fly' up=>?_
 have nf:=eX I un
 obtain ⟨un2,hok2,cov2⟩:=fQ un hok cov fly'.1 up nf (dh fly)
 exact ⟨ea,cls,a0,H2,B,rfl,os.trans I.os,bare,kN I rfl un2,hok2,hea,hb,fly',jq I rfl nf cov2,hE⟩
theorem newR {pins:List (Addr × Obj)} {σ:St} {H1:Hp} {s1:Shared} {h':Heap} {ea:Addr} {cls:Value} {vs:List Value} (I:Inv (dm (CXR P w base) P w K mg base N qual scope f cd A outer s H E) pins σ H1 s1) (hx:Heap.MadeExcOf s1.heap h' ea cls vs) (hE:E cls none H1) :
  (dm (CXR P w base) P w K mg base N qual scope f cd A outer s H E).xe (.ref ea) { s1 with heap:=h' }:=by
 have hl:=I.stack
 have hin:∀ env ∈ (dm (CXR P w base) P w K mg base N qual scope f cd A outer s H E).stack,∀ b,env.frame=some b -> b ∈ frs (dm (CXR P w base) P w K mg base N qual scope f cd A outer s H E).stack:=fun env he b hb=>List.mem_filterMap.mpr ⟨env,he,hb⟩
 have hst:base.StaysIn (PySem.W.hideAll s1.heap (frs (dm (CXR P w base) P w K mg base N qual scope f cd A outer s H E).stack)):=fun b o q=>PySem.W.hideAll_get _ ((I.bs b o q).1) fun hm=>by
  have z:base.get? b=none:=(hl.mem hm).1
  rw [z] at q; cases q
 show wpAny _ _ (leaving _ (.ref ea)) _ _ _
 refine wpAny_leaves_madeW (base:=PySem.W.hideAll s1.heap (frs (dm (CXR P w base) P w K mg base N qual scope f cd A outer s H E).stack)) (h:=s1.heap) I.ok.frames rfl (fun b o q=>PySem.W.of_hideAll _ q) (PySem.W.funFrames_hide hl hin) hx fun h2 t fly tup bt up=>?_
 have nf:=I.stkFree
 have up2:s1.heap.UpToSlots h2:=(Heap.UpToSlots.of_keeps hx.keeps).trans up
 have cov:Cov (frs (dm (CXR P w base) P w K mg base N qual scope f cd A outer s H E).stack) s1.heap s1.heap H1 (PySem.W.hideAll s1.heap (frs (dm (CXR P w base) P w K mg base N qual scope f cd A outer s H E).stack)):=fun b u e _ n=>PySem.W.hideAll_get _ e n
 have fd:∀ b ∈ frs (dm (CXR P w base) P w K mg base N qual scope f cd A outer s H E).stack,∀ o,s1.heap.get? b=some o -> ∀ vs,o.data ≠ .fields vs:=fun b hb o ho=>by
  obtain ⟨_,o',ho',hd⟩:=hl.mem hb
  rw [ho] at ho'
  cases ho'
  exact hd
 obtain ⟨un2,hok2,cov2⟩:=fQ (Un.kept fun _ _ e=>e) I.hok cov fly.1 up2 nf fd
 have hea:H1 ea=none:=by
  cases hq:H1 ea with
  | none=>rfl
  | some q =>
   obtain ⟨u,hu⟩:=(I.hok ea q hq).there
   rw [hx.new] at hu
   cases hu
 exact ⟨ea,cls,_,H1,_,rfl,I.os,I.bare,kN I rfl un2,hok2,hea,hst,fly,jq I rfl nf cov2,hE⟩
end
def bmV:List Value:=[.type "ValueError",.type "Exception",.type "BaseException",.type "object"]
def iw (h:Heap) (C:Addr):Prop:=∃ bm N nm qn bs hd sn sub ab col dd k0 k1 k2 k3 k5 mN,h.get? C=some (excClassObj nm qn C N bs bm hd sn sub ab col dd k0 k1 k2 k3 k5 "ValueError.__new__") /\ h.Ns N mN /\ mN "__init__"=none /\ OwnTail h bmV bm
theorem di {K:PySem.W.Frag} {h:Heap} {C:Addr} (X:K.In h) (q:PySem.W.excIn K C bmV "ValueError.__new__"=true):iw h C:=by
 unfold PySem.W.excIn at q
 split at q
 case h_2=>cases q
 case h_1 dd cd sl ho =>
  split at q
  case h_2=>cases q
  case h_1 C2 tail y0 y1 y2 y3 nn y5 em es =>
   simp only [Bool.and_eq_true,beq_iff_eq,Bool.not_eq_true'] at q
   obtain ⟨⟨⟨⟨⟨c1,c2⟩,c3⟩,c4⟩,c5⟩,c6⟩:=q
   subst c1 c2
   cases cd
   rename_i f1 f2 f3 f4 f5 f6 f7 f8 f9 f10 f11
   simp only at em c3 c5 c6
   subst em c3
   obtain rfl:sl=#[y0,y1,y2,y3,some (.builtin "ValueError.__new__"),y5]:=by
    cases sl
    simp only at es
    rw [es]
   refine ⟨tail,f4,f1,f5,f2,f6,f7,f8,f9,f10,dd,y0,y1,y2,y3,y5,h.nsMap f4,X _ _ ho,?_,?_,PySem.W.tail_of_in X c4⟩
   ·exact .of_isNs (PySem.W.isNs_of_in X c5)
   ·exact PySem.W.nsMap_none_of_in X c5 c6
structure gI (K:PySem.W.Frag) (mg:Str -> Option Value) (x:Str) (C:Addr):Prop where
 mgC:mg x=some (.ref C)
 ex:PySem.W.excIn K C bmV "ValueError.__new__"=true
def tRaise (C:Addr) (E:XK) (t:TA):TS:=fun _ σ H=>t σ H fun vs H1=>vs.length <= sizeLine /\ E (.ref C) none H1
def PassN (X:Cx) (E:XK):Prop:=∀ (pins:List (Addr × Obj)) (σ:St) (H:Hp) (s:Shared) (h':Heap) (e:Addr) (cls:Value) (vs:List Value),Inv X pins σ H s -> Heap.MadeExcOf s.heap h' e cls vs -> E cls none H -> X.xe (.ref e) { s with heap:=h' }
theorem jr {P:Program} {w:World} {K:PySem.W.Frag} {mg:Str -> Option Value} {base:Heap} {N:List Str} {qual:Str} {scope:Scope} {f:Addr} {cd:Value} {A:Around} {outer:List Env} {s:Shared} {H:Hp} {E:XK} :
  PassN (dm (CXR P w base) P w K mg base N qual scope f cd A outer s H E) E:=fun _ _ _ _ _ _ _ _ I hx hE=>newR I hx hE
theorem dD {X:Cx} {x:Str} {C:Addr} {E:XK} {e:Expr} {es:List Expr} {t:TA} {np cpos pos:Pos} (hN:PassN X E) (hc:X.calm=true) (T:gI X.K X.mg x C) (hg:Gl X x) (ha:PA X (e :: es) t)
  (he:starEach (e :: es) X.env=(false,eval e X.env) :: starEach es X.env:=by rfl) (hpl:(backTo cpos (starEach es X.env)).any (·.1)=false:=by rfl) (hd:(x == ("__debug__":Str))=false:=by decide) :
  PS X (.Raise (some (.Call (.Name x np) (e :: es) [] cpos)) none pos) (tRaise C E t):=by
 intro pins s σ H D I h
 obtain ⟨tl,Nn,nm,qn,bs,hdct,sn,sub,ab,col,dd,k0,k1,k2,k3,k5,mN,hC,hNs,hni,TL⟩:=di I.ok.mod.kin T.ex
 refine wpAny_Raise_call_subT (C:=C) (nm:=nm) (q:=qn) (N:=Nn) (bs:=bs) (bm:=tl) (hdct:=hdct) (sn:=sn) (sub:=sub) (ab:=ab) (col:=col) (dd:=dd) (k0:=k0) (k1:=k1) (k2:=k2) (k3:=k3) (k5:=k5)
  PySem.F.excBase_ValueError (mN:=mN) (TL.hasType PySem.F.excBase_ValueError.hasBase) (I.ok.hd hc) (by rw [he]; show (false || _)=false; rw [Bool.false_or]; exact hpl) hni (eP I hg T.mgC ⟨rfl,?_⟩ hd)
 have h1:=ha cpos pins s σ H _ I h
 rw [he] at h1 ⊢
 refine Calls.evalArgs_plain (wpAny_mono h1 (fun us s2 h2=>?_) fun _ _ y=>y)
 obtain ⟨vs,H1,I1,r1,hl,hE⟩:=h2
 exact ⟨rfl,by rw [<- r1.length]; exact hl,I1.bk _ _ hC,hNs.keeps I1.bk,TL.keeps I1.bk,fun h' ea hm=>hN pins σ H1 s2 h' ea (.ref C) us I1 hm hE⟩
def cX (X:Cx) (pins:List (Addr × Obj)) (xe:Value -> Shared -> Prop):Cx:={ X with pn:=X.pn ++ pins,xe:=xe }
def cxH (X:Cx) (ea:Addr):Cx:={ X with A:=X.A.mark (some (.ref ea)),calm:=false,xe:=fun _ _=>False }
section
variable {X:Cx} {pins pins':List (Addr × Obj)} {xe:Value -> Shared -> Prop} {σ:St} {H:Hp} {s:Shared} {ea:Addr}
theorem okTry (ok:X.Ok):(cX X pins xe).Ok:=⟨ok.mod,ok.kind,ok.glob,ok.blt,ok.above,ok.inj,ok.has,ok.cab,ok.hd,ok.frames,ok.stk,ok.exf,ok.bs,ok.bsz,ok.noex,ok.exfs,ok.funs,ok.frf⟩
theorem okH (ok:X.Ok):(cxH X ea).Ok:=⟨ok.mod,ok.kind,ok.glob,ok.blt,ok.above,ok.inj,ok.has,ok.cab,(fun z=>nomatch z),ok.frames,ok.stk,ok.exf,ok.bs,ok.bsz,ok.noex,ok.exfs,ok.funs,ok.frf⟩
theorem Inv.toTry (I:Inv X pins σ H s):Inv (cX X pins xe) [] σ H s:=⟨okTry I.ok,I.os,I.bare,I.base,I.loc,I.cell,I.free,I.freeC,fun p hp=>I.pin p (by
 have hp:p ∈ (X.pn ++ pins) ++ []:=hp
 rwa [List.append_nil] at hp),I.hok,I.len⟩
theorem Inv.ofTry (ok:X.Ok) (I:Inv (cX X pins xe) pins' σ H s):Inv X pins σ H s:=⟨ok,I.os,I.bare,I.base,I.loc,I.cell,I.free,I.freeC,fun p hp=>I.pin p (List.mem_append_left _ (show p ∈ X.pn ++ pins from hp)),I.hok,I.len⟩
theorem Inv.toH (I:Inv X pins σ H s):Inv (cxH X ea) pins σ H s:=⟨okH I.ok,I.os,I.bare,I.base,I.loc,I.cell,I.free,I.freeC,I.pin,I.hok,I.len⟩
theorem Inv.ofH (ok:X.Ok) (I:Inv (cxH X ea) pins σ H s):Inv X pins σ H s:=⟨ok,I.os,I.bare,I.base,I.loc,I.cell,I.free,I.freeC,I.pin,I.hok,I.len⟩
theorem Inv.blank (I:Inv X pins σ H s):Inv X pins (List.replicate X.N.length none) H s:=by
 obtain ⟨m,hm,_⟩:=I.loc
 refine ⟨I.ok,I.os,I.bare,I.base,⟨m,hm,fun i x v _ h2=>?_⟩,I.cell,I.free,I.freeC,I.pin,I.hok,List.length_replicate ..⟩
 rw [List.getElem?_replicate] at h2
 split at h2 <;> cases h2
theorem SP.ofTry {D:eC} {f:Flow} (ok:X.Ok) (h:SP (cX X pins xe) [] D f s):SP X pins D f s:=by
 cases f with
 | next=>obtain ⟨σ',H',I,q⟩:=h; exact ⟨σ',H',I.ofTry ok,q⟩
 | brk=>obtain ⟨σ',H',I,q⟩:=h; exact ⟨σ',H',I.ofTry ok,q⟩
 | cont=>obtain ⟨σ',H',I,q⟩:=h; exact ⟨σ',H',I.ofTry ok,q⟩
 | ret u=>obtain ⟨v,σ',H',I,r,q⟩:=h; exact ⟨v,σ',H',I.ofTry ok,r,q⟩
theorem SP.ofH {D:eC} {f:Flow} (ok:X.Ok) (h:SP (cxH X ea) pins D f s):SP X pins D f s:=by
 cases f with
 | next=>obtain ⟨σ',H',I,q⟩:=h; exact ⟨σ',H',I.ofH ok,q⟩
 | brk=>obtain ⟨σ',H',I,q⟩:=h; exact ⟨σ',H',I.ofH ok,q⟩
 | cont=>obtain ⟨σ',H',I,q⟩:=h; exact ⟨σ',H',I.ofH ok,q⟩
 | ret u=>obtain ⟨v,σ',H',I,r,q⟩:=h; exact ⟨v,σ',H',I.ofH ok,r,q⟩
end
structure cb (P:Program) (w:World) (K:PySem.W.Frag) (mg:Str -> Option Value) (base:Heap) (k:Nat) (x:Str) (ps:List Str) (sp:Sp):Prop where
 ex:∃ f fd,bG P w K mg base (CXR P w base) k f fd ps sp /\ mg x=some (.ref f) /\ PySem.W.keepIn K (.ref f)=true /\ gz K fd ps []
theorem bv {X:Cx} {k:Nat} {x:Str} {ps:List Str} {sp:Sp} {E:XK} {e:Expr} {es:List Expr} {t:TA} {p pos:Pos} (F:cb X.prog X.w X.K X.mg X.base k x ps sp) (hr:bP k X.A) (hx:cw (CXR X.prog X.w X.base) X E) (ha:PA X (e :: es) t) (hg:Gl X x:=by rfl)
  (hdb:(x == ("__debug__":Str))=false:=by decide) (he:starEach (e :: es) X.env=(false,eval e X.env) :: starEach es X.env:=by rfl) (hpl:(backTo pos (starEach es X.env)).any (·.1)=false:=by rfl) :
  PE X (.Call (.Name x p) (e :: es) [] pos) (mP sp [] E t):=by
 obtain ⟨f,fd,G,m,kp,b⟩:=F.ex
 exact kH G hr hg m kp b .nil hx ha hdb he hpl
theorem j4 {X:Cx}:cw (CXR X.prog X.w X.base) X E0:=fun _ _ _ _ _ _ _ h=>by
 obtain ⟨_,_,_,_,_,_,_,_,_,_,_,_,_,_,z⟩:=h
 exact z.elim
section
variable {P:Program} {w:World} {K:PySem.W.Frag} {mg:Str -> Option Value} {base:Heap}
theorem Fun.okR {x qual:Str} {st:Stmt} {f:Addr} {fd:FuncData} {N ps:List Str} {k:Nat} {sp:Sp} (F:Fun K x qual st f fd) (S:aN N ps (ai st)) (len:∀ vs H Q E,sp vs H Q E -> vs.length=ps.length)
  (hbody:∀ (cdv:Value) (A:Around) (outer:List Env) (s:Shared) (H:Hp) (vs:List V) (Q:VK) (E:XK),bP k (A.deeper (envOfC qual (ai st) s.heap.objs.size f cdv)) -> sp vs H Q E ->
   ∃ t,PSs (dm (CXR P w base) P w K mg base N qual (ai st) f cdv A outer s H E) (aK st) t /\ t { nx:=fun _ H'=>Q .non H',rt:=Q } (eR N vs) H):bG P w K mg base (CXR P w base) (k + 1) f fd ps sp:=by
 obtain ⟨oc,od,kV,doc,pm,an,cdv,ct,osl,rfl,lk,hcd⟩:=F.ex
 exact fn_of lk hcd S len fun A outer s H vs Q E hr hsp=>hbody cdv A outer s H vs Q E hr hsp
end
section
variable {prog:Program} {w:World} {A:Around} {E:Value -> Shared -> Prop} {h:Heap} {g:Array GenState} {d:Drawn} {t:Nat} {os:OsState} {K:PySem.W.Frag} {x C:Addr} {ox:Obj}
theorem exc_get {R:Result -> Shared -> Prop} (X:K.In h) (hx:h.get? x=some ox) (hc:ox.cls=.ref C) (hm:PySem.W.mroIn K C (.type "object")=some true) (hq:R (.ok (.ret (.ref C))) ⟨h,g,d,t,os⟩) :
  codeAny (model prog w) A (.call (.builtin "getset_descriptor.__get__") ⟨[.builtin "object.__class__",.ref x,.ref C],[]⟩) R ⟨h,g,d,t,os⟩:=by
 have tG:(⟨h,g,d,t,os⟩:Shared).TypeIs (.builtin "object.__class__") "getset_descriptor":=F.typeOf_object_class
 have lM:=PySem.W.looks_mroIn (M:=model prog w) X hm
 have eO:(".".intercalate ("object.__class__".cutAt '.').dropLast)="object":=by
  have z:"object.__class__".cutAt '.'=["object","__class__"]:=by first | rfl | decide +kernel
  rw [z]
  decide +kernel
 refine codeAny_call_builtin F.slot_gs_get.plain F.entry_gs_get
  (F.slot_gs_get.check _ _ _ _ _ _ _ _ tG (F.args_gs_get _ _ _) ?_)
 rw [<- eO] at lM
 repeat (any_goals (first | assumption | (with_reducible refine wpAny_loadPart_at hx ?_; rw [hc]) | with_reducible refine lM.at ?_ | wp_step))
 refine ⟨Code.quiet_builtin _ (by decide +kernel),
  codeAny_builtin F.entry_object_class ?_⟩
 repeat (any_goals (first | assumption | (with_reducible refine wpAny_loadPart_at hx ?_; rw [hc]) | wp_step))
theorem lR {tk:Tok} {Q:Fin -> Shared -> Prop} (X:K.In h) (hx:h.get? x=some ox) (hc:ox.cls=.ref C) (f3:PySem.W.findIn K (.ref C) "__class__"=some (some (.builtin "object.__class__"))) (hm:PySem.W.mroIn K C (.type "object")=some true) (hq:Q (.done (.ret (.ref C))) ⟨h,g,d,t,os⟩) :
  wpAny (model prog w) A (Builtin.«object.__getattribute__» ⟨[.ref x,.str "__class__" tk],[]⟩) Q E ⟨h,g,d,t,os⟩:=by
 have L3:=PySem.W.looks_findIn (M:=model prog w) X f3
 have hT5:(⟨h,g,d,t,os⟩:Shared).TypeIs (.builtin "object.__class__") "getset_descriptor":=F.typeOf_object_class
 have f5:=F.typeOf_object_class
 have f6:=F.slot_gs_get.lookup
 have f7:=F.slot_gs_set.lookup
 repeat (any_goals (first | assumption | (with_reducible refine wpAny_loadPart_at hx ?_; rw [hc]) | with_reducible refine L3.at ?_ | wp_step))
 refine exc_get X hx hc hm ?_
 repeat (any_goals (first | assumption | wp_step))
theorem lT {M:Model} {nameV:Value} {Q:Unit -> Shared -> Prop} (EA:iw h C) (hx:h.get? x=some ox) (hc:ox.cls=.ref C) (hq:Q () ⟨h,g,d,t,os⟩):wpAny M A (checkBuiltinCall "BaseException.__getattribute__" ⟨[.ref x,nameV],[]⟩) Q E ⟨h,g,d,t,os⟩:=by
 obtain ⟨tl,Nn,nm,qn,bs,hdct,sn,sub,ab,col,dd,k0,k1,k2,k3,k5,mN,hC,hNs,hni,TL⟩:=EA
 have e1:builtinKind "BaseException.__getattribute__"=some .slot:=by decide +kernel
 have e2:splitId "BaseException.__getattribute__"=some ("BaseException","__getattribute__"):=by decide +kernel
 have e3:(Value.ref C :: tl).contains (.type "BaseException")=true:=by
  rw [List.contains_cons,TL.hasType PySem.F.excBase_ValueError.hasBase]
  rfl
 have e4:=F.args_bexc_ga (.ref x) nameV
 simp only [checkBuiltinCall,e1,e2]
 refine wpAny_bind ?_
 unfold isInstance
 repeat (first | (with_reducible refine wpAny_loadPart_at hx ?_; rw [hc]) | (with_reducible refine wpAny_isSubtype_exc hC ?_; rw [e3]) | wp_step)
 exact hq
theorem nw {tk:Tok} {R:Result -> Shared -> Prop} (EA:iw h C) (X:K.In h) (hx:h.get? x=some ox) (hc:ox.cls=.ref C) (f3:PySem.W.findIn K (.ref C) "__class__"=some (some (.builtin "object.__class__"))) (hm:PySem.W.mroIn K C (.type "object")=some true) (hq:R (.ok (.ret (.ref C))) ⟨h,g,d,t,os⟩) :
  codeAny (model prog w) A (.call (.builtin "BaseException.__getattribute__") ⟨[.ref x,.str "__class__" tk],[]⟩) R ⟨h,g,d,t,os⟩ :=
 codeAny_call_builtin PySem.F.attrBase_ValueError.ga.plain F.entry_bexc_ga (lT EA hx hc (lR X hx hc f3 hm hq))
theorem exc_by {tk:Tok} {fill expr:Bool} {Q:Value -> Shared -> Prop} (EA:iw h C) (X:K.In h) (hx:h.get? x=some ox) (hc:ox.cls=.ref C) (f1:PySem.W.findIn K (.ref C) "__getattribute__"=some (some (.builtin "BaseException.__getattribute__"))) (f2:PySem.W.findIn K (.ref C) "__getattr__"=some none)
  (f3:PySem.W.findIn K (.ref C) "__class__"=some (some (.builtin "object.__class__"))) (hm:PySem.W.mroIn K C (.type "object")=some true) (hq:Q (.ref C) ⟨h,g,d,t,os⟩) :
  wpAny (model prog w) A (getAttrBy (.ref x) (.str "__class__" tk) fill expr) Q E ⟨h,g,d,t,os⟩:=by
 have L1:=PySem.W.looks_findIn (M:=model prog w) X f1
 have L2:=PySem.W.looks_findIn (M:=model prog w) X f2
 have b3:=PySem.F.attrBase_ValueError.ga.bind (.ref x)
 have y0:(expr && onTheHeap (Value.builtin "BaseException.__getattribute__"))=false:=by cases expr <;> rfl
 have y2:(Value.builtin "BaseException.__getattribute__" == Value.builtin "object.__getattribute__")=false:=by decide +kernel
 have y1:(onTheHeap (Value.ref C) && Value.builtin "BaseException.__getattribute__" == Value.builtin "object.__getattribute__")=false:=by rw [y2]; rfl
 repeat (any_goals (first | assumption | (with_reducible refine wpAny_loadPart_at hx ?_; rw [hc]) | with_reducible refine L1.at ?_ | with_reducible refine L2.at ?_ | wp_step))
 refine nw EA X hx hc f3 hm ?_
 repeat (any_goals (first | assumption | wp_step))
theorem ny {Q:Option Value -> Shared -> Prop} (EA:iw h C) (X:K.In h) (hx:h.get? x=some ox) (hc:ox.cls=.ref C) (f1:PySem.W.findIn K (.ref C) "__getattribute__"=some (some (.builtin "BaseException.__getattribute__"))) (f2:PySem.W.findIn K (.ref C) "__getattr__"=some none)
  (f3:PySem.W.findIn K (.ref C) "__class__"=some (some (.builtin "object.__class__"))) (hm:PySem.W.mroIn K C (.type "object")=some true) (hq:Q (some (.ref C)) ⟨h,g,d,t + 1,os⟩) :
  wpAny (model prog w) A (getAttr? (.ref x) "__class__") Q E ⟨h,g,d,t,os⟩:=by
 unfold getAttr? getAttrBy?
 refine wpAny_bind (wpAny_mkText (wpAny_bind (wpAny_attempt (exc_by EA X hx hc f1 f2 f3 hm ?_))))
 exact wpAny_pure hq
end
def nz (x C:Addr) (h:Heap):Prop:=∃ ox,h.get? x=some ox /\ ox.cls=.ref C
structure lU (K:PySem.W.Frag) (C:Addr):Prop where
 ex:PySem.W.excIn K C bmV "ValueError.__new__"=true
 f1:PySem.W.findIn K (.ref C) "__getattribute__"=some (some (.builtin "BaseException.__getattribute__"))
 f2:PySem.W.findIn K (.ref C) "__getattr__"=some none
 f3:PySem.W.findIn K (.ref C) "__class__"=some (some (.builtin "object.__class__"))
 hm:PySem.W.mroIn K C (.type "object")=some true
theorem js {K:PySem.W.Frag} {x C:Addr} (T:lU K C):PySem.W.KitX K (.ref x) (.ref C) (nz x C) where
 ty:=fun _ _ _ hI=>by
  obtain ⟨ox,hx,hc⟩:=hI
  exact hc ▸ (PySem.W.Looks.ld hx).andThen .now
 it:=fun _ h X _=>by
  obtain ⟨tl,Nn,nm,qn,bs,hdct,sn,sub,ab,col,dd,k0,k1,k2,k3,k5,mN,hC,_⟩:=di X T.ex
  intro A' Q' E' s' k q
  unfold isType loadHead
  exact wpAny_bind (wpAny_loadPart (k _ _ hC) (wpAny_pure q))
 ne:=fun h tp dd its n sl X htp=>by
  obtain ⟨tl,Nn,nm,qn,bs,hdct,sn,sub,ab,col,dd',k0,k1,k2,k3,k5,mN,hC,_⟩:=di X T.ex
  refine Bool.eq_false_iff.mpr fun q=>?_
  have e:C=tp:=Value.ref.inj (beq_iff_eq.mp q)
  subst e
  rw [htp] at hC
  have e:=congrArg (fun o:Obj=>o.data) (Option.some.inj hC)
  cases e
 ca:=fun {prog w A E Q s} X hI k=>by
  obtain ⟨ox,hx,hc⟩:=hI
  obtain ⟨h,g,d,t,os⟩:=s
  exact ny (di X T.ex) X hx hc T.f1 T.f2 T.f3 T.hm k
def xcO (x C:Addr):HO:=.ext (nz x C)
theorem nA {X:Cx}:cj X (.builtin "isinstance") (fun xs H Q=>∃ (x C D:Addr) (b:Bool),xs=[.ref x,.ref D] /\ H x=some (xcO x C) /\ lU X.K C /\ PySem.W.kitOne X.K (.ref C) (.ref D)=some b /\ Q (.bl b) H):=by
 intro pins s σ H xs us Q I rv h
 obtain ⟨x,C,D,b,rfl,hx,T,e,q⟩:=h
 obtain ⟨u,u2,rfl,r1,r2⟩:=gy rv
 cases r1
 cases r2
 obtain ⟨hO,_⟩:=(show bX X.prog X.w H s.heap x (.ext (nz x C)) from I.hok x _ hx)
 exact PySem.W.kia_one (js T) I.kIn hO e (fun z=>nomatch z) fun tk=>⟨.bl b,H,I.tok tk,rfl,q⟩
theorem lV {X:Cx}:cj X (.builtin "isinstance") (fun xs H Q=>∃ (x C:Addr) (c:String) (b:Bool),xs=[.ref x,.ty c] /\ H x=some (xcO x C) /\ lU X.K C /\ PySem.W.kitOne X.K (.ref C) (.type c)=some b /\ Q (.bl b) H):=by
 intro pins s σ H xs us Q I rv h
 obtain ⟨x,C,c,b,rfl,hx,T,e,q⟩:=h
 obtain ⟨u,u2,rfl,r1,r2⟩:=gy rv
 cases r1
 cases r2
 obtain ⟨hO,_⟩:=(show bX X.prog X.w H s.heap x (.ext (nz x C)) from I.hok x _ hx)
 exact PySem.W.kia_one (js T) I.kIn hO e (fun z=>nomatch z) fun tk=>⟨.bl b,H,I.tok tk,rfl,q⟩
section
end
theorem fR {M:Model} {A:Around} {E:Value -> Shared -> Prop} {h:Heap} {g:Array GenState} {d:Drawn} {t:Nat} {os:OsState} {K:PySem.W.Frag} {x C D:Addr} {ox:Obj} {Q:Bool -> Shared -> Prop} (X:K.In h) (ED:iw h D) (hs:PySem.W.mroIn K C (.ref D)=some true)
  (hx:h.get? x=some ox) (hc:ox.cls=.ref C) (hq:Q true ⟨h,g,d,t,os⟩):wpAny M A (excMatches (.ref x) (.ref D)) Q E ⟨h,g,d,t,os⟩:=by
 obtain ⟨tl,Nn,nm,qn,bs,hdct,sn,sub,ab,col,dd,k0,k1,k2,k3,k5,mN,hD,_,_,TL⟩:=ED
 have e1:(Value.ref D :: tl).contains (.type "BaseException")=true:=by
  rw [List.contains_cons,TL.hasType PySem.F.excBase_ValueError.hasBase,Bool.or_true]
 have lS:=PySem.W.looks_mroIn (M:=M) X hs
 have z:=tc_notTuple
 unfold excMatches
 repeat (first | (with_reducible refine wpAny_loadPart_at hx ?_; rw [hc]) | with_reducible refine wpAny_loadPart_at hD ?_ | (with_reducible refine wpAny_isSubtype_exc hD ?_; rw [e1]) | with_reducible refine lS.at ?_ | wp_step)
 exact hq
theorem gc {X:Cx} {pins:List (Addr × Obj)} {σ:St} {H:Hp} {s:Shared} {M:Model} {A:Around} {E:Value -> Shared -> Prop} {i:Nat} {n:Str} {pos:Pos} {Q:Unit -> Shared -> Prop} (I:Inv X pins σ H s) (hN:X.N.Nodup) (hi:X.N[i]?=some n) (hk:X.env.scope.names.lookup n=some .local)
  (h:∀ s',Inv X pins (σ.set i none) H s' -> Q () s'):wpAny M A (do bindName X.env n .none; unbindBehindTheSuite X.env n pos) Q E s:=by
 obtain ⟨m,hn,hl⟩:=id I.loc
 have hcls:(X.env.scope.kind == .class || (X.env.scope.kind == .module && X.env.locals != X.env.globals))=false:=by
  rw [I.ok.kind]
  rfl
 have hiσ:i < σ.length:=by
  rw [I.len]
  exact (List.getElem?_eq_some_iff.mp hi).1
 have cne:=I.cne
 refine wpAny_nameGoes_keeps hk hn hcls fun h' v hn' hs=>?_
 obtain ⟨oL,_,_,hoL,_⟩:=id hn
 have far:∀ b o,X.s₀.heap.get? b=some o -> h'.get? b=s.heap.get? b:=fun b o e=>hs.2 b (Nat.ne_of_lt (Nat.lt_of_lt_of_le (Heap.lt_size e) I.ok.above))
 refine h _ ⟨I.ok,I.os,I.bare,⟨fun b o e n hb hx=>?_,fun b o e n hb hx=>?_,I.base.free,fun b o e hx=>?_,I.base.tups,I.base.frzs,I.base.tbls⟩,⟨_,hn',fun j y v' e1 e2 e3=>?_⟩,fun y c e=>?_,I.free,I.freeC,fun p hp=>?_,fun b ob e=>?_,by simpa using I.len⟩
 ·exact (far b o e).trans (I.base.keep b o e n hb hx)
 ·obtain ⟨sl,e1⟩:=I.base.slot b o e n hb hx
  exact ⟨sl,(far b o e).trans e1⟩
 ·obtain ⟨o',e1⟩:=I.base.there b o e hx
  exact ⟨o',(far b o e).trans e1⟩
 ·by_cases hj:j=i
  ·subst hj
   rw [List.getElem?_set_self hiσ] at e2
   cases e2
  ·rw [List.getElem?_set_ne (Ne.symm hj)] at e2
   obtain ⟨u',r',q⟩:=hl j y v' e1 e2 e3
   refine ⟨u',r',?_⟩
   rcases q with ⟨k,e⟩ | ⟨k,c,e,z⟩
   ·refine .inl ⟨k,?_⟩
    have:y ≠ n:=fun e=>hj (cB hN e1 (e ▸ hi))
    simp [this,e]
   ·exact .inr ⟨k,c,e,z.sameBut hs (cne y c e)⟩
 ·obtain ⟨w',z⟩:=I.cell y c e
  exact ⟨w',z.sameBut hs (cne y c e)⟩
 ·obtain ⟨e,n,ne,nf,dd⟩:=I.pin p hp
  exact ⟨(hs.2 p.1 ne).trans e,n,ne,nf,dd⟩
 ·refine (I.hok b ob e).stay (fun c w' hc q=>(hs.2 c ?_).trans q) (fun _ q=>q) fun _ _ q=>q
  rintro rfl
  have hfree:=I.free
  rcases hc with rfl | hc
  ·rw [hfree] at e; cases e
  ·rw [hfree] at hc; cases hc
def eC.gone (D:eC) (i:Nat):eC:=⟨fun σ H=>D.nx (σ.set i none) H,D.rt,fun σ H=>D.bk (σ.set i none) H,fun σ H=>D.ct (σ.set i none) H⟩
theorem Inv.known {X:Cx} {pins:List (Addr × Obj)} {σ:St} {H:Hp} {s:Shared} {ea C:Addr} {oe:Obj} (I:Inv X pins σ H s) (hn:H ea=none) (ho:s.heap.get? ea=some oe) (hc:oe.cls=.ref C) (hnew:X.s₀.heap.get? ea=none) (hL:ea ≠ X.env.locals) (hcl:∀ x c,X.env.cells.lookup x=some c -> c ≠ ea) (hp:∀ p ∈ X.pn ++ pins,p.1 ≠ ea):Inv X pins σ (upd H ea (xcO ea C)) s:=by
 have hob:bX X.prog X.w (upd H ea (xcO ea C)) s.heap ea (.ext (nz ea C)):=⟨⟨oe,ho,hc⟩,⟨oe,ho⟩,fun h1 h2 hφ k=>by
  obtain ⟨ox,e1,e2⟩:=hφ
  exact ⟨ox,k _ e1,e2⟩⟩
 refine ⟨I.ok,I.os,I.bare,⟨I.base.keep,I.base.slot,fun b o e n hx=>?_,I.base.there,fun b xs e=>?_,fun b o u e=>?_,fun b ps e=>?_⟩,I.loc,I.cell,?_,fun x c e=>?_,fun p hp'=>?_,fun b u e=>?_,I.len⟩
 ·have hb:b ≠ ea:=fun z=>by rw [z,hnew] at e; cases e
  rw [aD hb]
  exact I.base.free b o e n hx
 ·rw [aD (aA (I.base.tups b xs e) hn)]
  exact I.base.tups b xs e
 ·rw [aD (aA (I.base.frzs b o u e) hn)]
  exact I.base.frzs b o u e
 ·obtain ⟨m,e1⟩:=I.base.tbls b ps e
  exact ⟨m,by rw [aD (aA e1 hn)]; exact e1⟩
 ·rw [aD (Ne.symm hL)]
  exact I.free
 ·rw [aD (hcl x c e)]
  exact I.freeC x c e
 ·obtain ⟨e,n,r⟩:=I.pin p hp'
  exact ⟨e,by rw [aD (hp p hp')]; exact n,r⟩
 ·by_cases hb:b=ea
  ·subst hb
   rw [au] at e
   cases e
   exact hob
  ·rw [aD hb] at e
   exact (I.hok b u e).stay (fun c v _ q=>q) (fun c q=>by rw [aD (aA q hn)]; exact q) fun c xs q=>by rw [aD (aA q hn)]; exact q
def tTryAs (K:PySem.W.Frag) (m i:Nat) (CE:Addr) (tb:XK -> TS) (th:TS):TS:=fun D σ H=>tb (fun cls _ H'=>∃ C,cls=.ref C /\ PySem.W.mroIn K C (.ref CE)=some true /\ ∀ ea,H' ea=none -> th (D.gone i) ((List.replicate m none).set i (some (.ref ea))) (upd H' ea (xcO ea C))) D σ H
theorem SP.ungone {X:Cx} {pins:List (Addr × Obj)} {D:eC} {f:Flow} {s:Shared} {M:Model} {A:Around} {E:Value -> Shared -> Prop} {i:Nat} {n:Str} {pos:Pos} (hN:X.N.Nodup) (hi:X.N[i]?=some n) (hk:X.env.scope.names.lookup n=some .local) (h:SP X pins (D.gone i) f s) :
  wpAny M A (do bindName X.env n .none; unbindBehindTheSuite X.env n pos) (fun _ s'=>SP X pins D f s') E s:=by
 cases f with
 | next=>obtain ⟨σ',H',I,q⟩:=h; exact gc I hN hi hk fun s' I'=>⟨_,H',I',q⟩
 | brk=>obtain ⟨σ',H',I,q⟩:=h; exact gc I hN hi hk fun s' I'=>⟨_,H',I',q⟩
 | cont=>obtain ⟨σ',H',I,q⟩:=h; exact gc I hN hi hk fun s' I'=>⟨_,H',I',q⟩
 | ret u=>obtain ⟨v,σ',H',I,r,q⟩:=h; exact gc I hN hi hk fun s' I'=>⟨v,_,H',I',r,q⟩
theorem nB {X:Cx} {x n:Str} {CE:Addr} {i:Nat} {body:List Stmt} {b₀:Stmt} {suite:List Stmt} {np hpos pos:Pos} {tb:XK -> TS} {th:TS} (hst:X.stack=X.env :: X.outer) (hfr:X.env.frame=some X.env.locals) (hex:X.ex=[]) (T:gI X.K X.mg x CE) (hg:Gl X x)
  (hN:X.N.Nodup) (hi:X.N[i]?=some n) (hk:X.env.scope.names.lookup n=some .local)
  (hb:∀ (pins:List (Addr × Obj)) (xe:Value -> Shared -> Prop) (E:XK),cw (CXR X.prog X.w X.base) (cX X pins xe) E -> PSs (cX X pins xe) body (tb E))
  (hh:∀ ea,PSs (cxH X ea) (b₀ :: suite) th) (hd:(x == ("__debug__":Str))=false:=by decide) :
  PS X (.Try body [.ExceptHandler (some (.Name x np)) (some n) (b₀ :: suite) hpos] [] [] pos) (tTryAs X.K X.N.length i CE tb th):=by
 intro pins s σ H D I h
 refine wpAny_Try_except ?_
 have hp:cw (CXR X.prog X.w X.base) (cX X pins fun e s₁=>wpAny (model X.prog X.w) X.A (noteFrame e X.env) (fun _ s₂=>wpAny (model X.prog X.w) X.A (setFlight e none) (fun _ s₃=>wpAny (model X.prog X.w) X.A (handleBy e X.env [.ExceptHandler (some (.Name x np)) (some n) (b₀ :: suite) hpos]) (SP X pins D) X.xe s₃) X.xe s₂) X.xe s₁)
   (fun cls _ H'=>∃ C,cls=.ref C /\ PySem.W.mroIn X.K C (.ref CE)=some true /\ ∀ ea,H' ea=none -> th (D.gone i) ((List.replicate X.N.length none).set i (some (.ref ea))) (upd H' ea (xcO ea C))):=by
  intro pins' σ' H1 s1 e s' I1 hx
  obtain ⟨ea,cls,a0,H2,B,rfl,os,bare,un,hok,hea,hbb,fly,cov,C,rfl,hsub,hth⟩:=hx
  have nf:=eX I1 un
  have fd:=dh fly
  have fly0:Heap.FlyingW B (X.env :: X.outer) ea (.ref C) a0 s'.heap:=by rw [<- hst]; exact fly
  have hfs:X.A.frames=some (X.env :: X.outer):=by rw [<- hst]; exact I.ok.frames
  have nfr:ea ∉ frs X.stack:=fun z=>by
   obtain ⟨_,_,_,oe,vs,_,_,_,he,_,hd',_⟩:=fly
   exact fd ea z oe he vs hd'
  have fresh:s1.heap.get? ea=none:=by
   cases hq:s1.heap.get? ea with
   | none=>rfl
   | some o =>
    obtain ⟨u,hu⟩:=un.there ea o hq (by simp)
    have:=cov ea u hu (.inl ⟨o,hq⟩) nfr
    rw [fly.2.1] at this
    cases this
  refine wpAny_looks_onW hfs hfr fly0 fun h4 held4 up4=>?_
  refine wpAny_landsW held4 fun h5 fly5 up5=>?_
  obtain ⟨un5,hok5,cov5⟩:=fQ un hok cov fly5.1 (up4.trans up5) nf fd
  have I5:Inv X pins σ' H2 { s' with heap:=h5 }:=(I1.call' (s':={ s' with heap:=h5 }) os un5 hok5 bare (fun b z=>absurd z (by simp))).ofTry I.ok
  obtain ⟨oe,hoe,hoc⟩:=fly5.there
  refine wpAny_handleBy_cons (codeAny_handlers_test (eP (X:=cxH X ea) I5.toH hg T.mgC ?_ hd)) (by intro q; cases q)
  refine fR I5.kIn (di I5.kIn T.ex) hsub hoe hoc (codeAny_handlers_suite_as ?_)
  refine lands_againW fly5 fun h6 fly6 up6=>?_
  have fd5:=dh fly5
  rw [<- hst] at fd5
  obtain ⟨un6,hok6,cov6⟩:=fQ un5 hok5 cov5 fly6.1 up6 nf fd5
  have I6:Inv X pins σ' H2 { s' with heap:=h6 }:=(I1.call' (s':={ s' with heap:=h6 }) os un6 hok6 bare (fun b z=>absurd z (by simp))).ofTry I.ok
  obtain ⟨oe6,hoe6,hoc6⟩:=fly6.there
  have I7:Inv X pins (List.replicate X.N.length none) (upd H2 ea (xcO ea C)) { s' with heap:=h6 }:=by
   refine I6.blank.known hea hoe6 hoc6 ?_ ?_ ?_ ?_
   ·cases hq:X.s₀.heap.get? ea with
    | none=>rfl
    | some o =>
     obtain ⟨o',ho'⟩:=I1.base.there ea o hq (show ea ∉ X.ex by rw [hex]; simp)
     rw [fresh] at ho'
     cases ho'
   ·intro z
    refine nfr ?_
    rw [hst,z]
    exact List.mem_filterMap.mpr ⟨X.env,List.mem_cons_self ..,hfr⟩
   ·intro y c hc z
    obtain ⟨v,⟨o,ho,_⟩⟩:=I1.cell y c hc
    rw [z,fresh] at ho
    cases ho
   ·intro p hp' z
    obtain ⟨e,_⟩:=I1.pin p (List.mem_append_left _ hp')
    rw [z,fresh] at e
    cases e
  refine gt (X:=cxH X ea) (I7.toH (ea:=ea)) hN hi (Or.inl hk) (v:=.ref ea) rfl (fun s8 I8=>?_) (Or.inr hk)
  refine wpAny_mono (hh ea pins _ _ _ (D.gone i) I8 (hth ea hea)) (fun f s9 q=>?_) (fun _ _ z=>z.elim)
  exact (q.ofH I.ok).ungone hN hi hk
 refine wpAny_mono (hb pins _ _ hp [] s σ H D I.toTry h) (fun f s1 q=>?_) fun _ _ z=>z
 have q2:=q.ofTry I.ok
 cases f with
 | next=>exact wpAny_execs_nil q2
 | ret u=>exact q2
 | brk=>exact q2
 | cont=>exact q2
section
variable {X:Cx}
end
section
variable {X:Cx}
structure PAW (X:Cx) (es:List Expr) (t:TA):Prop where
 h:PA X es t
theorem kO:PAW X [] tNil:=⟨af⟩
theorem cc {e:Expr} {es:List Expr} {te:TE} {t:TA} (he:PE X e te) (ha:PAW X es t) (hs:starEach (e :: es) X.env=(false,eval e X.env) :: starEach es X.env:=by rfl):PAW X (e :: es) (tCons te t):=⟨aa he ha.h hs⟩
end
section
variable {P:Program} {w:World} {K:PySem.W.Frag} {mg:Str -> Option Value} {base:Heap}
end
section
variable {X:Cx} {k:Nat} {C:Addr} {m x:Str} {ps:List Str} {sp:Sp} {o e:Expr} {es:List Expr} {ta:TE} {t:TA} {p pos apos:Pos} {E:XK}
def tupO (arr:Array Value) (ys:List V):HO:=.frz { cls:=.type "tuple",data:=.seq arr } (.tup ys)
theorem gJ:MtR X "list.extend" (fun x vs H Q=>∃ (l b:Addr) (xs zs:List V),x=.ref l /\ vs=[.ref b] /\ H l=some (.lst xs) /\ (H b=some (.lst zs) \/ ∃ arr,H b=some (tupO arr zs)) /\ xs.length + zs.length <= 1000000 /\
  ∀ H1,(∀ b o,b ≠ l -> H b=some o -> H1 b=some o) -> H1 l=some (.lst (xs ++ zs)) -> Q .non H1):=by
 intro pins s σ H x vs v us Q I rx rv h
 obtain ⟨l,b,xs,zs,rfl,rfl,hH,hB,hz,q⟩:=h
 have hs16:sizeLine=16777216:=sizeLine_eq
 have q':=q (upd H l (.lst (xs ++ zs))) (fun b o hb e=>by rw [aD hb]; exact e) au
 rcases hB with hB | ⟨arr,hB⟩
 ·exact lI pins s σ H _ _ v us Q I rx rv ⟨l,b,xs,zs,rfl,rfl,hH,hB,by omega,q'⟩
 ·cases rx
  obtain ⟨u,rfl,ru⟩:=rv.one
  cases ru
  obtain ⟨z,its,n,r,hl,e⟩:=I.lstM hH
  obtain ⟨e2,hz2,its2,r2,o2,eo,_,n2,ed⟩:=(show bX X.prog X.w H s.heap b (.frz { cls:=.type "tuple",data:=.seq arr } (.tup zs)) from I.hok b _ hB)
  rw [e2] at eo
  cases eo
  have ed:Data.seq arr 0=Data.seq its2.toArray n2:=ed
  cases ed
  have hl2:=r2.length
  have hsz:its.toArray.size + its2.toArray.size <= sizeLine:=by rw [List.size_toArray,List.size_toArray]; omega
  have hlong:¬ (!its.toArray.isEmpty && Builtin.List.listTooLong (its.toArray.size + its2.toArray.size))=true:=by
   rw [gB hsz,Bool.and_false]
   exact Bool.false_ne_true
  refine call_meets F.slot_list_extend ⟨_,e,rfl⟩ F.entry_list_extend (F.args_list_extend_2 _ _)
   (AutoSeq1.list_extend_list_tuple_0 l its.toArray n b its2.toArray 0 hlong (by rw [List.size_toArray]; omega) (by omega)) ⟨e,e2,?_⟩
  refine ⟨.non,_,I.lset (its':=its ++ its2) hH e (by simp) (r.append r2) ?_,rfl,q'⟩
  rw [List.length_append]
  omega
end
section
variable {X:Cx}
end
end L2
namespace L2.ST
open PySem PySem.Spec PyProof.Rows
section
variable {prog:Program} {w:World} {A:Around} {E:Value -> Shared -> Prop} {s:Shared}
end
end L2.ST
namespace L2
open PySem PySem.Spec PyProof.Rows
section
variable {X:Cx}
end
mutual
inductive Rds (H:Hp):V -> PyData -> Prop
 | non:Rds H .non .none
 | bl (b:Bool):Rds H (.bl b) (.bool b)
 | int (i:Int):Rds H (.int i) (.int i)
 | str (x:Str):Rds H (.str x) (.str x)
 | tup {a:Addr} {xs:List V} {ds:List PyData}:H a=some (.tup xs) -> RdsAll H xs ds -> Rds H (.ref a) (.tuple ds)
 | lst {a:Addr} {xs:List V} {ds:List PyData}:H a=some (.lst xs) -> RdsAll H xs ds -> Rds H (.ref a) (.list ds)
inductive RdsAll (H:Hp):List V -> List PyData -> Prop
 | nil:RdsAll H [] []
 | cons {x:V} {xs:List V} {d:PyData} {ds:List PyData}:Rds H x d -> RdsAll H xs ds -> RdsAll H (x :: xs) (d :: ds)
end
mutual
theorem Rds.same {H H':Hp} (e:ar H H'):∀ {x:V} {d:PyData},Rds H x d -> Rds H' x d
 | _,_,.non=>.non
 | _,_,.bl b=>.bl b
 | _,_,.int i=>.int i
 | _,_,.str x=>.str x
 | _,_,.tup h r=>.tup (e _ _ h) (r.same e)
 | _,_,.lst h r=>.lst (e _ _ h) (r.same e)
theorem RdsAll.same {H H':Hp} (e:ar H H'):∀ {xs:List V} {ds:List PyData},RdsAll H xs ds -> RdsAll H' xs ds
 | _,_,.nil=>.nil
 | _,_,.cons r t=>.cons (r.same e) (t.same e)
end
section
variable {X:Cx}
end
section
variable {X:Cx}
end
end L2
namespace L2.ZS
open PySem PySem.Spec PyProof.Rows
section
variable {prog:Program} {w:World} {A:Around} {E:Value -> Shared -> Prop} {s:Shared}
section
variable {z TI TO p r b:Addr} {zs:Str} {t:Tok} {vs:Array Value} {o1 o2:Value} {m n:Nat}
end
end
end L2.ZS
namespace L2
open PySem PySem.Spec PyProof.Rows
section
variable {X:Cx}
end
section
variable {X:Cx}
def Alk (K:PySem.W.Frag):Nat -> Hp -> V -> V -> Prop
 | 0,_,v,w=>smV v=true /\ w=v
 | n + 1,H,v,w=>(smV v=true /\ w=v) \/ ∃ (a b:Addr) (xs ys:List V),v=.ref a /\ w=.ref b /\ SqT K H a xs /\ SqT K H b ys /\ xs.length=ys.length /\ ∀ (i:Nat) (x y:V),xs[i]?=some x -> ys[i]?=some y -> Alk K n H x y
theorem Alk.sm {K:PySem.W.Frag} {n:Nat} {H:Hp} {v:V} (h:smV v=true):Alk K n H v v:=by
 cases n with
 | zero=>exact ⟨h,rfl⟩
 | succ n=>exact .inl ⟨h,rfl⟩
theorem j5 {its jts:List Value} {xs ys:List V} {A:Around} {s:Shared} (r1:aZ xs its) (r2:aZ ys jts) (hl:xs.length=ys.length) (h:∀ (i:Nat) (x y:V) (u1 u2:Value),xs[i]?=some x -> ys[i]?=some y -> bu x u1 -> bu y u2 -> SeqAt.EqAt A s u1 u2 true) (j:Nat) (h1:j < its.toArray.size) (h2:j < jts.toArray.size):SeqAt.EqAt A s its.toArray[j] jts.toArray[j] true:=by
 have e1:=r1.length
 have e2:=r2.length
 have hj1:j < its.length:=by simpa using h1
 have hj2:j < jts.length:=by simpa using h2
 obtain ⟨u1,hu1,ru1⟩:=r1.get (i:=j) (x:=xs[j]'(by omega)) (List.getElem?_eq_getElem _)
 obtain ⟨u2,hu2,ru2⟩:=r2.get (i:=j) (x:=ys[j]'(by omega)) (List.getElem?_eq_getElem _)
 have i1:its.toArray[j]=u1:=by
  have:=List.getElem?_eq_getElem hj1
  rw [hu1] at this
  simpa using (Option.some.inj this).symm
 have i2:jts.toArray[j]=u2:=by
  have:=List.getElem?_eq_getElem hj2
  rw [hu2] at this
  simpa using (Option.some.inj this).symm
 rw [i1,i2]
 exact h j _ _ _ _ (List.getElem?_eq_getElem (by omega)) (List.getElem?_eq_getElem (by omega)) ru1 ru2
theorem j6 {pins:List (Addr × Obj)} {σ:St} {H:Hp} {s:Shared} (I:Inv X pins σ H s):∀ (n:Nat) (A:Around) (x y:V) (u1 u2:Value),A.units + n < cLine -> Alk X.K n H x y -> bu x u1 -> bu y u2 -> SeqAt.EqAt A s u1 u2 true
 | 0,A,x,y,u1,u2,hu,h,r1,r2=>by
  obtain ⟨h1,rfl⟩:=h
  exact nj h1 r1 r2
 | n + 1,A,x,y,u1,u2,hu,h,r1,r2=>by
  rcases h with ⟨h1,rfl⟩ | ⟨a,b,xs,ys,rfl,rfl,ha,hb,hl,h⟩
  ·exact nj h1 r1 r2
  ·cases r1
   cases r2
   by_cases hab:a=b
   ·subst hab
    exact SeqAt.EqAt.same _
   ·obtain ⟨its,q1,p1,_⟩:=I.tuple ha
    obtain ⟨jts,q2,p2,_⟩:=I.tuple hb
    have:=SeqAt.RcAt.tuples (A:=A) (s:=s) (e:=fun _=>true) (show s.heap.IsTuple a its.toArray from p1) (show s.heap.IsTuple b jts.toArray from p2) (by omega) (j5 q1 q2 hl fun i x y u1 u2 hx hy ru1 ru2=>j6 I n A.in1 x y u1 u2 (by show A.units + 1 + n < cLine; omega) (h i x y hx hy) ru1 ru2)
    rw [List.size_toArray,List.size_toArray,gH _ _ (by have e1:=q1.length; have e2:=q2.length; omega)] at this
    exact SeqAt.EqAt.of_refs hab this
def Alks (K:PySem.W.Frag) (H:Hp) (a b:Addr):Prop:=∃ (n:Nat) (xs ys:List V),n <= 60 /\ SqT K H a xs /\ SqT K H b ys /\ xs.length=ys.length /\ ∀ (i:Nat) (x y:V),xs[i]?=some x -> ys[i]?=some y -> Alk K n H x y
theorem kP (hu:X.A.units + 64 < cLine):OpR X (compareOp .Eq) (fun x y H Q=>∃ a b:Addr,x=.ref a /\ y=.ref b /\ Alks X.K H a b /\ Q (.bl true) H):=by
 intro pins s σ H x y v u Q I rx ry h
 obtain ⟨a,b,rfl,rfl,⟨n,xs,ys,hn,ha,hb,hl,h⟩,q⟩:=h
 cases rx
 cases ry
 obtain ⟨its,q1,p1,_⟩:=I.tuple ha
 obtain ⟨jts,q2,p2,_⟩:=I.tuple hb
 have:=SeqAt.RcAt.tuples (A:=X.A) (s:=s) (e:=fun _=>true) (show s.heap.IsTuple a its.toArray from p1) (show s.heap.IsTuple b jts.toArray from p2) (by omega) (j5 q1 q2 hl fun i x y u1 u2 hx hy ru1 ru2=>j6 I n X.A.in1 x y u1 u2 (by show X.A.units + 1 + n < cLine; omega) (h i x y hx hy) ru1 ru2)
 rw [List.size_toArray,List.size_toArray,gH _ _ (by have e1:=q1.length; have e2:=q2.length; omega)] at this
 exact this _ _ _ _ (aW I q rfl)
theorem op_neAk (hu:X.A.units + 64 < cLine):OpR X (compareOp .NotEq) (fun x y H Q=>∃ a b:Addr,x=.ref a /\ y=.ref b /\ Alks X.K H a b /\ Q (.bl false) H):=by
 intro pins s σ H x y v u Q I rx ry h
 obtain ⟨a,b,rfl,rfl,⟨n,xs,ys,hn,ha,hb,hl,h⟩,q⟩:=h
 cases rx
 cases ry
 obtain ⟨its,q1,p1,_⟩:=I.tuple ha
 obtain ⟨jts,q2,p2,_⟩:=I.tuple hb
 have:=SeqAt.RcNeAt.tuples (A:=X.A) (s:=s) (e:=fun _=>true) (show s.heap.IsTuple a its.toArray from p1) (show s.heap.IsTuple b jts.toArray from p2) (by omega) (j5 q1 q2 hl fun i x y u1 u2 hx hy ru1 ru2=>j6 I n X.A.in1 x y u1 u2 (by show X.A.units + 1 + n < cLine; omega) (h i x y hx hy) ru1 ru2)
 rw [List.size_toArray,List.size_toArray,gH _ _ (by have e1:=q1.length; have e2:=q2.length; omega)] at this
 exact this _ _ _ _ (aW I q rfl)
end
structure Wd (p:Prop):Prop where
 h:p
section
variable {X:Cx} {es:List Expr} {te:TE} {t:TA}
theorem jt {s:Stmt} {ss:List Stmt} {ts tss:TS} (h:Wd (PS X s ts)) (h':Wd (PSs X ss tss)):Wd (PSs X (s :: ss) (tSeq ts tss)):=⟨ag h.h h'.h⟩
end
section
variable {X:Cx}
theorem ws_lstW {i:Nat} {x:Str} {l:List Expr} {t:TA} {pos pos' p2:Pos} (hN:X.N.Nodup) (hi:X.N[i]?=some x) (hx:Loc X.env.scope x) (hf:X.fn x=true \/ X.env.scope.names.lookup x=some .local) (he:PAW X l t):Wd (PS X (.Assign [.Name x pos'] (.List l p2) pos) (mJ (mZ t) (dc i))):=⟨aw hN hi hx (aJ he.h) (by rfl) hf⟩
theorem ws_catW {i:Nat} {x:Str} {a:Expr} {l:List Expr} {ta:TE} {t:TA} {pos pos' p2 p3:Pos} (hN:X.N.Nodup) (hi:X.N[i]?=some x) (hx:Loc X.env.scope x) (hf:X.fn x=true \/ X.env.scope.names.lookup x=some .local) (ha:PE X a ta) (he:PAW X l t) :
  Wd (PS X (.Assign [.Name x pos'] (.BinOp a .Add (.List l p3) p2) pos) (mJ (tOp (fun x y H Q=>∃ l b xs zs,x=.ref l /\ y=.ref b /\ H l=some (.lst xs) /\ H b=some (.lst zs) /\ xs.length + zs.length <= sizeLine /\ ∀ p H2,H p=none -> ar H H2 -> H2 p=some (.lst (xs ++ zs)) -> Q (.ref p) H2) ta (mZ t)) (dc i))):=⟨aw hN hi hx (aj bi ha (aJ he.h)) (by rfl) hf⟩
theorem wss_ret {e:Expr} {te:TE} {p:Pos} (h:PE X e te):Wd (PSs X [.Return (some e) p] (tRet te)):=⟨am (aF h)⟩
theorem go {st:List Stmt} {t:TS} {D:eC} {σ:St} {H:Hp} (h:Wd (PSs X st t)) (h2:t D σ H):∃ t,PSs X st t /\ t D σ H:=⟨t,h.h,h2⟩
end
theorem lW {P:Program} {w:World} {K:PySem.W.Frag} {tg:Expr} (it:Addr) (lo:Int) (n:Nat):jj P w K tg (Itr lo n) [it] it (fun i h=>IsLongIter h it (lo + (i:Nat) * 1) ((n:Int) - (i:Nat)) 1) where
 mem:=by simp
 obj:=fun i h st b hb=>by
  have e:b=it:=by simpa using hb
  subst e
  exact ⟨_,st,fun v z=>by
   have z':Data.fields _=Data.cell v:=z
   cases z'⟩
 keep:=fun i h h' st k=>k it (by simp) _ st
 item:=by
  intro X hP hw hK hc i pins s σ H E I hf st hg
  subst hP hw hK
  obtain ⟨f0,f1,f2,f3,f4,f5⟩:=hf it (by simp)
  have W:=Walks.longrange (prog:=X.prog) (w:=X.w) (I.ok.hd hc) it lo 1 n
  refine W.item i s _ _ hg st fun v h' tk hv st' kk=>?_
  obtain ⟨t,rfl⟩:=hv
  have I1:Inv X pins σ H { s with heap:=h',toks:=tk }:=I.turned (fun b o hb e=>kk b o (by simpa using hb) e) f0 f1 f3 f4 f5
  refine ⟨_,rfl,jk (s:={ s with heap:=h',toks:=tk }) (n:="longrange_iterator") st' rfl rfl (by decide) ⟨.int (lo + i),H,I1,⟨t,?_⟩,⟨rfl,rfl⟩,st',fun b hb=>(hf b hb).1⟩⟩
  rw [Int.mul_one]
 done:=by
  intro X hP hw hK hc i pins s σ H E I hf st hg
  subst hP hw hK
  obtain ⟨f0,f1,f2,f3,f4,f5⟩:=hf it (by simp)
  exact wpAny_pyNext_long_end (I.ok.hd hc) st (by have:n <= i:=hg; omega) fun h' eb=>⟨rfl,I.turned (t':=s.toks) (fun b o hb e=>eb b o hb e) f0 f1 f3 f4 f5⟩
 self:=fun _ _ _ _ _ st h=>wpAny_pyIter_longiter st h
section
variable {X:Cx} {tg:Expr}
theorem lX {pins:List (Addr × Obj)} {σ:St} {H:Hp} {s:Shared} {R:It -> Hp -> Prop} {E:Value -> Shared -> Prop} {lo hi:Int} {t u v:Tok} {tk:Nat} (I:Inv X pins σ H s)
  (q:R (Itr lo (hi - lo).toNat) H):wpAny (model X.prog X.w) X.A (pyIter (.ref s.heap.objs.size)) (PIE X pins σ tg R) E { s with heap:=s.heap.push { cls:=.type "range",data:=.fields #[.int lo t,.int hi u,.int 1 v] },toks:=tk }:=by
 have I1:Inv X pins σ H { s with heap:=s.heap.push { cls:=.type "range",data:=.fields #[.int lo t,.int hi u,.int 1 v] },toks:=tk }:=I.kept fun b o e=>Heap.get?_push_of_some _ e
 have e1:lo + ((0:Nat):Int) * 1=lo:=by simp
 have e2:(((hi - lo).toNat:Nat):Int) - ((0:Nat):Int)=Builtin.Range.rangeSize lo hi 1:=by rw [rangeSize_one]; split <;> omega
 cases hs:Builtin.Range.small lo hi 1 with
 | true =>
  refine wpAny_pyIter_range (IsRange.new ..) hs ?_
  refine ⟨(s.heap.push { cls:=.type "range",data:=.fields #[.int lo t,.int hi u,.int 1 v] }).objs.size,[(s.heap.push { cls:=.type "range",data:=.fields #[.int lo t,.int hi u,.int 1 v] }).objs.size],_,_,H,rfl,
   I1.kept (t':=tk) fun b o e=>Heap.get?_push_of_some _ e,gu _ lo (hi - lo).toNat,?_,fun b hb=>?_,q⟩
  ·show IsRangeIter _ _ (lo + ((0:Nat):Int) * 1) ((((hi - lo).toNat:Nat):Int) - ((0:Nat):Int)) 1
   rw [e1,e2]
   exact Heap.get?_push_size _ rfl
  ·have e:b=(s.heap.push { cls:=.type "range",data:=.fields #[.int lo t,.int hi u,.int 1 v] }).objs.size:=by simpa using hb
   subst e
   exact I1.fpOk (Nat.le_refl _) (I1.hok.fresh (Nat.le_refl _))
 | false =>
  refine wpAny_pyIter_longrange (IsRange.new ..) hs ?_
  refine ⟨(s.heap.push { cls:=.type "range",data:=.fields #[.int lo t,.int hi u,.int 1 v] }).objs.size,[(s.heap.push { cls:=.type "range",data:=.fields #[.int lo t,.int hi u,.int 1 v] }).objs.size],_,_,H,rfl,
   I1.kept (t':=tk) fun b o e=>Heap.get?_push_of_some _ e,lW _ lo (hi - lo).toNat,?_,fun b hb=>?_,q⟩
  ·show IsLongIter _ _ (lo + ((0:Nat):Int) * 1) ((((hi - lo).toNat:Nat):Int) - ((0:Nat):Int)) 1
   rw [e1,e2]
   exact Heap.get?_push_size _ rfl
  ·have e:b=(s.heap.push { cls:=.type "range",data:=.fields #[.int lo t,.int hi u,.int 1 v] }).objs.size:=by simpa using hb
   subst e
   exact I1.fpOk (Nat.le_refl _) (I1.hok.fresh (Nat.le_refl _))
def iRngA (ta:TA):TI:=fun σ H R=>ta σ H fun vs H1=>∃ i j:Int,vs=[.int i,.int j] /\ R (Itr i (j - i).toNat) H1
theorem lY {a b:Expr} {ta:TA} {p pos:Pos} (hg:Gl X "range") (hm:X.mg "range"=none) (ha:PA X [a,b] ta) (hs:starEach [a,b] X.env=[(false,eval a X.env),(false,eval b X.env)]:=by rfl) (hs2:starEach [b] X.env=[(false,eval b X.env)]:=by rfl) :
  PI X tg (.Call (.Name "range" p) [a,b] [] pos) (iRngA ta):=by
 intro pins s σ H R I h
 refine Call_ (eE I hg hm boot_range (PyProof.Rows.callWith_type1 (thn (ha pos pins s σ H _ I h) fun us s1 ⟨vs,H1,I1,r1,q1⟩=>?_) (by rw [hs,hs2]) (by rw [hs2]; rfl)))
 obtain ⟨i,j,e,q⟩:=q1
 subst e
 cases r1 with
 | cons r rr =>
  cases rr with
  | cons r' rr =>
   cases rr
   obtain ⟨t,rfl⟩:=r
   obtain ⟨t',rfl⟩:=r'
   exact call_range_2 (lX I1 q)
end
section
variable {X:Cx}
def PJ (X:Cx) (es:List Expr) (t:Str -> TE):Prop :=
 ∀ (out:Str) (pins:List (Addr × Obj)) (s:Shared) (σ:St) (H:Hp) (Q:VK),Inv X pins σ H s -> t out σ H Q -> wpAny (model X.prog X.w) X.A (joinParts out (evalEach es X.env)) (EP X pins σ Q) X.xe s
def tJ0:Str -> TE:=fun out _ H Q=>out.length <= sizeLine /\ Q (.str out) H
def tJc (ta:TE) (u:Str -> TE):Str -> TE:=fun out σ H Q=>ta σ H fun x H1=>∃ z,x=.str z /\ (out ++ z).length <= sizeLine /\ u (out ++ z) σ H1 Q
theorem iY:PJ X [] tJ0:=by
 intro out pins s σ H Q I h
 exact joinParts_nil ⟨.str _,H,I.tok _,⟨_,rfl⟩,h.2⟩ h.1
theorem bF {e:Expr} {es:List Expr} {ta:TE} {u:Str -> TE} (ha:PE X e ta) (hs:PJ X es u):PJ X (e :: es) (tJc ta u):=by
 intro out pins s σ H Q I h
 refine joinParts_cons (x:=eval e X.env) (rest:=evalEach es X.env) (thn (ha pins s σ H _ I h) fun v s1 ⟨x,H1,I1,r,z,e1,hl,q⟩=>?_)
 subst e1
 obtain ⟨t,rfl⟩:=r
 exact ⟨hl,hs _ pins s1 σ H1 Q I1 q⟩
theorem gg {v1 v2:Expr} {rest:List Expr} {t:Str -> TE} {pos:Pos} (h:PJ X (v1 :: v2 :: rest) t):PE X (.JoinedStr (v1 :: v2 :: rest) pos) (t Str.empty):=by
 intro pins s σ H Q I hq
 exact JoinedStr_many (h _ pins s σ H Q I hq)
def tFmt (ta:TE):TE:=fun σ H Q=>ta σ H fun x H1=>(∃ z,x=.str z /\ z.length <= sizeLine /\ Q (.str z) H1) \/ ∃ n,x=.int n /\ n.natAbs.log2 < 1920 /\ Q (.str (toString n)) H1
theorem dv {e:Expr} {ta:TE} {pos:Pos} (ha:PE X e ta):PE X (.FormattedValue e (-1) none pos) (tFmt ta):=by
 intro pins s σ H Q I h
 refine FormattedValue_plain (thn (ha pins s σ H _ I h) fun v s1 ⟨x,H1,I1,r,q⟩=>?_)
 rcases q with ⟨z,rfl,hl,q⟩ | ⟨n,rfl,hl,q⟩
 ·obtain ⟨t,rfl⟩:=r
  exact formatField_str (fun t' tk=>⟨.str _,H1,I1.tok _,⟨_,rfl⟩,q⟩) hl
 ·obtain ⟨t,rfl⟩:=r
  exact formatField_int_small hl ⟨.str _,H1,I1.tok _,⟨_,rfl⟩,q⟩
theorem gK:∀ (l:List (Str × Tok)),aZ ((l.map (·.1)).map V.str) (strValues l)
 | []=>.nil
 | (x,t) :: l=>.cons ⟨t,rfl⟩ (gK l)
open PySem.Builtin PySem.Builtin.Str in
theorem split1E {prog:Program} {w:World} {A:Around} {E:Value -> Shared -> Prop} {s:Shared} {x y:Str} {t u:Tok} {Q:Value -> Shared -> Prop} (hy:(y.length == 0)=false)
  (hq:∀ l k,l.map (·.1)=Txt.split x y -> Q (.ref s.heap.objs.size) { s with toks:=k,heap:=s.heap.push { cls:=.type "list",data:=.seq (strValues l).toArray } })
  (hsz:x.length <= sizeLine) (hsz2:(partsBetween x (occurrences x y 0 x.length (x.length + 1)) y.length).length <= sizeLine) :
  wpAny (model prog w) A (call (.builtin "str.split") [.str x t,.str y u]) Q E s:=by
 cases h1:(decide (x.length < y.length) || decide (strKind x < strKind y))
 ·cases hf:(occurrences x y 0 x.length (x.length + 1)).isEmpty
  ·refine call_meets F.slot_str_split (typeIs_str _ _ _) F.entry_str_split (F.args_str_split_2 _ _) (meets_str_split_sep x y t u h1 hy hf hsz hsz2) ?_
   show wants Q E _ { s with toks:=_,heap:=s.heap.push { cls:=.type "list",data:=.seq (strsFrom s.toks (partsBetween x (occurrences x y 0 x.length (x.length + 1)) y.length)).toArray } }
   rw [strsFrom_eq]
   exact hq (numbered s.toks _) _ ((numbered_texts _ _).trans ((if_neg (ne_true_of_eq_false h1)).trans (if_neg (ne_true_of_eq_false hf))).symm)
  ·exact call_meets F.slot_str_split (typeIs_str _ _ _) F.entry_str_split (F.args_str_split_2 _ _) (meets_str_split_not_found x y t u h1 hy hf)
    (hq [(x,t)] s.toks ((if_neg (ne_true_of_eq_false h1)).trans (if_pos hf)).symm)
 ·exact call_meets F.slot_str_split (typeIs_str _ _ _) F.entry_str_split (F.args_str_split_2 _ _) (meets_str_split_cannot_occur x y t u h1)
   (hq [(x,t)] s.toks (if_pos h1).symm)
open PySem.Builtin PySem.Builtin.Str in
def rSplit:V -> List V -> Hp -> VK -> Prop:=fun x vs H Q=>∃ z y,x=.str z /\ vs=[.str y] /\ y.length ≠ 0 /\ z.length <= sizeLine /\ (Txt.split z y).length <= sizeLine /\ ((partsBetween z (occurrences z y 0 z.length (z.length + 1)) y.length).length <= sizeLine) /\
 ∀ p,H p=none -> Q (.ref p) (upd H p (.lst ((Txt.split z y).map V.str)))
theorem eZ:MtR X "str.split" rSplit:=by
 intro pins s σ H x vs v us Q I rx rv h
 obtain ⟨z,y,rfl,rfl,hy,hz,hl,hz2,q⟩:=h
 obtain ⟨t,rfl⟩:=rx
 obtain ⟨u,rfl,ru⟩:=rv.one
 obtain ⟨tu,rfl⟩:=ru
 refine split1E (by simpa using hy) (fun l k hm=>?_) hz hz2
 have hf:H s.heap.objs.size=none:=I.hok.fresh (Nat.le_refl _)
 refine ⟨.ref s.heap.objs.size,upd H s.heap.objs.size _,I.laid (t':=k) (fun b u e=>Heap.get?_push_of_some _ e) (Nat.le_refl _) ?_,rfl,q _ hf⟩
 have hv:=gK l
 rw [hm] at hv
 exact ⟨by simpa using hl,_,_,hv,Heap.get?_push_size _ rfl⟩
end
section
variable {X:Cx}
theorem lZ:cj X (.type "int") (fun xs H Q=>∃ z n,xs=[.str z] /\ PySem.intText? z=some n /\ z.length <= 640 /\ Q (.int n) H):=by
 intro pins s σ H xs us Q I r h
 obtain ⟨z,n,rfl,hn,hl,q⟩:=h
 obtain ⟨u,rfl,t,rfl⟩:=gx r
 exact PySem.W.KIN.call_text hn hl ⟨.int n,H,I.tok _,⟨_,rfl⟩,q⟩
theorem ma:MtR X "str.startswith" (fun x xs H Q=>∃ z y,x=.str z /\ xs=[.str y] /\ Q (.bl (Txt.startswith z y)) H):=by
 intro pins s σ H x vs v us Q I rx rv h
 obtain ⟨z,y,rfl,rfl,q⟩:=h
 obtain ⟨t,rfl⟩:=rx
 obtain ⟨u,rfl,ru⟩:=rv.one
 obtain ⟨tu,rfl⟩:=ru
 exact PySem.SC.startswith ⟨.bl _,H,I,rfl,q⟩
def nD (y:Str):Value -> Bool
 | .str x _=>decide (x=y)
 | _=>false
theorem nE {A:Around} {s:Shared} (x y:Str) (t u:Tok):SeqAt.EqAt A s (.str x t) (.str y u) (decide (x=y)):=by
 have:=jY (A:=A) (s:=s) (y:=.str x) (x:=.str y) (u:=.str x t) (v:=.str y u) ⟨_,rfl⟩ ⟨_,rfl⟩ rfl rfl
 exact this
theorem fb:∀ {ys:List Str} {us:List Value},aZ (ys.map V.str) us -> ∀ y,us.countP (nD y)=ys.countP (fun x=>decide (x=y)) /\ us.length=ys.length /\ (∀ u ∈ us,∃ x t,u=.str x t) /\ ∀ (m:Nat) (h:m < us.length),some (nD y us[m])=(ys[m]?).map (fun x=>decide (x=y))
 | [],us,r,y=>by
  cases r
  exact ⟨rfl,rfl,fun _ h=>(nomatch h),fun m h=>absurd h (Nat.not_lt_zero _)⟩
 | x :: ys,us,r,y=>by
  have r:aZ (V.str x :: ys.map V.str) us:=r
  cases r with
  | cons h t =>
   obtain ⟨tk,rfl⟩:=h
   obtain ⟨h1,h2,h3,h4⟩:=fb t y
   refine ⟨?_,by simp [h2],fun u hu=>?_,fun m hm=>?_⟩
   ·rw [List.countP_cons,List.countP_cons,h1]
    rfl
   ·rcases List.mem_cons.mp hu with e | hu
    ·exact ⟨x,tk,e⟩
    ·exact h3 u hu
   ·cases m with
    | zero=>rfl
    | succ m=>simpa using h4 m (by simpa using hm)
theorem md:MtR X "list.count" (fun x xs H Q=>∃ (l:Addr) (ys:List Str) (y:Str),x=.ref l /\ xs=[.str y] /\ H l=some (.lst (ys.map V.str)) /\ Q (.int (ys.countP fun x=>decide (x=y))) H):=by
 intro pins s σ H x vs v us Q I rx rv h
 obtain ⟨l,ys,y,rfl,rfl,hH,q⟩:=h
 cases rx
 obtain ⟨u,rfl,ru⟩:=rv.one
 obtain ⟨tu,rfl⟩:=ru
 obtain ⟨z,its,n,r,hl,e⟩:=I.lstM hH
 obtain ⟨h1,h2,h3,h4⟩:=fb r y
 refine call_meets F.slot_list_count ⟨_,e,rfl⟩ F.entry_list_count (F.args_list_count_2 _ _) (SeqAt.list_countAt l _ n none _ (.str y tu) (nD y)) ⟨e,fun v hv=>?_,?_⟩
 ·obtain ⟨x,t,rfl⟩:=h3 v (by simpa using hv)
  exact nE x y t tu
 ·rw [List.toList_toArray,h1]
  exact ⟨.int _,H,I.tok _,⟨_,rfl⟩,q⟩
theorem me:MtR X "list.index" (fun x xs H Q=>∃ (l:Addr) (ys:List Str) (y:Str) (j:Nat),x=.ref l /\ xs=[.str y] /\ H l=some (.lst (ys.map V.str)) /\ ys.length <= sizeLine /\ ys[j]?=some y /\ (∀ m,m < j -> ys[m]? ≠ some y) /\ Q (.int j) H):=by
 intro pins s σ H x vs v us Q I rx rv h
 obtain ⟨l,ys,y,j,rfl,rfl,hH,hz,hj,hno,q⟩:=h
 cases rx
 obtain ⟨u,rfl,ru⟩:=rv.one
 obtain ⟨tu,rfl⟩:=ru
 obtain ⟨z,its,n,r,hl,e⟩:=I.lstM hH
 obtain ⟨h1,h2,h3,h4⟩:=fb r y
 have hjl:j < ys.length:=(List.getElem?_eq_some_iff.mp hj).1
 have hs:sizeLine=16777216:=sizeLine_eq
 refine call_meets F.slot_list_index ⟨_,e,rfl⟩ F.entry_list_index (F.args_list_index_2 _ _) (SeqAt.list_indexAt l _ n none _ (.str y tu) (nD y) j (by simpa [h2] using hjl) (by omega) ?_ ?_) ⟨e,fun v hv=>?_,?_⟩
 ·have:=h4 j (by omega)
  rw [hj] at this
  simpa using this
 ·intro m hm hmj
  have h5:=h4 m (by simpa using hm)
  have h6:=hno m hmj
  rw [List.getElem?_eq_getElem (show m < ys.length by omega)] at h5 h6
  have h7:ys[m] ≠ y:=fun e=>h6 (by rw [e])
  simpa [h7] using h5
 ·obtain ⟨x,t,rfl⟩:=h3 v (by simpa using hv)
  exact nE x y t tu
 ·exact ⟨.int _,H,I.tok _,⟨_,rfl⟩,q⟩
end
open PySem.SeqAt
theorem gL (l:Addr) (items:Array Value) (n:Nat) (dd:Option Addr) (sl:Array (Option Value)) (x:Value) (e:Value -> Bool) (i j:Nat) (t:Tok) (hij:i <= j) (hj:j < items.size) (hsmall:(j:Int) < 2 ^ 63 - 1)
  (hit:e items[j]=true) (hno:∀ m (hm:m < items.size),i <= m -> m < j -> e items[m]=false) :
  Meets (Builtin.«list.index» ⟨[.ref l,x,.int (i:Nat) t],[]⟩)
   (fun A R s=>s.heap.get? l=some { cls:=.type "list",dict:=dd,data:=.seq items n,slots:=sl } /\ (∀ y,y ∈ items -> EqAt A.in1 s y x (e y)) /\ R (.ok (.ret (.int j s.toks))) { s with toks:=s.toks + 1 }):=by
 intro prog w A R s h
 obtain ⟨hp,g,d,tk,os⟩:=s; obtain ⟨hl,he,h⟩:=h
 wp_walk using wpAny_loadPart' hl
 have a1:((fun i:Int=>if i < 0 then max 0 (i + (items.size:Int)) else i) ((some ((i:Nat):Int)).getD 0))=((i:Nat):Int):=by
  show (if ((i:Nat):Int) < 0 then _ else _)=_
  exact if_neg (by omega)
 have a2:((fun i:Int=>if i < 0 then max 0 (i + (items.size:Int)) else i) ((none:Option Int).getD (2 ^ 63 - 1)))=2 ^ 63 - 1:=by simp
 rw [a1,a2]
 exact ⟨plainId_quiet PySem.MeetsSeq.plain_index_loop _,codeAny_builtin PySem.MeetsSeq.entry_index_loop (by
  rw [Around.under_plainId PySem.MeetsSeq.plain_index_loop _]
  exact index_loopAt l items n dd sl x e (2 ^ 63 - 1) j hj hsmall hit _ i rfl hij (fun m hm h1 h2=>hno m hm h1 h2) prog w A R _ ⟨hl,he,h⟩)⟩
theorem mf {X:Cx}:MtR X "list.index" (fun x xs H Q=>∃ (l:Addr) (ys:List Str) (y:Str) (i j:Nat),x=.ref l /\ xs=[.str y,.int (i:Nat)] /\ H l=some (.lst (ys.map V.str)) /\ ys.length <= sizeLine /\ i <= j /\ ys[j]?=some y /\ (∀ m,i <= m -> m < j -> ys[m]? ≠ some y) /\ Q (.int j) H):=by
 intro pins s σ H x vs v us Q I rx rv h
 obtain ⟨l,ys,y,i,j,rfl,rfl,hH,hz,hij,hj,hno,q⟩:=h
 cases rx
 obtain ⟨u,u2,rfl,ru,ru2⟩:=gy rv
 obtain ⟨tu,rfl⟩:=ru
 obtain ⟨ti,rfl⟩:=ru2
 obtain ⟨z,its,n,r,hl,e⟩:=I.lstM hH
 obtain ⟨h1,h2,h3,h4⟩:=fb r y
 have hjl:j < ys.length:=(List.getElem?_eq_some_iff.mp hj).1
 have hs:sizeLine=16777216:=sizeLine_eq
 refine call_meets F.slot_list_index ⟨_,e,rfl⟩ F.entry_list_index (F.args_list_index_3 _ _ _) (gL l _ n none _ (.str y tu) (nD y) i j ti hij (by simpa [h2] using hjl) (by omega) ?_ ?_) ⟨e,fun v hv=>?_,?_⟩
 ·have:=h4 j (by omega)
  rw [hj] at this
  simpa using this
 ·intro m hm hmi hmj
  have h5:=h4 m (by simpa using hm)
  have h6:=hno m hmi hmj
  rw [List.getElem?_eq_getElem (show m < ys.length by omega)] at h5 h6
  have h7:ys[m] ≠ y:=fun e=>h6 (by rw [e])
  simpa [h7] using h5
 ·obtain ⟨x,t,rfl⟩:=h3 v (by simpa using hv)
  exact nE x y t tu
 ·exact ⟨.int _,H,I.tok _,⟨_,rfl⟩,q⟩
end L2
namespace L2
open PySem PySem.Spec PyProof.Rows PySem.NumText
theorem ju {c:Nat}:∀ {a b r s:List Nat},c ∉ a -> c ∉ b -> a ++ c :: r=b ++ c :: s -> a=b /\ r=s
 | [],[],r,s,_,_,h=>⟨rfl,by simpa using h⟩
 | [],y :: b,r,s,_,hb,h=>by
  have h1:c=y:=by simpa using (List.cons.inj (show c :: r=y :: (b ++ c :: s) from h)).1
  exact absurd (h1 ▸ List.mem_cons_self ..) hb
 | x :: a,[],r,s,ha,_,h=>by
  have h1:x=c:=(List.cons.inj (show x :: (a ++ c :: r)=c :: s from h)).1
  exact absurd (h1 ▸ List.mem_cons_self ..) ha
 | x :: a,y :: b,r,s,ha,hb,h=>by
  have h1:=List.cons.inj (show x :: (a ++ c :: r)=y :: (b ++ c :: s) from h)
  obtain ⟨e1,e2⟩:=ju (fun q=>ha (List.mem_cons_of_mem _ q)) (fun q=>hb (List.mem_cons_of_mem _ q)) h1.2
  exact ⟨by rw [h1.1,e1],e2⟩
theorem dW (c:Nat) (p q:Str) (r:List Str):(Str.join ⟨#[c]⟩ (p :: q :: r)).cps.toList=p.cps.toList ++ c :: (Str.join ⟨#[c]⟩ (q :: r)).cps.toList:=by
 show ((p ++ (⟨#[c]⟩:Str)) ++ Str.join ⟨#[c]⟩ (q :: r)).cps.toList=_
 simp [Str.cps_append]
theorem bU {a b:Str} (h:a.cps.toList=b.cps.toList):a=b:=Str.ext' (Array.toList_inj.mp h)
theorem jw {c:Nat}:∀ {ys zs:List Str},ys ≠ [] -> zs ≠ [] -> (∀ p ∈ ys,c ∉ p.cps.toList) -> (∀ p ∈ zs,c ∉ p.cps.toList) -> Str.join ⟨#[c]⟩ ys=Str.join ⟨#[c]⟩ zs -> ys=zs
 | [],_,h,_,_,_,_=>absurd rfl h
 | _,[],_,h,_,_,_=>absurd rfl h
 | [y],[z],_,_,_,_,h=>by
  have h:y=z:=h
  rw [h]
 | [y],z :: z2 :: zs,_,_,hy,_,h=>by
  have h1:=congrArg (fun x:Str=>x.cps.toList) h
  simp only [dW] at h1
  have h2:y.cps.toList=z.cps.toList ++ c :: (Str.join ⟨#[c]⟩ (z2 :: zs)).cps.toList:=h1
  exact absurd (h2 ▸ (by simp)) (hy y (List.mem_cons_self ..))
 | y :: y2 :: ys,[z],_,_,_,hz,h=>by
  have h1:=congrArg (fun x:Str=>x.cps.toList) h
  simp only [dW] at h1
  have h2:y.cps.toList ++ c :: (Str.join ⟨#[c]⟩ (y2 :: ys)).cps.toList=z.cps.toList:=h1
  exact absurd (h2 ▸ (by simp)) (hz z (List.mem_cons_self ..))
 | y :: y2 :: ys,z :: z2 :: zs,_,_,hy,hz,h=>by
  have h1:=congrArg (fun x:Str=>x.cps.toList) h
  simp only [dW] at h1
  obtain ⟨e1,e2⟩:=ju (hy y (List.mem_cons_self ..)) (hz z (List.mem_cons_self ..)) h1
  have e3:=jw (by simp) (by simp) (fun p q=>hy p (List.mem_cons_of_mem _ q)) (fun p q=>hz p (List.mem_cons_of_mem _ q)) (bU e2)
  rw [bU e1,e3]
theorem cQ {c:Nat} {ys:List Str} (h0:ys ≠ []) (h:∀ p ∈ ys,c ∉ p.cps.toList):Txt.split (Txt.join ⟨#[c]⟩ ys) ⟨#[c]⟩=ys:=by
 have e:Txt.join ⟨#[c]⟩ ys=Str.join ⟨#[c]⟩ ys:=StrLaws.glued_eq_join _ _
 rw [e]
 refine jw ?_ h0 (StrLaws.split_free _ c) h (StrLaws.join_split _ _)
 intro e
 have:=PyProof.Rows.split_pos (Str.join ⟨#[c]⟩ ys) ⟨#[c]⟩
 rw [e] at this
 exact absurd this (by decide)
open PySem.Builtin PySem.Builtin.Str in
theorem fc (x y:Str):(partsBetween x (occurrences x y 0 x.length (x.length + 1)) y.length).length <= x.length + 2:=by
 have:=StrLaws.occ_length_le x y 0 x.length (x.length + 1)
 unfold partsBetween
 simp only [List.length_map,List.length_zip,List.length_cons,List.length_append,List.length_nil]
 omega
def cH (m:Nat):List Nat:=(Nat.toDigits 10 m).map Char.toNat
def eK (n:Int):List Nat:=if n < 0 then 45 :: cH n.natAbs else cH n.natAbs
theorem cY {m:Nat} (h:m < 10):cH m=[48 + m]:=by
 unfold cH
 rw [Nat.toDigits_of_lt_base h]
 have:∀ d:Nat,d < 10 -> (Nat.digitChar d).toNat=48 + d:=by decide
 simp [this m h]
theorem gh {m:Nat} (h:10 <= m):cH m=cH (m / 10) ++ [48 + m % 10]:=by
 have hm:m % 10 < 10:=Nat.mod_lt m (by decide)
 have t:Nat.toDigits 10 (m / 10) ++ Nat.toDigits 10 (m % 10)=Nat.toDigits 10 (10 * (m / 10) + m % 10):=Nat.toDigits_append_toDigits (by decide) (by omega) hm
 rw [Nat.div_add_mod] at t
 have e:=cY hm
 unfold cH at e ⊢
 rw [<- t,List.map_append,e]
theorem cR (m:Nat):∀ c ∈ cH m,48 <= c /\ c <= 57:=by
 induction m using Nat.strongRecOn with
 | _ m ih =>
  intro c hc
  by_cases h:m < 10
  ·rw [cY h] at hc
   have:c=48 + m:=by simpa using hc
   omega
  ·rw [gh (by omega)] at hc
   rcases List.mem_append.mp hc with hc | hc
   ·exact ih (m / 10) (by omega) c hc
   ·have:c=48 + m % 10:=by simpa using hc
    omega
theorem dj (k:Nat):∀ m,m < 10 ^ k -> 1 <= (cH m).length /\ (cH m).length <= max k 1:=by
 induction k with
 | zero =>
  intro m h
  have:m=0:=by simpa using h
  subst this
  exact ⟨by decide,by decide⟩
 | succ k ih =>
  intro m h
  by_cases h1:m < 10
  ·rw [cY h1]
   exact ⟨by simp,by simp⟩
  ·rw [gh (by omega)]
   have:=ih (m / 10) (by rw [Nat.pow_succ] at h; omega)
   have hk:1 <= k:=by
    cases k with
    | zero=>simp at h; omega
    | succ k=>omega
   simp
   omega
theorem ix {m:Nat}:∀ {r:List Nat},cH m=48 :: r -> m=0:=by
 induction m using Nat.strongRecOn with
 | _ m ih =>
  intro r e
  by_cases h:m < 10
  ·rw [cY h] at e
   have:=(List.cons.inj e).1
   omega
  ·rw [gh (by omega)] at e
   cases hd:cH (m / 10) with
   | nil =>
    rw [hd] at e
    have h1:=(List.cons.inj (show (48 + m % 10) :: []=48 :: r from e)).1
    have:1 <= (cH (m / 10)).length:=(dj (m / 10) (m / 10) (Nat.lt_pow_self (by decide))).1
    rw [hd] at this
    exact absurd this (by decide)
   | cons x xs =>
    rw [hd] at e
    have h1:=(List.cons.inj (show x :: (xs ++ [48 + m % 10])=48 :: r from e)).1
    subst h1
    have:=ih (m / 10) (by omega) hd
    omega
theorem cI (n:Int):(Str.ofString (toString n)).cps.toList=eK n:=by
 rw [PyProof.Rows.signs_ofString]
 unfold eK cH
 cases n with
 | ofNat m =>
  rw [if_neg (by simp)]
  show (Nat.repr m).toList.map Char.toNat=_
  rw [Nat.toList_repr]
  rfl
 | negSucc m =>
  rw [if_pos (Int.negSucc_lt_zero m)]
  show (("-" ++ Nat.repr (m + 1)):String).toList.map Char.toNat=_
  rw [String.toList_append,List.map_append,Nat.toList_repr]
  rfl
theorem fe (n:Int):(Str.ofString (toString n)).length=(eK n).length:=by
 rw [<- cI]
 exact Array.length_toList.symm
theorem dE {k:Nat} {n:Int} (hk:1 <= k) (h:n.natAbs < 10 ^ k):1 <= (eK n).length /\ (eK n).length <= k + 1:=by
 have:=dj k _ h
 unfold eK
 split
 ·rw [List.length_cons]
  omega
 ·omega
theorem eL {n:Int} (h:(eK n).length <= 4300):PySem.intText? (Str.ofString (toString n))=some n:=by
 have hv:digitsVal (cH n.natAbs)=n.natAbs:=PySem.W.KIN.val_back _
 have hne:cH n.natAbs ≠ []:=fun e=>by
  have:=(dj n.natAbs n.natAbs (Nat.lt_pow_self (by decide))).1
  rw [e] at this
  exact absurd this (by decide)
 have hl:=fe n
 by_cases h0:n < 0
 ·have e:(Str.ofString (toString n)).cps.toList=45 :: cH n.natAbs:=by rw [cI]; exact if_pos h0
  rw [intText_neg e (cR _) hne (by omega),hv]
  congr 1
  omega
 ·have e:(Str.ofString (toString n)).cps.toList=cH n.natAbs:=by rw [cI]; exact if_neg h0
  rw [intText_digits (by rw [e]; exact cR _) (by rw [e]; exact hne) (by omega),e,hv]
  congr 1
  omega
theorem jx {c:Nat} {n:Int} (h1:c ≠ 45) (h2:c < 48 \/ 57 < c):c ∉ (Str.ofString (toString n)).cps.toList:=by
 rw [cI]
 unfold eK
 split
 ·intro h
  rcases List.mem_cons.mp h with e | h
  ·exact h1 e
  ·have:=cR _ c h
   omega
 ·intro h
  have:=cR _ c h
  omega
end L2
namespace K28
open PySem L2
def top (i:Nat):Stmt:=PySem.Challenge.pw_chainhouse_k28_texts_that_write_no_stand.main.body.getD i (.Pass ⟨0,0,0,0⟩)
abbrev iy:Stmt:=top 38
abbrev iz:Stmt:=top 39
abbrev fE:Stmt:=top 40
abbrev dX:Stmt:=top 41
abbrev dY:Stmt:=top 42
theorem nF:bootBuiltins "int"=some (.type "int"):=by decide +kernel
theorem cg:bootBuiltins "tuple"=some (.type "tuple"):=by decide +kernel
theorem eu:bootBuiltins "isinstance"=some (.builtin "isinstance"):=by decide +kernel
theorem mh:bootBuiltins "all"=some (.builtin "all"):=by decide +kernel
theorem j7:bootBuiltins "str"=some (.type "str"):=by decide +kernel
theorem at2 (x y:Int) (c:Bool):∃ z:Int,atI [V.int x,V.int y] (if c=true then (1:Int) else 0)=some (.int z):=by
 cases c
 ·exact ⟨x,rfl⟩
 ·exact ⟨y,rfl⟩
structure Blt (mg:Str -> Option Value):Prop where
 len:mg "len"=none
 range:mg "range"=none
 int:mg "int"=none
 min:mg "min"=none
 isi:mg "isinstance"=none
 tuple:mg "tuple"=none
 bool:mg "bool"=none
 dict:mg "dict"=none
 max:mg "max"=none
 all:mg "all"=none
 str:mg "str"=none
 sorted:mg "sorted"=none
def gM (K:PySem.W.Frag):Sp:=fun vs H Q _=>∃ (a:Addr) (ns:List Int) (k:Int),vs=[.ref a,.int k] /\ SqL K H a (ns.map V.int) /\ 0 <= k /\ ∀ z:Int,Q (.int z) H
def dF:Sp:=fun vs H Q _=>∃ x:Int,vs=[.int x] /\ 0 <= x /\ x < 2 ^ 40 /\ ∀ z:Int,0 <= z -> z < 2147483648 -> Q (.int z) H
def ff (K:PySem.W.Frag):Sp:=fun vs H Q _=>∃ (a:Addr) (ns:List Int) (k:Int),vs=[.ref a,.int k] /\ SqL K H a (ns.map V.int) /\ 0 <= k /\ k <= 100 /\ ∀ z:Int,Q (.int z) H
def fg (K:PySem.W.Frag):Sp:=fun vs H Q _=>∃ (a:Addr) (ns:List Int) (k b m:Int),vs=[.ref a,.int k,.int b,.int m] /\ SqL K H a (ns.map V.int) /\ 0 <= k /\ k <= 100 /\ 0 < b /\ b < 100000 /\ 0 <= m /\ m <= 100 /\
 ∀ (ds:List Int) (p:Addr) (H':Hp),ar H H' -> H p=none -> H' p=some (.lst (ds.map V.int)) -> (ds.length:Int)=m -> (∀ d ∈ ds,0 <= d /\ d < b) -> Q (.ref p) H'
section
variable {P:Program} {w:World} {K:PySem.W.Frag} {mg:Str -> Option Value} {base:Heap}
theorem scCell:aN ["_law_script","_law_k"] ["_law_script","_law_k"] (ai iy):=fsc (by decide +kernel)
theorem ok_cell {f:Addr} {fd:FuncData} (F:Fun K "_law_cell_at" "_law_cell_at" iy f fd) (T:Blt mg):bG P w K mg base CX0 1 f fd ["_law_script","_law_k"] (gM K):=by
 refine F.ok scCell (fun vs H Q E h=>?_) (fun cdv A outer s H vs Q E hr h=>?_)
 ·obtain ⟨a,ns,k,rfl,_⟩:=h
  rfl
 ·obtain ⟨a,ns,k,rfl,hS,h0,q⟩:=h
  refine ⟨_,ag (be (aE cN (pv 1) (ax aO (by rfl) T.len PySem.boot_len (aa (pv 0) af)) (aC _)) (am (aF (aB ay (pv 0) (pv 1) (fun _ _=>rfl)))) aQ)
   (am (aF ac)),?_⟩
  refine ⟨_,rfl,_,rfl,a,_,rfl,.inl hS,_,_,rfl,rfl,_,rfl,?_⟩
  refine bz (fun h=>?_) (fun _=>q 0)
  have h:=of_decide_eq_true h
  rw [List.length_map] at h
  have hk:k.toNat < ns.length:=by omega
  exact ⟨_,rfl,_,rfl,a,_,k,_,rfl,rfl,hS,kM h0 (List.getElem?_eq_getElem hk),q _⟩
theorem scNext:aN ["_law_x"] ["_law_x"] (ai iz):=fsc (by decide +kernel)
theorem ok_next {f:Addr} {fd:FuncData} (F:Fun K "_law_next" "_law_next" iz f fd):bG P w K mg base CX0 1 f fd ["_law_x"] dF:=by
 refine F.ok scNext (fun vs H Q E h=>?_) (fun cdv A outer s H vs Q E hr h=>?_)
 ·obtain ⟨x,rfl,_⟩:=h
  rfl
 ·obtain ⟨x,rfl,h0,h1,q⟩:=h
  refine ⟨_,am (aF (aj aS (aj bd (aj bd (aj db (pv 0) (pv 0)) (aj db ac (pv 0))) ac) ac)),?_⟩
  refine ⟨_,rfl,_,rfl,_,_,rfl,rfl,.inl ⟨by omega,by omega⟩,_,rfl,_,_,rfl,rfl,.inl ⟨by decide,by decide⟩,_,_,rfl,rfl,_,_,rfl,rfl,_,_,rfl,rfl,(by dsimp only; decide),?_⟩
  exact q _ (Int.emod_nonneg _ (by decide)) (by have:=Int.emod_lt_of_pos (x * x + 48271 * x + 11) (show (0:Int) < 2147483647 by decide); omega)
theorem scOther:aN ["_law_x"] ["_law_x"] (ai fE):=fsc (by decide +kernel)
theorem nG {f:Addr} {fd:FuncData} (F:Fun K "_law_other" "_law_other" fE f fd):bG P w K mg base CX0 1 f fd ["_law_x"] dF:=by
 refine F.ok scOther (fun vs H Q E h=>?_) (fun cdv A outer s H vs Q E hr h=>?_)
 ·obtain ⟨x,rfl,_⟩:=h
  rfl
 ·obtain ⟨x,rfl,h0,h1,q⟩:=h
  refine ⟨_,am (aF (aj aS (aj bd (aj bd (aj db (pv 0) (pv 0)) (aj db ac (pv 0))) ac) ac)),?_⟩
  refine ⟨_,rfl,_,rfl,_,_,rfl,rfl,.inl ⟨by omega,by omega⟩,_,rfl,_,_,rfl,rfl,.inl ⟨by decide,by decide⟩,_,_,rfl,rfl,_,_,rfl,rfl,_,_,rfl,rfl,(by dsimp only; decide),?_⟩
  exact q _ (Int.emod_nonneg _ (by decide)) (by have:=Int.emod_lt_of_pos (x * x + 69621 * x + 5) (show (0:Int) < 2147483629 by decide); omega)
theorem jy:aN ["_law_script","_law_k","_law_cell"] ["_law_script","_law_k"] (ai dX):=fsc (by decide +kernel)
theorem mi {f:Addr} {fd:FuncData} (F:Fun K "_law_number" "_law_number" dX f fd) (Fc:bb P w K mg base 1 "_law_cell_at" ["_law_script","_law_k"] (gM K)) (Fn:bb P w K mg base 1 "_law_next" ["_law_x"] dF) (Fo:bb P w K mg base 1 "_law_other" ["_law_x"] dF) :
  bG P w K mg base CX0 2 f fd ["_law_script","_law_k"] (ff K):=by
 refine F.ok jy (fun vs H Q E h=>?_) (fun cdv A outer s H vs Q E hr h=>?_)
 ·obtain ⟨a,ns,k,rfl,_⟩:=h
  rfl
 ·obtain ⟨a,ns,k,rfl,hS,h0,h1,q⟩:=h
  refine ⟨_,ag (aw (i:=2) jy.nd rfl (Or.inl rfl) (az Fc hr (aa (pv 0) (aa (pv 1) af))))
   (ag (be (aE bK (aj aS (pv 2) ac) ac (aC _)) (am (aF (aj bx (pv 2) ac))) aQ)
   (am (aF (az Fo hr (aa (az Fn hr (aa (aj aS (aj bd (pv 2) (aj db (aj db ac (pv 1)) (pv 1))) ac) af)) af))))),?_⟩
  refine ⟨_,rfl,_,rfl,a,ns,k,rfl,hS,h0,fun z=>?_⟩
  refine ⟨_,rfl,_,_,rfl,rfl,(by dsimp only; decide),rfl,_,rfl,?_⟩
  refine bz (fun _=>?_) (fun _=>?_)
  ·exact ⟨_,rfl,_,_,rfl,rfl,⟨by decide,by decide⟩,q _⟩
  ·refine ⟨_,rfl,_,rfl,_,_,rfl,rfl,.inl ⟨by decide,by decide⟩,_,rfl,_,_,rfl,rfl,.inr ⟨by omega,by omega⟩,_,_,rfl,rfl,_,_,rfl,rfl,(by dsimp only; decide),?_⟩
   refine ⟨_,rfl,Int.emod_nonneg _ (by decide),?_,fun y h2 h3=>?_⟩
   ·have:=Int.emod_lt_of_pos (z + 69621 * k * k) (show (0:Int) < 2147483647 by decide)
    omega
   ·exact ⟨_,rfl,h2,by omega,fun u _ _=>q u⟩
theorem jz:aN ["_law_script","_law_k","_law_base","_law_many","_law_left","_law_found","_law_x","_law_j"] ["_law_script","_law_k","_law_base","_law_many"] (ai dY):=fsc (by decide +kernel)
theorem mj {f:Addr} {fd:FuncData} (F:Fun K "_law_digits" "_law_digits" dY f fd) (T:Blt mg) (Fc:bb P w K mg base 1 "_law_cell_at" ["_law_script","_law_k"] (gM K)) (Fn:bb P w K mg base 1 "_law_next" ["_law_x"] dF) (Fo:bb P w K mg base 1 "_law_other" ["_law_x"] dF)
  (Fm:bb P w K mg base 2 "_law_number" ["_law_script","_law_k"] (ff K)):bG P w K mg base CX0 3 f fd ["_law_script","_law_k","_law_base","_law_many"] (fg K):=by
 refine F.ok jz (fun vs H Q E h=>?_) (fun cdv A outer s H vs Q E hr h=>?_)
 ·obtain ⟨a,ns,k,b,m,rfl,_⟩:=h
  rfl
 ·obtain ⟨a,ns,k,b,m,rfl,hS,h0,h1,hb0,hb1,hm0,hm1,q⟩:=h
  have hr1:bP 1 _:=hr.mono (by decide)
  have nd:=jz.nd
  refine ⟨_,ag (aw (i:=4) nd rfl (Or.inl rfl) (az Fm hr (aa (pv 0) (aa (pv 1) af))))
   (ag (aw (i:=5) nd rfl (Or.inl rfl) (mO af))
   (ag (aw (i:=6) nd rfl (Or.inl rfl) (aj aS (aj bd (pv 4) (aj db ac (pv 1))) ac))
   (ag (be (aE bK (aj aS (az Fc hr1 (aa (pv 0) (aa (pv 1) af))) ac) ac (aC _)) (am (aw (i:=4) nd rfl (Or.inl rfl) ac)) aQ)
   (ag (eG PassesOwn.never rfl (de rfl T.range (aa (pv 3) af)) (aH (i:=7) nd rfl (Or.inl rfl))
    (ag (aw (i:=6) nd rfl (Or.inl rfl) (az Fo hr1 (aa (az Fn hr1 (aa (aj bd (pv 6) (pv 7)) af)) af)))
    (ag (dO (ck PySem.F.plainAttrs_list PySem.F.slot_list_append PySem.F.type_list_append dg (pv 5) (aa (aj aS (aB ay (mO (aa (pv 6) (aa (pv 4) af))) (aT dQ (by rfl) T.int nF (aa (bo fN (pv 4) ac (aC _)) af)) (fun _ _=>rfl)) (pv 2)) af)))
    (am (aw (i:=4) nd rfl (Or.inl rfl) (aj bx (pv 4) (pv 2)))))))
   (am (aF (pv 5))))))),?_⟩
  refine ⟨_,rfl,_,rfl,a,ns,k,rfl,hS,h0,h1,fun z=>?_⟩
  refine ⟨Nat.zero_le _,fun p hp=>?_⟩
  refine ⟨_,rfl,_,rfl,_,_,rfl,rfl,.inl ⟨by decide,by decide⟩,_,_,rfl,rfl,_,_,rfl,rfl,(by dsimp only; decide),?_⟩
  have s1:ar H (upd H p (.lst [])):=.new hp
  refine ⟨_,rfl,_,rfl,a,ns,k,rfl,s1.seq hS,h0,fun z2=>?_⟩
  refine ⟨_,_,rfl,rfl,(by dsimp only; decide),rfl,_,rfl,?_⟩
  have hx0:=Int.emod_nonneg (z + 7919 * k) (show (2147483647:Int) ≠ 0 by decide)
  have hx1:=Int.emod_lt_of_pos (z + 7919 * k) (show (0:Int) < 2147483647 by decide)
  refine bz (fun _=>?_) (fun _=>?_)
  all_goals
   refine ⟨_,rfl,m,rfl,by omega,by omega,fz (lo:=0) (n:=m.toNat) (fun i σ H2=>∃ (left x:Int) (jv:Option V) (ds:List Int),σ=[some (V.ref a),some (V.int k),some (V.int b),some (V.int m),some (V.int left),some (V.ref p),some (V.int x),jv] /\ 0 <= x /\ x < 2147483648 /\ ds.length=i /\ (∀ d ∈ ds,0 <= d /\ d < b) /\ H2 p=some (.lst (ds.map V.int)) /\ ar H H2)
    ⟨_,_,none,[],rfl,hx0,by omega,rfl,fun d hd=>(by simp at hd),au,s1⟩ ?_ ?_⟩
   ·rintro i σ H2 hi ⟨left,x,jv,ds,rfl,h2,h3,hl,hd,hH,sm⟩
    refine ⟨_,rfl,_,rfl,_,_,rfl,rfl,_,rfl,by omega,by omega,fun y h4 h5=>?_⟩
    refine ⟨_,rfl,h4,by omega,fun x' h6 h7=>?_⟩
    refine ⟨_,rfl,.inl ⟨rfl,_,SqL.of hH⟩,_,rfl,_,rfl,(by show 2 <= sizeLine; decide),fun l hl2=>?_⟩
    have npl:p ≠ l:=aA hH hl2
    refine ⟨_,rfl,_,_,rfl,rfl,.inr ⟨_,rfl,?_⟩⟩
    obtain ⟨z3,hz3⟩:=at2 x' left (decide (0 < left))
    refine ⟨l,_,_,_,rfl,rfl,SqL.of au,hz3,_,rfl,_,_,rfl,rfl,hb0,?_⟩
    refine ⟨p,_,_,rfl,rfl,(by rw [aD npl]; exact hH),(by rw [List.length_map]; exact bM (by omega)),?_⟩
    refine ⟨_,rfl,_,rfl,_,_,rfl,rfl,⟨hb0,by omega⟩,?_⟩
    refine ⟨_,x',_,ds ++ [z3 % b],rfl,h6,h7,by rw [List.length_append,hl]; rfl,?_,by rw [au,List.map_append]; rfl,?_⟩
    ·intro d hd'
     rcases List.mem_append.mp hd' with q1 | q1
     ·exact hd d q1
     ·rw [List.mem_singleton.mp q1]
      exact ⟨Int.emod_nonneg _ (by omega),Int.emod_lt_of_pos _ hb0⟩
    ·exact fun c o e=>by
      rw [aD (aA e hp),aD (aA (sm c o e) hl2)]
      exact sm c o e
   ·rintro σ H2 ⟨left,x,jv,ds,rfl,h2,h3,hl,hd,hH,sm⟩
    exact ⟨_,rfl,q ds p H2 sm hp hH (by omega) hd⟩
end
end K28
namespace L2
open PySem PySem.Spec PyProof.Rows
theorem dG {X:Cx} {scope:Scope} {cl:List (Str × Addr)} {N2 ys:List Str} {C:Addr} {s:Shared} {H:Hp} {fp:List Addr}:IxR (cxC X scope cl N2 ys C s H fp) (rIxL X.K):=ay
end L2
namespace K28
open PySem L2
abbrev cS:Stmt:=top 43
def Lt (x:Str):Prop:=∀ c ∈ x.cps.toList,97 <= c /\ c <= 122
def Nm (x:Str):Prop:=1 <= x.length /\ x.length <= 8 /\ Lt x
def gi (K:PySem.W.Frag):Sp:=fun vs H Q _=>∃ (a:Addr) (ns:List Int) (k m:Int),vs=[.ref a,.int k,.int m] /\ SqL K H a (ns.map V.int) /\ 0 <= k /\ k <= 100 /\ 9 <= m /\ m <= 26 /\
 ∀ (ys:List Str) (p:Addr) (H':Hp),ar H H' -> H p=none -> H' p=some (.lst (ys.map V.str)) -> (ys.length:Int)=m -> (∀ (i j:Nat) (y:Str),ys[i]?=some y -> ys[j]?=some y -> i=j) -> (∀ y ∈ ys,Nm y) -> Q (.ref p) H'
abbrev cx:List Str:=["_law_script","_law_k","_law_many","_law_letters","_law_row","_law_size","_law_base","_law_at"]
theorem abc_len:(Str.ofString "abcdefghijklmnopqrstuvwxyz").cps.toList.length=26:=by decide +kernel
theorem abc_all:∀ n:_root_.Fin 26,(Str.ofString "abcdefghijklmnopqrstuvwxyz").cps.toList[n.val]?=some (97 + n.val):=by decide +kernel
theorem abc_at {i:Int} (h0:0 <= i) (h1:i < 26):atI (Str.ofString "abcdefghijklmnopqrstuvwxyz").cps.toList i=some (97 + i.toNat):=by
 obtain ⟨n,rfl⟩:=Int.eq_ofNat_of_zero_le h0
 exact ba (abc_all ⟨n,by omega⟩)
theorem idx0 {n len:Nat} (h:n <= len):Builtin.Str.strSliceIndices none (some (n:Int)) 1 len=(List.range n).map fun k=>0 + k:=by
 have e:=StrLaws.strSliceIndices_plain (a:=0) (b:=n) (len:=len) (Nat.zero_le _) h
 rw [Nat.sub_zero] at e
 rw [<- e]
 have z:max (0:Int) (min 0 (len:Int))=0:=by omega
 unfold Builtin.Str.strSliceIndices sliceRange
 simp [z]
theorem j8 {x:Str} {n:Nat} (h:n <= x.length):(Txt.slice x none (some (n:Int))).cps.toList=x.cps.toList.take n:=by
 have hx:x.cps.toList.length=x.length:=by simp [Str.length]
 unfold Txt.slice
 have e:(Builtin.Str.strSliceIndices none (some (n:Int)) 1 x.length).length=n:=by rw [idx0 h,List.length_map,List.length_range]
 by_cases c:n=x.length
 ·rw [if_pos (by rw [e,c]; simp),c,<- hx,List.take_length]
 ·rw [if_neg (by rw [e]; simp [c])]
  have e2:Builtin.Str.strSliceIndices none (some (n:Int)) 1 x.length=Builtin.Str.strSliceIndices (some ((0:Nat):Int)) (some (n:Int)) 1 x.length:=by
   rw [idx0 h,StrLaws.strSliceIndices_plain (Nat.zero_le _) h,Nat.sub_zero]
  rw [e2]
  show ((Builtin.Str.strSliceIndices (some ((0:Nat):Int)) (some (n:Int)) 1 x.length).filterMap (x.cps[·]?)).toArray.toList=_
  rw [StrLaws.sliced_plain x (Nat.zero_le _) h]
  simp
theorem eM {x:Str} {n:Nat} (h:n <= x.length):(Txt.slice x none (some (n:Int))).length=n:=by
 have hx:x.cps.toList.length=x.length:=by simp [Str.length]
 have e:=congrArg List.length (j8 h)
 rw [List.length_take,hx,Nat.min_eq_left h] at e
 simpa [Str.length] using e
theorem nH:∀ zs:List Str,(Txt.join (Str.ofString "") zs).length=(zs.map (·.length)).sum:=by
 intro zs
 show (Builtin.Str.glued (Str.ofString "") zs).length=_
 rw [StrLaws.glued_eq_join]
 induction zs with
 | nil=>rfl
 | cons z r ih =>
  cases r with
  | nil=>simp [Str.join]
  | cons y r' =>
   show (z ++ Str.ofString "" ++ Str.join (Str.ofString "") (y :: r')).length=_
   rw [Str.length_append,Str.length_append,ih]
   have e0:(Str.ofString "").length=0:=rfl
   rw [e0]
   simp only [List.map_cons,List.sum_cons]
   omega
theorem sum_eq {zs:List Str} (h:∀ z ∈ zs,z.length=1):(zs.map (·.length)).sum=zs.length:=by
 induction zs with
 | nil=>rfl
 | cons z r ih =>
  simp only [List.map_cons,List.sum_cons,List.length_cons]
  have:=h z List.mem_cons_self
  have:=ih fun y hy=>h y (List.mem_cons_of_mem _ hy)
  omega
theorem cut_len {xs:List V} {s:Int} (hl:xs.length=10) (h0:0 <= s) (h1:s <= 8):(bB xs (some 2) (some (2 + s))).length=s.toNat:=by
 obtain ⟨n,rfl⟩:=Int.eq_ofNat_of_zero_le h0
 unfold bB
 have e1:HT.sIx xs.length 0 (some 2)=2:=by rw [show HT.sIx xs.length 0 (some 2)=min 2 xs.length from HT.bY _ _ 2]; omega
 have e2:HT.sIx xs.length xs.length (some (2 + (n:Int)))=2 + n:=by
  have:=HT.bY xs.length xs.length (2 + n)
  rw [show (2 + (n:Int))=((2 + n:Nat):Int) by omega,this]
  omega
 rw [e1,e2,List.length_take,List.length_drop]
 omega
theorem iA (c:Nat) {n:Int} (h:1 <= n):(Txt.mul ⟨#[c]⟩ n).cps.toList.getD 0 0=c:=by
 unfold Txt.mul
 rw [if_neg (by omega)]
 split
 ·rfl
 ·obtain ⟨k,rfl⟩:∃ k:Nat,n=((k + 1:Nat):Int):=⟨(n - 1).toNat,by omega⟩
  rw [Int.toNat_natCast,List.replicate_succ,List.foldl_cons]
  have key:∀ (l:List (Array Nat)) (a:Array Nat),a.toList.getD 0 0=c -> 0 < a.toList.length -> (l.foldl (· ++ ·) a).toList.getD 0 0=c:=by
   intro l
   induction l with
   | nil=>intro a h _; exact h
   | cons b r ih =>
    intro a ha hl
    rw [List.foldl_cons]
    refine ih _ ?_ ?_
    ·rw [Array.toList_append,List.getD_eq_getElem?_getD,List.getElem?_append_left hl,<- List.getD_eq_getElem?_getD]
     exact ha
    ·rw [Array.toList_append,List.length_append]; omega
  exact key _ _ (by simp) (by simp)
theorem gN:(Str.ofString "abcdefghijklmnopqrstuvwxyz").length <= sizeLine:=by
 have:(Str.ofString "abcdefghijklmnopqrstuvwxyz").length=26:=abc_len
 rw [this,sizeLine_eq]; decide
theorem fF {zs:List Str} {L:Nat} (h:∀ z ∈ zs,z.length <= L):(zs.map (·.length)).sum <= zs.length * L:=by
 induction zs with
 | nil=>simp
 | cons z r ih =>
  simp only [List.map_cons,List.sum_cons,List.length_cons,Nat.succ_mul]
  have:=h z List.mem_cons_self
  have:=ih fun y hy=>h y (List.mem_cons_of_mem _ hy)
  omega
theorem iZ {ds:List Int} {i:Nat} (h:i < ds.length):atI (ds.map V.int) (i:Int)=some (.int (ds.getD i 0)):=by
 refine kM (f:=V.int) (by omega) ?_
 rw [Int.toNat_natCast,List.getElem?_eq_getElem h,List.getD_eq_getElem?_getD,List.getElem?_eq_getElem h]; rfl
theorem nI {ds:List Int} {i:Nat} (h:i < ds.length):ds.getD i 0 ∈ ds:=by
 rw [List.getD_eq_getElem?_getD,List.getElem?_eq_getElem h]
 exact List.getElem_mem h
theorem strsP {ys:List V} {R:Nat -> Str -> Prop} (h:∀ (i:Nat) (y:V),ys[i]?=some y -> ∃ x:Str,y=V.str x /\ R i x):∃ zs:List Str,ys=zs.map V.str /\ ∀ (i:Nat) (z:Str),zs[i]?=some z -> R i z:=by
 induction ys generalizing R with
 | nil=>exact ⟨[],rfl,fun i z hz=>by simp at hz⟩
 | cons y r ih =>
  obtain ⟨x,rfl,hx⟩:=h 0 y rfl
  obtain ⟨zs,e,hz⟩:=ih (R:=fun i=>R (i + 1)) fun i z e=>h (i + 1) z (by simpa using e)
  refine ⟨x :: zs,by rw [e]; rfl,fun i z hz'=>?_⟩
  cases i with
  | zero=>simp at hz'; subst hz'; exact hx
  | succ i=>exact hz i z (by simpa using hz')
theorem mid {a b:Str} {c n:Nat} (h:a.length=n):((a ++ ⟨#[c]⟩) ++ b).cps.toList.getD n 0=c:=by
 have hx:a.cps.toList.length=n:=by rw [<- h]; simp [Str.length]
 rw [Str.cps_append,Str.cps_append,Array.toList_append,Array.toList_append,List.getD_eq_getElem?_getD,List.append_assoc,List.getElem?_append_right (by omega),hx,Nat.sub_self]
 rfl
section
variable {P:Program} {w:World} {K:PySem.W.Frag} {mg:Str -> Option Value} {base:Heap}
theorem Lt.one {n:Int} (h0:0 <= n) (h1:n < 26):Lt ⟨#[97 + n.toNat]⟩:=by
 intro c hc
 have:c=97 + n.toNat:=by simpa using hc
 omega
theorem Lt.app {a b:Str} (ha:Lt a) (hb:Lt b):Lt (a ++ b):=by
 intro c hc
 rw [Str.cps_append,Array.toList_append] at hc
 rcases List.mem_append.mp hc with h | h
 ·exact ha c h
 ·exact hb c h
theorem Lt.join {zs:List Str} (h:∀ z ∈ zs,Lt z):Lt (Txt.join (Str.ofString "") zs):=by
 show Lt (Builtin.Str.glued (Str.ofString "") zs)
 rw [StrLaws.glued_eq_join]
 induction zs with
 | nil=>intro c hc; exact (nomatch hc)
 | cons z r ih =>
  cases r with
  | nil=>exact h z (List.mem_cons_self ..)
  | cons y r' =>
   have h0:Lt (Str.ofString ""):=by
    intro c hc
    have e:(Str.ofString "").cps.toList=[]:=rfl
    rw [e] at hc
    exact (nomatch hc)
   show Lt (z ++ Str.ofString "" ++ Str.join (Str.ofString "") (y :: r'))
   exact ((h z (List.mem_cons_self ..)).app h0).app (ih fun z hz=>h z (List.mem_cons_of_mem _ hz))
theorem Lt.mul {c:Nat} {n:Int} (h:Lt ⟨#[c]⟩):Lt (Txt.mul ⟨#[c]⟩ n):=by
 unfold Txt.mul
 split
 ·intro c hc; exact (nomatch hc)
 ·split
  ·exact h
  ·have key:∀ (l:List (Array Nat)) (a:Array Nat),Lt ⟨a⟩ -> (∀ b ∈ l,Lt ⟨b⟩) -> Lt ⟨l.foldl (· ++ ·) a⟩:=by
    intro l
    induction l with
    | nil=>intro a h _; exact h
    | cons b r ih =>
     intro a ha hl
     rw [List.foldl_cons]
     exact ih _ (Lt.app (a:=⟨a⟩) (b:=⟨b⟩) ha (hl b (List.mem_cons_self ..))) (fun b hb=>hl b (List.mem_cons_of_mem _ hb))
   exact key _ _ (fun c hc=>(nomatch hc)) (fun b hb=>by rw [(List.mem_replicate.mp hb).2]; exact h)
theorem Lt.take {x:Str} {n:Nat} (h:Lt x) (hn:n <= x.length):Lt (Txt.slice x none (some (n:Int))):=by
 intro c hc
 rw [j8 hn] at hc
 exact h c (List.mem_of_mem_take hc)
theorem cL {x:Str} {n:Nat} (hn:n <= x.length):(Txt.slice x (some (n:Int)) none).cps.toList=x.cps.toList.drop n:=by
 have hx:x.cps.toList.length=x.length:=by simp [Str.length]
 rw [PyProof.Rows.slice_from_eq (b:=x.length) (by omega) (by omega) rfl]
 show (((x.cps.toList.drop n).take ((x.length:Int) - (n:Int)).toNat).toArray).toList=_
 rw [List.toList_toArray,List.take_of_length_le (by rw [List.length_drop]; omega)]
theorem Lt.from {x:Str} {n:Nat} (h:Lt x) (hn:n <= x.length):Lt (Txt.slice x (some (n:Int)) none):=by
 intro c hc
 rw [cL hn] at hc
 exact h c (List.mem_of_mem_drop hc)
theorem dk {x:Str} {n:Nat} (hn:n <= x.length):(Txt.slice x (some (n:Int)) none).length=x.length - n:=by
 have hx:x.cps.toList.length=x.length:=by simp [Str.length]
 have e:=congrArg List.length (cL hn)
 rw [List.length_drop,hx] at e
 simpa [Str.length] using e
theorem kQ:aN cx ["_law_script","_law_k","_law_many"] (ai cS):=fsc (by decide +kernel)
theorem kR:(cx ++ (["_law_digit"]:List Str)).Nodup:=by decide +kernel
theorem ndJ:(cx ++ (["_law_j"]:List Str)).Nodup:=by decide +kernel
theorem nJ {f:Addr} {fd:FuncData} (F:Fun K "_law_names" "_law_names" cS f fd) (T:Blt mg) (Fd:bb P w K mg base 3 "_law_digits" ["_law_script","_law_k","_law_base","_law_many"] (fg K)) :
  bG P w K mg base CX0 4 f fd ["_law_script","_law_k","_law_many"] (gi K):=by
 refine F.ok kQ (fun vs H Q E h=>?_) (fun cdv A outer s H vs Q E hr h=>?_)
 ·obtain ⟨a,ns,k,m,rfl,_⟩:=h
  rfl
 ·obtain ⟨a,ns,k,m,rfl,hS,h0,h1,hm0,hm1,q⟩:=h
  have nd:=kQ.nd
  refine ⟨_,ag (aw (i:=3) nd rfl (Or.inr rfl) ao)
   (ag (aw (i:=4) nd rfl (Or.inr rfl) (az Fd hr (aa (pv 0) (aa (pv 1) (aa ac (aa ac af))))))
   (ag (aw (i:=5) nd rfl (Or.inl rfl) (aj bd ac (aj aS (aB ay (pv 4) ac (fun _ _=>rfl)) ac)))
   (ag (aw (i:=6) nd rfl (Or.inr rfl) (ck PySem.F.plainAttrs_str PySem.F.slot_str_join PySem.F.type_str_join gb ao (aa
    (b8 cx cx ["_law_digit"] (ai cS) rfl rfl rfl (by decide +kernel) rfl rfl (by decide +kernel) (by decide +kernel) (by decide +kernel) (by decide +kernel)
     (dP (aG bO (pv 4) (aI ac) (aI (aj bd ac (pv 5))))) (fun _ _ _ _ _=>aH (i:=8) kR rfl (Or.inl rfl)) (fun _ _ _ _ _=>bE)
     (fun _ _ _ _ _=>aB fB (pv 3) (aj aS (pv 8) ac) (fun _ _=>rfl))) af)))
   (ag (be (jT (aE bK (aj aS (aB ay (pv 4) ac (fun _ _=>rfl)) ac) ac (aC _)) (iQ (aE cN (pv 2) ac (aC _)))).pt
    (ag (aw (i:=6) nd rfl (Or.inr rfl) (ck PySem.F.plainAttrs_str PySem.F.slot_str_join PySem.F.type_str_join gb ao (aa
     (b8 cx cx ["_law_digit"] (ai cS) rfl rfl rfl (by decide +kernel) rfl rfl (by decide +kernel) (by decide +kernel) (by decide +kernel) (by decide +kernel)
      (dP (aG bO (pv 4) (aI ac) (aI ac))) (fun _ _ _ _ _=>aH (i:=8) kR rfl (Or.inl rfl)) (fun _ _ _ _ _=>bE)
      (fun _ _ _ _ _=>aB fB (pv 3) (aj aS (pv 8) ac) (fun _ _=>rfl))) af)))
    (am (aF (b8 cx cx ["_law_j"] (ai cS) rfl rfl rfl (by decide +kernel) rfl rfl (by decide +kernel) (by decide +kernel) (by decide +kernel) (by decide +kernel)
     (de (by rfl) T.range (aa (pv 2) af)) (fun _ _ _ _ _=>aH (i:=8) ndJ rfl (Or.inl rfl)) (fun _ _ _ _ _=>bE)
     (fun _ _ _ _ _=>aG eJ (pv 6) aV (aI (aj bd (pv 8) ac))))))) aQ)
   (ag (be (aE bK (aj aS (aB ay (pv 4) ac (fun _ _=>rfl)) ac) ac (aC _))
    (am (aF (b8 cx cx ["_law_j"] (ai cS) rfl rfl rfl (by decide +kernel) rfl rfl (by decide +kernel) (by decide +kernel) (by decide +kernel) (by decide +kernel)
     (de (by rfl) T.range (aa (pv 2) af)) (fun _ _ _ _ _=>aH (i:=8) ndJ rfl (Or.inl rfl)) (fun _ _ _ _ _=>bE)
     (fun _ _ _ _ _=>aj eI (aB fB (pv 3) (aj aS (aj bd (aB dG (pv 4) ac (fun _ _=>rfl)) (aj db ac (pv 8))) ac) (fun _ _=>rfl))
      (aj bd ac (aj aS (aj bd (aB dG (pv 4) (aj bd ac (aj aS (pv 8) ac)) (fun _ _=>rfl)) (pv 8)) ac)))))) aQ)
   (ag (aw (i:=7) nd rfl (Or.inr rfl) (aj aS (aj bx (aB ay (pv 4) ac (fun _ _=>rfl)) ac) (pv 5)))
   (am (aF (b8 cx cx ["_law_j"] (ai cS) rfl rfl rfl (by decide +kernel) rfl rfl (by decide +kernel) (by decide +kernel) (by decide +kernel) (by decide +kernel)
     (de (by rfl) T.range (aa (pv 2) af)) (fun _ _ _ _ _=>aH (i:=8) ndJ rfl (Or.inl rfl)) (fun _ _ _ _ _=>bE)
     (fun _ _ _ _ _=>aj aq (aj aq (aG eJ (pv 6) aV (aI (pv 7)))
      (aB fB (pv 3) (aj aS (aj bd (aB dG (pv 4) (aj bd ac (pv 7)) (fun _ _=>rfl)) (pv 8)) ac) (fun _ _=>rfl)))
      (aG eJ (pv 6) (aI (aj bd (pv 7) ac)) aV))))))))))),?_⟩
  have cut_int:∀ (ds:List Int) (lo hi:Option Int) (i:Nat) (x:V),(bB (ds.map V.int) lo hi)[i]?=some x -> ∃ d:Int,x=.int d:=fun ds lo hi i x e=>by
   have hm:x ∈ bB (ds.map V.int) lo hi:=List.mem_of_getElem? e
   have hm2:x ∈ ds.map V.int:=List.mem_of_mem_drop (List.mem_of_mem_take hm)
   obtain ⟨d,_,rfl⟩:=List.mem_map.mp hm2
   exact ⟨d,rfl⟩
  refine ⟨_,rfl,_,rfl,a,ns,k,208,10,rfl,hS,h0,h1,by decide,by decide,by decide,by decide,fun ds p H1 sm1 hp hH hl hd=>?_⟩
  have hl:ds.length=10:=by omega
  have dA:∀ i:Nat,i < 10 -> 0 <= ds.getD i 0 /\ ds.getD i 0 < 208:=fun i hi=>hd _ (nI (by omega))
  have rA:∀ i:Nat,i < 10 -> atI (ds.map V.int) (i:Int)=some (.int (ds.getD i 0)):=fun i hi=>iZ (by omega)
  refine ⟨_,rfl,p,_,_,_,rfl,rfl,SqL.of hH,rA 0 (by decide),_,_,rfl,rfl,(by dsimp only; decide),_,_,rfl,rfl,?_⟩
  have one:∀ (d:Int),atI (Str.ofString "abcdefghijklmnopqrstuvwxyz").cps.toList (d % 26)=some (97 + (d % 26).toNat):=fun d=>abc_at (Int.emod_nonneg _ (by decide)) (Int.emod_lt_of_pos _ (by decide))
  have hz0:=Int.emod_nonneg (ds.getD 0 0) (show (8:Int) ≠ 0 by decide)
  have hz8:=Int.emod_lt_of_pos (ds.getD 0 0) (show (0:Int) < 8 by decide)
  have hs16:sizeLine=16777216:=sizeLine_eq
  have e00:(Str.ofString "").length=0:=rfl
  have hml:(ds.map V.int).length=10:=by rw [List.length_map]; exact hl
  refine ⟨rfl,_,rfl,_,rfl,_,rfl,_,_,rfl,rfl,_,rfl,p,_,rfl,SqL.of hH,fun p2 hp2=>?_⟩
  refine ⟨p2,rfl,⟨_,SqL.of au⟩,?_⟩
  have cl1:=cut_len (s:=1 + ds.getD 0 0 % 8) hml (by omega) (by omega)
  refine lcL0 (xs:=bB (ds.map V.int) (some 2) (some (2 + (1 + ds.getD 0 0 % 8)))) (fun _ y=>∃ x:Str,y=V.str x /\ (x.length=1 /\ Lt x)) ?_ ?_ ?_ ?_ ?_
  ·rfl
  ·exact SqL.of au
  ·rw [cl1]; omega
  ·intro D i x ys post hx hD hpost
   obtain ⟨d,rfl⟩:=cut_int _ _ _ _ _ hx
   exact ⟨_,rfl,_,rfl,_,_,rfl,rfl,(by dsimp only; decide),_,_,_,rfl,rfl,gN,one d,hpost _ ⟨_,rfl,rfl,Lt.one (Int.emod_nonneg _ (by decide)) (Int.emod_lt_of_pos _ (by decide))⟩⟩
  intro D ys hD hyl hR
  obtain ⟨zs,rfl,hzz⟩:=strsP (R:=fun _ x=>x.length=1 /\ Lt x) hR
  have hz1:∀ z ∈ zs,z.length=1:=fun z hz=>by
   obtain ⟨i,hi,rfl⟩:=List.mem_iff_getElem.mp hz
   exact (hzz i _ (List.getElem?_eq_getElem hi)).1
  have hzL:∀ z ∈ zs,Lt z:=fun z hz=>by
   obtain ⟨i,hi,rfl⟩:=List.mem_iff_getElem.mp hz
   exact (hzz i _ (List.getElem?_eq_getElem hi)).2
  have hzl:zs.length=(1 + ds.getD 0 0 % 8).toNat:=by rw [List.length_map] at hyl; omega
  have hsum:=sum_eq hz1
  refine ⟨_,D,zs,rfl,rfl,SqL.of au,(by rw [e00]; omega),?_⟩
  have hb:(Txt.join (Str.ofString "") zs).length=(1 + ds.getD 0 0 % 8).toNat:=by rw [nH]; omega
  have hbL:=Lt.join hzL
  generalize Txt.join (Str.ofString "") zs=bs at hb hbL ⊢
  have s2:ar H1 (upd (upd H1 p2 (HO.lst (bB (ds.map V.int) (some 2) (some (2 + (1 + ds.getD 0 0 % 8)))))) D (HO.lst (zs.map V.str))):=(ar.new hp2).trans (ar.new hD)
  generalize upd (upd H1 p2 (HO.lst (bB (ds.map V.int) (some 2) (some (2 + (1 + ds.getD 0 0 % 8)))))) D (HO.lst (zs.map V.str))=H2 at s2 ⊢
  have hH2:=s2 _ _ hH
  have sm2:ar H H2:=sm1.trans s2
  have fin:∀ (H3:Hp) (D':Addr) (vs:List V) (fm:Str -> Nat) (gm:Nat -> Nat),ar H H3 -> H3 D'=none -> vs.length=m.toNat -> (∀ (i:Nat) (y:V),vs[i]?=some y -> ∃ x:Str,y=V.str x /\ (fm x=gm i /\ Nm x)) -> (∀ i j,i < 26 -> j < 26 -> gm i=gm j -> i=j) -> Q (.ref D') (upd H3 D' (.lst vs)):=fun H3 D' vs fm gm e hD' hvl hv hg=>by
   obtain ⟨xs,rfl,hxx⟩:=strsP (R:=fun i x=>fm x=gm i /\ Nm x) hv
   rw [List.length_map] at hvl
   refine q xs D' _ (e.trans (.new hD')) (e.none hD') au (by omega) (fun i j y h1 h2=>?_) (fun y hy=>by obtain ⟨i,hi,rfl⟩:=List.mem_iff_getElem.mp hy; exact (hxx i _ (List.getElem?_eq_getElem hi)).2)
   have hi:=(List.getElem?_eq_some_iff.mp h1).1
   have hj:=(List.getElem?_eq_some_iff.mp h2).1
   exact hg i j (by omega) (by omega) ((hxx i y h1).1.symm.trans (hxx j y h2).1)
  refine ⟨_,rfl,p,_,_,_,rfl,rfl,SqL.of hH2,rA 1 (by decide),_,_,rfl,rfl,(by dsimp only; decide),rfl,_,rfl,?_⟩
  refine bz (fun _=>?_) (fun _=>?_)
  ·refine ⟨_,rfl,_,_,rfl,rfl,_,rfl,?_⟩
   refine bz (fun z=>absurd (of_decide_eq_true z) (by omega)) (fun _=>?_)
   refine ⟨_,rfl,p,_,_,_,rfl,rfl,SqL.of hH2,rA 1 (by decide),_,_,rfl,rfl,(by dsimp only; decide),rfl,_,rfl,?_⟩
   refine bz (fun _=>?_) (fun _=>?_)
   ·refine ⟨_,rfl,m,rfl,by omega,by omega,?_⟩
    refine lcR0 (fun i y=>∃ x:Str,y=V.str x /\ (x.cps.toList.getD 0 0=97 + ((ds.getD 2 0 + 5 * (0 + (i:Int))) % 26).toNat /\ Nm x)) ?_ ?_ ?_ ?_
    ·rfl
    ·omega
    ·intro D i ys post hi hD hpost
     have hH3:(upd H2 D (.lst ys)) p=some (.lst (ds.map V.int)):=by rw [aD (aA hH2 hD)]; exact hH2
     have hc:=one (ds.getD 2 0 + 5 * (0 + (i:Int)))
     have e7:(3 + (0 + (i:Int)) % 7)=((3 + i % 7:Nat):Int):=by omega
     refine ⟨_,rfl,_,rfl,p,_,_,_,rfl,rfl,SqL.of hH3,rA 2 (by decide),_,rfl,_,_,rfl,rfl,.inl ⟨by decide,by decide⟩,_,_,rfl,rfl,_,_,rfl,rfl,(by dsimp only; decide),_,_,_,rfl,rfl,gN,hc,?_⟩
     refine ⟨_,rfl,_,rfl,_,_,rfl,rfl,(by dsimp only; decide),_,_,rfl,rfl,p,_,_,_,rfl,rfl,SqL.of hH3,(by rw [e7]; exact rA _ (by omega)),_,rfl,_,_,rfl,rfl,_,_,rfl,rfl,(by dsimp only; decide),_,_,rfl,rfl,?_⟩
     have hm0:=Int.emod_nonneg (ds.getD (3 + i % 7) 0 + (0 + (i:Int))) (show (8:Int) ≠ 0 by decide)
     have hm1:=Int.emod_lt_of_pos (ds.getD (3 + i % 7) 0 + (0 + (i:Int))) (show (0:Int) < 8 by decide)
     refine ⟨_,_,rfl,rfl,dC (by omega) (by omega) (by show 1 <= 1000; decide),hpost _ ⟨_,rfl,?_⟩⟩
     have hf:=iA (97 + ((ds.getD 2 0 + 5 * (0 + (i:Int))) % 26).toNat) (n:=1 + (ds.getD (3 + i % 7) 0 + (0 + (i:Int))) % 8) (by omega)
     refine ⟨hf,?_,?_,Lt.mul (Lt.one (Int.emod_nonneg _ (by decide)) (Int.emod_lt_of_pos _ (by decide)))⟩
     ·rcases Nat.eq_zero_or_pos (Txt.mul ⟨#[97 + ((ds.getD 2 0 + 5 * (0 + (i:Int))) % 26).toNat]⟩ (1 + (ds.getD (3 + i % 7) 0 + (0 + (i:Int))) % 8)).length with h | h
      ·have hn:(Txt.mul ⟨#[97 + ((ds.getD 2 0 + 5 * (0 + (i:Int))) % 26).toNat]⟩ (1 + (ds.getD (3 + i % 7) 0 + (0 + (i:Int))) % 8)).cps.toList=[]:=List.eq_nil_of_length_eq_zero (by rw [Array.length_toList]; exact h)
       rw [hn] at hf
       have hf:(0:Nat)=97 + _:=hf
       omega
      ·exact h
     ·exact Nat.le_trans (jn (L:=1) (N:=8) (Nat.le_refl 1) (by omega)) (by decide)
    ·intro D' vs hD' hvl hv
     exact fin _ D' vs (fun x=>x.cps.toList.getD 0 0) (fun i=>97 + ((ds.getD 2 0 + 5 * (0 + (i:Int))) % 26).toNat) sm2 hD' hvl hv (fun i j _ _ h=>by omega)
   ·refine ⟨_,rfl,p,_,_,_,rfl,rfl,SqL.of hH2,rA 1 (by decide),_,_,rfl,rfl,⟨by decide,by decide⟩,_,rfl,_,_,rfl,rfl,?_,?_⟩
    ·dsimp only
     omega
    have ha0:=Int.emod_nonneg (ds.getD 1 0 / 4) (show 1 + ds.getD 0 0 % 8 ≠ 0 by omega)
    have ha1:=Int.emod_lt_of_pos (ds.getD 1 0 / 4) (show (0:Int) < 1 + ds.getD 0 0 % 8 by omega)
    obtain ⟨n,hn⟩:∃ n:Nat,ds.getD 1 0 / 4 % (1 + ds.getD 0 0 % 8)=(n:Int):=⟨(ds.getD 1 0 / 4 % (1 + ds.getD 0 0 % 8)).toNat,by omega⟩
    have e2:((2:Int) + ds.getD 1 0 / 4 % (1 + ds.getD 0 0 % 8))=((2 + n:Nat):Int):=by omega
    refine ⟨_,rfl,m,rfl,by omega,by omega,?_⟩
    refine lcR0 (fun i y=>∃ x:Str,y=V.str x /\ (x.cps.toList.getD n 0=97 + ((ds.getD (2 + n) 0 + (0 + (i:Int))) % 26).toNat /\ Nm x)) ?_ ?_ ?_ ?_
    ·rfl
    ·omega
    ·intro D i ys post hi hD hpost
     have hH3:(upd H2 D (.lst ys)) p=some (.lst (ds.map V.int)):=by rw [aD (aA hH2 hD)]; exact hH2
     have hc:=one (ds.getD (2 + n) 0 + (0 + (i:Int)))
     have l1:(Txt.slice bs none (some (ds.getD 1 0 / 4 % (1 + ds.getD 0 0 % 8)))).length=n:=by rw [hn]; exact eM (by omega)
     have e3:ds.getD 1 0 / 4 % (1 + ds.getD 0 0 % 8) + 1=((n + 1:Nat):Int):=by omega
     have l3:(Txt.slice bs (some (ds.getD 1 0 / 4 % (1 + ds.getD 0 0 % 8) + 1)) none).length=bs.length - (n + 1):=by rw [e3]; exact dk (by omega)
     have t1:Lt (Txt.slice bs none (some (ds.getD 1 0 / 4 % (1 + ds.getD 0 0 % 8)))):=by rw [hn]; exact hbL.take (by omega)
     have t2:Lt (Txt.slice bs (some (ds.getD 1 0 / 4 % (1 + ds.getD 0 0 % 8) + 1)) none):=by rw [e3]; exact hbL.from (by omega)
     have l2:=Txt.slice_le bs (some (ds.getD 1 0 / 4 % (1 + ds.getD 0 0 % 8) + 1)) none
     refine ⟨_,rfl,_,rfl,_,rfl,_,rfl,by omega,?_⟩
     refine ⟨_,rfl,_,rfl,_,rfl,_,_,rfl,rfl,p,_,_,_,rfl,rfl,SqL.of hH3,(by rw [e2]; exact rA _ (by omega)),_,rfl,_,_,rfl,rfl,_,_,rfl,rfl,(by dsimp only; decide),_,_,_,rfl,rfl,gN,hc,?_⟩
     have lc:∀ c:Nat,(⟨#[c]⟩:Str).length=1:=fun _=>rfl
     refine ⟨_,_,rfl,rfl,by rw [lc]; omega,?_⟩
     refine ⟨_,rfl,_,rfl,_,_,rfl,rfl,_,rfl,_,rfl,by omega,?_⟩
     exact ⟨_,_,rfl,rfl,by rw [Str.length_append,lc]; omega,hpost _ ⟨_,rfl,mid l1,by rw [Str.length_append,Str.length_append,lc]; omega,by rw [Str.length_append,Str.length_append,lc]; omega,(t1.app (Lt.one (Int.emod_nonneg _ (by decide)) (Int.emod_lt_of_pos _ (by decide)))).app t2⟩⟩
    ·intro D' vs hD' hvl hv
     exact fin _ D' vs (fun x=>x.cps.toList.getD n 0) (fun i=>97 + ((ds.getD (2 + n) 0 + (0 + (i:Int))) % 26).toNat) sm2 hD' hvl hv (fun i j _ _ h=>by omega)
  ·refine bZ ?_
   refine ⟨_,rfl,p,_,_,_,rfl,rfl,SqL.of hH2,rA 1 (by decide),_,_,rfl,rfl,(by dsimp only; decide),rfl,_,rfl,?_⟩
   refine bz (fun _=>?_) (fun _=>?_)
   ·refine ⟨_,rfl,m,rfl,by omega,by omega,?_⟩
    refine lcR0 (fun i y=>∃ x:Str,y=V.str x /\ (x.cps.toList.getD 0 0=97 + ((ds.getD 2 0 + 5 * (0 + (i:Int))) % 26).toNat /\ Nm x)) ?_ ?_ ?_ ?_
    ·rfl
    ·omega
    ·intro D i ys post hi hD hpost
     have hH3:(upd H2 D (.lst ys)) p=some (.lst (ds.map V.int)):=by rw [aD (aA hH2 hD)]; exact hH2
     have hc:=one (ds.getD 2 0 + 5 * (0 + (i:Int)))
     have e7:(3 + (0 + (i:Int)) % 7)=((3 + i % 7:Nat):Int):=by omega
     refine ⟨_,rfl,_,rfl,p,_,_,_,rfl,rfl,SqL.of hH3,rA 2 (by decide),_,rfl,_,_,rfl,rfl,.inl ⟨by decide,by decide⟩,_,_,rfl,rfl,_,_,rfl,rfl,(by dsimp only; decide),_,_,_,rfl,rfl,gN,hc,?_⟩
     refine ⟨_,rfl,_,rfl,_,_,rfl,rfl,(by dsimp only; decide),_,_,rfl,rfl,p,_,_,_,rfl,rfl,SqL.of hH3,(by rw [e7]; exact rA _ (by omega)),_,rfl,_,_,rfl,rfl,_,_,rfl,rfl,(by dsimp only; decide),_,_,rfl,rfl,?_⟩
     have hm0:=Int.emod_nonneg (ds.getD (3 + i % 7) 0 + (0 + (i:Int))) (show (8:Int) ≠ 0 by decide)
     have hm1:=Int.emod_lt_of_pos (ds.getD (3 + i % 7) 0 + (0 + (i:Int))) (show (0:Int) < 8 by decide)
     refine ⟨_,_,rfl,rfl,dC (by omega) (by omega) (by show 1 <= 1000; decide),hpost _ ⟨_,rfl,?_⟩⟩
     have hf:=iA (97 + ((ds.getD 2 0 + 5 * (0 + (i:Int))) % 26).toNat) (n:=1 + (ds.getD (3 + i % 7) 0 + (0 + (i:Int))) % 8) (by omega)
     refine ⟨hf,?_,?_,Lt.mul (Lt.one (Int.emod_nonneg _ (by decide)) (Int.emod_lt_of_pos _ (by decide)))⟩
     ·rcases Nat.eq_zero_or_pos (Txt.mul ⟨#[97 + ((ds.getD 2 0 + 5 * (0 + (i:Int))) % 26).toNat]⟩ (1 + (ds.getD (3 + i % 7) 0 + (0 + (i:Int))) % 8)).length with h | h
      ·have hn:(Txt.mul ⟨#[97 + ((ds.getD 2 0 + 5 * (0 + (i:Int))) % 26).toNat]⟩ (1 + (ds.getD (3 + i % 7) 0 + (0 + (i:Int))) % 8)).cps.toList=[]:=List.eq_nil_of_length_eq_zero (by rw [Array.length_toList]; exact h)
       rw [hn] at hf
       have hf:(0:Nat)=97 + _:=hf
       omega
      ·exact h
     ·exact Nat.le_trans (jn (L:=1) (N:=8) (Nat.le_refl 1) (by omega)) (by decide)
    ·intro D' vs hD' hvl hv
     exact fin _ D' vs (fun x=>x.cps.toList.getD 0 0) (fun i=>97 + ((ds.getD 2 0 + 5 * (0 + (i:Int))) % 26).toNat) sm2 hD' hvl hv (fun i j _ _ h=>by omega)
   ·refine ⟨_,rfl,p,_,_,_,rfl,rfl,SqL.of hH2,rA 1 (by decide),_,_,rfl,rfl,⟨by decide,by decide⟩,_,rfl,_,_,rfl,rfl,?_,?_⟩
    ·dsimp only
     omega
    have ha0:=Int.emod_nonneg (ds.getD 1 0 / 4) (show 1 + ds.getD 0 0 % 8 ≠ 0 by omega)
    have ha1:=Int.emod_lt_of_pos (ds.getD 1 0 / 4) (show (0:Int) < 1 + ds.getD 0 0 % 8 by omega)
    obtain ⟨n,hn⟩:∃ n:Nat,ds.getD 1 0 / 4 % (1 + ds.getD 0 0 % 8)=(n:Int):=⟨(ds.getD 1 0 / 4 % (1 + ds.getD 0 0 % 8)).toNat,by omega⟩
    have e2:((2:Int) + ds.getD 1 0 / 4 % (1 + ds.getD 0 0 % 8))=((2 + n:Nat):Int):=by omega
    refine ⟨_,rfl,m,rfl,by omega,by omega,?_⟩
    refine lcR0 (fun i y=>∃ x:Str,y=V.str x /\ (x.cps.toList.getD n 0=97 + ((ds.getD (2 + n) 0 + (0 + (i:Int))) % 26).toNat /\ Nm x)) ?_ ?_ ?_ ?_
    ·rfl
    ·omega
    ·intro D i ys post hi hD hpost
     have hH3:(upd H2 D (.lst ys)) p=some (.lst (ds.map V.int)):=by rw [aD (aA hH2 hD)]; exact hH2
     have hc:=one (ds.getD (2 + n) 0 + (0 + (i:Int)))
     have l1:(Txt.slice bs none (some (ds.getD 1 0 / 4 % (1 + ds.getD 0 0 % 8)))).length=n:=by rw [hn]; exact eM (by omega)
     have e3:ds.getD 1 0 / 4 % (1 + ds.getD 0 0 % 8) + 1=((n + 1:Nat):Int):=by omega
     have l3:(Txt.slice bs (some (ds.getD 1 0 / 4 % (1 + ds.getD 0 0 % 8) + 1)) none).length=bs.length - (n + 1):=by rw [e3]; exact dk (by omega)
     have t1:Lt (Txt.slice bs none (some (ds.getD 1 0 / 4 % (1 + ds.getD 0 0 % 8)))):=by rw [hn]; exact hbL.take (by omega)
     have t2:Lt (Txt.slice bs (some (ds.getD 1 0 / 4 % (1 + ds.getD 0 0 % 8) + 1)) none):=by rw [e3]; exact hbL.from (by omega)
     have l2:=Txt.slice_le bs (some (ds.getD 1 0 / 4 % (1 + ds.getD 0 0 % 8) + 1)) none
     refine ⟨_,rfl,_,rfl,_,rfl,_,rfl,by omega,?_⟩
     refine ⟨_,rfl,_,rfl,_,rfl,_,_,rfl,rfl,p,_,_,_,rfl,rfl,SqL.of hH3,(by rw [e2]; exact rA _ (by omega)),_,rfl,_,_,rfl,rfl,_,_,rfl,rfl,(by dsimp only; decide),_,_,_,rfl,rfl,gN,hc,?_⟩
     have lc:∀ c:Nat,(⟨#[c]⟩:Str).length=1:=fun _=>rfl
     refine ⟨_,_,rfl,rfl,by rw [lc]; omega,?_⟩
     refine ⟨_,rfl,_,rfl,_,_,rfl,rfl,_,rfl,_,rfl,by omega,?_⟩
     exact ⟨_,_,rfl,rfl,by rw [Str.length_append,lc]; omega,hpost _ ⟨_,rfl,mid l1,by rw [Str.length_append,Str.length_append,lc]; omega,by rw [Str.length_append,Str.length_append,lc]; omega,(t1.app (Lt.one (Int.emod_nonneg _ (by decide)) (Int.emod_lt_of_pos _ (by decide)))).app t2⟩⟩
    ·intro D' vs hD' hvl hv
     exact fin _ D' vs (fun x=>x.cps.toList.getD n 0) (fun i=>97 + ((ds.getD (2 + n) 0 + (0 + (i:Int))) % 26).toNat) sm2 hD' hvl hv (fun i j _ _ h=>by omega)
end
abbrev iB:Stmt:=top 44
abbrev nWide:List Str:=["_law_row","_law_number_here","_law_digit"]
def j9 (K:PySem.W.Frag):Sp:=fun vs H Q _=>∃ (p:Addr) (ds:List Int),vs=[.ref p] /\ SqL K H p (ds.map V.int) /\ 1 <= ds.length /\ ds.length <= 100 /\ ∀ (z:Int) (H':Hp),z.natAbs < 10 ^ 60 -> ar H H' -> Q (.int z) H'
theorem small9 (d:Int):(d % 9 - 4).natAbs < 10 ^ 60:=by
 have h:(d % 9 - 4).natAbs <= 10:=by omega
 exact Nat.lt_of_le_of_lt h (by decide)
theorem up1000 {z:Int} {i:Nat} (h:0 <= z /\ z < 1000 ^ i) (d:Int):0 <= z * 1000 + d % 1000 /\ z * 1000 + d % 1000 < 1000 ^ (i + 1):=by
 rw [Int.pow_succ]
 generalize (1000:Int) ^ i=M at *
 omega
theorem cut20 (xs:List V) (d:Int):(bB xs (some 1) (some (2 + d / 27 % 20))).length <= 20:=by
 have h0:=Int.emod_nonneg (d / 27) (show (20:Int) ≠ 0 by decide)
 have h1:=Int.emod_lt_of_pos (d / 27) (show (0:Int) < 20 by decide)
 obtain ⟨n,hn⟩:∃ n:Nat,d / 27 % 20=(n:Int):=⟨(d / 27 % 20).toNat,by omega⟩
 unfold bB
 have e1:HT.sIx xs.length 0 (some 1)=min 1 xs.length:=HT.bY _ _ 1
 have e2:HT.sIx xs.length xs.length (some (2 + d / 27 % 20))=min (2 + n) xs.length:=by
  have:=HT.bY xs.length xs.length (2 + n)
  rw [show (2 + d / 27 % 20)=((2 + n:Nat):Int) by omega,this]
 rw [e1,e2,List.length_take,List.length_drop]
 omega
theorem big60 {z:Int} {n:Nat} (h:0 <= z /\ z < 1000 ^ n) (hn:n <= 20):z.natAbs < 10 ^ 60 /\ (0 - z).natAbs < 10 ^ 60:=by
 have h1:(1000:Int) ^ n <= 1000 ^ 20:=by
  have:=Nat.pow_le_pow_right (n:=1000) (by decide) hn
  exact_mod_cast this
 have h2:(1000:Int) ^ 20=1000000000000000000000000000000000000000000000000000000000000:=by decide
 have h3:(10:Nat) ^ 60=1000000000000000000000000000000000000000000000000000000000000:=by decide
 rw [h2] at h1
 rw [h3]
 omega
section
variable {P:Program} {w:World} {K:PySem.W.Frag} {mg:Str -> Option Value} {base:Heap}
theorem nK:aN nWide ["_law_row"] (ai iB):=fsc (by decide +kernel)
theorem ok_wide {f:Addr} {fd:FuncData} (F:Fun K "_law_wide" "_law_wide" iB f fd):bG P w K mg base CX0 1 f fd ["_law_row"] (j9 K):=by
 refine F.ok nK (fun vs H Q E h=>?_) (fun cdv A outer s H vs Q E hr h=>?_)
 ·obtain ⟨p,ds,rfl,_⟩:=h
  rfl
 ·obtain ⟨p,ds,rfl,hS,hl0,hl1,q⟩:=h
  have nd:=nK.nd
  refine ⟨_,ag (aw (i:=1) nd rfl (Or.inl rfl) (aj da (aj aS (aB ay (pv 0) ac (fun _ _=>rfl)) ac) ac))
   (ag (be (aE bK (aj aS (aj bx (aB ay (pv 0) ac (fun _ _=>rfl)) ac) ac) ac (aC _))
    (ag (aw (i:=1) nd rfl (Or.inl rfl) ac)
    (ag (eG PassesOwn.never rfl (dP (aG bO (pv 0) (aI ac) (aI (aj bd ac (aj aS (aj bx (aB ay (pv 0) ac (fun _ _=>rfl)) ac) ac))))) (aH (i:=2) nd rfl (Or.inl rfl))
     (am (aw (i:=1) nd rfl (Or.inl rfl) (aj bd (aj db (pv 1) ac) (aj aS (pv 2) ac)))))
    (am (be (aE bK (aj aS (aj bx (aB ay (pv 0) ac (fun _ _=>rfl)) ac) ac) ac (aC _)) (am (aw (i:=1) nd rfl (Or.inl rfl) (aj da ac (pv 1)))) aQ)))) aQ)
   (am (aF (pv 1)))),?_⟩
  have r0:atI (ds.map V.int) (0:Int)=some (.int (ds.getD 0 0)):=iZ (i:=0) (by omega)
  refine ⟨_,rfl,p,_,_,_,rfl,rfl,hS,r0,_,_,rfl,rfl,(by dsimp only; decide),_,_,rfl,rfl,?_⟩
  refine ⟨_,rfl,p,_,_,_,rfl,rfl,hS,r0,_,_,rfl,rfl,⟨by decide,by decide⟩,_,_,rfl,rfl,(by dsimp only; decide),rfl,_,rfl,?_⟩
  refine bz (fun _=>?_) (fun _=>⟨_,rfl,q _ H (small9 _) (ar.refl H)⟩)
  refine ⟨_,rfl,_,rfl,_,rfl,p,_,_,_,rfl,rfl,hS,r0,_,_,rfl,rfl,⟨by decide,by decide⟩,_,_,rfl,rfl,(by dsimp only; decide),_,_,rfl,rfl,_,rfl,p,_,rfl,hS,fun p2 hp2=>?_⟩
  have s1:ar H (upd H p2 (.lst (bB (ds.map V.int) (some 1) (some (2 + ds.getD 0 0 / 27 % 20))))):=.new hp2
  have hp:∀ H2,ar H H2 -> SqL K H2 p (ds.map V.int):=fun H2 e=>e.seq hS
  refine ⟨p2,rfl,⟨_,SqL.of au⟩,mL (K:=K) (a:=p2) (xs:=bB (ds.map V.int) (some 1) (some (2 + ds.getD 0 0 / 27 % 20))) (fun i σ H2=>∃ (z:Int) (v:Option V),(0 <= z /\ z < 1000 ^ i) /\ σ=[some (.ref p),some (.int z),v] /\ H2=upd H p2 (.lst (bB (ds.map V.int) (some 1) (some (2 + ds.getD 0 0 / 27 % 20)))))
   ⟨0,none,⟨by decide,by decide⟩,rfl,rfl⟩ (fun i σ H2 _ ⟨_,_,_,_,e⟩=>by rw [e]; exact SqL.of au) ?_ ?_⟩
  ·rintro i y σ H2 hy ⟨z,v,hz,rfl,rfl⟩
   obtain ⟨d,rfl⟩:∃ d:Int,y=.int d:=by
    have hm2:y ∈ ds.map V.int:=List.mem_of_mem_drop (List.mem_of_mem_take (List.mem_of_getElem? hy))
    obtain ⟨d,_,rfl⟩:=List.mem_map.mp hm2
    exact ⟨d,rfl⟩
   exact ⟨_,rfl,_,_,rfl,rfl,.inr ⟨by decide,by decide⟩,_,rfl,_,_,rfl,rfl,(by dsimp only; decide),_,_,rfl,rfl,_,_,up1000 hz d,rfl,rfl⟩
  ·rintro σ H2 ⟨z,v,hz,rfl,rfl⟩
   have hlc:(bB (ds.map V.int) (some 1) (some (2 + ds.getD 0 0 / 27 % 20))).length <= 20:=cut20 _ _
   have hzz:=big60 hz hlc
   refine ⟨_,rfl,p,_,_,_,rfl,rfl,hp _ s1,r0,_,_,rfl,rfl,⟨by decide,by decide⟩,_,_,rfl,rfl,(by dsimp only; decide),rfl,_,rfl,?_⟩
   refine bz (fun _=>?_) (fun _=>⟨_,rfl,q _ _ hzz.1 s1⟩)
   exact ⟨_,rfl,_,_,rfl,rfl,_,rfl,q _ _ hzz.2 s1⟩
end
end K28
namespace L2
open PySem PySem.Spec PyProof.Rows
theorem ka {e:Value} {a b:Env} (h:a.frame=b.frame):noteFrame e a=noteFrame e b:=by
 unfold noteFrame PySem.frameOf
 rw [h]
def nL (base:Heap) (l:List Env) (e:Addr) (cls a0 fl:Value) (h:Heap):Prop:=base.StaysIn h /\ base.get? e=none /\ h.FunFrames base l /\ h.TracedAtW base e cls a0 fl
section
variable {M:Model} {A:Around} {E:Value -> Shared -> Prop} {s:Shared} {base:Heap} {env:Env} {outer l:List Env} {L e:Addr} {cls a0 fl:Value}
theorem kb {Q:Unit -> Shared -> Prop} (hfr:A.frames=some (env :: outer)) (hf:env.frame=some L) (hfl:nL base (env :: outer) e cls a0 fl s.heap)
  (hQ:∀ h',Heap.FlyingW base outer e cls a0 h' -> s.heap.UpToSlots h' -> Q () { s with heap:=h' }):wpAny M A (leaving env (.ref e)) Q E s:=by
 obtain ⟨f1,f2,f3,f4⟩:=hfl
 by_cases hfl:fl=rawInt L
 ·subst hfl
  unfold leaving
  refine wpAny_bind (wpAny_noteFrame_againW hf f4 (wpAny_landsW (l:=env :: outer) ⟨f1,f2,f3,f4⟩ fun h' k up=>?_))
  obtain ⟨k1,k2,⟨_,_,k3⟩,k4⟩:=k
  exact hQ h' ⟨k1,k2,k3,k4⟩ up
 ·obtain ⟨oe,vs,T,oT,ts,g1,⟨g2,g3⟩,g4,g5,g6,g7,g8,g9,g10⟩:=f4
  subst g2
  have off:∀ b,b ≠ T -> (s.heap.update T (Obj.mapFields (·.setIfInBounds 3 Value.none))).get? b=s.heap.get? b:=fun b hb=>Heap.get?_update_other _ _ (fun z=>hb z.symm)
  have plain:∀ b o,s.heap.get? b=some o -> (∀ vs,o.data ≠ .fields vs) -> b ≠ T:=fun b o hb hn z=>by
   subst z
   rw [g8] at hb
   cases hb
   exact hn ts g9
  unfold leaving noteFrame
  simp only [hf]
  refine wpAny_bind (wpAny_bind (wpAny_field g1 g4 g5 ?_))
  rw [if_pos (by simp)]
  refine wpAny_bind (wpAny_field g8 g9 g10 ?_)
  rw [if_neg (by simpa using hfl)]
  refine wpAny_bind (wpAny_setField g8 g9 (Array.getElem?_eq_some_iff.mp g10).1 ?_)
  refine wpAny_newEntryW (base:=base) hfr (f3.of_keeps fun b o hb hn=>⟨o,by rw [off b (plain b o hb hn)]; exact hb,rfl⟩) hf (by rw [off e (Ne.symm g7)]; exact g1) (fun b o hb=>?_) f2 g4 (Array.getElem?_eq_some_iff.mp g5).1 g3 fun h' k=>?_
  ·rw [off b fun z=>by rw [z,g6] at hb; cases hb]
   exact f1 b o hb
  ·obtain ⟨k1,⟨_,_,k2⟩,k3,k4⟩:=k
   exact hQ h' ⟨k1,f2,k2,k3⟩ fun b o hb hn=>k4 b o (by rw [off b (plain b o hb hn)]; exact hb) hn
theorem pass_on {α:Type} {what:String} {cenv:Env} {Q:α -> Shared -> Prop} (hfl:nL base l e cls a0 fl s.heap)
  (hE:∀ h' fl',nL base l e cls a0 fl' h' -> (∀ b o,s.heap.get? b=some o -> (∀ vs,o.data ≠ .fields vs) -> h'.get? b=some o) -> E (.ref e) { s with heap:=h' }):wpAny M A (PySem.passOn what (.ref e) cenv:Sem α) Q E s:=by
 obtain ⟨f1,f2,f3,oe,vs,T,oT,ts,g1,g2,g4,g5,g6,g7,g8,g9,g10⟩:=hfl
 have s3:3 < ts.size:=(Array.getElem?_eq_some_iff.mp g10).1
 generalize hv:(cenv.frame.elim Value.none fun f=>rawInt f)=v
 have off:∀ b,b ≠ T -> (s.heap.update T (Obj.mapFields (·.setIfInBounds 3 v))).get? b=s.heap.get? b:=fun b hb=>Heap.get?_update_other _ _ (fun z=>hb z.symm)
 have plain:∀ b o,s.heap.get? b=some o -> (∀ vs,o.data ≠ .fields vs) -> b ≠ T:=fun b o hb hn z=>by
  subst z
  rw [g8] at hb
  cases hb
  exact hn ts g9
 unfold PySem.passOn
 refine wpAny_bind (wpAny_field g1 g4 g5 ?_)
 rw [if_neg (by simp)]
 unfold setFlight
 refine wpAny_bind (wpAny_bind (wpAny_field g1 g4 g5 ?_))
 rw [if_pos (by simp),hv]
 refine wpAny_setField g8 g9 s3 (wpAny_throw (hE _ v ⟨fun b o hb=>?_,f2,f3.of_keeps fun b o hb hn=>⟨o,by rw [off b (plain b o hb hn)]; exact hb,rfl⟩,?_⟩ fun b o hb hn=>by rw [off b (plain b o hb hn)]; exact hb))
 ·rw [off b fun z=>by rw [z,g6] at hb; cases hb]
  exact f1 b o hb
 ·exact ⟨oe,vs,T,_,_,by rw [off e (Ne.symm g7)]; exact g1,g2,g4,g5,g6,g7,Heap.get?_update_self _ g8 (Obj.isFreed_of_fields (Obj.data_mapFields g9 _)),Obj.data_mapFields g9 _,by simp [s3]⟩
end
def nM (X:Cx) (E:XK):Prop:=∀ (pins:List (Addr × Obj)) (σ:St) (H:Hp) (s:Shared) (ea:Addr) (cls a0 fl:Value) (B:Heap),Inv X pins σ H s -> H ea=none -> X.base.StaysIn B -> nL B X.stack ea cls a0 fl s.heap -> Cov X.fs X.s₀.heap s.heap H B -> E cls none H -> X.xe (.ref ea) s
theorem passQ {P:Program} {w:World} {K:PySem.W.Frag} {mg:Str -> Option Value} {base:Heap} {N:List Str} {qual:Str} {scope:Scope} {f:Addr} {cd:Value} {A:Around} {outer:List Env} {s:Shared} {H:Hp} {E:XK} :
  nM (dm (CXR P w base) P w K mg base N qual scope f cd A outer s H E) E:=by
 intro pins σ H1 s1 ea cls a0 fl B I hea hb fly cov hE
 show wpAny _ _ (leaving _ (.ref ea)) _ _ s1
 refine kb I.ok.frames rfl fly fun h' fly' up=>?_
 have nf:∀ b ∈ frs outer,H1 b=none:=fun b hb=>by
  refine I.stkFree b ?_
  show b ∈ frs (_ :: outer)
  unfold frs
  rw [List.filterMap_cons]
  exact List.mem_cons_of_mem _ hb
 have fd:∀ b ∈ frs outer,∀ o,s1.heap.get? b=some o -> ∀ vs,o.data ≠ .fields vs:=fun b hb o ho=>by
  obtain ⟨_,o',ho',hd⟩:=I.funs.mem hb
  rw [ho] at ho'
  cases ho'
  exact hd
 obtain ⟨un2,hok2,cov2⟩:=fQ (show Un (frs outer) [] H H1 s.heap s1.heap from I.base) I.hok cov fly'.1 up nf fd
 exact ⟨ea,cls,a0,H1,B,rfl,I.os,I.bare,un2,hok2,hea,hb,fly',cov2,hE⟩
def cxE (X:Cx) (xe:Value -> Shared -> Prop):Cx:={ X with xe:=xe }
section
variable {X:Cx} {pins:List (Addr × Obj)} {xe:Value -> Shared -> Prop} {σ:St} {H:Hp} {s:Shared}
theorem Inv.toE (I:Inv X pins σ H s):Inv (cxE X xe) pins σ H s:=⟨⟨I.ok.mod,I.ok.kind,I.ok.glob,I.ok.blt,I.ok.above,I.ok.inj,I.ok.has,I.ok.cab,I.ok.hd,I.ok.frames,I.ok.stk,I.ok.exf,I.ok.bs,I.ok.bsz,I.ok.noex,I.ok.exfs,I.ok.funs,I.ok.frf⟩,I.os,I.bare,I.base,I.loc,I.cell,I.free,I.freeC,I.pin,I.hok,I.len⟩
theorem Inv.ofE (ok:X.Ok) (I:Inv (cxE X xe) pins σ H s):Inv X pins σ H s:=⟨ok,I.os,I.bare,I.base,I.loc,I.cell,I.free,I.freeC,I.pin,I.hok,I.len⟩
end
theorem iC {h h' base:Heap}:∀ {l:List Env},(∀ b ∈ frs l,h'.get? b=h.get? b) -> h.FunFrames base l -> h'.FunFrames base l
 | [],_,_=>trivial
 | env :: r,k,⟨a,⟨L,o,f1,f2,f3,f4⟩,rest⟩=>by
  have m:∀ b ∈ frs r,b ∈ frs (env :: r):=fun b hb=>by
   unfold frs at hb ⊢
   rw [List.filterMap_cons,f1]
   exact List.mem_cons_of_mem _ hb
  refine ⟨a,⟨L,o,f1,f2,(k L ?_).trans f3,f4⟩,iC (fun b hb=>k b (m b hb)) rest⟩
  unfold frs
  rw [List.filterMap_cons,f1]
  exact List.mem_cons_self ..
theorem nN {X:Cx} {E:XK} {elt tg iter:Expr} {ifs:List Expr} {scope:Scope} {pos cpos:Pos} {use:Option (Value -> Sem Unit)} {QQ:Value -> Shared -> Prop} {pins:List (Addr × Obj)} {s:Shared} {σ:St} {H:Hp} {Q:VK} {wi:TI} {g:TG} {tt:TT} {te:TE}
  (N N2 ys:List Str) (sc:Scope) (hc:X.calm=true) (hNe:X.N=N) (hNl:N2.length=N.length) (hsub:∀ p ∈ N2.zip N,p.1=p.2 \/ ¬ scope.names.lookup p.1=some .free) (hsc:X.env.scope=sc) (hkind:scope.kind=.function) (hcell:∀ y ∈ scope.names,y.2 ≠ .cell) (hnames:∀ y ∈ scope.names,y.2=.local -> scope.names.lookup y.1=some .local)
  (hfr:∀ y ∈ scope.names,y.2=.free -> sc.names.lookup y.1=some .cell) (hloc:∀ y ∈ N2,scope.names.lookup y ≠ some .local)
  (hi:PI X tg iter wi) (hg:∀ cl C s H fp,PG (cxC X scope cl N2 ys C s H fp) tg g) (ht:∀ cl C s H fp,PTs (cxC X scope cl N2 ys C s H fp) ifs tt) (hst:X.stack=X.env :: X.outer) (hfrm:X.env.frame=some X.env.locals) (hex:X.ex=[]) (hq:nM X E)
  (he:∀ cl C s H fp xe,cw (CXR X.prog X.w X.base) (cxE (cxC X scope cl N2 ys C s H fp) xe) E -> PE (cxE (cxC X scope cl N2 ys C s H fp) xe) elt te)
  (I:Inv X pins σ H s) (h:tLC ys.length wi g tt te σ H Q)
  (fin0:∀ (D C:Addr) (H':Hp) (s':Shared),Inv X pins σ H' s' -> ej X pins H' C -> (∃ m,s'.heap.Ns C m) -> Q (.ref D) H' -> compPost (model X.prog X.w) X.A X.xe use QQ (.ref D) C (.ok .next) s')
  (hs:∀ x,foldedSetIterable iter X.env x=pure x:=by intro _; rfl) :
  wpAny (model X.prog X.w) X.A (comprehension (.ListComp elt [⟨tg,iter,ifs,0⟩] scope pos) scope X.env cpos (newList []) false (eval iter X.env) use) QQ X.xe s:=by
 obtain ⟨cl,hclos,cl1,cl2⟩:=gC (scope:=scope) (env:=X.env) (fun x hx hf=>I.ok.has x.1 (.inl (by
  show X.env.scope.names.lookup x.1=_
  rw [hsc]; exact hfr x hx hf)))
 refine wpAny_comprehension_free (use:=use) rfl hs hclos hkind hnames (thn (hi pins s σ H _ I h) fun v s1 h1=>thn h1 fun itv s2 h2=>?_)
 obtain ⟨it,fp,tn,J,H2,e,I2,T,st2,f2,hD⟩:=h2
 subst e
 refine wpAny_newObj_type (wpAny_newFunctionEnv hcell (by intro y hy; simp at hy) (fun h₁ hns₁ hsb₁=>?_) hkind)
 have I3:Inv X pins σ (upd H2 s2.heap.objs.size (.lst [])) { s2 with heap:=s2.heap.push { cls:=.type "list",data:=.seq ([]:List Value).toArray },toks:=s2.toks }:=I2.lnew (ys:=[]) (its:=[]) .nil (Nat.zero_le _)
 have fD:H2 s2.heap.objs.size=none:=I2.hok.fresh (Nat.le_refl _)
 obtain ⟨W,⟨m0,w0⟩,turn⟩:=hD _ fD
 have hfp2:∀ b ∈ fp,b < s2.heap.objs.size:=fun b hb=>by
  obtain ⟨o,e,_⟩:=T.obj 0 s2.heap st2 b hb
  exact Heap.lt_size e
 dsimp only at hns₁ hsb₁ I3 ⊢
 generalize hH2:s2.heap.push { cls:=.type "list",dict:=none,data:=.seq ([]:List Value).toArray }=H3h at hns₁ hsb₁ I3 ⊢
 generalize hDd:s2.heap.objs.size=D at *
 have hC:H3h.objs.size=D + 1:=by rw [<- hH2,Heap.size_push,hDd]
 generalize hCc:H3h.objs.size=C at *
 have hDC:D < C:=by rw [hC]; exact Nat.lt_succ_self _
 have hCD:C ≠ D:=Nat.ne_of_gt hDC
 have hfpC:∀ b ∈ fp,b ≠ C:=fun b hb=>Nat.ne_of_lt (Nat.lt_trans (hfp2 b hb) hDC)
 have hfpD:∀ b ∈ fp,b ≠ D:=fun b hb=>Nat.ne_of_lt (hfp2 b hb)
 have old2:∀ b o,s2.heap.get? b=some o -> H3h.get? b=some o:=fun b o e=>by rw [<- hH2]; exact Heap.get?_push_of_some _ e
 have old:∀ b o,H3h.get? b=some o -> h₁.get? b=some o:=fun b o e=>hsb₁.extBut b o (Nat.ne_of_lt (by have:=Heap.lt_size e; rw [hCc] at this; exact this)) (Heap.get?_push_of_some _ e)
 have frH:upd H2 D (.lst []) C=none:=by rw [aD hCD]; exact I2.hok.fresh (by rw [hDd]; exact Nat.le_of_lt hDC)
 have ok':(cxC X scope cl N2 ys C { s2 with heap:=H3h } (upd H2 D (.lst [])) fp).Ok:=by
  refine ⟨I.ok.mod,hkind,I.ok.glob,I.ok.blt,?_,?_,?_,?_,I.ok.hd,I.ok.frames,.inl rfl,?_,?_,?_,?_,?_,?_,?_⟩
  ·show H3h.objs.size <= C
   exact Nat.le_of_eq hCc
  ·intro x y c h1 h2
   exact I.ok.inj x y c (cl1 x c h1) (cl1 y c h2)
  ·intro x hx
   have hx:(relabel scope X.env).names.lookup x=some .cell \/ (relabel scope X.env).names.lookup x=some .free:=hx
   have key:scope.names.lookup x=some .free \/ scope.names.lookup x=some .cell:=by
    rcases hx with q | q
    ·rcases aU q with z | z
     ·exact .inr z
     ·exact .inl z.1
    ·rcases aU q with z | z
     ·exact .inl z
     ·exact .inl z.1
   rcases key with q | q
   ·exact cl2 x (PySem.mem_of_lookup q)
   ·exact absurd rfl (hcell _ (PySem.mem_of_lookup q))
  ·intro x c z _
   exact absurd (show false=true from z) (by decide)
  ·intro b hb
   refine ⟨fun z=>?_,fun x c e=>?_⟩
   ·exact hfpC b hb z
   ·exact (f2 b hb).2.2.2.2.1 x c (cl1 x c e)
  ·intro b o e
   exact ⟨I3.bk b o e,(I3.bs b o e).2⟩
  ·exact Nat.le_trans I.ok.bsz I3.sz
  ·intro b o e hb
   rcases (f2 b hb).2.2.2.1 with q | q
   ·exact I.ok.noex b o e q
   ·exact absurd (Nat.lt_of_lt_of_le (Heap.lt_size e) (Nat.le_trans I.ok.bsz q)) (Nat.lt_irrefl _)
  ·intro b hb hz
   rcases List.mem_cons.mp (I.stkSub b hz) with q | q
   ·exact (f2 b hb).2.1 q
   ·exact (f2 b hb).2.2.1 q
  ·exact I3.stack
  ·intro b hb
   exact I3.stkFree b hb
 have lenN:N2.length=X.N.length:=by rw [hNl,hNe]
 have lenR:(σ ++ List.replicate ys.length (none:Option V)).length=(N2 ++ ys).length:=by
  rw [List.length_append,List.length_append,List.length_replicate,I.len,lenN]
 have I4:Inv (cxC X scope cl N2 ys C { s2 with heap:=H3h } (upd H2 D (.lst [])) fp) [] (σ ++ List.replicate ys.length none) (upd H2 D (.lst [])) { s2 with heap:=h₁,toks:=s2.toks + ([]:List (Str × Value)).length }:=by
  refine ⟨ok',rfl,I2.bare,Un.kept old,⟨_,hns₁,?_⟩,?_,frH,?_,?_,I3.hok.kept old,lenR⟩
  ·intro i x v h1 h2 h3
   have hi:i < X.N.length:=by
    by_cases hi:i < X.N.length
    ·exact hi
    ·exfalso
     rw [List.getElem?_append_right (by rw [I.len]; omega),List.getElem?_replicate] at h2
     split at h2 <;> cases h2
   have h1:N2[i]?=some x:=by
    have h1:(N2 ++ ys)[i]?=some x:=h1
    rw [List.getElem?_append_left (by rw [lenN]; exact hi)] at h1
    exact h1
   have h2:σ[i]?=some (some v):=by
    rw [List.getElem?_append_left (by rw [I.len]; exact hi)] at h2
    exact h2
   have h3:Vis (relabel scope X.env) x:=h3
   have hx:x ∈ N2:=List.mem_of_getElem? h1
   have hfree:scope.names.lookup x=some .free:=by
    rcases h3 with q | q | q
    ·rcases aU q with z | z
     ·exact absurd z (hloc x hx)
     ·exact z.1
    ·rcases aU q with z | z
     ·exact absurd rfl (hcell _ (PySem.mem_of_lookup z))
     ·exact z.1
    ·rcases aU q with z | z
     ·exact z
     ·exact z.1
   have h1:X.N[i]?=some x:=by
    rw [hNe] at hi ⊢
    have h1z:(N2.zip N)[i]?=some (x,N[i]):=by
     rw [List.getElem?_zip_eq_some]
     exact ⟨h1,List.getElem?_eq_getElem hi⟩
    rcases hsub _ (List.mem_of_getElem? h1z) with e | e
    ·rw [List.getElem?_eq_getElem hi]
     exact congrArg some e.symm
    ·exact absurd hfree e
   have hk:X.env.scope.names.lookup x=some .cell:=by rw [hsc]; exact hfr _ (PySem.mem_of_lookup hfree) rfl
   obtain ⟨m,hn,hl⟩:=I3.loc
   obtain ⟨u,r,l⟩:=hl i x v h1 h2 (.inr (.inl hk))
   refine ⟨u,r,.inr ⟨?_,?_⟩⟩
   ·show (relabel scope X.env).names.lookup x=some .cell \/ (relabel scope X.env).names.lookup x=some .free
    rcases h3 with q | q | q
    ·rcases aU q with z | z
     ·exact absurd z (hloc x hx)
     ·cases z.2
    ·exact .inl q
    ·exact .inr q
   ·rcases l with ⟨q,_⟩ | ⟨_,c,e,z⟩
    ·have q:X.env.scope.names.lookup x=some .local:=q
     rw [hk] at q; cases q
    ·obtain ⟨c',e'⟩:=cl2 x (PySem.mem_of_lookup hfree)
     have:=cl1 x c' e'
     rw [e] at this; cases this
     obtain ⟨o,ho,hd⟩:=z
     exact ⟨c,e',o,old c o ho,hd⟩
  ·intro x c e
   obtain ⟨v,o,ho,hd⟩:=I3.cell x c (cl1 x c e)
   exact ⟨v,o,old c o ho,hd⟩
  ·intro x c e
   exact I3.freeC x c (cl1 x c e)
  ·intro p hp
   exact absurd (show p ∈ ([]:List (Addr × Obj)) from hp) (by simp)
 have stat:∀ {H':Hp},(∀ b ∈ fp,H' b=none) -> ∀ b ∈ fp,ej (cxC X scope cl N2 ys C { s2 with heap:=H3h } (upd H2 D (.lst [])) fp) [] H' b:=fun hn b hb=>by
  refine ⟨hn b hb,fun z=>?_,ok'.exfs b hb,.inl hb,fun x c e=>(f2 b hb).2.2.2.2.1 x c (cl1 x c e),fun p hp=>absurd (show p ∈ ([]:List (Addr × Obj)) from hp) (by simp)⟩
  exact hfpC b hb z
 have frD:∀ b ∈ fp,upd H2 D (.lst []) b=none:=fun b hb=>by
  rw [aD (hfpD b hb)]
  exact (f2 b hb).1
 have tn4:tn 0 h₁:=T.keep _ _ _ st2 fun b _ o e=>old b o (old2 b o e)
 have fin:∀ {σ':St} {H':Hp} {s':Shared},Inv (cxC X scope cl N2 ys C { s2 with heap:=H3h } (upd H2 D (.lst [])) fp) [] σ' H' s' -> Q (.ref D) H' ->
   compPost (model X.prog X.w) X.A X.xe use QQ (.ref D) C (.ok .next) s':=fun {σ' H' s'} I' q=>by
  obtain ⟨m,hn,_⟩:=I'.loc
  have uab:Un (frs X.stack) fp H2 H' s2.heap s'.heap:=(Un.laid (fs:=frs X.stack) (ex:=fp) (h:=s2.heap) (h':=H3h) (a:=D) (o:=.lst []) old2 (Nat.le_of_eq hDd) fD).trans I'.base
  have I'':Inv X pins σ H' s':=I2.call' (ch:=fp) I'.os uab I'.hok I'.bare (fun b hb=>by
   obtain ⟨f0,f1,_,f3,f4,f5⟩:=f2 b hb
   exact ⟨f3,f1,f4,f5⟩)
  exact fin0 D C H' s' I'' (I2.fpOk (by rw [hDd]; exact Nat.le_of_lt hDC) I'.free) ⟨m,hn⟩ q
 have pass:cw (CXR X.prog X.w X.base) (cxE (cxC X scope cl N2 ys C { s2 with heap:=H3h } (upd H2 D (.lst [])) fp) (notedBy (model X.prog X.w) X.A (compEnvC scope cl C X.env) fun e s'=>compPost (model X.prog X.w) X.A X.xe use QQ (.ref D) C (.error e) s')) E:=by
  intro pins' σ' H1 s1 e s' J hx
  have J:=J.ofE ok'
  obtain ⟨ea,cls,a0,Hx,B,rfl,os,bare,un,hok,hea,hb,fly,cov,hE⟩:=hx
  have un:Un (frs X.stack) [] H1 Hx s1.heap s'.heap:=un
  have cov:Cov (frs X.stack) s1.heap s'.heap Hx B:=cov
  show wpAny _ X.A (noteFrame (.ref ea) (compEnvC scope cl C X.env)) _ _ s'
  rw [ka (show (compEnvC scope cl C X.env).frame=X.env.frame from rfl)]
  have fly:Heap.FlyingW B X.stack ea cls a0 s'.heap:=fly
  have fly0:Heap.FlyingW B (X.env :: X.outer) ea cls a0 s'.heap:=by rw [<- hst]; exact fly
  have hfs:X.A.frames=some (X.env :: X.outer):=by rw [<- hst]; exact I.ok.frames
  refine wpAny_looks_onW hfs hfrm fly0 fun h4 held4 up4=>?_
  have uab:Un (frs X.stack) fp H2 H1 s2.heap s1.heap:=(Un.laid (fs:=frs X.stack) (ex:=fp) (h:=s2.heap) (h':=H3h) (a:=D) (o:=.lst []) old2 (Nat.le_of_eq hDd) fD).trans J.base
  have nf:∀ b ∈ frs X.stack,Hx b=none:=eX (X:=(cxC X scope cl N2 ys C { s2 with heap:=H3h } (upd H2 D (.lst [])) fp)) J un
  obtain ⟨un4,hok4,cov4⟩:=fQ un hok cov held4.1 up4 nf (dh fly)
  have J4:Inv (cxC X scope cl N2 ys C { s2 with heap:=H3h } (upd H2 D (.lst [])) fp) pins' σ' Hx { s' with heap:=h4 }:=J.call' (s':={ s' with heap:=h4 }) os un4 hok4 bare (fun b z=>absurd z (by simp))
  obtain ⟨m,hn,_⟩:=J4.loc
  have hn:h4.Ns C m:=hn
  have HC:Hx C=none:=J4.free
  have go:∃ m,h4.Ns C m /\ ∀ h',Heap.SameBut C h4 h' -> ∀ cenv:Env,cenv.locals=C -> wpAny (model X.prog X.w) X.A (PySem.passOn "comprehension.variables-let-go" (.ref ea) cenv:Sem Value) (fun _ _=>False) X.xe { s' with heap:=h' }:=by
   refine ⟨m,hn,fun h5 hs5 cenv _=>?_⟩
   obtain ⟨k1,k2,k3,oe,vs,T,oT,ts,g1,g2,g4,g5,g6,g7,g8,g9,g10⟩:=held4
   have inC:∀ b o,h4.get? b=some o -> (∃ vs,o.data=.fields vs) -> b ≠ C:=fun b o e ⟨vs,d⟩ z=>by
    obtain ⟨o',es,ep,ho,hd,_⟩:=hn
    rw [z,ho] at e
    cases e
    rw [hd] at d
    cases d
   have bC:∀ b o,(PySem.W.hideAll B [C]).get? b=some o -> b ≠ C /\ B.get? b=some o:=fun b o e=>⟨fun z=>by
    rw [z,PySem.W.hideAll_none [C] (List.mem_singleton.mpr rfl)] at e
    exact absurd e (by simp),PySem.W.of_hideAll _ e⟩
   have toB:∀ b o,B.get? b=some o -> b ≠ C -> (PySem.W.hideAll B [C]).get? b=some o:=fun b o e n=>PySem.W.hideAll_get _ e (fun z=>n (List.mem_singleton.mp z))
   have lowC:∀ b o,s2.heap.get? b=some o -> b ≠ C:=fun b o e=>Nat.ne_of_lt (Nat.lt_trans (by have:=Heap.lt_size e; rw [hDd] at this; exact this) hDC)
   have frC:∀ b ∈ frs X.stack,b ≠ C:=fun b hb=>by
    obtain ⟨_,o,ho,_⟩:=I2.stack.mem hb
    exact lowC b o ho
   have fl5:nL (PySem.W.hideAll B [C]) X.stack ea cls a0 (rawInt X.env.locals) h5:=by
    refine ⟨fun b o e=>?_,?_,?_,oe,vs,T,oT,ts,(hs5.2 ea (inC ea oe g1 ⟨vs,g4⟩)).trans g1,g2,g4,g5,?_,g7,(hs5.2 T (inC T oT g8 ⟨ts,g9⟩)).trans g8,g9,g10⟩
    ·obtain ⟨n,e⟩:=bC b o e
     exact (hs5.2 b n).trans (k1 b o e)
    ·cases q:(PySem.W.hideAll B [C]).get? ea with
     | none=>rfl
     | some o=>rw [(bC ea o q).2] at k2; cases k2
    ·rw [hst]
     have k3':=PySem.W.funFrames_base (base:=PySem.W.hideAll B [C]) (fun b o e=>(bC b o e).2) k3
     exact iC (fun b hb=>hs5.2 b (frC b (by rw [hst]; exact hb))) k3'
    ·cases q:(PySem.W.hideAll B [C]).get? T with
     | none=>rfl
     | some o=>rw [(bC T o q).2] at g6; cases g6
   refine pass_on fl5 fun h6 fl6 fly6 up6=>?_
   have U4:Un (frs X.stack) fp H2 Hx s2.heap h4:=uab.trans (un4.mono (fun _ h=>h) (fun _ h=>absurd h (by simp)))
   have toh6:∀ b u,h4.get? b=some u -> ((∃ o,s1.heap.get? b=some o) \/ Hx b ≠ none) -> b ∉ frs X.stack -> b ≠ C -> h6.get? b=some u:=fun b u e c n nC=>fly6.1 b u (toB b u (cov4 b u e c n) nC)
   have frh6:∀ b ∈ frs X.stack,∀ o,h4.get? b=some o -> h6.get? b=some o:=fun b hb o e=>by
    have nfl:∀ vs,o.data ≠ .fields vs:=by
     rw [hst] at hb
     obtain ⟨_,o',ho',hd⟩:=k3.mem hb
     rw [e] at ho'
     cases ho'
     exact hd
    exact up6 b o ((hs5.2 b (frC b hb)).trans e) nfl
   have U6:Un (frs X.stack) fp H2 Hx s2.heap h6:=by
    refine ⟨fun b o e n hb hx=>?_,fun b o e n hb hx=>?_,U4.free,fun b o e hx=>?_,U4.tups,U4.frzs,U4.tbls⟩
    ·exact toh6 b o (U4.keep b o e n hb hx) (.inl (uab.there b o e hx)) hb (lowC b o e)
    ·obtain ⟨sl,q⟩:=U4.slot b o e n hb hx
     exact ⟨sl,frh6 b hb _ q⟩
    ·obtain ⟨o',q⟩:=U4.there b o e hx
     by_cases hb:b ∈ frs X.stack
     ·exact ⟨o',frh6 b hb _ q⟩
     ·exact ⟨o',toh6 b o' q (.inl (uab.there b o e hx)) hb (lowC b o e)⟩
   have hok6:HOk X.prog X.w Hx h6:=fun a o e=>(hok4 a o e).stay (fun b u hb q=>by
    have hn:Hx b ≠ none:=by
     rcases hb with rfl | hb
     ·rw [e]; intro z; cases z
     ·rw [hb]; intro z; cases z
    exact toh6 b u q (.inr hn) (fun z=>hn (nf b z)) (fun z=>hn (by rw [z]; exact HC))) (fun _ q=>q) fun _ _ q=>q
   have I6:Inv X pins σ Hx { s' with heap:=h6 }:=I2.call' (s':={ s' with heap:=h6 }) (ch:=fp) (os.trans J.os) U6 hok6 bare (fun b hb=>by
    obtain ⟨f0,f1,_,f3,f4,f5⟩:=f2 b hb
    exact ⟨f3,f1,f4,f5⟩)
   refine hq pins σ Hx _ ea cls a0 fl6 (PySem.W.hideAll B [C]) I6 hea (fun b o e=>toB b o (hb b o e) (lowC b o (I2.bk b o e))) fly6 (fun b u e c n=>?_) hE
   have b0:=I2.base
   rw [hex] at b0
   have key:∃ v,h4.get? b=some v /\ ((∃ o,s1.heap.get? b=some o) \/ Hx b ≠ none) /\ b ∉ frs X.stack /\ b ≠ C:=by
    rcases c with ⟨o,e0⟩ | c
    ·obtain ⟨o2,e2⟩:=b0.there b o e0 (by simp)
     have hfp:b ∉ fp:=fun z=>by
      rcases (f2 b z).2.2.2.1 with y | y
      ·rw [hex] at y; simp at y
      ·exact absurd (Nat.lt_of_lt_of_le (Heap.lt_size e0) y) (Nat.lt_irrefl _)
     obtain ⟨v,hv⟩:=U4.there b o2 e2 hfp
     refine ⟨v,hv,.inl (uab.there b o2 e2 hfp),fun z=>?_,lowC b o2 e2⟩
     rcases List.mem_cons.mp (I2.stkSub b z) with y | y
     ·have h1:=Heap.lt_size e0
      rw [y] at h1
      exact absurd (Nat.lt_of_lt_of_le h1 I2.ok.above) (Nat.lt_irrefl _)
     ·exact n y
    ·cases hq':Hx b with
     | none=>exact absurd hq' c
     | some q =>
      obtain ⟨v,hv⟩:=(hok4 b q hq').there
      exact ⟨v,hv,.inr (fun z=>by cases z),fun z=>c (nf b z),fun z=>c (by rw [z]; exact HC)⟩
   obtain ⟨v,hv,c',n',nC⟩:=key
   have h1:=toB b v (cov4 b v hv c' n') nC
   have h2:=fly6.1 b v h1
   rw [show h6.get? b=some u from e] at h2
   cases h2
   exact h1
  cases use <;> exact go
 have loop:codeAny (model X.prog X.w) X.A (.compLoop (.ListComp elt [⟨tg,iter,ifs,0⟩] scope pos) 0 (.ref it) (.ref D) (compEnvC scope cl C X.env)) (compPost (model X.prog X.w) X.A X.xe use QQ (.ref D) C) { s2 with heap:=h₁,toks:=s2.toks + ([]:List (Str × Value)).length }:=by
  refine fP (fun n s'=>∃ i zs H',Inv (cxC X scope cl N2 ys C { s2 with heap:=H3h } (upd H2 D (.lst [])) fp) [] (σ ++ List.replicate ys.length none) H' s' /\ tn i s'.heap /\ (∀ b ∈ fp,H' b=none) /\ W i n zs H') ?_ m0
   ⟨0,[],_,I4,tn4,frD,w0⟩
  rintro n s3 ⟨i,zs,H3,J3,st3,fr3,w3⟩
  rcases turn i n zs H3 w3 with ⟨stop,qn⟩ | ⟨go,step⟩
  ·refine thn (T.done (cxC X scope cl N2 ys C { s2 with heap:=H3h } (upd H2 D (.lst [])) fp) rfl rfl rfl hc i [] s3 _ H3 _ J3 (stat fr3) st3 stop) fun r s4 ⟨hr,J4⟩=>?_
   subst hr
   exact fin J4 qn
  ·refine thn (T.item (cxC X scope cl N2 ys C { s2 with heap:=H3h } (upd H2 D (.lst [])) fp) rfl rfl rfl hc i [] s3 _ H3 _ J3 (stat fr3) st3 go) fun r s4 ⟨u,hr,h4⟩=>?_
   subst hr
   refine thn h4 fun _ s5 ⟨x,H5,J5,r5,y5,st5,fr5⟩=>?_
   have J5':=J5.pinned (stat fr5) (T.obj _ _ st5)
   refine wpAny_mono (hg cl C _ _ fp _ s5 _ H5 x u _ J5' r5 (step x H5 y5)) (fun _ s6 ⟨σ6,H6,J6,⟨τ,eτ,lτ⟩,q6⟩=>?_) fun _ _ z=>False.elim z
   refine wpAny_mono (ht cl C _ _ fp _ s6 σ6 H6 _ J6 q6) (fun b s7 ⟨H7,J7,q7⟩=>?_) fun _ _ z=>False.elim z
   have again:∀ {H8:Hp} {s8:Shared} {zs':List V},Inv (cxC X scope cl N2 ys C { s2 with heap:=H3h } (upd H2 D (.lst [])) fp) ([] ++ fw fp s5.heap) σ6 H8 s8 -> (∃ m',m' < n /\ W (i + 1) m' zs' H8) ->
     ∃ m,m < n /\ ∃ i zs H',Inv (cxC X scope cl N2 ys C { s2 with heap:=H3h } (upd H2 D (.lst [])) fp) [] (σ ++ List.replicate ys.length none) H' s8 /\ tn i s8.heap /\ (∀ b ∈ fp,H' b=none) /\ W i m zs H':=fun {H8 s8 zs'} J8 ⟨m',hm,w8⟩=>by
    refine ⟨m',hm,i + 1,zs',H8,J8.unpinned.weak (by rw [eτ,List.length_append,List.length_append,List.length_replicate,lτ]) (fun j v e=>?_),T.keep _ _ _ st5 fun b hb o e=>(J8.pin (b,o) (List.mem_append_right _ (List.mem_append_right _ (cu hb e)))).1,fun b hb=>?_,w8⟩
    ·rw [eτ]
     by_cases hj:j < σ.length
     ·rw [List.getElem?_append_left hj] at e ⊢
      exact e
     ·exfalso
      rw [List.getElem?_append_right (by omega),List.getElem?_replicate] at e
      split at e <;> cases e
    ·obtain ⟨o,e,d⟩:=T.obj _ _ st5 b hb
     exact (J8.pin (b,o) (List.mem_append_right _ (List.mem_append_right _ (cu hb e)))).2.1
   cases b with
   | false =>
    rw [if_neg (by decide)] at q7 ⊢
    exact again J7 q7
   | true =>
    rw [if_pos rfl] at q7 ⊢
    refine wpAny_mono (he cl C _ _ fp _ pass _ s7 σ6 H7 _ J7.toE q7) (fun y s8 ⟨yv,H8,J8,r8,hD8,hz8,w8⟩=>?_) fun _ _ z=>z
    have J8:=J8.ofE ok'
    refine wpAny_mono (dg (X:=(cxC X scope cl N2 ys C { s2 with heap:=H3h } (upd H2 D (.lst [])) fp)) _ s8 σ6 H8 (.ref D) [yv] (.ref D) [y] (fun _ H9=>∃ m',m' < n /\ W (i + 1) m' (zs ++ [yv]) H9) J8 rfl (.cons r8 .nil) ⟨D,zs,yv,rfl,rfl,hD8,hz8,w8⟩) (fun _ s9 ⟨_,H9,J9,_,w9⟩=>?_) fun _ _ z=>False.elim z
    exact again J9 w9
 exact codeAny_compStart_list loop (T.self _ 0 _ _ _ tn4 loop)
theorem nO {X:Cx} {E:XK} {elt tg iter:Expr} {ifs:List Expr} {scope:Scope} {pos:Pos} {wi:TI} {g:TG} {tt:TT} {te:TE}
  (N N2 ys:List Str) (sc:Scope) (hc:X.calm=true) (hNe:X.N=N) (hNl:N2.length=N.length) (hsub:∀ p ∈ N2.zip N,p.1=p.2 \/ ¬ scope.names.lookup p.1=some .free) (hsc:X.env.scope=sc) (hkind:scope.kind=.function) (hcell:∀ y ∈ scope.names,y.2 ≠ .cell) (hnames:∀ y ∈ scope.names,y.2=.local -> scope.names.lookup y.1=some .local)
  (hfr:∀ y ∈ scope.names,y.2=.free -> sc.names.lookup y.1=some .cell) (hloc:∀ y ∈ N2,scope.names.lookup y ≠ some .local)
  (hi:PI X tg iter wi) (hg:∀ cl C s H fp,PG (cxC X scope cl N2 ys C s H fp) tg g) (ht:∀ cl C s H fp,PTs (cxC X scope cl N2 ys C s H fp) ifs tt) (hst:X.stack=X.env :: X.outer) (hfrm:X.env.frame=some X.env.locals) (hex:X.ex=[]) (hq:nM X E)
  (he:∀ cl C s H fp xe,cw (CXR X.prog X.w X.base) (cxE (cxC X scope cl N2 ys C s H fp) xe) E -> PE (cxE (cxC X scope cl N2 ys C s H fp) xe) elt te)
  (hs:∀ x,foldedSetIterable iter X.env x=pure x:=by intro _; rfl) :
  PE X (.ListComp elt [⟨tg,iter,ifs,0⟩] scope pos) (tLC ys.length wi g tt te):=by
 intro pins s σ H Q I h
 rw [eval_ListComp]
 refine nN (use:=none) N N2 ys sc hc hNe hNl hsub hsc hkind hcell hnames hfr hloc hi hg ht hst hfrm hex hq he I h (fun D C H' s' I' cf hns q=>?_) hs
 obtain ⟨m,hn⟩:=hns
 obtain ⟨f0,f1,f2,f3,f4,f5⟩:=cf
 refine ⟨m,hn,fun h' hs'=>⟨.ref D,H',?_,rfl,q⟩⟩
 exact I'.turned (t':=s'.toks) (it:=C) (fun b o hb e=>(hs'.2 b hb).trans e) f0 f1 f3 f4 f5
end L2
namespace K28
open PySem L2
abbrev kc:Stmt:=top 29
abbrev mm:Stmt:=top 30
def FIG:Str:=Str.ofString "0123456789"
def aR (n:Int):Str:=Str.ofString (toString n)
def Big (n:Int):Prop:=n.natAbs < 10 ^ 100
theorem nP:FIG.cps.toList=[48,49,50,51,52,53,54,55,56,57]:=by decide +kernel
theorem kS (c:Nat):c ∈ FIG.cps.toList ↔ 48 <= c /\ c <= 57:=by
 rw [nP]
 simp
 omega
theorem mn:(Str.ofString "0").cps.toList=[48]:=by decide +kernel
def gO (x:Str):Prop:=1 <= x.length /\ x.length <= 100 /\ (∀ c ∈ x.cps.toList,48 <= c /\ c <= 57) /\ (x.cps.toList[0]? ≠ some 48 \/ x.cps.toList=[48])
theorem nQ:∀ (k:Nat) (L:List Nat),L.length=k + 1 -> (∀ c ∈ L,48 <= c /\ c <= 57) -> (L[0]? ≠ some 48 \/ L=[48]) -> ∃ m,cH m=L /\ m < 10 ^ (k + 1)
 | 0,L,hl,ha,_=>by
  obtain ⟨c,rfl⟩:∃ c,L=[c]:=by
   match L,hl with
   | [c],_=>exact ⟨c,rfl⟩
  have h:=ha c (List.mem_cons_self ..)
  refine ⟨c - 48,?_,by omega⟩
  rw [cY (by omega)]
  congr 1
  omega
 | k + 1,L,hl,ha,h0=>by
  have hne:L ≠ []:=by intro z; rw [z] at hl; cases hl
  have hL:=List.dropLast_concat_getLast hne
  have hl':L.dropLast.length=k + 1:=by rw [List.length_dropLast]; omega
  have hh:L.dropLast[0]?=L[0]?:=by
   conv=>rhs; rw [<- hL]
   rw [List.getElem?_append_left (by omega)]
  have h0':L[0]? ≠ some 48:=by
   rcases h0 with h | h
   ·exact h
   ·rw [h] at hl; cases hl
  obtain ⟨m,hm,hb⟩:=nQ k L.dropLast hl' (fun c hc=>ha c (List.dropLast_subset L hc)) (.inl (by rw [hh]; exact h0'))
  have hc:=ha _ (List.getLast_mem hne)
  have hm0:m ≠ 0:=fun z=>by
   rw [z,show cH 0=[48] from cY (by decide)] at hm
   rw [<- hm] at hh
   exact h0' (by rw [<- hh]; rfl)
  refine ⟨m * 10 + (L.getLast hne - 48),?_,?_⟩
  ·rw [gh (by omega),show (m * 10 + (L.getLast hne - 48)) / 10=m by omega,hm]
   conv=>rhs; rw [<- hL]
   congr 2
   omega
  ·rw [Nat.pow_succ]
   omega
theorem gj (x:Str):gO x ↔ ∃ m,m < 10 ^ 100 /\ x.cps.toList=cH m:=by
 have hl:x.cps.toList.length=x.length:=Array.length_toList
 constructor
 ·rintro ⟨h1,h2,h3,h4⟩
  obtain ⟨m,hm,hb⟩:=nQ (x.length - 1) x.cps.toList (by omega) h3 h4
  exact ⟨m,Nat.lt_of_lt_of_le hb (Nat.pow_le_pow_right (by decide) (by omega)),hm.symm⟩
 ·rintro ⟨m,hm,hx⟩
  have h1:=dj 100 m hm
  rw [<- hx,hl] at h1
  refine ⟨h1.1,Nat.le_trans h1.2 (by decide),fun c hc=>cR m c (by rw [<- hx]; exact hc),?_⟩
  by_cases h:x.cps.toList[0]?=some 48
  ·right
   obtain ⟨r,hr⟩:∃ r,x.cps.toList=48 :: r:=by
    cases hc:x.cps.toList with
    | nil=>rw [hc] at h; cases h
    | cons a r=>rw [hc] at h; cases h; exact ⟨r,rfl⟩
   have:=ix (m:=m) (r:=r) (by rw [<- hx,hr])
   rw [hx,this]
   exact cY (by decide)
  ·exact .inl h
theorem jA:(Str.ofString "-")=⟨#[45]⟩:=bU (by decide +kernel)
theorem gP (x:Str) (c:Nat):Txt.startswith x ⟨#[c]⟩=decide (x.cps.toList[0]?=some c):=by
 have h:=StrLaws.subAt_one x c 0
 rw [Bool.eq_iff_iff,decide_eq_true_eq,<- h]
 show (decide (0 + (⟨#[c]⟩:Str).length <= x.length) && Builtin.Str.subAt x ⟨#[c]⟩ 0)=true ↔ _
 rw [Bool.and_eq_true,decide_eq_true_eq]
theorem nR {x:Str} {n:Int} (h:x.cps.toList=eK n):x=aR n:=bU (by rw [h]; exact (cI n).symm)
theorem kT {x:Str} {L:List Nat} (hx:x.cps.toList=45 :: L):(∃ n,Big n /\ x=aR n) ↔ (∃ m,m < 10 ^ 100 /\ L=cH m) /\ L ≠ [48]:=by
 constructor
 ·rintro ⟨n,hn,rfl⟩
  unfold aR at hx
  rw [cI] at hx
  unfold eK at hx
  split at hx
  ·have e:=(List.cons.inj hx).2
   refine ⟨⟨n.natAbs,hn,e.symm⟩,fun z=>?_⟩
   rw [z] at e
   have:=ix e
   omega
  ·have:=cR n.natAbs 45 (by rw [hx]; exact List.mem_cons_self ..)
   omega
 ·rintro ⟨⟨m,hm,rfl⟩,h0⟩
  have hm0:m ≠ 0:=fun z=>h0 (by rw [z]; exact cY (by decide))
  refine ⟨-(m:Int),?_,nR ?_⟩
  ·show (-(m:Int)).natAbs < _
   rw [Int.natAbs_neg]
   exact hm
  ·rw [hx]
   unfold eK
   rw [if_pos (by omega),Int.natAbs_neg]
   rfl
theorem kU {x:Str} (hx:x.cps.toList[0]? ≠ some 45):(∃ n,Big n /\ x=aR n) ↔ ∃ m,m < 10 ^ 100 /\ x.cps.toList=cH m:=by
 constructor
 ·rintro ⟨n,hn,rfl⟩
  unfold aR at hx ⊢
  rw [cI] at hx ⊢
  unfold eK at hx ⊢
  split at hx
  ·exact absurd rfl hx
  ·rename_i h
   rw [if_neg h]
   exact ⟨_,hn,rfl⟩
 ·rintro ⟨m,hm,e⟩
  refine ⟨(m:Int),hm,nR ?_⟩
  rw [e]
  unfold eK
  rw [if_neg (by omega)]
  rfl
structure BlF (mg:Str -> Option Value):Prop where
 all:mg "all"=none
 fig:∃ t,mg "FIGURES"=some (.str FIG t)
 hun:∃ t,mg "MOST_FIGURES"=some (.int 100 t)
def nS:Sp:=fun us H Q _=>∃ x:Str,us=[.str x] /\ x.length <= sizeLine /\ ∀ (b:Bool) (H':Hp),(b=true ↔ gO x) -> ar H H' -> Q (.bl b) H'
def jB (CN:Addr):Sp:=fun us H Q E=>∃ x:Str,us=[.str x] /\ x.length <= sizeLine /\ (∀ (n:Int) (H':Hp),x=aR n -> Big n -> ar H H' -> Q (.int n) H') /\ ((¬ ∃ n,Big n /\ x=aR n) -> ∀ H',ar H H' -> E (.ref CN) none H')
theorem nU (c d:Nat):(V.str ⟨#[c]⟩=V.str ⟨#[d]⟩) ↔ c=d:=by
 constructor
 ·intro e
  have e1:(⟨#[c]⟩:Str).cps.toList=(⟨#[d]⟩:Str).cps.toList:=by
   have e2:(⟨#[c]⟩:Str)=⟨#[d]⟩:=by injection e
   rw [e2]
  exact (List.cons.inj e1).1
 ·rintro rfl
  rfl
theorem zero_eq:Str.ofString "0"=⟨#[48]⟩:=bU (by decide +kernel)
theorem ke {b:Bool} {p q:Prop} (h1:b=true -> p) (h2:b=false -> q):if b=true then p else q:=by
 cases b with
 | true=>exact h1 rfl
 | false=>exact h2 rfl
section
variable {P:Program} {w:World} {K:PySem.W.Frag} {mg:Str -> Option Value} {base:Heap}
theorem scFig:aN ["word"] ["word"] (ai kc):=fsc (by decide +kernel)
theorem ndFS:((["word"]:List Str) ++ (["sign"]:List Str)).Nodup:=by decide +kernel
theorem ok_fig {f:Addr} {fd:FuncData} (F:Fun K "is_figures" "is_figures" kc f fd) (B:Blt mg) (T:BlF mg):bG P w K mg base CX0 1 f fd ["word"] nS:=by
 refine F.ok scFig (fun vs H Q E h=>?_) (fun cdv A outer s H vs Q E hr h=>?_)
 ·obtain ⟨x,rfl,_⟩:=h
  rfl
 ·obtain ⟨x,rfl,hz,q⟩:=h
  obtain ⟨tF,hF⟩:=T.fig
  obtain ⟨tH,hH⟩:=T.hun
  refine ⟨_,ag (be (PW.pt (cE (aE cN (ax bR (by rfl) B.len PySem.boot_len (aa (pv 0) af)) ac (aC _)) <|
    cE (aE fN (ax bR (by rfl) B.len PySem.boot_len (aa (pv 0) af)) (bD (v:=.int 100) (by rfl) hH ⟨tH,rfl⟩) (aC _)) <|
    c9 (cm (bV (ax (cK rfl) (by rfl) T.all mh (aa (b8 ["word"] ["word"] ["sign"] (ai kc) rfl rfl rfl (by decide +kernel) rfl rfl (by decide +kernel) (by decide +kernel) (by decide +kernel) (by decide +kernel)
    (mX (pv 0)) (fun _ _ _ _ _=>aH (i:=1) ndFS rfl (Or.inl rfl)) (fun _ _ _ _ _=>bE)
    (fun _ _ _ _ _=>bo im (pv 1) (bD (v:=.str FIG) (by rfl) hF ⟨tF,rfl⟩) (by rfl))) af)))))) (am (aF dw)) aQ) <|
   am <| aF <| pe_or (bo il (aB fB (pv 0) ac (fun _ _=>rfl)) ao (aC _)) (eF (bo bK (pv 0) ao (aC _))),?_⟩
  have hl:x.cps.toList.length=x.length:=Array.length_toList
  have no:∀ H',ar H H' -> ¬ gO x -> Q (.bl false) H':=fun H' s' hn=>q false H' ⟨fun z=>(nomatch z),fun z=>absurd z hn⟩ s'
  refine ⟨_,rfl,x,rfl,hz,_,_,rfl,rfl,_,rfl,bz (fun z=>?_) (fun z1=>?_)⟩
  ·have:=of_decide_eq_true z
   exact no H (ar.refl H) fun h=>by have:=h.1; omega
  have h1:1 <= x.length:=by
   have:¬ ((x.length:Nat):Int) < 1:=fun h=>z1 (decide_eq_true h)
   omega
  refine ⟨_,rfl,x,rfl,hz,_,_,rfl,rfl,_,rfl,bz (fun z=>?_) (fun z2=>?_)⟩
  ·have:=of_decide_eq_true z
   exact no H (ar.refl H) fun h=>by have:=h.2.1; omega
  have h2:x.length <= 100:=by
   have:¬ (100:Int) < ((x.length:Nat):Int):=fun h=>z2 (decide_eq_true h)
   omega
  refine ⟨_,rfl,x,rfl,?_⟩
  refine lcT (fun c=>V.bl (decide (c ∈ FIG.cps.toList))) rfl (show x.length <= 1000 by omega) (fun D c ys post hD hp=>?_) (fun D hD=>?_)
  ·refine ⟨_,rfl,_,_,rfl,rfl,?_⟩
   rw [StrLaws.found_one]
   exact hp
  ·have e:(x.cps.toList.map fun c=>V.bl (decide (c ∈ FIG.cps.toList)))=(x.cps.toList.map fun c=>decide (c ∈ FIG.cps.toList)).map V.bl:=by
    rw [List.map_map]
    rfl
   rw [e]
   refine ⟨D,_,rfl,SqL.of au,?_⟩
   refine ⟨_,rfl,ke (fun hb=>?_) (fun hb=>?_)⟩
   ·refine no _ (ar.new hD) fun h=>?_
    have:((x.cps.toList.map fun c=>decide (c ∈ FIG.cps.toList)).all id)=true:=by
     rw [List.all_map]
     exact List.all_eq_true.mpr fun c hc=>decide_eq_true ((kS c).mpr (h.2.2.1 c hc))
    rw [this] at hb
    exact absurd hb (by decide)
   ·have h3:∀ c ∈ x.cps.toList,48 <= c /\ c <= 57:=fun c hc=>by
     have hb':((x.cps.toList.map fun c=>decide (c ∈ FIG.cps.toList)).all id)=true:=by simpa using hb
     rw [List.all_map] at hb'
     exact (kS c).mp (of_decide_eq_true (List.all_eq_true.mp hb' c hc))
    obtain ⟨c0,r,hc⟩:∃ c0 r,x.cps.toList=c0 :: r:=by
     cases hc:x.cps.toList with
     | nil=>rw [hc] at hl; exact absurd (show (0:Nat)=x.length from hl) (by omega)
     | cons c0 r=>exact ⟨c0,r,rfl⟩
    have h0:atI x.cps.toList (0:Int)=some c0:=by rw [hc]; exact ba (j:=0) rfl
    refine ⟨_,rfl,x,_,_,rfl,rfl,hz,h0,rfl,_,rfl,?_⟩
    rw [zero_eq]
    have hx0:x.cps.toList[0]?=some c0:=by rw [hc]; rfl
    by_cases h48:c0=48
    ·rw [decide_eq_true ((nU c0 48).mpr h48)]
     refine bZ ⟨_,rfl,rfl,?_⟩
     refine q _ _ ?_ (ar.new hD)
     rw [decide_eq_true_iff]
     constructor
     ·intro e
      have e2:x=⟨#[48]⟩:=by injection e
      exact ⟨h1,h2,h3,.inr (by rw [e2])⟩
     ·rintro ⟨_,_,_,h | h⟩
      ·exact absurd (by rw [hx0,h48]) h
      ·exact congrArg V.str (bU h)
    ·rw [decide_eq_false (fun e=>h48 ((nU c0 48).mp e))]
     refine cW (q _ _ ?_ (ar.new hD))
     refine ⟨fun _=>⟨h1,h2,h3,.inl (by rw [hx0]; exact fun e=>h48 (Option.some.inj e))⟩,fun _=>rfl⟩
abbrev nNum:List Str:=["word","figures"]
theorem scNum:aN nNum ["word"] (ai mm):=fsc (by decide +kernel)
theorem ok_num {f CN:Addr} {fd:FuncData} (F:Fun K "read_number" "read_number" mm f fd) (B:Blt mg) (XN:gI K mg "NoText" CN) (Ff:bb P w K mg base 1 "is_figures" ["word"] nS):bG P w K mg base (CXR P w base) 2 f fd ["word"] (jB CN):=by
 refine F.okR scNum (fun vs H Q E h=>?_) (fun cdv A outer s H vs Q E hr h=>?_)
 ·obtain ⟨n,rfl,_⟩:=h
  rfl
 ·obtain ⟨x,rfl,hz,q1,q2⟩:=h
  have nd:=scNum.nd
  refine ⟨_,ag (aw (i:=1) nd rfl (Or.inl rfl) (eQ (bV (ck PySem.F.plainAttrs_str PySem.F.slot_str_startswith PySem.F.type_str_startswith ma (pv 0) (aa ao af))) (aG eJ (pv 0) (aI ac) aV) (pv 0))) <|
   ag (be (PW.pt (cE (cm (bV (az Ff hr (aa (pv 1) af)))) (c9 (aE bK (pv 0) ao (aC _))))) (am (dD jr rfl XN (by rfl) (aa ao af))) aQ) <|
   am (aF (aT lZ (by rfl) B.int nF (aa (pv 0) af))),?_⟩
  have hs16:sizeLine=16777216:=sizeLine_eq
  have hl:x.cps.toList.length=x.length:=Array.length_toList
  have one:(1:Nat) <= sizeLine:=by omega
  have fin:∀ H',ar H H' -> ∀ n,Big n -> x=aR n -> PySem.intText? x=some n /\ x.length <= 640:=fun H' _ n hn e=>by
   have hnl:=dE (k:=100) (by decide) hn
   have hzl:=fe n
   subst e
   exact ⟨eL (by omega),by unfold aR; omega⟩
  have m0:(Str.ofString "-0").cps.toList=[45,48]:=by decide +kernel
  by_cases h45:x.cps.toList[0]?=some 45
  ·obtain ⟨L,hL⟩:∃ L,x.cps.toList=45 :: L:=by
    cases hc:x.cps.toList with
    | nil=>rw [hc] at h45; cases h45
    | cons a r=>rw [hc] at h45; cases h45; exact ⟨r,rfl⟩
   have hs:Txt.startswith x (Str.ofString "-")=true:=by rw [jA,gP]; exact decide_eq_true h45
   have hx1:1 <= x.length:=by rw [<- hl,hL]; simp
   have hf:=cL (x:=x) (n:=1) hx1
   have hfl:=dk (x:=x) (n:=1) hx1
   rw [hL] at hf
   have hf:(Txt.slice x (some ((1:Nat):Int)) none).cps.toList=L:=hf
   have key:=kT hL
   refine ⟨_,rfl,rfl,x,_,rfl,rfl,_,rfl,?_⟩
   rw [hs]
   refine bz (fun _=>?_) (fun h=>absurd rfl h)
   refine ⟨_,rfl,_,rfl,x,rfl,hz,?_⟩
   refine ⟨_,rfl,_,rfl,Nat.le_trans (Nat.le_of_eq hfl) (by omega),fun b H1 hb s1=>⟨_,rfl,?_⟩⟩
   rw [gj] at hb
   have hb:b=true ↔ ∃ m,m < 10 ^ 100 /\ L=cH m:=by rw [<- hf]; exact hb
   cases b with
   | false=>exact cW ⟨one,q2 (fun h=>absurd (hb.mpr (key.mp h).1) (by decide)) H1 s1⟩
   | true =>
    refine bZ ⟨_,rfl,rfl,_,rfl,?_⟩
    have e48:(V.str x=V.str (Str.ofString "-0")) ↔ L=[48]:=by
     constructor
     ·intro e
      have e2:x=Str.ofString "-0":=by injection e
      rw [e2,m0] at hL
      exact (List.cons.inj hL).2.symm
     ·intro e
      exact congrArg V.str (bU (by rw [hL,m0,e]))
    by_cases h48:L=[48]
    ·rw [decide_eq_true (e48.mpr h48)]
     exact cW ⟨one,q2 (fun h=>(key.mp h).2 h48) H1 s1⟩
    ·rw [decide_eq_false (fun e=>h48 (e48.mp e))]
     refine bZ ?_
     obtain ⟨n,hn,e⟩:=key.mpr ⟨hb.mp rfl,h48⟩
     obtain ⟨r1,r2⟩:=fin H1 s1 n hn e
     exact ⟨_,rfl,x,n,rfl,r1,r2,q1 n _ e hn s1⟩
  ·have hs:Txt.startswith x (Str.ofString "-")=false:=by rw [jA,gP]; exact decide_eq_false h45
   have key:=kU h45
   refine ⟨_,rfl,rfl,x,_,rfl,rfl,_,rfl,?_⟩
   rw [hs]
   refine bZ ?_
   refine ⟨_,rfl,_,rfl,_,rfl,hz,fun b H1 hb s1=>⟨_,rfl,?_⟩⟩
   rw [gj] at hb
   cases b with
   | false=>exact cW ⟨one,q2 (fun h=>absurd (hb.mpr (key.mp h)) (by decide)) H1 s1⟩
   | true =>
    refine bZ ⟨_,rfl,rfl,_,rfl,?_⟩
    rw [decide_eq_false (fun e=>h45 (by
     have e2:x=Str.ofString "-0":=by injection e
     rw [e2,m0]
     rfl))]
    refine bZ ?_
    obtain ⟨n,hn,e⟩:=key.mpr (hb.mp rfl)
    obtain ⟨r1,r2⟩:=fin H1 s1 n hn e
    exact ⟨_,rfl,x,n,rfl,r1,r2,q1 n _ e hn s1⟩
end
abbrev sWb:Stmt:=top 31
abbrev sRh:Stmt:=top 33
abbrev sRa:Stmt:=top 34
def fV:Option Int -> Str
 | none=>Str.ofString "-"
 | some n=>aR n
def mo:Option Int -> V
 | none=>.non
 | some n=>.int n
def heW (p:Str × Int):List Str:=[Str.ofString "held",p.1,aR p.2]
def asW (p:Str × Int × Option Int):List Str:=[Str.ofString "asked",p.1,aR p.2.1,fV p.2.2]
structure Wds (H:Hp) (l:Addr) (ws:List Str):Prop where
 at':H l=some (.lst (ws.map V.str))
 ne:ws ≠ []
 le:ws.length <= 900
 sz:∀ x ∈ ws,x.length <= 1000000
def nV (CN:Addr):Sp:=fun us H Q E=>∃ (l:Addr) (ws:List Str) (f:Str) (k:Nat),us=[.ref l,.str f,.int k] /\ Wds H l ws /\ f.length <= 100 /\ k <= 10 /\
 (∀ (r:List Str) (p:Addr) (H':Hp),ws=f :: r -> r.length=k -> ar H H' -> H' p=some (.lst (r.map V.str)) -> Q (.ref p) H') /\ ((¬ ∃ r,ws=f :: r /\ r.length=k) -> ∀ H',ar H H' -> E (.ref CN) none H')
def nW (ws:List Str) (p:Str × Int):Prop:=ws=heW p /\ Big p.2
def nX (ws:List Str) (p:Str × Int × Option Int):Prop:=ws=asW p /\ Big p.2.1 /\ ∀ m,p.2.2=some m -> Big m
def spRh (CN:Addr):Sp:=fun us H Q E=>∃ (l:Addr) (ws:List Str),us=[.ref l] /\ Wds H l ws /\
 (∀ (x:Str × Int) (p:Addr) (H':Hp),nW ws x -> ar H H' -> H p=none -> H' p=some (.tup [.str x.1,.int x.2]) -> Q (.ref p) H') /\ ((¬ ∃ x,nW ws x) -> ∀ H',ar H H' -> E (.ref CN) none H')
def spRa (CN:Addr):Sp:=fun us H Q E=>∃ (l:Addr) (ws:List Str),us=[.ref l] /\ Wds H l ws /\
 (∀ (x:Str × Int × Option Int) (p:Addr) (H':Hp),nX ws x -> ar H H' -> H p=none -> H' p=some (.tup [.str x.1,.int x.2.1,mo x.2.2]) -> Q (.ref p) H') /\ ((¬ ∃ x,nX ws x) -> ∀ H',ar H H' -> E (.ref CN) none H')
theorem cutD (ys:List Str):bB (ys.map V.str) (some 1) none=(ys.drop 1).map V.str:=by
 unfold bB
 rw [List.length_map,HT.dz,show HT.sIx ys.length 0 (some 1)=min 1 ys.length from HT.bY _ _ 1,<- List.map_drop]
 by_cases h:1 <= ys.length
 ·rw [Nat.min_eq_left h,List.take_of_length_le (by rw [List.length_map,List.length_drop]; omega)]
 ·rw [Nat.min_eq_right (by omega),List.drop_of_length_le (Nat.le_refl _),List.drop_of_length_le (by omega)]
  simp
theorem fS (n:Int):¬ V.str (aR n)=V.str (Str.ofString "-"):=fun e=>by
 have e1:=congrArg (fun v=>match v with | V.str z=>z.cps.toList | _=>[]) e
 have e2:(Str.ofString "-").cps.toList=[45]:=by decide +kernel
 have e3:(Str.ofString (toString n)).cps.toList=(Str.ofString "-").cps.toList:=e1
 rw [e2,cI] at e3
 unfold eK at e3
 have hl:=(dj n.natAbs n.natAbs (Nat.lt_pow_self (by decide))).1
 split at e3
 ·rw [(List.cons.inj e3).2] at hl
  exact absurd hl (by decide)
 ·have h5:=cR n.natAbs 45 (by rw [e3]; exact List.mem_cons_self ..)
  omega
theorem fh {x y:Str} (e:V.str x=V.str y):x=y:=by injection e
theorem len10 (k:Nat) (h:k <= 10):(aR (k:Int)).length <= 3:=by
 have h1:=dE (k:=2) (n:=(k:Int)) (by decide) (by show k < 100; omega)
 have h2:=fe (k:Int)
 unfold aR
 omega
section
variable {P:Program} {w:World} {K:PySem.W.Frag} {mg:Str -> Option Value} {base:Heap}
theorem scWb:aN ["words","first","many"] ["words","first","many"] (ai sWb):=fsc (by decide +kernel)
theorem ok_wb {f CN:Addr} {fd:FuncData} (F:Fun K "words_behind" "words_behind" sWb f fd) (B:Blt mg) (XN:gI K mg "NoText" CN):bG P w K mg base (CXR P w base) 1 f fd ["words","first","many"] (nV CN):=by
 refine F.okR scWb (fun vs H Q E h=>?_) (fun cdv A outer s H vs Q E hr h=>?_)
 ·obtain ⟨l,ws,x,k,rfl,_⟩:=h
  rfl
 ·obtain ⟨l,ws,x,k,rfl,⟨hH,hne,hle,hsz⟩,hx,hk,q1,q2⟩:=h
  refine ⟨_,ag (be (PW.pt (cE (aE il (aB ay (pv 0) ac (fun _ _=>rfl)) (pv 1) (aC _)) (c9 (aE il (ax aO (by rfl) B.len PySem.boot_len (aa (pv 0) af)) (aj bd (pv 2) ac) (aC _)))))
    (am (dD jr rfl XN (by rfl) (aa (gg (bF ao (bF (dv (pv 1)) (bF ao (bF (dv (pv 2)) iY))))) af))) aQ) <|
   am (aF (aG bO (pv 0) (aI ac) aV)),?_⟩
  have hs16:sizeLine=16777216:=sizeLine_eq
  have one:(1:Nat) <= sizeLine:=by omega
  obtain ⟨y,r,rfl⟩:∃ y r,ws=y :: r:=by
   cases ws with
   | nil=>exact absurd rfl hne
   | cons y r=>exact ⟨y,r,rfl⟩
  have k0:Str.empty.length=0:=rfl
  have k1:(Str.ofString "a row is no row of ").length <= 100:=by decide +kernel
  have k2:(Str.ofString ", or has other than so many words behind: ").length <= 100:=by decide +kernel
  have kl:=len10 k hk
  have lg:((k:Int)).natAbs.log2 < 1920:=by
   show k.log2 < 1920
   by_cases h0:k=0
   ·subst h0; decide
   ·exact (Nat.log2_lt h0).mpr (Nat.lt_of_lt_of_le (show k < 2 ^ 4 by omega) (Nat.pow_le_pow_right (by decide) (by decide)))
  have g:(Str.empty ++ Str.ofString "a row is no row of ").length <= sizeLine /\ (Str.empty ++ Str.ofString "a row is no row of " ++ x).length <= sizeLine /\ (Str.empty ++ Str.ofString "a row is no row of " ++ x ++ Str.ofString ", or has other than so many words behind: ").length <= sizeLine /\ (Str.empty ++ Str.ofString "a row is no row of " ++ x ++ Str.ofString ", or has other than so many words behind: " ++ aR k).length <= sizeLine:=by
   simp only [Str.length_append,k0]
   omega
  obtain ⟨g1,g2,g3,g4⟩:=g
  refine ⟨_,rfl,l,_,_,_,rfl,rfl,SqL.of hH,ba (j:=0) rfl,_,rfl,rfl,_,rfl,?_⟩
  by_cases hyx:y=x
  ·subst hyx
   rw [decide_eq_true rfl]
   refine bZ ⟨_,rfl,l,_,rfl,.inl (SqL.of hH),_,rfl,_,_,rfl,rfl,rfl,_,rfl,?_⟩
   by_cases hrk:r.length=k
   ·have e:V.int (((y :: r).map V.str).length:Nat)=V.int ((k:Int) + 1):=by
     rw [List.length_map,List.length_cons]
     congr 1
     omega
    rw [decide_eq_true e]
    refine bZ ⟨_,rfl,_,rfl,l,_,rfl,SqL.of hH,fun p hp=>?_⟩
    rw [cutD]
    exact q1 r p _ rfl hrk (ar.new hp) au
   ·have e:¬ V.int (((y :: r).map V.str).length:Nat)=V.int ((k:Int) + 1):=fun e=>hrk (by
     have e:(((y :: r).map V.str).length:Int)=(k:Int) + 1:=by injection e
     rw [List.length_map,List.length_cons] at e
     omega)
    rw [decide_eq_false e]
    exact cW ⟨_,rfl,g1,_,rfl,.inl ⟨_,rfl,by omega,_,rfl,g2,_,rfl,g3,_,rfl,.inr ⟨_,rfl,lg,_,rfl,g4,g4,one,q2 (fun ⟨r',e1,e2⟩=>hrk (by rw [(List.cons.inj e1).2]; exact e2)) H (ar.refl H)⟩⟩⟩
  ·rw [decide_eq_false (fun e=>hyx (fh e))]
   exact cW ⟨_,rfl,g1,_,rfl,.inl ⟨_,rfl,by omega,_,rfl,g2,_,rfl,g3,_,rfl,.inr ⟨_,rfl,lg,_,rfl,g4,g4,one,q2 (fun ⟨r',e1,e2⟩=>hyx (List.cons.inj e1).1) H (ar.refl H)⟩⟩⟩
theorem kW {r:List Str} (h:r.length=2):∃ a b,r=[a,b]:=by
 match r,h with
 | [a,b],_=>exact ⟨a,b,rfl⟩
theorem mq {r:List Str} (h:r.length=3):∃ a b c,r=[a,b,c]:=by
 match r,h with
 | [a,b,c],_=>exact ⟨a,b,c,rfl⟩
theorem scRh:aN ["words","parts"] ["words"] (ai sRh):=fsc (by decide +kernel)
theorem ok_rh {f CN:Addr} {fd:FuncData} (F:Fun K "read_held" "read_held" sRh f fd) (Fw:cb P w K mg base 1 "words_behind" ["words","first","many"] (nV CN)) (Fn:cb P w K mg base 2 "read_number" ["word"] (jB CN)):bG P w K mg base (CXR P w base) 3 f fd ["words"] (spRh CN):=by
 refine F.okR scRh (fun vs H Q E h=>?_) (fun cdv A outer s H vs Q E hr h=>?_)
 ·obtain ⟨l,ws,rfl,_⟩:=h
  rfl
 ·obtain ⟨l,ws,rfl,W,q1,q2⟩:=h
  have nd:=scRh.nd
  have r1:bP 1 _:=hr.mono (by decide)
  refine ⟨_,ag (aw (i:=1) nd rfl (Or.inl rfl) (bv Fw r1 eY (aa (pv 0) (aa ao (aa ac af))))) <|
   am (aF (jV (aa (aB ay (pv 1) ac (fun _ _=>rfl)) (aa (bv Fn hr eY (aa (aB ay (pv 1) ac (fun _ _=>rfl)) af)) af)))),?_⟩
  have hs16:sizeLine=16777216:=sizeLine_eq
  refine ⟨_,rfl,l,ws,_,2,rfl,W,(by decide +kernel),(by decide),fun r p H1 e hl s1 e1=>?_,fun hn H1 s1=>q2 (fun ⟨x,hx,_⟩=>hn ⟨_,hx,rfl⟩) H1 s1⟩
  obtain ⟨a,b,rfl⟩:=kW hl
  have hb:b.length <= 1000000:=W.sz b (by rw [e]; simp)
  refine ⟨_,rfl,p,_,_,_,rfl,rfl,SqL.of e1,ba (j:=0) rfl,_,rfl,p,_,_,_,rfl,rfl,SqL.of e1,ba (j:=1) rfl,b,rfl,by omega,fun n H2 hbn hB s2=>⟨(show 2 <= sizeLine by omega),fun t ht=>?_⟩,fun hn H2 s2=>?_⟩
  ·exact q1 (a,n) t _ ⟨by rw [e,hbn]; rfl,hB⟩ (s1.trans (s2.trans (ar.new ht))) ((s1.trans s2).none ht) au
  ·refine q2 (fun ⟨x,hx,hB⟩=>hn ⟨x.2,hB,?_⟩) H2 (s1.trans s2)
   rw [e] at hx
   unfold heW at hx
   simp only [List.cons.injEq] at hx
   exact hx.2.2.1
theorem scRa:aN ["words","parts","answer"] ["words"] (ai sRa):=fsc (by decide +kernel)
theorem ok_ra {f CN:Addr} {fd:FuncData} (F:Fun K "read_asked" "read_asked" sRa f fd) (Fw:cb P w K mg base 1 "words_behind" ["words","first","many"] (nV CN)) (Fn:cb P w K mg base 2 "read_number" ["word"] (jB CN)):bG P w K mg base (CXR P w base) 3 f fd ["words"] (spRa CN):=by
 refine F.okR scRa (fun vs H Q E h=>?_) (fun cdv A outer s H vs Q E hr h=>?_)
 ·obtain ⟨l,ws,rfl,_⟩:=h
  rfl
 ·obtain ⟨l,ws,rfl,W,q1,q2⟩:=h
  have nd:=scRa.nd
  have r1:bP 1 _:=hr.mono (by decide)
  refine ⟨_,ag (aw (i:=1) nd rfl (Or.inl rfl) (bv Fw r1 eY (aa (pv 0) (aa ao (aa ac af))))) <|
   ag (aw (i:=2) nd rfl (Or.inl rfl) (eQ (aE bK (aB ay (pv 1) ac (fun _ _=>rfl)) ao (aC _)) iP (bv Fn hr eY (aa (aB ay (pv 1) ac (fun _ _=>rfl)) af)))) <|
   am (aF (jV (aa (aB ay (pv 1) ac (fun _ _=>rfl)) (aa (bv Fn hr eY (aa (aB ay (pv 1) ac (fun _ _=>rfl)) af)) (aa (pv 2) af))))),?_⟩
  have hs16:sizeLine=16777216:=sizeLine_eq
  refine ⟨_,rfl,l,ws,_,3,rfl,W,(by decide +kernel),(by decide),fun r p H1 e hl s1 e1=>?_,fun hn H1 s1=>q2 (fun ⟨x,hx,_⟩=>hn ⟨_,hx,rfl⟩) H1 s1⟩
  obtain ⟨a,b,c,rfl⟩:=mq hl
  have hb:b.length <= 1000000:=W.sz b (by rw [e]; simp)
  have hc:c.length <= 1000000:=W.sz c (by rw [e]; simp)
  have inj:∀ x:Str × Int × Option Int,ws=asW x -> a=x.1 /\ b=aR x.2.1 /\ c=fV x.2.2:=fun x hx=>by
   rw [e] at hx
   unfold asW at hx
   simp only [List.cons.injEq] at hx
   exact ⟨hx.2.1,hx.2.2.1,hx.2.2.2.1⟩
  refine ⟨_,rfl,p,_,_,_,rfl,rfl,SqL.of e1,ba (j:=2) rfl,rfl,_,rfl,?_⟩
  have rest:∀ (o:Option Int) (H0:Hp),ar H1 H0 -> c=fV o -> (∀ m,o=some m -> Big m) -> ∀ (n:Int) (H2:Hp),b=aR n -> Big n -> ar H0 H2 -> ∀ t,H2 t=none -> Q (.ref t) (upd H2 t (.tup [.str a,.int n,mo o])):=fun o H0 s0 ho hO n H2 hbn hB s2 t ht =>
   q1 (a,n,o) t _ ⟨by rw [e,hbn,ho]; rfl,hB,hO⟩ (s1.trans (s0.trans (s2.trans (ar.new ht)))) ((s1.trans (s0.trans s2)).none ht) au
  by_cases hd:c=Str.ofString "-"
  ·rw [decide_eq_true (congrArg V.str hd)]
   refine bz (fun _=>?_) (fun h=>absurd rfl h)
   refine ⟨_,rfl,p,_,_,_,rfl,rfl,SqL.of e1,ba (j:=0) rfl,_,rfl,p,_,_,_,rfl,rfl,SqL.of e1,ba (j:=1) rfl,b,rfl,by omega,fun n H2 hbn hB s2=>⟨_,rfl,(show 3 <= sizeLine by omega),fun t ht=>?_⟩,fun hn H2 s2=>?_⟩
   ·exact rest none H1 (ar.refl _) hd (fun m h=>nomatch h) n H2 hbn hB s2 t ht
   ·exact q2 (fun ⟨x,hx,hB,_⟩=>hn ⟨x.2.1,hB,(inj x hx).2.1⟩) H2 (s1.trans s2)
  ·rw [decide_eq_false (fun z=>hd (fh z))]
   refine bZ ?_
   refine ⟨_,rfl,p,_,_,_,rfl,rfl,SqL.of e1,ba (j:=2) rfl,c,rfl,by omega,fun m H0 hcm hM s0=>?_,fun hn H2 s2=>?_⟩
   ·have e0:=s0 _ _ e1
    refine ⟨_,rfl,p,_,_,_,rfl,rfl,SqL.of e0,ba (j:=0) rfl,_,rfl,p,_,_,_,rfl,rfl,SqL.of e0,ba (j:=1) rfl,b,rfl,by omega,fun n H2 hbn hB s2=>⟨_,rfl,(show 3 <= sizeLine by omega),fun t ht=>?_⟩,fun hn H2 s2=>?_⟩
    ·exact rest (some m) H0 s0 hcm (fun m' h=>by cases h; exact hM) n H2 hbn hB s2 t ht
    ·exact q2 (fun ⟨x,hx,hB,_⟩=>hn ⟨x.2.1,hB,(inj x hx).2.1⟩) H2 (s1.trans (s0.trans s2))
   ·refine q2 (fun ⟨x,hx,_,hB⟩=>?_) H2 (s1.trans s2)
    have h3:=(inj x hx).2.2
    cases hx2:x.2.2 with
    | none=>rw [hx2] at h3; exact hd h3
    | some m=>rw [hx2] at h3; exact hn ⟨m,hB m hx2,h3⟩
end
abbrev sRb:Stmt:=top 32
abbrev SL:Str:=Str.ofString "/"
def bw (vs cs ls:List Str):List Str:=Str.ofString "bench" :: (vs ++ SL :: (cs ++ SL :: ls))
def BnT (H:Hp) (b:Addr) (vs cs ls:List Str):Prop:=∃ v c l,H b=some (.tup [.ref v,.ref c,.ref l]) /\ H v=some (.tup (vs.map V.str)) /\ H c=some (.tup (cs.map V.str)) /\ H l=some (.tup (ls.map V.str))
def BwOk (ws vs cs ls:List Str):Prop:=ws=bw vs cs ls /\ SL ∉ vs /\ SL ∉ cs /\ SL ∉ ls
def spRb (CN:Addr):Sp:=fun us H Q E=>∃ (l:Addr) (ws:List Str),us=[.ref l] /\ Wds H l ws /\
 (∀ (vs cs ls:List Str) (p:Addr) (H':Hp),BwOk ws vs cs ls -> ar H H' -> H p=none -> BnT H' p vs cs ls -> Q (.ref p) H') /\ ((¬ ∃ vs cs ls,BwOk ws vs cs ls) -> ∀ H',ar H H' -> E (.ref CN) none H')
theorem gQ:∀ {n:Nat} {r:List Str},r.countP (fun x=>decide (x=SL))=n + 1 -> ∃ a b,r=a ++ SL :: b /\ SL ∉ a /\ b.countP (fun x=>decide (x=SL))=n
 | n,[],h=>by simp at h
 | n,x :: r,h=>by
  by_cases hx:x=SL
  ·subst hx
   rw [List.countP_cons_of_pos (by simp)] at h
   exact ⟨[],r,rfl,by simp,by omega⟩
  ·rw [List.countP_cons_of_neg (by simpa using hx)] at h
   obtain ⟨a,b,rfl,h1,h2⟩:=gQ h
   exact ⟨x :: a,b,rfl,fun z=>by
    rcases List.mem_cons.mp z with z | z
    ·exact hx z.symm
    ·exact h1 z,h2⟩
theorem cutN {ys:List V} {a b:Nat} (ha:a <= b) (hb:b <= ys.length):bB ys (some (a:Int)) (some (b:Int))=(ys.drop a).take (b - a):=by
 unfold bB
 rw [HT.bY,HT.bY,Nat.min_eq_left hb,Nat.min_eq_left (Nat.le_trans ha hb)]
theorem nY {ys:List V} {a:Nat} (ha:a <= ys.length):bB ys (some (a:Int)) none=ys.drop a:=by
 unfold bB
 rw [HT.bY,HT.dz,Nat.min_eq_left ha,List.take_of_length_le (by rw [List.length_drop]; omega)]
theorem dH (vs cs ls:List Str):(bw vs cs ls).length=3 + vs.length + cs.length + ls.length:=by
 unfold bw
 simp only [List.length_cons,List.length_append]
 omega
theorem cnt0 {xs:List Str} (h:SL ∉ xs):xs.countP (fun x=>decide (x=SL))=0 :=
 List.countP_eq_zero.mpr fun x hx e=>h (of_decide_eq_true e ▸ hx)
theorem gR:¬ Str.ofString "bench"=SL:=by decide +kernel
theorem bw_cnt {vs cs ls:List Str} (h1:SL ∉ vs) (h2:SL ∉ cs) (h3:SL ∉ ls):(bw vs cs ls).countP (fun x=>decide (x=SL))=2:=by
 unfold bw
 rw [List.countP_cons,List.countP_append,List.countP_cons,List.countP_append,List.countP_cons,cnt0 h1,cnt0 h2,cnt0 h3]
 simp [gR]
theorem bw_of {r:List Str} (h:(Str.ofString "bench" :: r).countP (fun x=>decide (x=SL))=2):∃ vs cs ls,BwOk (Str.ofString "bench" :: r) vs cs ls:=by
 rw [List.countP_cons_of_neg (by simpa using gR)] at h
 obtain ⟨a,b,rfl,h1,h2⟩:=gQ h
 obtain ⟨c,d,rfl,h3,h4⟩:=gQ h2
 exact ⟨a,c,d,rfl,h1,h3,fun z=>by
  have:=List.countP_eq_zero.mp h4 SL z
  simp at this⟩
theorem bw_1 (vs cs ls:List Str):(bw vs cs ls)[1 + vs.length]?=some SL:=by
 unfold bw
 rw [Nat.add_comm,List.getElem?_cons_succ,List.getElem?_append_right (Nat.le_refl _),Nat.sub_self]
 rfl
theorem bw_lt1 {vs cs ls:List Str} (h1:SL ∉ vs) (m:Nat) (hm:m < 1 + vs.length):(bw vs cs ls)[m]? ≠ some SL:=by
 unfold bw
 cases m with
 | zero=>intro e; exact gR (Option.some.inj e)
 | succ m =>
  rw [List.getElem?_cons_succ,List.getElem?_append_left (by omega)]
  exact fun e=>h1 (List.mem_of_getElem? e)
theorem bw_2 (vs cs ls:List Str):(bw vs cs ls)[2 + vs.length + cs.length]?=some SL:=by
 unfold bw
 rw [show 2 + vs.length + cs.length=(1 + vs.length + cs.length) + 1 by omega,List.getElem?_cons_succ,List.getElem?_append_right (by omega),show 1 + vs.length + cs.length - vs.length=cs.length + 1 by omega,List.getElem?_cons_succ,List.getElem?_append_right (Nat.le_refl _),Nat.sub_self]
 rfl
theorem bw_lt2 {vs cs ls:List Str} (h2:SL ∉ cs) (m:Nat) (h:2 + vs.length <= m) (hm:m < 2 + vs.length + cs.length):(bw vs cs ls)[m]? ≠ some SL:=by
 unfold bw
 obtain ⟨k,rfl⟩:∃ k,m=(vs.length + (k + 1)) + 1:=⟨m - vs.length - 2,by omega⟩
 rw [List.getElem?_cons_succ,List.getElem?_append_right (by omega),show vs.length + (k + 1) - vs.length=k + 1 by omega,List.getElem?_cons_succ,List.getElem?_append_left (by omega)]
 exact fun e=>h2 (List.mem_of_getElem? e)
theorem bw_cut1 (vs cs ls:List Str):((bw vs cs ls).drop 1).take vs.length=vs:=by
 unfold bw
 rw [List.drop_succ_cons,List.drop_zero,List.take_left]
theorem bw_cut2 (vs cs ls:List Str):((bw vs cs ls).drop (2 + vs.length)).take cs.length=cs:=by
 unfold bw
 rw [show 2 + vs.length=(vs.length + 1) + 1 by omega,List.drop_succ_cons,List.drop_append,show vs.length + 1 - vs.length=1 by omega,List.drop_of_length_le (by omega),List.nil_append,List.drop_succ_cons,List.drop_zero,List.take_left]
theorem bw_cut3 (vs cs ls:List Str):(bw vs cs ls).drop (3 + vs.length + cs.length)=ls:=by
 unfold bw
 rw [show 3 + vs.length + cs.length=(vs.length + (cs.length + 1 + 1)) + 1 by omega,List.drop_succ_cons,List.drop_append,List.drop_of_length_le (by omega),List.nil_append,show vs.length + (cs.length + 1 + 1) - vs.length=(cs.length + 1) + 1 by omega,List.drop_succ_cons,List.drop_append,List.drop_of_length_le (by omega),List.nil_append,show cs.length + 1 - cs.length=1 by omega,List.drop_succ_cons,List.drop_zero]
section
variable {P:Program} {w:World} {K:PySem.W.Frag} {mg:Str -> Option Value} {base:Heap}
theorem scRb:aN ["words","first","second"] ["words"] (ai sRb):=fsc (by decide +kernel)
theorem ok_rb {f CN:Addr} {fd:FuncData} (F:Fun K "read_bench" "read_bench" sRb f fd) (B:Blt mg) (XN:gI K mg "NoText" CN):bG P w K mg base (CXR P w base) 1 f fd ["words"] (spRb CN):=by
 refine F.okR scRb (fun vs H Q E h=>?_) (fun cdv A outer s H us Q E hr h=>?_)
 ·obtain ⟨l,ws,rfl,_⟩:=h
  rfl
 ·obtain ⟨l,ws,rfl,⟨hH,hne,hle,hsz⟩,q1,q2⟩:=h
  have nd:=scRb.nd
  refine ⟨_,ag (be (PW.pt (cE (aE il (aB ay (pv 0) ac (fun _ _=>rfl)) ao (aC _)) (c9 (aE il (ck PySem.F.plainAttrs_list PySem.F.slot_list_count PySem.F.type_list_count md (pv 0) (aa ao af)) ac (aC _))))) (am (dD jr rfl XN (by rfl) (aa ao af))) aQ) <|
   ag (aw (i:=1) nd rfl (Or.inl rfl) (ck PySem.F.plainAttrs_list PySem.F.slot_list_index PySem.F.type_list_index me (pv 0) (aa ao af))) <|
   ag (aw (i:=2) nd rfl (Or.inl rfl) (ck PySem.F.plainAttrs_list PySem.F.slot_list_index PySem.F.type_list_index mf (pv 0) (aa ao (aa (aj bd (pv 1) ac) af)))) <|
   am (aF (jV (aa (aT bh (by rfl) B.tuple cg (aa (aG bO (pv 0) (aI ac) (aI (pv 1))) af))
    (aa (aT bh (by rfl) B.tuple cg (aa (aG bO (pv 0) (aI (aj bd (pv 1) ac)) (aI (pv 2))) af))
    (aa (aT bh (by rfl) B.tuple cg (aa (aG bO (pv 0) (aI (aj bd (pv 2) ac)) aV) af)) af))))),?_⟩
  have hs16:sizeLine=16777216:=sizeLine_eq
  have one:(1:Nat) <= sizeLine:=by omega
  obtain ⟨y,r,rfl⟩:∃ y r,ws=y :: r:=by
   cases ws with
   | nil=>exact absurd rfl hne
   | cons y r=>exact ⟨y,r,rfl⟩
  refine ⟨_,rfl,l,_,_,_,rfl,rfl,SqL.of hH,ba (j:=0) rfl,rfl,_,rfl,?_⟩
  by_cases hy:y=Str.ofString "bench"
  rotate_left
  ·rw [decide_eq_false (fun e=>hy (fh e))]
   exact cW ⟨one,q2 (fun ⟨vs,cs,ls,e,_⟩=>hy (List.cons.inj e).1) H (ar.refl H)⟩
  rw [decide_eq_true (congrArg V.str hy)]
  have ty:∀ H2:Hp,ar H H2 -> ("list"="list" /\ ∃ xs,SqL K H2 l xs):=fun H2 e=>⟨rfl,_,SqL.of (e _ _ hH)⟩
  refine bZ ⟨_,rfl,.inl (ty H (ar.refl H)),l,_,SL,rfl,rfl,hH,rfl,_,rfl,?_⟩
  by_cases h2:(y :: r).countP (fun x=>decide (x=SL))=2
  rotate_left
  ·rw [decide_eq_false (fun e=>h2 (by
    have e:(((y :: r).countP (fun x=>decide (x=SL)):Nat):Int)=2:=by injection e
    omega))]
   exact cW ⟨one,q2 (fun ⟨vs,cs,ls,e,n1,n2,n3⟩=>h2 (by rw [e]; exact bw_cnt n1 n2 n3)) H (ar.refl H)⟩
  have e2:V.int (((y :: r).countP fun x=>decide (x=SL):Nat):Int)=V.int 2:=by rw [h2]; rfl
  rw [decide_eq_true e2]
  subst hy
  obtain ⟨vs,cs,ls,hW⟩:=bw_of h2
  have hW':=hW
  obtain ⟨ew,n1,n2,n3⟩:=hW'
  have q:=fun p H'=>q1 vs cs ls p H' hW
  clear q1 q2 e2 h2
  rw [ew] at hH hle
  have hbl:=dH vs cs ls
  have hml:((bw vs cs ls).map V.str).length=3 + vs.length + cs.length + ls.length:=by rw [List.length_map]; exact hbl
  refine bZ ?_
  have ty:∀ H2:Hp,ar H H2 -> ("list"="list" /\ ∃ xs,SqL K H2 l xs):=fun H2 e=>⟨rfl,_,SqL.of (e _ _ hH)⟩
  refine ⟨_,rfl,.inl (ty H (ar.refl H)),l,_,SL,1 + vs.length,rfl,rfl,hH,by omega,bw_1 vs cs ls,bw_lt1 n1,?_⟩
  have e3:(((1 + vs.length:Nat):Int) + 1)=((2 + vs.length:Nat):Int):=by omega
  have e4:(((2 + vs.length + cs.length:Nat):Int) + 1)=((3 + vs.length + cs.length:Nat):Int):=by omega
  refine ⟨_,rfl,.inl (ty H (ar.refl H)),_,rfl,_,_,rfl,rfl,l,_,SL,2 + vs.length,2 + vs.length + cs.length,rfl,(by show [V.str SL,V.int (((1 + vs.length:Nat):Int) + 1)]=_; rw [e3]),hH,by omega,by omega,bw_2 vs cs ls,bw_lt2 n2,?_⟩
  have c1:bB ((bw vs cs ls).map V.str) (some 1) (some ((1 + vs.length:Nat):Int))=vs.map V.str:=by
   have h:=cutN (ys:=(bw vs cs ls).map V.str) (a:=1) (b:=1 + vs.length) (by omega) (by omega)
   rw [show 1 + vs.length - 1=vs.length by omega,<- List.map_drop,<- List.map_take,bw_cut1] at h
   exact h
  have c2:bB ((bw vs cs ls).map V.str) (some (((1 + vs.length:Nat):Int) + 1)) (some ((2 + vs.length + cs.length:Nat):Int))=cs.map V.str:=by
   have h:=cutN (ys:=(bw vs cs ls).map V.str) (a:=2 + vs.length) (b:=2 + vs.length + cs.length) (by omega) (by omega)
   rw [show 2 + vs.length + cs.length - (2 + vs.length)=cs.length by omega,<- List.map_drop,<- List.map_take,bw_cut2] at h
   rw [e3]
   exact h
  have c3:bB ((bw vs cs ls).map V.str) (some (((2 + vs.length + cs.length:Nat):Int) + 1)) none=ls.map V.str:=by
   have h:=nY (ys:=(bw vs cs ls).map V.str) (a:=3 + vs.length + cs.length) (by omega)
   rw [<- List.map_drop,bw_cut3] at h
   rw [e4]
   exact h
  refine ⟨_,rfl,_,rfl,_,rfl,_,rfl,l,_,rfl,SqL.of hH,fun p1 hp1=>?_⟩
  refine ⟨p1,_,rfl,SqL.of au,fun t1 H1 ht1 s1 g1=>?_⟩
  have s1:=(ar.new hp1).trans s1
  have g1:H1 t1=some (.tup (vs.map V.str)):=g1.trans (by rw [c1])
  have k1:=s1 _ _ hH
  refine ⟨_,rfl,_,rfl,_,_,rfl,rfl,_,rfl,_,rfl,_,rfl,l,_,rfl,SqL.of k1,fun p2 hp2=>?_⟩
  refine ⟨p2,_,rfl,SqL.of au,fun t2 H2 ht2 s2 g2=>?_⟩
  have s2:=(ar.new hp2).trans s2
  have g2:H2 t2=some (.tup (cs.map V.str)):=g2.trans (by rw [c2])
  have k2:=s2 _ _ k1
  refine ⟨_,rfl,_,rfl,_,_,rfl,rfl,_,rfl,l,_,rfl,SqL.of k2,fun p3 hp3=>?_⟩
  refine ⟨p3,_,rfl,SqL.of au,fun t3 H3 ht3 s3 g3=>?_⟩
  have s3:=(ar.new hp3).trans s3
  have g3:H3 t3=some (.tup (ls.map V.str)):=g3.trans (by rw [c3])
  refine ⟨(show 3 <= sizeLine by omega),fun t ht=>?_⟩
  have sA:=s1.trans (s2.trans s3)
  refine q t _ (sA.trans (ar.new ht)) (sA.none ht) ⟨t1,t2,t3,au,?_,?_,?_⟩
  ·exact ar.new ht _ _ (s3 _ _ (s2 _ _ g1))
  ·exact ar.new ht _ _ (s3 _ _ g2)
  ·exact ar.new ht _ _ g3
end
abbrev sSb:Stmt:=top 26
abbrev sSa:Stmt:=top 27
def spSb:Sp:=fun us H Q _=>∃ (b:Addr) (vs cs ls:List Str),us=[.ref b] /\ BnT H b vs cs ls /\ vs.length <= 100 /\ cs.length <= 100 /\ ls.length <= 100 /\ (∀ x ∈ vs,Nm x) /\ (∀ x ∈ cs,Nm x) /\ (∀ x ∈ ls,Nm x) /\
 ∀ H',ar H H' -> Q (.str (Txt.join (Str.ofString " ") (bw vs cs ls))) H'
def asS (x:Str) (n:Int) (a:Option Int):Str:=Str.empty ++ Str.ofString "asked " ++ x ++ Str.ofString " " ++ aR n ++ Str.ofString " " ++ fV a
def spSa:Sp:=fun us H Q _=>∃ (x:Str) (n:Int) (a:Option Int),us=[.str x,.int n,mo a] /\ x.length <= 8 /\ n.natAbs < 10 ^ 100 /\ (∀ m,a=some m -> m.natAbs < 10 ^ 100) /\ Q (.str (asS x n a)) H
set_option exponentiation.threshold 4000 in
theorem pow_lt:(10:Nat) ^ 100 < 2 ^ 1920:=by decide +kernel
theorem cD {n:Int} (h:n.natAbs < 10 ^ 100):n.natAbs.log2 < 1920:=by
 by_cases h0:n.natAbs=0
 ·rw [h0]; decide
 ·exact (Nat.log2_lt h0).mpr (Nat.lt_trans h pow_lt)
theorem bj {n:Int} (h:n.natAbs < 10 ^ 100):(aR n).length <= 101:=by
 have h1:=dE (k:=100) (by decide) h
 have h2:=fe n
 unfold aR
 omega
theorem i0 {vs cs ls:List Str} (h1:∀ x ∈ vs,Nm x) (h2:∀ x ∈ cs,Nm x) (h3:∀ x ∈ ls,Nm x):∀ z ∈ bw vs cs ls,z.length <= 8:=by
 intro z hz
 have hb:(Str.ofString "bench").length <= 8:=by decide +kernel
 have hs:SL.length <= 8:=by decide +kernel
 unfold bw at hz
 rcases List.mem_cons.mp hz with rfl | hz
 ·exact hb
 rcases List.mem_append.mp hz with hz | hz
 ·exact (h1 z hz).2.1
 rcases List.mem_cons.mp hz with rfl | hz
 ·exact hs
 rcases List.mem_append.mp hz with hz | hz
 ·exact (h2 z hz).2.1
 rcases List.mem_cons.mp hz with rfl | hz
 ·exact hs
 ·exact (h3 z hz).2.1
section
variable {P:Program} {w:World} {K:PySem.W.Frag} {mg:Str -> Option Value} {base:Heap}
theorem scSb:aN ["bench"] ["bench"] (ai sSb):=fsc (by decide +kernel)
theorem ok_sb {f:Addr} {fd:FuncData} (F:Fun K "shown_bench" "shown_bench" sSb f fd):bG P w K mg base CX0 1 f fd ["bench"] spSb:=by
 refine F.ok scSb (fun vs H Q E h=>?_) (fun cdv A outer s H us Q E hr h=>?_)
 ·obtain ⟨b,vs,cs,ls,rfl,_⟩:=h
  rfl
 ·obtain ⟨b,vs,cs,ls,rfl,⟨v,c,l,hb,hv,hc,hl⟩,l1,l2,l3,n1,n2,n3,q⟩:=h
  refine ⟨_,am (aF (ck PySem.F.plainAttrs_str PySem.F.slot_str_join PySem.F.type_str_join ni ao (aa
   (aj eU (aj eU (aj eU (aj eU (aj eU (b9 (aa ao af)) (aB bN (pv 0) ac (fun _ _=>rfl))) (b9 (aa ao af))) (aB bN (pv 0) ac (fun _ _=>rfl))) (b9 (aa ao af))) (aB bN (pv 0) ac (fun _ _=>rfl))) af))),?_⟩
  have hs16:sizeLine=16777216:=sizeLine_eq
  have one:∀ x:V,[x].length <= sizeLine:=fun x=>by show 1 <= sizeLine; omega
  refine ⟨rfl,one _,fun p1 H1 _ s1 e1=>?_⟩
  refine ⟨_,rfl,b,_,_,_,rfl,rfl,SqT.of (s1 _ _ hb),ba (j:=0) rfl,p1,v,_,_,rfl,rfl,e1,s1 _ _ hv,(by simp; omega),fun p2 H2 s2 e2=>?_⟩
  have s2:=s1.trans s2
  refine ⟨one _,fun p3 H3 _ s3 e3=>?_⟩
  have e2:=s3 _ _ e2
  have s3:=s2.trans s3
  refine ⟨p2,p3,_,_,rfl,rfl,e2,e3,(by simp; omega),fun p4 H4 s4 e4=>?_⟩
  have s4:=s3.trans s4
  refine ⟨_,rfl,b,_,_,_,rfl,rfl,SqT.of (s4 _ _ hb),ba (j:=1) rfl,p4,c,_,_,rfl,rfl,e4,s4 _ _ hc,(by simp; omega),fun p5 H5 s5 e5=>?_⟩
  have s5:=s4.trans s5
  refine ⟨one _,fun p6 H6 _ s6 e6=>?_⟩
  have e5:=s6 _ _ e5
  have s6:=s5.trans s6
  refine ⟨p5,p6,_,_,rfl,rfl,e5,e6,(by simp; omega),fun p7 H7 s7 e7=>?_⟩
  have s7:=s6.trans s7
  refine ⟨_,rfl,b,_,_,_,rfl,rfl,SqT.of (s7 _ _ hb),ba (j:=2) rfl,p7,l,_,_,rfl,rfl,e7,s7 _ _ hl,(by simp; omega),fun p8 H8 s8 e8=>?_⟩
  have s8:=s7.trans s8
  have ee:H8 p8=some (.tup ((bw vs cs ls).map V.str)):=e8.trans (by simp [bw])
  have hsum:=fF (i0 n1 n2 n3)
  have hlen:=dH vs cs ls
  refine ⟨_,p8,bw vs cs ls,rfl,rfl,SqT.of ee,?_,q _ s8⟩
  have:(Str.ofString " ").length=1:=by decide +kernel
  rw [this]
  omega
theorem scSa:aN ["asker","number","answer","shown"] ["asker","number","answer"] (ai sSa):=fsc (by decide +kernel)
theorem ok_sa {f:Addr} {fd:FuncData} (F:Fun K "shown_asked" "shown_asked" sSa f fd) (hS:mg "str"=none):bG P w K mg base CX0 1 f fd ["asker","number","answer"] spSa:=by
 refine F.ok scSa (fun vs H Q E h=>?_) (fun cdv A outer s H us Q E hr h=>?_)
 ·obtain ⟨x,n,a,rfl,_⟩:=h
  rfl
 ·obtain ⟨x,n,a,rfl,hx,hn,ha,q⟩:=h
  have nd:=scSa.nd
  refine ⟨_,ag (aw (i:=3) nd rfl (Or.inl rfl) (eQ (jS (jR (pv 2))) ao (aT bQ (by rfl) hS j7 (aa (pv 2) af)))) <|
   am (aF (gg (bF ao (bF (dv (pv 0)) (bF ao (bF (dv (pv 1)) (bF ao (bF (dv (pv 3)) iY)))))))),?_⟩
  have hs16:sizeLine=16777216:=sizeLine_eq
  have k1:(Str.ofString "asked ").length=6:=by decide +kernel
  have k2:(Str.ofString " ").length=1:=by decide +kernel
  have k3:(Str.ofString "-").length=1:=by decide +kernel
  have k0:Str.empty.length=0:=rfl
  have hnl:=bj hn
  have fin:∀ z:Str,z.length <= 101 -> (Str.empty ++ Str.ofString "asked ").length <= sizeLine /\ (Str.empty ++ Str.ofString "asked " ++ x).length <= sizeLine /\ (Str.empty ++ Str.ofString "asked " ++ x ++ Str.ofString " ").length <= sizeLine /\ (Str.empty ++ Str.ofString "asked " ++ x ++ Str.ofString " " ++ aR n).length <= sizeLine /\ (Str.empty ++ Str.ofString "asked " ++ x ++ Str.ofString " " ++ aR n ++ Str.ofString " ").length <= sizeLine /\ (Str.empty ++ Str.ofString "asked " ++ x ++ Str.ofString " " ++ aR n ++ Str.ofString " " ++ z).length <= sizeLine:=fun z hz=>by
   simp only [Str.length_append,k0,k1,k2]
   omega
  cases a with
  | none =>
   obtain ⟨f1,f2,f3,f4,f5,f6⟩:=fin (Str.ofString "-") (by omega)
   refine ⟨_,rfl,_,rfl,?_⟩
   refine bz (fun _=>?_) (fun h=>absurd (decide_eq_true rfl) h)
   exact ⟨_,rfl,f1,_,rfl,.inl ⟨_,rfl,by omega,_,rfl,f2,_,rfl,f3,_,rfl,.inr ⟨_,rfl,cD hn,_,rfl,f4,_,rfl,f5,_,rfl,.inl ⟨_,rfl,by omega,_,rfl,f6,f6,q⟩⟩⟩⟩
  | some m =>
   have hml:=bj (ha m rfl)
   obtain ⟨f1,f2,f3,f4,f5,f6⟩:=fin (aR m) (by omega)
   refine ⟨_,rfl,_,rfl,?_⟩
   refine bz (fun h=>absurd (of_decide_eq_true h) (fun e=>nomatch e)) (fun _=>?_)
   refine ⟨_,rfl,m,rfl,cD (ha m rfl),?_⟩
   exact ⟨_,rfl,f1,_,rfl,.inl ⟨_,rfl,by omega,_,rfl,f2,_,rfl,f3,_,rfl,.inr ⟨_,rfl,cD hn,_,rfl,f4,_,rfl,f5,_,rfl,.inl ⟨_,rfl,Nat.le_trans hml (by omega),_,rfl,f6,f6,q⟩⟩⟩⟩
end
abbrev gS:Stmt:=top 16
abbrev fT:Stmt:=top 17
abbrev jC:Stmt:=top 21
abbrev dZ:Stmt:=top 22
abbrev ABC:Str:=Str.ofString "abcdefghijklmnopqrstuvwxyz"
def okc (c:Nat):Bool:=!(Builtin.Str.occurrences ABC ⟨#[c]⟩ 0 ABC.length 1).isEmpty
theorem nZ:ABC.cps.toList=[97,98,99,100,101,102,103,104,105,106,107,108,109,110,111,112,113,114,115,116,117,118,119,120,121,122]:=by decide +kernel
theorem at0 {α:Type} {a:α} {r:List α}:atI (a :: r) 0=some a:=ba (j:=0) rfl
theorem at1 {α:Type} {a b:α} {r:List α}:atI (a :: b :: r) 1=some b:=ba (j:=1) rfl
structure ei (H:Hp) (b:Addr) (vs cs ls:List Str):Prop where
 at':∃ v c l:Addr,H b=some (.tup [.ref v,.ref c,.ref l]) /\ H v=some (.tup (vs.map V.str)) /\ H c=some (.tup (cs.map V.str)) /\ H l=some (.tup (ls.map V.str))
 vr:vs.Pairwise ltS
 cr:cs.Pairwise ltS
 lr:ls.Pairwise ltS
 v1:1 <= vs.length
 v7:vs.length <= 7
 c7:cs.length <= 7
 l4:ls.length <= 4
 apart:∀ x ∈ ls,x ∉ (if cs=[] then vs else cs)
structure Bl2 (mg:Str -> Option Value):Prop where
 isi:mg "isinstance"=none
 str:mg "str"=none
 all:mg "all"=none
 any:mg "any"=none
 zip:mg "zip"=none
 set:mg "set"=none
 abc:∃ t,mg "SMALL_LETTERS"=some (.str ABC t)
 sev:∃ t,mg "MOST_SPEAKING"=some (.int 7 t)
 fou:∃ t,mg "MOST_LEARNERS"=some (.int 4 t)
theorem bAny:bootBuiltins "any"=some (.builtin "any"):=by decide +kernel
theorem n5 {α:Type} {a b c:α} {r:List α}:atI (a :: b :: c :: r) 2=some c:=ba (j:=2) rfl
def Nms (vs cs ls:List Str):Prop:=(∀ x ∈ vs,Nm x) /\ (∀ x ∈ cs,Nm x) /\ ∀ x ∈ ls,Nm x
def nmB (x:Str):Bool:=decide (1 <= x.length) && decide (x.length <= 8) && x.cps.toList.all okc
theorem kX (c:Nat):okc c=true ↔ 97 <= c /\ c <= 122:=by
 unfold okc
 rw [StrLaws.found_one,nZ,decide_eq_true_iff]
 simp
 omega
theorem n6 (x:Str):nmB x=true ↔ Nm x:=by
 unfold nmB
 rw [Bool.and_eq_true,Bool.and_eq_true,decide_eq_true_iff,decide_eq_true_iff,List.all_eq_true]
 exact ⟨fun h=>⟨h.1.1,h.1.2,fun c hc=>(kX c).mp (h.2 c hc)⟩,fun h=>⟨⟨h.1,h.2.1⟩,fun c hc=>(kX c).mpr (h.2.2 c hc)⟩⟩
def ltB (p:Str × Str):Bool:=decide (p.1.cps.toList < p.2.cps.toList)
def bf (xs:List Str):Bool:=xs.all nmB && (xs.zip (xs.drop 1)).all ltB
theorem lt_of {x y:Str} (h:ltS x y):decide (x.cps.toList < y.cps.toList)=true:=by
 refine decide_eq_true (Classical.byContradiction fun hn=>h.2 ?_)
 have h2:leS y x:=by
  unfold leS
  rw [PyProof.Rows.ltCps_eq,decide_eq_false_iff_not]
  exact hn
 exact jo h.1 h2
theorem of_lt {x y:Str} (h:x.cps.toList < y.cps.toList):ltS x y:=by
 refine ⟨?_,fun e=>?_⟩
 ·unfold leS
  rw [PyProof.Rows.ltCps_eq,decide_eq_false_iff_not]
  exact fun h2=>absurd (List.lt_trans h h2) (List.lt_irrefl _)
 ·rw [e] at h
  exact List.lt_irrefl _ h
theorem kY:∀ xs:List Str,(xs.zip (xs.drop 1)).all ltB=true ↔ xs.Pairwise (fun x y=>x.cps.toList < y.cps.toList)
 | []=>by simp
 | [x]=>by simp
 | x :: y :: r=>by
  have ih:=kY (y :: r)
  rw [show (x :: y :: r).zip ((x :: y :: r).drop 1)=(x,y) :: (y :: r).zip ((y :: r).drop 1) from rfl,List.all_cons,Bool.and_eq_true,ih]
  constructor
  ·rintro ⟨h1,h2⟩
   have h1:x.cps.toList < y.cps.toList:=of_decide_eq_true h1
   refine List.pairwise_cons.mpr ⟨fun z hz=>?_,h2⟩
   rcases List.mem_cons.mp hz with rfl | hz
   ·exact h1
   ·exact List.lt_trans h1 ((List.pairwise_cons.mp h2).1 z hz)
  ·intro h
   obtain ⟨h1,h2⟩:=List.pairwise_cons.mp h
   exact ⟨decide_eq_true (h1 y (List.mem_cons_self ..)),h2⟩
theorem dI (xs:List Str):bf xs=true ↔ (∀ x ∈ xs,Nm x) /\ xs.Pairwise ltS:=by
 unfold bf
 rw [Bool.and_eq_true,List.all_eq_true,kY]
 constructor
 ·rintro ⟨h1,h2⟩
  exact ⟨fun x hx=>(n6 x).mp (h1 x hx),h2.imp of_lt⟩
 ·rintro ⟨h1,h2⟩
  exact ⟨fun x hx=>(n6 x).mpr (h1 x hx),h2.imp fun h=>of_decide_eq_true (lt_of h)⟩
def bnB (vs cs ls:List Str):Bool:=bf vs && bf cs && bf ls && decide (1 <= vs.length) && decide (vs.length <= 7) && decide (cs.length <= 7) && decide (ls.length <= 4) && !(ls.any fun x=>decide (x ∈ (if cs=[] then vs else cs)))
structure ii (vs cs ls:List Str):Prop where
 vr:vs.Pairwise ltS
 cr:cs.Pairwise ltS
 lr:ls.Pairwise ltS
 v1:1 <= vs.length
 v7:vs.length <= 7
 c7:cs.length <= 7
 l4:ls.length <= 4
 apart:∀ x ∈ ls,x ∉ (if cs=[] then vs else cs)
theorem kf (vs cs ls:List Str):bnB vs cs ls=true ↔ ii vs cs ls /\ Nms vs cs ls:=by
 unfold bnB
 simp only [Bool.and_eq_true,decide_eq_true_iff,dI,Bool.not_eq_true',List.any_eq_false,decide_eq_true_eq]
 constructor
 ·rintro ⟨⟨⟨⟨⟨⟨⟨⟨a1,a2⟩,b1,b2⟩,c1,c2⟩,d⟩,e⟩,f⟩,g⟩,h⟩
  exact ⟨⟨a2,b2,c2,d,e,f,g,h⟩,a1,b1,c1⟩
 ·rintro ⟨⟨a2,b2,c2,d,e,f,g,h⟩,a1,b1,c1⟩
  exact ⟨⟨⟨⟨⟨⟨⟨⟨a1,a2⟩,b1,b2⟩,c1,c2⟩,d⟩,e⟩,f⟩,g⟩,h⟩
def spNm:Sp:=fun us H Q _=>∃ x:Str,us=[.str x] /\ x.length <= sizeLine /\ ∀ H',ar H H' -> Q (.bl (nmB x)) H'
def i3:Sp:=fun us H Q _=>∃ (t:Addr) (xs:List Str),us=[.ref t] /\ H t=some (.tup (xs.map V.str)) /\ xs.length <= 900 /\ (∀ x ∈ xs,x.length <= sizeLine) /\ ∀ H',ar H H' -> Q (.bl (bf xs)) H'
def n8:Sp:=fun us H Q _=>∃ (b:Addr) (vs cs ls:List Str),us=[.ref b] /\ BnT H b vs cs ls /\ (vs.length <= 900 /\ cs.length <= 900 /\ ls.length <= 900) /\ (∀ x ∈ vs ++ (cs ++ ls),x.length <= sizeLine) /\ ∀ H',ar H H' -> Q (.bl (bnB vs cs ls)) H'
def gT:Sp:=fun us H Q _=>∃ (b v c l:Addr) (cs:List Str),us=[.ref b] /\ H b=some (.tup [.ref v,.ref c,.ref l]) /\ H c=some (.tup (cs.map V.str)) /\ Q (.bl (decide (0 < cs.length))) H
theorem len_pos (n:Nat):decide ((0:Int) < (n:Int))=decide (0 < n):=by
 rw [Bool.eq_iff_iff,decide_eq_true_iff,decide_eq_true_iff]
 omega
theorem cut1 (zs:List Str):bB (zs.map V.str) (some 1) none=(zs.drop 1).map V.str:=by
 unfold bB
 rw [List.length_map,HT.dz,show HT.sIx zs.length 0 (some 1)=min 1 zs.length from HT.bY _ _ 1,List.map_drop,<- List.map_drop,<- List.map_drop]
 by_cases h:1 <= zs.length
 ·rw [Nat.min_eq_left h,List.take_of_length_le (by rw [List.length_map,List.length_drop]; omega)]
 ·rw [Nat.min_eq_right (by omega),List.drop_of_length_le (Nat.le_refl _),List.drop_of_length_le (by omega)]
  simp
theorem all_okc (xs:List Nat):(xs.map okc).all id=xs.all okc:=by rw [List.all_map]; rfl
theorem bls_okc (xs:List Nat):xs.map (fun c=>V.bl (okc c))=(xs.map okc).map V.bl:=by rw [List.map_map]; rfl
def nmV:V -> V
 | .str x=>.bl (nmB x)
 | _=>.non
def ltV:V -> V -> V
 | .str x,.str y=>.bl (ltB (x,y))
 | _,_=>.non
def inB (ys:List Str):V -> V
 | .str x=>.bl (decide (x ∈ ys))
 | _=>.non
theorem kZ (ys xs:List Str):(xs.map V.str).map (inB ys)=(xs.map fun x=>decide (x ∈ ys)).map V.bl:=by rw [List.map_map,List.map_map]; rfl
theorem gU {xs ys:List Str} (h:xs.map V.str=ys.map V.str):xs=ys:=(List.map_inj_right fun _ _ e=>fh e).mp h
theorem nmV_map (xs:List Str):(xs.map V.str).map nmV=(xs.map nmB).map V.bl:=by rw [List.map_map,List.map_map]; rfl
section
variable {P:Program} {w:World} {K:PySem.W.Frag} {mg:Str -> Option Value} {base:Heap}
theorem scName:aN ["thing"] ["thing"] (ai gS):=fsc (by decide +kernel)
theorem ndSign:((["thing"]:List Str) ++ (["sign"]:List Str)).Nodup:=by decide +kernel
theorem ok_name {f:Addr} {fd:FuncData} (F:Fun K "is_name" "is_name" gS f fd) (B:Blt mg) (T:Bl2 mg):bG P w K mg base CX0 1 f fd ["thing"] spNm:=by
 refine F.ok scName (fun vs H Q E h=>?_) (fun cdv A outer s H vs Q E hr h=>?_)
 ·obtain ⟨v,rfl,_⟩:=h
  rfl
 ·obtain ⟨x,rfl,hz,q⟩:=h
  obtain ⟨tA,hA⟩:=T.abc
  refine ⟨_,ag (be (PW.pt (cE (cm (bV (ax gG (by rfl) T.isi eu (aa (pv 0) (aa (fY (v:=.ty "str") (by rfl) T.str j7 rfl) af))))) <|
    cE (aE cN (ax bR (by rfl) B.len PySem.boot_len (aa (pv 0) af)) ac (aC _)) <|
    c9 (aE fN (ax bR (by rfl) B.len PySem.boot_len (aa (pv 0) af)) ac (aC _)))) (am (aF dw)) aQ) <|
   am <| aF <| ax (cK rfl) (by rfl) T.all mh (aa (b8 ["thing"] ["thing"] ["sign"] (ai gS) rfl rfl rfl (by decide +kernel) rfl rfl (by decide +kernel) (by decide +kernel) (by decide +kernel) (by decide +kernel)
    (mX (pv 0)) (fun _ _ _ _ _=>aH (i:=1) ndSign rfl (Or.inl rfl)) (fun _ _ _ _ _=>bE)
    (fun _ _ _ _ _=>bo im (pv 1) (bD (v:=.str ABC) (by rfl) hA ⟨tA,rfl⟩) (by rfl))) af),?_⟩
  have no:∀ H',ar H H' -> nmB x=false -> Q (.bl false) H':=fun H' s' e=>by
   have:=q H' s'
   rwa [e] at this
  refine ⟨_,rfl,_,_,_,_,rfl,Kd.str x,kit_str (Kd.str (H:=H) x),_,rfl,bZ ?_⟩
  refine ⟨_,rfl,x,rfl,hz,_,_,rfl,rfl,_,rfl,bz (fun z=>?_) (fun z1=>?_)⟩
  ·have:=of_decide_eq_true z
   refine no H (ar.refl H) ?_
   unfold nmB
   rw [decide_eq_false (show ¬ 1 <= x.length by omega)]
   rfl
  have h1:1 <= x.length:=by
   have:¬ ((x.length:Nat):Int) < 1:=fun h=>z1 (decide_eq_true h)
   omega
  refine ⟨_,rfl,x,rfl,hz,_,_,rfl,rfl,_,rfl,bz (fun z=>?_) (fun z2=>?_)⟩
  ·have:=of_decide_eq_true z
   refine no H (ar.refl H) ?_
   unfold nmB
   rw [decide_eq_false (show ¬ x.length <= 8 by omega),Bool.and_false]
   rfl
  have h8:x.length <= 8:=by
   have:¬ (8:Int) < ((x.length:Nat):Int):=fun h=>z2 (decide_eq_true h)
   omega
  refine ⟨_,rfl,x,rfl,?_⟩
  refine lcT (fun c=>V.bl (okc c)) rfl (show x.length <= 1000 by omega) (fun D c ys post hD hp=>?_) (fun D hD=>?_)
  ·exact ⟨_,rfl,_,_,rfl,rfl,hp⟩
  ·rw [bls_okc]
   refine ⟨D,_,rfl,SqL.of au,?_⟩
   rw [all_okc]
   have:=q (upd H D (.lst ((x.cps.toList.map okc).map V.bl))) (ar.new hD)
   unfold nmB at this
   rw [decide_eq_true h1,decide_eq_true h8] at this
   exact this
theorem scRise:aN ["thing"] ["thing"] (ai fT):=fsc (by decide +kernel)
theorem ndPart:((["thing"]:List Str) ++ (["part"]:List Str)).Nodup:=by decide +kernel
theorem ndTwo:((["thing"]:List Str) ++ (["name","following"]:List Str)).Nodup:=by decide +kernel
theorem ok_rise {f:Addr} {fd:FuncData} (F:Fun K "is_rising_names" "is_rising_names" fT f fd) (B:Blt mg) (T:Bl2 mg) (Fn:bb P w K mg base 1 "is_name" ["thing"] spNm):bG P w K mg base CX0 2 f fd ["thing"] i3:=by
 refine F.ok scRise (fun vs H Q E h=>?_) (fun cdv A outer s H vs Q E hr h=>?_)
 ·obtain ⟨t,xs,rfl,_⟩:=h
  rfl
 ·obtain ⟨t,xs,rfl,ht,hl,hsz,q⟩:=h
  refine ⟨_,ag (be (PW.pt (cE (cm (bV (ax gG (by rfl) T.isi eu (aa (pv 0) (aa (fY (v:=.ty "tuple") (by rfl) B.tuple cg rfl) af))))) <|
    c9 (cm (bV (ax (cK rfl) (by rfl) T.all mh (aa (b8 ["thing"] ["thing"] ["part"] (ai fT) rfl rfl rfl (by decide +kernel) rfl rfl (by decide +kernel) (by decide +kernel) (by decide +kernel) (by decide +kernel)
     (cM (pv 0)) (fun _ _ _ _ _=>aH (i:=1) ndPart rfl (Or.inl rfl)) (fun _ _ _ _ _=>bE) (fun _ _ _ _ _=>az (X:=cxC _ _ _ _ _ _ _ _ _) Fn hr (aa (pv 1) af))) af)))))) (am (aF dw)) aQ) <|
   am <| aF <| ax (cK rfl) (by rfl) T.all mh (aa (b8 ["thing"] ["thing"] ["name","following"] (ai fT) rfl rfl rfl (by decide +kernel) rfl rfl (by decide +kernel) (by decide +kernel) (by decide +kernel) (by decide +kernel)
     (pi_zipT (by rfl) T.zip (aa (pv 0) (aa (aG sl_tupU (pv 0) (aI ac) aV) af)))
     (fun _ _ _ _ _=>dU (n:=2) rfl (aX (aH (i:=1) ndTwo rfl (Or.inl rfl)) (aX (aH (i:=2) ndTwo rfl (Or.inl rfl)) cG))) (fun _ _ _ _ _=>bE)
     (fun _ _ _ _ _=>bo lE (pv 1) (pv 2) (by rfl))) af),?_⟩
  refine ⟨_,rfl,_,_,"tuple",true,rfl,Kd.tup (.inl ht),gE,_,rfl,bZ ?_⟩
  refine ⟨_,rfl,t,rfl,⟨_,SqT.of ht⟩,?_⟩
  refine j2 nmV rfl ht (by rw [List.length_map]; omega) (fun D x ys H1 post hD hx sm hDD hpost=>?_) (fun D H1 hD sm eD=>?_)
  ·obtain ⟨z,hz,rfl⟩:=List.mem_map.mp hx
   exact ⟨_,rfl,z,rfl,hsz z hz,fun H' s'=>hpost H' s'⟩
  rw [nmV_map] at eD
  refine ⟨D,_,rfl,SqL.of eD,?_⟩
  have ea:(xs.map nmB).all id=xs.all nmB:=by rw [List.all_map]; rfl
  rw [ea]
  refine ⟨_,rfl,ke (fun hb=>?_) (fun hb=>?_)⟩
  ·have h1:=q _ sm
   unfold bf at h1
   have hb:xs.all nmB=false:=by simpa using hb
   rw [hb] at h1
   exact h1
  have hb:xs.all nmB=true:=by simpa using hb
  refine ⟨_,rfl,_,rfl,_,rfl,t,_,rfl,sm _ _ ht,fun p H2 s2 ep=>?_⟩
  rw [cut1] at ep
  refine ⟨t,p,_,_,rfl,SqT.of (s2 _ _ (sm _ _ ht)),SqT.of ep,?_⟩
  refine lcZU ltV (s2 _ _ (sm _ _ ht)) ep (by rw [List.length_map]; omega) (fun p' x y Hx R hp' hR=>?_) (fun i x y Hx post hx hy sx hpost=>?_) (fun D2 H3 hD2 s3 e3=>?_)
  ·exact ⟨p',_,rfl,SqT.of hp',rfl,x,[y],rfl,y,[],rfl,rfl,hR⟩
  ·rw [List.getElem?_map] at hx hy
   rw [List.getElem?_drop] at hy
   cases h1:xs[i]? with
   | none=>rw [h1] at hx; cases hx
   | some a =>
    cases h2:xs[1 + i]? with
    | none=>rw [h2] at hy; cases hy
    | some b =>
     rw [h1] at hx
     rw [h2] at hy
     cases hx
     cases hy
     exact ⟨_,rfl,_,rfl,_,_,rfl,rfl,hpost _ (ar.refl _)⟩
  ·have e4:(((xs.map V.str).zip ((xs.drop 1).map V.str)).map fun p=>ltV p.1 p.2)=((xs.zip (xs.drop 1)).map ltB).map V.bl:=by
    rw [List.zip_map,List.map_map,List.map_map]
    rfl
   have e3:H3 D2=some (.lst (((xs.map V.str).zip ((xs.drop 1).map V.str)).map fun p=>ltV p.1 p.2)):=e3
   rw [e4] at e3
   refine ⟨D2,_,rfl,SqL.of e3,?_⟩
   have ez:((xs.zip (xs.drop 1)).map ltB).all id=(xs.zip (xs.drop 1)).all ltB:=by rw [List.all_map]; rfl
   rw [ez]
   have h1:=q _ ((sm.trans s2).trans s3)
   unfold bf at h1
   rw [hb,Bool.true_and] at h1
   exact h1
theorem n9:aN ["bench"] ["bench"] (ai dZ):=fsc (by decide +kernel)
theorem mr {f:Addr} {fd:FuncData} (F:Fun K "is_joined" "is_joined" dZ f fd) (hlen:mg "len"=none):bG P w K mg base CX0 1 f fd ["bench"] gT:=by
 refine F.ok n9 (fun us H Q E h=>?_) (fun cdv A outer s H us Q E hr h=>?_)
 ·obtain ⟨b,v,c,l,cs,rfl,_⟩:=h
  rfl
 ·obtain ⟨b,v,c,l,cs,rfl,hb,hc,q⟩:=h
  refine ⟨_,am <| aF <| bo fN (ax aO (by rfl) hlen PySem.boot_len (aa (aB bN (pv 0) ac (fun _ _=>rfl)) af)) ac (aC _),?_⟩
  refine ⟨_,rfl,b,_,_,_,rfl,rfl,SqT.of hb,at1,c,_,rfl,.inr (SqT.of hc),_,_,rfl,rfl,?_⟩
  rw [List.length_map]
  show Q (.bl (decide ((0:Int) < (cs.length:Int)))) H
  rw [len_pos]
  exact q
abbrev kg:List Str:=["thing","speaking_then"]
theorem scIsB:aN kg ["thing"] (ai jC):=fsc (by decide +kernel)
theorem ndIsB1:(kg ++ (["part"]:List Str)).Nodup:=by decide +kernel
theorem ndIsB2:(kg ++ (["name"]:List Str)).Nodup:=by decide +kernel
theorem ok_isB {f:Addr} {fd:FuncData} (F:Fun K "is_bench" "is_bench" jC f fd) (B:Blt mg) (T:Bl2 mg) (Fr:bb P w K mg base 2 "is_rising_names" ["thing"] i3) (Fj:bb P w K mg base 1 "is_joined" ["bench"] gT):bG P w K mg base CX0 3 f fd ["thing"] n8:=by
 refine F.ok scIsB (fun us H Q E h=>?_) (fun cdv A outer s H us Q E hr h=>?_)
 ·obtain ⟨b,vs,cs,ls,rfl,_⟩:=h
  rfl
 ·obtain ⟨b,vs,cs,ls,rfl,⟨v,c,l,hb,hv,hc,hl⟩,⟨lv,lc,ll⟩,hsz,q⟩:=h
  obtain ⟨t7,h7⟩:=T.sev
  obtain ⟨t4,h4⟩:=T.fou
  have nd:=scIsB.nd
  have r1:bP 1 _:=hr.mono (by decide)
  refine ⟨_,ag (be (PW.pt (cE (cm (bV (ax gG (by rfl) T.isi eu (aa (pv 0) (aa (fY (v:=.ty "tuple") (by rfl) B.tuple cg rfl) af))))) <|
    cE (aE il (ax aO (by rfl) B.len PySem.boot_len (aa (pv 0) af)) ac (aC _)) <|
    c9 (cm (bV (ax (cK rfl) (by rfl) T.all mh (aa (b8 kg kg ["part"] (ai jC) rfl rfl rfl (by decide +kernel) rfl rfl (by decide +kernel) (by decide +kernel) (by decide +kernel) (by decide +kernel)
     (cM (pv 0)) (fun _ _ _ _ _=>aH (i:=2) ndIsB1 rfl (Or.inl rfl)) (fun _ _ _ _ _=>bE) (fun _ _ _ _ _=>az (X:=cxC _ _ _ _ _ _ _ _ _) Fr hr (aa (pv 2) af))) af)))))) (am (aF dw)) aQ) <|
   ag (be (PW.pt (cE (aE cN (ax aO (by rfl) B.len PySem.boot_len (aa (aB bN (pv 0) ac (fun _ _=>rfl)) af)) ac (aC _)) <|
    cE (aE fN (ax aO (by rfl) B.len PySem.boot_len (aa (aB bN (pv 0) ac (fun _ _=>rfl)) af)) (bD (v:=.int 7) (by rfl) h7 ⟨t7,rfl⟩) (aC _)) <|
    c9 (aE fN (ax aO (by rfl) B.len PySem.boot_len (aa (aB bN (pv 0) ac (fun _ _=>rfl)) af)) (bD (v:=.int 7) (by rfl) h7 ⟨t7,rfl⟩) (aC _)))) (am (aF dw)) aQ) <|
   ag (aw (i:=1) nd rfl (Or.inr rfl) (eQ (bV (az Fj r1 (aa (pv 0) af))) (aB bN (pv 0) ac (fun _ _=>rfl)) (aB bN (pv 0) ac (fun _ _=>rfl)))) <|
   am <| aF <| dy (bo op_le (ax aO (by rfl) B.len PySem.boot_len (aa (aB bN (pv 0) ac (fun _ _=>rfl)) af)) (bD (v:=.int 4) (by rfl) h4 ⟨t4,rfl⟩) (aC _))
    (eF (pe_not (ax (lQ rfl) (by rfl) T.any bAny (aa (b8 kg kg ["name"] (ai jC) rfl rfl rfl (by decide +kernel) rfl rfl (by decide +kernel) (by decide +kernel) (by decide +kernel) (by decide +kernel)
     (cM (aB bN (pv 0) ac (fun _ _=>rfl))) (fun _ _ _ _ _=>aH (i:=2) ndIsB2 rfl (Or.inl rfl)) (fun _ _ _ _ _=>bE) (fun _ _ _ _ _=>bo j1 (pv 2) (pv 1) (by rfl))) af)))),?_⟩
  refine ⟨_,rfl,_,_,"tuple",true,rfl,Kd.tup (.inl hb),gE,_,rfl,bZ ?_⟩
  refine ⟨_,rfl,b,_,rfl,.inr (SqT.of hb),rfl,_,rfl,iteNS rfl ?_⟩
  refine ⟨_,rfl,b,rfl,⟨_,SqT.of hb⟩,?_⟩
  have no:∀ H',ar H H' -> bnB vs cs ls=false -> Q (.bl false) H':=fun H' s' e=>by
   have:=q H' s'
   rwa [e] at this
  let rv:V -> V:=fun x=>.bl (if x=.ref v then bf vs else if x=.ref c then bf cs else bf ls)
  have hvc:v=c -> vs=cs:=fun e=>by rw [e,hc] at hv; exact gU (HO.tup.inj (Option.some.inj hv)).symm
  have hvl:v=l -> vs=ls:=fun e=>by rw [e,hl] at hv; exact gU (HO.tup.inj (Option.some.inj hv)).symm
  have hcl:c=l -> cs=ls:=fun e=>by rw [e,hl] at hc; exact gU (HO.tup.inj (Option.some.inj hc)).symm
  have rv1:rv (.ref v)=.bl (bf vs):=by simp [rv]
  have rv2:rv (.ref c)=.bl (bf cs):=by
   by_cases h:c=v
   ·rw [h,rv1,hvc h.symm]
   ·simp [rv,h]
  have rv3:rv (.ref l)=.bl (bf ls):=by
   by_cases h:l=v
   ·rw [h,rv1,hvl h.symm]
   ·by_cases h2:l=c
    ·rw [h2,rv2,hcl h2.symm]
    ·simp [rv,h,h2]
  refine j2 rv rfl hb (by show 3 <= 1000; decide) (fun D x ys H1 post hD hx sm hDD hpost=>?_) (fun D H1 hD sm eD=>?_)
  ·simp only [List.mem_cons,List.not_mem_nil,or_false] at hx
   rcases hx with rfl | rfl | rfl
   ·rw [rv1] at hpost
    exact ⟨_,rfl,v,vs,rfl,sm _ _ hv,lv,fun x hx=>hsz x (List.mem_append_left _ hx),fun H' s'=>hpost H' s'⟩
   ·rw [rv2] at hpost
    exact ⟨_,rfl,c,cs,rfl,sm _ _ hc,lc,fun x hx=>hsz x (List.mem_append_right _ (List.mem_append_left _ hx)),fun H' s'=>hpost H' s'⟩
   ·rw [rv3] at hpost
    exact ⟨_,rfl,l,ls,rfl,sm _ _ hl,ll,fun x hx=>hsz x (List.mem_append_right _ (List.mem_append_right _ hx)),fun H' s'=>hpost H' s'⟩
  have e3:[V.ref v,V.ref c,V.ref l].map rv=[bf vs,bf cs,bf ls].map V.bl:=by
   rw [List.map_cons,List.map_cons,List.map_cons,rv1,rv2,rv3]
   rfl
  rw [e3] at eD
  clear rv1 rv2 rv3 e3 hvc hvl hcl
  refine ⟨D,_,rfl,SqL.of eD,?_⟩
  refine ⟨_,rfl,ke (fun hb'=>?_) (fun hb'=>?_)⟩
  ·refine no _ sm ?_
   have:(bf vs && (bf cs && (bf ls && true)))=false:=by
    cases h:(bf vs && (bf cs && (bf ls && true))) with
    | false=>rfl
    | true =>
     have h':([bf vs,bf cs,bf ls].all id)=true:=h
     rw [h'] at hb'
     exact absurd hb' (by decide)
   unfold bnB
   cases h1:bf vs with
   | false=>rfl
   | true =>
    cases h2:bf cs with
    | false=>rfl
    | true =>
     cases h3:bf ls with
     | false=>rfl
     | true=>rw [h1,h2,h3] at this; exact absurd this (by decide)
  have ⟨rv1,rv2,rv3⟩:bf vs=true /\ bf cs=true /\ bf ls=true:=by
   have:(bf vs && (bf cs && (bf ls && true)))=true:=by simpa using hb'
   simpa using this
  clear hb'
  have eb:bnB vs cs ls=(decide (1 <= vs.length) && decide (vs.length <= 7) && decide (cs.length <= 7) && decide (ls.length <= 4) && !(ls.any fun x=>decide (x ∈ (if cs=[] then vs else cs)))):=by
   unfold bnB
   rw [rv1,rv2,rv3]
   simp only [Bool.true_and]
  rw [eb] at no q
  refine ⟨_,rfl,b,_,_,_,rfl,rfl,SqT.of (sm _ _ hb),at0,v,_,rfl,.inr (SqT.of (sm _ _ hv)),_,_,rfl,rfl,_,rfl,bz (fun z=>?_) (fun z1=>?_)⟩
  ·have:=of_decide_eq_true z
   rw [List.length_map] at this
   exact no _ sm (by rw [decide_eq_false (show ¬ 1 <= vs.length by omega)]; rfl)
  have v1:1 <= vs.length:=by
   have:¬ (((vs.map V.str).length:Nat):Int) < 1:=fun h=>z1 (decide_eq_true h)
   rw [List.length_map] at this
   omega
  refine ⟨_,rfl,b,_,_,_,rfl,rfl,SqT.of (sm _ _ hb),at0,v,_,rfl,.inr (SqT.of (sm _ _ hv)),_,_,rfl,rfl,_,rfl,bz (fun z=>?_) (fun z1=>?_)⟩
  ·have:=of_decide_eq_true z
   rw [List.length_map] at this
   exact no _ sm (by rw [decide_eq_false (show ¬ vs.length <= 7 by omega),Bool.and_false]; rfl)
  have v7:vs.length <= 7:=by
   have:¬ (7:Int) < (((vs.map V.str).length:Nat):Int):=fun h=>z1 (decide_eq_true h)
   rw [List.length_map] at this
   omega
  refine ⟨_,rfl,b,_,_,_,rfl,rfl,SqT.of (sm _ _ hb),at1,c,_,rfl,.inr (SqT.of (sm _ _ hc)),_,_,rfl,rfl,_,rfl,bz (fun z=>?_) (fun z1=>?_)⟩
  ·have:=of_decide_eq_true z
   rw [List.length_map] at this
   exact no _ sm (by rw [decide_eq_false (show ¬ cs.length <= 7 by omega),Bool.and_false]; rfl)
  have c7:cs.length <= 7:=by
   have:¬ (7:Int) < (((cs.map V.str).length:Nat):Int):=fun h=>z1 (decide_eq_true h)
   rw [List.length_map] at this
   omega
  rw [decide_eq_true v1,decide_eq_true v7,decide_eq_true c7] at no q
  simp only [Bool.true_and] at no q
  clear eb
  have l4f:∀ H',ar H H' -> ¬ ls.length <= 4 -> Q (.bl false) H':=fun H' s' h=>no H' s' (by rw [decide_eq_false h]; rfl)
  refine ⟨_,rfl,b,v,c,l,cs,rfl,sm _ _ hb,sm _ _ hc,_,rfl,?_⟩
  by_cases hcs:cs=[]
  ·rw [decide_eq_false (show ¬ 0 < cs.length by rw [hcs]; simp)]
   rw [if_pos hcs] at q
   refine bZ ⟨_,rfl,b,_,_,_,rfl,rfl,SqT.of (sm _ _ hb),at0,?_⟩
   refine ⟨_,rfl,b,_,_,_,rfl,rfl,SqT.of (sm _ _ hb),n5,l,_,rfl,.inr (SqT.of (sm _ _ hl)),_,_,rfl,rfl,?_⟩
   by_cases l4:ls.length <= 4
   rotate_left
   ·have e5:decide ((((ls.map V.str).length:Nat):Int) <= 4)=false:=decide_eq_false (by rw [List.length_map]; omega)
    exact ⟨_,rfl,bz (fun z=>absurd (e5.symm.trans z) (by decide)) (fun _=>l4f _ sm l4)⟩
   refine ⟨_,rfl,bz (fun _=>?_) (fun z=>absurd (decide_eq_true (show (((ls.map V.str).length:Nat):Int) <= 4 by rw [List.length_map]; omega)) z)⟩
   refine ⟨_,rfl,b,_,_,_,rfl,rfl,SqT.of (sm _ _ hb),n5,l,rfl,⟨_,SqT.of (sm _ _ hl)⟩,?_⟩
   refine j2 (inB vs) rfl (sm _ _ hl) (by rw [List.length_map]; omega) (fun D2 x us H2 post hD2 hx s2 hDD2 hpost=>?_) (fun D2 H2 hD2 s2 e2=>?_)
   ·obtain ⟨z,hz,rfl⟩:=List.mem_map.mp hx
    refine ⟨_,rfl,_,rfl,v,_,rfl,.inr (SqT.of (s2 _ _ (sm _ _ hv))),rfl,dS vs,?_⟩
    show post (V.bl (inV (.str z) (vs.map V.str))) _
    rw [kL]
    exact hpost _ (ar.refl _)
   ·rw [kZ] at e2
    refine ⟨D2,_,rfl,SqL.of e2,_,rfl,?_⟩
    have h1:=q _ (sm.trans s2)
    rw [decide_eq_true l4,Bool.true_and] at h1
    rw [List.any_map]
    exact h1
  ·rw [decide_eq_true (show 0 < cs.length from List.length_pos_iff.mpr hcs)]
   rw [if_neg hcs] at q
   refine cW ⟨_,rfl,b,_,_,_,rfl,rfl,SqT.of (sm _ _ hb),at1,?_⟩
   refine ⟨_,rfl,b,_,_,_,rfl,rfl,SqT.of (sm _ _ hb),n5,l,_,rfl,.inr (SqT.of (sm _ _ hl)),_,_,rfl,rfl,?_⟩
   by_cases l4:ls.length <= 4
   rotate_left
   ·have e5:decide ((((ls.map V.str).length:Nat):Int) <= 4)=false:=decide_eq_false (by rw [List.length_map]; omega)
    exact ⟨_,rfl,bz (fun z=>absurd (e5.symm.trans z) (by decide)) (fun _=>l4f _ sm l4)⟩
   refine ⟨_,rfl,bz (fun _=>?_) (fun z=>absurd (decide_eq_true (show (((ls.map V.str).length:Nat):Int) <= 4 by rw [List.length_map]; omega)) z)⟩
   refine ⟨_,rfl,b,_,_,_,rfl,rfl,SqT.of (sm _ _ hb),n5,l,rfl,⟨_,SqT.of (sm _ _ hl)⟩,?_⟩
   refine j2 (inB cs) rfl (sm _ _ hl) (by rw [List.length_map]; omega) (fun D2 x us H2 post hD2 hx s2 hDD2 hpost=>?_) (fun D2 H2 hD2 s2 e2=>?_)
   ·obtain ⟨z,hz,rfl⟩:=List.mem_map.mp hx
    refine ⟨_,rfl,_,rfl,c,_,rfl,.inr (SqT.of (s2 _ _ (sm _ _ hc))),rfl,dS cs,?_⟩
    show post (V.bl (inV (.str z) (cs.map V.str))) _
    rw [kL]
    exact hpost _ (ar.refl _)
   ·rw [kZ] at e2
    refine ⟨D2,_,rfl,SqL.of e2,_,rfl,?_⟩
    have h1:=q _ (sm.trans s2)
    rw [decide_eq_true l4,Bool.true_and] at h1
    rw [List.any_map]
    exact h1
end
abbrev i4:Stmt:=top 35
def Rows (H:Hp) (as:List Addr) (rs:List (List V)):Prop:=Paired (fun a r=>H a=some (.tup r)) as rs
theorem Rows.same {H H':Hp} {as:List Addr} {rs:List (List V)} (e:ar H H') (h:Rows H as rs):Rows H' as rs:=Paired.imp' (fun _ _ q=>e _ _ q) h
def gW (p:Str × Int):List V:=[.str p.1,.int p.2]
def fW (p:Str × Int × Option Int):List V:=[.str p.1,.int p.2.1,mo p.2.2]
def kh (H:Hp) (h:Addr) (ps:List (Str × Int)):Prop:=∃ as,H h=some (.tup (as.map V.ref)) /\ Rows H as (ps.map gW)
def og (H:Hp) (h:Addr) (qs:List (Str × Int × Option Int)):Prop:=∃ as,H h=some (.tup (as.map V.ref)) /\ Rows H as (qs.map fW)
def fst (H:Hp) (k:Nat):V -> V
 | .ref a=>match H a with
  | some (.tup r)=>r.getD k .non
  | _=>.non
 | _=>.non
theorem i5 {X:Cx} {scope:Scope} {cl:List (Str × Addr)} {N2 ys:List Str} {C:Addr} {s:Shared} {H:Hp} {fp:List Addr}:IxR (cxC X scope cl N2 ys C s H fp) (rIxT X.K):=bN
theorem ki {H:Hp} {a:Addr} {r:List V} {k:Nat} (h:H a=some (.tup r)):fst H k (.ref a)=r.getD k .non:=by
 show (match H a with | some (.tup r)=>r.getD k .non | _=>.non)=_
 rw [h]
theorem Rows.fst {H:Hp} {k:Nat}:∀ {as:List Addr} {rs:List (List V)},Rows H as rs -> (as.map V.ref).map (K28.fst H k)=rs.map fun r=>r.getD k .non
 | _,_,.nil=>rfl
 | _,_,.cons h t=>by
  rw [List.map_cons,List.map_cons,List.map_cons,ki h,Rows.fst t]
theorem Rows.mem {H:Hp}:∀ {as:List Addr} {rs:List (List V)},Rows H as rs -> ∀ a ∈ as,∃ r ∈ rs,H a=some (.tup r)
 | _,_,.nil,a,h=>(nomatch h)
 | _,_,.cons h t,a,ha=>by
  rcases List.mem_cons.mp ha with rfl | ha
  ·exact ⟨_,List.mem_cons_self ..,h⟩
  ·obtain ⟨r,hr,e⟩:=Rows.mem t a ha
   exact ⟨r,List.mem_cons_of_mem _ hr,e⟩
theorem Rows.len {H:Hp} {as:List Addr} {rs:List (List V)} (h:Rows H as rs):as.length=rs.length:=Paired.length h
structure ij (n t:Int) (vs cs ls:List Str) (ps:List (Str × Int)) (qs:List (Str × Int × Option Int)):Prop where
 nv:∀ x ∈ vs,Nm x
 nc:∀ x ∈ cs,Nm x
 nl:∀ x ∈ ls,Nm x
 np:∀ p ∈ ps,Nm p.1
 nq:∀ p ∈ qs,Nm p.1
 pr:(ps.map (·.1)).Pairwise ltS
 qr:(qs.map (·.1)).Pairwise ltS
 pl:ps.length <= 450
 ql:qs.length <= 450
 q1:∀ p ∈ qs,1 <= p.2.1
 pos:(n=0 /\ t=0 /\ ps=[] /\ qs=[]) \/ (1 <= n /\ 1 <= t)
 nb:n.natAbs < 10 ^ 100
 tb:t.natAbs < 10 ^ 100
 pb:∀ p ∈ ps,p.2.natAbs < 10 ^ 100
 qb:∀ p ∈ qs,p.2.1.natAbs < 10 ^ 100 /\ ∀ m,p.2.2=some m -> m.natAbs < 10 ^ 100
def stB (n t:Int) (vs cs ls:List Str) (ps:List (Str × Int)) (qs:List (Str × Int × Option Int)):Bool :=
 if n=0 then decide (t=0) && decide (ps.length=0) && decide (qs.length=0) && bnB vs cs ls
 else decide (1 <= n) && decide (1 <= t) && bnB vs cs ls && bf (ps.map (·.1)) && bf (qs.map (·.1)) && qs.all fun p=>decide (1 <= p.2.1)
theorem st_good {n t:Int} {vs cs ls:List Str} {ps:List (Str × Int)} {qs:List (Str × Int × Option Int)} (h:stB n t vs cs ls ps qs=true) (pl:ps.length <= 450) (ql:qs.length <= 450) (nb:Big n) (tb:Big t) (pb:∀ p ∈ ps,Big p.2) (qb:∀ p ∈ qs,Big p.2.1 /\ ∀ m,p.2.2=some m -> Big m):ij n t vs cs ls ps qs /\ ii vs cs ls:=by
 unfold stB at h
 split at h
 ·rename_i h0
  simp only [Bool.and_eq_true,decide_eq_true_iff] at h
  obtain ⟨⟨⟨h1,h2⟩,h3⟩,h4⟩:=h
  obtain ⟨O,nv,nc,nl⟩:=(kf vs cs ls).mp h4
  have h2:=List.length_eq_zero_iff.mp h2
  have h3:=List.length_eq_zero_iff.mp h3
  subst h0 h1 h2 h3
  exact ⟨⟨nv,nc,nl,fun p h=>(nomatch h),fun p h=>(nomatch h),.nil,.nil,pl,ql,fun p h=>(nomatch h),.inl ⟨rfl,rfl,rfl,rfl⟩,nb,tb,pb,qb⟩,O⟩
 ·simp only [Bool.and_eq_true,decide_eq_true_iff,List.all_eq_true] at h
  obtain ⟨⟨⟨⟨⟨h1,h2⟩,h3⟩,h4⟩,h5⟩,h6⟩:=h
  obtain ⟨O,nv,nc,nl⟩:=(kf vs cs ls).mp h3
  obtain ⟨p1,p2⟩:=(dI _).mp h4
  obtain ⟨q1,q2⟩:=(dI _).mp h5
  exact ⟨⟨nv,nc,nl,fun p h=>p1 _ (List.mem_map_of_mem h),fun p h=>q1 _ (List.mem_map_of_mem h),p2,q2,pl,ql,h6,.inr ⟨h1,h2⟩,nb,tb,pb,qb⟩,O⟩
theorem good_st {n t:Int} {vs cs ls:List Str} {ps:List (Str × Int)} {qs:List (Str × Int × Option Int)} (G:ij n t vs cs ls ps qs) (O:ii vs cs ls):stB n t vs cs ls ps qs=true:=by
 have hb:=(kf vs cs ls).mpr ⟨O,G.nv,G.nc,G.nl⟩
 unfold stB
 rcases G.pos with ⟨rfl,rfl,rfl,rfl⟩ | ⟨h1,h2⟩
 ·rw [if_pos rfl,hb]
  rfl
 ·rw [if_neg (by omega),hb,decide_eq_true h1,decide_eq_true h2,(dI _).mpr ⟨fun x hx=>by
   obtain ⟨p,hp,rfl⟩:=List.mem_map.mp hx
   exact G.np p hp,G.pr⟩,(dI _).mpr ⟨fun x hx=>by
   obtain ⟨p,hp,rfl⟩:=List.mem_map.mp hx
   exact G.nq p hp,G.qr⟩]
  simpa using G.q1
def oh:Sp:=fun us H Q _=>∃ (n t:Int) (b h k:Addr) (vs cs ls:List Str) (ps:List (Str × Int)) (qs:List (Str × Int × Option Int)),us=[.int n,.int t,.ref b,.ref h,.ref k] /\ BnT H b vs cs ls /\ kh H h ps /\ og H k qs /\ (vs.length <= 900 /\ cs.length <= 900 /\ ls.length <= 900) /\ (∀ x ∈ vs ++ (cs ++ ls),x.length <= sizeLine) /\ (ps.length <= 900 /\ qs.length <= 900) /\ (∀ p ∈ ps,p.1.length <= sizeLine) /\ (∀ p ∈ qs,p.1.length <= sizeLine) /\
 ∀ H',ar H H' -> Q (.bl (stB n t vs cs ls ps qs)) H'
def geV (H:Hp):V -> V
 | .ref a=>match H a with
  | some (.tup (_ :: .int m :: _))=>.bl (decide (1 <= m))
  | _=>.non
 | _=>.non
theorem oi {H:Hp} {a:Addr} {p:Str × Int × Option Int} (h:H a=some (.tup (fW p))):geV H (.ref a)=.bl (decide (1 <= p.2.1)):=by
 show (match H a with | some (.tup (_ :: .int m :: _))=>V.bl (decide (1 <= m)) | _=>.non)=_
 rw [h]
 rfl
theorem Rows.ge {H:Hp}:∀ {as:List Addr} {qs:List (Str × Int × Option Int)},Rows H as (qs.map fW) -> (as.map V.ref).map (geV H)=(qs.map fun p=>decide (1 <= p.2.1)).map V.bl
 | _,[],.nil=>rfl
 | _,q :: qs,.cons h t=>by
  rw [List.map_cons,List.map_cons,List.map_cons,List.map_cons,oi h,Rows.ge t]
abbrev fX:List Str:=["place","term","bench","held","asked"]
section
variable {P:Program} {w:World} {K:PySem.W.Frag} {mg:Str -> Option Value} {base:Heap}
theorem scIsS:aN fX fX (ai i4):=fsc (by decide +kernel)
theorem ndS1:(fX ++ (["pair"]:List Str)).Nodup:=by decide +kernel
theorem ndS2:(fX ++ (["part"]:List Str)).Nodup:=by decide +kernel
theorem ok_isS {f:Addr} {fd:FuncData} (F:Fun K "is_stand" "is_stand" i4 f fd) (B:Blt mg) (T:Bl2 mg) (Fr:bb P w K mg base 2 "is_rising_names" ["thing"] i3) (Fb:bb P w K mg base 3 "is_bench" ["thing"] n8):bG P w K mg base CX0 4 f fd fX oh:=by
 refine F.ok scIsS (fun us H Q E h=>?_) (fun cdv A outer s H us Q E hr h=>?_)
 ·obtain ⟨n,t,b,h,k,vs,cs,ls,ps,qs,rfl,_⟩:=h
  rfl
 ·obtain ⟨n,t,b,h,k,vs,cs,ls,ps,qs,rfl,hB,⟨as,hh,ha⟩,⟨ks,hk,hq⟩,hbl,hbs,⟨hpl,hq24⟩,psz,qsz,q⟩:=h
  have r2:bP 2 _:=hr.mono (by decide)
  refine ⟨_,ag (be (aE bK (pv 0) ac (aC _)) (am (aF (dy (bo bK (pv 1) ac (aC _)) (dy (bo bK (ax aO (by rfl) B.len PySem.boot_len (aa (pv 3) af)) ac (aC _)) (dy (bo bK (ax aO (by rfl) B.len PySem.boot_len (aa (pv 4) af)) ac (aC _)) (eF (az Fb hr (aa (pv 2) af)))))))) aQ) <|
   ag (be (PW.pt (cE (aE cN (pv 0) ac (aC _)) (cE (aE cN (pv 1) ac (aC _)) (c9 (cm (bV (az Fb hr (aa (pv 2) af)))))))) (am (aF dw)) aQ) <|
   ag (be (cm (bV (az Fr r2 (aa (aT bh (by rfl) B.tuple cg (aa (b8 fX fX ["pair"] (ai i4) rfl rfl rfl (by decide +kernel) rfl rfl (by decide +kernel) (by decide +kernel) (by decide +kernel) (by decide +kernel)
    (cM (pv 3)) (fun _ _ _ _ _=>aH (i:=5) ndS1 rfl (Or.inl rfl)) (fun _ _ _ _ _=>bE) (fun _ _ _ _ _=>aB i5 (pv 5) ac (fun _ _=>rfl))) af)) af)))) (am (aF dw)) aQ) <|
   am (aF (dy (az Fr r2 (aa (aT bh (by rfl) B.tuple cg (aa (b8 fX fX ["part"] (ai i4) rfl rfl rfl (by decide +kernel) rfl rfl (by decide +kernel) (by decide +kernel) (by decide +kernel) (by decide +kernel)
    (cM (pv 4)) (fun _ _ _ _ _=>aH (i:=5) ndS2 rfl (Or.inl rfl)) (fun _ _ _ _ _=>bE) (fun _ _ _ _ _=>aB i5 (pv 5) ac (fun _ _=>rfl))) af)) af))
    (eF (ax (cK rfl) (by rfl) T.all mh (aa (b8 fX fX ["part"] (ai i4) rfl rfl rfl (by decide +kernel) rfl rfl (by decide +kernel) (by decide +kernel) (by decide +kernel) (by decide +kernel)
    (cM (pv 4)) (fun _ _ _ _ _=>aH (i:=5) ndS2 rfl (Or.inl rfl)) (fun _ _ _ _ _=>bE) (fun _ _ _ _ _=>bo op_ge (aB i5 (pv 5) ac (fun _ _=>rfl)) ac (by rfl))) af))))),?_⟩
  have hs16:sizeLine=16777216:=sizeLine_eq
  have hal:=ha.len
  have hql:=hq.len
  rw [List.length_map] at hal hql
  have no:∀ H',ar H H' -> stB n t vs cs ls ps qs=false -> Q (.bl false) H':=fun H' s' e=>by
   have:=q H' s'
   rwa [e] at this
  refine ⟨_,rfl,rfl,_,rfl,?_⟩
  by_cases h0:n=0
  ·subst h0
   rw [decide_eq_true rfl]
   unfold stB at q
   rw [if_pos rfl] at q
   refine cW ?_
   have toN:∀ m:Nat,V.int (m:Int)=V.int 0 -> m=0:=fun m e=>by
    have e:(m:Int)=0:=by injection e
    omega
   have z1:(V.int (((as.map V.ref).length:Nat):Int)=V.int 0) ↔ ps.length=0:=by
    rw [List.length_map,hal]
    exact ⟨toN _,fun e=>by rw [e]; rfl⟩
   have z2:(V.int (((ks.map V.ref).length:Nat):Int)=V.int 0) ↔ qs.length=0:=by
    rw [List.length_map,hql]
    exact ⟨toN _,fun e=>by rw [e]; rfl⟩
   have z0:(V.int t=V.int 0) ↔ t=0:=⟨fun e=>by injection e,fun e=>by rw [e]⟩
   have qH:=q H (ar.refl H)
   refine ⟨_,rfl,rfl,_,rfl,bz (fun y=>?_) (fun y=>?_)⟩
   rotate_left
   ·rw [decide_eq_false (fun e=>y (decide_eq_true (z0.mpr e)))] at qH
    exact qH
   have ht:=z0.mp (of_decide_eq_true y)
   rw [decide_eq_true ht] at q qH
   refine ⟨_,rfl,h,_,rfl,.inr (SqT.of hh),rfl,_,rfl,bz (fun y=>?_) (fun y=>?_)⟩
   rotate_left
   ·rw [decide_eq_false (fun e=>y (decide_eq_true (z1.mpr e)))] at qH
    exact qH
   rw [decide_eq_true (z1.mp (of_decide_eq_true y))] at q qH
   refine ⟨_,rfl,k,_,rfl,.inr (SqT.of hk),rfl,_,rfl,bz (fun y=>?_) (fun y=>?_)⟩
   rotate_left
   ·rw [decide_eq_false (fun e=>y (decide_eq_true (z2.mpr e)))] at qH
    exact qH
   rw [decide_eq_true (z2.mp (of_decide_eq_true y))] at q
   exact ⟨_,rfl,b,vs,cs,ls,rfl,hB,hbl,hbs,fun H' s'=>q H' s'⟩
  ·rw [decide_eq_false (show ¬ V.int n=V.int 0 from fun e=>h0 (by injection e))]
   unfold stB at q no
   rw [if_neg h0] at q no
   refine bZ ?_
   refine ⟨_,rfl,_,_,rfl,rfl,_,rfl,bz (fun z=>?_) (fun z=>?_)⟩
   ·have:=of_decide_eq_true z
    exact no H (ar.refl H) (by rw [decide_eq_false (show ¬ 1 <= n by omega)]; rfl)
   have h1:1 <= n:=by
    have:¬ n < 1:=fun h=>z (decide_eq_true h)
    omega
   rw [decide_eq_true h1] at q no
   refine ⟨_,rfl,_,_,rfl,rfl,_,rfl,bz (fun z=>?_) (fun z=>?_)⟩
   ·have:=of_decide_eq_true z
    exact no H (ar.refl H) (by rw [decide_eq_false (show ¬ 1 <= t by omega)]; rfl)
   have h2:1 <= t:=by
    have:¬ t < 1:=fun h=>z (decide_eq_true h)
    omega
   rw [decide_eq_true h2] at q no
   simp only [Bool.true_and] at q no
   refine ⟨_,rfl,b,vs,cs,ls,rfl,hB,hbl,hbs,fun H1 s1=>⟨_,rfl,ke (fun hb=>?_) (fun hb=>?_)⟩⟩
   ·have hb:bnB vs cs ls=false:=by simpa using hb
    exact no H1 s1 (by rw [hb]; rfl)
   have hb:bnB vs cs ls=true:=by simpa using hb
   rw [hb] at q no
   simp only [Bool.true_and] at q no
   refine ⟨_,rfl,h,rfl,⟨_,SqT.of (s1 _ _ hh)⟩,?_⟩
   refine j2 (K28.fst H 0) rfl (s1 _ _ hh) (by rw [List.length_map]; omega) (fun D x ys H2 post hD hx sm hDD hpost=>?_) (fun D H2 hD sm eD=>?_)
   ·obtain ⟨a,haa,rfl⟩:=List.mem_map.mp hx
    obtain ⟨r,hr',e⟩:=ha.mem a haa
    obtain ⟨p,hp,rfl⟩:=List.mem_map.mp hr'
    have hpp:=hpost _ (ar.refl _)
    rw [ki e] at hpp
    exact ⟨_,rfl,a,_,_,_,rfl,rfl,SqT.of (sm _ _ (s1 _ _ e)),at0,hpp⟩
   have e0:(as.map V.ref).map (K28.fst H 0)=(ps.map (·.1)).map V.str:=by
    rw [ha.fst,List.map_map,List.map_map]
    rfl
   rw [e0] at eD
   refine ⟨D,_,rfl,SqL.of eD,fun t3 H3 _ s3 e3=>⟨t3,ps.map (·.1),rfl,e3,(by rw [List.length_map]; omega),(fun x hx=>by obtain ⟨p,hp,rfl⟩:=List.mem_map.mp hx; exact psz p hp),fun H4 s4=>⟨_,rfl,ke (fun hb=>?_) (fun hb=>?_)⟩⟩⟩
   ·have hb:bf (ps.map (·.1))=false:=by simpa using hb
    exact no _ (s1.trans (sm.trans (s3.trans s4))) (by rw [hb]; rfl)
   have hb:bf (ps.map (·.1))=true:=by simpa using hb
   rw [hb] at q no
   simp only [Bool.true_and] at q no
   have s4:=s1.trans (sm.trans (s3.trans s4))
   refine ⟨_,rfl,k,rfl,⟨_,SqT.of (s4 _ _ hk)⟩,?_⟩
   refine j2 (K28.fst H 0) rfl (s4 _ _ hk) (by rw [List.length_map]; omega) (fun D x ys H2 post hD hx sm hDD hpost=>?_) (fun D2 H5 hD2 s5 eD2=>?_)
   ·obtain ⟨a,haa,rfl⟩:=List.mem_map.mp hx
    obtain ⟨r,hr',e⟩:=hq.mem a haa
    obtain ⟨p,hp,rfl⟩:=List.mem_map.mp hr'
    have hpp:=hpost _ (ar.refl _)
    rw [ki e] at hpp
    exact ⟨_,rfl,a,_,_,_,rfl,rfl,SqT.of (sm _ _ (s4 _ _ e)),at0,hpp⟩
   have e1:(ks.map V.ref).map (K28.fst H 0)=(qs.map (·.1)).map V.str:=by
    rw [hq.fst,List.map_map,List.map_map]
    rfl
   rw [e1] at eD2
   refine ⟨D2,_,rfl,SqL.of eD2,fun t6 H6 _ s6 e6=>⟨t6,qs.map (·.1),rfl,e6,(by rw [List.length_map]; omega),(fun x hx=>by obtain ⟨p,hp,rfl⟩:=List.mem_map.mp hx; exact qsz p hp),fun H7 s7=>⟨_,rfl,ke (fun hb=>?_) (fun hb=>?_)⟩⟩⟩
   rotate_left
   ·rw [hb] at no
    exact no _ (s4.trans (s5.trans (s6.trans s7))) rfl
   rw [hb] at q no
   simp only [Bool.true_and] at q no
   have s7:=s4.trans (s5.trans (s6.trans s7))
   refine ⟨_,rfl,k,rfl,⟨_,SqT.of (s7 _ _ hk)⟩,?_⟩
   refine j2 (geV H) rfl (s7 _ _ hk) (by rw [List.length_map]; omega) (fun D x ys H2 post hD hx sm hDD hpost=>?_) (fun D3 H8 hD3 s8 eD3=>?_)
   ·obtain ⟨a,haa,rfl⟩:=List.mem_map.mp hx
    obtain ⟨r,hr',e⟩:=hq.mem a haa
    obtain ⟨p,hp,rfl⟩:=List.mem_map.mp hr'
    have hpp:=hpost _ (ar.refl _)
    rw [oi e] at hpp
    exact ⟨_,rfl,a,_,_,_,rfl,rfl,SqT.of (sm _ _ (s7 _ _ e)),at1,_,_,rfl,rfl,hpp⟩
   rw [Rows.ge hq] at eD3
   refine ⟨D3,_,rfl,SqL.of eD3,?_⟩
   have ez:(qs.map fun p:Str × Int × Option Int=>decide (1 <= p.2.1)).all id=qs.all fun p=>decide (1 <= p.2.1):=by rw [List.all_map]; rfl
   rw [ez]
   exact q _ (s7.trans s8)
end
end K28
namespace L2
open PySem PySem.Spec PyProof.Rows
theorem Paired.at {α β:Type} {R:α -> β -> Prop}:∀ {xs:List α} {ys:List β} {i:Nat} {y:β},Paired R xs ys -> ys[i]?=some y -> ∃ x,xs[i]?=some x /\ R x y
 | _,_,0,y,.cons h t,e=>⟨_,rfl,by cases e; exact h⟩
 | _,_,i + 1,y,.cons h t,e=>Paired.at (i:=i) t (by simpa using e)
 | _,_,_,_,.nil,e=>by simp at e
theorem lcRU {K:PySem.W.Frag} {a:Addr} {as:List Addr} {rs:List (List V)} {n:Nat} {g:TG} {σ:St} {H1:Hp} {te:TE} {Q:VK} (f:List V -> V) (hq:H1 a=some (.tup (as.map V.ref)))
  (hr:Paired (fun a r=>H1 a=some (.tup r)) as rs) (hz:rs.length <= 1000) (hn:∀ r ∈ rs,r.length=n)
  (hg:∀ (p:Addr) (r:List V) (H:Hp) (R:St -> Hp -> Prop),r ∈ rs -> H p=some (.tup r) -> R (σ ++ r.map some) H -> g (.ref p) (σ ++ List.replicate n none) H R)
  (turn:∀ r H (post:VK),r ∈ rs -> ar H1 H -> (∀ H',ar H H' -> post (f r) H') -> te (σ ++ r.map some) H post)
  (fin:∀ D H,H1 D=none -> ar H1 H -> H D=some (.lst (rs.map f)) -> Q (.ref D) H):LCT n g gD te σ Q (Itt K a) H1:=by
 have hl:as.length=rs.length:=Paired.length hr
 intro D hD
 refine ⟨fun i m us H=>m=rs.length - i /\ i <= rs.length /\ ar H1 H /\ H D=some (.lst us) /\ us=(rs.take i).map f,⟨rs.length,by simp,Nat.zero_le _,ar.new hD,au,rfl⟩,?_⟩
 rintro i m us H ⟨rfl,hi,sm,hDD,rfl⟩
 by_cases hlt:i < rs.length
 ·obtain ⟨p,hp,gW⟩:=Paired.at hr (List.getElem?_eq_getElem hlt)
  have hx:(as.map V.ref)[i]?=some (.ref p):=by rw [List.getElem?_map,hp]; rfl
  refine .inr ⟨⟨as.map V.ref,.ref p,SqT.of (sm _ _ hq),hx⟩,fun v H' y=>?_⟩
  obtain ⟨rfl,y⟩:=y
  have hv:=y _ (SqT.of (sm _ _ hq))
  rw [hx] at hv
  cases hv
  have hm:rs[i] ∈ rs:=List.getElem_mem hlt
  refine hg p rs[i] _ _ hm (sm _ _ gW) ⟨⟨_,rfl,by rw [List.length_map]; exact hn _ hm⟩,?_⟩
  unfold gD
  refine cW (turn rs[i] _ _ hm sm fun H4 s4=>⟨s4 _ _ hDD,?_,rs.length - (i + 1),by omega,rfl,hlt,fun c o e=>?_,au,?_⟩)
  ·rw [List.length_map,List.length_take]
   exact bM (by omega)
  ·rw [aD (aA e hD)]
   exact s4 _ _ (sm _ _ e)
  ·rw [List.take_add_one,List.getElem?_eq_getElem hlt,List.map_append]; rfl
 ·have e:i=rs.length:=by omega
  subst e
  rw [List.take_length] at hDD
  exact .inl ⟨⟨as.map V.ref,SqT.of (sm _ _ hq),by rw [List.length_map]; omega⟩,fin D H hD sm hDD⟩
end L2
namespace K28
open PySem L2
abbrev sSs:Stmt:=top 28
abbrev nSs:List Str:=["stand","place","term","rows"]
def stS (n t:Int):Str:=Str.empty ++ Str.ofString "stand " ++ aR n ++ Str.ofString " " ++ aR t
def heS (x:Str) (n:Int):Str:=Str.empty ++ Str.ofString "held " ++ x ++ Str.ofString " " ++ aR n
def bS (n t:Int) (vs cs ls:List Str) (ps:List (Str × Int)) (qs:List (Str × Int × Option Int)):List Str :=
 [stS n t,Txt.join (Str.ofString " ") (bw vs cs ls)] ++ (ps.map fun p=>heS p.1 p.2) ++ qs.map fun p=>asS p.1 p.2.1 p.2.2
def StAt (H:Hp) (s:Addr) (n t:Int) (vs cs ls:List Str) (ps:List (Str × Int)) (qs:List (Str × Int × Option Int)):Prop :=
 ∃ b h k,H s=some (.tup [.int n,.int t,.ref b,.ref h,.ref k]) /\ ei H b vs cs ls /\ kh H h ps /\ og H k qs
def spSs:Sp:=fun us H Q _=>∃ (s:Addr) (n t:Int) (vs cs ls:List Str) (ps:List (Str × Int)) (qs:List (Str × Int × Option Int)),us=[.ref s] /\ StAt H s n t vs cs ls ps qs /\ ij n t vs cs ls ps qs /\
 ∀ H',ar H H' -> Q (.str (Txt.join (Str.ofString "\n") (bS n t vs cs ls ps qs))) H'
def fH:List V -> V
 | [.str x,.int m]=>.str (heS x m)
 | _=>.non
def fA:List V -> V
 | [.str x,.int m,.int j]=>.str (asS x m (some j))
 | [.str x,.int m,.non]=>.str (asS x m none)
 | _=>.non
theorem oj (p:Str × Int × Option Int):fA (fW p)=.str (asS p.1 p.2.1 p.2.2):=by
 obtain ⟨x,m,a⟩:=p
 cases a <;> rfl
section
variable {P:Program} {w:World} {K:PySem.W.Frag} {mg:Str -> Option Value} {base:Heap}
theorem scSs:aN nSs ["stand"] (ai sSs):=fsc (by decide +kernel)
theorem ndH2:(nSs ++ (["key","number"]:List Str)).Nodup:=by decide +kernel
theorem ndA3:(nSs ++ (["asker","number","answer"]:List Str)).Nodup:=by decide +kernel
theorem ok_ss {f:Addr} {fd:FuncData} (F:Fun K "shown_stand" "shown_stand" sSs f fd) (Fb:bb P w K mg base 1 "shown_bench" ["bench"] spSb) (Fa:bb P w K mg base 1 "shown_asked" ["asker","number","answer"] spSa):bG P w K mg base CX0 2 f fd ["stand"] spSs:=by
 refine F.ok scSs (fun us H Q E h=>?_) (fun cdv A outer s H us Q E hr h=>?_)
 ·obtain ⟨s0,n,t,vs,cs,ls,ps,qs,rfl,_⟩:=h
  rfl
 ·obtain ⟨s0,n,t,vs,cs,ls,ps,qs,rfl,⟨b,h,k,hst,hB,⟨as,hh,ha⟩,⟨ks,hk,hq⟩⟩,G,q⟩:=h
  have nd:=scSs.nd
  refine ⟨_,ag (aw (i:=1) nd rfl (Or.inl rfl) (aB bN (pv 0) ac (fun _ _=>rfl))) <|
   ag (aw (i:=2) nd rfl (Or.inl rfl) (aB bN (pv 0) ac (fun _ _=>rfl))) <|
   ag (aw (i:=3) nd rfl (Or.inl rfl) (aJ (aa (gg (bF ao (bF (dv (pv 1)) (bF ao (bF (dv (pv 2)) iY))))) (aa (az Fb hr (aa (aB bN (pv 0) ac (fun _ _=>rfl)) af)) af)))) <|
   ag (dO (ck PySem.F.plainAttrs_list PySem.F.slot_list_extend PySem.F.type_list_extend gJ (pv 3) (aa (b8 nSs nSs ["key","number"] (ai sSs) rfl rfl rfl (by decide +kernel) rfl rfl (by decide +kernel) (by decide +kernel) (by decide +kernel) (by decide +kernel)
    (cM (aB bN (pv 0) ac (fun _ _=>rfl))) (fun _ _ _ _ _=>dU (n:=2) rfl (aX (aH (i:=4) ndH2 rfl (Or.inl rfl)) (aX (aH (i:=5) ndH2 rfl (Or.inl rfl)) cG))) (fun _ _ _ _ _=>bE)
    (fun _ _ _ _ _=>gg (bF ao (bF (dv (pv 4)) (bF ao (bF (dv (pv 5)) iY)))))) af))) <|
   ag (dO (ck PySem.F.plainAttrs_list PySem.F.slot_list_extend PySem.F.type_list_extend gJ (pv 3) (aa (b8 nSs nSs ["asker","number","answer"] (ai sSs) rfl rfl rfl (by decide +kernel) rfl rfl (by decide +kernel) (by decide +kernel) (by decide +kernel) (by decide +kernel)
    (cM (aB bN (pv 0) ac (fun _ _=>rfl))) (fun _ _ _ _ _=>dU (n:=3) rfl (aX (aH (i:=4) ndA3 rfl (Or.inl rfl)) (aX (aH (i:=5) ndA3 rfl (Or.inl rfl)) (aX (aH (i:=6) ndA3 rfl (Or.inl rfl)) cG)))) (fun _ _ _ _ _=>bE)
    (fun _ _ _ _ _=>az (X:=cxC _ _ _ _ _ _ _ _ _) Fa hr (aa (pv 4) (aa (pv 5) (aa (pv 6) af))))) af))) <|
   am (aF (ck PySem.F.plainAttrs_str PySem.F.slot_str_join PySem.F.type_str_join gb ao (aa (pv 3) af))),?_⟩
  have hs16:sizeLine=16777216:=sizeLine_eq
  have k0:Str.empty.length=0:=rfl
  have k1:(Str.ofString "stand ").length=6:=by decide +kernel
  have k2:(Str.ofString " ").length=1:=by decide +kernel
  have k3:(Str.ofString "held ").length=5:=by decide +kernel
  have hnl:=bj G.nb
  have htl:=bj G.tb
  obtain ⟨⟨v,c,l,b1,b2,b3,b4⟩,a1,a2,a3,a4,a5,a6,a7,a8⟩:=hB
  have hal:=ha.len
  have hql:=hq.len
  rw [List.length_map] at hal hql
  have hpl:=G.pl
  have hq24:=G.ql
  refine ⟨_,rfl,s0,_,_,_,rfl,rfl,SqT.of hst,at0,?_⟩
  refine ⟨_,rfl,s0,_,_,_,rfl,rfl,SqT.of hst,at1,?_⟩
  have g:(Str.empty ++ Str.ofString "stand ").length <= sizeLine /\ (Str.empty ++ Str.ofString "stand " ++ aR n).length <= sizeLine /\ (Str.empty ++ Str.ofString "stand " ++ aR n ++ Str.ofString " ").length <= sizeLine /\ (Str.empty ++ Str.ofString "stand " ++ aR n ++ Str.ofString " " ++ aR t).length <= sizeLine:=by
   simp only [Str.length_append,k0,k1,k2]
   omega
  obtain ⟨g1,g2,g3,g4⟩:=g
  refine ⟨_,rfl,g1,_,rfl,.inr ⟨_,rfl,cD G.nb,_,rfl,g2,_,rfl,g3,_,rfl,.inr ⟨_,rfl,cD G.tb,_,rfl,g4,g4,?_⟩⟩⟩
  refine ⟨_,rfl,s0,_,_,_,rfl,rfl,SqT.of hst,n5,b,vs,cs,ls,rfl,⟨v,c,l,b1,b2,b3,b4⟩,by omega,by omega,by omega,G.nv,G.nc,G.nl,fun H1 s1=>⟨(show 2 <= sizeLine by omega),fun p H2 hp s2 e2=>?_⟩⟩
  have s2:=s1.trans s2
  refine ⟨_,rfl,.inl ⟨rfl,_,SqL.of e2⟩,_,rfl,s0,_,_,_,rfl,rfl,SqT.of (s2 _ _ hst),ba (j:=3) rfl,h,rfl,⟨_,SqT.of (s2 _ _ hh)⟩,?_⟩
  have np:=s1.none hp
  have s0p:∀ H4:Hp,(∀ a o,a ≠ p -> H2 a=some o -> H4 a=some o) -> ar H H4:=fun H4 b4 a o e=>b4 a o (aA e np) (s2 _ _ e)
  refine lcRU (n:=2) fH (s2 _ _ hh) (Rows.same s2 ha) (by rw [List.length_map]; omega) (fun r hr=>by obtain ⟨p,_,rfl⟩:=List.mem_map.mp hr; rfl) (fun p' r Hx R hr' hp' hR=>?_) (fun r Hx post hr' sx hpost=>?_) (fun D H3 hD s3 e3=>?_)
  ·obtain ⟨y,hy,rfl⟩:=List.mem_map.mp hr'
   exact ⟨p',_,rfl,SqT.of hp',rfl,_,[_],rfl,_,[],rfl,rfl,hR⟩
  ·obtain ⟨y,hy,rfl⟩:=List.mem_map.mp hr'
   have y8:=(G.np y hy).2.1
   have yl:=bj (G.pb y hy)
   have g:(Str.empty ++ Str.ofString "held ").length <= sizeLine /\ (Str.empty ++ Str.ofString "held " ++ y.1).length <= sizeLine /\ (Str.empty ++ Str.ofString "held " ++ y.1 ++ Str.ofString " ").length <= sizeLine /\ (Str.empty ++ Str.ofString "held " ++ y.1 ++ Str.ofString " " ++ aR y.2).length <= sizeLine:=by
    simp only [Str.length_append,k0,k3,k2]
    omega
   obtain ⟨g1,g2,g3,g4⟩:=g
   exact ⟨_,rfl,g1,_,rfl,.inl ⟨_,rfl,by omega,_,rfl,g2,_,rfl,g3,_,rfl,.inr ⟨_,rfl,cD (G.pb y hy),_,rfl,g4,g4,hpost _ (ar.refl _)⟩⟩⟩
  have eh:(ps.map gW).map fH=(ps.map fun p=>heS p.1 p.2).map V.str:=by rw [List.map_map,List.map_map]; rfl
  rw [eh] at e3
  refine ⟨p,D,_,_,rfl,rfl,s3 _ _ e2,.inl e3,(by simp only [List.length_map,List.length_cons,List.length_nil]; omega),fun H4 b4 e4=>?_⟩
  have s4:ar H H4:=s0p H4 fun a o ne e=>b4 a o ne (s3 _ _ e)
  refine ⟨_,rfl,.inl ⟨rfl,_,SqL.of e4⟩,_,rfl,s0,_,_,_,rfl,rfl,SqT.of (s4 _ _ hst),ba (j:=4) rfl,k,rfl,⟨_,SqT.of (s4 _ _ hk)⟩,?_⟩
  refine lcRU (n:=3) fA (s4 _ _ hk) (Rows.same s4 hq) (by rw [List.length_map]; omega) (fun r hr=>by obtain ⟨p,_,rfl⟩:=List.mem_map.mp hr; rfl) (fun p' r Hx R hr' hp' hR=>?_) (fun r Hx post hr' sx hpost=>?_) (fun D5 H5 hD5 s5 e5=>?_)
  ·obtain ⟨y,hy,rfl⟩:=List.mem_map.mp hr'
   exact ⟨p',_,rfl,SqT.of hp',rfl,_,[_,_],rfl,_,[_],rfl,_,[],rfl,rfl,hR⟩
  ·obtain ⟨y,hy,rfl⟩:=List.mem_map.mp hr'
   have hpp:=hpost _ (ar.refl _)
   rw [oj] at hpp
   exact ⟨_,rfl,_,rfl,_,rfl,y.1,y.2.1,y.2.2,rfl,(G.nq y hy).2.1,(G.qb y hy).1,(G.qb y hy).2,hpp⟩
  have ea:(qs.map fW).map fA=(qs.map fun p=>asS p.1 p.2.1 p.2.2).map V.str:=by
   rw [List.map_map,List.map_map]
   exact List.map_congr_left fun y _=>oj y
  rw [ea] at e5
  refine ⟨p,D5,_,_,rfl,rfl,s5 _ _ e4,.inl e5,(by simp only [List.length_append,List.length_map,List.length_cons,List.length_nil]; omega),fun H6 b6 e6=>?_⟩
  have s6:ar H H6:=s0p H6 fun a o ne e=>b6 a o ne (s5 _ _ (b4 a o ne (s3 _ _ e)))
  have e6:H6 p=some (.lst ((bS n t vs cs ls ps qs).map V.str)):=e6.trans (by simp only [bS,List.map_append]; rfl)
  refine ⟨rfl,_,rfl,_,p,bS n t vs cs ls ps qs,rfl,rfl,SqL.of e6,?_,q _ s6⟩
  have kn:(Str.ofString "\n").length=1:=by decide +kernel
  have hbs:=fF (i0 G.nv G.nc G.nl)
  have hbl:=dH vs cs ls
  have hjl:=gF (Str.ofString " ") (bw vs cs ls)
  rw [k2] at hjl
  have hall:∀ z ∈ bS n t vs cs ls ps qs,z.length <= 1000:=by
   intro z hz
   unfold bS at hz
   rcases List.mem_append.mp hz with hz | hz
   ·rcases List.mem_append.mp hz with hz | hz
    ·simp only [List.mem_cons,List.not_mem_nil,or_false] at hz
     rcases hz with rfl | rfl
     ·simp only [stS,Str.length_append,k0,k1,k2]
      omega
     ·omega
    ·obtain ⟨y,hy,rfl⟩:=List.mem_map.mp hz
     have y8:=(G.np y hy).2.1
     have yl:=bj (G.pb y hy)
     simp only [heS,Str.length_append,k0,k3,k2]
     omega
   ·obtain ⟨y,hy,rfl⟩:=List.mem_map.mp hz
    have y8:=(G.nq y hy).2.1
    have yl:=bj (G.qb y hy).1
    have al:(fV y.2.2).length <= 101:=by
     cases hy2:y.2.2 with
     | none=>show (Str.ofString "-").length <= 101; decide +kernel
     | some m=>exact bj ((G.qb y hy).2 m hy2)
    have k6:(Str.ofString "asked ").length=6:=by decide +kernel
    simp only [asS,Str.length_append,k0,k6,k2]
    omega
  have hsum:=fF hall
  have hrl:(bS n t vs cs ls ps qs).length <= 902:=by
   simp only [bS,List.length_append,List.length_map,List.length_cons,List.length_nil]
   omega
  rw [kn]
  omega
end
end K28
namespace L2
open PySem PySem.Spec PyProof.Rows
theorem Paired.snoc {α β:Type} {R:α -> β -> Prop}:∀ {xs:List α} {ys:List β} {x:α} {y:β},Paired R xs ys -> R x y -> Paired R (xs ++ [x]) (ys ++ [y])
 | _,_,_,_,.nil,h=>.cons h .nil
 | _,_,_,_,.cons h t,h'=>.cons h (Paired.snoc t h')
theorem Paired.zip {α β:Type} {R:α -> β -> Prop}:∀ {xs:List α} {ys:List β},Paired R xs ys -> ∀ z ∈ xs.zip ys,R z.1 z.2
 | _,_,.nil,z,h=>by simp at h
 | _,_,.cons h t,z,hz=>by
  rcases List.mem_cons.mp hz with rfl | hz
  ·exact h
  ·exact Paired.zip t z hz
theorem Paired.fst {α β:Type} {R:α -> β -> Prop}:∀ {xs:List α} {ys:List β},Paired R xs ys -> (xs.zip ys).map Prod.fst=xs
 | _,_,.nil=>rfl
 | _,_,.cons h t=>by
  show _ :: (List.zip _ _).map Prod.fst=_
  rw [Paired.fst t]
theorem Paired.refs {β:Type} {G:Addr -> β -> Prop}:∀ {us:List V} {zs:List β},Paired (fun u z=>∃ p,u=.ref p /\ G p z) us zs -> ∃ as:List Addr,us=as.map V.ref /\ Paired G as zs
 | _,_,.nil=>⟨[],rfl,.nil⟩
 | _,_,.cons ⟨p,e,h⟩ t=>by
  obtain ⟨as,rfl,r⟩:=Paired.refs t
  exact ⟨p :: as,by rw [e]; rfl,.cons h r⟩
theorem Paired.mapR {α β γ:Type} {R:α -> γ -> Prop} {g:β -> γ}:∀ {xs:List α} {ys:List β},Paired (fun x y=>R x (g y)) xs ys -> Paired R xs (ys.map g)
 | _,_,.nil=>.nil
 | _,_,.cons h t=>.cons h (Paired.mapR t)
theorem lcG {K:PySem.W.Frag} {a:Addr} {β:Type} {xs:List β} {k:Nat} {σ:St} {H1:Hp} {tt:TT} {te:TE} {Q:VK} (gv:β -> V) (t:β -> Bool) (R:Addr -> β -> V -> Hp -> Prop)
  (st:∀ D x y (H H':Hp),(∀ b o,b ≠ D -> H b=some o -> H' b=some o) -> R D x y H -> R D x y H') (hk:σ.length=k) (hq:H1 a=some (.lst (xs.map gv))) (hz:xs.length <= 1000)
  (test:∀ D x ys H (post:Bool -> Hp -> Prop),H1 D=none -> x ∈ xs -> ar H1 H -> H D=some (.lst ys) -> (∀ H',ar H H' -> post (t x) H') -> tt (σ ++ [some (gv x)]) H post)
  (turn:∀ D x ys H (post:VK),H1 D=none -> x ∈ xs -> t x=true -> ar H1 H -> H D=some (.lst ys) -> (∀ y H',ar H H' -> R D x y H' -> post y H') -> te (σ ++ [some (gv x)]) H post)
  (fin:∀ D H us,H1 D=none -> ar H1 H -> H D=some (.lst us) -> Paired (fun u x=>R D x u H) us (xs.filter t) -> Q (.ref D) H):LCT 1 (dc k) tt te σ Q (Itl K a) H1:=by
 intro D hD
 refine ⟨fun i m us H=>m=xs.length - i /\ i <= xs.length /\ ar H1 H /\ H D=some (.lst us) /\ Paired (fun u x=>R D x u H) us ((xs.take i).filter t),⟨xs.length,by simp,Nat.zero_le _,ar.new hD,au,.nil⟩,?_⟩
 rintro i m us H ⟨rfl,hi,sm,hDD,hP⟩
 by_cases hlt:i < xs.length
 ·have hx:(xs.map gv)[i]?=some (gv xs[i]):=by rw [List.getElem?_map,List.getElem?_eq_getElem hlt]; rfl
  refine .inr ⟨⟨xs.map gv,gv xs[i],SqL.of (sm _ _ hq),hx⟩,fun v H' y=>?_⟩
  obtain ⟨rfl,y⟩:=y
  have hv:=y _ (SqL.of (sm _ _ hq))
  rw [hx] at hv
  cases hv
  have hm:xs[i] ∈ xs:=List.getElem_mem hlt
  have hu:us.length <= i:=by
   rw [Paired.length hP]
   refine Nat.le_trans (List.length_filter_le _ _) ?_
   rw [List.length_take]
   omega
  have e:(σ ++ List.replicate 1 (none:Option V)).set k (some (gv xs[i]))=σ ++ [some (gv xs[i])]:=by
   subst hk
   simp [List.set_append]
  unfold dc
  rw [e]
  refine ⟨⟨_,rfl,rfl⟩,test D xs[i] us _ _ hD hm sm hDD fun H3 s3=>?_⟩
  cases ht:t xs[i] with
  | true =>
   refine cW (turn D xs[i] us _ _ hD hm ht (sm.trans s3) (s3 _ _ hDD) fun y H4 s4 hR=>⟨s4 _ _ (s3 _ _ hDD),bM (by omega),xs.length - (i + 1),by omega,rfl,hlt,fun c o e=>?_,au,?_⟩)
   ·rw [aD (aA e hD)]
    exact s4 _ _ (s3 _ _ (sm _ _ e))
   ·rw [List.take_add_one,List.getElem?_eq_getElem hlt,List.filter_append]
    have ef:((some xs[i]:Option β).toList).filter t=[xs[i]]:=by simp [ht]
    rw [ef]
    exact Paired.snoc (Paired.imp' (fun u x h=>st D x u _ _ (fun b o hb e=>by rw [aD hb]; exact s4 _ _ (s3 _ _ e)) h) hP) (st D _ _ _ _ (fun b o hb e=>by rw [aD hb]; exact e) hR)
  | false =>
   refine bZ ⟨xs.length - (i + 1),by omega,rfl,hlt,sm.trans s3,s3 _ _ hDD,?_⟩
   rw [List.take_add_one,List.getElem?_eq_getElem hlt,List.filter_append]
   have ef:((some xs[i]:Option β).toList).filter t=[]:=by simp [ht]
   rw [ef,List.append_nil]
   exact Paired.imp' (fun u x h=>st D x u _ _ (fun b o _ e=>s3 _ _ e) h) hP
 ·have e:i=xs.length:=by omega
  subst e
  rw [List.take_of_length_le (Nat.le_refl _)] at hP
  exact .inl ⟨⟨xs.map gv,SqL.of (sm _ _ hq),by rw [List.length_map]; exact Nat.le_refl _⟩,fin D H us hD sm hDD hP⟩
theorem lcZF {K:PySem.W.Frag} {a b:Addr} {xs ys:List V} {g:TG} {tt:TT} {k:Nat} {σ:St} {H1:Hp} {Q:VK} (t:V -> V -> Bool) (hk:σ.length=k) (ha:H1 a=some (.lst xs)) (hb:H1 b=some (.lst ys)) (hz:xs.length <= 1000)
  (hg:∀ (p:Addr) (x y:V) (H:Hp) (R:St -> Hp -> Prop),H p=some (.tup [x,y]) -> R (σ ++ [some x,some y]) H -> g (.ref p) (σ ++ List.replicate 2 none) H R)
  (test:∀ (i:Nat) x y H (post:Bool -> Hp -> Prop),xs[i]?=some x -> ys[i]?=some y -> ar H1 H -> post (t x y) H -> tt (σ ++ [some x,some y]) H post)
  (fin:∀ D H,H1 D=none -> ar H1 H -> H D=some (.lst (((xs.zip ys).filter fun p=>t p.1 p.2).map Prod.fst)) -> Q (.ref D) H):LCT 2 g tt (tVar k) σ Q (Itz K a b) H1:=by
 have hzl:(xs.zip ys).length=min xs.length ys.length:=List.length_zip ..
 intro D hD
 refine ⟨fun i m us H=>m=(xs.zip ys).length - i /\ i <= (xs.zip ys).length /\ ar H1 H /\ H D=some (.lst us) /\ us=(((xs.zip ys).take i).filter fun p=>t p.1 p.2).map Prod.fst,⟨(xs.zip ys).length,by simp,Nat.zero_le _,ar.new hD,au,rfl⟩,?_⟩
 rintro i m us H ⟨rfl,hi,sm,hDD,rfl⟩
 by_cases hlt:i < (xs.zip ys).length
 ·have h1:i < xs.length:=by omega
  have h2:i < ys.length:=by omega
  refine .inr ⟨⟨xs,ys,xs[i],ys[i],SqL.of (sm _ _ ha),SqL.of (sm _ _ hb),by simp,by simp⟩,fun v H' y=>?_⟩
  obtain ⟨p,rfl,hp,y⟩:=y
  obtain ⟨x',y',ex,ey,rfl⟩:=y xs ys (SqL.of (sm _ _ ha)) (SqL.of (sm _ _ hb))
  have s2:=ar.new (o:=.tup [x',y']) hp
  have e1:(xs.zip ys)[i]=(x',y'):=by
   rw [List.getElem_zip]
   rw [List.getElem?_eq_getElem h1] at ex
   rw [List.getElem?_eq_getElem h2] at ey
   rw [Option.some.inj ex,Option.some.inj ey]
  refine hg p x' y' _ _ au ⟨⟨_,rfl,rfl⟩,test i x' y' _ _ ex ey (sm.trans s2) ?_⟩
  have step:(((xs.zip ys).take (i + 1)).filter fun p=>t p.1 p.2).map Prod.fst=(((xs.zip ys).take i).filter fun p=>t p.1 p.2).map Prod.fst ++ if t x' y'=true then [x'] else []:=by
   rw [List.take_add_one,List.getElem?_eq_getElem hlt,e1,List.filter_append,List.map_append]
   congr 1
   cases h:t x' y' <;> simp [h]
  cases ht:t x' y' with
  | true =>
   rw [ht] at step
   refine cW ⟨x',by subst hk; simp,s2 _ _ hDD,?_,(xs.zip ys).length - (i + 1),by omega,rfl,hlt,fun c o e=>?_,au,step.symm⟩
   ·rw [List.length_map]
    have h5:=List.length_filter_le (fun p:V × V=>t p.1 p.2) ((xs.zip ys).take i)
    rw [List.length_take] at h5
    exact bM (by omega)
   ·rw [aD (aA e hD)]
    exact s2 _ _ (sm _ _ e)
  | false =>
   rw [ht] at step
   refine bZ ⟨(xs.zip ys).length - (i + 1),by omega,rfl,hlt,sm.trans s2,s2 _ _ hDD,?_⟩
   rw [step]
   simp
 ·have e:i=(xs.zip ys).length:=by omega
  subst e
  rw [List.take_length] at hDD
  exact .inl ⟨⟨xs,ys,SqL.of (sm _ _ ha),SqL.of (sm _ _ hb),hzl⟩,fin D H hD sm hDD⟩
end L2
namespace K28
open PySem L2
def cZ (n t:Int) (vs cs ls:List Str) (ps:List (Str × Int)) (qs:List (Str × Int × Option Int)):List (List Str) :=
 [Str.ofString "stand",aR n,aR t] :: bw vs cs ls :: (ps.map heW ++ qs.map asW)
theorem bW:Str.ofString " "=⟨#[32]⟩:=by decide +kernel
theorem eA:Str.ofString "\n"=⟨#[10]⟩:=by decide +kernel
theorem tj2 (c:Nat) (p q:Str) (r:List Str):(Txt.join ⟨#[c]⟩ (p :: q :: r)).cps.toList=p.cps.toList ++ c :: (Txt.join ⟨#[c]⟩ (q :: r)).cps.toList:=by
 rw [show Txt.join ⟨#[c]⟩ (p :: q :: r)=Str.join ⟨#[c]⟩ (p :: q :: r) from StrLaws.glued_eq_join _ _,show Txt.join ⟨#[c]⟩ (q :: r)=Str.join ⟨#[c]⟩ (q :: r) from StrLaws.glued_eq_join _ _,dW]
theorem tj1 (c:Nat) (p:Str):Txt.join ⟨#[c]⟩ [p]=p:=by
 rw [show Txt.join ⟨#[c]⟩ [p]=Str.join ⟨#[c]⟩ [p] from StrLaws.glued_eq_join _ _]
 rfl
theorem aM (a b:Str):(a ++ b).cps.toList=a.cps.toList ++ b.cps.toList:=by simp [Str.cps_append]
theorem eN:Str.empty.cps.toList=[]:=rfl
theorem ci:(Str.ofString " ").cps.toList=[32]:=by decide +kernel
theorem st_cps:(Str.ofString "stand ").cps.toList=(Str.ofString "stand").cps.toList ++ [32]:=by decide +kernel
theorem kj:(Str.ofString "held ").cps.toList=(Str.ofString "held").cps.toList ++ [32]:=by decide +kernel
theorem ol:(Str.ofString "asked ").cps.toList=(Str.ofString "asked").cps.toList ++ [32]:=by decide +kernel
theorem st_eq (n t:Int):stS n t=Txt.join (Str.ofString " ") [Str.ofString "stand",aR n,aR t]:=by
 refine bU ?_
 rw [bW,tj2,tj2,tj1]
 unfold stS
 simp only [aM,eN,ci,st_cps,List.nil_append,List.append_assoc,List.cons_append]
theorem he_eq (p:Str × Int):heS p.1 p.2=Txt.join (Str.ofString " ") (heW p):=by
 refine bU ?_
 unfold heW
 rw [bW,tj2,tj2,tj1]
 unfold heS
 simp only [aM,eN,ci,kj,List.nil_append,List.append_assoc,List.cons_append]
theorem as_eq (p:Str × Int × Option Int):asS p.1 p.2.1 p.2.2=Txt.join (Str.ofString " ") (asW p):=by
 refine bU ?_
 unfold asW
 rw [bW,tj2,tj2,tj2,tj1]
 unfold asS
 simp only [aM,eN,ci,ol,List.nil_append,List.append_assoc,List.cons_append]
theorem gn (n t:Int) (vs cs ls:List Str) (ps:List (Str × Int)) (qs:List (Str × Int × Option Int)):bS n t vs cs ls ps qs=(cZ n t vs cs ls ps qs).map (Txt.join (Str.ofString " ")):=by
 unfold bS cZ
 rw [List.map_cons,List.map_cons,List.map_append,List.map_map,List.map_map,st_eq]
 rw [List.map_congr_left (fun p _=>he_eq p),List.map_congr_left (fun p _=>as_eq p)]
 rfl
def Fr (x:Str):Prop:=32 ∉ x.cps.toList /\ 10 ∉ x.cps.toList
theorem Nm.fr {x:Str} (h:Nm x):Fr x:=⟨fun e=>absurd (h.2.2 _ e).1 (by decide),fun e=>absurd (h.2.2 _ e).1 (by decide)⟩
theorem gX (n:Int):Fr (aR n):=⟨jx (by decide) (.inl (by decide)),jx (by decide) (.inl (by decide))⟩
theorem fr_ans:∀ a:Option Int,Fr (fV a)
 | some n=>gX n
 | none=>⟨by decide +kernel,by decide +kernel⟩
theorem on (s:Str) (h:decide (32 ∉ s.cps.toList /\ 10 ∉ s.cps.toList)=true):Fr s:=of_decide_eq_true (p:=32 ∉ s.cps.toList /\ 10 ∉ s.cps.toList) h
theorem gp {n t:Int} {vs cs ls:List Str} {ps:List (Str × Int)} {qs:List (Str × Int × Option Int)} (G:ij n t vs cs ls ps qs):∀ ws ∈ cZ n t vs cs ls ps qs,ws ≠ [] /\ (∀ x ∈ ws,Fr x):=by
 intro ws h
 unfold cZ at h
 rcases List.mem_cons.mp h with rfl | h
 ·refine ⟨by simp,fun x hx=>?_⟩
  simp only [List.mem_cons,List.not_mem_nil,or_false] at hx
  rcases hx with rfl | rfl | rfl
  ·exact on _ (by decide +kernel)
  ·exact gX _
  ·exact gX _
 rcases List.mem_cons.mp h with rfl | h
 ·refine ⟨by unfold bw; simp,fun x hx=>?_⟩
  unfold bw at hx
  have hsl:Fr SL:=on _ (by decide +kernel)
  rcases List.mem_cons.mp hx with rfl | hx
  ·exact on _ (by decide +kernel)
  rcases List.mem_append.mp hx with hx | hx
  ·exact (G.nv x hx).fr
  rcases List.mem_cons.mp hx with rfl | hx
  ·exact hsl
  rcases List.mem_append.mp hx with hx | hx
  ·exact (G.nc x hx).fr
  rcases List.mem_cons.mp hx with rfl | hx
  ·exact hsl
  ·exact (G.nl x hx).fr
 rcases List.mem_append.mp h with h | h
 ·obtain ⟨p,hp,rfl⟩:=List.mem_map.mp h
  refine ⟨by unfold heW; simp,fun x hx=>?_⟩
  unfold heW at hx
  simp only [List.mem_cons,List.not_mem_nil,or_false] at hx
  rcases hx with rfl | rfl | rfl
  ·exact on _ (by decide +kernel)
  ·exact (G.np p hp).fr
  ·exact gX _
 ·obtain ⟨p,hp,rfl⟩:=List.mem_map.mp h
  refine ⟨by unfold asW; simp,fun x hx=>?_⟩
  unfold asW at hx
  simp only [List.mem_cons,List.not_mem_nil,or_false] at hx
  rcases hx with rfl | rfl | rfl | rfl
  ·exact on _ (by decide +kernel)
  ·exact (G.nq p hp).fr
  ·exact gX _
  ·exact fr_ans _
theorem fG {c d:Nat} (hcd:c ≠ d):∀ {ys:List Str},(∀ p ∈ ys,c ∉ p.cps.toList) -> c ∉ (Txt.join ⟨#[d]⟩ ys).cps.toList
 | [],_=>by rw [show Txt.join ⟨#[d]⟩ []=Str.join ⟨#[d]⟩ [] from StrLaws.glued_eq_join _ _]; exact List.not_mem_nil
 | [y],h=>by rw [tj1]; exact h y (List.mem_cons_self ..)
 | y :: z :: r,h=>by
  rw [tj2]
  intro e
  rcases List.mem_append.mp e with e | e
  ·exact h y (List.mem_cons_self ..) e
  rcases List.mem_cons.mp e with e | e
  ·exact hcd e
  ·exact fG hcd (fun p hp=>h p (List.mem_cons_of_mem _ hp)) e
theorem ms {n t:Int} {vs cs ls:List Str} {ps:List (Str × Int)} {qs:List (Str × Int × Option Int)} (G:ij n t vs cs ls ps qs) {ws:List Str} (h:ws ∈ cZ n t vs cs ls ps qs):Txt.split (Txt.join (Str.ofString " ") ws) (Str.ofString " ")=ws:=by
 rw [bW]
 exact cQ (gp G ws h).1 fun p hp=>((gp G ws h).2 p hp).1
theorem cT {n t:Int} {vs cs ls:List Str} {ps:List (Str × Int)} {qs:List (Str × Int × Option Int)} (G:ij n t vs cs ls ps qs):Txt.split (Txt.join (Str.ofString "\n") (bS n t vs cs ls ps qs)) (Str.ofString "\n")=bS n t vs cs ls ps qs:=by
 rw [eA]
 refine cQ (by unfold bS; simp) fun p hp=>?_
 rw [gn] at hp
 obtain ⟨ws,hw,rfl⟩:=List.mem_map.mp hp
 rw [bW]
 exact fG (by decide) fun x hx=>((gp G ws hw).2 x hx).2
theorem ii.at' {H:Hp} {b:Addr} {vs cs ls:List Str} (h:ii vs cs ls) (e:BnT H b vs cs ls):ei H b vs cs ls:=⟨e,h.vr,h.cr,h.lr,h.v1,h.v7,h.c7,h.l4,h.apart⟩
theorem ou {n t:Int} {vs cs ls:List Str} {ps:List (Str × Int)} {qs:List (Str × Int × Option Int)} (G:ij n t vs cs ls ps qs) (B:ii vs cs ls):∀ z ∈ bS n t vs cs ls ps qs,z.length <= 1000:=by
 have k0:Str.empty.length=0:=rfl
 have k1:(Str.ofString "stand ").length=6:=by decide +kernel
 have k2:(Str.ofString " ").length=1:=by decide +kernel
 have k3:(Str.ofString "held ").length=5:=by decide +kernel
 have hnl:=bj G.nb
 have htl:=bj G.tb
 have hbs:=fF (i0 G.nv G.nc G.nl)
 have hbl:=dH vs cs ls
 have hjl:=gF (Str.ofString " ") (bw vs cs ls)
 rw [k2] at hjl
 have b1:=B.v7
 have b2:=B.c7
 have b3:=B.l4
 intro z hz
 unfold bS at hz
 rcases List.mem_append.mp hz with hz | hz
 ·rcases List.mem_append.mp hz with hz | hz
  ·simp only [List.mem_cons,List.not_mem_nil,or_false] at hz
   rcases hz with rfl | rfl
   ·simp only [stS,Str.length_append,k0,k1,k2]
    omega
   ·omega
  ·obtain ⟨y,hy,rfl⟩:=List.mem_map.mp hz
   have y8:=(G.np y hy).2.1
   have yl:=bj (G.pb y hy)
   simp only [heS,Str.length_append,k0,k3,k2]
   omega
 ·obtain ⟨y,hy,rfl⟩:=List.mem_map.mp hz
  have y8:=(G.nq y hy).2.1
  have yl:=bj (G.qb y hy).1
  have al:(fV y.2.2).length <= 101:=by
   cases hy2:y.2.2 with
   | none=>show (Str.ofString "-").length <= 101; decide +kernel
   | some m=>exact bj ((G.qb y hy).2 m hy2)
  have k6:(Str.ofString "asked ").length=6:=by decide +kernel
  simp only [asS,Str.length_append,k0,k6,k2]
  omega
theorem wlen {n t:Int} {vs cs ls:List Str} {ps:List (Str × Int)} {qs:List (Str × Int × Option Int)} (B:ii vs cs ls) {ws:List Str} (h:ws ∈ cZ n t vs cs ls ps qs):ws.length <= 50:=by
 have b1:=B.v7
 have b2:=B.c7
 have b3:=B.l4
 have hbl:=dH vs cs ls
 unfold cZ at h
 rcases List.mem_cons.mp h with rfl | h
 ·exact (show 3 <= 50 by decide)
 rcases List.mem_cons.mp h with rfl | h
 ·omega
 rcases List.mem_append.mp h with h | h
 ·obtain ⟨p,hp,rfl⟩:=List.mem_map.mp h
  exact (show 3 <= 50 by decide)
 ·obtain ⟨p,hp,rfl⟩:=List.mem_map.mp h
  exact (show 4 <= 50 by decide)
abbrev sLB:Stmt:=top 46
abbrev nLB:List Str:=["_law_row","_law_names_here","_law_voters","_law_coming","_law_taken","_law_learners"]
def spLB (K:PySem.W.Frag):Sp:=fun us H Q _=>∃ (r n:Addr) (ds:List Int) (ns:List Str),us=[.ref r,.ref n] /\ H r=some (.lst (ds.map V.int)) /\ H n=some (.lst (ns.map V.str)) /\ ds.length=13 /\ ns.length=12 /\ ns.Pairwise ltS /\ (∀ x ∈ ns,Nm x) /\
 ∀ (b:Addr) (H':Hp) (vs cs ls:List Str),ar H H' -> BnT H' b vs cs ls -> ii vs cs ls -> Nms vs cs ls -> Q (.ref b) H'
theorem gY {ns:List Str} {ds:List Int} (t:V -> V -> Bool) (h:ns.length <= ds.length):∃ zs:List Str,(((ns.map V.str).zip (ds.map V.int)).filter fun p=>t p.1 p.2).map Prod.fst=zs.map V.str /\ zs.Sublist ns /\ ∀ z ∈ zs,∃ d:Int,t (.str z) (.int d)=true:=by
 have h1:((((ns.map V.str).zip (ds.map V.int)).filter fun p=>t p.1 p.2).map Prod.fst).Sublist (ns.map V.str):=by
  refine (List.Sublist.map Prod.fst List.filter_sublist).trans ?_
  rw [List.map_fst_zip (by rw [List.length_map,List.length_map]; exact h)]
  exact List.Sublist.refl _
 obtain ⟨zs,hz,e⟩:=List.sublist_map_iff.mp h1
 refine ⟨zs,e,hz,fun z hz'=>?_⟩
 have hm:V.str z ∈ zs.map V.str:=List.mem_map_of_mem hz'
 rw [<- e] at hm
 obtain ⟨⟨x,y⟩,hp,rfl⟩:=List.mem_map.mp hm
 have h2:=List.mem_filter.mp hp
 obtain ⟨d,_,rfl⟩:=List.mem_map.mp (List.of_mem_zip h2.1).2
 exact ⟨d,h2.2⟩
theorem cutT (ys:List Str) (k:Nat):bB (ys.map V.str) none (some (k:Int))=(ys.take k).map V.str:=by
 unfold bB
 rw [HT.dz,HT.bY,List.length_map,List.drop_zero,Nat.sub_zero,<- List.map_take]
 by_cases h:k <= ys.length
 ·rw [Nat.min_eq_left h]
 ·rw [Nat.min_eq_right (by omega),List.take_of_length_le (Nat.le_refl _),List.take_of_length_le (by omega)]
theorem bT {ds:List Int} {i:Nat} (h:i < ds.length):atI (ds.map V.int) (i:Int)=some (.int (ds.getD i 0)):=iZ h
theorem dS (zs:List Str):(zs.map V.str).all cO=true:=by
 rw [List.all_eq_true]
 intro v hv
 obtain ⟨z,_,rfl⟩:=List.mem_map.mp hv
 rfl
theorem ov {z:Str} {zs:List Str} (h:(!inV (.str z) (zs.map V.str))=true):z ∉ zs:=by
 intro hz
 have:inV (.str z) (zs.map V.str)=true:=by
  unfold inV
  rw [List.any_eq_true]
  exact ⟨_,List.mem_map_of_mem hz,by simp [eqV]⟩
 rw [this] at h
 exact absurd h (by decide)
section
variable {P:Program} {w:World} {K:PySem.W.Frag} {mg:Str -> Option Value} {base:Heap}
theorem scLB:aN nLB ["_law_row","_law_names_here"] (ai sLB):=fsc (by decide +kernel)
theorem iD:(nLB ++ (["_law_name","_law_digit"]:List Str)).Nodup:=by decide +kernel
theorem ok_lb {f:Addr} {fd:FuncData} (F:Fun K "_law_bench" "_law_bench" sLB f fd) (B:Blt mg) (T:Bl2 mg):bG P w K mg base CX0 1 f fd ["_law_row","_law_names_here"] (spLB K):=by
 refine F.ok scLB (fun us H Q E h=>?_) (fun cdv A outer s H us Q E hr h=>?_)
 ·obtain ⟨r,n,ds,ns,rfl,_⟩:=h
  rfl
 ·obtain ⟨r,n,ds,ns,rfl,hr0,hn0,hdl,hnl,hns,hnm,q⟩:=h
  have nd:=scLB.nd
  have hu:=Nat.lt_of_le_of_lt (Nat.add_le_add_left (show 1 <= 64 by decide) _) hr.units
  refine ⟨_,ag (aw (i:=2) nd rfl (Or.inl rfl) (aG bO (b8 nLB nLB ["_law_name","_law_digit"] (ai sLB) rfl rfl rfl (by decide +kernel) rfl rfl (by decide +kernel) (by decide +kernel) (by decide +kernel) (by decide +kernel)
     (j0 (by rfl) T.zip (aa (pv 1) (aa (pv 0) af))) (fun _ _ _ _ _=>dU (n:=2) rfl (aX (aH (i:=6) iD rfl (Or.inl rfl)) (aX (aH (i:=7) iD rfl (Or.inl rfl)) cG)))
     (fun _ _ _ _ _=>fZ (aE bK (aj aS (pv 7) ac) ac (aC _))) (fun _ _ _ _ _=>pv 6)) aV (aI ac))) <|
   ag (iX (be (aE (mV hu) (pv 2) (aJ af) (aC _)) (am (aw (i:=2) nd rfl (Or.inl rfl) (aJ (aa (aB ay (pv 1) (aj aS (aj bx (aB ay (pv 0) ac (fun _ _=>rfl)) ac) ac) (fun _ _=>rfl)) af)))) aQ)) <|
   ag (aw (i:=3) nd rfl (Or.inl rfl) (aJ af)) <|
   ag (iX (be (aE bK (aj aS (aB ay (pv 0) ac (fun _ _=>rfl)) ac) ac (aC _)) (am (aw (i:=3) nd rfl (Or.inl rfl) (aG bO (b8 nLB nLB ["_law_name","_law_digit"] (ai sLB) rfl rfl rfl (by decide +kernel) rfl rfl (by decide +kernel) (by decide +kernel) (by decide +kernel) (by decide +kernel)
     (j0 (by rfl) T.zip (aa (pv 1) (aa (pv 0) af))) (fun _ _ _ _ _=>dU (n:=2) rfl (aX (aH (i:=6) iD rfl (Or.inl rfl)) (aX (aH (i:=7) iD rfl (Or.inl rfl)) cG)))
     (fun _ _ _ _ _=>fZ (aE bK (aj aS (aj bx (pv 7) ac) ac) ac (aC _))) (fun _ _ _ _ _=>pv 6)) aV (aI ac)))) aQ)) <|
   ag (aw (i:=4) nd rfl (Or.inr rfl) (pv 3)) <|
   ag (iX (be (aE (mV hu) (pv 3) (aJ af) (aC _)) (am (aw (i:=4) nd rfl (Or.inr rfl) (pv 2))) aQ)) <|
   ag (aw (i:=5) nd rfl (Or.inl rfl) (aG bO (b8 nLB nLB ["_law_name","_law_digit"] (ai sLB) rfl rfl rfl (by decide +kernel) rfl rfl (by decide +kernel) (by decide +kernel) (by decide +kernel) (by decide +kernel)
     (j0 (by rfl) T.zip (aa (pv 1) (aa (pv 0) af))) (fun _ _ _ _ _=>dU (n:=2) rfl (aX (aH (i:=6) iD rfl (Or.inl rfl)) (aX (aH (i:=7) iD rfl (Or.inl rfl)) cG)))
     (fun _ _ _ _ _=>fZ (PW.pt (jT (aE bK (aj aS (aj bx (pv 7) ac) ac) ac (aC _)) (iQ (aE ig (pv 6) (pv 4) (by rfl)))))) (fun _ _ _ _ _=>pv 6)) aV (aI ac))) <|
   am (aF (b9 (aa (aT bh (by rfl) B.tuple cg (aa (pv 2) af)) (aa (aT bh (by rfl) B.tuple cg (aa (pv 3) af)) (aa (aT bh (by rfl) B.tuple cg (aa (pv 5) af)) af))))),?_⟩
  have hs16:sizeLine=16777216:=sizeLine_eq
  have hzl:(ns.map V.str).length <= 1000:=by rw [List.length_map]; omega
  have hle:ns.length <= ds.length:=by omega
  have hmem:∀ {i:Nat} {x y:V} , (ns.map V.str)[i]?=some x -> (ds.map V.int)[i]?=some y -> ∃ (z:Str) (d:Int),x=.str z /\ y=.int d:=by
   intro i x y hx hy
   obtain ⟨z,_,rfl⟩:=List.mem_map.mp (List.mem_of_getElem? hx)
   obtain ⟨d,_,rfl⟩:=List.mem_map.mp (List.mem_of_getElem? hy)
   exact ⟨z,d,rfl,rfl⟩
  have sub_ok:∀ {zs:List Str},zs.Sublist ns -> zs.Pairwise ltS /\ ∀ x ∈ zs,Nm x:=fun h=>⟨hns.sublist h,fun x hx=>hnm x (h.subset hx)⟩
  refine ⟨_,rfl,_,rfl,n,r,_,_,rfl,SqL.of hn0,SqL.of hr0,?_⟩
  refine lcZF (fun _ y=>match y with | .int d=>decide (V.int (d % 3)=V.int 1) | _=>false) rfl hn0 hr0 hzl (fun p x y Hx R hp hR=>⟨p,_,rfl,SqT.of hp,rfl,_,[_],rfl,_,[],rfl,rfl,hR⟩) (fun i x y Hx post hx hy sx hpost=>?_) (fun D1 H1 hD1 s1 e1=>?_)
  ·obtain ⟨z,d,rfl,rfl⟩:=hmem hx hy
   exact ⟨_,rfl,_,_,rfl,rfl,(by dsimp only; decide),rfl,_,rfl,hpost⟩
  obtain ⟨zs,ez,hsub,_⟩:=gY (fun _ y=>match y with | .int d=>decide (V.int (d % 3)=V.int 1) | _=>false) hle
  rw [ez] at e1
  refine ⟨_,rfl,D1,_,rfl,SqL.of e1,fun l2 hl2=>?_⟩
  have k7:bB (zs.map V.str) none (some 7)=(zs.take 7).map V.str:=cutT zs 7
  rw [k7]
  have s2:ar H _:=s1.trans (ar.new (o:=.lst ((zs.take 7).map V.str)) hl2)
  refine ⟨fun σ' H'=>∃ (v:Addr) (vs:List Str),σ'=[some (.ref r),some (.ref n),some (.ref v),none,none,none] /\ ar H H' /\ H' v=some (.lst (vs.map V.str)) /\ vs.Sublist ns /\ 1 <= vs.length /\ vs.length <= 7,?_,?_⟩
  ·refine ⟨_,rfl,Nat.zero_le _,fun p3 H3 hp3 s3 e3=>?_⟩
   have e2':=s3 _ _ (au (H:=H1) (a:=l2) (o:=.lst ((zs.take 7).map V.str)))
   refine ⟨l2,p3,_,rfl,rfl,SqL.of e2',SqL.of e3,_,rfl,?_⟩
   refine bz (fun hz=>?_) (fun hz=>?_)
   ·have hm:0 <= (ds.getD 0 0 / 18 % 12) /\ (ds.getD 0 0 / 18 % 12) < 12:=⟨Int.emod_nonneg _ (by decide),Int.emod_lt_of_pos _ (by decide)⟩
    obtain ⟨j,hj⟩:∃ j:Nat,ds.getD 0 0 / 18 % 12=(j:Int):=⟨(ds.getD 0 0 / 18 % 12).toNat,by omega⟩
    have hjl:j < ns.length:=by omega
    have s23:=s2.trans s3
    refine ⟨_,rfl,_,rfl,r,_,_,_,rfl,rfl,SqL.of (s23 _ _ hr0),bT (i:=0) (by omega),_,_,rfl,rfl,⟨by decide,by decide⟩,_,_,rfl,rfl,(by dsimp only; decide),n,_,_,_,rfl,rfl,SqL.of (s23 _ _ hn0),(show atI (ns.map V.str) (ds.getD 0 0 / 18 % 12)=some (.str ns[j]) from by rw [hj]; exact ba (by rw [List.getElem?_map,List.getElem?_eq_getElem hjl]; rfl)),(show 1 <= sizeLine by omega),fun p4 H4 hp4 s4 e4=>?_⟩
    exact ⟨p4,[ns[j]],rfl,s23.trans s4,e4,List.singleton_sublist.mpr (List.getElem_mem hjl),Nat.le_refl _,(show 1 <= 7 by decide)⟩
   ·refine ⟨l2,zs.take 7,rfl,s2.trans s3,e2',(List.take_sublist _ _).trans hsub,?_,by rw [List.length_take]; omega⟩
    cases h:zs.take 7 with
    | nil=>rw [h] at hz; exact absurd rfl hz
    | cons a b=>simp
  rintro σ' Hv ⟨v,vs,rfl,sv,ev,vsub,v1,v7⟩
  refine ⟨Nat.zero_le _,fun p5 H5 hp5 s5 e5=>?_⟩
  have s05:=sv.trans s5
  refine ⟨fun σ' H'=>∃ (c:Addr) (cs:List Str),σ'=[some (.ref r),some (.ref n),some (.ref v),some (.ref c),none,none] /\ ar H5 H' /\ H' c=some (.lst (cs.map V.str)) /\ cs.Sublist ns /\ cs.length <= 7,?_,?_⟩
  ·refine ⟨_,rfl,r,_,_,_,rfl,rfl,SqL.of (s05 _ _ hr0),bT (i:=12) (by omega),_,_,rfl,rfl,(by dsimp only; decide),rfl,_,rfl,?_⟩
   refine bz (fun _=>?_) (fun _=>⟨p5,[],rfl,ar.refl _,e5,List.nil_sublist _,by decide⟩)
   refine ⟨_,rfl,_,rfl,n,r,_,_,rfl,SqL.of (s05 _ _ hn0),SqL.of (s05 _ _ hr0),?_⟩
   refine lcZF (fun _ y=>match y with | .int d=>decide (V.int (d / 3 % 2)=V.int 1) | _=>false) rfl (s05 _ _ hn0) (s05 _ _ hr0) hzl (fun p x y Hx R hp hR=>⟨p,_,rfl,SqT.of hp,rfl,_,[_],rfl,_,[],rfl,rfl,hR⟩) (fun i x y Hx post hx hy sx hpost=>?_) (fun D6 H6 hD6 s6 e6=>?_)
   ·obtain ⟨z,d,rfl,rfl⟩:=hmem hx hy
    exact ⟨_,rfl,_,_,rfl,rfl,⟨by decide,by decide⟩,_,_,rfl,rfl,(by dsimp only; decide),rfl,_,rfl,hpost⟩
   obtain ⟨ys,ey,ysub,_⟩:=gY (fun _ y=>match y with | .int d=>decide (V.int (d / 3 % 2)=V.int 1) | _=>false) hle
   rw [ey] at e6
   refine ⟨_,rfl,D6,_,rfl,SqL.of e6,fun l7 hl7=>?_⟩
   have k7:bB (ys.map V.str) none (some 7)=(ys.take 7).map V.str:=cutT ys 7
   rw [k7]
   exact ⟨l7,ys.take 7,rfl,s6.trans (ar.new hl7),au,(List.take_sublist _ _).trans ysub,by rw [List.length_take]; omega⟩
  rintro σ' H7 ⟨c,cs,rfl,s7,ec,csub,c7⟩
  refine ⟨_,rfl,?_⟩
  have s57:=s05.trans s7
  have ev7:=s7 _ _ (s5 _ _ ev)
  refine ⟨fun σ' H'=>∃ (k:Addr),σ'=[some (.ref r),some (.ref n),some (.ref v),some (.ref c),some (.ref k),none] /\ ar H7 H' /\ H' k=some (.lst ((if cs=[] then vs else cs).map V.str)),?_,?_⟩
  ·refine ⟨_,rfl,Nat.zero_le _,fun p8 H8 hp8 s8 e8=>?_⟩
   refine ⟨c,p8,_,rfl,rfl,SqL.of (s8 _ _ ec),SqL.of e8,_,rfl,?_⟩
   cases cs with
   | nil=>exact cW ⟨_,rfl,v,rfl,s8,s8 _ _ ev7⟩
   | cons a b=>exact bZ ⟨c,rfl,s8,s8 _ _ ec⟩
  rintro σ' H9 ⟨k,rfl,s9,ek⟩
  have s09:=s57.trans s9
  refine ⟨_,rfl,_,rfl,n,r,_,_,rfl,SqL.of (s09 _ _ hn0),SqL.of (s09 _ _ hr0),?_⟩
  refine lcZF (fun x y=>match y with | .int d=>decide (V.int (d / 6 % 3)=V.int 1) && !inV x ((if cs=[] then vs else cs).map V.str) | _=>false) rfl (s09 _ _ hn0) (s09 _ _ hr0) hzl (fun p x y Hx R hp hR=>⟨p,_,rfl,SqT.of hp,rfl,_,[_],rfl,_,[],rfl,rfl,hR⟩) (fun i x y Hx post hx hy sx hpost=>?_) (fun D10 H10 hD10 s10 e10=>?_)
  ·obtain ⟨z,d,rfl,rfl⟩:=hmem hx hy
   refine ⟨_,rfl,_,_,rfl,rfl,⟨by decide,by decide⟩,_,_,rfl,rfl,(by dsimp only; decide),rfl,_,rfl,?_⟩
   cases hd:decide (V.int (d / 6 % 3)=V.int 1) with
   | false =>
    simp only [hd,Bool.false_and] at hpost
    exact bZ hpost
   | true =>
    simp only [hd,Bool.true_and] at hpost
    exact cW ⟨_,rfl,_,rfl,k,_,rfl,.inl (SqL.of (sx _ _ ek)),rfl,dS _,_,rfl,hpost⟩
  obtain ⟨ws,ew,wsub,wap⟩:=gY (fun x y=>match y with | .int d=>decide (V.int (d / 6 % 3)=V.int 1) && !inV x ((if cs=[] then vs else cs).map V.str) | _=>false) hle
  rw [ew] at e10
  refine ⟨_,rfl,D10,_,rfl,SqL.of e10,fun l11 hl11=>?_⟩
  have k4:bB (ws.map V.str) none (some 4)=(ws.take 4).map V.str:=cutT ws 4
  rw [k4]
  have s11:=s10.trans (ar.new (o:=.lst ((ws.take 4).map V.str)) hl11)
  have ev11:=s11 _ _ (s9 _ _ ev7)
  have ec11:=s11 _ _ (s9 _ _ ec)
  refine ⟨_,rfl,v,_,rfl,SqL.of ev11,fun t1 G1 ht1 q1 g1=>?_⟩
  refine ⟨_,rfl,c,_,rfl,SqL.of (q1 _ _ ec11),fun t2 G2 ht2 q2 g2=>?_⟩
  refine ⟨_,rfl,l11,_,rfl,SqL.of (q2 _ _ (q1 _ _ au)),fun t3 G3 ht3 q3 g3=>⟨(show 3 <= sizeLine by omega),fun b G4 hb q4 g4=>?_⟩⟩
  refine q b G4 vs cs (ws.take 4) (s09.trans (s11.trans (q1.trans (q2.trans (q3.trans q4))))) ⟨t1,t2,t3,g4,q4 _ _ (q3 _ _ (q2 _ _ g1)),q4 _ _ (q3 _ _ g2),q4 _ _ g3⟩ ?_ ⟨(sub_ok vsub).2,(sub_ok csub).2,(sub_ok ((List.take_sublist _ _).trans wsub)).2⟩
  refine ⟨(sub_ok vsub).1,(sub_ok csub).1,(sub_ok ((List.take_sublist _ _).trans wsub)).1,v1,v7,c7,by rw [List.length_take]; omega,fun x hx=>?_⟩
  obtain ⟨d,hd⟩:=wap x (List.mem_of_mem_take hx)
  exact ov (Bool.and_eq_true_iff.mp hd).2
end
abbrev sLS:Stmt:=top 47
abbrev nLS:List Str:=["_law_script","_law_cell","_law_houses","_law_bench_here","_law_place","_law_term","_law_keys","_law_askers","_law_held","_law_asked","_law_k","_law_row","_law_number_here","_law_answer"]
def spLS (K:PySem.W.Frag):Sp:=fun us H Q _=>∃ (a:Addr) (ns:List Int),us=[.ref a] /\ SqL K H a (ns.map V.int) /\
 ∀ (p:Addr) (H':Hp) (n t:Int) (vs cs ls:List Str) (ps:List (Str × Int)) (qs:List (Str × Int × Option Int)),ar H H' -> StAt H' p n t vs cs ls ps qs -> ij n t vs cs ls ps qs -> ii vs cs ls -> ps.length <= 24 -> qs.length <= 24 -> Q (.ref p) H'
theorem la:bootBuiltins "sorted"=some (.builtin "sorted"):=by decide +kernel
theorem bMinS:bootBuiltins "min"=some (.builtin "min"):=by decide +kernel
theorem pick2b (x y:Int) (c:Bool):∃ z:Int,atI [V.int x,V.int y] (if c=true then (1:Int) else 0)=some (.int z) /\ (z=x \/ z=y):=by
 cases c
 ·exact ⟨x,rfl,.inl rfl⟩
 ·exact ⟨y,rfl,.inr rfl⟩
theorem i6 (x y c:Int):∃ z:Int,atI [V.int x,V.int y] (c % 2)=some (.int z) /\ (z=x \/ z=y):=by
 rcases Int.emod_two_eq c with h | h
 ·exact ⟨x,by rw [h]; rfl,.inl rfl⟩
 ·exact ⟨y,by rw [h]; rfl,.inr rfl⟩
theorem ow (x:Int) (c:Bool):∃ o:Option Int,atI [V.int x,V.non] (if c=true then (1:Int) else 0)=some (mo o) /\ ∀ m,o=some m -> m=x:=by
 cases c
 ·exact ⟨some x,rfl,fun m h=>(Option.some.inj h).symm⟩
 ·exact ⟨none,rfl,fun m h=>(nomatch h)⟩
theorem cB {ys:List Str} (h:∀ (i j:Nat) (y:Str),ys[i]?=some y -> ys[j]?=some y -> i=j):ys.Nodup:=by
 refine List.pairwise_iff_getElem.mpr fun i j hi hj hij e=>?_
 have:=h i j ys[i] (List.getElem?_eq_getElem hi) (by rw [List.getElem?_eq_getElem hj,e])
 omega
theorem pow59:(10:Int) ^ (59:Int).toNat=100000000000000000000000000000000000000000000000000000000000:=by decide +kernel
theorem kq:(10:Nat) ^ 100=10000000000000000000000000000000000000000000000000000000000000000000000000000000000000000000000000000:=by decide +kernel
theorem jD {c d:Int} (h:d=9 \/ d=(10:Int) ^ (59:Int).toNat):0 < d /\ 1 <= 1 + c % d /\ (1 + c % d).natAbs < 10 ^ 100:=by
 rw [pow59] at h
 have h0:0 < d:=by omega
 have h1:=Int.emod_nonneg c (show d ≠ 0 by omega)
 have h2:=Int.emod_lt_of_pos c h0
 rw [kq]
 omega
theorem oy {z d:Int} (hz:z.natAbs < 10 ^ 60) (h:d=1 \/ d=(10:Int) ^ (40:Int).toNat):IntMulOk z d /\ (z * d).natAbs < 10 ^ 100:=by
 have e4:(10:Int) ^ (40:Int).toNat=10000000000000000000000000000000000000000:=by decide +kernel
 have e6:(10:Nat) ^ 60=1000000000000000000000000000000000000000000000000000000000000:=by decide +kernel
 constructor
 ·refine IntMulOk.of_bits ?_ ?_
  ·unfold Builtin.Int.intBits
   split
   ·exact Nat.zero_le _
   ·have:=cD (n:=z) (Nat.lt_of_lt_of_le hz (Nat.pow_le_pow_right (by decide) (by decide)))
    have h20:(2:Nat) ^ 20=1048576:=by decide
    omega
  ·rcases h with rfl | rfl
   ·decide +kernel
   ·decide +kernel
 ·rw [Int.natAbs_mul,kq]
  rw [e6] at hz
  rcases h with rfl | rfl
  ·simp
   omega
  ·rw [e4]
   show z.natAbs * 10000000000000000000000000000000000000000 < _
   omega
theorem jE {r d:Int} (h0:0 <= r) (h1:r < 1080) (h:d=1 \/ d=(10:Int) ^ (50:Int).toNat):1 <= 1 + r * d /\ (1 + r * d).natAbs < 10 ^ 100:=by
 have e5:(10:Int) ^ (50:Int).toNat=100000000000000000000000000000000000000000000000000:=by decide +kernel
 rw [kq]
 rcases h with rfl | rfl
 ·omega
 ·rw [e5]
  omega
theorem Rows.updL {H:Hp} {d:Addr} {m:List V} {o:HO} {as:List Addr} {rs:List (List V)} (h:Rows H as rs) (e:H d=some (.lst m)):Rows (upd H d o) as rs :=
 Paired.imp' (fun a r q=>by rw [aD (mG q e (by intro z; cases z))]; exact q) h
theorem cut3 {ds:List Int} (h:3 <= ds.length):bB (ds.map V.int) (some 3) none=(ds.drop 3).map V.int:=by
 have:=nY (ys:=ds.map V.int) (a:=3) (by rw [List.length_map]; exact h)
 rw [<- List.map_drop] at this
 exact this
theorem iE {α:Type} {zs:List α} {k:Nat} {z:α} (h:zs[k]?=some z):zs.take k ++ [z]=zs.take (k + 1):=by
 rw [List.take_add_one,h]
 rfl
structure gZ (H0 H:Hp) (hl al:Addr) (zs ws:List Str) (ps:List (Str × Int)) (qs:List (Str × Int × Option Int)):Prop where
 sm:ar H0 H
 he:∃ as:List Addr,H hl=some (.lst (as.map V.ref)) /\ Rows H as (ps.map gW)
 ae:∃ ks:List Addr,H al=some (.lst (ks.map V.ref)) /\ Rows H ks (qs.map fW)
 pz:ps.map (·.1)=zs.take ps.length
 qz:qs.map (·.1)=ws.take qs.length
 pl:ps.length <= 24
 ql:qs.length <= 24
 q1:∀ p ∈ qs,1 <= p.2.1
 pb:∀ p ∈ ps,p.2.natAbs < 10 ^ 100
 qb:∀ p ∈ qs,p.2.1.natAbs < 10 ^ 100 /\ ∀ m,p.2.2=some m -> m.natAbs < 10 ^ 100
theorem gZ.up {H0 H H':Hp} {hl al:Addr} {zs ws:List Str} {ps:List (Str × Int)} {qs:List (Str × Int × Option Int)} (k:gZ H0 H hl al zs ws ps qs) (s:ar H H'):gZ H0 H' hl al zs ws ps qs:=by
 obtain ⟨as,h1,h2⟩:=k.he
 obtain ⟨ks,h3,h4⟩:=k.ae
 exact { k with sm:=k.sm.trans s,he:=⟨as,s _ _ h1,Rows.same s h2⟩,ae:=⟨ks,s _ _ h3,Rows.same s h4⟩ }
theorem gZ.addH {H0 H:Hp} {hl al:Addr} {zs ws:List Str} {ps:List (Str × Int)} {qs:List (Str × Int × Option Int)} (k:gZ H0 H hl al zs ws ps qs) (nh:H0 hl=none) (ne:hl ≠ al) {as:List Addr} (h1:H hl=some (.lst (as.map V.ref))) (h2:Rows H as (ps.map gW))
  {t:Addr} {x:Str} {n:Int} (ht:H t=some (.tup [.str x,.int n])) (hx:zs[ps.length]?=some x) (h24:ps.length < 24) (hn:n.natAbs < 10 ^ 100):gZ H0 (upd H hl (.lst (as.map V.ref ++ [.ref t]))) hl al zs ws (ps ++ [(x,n)]) qs where
 sm:=ar.up k.sm nh
 he:=⟨as ++ [t],by rw [au,List.map_append]; rfl,by
  rw [List.map_append]
  exact L2.Paired.snoc (Rows.updL h2 h1) (by rw [aD (mG ht h1 (by intro z; cases z))]; exact ht)⟩
 ae:=by
  obtain ⟨ks,h3,h4⟩:=k.ae
  exact ⟨ks,by rw [aD ne.symm]; exact h3,Rows.updL h4 h1⟩
 pz:=by rw [List.map_append,k.pz,List.length_append]; exact iE hx
 qz:=k.qz
 pl:=by rw [List.length_append]; exact h24
 ql:=k.ql
 q1:=k.q1
 pb:=fun p hp=>by
  rcases List.mem_append.mp hp with h | h
  ·exact k.pb p h
  ·rw [List.mem_singleton.mp h]; exact hn
 qb:=k.qb
theorem gZ.addA {H0 H:Hp} {hl al:Addr} {zs ws:List Str} {ps:List (Str × Int)} {qs:List (Str × Int × Option Int)} (k:gZ H0 H hl al zs ws ps qs) (na:H0 al=none) (ne:hl ≠ al) {ks:List Addr} (h1:H al=some (.lst (ks.map V.ref))) (h2:Rows H ks (qs.map fW))
  {t:Addr} {x:Str} {n:Int} {o:Option Int} (ht:H t=some (.tup [.str x,.int n,mo o])) (hx:ws[qs.length]?=some x) (h24:qs.length < 24) (hn1:1 <= n) (hn:n.natAbs < 10 ^ 100) (ho:∀ m,o=some m -> m.natAbs < 10 ^ 100):gZ H0 (upd H al (.lst (ks.map V.ref ++ [.ref t]))) hl al zs ws ps (qs ++ [(x,n,o)]) where
 sm:=ar.up k.sm na
 ae:=⟨ks ++ [t],by rw [au,List.map_append]; rfl,by
  rw [List.map_append]
  exact L2.Paired.snoc (Rows.updL h2 h1) (by rw [aD (mG ht h1 (by intro z; cases z))]; exact ht)⟩
 he:=by
  obtain ⟨as,h3,h4⟩:=k.he
  exact ⟨as,by rw [aD ne]; exact h3,Rows.updL h4 h1⟩
 qz:=by rw [List.map_append,k.qz,List.length_append]; exact iE hx
 pz:=k.pz
 ql:=by rw [List.length_append]; exact h24
 pl:=k.pl
 pb:=k.pb
 q1:=fun p hp=>by
  rcases List.mem_append.mp hp with h | h
  ·exact k.q1 p h
  ·rw [List.mem_singleton.mp h]; exact hn1
 qb:=fun p hp=>by
  rcases List.mem_append.mp hp with h | h
  ·exact k.qb p h
  ·rw [List.mem_singleton.mp h]; exact ⟨hn,ho⟩
section
variable {P:Program} {w:World} {K:PySem.W.Frag} {mg:Str -> Option Value} {base:Heap}
theorem scLS:aN nLS ["_law_script"] (ai sLS):=fsc (by decide +kernel)
theorem ok_ls {f:Addr} {fd:FuncData} (F:Fun K "_law_stand" "_law_stand" sLS f fd) (B:Blt mg) (Fc:bb P w K mg base 1 "_law_cell_at" ["_law_script","_law_k"] (gM K)) (Fd:bb P w K mg base 3 "_law_digits" ["_law_script","_law_k","_law_base","_law_many"] (fg K))
  (Fn:bb P w K mg base 4 "_law_names" ["_law_script","_law_k","_law_many"] (gi K)) (Fw:bb P w K mg base 1 "_law_wide" ["_law_row"] (j9 K)) (Fb:bb P w K mg base 1 "_law_bench" ["_law_row","_law_names_here"] (spLB K)):bG P w K mg base CX0 5 f fd ["_law_script"] (spLS K):=by
 refine F.ok scLS (fun us H Q E h=>?_) (fun cdv A outer s H us Q E hr h=>?_)
 ·obtain ⟨a,ns,rfl,_⟩:=h
  rfl
 ·obtain ⟨a,ns,rfl,hS,q⟩:=h
  have nd:=scLS.nd
  have r1:bP 1 _:=hr.mono (by decide)
  have r3:bP 3 _:=hr.mono (by decide)
  refine ⟨_,ag (aw (i:=1) nd rfl (Or.inl rfl) (az Fc r1 (aa (pv 0) (aa ac af)))) <|
   ag (aw (i:=2) nd rfl (Or.inl rfl) (ax du (by rfl) B.sorted la (aa (az Fn hr (aa (pv 0) (aa ac (aa ac af)))) af))) <|
   ag (aw (i:=3) nd rfl (Or.inl rfl) (az Fb r1 (aa (az Fd r3 (aa (pv 0) (aa ac (aa ac (aa ac af))))) (aa (pv 2) af)))) <|
   ag (be (aE bK (aj aS (pv 1) ac) ac (aC _)) (am (aF (b9 (aa ac (aa ac (aa (pv 3) (aa (b9 af) (aa (b9 af) af)))))))) aQ) <|
   ag (aw (i:=4) nd rfl (Or.inl rfl) (aj bd ac (aj aS (aj bx (pv 1) ac) (aB ay (aJ (aa ac (aa (aj iT ac ac) af))) (aj aS (aj bx (pv 1) ac) ac) (fun _ _=>rfl))))) <|
   ag (aw (i:=5) nd rfl (Or.inl rfl) (aj bd ac (aj aS (aj bx (pv 1) ac) (aB ay (aJ (aa ac (aa (aj iT ac ac) af))) (aj aS (aj bx (pv 1) ac) ac) (fun _ _=>rfl))))) <|
   ag (aw (i:=6) nd rfl (Or.inl rfl) (ax du (by rfl) B.sorted la (aa (az Fn hr (aa (pv 0) (aa ac (aa ac af)))) af))) <|
   ag (aw (i:=7) nd rfl (Or.inl rfl) (ax du (by rfl) B.sorted la (aa (az Fn hr (aa (pv 0) (aa ac (aa ac af)))) af))) <|
   ag (aw (i:=8) nd rfl (Or.inl rfl) (aJ af)) <|
   ag (aw (i:=9) nd rfl (Or.inl rfl) (aJ af)) <|
   ag (eG PassesOwn.never rfl (lY rfl B.range (aa ac (aa (ax (lF rfl) (by rfl) B.min bMinS (aa (ax aO (by rfl) B.len PySem.boot_len (aa (pv 0) af)) (aa ac af))) af))) (aH (i:=10) nd rfl (Or.inl rfl)) <|
    ag (aw (i:=11) nd rfl (Or.inl rfl) (az Fd r3 (aa (pv 0) (aa (pv 10) (aa ac (aa ac af)))))) <|
    ag (aw (i:=12) nd rfl (Or.inl rfl) (aj op_mulB (az Fw r1 (aa (aG bO (pv 11) (aI ac) aV) af)) (aB ay (aJ (aa ac (aa (aj iT ac ac) af))) (aT dQ (by rfl) B.int nF (aa (bo bK (aj aS (aB ay (pv 11) ac (fun _ _=>rfl)) ac) ac (aC _)) af)) (fun _ _=>rfl)))) <|
    am (be (PW.pt (jT (aE bK (aj aS (aB ay (pv 11) ac (fun _ _=>rfl)) ac) ac (aC _)) (iQ (aE cN (ax aO (by rfl) B.len PySem.boot_len (aa (pv 8) af)) ac (aC _)))))
     (am (dO (ck PySem.F.plainAttrs_list PySem.F.slot_list_append PySem.F.type_list_append dg (pv 8) (aa (b9 (aa (aB ay (pv 6) (ax aO (by rfl) B.len PySem.boot_len (aa (pv 8) af)) (fun _ _=>rfl)) (aa (pv 12) af))) af))))
     (am (be (aE cN (ax aO (by rfl) B.len PySem.boot_len (aa (pv 9) af)) ac (aC _))
      (ag (aw (i:=13) nd rfl (Or.inl rfl) (aB ay (aJ (aa (pv 12) (aa iP af))) (aT dQ (by rfl) B.int nF (aa (bo bK (aj aS (aB ay (pv 11) ac (fun _ _=>rfl)) ac) ac (aC _)) af)) (fun _ _=>rfl))) <|
       am (dO (ck PySem.F.plainAttrs_list PySem.F.slot_list_append PySem.F.type_list_append dg (pv 9) (aa (b9 (aa (aB ay (pv 7) (ax aO (by rfl) B.len PySem.boot_len (aa (pv 9) af)) (fun _ _=>rfl))
       (aa (aj bd ac (aj db (aB ay (pv 11) ac (fun _ _=>rfl)) (aB ay (aJ (aa ac (aa (aj iT ac ac) af))) (aj aS (aj bx (aB ay (pv 11) ac (fun _ _=>rfl)) ac) ac) (fun _ _=>rfl)))) (aa (pv 13) af)))) af))))
      aQ)))) <|
   am (aF (b9 (aa (pv 4) (aa (pv 5) (aa (pv 3) (aa (aT bh (by rfl) B.tuple cg (aa (pv 8) af)) (aa (aT bh (by rfl) B.tuple cg (aa (pv 9) af)) af))))))),?_⟩
  have hs16:sizeLine=16777216:=sizeLine_eq
  have cp:CPow 10 59:=⟨by decide,by decide,by decide⟩
  refine ⟨_,rfl,a,ns,1,rfl,hS,by decide,fun cell=>?_⟩
  refine ⟨_,rfl,a,ns,2,12,rfl,hS,by decide,by decide,by decide,by decide,fun ys1 p1 H1 s1 _ e1 l1 x1 m1=>?_⟩
  refine ⟨p1,ys1,rfl,SqL.of e1,by omega,fun h2 zs1 H2 _ s2 e2 pm1 so1=>?_⟩
  have nd1:zs1.Nodup:=pm1.symm.nodup (cB x1)
  refine ⟨_,rfl,a,ns,3,1080,13,rfl,(s1.trans s2).seq hS,by decide,by decide,by decide,by decide,by decide,by decide,fun ds3 p3 H3 s3 _ e3 l3 d3=>?_⟩
  refine ⟨_,rfl,p3,h2,ds3,zs1,rfl,e3,s3 _ _ e2,by omega,by rw [pm1.length_eq]; omega,dR so1 nd1,fun x hx=>m1 x (pm1.mem_iff.mp hx),fun b H4 vs cs ls s4 hb O N=>?_⟩
  have s04:ar H H4:=s1.trans (s2.trans (s3.trans s4))
  refine ⟨_,rfl,_,_,rfl,rfl,(by dsimp only; decide),rfl,_,rfl,?_⟩
  refine bz (fun _=>?_) (fun _=>?_)
  ·refine ⟨_,rfl,Nat.zero_le _,fun t1 G1 _ u1 g1=>⟨Nat.zero_le _,fun t2 G2 _ u2 g2=>⟨(show 5 <= sizeLine by omega),fun t3 G3 _ u3 g3=>?_⟩⟩⟩
   have uA:=u1.trans (u2.trans u3)
   refine q t3 G3 0 0 vs cs ls [] [] (s04.trans uA) ⟨b,t1,t2,g3,O.at' ?_,⟨[],u3 _ _ (u2 _ _ g1),.nil⟩,⟨[],u3 _ _ g2,.nil⟩⟩ ?_ O (by decide) (by decide)
   ·obtain ⟨v,c,l,b1,b2,b3,b4⟩:=hb
    exact ⟨v,c,l,uA _ _ b1,uA _ _ b2,uA _ _ b3,uA _ _ b4⟩
   ·exact ⟨N.1,N.2.1,N.2.2,fun p h=>(nomatch h),fun p h=>(nomatch h),.nil,.nil,by decide,by decide,fun p h=>(nomatch h),.inl ⟨rfl,rfl,rfl,rfl⟩,by decide,by decide,fun p h=>(nomatch h),fun p h=>(nomatch h)⟩
  obtain ⟨d5,k5,o5⟩:=i6 9 ((10:Int) ^ (59:Int).toNat) (cell / 12)
  obtain ⟨d6,k6,o6⟩:=i6 9 ((10:Int) ^ (59:Int).toNat) (cell / 48)
  have g5:=jD (c:=cell / 6) o5
  have g6:=jD (c:=cell / 24) o6
  refine ⟨_,rfl,_,_,rfl,rfl,⟨by decide,by decide⟩,_,_,rfl,rfl,cp,(show 2 <= sizeLine by omega),fun p5 H5 _ s5 e5=>?_⟩
  refine ⟨_,rfl,_,_,rfl,rfl,⟨by decide,by decide⟩,_,_,rfl,rfl,(by dsimp only; decide),p5,_,_,_,rfl,rfl,SqL.of e5,k5,_,_,rfl,rfl,g5.1,_,_,rfl,rfl,?_⟩
  refine ⟨_,rfl,_,_,rfl,rfl,⟨by decide,by decide⟩,_,_,rfl,rfl,cp,(show 2 <= sizeLine by omega),fun p6 H6 _ s6 e6=>?_⟩
  refine ⟨_,rfl,_,_,rfl,rfl,⟨by decide,by decide⟩,_,_,rfl,rfl,(by dsimp only; decide),p6,_,_,_,rfl,rfl,SqL.of e6,k6,_,_,rfl,rfl,g6.1,_,_,rfl,rfl,?_⟩
  have s06:=s04.trans (s5.trans s6)
  refine ⟨_,rfl,a,ns,4,24,rfl,s06.seq hS,by decide,by decide,by decide,by decide,fun ys7 p7 H7 s7 _ e7 l7 x7 m7=>?_⟩
  refine ⟨p7,ys7,rfl,SqL.of e7,by omega,fun h8 zs H8 _ s8 e8 pm8 so8=>?_⟩
  have rz:=dR so8 (pm8.symm.nodup (cB x7))
  have mz:∀ x ∈ zs,Nm x:=fun x hx=>m7 x (pm8.mem_iff.mp hx)
  have lz:zs.length=24:=by rw [pm8.length_eq]; omega
  have s08:=s06.trans (s7.trans s8)
  refine ⟨_,rfl,a,ns,5,24,rfl,s08.seq hS,by decide,by decide,by decide,by decide,fun ys9 p9 H9 s9 _ e9 l9 x9 m9=>?_⟩
  refine ⟨p9,ys9,rfl,SqL.of e9,by omega,fun h10 ws H10 _ s10 e10 pm10 so10=>?_⟩
  have rw':=dR so10 (pm10.symm.nodup (cB x9))
  have mw:∀ x ∈ ws,Nm x:=fun x hx=>m9 x (pm10.mem_iff.mp hx)
  have lw:ws.length=24:=by rw [pm10.length_eq]; omega
  have s010:=s08.trans (s9.trans s10)
  have e8':=s10 _ _ (s9 _ _ e8)
  refine ⟨Nat.zero_le _,fun hl H11 nh s11 e11=>⟨Nat.zero_le _,fun al H12 na s12 e12=>?_⟩⟩
  have nha:hl ≠ al:=aA e11 na
  have na10:H10 al=none:=s11.none na
  have K0:gZ H10 H12 hl al zs ws [] []:=⟨s11.trans s12,⟨[],s12 _ _ e11,.nil⟩,⟨[],e12,.nil⟩,rfl,rfl,by decide,by decide,fun p h=>(nomatch h),fun p h=>(nomatch h),fun p h=>(nomatch h)⟩
  have s4A:ar H4 H10:=(s5.trans s6).trans ((s7.trans s8).trans (s9.trans s10))
  clear e1 e2 e3 e5 e6 e7 e9 e11 e12 s11 s12 s5 s6 s7 s8 s9 s10 s1 s2 s3 s4 k5 k6 o5 o6
  refine ⟨_,rfl,a,_,rfl,.inl (K0.sm.seq (s010.seq hS)),_,_,rfl,_,_,rfl,?_⟩
  refine fz (lo:=6) (fun i σ H'=>∃ (ps:List (Str × Int)) (qs:List (Str × Int × Option Int)) (kv rv nv av:Option V),σ=[some (.ref a),some (.int cell),some (.ref h2),some (.ref b),some (.int (1 + cell / 6 % d5)),some (.int (1 + cell / 24 % d6)),some (.ref h8),some (.ref h10),some (.ref hl),some (.ref al),kv,rv,nv,av] /\ gZ H10 H' hl al zs ws ps qs)
   ⟨[],[],none,none,none,none,rfl,K0⟩ ?_ ?_
  ·rintro i σ H' hi ⟨ps,qs,kv,rv,nv,av,rfl,kk⟩
   have hk:(6:Int) + i <= 63:=by
    revert hi
    split <;> omega
   refine ⟨_,rfl,_,rfl,a,ns,6 + i,1080,25,rfl,(s010.trans kk.sm).seq hS,by omega,by omega,by decide,by decide,by decide,by decide,fun ds r H1 s1 _ e1 l1 d1=>?_⟩
   have hdl:ds.length=25:=by omega
   have kk1:=kk.up s1
   refine ⟨_,rfl,_,rfl,r,_,rfl,SqL.of e1,fun p2 hp2=>?_⟩
   rw [cut3 (by omega)]
   refine ⟨p2,ds.drop 3,rfl,SqL.of au,by rw [List.length_drop]; omega,by rw [List.length_drop]; omega,fun z H3 hz s3=>?_⟩
   have s3:ar H1 H3:=(ar.new hp2).trans s3
   refine ⟨_,_,rfl,rfl,⟨by decide,by decide,by decide⟩,(show 2 <= sizeLine by omega),fun p4 H4' _ s4 e4=>?_⟩
   have s14:=s3.trans s4
   have er:=s14 _ _ e1
   obtain ⟨m,km,om⟩:=pick2b 1 ((10:Int) ^ (40:Int).toNat) (decide (V.int (ds.getD 2 0 % 8)=V.int 3))
   have gm:=oy hz om
   refine ⟨_,rfl,r,_,_,_,rfl,rfl,SqL.of er,bT (i:=2) (by omega),_,_,rfl,rfl,(by dsimp only; decide),rfl,.inr ⟨_,rfl,?_⟩⟩
   refine ⟨p4,_,_,_,rfl,rfl,SqL.of e4,km,_,_,rfl,rfl,gm.1,?_⟩
   have kk4:=kk1.up s14
   obtain ⟨as,ha1,ha2⟩:=kk4.he
   obtain ⟨ks,hb1,hb2⟩:=kk4.ae
   have hal:as.length=ps.length:=by rw [ha2.len,List.length_map]
   have hkl:ks.length=qs.length:=by rw [hb2.len,List.length_map]
   have hge0:∀ j,j < 25 -> 0 <= ds.getD j 0 /\ ds.getD j 0 < 1080:=fun j hj=>by
    rw [List.getD_eq_getElem?_getD,List.getElem?_eq_getElem (by omega)]
    exact d1 _ (List.getElem_mem _)
   refine ⟨_,rfl,r,_,_,_,rfl,rfl,SqL.of er,bT (i:=0) (by omega),_,_,rfl,rfl,(by dsimp only; decide),rfl,_,rfl,?_⟩
   cases hc:decide (V.int (ds.getD 0 0 % 2)=V.int 0) && decide (((as.map V.ref).length:Int) < 24) with
   | true =>
    obtain ⟨c1,c2⟩:=Bool.and_eq_true_iff.mp hc
    rw [c1]
    refine cW ⟨_,rfl,hl,_,rfl,.inl (SqL.of ha1),_,_,rfl,rfl,_,rfl,?_⟩
    rw [c2]
    refine cW ?_
    have c3:=of_decide_eq_true c2
    rw [List.length_map] at c3
    have hx:zs[ps.length]?=some (zs[ps.length]'(by omega)):=List.getElem?_eq_getElem _
    refine ⟨_,rfl,.inl ⟨rfl,_,SqL.of ha1⟩,_,rfl,_,rfl,hl,_,rfl,.inl (SqL.of ha1),h8,_,_,_,rfl,rfl,SqL.of (kk4.sm _ _ e8'),(show atI (zs.map V.str) _=some (.str (zs[ps.length]'(by omega))) from by rw [List.length_map,hal]; exact ba (by rw [List.getElem?_map,hx]; rfl)),_,rfl,(show 2 <= sizeLine by omega),fun t7 H7 _ s7 e7=>?_⟩
    have kk7:=kk4.up s7
    refine ⟨hl,_,_,rfl,rfl,s7 _ _ ha1,by rw [List.length_map]; omega,?_⟩
    exact ⟨_,_,_,_,_,_,rfl,kk7.addH nh nha (s7 _ _ ha1) (Rows.same s7 ha2) e7 hx (by omega) gm.2⟩
   | false =>
    cases c1:decide (V.int (ds.getD 0 0 % 2)=V.int 0) with
    | false =>
     refine bZ (bZ ?_)
     refine ⟨_,rfl,al,_,rfl,.inl (SqL.of hb1),_,_,rfl,rfl,_,rfl,bz (fun c=>?_) (fun _=>⟨ps,qs,_,_,_,_,rfl,kk4⟩)⟩
     have c3:=of_decide_eq_true c
     rw [List.length_map] at c3
     have hx:ws[qs.length]?=some (ws[qs.length]'(by omega)):=List.getElem?_eq_getElem _
     refine ⟨_,rfl,(show 2 <= sizeLine by omega),fun p5 H5 _ s5 e5=>?_⟩
     obtain ⟨o,ko,oo⟩:=ow (z * m) (decide (V.int (ds.getD 1 0 % 4)=V.int 3))
     refine ⟨_,rfl,r,_,_,_,rfl,rfl,SqL.of (s5 _ _ er),bT (i:=1) (by omega),_,_,rfl,rfl,(by dsimp only; decide),rfl,.inr ⟨_,rfl,?_⟩⟩
     refine ⟨p5,_,_,_,rfl,rfl,SqL.of e5,ko,?_⟩
     obtain ⟨d,kd,od⟩:=i6 1 ((10:Int) ^ (50:Int).toNat) (ds.getD 1 0 / 4)
     have h2g:=hge0 2 (by decide)
     have gd:=jE h2g.1 h2g.2 od
     refine ⟨_,rfl,.inl ⟨rfl,_,SqL.of (s5 _ _ hb1)⟩,_,rfl,_,rfl,al,_,rfl,.inl (SqL.of (s5 _ _ hb1)),h10,_,_,_,rfl,rfl,SqL.of (s5 _ _ (kk4.sm _ _ e10)),(show atI (ws.map V.str) _=some (.str (ws[qs.length]'(by omega))) from by rw [List.length_map,hkl]; exact ba (by rw [List.getElem?_map,hx]; rfl)),?_⟩
     refine ⟨_,rfl,r,_,_,_,rfl,rfl,SqL.of (s5 _ _ er),bT (i:=2) (by omega),_,_,rfl,rfl,⟨by decide,by decide,by decide⟩,(show 2 <= sizeLine by omega),fun p6 H6 _ s6 e6=>?_⟩
     refine ⟨_,rfl,r,_,_,_,rfl,rfl,SqL.of (s6 _ _ (s5 _ _ er)),bT (i:=1) (by omega),_,_,rfl,rfl,⟨by decide,by decide⟩,_,_,rfl,rfl,(by dsimp only; decide),p6,_,_,_,rfl,rfl,SqL.of e6,kd,_,_,rfl,rfl,.inl ⟨by omega,by omega⟩,_,_,rfl,rfl,_,rfl,(show 3 <= sizeLine by omega),fun t7 H7 _ s7 e7=>?_⟩
     have s47:=s5.trans (s6.trans s7)
     have kk7:=kk4.up s47
     refine ⟨al,_,_,rfl,rfl,s47 _ _ hb1,by rw [List.length_map]; omega,?_⟩
     exact ⟨_,_,_,_,_,_,rfl,kk7.addA na10 nha (s47 _ _ hb1) (Rows.same s47 hb2) e7 hx (by omega) gd.1 gd.2 (fun m' hm'=>by rw [oo m' hm']; exact gm.2)⟩
    | true =>
     rw [c1,Bool.true_and] at hc
     refine cW ⟨_,rfl,hl,_,rfl,.inl (SqL.of ha1),_,_,rfl,rfl,_,rfl,?_⟩
     rw [hc]
     refine bZ ?_
     refine ⟨_,rfl,al,_,rfl,.inl (SqL.of hb1),_,_,rfl,rfl,_,rfl,bz (fun c=>?_) (fun _=>⟨ps,qs,_,_,_,_,rfl,kk4⟩)⟩
     have c3:=of_decide_eq_true c
     rw [List.length_map] at c3
     have hx:ws[qs.length]?=some (ws[qs.length]'(by omega)):=List.getElem?_eq_getElem _
     refine ⟨_,rfl,(show 2 <= sizeLine by omega),fun p5 H5 _ s5 e5=>?_⟩
     obtain ⟨o,ko,oo⟩:=ow (z * m) (decide (V.int (ds.getD 1 0 % 4)=V.int 3))
     refine ⟨_,rfl,r,_,_,_,rfl,rfl,SqL.of (s5 _ _ er),bT (i:=1) (by omega),_,_,rfl,rfl,(by dsimp only; decide),rfl,.inr ⟨_,rfl,?_⟩⟩
     refine ⟨p5,_,_,_,rfl,rfl,SqL.of e5,ko,?_⟩
     obtain ⟨d,kd,od⟩:=i6 1 ((10:Int) ^ (50:Int).toNat) (ds.getD 1 0 / 4)
     have h2g:=hge0 2 (by decide)
     have gd:=jE h2g.1 h2g.2 od
     refine ⟨_,rfl,.inl ⟨rfl,_,SqL.of (s5 _ _ hb1)⟩,_,rfl,_,rfl,al,_,rfl,.inl (SqL.of (s5 _ _ hb1)),h10,_,_,_,rfl,rfl,SqL.of (s5 _ _ (kk4.sm _ _ e10)),(show atI (ws.map V.str) _=some (.str (ws[qs.length]'(by omega))) from by rw [List.length_map,hkl]; exact ba (by rw [List.getElem?_map,hx]; rfl)),?_⟩
     refine ⟨_,rfl,r,_,_,_,rfl,rfl,SqL.of (s5 _ _ er),bT (i:=2) (by omega),_,_,rfl,rfl,⟨by decide,by decide,by decide⟩,(show 2 <= sizeLine by omega),fun p6 H6 _ s6 e6=>?_⟩
     refine ⟨_,rfl,r,_,_,_,rfl,rfl,SqL.of (s6 _ _ (s5 _ _ er)),bT (i:=1) (by omega),_,_,rfl,rfl,⟨by decide,by decide⟩,_,_,rfl,rfl,(by dsimp only; decide),p6,_,_,_,rfl,rfl,SqL.of e6,kd,_,_,rfl,rfl,.inl ⟨by omega,by omega⟩,_,_,rfl,rfl,_,rfl,(show 3 <= sizeLine by omega),fun t7 H7 _ s7 e7=>?_⟩
     have s47:=s5.trans (s6.trans s7)
     have kk7:=kk4.up s47
     refine ⟨al,_,_,rfl,rfl,s47 _ _ hb1,by rw [List.length_map]; omega,?_⟩
     exact ⟨_,_,_,_,_,_,rfl,kk7.addA na10 nha (s47 _ _ hb1) (Rows.same s47 hb2) e7 hx (by omega) gd.1 gd.2 (fun m' hm'=>by rw [oo m' hm']; exact gm.2)⟩
  ·rintro σ H' ⟨ps,qs,kv,rv,nv,av,rfl,kk⟩
   obtain ⟨as,ha1,ha2⟩:=kk.he
   obtain ⟨ks,hb1,hb2⟩:=kk.ae
   refine ⟨_,rfl,_,rfl,_,rfl,_,rfl,hl,_,rfl,SqL.of ha1,fun t1 G1 _ u1 g1=>?_⟩
   refine ⟨_,rfl,al,_,rfl,SqL.of (u1 _ _ hb1),fun t2 G2 _ u2 g2=>⟨(show 5 <= sizeLine by omega),fun t3 G3 _ u3 g3=>?_⟩⟩
   have uA:=u1.trans (u2.trans u3)
   have sZ:=kk.sm.trans uA
   refine q t3 G3 (1 + cell / 6 % d5) (1 + cell / 24 % d6) vs cs ls ps qs (s010.trans sZ) ⟨b,t1,t2,g3,O.at' ?_,⟨as,u3 _ _ (u2 _ _ g1),Rows.same uA ha2⟩,⟨ks,u3 _ _ g2,Rows.same uA hb2⟩⟩ ?_ O kk.pl kk.ql
   ·obtain ⟨v,c,l,b1,b2,b3,b4⟩:=hb
    have sY:=s4A.trans sZ
    exact ⟨v,c,l,sY _ _ b1,sY _ _ b2,sY _ _ b3,sY _ _ b4⟩
   ·refine ⟨N.1,N.2.1,N.2.2,fun p h=>mz _ ?_,fun p h=>mw _ ?_,?_,?_,Nat.le_trans kk.pl (by decide),Nat.le_trans kk.ql (by decide),kk.q1,.inr ⟨g5.2.1,g6.2.1⟩,g5.2.2,g6.2.2,kk.pb,kk.qb⟩
    ·exact List.mem_of_mem_take (kk.pz ▸ List.mem_map_of_mem h)
    ·exact List.mem_of_mem_take (kk.qz ▸ List.mem_map_of_mem h)
    ·rw [kk.pz]; exact rz.sublist (List.take_sublist _ _)
    ·rw [kk.qz]; exact rw'.sublist (List.take_sublist _ _)
end
structure Sd where
 n:Int
 t:Int
 vs:List Str
 cs:List Str
 ls:List Str
 ps:List (Str × Int)
 qs:List (Str × Int × Option Int)
def Sd.W (d:Sd):List (List Str):=cZ d.n d.t d.vs d.cs d.ls d.ps d.qs
def Sd.T (d:Sd):Str:=Txt.join (Str.ofString "\n") (bS d.n d.t d.vs d.cs d.ls d.ps d.qs)
structure Sd.Ok (d:Sd):Prop where
 g:ij d.n d.t d.vs d.cs d.ls d.ps d.qs
 o:ii d.vs d.cs d.ls
def Sd.At (d:Sd) (H:Hp) (s:Addr):Prop:=StAt H s d.n d.t d.vs d.cs d.ls d.ps d.qs
def spl (T:Str):List Str:=Txt.split T (Str.ofString "\n")
def wrd (r:Str):List Str:=Txt.split r (Str.ofString " ")
def wds (T:Str):List (List Str):=(spl T).map wrd
theorem oz (T:Str):spl T ≠ []:=fun e=>by
 have:=PyProof.Rows.split_pos T (Str.ofString "\n")
 unfold spl at e
 rw [e] at this
 exact absurd this (by decide)
theorem i7 (r:Str):wrd r ≠ []:=fun e=>by
 have:=PyProof.Rows.split_pos r (Str.ofString " ")
 unfold wrd at e
 rw [e] at this
 exact absurd this (by decide)
theorem fi (T:Str):Txt.join (Str.ofString "\n") (spl T)=T:=by
 unfold spl
 rw [eA,show Txt.join ⟨#[10]⟩ (Txt.split T ⟨#[10]⟩)=Str.join ⟨#[10]⟩ (Txt.split T ⟨#[10]⟩) from StrLaws.glued_eq_join _ _]
 exact StrLaws.join_split _ _
theorem cU (r:Str):Txt.join (Str.ofString " ") (wrd r)=r:=by
 unfold wrd
 rw [bW,show Txt.join ⟨#[32]⟩ (Txt.split r ⟨#[32]⟩)=Str.join ⟨#[32]⟩ (Txt.split r ⟨#[32]⟩) from StrLaws.glued_eq_join _ _]
 exact StrLaws.join_split _ _
theorem tjF (c:Nat):∀ (r:Str) (rs:List Str),(Txt.join ⟨#[c]⟩ (r :: rs)).cps.toList=r.cps.toList ++ rs.flatMap fun x=>c :: x.cps.toList
 | r,[]=>by rw [tj1]; simp
 | r,q :: rs=>by rw [tj2,tjF c q rs]; simp
theorem jF {c:Nat} {ys:List Str} {y:Str} (h:y ∈ ys):y.length <= (Txt.join ⟨#[c]⟩ ys).length:=by
 have hl:∀ x:Str,x.length=x.cps.toList.length:=fun x=>Array.length_toList.symm
 cases ys with
 | nil=>cases h
 | cons r rs =>
  rw [hl,hl,tjF,List.length_append]
  rcases List.mem_cons.mp h with rfl | h
  ·omega
  ·obtain ⟨a,b,rfl⟩:=List.append_of_mem h
   rw [List.flatMap_append,List.flatMap_cons,List.length_append,List.length_append,List.length_cons]
   omega
theorem oA {T r:Str} (h:r ∈ spl T):r.length <= T.length:=by
 have:=jF (c:=10) h
 rw [<- eA,fi] at this
 exact this
theorem hG {r x:Str} (h:x ∈ wrd r):x.length <= r.length:=by
 have:=jF (c:=32) h
 rw [<- bW,cU] at this
 exact this
theorem T_eq (d:Sd):d.T=Txt.join (Str.ofString "\n") (d.W.map (Txt.join (Str.ofString " "))):=by
 unfold Sd.T Sd.W
 rw [gn]
theorem oB (T:Str):Txt.join (Str.ofString "\n") ((wds T).map (Txt.join (Str.ofString " ")))=T:=by
 unfold wds
 rw [List.map_map,show (Txt.join (Str.ofString " ") ∘ wrd)=id from funext fun r=>cU r,List.map_id]
 exact fi T
theorem iF {d:Sd} (h:d.Ok):wds d.T=d.W:=by
 unfold wds spl Sd.T
 rw [cT h.g,gn,List.map_map]
 unfold Sd.W
 have:∀ ws ∈ cZ d.n d.t d.vs d.cs d.ls d.ps d.qs,(wrd ∘ Txt.join (Str.ofString " ")) ws=ws:=fun ws hw=>ms h.g hw
 rw [List.map_congr_left this,List.map_id']
theorem T_of {d:Sd} {T:Str} (h:wds T=d.W):T=d.T:=by
 rw [T_eq,<- h,oB]
theorem cC {n m:Int} (hn:Big n) (hm:Big m) (e:aR n=aR m):n=m:=by
 have h1:=eL (n:=n) (by have:=dE (k:=100) (by decide) hn; omega)
 have h2:=eL (n:=m) (by have:=dE (k:=100) (by decide) hm; omega)
 have e:Str.ofString (toString n)=Str.ofString (toString m):=e
 rw [e,h2] at h1
 exact (Option.some.inj h1).symm
theorem oC {a b:Option Int} (ha:∀ m,a=some m -> Big m) (hb:∀ m,b=some m -> Big m) (e:fV a=fV b):a=b:=by
 cases a with
 | none =>
  cases b with
  | none=>rfl
  | some m=>exact absurd (congrArg V.str e.symm) (fS m)
 | some n =>
  cases b with
  | none=>exact absurd (congrArg V.str e) (fS n)
  | some m=>rw [cC (ha n rfl) (hb m rfl) e]
theorem i8:∀ {a b r s:List Str},SL ∉ a -> SL ∉ b -> a ++ SL :: r=b ++ SL :: s -> a=b /\ r=s
 | [],[],r,s,_,_,h=>⟨rfl,by simpa using h⟩
 | [],y :: b,r,s,_,hb,h=>by
  have h1:SL=y:=(List.cons.inj (show SL :: r=y :: (b ++ SL :: s) from h)).1
  exact absurd (h1 ▸ List.mem_cons_self ..) hb
 | x :: a,[],r,s,ha,_,h=>by
  have h1:x=SL:=(List.cons.inj (show x :: (a ++ SL :: r)=SL :: s from h)).1
  exact absurd (h1 ▸ List.mem_cons_self ..) ha
 | x :: a,y :: b,r,s,ha,hb,h=>by
  have h1:=List.cons.inj (show x :: (a ++ SL :: r)=y :: (b ++ SL :: s) from h)
  obtain ⟨e1,e2⟩:=i8 (fun q=>ha (List.mem_cons_of_mem _ q)) (fun q=>hb (List.mem_cons_of_mem _ q)) h1.2
  exact ⟨by rw [h1.1,e1],e2⟩
theorem fI {vs cs ls vs' cs' ls':List Str} (h1:SL ∉ vs) (h2:SL ∉ cs) (h1':SL ∉ vs') (h2':SL ∉ cs') (e:bw vs cs ls=bw vs' cs' ls'):vs=vs' /\ cs=cs' /\ ls=ls':=by
 unfold bw at e
 obtain ⟨e1,e2⟩:=i8 h1 h1' (List.cons.inj e).2
 obtain ⟨e3,e4⟩:=i8 h2 h2' e2
 exact ⟨e1,e3,e4⟩
theorem i9:∀ {ps qs:List (Str × Int)},(∀ p ∈ ps,Big p.2) -> (∀ p ∈ qs,Big p.2) -> ps.map heW=qs.map heW -> ps=qs
 | [],[],_,_,_=>rfl
 | [],_ :: _,_,_,h=>by cases h
 | _ :: _,[],_,_,h=>by cases h
 | p :: ps,q :: qs,hp,hq,h=>by
  have h:=List.cons.inj (show heW p :: ps.map heW=heW q :: qs.map heW from h)
  have e:=h.1
  unfold heW at e
  simp only [List.cons.injEq] at e
  have e2:=cC (hp p (List.mem_cons_self ..)) (hq q (List.mem_cons_self ..)) e.2.2.1
  rw [i9 (fun x hx=>hp x (List.mem_cons_of_mem _ hx)) (fun x hx=>hq x (List.mem_cons_of_mem _ hx)) h.2,show p=q from Prod.ext e.2.1 e2]
def QB (p:Str × Int × Option Int):Prop:=Big p.2.1 /\ ∀ m,p.2.2=some m -> Big m
theorem kr:∀ {ps qs:List (Str × Int × Option Int)},(∀ p ∈ ps,QB p) -> (∀ p ∈ qs,QB p) -> ps.map asW=qs.map asW -> ps=qs
 | [],[],_,_,_=>rfl
 | [],_ :: _,_,_,h=>by cases h
 | _ :: _,[],_,_,h=>by cases h
 | p :: ps,q :: qs,hp,hq,h=>by
  have h:=List.cons.inj (show asW p :: ps.map asW=asW q :: qs.map asW from h)
  have e:=h.1
  unfold asW at e
  simp only [List.cons.injEq] at e
  have bp:=hp p (List.mem_cons_self ..)
  have bq:=hq q (List.mem_cons_self ..)
  have e2:=cC bp.1 bq.1 e.2.2.1
  have e3:=oC bp.2 bq.2 e.2.2.2.1
  rw [kr (fun x hx=>hp x (List.mem_cons_of_mem _ hx)) (fun x hx=>hq x (List.mem_cons_of_mem _ hx)) h.2,show p=q from Prod.ext e.2.1 (Prod.ext e2 e3)]
def isH (ws:List Str):Bool:=decide (ws.head?=some (Str.ofString "held"))
theorem ja (p:Str × Int):isH (heW p)=true:=decide_eq_true rfl
theorem fJ (p:Str × Int × Option Int):isH (asW p)=false:=decide_eq_false fun e=>absurd (Option.some.inj (show some (Str.ofString "asked")=some (Str.ofString "held") from e)) (by decide +kernel)
theorem hJ (ps:List (Str × Int)) (qs:List (Str × Int × Option Int)):(ps.map heW ++ qs.map asW).filter isH=ps.map heW:=by
 rw [List.filter_append,List.filter_eq_self.mpr,List.filter_eq_nil_iff.mpr,List.append_nil]
 ·intro x hx
  obtain ⟨q,_,rfl⟩:=List.mem_map.mp hx
  rw [fJ]
  decide
 ·intro x hx
  obtain ⟨q,_,rfl⟩:=List.mem_map.mp hx
  exact ja q
theorem dJ {xs:List Str} (h:∀ x ∈ xs,Nm x):SL ∉ xs:=fun e=>absurd ((h _ e).2.2 47 (by decide +kernel)).1 (by decide)
theorem W_inj {d e:Sd} (hd:d.Ok) (he:e.Ok) (h:d.W=e.W):d=e:=by
 unfold Sd.W cZ at h
 have h:=List.cons.inj h
 have h1:=h.1
 simp only [List.cons.injEq] at h1
 have h2:=List.cons.inj h.2
 have e1:=cC hd.g.nb he.g.nb h1.2.1
 have e2:=cC hd.g.tb he.g.tb h1.2.2.1
 obtain ⟨e3,e4,e5⟩:=fI (dJ hd.g.nv) (dJ hd.g.nc) (dJ he.g.nv) (dJ he.g.nc) h2.1
 have f:=congrArg (List.filter isH) h2.2
 rw [hJ,hJ] at f
 have e6:=i9 hd.g.pb he.g.pb f
 have h3:=h2.2
 rw [f] at h3
 have e7:=kr (fun p hp=>hd.g.qb p hp) (fun p hp=>he.g.qb p hp) (List.append_cancel_left h3)
 obtain ⟨⟩:=d
 obtain ⟨⟩:=e
 simp only at e1 e2 e3 e4 e5 e6 e7
 rw [e1,e2,e3,e4,e5,e6,e7]
theorem oD {d e:Sd} (hd:d.Ok) (he:e.Ok) (h:d.T=e.T):d=e:=W_inj hd he (by rw [<- iF hd,<- iF he,h])
theorem mt {α:Type} {p:α -> Bool} {l m:List α} {k:Nat} (h:l.filter p=m) (hk:m.length=k) (hd:∀ x ∈ l.drop k,p x=false):l.take k=m:=by
 have h1:(l.take k).filter p=m:=by
  have h4:(l.drop k).filter p=[]:=List.filter_eq_nil_iff.mpr (fun x hx=>by rw [hd x hx]; decide)
  rw [<- List.take_append_drop k l,List.filter_append,h4,List.append_nil] at h
  exact h
 have h2:((l.take k).filter p).length=(l.take k).length:=by
  rw [h1]
  have h3:=List.length_filter_le p (l.take k)
  rw [h1] at h3
  have:=List.length_take_le k l
  omega
 have:=List.length_filter_eq_length_iff.mp h2
 rw [<- h1]
 exact (List.filter_eq_self.mpr this).symm
abbrev sRd:Stmt:=top 36
abbrev nRd:List Str:=["text","rows","head","place","term","bench","held","asked"]
structure jG (T:Str):Prop where
 len:T.length <= 1000000
 rows:(spl T).length <= 452
 words:∀ r ∈ spl T,(wrd r).length <= 900
def oE (CN:Addr):Sp:=fun us H Q E=>∃ T:Str,us=[.str T] /\ jG T /\
 (∀ (d:Sd) (p:Addr) (H':Hp),d.Ok -> T=d.T -> ar H H' -> d.At H' p -> Q (.ref p) H') /\ ((¬ ∃ d:Sd,d.Ok /\ T=d.T) -> ∀ H',ar H H' -> E (.ref CN) none H')
def lb (H:Hp) (as:List Addr) (ws:List (List Str)):Prop:=Paired (fun a w=>H a=some (.lst (w.map V.str))) as ws
theorem lf {H:Hp}:∀ {hs:List Addr} {ws:List (List Str)},Paired (fun p w=>∃ x,nW w x /\ H p=some (.tup (gW x))) hs ws -> ∃ ps:List (Str × Int),ws=ps.map heW /\ (∀ p ∈ ps,Big p.2) /\ Rows H hs (ps.map gW)
 | _,_,.nil=>⟨[],rfl,fun p h=>(nomatch h),.nil⟩
 | _,_,.cons ⟨x,hx,e⟩ t=>by
  obtain ⟨ps,rfl,hb,hr⟩:=lf t
  refine ⟨x :: ps,by rw [hx.1]; rfl,fun p hp=>?_,.cons e hr⟩
  rcases List.mem_cons.mp hp with rfl | hp
  ·exact hx.2
  ·exact hb p hp
theorem lh {H:Hp}:∀ {hs:List Addr} {ws:List (List Str)},Paired (fun p w=>∃ x,nX w x /\ H p=some (.tup (fW x))) hs ws -> ∃ qs:List (Str × Int × Option Int),ws=qs.map asW /\ (∀ p ∈ qs,QB p) /\ Rows H hs (qs.map fW)
 | _,_,.nil=>⟨[],rfl,fun p h=>(nomatch h),.nil⟩
 | _,_,.cons ⟨x,hx,e⟩ t=>by
  obtain ⟨ps,rfl,hb,hr⟩:=lh t
  refine ⟨x :: ps,by rw [hx.1]; rfl,fun p hp=>?_,.cons e hr⟩
  rcases List.mem_cons.mp hp with rfl | hp
  ·exact hx.2
  ·exact hb p hp
theorem iG {α β:Type} {R:α -> β -> Prop}:∀ {k:Nat} {xs:List α} {ys:List β},Paired R xs ys -> Paired R (xs.drop k) (ys.drop k)
 | 0,_,_,h=>h
 | _ + 1,_,_,.nil=>.nil
 | k + 1,_,_,.cons _ t=>iG (k:=k) t
theorem Paired.filt {α β:Type} {R:α -> β -> Prop} {S:V -> α × β -> Prop} {T:Addr -> β -> Prop} (t:β -> Bool) (hS:∀ p z,S (.ref p) z -> T p z.2):∀ {as:List α} {ws:List β} {hs:List Addr},Paired R as ws -> Paired S (hs.map V.ref) ((as.zip ws).filter fun z=>t z.2) -> Paired T hs (ws.filter t)
 | _,_,hs,.nil,h=>by
  cases hs with
  | nil=>exact .nil
  | cons a r=>cases h
 | _,_,hs,@Paired.cons _ _ _ a w _ _ _ q,h=>by
  rw [List.zip_cons_cons,List.filter_cons] at h
  rw [List.filter_cons]
  cases ht:t w with
  | false =>
   simp only [ht] at h ⊢
   exact Paired.filt t hS q h
  | true =>
   simp only [ht,if_true] at h ⊢
   cases hs with
   | nil=>cases h
   | cons b r =>
    cases h with
    | cons h1 h2=>exact .cons (hS _ _ h1) (Paired.filt t hS q h2)
section
variable {P:Program} {w:World} {K:PySem.W.Frag} {mg:Str -> Option Value} {base:Heap}
theorem scRd:aN nRd ["text"] (ai sRd):=fsc (by decide +kernel)
theorem ndR1:(nRd ++ (["row"]:List Str)).Nodup:=by decide +kernel
theorem ndR2:(nRd ++ (["words"]:List Str)).Nodup:=by decide +kernel
theorem dG {X:Cx} {scope:Scope} {cl:List (Str × Addr)} {N2 ys:List Str} {C:Addr} {s:Shared} {H:Hp} {fp:List Addr}:IxR (cxC X scope cl N2 ys C s H fp) (rIxL X.K):=ay
theorem pe_bmC {X:Cx} {scope:Scope} {cl:List (Str × Addr)} {N2 ys:List Str} {C:Addr} {s:Shared} {H:Hp} {fp:List Addr} {o e:Expr} {es:List Expr} {to:TE} {t:TA} {name:Str} {apos cpos:Pos} {T id:String} {r:V -> List V -> Hp -> VK -> Prop}
  (pa:PlainAttrs T) (slot:Slot T name id) (hty:typeOf (.builtin id)=pure (.type "method_descriptor")) (hm:MtR (cxC X scope cl N2 ys C s H fp) id r) (ho:PE (cxC X scope cl N2 ys C s H fp) o to) (ha:PA (cxC X scope cl N2 ys C s H fp) (e :: es) t)
  (hbase:attributeBase o name (cxC X scope cl N2 ys C s H fp).env (eval o (cxC X scope cl N2 ys C s H fp).env)=eval o (cxC X scope cl N2 ys C s H fp).env:=by rfl)
  (hfew:((backTo cpos (starEach (e :: es) (cxC X scope cl N2 ys C s H fp).env)).all (fun x=>!x.1) && (backToKw cpos (keywordEach [] (cxC X scope cl N2 ys C s H fp).env)).all (fun x=>x.1.isSome)
   && decide ((e :: es).length + ([]:List Keyword).length + (if ([]:List Keyword).isEmpty then 0 else 1) < 30))=true:=by rfl)
  (hline:(apos.endLine == cpos.line)=true:=by rfl) (hs:starEach (e :: es) (cxC X scope cl N2 ys C s H fp).env=(false,eval e (cxC X scope cl N2 ys C s H fp).env) :: starEach es (cxC X scope cl N2 ys C s H fp).env:=by rfl) (hplain:(backTo cpos (starEach es (cxC X scope cl N2 ys C s H fp).env)).any (·.1)=false:=by rfl) :
  PE (cxC X scope cl N2 ys C s H fp) (.Call (.Attribute o name apos) (e :: es) [] cpos) (tBM X.K T r to t):=ck pa slot hty hm ho ha hbase hfew hline hs hplain
theorem ok_rd {f CN:Addr} {fd:FuncData} (F:Fun K "read_stand" "read_stand" sRd f fd) (B:Blt mg) (XN:gI K mg "NoText" CN) (Fw:cb P w K mg base 1 "words_behind" ["words","first","many"] (nV CN)) (Fn:cb P w K mg base 2 "read_number" ["word"] (jB CN))
  (Fb:cb P w K mg base 1 "read_bench" ["words"] (spRb CN)) (Fh:cb P w K mg base 3 "read_held" ["words"] (spRh CN)) (Fa:cb P w K mg base 3 "read_asked" ["words"] (spRa CN)) (Fs:bb P w K mg base 4 "is_stand" fX oh):bG P w K mg base (CXR P w base) 5 f fd ["text"] (oE CN):=by
 refine F.okR scRd (fun us H Q E h=>?_) (fun cdv A outer s H us Q E hr h=>?_)
 ·obtain ⟨T,rfl,_⟩:=h
  rfl
 ·obtain ⟨T,rfl,O,q1,q2⟩:=h
  have nd:=scRd.nd
  have r1:bP 1 _:=hr.mono (by decide)
  have r2:bP 2 _:=hr.mono (by decide)
  have r3:bP 3 _:=hr.mono (by decide)
  refine ⟨_,ag (ps_setC (i:=1) nd rfl (Or.inl rfl) nRd nRd ["row"] (ai sRd) rfl rfl rfl (by decide +kernel) rfl rfl (by decide +kernel) (by decide +kernel) (by decide +kernel) (by decide +kernel)
    (dP (ck PySem.F.plainAttrs_str PySem.F.slot_str_split PySem.F.type_str_split eZ (pv 0) (aa ao af))) (fun _ _ _ _ _=>aH (i:=8) ndR1 rfl (Or.inl rfl)) (fun _ _ _ _ _=>bE)
    (fun _ _ _ _ _=>pe_bmC PySem.F.plainAttrs_str PySem.F.slot_str_split PySem.F.type_str_split eZ (pv 8) (aa ao af)) rfl) <|
   ag (be (aE cN (ax aO (by rfl) B.len PySem.boot_len (aa (pv 1) af)) ac (aC _)) (am (dD jr rfl XN (by rfl) (aa ao af))) aQ) <|
   ag (aw (i:=2) nd rfl (Or.inl rfl) (bv Fw r1 eY (aa (aB ay (pv 1) ac (fun _ _=>rfl)) (aa ao (aa ac af))))) <|
   ag (aw (i:=3) nd rfl (Or.inl rfl) (bv Fn r2 eY (aa (aB ay (pv 2) ac (fun _ _=>rfl)) af))) <|
   ag (aw (i:=4) nd rfl (Or.inl rfl) (bv Fn r2 eY (aa (aB ay (pv 2) ac (fun _ _=>rfl)) af))) <|
   ag (aw (i:=5) nd rfl (Or.inl rfl) (bv Fb r1 eY (aa (aB ay (pv 1) ac (fun _ _=>rfl)) af))) <|
   ag (aw (i:=6) nd rfl (Or.inl rfl) (aT bh (by rfl) B.tuple cg (aa (nO nRd nRd ["words"] (ai sRd) rfl rfl rfl (by decide +kernel) rfl rfl (by decide +kernel) (by decide +kernel) (by decide +kernel) (by decide +kernel)
    (dP (aG bO (pv 1) (aI ac) aV)) (fun _ _ _ _ _=>aH (i:=8) ndR2 rfl (Or.inl rfl)) (fun _ _ _ _ _=>fZ (aE bK (aB dG (pv 8) ac (fun _ _=>rfl)) ao (aC _)))
    rfl rfl rfl passQ (fun _ _ _ _ _ _ hp=>bv (X:=cxE (cxC _ _ _ _ _ _ _ _ _) _) Fh r3 hp (aa (pv 8) af))) af))) <|
   ag (aw (i:=7) nd rfl (Or.inl rfl) (aT bh (by rfl) B.tuple cg (aa (nO nRd nRd ["words"] (ai sRd) rfl rfl rfl (by decide +kernel) rfl rfl (by decide +kernel) (by decide +kernel) (by decide +kernel) (by decide +kernel)
    (dP (aG bO (pv 1) (aI (aj bd ac (ax aO (by rfl) B.len PySem.boot_len (aa (pv 6) af)))) aV)) (fun _ _ _ _ _=>aH (i:=8) ndR2 rfl (Or.inl rfl)) (fun _ _ _ _ _=>bE)
    rfl rfl rfl passQ (fun _ _ _ _ _ _ hp=>bv (X:=cxE (cxC _ _ _ _ _ _ _ _ _) _) Fa r3 hp (aa (pv 8) af))) af))) <|
   ag (be (cm (bV (az Fs hr (aa (pv 3) (aa (pv 4) (aa (pv 5) (aa (pv 6) (aa (pv 7) af)))))))) (am (dD jr rfl XN (by rfl) (aa ao af))) aQ) <|
   am (aF (b9 (aa (pv 3) (aa (pv 4) (aa (pv 5) (aa (pv 6) (aa (pv 7) af))))))),?_⟩
  have hs16:sizeLine=16777216:=sizeLine_eq
  have htl:=O.len
  have hrl:=O.rows
  have one:(1:Nat) <= sizeLine:=by omega
  have kn:(Str.ofString "\n").length ≠ 0:=by decide +kernel
  have ks:(Str.ofString " ").length ≠ 0:=by decide +kernel
  have no:(∀ d:Sd,d.Ok -> wds T=d.W -> False) -> ∀ H',ar H H' -> E (.ref CN) none H':=fun hn=>q2 fun ⟨d,hd,e⟩=>hn d hd (by rw [e]; exact iF hd)
  refine ⟨_,rfl,rfl,_,_,rfl,rfl,kn,by omega,(show (spl T).length <= sizeLine by omega),Nat.le_trans (fc _ _) (by omega),fun l hl=>⟨l,rfl,⟨_,SqL.of au⟩,?_⟩⟩
  refine lcG (β:=Str) V.str (fun _=>true) (xs:=spl T) (fun D r u H=>∃ p,u=.ref p /\ p ≠ D /\ H p=some (.lst ((wrd r).map V.str))) (fun D x y Ha Hb e h=>?_) rfl ?_ ?_ (fun D x ys Ha post _ _ _ _ h=>h _ (ar.refl _)) (fun D x ys Ha post hD hx _ sa ha hp=>?_) (fun D H1 us hD s1 hD1 hP=>?_)
  ·obtain ⟨p,h1,h2,h3⟩:=h
   exact ⟨p,h1,h2,e p _ h2 h3⟩
  ·rw [au]
   rfl
  ·omega
  ·have hxl:=oA hx
   have hwl:=O.words x hx
   refine ⟨_,rfl,rfl,_,_,rfl,rfl,ks,by omega,(show (wrd x).length <= sizeLine by omega),Nat.le_trans (fc _ _) (by omega),fun p hp'=>hp _ _ (ar.new hp') ⟨p,rfl,fun e=>?_,au⟩⟩
   rw [e,ha] at hp'
   exact absurd hp' (by simp)
  rw [List.filter_eq_self.mpr (fun _ _=>rfl)] at hP
  obtain ⟨as,rfl,hR⟩:=Paired.refs hP
  have hR:lb H1 as (wds T):=Paired.mapR (Paired.imp' (fun _ _ h=>h.2) hR)
  have s1:ar H H1:=(ar.new hl).trans s1
  clear hP
  have hwl:(wds T).length=(spl T).length:=List.length_map ..
  have hW:∀ ws ∈ wds T,ws ≠ [] /\ ws.length <= 900 /\ ∀ x ∈ ws,x.length <= 1000000:=fun ws h=>by
   obtain ⟨r,hr',rfl⟩:=List.mem_map.mp h
   exact ⟨i7 r,O.words r hr',fun x hx=>Nat.le_trans (hG hx) (Nat.le_trans (oA hr') O.len)⟩
  have hal:as.length=(wds T).length:=Paired.length hR
  refine ⟨_,rfl,D,_,rfl,.inl (SqL.of hD1),_,_,rfl,rfl,_,rfl,bz (fun z=>?_) (fun z=>?_)⟩
  ·have:=of_decide_eq_true z
   rw [List.length_map,hal] at this
   refine ⟨one,no (fun d hd e=>?_) H1 s1⟩
   rw [e] at this
   unfold Sd.W cZ at this
   simp only [List.length_cons] at this
   omega
  have h2:2 <= (wds T).length:=by
   have:¬ (((as.map V.ref).length:Nat):Int) < 2:=fun h=>z (decide_eq_true h)
   rw [List.length_map,hal] at this
   omega
  obtain ⟨w0,w1,W2,eW⟩:∃ w0 w1 W2,wds T=w0 :: w1 :: W2:=by
   match wds T,h2 with
   | w0 :: w1 :: W2,_=>exact ⟨w0,w1,W2,rfl⟩
  rw [eW] at hR hW hwl no
  have hW2l:W2.length <= 450:=by simp only [List.length_cons] at hwl; omega
  obtain ⟨a0,as,rfl,h0,hR⟩:∃ a r,as=a :: r /\ H1 a=some (.lst (w0.map V.str)) /\ lb H1 r _:=by
   cases hR with
   | cons h t=>exact ⟨_,_,rfl,h,t⟩
  obtain ⟨a1,as,rfl,h1,hR⟩:∃ a r,as=a :: r /\ H1 a=some (.lst (w1.map V.str)) /\ lb H1 r _:=by
   cases hR with
   | cons h t=>exact ⟨_,_,rfl,h,t⟩
  have hw0:=hW w0 (by simp)
  have hw1:=hW w1 (by simp)
  refine ⟨_,rfl,D,_,_,_,rfl,rfl,SqL.of hD1,at0,a0,w0,_,2,rfl,⟨h0,hw0.1,hw0.2.1,hw0.2.2⟩,(by decide +kernel),(by decide),fun r p2 H2 e0 hr2 s2 e2=>?_,fun hn H2 s2=>no (fun d hd e=>hn ⟨_,(List.cons.inj e).1,rfl⟩) H2 (s1.trans s2)⟩
  obtain ⟨x0,x1,rfl⟩:=kW hr2
  have hx0:x0.length <= 1000000:=hw0.2.2 x0 (by rw [e0]; simp)
  have hx1:x1.length <= 1000000:=hw0.2.2 x1 (by rw [e0]; simp)
  have st0:∀ d:Sd,w0 :: w1 :: W2=d.W -> x0=aR d.n /\ x1=aR d.t:=fun d e=>by
   have e:=(List.cons.inj e).1
   rw [e0] at e
   simp only [List.cons.injEq] at e
   exact ⟨e.2.1,e.2.2.1⟩
  refine ⟨_,rfl,p2,_,_,_,rfl,rfl,SqL.of e2,at0,x0,rfl,by omega,fun n H3 en nb s3=>?_,fun hn H3 s3=>no (fun d hd e=>hn ⟨_,hd.g.nb,(st0 d e).1⟩) H3 (s1.trans (s2.trans s3))⟩
  refine ⟨_,rfl,p2,_,_,_,rfl,rfl,SqL.of (s3 _ _ e2),at1,x1,rfl,by omega,fun t H4 et tb s4=>?_,fun hn H4 s4=>no (fun d hd e=>hn ⟨_,hd.g.tb,(st0 d e).2⟩) H4 (s1.trans (s2.trans (s3.trans s4)))⟩
  have s14:=s2.trans (s3.trans s4)
  refine ⟨_,rfl,D,_,_,_,rfl,rfl,SqL.of (s14 _ _ hD1),at1,a1,w1,rfl,⟨s14 _ _ h1,hw1.1,hw1.2.1,hw1.2.2⟩,fun vs cs ls b H5 hbw s5 _ hb=>?_,fun hn H5 s5=>no (fun d hd e=>hn ⟨_,_,_,(List.cons.inj (List.cons.inj e).2).1,dJ hd.g.nv,dJ hd.g.nc,dJ hd.g.nl⟩) H5 (s1.trans (s14.trans s5))⟩
  have s15:=s14.trans s5
  refine ⟨_,rfl,_,rfl,D,_,rfl,SqL.of (s15 _ _ hD1),fun l6 hl6=>⟨l6,rfl,⟨_,SqL.of au⟩,?_⟩⟩
  have c2:bB ((a0 :: a1 :: as).map V.ref) (some 2) none=as.map V.ref:=by
   rw [show (some 2:Option Int)=some ((2:Nat):Int) from rfl,nY (by simp)]
   rfl
  have s16:=s15.trans (ar.new (o:=.lst (bB ((a0 :: a1 :: as).map V.ref) (some 2) none)) hl6)
  have hRW:∀ z ∈ as.zip W2,H1 z.1=some (.lst (z.2.map V.str)):=Paired.zip hR
  have inW:∀ z ∈ as.zip W2,z.2 ∈ W2:=fun z hz=>(List.of_mem_zip (show (z.1,z.2) ∈ _ from hz)).2
  have W2d:∀ d:Sd,w0 :: w1 :: W2=d.W -> W2=d.ps.map heW ++ d.qs.map asW:=fun d e=>(List.cons.inj (List.cons.inj e).2).2
  refine lcG (β:=Addr × List Str) (fun z=>V.ref z.1) (fun z=>isH z.2) (xs:=as.zip W2) (fun D z u H=>∃ p,u=.ref p /\ p ≠ D /\ ∃ x,nW z.2 x /\ H p=some (.tup (gW x))) (fun D x y Ha Hb e h=>?_) rfl ?_ ?_ (fun D x ys Ha post _ hx sa _ h=>?_) (fun D x ys Ha post hD hx hL sa ha hp=>?_) (fun D7 H7 us hD7 s7 hD71 hP=>?_)
  ·obtain ⟨p,h1,h2,x,h3,h4⟩:=h
   exact ⟨p,h1,h2,x,h3,e p _ h2 h4⟩
  ·rw [au,c2]
   have:=Paired.fst hR
   rw [<- this,List.map_map]
   congr 1
   rw [this]
   rfl
  ·rw [List.length_zip]
   omega
  ·have hx':=sa _ _ (s16 _ _ (hRW x hx))
   obtain ⟨y,r,ey⟩:∃ y r,x.2=y :: r:=by
    cases hx2:x.2 with
    | nil=>exact absurd hx2 (hW x.2 (List.mem_cons_of_mem _ (List.mem_cons_of_mem _ (inW x hx)))).1
    | cons y r=>exact ⟨y,r,rfl⟩
   rw [ey] at hx'
   refine ⟨_,rfl,x.1,_,_,_,rfl,rfl,SqL.of hx',at0,rfl,_,rfl,?_⟩
   have e5:decide (V.str y=V.str (Str.ofString "held"))=isH x.2:=by
    unfold isH
    rw [ey,Bool.eq_iff_iff,decide_eq_true_iff,decide_eq_true_iff]
    exact ⟨fun e=>congrArg some (fh e),fun e=>congrArg V.str (Option.some.inj e)⟩
   rw [e5]
   exact h _ (ar.refl _)
  ·have hx':=sa _ _ (s16 _ _ (hRW x hx))
   have hw:=hW x.2 (List.mem_cons_of_mem _ (List.mem_cons_of_mem _ (inW x hx)))
   refine ⟨_,rfl,x.1,x.2,rfl,⟨hx',hw.1,hw.2.1,hw.2.2⟩,fun y p Hb hy sb hpn hp'=>hp _ _ sb ⟨p,rfl,fun e=>?_,y,hy,hp'⟩,fun hn Hb sb=>no (fun d hd e=>?_) Hb (s1.trans (s16.trans (sa.trans sb)))⟩
   ·rw [e,ha] at hpn
    exact absurd hpn (by simp)
   ·have hm:=inW x hx
    rw [W2d d e] at hm
    rcases List.mem_append.mp hm with hm | hm
    ·obtain ⟨y,hy,ey⟩:=List.mem_map.mp hm
     exact hn ⟨y,ey.symm,hd.g.pb y hy⟩
    ·obtain ⟨y,hy,ey⟩:=List.mem_map.mp hm
     rw [<- ey,fJ] at hL
     exact absurd hL Bool.false_ne_true
  obtain ⟨hs,rfl,-⟩:=Paired.refs hP
  have hP2:Paired (fun p w=>∃ x,nW w x /\ H7 p=some (.tup (gW x))) hs (W2.filter isH):=Paired.filt isH (fun p z h=>by
   obtain ⟨p',e1,_,h3⟩:=h
   cases e1
   exact h3) hR hP
  obtain ⟨ps,ef,pb,hH⟩:=lf hP2
  clear hP hP2
  refine ⟨D7,_,rfl,SqL.of hD71,fun h8 H8 _ s8 e8=>?_⟩
  have s18:=s16.trans (s7.trans s8)
  have hpl:ps.length <= W2.length:=by
   have:=List.length_filter_le isH W2
   rw [ef,List.length_map] at this
   exact this
  have hhl:hs.length=ps.length:=by
   have:=hH.len
   rw [List.length_map] at this
   exact this
  have haw:as.length=W2.length:=Paired.length hR
  have c3:bB ((a0 :: a1 :: as).map V.ref) (some (2 + ((hs.map V.ref).length:Nat))) none=(as.drop ps.length).map V.ref:=by
   have e:(2 + (((hs.map V.ref).length:Nat):Int))=((2 + ps.length:Nat):Int):=by rw [List.length_map,hhl]; omega
   rw [e,nY (by simp only [List.length_map,List.length_cons]; omega),<- List.map_drop,show 2 + ps.length=(ps.length + 1) + 1 by omega,List.drop_succ_cons,List.drop_succ_cons]
  refine ⟨_,rfl,_,rfl,h8,_,rfl,.inr (SqT.of e8),_,_,rfl,rfl,_,rfl,D,_,rfl,SqL.of (s18 _ _ hD1),fun l9 hl9=>⟨l9,rfl,⟨_,SqL.of au⟩,?_⟩⟩
  have s19:=s18.trans (ar.new (o:=.lst (bB ((a0 :: a1 :: as).map V.ref) (some (2 + ((hs.map V.ref).length:Nat))) none)) hl9)
  have hR3:lb H1 (as.drop ps.length) (W2.drop ps.length):=iG hR
  have hBW:∀ z ∈ (as.drop ps.length).zip (W2.drop ps.length),H1 z.1=some (.lst (z.2.map V.str)):=Paired.zip hR3
  have inW3:∀ z ∈ (as.drop ps.length).zip (W2.drop ps.length),z.2 ∈ W2.drop ps.length:=fun z hz=>(List.of_mem_zip (show (z.1,z.2) ∈ _ from hz)).2
  have psd:∀ d:Sd,d.Ok -> w0 :: w1 :: W2=d.W -> ps=d.ps:=fun d hd e=>by
   have h:=ef
   rw [W2d d e,hJ] at h
   exact (i9 hd.g.pb pb h).symm
  refine lcG (β:=Addr × List Str) (fun z=>V.ref z.1) (fun z=>true) (xs:=(as.drop ps.length).zip (W2.drop ps.length)) (fun D z u H=>∃ p,u=.ref p /\ p ≠ D /\ ∃ x,nX z.2 x /\ H p=some (.tup (fW x))) (fun D x y Ha Hb e h=>?_) rfl ?_ ?_ (fun D x ys Ha post _ hx sa _ h=>h _ (ar.refl _)) (fun D x ys Ha post hD hx hL sa ha hp=>?_) (fun D10 H10 us hD10 s10 hD101 hP=>?_)
  ·obtain ⟨p,h1,h2,x,h3,h4⟩:=h
   exact ⟨p,h1,h2,x,h3,e p _ h2 h4⟩
  ·rw [au,c3]
   have:=Paired.fst hR3
   rw [<- this,List.map_map]
   congr 1
   rw [this]
   rfl
  ·rw [List.length_zip,List.length_drop,List.length_drop]
   omega
  ·have hx':=sa _ _ (s19 _ _ (hBW x hx))
   have hw:=hW x.2 (List.mem_cons_of_mem _ (List.mem_cons_of_mem _ (List.mem_of_mem_drop (inW3 x hx))))
   refine ⟨_,rfl,x.1,x.2,rfl,⟨hx',hw.1,hw.2.1,hw.2.2⟩,fun y p Hb hy sb hpn hp'=>hp _ _ sb ⟨p,rfl,fun e=>?_,y,hy,hp'⟩,fun hn Hb sb=>no (fun d hd e=>?_) Hb (s1.trans (s19.trans (sa.trans sb)))⟩
   ·rw [e,ha] at hpn
    exact absurd hpn (by simp)
   ·have hm:=inW3 x hx
    rw [W2d d e,psd d hd e,List.drop_left' (by rw [List.length_map])] at hm
    obtain ⟨y,hy,ey⟩:=List.mem_map.mp hm
    exact hn ⟨y,ey.symm,hd.g.qb y hy⟩
  obtain ⟨ks',rfl,-⟩:=Paired.refs hP
  have hP2:Paired (fun p w=>∃ x,nX w x /\ H10 p=some (.tup (fW x))) ks' ((W2.drop ps.length).filter fun _=>true):=Paired.filt (fun _=>true) (fun p z h=>by
   obtain ⟨p',e1,_,h3⟩:=h
   cases e1
   exact h3) hR3 hP
  rw [List.filter_eq_self.mpr (fun _ _=>rfl)] at hP2
  obtain ⟨qs,eq3,qb,hK⟩:=lh hP2
  clear hP hP2
  refine ⟨D10,_,rfl,SqL.of hD101,fun h11 H11 _ s11 e11=>?_⟩
  have s8b:ar H8 H11:=(ar.new hl9).trans (s10.trans s11)
  have hHe:kh H11 h8 ps:=⟨hs,s8b _ _ e8,Rows.same (s8.trans s8b) hH⟩
  have hAs:og H11 h11 qs:=⟨ks',e11,Rows.same s11 hK⟩
  have s5b:ar H5 H11:=((ar.new hl6).trans (s7.trans s8)).trans s8b
  have hb11:BnT H11 b vs cs ls:=by
   obtain ⟨v,c,l,b1,b2,b3,b4⟩:=hb
   exact ⟨v,c,l,s5b _ _ b1,s5b _ _ b2,s5b _ _ b3,s5b _ _ b4⟩
  have hqlen:qs.length=W2.length - ps.length:=by
   have:=congrArg List.length eq3
   rw [List.length_drop,List.length_map] at this
   exact this.symm
  have eW2:W2=ps.map heW ++ qs.map asW:=by
   have h1:=mt (p:=isH) ef (k:=ps.length) (by rw [List.length_map]) (fun x hx=>by
    rw [eq3] at hx
    obtain ⟨y,_,rfl⟩:=List.mem_map.mp hx
    exact fJ y)
   rw [<- List.take_append_drop ps.length W2,h1,eq3]
  have hWd:wds T=(Sd.mk n t vs cs ls ps qs).W:=by
   rw [eW,eW2,hbw.1,e0,en,et]
   rfl
  have szB:∀ x ∈ vs ++ (cs ++ ls),x.length <= sizeLine:=fun x hx=>by
   have:x ∈ w1:=by
    rw [hbw.1]
    unfold bw
    rcases List.mem_append.mp hx with h | h
    ·exact List.mem_cons_of_mem _ (List.mem_append_left _ h)
    rcases List.mem_append.mp h with h | h
    ·exact List.mem_cons_of_mem _ (List.mem_append_right _ (List.mem_cons_of_mem _ (List.mem_append_left _ h)))
    ·exact List.mem_cons_of_mem _ (List.mem_append_right _ (List.mem_cons_of_mem _ (List.mem_append_right _ (List.mem_cons_of_mem _ h))))
   have:=hw1.2.2 x this
   omega
  have lnB:vs.length <= 900 /\ cs.length <= 900 /\ ls.length <= 900:=by
   have h1:=hw1.2.1
   rw [hbw.1,dH] at h1
   omega
  have szP:∀ p ∈ ps,p.1.length <= sizeLine:=fun p hp=>by
   have hm:heW p ∈ W2:=by rw [eW2]; exact List.mem_append_left _ (List.mem_map_of_mem hp)
   have:=(hW (heW p) (List.mem_cons_of_mem _ (List.mem_cons_of_mem _ hm))).2.2 p.1 (by unfold heW; simp)
   omega
  have szQ:∀ p ∈ qs,p.1.length <= sizeLine:=fun p hp=>by
   have hm:asW p ∈ W2:=by rw [eW2]; exact List.mem_append_right _ (List.mem_map_of_mem hp)
   have:=(hW (asW p) (List.mem_cons_of_mem _ (List.mem_cons_of_mem _ hm))).2.2 p.1 (by unfold asW; simp)
   omega
  have sAll:=s1.trans (s15.trans s5b)
  refine ⟨_,rfl,_,rfl,_,rfl,_,rfl,_,rfl,n,t,b,h8,h11,vs,cs,ls,ps,qs,rfl,hb11,hHe,hAs,lnB,szB,⟨by omega,by omega⟩,szP,szQ,fun H12 s12=>?_⟩
  refine ⟨_,rfl,ke (fun hb=>?_) (fun hb=>?_)⟩
  ·have hb:stB n t vs cs ls ps qs=false:=by simpa using hb
   refine ⟨one,no (fun d hd e=>?_) H12 (sAll.trans s12)⟩
   rw [<- eW,hWd] at e
   have hg:=good_st hd.g hd.o
   have h1:=List.cons.inj (show [Str.ofString "stand",aR n,aR t] :: _=[Str.ofString "stand",aR d.n,aR d.t] :: _ from e)
   have h2:=h1.1
   simp only [List.cons.injEq] at h2
   have h3:=List.cons.inj h1.2
   obtain ⟨f1,f2,f3⟩:=fI hbw.2.1 hbw.2.2.1 (dJ hd.g.nv) (dJ hd.g.nc) h3.1
   have f4:=congrArg (List.filter isH) h3.2
   rw [hJ,hJ] at f4
   have f5:=i9 pb hd.g.pb f4
   have f6:=h3.2
   rw [f4] at f6
   have f7:=kr qb (fun p hp=>hd.g.qb p hp) (List.append_cancel_left f6)
   rw [<- f1,<- f2,<- f3,<- f5,<- f7,<- cC nb hd.g.nb h2.2.1,<- cC tb hd.g.tb h2.2.2.1,hb] at hg
   exact absurd hg (by decide)
  have hb:stB n t vs cs ls ps qs=true:=by simpa using hb
  obtain ⟨G,Ob⟩:=st_good hb (by omega) (by omega) nb tb pb qb
  refine ⟨_,rfl,_,rfl,_,rfl,_,rfl,_,rfl,(show 5 <= sizeLine by omega),fun p13 H13 _ s13 e13=>?_⟩
  have sA:=s12.trans s13
  refine q1 ⟨n,t,vs,cs,ls,ps,qs⟩ p13 H13 ⟨G,Ob⟩ (T_of hWd) (sAll.trans sA) ⟨b,h8,h11,e13,?_,?_,?_⟩
  ·obtain ⟨v,c,l,b1,b2,b3,b4⟩:=hb11
   exact Ob.at' ⟨v,c,l,sA _ _ b1,sA _ _ b2,sA _ _ b3,sA _ _ b4⟩
  ·obtain ⟨as',h,r⟩:=hHe
   exact ⟨as',sA _ _ h,Rows.same sA r⟩
  ·obtain ⟨as',h,r⟩:=hAs
   exact ⟨as',sA _ _ h,Rows.same sA r⟩
end
end K28
namespace L2
open PySem
theorem Paired.atL {α β:Type} {R:α -> β -> Prop}:∀ {xs:List α} {ys:List β} {i:Nat} {x:α},Paired R xs ys -> xs[i]?=some x -> ∃ y,ys[i]?=some y /\ R x y
 | _,_,0,y,.cons h t,e=>⟨_,rfl,by cases e; exact h⟩
 | _,_,i + 1,y,.cons h t,e=>Paired.atL (i:=i) t (by simpa using e)
 | _,_,_,_,.nil,e=>by simp at e
end L2
namespace K28
open PySem L2
abbrev sTx:Stmt:=top 48
abbrev nTx:List Str:=["_law_stand_here","_law_place","_law_term","_law_bench_here","_law_held","_law_asked","_law_text_here","_law_k","_law_name","_law_key","_law_number_here","_law_asker","_law_answer"]
def spTx:Sp:=fun us H Q _=>∃ (s:Addr) (n t:Int) (vs cs ls:List Str) (ps:List (Str × Int)) (qs:List (Str × Int × Option Int)),us=[.ref s] /\ StAt H s n t vs cs ls ps qs /\ ij n t vs cs ls ps qs /\ (ps.length <= 24 /\ qs.length <= 24) /\ Q (.str (Txt.join (Str.ofString "\n") (bS n t vs cs ls ps qs))) H
def fl (xs:List Str):List Nat:=xs.flatMap fun x=>32 :: x.cps.toList
def hL (p:Str × Int):List Nat:=10 :: (heS p.1 p.2).cps.toList
def aL (p:Str × Int × Option Int):List Nat:=10 :: (asS p.1 p.2.1 p.2.2).cps.toList
def bL (n t:Int):List Nat:=(stS n t).cps.toList ++ 10 :: (Str.ofString "bench").cps.toList
def seg (vs cs ls:List Str):Nat -> List Nat
 | 0=>[]
 | 1=>fl vs ++ [32,47]
 | 2=>fl vs ++ [32,47] ++ (fl cs ++ [32,47])
 | _=>fl vs ++ [32,47] ++ (fl cs ++ [32,47]) ++ fl ls
theorem sl_cps:SL.cps.toList=[47]:=by decide +kernel
theorem oF (vs cs ls:List Str):(Txt.join (Str.ofString " ") (bw vs cs ls)).cps.toList=(Str.ofString "bench").cps.toList ++ seg vs cs ls 3:=by
 unfold bw
 rw [bW,tjF]
 simp only [List.flatMap_append,List.flatMap_cons,sl_cps,seg,fl,List.append_assoc,List.cons_append,List.nil_append]
theorem text_eq (n t:Int) (vs cs ls:List Str) (ps:List (Str × Int)) (qs:List (Str × Int × Option Int)):(Txt.join (Str.ofString "\n") (bS n t vs cs ls ps qs)).cps.toList=bL n t ++ seg vs cs ls 3 ++ ps.flatMap hL ++ qs.flatMap aL:=by
 rw [eA]
 unfold bS
 rw [show [stS n t,Txt.join (Str.ofString " ") (bw vs cs ls)] ++ (ps.map fun p=>heS p.1 p.2) ++ (qs.map fun p=>asS p.1 p.2.1 p.2.2)=stS n t :: Txt.join (Str.ofString " ") (bw vs cs ls) :: ((ps.map fun p=>heS p.1 p.2) ++ (qs.map fun p=>asS p.1 p.2.1 p.2.2)) from rfl]
 rw [tjF,List.flatMap_cons,List.flatMap_append,List.flatMap_map,List.flatMap_map,oF]
 unfold bL
 simp only [List.append_assoc,List.cons_append]
 rfl
theorem fl_snoc {xs:List Str} {i:Nat} {x:Str} (h:xs[i]?=some x):fl (xs.take (i + 1))=fl (xs.take i) ++ 32 :: x.cps.toList:=by
 unfold fl
 rw [List.take_add_one,h,List.flatMap_append]
 simp
theorem jb {α:Type} {f:α -> List Nat} {xs:List α} {i:Nat} {x:α} (h:xs[i]?=some x):(xs.take (i + 1)).flatMap f=(xs.take i).flatMap f ++ f x:=by
 rw [List.take_add_one,h,List.flatMap_append]
 simp
theorem nh_cps:(Str.ofString "\nheld ").cps.toList=10 :: (Str.ofString "held ").cps.toList:=by decide +kernel
theorem oG:(Str.ofString "\nasked ").cps.toList=10 :: (Str.ofString "asked ").cps.toList:=by decide +kernel
theorem nb_cps:(Str.ofString "\nbench").cps.toList=10 :: (Str.ofString "bench").cps.toList:=by decide +kernel
theorem ss_cps:(Str.ofString " /").cps.toList=[32,47]:=by decide +kernel
theorem hL_eq (p:Str × Int):hL p=10 :: ((Str.ofString "held ").cps.toList ++ (p.1.cps.toList ++ 32 :: (Str.ofString (toString p.2)).cps.toList)):=by
 unfold hL heS aR
 simp only [aM,eN,ci,List.append_assoc,List.nil_append,List.cons_append]
theorem aL_eq (x:Str) (n:Int) (o:Option Int):aL (x,n,o)=10 :: ((Str.ofString "asked ").cps.toList ++ (x.cps.toList ++ 32 :: ((Str.ofString (toString n)).cps.toList ++ 32 :: (fV o).cps.toList))):=by
 unfold aL asS aR
 simp only [aM,eN,ci,List.append_assoc,List.nil_append,List.cons_append]
def pt (vs cs ls:List Str):Nat -> List Str
 | 0=>vs
 | 1=>cs
 | _=>ls
theorem oH (vs cs ls:List Str):∀ k,k < 3 -> seg vs cs ls (k + 1)=seg vs cs ls k ++ fl (pt vs cs ls k) ++ if k < 2 then [32,47] else []
 | 0,_=>by simp [seg,pt]
 | 1,_=>by simp [seg,pt]
 | 2,_=>by simp [seg,pt]
 | k + 3,h=>by omega
abbrev stTx (s b h k:Addr) (n t:Int) (z:Str) (kv nm ky nu ak an:Option V):St:=[some (.ref s),some (.int n),some (.int t),some (.ref b),some (.ref h),some (.ref k),some (.str z),kv,nm,ky,nu,ak,an]
section
variable {P:Program} {w:World} {K:PySem.W.Frag} {mg:Str -> Option Value} {base:Heap}
theorem scTx:aN nTx ["_law_stand_here"] (ai sTx):=fsc (by decide +kernel)
theorem ok_tx {f:Addr} {fd:FuncData} (F:Fun K "_law_text" "_law_text" sTx f fd) (B:Blt mg):bG P w K mg base CX0 1 f fd ["_law_stand_here"] spTx:=by
 refine F.ok scTx (fun us H Q E h=>?_) (fun cdv A outer s H us Q E hr h=>?_)
 ·obtain ⟨s0,n,t,vs,cs,ls,ps,qs,rfl,_⟩:=h
  rfl
 ·obtain ⟨s0,n,t,vs,cs,ls,ps,qs,rfl,⟨b,h,k,hst,hB,⟨as,hh,ha⟩,⟨ks,hk,hq⟩⟩,G,⟨hpl,hq24⟩,q⟩:=h
  have nd:=scTx.nd
  refine ⟨_,ag (ps_asg (pv 0) (iR rfl (aX (aH (i:=1) nd rfl (Or.inl rfl)) (aX (aH (i:=2) nd rfl (Or.inl rfl)) (aX (aH (i:=3) nd rfl (Or.inl rfl)) (aX (aH (i:=4) nd rfl (Or.inl rfl)) (aX (aH (i:=5) nd rfl (Or.inl rfl)) cG))))))) <|
   ag (aw (i:=6) nd rfl (Or.inl rfl) (aj aq (aj aq (aj aq (aj aq ao (aT bQ (by rfl) B.str j7 (aa (pv 1) af))) ao) (aT bQ (by rfl) B.str j7 (aa (pv 2) af))) ao)) <|
   ag (eG PassesOwn.never rfl (de rfl B.range (aa ac af)) (aH (i:=7) nd rfl (Or.inl rfl)) <|
    ag (eG PassesOwn.never rfl (cM (aB bN (pv 3) (pv 7) (fun _ _=>rfl))) (aH (i:=8) nd rfl (Or.inl rfl)) <|
     am (aw (i:=6) nd rfl (Or.inl rfl) (aj aq (aj aq (pv 6) ao) (pv 8)))) <|
    am (be (aE cN (pv 7) ac (aC _)) (am (aw (i:=6) nd rfl (Or.inl rfl) (aj aq (pv 6) ao))) aQ)) <|
   ag (eG PassesOwn.never rfl (cM (pv 4)) (iR rfl (aX (aH (i:=9) nd rfl (Or.inl rfl)) (aX (aH (i:=10) nd rfl (Or.inl rfl)) cG))) <|
    am (aw (i:=6) nd rfl (Or.inl rfl) (aj aq (aj aq (aj aq (aj aq (pv 6) ao) (pv 9)) ao) (aT bQ (by rfl) B.str j7 (aa (pv 10) af))))) <|
   ag (eG PassesOwn.never rfl (cM (pv 5)) (iR rfl (aX (aH (i:=11) nd rfl (Or.inl rfl)) (aX (aH (i:=10) nd rfl (Or.inl rfl)) (aX (aH (i:=12) nd rfl (Or.inl rfl)) cG)))) <|
    ag (aw (i:=6) nd rfl (Or.inl rfl) (aj aq (aj aq (aj aq (aj aq (aj aq (pv 6) ao) (pv 11)) ao) (aT bQ (by rfl) B.str j7 (aa (pv 10) af))) ao)) <|
    am (be (jS (jR (pv 12))) (am (aw (i:=6) nd rfl (Or.inl rfl) (aj aq (pv 6) ao))) (am (aw (i:=6) nd rfl (Or.inl rfl) (aj aq (pv 6) (aT bQ (by rfl) B.str j7 (aa (pv 12) af))))))) <|
   am (aF (pv 6)),?_⟩
  have hs16:sizeLine=16777216:=sizeLine_eq
  have k1:(Str.ofString "stand ").length=6:=by decide +kernel
  have k2:(Str.ofString " ").length=1:=by decide +kernel
  have k3:(Str.ofString "\nbench").length=6:=by decide +kernel
  have k4:(Str.ofString " /").length=2:=by decide +kernel
  have k5:(Str.ofString "\nheld ").length=6:=by decide +kernel
  have k6:(Str.ofString "\nasked ").length=7:=by decide +kernel
  have k7:(Str.ofString "-").length=1:=by decide +kernel
  have hnl:=bj G.nb
  have htl:=bj G.tb
  have hal:=ha.len
  have hql:=hq.len
  rw [List.length_map] at hal hql
  obtain ⟨⟨v,c,l,b1,b2,b3,b4⟩,_,_,_,a4,a5,a6,a7,a8⟩:=hB
  refine ⟨_,rfl,s0,_,rfl,SqT.of hst,rfl,_,[_,_,_,_],rfl,_,[_,_,_],rfl,_,[_,_],rfl,_,[_],rfl,_,[],rfl,rfl,?_⟩
  refine ⟨_,rfl,n,rfl,cD G.nb,_,_,rfl,rfl,(show (Str.ofString "stand ").length + (aR n).length <= sizeLine by omega),_,_,rfl,rfl,(by simp only [Str.length_append]; show (Str.ofString "stand ").length + (aR n).length + (Str.ofString " ").length <= sizeLine; omega),?_⟩
  refine ⟨_,rfl,t,rfl,cD G.tb,_,_,rfl,rfl,(by simp only [Str.length_append]; show (Str.ofString "stand ").length + (aR n).length + (Str.ofString " ").length + (aR t).length <= sizeLine; omega),_,_,rfl,rfl,(by simp only [Str.length_append]; show (Str.ofString "stand ").length + (aR n).length + (Str.ofString " ").length + (aR t).length + (Str.ofString "\nbench").length <= sizeLine; omega),?_⟩
  obtain ⟨z0,hz0⟩:∃ z0:Str,z0=Str.ofString "stand " ++ aR n ++ Str.ofString " " ++ aR t ++ Str.ofString "\nbench":=⟨_,rfl⟩
  have z0l:z0.length <= 300:=by
   rw [hz0]
   simp only [Str.length_append]
   omega
  have z0e:z0.cps.toList=bL n t:=by
   rw [hz0]
   unfold bL stS
   simp only [aM,eN,nb_cps,List.nil_append]
  refine ⟨3,rfl,by decide,by decide,fz (lo:=0) (n:=3) (fun i σ H'=>H'=H /\ ∃ (z:Str) (kv nm:Option V),σ=stTx s0 b h k n t z kv nm none none none none /\ z.cps.toList=bL n t ++ seg vs cs ls i /\ z.length <= 300 + 100 * i) ⟨rfl,z0,none,none,by rw [hz0]; rfl,by rw [z0e]; simp [seg],by omega⟩ ?_ ?_⟩
  ·rintro i σ H' hi ⟨rfl,z,kv,nm,rfl,hz,hzl⟩
   obtain ⟨ad,had,hadt⟩:∃ ad,atI [V.ref v,V.ref c,V.ref l] (0 + (i:Int))=some (.ref ad) /\ H' ad=some (.tup ((pt vs cs ls i).map V.str)):=by
    match i,hi with
    | 0,_=>exact ⟨v,rfl,b2⟩
    | 1,_=>exact ⟨c,rfl,b3⟩
    | 2,_=>exact ⟨l,rfl,b4⟩
   have hpt:(∀ x ∈ pt vs cs ls i,Nm x) /\ (pt vs cs ls i).length <= 7:=by
    match i,hi with
    | 0,_=>exact ⟨G.nv,by show vs.length <= 7; omega⟩
    | 1,_=>exact ⟨G.nc,by show cs.length <= 7; omega⟩
    | 2,_=>exact ⟨G.nl,by show ls.length <= 7; omega⟩
   refine ⟨_,rfl,_,rfl,b,_,_,_,rfl,rfl,SqT.of b1,had,ad,rfl,⟨_,SqT.of hadt⟩,?_⟩
   refine iS (K:=K) (a:=ad) (xs:=(pt vs cs ls i).map V.str) (fun j σ H2=>H2=H' /\ ∃ (z:Str) (nm:Option V),σ=stTx s0 b h k n t z (some (.int (0 + i))) nm none none none none /\ z.cps.toList=bL n t ++ seg vs cs ls i ++ fl ((pt vs cs ls i).take j) /\ z.length <= 300 + 100 * i + 9 * j)
    ⟨rfl,z,nm,rfl,by rw [hz]; simp [fl],by omega⟩ (fun j σ H2 _ e=>by rw [e.1]; exact SqT.of hadt) ?_ ?_
   ·rintro j x σ H2 hx ⟨rfl,z,nm,rfl,hz,hzl⟩
    rw [List.getElem?_map] at hx
    obtain ⟨y,hy,rfl⟩:=Option.map_eq_some_iff.mp hx
    have hj:=(List.getElem?_eq_some_iff.mp hy).1
    have y8:=(hpt.1 y (List.mem_of_getElem? hy)).2.1
    refine ⟨_,rfl,_,_,rfl,rfl,by omega,_,rfl,_,_,rfl,rfl,by rw [Str.length_append]; omega,rfl,_,_,rfl,?_,?_⟩
    ·rw [aM,aM,hz,ci,fl_snoc hy]
     simp
    ·simp only [Str.length_append]
     omega
   ·rintro σ H2 ⟨rfl,z,nm,rfl,hz,hzl⟩
    rw [List.length_map] at hz hzl
    rw [List.take_length] at hz
    have hp7:=hpt.2
    have hss:=oH vs cs ls i hi
    refine ⟨_,rfl,_,_,rfl,rfl,_,rfl,bz (fun c=>?_) (fun c=>?_)⟩
    ·have c':i < 2:=by have:=of_decide_eq_true c; omega
     rw [if_pos c'] at hss
     refine ⟨_,rfl,_,_,rfl,rfl,by omega,rfl,_,_,_,rfl,?_,?_⟩
     ·rw [aM,hz,ss_cps,hss]
      simp
     ·rw [Str.length_append]
      omega
    ·have c':¬ i < 2:=fun c2=>c (decide_eq_true (by omega))
     rw [if_neg c'] at hss
     refine ⟨rfl,_,_,_,rfl,?_,by omega⟩
     rw [hz,hss]
     simp
  rintro σ H' ⟨rfl,z,kv,nm,rfl,hz,hzl⟩
  refine ⟨_,rfl,h,rfl,⟨_,SqT.of hh⟩,?_⟩
  refine iS (K:=K) (a:=h) (xs:=as.map V.ref) (fun j σ H2=>H2=H' /\ ∃ (z:Str) (ky nu:Option V),σ=stTx s0 b h k n t z kv nm ky nu none none /\ z.cps.toList=bL n t ++ seg vs cs ls 3 ++ (ps.take j).flatMap hL /\ z.length <= 600 + 120 * j)
   ⟨rfl,z,none,none,rfl,by rw [hz]; simp,by omega⟩ (fun j σ H2 _ e=>by rw [e.1]; exact SqT.of hh) ?_ ?_
  ·rintro j x σ H2 hx ⟨rfl,z,ky,nu,rfl,hz,hzl⟩
   rw [List.getElem?_map] at hx
   obtain ⟨ad,had,rfl⟩:=Option.map_eq_some_iff.mp hx
   obtain ⟨r,hr',hrr⟩:=Paired.atL ha had
   rw [List.getElem?_map] at hr'
   obtain ⟨y,hy,rfl⟩:=Option.map_eq_some_iff.mp hr'
   have hj:=(List.getElem?_eq_some_iff.mp hy).1
   have y8:=(G.np y (List.mem_of_getElem? hy)).2.1
   have yb:=G.pb y (List.mem_of_getElem? hy)
   have yl:=bj yb
   refine ⟨ad,_,rfl,SqT.of hrr,rfl,_,[_],rfl,_,[],rfl,rfl,?_⟩
   refine ⟨_,rfl,_,_,rfl,rfl,by omega,_,rfl,_,_,rfl,rfl,by rw [Str.length_append]; omega,_,_,rfl,rfl,by simp only [Str.length_append]; omega,_,rfl,y.2,rfl,cD yb,_,_,rfl,rfl,(by simp only [Str.length_append]; show _ + (aR y.2).length <= sizeLine; omega),rfl,_,_,_,rfl,?_,?_⟩
   ·rw [jb hy,hL_eq]
    simp only [aM,hz,nh_cps,ci,List.append_assoc,List.nil_append,List.cons_append]
   ·simp only [Str.length_append]
    show z.length + _ + _ + _ + (aR y.2).length <= _
    omega
  rintro σ H' ⟨rfl,z,ky,nu,rfl,hz,hzl⟩
  rw [List.length_map,hal] at hz hzl
  rw [List.take_length] at hz
  refine ⟨_,rfl,k,rfl,⟨_,SqT.of hk⟩,?_⟩
  refine iS (K:=K) (a:=k) (xs:=ks.map V.ref) (fun j σ H2=>H2=H' /\ ∃ (z:Str) (nu ak an:Option V),σ=stTx s0 b h k n t z kv nm ky nu ak an /\ z.cps.toList=bL n t ++ seg vs cs ls 3 ++ ps.flatMap hL ++ (qs.take j).flatMap aL /\ z.length <= 4000 + 300 * j)
   ⟨rfl,z,nu,none,none,rfl,by rw [hz]; simp,by omega⟩ (fun j σ H2 _ e=>by rw [e.1]; exact SqT.of hk) ?_ ?_
  ·rintro j x σ H2 hx ⟨rfl,z,nu,ak,an,rfl,hz,hzl⟩
   rw [List.getElem?_map] at hx
   obtain ⟨ad,had,rfl⟩:=Option.map_eq_some_iff.mp hx
   obtain ⟨r,hr',hrr⟩:=Paired.atL hq had
   rw [List.getElem?_map] at hr'
   obtain ⟨y,hy,rfl⟩:=Option.map_eq_some_iff.mp hr'
   have hj:=(List.getElem?_eq_some_iff.mp hy).1
   obtain ⟨y1,y2,y3⟩:=y
   have y8:y1.length <= 8:=(G.nq _ (List.mem_of_getElem? hy)).2.1
   have yb:y2.natAbs < 10 ^ 100:=(G.qb _ (List.mem_of_getElem? hy)).1
   have ya:∀ m,y3=some m -> m.natAbs < 10 ^ 100:=(G.qb _ (List.mem_of_getElem? hy)).2
   have yl:=bj yb
   refine ⟨ad,_,rfl,SqT.of hrr,rfl,_,[_,_],rfl,_,[_],rfl,_,[],rfl,rfl,?_⟩
   refine ⟨_,rfl,_,_,rfl,rfl,by omega,_,rfl,_,_,rfl,rfl,(by rw [Str.length_append]; show _ + y1.length <= sizeLine; omega),_,_,rfl,rfl,by simp only [Str.length_append]; omega,_,rfl,y2,rfl,cD yb,_,_,rfl,rfl,(by simp only [Str.length_append]; show _ + (aR y2).length <= sizeLine; omega),_,_,rfl,rfl,(by simp only [Str.length_append]; show _ + (aR y2).length + _ <= sizeLine; omega),?_⟩
   cases y3 with
   | none =>
    refine ⟨_,rfl,_,rfl,bz (fun _=>?_) (fun h=>absurd (decide_eq_true rfl) h)⟩
    refine ⟨_,rfl,_,_,rfl,rfl,(by simp only [Str.length_append]; show _ + (aR y2).length + _ + _ <= sizeLine; omega),rfl,_,_,_,_,rfl,?_,?_⟩
    ·rw [jb hy,aL_eq]
     simp only [aM,hz,oG,ci,List.append_assoc,List.nil_append,List.cons_append]
     rfl
    ·simp only [Str.length_append]
     show z.length + _ + _ + _ + (aR y2).length + _ + _ <= _
     omega
   | some m =>
    have mb:=ya m rfl
    have ml:=bj mb
    refine ⟨_,rfl,_,rfl,bz (fun h=>absurd (of_decide_eq_true h) (fun e=>nomatch e)) (fun _=>?_)⟩
    refine ⟨_,rfl,_,rfl,m,rfl,cD mb,_,_,rfl,rfl,(by simp only [Str.length_append]; show _ + (aR y2).length + _ + (aR m).length <= sizeLine; omega),rfl,_,_,_,_,rfl,?_,?_⟩
    ·rw [jb hy,aL_eq]
     simp only [aM,hz,oG,ci,List.append_assoc,List.nil_append,List.cons_append]
     rfl
    ·simp only [Str.length_append]
     show z.length + _ + _ + _ + (aR y2).length + _ + (aR m).length <= _
     omega
  ·rintro σ H2 ⟨rfl,z,nu,ak,an,rfl,hz,hzl⟩
   rw [List.length_map,hql,List.take_length] at hz
   refine ⟨_,rfl,?_⟩
   have e:z=Txt.join (Str.ofString "\n") (bS n t vs cs ls ps qs):=bU (by rw [hz,text_eq])
   rw [e]
   exact q
end
end K28
namespace L2
open PySem PySem.Spec PyProof.Rows
def tTryB (K:PySem.W.Frag) (n:Nat) (CE:Addr) (tb:XK -> TS) (th:TS):TS:=fun D σ H=>tb (fun cls _ H'=>∃ C,cls=.ref C /\ PySem.W.mroIn K C (.ref CE)=some true /\ th D (List.replicate n none) H') D σ H
theorem ps_tryB {X:Cx} {x:Str} {CE:Addr} {body:List Stmt} {b₀:Stmt} {suite:List Stmt} {np hpos pos:Pos} {tb:XK -> TS} {th:TS} (hst:X.stack=X.env :: X.outer) (hfr:X.env.frame=some X.env.locals) (T:gI X.K X.mg x CE) (hg:Gl X x)
  (hb:∀ (pins:List (Addr × Obj)) (xe:Value -> Shared -> Prop) (E:XK),cw (CXR X.prog X.w X.base) (cX X pins xe) E -> PSs (cX X pins xe) body (tb E))
  (hh:∀ ea,PSs (cxH X ea) (b₀ :: suite) th) (hd:(x == ("__debug__":Str))=false:=by decide) :
  PS X (.Try body [.ExceptHandler (some (.Name x np)) none (b₀ :: suite) hpos] [] [] pos) (tTryB X.K X.N.length CE tb th):=by
 intro pins s σ H D I h
 refine wpAny_Try_except ?_
 have hp:cw (CXR X.prog X.w X.base) (cX X pins fun e s₁=>wpAny (model X.prog X.w) X.A (noteFrame e X.env) (fun _ s₂=>wpAny (model X.prog X.w) X.A (setFlight e none) (fun _ s₃=>wpAny (model X.prog X.w) X.A (handleBy e X.env [.ExceptHandler (some (.Name x np)) none (b₀ :: suite) hpos]) (SP X pins D) X.xe s₃) X.xe s₂) X.xe s₁)
   (fun cls _ H'=>∃ C,cls=.ref C /\ PySem.W.mroIn X.K C (.ref CE)=some true /\ th D (List.replicate X.N.length none) H'):=by
  intro pins' σ' H1 s1 e s' I1 hx
  obtain ⟨ea,cls,a0,H2,B,rfl,os,bare,un,hok,hea,hbb,fly,cov,C,rfl,hsub,hth⟩:=hx
  have nf:=eX I1 un
  have fd:=dh fly
  have fly0:Heap.FlyingW B (X.env :: X.outer) ea (.ref C) a0 s'.heap:=by rw [<- hst]; exact fly
  have hfs:X.A.frames=some (X.env :: X.outer):=by rw [<- hst]; exact I.ok.frames
  refine wpAny_looks_onW hfs hfr fly0 fun h4 held4 up4=>?_
  refine wpAny_landsW held4 fun h5 fly5 up5=>?_
  obtain ⟨un5,hok5,cov5⟩:=fQ un hok cov fly5.1 (up4.trans up5) nf fd
  have I5:Inv X pins σ' H2 { s' with heap:=h5 }:=(I1.call' (s':={ s' with heap:=h5 }) os un5 hok5 bare (fun b z=>absurd z (by simp))).ofTry I.ok
  obtain ⟨oe,hoe,hoc⟩:=fly5.there
  refine wpAny_handleBy_cons (codeAny_handlers_test (eP (X:=cxH X ea) I5.toH hg T.mgC ?_ hd)) (by intro q; cases q)
  refine fR I5.kIn (di I5.kIn T.ex) hsub hoe hoc (codeAny_handlers_suite ?_)
  refine lands_againW fly5 fun h6 fly6 up6=>?_
  have fd5:=dh fly5
  rw [<- hst] at fd5
  obtain ⟨un6,hok6,cov6⟩:=fQ un5 hok5 cov5 fly6.1 up6 nf fd5
  have I6:Inv X pins σ' H2 { s' with heap:=h6 }:=(I1.call' (s':={ s' with heap:=h6 }) os un6 hok6 bare (fun b z=>absurd z (by simp))).ofTry I.ok
  refine wpAny_mono (hh ea pins _ _ _ D (I6.blank.toH (ea:=ea)) hth) (fun f s7 q=>?_) (fun _ _ z=>z.elim)
  exact q.ofH I.ok
 refine wpAny_mono (hb pins _ _ hp [] s σ H D I.toTry h) (fun f s1 q=>?_) fun _ _ z=>z
 have q2:=q.ofTry I.ok
 cases f with
 | next=>exact wpAny_execs_nil q2
 | ret u=>exact q2
 | brk=>exact q2
 | cont=>exact q2
section
variable {X:Cx}
theorem mv:MtR X "str.upper" (fun x vs H Q=>∃ z:Str,x=.str z /\ vs=[] /\ z.length <= 1000 /\ Q (.str (Txt.upper z)) H):=by
 intro pins s σ H x vs v us Q I rx rv h
 obtain ⟨z,rfl,rfl,hz,q⟩:=h
 obtain ⟨t,rfl⟩:=rx
 cases rv
 exact PyProof.Rows.SCL.upper (by omega) fun h=>⟨.str _,H,I.tok _,⟨_,rfl⟩,q⟩
theorem jH (hu:X.A.units + 1 < cLine):OpR X (compareOp .Eq) (fun x y H Q=>∃ (a b:Addr) (xs:List V),x=.ref a /\ y=.ref b /\ SqL X.K H a xs /\ SqL X.K H b xs /\ (∀ v ∈ xs,smV v=true) /\ Q (.bl true) H):=by
 intro pins s σ H x y v u Q I rx ry h
 obtain ⟨a,b,xs,rfl,rfl,ha,hb,hx,q⟩:=h
 cases rx
 cases ry
 obtain ⟨its,r1,p1,_⟩:=I.list ha
 obtain ⟨jts,r2,p2,_⟩:=I.list hb
 have el:its.length=jts.length:=r1.length.symm.trans r2.length
 have eqs:((List.range its.toArray.size).all fun _=>true)=true:=by simp
 have:=SeqAt.RcAt.lists (A:=X.A) (s:=s) (e:=fun _=>true) p1.isList p2.isList (by simp only [List.size_toArray]; omega) (Nat.lt_of_succ_lt hu) (eqAt_sm hx r1 r2)
 rw [eqs] at this
 exact this _ _ _ _ (aW I q rfl)
end
end L2
namespace L2
open PySem
theorem br {X:Cx}:SlR X (fun x lo hi H Q=>∃ a xs,x=.ref a /\ SqL X.K H a xs /\ ∀ p H2,H p=none -> ar H H2 -> H2 p=some (.lst (bB xs lo hi)) -> Q (.ref p) H2):=by
 intro pins s σ H x v vl vu lo hi sl Q I rx hs pl pu h
 obtain ⟨a,xs,h1,h2,q⟩:=h
 exact bO pins s σ H x v vl vu lo hi sl Q I rx hs pl pu ⟨a,xs,h1,h2,fun p hp=>q p _ hp (ar.new hp) au⟩
end L2
namespace K28
open PySem L2
abbrev iH:Stmt:=top 49
abbrev mx:Stmt:=top 50
def SLs (H:Hp) (l:Addr) (rs:List Str):Prop:=H l=some (.lst (rs.map V.str))
theorem dL {rs:List Str} {a:Nat} (h:a <= rs.length):bB (rs.map V.str) (some (a:Int)) none=(rs.drop a).map V.str:=by
 rw [nY (by rw [List.length_map]; exact h),List.map_drop]
theorem fK {rs:List Str} {b:Nat} (h:b <= rs.length):bB (rs.map V.str) none (some (b:Int))=(rs.take b).map V.str:=by
 unfold bB
 rw [HT.dz,HT.bY,List.length_map,Nat.min_eq_left h,List.drop_zero,Nat.sub_zero,List.map_take]
theorem at_map {rs:List Str} {k:Nat} (h:k < rs.length):atI (rs.map V.str) (k:Int)=some (.str rs[k]):=by
 refine ba ?_
 rw [List.getElem?_map,List.getElem?_eq_getElem h]
 rfl
def withR (rs:List Str) (k:Nat) (r:Str):List Str:=rs.take k ++ [r] ++ rs.drop (k + 1)
def hU:Sp:=fun us H Q _=>∃ (l:Addr) (rs:List Str) (k:Nat) (r:Str),us=[.ref l,.int k,.str r] /\ SLs H l rs /\ k < rs.length /\ rs.length <= 1000 /\ ∀ (p:Addr) (H':Hp),ar H H' -> SLs H' p (withR rs k r) -> Q (.ref p) H'
section
variable {P:Program} {w:World} {K:PySem.W.Frag} {mg:Str -> Option Value} {base:Heap}
abbrev iI:List Str:=["_law_rows","_law_at","_law_row"]
theorem scWith:aN iI iI (ai iH):=fsc (by decide +kernel)
theorem ok_with {f:Addr} {fd:FuncData} (F:Fun K "_law_with" "_law_with" iH f fd):bG P w K mg base CX0 1 f fd iI hU:=by
 refine F.ok scWith (fun us H Q E h=>?_) (fun cdv A outer s H us Q E hr h=>?_)
 ·obtain ⟨l,rs,k,r,rfl,_⟩:=h
  rfl
 ·obtain ⟨l,rs,k,r,rfl,hl,hk,hz,q⟩:=h
  refine ⟨_,am (aF (aj bi (aj bi (aG br (pv 0) aV (aI (pv 1))) (aJ (aa (pv 2) af))) (aG br (pv 0) (aI (aj bd (pv 1) ac)) aV))),?_⟩
  have hs16:sizeLine=16777216:=sizeLine_eq
  refine ⟨_,rfl,_,rfl,_,rfl,l,_,rfl,SqL.of hl,fun p1 H1 _ s1 e1=>?_⟩
  rw [fK (by omega)] at e1
  refine ⟨_,rfl,(show 1 <= sizeLine by omega),fun p2 H2 _ s2 e2=>?_⟩
  refine ⟨p1,p2,_,_,rfl,rfl,s2 _ _ e1,e2,(by simp only [List.length_map,List.length_take,List.length_cons,List.length_nil]; omega),fun p3 H3 _ s3 e3=>?_⟩
  have s13:=s1.trans (s2.trans s3)
  refine ⟨_,rfl,_,rfl,_,_,rfl,rfl,_,rfl,l,_,rfl,SqL.of (s13 _ _ hl),fun p4 H4 _ s4 e4=>?_⟩
  rw [show ((k:Int) + 1)=((k + 1:Nat):Int) by omega,dL (by omega)] at e4
  refine ⟨p3,p4,_,_,rfl,rfl,s4 _ _ e3,e4,(by simp only [List.length_append,List.length_map,List.length_take,List.length_drop,List.length_cons,List.length_nil]; omega),fun p5 H5 _ s5 e5=>?_⟩
  refine q p5 H5 (s13.trans (s4.trans s5)) (e5.trans ?_)
  unfold withR
  rw [List.map_append,List.map_append]
  rfl
end
def at' (rs:List Str) (k:Nat):Str:=rs.getD k Str.empty
def upR (r:Str):Str:=Txt.upper ((wrd r).headD Str.empty) ++ Txt.slice r (some (((wrd r).headD Str.empty).length:Int)) none
def fj (rs:List Str) (k:Nat):Nat -> List Str
 | 0=>rs.drop 1
 | 1=>rs.take 1 ++ rs.drop 2
 | 2=>[at' rs 1,at' rs 0] ++ rs.drop 2
 | 3=>rs.take k ++ [at' rs k] ++ rs.drop k
 | 4=>rs ++ [Str.ofString ""]
 | 5=>rs.take 1
 | 6=>withR rs k (at' rs k ++ Str.ofString " ")
 | 7=>withR rs k (Str.ofString " " ++ at' rs k)
 | 8=>withR rs k (upR (at' rs k))
 | _=>rs ++ [Str.ofString "kept a 1"]
structure my (rs:List Str):Prop where
 two:2 <= rs.length
 hun:rs.length <= 100
 sz:∀ r ∈ rs,r.length <= 1000
def oI:Sp:=fun us H Q _=>∃ (l:Addr) (rs:List Str) (way k:Nat),us=[.ref l,.int way,.int k] /\ SLs H l rs /\ my rs /\ way < 10 /\ k < rs.length /\ ∀ (p:Addr) (H':Hp),ar H H' -> SLs H' p (fj rs k way) -> Q (.ref p) H'
theorem jI (r:Str):(wrd r).length <= r.length + 1:=by
 have h:=cU r
 have hl:r.length=r.cps.toList.length:=Array.length_toList.symm
 cases hw:wrd r with
 | nil=>exact Nat.zero_le _
 | cons a rs =>
  rw [hw,bW] at h
  rw [hl,<- h,tjF,List.length_append,List.length_cons]
  have:∀ ys:List Str,ys.length <= (ys.flatMap fun x=>32 :: x.cps.toList).length:=fun ys=>by
   induction ys with
   | nil=>exact Nat.zero_le _
   | cons y ys ih =>
    rw [List.flatMap_cons,List.length_append,List.length_cons,List.length_cons]
    omega
  have:=this rs
  omega
theorem kt {rs:List Str} {k:Nat} (h:k < rs.length):rs[k]=at' rs k:=by
 unfold at'
 rw [List.getD_eq_getElem?_getD,List.getElem?_eq_getElem h]
 rfl
theorem atS {rs:List Str} {k:Nat} (h:k < rs.length):atI (rs.map V.str) (k:Int)=some (.str (at' rs k)):=by rw [at_map h,kt h]
theorem dM {rs:List Str} {k:Nat} (h:k < rs.length):at' rs k ∈ rs:=by rw [<- kt h]; exact List.getElem_mem h
section
variable {P:Program} {w:World} {K:PySem.W.Frag} {mg:Str -> Option Value} {base:Heap}
abbrev pOrd:List Str:=["_law_rows","_law_way","_law_at"]
abbrev nOrd:List Str:=["_law_rows","_law_way","_law_at","_law_word","_law_some"]
theorem scOrd:aN nOrd pOrd (ai mx):=fsc (by decide +kernel)
theorem ok_ord {f:Addr} {fd:FuncData} (F:Fun K "_law_bent_order" "_law_bent_order" mx f fd) (hlen:mg "len"=none) (Fw:bb P w K mg base 1 "_law_with" iI hU):bG P w K mg base CX0 2 f fd pOrd oI:=by
 refine F.ok scOrd (fun us H Q E h=>?_) (fun cdv A outer s H us Q E hr h=>?_)
 ·obtain ⟨l,rs,way,k,rfl,_⟩:=h
  rfl
 ·obtain ⟨l,rs,way,k,rfl,hl,O,hw,hk,q⟩:=h
  have nd:=scOrd.nd
  refine ⟨_,ag (aw (i:=3) nd rfl (Or.inl rfl) (aB ay (ck PySem.F.plainAttrs_str PySem.F.slot_str_split PySem.F.type_str_split eZ (aB ay (pv 0) (pv 2) (fun _ _=>rfl)) (aa ao af)) ac (fun _ _=>rfl))) <|
   ag (aw (i:=4) nd rfl (Or.inl rfl) (aJ (aa (aG br (pv 0) (aI ac) aV) (aa (aj bi (aG br (pv 0) aV (aI ac)) (aG br (pv 0) (aI ac) aV))
    (aa (aj bi (aJ (aa (aB ay (pv 0) ac (fun _ _=>rfl)) (aa (aB ay (pv 0) ac (fun _ _=>rfl)) af))) (aG br (pv 0) (aI ac) aV)) af))))) <|
   ag (aw (i:=4) nd rfl (Or.inl rfl) (aj bi (pv 4) (aJ (aa (aj bi (aj bi (aG br (pv 0) aV (aI (pv 2))) (aJ (aa (aB ay (pv 0) (pv 2) (fun _ _=>rfl)) af))) (aG br (pv 0) (aI (pv 2)) aV))
    (aa (aj bi (pv 0) (aJ (aa ao af))) (aa (aG br (pv 0) aV (aI ac)) af)))))) <|
   ag (aw (i:=4) nd rfl (Or.inl rfl) (aj bi (pv 4) (aJ (aa (az Fw hr (aa (pv 0) (aa (pv 2) (aa (aj aq (aB ay (pv 0) (pv 2) (fun _ _=>rfl)) ao) af))))
    (aa (az Fw hr (aa (pv 0) (aa (pv 2) (aa (aj aq ao (aB ay (pv 0) (pv 2) (fun _ _=>rfl))) af)))) af))))) <|
   ag (aw (i:=4) nd rfl (Or.inl rfl) (aj bi (pv 4) (aJ (aa (az Fw hr (aa (pv 0) (aa (pv 2) (aa (aj aq (pe_bm0 PySem.F.plainAttrs_str PySem.F.slot_str_upper PySem.F.type_str_upper mv (pv 3))
     (aG eJ (aB ay (pv 0) (pv 2) (fun _ _=>rfl)) (aI (ax bR (by rfl) hlen PySem.boot_len (aa (pv 3) af))) aV)) af))))
    (aa (aj bi (pv 0) (aJ (aa ao af))) af))))) <|
   am (aF (aB ay (pv 4) (pv 1) (fun _ _=>rfl))),?_⟩
  have hs16:sizeLine=16777216:=sizeLine_eq
  have hz:=O.hun
  have h2:=O.two
  have hrk:=O.sz _ (dM hk)
  have one:(1:Nat) <= sizeLine:=by omega
  have ks:(Str.ofString " ").length ≠ 0:=by decide +kernel
  have g0:at' rs 0=at' rs 0:=rfl
  refine ⟨_,rfl,_,rfl,l,_,_,_,rfl,rfl,SqL.of hl,atS hk,rfl,_,_,rfl,rfl,ks,by omega,?_,Nat.le_trans (fc _ _) (by omega),fun p0 hp0=>?_⟩
  ·have:(wrd (at' rs k)).length <= sizeLine:=Nat.le_trans (jI _) (by omega)
   exact this
  obtain ⟨w0,wr,hwd⟩:∃ a r,wrd (at' rs k)=a :: r:=by
   cases h:wrd (at' rs k) with
   | nil=>exact absurd h (i7 _)
   | cons a r=>exact ⟨a,r,rfl⟩
  have hw0:w0.length <= 1000:=Nat.le_trans (hG (r:=at' rs k) (by rw [hwd]; exact List.mem_cons_self ..)) hrk
  have e0:Txt.split (at' rs k) (Str.ofString " ")=w0 :: wr:=hwd
  have sX:=ar.new (o:=.lst ((Txt.split (at' rs k) (Str.ofString " ")).map V.str)) hp0
  refine ⟨p0,_,_,_,rfl,rfl,SqL.of au,(by rw [e0]; exact at0),?_⟩
  generalize upd H p0 (.lst ((Txt.split (at' rs k) (Str.ofString " ")).map V.str))=H0 at sX ⊢
  have hl0:SLs H0 l rs:=sX _ _ hl
  have q:∀ (p:Addr) (H':Hp),ar H0 H' -> SLs H' p (fj rs k way) -> Q (.ref p) H':=fun p H' s'=>q p H' (sX.trans s')
  have hup:upR (at' rs k)=Txt.upper w0 ++ Txt.slice (at' rs k) (some (w0.length:Int)) none:=by
   unfold upR
   rw [hwd]
   rfl
  clear sX hl e0 hp0
  refine ⟨_,rfl,_,rfl,l,_,rfl,SqL.of hl0,fun a1 H1 _ s1 e1=>?_⟩
  rw [show (some 1:Option Int)=some ((1:Nat):Int) from rfl,dL (by omega)] at e1
  refine ⟨_,rfl,_,rfl,l,_,rfl,SqL.of (s1 _ _ hl0),fun a2 H2 _ s2 e2=>?_⟩
  rw [show (some 1:Option Int)=some ((1:Nat):Int) from rfl,fK (by omega)] at e2
  have s12:=s1.trans s2
  refine ⟨_,rfl,_,rfl,l,_,rfl,SqL.of (s12 _ _ hl0),fun a3 H3 _ s3 e3=>?_⟩
  rw [show (some 2:Option Int)=some ((2:Nat):Int) from rfl,dL (by omega)] at e3
  have s13:=s12.trans s3
  refine ⟨a2,a3,_,_,rfl,rfl,s3 _ _ e2,e3,(by simp only [List.length_map,List.length_take,List.length_drop]; omega),fun a4 H4 _ s4 e4=>?_⟩
  have s14:=s13.trans s4
  have at1':atI (rs.map V.str) (1:Int)=some (.str (at' rs 1)):=atS (k:=1) (by omega)
  have at0':atI (rs.map V.str) (0:Int)=some (.str (at' rs 0)):=atS (k:=0) (by omega)
  refine ⟨_,rfl,l,_,_,_,rfl,rfl,SqL.of (s14 _ _ hl0),at1',_,rfl,l,_,_,_,rfl,rfl,SqL.of (s14 _ _ hl0),at0',(show 2 <= sizeLine by omega),fun a5 H5 _ s5 e5=>?_⟩
  have s15:=s14.trans s5
  refine ⟨_,rfl,_,rfl,l,_,rfl,SqL.of (s15 _ _ hl0),fun a6 H6 _ s6 e6=>?_⟩
  rw [show (some 2:Option Int)=some ((2:Nat):Int) from rfl,dL (by omega)] at e6
  have s16:=s15.trans s6
  refine ⟨a5,a6,_,_,rfl,rfl,s6 _ _ e5,e6,(by simp only [List.length_map,List.length_drop,List.length_cons,List.length_nil]; omega),fun a7 H7 _ s7 e7=>?_⟩
  have s17:=s16.trans s7
  refine ⟨(show 3 <= sizeLine by omega),fun b1 G1 _ u1 f1=>?_⟩
  have t1:=s17.trans u1
  have r0:SLs G1 a1 (rs.drop 1):=u1 _ _ (s7 _ _ (s6 _ _ (s5 _ _ (s4 _ _ (s3 _ _ (s2 _ _ e1))))))
  have r1:SLs G1 a4 (rs.take 1 ++ rs.drop 2):=(u1 _ _ (s7 _ _ (s6 _ _ (s5 _ _ e4)))).trans (by rw [List.map_append])
  have r2:SLs G1 a7 ([at' rs 1,at' rs 0] ++ rs.drop 2):=(u1 _ _ e7).trans (by rw [List.map_append]; rfl)
  have hl1:=t1 _ _ hl0
  clear e1 e2 e3 e4 e5 e6 e7 s1 s2 s3 s4 s5 s6 s7 s12 s13 s14 s15 s16 s17 u1
  refine ⟨_,rfl,_,rfl,_,rfl,_,rfl,l,_,rfl,SqL.of hl1,fun a8 H8 _ s8 e8=>?_⟩
  rw [fK (by omega)] at e8
  refine ⟨_,rfl,_,rfl,l,_,_,_,rfl,rfl,SqL.of (s8 _ _ hl1),atS hk,one,fun a9 H9 _ s9 e9=>?_⟩
  refine ⟨a8,a9,_,_,rfl,rfl,s9 _ _ e8,e9,(by simp only [List.length_map,List.length_take,List.length_cons,List.length_nil]; omega),fun a10 H10 _ s10 e10=>?_⟩
  have s810:=s8.trans (s9.trans s10)
  refine ⟨_,rfl,_,rfl,_,rfl,l,_,rfl,SqL.of (s810 _ _ hl1),fun a11 H11 _ s11 e11=>?_⟩
  rw [dL (by omega)] at e11
  refine ⟨a10,a11,_,_,rfl,rfl,s11 _ _ e10,e11,(by simp only [List.length_append,List.length_map,List.length_take,List.length_drop,List.length_cons,List.length_nil]; omega),fun a12 H12 _ s12 e12=>?_⟩
  have s812:=s810.trans (s11.trans s12)
  refine ⟨_,rfl,one,fun a13 H13 _ s13 e13=>?_⟩
  have s813:=s812.trans s13
  refine ⟨l,a13,_,_,rfl,rfl,s813 _ _ hl1,e13,(by simp only [List.length_map,List.length_cons,List.length_nil]; omega),fun a14 H14 _ s14 e14=>?_⟩
  have s814:=s813.trans s14
  refine ⟨_,rfl,_,rfl,l,_,rfl,SqL.of (s814 _ _ hl1),fun a15 H15 _ s15 e15=>?_⟩
  rw [show (some 1:Option Int)=some ((1:Nat):Int) from rfl,fK (by omega)] at e15
  have s815:=s814.trans s15
  refine ⟨(show 3 <= sizeLine by omega),fun b2 G2 _ u2 f2=>?_⟩
  have t2:=s815.trans u2
  refine ⟨b1,b2,_,_,rfl,rfl,t2 _ _ f1,f2,(show 3 + 3 <= sizeLine by omega),fun b3 G3 _ u3 f3=>?_⟩
  have t3:=t2.trans u3
  have r3:SLs G3 a12 (rs.take k ++ [at' rs k] ++ rs.drop k):=(u3 _ _ (u2 _ _ (s15 _ _ (s14 _ _ (s13 _ _ e12))))).trans (by rw [List.map_append,List.map_append]; rfl)
  have r4:SLs G3 a14 (rs ++ [Str.ofString ""]):=(u3 _ _ (u2 _ _ (s15 _ _ e14))).trans (by rw [List.map_append]; rfl)
  have r5:SLs G3 a15 (rs.take 1):=u3 _ _ (u2 _ _ e15)
  have hl3:=t3 _ _ hl1
  have r0:SLs G3 a1 (rs.drop 1):=t3 _ _ r0
  have r1:SLs G3 a4 (rs.take 1 ++ rs.drop 2):=t3 _ _ r1
  have r2:SLs G3 a7 ([at' rs 1,at' rs 0] ++ rs.drop 2):=t3 _ _ r2
  have t13:=t1.trans t3
  clear e8 e9 e10 e11 e12 e13 e14 e15 s8 s9 s10 s11 s12 s13 s14 s15 s810 s812 s813 s814 s815 u2 u3 t1 t2 t3 f1 f2 hl1
  have sp1:(Str.ofString " ").length=1:=by decide +kernel
  refine ⟨_,rfl,_,rfl,_,rfl,_,rfl,_,rfl,l,_,_,_,rfl,rfl,SqL.of hl3,atS hk,_,_,rfl,rfl,by omega,l,rs,k,_,rfl,hl3,hk,by omega,fun c1 H1 s1 e1=>?_⟩
  refine ⟨_,rfl,_,rfl,_,rfl,_,rfl,l,_,_,_,rfl,rfl,SqL.of (s1 _ _ hl3),atS hk,_,_,rfl,rfl,by omega,l,rs,k,_,rfl,s1 _ _ hl3,hk,by omega,fun c2 H2 s2 e2=>?_⟩
  have s12:=s1.trans s2
  refine ⟨(show 2 <= sizeLine by omega),fun b4 G4 _ u4 f4=>?_⟩
  have t4:=s12.trans u4
  refine ⟨b3,b4,_,_,rfl,rfl,t4 _ _ f3,f4,(show 6 + 2 <= sizeLine by omega),fun b5 G5 _ u5 f5=>?_⟩
  have t5:=t4.trans u5
  have r6:SLs G5 c1 (withR rs k (at' rs k ++ Str.ofString " ")):=u5 _ _ (u4 _ _ (s2 _ _ e1))
  have r7:SLs G5 c2 (withR rs k (Str.ofString " " ++ at' rs k)):=u5 _ _ (u4 _ _ e2)
  have hl5:=t5 _ _ hl3
  have r0:SLs G5 a1 (rs.drop 1):=t5 _ _ r0
  have r1:SLs G5 a4 (rs.take 1 ++ rs.drop 2):=t5 _ _ r1
  have r2:SLs G5 a7 ([at' rs 1,at' rs 0] ++ rs.drop 2):=t5 _ _ r2
  have r3:SLs G5 a12 (rs.take k ++ [at' rs k] ++ rs.drop k):=t5 _ _ r3
  have r4:SLs G5 a14 (rs ++ [Str.ofString ""]):=t5 _ _ r4
  have r5:SLs G5 a15 (rs.take 1):=t5 _ _ r5
  have t15:=t13.trans t5
  clear e1 e2 s1 s2 s12 u4 u5 t4 t5 f3 f4 t13 hl3
  have hupl:=PyProof.Rows.len_upper w0
  have hsl:(Txt.slice (at' rs k) (some ((w0.length:Nat):Int)) none).length <= 1000:=by
   have hle:w0.length <= (at' rs k).length:=hG (r:=at' rs k) (by rw [hwd]; exact List.mem_cons_self ..)
   rw [dk hle]
   omega
  refine ⟨_,rfl,_,rfl,_,rfl,_,rfl,rfl,w0,rfl,rfl,hw0,_,rfl,_,rfl,l,_,_,_,rfl,rfl,SqL.of hl5,atS hk,_,rfl,w0,rfl,by omega,_,rfl,at' rs k,rfl,by omega,_,_,rfl,rfl,by omega,l,rs,k,_,rfl,hl5,hk,by omega,fun c3 H1 s1 e1=>?_⟩
  rw [<- hup] at e1
  refine ⟨_,rfl,one,fun a16 H2 _ s2 e2=>?_⟩
  have s12:=s1.trans s2
  refine ⟨l,a16,_,_,rfl,rfl,s12 _ _ hl5,e2,(by simp only [List.length_map,List.length_cons,List.length_nil]; omega),fun a17 H3 _ s3 e3=>?_⟩
  have s13:=s12.trans s3
  refine ⟨(show 2 <= sizeLine by omega),fun b6 G6 _ u6 f6=>?_⟩
  have t6:=s13.trans u6
  refine ⟨b5,b6,_,_,rfl,rfl,t6 _ _ f5,f6,(show 8 + 2 <= sizeLine by omega),fun b7 G7 _ u7 f7=>?_⟩
  have t7:=t6.trans u7
  have r8:SLs G7 c3 (withR rs k (upR (at' rs k))):=u7 _ _ (u6 _ _ (s3 _ _ (s2 _ _ e1)))
  have r9:SLs G7 a17 (rs ++ [Str.ofString "kept a 1"]):=(u7 _ _ (u6 _ _ e3)).trans (by rw [List.map_append]; rfl)
  have f7:G7 b7=some (.lst [.ref a1,.ref a4,.ref a7,.ref a12,.ref a14,.ref a15,.ref c1,.ref c2,.ref c3,.ref a17]):=f7
  have tA:=t15.trans t7
  obtain ⟨a,ha,hb⟩:∃ a,atI [V.ref a1,.ref a4,.ref a7,.ref a12,.ref a14,.ref a15,.ref c1,.ref c2,.ref c3,.ref a17] (way:Int)=some (.ref a) /\ SLs G7 a (fj rs k way):=by
   match way,hw with
   | 0,_=>exact ⟨a1,rfl,t7 _ _ r0⟩
   | 1,_=>exact ⟨a4,rfl,t7 _ _ r1⟩
   | 2,_=>exact ⟨a7,rfl,t7 _ _ r2⟩
   | 3,_=>exact ⟨a12,rfl,t7 _ _ r3⟩
   | 4,_=>exact ⟨a14,rfl,t7 _ _ r4⟩
   | 5,_=>exact ⟨a15,rfl,t7 _ _ r5⟩
   | 6,_=>exact ⟨c1,rfl,t7 _ _ r6⟩
   | 7,_=>exact ⟨c2,rfl,t7 _ _ r7⟩
   | 8,_=>exact ⟨c3,rfl,r8⟩
   | 9,_=>exact ⟨a17,rfl,r9⟩
   | n + 10,h=>exact absurd h (by omega)
  exact ⟨_,rfl,_,rfl,b7,_,_,_,rfl,rfl,SqL.of f7,ha,q a G7 tA hb⟩
end
abbrev mB:Stmt:=top 51
abbrev mC:Stmt:=top 52
abbrev mD:Stmt:=top 53
def zer:Str:=Txt.mul (Str.ofString "0") 100
def cy:Nat -> Str
 | 0=>Str.ofString "stand 01 1"
 | 1=>Str.ofString "stand 1 +1"
 | 2=>Str.ofString "stand -1 1"
 | 3=>Str.ofString "stand 0 1"
 | 4=>Str.ofString "stand 1 0"
 | 5=>Str.ofString "stand 1"
 | 6=>Str.ofString "stand 1 1 1"
 | 7=>Str.ofString "stand a 1"
 | _=>Str.ofString "stand 1" ++ zer ++ Str.ofString " 1"
def li (rs:List Str) (way:Nat):List Str:=[cy way] ++ rs.drop 1
def iJ (rs:List Str) (x y:Str):Nat -> List Str
 | 0=>rs ++ [Str.ofString "held " ++ x]
 | 1=>rs ++ [Str.ofString "held " ++ x ++ Str.ofString " -0"]
 | 2=>rs ++ [Str.ofString "held A 1"]
 | 3=>rs ++ [Str.ofString "asked " ++ x ++ Str.ofString " 1"]
 | 4=>rs ++ [Str.ofString "asked " ++ x ++ Str.ofString " 1 1 1"]
 | 5=>[Str.ofString "stand 3 2"] ++ [at' rs 1] ++ [Str.ofString "asked " ++ x ++ Str.ofString " 0 1"]
 | 6=>[Str.ofString "stand 0 0"] ++ [at' rs 1] ++ [Str.ofString "held a 1"]
 | 7=>withR rs 1 (Str.ofString "bench / / " ++ x)
 | 8=>withR rs 1 (Str.ofString "bench " ++ x ++ Str.ofString " /")
 | 9=>withR rs 1 (Str.ofString "bench " ++ y ++ Str.ofString " " ++ x ++ Str.ofString " / /")
 | _=>withR rs 1 (Str.ofString "bench " ++ x ++ Str.ofString " / / " ++ x)
def grt:Str:=Str.ofString "1" ++ zer
def jJ (rs:List Str):Nat -> List Str
 | 0=>withR rs 0 (Str.ofString "stand 3 -1")
 | 1=>[Str.ofString "stand 3 2",at' rs 1,Str.ofString "asked a -3 5"]
 | 2=>[Str.ofString "stand 0 0",at' rs 1,Str.ofString "asked a 1 5"]
 | 3=>[Str.ofString "stand 3 2",at' rs 1,Str.ofString "held a " ++ grt]
 | 4=>[Str.ofString "stand 3 2",at' rs 1,Str.ofString "asked a " ++ grt ++ Str.ofString " 5"]
 | 5=>[Str.ofString "stand 3 2",at' rs 1,Str.ofString "asked a 1 -" ++ grt]
 | 6=>withR rs 1 (Str.ofString "bench a b c d e f g h / /")
 | 7=>withR rs 1 (Str.ofString "bench a / b c d e f g h i /")
 | _=>withR rs 1 (Str.ofString "bench a / / b c d e f")
def oJ:Sp:=fun us H Q _=>∃ (l:Addr) (rs:List Str) (way:Nat),us=[.ref l,.int way] /\ SLs H l rs /\ my rs /\ way < 9 /\ ∀ (p:Addr) (H':Hp),ar H H' -> SLs H' p (li rs way) -> Q (.ref p) H'
def oK:Sp:=fun us H Q _=>∃ (l:Addr) (rs:List Str) (way:Nat) (x y:Str),us=[.ref l,.int way,.str x,.str y] /\ SLs H l rs /\ my rs /\ way < 11 /\ x.length <= 8 /\ y.length <= 8 /\ ∀ (p:Addr) (H':Hp),ar H H' -> SLs H' p (iJ rs x y way) -> Q (.ref p) H'
def oM:Sp:=fun us H Q _=>∃ (l:Addr) (rs:List Str) (way:Nat),us=[.ref l,.int way] /\ SLs H l rs /\ my rs /\ way < 9 /\ ∀ (p:Addr) (H':Hp),ar H H' -> SLs H' p (jJ rs way) -> Q (.ref p) H'
theorem lj:zer.length=100:=by decide +kernel
theorem mul0:MulOk (Str.ofString "0") 100:=dC (by decide) (by decide) (by decide +kernel)
section
variable {P:Program} {w:World} {K:PySem.W.Frag} {mg:Str -> Option Value} {base:Heap}
abbrev nFst:List Str:=["_law_rows","_law_way","_law_some"]
theorem scFst:aN nFst ["_law_rows","_law_way"] (ai mB):=fsc (by decide +kernel)
theorem ok_fst {f:Addr} {fd:FuncData} (F:Fun K "_law_bent_first" "_law_bent_first" mB f fd):bG P w K mg base CX0 1 f fd ["_law_rows","_law_way"] oJ:=by
 refine F.ok scFst (fun us H Q E h=>?_) (fun cdv A outer s H us Q E hr h=>?_)
 ·obtain ⟨l,rs,way,rfl,_⟩:=h
  rfl
 ·obtain ⟨l,rs,way,rfl,hl,O,hw,q⟩:=h
  have nd:=scFst.nd
  refine go (jt (ws_lstW (i:=2) nd rfl (Or.inl rfl) (Or.inl rfl) (cc ao (cc ao (cc ao (cc ao (cc ao (cc ao (cc ao kO)))))))) <|
   jt (ws_catW (i:=2) nd rfl (Or.inl rfl) (Or.inl rfl) (pv 2) (cc ao (cc (aj aq (aj aq ao (aj eI ao ac)) ao) kO))) <|
   wss_ret (aj bi (aJ (aa (aB ay (pv 2) (pv 1) (fun _ _=>rfl)) af)) (aG br (pv 0) (aI ac) aV))) ?_
  have hs16:sizeLine=16777216:=sizeLine_eq
  have hz:=O.hun
  have h2:=O.two
  have k1:(Str.ofString "stand 1").length=7:=by decide +kernel
  have k2:(Str.ofString " 1").length=2:=by decide +kernel
  have k3:=lj
  refine ⟨(by show 7 <= sizeLine; omega),fun l1 H1 _ s1 e1=>?_⟩
  refine ⟨_,rfl,_,_,rfl,rfl,mul0,_,_,rfl,rfl,(by show (Str.ofString "stand 1").length + zer.length <= sizeLine; omega),_,_,rfl,rfl,(by show (Str.ofString "stand 1" ++ zer).length + (Str.ofString " 1").length <= sizeLine; rw [Str.length_append]; omega),(by show 2 <= sizeLine; omega),fun l2 H2 _ s2 e2=>?_⟩
  refine ⟨l1,l2,_,_,rfl,rfl,s2 _ _ e1,e2,(by show 7 + 2 <= sizeLine; omega),fun l3 H3 _ s3 e3=>?_⟩
  have s13:=s1.trans (s2.trans s3)
  have ex:atI (([Str.ofString "stand 01 1",Str.ofString "stand 1 +1",Str.ofString "stand -1 1",Str.ofString "stand 0 1",Str.ofString "stand 1 0",Str.ofString "stand 1",Str.ofString "stand 1 1 1",Str.ofString "stand a 1",Str.ofString "stand 1" ++ zer ++ Str.ofString " 1"]:List Str).map V.str) (way:Int)=some (.str (cy way)):=by
   match way,hw with
   | 0,_=>rfl
   | 1,_=>rfl
   | 2,_=>rfl
   | 3,_=>rfl
   | 4,_=>rfl
   | 5,_=>rfl
   | 6,_=>rfl
   | 7,_=>rfl
   | 8,_=>rfl
   | n + 9,h=>exact absurd h (by omega)
  refine ⟨_,rfl,_,rfl,l3,_,_,_,rfl,rfl,SqL.of e3,ex,(by show 1 <= sizeLine; omega),fun l4 H4 _ s4 e4=>?_⟩
  have s14:=s13.trans s4
  refine ⟨_,rfl,_,rfl,l,_,rfl,SqL.of (s14 _ _ hl),fun l5 H5 _ s5 e5=>?_⟩
  rw [show (some 1:Option Int)=some ((1:Nat):Int) from rfl,dL (by omega)] at e5
  refine ⟨l4,l5,_,_,rfl,rfl,s5 _ _ e4,e5,(by simp only [List.length_map,List.length_drop,List.length_cons,List.length_nil]; omega),fun l6 H6 _ s6 e6=>?_⟩
  exact q l6 H6 (s14.trans (s5.trans s6)) (e6.trans (by unfold li; rw [List.map_append]; rfl))
abbrev pRst:List Str:=["_law_rows","_law_way","_law_one","_law_other_here"]
abbrev nRst:List Str:=["_law_rows","_law_way","_law_one","_law_other_here","_law_more","_law_some"]
theorem scRst:aN nRst pRst (ai mC):=fsc (by decide +kernel)
theorem ok_rst {f:Addr} {fd:FuncData} (F:Fun K "_law_bent_rest" "_law_bent_rest" mC f fd) (Fw:bb P w K mg base 1 "_law_with" iI hU):bG P w K mg base CX0 2 f fd pRst oK:=by
 refine F.ok scRst (fun us H Q E h=>?_) (fun cdv A outer s H us Q E hr h=>?_)
 ·obtain ⟨l,rs,way,x,y,rfl,_⟩:=h
  rfl
 ·obtain ⟨l,rs,way,x,y,rfl,hl,O,hw,hx,hy,q⟩:=h
  have nd:=scRst.nd
  refine ⟨_,ag (be (aE cN (pv 1) ac (aC _)) (ag (aw (i:=4) nd rfl (Or.inl rfl) (aJ (aa (aj aq ao (pv 2)) (aa (aj aq (aj aq ao (pv 2)) ao) (aa ao (aa (aj aq (aj aq ao (pv 2)) ao) (aa (aj aq (aj aq ao (pv 2)) ao) af)))))))
    (am (aF (aj bi (pv 0) (aJ (aa (aB ay (pv 4) (pv 1) (fun _ _=>rfl)) af)))))) aQ) <|
   ag (be (aE cN (pv 1) ac (aC _)) (ag (aw (i:=4) nd rfl (Or.inl rfl) (aB ay (aJ (aa (aJ (aa ao (aa (aj aq (aj aq ao (pv 2)) ao) af))) (aa (aJ (aa ao (aa ao af))) af))) (aj da (pv 1) ac) (fun _ _=>rfl)))
    (am (aF (aj bi (aj bi (aG br (pv 4) aV (aI ac)) (aG br (pv 0) (aI ac) (aI ac))) (aG br (pv 4) (aI ac) aV))))) aQ) <|
   ag (aw (i:=5) nd rfl (Or.inl rfl) (aJ (aa (aj aq ao (pv 2)) (aa (aj aq (aj aq ao (pv 2)) ao) (aa (aj aq (aj aq (aj aq (aj aq ao (pv 3)) ao) (pv 2)) ao) af))))) <|
   ag (aw (i:=5) nd rfl (Or.inl rfl) (aj bi (pv 5) (aJ (aa (aj aq (aj aq (aj aq ao (pv 2)) ao) (pv 2)) af)))) <|
   am (aF (az Fw hr (aa (pv 0) (aa ac (aa (aB ay (pv 5) (aj da (pv 1) ac) (fun _ _=>rfl)) af))))),?_⟩
  have hs16:sizeLine=16777216:=sizeLine_eq
  have hz:=O.hun
  have h2:=O.two
  have one:(1:Nat) <= sizeLine:=by omega
  have ad:∀ {a b:Str},a.length <= 100 -> b.length <= 100 -> a.length + b.length <= sizeLine:=fun ha hb=>by omega
  have ad2:∀ {a b:Str},a.length + b.length <= 100 -> (a ++ b).length <= 100:=fun h=>by rw [Str.length_append]; exact h
  have xh:x.length <= 100:=by omega
  have yh:y.length <= 100:=by omega
  have L1:(Str.ofString "held ").length=5:=by decide +kernel
  have L2:(Str.ofString " -0").length=3:=by decide +kernel
  have L3:(Str.ofString "asked ").length=6:=by decide +kernel
  have L4:(Str.ofString " 1").length=2:=by decide +kernel
  have L5:(Str.ofString " 1 1 1").length=6:=by decide +kernel
  have L6:(Str.ofString " 0 1").length=4:=by decide +kernel
  have L7:(Str.ofString "bench / / ").length=10:=by decide +kernel
  have L8:(Str.ofString "bench ").length=6:=by decide +kernel
  have L9:(Str.ofString " /").length=2:=by decide +kernel
  have La:(Str.ofString " ").length=1:=by decide +kernel
  have Lb:(Str.ofString " / /").length=4:=by decide +kernel
  have Lc:(Str.ofString " / / ").length=5:=by decide +kernel
  have fits:∀ n:Nat,n <= 1000 -> n <= sizeLine:=fun n h=>by omega
  refine ⟨_,rfl,_,_,rfl,rfl,_,rfl,bz (fun z=>?_) (fun z=>?_)⟩
  ·have hw5:way < 5:=by have:=of_decide_eq_true z; omega
   refine ⟨_,rfl,_,_,rfl,rfl,(by omega),_,rfl,_,_,rfl,rfl,(by omega),_,_,rfl,rfl,(by rw [Str.length_append]; omega),_,rfl,_,_,rfl,rfl,(by omega),_,_,rfl,rfl,(by rw [Str.length_append]; omega),_,rfl,_,_,rfl,rfl,(by omega),_,_,rfl,rfl,(by rw [Str.length_append]; omega),(by show 5 <= sizeLine; omega),fun l1 H1 _ s1 e1=>?_⟩
   have ex:∃ r,atI (([Str.ofString "held " ++ x,Str.ofString "held " ++ x ++ Str.ofString " -0",Str.ofString "held A 1",Str.ofString "asked " ++ x ++ Str.ofString " 1",Str.ofString "asked " ++ x ++ Str.ofString " 1 1 1"]:List Str).map V.str) (way:Int)=some (.str r) /\ iJ rs x y way=rs ++ [r]:=by
    match way,hw5 with
    | 0,_=>exact ⟨_,rfl,rfl⟩
    | 1,_=>exact ⟨_,rfl,rfl⟩
    | 2,_=>exact ⟨_,rfl,rfl⟩
    | 3,_=>exact ⟨_,rfl,rfl⟩
    | 4,_=>exact ⟨_,rfl,rfl⟩
    | n + 5,h=>exact absurd h (by omega)
   obtain ⟨r,er,eb⟩:=ex
   refine ⟨_,rfl,_,rfl,_,rfl,l1,_,_,_,rfl,rfl,SqL.of e1,er,one,fun l2 H2 _ s2 e2=>?_⟩
   have s12:=s1.trans s2
   refine ⟨l,l2,_,_,rfl,rfl,s12 _ _ hl,e2,(by simp only [List.length_map,List.length_cons,List.length_nil]; omega),fun l3 H3 _ s3 e3=>?_⟩
   exact q l3 H3 (s12.trans s3) (e3.trans (by rw [eb,List.map_append]; rfl))
  have hw5:5 <= way:=by
   have:¬ (way:Int) < 5:=fun h=>z (decide_eq_true h)
   omega
  refine ⟨_,rfl,_,_,rfl,rfl,_,rfl,bz (fun z=>?_) (fun z=>?_)⟩
  ·have hw7:way < 7:=by have:=of_decide_eq_true z; omega
   refine ⟨_,rfl,_,_,rfl,rfl,(by omega),_,_,rfl,rfl,(by rw [Str.length_append]; omega),(by show 2 <= sizeLine; omega),fun l1 H1 _ s1 e1=>?_⟩
   refine ⟨(by show 2 <= sizeLine; omega),fun l2 H2 _ s2 e2=>?_⟩
   refine ⟨(by show 2 <= sizeLine; omega),fun l3 H3 _ s3 e3=>?_⟩
   have s13:=s1.trans (s2.trans s3)
   have ex:∃ a r0 r1,atI [V.ref l1,V.ref l2] ((way:Int) - 5)=some (.ref a) /\ SLs H3 a [r0,r1] /\ iJ rs x y way=[r0] ++ [at' rs 1] ++ [r1]:=by
    match way,hw5,hw7 with
    | 5,_,_=>exact ⟨l1,_,_,rfl,s3 _ _ (s2 _ _ e1),rfl⟩
    | 6,_,_=>exact ⟨l2,_,_,rfl,s3 _ _ e2,rfl⟩
    | n + 7,_,h=>exact absurd h (by omega)
   obtain ⟨a,r0,r1,ea,ha,eb⟩:=ex
   refine ⟨_,rfl,_,_,rfl,rfl,l3,_,_,_,rfl,rfl,SqL.of e3,ea,?_⟩
   refine ⟨_,rfl,_,rfl,a,_,rfl,SqL.of ha,fun l4 H4 _ s4 e4=>?_⟩
   rw [show (some 1:Option Int)=some ((1:Nat):Int) from rfl,fK (by show 1 <= 2; decide)] at e4
   have s14:=s13.trans s4
   refine ⟨_,rfl,_,rfl,_,rfl,l,_,rfl,SqL.of (s14 _ _ hl),fun l5 H5 _ s5 e5=>?_⟩
   have c12:bB (rs.map V.str) (some 1) (some 2)=[at' rs 1].map V.str:=by
    have h:=cutN (ys:=rs.map V.str) (a:=1) (b:=2) (by decide) (by rw [List.length_map]; exact h2)
    refine h.trans ?_
    match rs,h2 with
    | a :: b :: r,_=>rfl
   rw [c12] at e5
   refine ⟨l4,l5,_,_,rfl,rfl,s5 _ _ e4,e5,(by simp only [List.length_map,List.length_take,List.length_cons,List.length_nil]; omega),fun l6 H6 _ s6 e6=>?_⟩
   refine ⟨_,rfl,_,rfl,a,_,rfl,SqL.of (s6 _ _ (s5 _ _ (s4 _ _ ha))),fun l7 H7 _ s7 e7=>?_⟩
   rw [show (some 1:Option Int)=some ((1:Nat):Int) from rfl,dL (by show 1 <= 2; decide)] at e7
   refine ⟨l6,l7,_,_,rfl,rfl,s7 _ _ e6,e7,(by simp only [List.length_append,List.length_map,List.length_take,List.length_drop,List.length_cons,List.length_nil]; omega),fun l8 H8 _ s8 e8=>?_⟩
   exact q l8 H8 (s14.trans (s5.trans (s6.trans (s7.trans s8)))) (e8.trans (by rw [eb]; rfl))
  have hw7:7 <= way:=by
   have:¬ (way:Int) < 7:=fun h=>z (decide_eq_true h)
   omega
  refine ⟨_,rfl,_,_,rfl,rfl,(by omega),_,rfl,_,_,rfl,rfl,(by omega),_,_,rfl,rfl,(by rw [Str.length_append]; omega),_,rfl,_,_,rfl,rfl,(by omega),_,_,rfl,rfl,(by rw [Str.length_append]; omega),_,rfl,_,_,rfl,rfl,(by rw [Str.length_append,Str.length_append]; omega),_,_,rfl,rfl,(by rw [Str.length_append,Str.length_append,Str.length_append]; omega),(by show 3 <= sizeLine; omega),fun l1 H1 _ s1 e1=>?_⟩
  refine ⟨_,rfl,_,rfl,_,_,rfl,rfl,(by omega),_,_,rfl,rfl,(by rw [Str.length_append]; omega),_,rfl,_,_,rfl,rfl,(by rw [Str.length_append,Str.length_append]; omega),one,fun l2 H2 _ s2 e2=>?_⟩
  refine ⟨l1,l2,_,_,rfl,rfl,s2 _ _ e1,e2,(by show 3 + 1 <= sizeLine; omega),fun l3 H3 _ s3 e3=>?_⟩
  have s13:=s1.trans (s2.trans s3)
  have ex:∃ r,atI (([Str.ofString "bench / / " ++ x,Str.ofString "bench " ++ x ++ Str.ofString " /",Str.ofString "bench " ++ y ++ Str.ofString " " ++ x ++ Str.ofString " / /",Str.ofString "bench " ++ x ++ Str.ofString " / / " ++ x]:List Str).map V.str) ((way:Int) - 7)=some (.str r) /\ iJ rs x y way=withR rs 1 r:=by
   match way,hw7,hw with
   | 7,_,_=>exact ⟨_,rfl,rfl⟩
   | 8,_,_=>exact ⟨_,rfl,rfl⟩
   | 9,_,_=>exact ⟨_,rfl,rfl⟩
   | 10,_,_=>exact ⟨_,rfl,rfl⟩
   | n + 11,_,h=>exact absurd h (by omega)
  obtain ⟨r,er,eb⟩:=ex
  refine ⟨_,rfl,_,rfl,_,rfl,_,_,rfl,rfl,l3,_,_,_,rfl,rfl,SqL.of e3,er,l,rs,1,r,rfl,s13 _ _ hl,by omega,by omega,fun p H' s' e'=>q p H' (s13.trans s') (by rw [eb]; exact e')⟩
abbrev nAln:List Str:=["_law_rows","_law_way","_law_great","_law_some"]
theorem scAln:aN nAln ["_law_rows","_law_way"] (ai mD):=fsc (by decide +kernel)
theorem ok_aln {f:Addr} {fd:FuncData} (F:Fun K "_law_bent_alone" "_law_bent_alone" mD f fd) (hint:mg "int"=none) (Fw:bb P w K mg base 1 "_law_with" iI hU):bG P w K mg base CX0 2 f fd ["_law_rows","_law_way"] oM:=by
 refine F.ok scAln (fun us H Q E h=>?_) (fun cdv A outer s H us Q E hr h=>?_)
 ·obtain ⟨l,rs,way,rfl,_⟩:=h
  rfl
 ·obtain ⟨l,rs,way,rfl,hl,O,hw,q⟩:=h
  have nd:=scAln.nd
  refine ⟨_,ag (aw (i:=2) nd rfl (Or.inl rfl) (aj aq ao (aj eI ao ac))) <|
   ag (be (aE fN (pv 1) ac (aC _)) (ag (aw (i:=3) nd rfl (Or.inl rfl) (aJ (aa ao (aa ao (aa ao af)))))
    (am (aF (az Fw hr (aa (pv 0) (aa ac (aa (aB ay (pv 3) (aj da (pv 1) ac) (fun _ _=>rfl)) af))))))) aQ) <|
   ag (be (aE bK (pv 1) ac (aC _)) (am (aF (az Fw hr (aa (pv 0) (aa ac (aa ao af)))))) aQ) <|
   ag (aw (i:=3) nd rfl (Or.inl rfl) (aJ (aa ao (aa ao (aa (aj aq ao (pv 2)) (aa (aj aq (aj aq ao (pv 2)) ao) (aa (aj aq ao (pv 2)) af))))))) <|
   am (aF (aJ (aa (aB ay (aJ (aa ao (aa ao af))) (aT dQ (by rfl) hint nF (aa (bo bK (pv 1) ac (aC _)) af)) (fun _ _=>rfl)) (aa (aB ay (pv 0) ac (fun _ _=>rfl)) (aa (aB ay (pv 3) (aj da (pv 1) ac) (fun _ _=>rfl)) af))))),?_⟩
  have hs16:sizeLine=16777216:=sizeLine_eq
  have hz:=O.hun
  have h2:=O.two
  have one:(1:Nat) <= sizeLine:=by omega
  have kz:=lj
  have L1:(Str.ofString "1").length=1:=by decide +kernel
  have gl:grt.length=101:=by unfold grt; rw [Str.length_append]; omega
  have L2:(Str.ofString "held a ").length=7:=by decide +kernel
  have L3:(Str.ofString "asked a ").length=8:=by decide +kernel
  have L4:(Str.ofString " 5").length=2:=by decide +kernel
  have L5:(Str.ofString "asked a 1 -").length=11:=by decide +kernel
  refine ⟨_,_,rfl,rfl,mul0,_,_,rfl,rfl,(by show (Str.ofString "1").length + zer.length <= sizeLine; omega),?_⟩
  refine ⟨_,rfl,_,_,rfl,rfl,_,rfl,bz (fun z=>?_) (fun z=>?_)⟩
  ·have h5:6 <= way:=by have:=of_decide_eq_true z; omega
   refine ⟨(by show 3 <= sizeLine; omega),fun l1 H1 _ s1 e1=>?_⟩
   have ex:∃ r,atI (([Str.ofString "bench a b c d e f g h / /",Str.ofString "bench a / b c d e f g h i /",Str.ofString "bench a / / b c d e f"]:List Str).map V.str) ((way:Int) - 6)=some (.str r) /\ jJ rs way=withR rs 1 r:=by
    match way,h5,hw with
    | 6,_,_=>exact ⟨_,rfl,rfl⟩
    | 7,_,_=>exact ⟨_,rfl,rfl⟩
    | 8,_,_=>exact ⟨_,rfl,rfl⟩
    | n + 9,_,h=>exact absurd h (by omega)
   obtain ⟨r,er,eb⟩:=ex
   exact ⟨_,rfl,_,rfl,_,rfl,_,_,rfl,rfl,l1,_,_,_,rfl,rfl,SqL.of e1,er,l,rs,1,r,rfl,s1 _ _ hl,by omega,by omega,fun p H' s' e'=>q p H' (s1.trans s') (by rw [eb]; exact e')⟩
  have h5:way < 6:=by
   have:¬ (5:Int) < (way:Int):=fun h=>z (decide_eq_true h)
   omega
  refine ⟨_,rfl,rfl,_,rfl,bz (fun z=>?_) (fun z=>?_)⟩
  ·have h0:way=0:=by
    have e:V.int (way:Int)=V.int 0:=of_decide_eq_true z
    have e:(way:Int)=0:=by injection e
    omega
   subst h0
   exact ⟨_,rfl,l,rs,0,_,rfl,hl,by omega,by omega,fun p H' s' e'=>q p H' s' e'⟩
  have h0:1 <= way:=by
   have:¬ V.int (way:Int)=V.int 0:=fun h=>z (decide_eq_true h)
   have:¬ way=0:=fun h=>this (by rw [h]; rfl)
   omega
  refine ⟨_,rfl,_,_,rfl,rfl,(by show (Str.ofString "held a ").length + grt.length <= sizeLine; omega),_,rfl,_,_,rfl,rfl,(by show (Str.ofString "asked a ").length + grt.length <= sizeLine; omega),_,_,rfl,rfl,(by show (Str.ofString "asked a " ++ grt).length + (Str.ofString " 5").length <= sizeLine; rw [Str.length_append]; omega),_,rfl,_,_,rfl,rfl,(by show (Str.ofString "asked a 1 -").length + grt.length <= sizeLine; omega),(by show 5 <= sizeLine; omega),fun l1 H1 _ s1 e1=>?_⟩
  have at1':atI (rs.map V.str) (1:Int)=some (.str (at' rs 1)):=atS (k:=1) (by omega)
  refine ⟨(by show 2 <= sizeLine; omega),fun l2 H2 _ s2 e2=>?_⟩
  have s12:=s1.trans s2
  have ex:∃ r0 r1,atI (([Str.ofString "stand 3 2",Str.ofString "stand 0 0"]:List Str).map V.str) (if decide (V.int (way:Int)=V.int 2)=true then (1:Int) else 0)=some (.str r0) /\ atI (([Str.ofString "asked a -3 5",Str.ofString "asked a 1 5",Str.ofString "held a " ++ grt,Str.ofString "asked a " ++ grt ++ Str.ofString " 5",Str.ofString "asked a 1 -" ++ grt]:List Str).map V.str) ((way:Int) - 1)=some (.str r1) /\ jJ rs way=[r0,at' rs 1,r1]:=by
   match way,h0,h5 with
   | 1,_,_=>exact ⟨_,_,rfl,rfl,rfl⟩
   | 2,_,_=>exact ⟨_,_,rfl,rfl,rfl⟩
   | 3,_,_=>exact ⟨_,_,rfl,rfl,rfl⟩
   | 4,_,_=>exact ⟨_,_,rfl,rfl,rfl⟩
   | 5,_,_=>exact ⟨_,_,rfl,rfl,rfl⟩
   | n + 6,_,h=>exact absurd h (by omega)
  obtain ⟨r0,r1,er0,er1,eb⟩:=ex
  refine ⟨_,rfl,rfl,.inr ⟨_,rfl,l2,_,_,_,rfl,rfl,SqL.of e2,er0,?_⟩⟩
  refine ⟨_,rfl,l,_,_,_,rfl,rfl,SqL.of (s12 _ _ hl),at1',?_⟩
  refine ⟨_,rfl,_,rfl,_,_,rfl,rfl,l1,_,_,_,rfl,rfl,SqL.of (s2 _ _ e1),er1,(by show 3 <= sizeLine; omega),fun l3 H3 _ s3 e3=>?_⟩
  exact q l3 H3 (s12.trans s3) (e3.trans (by rw [eb]; rfl))
end
abbrev sBr:Stmt:=top 54
def hV (rs:List Str) (k:Nat):List Str:=rs.take k ++ [at' rs (k + 1),at' rs k] ++ rs.drop (k + 2)
def fk (rs:List Str) (c:Int) (x y:Str):List Str :=
 if 30 < (c % 40).toNat then jJ rs ((c % 40).toNat - 31)
 else if (c % 40).toNat=30 then hV rs (c / 40 % ((rs.length:Int) - 1)).toNat
 else if (c % 40).toNat < 10 then fj rs (c / 40 % (rs.length:Int)).toNat (c % 40).toNat
 else if (c % 40).toNat < 19 then li rs ((c % 40).toNat - 10)
 else iJ rs x y ((c % 40).toNat - 19)
def spBr:Sp:=fun us H Q _=>∃ (l nl:Addr) (rs:List Str) (c:Int) (x y:Str) (r:List Str),us=[.ref l,.int c,.ref nl] /\ SLs H l rs /\ my rs /\ SLs H nl (x :: y :: r) /\ x.length <= 8 /\ y.length <= 8 /\ ∀ (p:Addr) (H':Hp),ar H H' -> SLs H' p (fk rs c x y) -> Q (.ref p) H'
section
variable {P:Program} {w:World} {K:PySem.W.Frag} {mg:Str -> Option Value} {base:Heap}
abbrev pBr:List Str:=["_law_rows","_law_cell","_law_names_here"]
abbrev nBr:List Str:=["_law_rows","_law_cell","_law_names_here","_law_way","_law_at"]
theorem scBr:aN nBr pBr (ai sBr):=fsc (by decide +kernel)
theorem ok_br {f:Addr} {fd:FuncData} (F:Fun K "_law_bent_rows" "_law_bent_rows" sBr f fd) (hlen:mg "len"=none) (Fo:bb P w K mg base 2 "_law_bent_order" pOrd oI) (Ff:bb P w K mg base 1 "_law_bent_first" ["_law_rows","_law_way"] oJ) (Fr:bb P w K mg base 2 "_law_bent_rest" pRst oK) (Fa:bb P w K mg base 2 "_law_bent_alone" ["_law_rows","_law_way"] oM):bG P w K mg base CX0 3 f fd pBr spBr:=by
 refine F.ok scBr (fun us H Q E h=>?_) (fun cdv A outer s H us Q E hr h=>?_)
 ·obtain ⟨l,nl,rs,c,x,y,r,rfl,_⟩:=h
  rfl
 ·obtain ⟨l,nl,rs,c,x,y,r,rfl,hl,O,hn,hx,hy,q⟩:=h
  have nd:=scBr.nd
  have r1:bP 1 _:=hr.mono (by decide)
  refine ⟨_,ag (aw (i:=3) nd rfl (Or.inl rfl) (aj aS (pv 1) ac)) <|
   ag (be (aE fN (pv 3) ac (aC _)) (am (aF (az Fa hr (aa (pv 0) (aa (aj da (pv 3) ac) af))))) aQ) <|
   ag (be (aE bK (pv 3) ac (aC _)) (ag (aw (i:=4) nd rfl (Or.inl rfl) (aj aS (aj bx (pv 1) ac) (aj da (ax aO (by rfl) hlen PySem.boot_len (aa (pv 0) af)) ac)))
    (am (aF (aj bi (aj bi (aG br (pv 0) aV (aI (pv 4))) (aJ (aa (aB ay (pv 0) (aj bd (pv 4) ac) (fun _ _=>rfl)) (aa (aB ay (pv 0) (pv 4) (fun _ _=>rfl)) af)))) (aG br (pv 0) (aI (aj bd (pv 4) ac)) aV))))) aQ) <|
   ag (be (aE cN (pv 3) ac (aC _)) (am (aF (az Fo hr (aa (pv 0) (aa (pv 3) (aa (aj aS (aj bx (pv 1) ac) (ax aO (by rfl) hlen PySem.boot_len (aa (pv 0) af))) af)))))) aQ) <|
   ag (be (aE cN (pv 3) ac (aC _)) (am (aF (az Ff r1 (aa (pv 0) (aa (aj da (pv 3) ac) af))))) aQ) <|
   am (aF (az Fr hr (aa (pv 0) (aa (aj da (pv 3) ac) (aa (aB ay (pv 2) ac (fun _ _=>rfl)) (aa (aB ay (pv 2) ac (fun _ _=>rfl)) af)))))),?_⟩
  have hs16:sizeLine=16777216:=sizeLine_eq
  have hz:=O.hun
  have h2:=O.two
  have m0:=Int.emod_nonneg c (show (40:Int) ≠ 0 by decide)
  have m1:=Int.emod_lt_of_pos c (show (0:Int) < 40 by decide)
  unfold fk at q
  obtain ⟨n,hn'⟩:∃ n:Nat,c % 40=(n:Int):=⟨(c % 40).toNat,by omega⟩
  have hn40:n < 40:=by omega
  rw [show (c % 40).toNat=n by omega] at q
  refine ⟨_,rfl,_,_,rfl,rfl,(by decide:(0:Int) < 40),?_⟩
  dsimp only
  rw [hn']
  refine ⟨_,rfl,_,_,rfl,rfl,_,rfl,bz (fun z=>?_) (fun z=>?_)⟩
  ·have h:30 < n:=by have:=of_decide_eq_true z; omega
   rw [if_pos h] at q
   refine ⟨_,rfl,_,rfl,_,_,rfl,rfl,l,rs,n - 31,?_,hl,O,by omega,fun p H' s' e'=>q p H' s' e'⟩
   show [V.ref l,V.int ((n:Int) - 31)]=_
   rw [show ((n:Int) - 31)=((n - 31:Nat):Int) by omega]
  have h30:¬ 30 < n:=fun h=>z (decide_eq_true (by omega))
  rw [if_neg h30] at q
  refine ⟨_,rfl,rfl,_,rfl,bz (fun z=>?_) (fun z=>?_)⟩
  ·have h:n=30:=by
    have e:V.int (n:Int)=V.int 30:=of_decide_eq_true z
    have e:(n:Int)=30:=by injection e
    omega
   rw [if_pos h] at q
   have hd:(0:Int) < (rs.length:Int) - 1:=by omega
   have k0:=Int.emod_nonneg (c / 40) (show ((rs.length:Int) - 1) ≠ 0 by omega)
   have k1:=Int.emod_lt_of_pos (c / 40) hd
   obtain ⟨k,hk⟩:∃ k:Nat,c / 40 % ((rs.length:Int) - 1)=(k:Int):=⟨(c / 40 % ((rs.length:Int) - 1)).toNat,by omega⟩
   rw [show (c / 40 % ((rs.length:Int) - 1)).toNat=k by omega] at q
   have hkl:k + 1 < rs.length:=by omega
   refine ⟨_,rfl,_,_,rfl,rfl,⟨by decide,by decide⟩,_,rfl,l,_,rfl,.inl (SqL.of hl),_,_,rfl,rfl,_,_,rfl,rfl,?_,?_⟩
   ·show (0:Int) < (((rs.map V.str).length:Nat):Int) - 1
    rw [List.length_map]
    exact hd
   have ek:V.int (c / 40 % ((((rs.map V.str).length:Nat):Int) - 1))=V.int (k:Int):=by rw [List.length_map,hk]
   refine ⟨_,rfl,_,rfl,k,?_,l,_,rfl,SqL.of hl,fun p1 H1 _ s1 e1=>?_⟩
   ·exact ek
   rw [fK (by omega)] at e1
   refine ⟨_,rfl,_,rfl,(k:Int),_,ek,rfl,l,_,_,_,rfl,rfl,SqL.of (s1 _ _ hl),(by rw [show ((k:Int) + 1)=((k + 1:Nat):Int) by omega]; exact atS hkl),?_⟩
   refine ⟨_,rfl,_,rfl,l,_,(k:Int),_,rfl,ek,SqL.of (s1 _ _ hl),atS (by omega),(by show 2 <= sizeLine; omega),fun p2 H2 _ s2 e2=>?_⟩
   refine ⟨p1,p2,_,_,rfl,rfl,s2 _ _ e1,e2,(by simp only [List.length_map,List.length_take,List.length_cons,List.length_nil]; omega),fun p3 H3 _ s3 e3=>?_⟩
   have s13:=s1.trans (s2.trans s3)
   refine ⟨_,rfl,_,rfl,(k:Int),_,ek,rfl,_,rfl,l,_,rfl,SqL.of (s13 _ _ hl),fun p4 H4 _ s4 e4=>?_⟩
   rw [show ((k:Int) + 2)=((k + 2:Nat):Int) by omega,dL (by omega)] at e4
   refine ⟨p3,p4,_,_,rfl,rfl,s4 _ _ e3,e4,(by simp only [List.length_append,List.length_map,List.length_take,List.length_drop,List.length_cons,List.length_nil]; omega),fun p5 H5 _ s5 e5=>?_⟩
   exact q p5 H5 (s13.trans (s4.trans s5)) (e5.trans (by unfold hV; rw [List.map_append,List.map_append]; rfl))
  have h30':¬ n=30:=fun h=>z (decide_eq_true (by rw [h]; rfl))
  rw [if_neg h30'] at q
  refine ⟨_,rfl,_,_,rfl,rfl,_,rfl,bz (fun z=>?_) (fun z=>?_)⟩
  ·have h:n < 10:=by have:=of_decide_eq_true z; omega
   rw [if_pos h] at q
   have hd:(0:Int) < (rs.length:Int):=by omega
   have k0:=Int.emod_nonneg (c / 40) (show ((rs.length:Int)) ≠ 0 by omega)
   have k1:=Int.emod_lt_of_pos (c / 40) hd
   obtain ⟨k,hk⟩:∃ k:Nat,c / 40 % (rs.length:Int)=(k:Int):=⟨(c / 40 % (rs.length:Int)).toNat,by omega⟩
   rw [show (c / 40 % (rs.length:Int)).toNat=k by omega] at q
   have ek:V.int (c / 40 % (((rs.map V.str).length:Nat):Int))=V.int (k:Int):=by rw [List.length_map,hk]
   refine ⟨_,rfl,_,rfl,_,rfl,_,_,rfl,rfl,⟨by decide,by decide⟩,_,rfl,l,_,rfl,.inl (SqL.of hl),_,_,rfl,rfl,?_,l,rs,n,k,?_,hl,O,h,by omega,fun p H' s' e'=>q p H' s' e'⟩
   ·show (0:Int) < (((rs.map V.str).length:Nat):Int)
    rw [List.length_map]
    exact hd
   ·show [V.ref l,V.int (n:Int),V.int (c / 40 % (((rs.map V.str).length:Nat):Int))]=_
    rw [ek]
  have h10:¬ n < 10:=fun h=>z (decide_eq_true (by omega))
  rw [if_neg h10] at q
  refine ⟨_,rfl,_,_,rfl,rfl,_,rfl,bz (fun z=>?_) (fun z=>?_)⟩
  ·have h:n < 19:=by have:=of_decide_eq_true z; omega
   rw [if_pos h] at q
   refine ⟨_,rfl,_,rfl,_,_,rfl,rfl,l,rs,n - 10,?_,hl,O,by omega,fun p H' s' e'=>q p H' s' e'⟩
   show [V.ref l,V.int ((n:Int) - 10)]=_
   rw [show ((n:Int) - 10)=((n - 10:Nat):Int) by omega]
  have h19:¬ n < 19:=fun h=>z (decide_eq_true (by omega))
  rw [if_neg h19] at q
  refine ⟨_,rfl,_,rfl,_,_,rfl,rfl,_,rfl,nl,_,_,_,rfl,rfl,SqL.of hn,at0,_,rfl,nl,_,_,_,rfl,rfl,SqL.of hn,at1,l,rs,n - 19,x,y,?_,hl,O,by omega,hx,hy,fun p H' s' e'=>q p H' s' e'⟩
  show [V.ref l,V.int ((n:Int) - 19),V.str x,V.str y]=_
  rw [show ((n:Int) - 19)=((n - 19:Nat):Int) by omega]
end
end K28
namespace L2
open PySem
theorem bH {X:Cx} {ea:Addr}:cj (cxH X ea) (.builtin "isinstance") (fun xs H Q=>∃ (x C D:Addr) (b:Bool),xs=[.ref x,.ref D] /\ H x=some (xcO x C) /\ lU X.K C /\ PySem.W.kitOne X.K (.ref C) (.ref D)=some b /\ Q (.bl b) H):=nA
theorem ku {X:Cx} {ea:Addr}:cj (cxH X ea) (.builtin "isinstance") (fun xs H Q=>∃ (x C:Addr) (c:String) (b:Bool),xs=[.ref x,.ty c] /\ H x=some (xcO x C) /\ lU X.K C /\ PySem.W.kitOne X.K (.ref C) (.type c)=some b /\ Q (.bl b) H):=lV
end L2
namespace K28
open PySem L2
abbrev mE:Stmt:=top 55
abbrev iK:Stmt:=top 56
structure WhF (K:PySem.W.Frag) (mg:Str -> Option Value) (CN d2 d3 d4 d5 d6 d7 d8 d9 d10 d11 d12:Addr):Prop where
 kl:lU K CN
 m1:mg "NoText"=some (.ref CN)
 m2:mg "NoBench"=some (.ref d2)
 m3:mg "NotYet"=some (.ref d3)
 m4:mg "NoLetter"=some (.ref d4)
 m5:mg "NoDeed"=some (.ref d5)
 m6:mg "NotChair"=some (.ref d6)
 m7:mg "Old"=some (.ref d7)
 m8:mg "NoTown"=some (.ref d8)
 m9:mg "NoHouse"=some (.ref d9)
 m10:mg "Standing"=some (.ref d10)
 m11:mg "Down"=some (.ref d11)
 m12:mg "NoPaper"=some (.ref d12)
 isi:mg "isinstance"=none
 val:mg "ValueError"=none
 k1:PySem.W.kitOne K (.ref CN) (.ref CN)=some true
 k2:PySem.W.kitOne K (.ref CN) (.ref d2)=some false
 k3:PySem.W.kitOne K (.ref CN) (.ref d3)=some false
 k4:PySem.W.kitOne K (.ref CN) (.ref d4)=some false
 k5:PySem.W.kitOne K (.ref CN) (.ref d5)=some false
 k6:PySem.W.kitOne K (.ref CN) (.ref d6)=some false
 k7:PySem.W.kitOne K (.ref CN) (.ref d7)=some false
 k8:PySem.W.kitOne K (.ref CN) (.ref d8)=some false
 k9:PySem.W.kitOne K (.ref CN) (.ref d9)=some false
 k10:PySem.W.kitOne K (.ref CN) (.ref d10)=some false
 k11:PySem.W.kitOne K (.ref CN) (.ref d11)=some false
 k12:PySem.W.kitOne K (.ref CN) (.ref d12)=some false
 kv:PySem.W.kitOne K (.ref CN) (.type "ValueError")=some true
theorem bVal:bootBuiltins "ValueError"=some (.type "ValueError"):=by decide +kernel
def oN:Sp:=fun us H Q _=>∃ T:Str,us=[.str T] /\ jG T /\ (¬ ∃ d:Sd,d.Ok /\ T=d.T) /\ ∀ H',ar H H' -> Q (.bl true) H'
def kw:Sp:=fun us H Q _=>∃ T:Str,us=[.str T] /\ jG T /\ (∀ (d:Sd) (p:Addr) (H':Hp),d.Ok -> T=d.T -> ar H H' -> d.At H' p -> Q (.ref p) H') /\ ((¬ ∃ d:Sd,d.Ok /\ T=d.T) -> ∀ H',ar H H' -> Q .non H')
section
variable {P:Program} {w:World} {K:PySem.W.Frag} {mg:Str -> Option Value} {base:Heap} {CN CE d2 d3 d4 d5 d6 d7 d8 d9 d10 d11 d12:Addr}
abbrev nRef:List Str:=["_law_text_here","_law_some","e"]
theorem scRef:aN nRef ["_law_text_here"] (ai mE):=fsc (by decide +kernel)
theorem ok_ref {f:Addr} {fd:FuncData} (F:Fun K "_law_refused" "_law_refused" mE f fd) (XC:gI K mg "ChainError" CE) (sb:PySem.W.mroIn K CN (.ref CE)=some true) (T:WhF K mg CN d2 d3 d4 d5 d6 d7 d8 d9 d10 d11 d12) (Fr:cb P w K mg base 5 "read_stand" ["text"] (oE CN)):bG P w K mg base CX0 6 f fd ["_law_text_here"] oN:=by
 refine F.ok scRef (fun us H Q E h=>?_) (fun cdv A outer s H us Q E hr h=>?_)
 ·obtain ⟨t,rfl,_⟩:=h
  rfl
 ·obtain ⟨t,rfl,O,hno,q⟩:=h
  have nd:=scRef.nd
  have hu:_ + 1 < cLine:=Nat.lt_of_le_of_lt (Nat.add_le_add_left (show 1 <= 64 by decide) _) hr.units
  refine ⟨_,ag (aw (i:=1) nd rfl (Or.inl rfl) (aJ af)) <|
   ag (nB (i:=2) rfl rfl rfl XC (by rfl) nd rfl rfl (fun pins xe E hE=>am (dO (X:=cX _ _ _) (bv (X:=cX _ _ _) Fr hr hE (aa (pv 0) af))))
    (fun ea=>ag (aw (X:=cxH _ _) (i:=1) nd rfl (Or.inl rfl) (aJ (aa (ax (X:=cxH _ _) bH (by rfl) T.isi eu (aa (pv 2) (aa (bD (v:=.ref CN) (by rfl) T.m1 rfl) af))) (aa (ax (X:=cxH _ _) ku (by rfl) T.isi eu (aa (pv 2) (aa (fY (v:=.ty "ValueError") (by rfl) T.val bVal rfl) af))) (aa (ax (X:=cxH _ _) bH (by rfl) T.isi eu (aa (pv 2) (aa (bD (v:=.ref d2) (by rfl) T.m2 rfl) af))) (aa (ax (X:=cxH _ _) bH (by rfl) T.isi eu (aa (pv 2) (aa (bD (v:=.ref d3) (by rfl) T.m3 rfl) af))) af)))))) <|
     ag (aw (X:=cxH _ _) (i:=1) nd rfl (Or.inl rfl) (aj bi (pv 1) (aJ (aa (ax (X:=cxH _ _) bH (by rfl) T.isi eu (aa (pv 2) (aa (bD (v:=.ref d4) (by rfl) T.m4 rfl) af))) (aa (ax (X:=cxH _ _) bH (by rfl) T.isi eu (aa (pv 2) (aa (bD (v:=.ref d5) (by rfl) T.m5 rfl) af))) (aa (ax (X:=cxH _ _) bH (by rfl) T.isi eu (aa (pv 2) (aa (bD (v:=.ref d6) (by rfl) T.m6 rfl) af))) (aa (ax (X:=cxH _ _) bH (by rfl) T.isi eu (aa (pv 2) (aa (bD (v:=.ref d7) (by rfl) T.m7 rfl) af))) af))))))) <|
     ag (aw (X:=cxH _ _) (i:=1) nd rfl (Or.inl rfl) (aj bi (pv 1) (aJ (aa (ax (X:=cxH _ _) bH (by rfl) T.isi eu (aa (pv 2) (aa (bD (v:=.ref d8) (by rfl) T.m8 rfl) af))) (aa (ax (X:=cxH _ _) bH (by rfl) T.isi eu (aa (pv 2) (aa (bD (v:=.ref d9) (by rfl) T.m9 rfl) af))) (aa (ax (X:=cxH _ _) bH (by rfl) T.isi eu (aa (pv 2) (aa (bD (v:=.ref d10) (by rfl) T.m10 rfl) af))) af)))))) <|
     am (aw (X:=cxH _ _) (i:=1) nd rfl (Or.inl rfl) (aj bi (pv 1) (aJ (aa (ax (X:=cxH _ _) bH (by rfl) T.isi eu (aa (pv 2) (aa (bD (v:=.ref d11) (by rfl) T.m11 rfl) af))) (aa (ax (X:=cxH _ _) bH (by rfl) T.isi eu (aa (pv 2) (aa (bD (v:=.ref d12) (by rfl) T.m12 rfl) af))) af))))))) <|
   am (aF (dy (bo (jH hu) (aG br (pv 1) aV (aI ac)) (aJ (aa dw (aa dw af))) (aC _)) (eF (bo (jH hu) (aG br (pv 1) (aI ac) aV) (aj op_rep (aJ (aa dw af)) ac) (aC _))))),?_⟩
  have hs16:sizeLine=16777216:=sizeLine_eq
  refine ⟨Nat.zero_le _,fun l0 H0 _ s0 e0=>?_⟩
  refine ⟨_,rfl,t,rfl,O,fun d p H' hd e=>absurd ⟨d,hd,e⟩ hno,fun _ H1 s1=>⟨CN,rfl,sb,fun ea hea=>?_⟩⟩
  have sE:=ar.new (o:=xcO ea CN) hea
  have hx:upd H1 ea (xcO ea CN) ea=some (xcO ea CN):=au
  generalize upd H1 ea (xcO ea CN)=G0 at hx sE ⊢
  have t0:=s0.trans (s1.trans sE)
  refine ⟨_,rfl,ea,CN,CN,true,rfl,hx,T.kl,T.k1,?_⟩
  refine ⟨_,rfl,ea,CN,"ValueError",true,rfl,hx,T.kl,T.kv,?_⟩
  refine ⟨_,rfl,ea,CN,d2,false,rfl,hx,T.kl,T.k2,?_⟩
  refine ⟨_,rfl,ea,CN,d3,false,rfl,hx,T.kl,T.k3,?_⟩
  refine ⟨(by show 4 <= sizeLine; omega),fun l1 G1 _ u1 f1=>?_⟩
  have hx1:=u1 _ _ hx
  refine ⟨_,rfl,?_⟩
  refine ⟨_,rfl,ea,CN,d4,false,rfl,hx1,T.kl,T.k4,?_⟩
  refine ⟨_,rfl,ea,CN,d5,false,rfl,hx1,T.kl,T.k5,?_⟩
  refine ⟨_,rfl,ea,CN,d6,false,rfl,hx1,T.kl,T.k6,?_⟩
  refine ⟨_,rfl,ea,CN,d7,false,rfl,hx1,T.kl,T.k7,?_⟩
  refine ⟨(by show 4 <= sizeLine; omega),fun l2 G2 _ u2 f2=>?_⟩
  refine ⟨l1,l2,_,_,rfl,rfl,u2 _ _ f1,f2,(by show 4 + 4 <= sizeLine; omega),fun l3 G3 _ u3 f3=>?_⟩
  have hx3:=u3 _ _ (u2 _ _ hx1)
  refine ⟨_,rfl,?_⟩
  refine ⟨_,rfl,ea,CN,d8,false,rfl,hx3,T.kl,T.k8,?_⟩
  refine ⟨_,rfl,ea,CN,d9,false,rfl,hx3,T.kl,T.k9,?_⟩
  refine ⟨_,rfl,ea,CN,d10,false,rfl,hx3,T.kl,T.k10,?_⟩
  refine ⟨(by show 3 <= sizeLine; omega),fun l4 G4 _ u4 f4=>?_⟩
  refine ⟨l3,l4,_,_,rfl,rfl,u4 _ _ f3,f4,(by show 8 + 3 <= sizeLine; omega),fun l5 G5 _ u5 f5=>?_⟩
  have hx5:=u5 _ _ (u4 _ _ hx3)
  refine ⟨_,rfl,?_⟩
  refine ⟨_,rfl,ea,CN,d11,false,rfl,hx5,T.kl,T.k11,?_⟩
  refine ⟨_,rfl,ea,CN,d12,false,rfl,hx5,T.kl,T.k12,?_⟩
  refine ⟨(by show 2 <= sizeLine; omega),fun l6 G6 _ u6 f6=>?_⟩
  refine ⟨l5,l6,_,_,rfl,rfl,u6 _ _ f5,f6,(by show 11 + 2 <= sizeLine; omega),fun l7 G7 _ u7 f7=>?_⟩
  have f7:G7 l7=some (.lst ([true,true,false,false,false,false,false,false,false,false,false,false,false].map V.bl)):=f7
  have tA:=t0.trans (u1.trans (u2.trans (u3.trans (u4.trans (u5.trans (u6.trans u7))))))
  refine ⟨_,rfl,_,rfl,l7,_,rfl,SqL.of f7,fun l8 G8 _ u8 f8=>?_⟩
  refine ⟨(by show 2 <= sizeLine; omega),fun l9 G9 _ u9 f9=>?_⟩
  refine ⟨l8,l9,_,rfl,rfl,SqL.of (u9 _ _ f8),SqL.of f9,(by decide),_,rfl,cW ?_⟩
  refine ⟨_,rfl,_,rfl,l7,_,rfl,SqL.of (u9 _ _ (u8 _ _ f7)),fun l10 G10 _ u10 f10=>?_⟩
  refine ⟨(by show 1 <= sizeLine; omega),fun l11 G11 _ u11 f11=>?_⟩
  refine ⟨l11,11,_,rfl,rfl,f11,(by decide),(by decide),(by show 1 * 11 <= sizeLine; omega),fun l12 hl12=>?_⟩
  refine ⟨l10,l12,_,rfl,rfl,SqL.of (ar.new hl12 _ _ (u11 _ _ f10)),SqL.of au,(by decide),?_⟩
  exact q _ (tA.trans (u8.trans (u9.trans (u10.trans (u11.trans (ar.new hl12))))))
abbrev nRead:List Str:=["_law_text_here","_law_found"]
theorem oO:aN nRead ["_law_text_here"] (ai iK):=fsc (by decide +kernel)
theorem ok_read {f:Addr} {fd:FuncData} (F:Fun K "_law_read" "_law_read" iK f fd) (XC:gI K mg "ChainError" CE) (sb:PySem.W.mroIn K CN (.ref CE)=some true) (Fr:cb P w K mg base 5 "read_stand" ["text"] (oE CN)):bG P w K mg base CX0 6 f fd ["_law_text_here"] kw:=by
 refine F.ok oO (fun us H Q E h=>?_) (fun cdv A outer s H us Q E hr h=>?_)
 ·obtain ⟨t,rfl,_⟩:=h
  rfl
 ·obtain ⟨t,rfl,O,q1,q2⟩:=h
  have nd:=oO.nd
  refine ⟨_,ag (aw (i:=1) nd rfl (Or.inl rfl) iP) <|
   ag (ps_tryB rfl rfl XC (by rfl) (fun pins xe E hE=>am (aw (X:=cX _ _ _) (i:=1) nd rfl (Or.inl rfl) (bv (X:=cX _ _ _) Fr hr hE (aa (pv 0) af))))
    (fun ea=>am (aw (X:=cxH _ _) (i:=1) nd rfl (Or.inl rfl) iP))) <|
   am (aF (pv 1)),?_⟩
  refine ⟨_,rfl,t,rfl,O,fun d p H' hd e s' hp=>⟨_,rfl,q1 d p H' hd e s' hp⟩,fun hn H1 s1=>⟨CN,rfl,sb,_,rfl,q2 hn H1 s1⟩⟩
end
def Sd.R (d:Sd):List Str:=bS d.n d.t d.vs d.cs d.ls d.ps d.qs
theorem cA {d:Sd} (h:d.Ok):d.R.map wrd=d.W:=by
 have:=iF h
 unfold wds spl Sd.T at this
 rw [cT h.g] at this
 exact this
theorem R_free {d:Sd} (h:d.Ok):∀ r ∈ d.R,10 ∉ r.cps.toList:=fun r hr=>by
 unfold Sd.R at hr
 rw [gn] at hr
 obtain ⟨ws,hw,rfl⟩:=List.mem_map.mp hr
 rw [bW]
 exact fG (by decide) fun x hx=>((gp h.g ws hw).2 x hx).2
theorem no_text {bs:List Str} (h0:bs ≠ []) (hf:∀ r ∈ bs,10 ∉ r.cps.toList) (hn:∀ d:Sd,d.Ok -> bs.map wrd=d.W -> False):¬ ∃ d:Sd,d.Ok /\ Txt.join (Str.ofString "\n") bs=d.T:=by
 rintro ⟨d,hd,e⟩
 refine hn d hd ?_
 have h1:Txt.split (Txt.join (Str.ofString "\n") bs) (Str.ofString "\n")=bs:=by rw [eA]; exact cQ h0 hf
 have h2:=iF hd
 rw [<- e] at h2
 unfold wds spl at h2
 rw [h1] at h2
 exact h2
theorem iL (d:Sd):d.W.length=2 + d.ps.length + d.qs.length:=by
 unfold Sd.W cZ
 simp only [List.length_cons,List.length_append,List.length_map]
 omega
theorem W_0 (d:Sd):d.W[0]?=some [Str.ofString "stand",aR d.n,aR d.t]:=rfl
theorem W_1 (d:Sd):d.W[1]?=some (bw d.vs d.cs d.ls):=rfl
theorem oP (d:Sd):d.W.drop 2=d.ps.map heW ++ d.qs.map asW:=rfl
theorem lm {d:Sd} {ws:List Str} (h:ws ∈ d.W):ws=[Str.ofString "stand",aR d.n,aR d.t] \/ ws=bw d.vs d.cs d.ls \/ (∃ p ∈ d.ps,ws=heW p) \/ ∃ p ∈ d.qs,ws=asW p:=by
 unfold Sd.W cZ at h
 rcases List.mem_cons.mp h with h | h
 ·exact .inl h
 rcases List.mem_cons.mp h with h | h
 ·exact .inr (.inl h)
 rcases List.mem_append.mp h with h | h
 ·obtain ⟨p,hp,e⟩:=List.mem_map.mp h
  exact .inr (.inr (.inl ⟨p,hp,e.symm⟩))
 ·obtain ⟨p,hp,e⟩:=List.mem_map.mp h
  exact .inr (.inr (.inr ⟨p,hp,e.symm⟩))
theorem W_ge {d:Sd} {i:Nat} {ws:List Str} (hi:2 <= i) (h:d.W[i]?=some ws):(∃ p ∈ d.ps,ws=heW p) \/ ∃ p ∈ d.qs,ws=asW p:=by
 obtain ⟨j,rfl⟩:∃ j,i=2 + j:=⟨i - 2,by omega⟩
 rw [<- List.getElem?_drop,oP] at h
 rcases List.mem_append.mp (List.mem_of_getElem? h) with h | h
 ·obtain ⟨p,hp,e⟩:=List.mem_map.mp h
  exact .inl ⟨p,hp,e.symm⟩
 ·obtain ⟨p,hp,e⟩:=List.mem_map.mp h
  exact .inr ⟨p,hp,e.symm⟩
def hw (ws:List Str):Str:=ws.headD Str.empty
def KW:List Str:=[Str.ofString "stand",Str.ofString "bench",Str.ofString "held",Str.ofString "asked"]
theorem hZ {d:Sd} {ws:List Str} (h:ws ∈ d.W):hw ws ∈ KW:=by
 unfold KW
 rcases lm h with rfl | rfl | ⟨p,_,rfl⟩ | ⟨p,_,rfl⟩
 ·exact List.mem_cons_self ..
 ·exact List.mem_cons_of_mem _ (List.mem_cons_self ..)
 ·exact List.mem_cons_of_mem _ (List.mem_cons_of_mem _ (List.mem_cons_self ..))
 ·exact List.mem_cons_of_mem _ (List.mem_cons_of_mem _ (List.mem_cons_of_mem _ (List.mem_cons_self ..)))
theorem cF:(Str.ofString "bench" ≠ Str.ofString "stand" /\ Str.ofString "held" ≠ Str.ofString "stand" /\ Str.ofString "asked" ≠ Str.ofString "stand") /\ (Str.ofString "held" ≠ Str.ofString "bench" /\ Str.ofString "asked" ≠ Str.ofString "bench" /\ Str.ofString "stand" ≠ Str.ofString "bench") /\ Str.ofString "asked" ≠ Str.ofString "held":=by decide +kernel
theorem fo (n:Int):aR n ≠ Str.empty:=fun e=>by
 have h1:=congrArg (fun z:Str=>z.cps.toList) e
 have h2:(aR n).cps.toList=[]:=h1
 unfold aR at h2
 rw [cI] at h2
 unfold eK at h2
 have hl:=(dj n.natAbs n.natAbs (Nat.lt_pow_self (by decide))).1
 split at h2
 ·cases h2
 ·rw [h2] at hl
  cases hl
theorem jK {x:Str} (h:Nm x):x ≠ Str.empty:=fun e=>by
 have:=h.1
 rw [e] at this
 exact absurd this (by decide)
theorem ans_ne (a:Option Int):fV a ≠ Str.empty:=by
 cases a with
 | none=>show Str.ofString "-" ≠ Str.empty; decide +kernel
 | some n=>exact fo n
theorem jL {d:Sd} (hd:d.Ok) {ws:List Str} (h:ws ∈ d.W):Str.empty ∉ ws:=by
 have k:Str.empty ∉ KW:=by decide +kernel
 rcases lm h with rfl | rfl | ⟨p,hp,rfl⟩ | ⟨p,hp,rfl⟩
 ·intro e
  simp only [List.mem_cons,List.not_mem_nil,or_false] at e
  rcases e with e | e | e
  ·exact absurd e (by decide +kernel)
  ·exact fo _ e.symm
  ·exact fo _ e.symm
 ·intro e
  unfold bw at e
  have hsl:Str.empty ≠ SL:=by decide +kernel
  rcases List.mem_cons.mp e with e | e
  ·exact absurd e (by decide +kernel)
  rcases List.mem_append.mp e with e | e
  ·exact jK (hd.g.nv _ e) rfl
  rcases List.mem_cons.mp e with e | e
  ·exact hsl e
  rcases List.mem_append.mp e with e | e
  ·exact jK (hd.g.nc _ e) rfl
  rcases List.mem_cons.mp e with e | e
  ·exact hsl e
  ·exact jK (hd.g.nl _ e) rfl
 ·intro e
  unfold heW at e
  simp only [List.mem_cons,List.not_mem_nil,or_false] at e
  rcases e with e | e | e
  ·exact absurd e (by decide +kernel)
  ·exact jK (hd.g.np p hp) e.symm
  ·exact fo _ e.symm
 ·intro e
  unfold asW at e
  simp only [List.mem_cons,List.not_mem_nil,or_false] at e
  rcases e with e | e | e | e
  ·exact absurd e (by decide +kernel)
  ·exact jK (hd.g.nq p hp) e.symm
  ·exact fo _ e.symm
  ·exact ans_ne _ e.symm
def nam (ws:List Str):Str:=ws.getD 1 Str.empty
def Rlt (u v:List Str):Prop:=(isH u=true /\ isH v=false) \/ (isH u=isH v /\ ltS (nam u) (nam v))
theorem jM {x y:Str} (h1:ltS x y) (h2:ltS y x):False:=h1.2 (jo h1.1 h2.1)
theorem jN {u v:List Str} (h1:Rlt u v) (h2:Rlt v u):False:=by
 rcases h1 with ⟨a,b⟩ | ⟨a,b⟩ <;> rcases h2 with ⟨c,e⟩ | ⟨c,e⟩
 ·rw [b] at c; cases c
 ·rw [a,b] at c; cases c
 ·rw [c,e] at a; cases a
 ·exact jM b e
theorem W_rise {d:Sd} (hd:d.Ok):(d.W.drop 2).Pairwise Rlt:=by
 rw [oP]
 refine List.pairwise_append.mpr ⟨?_,?_,fun x hx y hy=>?_⟩
 ·have:=hd.g.pr
  rw [List.pairwise_map] at this
  rw [List.pairwise_map]
  exact this.imp fun {a b} h=>.inr ⟨by rw [ja,ja],h⟩
 ·have:=hd.g.qr
  rw [List.pairwise_map] at this
  rw [List.pairwise_map]
  exact this.imp fun {a b} h=>.inr ⟨by rw [fJ,fJ],h⟩
 ·obtain ⟨p,_,rfl⟩:=List.mem_map.mp hx
  obtain ⟨q,_,rfl⟩:=List.mem_map.mp hy
  exact .inl ⟨ja p,fJ q⟩
theorem W_lt {d:Sd} (hd:d.Ok) {i:Nat} {u v:List Str} (hi:2 <= i) (h1:d.W[i]?=some u) (h2:d.W[i + 1]?=some v):Rlt u v:=by
 obtain ⟨j,rfl⟩:∃ j,i=2 + j:=⟨i - 2,by omega⟩
 rw [<- List.getElem?_drop] at h1
 rw [show 2 + j + 1=2 + (j + 1) by omega,<- List.getElem?_drop] at h2
 obtain ⟨l1,e1⟩:=List.getElem?_eq_some_iff.mp h1
 obtain ⟨l2,e2⟩:=List.getElem?_eq_some_iff.mp h2
 have:=List.pairwise_iff_getElem.mp (W_rise hd) j (j + 1) l1 l2 (by omega)
 rw [e1,e2] at this
 exact this
theorem wrd_of {ws:List Str} (h0:ws ≠ []) (h:∀ x ∈ ws,32 ∉ x.cps.toList):wrd (Txt.join (Str.ofString " ") ws)=ws:=by
 unfold wrd
 rw [bW]
 exact cQ h0 h
theorem fq (r:Str):∀ x ∈ wrd r,32 ∉ x.cps.toList:=by
 unfold wrd
 rw [bW]
 exact StrLaws.split_free r 32
theorem jc {r:Str} {ws:List Str} (h0:ws ≠ []) (h:∀ x ∈ ws,32 ∉ x.cps.toList) (e:r.cps.toList=(Txt.join (Str.ofString " ") ws).cps.toList):wrd r=ws:=by
 rw [bU e]
 exact wrd_of h0 h
theorem ft (r:Str):∃ a l,wrd r=a :: l:=by
 cases h:wrd r with
 | nil=>exact absurd h (i7 r)
 | cons a l=>exact ⟨a,l,rfl⟩
theorem jO (r:Str):wrd (r ++ Str.ofString " ")=wrd r ++ [Str.empty]:=by
 obtain ⟨a,l,e⟩:=ft r
 have er:r.cps.toList=a.cps.toList ++ l.flatMap fun x=>32 :: x.cps.toList:=by rw [<- tjF,<- bW,<- e,cU]
 refine jc (by simp) (fun x hx=>?_) ?_
 ·rcases List.mem_append.mp hx with h | h
  ·exact fq r x h
  ·rw [List.mem_singleton.mp h]; exact List.not_mem_nil
 ·rw [aM,ci,er,e,bW,List.cons_append,tjF,List.flatMap_append]
  simp [eN]
theorem lp (r:Str):wrd (Str.ofString " " ++ r)=Str.empty :: wrd r:=by
 obtain ⟨a,l,e⟩:=ft r
 have er:r.cps.toList=a.cps.toList ++ l.flatMap fun x=>32 :: x.cps.toList:=by rw [<- tjF,<- bW,<- e,cU]
 refine jc (by simp) (fun x hx=>?_) ?_
 ·rcases List.mem_cons.mp hx with h | h
  ·rw [h]; exact List.not_mem_nil
  ·exact fq r x h
 ·rw [aM,ci,er,e,bW,tj2,tjF]
  rfl
theorem c8 {rs:List Str} {k:Nat} (h:k < rs.length):rs[k]?=some (at' rs k):=by rw [List.getElem?_eq_getElem h,kt h]
theorem eB {bs:List Str} {d:Sd} {i:Nat} {r:Str} (e:bs.map wrd=d.W) (h:bs[i]?=some r):d.W[i]?=some (wrd r):=by
 rw [<- e,List.getElem?_map,h]
 rfl
theorem bJ {bs:List Str} {d:Sd} {r:Str} (e:bs.map wrd=d.W) (h:r ∈ bs):wrd r ∈ d.W:=by
 rw [<- e]
 exact List.mem_map_of_mem h
theorem mF {bs:List Str} {d:Sd} {r:Str} (e:bs.map wrd=d.W) (h:bs[0]?=some r):wrd r=[Str.ofString "stand",aR d.n,aR d.t]:=by
 have:=eB e h
 rw [W_0] at this
 exact (Option.some.inj this).symm
theorem kA {bs:List Str} {d:Sd} {r:Str} (e:bs.map wrd=d.W) (h:bs[1]?=some r):wrd r=bw d.vs d.cs d.ls:=by
 have:=eB e h
 rw [W_1] at this
 exact (Option.some.inj this).symm
theorem oQ {d:Sd} {ws:List Str} (h:ws ∈ d.W) (e:hw ws=Str.ofString "held"):∃ p ∈ d.ps,ws=heW p:=by
 rcases lm h with rfl | rfl | h | ⟨p,_,rfl⟩
 ·exact absurd e.symm cF.1.2.1
 ·exact absurd e.symm cF.2.1.1
 ·exact h
 ·exact absurd e cF.2.2
theorem lq {d:Sd} {ws:List Str} (h:ws ∈ d.W) (e:hw ws=Str.ofString "asked"):∃ p ∈ d.qs,ws=asW p:=by
 rcases lm h with rfl | rfl | ⟨p,_,rfl⟩ | h
 ·exact absurd e.symm cF.1.2.2
 ·exact absurd e.symm cF.2.1.2.1
 ·exact absurd e.symm cF.2.2
 ·exact h
theorem lu {d:Sd} (h:d.Ok):d.R.length=d.W.length:=by rw [<- cA h,List.length_map]
section
variable {d0:Sd} (h0:d0.Ok)
include h0
theorem b0:wrd (at' d0.R 0)=[Str.ofString "stand",aR d0.n,aR d0.t]:=mF (cA h0) (c8 (by rw [lu h0,iL]; omega))
theorem b1:wrd (at' d0.R 1)=bw d0.vs d0.cs d0.ls:=kA (cA h0) (c8 (by rw [lu h0,iL]; omega))
theorem bk {k:Nat} (h2:2 <= k) (h:k < d0.R.length):hw (wrd (at' d0.R k))=Str.ofString "held" \/ hw (wrd (at' d0.R k))=Str.ofString "asked":=by
 rcases W_ge h2 (eB (cA h0) (c8 h)) with ⟨p,_,e⟩ | ⟨p,_,e⟩
 ·left; rw [e]; rfl
 ·right; rw [e]; rfl
theorem fu:2 <= d0.R.length:=by rw [lu h0,iL]; omega
theorem not0 {bs:List Str} {d:Sd} {r:Str} (e:bs.map wrd=d.W) (h:bs[0]?=some r) (hn:hw (wrd r) ≠ Str.ofString "stand"):False:=hn (by rw [mF e h]; rfl)
theorem not1 {bs:List Str} {d:Sd} {r:Str} (e:bs.map wrd=d.W) (h:bs[1]?=some r) (hn:hw (wrd r) ≠ Str.ofString "bench"):False:=hn (by rw [kA e h]; rfl)
theorem not2 {bs:List Str} {d:Sd} {r:Str} {i:Nat} (e:bs.map wrd=d.W) (hi:2 <= i) (h:bs[i]?=some r) (hn:hw (wrd r)=Str.ofString "bench"):False:=by
 rcases W_ge hi (eB e h) with ⟨p,_,e'⟩ | ⟨p,_,e'⟩
 ·rw [e'] at hn; exact cF.2.1.1 hn
 ·rw [e'] at hn; exact cF.2.1.2.1 hn
theorem hb1:hw (wrd (at' d0.R 1))=Str.ofString "bench":=by rw [b1 h0]; rfl
theorem hb0:hw (wrd (at' d0.R 0))=Str.ofString "stand":=by rw [b0 h0]; rfl
omit h0 in
theorem dl {rs:List Str} {k:Nat} {r:Str} (h:k < rs.length):(withR rs k r)[k]?=some r:=by
 unfold withR
 rw [List.append_assoc,List.getElem?_append_right (by rw [List.length_take]; omega),List.length_take,Nat.min_eq_left (by omega),Nat.sub_self]
 rfl
omit h0 in
theorem fL {rs:List Str} {k:Nat} {r:Str}:r ∈ withR rs k r:=by
 unfold withR
 simp
theorem jP {r:Str} (hk:hw (wrd r) ∈ KW):wrd (upR r)=Txt.upper (hw (wrd r)) :: (wrd r).tail:=by
 obtain ⟨a,l,e⟩:=ft r
 have er:r.cps.toList=a.cps.toList ++ l.flatMap fun x=>32 :: x.cps.toList:=by rw [<- tjF,<- bW,<- e,cU]
 have ha:hw (wrd r)=a:=by rw [e]; rfl
 rw [ha] at hk ⊢
 have hle:a.length <= r.length:=hG (r:=r) (by rw [e]; exact List.mem_cons_self ..)
 have hal:a.cps.toList.length=a.length:=Array.length_toList
 have hup:∀ z ∈ KW,32 ∉ (Txt.upper z).cps.toList:=by decide +kernel
 refine jc (by simp) (fun x hx=>?_) ?_
 ·rcases List.mem_cons.mp hx with h | h
  ·rw [h]; exact hup a hk
  ·exact fq r x (List.mem_of_mem_tail h)
 ·unfold upR
  rw [e]
  show (Txt.upper a ++ Txt.slice r (some (a.length:Int)) none).cps.toList=_
  rw [aM,cL hle,er,bW,tjF,<- hal,List.drop_left]
  rfl
theorem no_ord {k way:Nat} (hk:k < d0.R.length) (hw':way < 10) {d:Sd} (hd:d.Ok) (e:(fj d0.R k way).map wrd=d.W):False:=by
 have h2:=fu h0
 have hl:=congrArg List.length e
 rw [List.length_map,iL] at hl
 have hkw:hw (wrd (at' d0.R k)) ∈ KW:=hZ (bJ (cA h0) (dM hk))
 match way,hw' with
 | 0,_ =>
  refine not0 h0 e (r:=at' d0.R 1) ?_ (by rw [hb1 h0]; exact cF.1.1)
  show (d0.R.drop 1)[0]?=_
  rw [List.getElem?_drop]
  exact c8 (by omega)
 | 1,_ =>
  by_cases h3:2 < d0.R.length
  ·refine not1 h0 e (r:=at' d0.R 2) ?_ ?_
   ·show (d0.R.take 1 ++ d0.R.drop 2)[1]?=_
    rw [List.getElem?_append_right (by rw [List.length_take]; omega),List.length_take,Nat.min_eq_left (by omega),List.getElem?_drop]
    exact c8 h3
   ·rcases bk h0 (Nat.le_refl 2) h3 with h | h
    ·rw [h]; exact cF.2.1.1
    ·rw [h]; exact cF.2.1.2.1
  ·have:(fj d0.R k 1).length=1:=by
    show (d0.R.take 1 ++ d0.R.drop 2).length=1
    rw [List.length_append,List.length_take,List.length_drop]
    omega
   omega
 | 2,_=>exact not0 h0 e (r:=at' d0.R 1) rfl (by rw [hb1 h0]; exact cF.1.1)
 | 3,_ =>
  have hx:(fj d0.R k 3)[k]?=some (at' d0.R k):=by
   show (d0.R.take k ++ [at' d0.R k] ++ d0.R.drop k)[k]?=_
   rw [List.append_assoc,List.getElem?_append_right (by rw [List.length_take]; omega),List.length_take,Nat.min_eq_left (by omega),Nat.sub_self]
   rfl
  have hy:(fj d0.R k 3)[k + 1]?=some (at' d0.R k):=by
   show (d0.R.take k ++ [at' d0.R k] ++ d0.R.drop k)[k + 1]?=_
   rw [List.getElem?_append_right (by rw [List.length_append,List.length_take]; simp; omega),List.length_append,List.length_take,Nat.min_eq_left (by omega),List.getElem?_drop]
   show d0.R[k + (k + 1 - (k + 1))]?=_
   rw [Nat.sub_self]
   exact c8 hk
  match k with
  | 0=>exact not1 h0 e hy (by rw [hb0 h0]; exact cF.2.1.2.2)
  | 1=>exact not2 h0 e (Nat.le_refl 2) hy (hb1 h0)
  | k + 2 =>
   have:=W_lt hd (i:=k + 2) (by omega) (eB e hx) (eB e hy)
   exact jN this this
 | 4,_ =>
  have:=hZ (bJ e (r:=Str.ofString "") (by show _ ∈ d0.R ++ [_]; simp))
  exact absurd this (by decide +kernel)
 | 5,_ =>
  have:(fj d0.R k 5).length=1:=by
   show (d0.R.take 1).length=1
   rw [List.length_take]
   omega
  omega
 | 6,_ =>
  have h:=bJ e (fL (rs:=d0.R) (k:=k) (r:=at' d0.R k ++ Str.ofString " "))
  rw [jO] at h
  exact jL hd h (by simp)
 | 7,_ =>
  have h:=bJ e (fL (rs:=d0.R) (k:=k) (r:=Str.ofString " " ++ at' d0.R k))
  rw [lp] at h
  exact jL hd h (List.mem_cons_self ..)
 | 8,_ =>
  have h:=hZ (bJ e (fL (rs:=d0.R) (k:=k) (r:=upR (at' d0.R k))))
  rw [jP h0 hkw] at h
  have hu:∀ z ∈ KW,Txt.upper z ∉ KW:=by decide +kernel
  exact hu _ hkw h
 | 9,_ =>
  have:=hZ (bJ e (r:=Str.ofString "kept a 1") (by show _ ∈ d0.R ++ [_]; simp))
  exact absurd this (by decide +kernel)
 | n + 10,h=>exact absurd h (by omega)
theorem no_swap {k:Nat} (hk:k + 1 < d0.R.length) {d:Sd} (hd:d.Ok) (e:(hV d0.R k).map wrd=d.W):False:=by
 have hx:(hV d0.R k)[k]?=some (at' d0.R (k + 1)):=by
  show (d0.R.take k ++ [at' d0.R (k + 1),at' d0.R k] ++ d0.R.drop (k + 2))[k]?=_
  rw [List.append_assoc,List.getElem?_append_right (by rw [List.length_take]; omega),List.length_take,Nat.min_eq_left (by omega),Nat.sub_self]
  rfl
 have hy:(hV d0.R k)[k + 1]?=some (at' d0.R k):=by
  show (d0.R.take k ++ [at' d0.R (k + 1),at' d0.R k] ++ d0.R.drop (k + 2))[k + 1]?=_
  rw [List.append_assoc,List.getElem?_append_right (by rw [List.length_take]; omega),List.length_take,Nat.min_eq_left (by omega),show k + 1 - k=1 by omega]
  rfl
 match k with
 | 0=>exact not0 h0 e hx (by rw [hb1 h0]; exact cF.1.1)
 | 1 =>
  refine not1 h0 e hx ?_
  rcases bk h0 (Nat.le_refl 2) hk with h | h
  ·rw [h]; exact cF.2.1.1
  ·rw [h]; exact cF.2.1.2.1
 | k + 2 =>
  have h1:=W_lt hd (i:=k + 2) (by omega) (eB e hx) (eB e hy)
  have h2:=W_lt h0 (i:=k + 2) (by omega) (eB (cA h0) (c8 (by omega))) (eB (cA h0) (c8 hk))
  exact jN h1 h2
end
instance (x:Str):Decidable (gO x):=inferInstanceAs (Decidable (_ /\ _ /\ _ /\ _))
theorem fM {x:Str} (h1:x.cps.toList[0]? ≠ some 45) (h2:¬ gO x) {n:Int} (hn:Big n):x ≠ aR n:=fun e=>h2 ((gj x).mpr ((kU h1).mp ⟨n,hn,e⟩))
theorem oR {x y:Str} (hx:x.cps.toList=45 :: y.cps.toList) (h:¬ gO y \/ y.cps.toList=[48]) {n:Int} (hn:Big n):x ≠ aR n:=fun e=>by
 have:=(kT hx).mp ⟨n,hn,e⟩
 rcases h with h | h
 ·exact h ((gj y).mpr this.1)
 ·exact this.2 h
theorem cV {x:Str} {n m:Int} (hn:Big n) (hm:Big m) (h:x=aR n) (e:x=aR m):n=m:=cC hn hm (h.symm.trans e)
theorem n0:Str.ofString "0"=aR 0:=by decide +kernel
theorem n1:Str.ofString "1"=aR 1:=by decide +kernel
theorem n3:Str.ofString "3"=aR 3:=by decide +kernel
theorem nm1:Str.ofString "-1"=aR (-1):=by decide +kernel
theorem nm3:Str.ofString "-3"=aR (-3):=by decide +kernel
theorem dN {n:Int} (h:n.natAbs <= 10):Big n:=Nat.lt_of_le_of_lt h (Nat.lt_of_lt_of_le (show 10 < 10 ^ 2 by decide) (Nat.pow_le_pow_right (by decide) (by decide)))
theorem gq:¬ gO grt:=by decide +kernel
theorem oS:grt.cps.toList[0]? ≠ some 45:=by decide +kernel
theorem bA {a b c x y z:Str} (h:[a,b,c]=[x,y,z]):b=y /\ c=z:=by
 simp only [List.cons.injEq] at h
 exact ⟨h.2.1,h.2.2.1⟩
section
variable {d0:Sd} (h0:d0.Ok)
include h0
theorem no_fst {way:Nat} (hw':way < 9) {d:Sd} (hd:d.Ok) (e:(li d0.R way).map wrd=d.W):False:=by
 have h:=mF e (r:=cy way) rfl
 have P:=hd.g.pos
 have nb:=hd.g.nb
 have tb:=hd.g.tb
 match way,hw' with
 | 0,_ =>
  rw [show wrd (cy 0)=[Str.ofString "stand",Str.ofString "01",Str.ofString "1"] by decide +kernel] at h
  exact fM (by decide +kernel) (by decide +kernel) nb (bA h).1
 | 1,_ =>
  rw [show wrd (cy 1)=[Str.ofString "stand",Str.ofString "1",Str.ofString "+1"] by decide +kernel] at h
  exact fM (by decide +kernel) (by decide +kernel) tb (bA h).2
 | 2,_ =>
  rw [show wrd (cy 2)=[Str.ofString "stand",Str.ofString "-1",Str.ofString "1"] by decide +kernel] at h
  have:=cV nb (dN (by decide)) (bA h).1 nm1
  omega
 | 3,_ =>
  rw [show wrd (cy 3)=[Str.ofString "stand",Str.ofString "0",Str.ofString "1"] by decide +kernel] at h
  have h1:=cV nb (dN (by decide)) (bA h).1 n0
  have h2:=cV tb (dN (by decide)) (bA h).2 n1
  omega
 | 4,_ =>
  rw [show wrd (cy 4)=[Str.ofString "stand",Str.ofString "1",Str.ofString "0"] by decide +kernel] at h
  have h1:=cV nb (dN (by decide)) (bA h).1 n1
  have h2:=cV tb (dN (by decide)) (bA h).2 n0
  omega
 | 5,_ =>
  rw [show wrd (cy 5)=[Str.ofString "stand",Str.ofString "1"] by decide +kernel] at h
  exact absurd (show (2:Nat)=3 from congrArg List.length h) (by decide)
 | 6,_ =>
  rw [show wrd (cy 6)=[Str.ofString "stand",Str.ofString "1",Str.ofString "1",Str.ofString "1"] by decide +kernel] at h
  exact absurd (show (4:Nat)=3 from congrArg List.length h) (by decide)
 | 7,_ =>
  rw [show wrd (cy 7)=[Str.ofString "stand",Str.ofString "a",Str.ofString "1"] by decide +kernel] at h
  exact fM (by decide +kernel) (by decide +kernel) nb (bA h).1
 | 8,_ =>
  rw [show wrd (cy 8)=[Str.ofString "stand",grt,Str.ofString "1"] by decide +kernel] at h
  exact fM oS gq nb (bA h).1
 | n + 9,h=>exact absurd h (by omega)
omit h0 in
theorem gr {d:Sd} (hd:d.Ok) {a b c:Str} {r:Str} (hm:wrd r ∈ d.W) (h:wrd r=[Str.ofString "asked",a,b,c]):∃ p ∈ d.qs,b=aR p.2.1 /\ c=fV p.2.2:=by
 obtain ⟨p,hp,e⟩:=lq hm (by rw [h]; rfl)
 rw [h] at e
 unfold asW at e
 simp only [List.cons.injEq] at e
 exact ⟨p,hp,e.2.2.1,e.2.2.2.1⟩
omit h0 in
theorem jd {d:Sd} (hd:d.Ok) {a b:Str} {r:Str} (hm:wrd r ∈ d.W) (h:wrd r=[Str.ofString "held",a,b]):∃ p ∈ d.ps,a=p.1 /\ b=aR p.2:=by
 obtain ⟨p,hp,e⟩:=oQ hm (by rw [h]; rfl)
 rw [h] at e
 unfold heW at e
 simp only [List.cons.injEq] at e
 exact ⟨p,hp,e.2.1,e.2.2.1⟩
omit h0 in
theorem cJ {r:Str} {ws:List Str} (h0:ws ≠ []) (hf:∀ z ∈ ws,32 ∉ z.cps.toList) (e:r.cps.toList=(Txt.join ⟨#[32]⟩ ws).cps.toList):wrd r=ws:=jc h0 hf (by rw [e,bW])
omit h0 in
theorem fr_x {x:Str} (h:Nm x):32 ∉ x.cps.toList:=h.fr.1
omit h0 in
theorem x_sl {x:Str} (h:Nm x):x ≠ SL:=fun e=>by
 have:=h.2.2 47 (by rw [e]; decide +kernel)
 omega
theorem no_rst {x y:Str} (hx:Nm x) (hy:Nm y) (hxy:ltS x y) {way:Nat} (hw':way < 11) {d:Sd} (hd:d.Ok) (e:(iJ d0.R x y way).map wrd=d.W):False:=by
 have h2:=fu h0
 have P:=hd.g.pos
 have fx:=fr_x hx
 have fy:=fr_x hy
 have mem:∀ {r:Str},r ∈ d0.R ++ [r]:=fun {r}=>by simp
 have ah:(Str.ofString "asked ").cps.toList=(Str.ofString "asked").cps.toList ++ [32]:=ol
 have bc:(Str.ofString "bench ").cps.toList=(Str.ofString "bench").cps.toList ++ [32]:=by decide +kernel
 have fr1:∀ {a b:Str},32 ∉ a.cps.toList -> 32 ∉ b.cps.toList -> ∀ z ∈ [a,b],32 ∉ z.cps.toList:=fun ha hb z hz=>by
  simp only [List.mem_cons,List.not_mem_nil,or_false] at hz
  rcases hz with rfl | rfl
  ·exact ha
  ·exact hb
 match way,hw' with
 | 0,_ =>
  have hm:=bJ e (r:=Str.ofString "held " ++ x) mem
  have hwd:wrd (Str.ofString "held " ++ x)=[Str.ofString "held",x]:=by
   refine cJ (by simp) (fr1 (by decide +kernel) fx) ?_
   rw [tj2,tj1,aM,kj]
   simp
  obtain ⟨p,_,e'⟩:=oQ hm (by rw [hwd]; rfl)
  rw [hwd] at e'
  cases e'
 | 1,_ =>
  have hm:=bJ e (r:=Str.ofString "held " ++ x ++ Str.ofString " -0") mem
  have hwd:wrd (Str.ofString "held " ++ x ++ Str.ofString " -0")=[Str.ofString "held",x,Str.ofString "-0"]:=by
   refine cJ (by simp) (fun z hz=>?_) ?_
   ·simp only [List.mem_cons,List.not_mem_nil,or_false] at hz
    rcases hz with rfl | rfl | rfl
    ·decide +kernel
    ·exact fx
    ·decide +kernel
   ·rw [tj2,tj2,tj1,aM,aM,kj,show (Str.ofString " -0").cps.toList=32 :: (Str.ofString "-0").cps.toList by decide +kernel]
    simp
  obtain ⟨p,hp,_,e2⟩:=jd hd hm hwd
  exact oR (y:=Str.ofString "0") (by decide +kernel) (.inr mn) (hd.g.pb p hp) e2
 | 2,_ =>
  have hm:=bJ e (r:=Str.ofString "held A 1") mem
  obtain ⟨p,hp,e1,_⟩:=jd hd hm (a:=Str.ofString "A") (b:=Str.ofString "1") (by decide +kernel)
  have:=(hd.g.np p hp).2.2 65 (by rw [<- e1]; decide +kernel)
  omega
 | 3,_ =>
  have hm:=bJ e (r:=Str.ofString "asked " ++ x ++ Str.ofString " 1") mem
  have hwd:wrd (Str.ofString "asked " ++ x ++ Str.ofString " 1")=[Str.ofString "asked",x,Str.ofString "1"]:=by
   refine cJ (by simp) (fun z hz=>?_) ?_
   ·simp only [List.mem_cons,List.not_mem_nil,or_false] at hz
    rcases hz with rfl | rfl | rfl
    ·decide +kernel
    ·exact fx
    ·decide +kernel
   ·rw [tj2,tj2,tj1,aM,aM,ah,show (Str.ofString " 1").cps.toList=32 :: (Str.ofString "1").cps.toList by decide +kernel]
    simp
  obtain ⟨p,_,e'⟩:=lq hm (by rw [hwd]; rfl)
  rw [hwd] at e'
  exact absurd (show (3:Nat)=4 from congrArg List.length e') (by decide)
 | 4,_ =>
  have hm:=bJ e (r:=Str.ofString "asked " ++ x ++ Str.ofString " 1 1 1") mem
  have hwd:wrd (Str.ofString "asked " ++ x ++ Str.ofString " 1 1 1")=[Str.ofString "asked",x,Str.ofString "1",Str.ofString "1",Str.ofString "1"]:=by
   refine cJ (by simp) (fun z hz=>?_) ?_
   ·simp only [List.mem_cons,List.not_mem_nil,or_false] at hz
    rcases hz with rfl | rfl | rfl | rfl | rfl
    ·decide +kernel
    ·exact fx
    ·decide +kernel
    ·decide +kernel
    ·decide +kernel
   ·rw [tj2,tj2,aM,aM,ah,show (Str.ofString " 1 1 1").cps.toList=32 :: (Txt.join ⟨#[32]⟩ [Str.ofString "1",Str.ofString "1",Str.ofString "1"]).cps.toList by decide +kernel]
    simp
  obtain ⟨p,_,e'⟩:=lq hm (by rw [hwd]; rfl)
  rw [hwd] at e'
  exact absurd (show (5:Nat)=4 from congrArg List.length e') (by decide)
 | 5,_ =>
  have hm:=bJ e (r:=Str.ofString "asked " ++ x ++ Str.ofString " 0 1") (by show _ ∈ [_] ++ [_] ++ [_]; simp)
  have hwd:wrd (Str.ofString "asked " ++ x ++ Str.ofString " 0 1")=[Str.ofString "asked",x,Str.ofString "0",Str.ofString "1"]:=by
   refine cJ (by simp) (fun z hz=>?_) ?_
   ·simp only [List.mem_cons,List.not_mem_nil,or_false] at hz
    rcases hz with rfl | rfl | rfl | rfl
    ·decide +kernel
    ·exact fx
    ·decide +kernel
    ·decide +kernel
   ·rw [tj2,tj2,aM,aM,ah,show (Str.ofString " 0 1").cps.toList=32 :: (Txt.join ⟨#[32]⟩ [Str.ofString "0",Str.ofString "1"]).cps.toList by decide +kernel]
    simp
  obtain ⟨p,hp,e2,_⟩:=gr hd hm hwd
  have h1:=cV (hd.g.qb p hp).1 (dN (by decide)) e2 n0
  have:=hd.g.q1 p hp
  omega
 | 6,_ =>
  have h:=mF e (r:=Str.ofString "stand 0 0") rfl
  rw [show wrd (Str.ofString "stand 0 0")=[Str.ofString "stand",Str.ofString "0",Str.ofString "0"] by decide +kernel] at h
  have h1:=cV hd.g.nb (dN (by decide)) (bA h).1 n0
  have hm:=bJ e (r:=Str.ofString "held a 1") (by show _ ∈ [_] ++ [_] ++ [_]; simp)
  obtain ⟨p,hp,_⟩:=oQ hm (by decide +kernel)
  rcases P with ⟨_,_,e3,_⟩ | h3
  ·rw [e3] at hp
   cases hp
  ·omega
 | 7,_ =>
  have h:=kA e (dl (r:=Str.ofString "bench / / " ++ x) (by omega))
  have hwd:wrd (Str.ofString "bench / / " ++ x)=bw [] [] [x]:=by
   refine cJ (by unfold bw; simp) (fun z hz=>?_) ?_
   ·unfold bw at hz
    simp only [List.nil_append,List.mem_cons,List.not_mem_nil,or_false] at hz
    rcases hz with rfl | rfl | rfl | rfl
    ·decide +kernel
    ·decide +kernel
    ·decide +kernel
    ·exact fx
   ·unfold bw
    rw [List.nil_append,List.nil_append,tj2,tj2,tj2,tj1,aM,show (Str.ofString "bench / / ").cps.toList=(Str.ofString "bench").cps.toList ++ 32 :: (SL.cps.toList ++ 32 :: (SL.cps.toList ++ [32])) by decide +kernel]
    simp
  rw [hwd] at h
  obtain ⟨e1,_,_⟩:=fI (by simp) (by simp) (dJ hd.g.nv) (dJ hd.g.nc) h
  have:=hd.o.v1
  rw [<- e1] at this
  exact absurd this (by decide)
 | 8,_ =>
  have h:=kA e (dl (r:=Str.ofString "bench " ++ x ++ Str.ofString " /") (by omega))
  have hwd:wrd (Str.ofString "bench " ++ x ++ Str.ofString " /")=[Str.ofString "bench",x,SL]:=by
   refine cJ (by simp) (fun z hz=>?_) ?_
   ·simp only [List.mem_cons,List.not_mem_nil,or_false] at hz
    rcases hz with rfl | rfl | rfl
    ·decide +kernel
    ·exact fx
    ·decide +kernel
   ·rw [tj2,tj2,tj1,aM,aM,bc,show (Str.ofString " /").cps.toList=32 :: SL.cps.toList by decide +kernel]
    simp
  rw [hwd] at h
  have hl:=congrArg List.length h
  rw [dH] at hl
  have h3:(3:Nat)=3 + d.vs.length + d.cs.length + d.ls.length:=hl
  have:=hd.o.v1
  omega
 | 9,_ =>
  have h:=kA e (dl (r:=Str.ofString "bench " ++ y ++ Str.ofString " " ++ x ++ Str.ofString " / /") (by omega))
  have hwd:wrd (Str.ofString "bench " ++ y ++ Str.ofString " " ++ x ++ Str.ofString " / /")=bw [y,x] [] []:=by
   refine cJ (by unfold bw; simp) (fun z hz=>?_) ?_
   ·unfold bw at hz
    simp only [List.cons_append,List.nil_append,List.mem_cons,List.not_mem_nil,or_false] at hz
    rcases hz with rfl | rfl | rfl | rfl | rfl
    ·decide +kernel
    ·exact fy
    ·exact fx
    ·decide +kernel
    ·decide +kernel
   ·unfold bw
    rw [show Str.ofString "bench" :: ([y,x] ++ SL :: ([] ++ [SL]))=[Str.ofString "bench",y,x,SL,SL] from rfl,tj2,tj2,tj2,tj2,tj1,aM,aM,aM,aM,bc,ci,show (Str.ofString " / /").cps.toList=32 :: (SL.cps.toList ++ 32 :: SL.cps.toList) by decide +kernel]
    simp
  rw [hwd] at h
  obtain ⟨e1,_,_⟩:=fI (by simp only [List.mem_cons,List.not_mem_nil,or_false]; rintro (z | z); exact x_sl hy z.symm; exact x_sl hx z.symm) (by simp) (dJ hd.g.nv) (dJ hd.g.nc) h
  have:=hd.o.vr
  rw [<- e1] at this
  exact jM hxy ((List.pairwise_cons.mp this).1 x (List.mem_cons_self ..))
 | 10,_ =>
  have h:=kA e (dl (r:=Str.ofString "bench " ++ x ++ Str.ofString " / / " ++ x) (by omega))
  have hwd:wrd (Str.ofString "bench " ++ x ++ Str.ofString " / / " ++ x)=bw [x] [] [x]:=by
   refine cJ (by unfold bw; simp) (fun z hz=>?_) ?_
   ·unfold bw at hz
    simp only [List.cons_append,List.nil_append,List.mem_cons,List.not_mem_nil,or_false] at hz
    rcases hz with rfl | rfl | rfl | rfl | rfl
    ·decide +kernel
    ·exact fx
    ·decide +kernel
    ·decide +kernel
    ·exact fx
   ·unfold bw
    rw [show Str.ofString "bench" :: ([x] ++ SL :: ([] ++ SL :: [x]))=[Str.ofString "bench",x,SL,SL,x] from rfl,tj2,tj2,tj2,tj2,tj1,aM,aM,aM,bc,show (Str.ofString " / / ").cps.toList=32 :: (SL.cps.toList ++ 32 :: (SL.cps.toList ++ [32])) by decide +kernel]
    simp
  rw [hwd] at h
  obtain ⟨e1,e2,e3⟩:=fI (by simp only [List.mem_cons,List.not_mem_nil,or_false]; exact fun z=>x_sl hx z.symm) (by simp) (dJ hd.g.nv) (dJ hd.g.nc) h
  have:=hd.o.apart x (by rw [<- e3]; exact List.mem_cons_self ..)
  rw [<- e2,if_pos rfl,<- e1] at this
  exact this (List.mem_cons_self ..)
 | n + 11,h=>exact absurd h (by omega)
theorem no_aln {way:Nat} (hw':way < 9) {d:Sd} (hd:d.Ok) (e:(jJ d0.R way).map wrd=d.W):False:=by
 have h2:=fu h0
 have P:=hd.g.pos
 have bn:∀ {r:Str} {vs cs ls:List Str},(withR d0.R 1 r).map wrd=d.W -> wrd r=bw vs cs ls -> SL ∉ vs -> SL ∉ cs -> vs=d.vs /\ cs=d.cs /\ ls=d.ls:=fun {r vs cs ls} e hwd hv hc=>by
  have h:=kA e (dl (by omega))
  rw [hwd] at h
  exact fI hv hc (dJ hd.g.nv) (dJ hd.g.nc) h
 match way,hw' with
 | 0,_ =>
  have h:=mF e (dl (r:=Str.ofString "stand 3 -1") (by omega))
  rw [show wrd (Str.ofString "stand 3 -1")=[Str.ofString "stand",Str.ofString "3",Str.ofString "-1"] by decide +kernel] at h
  have h1:=cV hd.g.nb (dN (by decide)) (bA h).1 n3
  have h2:=cV hd.g.tb (dN (by decide)) (bA h).2 nm1
  omega
 | 1,_ =>
  have hm:=bJ e (r:=Str.ofString "asked a -3 5") (by show _ ∈ [_,_,_]; simp)
  obtain ⟨p,hp,e2,_⟩:=gr hd hm (a:=Str.ofString "a") (b:=Str.ofString "-3") (c:=Str.ofString "5") (by decide +kernel)
  have h1:=cV (hd.g.qb p hp).1 (dN (by decide)) e2 nm3
  have:=hd.g.q1 p hp
  omega
 | 2,_ =>
  have h:=mF e (r:=Str.ofString "stand 0 0") rfl
  rw [show wrd (Str.ofString "stand 0 0")=[Str.ofString "stand",Str.ofString "0",Str.ofString "0"] by decide +kernel] at h
  have h1:=cV hd.g.nb (dN (by decide)) (bA h).1 n0
  have hm:=bJ e (r:=Str.ofString "asked a 1 5") (by show _ ∈ [_,_,_]; simp)
  obtain ⟨p,hp,_⟩:=lq hm (by decide +kernel)
  rcases P with ⟨_,_,_,e3⟩ | h3
  ·rw [e3] at hp
   cases hp
  ·omega
 | 3,_ =>
  have hm:=bJ e (r:=Str.ofString "held a " ++ grt) (by show _ ∈ [_,_,_]; simp)
  obtain ⟨p,hp,_,e2⟩:=jd hd hm (a:=Str.ofString "a") (b:=grt) (by decide +kernel)
  exact fM oS gq (hd.g.pb p hp) e2
 | 4,_ =>
  have hm:=bJ e (r:=Str.ofString "asked a " ++ grt ++ Str.ofString " 5") (by show _ ∈ [_,_,_]; simp)
  obtain ⟨p,hp,e2,_⟩:=gr hd hm (a:=Str.ofString "a") (b:=grt) (c:=Str.ofString "5") (by decide +kernel)
  exact fM oS gq (hd.g.qb p hp).1 e2
 | 5,_ =>
  have hm:=bJ e (r:=Str.ofString "asked a 1 -" ++ grt) (by show _ ∈ [_,_,_]; simp)
  obtain ⟨p,hp,_,e3⟩:=gr hd hm (a:=Str.ofString "a") (b:=Str.ofString "1") (c:=Str.ofString "-" ++ grt) (by decide +kernel)
  cases ha:p.2.2 with
  | none=>rw [ha] at e3; exact absurd e3 (by decide +kernel)
  | some m =>
   rw [ha] at e3
   exact oR (y:=grt) (by decide +kernel) (.inl gq) ((hd.g.qb p hp).2 m ha) e3
 | 6,_ =>
  obtain ⟨e1,_,_⟩:=bn e (vs:=[Str.ofString "a",Str.ofString "b",Str.ofString "c",Str.ofString "d",Str.ofString "e",Str.ofString "f",Str.ofString "g",Str.ofString "h"]) (cs:=[]) (ls:=[]) (by decide +kernel) (by decide +kernel) (by decide +kernel)
  have:=hd.o.v7
  rw [<- e1] at this
  exact absurd this (by decide)
 | 7,_ =>
  obtain ⟨_,e1,_⟩:=bn e (vs:=[Str.ofString "a"]) (cs:=[Str.ofString "b",Str.ofString "c",Str.ofString "d",Str.ofString "e",Str.ofString "f",Str.ofString "g",Str.ofString "h",Str.ofString "i"]) (ls:=[]) (by decide +kernel) (by decide +kernel) (by decide +kernel)
  have:=hd.o.c7
  rw [<- e1] at this
  exact absurd this (by decide)
 | 8,_ =>
  obtain ⟨_,_,e1⟩:=bn e (vs:=[Str.ofString "a"]) (cs:=[]) (ls:=[Str.ofString "b",Str.ofString "c",Str.ofString "d",Str.ofString "e",Str.ofString "f"]) (by decide +kernel) (by decide +kernel) (by decide +kernel)
  have:=hd.o.l4
  rw [<- e1] at this
  exact absurd this (by decide)
 | n + 9,h=>exact absurd h (by omega)
theorem no_bent {c:Int} {x y:Str} (hx:Nm x) (hy:Nm y) (hxy:ltS x y) {d:Sd} (hd:d.Ok) (e:(fk d0.R c x y).map wrd=d.W):False:=by
 have h2:=fu h0
 have m0:=Int.emod_nonneg c (show (40:Int) ≠ 0 by decide)
 have m1:=Int.emod_lt_of_pos c (show (0:Int) < 40 by decide)
 unfold fk at e
 split at e
 ·exact no_aln h0 (by omega) hd e
 split at e
 ·have k0:=Int.emod_nonneg (c / 40) (show ((d0.R.length:Int) - 1) ≠ 0 by omega)
  have k1:=Int.emod_lt_of_pos (c / 40) (show (0:Int) < (d0.R.length:Int) - 1 by omega)
  exact no_swap h0 (by omega) hd e
 split at e
 ·have k0:=Int.emod_nonneg (c / 40) (show (d0.R.length:Int) ≠ 0 by omega)
  have k1:=Int.emod_lt_of_pos (c / 40) (show (0:Int) < (d0.R.length:Int) by omega)
  exact no_ord h0 (by omega) (by assumption) hd e
 split at e
 ·exact no_fst h0 (by omega) hd e
 ·exact no_rst h0 hx hy hxy (by omega) hd e
end
structure Gd (r:Str):Prop where
 fr:10 ∉ r.cps.toList
 wd:(wrd r).length <= 800
 ln:r.length <= 4000
structure Sm (r:Str) (n:Nat):Prop where
 fr:10 ∉ r.cps.toList
 ln:r.length <= n
theorem Sm.app {a b:Str} {n m:Nat} (ha:Sm a n) (hb:Sm b m):Sm (a ++ b) (n + m):=by
 refine ⟨fun h=>?_,?_⟩
 ·rw [aM] at h
  rcases List.mem_append.mp h with h | h
  ·exact ha.fr h
  ·exact hb.fr h
 ·rw [Str.length_append]
  have:=ha.ln
  have:=hb.ln
  omega
theorem Sm.gd {r:Str} {n:Nat} (h:Sm r n) (hn:n <= 700):Gd r:=by
 have h1:=h.ln
 have h2:=jI r
 exact ⟨h.fr,by omega,by omega⟩
theorem je (x:String) (h:decide (10 ∉ (Str.ofString x).cps.toList /\ (Str.ofString x).length <= 40)=true):Sm (Str.ofString x) 40:=by
 have:=of_decide_eq_true h
 exact ⟨this.1,this.2⟩
theorem oU:Sm zer 100:=⟨by decide +kernel,by decide +kernel⟩
theorem kB:Sm grt 140:=(je "1" (by decide +kernel)).app oU
theorem sm_nm {x:Str} (h:Nm x):Sm x 8:=⟨h.fr.2,h.2.1⟩
def cz (bs:List Str):Prop:=∀ r ∈ bs,Gd r
theorem cz.app {a b:List Str} (ha:cz a) (hb:cz b):cz (a ++ b):=fun r h=>by
 rcases List.mem_append.mp h with h | h
 ·exact ha r h
 ·exact hb r h
theorem cz.take {a:List Str} (ha:cz a) (k:Nat):cz (a.take k):=fun r h=>ha r (List.mem_of_mem_take h)
theorem cz.drop {a:List Str} (ha:cz a) (k:Nat):cz (a.drop k):=fun r h=>ha r (List.mem_of_mem_drop h)
theorem cz.one {r:Str} (h:Gd r):cz [r]:=fun r' h'=>by rw [List.mem_singleton.mp h']; exact h
theorem cz.cons {r:Str} {bs:List Str} (h:Gd r) (hb:cz bs):cz (r :: bs):=fun r' h'=>by
 rcases List.mem_cons.mp h' with e | e
 ·rw [e]; exact h
 ·exact hb r' e
theorem cz.withR {a:List Str} (ha:cz a) (k:Nat) {r:Str} (h:Gd r):cz (withR a k r):=((ha.take k).app (.one h)).app (ha.drop (k + 1))
theorem iM {a:List Str} {k:Nat} {r:Str} (h:k < a.length):(withR a k r).length=a.length:=by
 unfold withR
 simp only [List.length_append,List.length_take,List.length_drop,List.length_cons,List.length_nil]
 omega
section
variable {d0:Sd} (h0:d0.Ok) (hp:d0.ps.length <= 24) (hq:d0.qs.length <= 24)
include h0
theorem R_gd:∀ r ∈ d0.R,Gd r /\ (wrd r).length <= 50 /\ r.length <= 1000:=fun r hr=>by
 have h1:=ou h0.g h0.o r hr
 have h2:=wlen (n:=d0.n) (t:=d0.t) (ps:=d0.ps) (qs:=d0.qs) h0.o (show wrd r ∈ _ from bJ (cA h0) hr)
 exact ⟨⟨R_free h0 r hr,by omega,by omega⟩,h2,h1⟩
theorem R_all:cz d0.R:=fun r h=>(R_gd h0 r h).1
theorem gd_up {r:Str} (hr:r ∈ d0.R):Gd (upR r):=by
 obtain ⟨g,hw50,hl⟩:=R_gd h0 r hr
 have hk:hw (wrd r) ∈ KW:=hZ (bJ (cA h0) hr)
 obtain ⟨a,l,e⟩:=ft r
 have ha:hw (wrd r)=a:=by rw [e]; rfl
 have hle:a.length <= r.length:=hG (r:=r) (by rw [e]; exact List.mem_cons_self ..)
 have hup:∀ z ∈ KW,10 ∉ (Txt.upper z).cps.toList:=by decide +kernel
 refine ⟨?_,?_,?_⟩
 ·unfold upR
  rw [e]
  show 10 ∉ (Txt.upper a ++ Txt.slice r (some (a.length:Int)) none).cps.toList
  rw [aM,cL hle]
  intro h
  rcases List.mem_append.mp h with h | h
  ·exact hup a (ha ▸ hk) h
  ·exact g.fr (List.mem_of_mem_drop h)
 ·rw [jP h0 hk,List.length_cons,List.length_tail]
  omega
 ·have h1:=PyProof.Rows.len_upper a
  unfold upR
  rw [e]
  show (Txt.upper a ++ Txt.slice r (some (a.length:Int)) none).length <= 4000
  rw [Str.length_append,dk hle]
  omega
theorem bent_gd {c:Int} {x y:Str} (hx:Nm x) (hy:Nm y):cz (fk d0.R c x y) /\ (fk d0.R c x y).length <= d0.R.length + 3 /\ fk d0.R c x y ≠ []:=by
 have h2:=fu h0
 have A:=R_all h0
 have sx:=sm_nm hx
 have sy:=sm_nm hy
 have g1:Gd (at' d0.R 1):=A _ (dM (by omega))
 have g0:Gd (at' d0.R 0):=A _ (dM (by omega))
 have m0:=Int.emod_nonneg c (show (40:Int) ≠ 0 by decide)
 have m1:=Int.emod_lt_of_pos c (show (0:Int) < 40 by decide)
 have C:∀ s:String,decide (10 ∉ (Str.ofString s).cps.toList /\ (Str.ofString s).length <= 40)=true -> Gd (Str.ofString s):=fun s h=>(je s h).gd (by decide)
 have W:∀ {k:Nat} {r:Str},k < d0.R.length -> Gd r -> cz (withR d0.R k r) /\ (withR d0.R k r).length <= d0.R.length + 3 /\ withR d0.R k r ≠ []:=fun {k r} hk h=>⟨A.withR k h,by rw [iM hk]; omega,fun z=>by have:=congrArg List.length z; rw [iM hk] at this; have h3:d0.R.length=0:=this; omega⟩
 have N:∀ {r:Str},Gd r -> cz (d0.R ++ [r]) /\ (d0.R ++ [r]).length <= d0.R.length + 3 /\ d0.R ++ [r] ≠ []:=fun {r} h=>⟨A.app (.one h),by rw [List.length_append]; simp,by simp⟩
 have ne:∀ {l:List Str},0 < l.length -> l ≠ []:=fun h z=>by rw [z] at h; cases h
 unfold fk
 split
 ·rename_i hw30
  generalize hway:(c % 40).toNat - 31=way
  have hw9:way < 9:=by omega
  match way,hw9 with
  | 0,_=>exact W (by omega) (C _ (by decide +kernel))
  | 1,_=>exact ⟨.cons (C _ (by decide +kernel)) (.cons g1 (.one (C _ (by decide +kernel)))),by show 3 <= _; omega,by show _ :: _ ≠ []; simp⟩
  | 2,_=>exact ⟨.cons (C _ (by decide +kernel)) (.cons g1 (.one (C _ (by decide +kernel)))),by show 3 <= _; omega,by show _ :: _ ≠ []; simp⟩
  | 3,_=>exact ⟨.cons (C _ (by decide +kernel)) (.cons g1 (.one (((je "held a " (by decide +kernel)).app kB).gd (by decide)))),by show 3 <= _; omega,by show _ :: _ ≠ []; simp⟩
  | 4,_=>exact ⟨.cons (C _ (by decide +kernel)) (.cons g1 (.one ((((je "asked a " (by decide +kernel)).app kB).app (je " 5" (by decide +kernel))).gd (by decide)))),by show 3 <= _; omega,by show _ :: _ ≠ []; simp⟩
  | 5,_=>exact ⟨.cons (C _ (by decide +kernel)) (.cons g1 (.one (((je "asked a 1 -" (by decide +kernel)).app kB).gd (by decide)))),by show 3 <= _; omega,by show _ :: _ ≠ []; simp⟩
  | 6,_=>exact W (by omega) (C _ (by decide +kernel))
  | 7,_=>exact W (by omega) (C _ (by decide +kernel))
  | 8,_=>exact W (by omega) (C _ (by decide +kernel))
  | n + 9,h=>exact absurd h (by omega)
 split
 ·have k0:=Int.emod_nonneg (c / 40) (show ((d0.R.length:Int) - 1) ≠ 0 by omega)
  have k1:=Int.emod_lt_of_pos (c / 40) (show (0:Int) < (d0.R.length:Int) - 1 by omega)
  generalize hk:(c / 40 % ((d0.R.length:Int) - 1)).toNat=k
  have hkl:k + 1 < d0.R.length:=by omega
  refine ⟨((A.take k).app (.cons (A _ (dM hkl)) (.one (A _ (dM (by omega)))))).app (A.drop (k + 2)),?_,ne ?_⟩
  ·unfold hV
   simp only [List.length_append,List.length_take,List.length_drop,List.length_cons,List.length_nil]
   omega
  ·unfold hV
   simp only [List.length_append,List.length_take,List.length_drop,List.length_cons,List.length_nil]
   omega
 split
 ·rename_i hw10
  have k0:=Int.emod_nonneg (c / 40) (show (d0.R.length:Int) ≠ 0 by omega)
  have k1:=Int.emod_lt_of_pos (c / 40) (show (0:Int) < (d0.R.length:Int) by omega)
  generalize hk:(c / 40 % (d0.R.length:Int)).toNat=k
  have hkl:k < d0.R.length:=by omega
  generalize hway:(c % 40).toNat=way at hw10
  obtain ⟨gk,k50,kl⟩:=R_gd h0 _ (dM hkl)
  match way,hw10 with
  | 0,_=>exact ⟨A.drop 1,by show (d0.R.drop 1).length <= _; rw [List.length_drop]; omega,ne (by show 0 < (d0.R.drop 1).length; rw [List.length_drop]; omega)⟩
  | 1,_=>exact ⟨(A.take 1).app (A.drop 2),by show (d0.R.take 1 ++ d0.R.drop 2).length <= _; rw [List.length_append,List.length_take,List.length_drop]; omega,ne (by show 0 < (d0.R.take 1 ++ d0.R.drop 2).length; rw [List.length_append,List.length_take,List.length_drop]; omega)⟩
  | 2,_=>exact ⟨(cz.cons g1 (.one g0)).app (A.drop 2),by show ([_,_] ++ d0.R.drop 2).length <= _; rw [List.length_append,List.length_drop]; simp; omega,by show _ :: _ ≠ []; simp⟩
  | 3,_=>exact ⟨((A.take k).app (.one gk)).app (A.drop k),by show (d0.R.take k ++ [_] ++ d0.R.drop k).length <= _; simp only [List.length_append,List.length_take,List.length_drop,List.length_cons,List.length_nil]; omega,ne (by show 0 < (d0.R.take k ++ [_] ++ d0.R.drop k).length; simp only [List.length_append,List.length_take,List.length_drop,List.length_cons,List.length_nil]; omega)⟩
  | 4,_=>exact N (C _ (by decide +kernel))
  | 5,_=>exact ⟨A.take 1,by show (d0.R.take 1).length <= _; rw [List.length_take]; omega,ne (by show 0 < (d0.R.take 1).length; rw [List.length_take]; omega)⟩
  | 6,_ =>
   refine W hkl ⟨?_,by rw [jO,List.length_append]; simp; omega,by rw [Str.length_append,show (Str.ofString " ").length=1 by decide +kernel]; omega⟩
   rw [aM,ci]
   intro h
   rcases List.mem_append.mp h with h | h
   ·exact gk.fr h
   ·exact absurd h (by decide)
  | 7,_ =>
   refine W hkl ⟨?_,by rw [lp,List.length_cons]; omega,by rw [Str.length_append,show (Str.ofString " ").length=1 by decide +kernel]; omega⟩
   rw [aM,ci]
   intro h
   rcases List.mem_append.mp h with h | h
   ·exact absurd h (by decide)
   ·exact gk.fr h
  | 8,_=>exact W hkl (gd_up h0 (dM hkl))
  | 9,_=>exact N (C _ (by decide +kernel))
  | n + 10,h=>exact absurd h (by omega)
 split
 ·rename_i hw10 hw19
  generalize hway:(c % 40).toNat - 10=way
  have hw9:way < 9:=by omega
  have gf:Gd (cy way):=by
   match way,hw9 with
   | 0,_=>exact C _ (by decide +kernel)
   | 1,_=>exact C _ (by decide +kernel)
   | 2,_=>exact C _ (by decide +kernel)
   | 3,_=>exact C _ (by decide +kernel)
   | 4,_=>exact C _ (by decide +kernel)
   | 5,_=>exact C _ (by decide +kernel)
   | 6,_=>exact C _ (by decide +kernel)
   | 7,_=>exact C _ (by decide +kernel)
   | 8,_=>exact (((je "stand 1" (by decide +kernel)).app oU).app (je " 1" (by decide +kernel))).gd (by decide)
   | n + 9,h=>exact absurd h (by omega)
  exact ⟨(cz.one gf).app (A.drop 1),by show ([_] ++ d0.R.drop 1).length <= _; rw [List.length_append,List.length_drop]; simp; omega,by show _ :: _ ≠ []; simp⟩
 ·rename_i hw10 hw19
  generalize hway:(c % 40).toNat - 19=way
  have hw11:way < 11:=by omega
  have hc:=fun s h=>je s h
  match way,hw11 with
  | 0,_=>exact N (((hc "held " (by decide +kernel)).app sx).gd (by decide))
  | 1,_=>exact N ((((hc "held " (by decide +kernel)).app sx).app (hc " -0" (by decide +kernel))).gd (by decide))
  | 2,_=>exact N (C _ (by decide +kernel))
  | 3,_=>exact N ((((hc "asked " (by decide +kernel)).app sx).app (hc " 1" (by decide +kernel))).gd (by decide))
  | 4,_=>exact N ((((hc "asked " (by decide +kernel)).app sx).app (hc " 1 1 1" (by decide +kernel))).gd (by decide))
  | 5,_=>exact ⟨((cz.one (C _ (by decide +kernel))).app (.one g1)).app (.one ((((hc "asked " (by decide +kernel)).app sx).app (hc " 0 1" (by decide +kernel))).gd (by decide))),by show 3 <= _; omega,by show _ :: _ ≠ []; simp⟩
  | 6,_=>exact ⟨((cz.one (C _ (by decide +kernel))).app (.one g1)).app (.one (C _ (by decide +kernel))),by show 3 <= _; omega,by show _ :: _ ≠ []; simp⟩
  | 7,_=>exact W (by omega) (((hc "bench / / " (by decide +kernel)).app sx).gd (by decide))
  | 8,_=>exact W (by omega) ((((hc "bench " (by decide +kernel)).app sx).app (hc " /" (by decide +kernel))).gd (by decide))
  | 9,_=>exact W (by omega) ((((((hc "bench " (by decide +kernel)).app sy).app (hc " " (by decide +kernel))).app sx).app (hc " / /" (by decide +kernel))).gd (by decide))
  | 10,_=>exact W (by omega) (((((hc "bench " (by decide +kernel)).app sx).app (hc " / / " (by decide +kernel))).app sx).gd (by decide))
  | n + 11,h=>exact absurd h (by omega)
end
theorem tx_of {bs:List Str} (h0:bs ≠ []) (h:cz bs) (hl:bs.length <= 200):jG (Txt.join (Str.ofString "\n") bs):=by
 have hs:spl (Txt.join (Str.ofString "\n") bs)=bs:=by
  unfold spl
  rw [eA]
  exact cQ h0 fun r hr=>(h r hr).fr
 have hsum:=fF fun r hr=>(h r hr).ln
 have hj:=gF (Str.ofString "\n") bs
 have kn:(Str.ofString "\n").length=1:=by decide +kernel
 rw [kn] at hj
 refine ⟨?_,by rw [hs]; omega,fun r hr=>?_⟩
 ·have:bs.length * 4000 <= 200 * 4000:=Nat.mul_le_mul_right _ hl
  omega
 ·rw [hs] at hr
  have:=(h r hr).wd
  omega
theorem h9 {c e:Nat} (hce:c ≠ e):∀ (r:Str) (rs:List Str),(Txt.join ⟨#[e]⟩ (r :: rs)).cps.toList.count c=((r :: rs).map fun x=>x.cps.toList.count c).sum
 | r,[]=>by rw [tj1]; simp
 | r,q :: rs=>by
  rw [tj2,List.count_append,List.count_cons_of_ne (fun z=>hce z.symm),h9 hce q rs]
  rfl
theorem ia {c:Nat}:∀ (r:Str) (rs:List Str),(∀ x ∈ r :: rs,c ∉ x.cps.toList) -> (Txt.join ⟨#[c]⟩ (r :: rs)).cps.toList.count c=rs.length
 | r,[],h=>by
  rw [tj1]
  exact List.count_eq_zero.mpr (h r (List.mem_cons_self ..))
 | r,q :: rs,h=>by
  rw [tj2,List.count_append,List.count_cons_self,ia q rs (fun x hx=>h x (List.mem_cons_of_mem _ hx)),List.count_eq_zero.mpr (h r (List.mem_cons_self ..)),List.length_cons]
  omega
theorem jf (x:Str):(spl x).length=x.cps.toList.count 10 + 1:=by
 cases h:spl x with
 | nil=>exact absurd h (oz x)
 | cons r rs =>
  have hf:∀ y ∈ r :: rs,10 ∉ y.cps.toList:=by
   rw [<- h]
   unfold spl
   rw [eA]
   exact StrLaws.split_free x 10
  have:=ia r rs hf
  rw [<- h,<- eA,fi] at this
  rw [List.length_cons,this]
theorem lx (x:Str):(wrd x).length=x.cps.toList.count 32 + 1:=by
 cases h:wrd x with
 | nil=>exact absurd h (i7 x)
 | cons r rs =>
  have hf:∀ y ∈ r :: rs,32 ∉ y.cps.toList:=by
   rw [<- h]
   exact fq x
  have:=ia r rs hf
  rw [<- h,<- bW,cU] at this
  rw [List.length_cons,this]
theorem ly {α:Type} {f:α -> Nat}:∀ {xs:List α} {x:α},x ∈ xs -> f x <= (xs.map f).sum
 | y :: ys,x,h=>by
  rw [List.map_cons,List.sum_cons]
  rcases List.mem_cons.mp h with rfl | h
  ·omega
  ·have:=ly (f:=f) h
   omega
theorem row_cnt {x r:Str} (h:r ∈ spl x):r.cps.toList.count 32 <= x.cps.toList.count 32:=by
 cases hs:spl x with
 | nil=>exact absurd hs (oz x)
 | cons a rs =>
  have:=h9 (c:=32) (e:=10) (by decide) a rs
  rw [<- hs,<- eA,fi] at this
  rw [this]
  exact ly (f:=fun x:Str=>x.cps.toList.count 32) h
def lay (T:Str) (k:Nat) (s:Str):Str:=Txt.slice T none (some (k:Int)) ++ s ++ Txt.slice T (some ((k + 1:Nat):Int)) none
section
variable {d0:Sd} (h0:d0.Ok) (hp:d0.ps.length <= 24) (hq:d0.qs.length <= 24)
include h0 hp hq
theorem R_50:d0.R.length <= 50:=by
 rw [lu h0,iL]
 omega
theorem T_tx:jG d0.T:=tx_of (bs:=d0.R) (fun z=>by have:=fu h0; rw [z] at this; cases this) (R_all h0) (by have:=R_50 h0 hp hq; omega)
theorem T_cnt:d0.T.cps.toList.count 10 <= 50 /\ d0.T.cps.toList.count 32 <= 200:=by
 have hs:spl d0.T=d0.R:=cT h0.g
 have h10:=jf d0.T
 have h50:=R_50 h0 hp hq
 rw [hs] at h10
 refine ⟨by omega,?_⟩
 have e:d0.T=Txt.join ⟨#[10]⟩ d0.R:=by rw [<- eA]; rfl
 cases hR:d0.R with
 | nil=>have:=fu h0; rw [hR] at this; cases this
 | cons a rs =>
  rw [e,hR,h9 (by decide),<- hR]
  have hm:(d0.R.map fun x:Str=>x.cps.toList.count 32)=d0.W.map fun ws=>ws.length - 1:=by
   rw [<- cA h0,List.map_map]
   refine List.map_congr_left fun r _=>?_
   show _=(wrd r).length - 1
   rw [lx]
   omega
  rw [hm]
  unfold Sd.W cZ
  rw [List.map_cons,List.map_cons,List.map_append,List.map_map,List.map_map,List.sum_cons,List.sum_cons,List.sum_append]
  have s1:(d0.ps.map ((fun ws:List Str=>ws.length - 1) ∘ heW)).sum=2 * d0.ps.length:=by
   have:∀ ps:List (Str × Int),(ps.map ((fun ws:List Str=>ws.length - 1) ∘ heW)).sum=2 * ps.length:=fun ps=>by
    induction ps with
    | nil=>rfl
    | cons p ps ih =>
     rw [List.map_cons,List.sum_cons,ih,List.length_cons]
     show 2 + 2 * ps.length=_
     omega
   exact this _
  have s2:(d0.qs.map ((fun ws:List Str=>ws.length - 1) ∘ asW)).sum=3 * d0.qs.length:=by
   have:∀ ps:List (Str × Int × Option Int),(ps.map ((fun ws:List Str=>ws.length - 1) ∘ asW)).sum=3 * ps.length:=fun ps=>by
    induction ps with
    | nil=>rfl
    | cons p ps ih =>
     rw [List.map_cons,List.sum_cons,ih,List.length_cons]
     show 3 + 3 * ps.length=_
     omega
   exact this _
  rw [s1,s2,dH]
  have:=h0.o.v7
  have:=h0.o.c7
  have:=h0.o.l4
  show 2 + _ <= 200
  omega
theorem lay_tx {k c:Nat} (hk:k < d0.T.length):jG (lay d0.T k ⟨#[c]⟩):=by
 have hl:d0.T.cps.toList.length=d0.T.length:=Array.length_toList
 have T:=T_tx h0 hp hq
 obtain ⟨c1,c2⟩:=T_cnt h0 hp hq
 have e:(lay d0.T k ⟨#[c]⟩).cps.toList=d0.T.cps.toList.take k ++ [c] ++ d0.T.cps.toList.drop (k + 1):=by
  unfold lay
  rw [aM,aM,cL (by omega),j8 (by omega)]
 have cn:∀ a:Nat,(lay d0.T k ⟨#[c]⟩).cps.toList.count a <= d0.T.cps.toList.count a + 1:=fun a=>by
  rw [e,List.count_append,List.count_append]
  have h1:d0.T.cps.toList.count a=(d0.T.cps.toList.take (k + 1)).count a + (d0.T.cps.toList.drop (k + 1)).count a:=by
   rw [<- List.count_append,List.take_append_drop]
  have h2:(d0.T.cps.toList.take k).count a <= (d0.T.cps.toList.take (k + 1)).count a:=(List.take_sublist_take_left (by omega)).count_le a
  have h3:[c].count a <= 1:=List.count_le_length
  omega
 have ll:(lay d0.T k ⟨#[c]⟩).length=d0.T.length:=by
  have:(lay d0.T k ⟨#[c]⟩).cps.toList.length=(lay d0.T k ⟨#[c]⟩).length:=Array.length_toList
  rw [<- this,e]
  simp only [List.length_append,List.length_take,List.length_drop,List.length_cons,List.length_nil]
  omega
 refine ⟨by rw [ll]; exact T.len,?_,fun r hr=>?_⟩
 ·rw [jf]
  have:=cn 10
  omega
 ·rw [lx]
  have:=row_cnt hr
  have:=cn 32
  omega
end
theorem tx_e:jG (Str.ofString ""):=⟨by decide +kernel,by decide +kernel,by decide +kernel⟩
theorem tx_s:jG (Str.ofString "stand 0 0"):=⟨by decide +kernel,by decide +kernel,by decide +kernel⟩
theorem oV {T:Str} (h:(spl T).length=1):¬ ∃ d:Sd,d.Ok /\ T=d.T:=by
 rintro ⟨d,hd,rfl⟩
 have:=congrArg List.length (iF hd)
 rw [iL] at this
 unfold wds at this
 rw [List.length_map,h] at this
 omega
abbrev jg:Stmt:=top 57
abbrev nLaw:List Str:=["_law_script","_law_stand_here","_law_text_here","_law_names_here","_law_cell","_law_bent","_law_at","_law_found"]
def lA (K:PySem.W.Frag):Sp:=fun vs H Q _=>∃ (a:Addr) (ns:List Int),vs=[.ref a] /\ SqL K H a (ns.map V.int) /\ ns.length <= 63 /\ ∀ H',Q (.bl true) H'
theorem jh {K:PySem.W.Frag} {n:Nat} {H:Hp} {p r:Addr} {xs ys:List V} (h1:H p=some (.tup xs)) (h2:H r=some (.tup ys)) (hl:xs.length=ys.length) (h:∀ (i:Nat) (x y:V),xs[i]?=some x -> ys[i]?=some y -> Alk K n H x y):Alk K (n + 1) H (.ref p) (.ref r) :=
 .inr ⟨p,r,xs,ys,rfl,rfl,SqT.of h1,SqT.of h2,hl,h⟩
theorem fv {K:PySem.W.Frag} {n:Nat} {H:Hp} {p r:Addr} {xs:List V} (h1:H p=some (.tup xs)) (h2:H r=some (.tup xs)) (h:∀ x ∈ xs,smV x=true):Alk K (n + 1) H (.ref p) (.ref r) :=
 jh h1 h2 rfl fun i x y hx hy=>by
  rw [hx] at hy
  cases hy
  exact Alk.sm (h x (List.mem_of_getElem? hx))
theorem ji (zs:List Str):∀ x ∈ zs.map V.str,smV x=true:=fun x hx=>by
 obtain ⟨z,_,rfl⟩:=List.mem_map.mp hx
 rfl
theorem jQ {K:PySem.W.Frag} {n:Nat} {H:Hp} {p r:Addr} {as bs:List Addr} {rs:List (List V)} (h1:H p=some (.tup (as.map V.ref))) (h2:H r=some (.tup (bs.map V.ref))) (ha:Rows H as rs) (hb:Rows H bs rs) (hf:∀ r ∈ rs,∀ x ∈ r,smV x=true):Alk K (n + 2) H (.ref p) (.ref r):=by
 refine jh h1 h2 (by rw [List.length_map,List.length_map,ha.len,hb.len]) fun i x y hx hy=>?_
 rw [List.getElem?_map] at hx hy
 obtain ⟨a,ea,rfl⟩:=Option.map_eq_some_iff.mp hx
 obtain ⟨b,eb,rfl⟩:=Option.map_eq_some_iff.mp hy
 obtain ⟨s,es,hs⟩:=Paired.atL ha ea
 obtain ⟨s',es',hs'⟩:=Paired.atL hb eb
 rw [es] at es'
 cases es'
 exact fv hs hs' (hf s (List.mem_of_getElem? es))
theorem kC {K:PySem.W.Frag} {H:Hp} {p s:Addr} {d:Sd} (h1:d.At H p) (h2:d.At H s):Alks K H p s:=by
 obtain ⟨b,h,k,e1,hB,⟨as,hh,ha⟩,⟨ks,hk,hq⟩⟩:=h1
 obtain ⟨b',h',k',e2,hB',⟨as',hh',ha'⟩,⟨ks',hk',hq'⟩⟩:=h2
 obtain ⟨⟨v,c,l,b1,b2,b3,b4⟩,_⟩:=hB
 obtain ⟨⟨v',c',l',b1',b2',b3',b4'⟩,_⟩:=hB'
 refine ⟨2,_,_,by decide,SqT.of e1,SqT.of e2,rfl,fun i x y hx hy=>?_⟩
 match i,hx,hy with
 | 0,hx,hy=>cases hx; cases hy; exact Alk.sm rfl
 | 1,hx,hy=>cases hx; cases hy; exact Alk.sm rfl
 | 2,hx,hy =>
  cases hx; cases hy
  refine jh b1 b1' rfl fun j x y hx hy=>?_
  match j,hx,hy with
  | 0,hx,hy=>cases hx; cases hy; exact fv b2 b2' (ji _)
  | 1,hx,hy=>cases hx; cases hy; exact fv b3 b3' (ji _)
  | 2,hx,hy=>cases hx; cases hy; exact fv b4 b4' (ji _)
  | j + 3,hx,_=>cases hx
 | 3,hx,hy =>
  cases hx; cases hy
  refine jQ hh hh' ha ha' fun r hr x hx=>?_
  obtain ⟨q,_,rfl⟩:=List.mem_map.mp hr
  unfold gW at hx
  simp only [List.mem_cons,List.not_mem_nil,or_false] at hx
  rcases hx with rfl | rfl <;> rfl
 | 4,hx,hy =>
  cases hx; cases hy
  refine jQ hk hk' hq hq' fun r hr x hx=>?_
  obtain ⟨q,_,rfl⟩:=List.mem_map.mp hr
  unfold fW at hx
  simp only [List.mem_cons,List.not_mem_nil,or_false] at hx
  rcases hx with rfl | rfl | rfl
  ·rfl
  ·rfl
  ·cases q.2.2 <;> rfl
 | i + 5,hx,_=>cases hx
theorem BnT.same {H H':Hp} {b:Addr} {vs cs ls:List Str} (e:ar H H') (h:BnT H b vs cs ls):BnT H' b vs cs ls:=by
 obtain ⟨v,c,l,b1,b2,b3,b4⟩:=h
 exact ⟨v,c,l,e _ _ b1,e _ _ b2,e _ _ b3,e _ _ b4⟩
theorem ei.same {H H':Hp} {b:Addr} {vs cs ls:List Str} (e:ar H H') (h:ei H b vs cs ls):ei H' b vs cs ls:=by
 obtain ⟨a,r⟩:=h
 exact ⟨BnT.same e a,by assumption,by assumption,by assumption,by assumption,by assumption,by assumption,by assumption,by assumption⟩
theorem Sd.At.same {d:Sd} {H H':Hp} {s:Addr} (e:ar H H') (h:d.At H s):d.At H' s:=by
 obtain ⟨b,h,k,e1,hB,⟨as,hh,ha⟩,⟨ks,hk,hq⟩⟩:=h
 exact ⟨b,h,k,e _ _ e1,ei.same e hB,⟨as,e _ _ hh,Rows.same e ha⟩,⟨ks,e _ _ hk,Rows.same e hq⟩⟩
def SGN:Str:=Str.ofString " /-0a1\nZ+._:h7"
section
variable {P:Program} {w:World} {K:PySem.W.Frag} {mg:Str -> Option Value} {base:Heap}
theorem scLaw:aN nLaw ["_law_script"] (ai jg):=fsc (by decide +kernel)
theorem ok_law {f CN:Addr} {fd:FuncData} (F:Fun K "law" "law" jg f fd) (B:Blt mg) (Fl:bb P w K mg base 5 "_law_stand" ["_law_script"] (spLS K)) (Ft:bb P w K mg base 1 "_law_text" ["_law_stand_here"] spTx) (Fn:bb P w K mg base 4 "_law_names" ["_law_script","_law_k","_law_many"] (gi K))
  (Fm:bb P w K mg base 2 "_law_number" ["_law_script","_law_k"] (ff K)) (Fs:bb P w K mg base 2 "shown_stand" ["stand"] spSs) (Fr:cb P w K mg base 5 "read_stand" ["text"] (oE CN)) (Fb:bb P w K mg base 3 "_law_bent_rows" pBr spBr)
  (Ff:bb P w K mg base 6 "_law_refused" ["_law_text_here"] oN) (Fd:bb P w K mg base 6 "_law_read" ["_law_text_here"] kw):bG P w K mg base CX0 7 f fd ["_law_script"] (lA K):=by
 refine F.ok scLaw (fun us H Q E h=>?_) (fun cdv A outer s H us Q E hr h=>?_)
 ·obtain ⟨a,ns,rfl,_⟩:=h
  rfl
 ·obtain ⟨a,ns,rfl,hS,_,q⟩:=h
  have nd:=scLaw.nd
  have hu64:=hr.units
  have r1:bP 1 _:=hr.mono (by decide)
  have r2:bP 2 _:=hr.mono (by decide)
  have r3:bP 3 _:=hr.mono (by decide)
  have r4:bP 4 _:=hr.mono (by decide)
  have r5:bP 5 _:=hr.mono (by decide)
  refine ⟨_,ag (aw (i:=1) nd rfl (Or.inl rfl) (az Fl r5 (aa (pv 0) af))) <|
   ag (aw (i:=2) nd rfl (Or.inl rfl) (az Ft r1 (aa (pv 1) af))) <|
   ag (aw (i:=3) nd rfl (Or.inl rfl) (ax du (by rfl) B.sorted la (aa (az Fn r4 (aa (pv 0) (aa ac (aa ac af)))) af))) <|
   ag (be (aE (op_neAk hu64) (bv Fr r5 j4 (aa (pv 2) af)) (pv 1) (aC _)) (am (aF dw)) aQ) <|
   ag (aw (i:=4) nd rfl (Or.inl rfl) (aj bx (az Fm r2 (aa (pv 0) (aa ac af))) ac)) <|
   ag (aw (i:=5) nd rfl (Or.inl rfl) (ck PySem.F.plainAttrs_str PySem.F.slot_str_join PySem.F.type_str_join gb ao (aa (az Fb r3 (aa (ck PySem.F.plainAttrs_str PySem.F.slot_str_split PySem.F.type_str_split eZ (pv 2) (aa ao af)) (aa (pv 4) (aa (pv 3) af)))) af))) <|
   ag (be (PW.pt (cE (cm (bV (az Ff hr (aa (pv 5) af)))) <| cE (cm (bV (az Ff hr (aa ao af)))) <| c9 (cm (bV (az Ff hr (aa ao af)))))) (am (aF dw)) aQ) <|
   ag (aw (i:=6) nd rfl (Or.inl rfl) (aj aS (aj bx (pv 4) ac) (ax bR (by rfl) B.len PySem.boot_len (aa (pv 2) af)))) <|
   ag (aw (i:=5) nd rfl (Or.inl rfl) (aj aq (aj aq (aG eJ (pv 2) aV (aI (pv 6))) (aB fB ao (aj aS (aj bx (pv 4) ac) ac) (fun _ _=>rfl))) (aG eJ (pv 2) (aI (aj bd (pv 6) ac)) aV))) <|
   ag (aw (i:=7) nd rfl (Or.inl rfl) (az Fd hr (aa (pv 5) af))) <|
   ag (be (jS (jR (pv 7))) (am (aF (dy (az Ff hr (aa (pv 5) af)) (eF (bo (kP hu64) (bv Fr r5 j4 (aa (pv 2) af)) (pv 1) (aC _)))))) aQ) <|
   am (aF (dy (bo bK (az Fs r2 (aa (pv 7) af)) (pv 5) (aC _)) (eF (bo (kP hu64) (bv Fr r5 j4 (aa (pv 2) af)) (pv 1) (aC _))))),?_⟩
  have hs16:sizeLine=16777216:=sizeLine_eq
  refine ⟨_,rfl,a,ns,rfl,hS,fun s1 H1 n t vs cs ls ps qs u1 hst G O pl ql=>?_⟩
  obtain ⟨d,hd⟩:∃ d:Sd,d=⟨n,t,vs,cs,ls,ps,qs⟩:=⟨_,rfl⟩
  have h0:d.Ok:=by rw [hd]; exact ⟨G,O⟩
  have hp24:d.ps.length <= 24:=by rw [hd]; exact pl
  have hq24:d.qs.length <= 24:=by rw [hd]; exact ql
  have hAt:d.At H1 s1:=by rw [hd]; exact hst
  have hT:Txt.join (Str.ofString "\n") (bS n t vs cs ls ps qs)=d.T:=by rw [hd]; rfl
  refine ⟨_,rfl,s1,n,t,vs,cs,ls,ps,qs,rfl,hst,G,⟨pl,ql⟩,?_⟩
  rw [hT]
  clear hT hst G O pl ql hd
  have TX:=T_tx h0 hp24 hq24
  have hTl:=TX.len
  refine ⟨_,rfl,a,ns,2,12,rfl,u1.seq hS,by decide,by decide,by decide,by decide,fun ys p2 H2 u2 _ e2 l2 x2 m2=>?_⟩
  refine ⟨p2,ys,rfl,SqL.of e2,by omega,fun p3 zs H3 _ u3 e3 pm so=>?_⟩
  have ndz:zs.Nodup:=pm.symm.nodup (cB x2)
  have rz:=dR so ndz
  have zl:zs.length=12:=by rw [pm.length_eq]; omega
  obtain ⟨x,y,zr,rfl⟩:∃ x y r,zs=x :: y :: r:=by
   match zs,zl with
   | x :: y :: r,_=>exact ⟨x,y,r,rfl⟩
  have hx:Nm x:=m2 x (pm.mem_iff.mp (List.mem_cons_self ..))
  have hy:Nm y:=m2 y (pm.mem_iff.mp (List.mem_cons_of_mem _ (List.mem_cons_self ..)))
  have hxy:ltS x y:=(List.pairwise_cons.mp rz).1 y (List.mem_cons_self ..)
  have u13:=u1.trans (u2.trans u3)
  have hAt:=hAt.same (u2.trans u3)
  refine ⟨_,rfl,d.T,rfl,TX,fun d' p4 H4 hd' ed u4 h4=>?_,fun hn=>absurd ⟨d,h0,rfl⟩ hn⟩
  have ed:=oD h0 hd' ed
  subst ed
  have hAt4:=hAt.same u4
  refine ⟨_,rfl,p4,s1,rfl,rfl,kC h4 hAt4,_,rfl,bZ ?_⟩
  have u14:=u13.trans u4
  refine ⟨_,rfl,a,ns,0,rfl,u14.seq hS,by decide,by decide,fun z=>⟨_,_,rfl,rfl,⟨by decide,by decide⟩,?_⟩⟩
  generalize hc:((fun i j:Int=>V.int (i / j)) z 7)=cv
  obtain ⟨c,rfl⟩:∃ c:Int,cv=.int c:=⟨z / 7,hc.symm⟩
  clear hc
  have kn:(Str.ofString "\n").length ≠ 0:=by decide +kernel
  have kn1:(Str.ofString "\n").length=1:=by decide +kernel
  have hsp:Txt.split d.T (Str.ofString "\n")=d.R:=cT h0.g
  have h50:=R_50 h0 hp24 hq24
  refine ⟨rfl,_,rfl,rfl,_,_,rfl,rfl,kn,by omega,(by rw [hsp]; omega),Nat.le_trans (fc _ _) (by omega),fun p5 hp5=>?_⟩
  have u5:=ar.new (o:=.lst ((Txt.split d.T (Str.ofString "\n")).map V.str)) hp5
  have e5:SLs (upd H4 p5 (.lst ((Txt.split d.T (Str.ofString "\n")).map V.str))) p5 d.R:=by
   unfold SLs
   rw [au,hsp]
  generalize upd H4 p5 (.lst ((Txt.split d.T (Str.ofString "\n")).map V.str))=H5 at u5 e5 ⊢
  have RO:my d.R:=⟨fu h0,by omega,fun r hr=>(R_gd h0 r hr).2.2⟩
  refine ⟨_,rfl,_,rfl,p5,p3,d.R,c,x,y,zr,rfl,e5,RO,(u4.trans u5) _ _ e3,hx.2.1,hy.2.1,fun p6 H6 u6 e6=>?_⟩
  obtain ⟨bg,bl,bne⟩:=bent_gd h0 (c:=c) hx hy
  have TB:=tx_of bne bg (by omega)
  have nb:=no_text bne (fun r hr=>(bg r hr).fr) (fun d' hd' e=>no_bent h0 hx hy hxy hd' e)
  have bsum:=fF fun r hr=>(bg r hr).ln
  generalize fk d.R c x y=bs at *
  refine ⟨_,p6,bs,rfl,rfl,SqL.of e6,?_,?_⟩
  ·rw [kn1]
   have:bs.length * 4000 <= 100 * 4000:=Nat.mul_le_mul_right _ (by omega)
   omega
  have u46:=u5.trans u6
  refine ⟨_,rfl,_,rfl,TB,nb,fun H7 u7=>⟨_,rfl,bZ ?_⟩⟩
  refine ⟨_,rfl,tx_e,oV (by decide +kernel),fun H8 u8=>⟨_,rfl,bZ ?_⟩⟩
  refine ⟨_,rfl,tx_s,oV (by decide +kernel),fun H9 u9=>⟨_,rfl,bZ ?_⟩⟩
  have u49:=u46.trans (u7.trans (u8.trans u9))
  have hAt9:=hAt4.same u49
  have hTp:0 < d.T.length:=by
   have h1:=fu h0
   have h2:=jf d.T
   have h3:spl d.T=d.R:=cT h0.g
   rw [h3] at h2
   have h4:d.T.cps.toList.count 10 <= d.T.cps.toList.length:=List.count_le_length
   have h5:d.T.cps.toList.length=d.T.length:=Array.length_toList
   omega
  have k0:=Int.emod_nonneg (c / 560) (show (d.T.length:Int) ≠ 0 by omega)
  have k1:=Int.emod_lt_of_pos (c / 560) (show (0:Int) < (d.T.length:Int) by omega)
  obtain ⟨k,hk⟩:∃ k:Nat,c / 560 % (d.T.length:Int)=(k:Int):=⟨(c / 560 % (d.T.length:Int)).toNat,by omega⟩
  have hkl:k < d.T.length:=by omega
  have g0:=Int.emod_nonneg (c / 40) (show (14:Int) ≠ 0 by decide)
  have g1:=Int.emod_lt_of_pos (c / 40) (show (0:Int) < 14 by decide)
  obtain ⟨g,hg⟩:∃ g:Nat,c / 40 % 14=(g:Int):=⟨(c / 40 % 14).toNat,by omega⟩
  have hgl:SGN.cps.toList.length=14:=by decide +kernel
  obtain ⟨sg,hsg⟩:∃ sg,SGN.cps.toList[g]?=some sg:=⟨SGN.cps.toList[g]'(by omega),List.getElem?_eq_getElem _⟩
  have ek:V.int (c / 560 % ((d.T.length:Nat):Int))=V.int (k:Int):=by rw [hk]
  have eg:V.int (c / 40 % 14)=V.int (g:Int):=by rw [hg]
  refine ⟨_,rfl,_,_,rfl,rfl,⟨by decide,by decide⟩,_,rfl,_,rfl,by omega,_,_,rfl,rfl,(by show (0:Int) < (d.T.length:Int); omega),?_⟩
  have ls0:=eM (x:=d.T) (n:=k) (by omega)
  have ls1:=dk (x:=d.T) (n:=k + 1) (by omega)
  refine ⟨_,rfl,_,rfl,(k:Int),ek,d.T,rfl,by omega,?_⟩
  refine ⟨_,rfl,_,_,rfl,rfl,⟨by decide,by decide⟩,_,_,rfl,rfl,(by decide:(0:Int) < 14),SGN,(g:Int),sg,rfl,eg,(by decide +kernel),ba hsg,?_⟩
  refine ⟨_,_,rfl,rfl,(by show _ + 1 <= sizeLine; omega),?_⟩
  refine ⟨_,rfl,_,rfl,(k:Int),_,ek,rfl,_,rfl,d.T,rfl,by omega,?_⟩
  have e1:(k:Int) + 1=((k + 1:Nat):Int):=by omega
  rw [e1]
  refine ⟨_,_,rfl,rfl,(by rw [Str.length_append,ls0,ls1]; show _ + 1 + _ <= sizeLine; omega),?_⟩
  have LT:=lay_tx h0 hp24 hq24 (c:=sg) hkl
  have el:Txt.slice d.T none (some (k:Int)) ++ (⟨#[sg]⟩:Str) ++ Txt.slice d.T (some ((k + 1:Nat):Int)) none=lay d.T k ⟨#[sg]⟩:=rfl
  rw [el]
  generalize lay d.T k ⟨#[sg]⟩=T2 at LT ⊢
  refine ⟨_,rfl,T2,rfl,LT,fun d2 p10 H10 hd2 e2' u10 h10=>?_,fun hn H10 u10=>?_⟩
  ·have hAt10:=hAt9.same u10
   refine ⟨_,rfl,_,rfl,bz (fun h=>absurd (of_decide_eq_true h) (fun e=>nomatch e)) (fun _=>?_)⟩
   refine ⟨_,rfl,p10,d2.n,d2.t,d2.vs,d2.cs,d2.ls,d2.ps,d2.qs,rfl,h10,hd2.g,fun H11 u11=>?_⟩
   refine ⟨_,rfl,rfl,_,rfl,bz (fun _=>?_) (fun z=>absurd (decide_eq_true ?_) z)⟩
   ·have hAt11:=hAt10.same u11
    refine ⟨_,rfl,d.T,rfl,TX,fun d' p12 H12 hd' ed u12 h12=>?_,fun hn=>absurd ⟨d,h0,rfl⟩ hn⟩
    have ed:=oD h0 hd' ed
    subst ed
    exact ⟨_,rfl,p12,s1,rfl,rfl,kC h12 (hAt11.same u12),q _⟩
   ·exact congrArg V.str e2'.symm
  ·have hAt10:=hAt9.same u10
   refine ⟨_,rfl,_,rfl,bz (fun _=>?_) (fun z=>absurd (decide_eq_true rfl) z)⟩
   refine ⟨_,rfl,T2,rfl,LT,hn,fun H11 u11=>⟨_,rfl,cW ?_⟩⟩
   have hAt11:=hAt10.same u11
   refine ⟨_,rfl,d.T,rfl,TX,fun d' p12 H12 hd' ed u12 h12=>?_,fun hn=>absurd ⟨d,h0,rfl⟩ hn⟩
   have ed:=oD h0 hd' ed
   subst ed
   exact ⟨_,rfl,p12,s1,rfl,rfl,kC h12 (hAt11.same u12),q _⟩
end
theorem all_mk {l:PySem.W.OpenLaw} {w:World} {K:PySem.W.Frag} {h:Heap} {mg:Str -> Option Value} {fa:Addr} (X:K.In h) (G:h.Ns mainGlobals mg) (hfa:mg "law"=some (.ref fa))
  {fname:Addr} {odname anname:Option Addr} {slname:Array (Option Value)} {ocname kVname dcname pmname cdname ctname:Value} (aname:PySem.W.nsIn K mainGlobals "is_name"=some (some (.ref fname))) (lname:K.lookup fname=some ⟨ocname,odname,.func (PySem.W.fnOf "is_name" "is_name" (aP gS) (aK gS) (ai gS) .none kVname dcname pmname anname cdname ctname),slname⟩) (cname:PySem.W.codeIn K cdname "is_name"=true) (kname:PySem.W.keepIn K (.ref fname)=true)
  {frise:Addr} {odrise anrise:Option Addr} {slrise:Array (Option Value)} {ocrise kVrise dcrise pmrise cdrise ctrise:Value} (arise:PySem.W.nsIn K mainGlobals "is_rising_names"=some (some (.ref frise))) (lrise:K.lookup frise=some ⟨ocrise,odrise,.func (PySem.W.fnOf "is_rising_names" "is_rising_names" (aP fT) (aK fT) (ai fT) .none kVrise dcrise pmrise anrise cdrise ctrise),slrise⟩) (crise:PySem.W.codeIn K cdrise "is_rising_names"=true) (krise:PySem.W.keepIn K (.ref frise)=true)
  {fisb:Addr} {odisb anisb:Option Addr} {slisb:Array (Option Value)} {ocisb kVisb dcisb pmisb cdisb ctisb:Value} (aisb:PySem.W.nsIn K mainGlobals "is_bench"=some (some (.ref fisb))) (lisb:K.lookup fisb=some ⟨ocisb,odisb,.func (PySem.W.fnOf "is_bench" "is_bench" (aP jC) (aK jC) (ai jC) .none kVisb dcisb pmisb anisb cdisb ctisb),slisb⟩) (cisb:PySem.W.codeIn K cdisb "is_bench"=true) (kisb:PySem.W.keepIn K (.ref fisb)=true)
  {fjoined:Addr} {odjoined anjoined:Option Addr} {sljoined:Array (Option Value)} {ocjoined kVjoined dcjoined pmjoined cdjoined ctjoined:Value} (ajoined:PySem.W.nsIn K mainGlobals "is_joined"=some (some (.ref fjoined))) (ljoined:K.lookup fjoined=some ⟨ocjoined,odjoined,.func (PySem.W.fnOf "is_joined" "is_joined" (aP dZ) (aK dZ) (ai dZ) .none kVjoined dcjoined pmjoined anjoined cdjoined ctjoined),sljoined⟩) (cjoined:PySem.W.codeIn K cdjoined "is_joined"=true) (kjoined:PySem.W.keepIn K (.ref fjoined)=true)
  {fsb:Addr} {odsb ansb:Option Addr} {slsb:Array (Option Value)} {ocsb kVsb dcsb pmsb cdsb ctsb:Value} (asb:PySem.W.nsIn K mainGlobals "shown_bench"=some (some (.ref fsb))) (lsb:K.lookup fsb=some ⟨ocsb,odsb,.func (PySem.W.fnOf "shown_bench" "shown_bench" (aP sSb) (aK sSb) (ai sSb) .none kVsb dcsb pmsb ansb cdsb ctsb),slsb⟩) (csb:PySem.W.codeIn K cdsb "shown_bench"=true) (ksb:PySem.W.keepIn K (.ref fsb)=true)
  {fsa:Addr} {odsa ansa:Option Addr} {slsa:Array (Option Value)} {ocsa kVsa dcsa pmsa cdsa ctsa:Value} (asa:PySem.W.nsIn K mainGlobals "shown_asked"=some (some (.ref fsa))) (lsa:K.lookup fsa=some ⟨ocsa,odsa,.func (PySem.W.fnOf "shown_asked" "shown_asked" (aP sSa) (aK sSa) (ai sSa) .none kVsa dcsa pmsa ansa cdsa ctsa),slsa⟩) (csa:PySem.W.codeIn K cdsa "shown_asked"=true) (ksa:PySem.W.keepIn K (.ref fsa)=true)
  {fss:Addr} {odss anss:Option Addr} {slss:Array (Option Value)} {ocss kVss dcss pmss cdss ctss:Value} (ass:PySem.W.nsIn K mainGlobals "shown_stand"=some (some (.ref fss))) (lss:K.lookup fss=some ⟨ocss,odss,.func (PySem.W.fnOf "shown_stand" "shown_stand" (aP sSs) (aK sSs) (ai sSs) .none kVss dcss pmss anss cdss ctss),slss⟩) (css:PySem.W.codeIn K cdss "shown_stand"=true) (kss:PySem.W.keepIn K (.ref fss)=true)
  {ffig:Addr} {odfig anfig:Option Addr} {slfig:Array (Option Value)} {ocfig kVfig dcfig pmfig cdfig ctfig:Value} (afig:PySem.W.nsIn K mainGlobals "is_figures"=some (some (.ref ffig))) (lfig:K.lookup ffig=some ⟨ocfig,odfig,.func (PySem.W.fnOf "is_figures" "is_figures" (aP kc) (aK kc) (ai kc) .none kVfig dcfig pmfig anfig cdfig ctfig),slfig⟩) (cfig:PySem.W.codeIn K cdfig "is_figures"=true) (kfig:PySem.W.keepIn K (.ref ffig)=true)
  {fnum:Addr} {odnum annum:Option Addr} {slnum:Array (Option Value)} {ocnum kVnum dcnum pmnum cdnum ctnum:Value} (anum:PySem.W.nsIn K mainGlobals "read_number"=some (some (.ref fnum))) (lnum:K.lookup fnum=some ⟨ocnum,odnum,.func (PySem.W.fnOf "read_number" "read_number" (aP mm) (aK mm) (ai mm) .none kVnum dcnum pmnum annum cdnum ctnum),slnum⟩) (cnum:PySem.W.codeIn K cdnum "read_number"=true) (knum:PySem.W.keepIn K (.ref fnum)=true)
  {fwb:Addr} {odwb anwb:Option Addr} {slwb:Array (Option Value)} {ocwb kVwb dcwb pmwb cdwb ctwb:Value} (awb:PySem.W.nsIn K mainGlobals "words_behind"=some (some (.ref fwb))) (lwb:K.lookup fwb=some ⟨ocwb,odwb,.func (PySem.W.fnOf "words_behind" "words_behind" (aP sWb) (aK sWb) (ai sWb) .none kVwb dcwb pmwb anwb cdwb ctwb),slwb⟩) (cwb:PySem.W.codeIn K cdwb "words_behind"=true) (kwb:PySem.W.keepIn K (.ref fwb)=true)
  {frb:Addr} {odrb anrb:Option Addr} {slrb:Array (Option Value)} {ocrb kVrb dcrb pmrb cdrb ctrb:Value} (arb:PySem.W.nsIn K mainGlobals "read_bench"=some (some (.ref frb))) (lrb:K.lookup frb=some ⟨ocrb,odrb,.func (PySem.W.fnOf "read_bench" "read_bench" (aP sRb) (aK sRb) (ai sRb) .none kVrb dcrb pmrb anrb cdrb ctrb),slrb⟩) (crb:PySem.W.codeIn K cdrb "read_bench"=true) (krb:PySem.W.keepIn K (.ref frb)=true)
  {frh:Addr} {odrh anrh:Option Addr} {slrh:Array (Option Value)} {ocrh kVrh dcrh pmrh cdrh ctrh:Value} (arh:PySem.W.nsIn K mainGlobals "read_held"=some (some (.ref frh))) (lrh:K.lookup frh=some ⟨ocrh,odrh,.func (PySem.W.fnOf "read_held" "read_held" (aP sRh) (aK sRh) (ai sRh) .none kVrh dcrh pmrh anrh cdrh ctrh),slrh⟩) (crh:PySem.W.codeIn K cdrh "read_held"=true) (krh:PySem.W.keepIn K (.ref frh)=true)
  {fra:Addr} {odra anra:Option Addr} {slra:Array (Option Value)} {ocra kVra dcra pmra cdra ctra:Value} (ara:PySem.W.nsIn K mainGlobals "read_asked"=some (some (.ref fra))) (lra:K.lookup fra=some ⟨ocra,odra,.func (PySem.W.fnOf "read_asked" "read_asked" (aP sRa) (aK sRa) (ai sRa) .none kVra dcra pmra anra cdra ctra),slra⟩) (cra:PySem.W.codeIn K cdra "read_asked"=true) (kra:PySem.W.keepIn K (.ref fra)=true)
  {fiss:Addr} {odiss aniss:Option Addr} {sliss:Array (Option Value)} {ociss kViss dciss pmiss cdiss ctiss:Value} (aiss:PySem.W.nsIn K mainGlobals "is_stand"=some (some (.ref fiss))) (liss:K.lookup fiss=some ⟨ociss,odiss,.func (PySem.W.fnOf "is_stand" "is_stand" (aP i4) (aK i4) (ai i4) .none kViss dciss pmiss aniss cdiss ctiss),sliss⟩) (ciss:PySem.W.codeIn K cdiss "is_stand"=true) (kiss:PySem.W.keepIn K (.ref fiss)=true)
  {frd:Addr} {odrd anrd:Option Addr} {slrd:Array (Option Value)} {ocrd kVrd dcrd pmrd cdrd ctrd:Value} (ard:PySem.W.nsIn K mainGlobals "read_stand"=some (some (.ref frd))) (lrd:K.lookup frd=some ⟨ocrd,odrd,.func (PySem.W.fnOf "read_stand" "read_stand" (aP sRd) (aK sRd) (ai sRd) .none kVrd dcrd pmrd anrd cdrd ctrd),slrd⟩) (crd:PySem.W.codeIn K cdrd "read_stand"=true) (krd:PySem.W.keepIn K (.ref frd)=true)
  {fcell:Addr} {odcell ancell:Option Addr} {slcell:Array (Option Value)} {occell kVcell dccell pmcell cdcell ctcell:Value} (acell:PySem.W.nsIn K mainGlobals "_law_cell_at"=some (some (.ref fcell))) (lcell:K.lookup fcell=some ⟨occell,odcell,.func (PySem.W.fnOf "_law_cell_at" "_law_cell_at" (aP iy) (aK iy) (ai iy) .none kVcell dccell pmcell ancell cdcell ctcell),slcell⟩) (ccell:PySem.W.codeIn K cdcell "_law_cell_at"=true) (kcell:PySem.W.keepIn K (.ref fcell)=true)
  {fnext:Addr} {odnext annext:Option Addr} {slnext:Array (Option Value)} {ocnext kVnext dcnext pmnext cdnext ctnext:Value} (anext:PySem.W.nsIn K mainGlobals "_law_next"=some (some (.ref fnext))) (lnext:K.lookup fnext=some ⟨ocnext,odnext,.func (PySem.W.fnOf "_law_next" "_law_next" (aP iz) (aK iz) (ai iz) .none kVnext dcnext pmnext annext cdnext ctnext),slnext⟩) (cnext:PySem.W.codeIn K cdnext "_law_next"=true) (knext:PySem.W.keepIn K (.ref fnext)=true)
  {fother:Addr} {odother another:Option Addr} {slother:Array (Option Value)} {ocother kVother dcother pmother cdother ctother:Value} (aother:PySem.W.nsIn K mainGlobals "_law_other"=some (some (.ref fother))) (lother:K.lookup fother=some ⟨ocother,odother,.func (PySem.W.fnOf "_law_other" "_law_other" (aP fE) (aK fE) (ai fE) .none kVother dcother pmother another cdother ctother),slother⟩) (cother:PySem.W.codeIn K cdother "_law_other"=true) (kother:PySem.W.keepIn K (.ref fother)=true)
  {fnumber:Addr} {odnumber annumber:Option Addr} {slnumber:Array (Option Value)} {ocnumber kVnumber dcnumber pmnumber cdnumber ctnumber:Value} (anumber:PySem.W.nsIn K mainGlobals "_law_number"=some (some (.ref fnumber))) (lnumber:K.lookup fnumber=some ⟨ocnumber,odnumber,.func (PySem.W.fnOf "_law_number" "_law_number" (aP dX) (aK dX) (ai dX) .none kVnumber dcnumber pmnumber annumber cdnumber ctnumber),slnumber⟩) (cnumber:PySem.W.codeIn K cdnumber "_law_number"=true) (knumber:PySem.W.keepIn K (.ref fnumber)=true)
  {fdigits:Addr} {oddigits andigits:Option Addr} {sldigits:Array (Option Value)} {ocdigits kVdigits dcdigits pmdigits cddigits ctdigits:Value} (adigits:PySem.W.nsIn K mainGlobals "_law_digits"=some (some (.ref fdigits))) (ldigits:K.lookup fdigits=some ⟨ocdigits,oddigits,.func (PySem.W.fnOf "_law_digits" "_law_digits" (aP dY) (aK dY) (ai dY) .none kVdigits dcdigits pmdigits andigits cddigits ctdigits),sldigits⟩) (cdigits:PySem.W.codeIn K cddigits "_law_digits"=true) (kdigits:PySem.W.keepIn K (.ref fdigits)=true)
  {fnames:Addr} {odnames annames:Option Addr} {slnames:Array (Option Value)} {ocnames kVnames dcnames pmnames cdnames ctnames:Value} (anames:PySem.W.nsIn K mainGlobals "_law_names"=some (some (.ref fnames))) (lnames:K.lookup fnames=some ⟨ocnames,odnames,.func (PySem.W.fnOf "_law_names" "_law_names" (aP cS) (aK cS) (ai cS) .none kVnames dcnames pmnames annames cdnames ctnames),slnames⟩) (cnames:PySem.W.codeIn K cdnames "_law_names"=true) (knames:PySem.W.keepIn K (.ref fnames)=true)
  {fwide:Addr} {odwide anwide:Option Addr} {slwide:Array (Option Value)} {ocwide kVwide dcwide pmwide cdwide ctwide:Value} (awide:PySem.W.nsIn K mainGlobals "_law_wide"=some (some (.ref fwide))) (lwide:K.lookup fwide=some ⟨ocwide,odwide,.func (PySem.W.fnOf "_law_wide" "_law_wide" (aP iB) (aK iB) (ai iB) .none kVwide dcwide pmwide anwide cdwide ctwide),slwide⟩) (cwide:PySem.W.codeIn K cdwide "_law_wide"=true) (kwide:PySem.W.keepIn K (.ref fwide)=true)
  {flb:Addr} {odlb anlb:Option Addr} {sllb:Array (Option Value)} {oclb kVlb dclb pmlb cdlb ctlb:Value} (alb:PySem.W.nsIn K mainGlobals "_law_bench"=some (some (.ref flb))) (llb:K.lookup flb=some ⟨oclb,odlb,.func (PySem.W.fnOf "_law_bench" "_law_bench" (aP sLB) (aK sLB) (ai sLB) .none kVlb dclb pmlb anlb cdlb ctlb),sllb⟩) (clb:PySem.W.codeIn K cdlb "_law_bench"=true) (klb:PySem.W.keepIn K (.ref flb)=true)
  {fls:Addr} {odls anls:Option Addr} {slls:Array (Option Value)} {ocls kVls dcls pmls cdls ctls:Value} (als:PySem.W.nsIn K mainGlobals "_law_stand"=some (some (.ref fls))) (lls:K.lookup fls=some ⟨ocls,odls,.func (PySem.W.fnOf "_law_stand" "_law_stand" (aP sLS) (aK sLS) (ai sLS) .none kVls dcls pmls anls cdls ctls),slls⟩) (cls:PySem.W.codeIn K cdls "_law_stand"=true) (kls:PySem.W.keepIn K (.ref fls)=true)
  {ftx:Addr} {odtx antx:Option Addr} {sltx:Array (Option Value)} {octx kVtx dctx pmtx cdtx cttx:Value} (atx:PySem.W.nsIn K mainGlobals "_law_text"=some (some (.ref ftx))) (ltx:K.lookup ftx=some ⟨octx,odtx,.func (PySem.W.fnOf "_law_text" "_law_text" (aP sTx) (aK sTx) (ai sTx) .none kVtx dctx pmtx antx cdtx cttx),sltx⟩) (ctx:PySem.W.codeIn K cdtx "_law_text"=true) (ktx:PySem.W.keepIn K (.ref ftx)=true)
  {fwith:Addr} {odwith anwith:Option Addr} {slwith:Array (Option Value)} {ocwith kVwith dcwith pmwith cdwith ctwith:Value} (awith:PySem.W.nsIn K mainGlobals "_law_with"=some (some (.ref fwith))) (lwith:K.lookup fwith=some ⟨ocwith,odwith,.func (PySem.W.fnOf "_law_with" "_law_with" (aP iH) (aK iH) (ai iH) .none kVwith dcwith pmwith anwith cdwith ctwith),slwith⟩) (cwith:PySem.W.codeIn K cdwith "_law_with"=true) (kwith:PySem.W.keepIn K (.ref fwith)=true)
  {ford:Addr} {odord anord:Option Addr} {slord:Array (Option Value)} {ocord kVord dcord pmord cdord ctord:Value} (aord:PySem.W.nsIn K mainGlobals "_law_bent_order"=some (some (.ref ford))) (lord:K.lookup ford=some ⟨ocord,odord,.func (PySem.W.fnOf "_law_bent_order" "_law_bent_order" (aP mx) (aK mx) (ai mx) .none kVord dcord pmord anord cdord ctord),slord⟩) (cord:PySem.W.codeIn K cdord "_law_bent_order"=true) (kord:PySem.W.keepIn K (.ref ford)=true)
  {ffst:Addr} {odfst anfst:Option Addr} {slfst:Array (Option Value)} {ocfst kVfst dcfst pmfst cdfst ctfst:Value} (afst:PySem.W.nsIn K mainGlobals "_law_bent_first"=some (some (.ref ffst))) (lfst:K.lookup ffst=some ⟨ocfst,odfst,.func (PySem.W.fnOf "_law_bent_first" "_law_bent_first" (aP mB) (aK mB) (ai mB) .none kVfst dcfst pmfst anfst cdfst ctfst),slfst⟩) (cfst:PySem.W.codeIn K cdfst "_law_bent_first"=true) (kfst:PySem.W.keepIn K (.ref ffst)=true)
  {frst:Addr} {odrst anrst:Option Addr} {slrst:Array (Option Value)} {ocrst kVrst dcrst pmrst cdrst ctrst:Value} (arst:PySem.W.nsIn K mainGlobals "_law_bent_rest"=some (some (.ref frst))) (lrst:K.lookup frst=some ⟨ocrst,odrst,.func (PySem.W.fnOf "_law_bent_rest" "_law_bent_rest" (aP mC) (aK mC) (ai mC) .none kVrst dcrst pmrst anrst cdrst ctrst),slrst⟩) (crst:PySem.W.codeIn K cdrst "_law_bent_rest"=true) (krst:PySem.W.keepIn K (.ref frst)=true)
  {faln:Addr} {odaln analn:Option Addr} {slaln:Array (Option Value)} {ocaln kValn dcaln pmaln cdaln ctaln:Value} (aaln:PySem.W.nsIn K mainGlobals "_law_bent_alone"=some (some (.ref faln))) (laln:K.lookup faln=some ⟨ocaln,odaln,.func (PySem.W.fnOf "_law_bent_alone" "_law_bent_alone" (aP mD) (aK mD) (ai mD) .none kValn dcaln pmaln analn cdaln ctaln),slaln⟩) (caln:PySem.W.codeIn K cdaln "_law_bent_alone"=true) (kaln:PySem.W.keepIn K (.ref faln)=true)
  {fbr:Addr} {odbr anbr:Option Addr} {slbr:Array (Option Value)} {ocbr kVbr dcbr pmbr cdbr ctbr:Value} (abr:PySem.W.nsIn K mainGlobals "_law_bent_rows"=some (some (.ref fbr))) (lbr:K.lookup fbr=some ⟨ocbr,odbr,.func (PySem.W.fnOf "_law_bent_rows" "_law_bent_rows" (aP sBr) (aK sBr) (ai sBr) .none kVbr dcbr pmbr anbr cdbr ctbr),slbr⟩) (cbr:PySem.W.codeIn K cdbr "_law_bent_rows"=true) (kbr:PySem.W.keepIn K (.ref fbr)=true)
  {fref:Addr} {odref anref:Option Addr} {slref:Array (Option Value)} {ocref kVref dcref pmref cdref ctref:Value} (aref:PySem.W.nsIn K mainGlobals "_law_refused"=some (some (.ref fref))) (lref:K.lookup fref=some ⟨ocref,odref,.func (PySem.W.fnOf "_law_refused" "_law_refused" (aP mE) (aK mE) (ai mE) .none kVref dcref pmref anref cdref ctref),slref⟩) (cref:PySem.W.codeIn K cdref "_law_refused"=true) (kref:PySem.W.keepIn K (.ref fref)=true)
  {fread:Addr} {odread anread:Option Addr} {slread:Array (Option Value)} {ocread kVread dcread pmread cdread ctread:Value} (aread:PySem.W.nsIn K mainGlobals "_law_read"=some (some (.ref fread))) (lread:K.lookup fread=some ⟨ocread,odread,.func (PySem.W.fnOf "_law_read" "_law_read" (aP iK) (aK iK) (ai iK) .none kVread dcread pmread anread cdread ctread),slread⟩) (cread:PySem.W.codeIn K cdread "_law_read"=true) (kread:PySem.W.keepIn K (.ref fread)=true)
  {flaw:Addr} {odlaw anlaw:Option Addr} {sllaw:Array (Option Value)} {oclaw kVlaw dclaw pmlaw cdlaw ctlaw:Value} (alaw:PySem.W.nsIn K mainGlobals "law"=some (some (.ref flaw))) (llaw:K.lookup flaw=some ⟨oclaw,odlaw,.func (PySem.W.fnOf "law" "law" (aP jg) (aK jg) (ai jg) .none kVlaw dclaw pmlaw anlaw cdlaw ctlaw),sllaw⟩) (claw:PySem.W.codeIn K cdlaw "law"=true) (klaw:PySem.W.keepIn K (.ref flaw)=true)
  {tabc:Tok} (gabc:PySem.W.nsIn K mainGlobals "SMALL_LETTERS"=some (some (.str ABC tabc))) {tsev:Tok} (gsev:PySem.W.nsIn K mainGlobals "MOST_SPEAKING"=some (some (.int 7 tsev))) {tfou:Tok} (gfou:PySem.W.nsIn K mainGlobals "MOST_LEARNERS"=some (some (.int 4 tfou))) {tfigs:Tok} (gfigs:PySem.W.nsIn K mainGlobals "FIGURES"=some (some (.str FIG tfigs))) {thun:Tok} (ghun:PySem.W.nsIn K mainGlobals "MOST_FIGURES"=some (some (.int 100 thun))) (zlen:PySem.W.nsIn K mainGlobals "len"=some none) (zrange:PySem.W.nsIn K mainGlobals "range"=some none) (zint:PySem.W.nsIn K mainGlobals "int"=some none) (zmin:PySem.W.nsIn K mainGlobals "min"=some none) (zisinstance:PySem.W.nsIn K mainGlobals "isinstance"=some none) (ztuple:PySem.W.nsIn K mainGlobals "tuple"=some none) (zbool:PySem.W.nsIn K mainGlobals "bool"=some none) (zdict:PySem.W.nsIn K mainGlobals "dict"=some none) (zmax:PySem.W.nsIn K mainGlobals "max"=some none) (zall:PySem.W.nsIn K mainGlobals "all"=some none) (zstr:PySem.W.nsIn K mainGlobals "str"=some none) (zsorted:PySem.W.nsIn K mainGlobals "sorted"=some none) (zany:PySem.W.nsIn K mainGlobals "any"=some none) (zzip:PySem.W.nsIn K mainGlobals "zip"=some none) (zset:PySem.W.nsIn K mainGlobals "set"=some none) (zValueError:PySem.W.nsIn K mainGlobals "ValueError"=some none) {CN:Addr} (aCN:PySem.W.nsIn K mainGlobals "NoText"=some (some (.ref CN))) {CE:Addr} (aCE:PySem.W.nsIn K mainGlobals "ChainError"=some (some (.ref CE))) {d2:Addr} (ad2:PySem.W.nsIn K mainGlobals "NoBench"=some (some (.ref d2))) {d3:Addr} (ad3:PySem.W.nsIn K mainGlobals "NotYet"=some (some (.ref d3))) {d4:Addr} (ad4:PySem.W.nsIn K mainGlobals "NoLetter"=some (some (.ref d4))) {d5:Addr} (ad5:PySem.W.nsIn K mainGlobals "NoDeed"=some (some (.ref d5))) {d6:Addr} (ad6:PySem.W.nsIn K mainGlobals "NotChair"=some (some (.ref d6))) {d7:Addr} (ad7:PySem.W.nsIn K mainGlobals "Old"=some (some (.ref d7))) {d8:Addr} (ad8:PySem.W.nsIn K mainGlobals "NoTown"=some (some (.ref d8))) {d9:Addr} (ad9:PySem.W.nsIn K mainGlobals "NoHouse"=some (some (.ref d9))) {d10:Addr} (ad10:PySem.W.nsIn K mainGlobals "Standing"=some (some (.ref d10))) {d11:Addr} (ad11:PySem.W.nsIn K mainGlobals "Down"=some (some (.ref d11))) {d12:Addr} (ad12:PySem.W.nsIn K mainGlobals "NoPaper"=some (some (.ref d12))) (xCN:PySem.W.excIn K CN bmV "ValueError.__new__"=true) (xCE:PySem.W.excIn K CE bmV "ValueError.__new__"=true) (f1CN:PySem.W.findIn K (.ref CN) "__getattribute__"=some (some (.builtin "BaseException.__getattribute__"))) (f2CN:PySem.W.findIn K (.ref CN) "__getattr__"=some none) (f3CN:PySem.W.findIn K (.ref CN) "__class__"=some (some (.builtin "object.__class__"))) (hmCN:PySem.W.mroIn K CN (.type "object")=some true) (slE:PySem.W.mroIn K CN (.ref CE)=some true) (kd2:PySem.W.kitOne K (.ref CN) (.ref d2)=some false) (kd3:PySem.W.kitOne K (.ref CN) (.ref d3)=some false) (kd4:PySem.W.kitOne K (.ref CN) (.ref d4)=some false) (kd5:PySem.W.kitOne K (.ref CN) (.ref d5)=some false) (kd6:PySem.W.kitOne K (.ref CN) (.ref d6)=some false) (kd7:PySem.W.kitOne K (.ref CN) (.ref d7)=some false) (kd8:PySem.W.kitOne K (.ref CN) (.ref d8)=some false) (kd9:PySem.W.kitOne K (.ref CN) (.ref d9)=some false) (kd10:PySem.W.kitOne K (.ref CN) (.ref d10)=some false) (kd11:PySem.W.kitOne K (.ref CN) (.ref d11)=some false) (kd12:PySem.W.kitOne K (.ref CN) (.ref d12)=some false) (kv:PySem.W.kitOne K (.ref CN) (.type "ValueError")=some true) :
  ∃ fd:FuncData,(∀ (s:Shared) (v:Value),BindsTo s fd ⟨[v],[]⟩ [("_law_script",v)]) /\ ∀ base:Heap,K.In base -> base.Ns mainGlobals mg -> bG l.prog w K mg base CX0 7 fa fd ["_law_script"] (lA K):=by
 have e:=hfa.symm.trans (PySem.W.mg_of X G alaw)
 cases e
 have nlen:=PySem.W.mg_none_of X G zlen
 have nrange:=PySem.W.mg_none_of X G zrange
 have nint:=PySem.W.mg_none_of X G zint
 have nmin:=PySem.W.mg_none_of X G zmin
 have nisinstance:=PySem.W.mg_none_of X G zisinstance
 have ntuple:=PySem.W.mg_none_of X G ztuple
 have nbool:=PySem.W.mg_none_of X G zbool
 have ndict:=PySem.W.mg_none_of X G zdict
 have nmax:=PySem.W.mg_none_of X G zmax
 have nall:=PySem.W.mg_none_of X G zall
 have nstr:=PySem.W.mg_none_of X G zstr
 have nsorted:=PySem.W.mg_none_of X G zsorted
 have nany:=PySem.W.mg_none_of X G zany
 have nzip:=PySem.W.mg_none_of X G zzip
 have nset:=PySem.W.mg_none_of X G zset
 have nValueError:=PySem.W.mg_none_of X G zValueError
 have mabc:=PySem.W.mg_of X G gabc
 have msev:=PySem.W.mg_of X G gsev
 have mfou:=PySem.W.mg_of X G gfou
 have mfigs:=PySem.W.mg_of X G gfigs
 have mhun:=PySem.W.mg_of X G ghun
 have B:Blt mg:={ len:=nlen,range:=nrange,int:=nint,min:=nmin,isi:=nisinstance,tuple:=ntuple,bool:=nbool,dict:=ndict,max:=nmax,all:=nall,str:=nstr,sorted:=nsorted }
 have T:Bl2 mg:={ isi:=nisinstance,str:=nstr,all:=nall,any:=nany,zip:=nzip,set:=nset,abc:=⟨_,mabc⟩,sev:=⟨_,msev⟩,fou:=⟨_,mfou⟩ }
 have U:BlF mg:={ all:=nall,fig:=⟨_,mfigs⟩,hun:=⟨_,mhun⟩ }
 have XN:gI K mg "NoText" CN:=⟨PySem.W.mg_of X G aCN,xCN⟩
 have XC:gI K mg "ChainError" CE:=⟨PySem.W.mg_of X G aCE,xCE⟩
 have W:WhF K mg CN d2 d3 d4 d5 d6 d7 d8 d9 d10 d11 d12:=⟨⟨xCN,f1CN,f2CN,f3CN,hmCN⟩,PySem.W.mg_of X G aCN,PySem.W.mg_of X G ad2,PySem.W.mg_of X G ad3,PySem.W.mg_of X G ad4,PySem.W.mg_of X G ad5,PySem.W.mg_of X G ad6,PySem.W.mg_of X G ad7,PySem.W.mg_of X G ad8,PySem.W.mg_of X G ad9,PySem.W.mg_of X G ad10,PySem.W.mg_of X G ad11,PySem.W.mg_of X G ad12,nisinstance,nValueError,by unfold PySem.W.kitOne; rw [if_pos (by simp)],kd2,kd3,kd4,kd5,kd6,kd7,kd8,kd9,kd10,kd11,kd12,kv⟩
 have Fname:=aY (st:=gS) lname cname kname
 have bname:=Fname.binds (ps:=["thing"]) fun _ _ _ _ _ _ us hl=>match us,hl with | [_],_=>rfl
 have Frise:=aY (st:=fT) lrise crise krise
 have brise:=Frise.binds (ps:=["thing"]) fun _ _ _ _ _ _ us hl=>match us,hl with | [_],_=>rfl
 have Fisb:=aY (st:=jC) lisb cisb kisb
 have bisb:=Fisb.binds (ps:=["thing"]) fun _ _ _ _ _ _ us hl=>match us,hl with | [_],_=>rfl
 have Fjoined:=aY (st:=dZ) ljoined cjoined kjoined
 have bjoined:=Fjoined.binds (ps:=["bench"]) fun _ _ _ _ _ _ us hl=>match us,hl with | [_],_=>rfl
 have Fsb:=aY (st:=sSb) lsb csb ksb
 have bsb:=Fsb.binds (ps:=["bench"]) fun _ _ _ _ _ _ us hl=>match us,hl with | [_],_=>rfl
 have Fsa:=aY (st:=sSa) lsa csa ksa
 have bsa:=Fsa.binds (ps:=["asker","number","answer"]) fun _ _ _ _ _ _ us hl=>match us,hl with | [_,_,_],_=>rfl
 have Fss:=aY (st:=sSs) lss css kss
 have bss:=Fss.binds (ps:=["stand"]) fun _ _ _ _ _ _ us hl=>match us,hl with | [_],_=>rfl
 have Ffig:=aY (st:=kc) lfig cfig kfig
 have bfig:=Ffig.binds (ps:=["word"]) fun _ _ _ _ _ _ us hl=>match us,hl with | [_],_=>rfl
 have Fnum:=aY (st:=mm) lnum cnum knum
 have bnum:=Fnum.binds (ps:=["word"]) fun _ _ _ _ _ _ us hl=>match us,hl with | [_],_=>rfl
 have Fwb:=aY (st:=sWb) lwb cwb kwb
 have bwb:=Fwb.binds (ps:=["words","first","many"]) fun _ _ _ _ _ _ us hl=>match us,hl with | [_,_,_],_=>rfl
 have Frb:=aY (st:=sRb) lrb crb krb
 have brb:=Frb.binds (ps:=["words"]) fun _ _ _ _ _ _ us hl=>match us,hl with | [_],_=>rfl
 have Frh:=aY (st:=sRh) lrh crh krh
 have brh:=Frh.binds (ps:=["words"]) fun _ _ _ _ _ _ us hl=>match us,hl with | [_],_=>rfl
 have Fra:=aY (st:=sRa) lra cra kra
 have bra:=Fra.binds (ps:=["words"]) fun _ _ _ _ _ _ us hl=>match us,hl with | [_],_=>rfl
 have Fiss:=aY (st:=i4) liss ciss kiss
 have biss:=Fiss.binds (ps:=["place","term","bench","held","asked"]) fun _ _ _ _ _ _ us hl=>match us,hl with | [_,_,_,_,_],_=>rfl
 have Frd:=aY (st:=sRd) lrd crd krd
 have brd:=Frd.binds (ps:=["text"]) fun _ _ _ _ _ _ us hl=>match us,hl with | [_],_=>rfl
 have Fcell:=aY (st:=iy) lcell ccell kcell
 have bcell:=Fcell.binds (ps:=["_law_script","_law_k"]) fun _ _ _ _ _ _ us hl=>match us,hl with | [_,_],_=>rfl
 have Fnext:=aY (st:=iz) lnext cnext knext
 have bnext:=Fnext.binds (ps:=["_law_x"]) fun _ _ _ _ _ _ us hl=>match us,hl with | [_],_=>rfl
 have Fother:=aY (st:=fE) lother cother kother
 have bother:=Fother.binds (ps:=["_law_x"]) fun _ _ _ _ _ _ us hl=>match us,hl with | [_],_=>rfl
 have Fnumber:=aY (st:=dX) lnumber cnumber knumber
 have bnumber:=Fnumber.binds (ps:=["_law_script","_law_k"]) fun _ _ _ _ _ _ us hl=>match us,hl with | [_,_],_=>rfl
 have Fdigits:=aY (st:=dY) ldigits cdigits kdigits
 have bdigits:=Fdigits.binds (ps:=["_law_script","_law_k","_law_base","_law_many"]) fun _ _ _ _ _ _ us hl=>match us,hl with | [_,_,_,_],_=>rfl
 have Fnames:=aY (st:=cS) lnames cnames knames
 have bnames:=Fnames.binds (ps:=["_law_script","_law_k","_law_many"]) fun _ _ _ _ _ _ us hl=>match us,hl with | [_,_,_],_=>rfl
 have Fwide:=aY (st:=iB) lwide cwide kwide
 have bwide:=Fwide.binds (ps:=["_law_row"]) fun _ _ _ _ _ _ us hl=>match us,hl with | [_],_=>rfl
 have Flb:=aY (st:=sLB) llb clb klb
 have blb:=Flb.binds (ps:=["_law_row","_law_names_here"]) fun _ _ _ _ _ _ us hl=>match us,hl with | [_,_],_=>rfl
 have Fls:=aY (st:=sLS) lls cls kls
 have bls:=Fls.binds (ps:=["_law_script"]) fun _ _ _ _ _ _ us hl=>match us,hl with | [_],_=>rfl
 have Ftx:=aY (st:=sTx) ltx ctx ktx
 have btx:=Ftx.binds (ps:=["_law_stand_here"]) fun _ _ _ _ _ _ us hl=>match us,hl with | [_],_=>rfl
 have Fwith:=aY (st:=iH) lwith cwith kwith
 have bwith:=Fwith.binds (ps:=["_law_rows","_law_at","_law_row"]) fun _ _ _ _ _ _ us hl=>match us,hl with | [_,_,_],_=>rfl
 have Ford:=aY (st:=mx) lord cord kord
 have bord:=Ford.binds (ps:=["_law_rows","_law_way","_law_at"]) fun _ _ _ _ _ _ us hl=>match us,hl with | [_,_,_],_=>rfl
 have Ffst:=aY (st:=mB) lfst cfst kfst
 have bfst:=Ffst.binds (ps:=["_law_rows","_law_way"]) fun _ _ _ _ _ _ us hl=>match us,hl with | [_,_],_=>rfl
 have Frst:=aY (st:=mC) lrst crst krst
 have brst:=Frst.binds (ps:=["_law_rows","_law_way","_law_one","_law_other_here"]) fun _ _ _ _ _ _ us hl=>match us,hl with | [_,_,_,_],_=>rfl
 have Faln:=aY (st:=mD) laln caln kaln
 have baln:=Faln.binds (ps:=["_law_rows","_law_way"]) fun _ _ _ _ _ _ us hl=>match us,hl with | [_,_],_=>rfl
 have Fbr:=aY (st:=sBr) lbr cbr kbr
 have bbr:=Fbr.binds (ps:=["_law_rows","_law_cell","_law_names_here"]) fun _ _ _ _ _ _ us hl=>match us,hl with | [_,_,_],_=>rfl
 have Fref:=aY (st:=mE) lref cref kref
 have bref:=Fref.binds (ps:=["_law_text_here"]) fun _ _ _ _ _ _ us hl=>match us,hl with | [_],_=>rfl
 have Fread:=aY (st:=iK) lread cread kread
 have bread:=Fread.binds (ps:=["_law_text_here"]) fun _ _ _ _ _ _ us hl=>match us,hl with | [_],_=>rfl
 have Flaw:=aY (st:=jg) llaw claw klaw
 refine ⟨PySem.W.fnOf "law" "law" (aP jg) (aK jg) (ai jg) .none kVlaw dclaw pmlaw anlaw cdlaw ctlaw,fun s v=>.of_eq rfl,fun base _ _=>?_⟩
 have Aname:bb l.prog w K mg base 1 "is_name" ["thing"] spNm:=⟨_,_,ok_name Fname B T,PySem.W.mg_of X G aname,kname,bname⟩
 have Arise:bb l.prog w K mg base 2 "is_rising_names" ["thing"] i3:=⟨_,_,ok_rise Frise B T Aname,PySem.W.mg_of X G arise,krise,brise⟩
 have Ajoined:bb l.prog w K mg base 1 "is_joined" ["bench"] gT:=⟨_,_,mr Fjoined nlen,PySem.W.mg_of X G ajoined,kjoined,bjoined⟩
 have Aisb:bb l.prog w K mg base 3 "is_bench" ["thing"] n8:=⟨_,_,ok_isB Fisb B T Arise Ajoined,PySem.W.mg_of X G aisb,kisb,bisb⟩
 have Asb:bb l.prog w K mg base 1 "shown_bench" ["bench"] spSb:=⟨_,_,ok_sb Fsb,PySem.W.mg_of X G asb,ksb,bsb⟩
 have Asa:bb l.prog w K mg base 1 "shown_asked" ["asker","number","answer"] spSa:=⟨_,_,ok_sa Fsa nstr,PySem.W.mg_of X G asa,ksa,bsa⟩
 have Ass:bb l.prog w K mg base 2 "shown_stand" ["stand"] spSs:=⟨_,_,ok_ss Fss Asb Asa,PySem.W.mg_of X G ass,kss,bss⟩
 have Afig:bb l.prog w K mg base 1 "is_figures" ["word"] nS:=⟨_,_,ok_fig Ffig B U,PySem.W.mg_of X G afig,kfig,bfig⟩
 have Anum:cb l.prog w K mg base 2 "read_number" ["word"] (jB CN):=⟨_,_,ok_num Fnum B XN Afig,PySem.W.mg_of X G anum,knum,bnum⟩
 have Awb:cb l.prog w K mg base 1 "words_behind" ["words","first","many"] (nV CN):=⟨_,_,ok_wb Fwb B XN,PySem.W.mg_of X G awb,kwb,bwb⟩
 have Arb:cb l.prog w K mg base 1 "read_bench" ["words"] (spRb CN):=⟨_,_,ok_rb Frb B XN,PySem.W.mg_of X G arb,krb,brb⟩
 have Arh:cb l.prog w K mg base 3 "read_held" ["words"] (spRh CN):=⟨_,_,ok_rh Frh Awb Anum,PySem.W.mg_of X G arh,krh,brh⟩
 have Ara:cb l.prog w K mg base 3 "read_asked" ["words"] (spRa CN):=⟨_,_,ok_ra Fra Awb Anum,PySem.W.mg_of X G ara,kra,bra⟩
 have Aiss:bb l.prog w K mg base 4 "is_stand" ["place","term","bench","held","asked"] oh:=⟨_,_,ok_isS Fiss B T Arise Aisb,PySem.W.mg_of X G aiss,kiss,biss⟩
 have Ard:cb l.prog w K mg base 5 "read_stand" ["text"] (oE CN):=⟨_,_,ok_rd Frd B XN Awb Anum Arb Arh Ara Aiss,PySem.W.mg_of X G ard,krd,brd⟩
 have Acell:bb l.prog w K mg base 1 "_law_cell_at" ["_law_script","_law_k"] (gM K):=⟨_,_,ok_cell Fcell B,PySem.W.mg_of X G acell,kcell,bcell⟩
 have Anext:bb l.prog w K mg base 1 "_law_next" ["_law_x"] dF:=⟨_,_,ok_next Fnext,PySem.W.mg_of X G anext,knext,bnext⟩
 have Aother:bb l.prog w K mg base 1 "_law_other" ["_law_x"] dF:=⟨_,_,nG Fother,PySem.W.mg_of X G aother,kother,bother⟩
 have Anumber:bb l.prog w K mg base 2 "_law_number" ["_law_script","_law_k"] (ff K):=⟨_,_,mi Fnumber Acell Anext Aother,PySem.W.mg_of X G anumber,knumber,bnumber⟩
 have Adigits:bb l.prog w K mg base 3 "_law_digits" ["_law_script","_law_k","_law_base","_law_many"] (fg K):=⟨_,_,mj Fdigits B Acell Anext Aother Anumber,PySem.W.mg_of X G adigits,kdigits,bdigits⟩
 have Anames:bb l.prog w K mg base 4 "_law_names" ["_law_script","_law_k","_law_many"] (gi K):=⟨_,_,nJ Fnames B Adigits,PySem.W.mg_of X G anames,knames,bnames⟩
 have Awide:bb l.prog w K mg base 1 "_law_wide" ["_law_row"] (j9 K):=⟨_,_,ok_wide Fwide,PySem.W.mg_of X G awide,kwide,bwide⟩
 have Alb:bb l.prog w K mg base 1 "_law_bench" ["_law_row","_law_names_here"] (spLB K):=⟨_,_,ok_lb Flb B T,PySem.W.mg_of X G alb,klb,blb⟩
 have Als:bb l.prog w K mg base 5 "_law_stand" ["_law_script"] (spLS K):=⟨_,_,ok_ls Fls B Acell Adigits Anames Awide Alb,PySem.W.mg_of X G als,kls,bls⟩
 have Atx:bb l.prog w K mg base 1 "_law_text" ["_law_stand_here"] spTx:=⟨_,_,ok_tx Ftx B,PySem.W.mg_of X G atx,ktx,btx⟩
 have Awith:bb l.prog w K mg base 1 "_law_with" ["_law_rows","_law_at","_law_row"] hU:=⟨_,_,ok_with Fwith,PySem.W.mg_of X G awith,kwith,bwith⟩
 have Aord:bb l.prog w K mg base 2 "_law_bent_order" ["_law_rows","_law_way","_law_at"] oI:=⟨_,_,ok_ord Ford nlen Awith,PySem.W.mg_of X G aord,kord,bord⟩
 have Afst:bb l.prog w K mg base 1 "_law_bent_first" ["_law_rows","_law_way"] oJ:=⟨_,_,ok_fst Ffst,PySem.W.mg_of X G afst,kfst,bfst⟩
 have Arst:bb l.prog w K mg base 2 "_law_bent_rest" ["_law_rows","_law_way","_law_one","_law_other_here"] oK:=⟨_,_,ok_rst Frst Awith,PySem.W.mg_of X G arst,krst,brst⟩
 have Aaln:bb l.prog w K mg base 2 "_law_bent_alone" ["_law_rows","_law_way"] oM:=⟨_,_,ok_aln Faln nint Awith,PySem.W.mg_of X G aaln,kaln,baln⟩
 have Abr:bb l.prog w K mg base 3 "_law_bent_rows" ["_law_rows","_law_cell","_law_names_here"] spBr:=⟨_,_,ok_br Fbr nlen Aord Afst Arst Aaln,PySem.W.mg_of X G abr,kbr,bbr⟩
 have Aref:bb l.prog w K mg base 6 "_law_refused" ["_law_text_here"] oN:=⟨_,_,ok_ref Fref XC slE W Ard,PySem.W.mg_of X G aref,kref,bref⟩
 have Aread:bb l.prog w K mg base 6 "_law_read" ["_law_text_here"] kw:=⟨_,_,ok_read Fread XC slE Ard,PySem.W.mg_of X G aread,kread,bread⟩
 exact ok_law Flaw B Als Atx Anames Anumber Ass Ard Abr Aref Aread
theorem walk {l:PySem.W.OpenLaw} {q:Program} {loose:List Str} {XP:(Str -> Option Value) -> Heap -> Prop} {YP:World -> Heap -> Prop} {d:DefRec} {K:Params -> PySem.W.Frag} (hn:l.most=some 63) (hdf:d.params.defaults=[])
  (hY:∀ (w:World) (h:Heap),YP w h -> (K w.params).In h)
  (F:∀ (w:World) (mg:Str -> Option Value) (fa:Addr) (h:Heap),(K w.params).In h -> h.Ns mainGlobals mg -> mg d.name=some (.ref fa) ->
   ∃ fd:FuncData,(∀ (s:Shared) (u:Value),BindsTo s fd ⟨[u],[]⟩ [("_law_script",u)]) /\ ∀ base:Heap,(K w.params).In base -> base.Ns mainGlobals mg -> bG l.prog w (K w.params) mg base CX0 7 fa fd ["_law_script"] (lA (K w.params))) :
  PySem.W.WalkO q loose XP YP l.row.toRowW d [] (fun f vs=>PySem.call f vs) :=
 L2.walk_of (n:=63) (k:=7) (x:="_law_script") (CX:=fun _=>CX0) (sp:=fun w=>lA (K w.params)) hn (by decide) hdf ⟨rfl,by decide,by decide⟩ hY F (fun _ _ a ns hl _ hS=>⟨a,ns,rfl,hS,hl,fun _=>rfl⟩) fun _ _ _ _ _ z=>z
end K28
def PySem.W.Fast.tw5679027360486396011 : Nat := 0
def PySem.W.Fast.tw8470475731056582066 : Nat := 0
def PySem.W.Fast.tw3433898225002242298 : Nat := 0
def PySem.W.Fast.tw283463170517844926 : Nat := 0
def PySem.W.Fast.tw12089982672307741426 : Nat := 0
def PySem.W.Fast.tw9613991641248335485 : Nat := 0
def PySem.W.Fast.tw5901333443940577551 : Nat := 0
def PySem.W.Fast.tw13990261551797790129 : Nat := 0
def PySem.W.Fast.tw4079672077076821331 : Nat := 0
def PySem.W.Fast.tw14261267265569583908 : Nat := 0
def PySem.W.Fast.tw14627163877462430534 : Nat := 0
def PySem.W.Fast.tw3435951764559520342 : Nat := 0
def PySem.W.Fast.tw5811421533368645246 : Nat := 0
def PySem.W.Fast.tw15070865111627235998 : Nat := 0
def PySem.W.Fast.tw11622045657261086787 : Nat := 0
def PySem.W.Fast.tw6828992413758819328 : Nat := 0
def PySem.W.Fast.tw3426331006416313150 : Nat := 0
def PySem.W.Fast.tw15836900716079529160 : Nat := 0
def PySem.W.Fast.tw11861595039415861663 : Nat := 0
def PySem.W.Fast.tw4532441100685427273 : Nat := 0
def PySem.W.Fast.tw1253554860673222108 : Nat := 0
def PySem.W.Fast.tw13746161511360110684 : Nat := 0
def PySem.W.Fast.tw9298765287411715861 : Nat := 0
def PySem.W.Fast.tw7971985676798197600 : Nat := 0
def PySem.W.Fast.tw18032866103381480673 : Nat := 0
def PySem.W.Fast.tw1611362816551152081 : Nat := 0
def PySem.W.Fast.tw16737701333969570273 : Nat := 0
def PySem.W.Fast.tw13626222477175668063 : Nat := 0
def PySem.W.Fast.tw13721761552753929496 : Nat := 0
def PySem.W.Fast.tw826487456158131927 : Nat := 0
def PySem.W.Fast.tw18069259851085282301 : Nat := 0
def PySem.W.Fast.tw14472928516738769432 : Nat := 0
def PySem.W.Fast.tw7412443730821763584 : Nat := 0
def PySem.W.Fast.tw11129285641579395231 : Nat := 0
def PySem.W.Fast.tw14013240011743525332 : Nat := 0
def PySem.W.Fast.tw818876516556766193 : Nat := 0
def PySem.W.Fast.tw9849997104810721168 : Nat := 0
def PySem.W.Fast.tw15634043406547938334 : Nat := 0
def PySem.W.Fast.tw3894821163715156749 : Nat := 0
def PySem.W.Fast.tw12864258361407085777 : Nat := 0
def PySem.W.Fast.tw13054759241447295964 : Nat := 0
def PySem.W.Fast.tw457224247409831874 : Nat := 0
def PySem.W.Fast.tw913041033638518253 : Nat := 0
def PySem.W.Fast.tw15591454009192232650 : Nat := 0
def PySem.W.Fast.tw12195359528627200970 : Nat := 0
def PySem.W.Fast.tw6034387353339744333 : Nat := 0
def PySem.W.Fast.tw7170376063413496978 : Nat := 0
def PySem.W.Fast.tw9789106816311897130 : Nat := 0
def PySem.W.Fast.tw5623972646618041422 : Nat := 0
def PySem.W.Fast.tw9485542345507315558 : Nat := 0
def PySem.W.Fast.tw14423312117336316730 : Nat := 0
def PySem.W.Fast.tw11277168669584918504 : Nat := 0
def PySem.W.Fast.tw13287427617125844176 : Nat := 0
def PySem.W.Fast.tw9572921622012474079 : Nat := 0
def PySem.W.Fast.tw18000167219685243646 : Nat := 0
def PySem.W.Fast.tw7443225500955306662 : Nat := 0
def PySem.W.Fast.tw13520573142764058821 : Nat := 0
def PySem.W.Fast.tw2692757143620572073 : Nat := 0
def PySem.W.Fast.tw17253558082497911726 : Nat := 0
def PySem.W.Fast.tw6507362207755400061 : Nat := 0
def PySem.W.Fast.tw12152301451408832108 : Nat := 0
def PySem.W.Fast.tw10032335714162907703 : Nat := 0
def PySem.W.Fast.tw974079332689062632 : Nat := 0
def PySem.W.Fast.tw7089890240621073660 : Nat := 0
def PySem.W.Fast.tw2059016790340393431 : Nat := 0
def PySem.W.Fast.tw7451895349102172080 : Nat := 0
def PySem.W.Fast.tw7305224669975713375 : Nat := 0
def PySem.W.Fast.tw3750585248388735748 : Nat := 0
def PySem.W.Fast.tw17273096177921937907 : Nat := 0
def PySem.W.Fast.tw11102784319232709825 : Nat := 0
def PySem.W.Fast.tw11802343985843423800 : Nat := 0
def PySem.W.Fast.tw3659278627008940093 : Nat := 0
def PySem.W.Fast.tw17343209312719644641 : Nat := 0
def PySem.W.Fast.tw3503858866638117412 : Nat := 0
def PySem.W.Fast.tw4653389929429759920 : Nat := 0
def PySem.W.Fast.tw5191953653589166078 : Nat := 0
def PySem.W.Fast.tw466804265263404656 : Nat := 0
def PySem.W.Fast.tw7636428946560696637 : Nat := 0
def PySem.W.Fast.tw7008858801185463394 : Nat := 0
def PySem.W.Fast.tw14822813885866091360 : Nat := 0
def PySem.W.Fast.tw11506414603082061857 : Nat := 0
def PySem.W.Fast.tw4039792625023170872 : Nat := 0
def PySem.W.Fast.tw8283399886307157390 : Nat := 0
def PySem.W.Fast.tw2144056859025826019 : Nat := 0
def PySem.W.Fast.tw5909431750849606641 : Nat := 0
def PySem.W.Fast.tw3571973079214582691 : Nat := 0
def PySem.W.Fast.tw658463879523296033 : Nat := 0
def PySem.W.Fast.tw17353072156971354682 : Nat := 0
def PySem.W.Fast.tw2682186385712300994 : Nat := 0
def PySem.W.Fast.tw9499432595699213417 : Nat := 0
def PySem.W.Fast.tw9195784569098773680 : Nat := 0
def PySem.W.Fast.tw6210533294232252538 : Nat := 0
def PySem.W.Fast.tw4732250695910059649 : Nat := 0
def PySem.W.Fast.tw4874133767016485202 : Nat := 0
def PySem.W.Fast.tw398103563193128067 : Nat := 0
def PySem.W.Fast.tw5101451604157792909 : Nat := 0
def PySem.W.Fast.tw3034073514909985128 : Nat := 0
def PySem.W.Fast.tw11684674857895448110 : Nat := 0
def PySem.W.Fast.tw7456658447164099320 : Nat := 0
def PySem.W.Fast.tw17640878255461230572 : Nat := 0
def PySem.W.Fast.tw1495558224941301193 : Nat := 0
def PySem.W.Fast.tw7900030247131083273 : Nat := 0
def PySem.W.Fast.tw3809875403853699934 : Nat := 0
def PySem.W.Fast.tw5976777393870566115 : Nat := 0
def PySem.W.Fast.tw3575878380043865669 : Nat := 0
def PySem.W.Fast.tw7897169881795200837 : Nat := 0
def PySem.W.Fast.tw16747293445624788338 : Nat := 0
def PySem.W.Fast.tw4270022153889862842 : Nat := 0
def PySem.W.Fast.tw16933277578444274265 : Nat := 0
def PySem.W.Fast.tw704586764200256567 : Nat := 0
def PySem.W.Fast.tw10817690331290125076 : Nat := 0
def PySem.W.Fast.tw12323105641456292465 : Nat := 0
def PySem.W.Fast.tw6275906909497066280 : Nat := 0
def PySem.W.Fast.tw4161333420210874443 : Nat := 0
def PySem.W.Fast.tw4015873447653588485 : Nat := 0
def PySem.W.Fast.tw15892260725879846212 : Nat := 0
def PySem.W.Fast.tw5206328136850981749 : Nat := 0
def PySem.W.Fast.tw15761620655372654949 : Nat := 0
def PySem.W.Fast.tw480079137680328409 : Nat := 0
def PySem.W.Fast.tw12616302339577399184 : Nat := 0
def PySem.W.Fast.tw9050575804918938539 : Nat := 0
def PySem.W.Fast.tw7851138209456735177 : Nat := 0
def PySem.W.Fast.tw1037625153584258098 : Nat := 0
def PySem.W.Fast.tw17678480907534251613 : Nat := 0
def PySem.W.Fast.tw18307195174139687264 : Nat := 0
def PySem.W.Fast.tw14372121417396838235 : Nat := 0
def PySem.W.Fast.tw1582424267617556624 : Nat := 0
def PySem.W.Fast.tw11052734357991156880 : Nat := 0
def PySem.W.Fast.tw10697185684882740962 : Nat := 0
def PySem.W.Fast.tw10348589562068546846 : Nat := 0
def PySem.W.Fast.tw8038802591767250065 : Nat := 0
def PySem.W.Fast.tw6424476001944601754 : Nat := 0
def PySem.W.Fast.tw6872419488527531501 : Nat := 0
def PySem.W.Fast.tw987700509775284951 : Nat := 0
def PySem.W.Fast.tw14371954573818394965 : Nat := 0
def PySem.W.Fast.tw3425329597325182971 : Nat := 0
def PySem.W.Fast.tw3331206637579382625 : Nat := 0
def PySem.W.Fast.tw3053425682798353517 : Nat := 0
def PySem.W.Fast.tw16234175710324110952 : Nat := 0
def PySem.W.Fast.tw2414505877089009445 : Nat := 0
def PySem.W.Fast.tw5173904593188911806 : Nat := 0
def PySem.W.Fast.tw1607349620956745073 : Nat := 0
def PySem.W.Fast.tw17448649188972587237 : Nat := 0
def PySem.W.Fast.tw13739891335629312677 : Nat := 0
def PySem.W.Fast.tw10862294420552823165 : Nat := 0
def PySem.W.Fast.tw22693872793603708 : Nat := 0
def PySem.W.Fast.tw4059533247889552321 : Nat := 0
def PySem.W.Fast.tw17000787276923352677 : Nat := 0
def PySem.W.Fast.tw12790910415319572515 : Nat := 0
def PySem.W.Fast.tw15408650697240507429 : Nat := 0
def PySem.W.Fast.tw5762181755265371305 : Nat := 0
def PySem.W.Fast.tw10682488014737412571 : Nat := 0
def PySem.W.Fast.tw4671515640829849188 : Nat := 0
def PySem.W.Fast.tw15700260596379535544 : Nat := 0
def PySem.W.Fast.tw14776061620534355916 : Nat := 0
def PySem.W.Fast.tw13976808005253397398 : Nat := 0
def PySem.W.Fast.tw11869174778066738342 : Nat := 0
def PySem.W.Fast.tw7716282907666156923 : Nat := 0
def PySem.W.Fast.tw10605385043668451934 : Nat := 0
def PySem.W.Fast.tw10600674987986961991 : Nat := 0
def PySem.W.Fast.tw98014565562038288 : Nat := 0
def PySem.W.Fast.tw961739356155176459 : Nat := 0
def PySem.W.Fast.tw7568075026662094515 : Nat := 0
def PySem.W.Fast.tw11143654396780444642 : Nat := 0
def PySem.W.Fast.tw6126821327040540549 : Nat := 0
def PySem.W.Fast.tw11666816613584966454 : Nat := 0
def PySem.W.Fast.tw2001665399320636492 : Nat := 0
def PySem.W.Fast.tw12523912853009830031 : Nat := 0
def PySem.W.Fast.tw9704195836193828028 : Nat := 0
def PySem.W.Fast.tw7553721098118076665 : Nat := 0
def PySem.W.Fast.tw1608196059737903225 : Nat := 0
def PySem.W.Fast.tw14895161652952077604 : Nat := 0
def PySem.W.Fast.tw13697817030511399546 : Nat := 0
def PySem.W.Fast.tw18045953464791916397 : Nat := 0
def PySem.W.Fast.tw9381421961282218345 : Nat := 0
def PySem.W.Fast.tw7252184243755227301 : Nat := 0
def PySem.W.Fast.tw7163352711227352227 : Nat := 0
def PySem.W.Fast.tw17222810402688843966 : Nat := 0
def PySem.W.Fast.tw4862340635008850397 : Nat := 0
def PySem.W.Fast.tw16831494094563907056 : Nat := 0
def PySem.W.Fast.tw12384769319947229523 : Nat := 0
def PySem.W.Fast.tw11881040916084283982 : Nat := 0
def PySem.W.Fast.tw9378602461908910566 : Nat := 0
def PySem.W.Fast.tw18035390689798993547 : Nat := 0
def PySem.W.Fast.tw10610982757027796617 : Nat := 0
def PySem.W.Fast.tw17264051537853212291 : Nat := 0
def PySem.W.Fast.tw16423304431758603545 : Nat := 0
def PySem.W.Fast.tw2204326919411307093 : Nat := 0
def PySem.W.Fast.tw10665552604206027306 : Nat := 0
def PySem.W.Fast.tw11515847514612480821 : Nat := 0
def PySem.W.Fast.tw14532370901902350247 : Nat := 0
def PySem.W.Fast.tw10955673979950299897 : Nat := 0
def PySem.W.Fast.tw16413295220898807921 : Nat := 0
def PySem.W.Fast.tw12151699578580019947 : Nat := 0
def PySem.W.Fast.tw5117707913933737257 : Nat := 0
def PySem.W.Fast.tw1413893714810469360 : Nat := 0
def PySem.W.Fast.tw8138246301405690942 : Nat := 0
def PySem.W.Fast.tw5001424694560305654 : Nat := 0
def PySem.W.Fast.tw6685257079475296203 : Nat := 0
def PySem.W.Fast.tw17997929426441557665 : Nat := 0
def PySem.W.Fast.tw9826017572648021791 : Nat := 0
def PySem.W.Fast.tw3649087123805175769 : Nat := 0
def PySem.W.Fast.tw5838206418159863067 : Nat := 0
def PySem.W.Fast.tw11703000580299702654 : Nat := 0
def PySem.W.Fast.tw2684725935698738151 : Nat := 0
def PySem.W.Fast.tw16681470084990898154 : Nat := 0
def PySem.W.Fast.tw10323946906729688689 : Nat := 0
def PySem.W.Fast.tw2816416638057780756 : Nat := 0
def PySem.W.Fast.tw16134231072483142486 : Nat := 0
def PySem.W.Fast.tw5798339703347506046 : Nat := 0
def PySem.W.Fast.tw16569979009557993470 : Nat := 0
def PySem.W.Fast.tw3908777136243001955 : Nat := 0
def PySem.W.Fast.tw14239888008544554305 : Nat := 0
def PySem.W.Fast.tw5708589676243253375 : Nat := 0
def PySem.W.Fast.tw15299242519306099819 : Nat := 0
def PySem.W.Fast.tw15021892833558727230 : Nat := 0
def PySem.W.Fast.tw11865993999946433710 : Nat := 0
def PySem.W.Fast.tw6149763291403023972 : Nat := 0
def PySem.W.Fast.tw11522176801967071235 : Nat := 0
def PySem.W.Fast.tw3182746056633787534 : Nat := 0
def PySem.W.Fast.tw2022113242040591662 : Nat := 0
def PySem.W.Fast.tw16610713743873564185 : Nat := 0
def PySem.W.Fast.tw3867442422967849728 : Nat := 0
def PySem.W.Fast.tw3110267525853941447 : Nat := 0
def PySem.W.Fast.tw1050476249177654399 : Nat := 0
def PySem.W.Fast.tw2821847485531951419 : Nat := 0
def PySem.W.Fast.tw7165595027635044622 : Nat := 0
def PySem.W.Fast.tw9674619409422019976 : Nat := 0
def PySem.W.Fast.tw5758357106994942597 : Nat := 0
def PySem.W.Fast.tw8150799983254368360 : Nat := 0
def PySem.W.Fast.tw14996521163932056135 : Nat := 0
def PySem.W.Fast.tw12810267229685961996 : Nat := 0
def PySem.W.Fast.tw1384297358541663975 : Nat := 0
def PySem.W.Fast.tw6166227281698202696 : Nat := 0
def PySem.W.Fast.tw538549794626328205 : Nat := 0
def PySem.W.Fast.tw1263517275111375420 : Nat := 0
def PySem.W.Fast.tw9447007631990350378 : Nat := 0
def PySem.W.Fast.tw5593690542875608481 : Nat := 0
def PySem.W.Fast.tw6985174203552242101 : Nat := 0
def PySem.W.Fast.tw15057520747972509380 : Nat := 0
def PySem.W.Fast.tw2200619394645483090 : Nat := 0
def PySem.W.Fast.tw9958060212969257354 : Nat := 0
def PySem.W.Fast.tw17753430217358228883 : Nat := 0
def PySem.W.Fast.tw7386548794475026757 : Nat := 0
def PySem.W.Fast.tw8799886909039971677 : Nat := 0
def PySem.W.Fast.tw14675817119116549246 : Nat := 0
def PySem.W.Fast.tw18426964141826824162 : Nat := 0
def PySem.W.Fast.tw17102686785679831793 : Nat := 0
def PySem.W.Fast.tw17006874692572898384 : Nat := 0
def PySem.W.Fast.tw5159879637434683184 : Nat := 0
def PySem.W.Fast.tw7627137062078790181 : Nat := 0
def PySem.W.Fast.tw8155437960239132661 : Nat := 0
def PySem.W.Fast.tw15479597462978086882 : Nat := 0
def PySem.W.Fast.tw16061854994956641167 : Nat := 0
def PySem.W.Fast.tw14713968047095480562 : Nat := 0
def PySem.W.Fast.tw9650125855066739103 : Nat := 0
def PySem.W.Fast.tw2152391870002812200 : Nat := 0
def PySem.W.Fast.tw4125590971658941678 : Nat := 0
def PySem.W.Fast.tw7159735679727748868 : Nat := 0
def PySem.W.Fast.tw4628167553740322395 : Nat := 0
def PySem.W.Fast.tw18356879166521810808 : Nat := 0
def PySem.W.Fast.tw18357803750354133427 : Nat := 0
def PySem.W.Fast.tw7084520442014593902 : Nat := 0
def PySem.W.Fast.tw2742938521278291266 : Nat := 0
def PySem.W.Fast.tw540801428829184416 : Nat := 0
def PySem.W.Fast.tw6522789187709302938 : Nat := 0
def PySem.W.Fast.tw14170888871283921559 : Nat := 0
def PySem.W.Fast.tw6127386749199642485 : Nat := 0
def PySem.W.Fast.tw410491728784902126 : Nat := 0
def PySem.W.Fast.tw5269521122298233021 : Nat := 0
def PySem.W.Fast.tw6924530618000378232 : Nat := 0
def PySem.W.Fast.tw14241619123494487568 : Nat := 0
def PySem.W.Fast.tw13760135157889361752 : Nat := 0
def PySem.W.Fast.tw16509411790734188518 : Nat := 0
def PySem.W.Fast.tw3371398245510356761 : Nat := 0
def PySem.W.Fast.tw9902564355580878865 : Nat := 0
def PySem.W.Fast.tw13900867185890041499 : Nat := 0
def PySem.W.Fast.tw1773315268972399518 : Nat := 0
def PySem.W.Fast.tw3540278550081790763 : Nat := 0
def PySem.W.Fast.tw8672228619206628451 : Nat := 0
def PySem.W.Fast.tw10465417648625704447 : Nat := 0
def PySem.W.Fast.tw8584551738217586848 : Nat := 0
def PySem.W.Fast.tw18225429991490179327 : Nat := 0
def PySem.W.Fast.tw7209284711654885642 : Nat := 0
def PySem.W.Fast.tw5412676474255033002 : Nat := 0
def PySem.W.Fast.tw6972208515092644352 : Nat := 0
def PySem.W.Fast.tw10655086629483684366 : Nat := 0
def PySem.W.Fast.tw18193361825295260204 : Nat := 0
def PySem.W.Fast.tw16052558963773686686 : Nat := 0
def PySem.W.Fast.tw10856405220752425426 : Nat := 0
def PySem.W.Fast.tw1707089591809028953 : Nat := 0
def PySem.W.Fast.tw18387281546475359536 : Nat := 0
def PySem.W.Fast.tw4222320955431245007 : Nat := 0
def PySem.W.Fast.tw11476506665890502159 : Nat := 0
def PySem.W.Fast.tw16550785026028070539 : Nat := 0
def PySem.W.Fast.tw11050002839620015672 : Nat := 0
def PySem.W.Fast.tw12205814862297326943 : Nat := 0
def PySem.W.Fast.tw3346598323243699143 : Nat := 0
def PySem.W.Fast.tw784123789299718824 : Nat := 0
def PySem.W.Fast.tw1109424946092897811 : Nat := 0
def PySem.W.Fast.tw2492421202102816427 : Nat := 0
def PySem.W.Fast.tw1760678260954906153 : Nat := 0
def PySem.W.Fast.tw13554411048091072105 : Nat := 0
def PySem.W.Fast.tw10646280271639641606 : Nat := 0
def PySem.W.Fast.tw15715783358107637540 : Nat := 0
def PySem.W.Fast.tw5630956409556020808 : Nat := 0
def PySem.W.Fast.tw15311045260633434161 : Nat := 0
def PySem.W.Fast.tw398412625212375398 : Nat := 0
def PySem.W.Fast.tw9249580976902109446 : Nat := 0
def PySem.W.Fast.tw249795760462286088 : Nat := 0
def PySem.W.Fast.tw1459517168895720995 : Nat := 0
def PySem.W.Fast.tw9804524137045930635 : Nat := 0
def PySem.W.Fast.tw8784012950018346258 : Nat := 0
def PySem.W.Fast.tw17915904955445453160 : Nat := 0
def PySem.W.Fast.tw10946621930768400164 : Nat := 0
def PySem.W.Fast.tw10579380069965368339 : Nat := 0
def PySem.W.Fast.tw4263802337127231760 : Nat := 0
def PySem.W.Fast.tw9296663055085755851 : Nat := 0
def PySem.W.Fast.tw8908856006936158295 : Nat := 0
def PySem.W.Fast.tw17015826527696869359 : Nat := 0
def PySem.W.Fast.tw12758958099417964300 : Nat := 0
def PySem.W.Fast.tw2271907367168606467 : Nat := 0
def PySem.W.Fast.tw310734300963195108 : Nat := 0
def PySem.W.Fast.tw13035223176315990022 : Nat := 0
def PySem.W.Fast.tw8701728678517659865 : Nat := 0
def PySem.W.Fast.tw11942935883722383965 : Nat := 0
def PySem.W.Fast.tw3651311143087179274 : Nat := 0
def PySem.W.Fast.tw13741827013984145668 : Nat := 0
def PySem.W.Fast.tw17745769276451259504 : Nat := 0
def PySem.W.Fast.tw16885074335365726808 : Nat := 0
def PySem.W.Fast.tw5957292987275340944 : Nat := 0
def PySem.W.Fast.tw15889998514077115158 : Nat := 0
def PySem.W.Fast.tw6011277170205021913 : Nat := 0
def PySem.W.Fast.tw12337414873690218121 : Nat := 0
def PySem.W.Fast.tw10449944109493059396 : Nat := 0
def PySem.W.Fast.tw11284234511545818895 : Nat := 0
def PySem.W.Fast.tw6194984751043660463 : Nat := 0
def PySem.W.Fast.tw12874282089952746075 : Nat := 0
def PySem.W.Fast.tw12914994507669498547 : Nat := 0
def PySem.W.Fast.tw9391742995166203940 : Nat := 0
def PySem.W.Fast.tw17250133122979670309 : Nat := 0
def PySem.W.Fast.tw2595389412268483783 : Nat := 0
def PySem.W.Fast.tw16514501304723341609 : Nat := 0
def PySem.W.Fast.tw3620524262088094740 : Nat := 0
def PySem.W.Fast.tw10207785316897335377 : Nat := 0
def PySem.W.Fast.tw34245803293059344 : Nat := 0
def PySem.W.Fast.tw17417463279010762916 : Nat := 0
def PySem.W.Fast.tw12445106561459929392 : Nat := 0
def PySem.W.Fast.tw12369181358817033408 : Nat := 0
def PySem.W.Fast.tw11021368322714653860 : Nat := 0
def PySem.W.Fast.tw3952652716540636201 : Nat := 0
def PySem.W.Fast.tw11838124469654626243 : Nat := 0
def PySem.W.Fast.tw3797636530207706609 : Nat := 0
def PySem.W.Fast.tw4331330992658746375 : Nat := 0
def PySem.W.Fast.tw17846525401137608769 : Nat := 0
def PySem.W.Fast.tw13714736214817763408 : Nat := 0
def PySem.W.Fast.tw1176909682522328944 : Nat := 0
def PySem.W.Fast.tw9727650410609555444 : Nat := 0
def PySem.W.Fast.tw11519998225795512666 : Nat := 0
def PySem.W.Fast.tw11462439750659951172 : Nat := 0
def PySem.W.Fast.tw5347001057001619741 : Nat := 0
def PySem.W.Fast.tw4117268008820156753 : Nat := 0
def PySem.W.Fast.tw8390234055740094181 : Nat := 0
def PySem.W.Fast.tw2498175812209950206 : Nat := 0
def PySem.W.Fast.tw9272618232336291285 : Nat := 0
def PySem.W.Fast.tw3545138077644131348 : Nat := 0
def PySem.W.Fast.tw9966466172207723381 : Nat := 0
def PySem.W.Fast.tw14480651818874496893 : Nat := 0
def PySem.W.Fast.tw11735988989152085463 : Nat := 0
def PySem.W.Fast.tw1338749163515348439 : Nat := 0
def PySem.W.Fast.tw4877195770322159297 : Nat := 0
def PySem.W.Fast.tw9023806300973189693 : Nat := 0
def PySem.W.Fast.tw7238990526091854892 : Nat := 0
def PySem.W.Fast.tw15781359764886992063 : Nat := 0
def PySem.W.Fast.tw9078110211301358109 : Nat := 0
def PySem.W.Fast.tw15519585129088164742 : Nat := 0
def PySem.W.Fast.tw6748164742552810979 : Nat := 0
def PySem.W.Fast.tw3565949266154521005 : Nat := 0
def PySem.W.Fast.tw13369535669084295776 : Nat := 0
def PySem.W.Fast.tw14156230958170690581 : Nat := 0
def PySem.W.Fast.tw17527422692236503239 : Nat := 0
def PySem.W.Fast.tw8796406950072539505 : Nat := 0
def PySem.W.Fast.tw12831508745368672725 : Nat := 0
def PySem.W.Fast.tw9782720489598820407 : Nat := 0
def PySem.W.Fast.tw3759808708886593190 : Nat := 0
def PySem.W.Fast.tw14688813790885551376 : Nat := 0
def PySem.W.Fast.tw15264874866709947024 : Nat := 0
def PySem.W.Fast.tw16456266765427583094 : Nat := 0
def PySem.W.Fast.tw14701767564050834016 : Nat := 0
def PySem.W.Fast.tw6768548065075487154 : Nat := 0
def PySem.W.Fast.tw6738699768799124787 : Nat := 0
def PySem.W.Fast.tw3001063130307404293 : Nat := 0
def PySem.W.Fast.tw6106069193237861750 : Nat := 0
def PySem.W.Fast.tw7553865229242499790 : Nat := 0
def PySem.W.Fast.tw8032916707396457773 : Nat := 0
def PySem.W.Fast.tw16912585496706498025 : Nat := 0
def PySem.W.Fast.tw6560811452853307454 : Nat := 0
def PySem.W.Fast.tw6300207515088664482 : Nat := 0
def PySem.W.Fast.tw16475156519104322122 : Nat := 0
def PySem.W.Fast.tw2039226375190489920 : Nat := 0
def PySem.W.Fast.tw3480310674909673957 : Nat := 0
def PySem.W.Fast.tw10046413435322337934 : Nat := 0
def PySem.W.Fast.tw2474404882797882952 : Nat := 0
def PySem.W.Fast.tw13550602371183000460 : Nat := 0
def PySem.W.Fast.tw2859076300701537145 : Nat := 0
def PySem.W.Fast.tw4897129175346853621 : Nat := 0
def PySem.W.Fast.tw12346931273837952806 : Nat := 0
def PySem.W.Fast.tw15670094490150009588 : Nat := 0
def PySem.W.Fast.tw413704393667786838 : Nat := 0
def PySem.W.Fast.tw1847127794843971580 : Nat := 0
def PySem.W.Fast.tw8394240671417591232 : Nat := 0
def PySem.W.Fast.tw18442250863807052534 : Nat := 0
def PySem.W.Fast.tw14135370430384863105 : Nat := 0
def PySem.W.Fast.tw9560574075791045437 : Nat := 0
def PySem.W.Fast.tw11525123756823431702 : Nat := 0
def PySem.W.Fast.tw1878180359823769839 : Nat := 0
def PySem.W.Fast.tw792815788096315463 : Nat := 0
def PySem.W.Fast.tw11237546913464867576 : Nat := 0
def PySem.W.Fast.tw3764979867863340691 : Nat := 0
open PySem PySem.W PyProof.Rows
set_option maxRecDepth 100000 in
set_option maxHeartbeats 0 in
theorem PySem.Challenge.cw_chainhouse_k28_texts_that_write_no_stand_holds : PySem.Challenge.rw_chainhouse_k28_texts_that_write_no_stand.Holds := by
 w_on; o_law; k_head; (case hw => w_witness2)
 k_fill
 refine K28.walk (l := PySem.Challenge.rw_chainhouse_k28_texts_that_write_no_stand) rfl rfl (fun w h Y => PySem.W.kIn_of Y) ?F
 case F =>
  intro w mg fa h KX G hmg
  refine' K28.all_mk KX G hmg ?aname ?lname ?cname ?kname ?arise ?lrise ?crise ?krise ?aisb ?lisb ?cisb ?kisb ?ajoined ?ljoined ?cjoined ?kjoined ?asb ?lsb ?csb ?ksb ?asa ?lsa ?csa ?ksa ?ass ?lss ?css ?kss ?afig ?lfig ?cfig ?kfig ?anum ?lnum ?cnum ?knum ?awb ?lwb ?cwb ?kwb ?arb ?lrb ?crb ?krb ?arh ?lrh ?crh ?krh ?ara ?lra ?cra ?kra ?aiss ?liss ?ciss ?kiss ?ard ?lrd ?crd ?krd ?acell ?lcell ?ccell ?kcell ?anext ?lnext ?cnext ?knext ?aother ?lother ?cother ?kother ?anumber ?lnumber ?cnumber ?knumber ?adigits ?ldigits ?cdigits ?kdigits ?anames ?lnames ?cnames ?knames ?awide ?lwide ?cwide ?kwide ?alb ?llb ?clb ?klb ?als ?lls ?cls ?kls ?atx ?ltx ?ctx ?ktx ?awith ?lwith ?cwith ?kwith ?aord ?lord ?cord ?kord ?afst ?lfst ?cfst ?kfst ?arst ?lrst ?crst ?krst ?aaln ?laln ?caln ?kaln ?abr ?lbr ?cbr ?kbr ?aref ?lref ?cref ?kref ?aread ?lread ?cread ?kread ?alaw ?llaw ?claw ?klaw ?gabc ?gsev ?gfou ?gfigs ?ghun ?zlen ?zrange ?zint ?zmin ?zisinstance ?ztuple ?zbool ?zdict ?zmax ?zall ?zstr ?zsorted ?zany ?zzip ?zset ?zValueError ?aCN ?aCE ?ad2 ?ad3 ?ad4 ?ad5 ?ad6 ?ad7 ?ad8 ?ad9 ?ad10 ?ad11 ?ad12 ?xCN ?xCE ?f1CN ?f2CN ?f3CN ?hmCN ?slE ?kd2 ?kd3 ?kd4 ?kd5 ?kd6 ?kd7 ?kd8 ?kd9 ?kd10 ?kd11 ?kd12 ?kv
  (case aname => k_is)
  (case lname => k_is)
  (case cname => k_is)
  (case kname => k_is)
  (case arise => k_is)
  (case lrise => k_is)
  (case crise => k_is)
  (case krise => k_is)
  (case aisb => k_is)
  (case lisb => k_is)
  (case cisb => k_is)
  (case kisb => k_is)
  (case ajoined => k_is)
  (case ljoined => k_is)
  (case cjoined => k_is)
  (case kjoined => k_is)
  (case asb => k_is)
  (case lsb => k_is)
  (case csb => k_is)
  (case ksb => k_is)
  (case asa => k_is)
  (case lsa => k_is)
  (case csa => k_is)
  (case ksa => k_is)
  (case ass => k_is)
  (case lss => k_is)
  (case css => k_is)
  (case kss => k_is)
  (case afig => k_is)
  (case lfig => k_is)
  (case cfig => k_is)
  (case kfig => k_is)
  (case anum => k_is)
  (case lnum => k_is)
  (case cnum => k_is)
  (case knum => k_is)
  (case awb => k_is)
  (case lwb => k_is)
  (case cwb => k_is)
  (case kwb => k_is)
  (case arb => k_is)
  (case lrb => k_is)
  (case crb => k_is)
  (case krb => k_is)
  (case arh => k_is)
  (case lrh => k_is)
  (case crh => k_is)
  (case krh => k_is)
  (case ara => k_is)
  (case lra => k_is)
  (case cra => k_is)
  (case kra => k_is)
  (case aiss => k_is)
  (case liss => k_is)
  (case ciss => k_is)
  (case kiss => k_is)
  (case ard => k_is)
  (case lrd => k_is)
  (case crd => k_is)
  (case krd => k_is)
  (case acell => k_is)
  (case lcell => k_is)
  (case ccell => k_is)
  (case kcell => k_is)
  (case anext => k_is)
  (case lnext => k_is)
  (case cnext => k_is)
  (case knext => k_is)
  (case aother => k_is)
  (case lother => k_is)
  (case cother => k_is)
  (case kother => k_is)
  (case anumber => k_is)
  (case lnumber => k_is)
  (case cnumber => k_is)
  (case knumber => k_is)
  (case adigits => k_is)
  (case ldigits => k_is)
  (case cdigits => k_is)
  (case kdigits => k_is)
  (case anames => k_is)
  (case lnames => k_is)
  (case cnames => k_is)
  (case knames => k_is)
  (case awide => k_is)
  (case lwide => k_is)
  (case cwide => k_is)
  (case kwide => k_is)
  (case alb => k_is)
  (case llb => k_is)
  (case clb => k_is)
  (case klb => k_is)
  (case als => k_is)
  (case lls => k_is)
  (case cls => k_is)
  (case kls => k_is)
  (case atx => k_is)
  (case ltx => k_is)
  (case ctx => k_is)
  (case ktx => k_is)
  (case awith => k_is)
  (case lwith => k_is)
  (case cwith => k_is)
  (case kwith => k_is)
  (case aord => k_is)
  (case lord => k_is)
  (case cord => k_is)
  (case kord => k_is)
  (case afst => k_is)
  (case lfst => k_is)
  (case cfst => k_is)
  (case kfst => k_is)
  (case arst => k_is)
  (case lrst => k_is)
  (case crst => k_is)
  (case krst => k_is)
  (case aaln => k_is)
  (case laln => k_is)
  (case caln => k_is)
  (case kaln => k_is)
  (case abr => k_is)
  (case lbr => k_is)
  (case cbr => k_is)
  (case kbr => k_is)
  (case aref => k_is)
  (case lref => k_is)
  (case cref => k_is)
  (case kref => k_is)
  (case aread => k_is)
  (case lread => k_is)
  (case cread => k_is)
  (case kread => k_is)
  (case alaw => k_is)
  (case llaw => k_is)
  (case claw => k_is)
  (case klaw => k_is)
  (case gabc => k_is)
  (case gsev => k_is)
  (case gfou => k_is)
  (case gfigs => k_is)
  (case ghun => k_is)
  (case zlen => k_is)
  (case zrange => k_is)
  (case zint => k_is)
  (case zmin => k_is)
  (case zisinstance => k_is)
  (case ztuple => k_is)
  (case zbool => k_is)
  (case zdict => k_is)
  (case zmax => k_is)
  (case zall => k_is)
  (case zstr => k_is)
  (case zsorted => k_is)
  (case zany => k_is)
  (case zzip => k_is)
  (case zset => k_is)
  (case zValueError => k_is)
  (case aCN => k_is)
  (case aCE => k_is)
  (case ad2 => k_is)
  (case ad3 => k_is)
  (case ad4 => k_is)
  (case ad5 => k_is)
  (case ad6 => k_is)
  (case ad7 => k_is)
  (case ad8 => k_is)
  (case ad9 => k_is)
  (case ad10 => k_is)
  (case ad11 => k_is)
  (case ad12 => k_is)
  (case xCN => unfold L2.bmV; k_exc)
  (case xCE => unfold L2.bmV; k_exc)
  (case f1CN => k_is)
  (case f2CN => k_is)
  (case f3CN => k_is)
  (case hmCN => k_is)
  (case slE => k_is)
  (case kd2 => kernel_rfl)
  (case kd3 => kernel_rfl)
  (case kd4 => kernel_rfl)
  (case kd5 => kernel_rfl)
  (case kd6 => kernel_rfl)
  (case kd7 => kernel_rfl)
  (case kd8 => kernel_rfl)
  (case kd9 => kernel_rfl)
  (case kd10 => kernel_rfl)
  (case kd11 => kernel_rfl)
  (case kd12 => kernel_rfl)
  (case kv => kernel_rfl)
