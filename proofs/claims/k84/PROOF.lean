import PyProof.Rows.All
import Wide.All
import OpenK.AllK
import Wide.FinOn
import Lean
import PyProof.EqAt
import PyProof.EqKinds
import PyProof.TupleCall
import PyProof.Rows.Range3
import PyProof.WalksEnum
import PyProof.EnumMake
import PyProof.Rows.EnumRows
import PyProof.Rows.SetFrom
import PyProof.CollectStr
import PyProof.ZipIter
import PyProof.ExcAttrAll.ValueError
import PyProof.P3Eq
import PyProof.NeKinds
import PyProof.Draws
import PyProof.LongRange
import PyProof.Rows.FStr
import PyProof.StrCalls2
import PyProof.StrLawsTight
import PyProof.Rows.StrItems
import PyProof.Rows.ReprOcc
import PyProof.ExcInit
import PyProof.InstStoreFacts
import PySem.Challenge.RW_chainhouse_k84_whole_papers_looked_over
set_option Elab.async false
set_option linter.all false
set_option maxRecDepth 100000
set_option maxHeartbeats 8000000
namespace L2
open PySem PySem.Spec PyProof.Rows
abbrev Key:=Sum Int Str
def iJ:Key -> Value -> Bool
 | .inl k,v=>Value.isInt k v
 | .inr x,v=>Value.isStrOf x v
def keyH (w:World):Key -> Int
 | .inl k=>hashInt k
 | .inr x=>hashStr w x
theorem bA:∀ {k:Key} {v:Value},iJ k v=true -> (∃ i t,k=Sum.inl i /\ v=Value.int i t) \/ (∃ x t,k=Sum.inr x /\ v=Value.str x t)
 | .inl i,v,h=>by
  obtain ⟨t,e⟩:=Value.isInt_shape (k:=i) (v:=v) h
  exact .inl ⟨i,t,rfl,e⟩
 | .inr x,v,h=>by
  obtain ⟨t,e⟩:=Value.isStrOf_shape (x:=x) (v:=v) h
  exact .inr ⟨x,t,rfl,e⟩
theorem nH (i:Int) (t:Tok):iJ (.inl i) (.int i t)=true:=by simp [iJ,Value.isInt]
theorem nI (x:Str) (t:Tok):iJ (.inr x) (.str x t)=true:=by simp [iJ,Value.isStrOf]
theorem key_ll (a b:Int):decide ((Sum.inl a:Key)=Sum.inl b)=(a == b):=by
 by_cases e:a=b
 ·subst e; simp
 ·have h:¬ (Sum.inl a:Key)=Sum.inl b:=fun q=>e (Sum.inl.inj q)
  rw [decide_eq_false h]
  exact (beq_eq_false_iff_ne.mpr e).symm
theorem key_rr (a b:Str):decide ((Sum.inr a:Key)=Sum.inr b)=decide (a=b):=by
 by_cases e:a=b
 ·subst e; simp
 ·have h:¬ (Sum.inr a:Key)=Sum.inr b:=fun q=>e (Sum.inr.inj q)
  rw [decide_eq_false h,decide_eq_false e]
theorem key_lr (a:Int) (b:Str):decide ((Sum.inl a:Key)=Sum.inr b)=false:=decide_eq_false (fun q=>nomatch q)
theorem key_rl (a:Str) (b:Int):decide ((Sum.inr a:Key)=Sum.inl b)=false:=decide_eq_false (fun q=>nomatch q)
def bB (prog:Program) (w:World):PySem.KeyKind prog w Key where
 is:=iJ
 hash:=keyH w
 inj:=fun v a b ha hb=>by
  rcases bA ha with ⟨i,t,rfl,rfl⟩ | ⟨x,t,rfl,rfl⟩
  ·rcases bA hb with ⟨j,u,rfl,e⟩ | ⟨y,u,rfl,e⟩
   ·injection e with e1 _; rw [e1]
   ·exact nomatch e
  ·rcases bA hb with ⟨j,u,rfl,e⟩ | ⟨y,u,rfl,e⟩
   ·exact nomatch e
   ·injection e with e1 _; rw [e1]
 byValue:=fun k v h=>by
  rcases bA h with ⟨i,t,rfl,rfl⟩ | ⟨x,t,rfl,rfl⟩ <;> rfl
 pyHash:=fun hv h=>by
  rcases bA hv with ⟨i,t,rfl,rfl⟩ | ⟨x,t,rfl,rfl⟩
  ·exact wpAny_pyHash_int h
  ·exact wpAny_pyHash_str h
 eqBool:=fun hu hv h=>by
  rcases bA hu with ⟨i,t,rfl,rfl⟩ | ⟨x,t,rfl,rfl⟩
  ·rcases bA hv with ⟨j,u,rfl,rfl⟩ | ⟨y,u,rfl,rfl⟩
   ·rw [key_ll] at h; exact wpAny_eqBool_int h
   ·rw [key_lr] at h; exact SeqAt.EqAt.int_str i t y u _ _ _ _ h
  ·rcases bA hv with ⟨j,u,rfl,rfl⟩ | ⟨y,u,rfl,rfl⟩
   ·rw [key_rl] at h; exact SeqAt.EqAt.str_int x t j u _ _ _ _ h
   ·rw [key_rr] at h; exact wpAny_eqBool_str h
 «strs»:=fun k x t v h=>by
  rcases bA h with ⟨i,u,rfl,e⟩ | ⟨y,u,rfl,e⟩
  ·exact nomatch e
  ·injection e with e1 _
   subst e1
   cases v <;> rfl
theorem jZ (prog:Program) (w:World) (i:Int) (t:Tok):(bB prog w).is (.inl i) (.int i t)=true:=nH i t
theorem j2 (prog:Program) (w:World) (x:Str) (t:Tok):(bB prog w).is (.inr x) (.str x t)=true:=nI x t
inductive V where
 | non | bl (b:Bool) | int (i:Int) | str (x:Str) | byt (b:Array UInt8) | flt (b:UInt64) | ref (a:Addr) | ty (n:String)
 deriving DecidableEq
def aY:V -> Value -> Prop
 | .non,u=>u=Value.none
 | .bl b,u=>u=Value.bool b
 | .int i,u=>∃ t,u=Value.int i t
 | .str x,u=>∃ t,u=Value.str x t
 | .byt b,u=>∃ t,u=Value.bytes b t
 | .flt b,u=>∃ t,u=Value.float b t
 | .ref a,u=>u=Value.ref a
 | .ty n,u=>u=Value.type n
abbrev aU:List V -> List Value -> Prop:=Paired aY
theorem aU.length {xs:List V} {us:List Value} (r:aU xs us):xs.length=us.length:=Paired.length r
theorem aU.get:∀ {xs:List V} {us:List Value} {i:Nat} {x:V},aU xs us -> xs[i]?=some x -> ∃ u,us[i]?=some u /\ aY x u
 | _,_,_,_,.nil,e=>by simp at e
 | _,_,0,_,.cons r _,e=>by simp at e; subst e; exact ⟨_,rfl,r⟩
 | _,_,i + 1,x,.cons _ t,e=>by
  obtain ⟨u,h1,h2⟩:=aU.get (i:=i) (x:=x) t (by simpa using e)
  exact ⟨u,by simpa using h1,h2⟩
theorem aU.set {x:V} {u:Value} (r:aY x u):∀ {xs:List V} {us:List Value} (i:Nat),aU xs us -> aU (xs.set i x) (us.set i u)
 | _,_,_,.nil=>.nil
 | _,_,0,.cons _ t=>.cons r t
 | _,_,i + 1,.cons q t=>.cons q (aU.set r i t)
theorem aU.append:∀ {xs ys:List V} {us ws:List Value},aU xs us -> aU ys ws -> aU (xs ++ ys) (us ++ ws)
 | _,_,_,_,.nil,s=>s
 | _,_,_,_,.cons r t,s=>.cons r (aU.append t s)
theorem aU.take:∀ {xs:List V} {us:List Value} (n:Nat),aU xs us -> aU (xs.take n) (us.take n)
 | _,_,0,_=>.nil
 | _,_,_ + 1,.nil=>.nil
 | _,_,n + 1,.cons r t=>.cons r (aU.take n t)
theorem aU.drop:∀ {xs:List V} {us:List Value} (n:Nat),aU xs us -> aU (xs.drop n) (us.drop n)
 | _,_,0,r=>r
 | _,_,_ + 1,.nil=>.nil
 | _,_,n + 1,.cons _ t=>aU.drop n t
def eV:Option V -> Option Value -> Prop
 | some v,some u=>aY v u
 | none,none=>True
 | _,_=>False
def KV {κ:Type}:List (κ × V) -> List (κ × Value) -> Prop:=Paired fun (p:κ × V) (q:κ × Value)=>p.1=q.1 /\ aY p.2 q.2
def kV:Key -> V
 | .inl i=>.int i
 | .inr x=>.str x
inductive HO where
 | lst (xs:List V)
 | tup (xs:List V)
 | dK (kvs:List (Key × V)) | dT (kvs:List (List Key × V))
 | set (S:Int -> Bool) (n:Nat)
 | ins (C dx:Addr) (fs:List (Str × V))
 | own (x:Addr)
 | xd (fs:List (Str × V))
 | met (f x:Addr)
 | rng (lo hi:Int)
 | frz (o:Obj) (u:HO)
 | tbl (ps:Array Value)
 | ext (φ:Heap -> Prop)
abbrev Hp:=Addr -> Option HO
def upd (H:Hp) (a:Addr) (o:HO):Hp:=fun b=>if b=a then some o else H b
theorem ar {H:Hp} {a:Addr} {o:HO}:upd H a o a=some o:=by unfold upd; rw [if_pos rfl]
theorem au {H:Hp} {a b:Addr} {o:HO} (h:b ≠ a):upd H a o b=H b:=by unfold upd; rw [if_neg h]
theorem fw {H:Hp} {a:Addr} {o u:HO}:upd (upd H a o) a u=upd H a u:=by
 funext b; unfold upd; split <;> rfl
theorem bp {H:Hp} {a b:Addr} {o u:HO} (h:H a=some o) (h':H b=some u) (d:o ≠ u):a ≠ b:=by
 intro e; subst e; rw [h] at h'; exact d (Option.some.inj h')
theorem am {H:Hp} {a b:Addr} {o:HO} (h:H a=some o) (h':H b=none):a ≠ b:=by
 intro e; subst e; rw [h] at h'; cases h'
section
variable (P:Program) (w:World)
def bh (H:Hp) (h:Heap) (a:Addr):HO -> Prop
 | .lst xs=>xs.length <= sizeLine /\ ∃ (its:List Value) (n:Nat),aU xs its /\ h.get? a=some { cls:=.type "list",data:=.seq its.toArray n }
 | .tup xs=>xs.length <= sizeLine /\ ∃ its:List Value,aU xs its /\ IsTup h a its.toArray
 | .dK kvs=>kvs.length <= sizeLine /\ (a == sysModules)=false /\ ∃ vs,KV kvs vs /\ h.DictOf (bB P w) a vs
 | .dT kvs=>kvs.length <= sizeLine /\ (a == sysModules)=false /\ ∃ xs:List (List Key × Addr × Value),
   Paired (fun (p:List Key × V) (q:List Key × Addr × Value)=>p.1=q.1 /\ H q.2.1=some (.tup (p.1.map kV)) /\ aY p.2 q.2.2) kvs xs /\
   ∃ o es ep,h.get? a=some o /\ o.ExactDict /\ o.data=.dict es ep /\ es.toList=xs.map (entryOfKey (tupleKind (bB P w))) /\ (xs.map (·.1)).Nodup
 | .set S n=>h.SetOf (intKind P w) a S n
 | .ins C dx fs=>H dx=some (.own a) /\ fs.length <= 1000 /\ dx ≠ a /\ h.get? a=some (PySem.W.instObj C dx) /\
   ∃ mA,h.Ns1 dx mA /\ (∀ f,eV (fs.lookup f) (mA f)) /\ PySem.Within mA (fs.map (·.1))
 | .own _=>∃ o,h.get? a=some o
 | .xd fs=>∃ mA,h.Ns1 a mA /\ ∀ f,eV (fs.lookup f) (mA f)
 | .rng lo hi=>∃ t u v,h.get? a=some { cls:=.type "range",data:=.fields #[.int lo t,.int hi u,.int 1 v] }
 | .frz o u=>h.get? a=some o /\ bh H h a u
 | .tbl ps=>h.get? a=some { cls:=.none,data:=.fields ps }
 | .met f x=>h.get? a=some (PySem.W.methodObj (.ref f) (.ref x))
 | .ext φ=>φ h /\ (∃ o,h.get? a=some o) /\ ∀ h1 h2:Heap,φ h1 -> (∀ o,h1.get? a=some o -> h2.get? a=some o) -> φ h2
def HOk (H:Hp) (h:Heap):Prop:=∀ a o,H a=some o -> bh P w H h a o
end
section
variable {P:Program} {w:World} {H H':Hp} {h h':Heap} {a:Addr} {o:HO}
theorem bh.lt (x:bh P w H h a o):a < h.objs.size:=by
 cases o with
 | lst xs=>obtain ⟨_,_,_,_,e⟩:=x; exact Heap.lt_size e
 | tup xs=>obtain ⟨_,_,_,p⟩:=x; exact p.lt
 | dK kvs=>obtain ⟨_,_,_,_,o,_,_,e,_⟩:=x; exact Heap.lt_size e
 | dT kvs=>obtain ⟨_,_,_,_,o,_,_,e,_⟩:=x; exact Heap.lt_size e
 | set S n=>obtain ⟨o,_,_,_,e,_⟩:=x; exact Heap.lt_size e
 | ins C dx fs=>obtain ⟨_,_,_,e,_⟩:=x; exact Heap.lt_size e
 | own y=>obtain ⟨_,e⟩:=x; exact Heap.lt_size e
 | xd fs=>obtain ⟨_,⟨_,_,_,e,_⟩,_⟩:=x; exact Heap.lt_size e
 | rng lo hi=>obtain ⟨_,_,_,e⟩:=x; exact Heap.lt_size e
 | frz ob u=>obtain ⟨e,_⟩:=x; exact Heap.lt_size e
 | tbl ps=>exact Heap.lt_size (show h.get? a=some _ from x)
 | met f y=>exact Heap.lt_size (show h.get? a=some _ from x)
 | ext φ=>obtain ⟨_,⟨_,e⟩,_⟩:=x; exact Heap.lt_size e
theorem Paired.mapP {α β:Type} {F G:α -> β -> Prop}:∀ {l₁:List α} {l₂:List β},Paired F l₁ l₂ -> (∀ a b,F a b -> G a b) -> Paired G l₁ l₂
 | _,_,.nil,_=>.nil
 | _,_,.cons r t,f=>.cons (f _ _ r) (Paired.mapP t f)
theorem Paired.imp' {α β:Type} {F G:α -> β -> Prop} (f:∀ a b,F a b -> G a b) {l₁:List α} {l₂:List β} (r:Paired F l₁ l₂):Paired G l₁ l₂:=Paired.mapP r f
theorem bh.stay (x:bh P w H h a o) (k:∀ b u,(b=a \/ H b=some (.own a)) -> h.get? b=some u -> h'.get? b=some u)
  (ho:∀ b,H b=some (.own a) -> H' b=some (.own a)) (ht:∀ b xs,H b=some (.tup xs) -> H' b=some (.tup xs)):bh P w H' h' a o:=by
 induction o with
 | lst xs=>obtain ⟨z,its,n,r,e⟩:=x; exact ⟨z,its,n,r,k _ _ (.inl rfl) e⟩
 | tup xs=>obtain ⟨z,its,r,ob,e,c⟩:=x; exact ⟨z,its,r,ob,k _ _ (.inl rfl) e,c⟩
 | dK kvs=>obtain ⟨z,y,vs,r,ob,es,ep,e,c⟩:=x; exact ⟨z,y,vs,r,ob,es,ep,k _ _ (.inl rfl) e,c⟩
 | dT kvs =>
  obtain ⟨z,y,xs,r,ob,es,ep,e,c⟩:=x
  exact ⟨z,y,xs,Paired.mapP r fun p q z=>⟨z.1,ht _ _ z.2.1,z.2.2⟩,ob,es,ep,k _ _ (.inl rfl) e,c⟩
 | set S n=>obtain ⟨ob,es,ep,t,e,c⟩:=x; exact ⟨ob,es,ep,t,k _ _ (.inl rfl) e,c⟩
 | ins C dx fs =>
  obtain ⟨d,z,ne,e,mA,⟨od,es,ep,e2,c⟩,r⟩:=x
  exact ⟨ho _ d,z,ne,k _ _ (.inl rfl) e,mA,⟨od,es,ep,k _ _ (.inr d) e2,c⟩,r⟩
 | own y=>obtain ⟨ob,e⟩:=x; exact ⟨ob,k _ _ (.inl rfl) e⟩
 | xd fs=>obtain ⟨mA,⟨od,es,ep,e,c⟩,r⟩:=x; exact ⟨mA,⟨od,es,ep,k _ _ (.inl rfl) e,c⟩,r⟩
 | rng lo hi=>obtain ⟨t,u,v,e⟩:=x; exact ⟨t,u,v,k _ _ (.inl rfl) e⟩
 | frz ob u ih=>obtain ⟨e,q⟩:=x; exact ⟨k _ _ (.inl rfl) e,ih q⟩
 | tbl ps =>
  have e:h.get? a=some { cls:=.none,data:=.fields ps }:=x
  show h'.get? a=some { cls:=.none,data:=.fields ps }
  exact k a _ (.inl rfl) e
 | met f y =>
  have e:h.get? a=some (PySem.W.methodObj (.ref f) (.ref y)):=x
  show h'.get? a=some (PySem.W.methodObj (.ref f) (.ref y))
  exact k a _ (.inl rfl) e
 | ext φ=>obtain ⟨p,⟨o,e⟩,st⟩:=x; exact ⟨st _ _ p fun o q=>k _ _ (.inl rfl) q,⟨o,k _ _ (.inl rfl) e⟩,st⟩
theorem HOk.lt (x:HOk P w H h) (e:H a=some o):a < h.objs.size:=(x a o e).lt
theorem HOk.fresh (x:HOk P w H h) (e:h.objs.size <= a):H a=none:=by
 cases q:H a with
 | none=>rfl
 | some u=>exact absurd (Nat.lt_of_lt_of_le (x.lt q) e) (Nat.lt_irrefl _)
theorem HOk.kept (x:HOk P w H h) (k:∀ b u,h.get? b=some u -> h'.get? b=some u):HOk P w H h':=fun a o e =>
 (x a o e).stay (fun b u _ q=>k b u q) (fun _ q=>q) fun _ _ q=>q
theorem HOk.laid (x:HOk P w H h) (k:∀ b u,h.get? b=some u -> h'.get? b=some u) (hp:h.objs.size <= a) (new:bh P w (upd H a o) h' a o):HOk P w (upd H a o) h':=fun b u e=>by
 have hn:=x.fresh hp
 by_cases hb:b=a
 ·subst hb; rw [ar] at e; cases e; exact new
 ·rw [au hb] at e
  exact (x b u e).stay (fun c v _ q=>k c v q) (fun c q=>by rw [au (am q hn)]; exact q) fun c xs q=>by rw [au (am q hn)]; exact q
end
def Rd (H:Hp) (a:Addr) (u:HO):Prop:=H a=some u \/ ∃ o,H a=some (.frz o u)
theorem Rd.ok {P:Program} {w:World} {H:Hp} {h:Heap} {a:Addr} {u:HO} (r:Rd H a u) (x:HOk P w H h):bh P w H h a u:=by
 rcases r with r | ⟨o,r⟩
 ·exact x a u r
 ·obtain ⟨_,q⟩:=x a _ r
  exact q
def Mut:Option HO -> Prop
 | some (.lst _)=>True
 | some (.dK _)=>True
 | some (.dT _)=>True
 | some (.set _ _)=>True
 | some (.ins _ _ _)=>True
 | some (.ext _)=>True
 | _=>False
section
variable {P:Program} {w:World} {H:Hp} {h h':Heap} {x e:Addr} {o':HO}
theorem HOk.write (ok:HOk P w H h) (mu:Mut (H x)) (he:e=x \/ H e=some (.own x)) (k:∀ b u,b ≠ e -> h.get? b=some u -> h'.get? b=some u) (heo:∃ u,h'.get? e=some u)
  (new:bh P w (upd H x o') h' x o'):HOk P w (upd H x o') h':=fun b u q=>by
 have nown:∀ c y,H c=some (.own y) -> c ≠ x:=fun c y r z=>by subst z; rw [r] at mu; exact mu
 have ntup:∀ c xs,H c=some (.tup xs) -> c ≠ x:=fun c xs r z=>by subst z; rw [r] at mu; exact mu
 by_cases hb:b=x
 ·subst hb; rw [ar] at q; cases q; exact new
 ·rw [au hb] at q
  by_cases hbe:b=e
  ·have q':H b=some (.own x):=by
    rcases he with z | z
    ·exact absurd (hbe.trans z) hb
    ·rw [hbe]; exact z
   rw [q] at q'; cases q'
   obtain ⟨v,hv⟩:=heo
   exact ⟨v,by rw [hbe]; exact hv⟩
  ·refine (ok b u q).stay (fun c v hc r=>k c v ?_ r) (fun c r=>by rw [au (nown c b r)]; exact r) fun c xs r=>by rw [au (ntup c xs r)]; exact r
   rcases hc with rfl | hc
   ·exact hbe
   ·rintro rfl
    rcases he with z | z
    ·exact nown c b hc z
    ·rw [hc] at z; cases z; exact hb rfl
end
structure Un (fs ex:List Addr) (H H':Hp) (h h':Heap):Prop where
 keep:∀ b o,h.get? b=some o -> H b=none -> b ∉ fs -> b ∉ ex -> h'.get? b=some o
 slot:∀ b o,h.get? b=some o -> H b=none -> b ∈ fs -> b ∉ ex -> ∃ sl,h'.get? b=some { o with slots:=sl }
 free:∀ b o,h.get? b=some o -> H b=none -> b ∉ ex -> H' b=none
 there:∀ b o,h.get? b=some o -> b ∉ ex -> ∃ o',h'.get? b=some o'
 tups:∀ b xs,H b=some (.tup xs) -> H' b=some (.tup xs)
 frzs:∀ b o u,H b=some (.frz o u) -> H' b=some (.frz o u)
 tbls:∀ b ps,H b=some (.tbl ps) -> ∃ more,H' b=some (.tbl (ps ++ more))
section
variable {fs fs' ex ex':List Addr} {H H1 H2:Hp} {h h1 h2 h':Heap} {a x e:Addr} {o:HO}
theorem Un.any (u:Un fs ex H H1 h h1) {b:Addr} {ob:Obj} (q:h.get? b=some ob) (n:H b=none) (hx:b ∉ ex):∃ sl,h1.get? b=some { ob with slots:=sl }:=by
 by_cases hb:b ∈ fs
 ·exact u.slot b ob q n hb hx
 ·exact ⟨ob.slots,u.keep b ob q n hb hx⟩
theorem Un.trans (a:Un fs ex H H1 h h1) (b:Un fs ex H1 H2 h1 h2):Un fs ex H H2 h h2 where
 keep:=fun c ob q n hc hx=>b.keep c ob (a.keep c ob q n hc hx) (a.free c ob q n hx) hc hx
 slot:=fun c ob q n hc hx=>by
  obtain ⟨sl,e1⟩:=a.slot c ob q n hc hx
  obtain ⟨sl',e2⟩:=b.slot c _ e1 (a.free c ob q n hx) hc hx
  exact ⟨sl',e2⟩
 free:=fun c ob q n hx=>by
  obtain ⟨o',e1⟩:=a.there c ob q hx
  exact b.free c o' e1 (a.free c ob q n hx) hx
 there:=fun c ob q hx=>by
  obtain ⟨o',e1⟩:=a.there c ob q hx
  exact b.there c o' e1 hx
 tups:=fun c xs q=>b.tups c xs (a.tups c xs q)
 frzs:=fun c ob xs q=>b.frzs c ob xs (a.frzs c ob xs q)
 tbls:=fun c ps q=>by
  obtain ⟨m1,e1⟩:=a.tbls c ps q
  obtain ⟨m2,e2⟩:=b.tbls c _ e1
  exact ⟨m1 ++ m2,by rw [e2,Array.append_assoc]⟩
theorem Un.kept (k:∀ b u,h.get? b=some u -> h'.get? b=some u):Un fs ex H H h h' :=
 ⟨fun b ob q _ _ _=>k b ob q,fun b ob q _ _ _=>⟨ob.slots,k b ob q⟩,fun _ _ _ n _=>n,fun b ob q _=>⟨ob,k b ob q⟩,fun _ _ q=>q,fun _ _ _ q=>q,fun _ ps q=>⟨#[],by rw [q]; simp⟩⟩
theorem Un.refl:Un fs ex H H h h:=Un.kept fun _ _ q=>q
theorem Un.laid (k:∀ b u,h.get? b=some u -> h'.get? b=some u) (hp:h.objs.size <= a) (hn:H a=none):Un fs ex H (upd H a o) h h' where
 keep:=fun b u q _ _ _=>k b u q
 slot:=fun b u q _ _ _=>⟨u.slots,k b u q⟩
 free:=fun b u q n _=>by rw [au (Nat.ne_of_lt (Nat.lt_of_lt_of_le (Heap.lt_size q) hp))]; exact n
 there:=fun b u q _=>⟨u,k b u q⟩
 tups:=fun b xs q=>by rw [au (am q hn)]; exact q
 frzs:=fun b u xs q=>by rw [au (am q hn)]; exact q
 tbls:=fun b ps q=>⟨#[],by rw [au (am q hn),q]; simp⟩
theorem Un.write (mu:Mut (H x)) (he:e=x \/ H e=some (.own x)) (k:∀ b u,b ≠ e -> h.get? b=some u -> h'.get? b=some u) (heo:∃ u,h'.get? e=some u):Un fs ex H (upd H x o) h h':=by
 have hx:∀ b,H b=none -> b ≠ x:=fun b n z=>by subst z; rw [n] at mu; exact mu
 have hb:∀ b,H b=none -> b ≠ e:=fun b n z=>by
  subst z
  rcases he with r | r
  ·exact hx b n r
  ·rw [n] at r; cases r
 have hm:∀ b u,H b=some u -> ¬ Mut (some u) -> b ≠ x:=fun b u q nm z=>by subst z; rw [q] at mu; exact nm mu
 refine ⟨fun b u q n _ _=>k b u (hb b n) q,fun b u q n _ _=>⟨u.slots,k b u (hb b n) q⟩,fun b u q n _=>by rw [au (hx b n)]; exact n,fun b u q _=>?_,
  fun b xs q=>by rw [au (hm b _ q fun z=>z)]; exact q,fun b u xs q=>by rw [au (hm b _ q fun z=>z)]; exact q,fun b ps q=>⟨#[],by rw [au (hm b _ q fun z=>z),q]; simp⟩⟩
 by_cases hbe:b=e
 ·subst hbe; exact heo
 ·exact ⟨u,k b u hbe q⟩
end
def trk (h:Heap) (H:Hp):List Addr:=(List.range h.objs.size).filter fun a=>(H a).isSome
def jq (h:Heap) (H:Hp):Heap:=PySem.W.hideAll h (trk h H)
theorem nJ (h:Heap) (H:Hp):(jq h H).objs.size=h.objs.size:=PySem.W.hideAll_size _ _
theorem pw {h:Heap} {H:Hp} {b:Addr} {o:Obj} (e:h.get? b=some o) (n:H b=none):(jq h H).get? b=some o :=
 PySem.W.hideAll_get _ e fun hm=>by
  have q:(H b).isSome=true:=(List.mem_filter.mp hm).2
  rw [n] at q; simp at q
theorem of_hidT {h:Heap} {H:Hp} {b:Addr} {o:Obj} (e:(jq h H).get? b=some o):h.get? b=some o /\ H b=none:=by
 have e':h.get? b=some o:=PySem.W.of_hideAll (trk h H) e
 refine ⟨e',?_⟩
 cases q:H b with
 | none=>rfl
 | some x =>
  have hm:b ∈ trk h H:=List.mem_filter.mpr ⟨List.mem_range.mpr (Heap.lt_size e'),by simp [q]⟩
  have z:(jq h H).get? b=none:=PySem.W.hideAll_none (trk h H) hm
  rw [z] at e; cases e
structure Mod (K:PySem.W.Frag) (mg:Str -> Option Value) (base:Heap):Prop where
 kin:K.In base
 glob:base.Ns mainGlobals mg
 blt:∃ mb,base.Ns builtinsNs mb /\ ∀ x:Str,x ≠ "__name__" -> mb x=bootBuiltins x
 nolimit:base.NoLimit
structure Cx where
 prog:Program
 w:World
 K:PySem.W.Frag
 mg:Str -> Option Value
 base:Heap
 A:Around
 N:List Str
 s₀:Shared
 H₀:Hp
 env:Env
 outer:List Env
 stack:List Env
 ex:List Addr
 fn:Str -> Bool
 calm:Bool
 pn:List (Addr × Obj)
 xe:Value -> Shared -> Prop
def frs (l:List Env):List Addr:=l.filterMap (·.frame)
abbrev Cx.fs (X:Cx):List Addr:=frs X.outer
def Vis (sc:Scope) (x:Str):Prop:=sc.names.lookup x=some .local \/ sc.names.lookup x=some .cell \/ sc.names.lookup x=some .free
def Loc (sc:Scope) (x:Str):Prop:=sc.names.lookup x=some .local \/ sc.names.lookup x=some .cell
def Look (env:Env) (h:Heap) (m:Str -> Option Value) (x:Str) (u:Value):Prop :=
 (env.kindOf x=some .local /\ m x=some u) \/ ((env.kindOf x=some .cell \/ env.kindOf x=some .free) /\ ∃ c,env.cells.lookup x=some c /\ h.IsCell c (some u))
structure Cx.Ok (X:Cx):Prop where
 mod:Mod X.K X.mg X.base
 kind:X.env.scope.kind=.function
 glob:X.env.globals=mainGlobals
 blt:X.env.builtins=builtinsNs
 above:X.s₀.heap.objs.size <= X.env.locals
 inj:∀ x y c,X.env.cells.lookup x=some c -> X.env.cells.lookup y=some c -> x=y
 has:∀ x,(X.env.kindOf x=some .cell \/ X.env.kindOf x=some .free) -> ∃ c,X.env.cells.lookup x=some c
 cab:∀ x c,X.fn x=true -> X.env.cells.lookup x=some c -> X.s₀.heap.objs.size <= c
 hd:X.calm=true -> X.A.handled=none
 frames:X.A.frames=some X.stack
 stk:X.stack=X.outer \/ (X.stack=X.env :: X.outer /\ X.env.frame=some X.env.locals)
 exf:∀ b ∈ X.ex,b ≠ X.env.locals /\ ∀ x c,X.env.cells.lookup x=some c -> c ≠ b
 bs:∀ b o,X.base.get? b=some o -> X.s₀.heap.get? b=some o /\ X.H₀ b=none
 bsz:X.base.objs.size <= X.s₀.heap.objs.size
 noex:∀ b o,X.base.get? b=some o -> b ∉ X.ex
 exfs:∀ b ∈ X.ex,b ∉ X.fs
 funs:X.s₀.heap.FunFrames X.base X.outer
 frf:∀ b ∈ X.fs,X.H₀ b=none
structure Inv (X:Cx) (pins:List (Addr × Obj)) (σ:List (Option V)) (H:Hp) (s:Shared):Prop where
 ok:X.Ok
 os:s.os=X.s₀.os
 bare:AllBare s.gens
 base:Un X.fs X.ex X.H₀ H X.s₀.heap s.heap
 loc:∃ m,s.heap.Ns X.env.locals m /\ ∀ (i:Nat) (x:Str) (v:V),X.N[i]?=some x -> σ[i]?=some (some v) -> Vis X.env.scope x -> ∃ u,aY v u /\ Look X.env s.heap m x u
 cell:∀ x c,X.env.cells.lookup x=some c -> ∃ v,s.heap.IsCell c v
 free:H X.env.locals=none
 freeC:∀ x c,X.env.cells.lookup x=some c -> H c=none
 pin:∀ p ∈ X.pn ++ pins,s.heap.get? p.1=some p.2 /\ H p.1=none /\ p.1 ≠ X.env.locals /\ p.1 ∉ X.fs /\ ∀ v,p.2.data ≠ .cell v
 hok:HOk X.prog X.w H s.heap
 len:σ.length=X.N.length
section
variable {X:Cx} {pins:List (Addr × Obj)} {σ:List (Option V)} {H H':Hp} {s:Shared} {h':Heap}
theorem Cx.Ok.nofr (ok:X.Ok) {b:Addr} {o:Obj} (e:X.base.get? b=some o):b ∉ X.fs:=fun hb=>by
 have:=(ok.funs.mem hb).1
 rw [e] at this; cases this
theorem Inv.bs (I:Inv X pins σ H s):∀ b o,X.base.get? b=some o -> s.heap.get? b=some o /\ H b=none:=fun b o e =>
 ⟨I.base.keep b o (I.ok.bs b o e).1 (I.ok.bs b o e).2 (I.ok.nofr e) (I.ok.noex b o e),I.base.free b o (I.ok.bs b o e).1 (I.ok.bs b o e).2 (I.ok.noex b o e)⟩
theorem Inv.bk (I:Inv X pins σ H s):∀ b o,X.base.get? b=some o -> s.heap.get? b=some o:=fun b o e=>(I.bs b o e).1
theorem Inv.mod (I:Inv X pins σ H s):Mod X.K X.mg X.base:=I.ok.mod
theorem Inv.kIn (I:Inv X pins σ H s):X.K.In s.heap:=I.ok.mod.kin.keeps I.bk
theorem Inv.fr (I:Inv X pins σ H s):∃ m,Fr X.base X.env.locals s.heap m :=
 let ⟨m,hn,_⟩:=I.loc
 ⟨m,hn,I.bk,Nat.le_trans I.ok.bsz I.ok.above⟩
theorem Inv.lt (I:Inv X pins σ H s):X.env.locals < s.heap.objs.size:=let ⟨_,hn,_⟩:=I.loc; hn.lt
theorem Inv.sz (I:Inv X pins σ H s):X.s₀.heap.objs.size <= s.heap.objs.size:=Nat.le_trans I.ok.above (Nat.le_of_lt I.lt)
theorem Inv.nofs (I:Inv X pins σ H s) {a:Addr} (h:s.heap.objs.size <= a):a ∉ X.fs:=fun hb=>by
 obtain ⟨_,o,ho,_⟩:=I.ok.funs.mem hb
 exact absurd (Nat.lt_of_lt_of_le (Heap.lt_size ho) (Nat.le_trans I.sz h)) (Nat.lt_irrefl _)
theorem Inv.cne (I:Inv X pins σ H s):∀ x c,X.env.cells.lookup x=some c -> c ≠ X.env.locals:=fun x c e z=>by
 obtain ⟨v,o,ho,hd⟩:=I.cell x c e
 obtain ⟨m,⟨o',es,ep,ho',hd',_⟩,_⟩:=I.loc
 rw [z,ho'] at ho; cases ho; rw [hd'] at hd; cases hd
theorem Inv.funs (I:Inv X pins σ H s):s.heap.FunFrames X.base X.outer:=by
 have all:∀ (l:List Env),(∀ b ∈ frs l,b ∈ X.fs) -> X.s₀.heap.FunFrames X.base l -> s.heap.FunFrames X.base l:=by
  intro l
  induction l with
  | nil=>intro _ _; trivial
  | cons env r ih =>
   intro hs hl
   obtain ⟨hk,⟨L,o,hf,hn,ho,hd⟩,hr⟩:=hl
   have hL:L ∈ X.fs:=hs L (by unfold frs; rw [List.filterMap_cons,hf]; exact List.mem_cons_self)
   obtain ⟨sl,e⟩:=I.base.slot L o ho (I.ok.frf L hL) hL fun z=>I.ok.exfs L z hL
   exact ⟨hk,⟨L,_,hf,hn,e,hd⟩,ih (fun b hb=>hs b (by unfold frs; rw [List.filterMap_cons,hf]; exact List.mem_cons_of_mem _ hb)) hr⟩
 exact all X.outer (fun _ hb=>hb) I.ok.funs
theorem Inv.stack (I:Inv X pins σ H s):s.heap.FunFrames X.base X.stack:=by
 rcases I.ok.stk with e | ⟨e,hf⟩
 ·rw [e]; exact I.funs
 ·rw [e]
  obtain ⟨m,hn,_⟩:=I.loc
  refine .cons (by rw [I.ok.kind]; decide) hf hn ?_ I.funs
  exact Heap.get?_none_of_le (Nat.le_trans I.ok.bsz I.ok.above)
theorem Inv.stkSub (I:Inv X pins σ H s):∀ b ∈ frs X.stack,b ∈ X.env.locals :: X.fs:=fun b hb=>by
 rcases I.ok.stk with e | ⟨e,hf⟩
 ·rw [e] at hb; exact List.mem_cons_of_mem _ hb
 ·rw [e] at hb
  unfold frs at hb
  rw [List.filterMap_cons,hf] at hb
  exact hb
theorem Inv.stkFree (I:Inv X pins σ H s):∀ b ∈ frs X.stack,H b=none:=fun b hb=>by
 rcases List.mem_cons.mp (I.stkSub b hb) with e | hb
 ·rw [e]; exact I.free
 ·obtain ⟨_,o,ho,_⟩:=I.ok.funs.mem hb
  exact I.base.free b o ho (I.ok.frf b hb) fun z=>I.ok.exfs b z hb
theorem Inv.step {g':Array GenState} {t':Nat} {d':Drawn} {ch:List Addr} (I:Inv X pins σ H s)
  (hch:∀ b ∈ ch,(b ∈ X.ex \/ X.s₀.heap.objs.size <= b) /\ b ≠ X.env.locals /\ (∀ x c,X.env.cells.lookup x=some c -> c ≠ b) /\ ∀ p ∈ X.pn ++ pins,p.1 ≠ b)
  (keep:∀ b o,b ≠ X.env.locals -> b ∉ X.fs -> b ∉ ch -> s.heap.get? b=some o -> H b=none -> h'.get? b=some o)
  (slot:∀ b o,b ≠ X.env.locals -> b ∈ X.fs -> b ∉ ch -> s.heap.get? b=some o -> H b=none -> ∃ sl,h'.get? b=some { o with slots:=sl }) (free:∀ b o,b ∉ ch -> s.heap.get? b=some o -> H b=none -> H' b=none)
  (there:∀ b o,b ∉ ch -> s.heap.get? b=some o -> ∃ o',h'.get? b=some o')
  (tups:∀ b xs,H b=some (.tup xs) -> H' b=some (.tup xs)) (frzs:∀ b o u,H b=some (.frz o u) -> H' b=some (.frz o u)) (tbls:∀ b ps,H b=some (.tbl ps) -> ∃ more,H' b=some (.tbl (ps ++ more)))
  (ns:∀ m,s.heap.Ns X.env.locals m -> h'.Ns X.env.locals m) (hok:HOk X.prog X.w H' h') (hg:AllBare g') :
  Inv X pins σ H' { s with heap:=h',gens:=g',drawn:=d',toks:=t' }:=by
 have neL:∀ b o,X.s₀.heap.get? b=some o -> b ≠ X.env.locals:=fun b o e=>Nat.ne_of_lt (Nat.lt_of_lt_of_le (Heap.lt_size e) I.ok.above)
 have neC:∀ b o,X.s₀.heap.get? b=some o -> b ∉ X.ex -> b ∉ ch:=fun b o e hx hb=>by
  rcases (hch b hb).1 with z | z
  ·exact hx z
  ·exact absurd (Nat.lt_of_lt_of_le (Heap.lt_size e) z) (Nat.lt_irrefl _)
 have cellK:∀ x c,X.env.cells.lookup x=some c -> ∀ v,s.heap.IsCell c v -> h'.IsCell c v:=fun x c e v ⟨o,ho,hd⟩=>by
  have nch:c ∉ ch:=fun z=>(hch c z).2.2.1 x c e rfl
  by_cases hc:c ∈ X.fs
  ·obtain ⟨sl,q⟩:=slot c o (I.cne x c e) hc nch ho (I.freeC x c e)
   exact ⟨_,q,hd⟩
  ·exact ⟨o,keep c o (I.cne x c e) hc nch ho (I.freeC x c e),hd⟩
 refine ⟨I.ok,I.os,hg,⟨fun b o e n hb hx=>?_,fun b o e n hb hx=>?_,fun b o e n hx=>?_,fun b o e hx=>?_,fun b xs e=>tups b xs (I.base.tups b xs e),fun b o xs e=>frzs b o xs (I.base.frzs b o xs e),fun b ps e=>?_⟩,?_,fun x c e=>?_,?_,fun x c e=>?_,fun p hp=>?_,hok,I.len⟩
 ·exact keep b o (neL b o e) hb (neC b o e hx) (I.base.keep b o e n hb hx) (I.base.free b o e n hx)
 ·obtain ⟨sl,e1⟩:=I.base.slot b o e n hb hx
  obtain ⟨sl',e2⟩:=slot b _ (neL b o e) hb (neC b o e hx) e1 (I.base.free b o e n hx)
  exact ⟨sl',e2⟩
 ·obtain ⟨o',e1⟩:=I.base.there b o e hx
  exact free b o' (neC b o e hx) e1 (I.base.free b o e n hx)
 ·obtain ⟨o',e1⟩:=I.base.there b o e hx
  exact there b o' (neC b o e hx) e1
 ·obtain ⟨m1,e1⟩:=I.base.tbls b ps e
  obtain ⟨m2,e2⟩:=tbls b _ e1
  exact ⟨m1 ++ m2,by rw [e2,Array.append_assoc]⟩
 ·obtain ⟨m,hn,hl⟩:=I.loc
  refine ⟨m,ns m hn,fun i x v e1 e2 e3=>?_⟩
  obtain ⟨u,r,l⟩:=hl i x v e1 e2 e3
  refine ⟨u,r,?_⟩
  rcases l with l | ⟨k,c,e,z⟩
  ·exact .inl l
  ·exact .inr ⟨k,c,e,cellK x c e _ z⟩
 ·obtain ⟨v,z⟩:=I.cell x c e
  exact ⟨v,cellK x c e v z⟩
 ·obtain ⟨m,⟨o,_,_,ho,_⟩,_⟩:=I.loc
  exact free _ o (fun z=>(hch _ z).2.1 rfl) ho I.free
 ·obtain ⟨v,o,ho,hd⟩:=I.cell x c e
  exact free c o (fun z=>(hch c z).2.2.1 x c e rfl) ho (I.freeC x c e)
 ·obtain ⟨e,n,ne,nf,d⟩:=I.pin p hp
  have nch:p.1 ∉ ch:=fun z=>(hch p.1 z).2.2.2 p hp rfl
  exact ⟨keep p.1 p.2 ne nf nch e n,free p.1 p.2 nch e n,ne,nf,d⟩
theorem Inv.un {t':Nat} (I:Inv X pins σ H s) (u:Un X.fs [] H H' s.heap h') (hok:HOk X.prog X.w H' h'):Inv X pins σ H' { s with heap:=h',toks:=t' }:=by
 obtain ⟨m,⟨o,es,ep,ho,r⟩,_⟩:=id I.loc
 obtain ⟨sl,hL⟩:=u.any ho I.free (by simp)
 exact I.step (g':=s.gens) (d':=s.drawn) (ch:=[]) (fun _ z=>nomatch z) (fun b o _ hb _ e n=>u.keep b o e n hb (by simp)) (fun b o _ hb _ e n=>u.slot b o e n hb (by simp)) (fun b o _ e n=>u.free b o e n (by simp)) (fun b o _ e=>u.there b o e (by simp)) u.tups u.frzs u.tbls (fun m' hm=>by
  obtain ⟨o',es',ep',ho',r'⟩:=hm
  rw [ho] at ho'; cases ho'
  exact ⟨_,es',ep',hL,r'⟩) hok I.bare
theorem Inv.call {g':Array GenState} {t':Nat} {d':Drawn} {ch:List Addr} (I:Inv X pins σ H s) (u:Un (frs X.stack) ch H H' s.heap h') (hok:HOk X.prog X.w H' h') (hg:AllBare g')
  (hch:∀ b ∈ ch,(b ∈ X.ex \/ X.s₀.heap.objs.size <= b) /\ b ≠ X.env.locals /\ (∀ x c,X.env.cells.lookup x=some c -> c ≠ b) /\ ∀ p ∈ X.pn ++ pins,p.1 ≠ b) :
  Inv X pins σ H' { s with heap:=h',gens:=g',drawn:=d',toks:=t' }:=by
 obtain ⟨m,⟨o,es,ep,ho,r⟩,_⟩:=id I.loc
 obtain ⟨sl,hL⟩:=u.any ho I.free fun z=>(hch _ z).2.1 rfl
 exact I.step (ch:=ch) hch (fun b o hL hb hc e n=>u.keep b o e n (fun z=>(List.mem_cons.mp (I.stkSub b z)).elim hL hb) hc) (fun b o _ _ hc e n=>u.any e n hc) (fun b o hc e n=>u.free b o e n hc) (fun b o hc e=>u.there b o e hc) u.tups u.frzs u.tbls (fun m' hm=>by
  obtain ⟨o',es',ep',ho',r'⟩:=hm
  rw [ho] at ho'; cases ho'
  exact ⟨_,es',ep',hL,r'⟩) hok hg
theorem Inv.turned {t':Nat} {it:Addr} (I:Inv X pins σ H s) (k:∀ b o,b ≠ it -> s.heap.get? b=some o -> h'.get? b=some o) (hn:H it=none) (hL:it ≠ X.env.locals)
  (h1:it ∈ X.ex \/ X.s₀.heap.objs.size <= it) (h2:∀ x c,X.env.cells.lookup x=some c -> c ≠ it) (h3:∀ p ∈ X.pn ++ pins,p.1 ≠ it):Inv X pins σ H { s with heap:=h',toks:=t' }:=by
 have nit:∀ b u,H b=some u -> b ≠ it:=fun b u e z=>by rw [z,hn] at e; cases e
 refine I.step (g':=s.gens) (d':=s.drawn) (ch:=[it]) (fun b hb=>?_) (fun b o _ _ hc e _=>k b o (fun z=>hc (by simp [z])) e) (fun b o _ _ hc e _=>⟨o.slots,k b o (fun z=>hc (by simp [z])) e⟩) (fun _ _ _ _ n=>n)
  (fun b o hc e=>⟨o,k b o (fun z=>hc (by simp [z])) e⟩) (fun _ _ e=>e) (fun _ _ _ e=>e) (fun b ps e=>⟨#[],by rw [e]; simp⟩) (fun m hm=>?_) (fun b u e=>?_) I.bare
 ·have e:b=it:=by simpa using hb
  subst e
  exact ⟨h1,hL,h2,h3⟩
 ·obtain ⟨o,es,ep,ho,r⟩:=hm
  exact ⟨o,es,ep,k _ o (Ne.symm hL) ho,r⟩
 ·refine (I.hok b u e).stay (fun c v hc q=>k c v ?_ q) (fun _ q=>q) fun _ _ q=>q
  rcases hc with z | z
  ·rw [z]; exact nit b u e
  ·exact nit c _ z
theorem Inv.tok (I:Inv X pins σ H s) (t:Nat):Inv X pins σ H { s with toks:=t }:=I.un (h':=s.heap) (t':=t) Un.refl I.hok
theorem Inv.kept {t':Nat} (I:Inv X pins σ H s) (k:∀ b u,s.heap.get? b=some u -> h'.get? b=some u):Inv X pins σ H { s with heap:=h',toks:=t' }:=I.un (Un.kept k) (I.hok.kept k)
theorem Inv.laid {a:Addr} {o:HO} {t':Nat} (I:Inv X pins σ H s) (k:∀ b u,s.heap.get? b=some u -> h'.get? b=some u) (hp:s.heap.objs.size <= a) (new:bh X.prog X.w (upd H a o) h' a o) :
  Inv X pins σ (upd H a o) { s with heap:=h',toks:=t' }:=I.un (Un.laid k hp (I.hok.fresh hp)) (I.hok.laid k hp new)
theorem Inv.write {x e:Addr} {o:HO} {t':Nat} (I:Inv X pins σ H s) (mu:Mut (H x)) (he:e=x \/ H e=some (.own x)) (k:∀ b u,b ≠ e -> s.heap.get? b=some u -> h'.get? b=some u) (heo:∃ u,h'.get? e=some u)
  (new:bh X.prog X.w (upd H x o) h' x o):Inv X pins σ (upd H x o) { s with heap:=h',toks:=t' }:=I.un (Un.write mu he k heo) (I.hok.write mu he k heo new)
theorem Inv.weak {σ':List (Option V)} (I:Inv X pins σ H s) (hl:σ'.length=σ.length) (w:∀ (i:Nat) v,σ'[i]?=some (some v) -> σ[i]?=some (some v)):Inv X pins σ' H s :=
 ⟨I.ok,I.os,I.bare,I.base,let ⟨m,hn,hl'⟩:=I.loc; ⟨m,hn,fun i x v e1 e2 e3=>hl' i x v e1 (w i v e2) e3⟩,I.cell,I.free,I.freeC,I.pin,I.hok,hl.trans I.len⟩
theorem Inv.pins_of {pins':List (Addr × Obj)} (I:Inv X pins σ H s) (h:∀ p ∈ pins',s.heap.get? p.1=some p.2 /\ H p.1=none /\ p.1 ≠ X.env.locals /\ p.1 ∉ X.fs /\ ∀ v,p.2.data ≠ .cell v):Inv X pins' σ H s :=
 ⟨I.ok,I.os,I.bare,I.base,I.loc,I.cell,I.free,I.freeC,fun p hp=>(List.mem_append.mp hp).elim (fun z=>I.pin p (List.mem_append_left _ z)) (h p),I.hok,I.len⟩
theorem gP {N:List Str} (hN:N.Nodup) {i j:Nat} {x:Str} (a:N[i]?=some x) (b:N[j]?=some x):i=j:=by
 obtain ⟨h1,e1⟩:=List.getElem?_eq_some_iff.mp a
 obtain ⟨h2,e2⟩:=List.getElem?_eq_some_iff.mp b
 exact (List.getElem_inj hN).mp (e1.trans e2.symm)
theorem iK {M:Model} {A:Around} {E:Value -> Shared -> Prop} {i:Nat} {x:Str} {v:V} {u:Value} {Q:Unit -> Shared -> Prop} (I:Inv X pins σ H s) (hN:X.N.Nodup) (hi:X.N[i]?=some x) (hx:Loc X.env.scope x) (r:aY v u)
  (h:∀ s',Inv X pins (σ.set i (some v)) H s' -> (∃ a,Heap.SameBut a s.heap s'.heap /\ (a=X.env.locals \/ X.env.cells.lookup x=some a)) -> Q () s') (hf:X.fn x=true \/ X.env.scope.names.lookup x=some .local:=by first | exact .inl rfl | exact .inr rfl | assumption):wpAny M A (storeName X.env x u) Q E s:=by
 obtain ⟨m,hn,hl⟩:=id I.loc
 have hcls:(X.env.scope.kind == .class || (X.env.scope.kind == .module && X.env.locals != X.env.globals))=false:=by rw [I.ok.kind]; rfl
 have hiσ:i < σ.length:=by rw [I.len]; exact (List.getElem?_eq_some_iff.mp hi).1
 have cne:=I.cne
 have tracked:∀ {a:Addr} {h':Heap},(∃ o,s.heap.get? a=some o /\ H a=none) -> Heap.SameBut a s.heap h' -> HOk X.prog X.w H h':=fun {a h'} ha hs b ob e=>by
  obtain ⟨_,_,hfree⟩:=ha
  refine (I.hok b ob e).stay (fun c w' hc q=>(hs.2 c ?_).trans q) (fun _ q=>q) fun _ _ q=>q
  rintro rfl
  rcases hc with rfl | hc
  ·rw [hfree] at e; cases e
  ·rw [hfree] at hc; cases hc
 rcases hx with hk | hk
 ·refine wpAny_storeName_local hk hn (fun h' hn' hs=>?_) hcls
  obtain ⟨oL,_,_,hoL,_⟩:=id hn
  refine h _ ⟨I.ok,I.os,I.bare,⟨fun b o e n hb hx=>?_,fun b o e n hb hx=>?_,I.base.free,fun b o e hx=>?_,I.base.tups,I.base.frzs,I.base.tbls⟩,⟨_,hn',fun j y v' e1 e2 e3=>?_⟩,fun y c e=>?_,I.free,I.freeC,fun p hp=>?_,tracked ⟨oL,hoL,I.free⟩ hs,by simpa using I.len⟩ ⟨_,hs,.inl rfl⟩
  ·exact (hs.2 b (Nat.ne_of_lt (Nat.lt_of_lt_of_le (Heap.lt_size e) I.ok.above))).trans (I.base.keep b o e n hb hx)
  ·obtain ⟨sl,e1⟩:=I.base.slot b o e n hb hx
   exact ⟨sl,(hs.2 b (Nat.ne_of_lt (Nat.lt_of_lt_of_le (Heap.lt_size e) I.ok.above))).trans e1⟩
  ·obtain ⟨o',e1⟩:=I.base.there b o e hx
   exact ⟨o',(hs.2 b (Nat.ne_of_lt (Nat.lt_of_lt_of_le (Heap.lt_size e) I.ok.above))).trans e1⟩
  ·by_cases hj:j=i
   ·subst hj
    rw [hi] at e1; cases e1
    rw [List.getElem?_set_self hiσ] at e2
    cases e2
    exact ⟨u,r,.inl ⟨hk,by simp⟩⟩
   ·rw [List.getElem?_set_ne (Ne.symm hj)] at e2
    obtain ⟨u',r',q⟩:=hl j y v' e1 e2 e3
    refine ⟨u',r',?_⟩
    rcases q with ⟨k,e⟩ | ⟨k,c,e,z⟩
    ·refine .inl ⟨k,?_⟩
     have:y ≠ x:=fun e=>hj (gP hN e1 (e ▸ hi))
     simp [this,e]
    ·exact .inr ⟨k,c,e,z.sameBut hs (cne y c e)⟩
  ·obtain ⟨w',z⟩:=I.cell y c e
   exact ⟨w',z.sameBut hs (cne y c e)⟩
  ·obtain ⟨e,n,ne,nf,d⟩:=I.pin p hp
   exact ⟨(hs.2 p.1 ne).trans e,n,ne,nf,d⟩
 ·have hfn:X.fn x=true:=by
   rcases hf with z | z
   ·exact z
   ·rw [z] at hk; cases hk
  obtain ⟨c,hc⟩:=I.ok.has x (.inl hk)
  obtain ⟨w',z⟩:=I.cell x c hc
  refine wpAny_storeName_cell I.ok.kind hk hc z (fun h' hc' hs=>?_)
  obtain ⟨oc,hoc,hocd⟩:=id z
  refine h { s with heap:=h' } ⟨I.ok,I.os,I.bare,⟨fun b o e n hb hx=>?_,fun b o e n hb hx=>?_,I.base.free,fun b o e hx=>?_,I.base.tups,I.base.frzs,I.base.tbls⟩,⟨m,hn.sameBut hs (Ne.symm (cne x c hc)),fun j y v' e1 e2 e3=>?_⟩,fun y c' e=>?_,I.free,I.freeC,fun p hp=>?_,tracked ⟨oc,hoc,I.freeC x c hc⟩ hs,by simpa using I.len⟩ ⟨c,hs,.inr hc⟩
  ·exact (hs.2 b (Nat.ne_of_lt (Nat.lt_of_lt_of_le (Heap.lt_size e) (I.ok.cab x c hfn hc)))).trans (I.base.keep b o e n hb hx)
  ·obtain ⟨sl,e1⟩:=I.base.slot b o e n hb hx
   exact ⟨sl,(hs.2 b (Nat.ne_of_lt (Nat.lt_of_lt_of_le (Heap.lt_size e) (I.ok.cab x c hfn hc)))).trans e1⟩
  ·obtain ⟨o',e1⟩:=I.base.there b o e hx
   exact ⟨o',(hs.2 b (Nat.ne_of_lt (Nat.lt_of_lt_of_le (Heap.lt_size e) (I.ok.cab x c hfn hc)))).trans e1⟩
  ·by_cases hj:j=i
   ·subst hj
    rw [hi] at e1; cases e1
    rw [List.getElem?_set_self hiσ] at e2
    cases e2
    exact ⟨u,r,.inr ⟨.inl hk,c,hc,hc'⟩⟩
   ·rw [List.getElem?_set_ne (Ne.symm hj)] at e2
    obtain ⟨u',r',q⟩:=hl j y v' e1 e2 e3
    refine ⟨u',r',?_⟩
    rcases q with q | ⟨k,c',e,z'⟩
    ·exact .inl q
    ·refine .inr ⟨k,c',e,z'.sameBut hs ?_⟩
     rintro rfl
     exact hj (gP hN e1 (I.ok.inj _ _ _ e hc ▸ hi))
  ·by_cases hcc:c'=c
   ·subst hcc; exact ⟨_,hc'⟩
   ·obtain ⟨w2,z2⟩:=I.cell y c' e
    exact ⟨w2,z2.sameBut hs hcc⟩
  ·obtain ⟨e,n,ne,nf,d⟩:=I.pin p hp
   refine ⟨(hs.2 p.1 ?_).trans e,n,ne,nf,d⟩
   intro q
   rw [q,hoc] at e
   have q':oc=p.2:=Option.some.inj e
   exact d w' (by rw [<- q']; exact hocd)
theorem gQ {M:Model} {A:Around} {E:Value -> Shared -> Prop} {i:Nat} {x:Str} {v:V} {u:Value} {Q:Unit -> Shared -> Prop} (I:Inv X pins σ H s) (hN:X.N.Nodup) (hi:X.N[i]?=some x) (hx:Loc X.env.scope x) (r:aY v u)
  (h:∀ s',Inv X pins (σ.set i (some v)) H s' -> Q () s') (hf:X.fn x=true \/ X.env.scope.names.lookup x=some .local:=by first | exact .inl rfl | exact .inr rfl | assumption):wpAny M A (storeName X.env x u) Q E s :=
 iK I hN hi hx r (fun s' I' _=>h s' I') hf
theorem Inv.call' {s':Shared} {ch:List Addr} (I:Inv X pins σ H s) (ho:s'.os=s.os) (u:Un (frs X.stack) ch H H' s.heap s'.heap) (hok:HOk X.prog X.w H' s'.heap) (hg:AllBare s'.gens)
  (hch:∀ b ∈ ch,(b ∈ X.ex \/ X.s₀.heap.objs.size <= b) /\ b ≠ X.env.locals /\ (∀ x c,X.env.cells.lookup x=some c -> c ≠ b) /\ ∀ p ∈ X.pn ++ pins,p.1 ≠ b):Inv X pins σ H' s':=by
 obtain ⟨h',g',d',t',o'⟩:=s'
 have e:o'=s.os:=ho
 subst e
 exact I.call (g':=g') (t':=t') (d':=d') u hok hg hch
end
abbrev XK:=Value -> Option Addr -> Hp -> Prop
abbrev St:=List (Option V)
abbrev VK:=V -> Hp -> Prop
abbrev TE:=St -> Hp -> VK -> Prop
abbrev TT:=St -> Hp -> (Bool -> Hp -> Prop) -> Prop
abbrev TA:=St -> Hp -> (List V -> Hp -> Prop) -> Prop
structure dQ where
 nx:St -> Hp -> Prop
 rt:VK
 bk:St -> Hp -> Prop:=fun _ _=>False
 ct:St -> Hp -> Prop:=fun _ _=>False
abbrev TS:=dQ -> St -> Hp -> Prop
def EP (X:Cx) (pins:List (Addr × Obj)) (σ:St) (Q:VK) (u:Value) (s':Shared):Prop:=∃ v H',Inv X pins σ H' s' /\ aY v u /\ Q v H'
def TP (X:Cx) (pins:List (Addr × Obj)) (σ:St) (Q:Bool -> Hp -> Prop) (b:Bool) (s':Shared):Prop:=∃ H',Inv X pins σ H' s' /\ Q b H'
def AP (X:Cx) (pins:List (Addr × Obj)) (σ:St) (Q:List V -> Hp -> Prop) (us:List Value) (s':Shared):Prop:=∃ vs H',Inv X pins σ H' s' /\ aU vs us /\ Q vs H'
def SP (X:Cx) (pins:List (Addr × Obj)) (D:dQ) (f:Flow) (s':Shared):Prop :=
 match f with
 | .next=>∃ σ' H',Inv X pins σ' H' s' /\ D.nx σ' H'
 | .brk=>∃ σ' H',Inv X pins σ' H' s' /\ D.bk σ' H'
 | .cont=>∃ σ' H',Inv X pins σ' H' s' /\ D.ct σ' H'
 | .ret u=>∃ v σ' H',Inv X pins σ' H' s' /\ aY v u /\ D.rt v H'
def PE (X:Cx) (e:Expr) (t:TE):Prop :=
 ∀ (pins:List (Addr × Obj)) (s:Shared) (σ:St) (H:Hp) (Q:VK),Inv X pins σ H s -> t σ H Q -> wpAny (model X.prog X.w) X.A (eval e X.env) (EP X pins σ Q) X.xe s
def PT (X:Cx) (e:Expr) (t:TT):Prop :=
 ∀ (pins:List (Addr × Obj)) (s:Shared) (σ:St) (H:Hp) (Q:Bool -> Hp -> Prop),Inv X pins σ H s -> t σ H Q -> wpAny (model X.prog X.w) X.A (isTrue e X.env (eval e X.env)) (TP X pins σ Q) X.xe s
def PW (X:Cx) (e:Expr) (t:TT):Prop :=
 ∀ (whole:Sem Value) (pins:List (Addr × Obj)) (s:Shared) (σ:St) (H:Hp) (Q:Bool -> Hp -> Prop),Inv X pins σ H s -> t σ H Q -> wpAny (model X.prog X.w) X.A (isTrue e X.env whole) (TP X pins σ Q) X.xe s
theorem PW.pt {X:Cx} {e:Expr} {t:TT} (h:PW X e t):PT X e t:=h _
def PA (X:Cx) (es:List Expr) (t:TA):Prop :=
 ∀ (pos:Pos) (pins:List (Addr × Obj)) (s:Shared) (σ:St) (H:Hp) (Q:List V -> Hp -> Prop),Inv X pins σ H s -> t σ H Q -> wpAny (model X.prog X.w) X.A (spliced (backTo pos (starEach es X.env))) (AP X pins σ Q) X.xe s
def PS (X:Cx) (st:Stmt) (t:TS):Prop :=
 ∀ (pins:List (Addr × Obj)) (s:Shared) (σ:St) (H:Hp) (D:dQ),Inv X pins σ H s -> t D σ H -> wpAny (model X.prog X.w) X.A (exec st X.env) (SP X pins D) X.xe s
def PSs (X:Cx) (st:List Stmt) (t:TS):Prop :=
 ∀ (pins:List (Addr × Obj)) (s:Shared) (σ:St) (H:Hp) (D:dQ),Inv X pins σ H s -> t D σ H -> wpAny (model X.prog X.w) X.A (execs st X.env) (SP X pins D) X.xe s
theorem thn {α:Type} {t:Sem α} {Q Q':α -> Shared -> Prop} {M:Model} {A:Around} {E:Value -> Shared -> Prop} {s:Shared} (h:wpAny M A t Q E s) (hQ:∀ a s,Q a s -> Q' a s):wpAny M A t Q' E s:=wpAny_mono h hQ fun _ _ x=>x
section
variable {X:Cx}
def kP (i:Nat):TE:=fun σ H Q=>∃ v,σ[i]?=some (some v) /\ Q v H
def tC (v:V):TE:=fun _ H Q=>Q v H
theorem pe_var {i:Nat} {x:Str} {pos:Pos} (hN:X.N[i]?=some x) (hv:Vis X.env.scope x) (hd:(x == ("__debug__":Str))=false:=by decide) (hcd:(x == ("__classdict__":Str))=false:=by decide):PE X (.Name x pos) (kP i):=by
 intro pins s σ H Q I h
 obtain ⟨v,e,h⟩:=h
 obtain ⟨m,hn,hl⟩:=I.loc
 obtain ⟨u,r,l⟩:=hl i x v hN e hv
 have fin:EP X pins σ Q u s:=⟨v,H,I,r,h⟩
 rcases l with ⟨hk,hm⟩ | ⟨hk,c,hc,hcell⟩
 ·exact wpAny_Name (wpAny_loadName_local I.ok.kind hk hn hm fin) hd
 ·rcases hk with hk | hk
  ·exact wpAny_Name (wpAny_loadName_cell I.ok.kind hk hc hcell fin) hd
  ·exact wpAny_Name (wpAny_loadName_free I.ok.kind hk hc hcell fin hcd) hd
theorem ag {i j pos}:PE X (.Constant (.int i) j pos) (tC (.int i)):=fun _ _ _ H _ I h=>wpAny_Constant_int ⟨.int i,H,I.tok _,⟨_,rfl⟩,h⟩
theorem bE {b j pos}:PE X (.Constant (.bool b) j pos) (tC (.bl b)):=fun _ _ _ H _ I h=>Constant_bool ⟨.bl b,H,I,rfl,h⟩
theorem fS {j pos}:PE X (.Constant .none j pos) (tC .non):=fun _ _ _ H _ I h=>Constant_none ⟨.non,H,I,rfl,h⟩
theorem aM {x j pos}:PE X (.Constant (.str x) j pos) (tC (.str x)):=fun _ _ _ H _ I h=>Calls.Constant_str ⟨.str x,H,I.tok _,⟨_,rfl⟩,h⟩
def Gl (X:Cx) (x:Str):Prop:=X.env.kindOf x=some .globalImplicit
theorem eJ {E:Value -> Shared -> Prop} {pins:List (Addr × Obj)} {s:Shared} {σ:St} {H:Hp} {x:Str} {u:Value} {pos:Pos} {Q:Value -> Shared -> Prop} (I:Inv X pins σ H s) (hg:Gl X x) (hm:X.mg x=some u) (h:Q u s)
  (hd:(x == ("__debug__":Str))=false:=by decide):wpAny (model X.prog X.w) X.A (eval (.Name x pos) X.env) Q E s :=
 Calls.Name_function_global I.ok.kind hg (Calls.loadGlobal_global (by rw [I.ok.glob]; exact I.mod.glob.keeps I.bk) hm h) hd
theorem dR {E:Value -> Shared -> Prop} {pins:List (Addr × Obj)} {s:Shared} {σ:St} {H:Hp} {x:Str} {u:Value} {pos:Pos} {Q:Value -> Shared -> Prop} (I:Inv X pins σ H s) (hg:Gl X x) (hm:X.mg x=none) (hv:bootBuiltins x=some u) (h:Q u s)
  (hn:x ≠ "__name__":=by decide) (hd:(x == ("__debug__":Str))=false:=by decide):wpAny (model X.prog X.w) X.A (eval (.Name x pos) X.env) Q E s:=by
 obtain ⟨mb,h1,h2⟩:=I.mod.blt
 exact Calls.Name_function_global I.ok.kind hg (Calls.loadGlobal_builtin (by rw [I.ok.glob]; exact I.mod.glob.keeps I.bk) hm (by rw [I.ok.blt]; exact h1.keeps I.bk) ((h2 x hn).trans hv) h) hd
theorem bG {x:Str} {v:V} {u:Value} {pos:Pos} (hg:Gl X x) (hm:X.mg x=some u) (r:aY v u) (hd:(x == ("__debug__":Str))=false:=by decide):PE X (.Name x pos) (tC v) :=
 fun _ _ _ H _ I h=>eJ I hg hm ⟨v,H,I,r,h⟩ hd
theorem bR {x:Str} {v:V} {u:Value} {pos:Pos} (hg:Gl X x) (hm:X.mg x=none) (hv:bootBuiltins x=some u) (r:aY v u) (hn:x ≠ "__name__":=by decide) (hd:(x == ("__debug__":Str))=false:=by decide):PE X (.Name x pos) (tC v) :=
 fun _ _ _ H _ I h=>dR I hg hm hv ⟨v,H,I,r,h⟩ hn hd
variable {a b:Expr} {ta tb:TE} {pos:Pos}
def PC (X:Cx) (op:CmpOp) (a b:Expr) (t:TE):Prop :=
 ∀ (pins:List (Addr × Obj)) (s:Shared) (σ:St) (H:Hp) (Q:VK),Inv X pins σ H s -> t σ H Q ->
  wpAny (model X.prog X.w) X.A (eval a X.env) (fun v s₁=>wpAny (model X.prog X.w) X.A (eval b X.env) (fun u s₂=>wpAny (model X.prog X.w) X.A (compareOp op v u) (EP X pins σ Q) X.xe s₂) X.xe s₁) X.xe s
def tB (t:TE):TT:=fun σ H Q=>t σ H fun x H1=>∃ c,x=.bl c /\ Q c H1
theorem pe_cmp {op:CmpOp} {t:TE} (h:PC X op a b t) (h1:behindInMarks op b=false:=by first | exact nobehind _ (by decide) (by decide) | rfl):PE X (.Compare a [op] [b] pos) t:=fun pins s σ H Q I hw=>wpAny_Compare1 (h pins s σ H Q I hw) h1
theorem pt_cmp {op:CmpOp} {t:TE} (h:PC X op a b t) (h1:behindInMarks op b=false:=by first | exact nobehind _ (by decide) (by decide) | rfl):PT X (.Compare a [op] [b] pos) (tB t):=by
 intro pins s σ H Q I hw
 refine wpAny_isTrue_Compare1 (thn (h pins s σ H _ I hw) fun v s1 h1=>thn h1 fun u s2 h2=>thn h2 fun c s3 ⟨x,H1,I1,r1,q1⟩=>?_) h1
 obtain ⟨d,rfl,q⟩:=q1
 cases r1
 exact wpAny_truthy_bool ⟨H1,I1,q⟩
theorem aW {e:Expr} {t:TE} (h:PE X e t) (he:∀ whole,isTrue e X.env whole=(do let v <- whole; standAt e.pos; holding [v] (truthy v)):=by intro _; rfl):PT X e (tB t):=by
 intro pins s σ H Q I hw
 refine isTrue_plain (thn (h pins s σ H _ I hw) fun v s1 ⟨x,H1,I1,r1,q1⟩=>?_) (he _)
 obtain ⟨d,rfl,q⟩:=q1
 cases r1
 exact wpAny_truthy_bool ⟨H1,I1,q⟩
variable {tA tB':TT} {rest:List Expr}
def tAnd (t u:TT):TT:=fun σ H Q=>t σ H fun c H1=>if c=true then u σ H1 Q else Q false H1
def tOr (t u:TT):TT:=fun σ H Q=>t σ H fun c H1=>if c=true then Q true H1 else u σ H1 Q
def tNot (t:TT):TT:=fun σ H Q=>t σ H fun c H1=>Q (!c) H1
theorem cL (ha:PT X a tA):PW X (.BoolOp .And [a] pos) tA:=by
 intro wh pins s σ H Q I h
 refine isTrue_and (thn (ha pins s σ H Q I h) fun c s1 e=>?_)
 cases c with
 | true=>exact isTrue_and_nil e
 | false=>exact e
theorem bJ (ha:PT X a tA):PW X (.BoolOp .Or [a] pos) tA:=by
 intro wh pins s σ H Q I h
 refine isTrue_or (thn (ha pins s σ H Q I h) fun c s1 e=>?_)
 cases c with
 | false=>exact isTrue_or_nil e
 | true=>exact e
theorem c9 (ha:PT X a tA) (hb:PW X (.BoolOp .And (b :: rest) pos) tB'):PW X (.BoolOp .And (a :: b :: rest) pos) (tAnd tA tB'):=by
 intro wh pins s σ H Q I h
 refine isTrue_and (thn (ha pins s σ H _ I h) fun c s1 ⟨H1,I1,q1⟩=>?_)
 cases c with
 | true=>exact hb wh pins s1 σ H1 Q I1 q1
 | false=>exact ⟨H1,I1,q1⟩
theorem bv (ha:PT X a tA) (hb:PW X (.BoolOp .Or (b :: rest) pos) tB'):PW X (.BoolOp .Or (a :: b :: rest) pos) (tOr tA tB'):=by
 intro wh pins s σ H Q I h
 refine isTrue_or (thn (ha pins s σ H _ I h) fun c s1 ⟨H1,I1,q1⟩=>?_)
 cases c with
 | true=>exact ⟨H1,I1,q1⟩
 | false=>exact hb wh pins s1 σ H1 Q I1 q1
theorem bg (ha:PT X a tA):PT X (.UnaryOp .Not a pos) (tNot tA):=by
 intro pins s σ H Q I h
 exact isTrue_not (ha pins s σ H (fun c H1=>Q (!c) H1) I h)
def tAndV (ta tb:TE):TE:=fun σ H Q=>ta σ H fun x H1=>∃ c,x=.bl c /\ if c=true then tb σ H1 Q else Q (.bl false) H1
def tOrV (ta tb:TE):TE:=fun σ H Q=>ta σ H fun x H1=>∃ c,x=.bl c /\ if c=true then Q (.bl true) H1 else tb σ H1 Q
def tNotV (ta:TE):TE:=fun σ H Q=>ta σ H fun x H1=>∃ c,x=.bl c /\ Q (.bl (!c)) H1
theorem bV {op} {t:TE} (h:PE X a t):PE X (.BoolOp op [a] pos) t:=fun pins s σ H Q I hw=>BoolOp_one (h pins s σ H Q I hw)
theorem bw (ha:PE X a ta) (hb:PE X (.BoolOp .And (b :: rest) pos) tb):PE X (.BoolOp .And (a :: b :: rest) pos) (tAndV ta tb):=by
 intro pins s σ H Q I h
 refine BoolOp_and (thn (ha pins s σ H _ I h) fun v s1 ⟨x,H1,I1,r1,q1⟩=>?_)
 obtain ⟨c,rfl,q1⟩:=q1
 cases r1
 refine wpAny_truthy_bool ?_
 cases c with
 | true=>exact hb pins s1 σ H1 Q I1 q1
 | false=>exact ⟨.bl false,H1,I1,rfl,q1⟩
theorem pe_or (ha:PE X a ta) (hb:PE X (.BoolOp .Or (b :: rest) pos) tb):PE X (.BoolOp .Or (a :: b :: rest) pos) (tOrV ta tb):=by
 intro pins s σ H Q I h
 refine BoolOp_or (thn (ha pins s σ H _ I h) fun v s1 ⟨x,H1,I1,r1,q1⟩=>?_)
 obtain ⟨c,rfl,q1⟩:=q1
 cases r1
 refine wpAny_truthy_bool ?_
 cases c with
 | false=>exact hb pins s1 σ H1 Q I1 q1
 | true=>exact ⟨.bl true,H1,I1,rfl,q1⟩
theorem px (ha:PE X a ta):PE X (.UnaryOp .Not a pos) (tNotV ta):=by
 intro pins s σ H Q I h
 refine UnaryOp_ (thn (ha pins s σ H _ I h) fun v s1 ⟨x,H1,I1,r1,q1⟩=>?_)
 obtain ⟨c,rfl,q1⟩:=q1
 cases r1
 exact not_of (wpAny_truthy_bool ⟨.bl (!c),H1,I1,rfl,q1⟩)
def tIf (t:TT) (ta tb:TE):TE:=fun σ H Q=>t σ H fun c H1=>if c=true then ta σ H1 Q else tb σ H1 Q
theorem pz {c:Expr} (hc:PT X c tA) (ha:PE X a ta) (hb:PE X b tb):PE X (.IfExp c a b pos) (tIf tA ta tb):=by
 intro pins s σ H Q I h
 refine wpAny_IfExp (thn (hc pins s σ H _ I h) fun d s1 ⟨H1,I1,q1⟩=>?_)
 cases d with
 | true=>exact ha pins s1 σ H1 Q I1 q1
 | false=>exact hb pins s1 σ H1 Q I1 q1
end
def SqL (K:PySem.W.Frag) (H:Hp) (a:Addr) (xs:List V):Prop :=
 Rd H a (.lst xs) \/
  ∃ (o:Obj) (its:Array Value) (n:Nat),K.lookup a=some o /\ o.cls=.type "list" /\ o.dict=none /\ o.data=.seq its n /\ its.size <= sizeLine /\ aU xs its.toList
def SqT (K:PySem.W.Frag) (H:Hp) (a:Addr) (xs:List V):Prop :=
 Rd H a (.tup xs) \/
  ∃ (o:Obj) (its:Array Value) (n:Nat),K.lookup a=some o /\ o.cls=.type "tuple" /\ o.data=.seq its n /\ its.size <= sizeLine /\ aU xs its.toList
def absV:Value -> Option V
 | .none=>some .non
 | .bool b=>some (.bl b)
 | .int i _=>some (.int i)
 | .str x _=>some (.str x)
 | .bytes b _=>some (.byt b)
 | .float b _=>some (.flt b)
 | .ref a=>some (.ref a)
 | .type n=>some (.ty n)
 | _=>none
theorem aY.abs {x:V} {u:Value} (r:aY x u):absV u=some x:=by
 cases x with
 | non=>cases r; rfl
 | bl _=>cases r; rfl
 | int _=>obtain ⟨t,rfl⟩:=r; rfl
 | str _=>obtain ⟨t,rfl⟩:=r; rfl
 | byt _=>obtain ⟨t,rfl⟩:=r; rfl
 | flt _=>obtain ⟨t,rfl⟩:=r; rfl
 | ref _=>cases r; rfl
 | ty _=>cases r; rfl
theorem aY.inj {x y:V} {u:Value} (r:aY x u) (q:aY y u):x=y:=Option.some.inj (r.abs.symm.trans q.abs)
theorem aU.inj:∀ {xs ys:List V} {us:List Value},aU xs us -> aU ys us -> xs=ys
 | _,_,_,.nil,.nil=>rfl
 | _,_,_,.cons r t,.cons r' t'=>by rw [r.inj r',aU.inj t t']
section
variable {X:Cx} {pins:List (Addr × Obj)} {σ:St} {H:Hp} {s:Shared} {a:Addr} {xs ys:List V}
theorem SqL.of {K:PySem.W.Frag} (h:H a=some (.lst xs)):SqL K H a xs:=.inl (.inl h)
theorem SqT.of {K:PySem.W.Frag} (h:H a=some (.tup xs)):SqT K H a xs:=.inl (.inl h)
theorem Inv.list (I:Inv X pins σ H s) (h:SqL X.K H a xs):∃ its:List Value,aU xs its /\ PlainL s.heap a its.toArray /\ xs.length <= sizeLine:=by
 rcases h with h | ⟨o,its,n,hk,hc,hd,hs,hz,r⟩
 ·obtain ⟨z,its,n,r,e⟩:=h.ok I.hok
  exact ⟨its,r,⟨_,n,e,rfl,rfl,rfl⟩,z⟩
 ·refine ⟨its.toList,r,⟨o,n,I.kIn a o hk,hc,hd,by simpa using hs⟩,?_⟩
  have e:=r.length
  simp only [Array.length_toList] at e
  lia
theorem Inv.tuple (I:Inv X pins σ H s) (h:SqT X.K H a xs):∃ its:List Value,aU xs its /\ IsTup s.heap a its.toArray /\ xs.length <= sizeLine:=by
 rcases h with h | ⟨o,its,n,hk,hc,hs,hz,r⟩
 ·obtain ⟨z,its,r,p⟩:=h.ok I.hok
  exact ⟨its,r,p,z⟩
 ·refine ⟨its.toList,r,⟨o,I.kIn a o hk,hc,n,by simpa using hs⟩,?_⟩
  have e:=r.length
  simp only [Array.length_toList] at e
  lia
theorem Inv.list_inj (I:Inv X pins σ H s) (h:SqL X.K H a xs) (h':SqL X.K H a ys):xs=ys:=by
 obtain ⟨its,r,⟨o,n,e,_,_,d⟩,_⟩:=I.list h
 obtain ⟨its',r',⟨o',n',e',_,_,d'⟩,_⟩:=I.list h'
 rw [e] at e'; cases e'
 rw [d] at d'
 injection d' with d1 _
 have:its=its':=by simpa using congrArg Array.toList d1
 subst this
 exact r.inj r'
theorem Inv.tuple_inj (I:Inv X pins σ H s) (h:SqT X.K H a xs) (h':SqT X.K H a ys):xs=ys:=by
 obtain ⟨its,r,⟨o,e,_,n,d⟩,_⟩:=I.tuple h
 obtain ⟨its',r',⟨o',e',_,n',d'⟩,_⟩:=I.tuple h'
 rw [e] at e'; cases e'
 rw [d] at d'
 injection d' with d1 _
 have:its=its':=by simpa using congrArg Array.toList d1
 subst this
 exact r.inj r'
end
abbrev Cx.wish (X:Cx) (E:Value -> Shared -> Prop):Cx:={ X with xe:=E }
abbrev Cx.nox (X:Cx):Cx:=X.wish fun _ _=>False
theorem Cx.Ok.wish {X:Cx} (ok:X.Ok) (E:Value -> Shared -> Prop):(X.wish E).Ok :=
 ⟨ok.mod,ok.kind,ok.glob,ok.blt,ok.above,ok.inj,ok.has,ok.cab,ok.hd,ok.frames,ok.stk,ok.exf,ok.bs,ok.bsz,ok.noex,ok.exfs,ok.funs,ok.frf⟩
theorem Cx.Ok.unwish {X:Cx} {E:Value -> Shared -> Prop} (ok:(X.wish E).Ok):X.Ok :=
 ⟨ok.mod,ok.kind,ok.glob,ok.blt,ok.above,ok.inj,ok.has,ok.cab,ok.hd,ok.frames,ok.stk,ok.exf,ok.bs,ok.bsz,ok.noex,ok.exfs,ok.funs,ok.frf⟩
section
variable {X:Cx} {pins:List (Addr × Obj)} {σ:St} {H:Hp} {s:Shared} {E:Value -> Shared -> Prop}
theorem Inv.wish (I:Inv X pins σ H s) (E:Value -> Shared -> Prop):Inv (X.wish E) pins σ H s:=⟨I.ok.wish E,I.os,I.bare,I.base,I.loc,I.cell,I.free,I.freeC,I.pin,I.hok,I.len⟩
theorem Inv.unwish (I:Inv (X.wish E) pins σ H s):Inv X pins σ H s:=⟨I.ok.unwish,I.os,I.bare,I.base,I.loc,I.cell,I.free,I.freeC,I.pin,I.hok,I.len⟩
theorem SP.unwish {D:dQ} {f:Flow} {s':Shared} (h:SP (X.wish E) pins D f s'):SP X pins D f s':=by
 cases f with
 | next=>obtain ⟨σ',H',I,q⟩:=h; exact ⟨σ',H',I.unwish,q⟩
 | brk=>obtain ⟨σ',H',I,q⟩:=h; exact ⟨σ',H',I.unwish,q⟩
 | cont=>obtain ⟨σ',H',I,q⟩:=h; exact ⟨σ',H',I.unwish,q⟩
 | ret u=>obtain ⟨v,σ',H',I,r,q⟩:=h; exact ⟨v,σ',H',I.unwish,r,q⟩
theorem PSs.nox {st:List Stmt} {t:TS} (h:PSs X.nox st t):PSs X st t:=fun pins s σ H D I hw =>
 wpAny_mono (h pins s σ H D (I.wish _) hw) (fun _ _ q=>q.unwish) fun _ _ z=>False.elim z
end
section
variable {X:Cx} {st:Stmt} {rest:List Stmt} {t u:TS} {e:Expr} {te:TE} {pos:Pos}
def tNext:TS:=fun D σ H=>D.nx σ H
def tSeq (t u:TS):TS:=fun D σ H=>t { D with nx:=u D } σ H
theorem aE:PSs X [] tNext:=fun _ _ σ H _ I h=>wpAny_execs_nil ⟨σ,H,I,h⟩
theorem ah (h1:PS X st t) (h2:PSs X rest u):PSs X (st :: rest) (tSeq t u):=by
 intro pins s σ H D I h
 refine wpAny_execs_cons (thn (h1 pins s σ H { D with nx:=u D } I h) fun f s1 q=>?_)
 cases f with
 | next =>
  obtain ⟨σ',H',I',q⟩:=q
  exact h2 pins s1 σ' H' D I' q
 | ret v=>exact q
 | brk=>exact q
 | cont=>exact q
theorem ak (h1:PS X st t):PSs X [st] t:=by
 intro pins s σ H D I h
 refine wpAny_execs_cons (thn (h1 pins s σ H D I h) fun f s1 q=>?_)
 cases f with
 | next=>exact wpAny_execs_nil q
 | ret v=>exact q
 | brk=>exact q
 | cont=>exact q
theorem Inv.quiet {pins:List (Addr × Obj)} {σ:St} {H:Hp} {s:Shared} (I:Inv X pins σ H s):interactive X.env=false:=by simp [interactive,I.ok.kind]
def tDrop (te:TE):TS:=fun D σ H=>te σ H fun _ H1=>D.nx σ H1
theorem bK (he:PE X e te) (hs:swapsWith e none pos.line X.env=pure false:=by rfl):PS X (.Expr e pos) (tDrop te):=by
 intro pins s σ H D I h
 exact wpAny_Expr_any (thn (he pins s σ H _ I h) fun v s1 ⟨x,H1,I1,r1,q1⟩=>⟨σ,H1,I1,q1⟩) I.quiet hs
def tRet (te:TE):TS:=fun D σ H=>te σ H D.rt
theorem ay (he:PE X e te):PS X (.Return (some e) pos) (tRet te):=by
 intro pins s σ H D I h
 exact wpAny_Return_some (thn (he pins s σ H _ I h) fun v s1 ⟨x,H1,I1,r1,q1⟩=>⟨x,σ,H1,I1,r1,q1⟩)
def tIfS (c:TT) (t u:TS):TS:=fun D σ H=>c σ H fun b H1=>if b=true then t D σ H1 else u D σ H1
theorem aT {c:Expr} {a b:List Stmt} {tc:TT} (hc:PT X c tc) (ha:PSs X a t) (hb:PSs X b u):PS X (.If c a b pos) (tIfS tc t u):=by
 intro pins s σ H D I h
 refine wpAny_If (thn (hc pins s σ H _ I h) fun d s1 ⟨H1,I1,q1⟩=>?_)
 cases d with
 | true=>exact ha pins s1 σ H1 D I1 q1
 | false=>exact hb pins s1 σ H1 D I1 q1
def tNever:TS:=fun _ _ _=>False
theorem pA:PS X st tNever:=fun _ _ _ _ _ _ h=>h.elim
end
abbrev TG:=V -> St -> Hp -> (St -> Hp -> Prop) -> Prop
abbrev TGs:=List V -> St -> Hp -> (St -> Hp -> Prop) -> Prop
def PG (X:Cx) (target:Expr) (t:TG):Prop :=
 ∀ (pins:List (Addr × Obj)) (s:Shared) (σ:St) (H:Hp) (v:V) (u:Value) (Q:St -> Hp -> Prop),Inv X pins σ H s -> aY v u -> t v σ H Q ->
  wpAny (model X.prog X.w) X.A (assign target X.env u) (fun _ s'=>∃ σ' H',Inv X pins σ' H' s' /\ Q σ' H') X.xe s
def PGs (X:Cx) (ts:List Expr) (t:TGs):Prop :=
 ∀ (pins:List (Addr × Obj)) (s:Shared) (σ:St) (H:Hp) (vs:List V) (us:List Value) (Q:St -> Hp -> Prop),Inv X pins σ H s -> aU vs us -> t vs σ H Q ->
  wpAny (model X.prog X.w) X.A (assignInOrder ((assignEach ts X.env).map (·.2)) us) (fun _ s'=>∃ σ' H',Inv X pins σ' H' s' /\ Q σ' H') X.xe s
abbrev TSet:=V -> V -> V -> Hp -> (Hp -> Prop) -> Prop
def PSet (X:Cx) (t:TSet):Prop :=
 ∀ (pins:List (Addr × Obj)) (s:Shared) (σ:St) (H:Hp) (o i v:V) (ov iv u:Value) (Q:Hp -> Prop),Inv X pins σ H s -> aY o ov -> aY i iv -> aY v u -> t o i v H Q ->
  wpAny (model X.prog X.w) X.A (setItem ov iv u) (fun _ s'=>∃ H',Inv X pins σ H' s' /\ Q H') X.xe s
section
variable {X:Cx} {pos:Pos}
def bY (i:Nat):TG:=fun v σ H Q=>Q (σ.set i (some v)) H
theorem aJ {i:Nat} {x:Str} (hN:X.N.Nodup) (hi:X.N[i]?=some x) (hx:Loc X.env.scope x) (hf:X.fn x=true \/ X.env.scope.names.lookup x=some .local:=by first | exact .inl rfl | exact .inr rfl | assumption):PG X (.Name x pos) (bY i):=by
 intro pins s σ H v u Q I r h
 exact wpAny_assign_Name (gQ I hN hi hx r (fun s' I'=>⟨_,H,I',h⟩) hf)
def gNil:TGs:=fun vs σ H Q=>vs=[] /\ Q σ H
def pB (t:TG) (u:TGs):TGs:=fun vs σ H Q=>∃ v r,vs=v :: r /\ t v σ H fun σ' H'=>u r σ' H' Q
theorem dz:PGs X [] gNil:=by
 intro pins s σ H vs us Q I r h
 obtain ⟨e,h⟩:=h
 subst e
 cases r
 exact assignInOrder_nil ⟨σ,H,I,h⟩
theorem a9 {e:Expr} {es:List Expr} {t:TG} {u:TGs} (h1:PG X e t) (h2:PGs X es u)
  (hs:(assignEach (e :: es) X.env).map (·.2)=assign e X.env :: (assignEach es X.env).map (·.2):=by rfl):PGs X (e :: es) (pB t u):=by
 intro pins s σ H vs us Q I r h
 obtain ⟨v,vr,e1,h⟩:=h
 subst e1
 cases r with
 | cons r rr =>
  rw [hs]
  refine assignInOrder_cons (thn (h1 pins s σ H _ _ _ I r h) fun _ s1 ⟨σ1,H1,I1,q1⟩=>?_)
  exact h2 pins s1 σ1 H1 _ _ Q I1 rr q1
def gTup (K:PySem.W.Frag) (n:Nat) (t:TGs):TG:=fun v σ H Q=>∃ a xs,v=.ref a /\ SqT K H a xs /\ xs.length=n /\ t xs σ H Q
theorem gR {es:List Expr} {k:Nat} {t:TGs} {n:Nat} (hc:X.calm=true) (h:PGs X es t)
  (hn:(assignEach es X.env).length=n:=by rfl) (hst:(assignEach es X.env).findIdx? (·.1)=none:=by rfl):PG X (.Tuple es k pos) (gTup X.K n t):=by
 intro pins s σ H v u Q I r hw
 obtain ⟨a,xs,e1,hq,hl,hw⟩:=hw
 subst e1
 cases r
 obtain ⟨its,rv,ht,hz⟩:=I.tuple hq
 refine assign_Tuple_tuple (I.ok.hd hc) ht (by simp [hn,<- hl,rv.length]) hst fun h' hx=>?_
 have I1:Inv X pins σ H { s with heap:=h' }:=I.kept (t':=s.toks) fun b o e=>hx b o (Nat.ne_of_lt (Heap.lt_size e)) e
 exact h pins _ σ H xs _ Q I1 (by simpa using rv) hw
def gSub (to ti:TE) (t:TSet):TG:=fun v σ H Q=>to σ H fun o H1=>ti σ H1 fun i H2=>t o i v H2 fun H3=>Q σ H3
theorem kQ {o i:Expr} {to ti:TE} {t:TSet} (ho:PE X o to) (hi:PE X i ti) (hs:PSet X t)
  (ha:∀ v,assign (.Subscript o i pos) X.env v=(do
   let ov <- holding [v] (eval o X.env)
   let iv <- holding [v,ov] (eval i X.env)
   standAt pos
   holding [v,ov,iv] (setItem ov iv v)
   release [v,ov,iv] []):=by intro _; rfl):PG X (.Subscript o i pos) (gSub to ti t):=by
 intro pins s σ H v u Q I r h
 rw [ha]
 refine wpAny_bind (wpAny_holding (thn (ho pins s σ H _ I h) fun ov s1 ⟨x,H1,I1,r1,q1⟩=>?_))
 refine wpAny_bind (wpAny_holding (thn (hi pins s1 σ H1 _ I1 q1) fun iv s2 ⟨y,H2,I2,r2,q2⟩=>?_))
 refine wpAny_bind (wpAny_standAt (wpAny_bind (wpAny_holding (thn (hs pins s2 σ H2 x y v ov iv u _ I2 r1 r2 r q2) fun _ s3 ⟨H3,I3,q3⟩=>?_))))
 exact wpAny_release ⟨σ,H3,I3,q3⟩
def tAsg (te:TE) (g:TG):TS:=fun D σ H=>te σ H fun x H1=>g x σ H1 D.nx
theorem gS {tg e:Expr} {te:TE} {g:TG} (he:PE X e te) (hg:PG X tg g) (hs:swapsWithSole [tg] e pos.line X.env=pure false:=by rfl) (hw:swappedStores [tg] e X.env=pure none:=by rfl)
  (h1:(assignEach [tg] X.env).map (·.2)=[assign tg X.env]:=by rfl):PS X (.Assign [tg] e pos) (tAsg te g):=by
 intro pins s σ H D I h
 refine wpAny_Assign_stores (thn (he pins s σ H _ I h) fun v s1 ⟨x,H1,I1,r1,q1⟩=>?_) hs hw
 rw [h1]
 exact thn (hg pins s1 σ H1 x v _ I1 r1 q1) fun _ s2 q=>q
theorem aD {i:Nat} {x:Str} {e:Expr} {te:TE} {pos':Pos} (hN:X.N.Nodup) (hi:X.N[i]?=some x) (hx:Loc X.env.scope x) (he:PE X e te) (hs:swapsWith e (some (.Name x pos')) pos.line X.env=pure false:=by rfl) (hf:X.fn x=true \/ X.env.scope.names.lookup x=some .local:=by first | exact .inl rfl | exact .inr rfl | assumption) :
  PS X (.Assign [.Name x pos'] e pos) (tAsg te (bY i)):=by
 intro pins s σ H D I h
 refine wpAny_Assign_Name (thn (he pins s σ H _ I h) fun v s1 ⟨y,H1,I1,r1,q1⟩=>?_) hs
 exact gQ I1 hN hi hx r1 (fun s2 I2=>⟨_,H1,I2,q1⟩) hf
end
section
variable {X:Cx} {pos:Pos}
def tWhile (c:TT) (tb:TS):TS:=fun D σ H=>∃ W:Nat -> St -> Hp -> Prop,(∃ m,W m σ H) /\ ∀ m σ H,W m σ H ->
 c σ H fun b H1=>if b=true then ∃ N:St -> Hp -> Prop,(∀ σ' H',N σ' H' -> ∃ m',m' < m /\ W m' σ' H') /\ tb { D with nx:=N,ct:=N,bk:=D.nx } σ H1 else D.nx σ H1
theorem pC {c:Expr} {body:List Stmt} {tc:TT} {tb:TS} (hp:PassesOwn (model X.prog X.w) X.A X.env X.xe) (hc:PT X c tc) (hb:PSs X body tb):PS X (.While c body [] pos) (tWhile tc tb):=by
 intro pins s σ H D I h
 obtain ⟨W,⟨m0,w0⟩,turn⟩:=h
 refine wpAny_While (codeAny_whileLoop (fun n s'=>∃ σ' H',Inv X pins σ' H' s' /\ W n σ' H') ?_ m0 ⟨σ,H,I,w0⟩)
 rintro n s1 ⟨σ1,H1,I1,w1⟩
 refine wpAny_passesOwn hp (thn (hc pins s1 σ1 H1 _ I1 (turn n σ1 H1 w1)) fun b s2 ⟨H2,I2,q2⟩=>?_)
 cases b with
 | true =>
  obtain ⟨N,hN,q2⟩:=q2
  rw [if_pos rfl]
  refine wpAny_passesOwn hp (thn (hb pins s2 σ1 H2 _ I2 q2) fun f s3 q3=>?_)
  cases f with
  | next =>
   obtain ⟨σ3,H3,I3,n3⟩:=q3
   obtain ⟨m',hm,w3⟩:=hN σ3 H3 n3
   exact ⟨m',hm,σ3,H3,I3,w3⟩
  | cont =>
   obtain ⟨σ3,H3,I3,n3⟩:=q3
   obtain ⟨m',hm,w3⟩:=hN σ3 H3 n3
   exact ⟨m',hm,σ3,H3,I3,w3⟩
  | brk=>exact q3
  | ret v=>exact q3
 | false =>
  rw [if_neg Bool.false_ne_true]
  exact wpAny_execs_nil ⟨σ1,H2,I2,q2⟩
end
structure It where
 go:Nat -> Hp -> Prop
 yld:Nat -> Hp -> V -> Hp -> Prop
 stop:Nat -> Hp -> Prop
def gA (X:Cx) (pins:List (Addr × Obj)) (H:Hp) (b:Addr):Prop :=
 H b=none /\ b ≠ X.env.locals /\ b ∉ X.fs /\ (b ∈ X.ex \/ X.s₀.heap.objs.size <= b) /\ (∀ x c,X.env.cells.lookup x=some c -> c ≠ b) /\ ∀ p ∈ X.pn ++ pins,p.1 ≠ b
theorem Inv.fpOk {X:Cx} {pins:List (Addr × Obj)} {σ:St} {H H':Hp} {s:Shared} {b:Addr} (I:Inv X pins σ H s) (hb:s.heap.objs.size <= b) (hn:H' b=none):gA X pins H' b:=by
 refine ⟨hn,Nat.ne_of_gt (Nat.lt_of_lt_of_le I.lt hb),I.nofs hb,.inr (Nat.le_trans I.sz hb),fun x c e z=>?_,fun p hp z=>?_⟩
 ·obtain ⟨v,q⟩:=I.cell x c e
  exact absurd (Nat.lt_of_lt_of_le q.lt (by rw [z]; exact hb)) (Nat.lt_irrefl _)
 ·exact absurd (Nat.lt_of_lt_of_le (Heap.lt_size (I.pin p hp).1) (by rw [z]; exact hb)) (Nat.lt_irrefl _)
structure jr (P:Program) (w:World) (K:PySem.W.Frag) (tg:Expr) (J:It) (fp:List Addr) (it:Addr) (tn:Nat -> Heap -> Prop):Prop where
 mem:it ∈ fp
 obj:∀ i h,tn i h -> ∀ b ∈ fp,∃ o,h.get? b=some o /\ ∀ v,o.data ≠ .cell v
 keep:∀ i h h',tn i h -> (∀ b ∈ fp,∀ o,h.get? b=some o -> h'.get? b=some o) -> tn i h'
 item:∀ (X:Cx),X.prog=P -> X.w=w -> X.K=K -> X.calm=true -> ∀ (i:Nat) (pins:List (Addr × Obj)) (s:Shared) (σ:St) (H:Hp) (E:Value -> Shared -> Prop),Inv X pins σ H s -> (∀ b ∈ fp,gA X pins H b) -> tn i s.heap -> J.go i H ->
  wpAny (model P w) X.A (pyNext (.ref it)) (fun r s1=>∃ u,r=some u /\
   wpAny (model P w) X.A (letOwnedTupleGo tg (.ref it) u) (fun _ s2=>∃ x H',Inv X pins σ H' s2 /\ aY x u /\ J.yld i H x H' /\ tn (i + 1) s2.heap /\ ∀ b ∈ fp,H' b=none) E s1) E s
 done:∀ (X:Cx),X.prog=P -> X.w=w -> X.K=K -> X.calm=true -> ∀ (i:Nat) (pins:List (Addr × Obj)) (s:Shared) (σ:St) (H:Hp) (E:Value -> Shared -> Prop),Inv X pins σ H s -> (∀ b ∈ fp,gA X pins H b) -> tn i s.heap -> J.stop i H ->
  wpAny (model P w) X.A (pyNext (.ref it)) (fun r s1=>r=none /\ Inv X pins σ H s1) E s
 self:∀ (A:Around) (i:Nat) (s:Shared) (Q:Value -> Shared -> Prop) (E:Value -> Shared -> Prop),tn i s.heap -> Q (.ref it) s -> wpAny (model P w) A (pyIter (.ref it)) Q E s
abbrev TI:=St -> Hp -> (It -> Hp -> Prop) -> Prop
def PIE (X:Cx) (pins:List (Addr × Obj)) (σ:St) (tg:Expr) (R:It -> Hp -> Prop) (itv:Value) (s2:Shared):Prop :=
 ∃ (it:Addr) (fp:List Addr) (tn:Nat -> Heap -> Prop) (J:It) (H':Hp),itv=.ref it /\ Inv X pins σ H' s2 /\ jr X.prog X.w X.K tg J fp it tn /\ tn 0 s2.heap /\ (∀ b ∈ fp,gA X pins H' b) /\ R J H'
def PI (X:Cx) (tg iter:Expr) (wi:TI):Prop :=
 ∀ (pins:List (Addr × Obj)) (s:Shared) (σ:St) (H:Hp) (R:It -> Hp -> Prop),Inv X pins σ H s -> wi σ H R ->
  wpAny (model X.prog X.w) X.A (eval iter X.env) (fun v s1=>wpAny (model X.prog X.w) X.A (pyIter v) (PIE X pins σ tg R) X.xe s1) X.xe s
theorem j3 {M:Model} {A:Around} {E:Value -> Shared -> Prop} {s:Shared} {tg:Expr} {it:Addr} {u:Value} {o:Obj} {n:String} {vs:Array Value} {Q:Unit -> Shared -> Prop} (ho:s.heap.get? it=some o) (hc:o.cls=.type n) (hd:o.data=.fields vs)
  (hn:["enumerate","zip","dict_itemiterator","dict_reverseitemiterator","odict_iterator","itertools.zip_longest","itertools.pairwise"].contains n=false) (hQ:Q () s):wpAny M A (letOwnedTupleGo tg (.ref it) u) Q E s:=by
 unfold letOwnedTupleGo
 cases tg <;> first
  | exact wpAny_pure hQ
  | (cases u <;> first
    | exact wpAny_pure hQ
    | (refine wpAny_bind (wpAny_load ho ?_)
       rw [hc,hd]
       show wpAny M A (if (["enumerate","zip","dict_itemiterator","dict_reverseitemiterator","odict_iterator","itertools.zip_longest","itertools.pairwise"].contains n && vs[0]? == some (rawInt _))=true then _ else _) Q E s
       rw [if_neg (by intro h; rw [hn,Bool.false_and] at h; cases h)]
       exact wpAny_pure hQ))
def Itl (K:PySem.W.Frag) (a:Addr):It :=
 ⟨fun i H=>∃ xs x,SqL K H a xs /\ xs[i]?=some x,fun i H x H'=>H'=H /\ ∀ xs,SqL K H a xs -> xs[i]?=some x,fun i H=>∃ xs,SqL K H a xs /\ xs.length <= i⟩
def Itt (K:PySem.W.Frag) (a:Addr):It :=
 ⟨fun i H=>∃ xs x,SqT K H a xs /\ xs[i]?=some x,fun i H x H'=>H'=H /\ ∀ xs,SqT K H a xs -> xs[i]?=some x,fun i H=>∃ xs,SqT K H a xs /\ xs.length <= i⟩
def Itr (lo:Int) (n:Nat):It:=⟨fun i _=>i < n,fun i H x H'=>H'=H /\ x=.int (lo + i),fun i _=>n <= i⟩
theorem nK {P:Program} {w:World} {K:PySem.W.Frag} {tg:Expr} (a it:Addr):jr P w K tg (Itl K a) [it] it (fun i h=>h.IsListIter it a i) where
 mem:=by simp
 obj:=fun i h st b hb=>by
  have e:b=it:=by simpa using hb
  subst e
  obtain ⟨o,e,c,d⟩:=st
  exact ⟨o,e,fun v z=>by rw [d] at z; cases z⟩
 keep:=fun i h h' st k=>st.at fun o e=>k it (by simp) o e
 item:=by
  intro X hP hw hK hc i pins s σ H E I hf st hg
  subst hP hw hK
  obtain ⟨xs,x,hq,hx⟩:=hg
  obtain ⟨its,rv,p,hz⟩:=I.list hq
  obtain ⟨u,hu,ru⟩:=rv.get hx
  obtain ⟨f0,f1,f2,f3,f4,f5⟩:=hf it (by simp)
  refine wpAny_pyNext_list_item st p.isList (x:=u) (by simpa using hu) fun h' st' sb=>?_
  have I1:Inv X pins σ H { s with heap:=h' }:=I.turned (t':=s.toks) (fun b o hb e=>(sb.2 b hb).trans e) f0 f1 f3 f4 f5
  obtain ⟨o,e,c,d⟩:=id st'
  exact ⟨u,rfl,j3 (s:={ s with heap:=h' }) e c d (by decide) ⟨x,H,I1,ru,⟨rfl,fun ys hy=>by rw [I.list_inj hy hq]; exact hx⟩,st',fun b hb=>(hf b hb).1⟩⟩
 done:=by
  intro X hP hw hK hc i pins s σ H E I hf st hg
  subst hP hw hK
  obtain ⟨xs,hq,hx⟩:=hg
  obtain ⟨its,rv,p,hz⟩:=I.list hq
  obtain ⟨f0,f1,f2,f3,f4,f5⟩:=hf it (by simp)
  have hl:=rv.length
  exact wpAny_pyNext_list_end (I.ok.hd hc) st p.isList (by simp; lia) fun h' eb=>⟨rfl,I.turned (t':=s.toks) (fun b o hb e=>eb b o hb e) f0 f1 f3 f4 f5⟩
 self:=fun _ _ _ _ _ st h=>wpAny_pyIter_listiter st h
theorem kS {P:Program} {w:World} {K:PySem.W.Frag} {tg:Expr} (a it:Addr):jr P w K tg (Itt K a) [it] it (fun i h=>h.IsTupleIter it a i) where
 mem:=by simp
 obj:=fun i h st b hb=>by
  have e:b=it:=by simpa using hb
  subst e
  obtain ⟨o,e,c,d⟩:=st
  exact ⟨o,e,fun v z=>by rw [d] at z; cases z⟩
 keep:=fun i h h' st k=>st.at fun o e=>k it (by simp) o e
 item:=by
  intro X hP hw hK hc i pins s σ H E I hf st hg
  subst hP hw hK
  obtain ⟨xs,x,hq,hx⟩:=hg
  obtain ⟨its,rv,p,hz⟩:=I.tuple hq
  obtain ⟨u,hu,ru⟩:=rv.get hx
  obtain ⟨f0,f1,f2,f3,f4,f5⟩:=hf it (by simp)
  refine wpAny_pyNext_tuple_item st (show s.heap.IsTuple a its.toArray from p) (x:=u) (by simpa using hu) fun h' st' sb=>?_
  have I1:Inv X pins σ H { s with heap:=h' }:=I.turned (t':=s.toks) (fun b o hb e=>(sb.2 b hb).trans e) f0 f1 f3 f4 f5
  obtain ⟨o,e,c,d⟩:=id st'
  exact ⟨u,rfl,j3 (s:={ s with heap:=h' }) e c d (by decide) ⟨x,H,I1,ru,⟨rfl,fun ys hy=>by rw [I.tuple_inj hy hq]; exact hx⟩,st',fun b hb=>(hf b hb).1⟩⟩
 done:=by
  intro X hP hw hK hc i pins s σ H E I hf st hg
  subst hP hw hK
  obtain ⟨xs,hq,hx⟩:=hg
  obtain ⟨its,rv,p,hz⟩:=I.tuple hq
  obtain ⟨f0,f1,f2,f3,f4,f5⟩:=hf it (by simp)
  have hl:=rv.length
  exact wpAny_pyNext_tuple_end (I.ok.hd hc) st (show s.heap.IsTuple a its.toArray from p) (by simp; lia) fun h' eb=>⟨rfl,I.turned (t':=s.toks) (fun b o hb e=>eb b o hb e) f0 f1 f3 f4 f5⟩
 self:=fun _ _ _ _ _ st h=>wpAny_pyIter_tupleiter st h
theorem gU {P:Program} {w:World} {K:PySem.W.Frag} {tg:Expr} (it:Addr) (lo:Int) (n:Nat):jr P w K tg (Itr lo n) [it] it (fun i h=>IsRangeIter h it (lo + (i:Nat) * 1) ((n:Int) - (i:Nat)) 1) where
 mem:=by simp
 obj:=fun i h st b hb=>by
  have e:b=it:=by simpa using hb
  subst e
  exact ⟨_,st,fun v z=>by
   have z':Data.fields _=Data.cell v:=z
   cases z'⟩
 keep:=fun i h h' st k=>k it (by simp) _ st
 item:=by
  intro X hP hw hK hc i pins s σ H E I hf st hg
  subst hP hw hK
  obtain ⟨f0,f1,f2,f3,f4,f5⟩:=hf it (by simp)
  have W:=Walks.range (prog:=X.prog) (w:=X.w) (I.ok.hd hc) it lo 1 n
  refine W.item i s _ _ hg st fun v h' tk hv st' kk=>?_
  obtain ⟨t,rfl⟩:=hv
  have I1:Inv X pins σ H { s with heap:=h',toks:=tk }:=I.turned (fun b o hb e=>kk b o (by simpa using hb) e) f0 f1 f3 f4 f5
  refine ⟨_,rfl,j3 (s:={ s with heap:=h',toks:=tk }) (n:="range_iterator") st' rfl rfl (by decide) ⟨.int (lo + i),H,I1,⟨t,?_⟩,⟨rfl,rfl⟩,st',fun b hb=>(hf b hb).1⟩⟩
  rw [Int.mul_one]
 done:=by
  intro X hP hw hK hc i pins s σ H E I hf st hg
  subst hP hw hK
  obtain ⟨f0,f1,f2,f3,f4,f5⟩:=hf it (by simp)
  exact wpAny_pyNext_range_end (I.ok.hd hc) st (by have:n <= i:=hg; lia) fun h' eb=>⟨rfl,I.turned (t':=s.toks) (fun b o hb e=>eb b o hb e) f0 f1 f3 f4 f5⟩
 self:=fun _ _ _ _ _ st h=>wpAny_pyIter_rangeiter st h
section
variable {X:Cx} {tg:Expr}
def iList (K:PySem.W.Frag) (tl:TE):TI:=fun σ H R=>tl σ H fun x H1=>∃ a,x=.ref a /\ (∃ xs,SqL K H1 a xs) /\ R (Itl K a) H1
def iTup (K:PySem.W.Frag) (tl:TE):TI:=fun σ H R=>tl σ H fun x H1=>∃ a,x=.ref a /\ (∃ xs,SqT K H1 a xs) /\ R (Itt K a) H1
theorem cW {l:Expr} {tl:TE} (hl:PE X l tl):PI X tg l (iList X.K tl):=by
 intro pins s σ H R I h
 refine thn (hl pins s σ H _ I h) fun v s1 ⟨x,H1,I1,r1,q1⟩=>?_
 obtain ⟨a,e,⟨xs,hq⟩,q⟩:=q1
 subst e
 cases r1
 obtain ⟨its,rv,p,hz⟩:=I1.list hq
 refine wpAny_pyIter_list p.isList ?_
 refine ⟨s1.heap.objs.size,[s1.heap.objs.size],_,_,H1,rfl,I1.kept (t':=s1.toks) fun b o e=>Heap.get?_push_of_some _ e,nK a _,⟨_,Heap.get?_push_size _ rfl,rfl,rfl⟩,fun b hb=>?_,q⟩
 have e:b=s1.heap.objs.size:=by simpa using hb
 subst e
 exact I1.fpOk (Nat.le_refl _) (I1.hok.fresh (Nat.le_refl _))
theorem db {l:Expr} {tl:TE} (hl:PE X l tl):PI X tg l (iTup X.K tl):=by
 intro pins s σ H R I h
 refine thn (hl pins s σ H _ I h) fun v s1 ⟨x,H1,I1,r1,q1⟩=>?_
 obtain ⟨a,e,⟨xs,hq⟩,q⟩:=q1
 subst e
 cases r1
 obtain ⟨its,rv,p,hz⟩:=I1.tuple hq
 refine wpAny_pyIter_tuple (show s1.heap.IsTuple a its.toArray from p) ?_
 refine ⟨s1.heap.objs.size,[s1.heap.objs.size],_,_,H1,rfl,I1.kept (t':=s1.toks) fun b o e=>Heap.get?_push_of_some _ e,kS a _,⟨_,Heap.get?_push_size _ rfl,rfl,rfl⟩,fun b hb=>?_,q⟩
 have e:b=s1.heap.objs.size:=by simpa using hb
 subst e
 exact I1.fpOk (Nat.le_refl _) (I1.hok.fresh (Nat.le_refl _))
theorem pD {pins:List (Addr × Obj)} {σ:St} {H:Hp} {s:Shared} {R:It -> Hp -> Prop} {E:Value -> Shared -> Prop} {lo hi:Int} {t u v:Tok} {tk:Nat} (I:Inv X pins σ H s) (h1:-(2 ^ 62) <= lo) (h2:lo < 2 ^ 62) (h3:-(2 ^ 62) <= hi) (h4:hi < 2 ^ 62)
  (q:R (Itr lo (hi - lo).toNat) H):wpAny (model X.prog X.w) X.A (pyIter (.ref s.heap.objs.size)) (PIE X pins σ tg R) E { s with heap:=s.heap.push { cls:=.type "range",data:=.fields #[.int lo t,.int hi u,.int 1 v] },toks:=tk }:=by
 refine wpAny_pyIter_range (IsRange.new ..) (small_one h1 h2 h3 h4) ?_
 have I1:Inv X pins σ H { s with heap:=s.heap.push { cls:=.type "range",data:=.fields #[.int lo t,.int hi u,.int 1 v] },toks:=tk }:=I.kept fun b o e=>Heap.get?_push_of_some _ e
 refine ⟨(s.heap.push { cls:=.type "range",data:=.fields #[.int lo t,.int hi u,.int 1 v] }).objs.size,[(s.heap.push { cls:=.type "range",data:=.fields #[.int lo t,.int hi u,.int 1 v] }).objs.size],_,_,H,rfl,
  I1.kept (t':=tk) fun b o e=>Heap.get?_push_of_some _ e,gU _ lo (hi - lo).toNat,?_,fun b hb=>?_,q⟩
 ·have e1:lo + ((0:Nat):Int) * 1=lo:=by simp
  have e2:(((hi - lo).toNat:Nat):Int) - ((0:Nat):Int)=Builtin.Range.rangeSize lo hi 1:=by rw [rangeSize_one]; split <;> lia
  show IsRangeIter _ _ (lo + ((0:Nat):Int) * 1) ((((hi - lo).toNat:Nat):Int) - ((0:Nat):Int)) 1
  rw [e1,e2]
  exact Heap.get?_push_size _ rfl
 ·have e:b=(s.heap.push { cls:=.type "range",data:=.fields #[.int lo t,.int hi u,.int 1 v] }).objs.size:=by simpa using hb
  subst e
  exact I1.fpOk (Nat.le_refl _) (I1.hok.fresh (Nat.le_refl _))
def iRng1 (ta:TA):TI:=fun σ H R=>ta σ H fun vs H1=>∃ j:Int,vs=[.int j] /\ -(2 ^ 62) <= j /\ j < 2 ^ 62 /\ R (Itr 0 j.toNat) H1
theorem bW {a:Expr} {ta:TA} {p pos:Pos} (hg:Gl X "range") (hm:X.mg "range"=none) (ha:PA X [a] ta) (hs:starEach [a] X.env=[(false,eval a X.env)]:=by rfl):PI X tg (.Call (.Name "range" p) [a] [] pos) (iRng1 ta):=by
 intro pins s σ H R I h
 refine Call_ (dR I hg hm boot_range (PyProof.Rows.callWith_type1 (thn (ha pos pins s σ H _ I h) fun us s1 ⟨vs,H1,I1,r1,q1⟩=>?_) hs rfl))
 obtain ⟨j,e,q1,q2,q⟩:=q1
 subst e
 cases r1 with
 | cons r rr =>
  cases rr
  obtain ⟨t,rfl⟩:=r
  exact call_range_1 (pD I1 (by lia) (by lia) q1 q2 (by simpa using q))
def tFor (wi:TI) (g:TG) (tb:TS):TS:=fun D σ H=>wi σ H fun J H1=>∃ W:Nat -> Nat -> St -> Hp -> Prop,(∃ m,W 0 m σ H1) /\ ∀ i m σ H,W i m σ H ->
 (J.stop i H /\ D.nx σ H) \/ (J.go i H /\ ∃ N:St -> Hp -> Prop,(∀ σ' H',N σ' H' -> ∃ m',m' < m /\ W (i + 1) m' σ' H') /\ ∀ x H',J.yld i H x H' -> g x σ H' fun σ2 H2=>tb { D with nx:=N,ct:=N,bk:=D.nx } σ2 H2)
def gW (fp:List Addr) (h:Heap):List (Addr × Obj):=fp.filterMap fun b=>(h.get? b).map fun o=>(b,o)
theorem dA {fp:List Addr} {h:Heap} {b:Addr} {o:Obj} (hb:b ∈ fp) (e:h.get? b=some o):(b,o) ∈ gW fp h:=List.mem_filterMap.mpr ⟨b,hb,by rw [e]; rfl⟩
theorem nL {fp:List Addr} {h:Heap} {p:Addr × Obj} (hp:p ∈ gW fp h):p.1 ∈ fp /\ h.get? p.1=some p.2:=by
 obtain ⟨b,hb,e⟩:=List.mem_filterMap.mp hp
 cases q:h.get? b with
 | none=>rw [q] at e; cases e
 | some o =>
  rw [q] at e
  have e':(b,o)=p:=Option.some.inj e
  subst e'
  exact ⟨hb,q⟩
theorem Inv.pinned {pins:List (Addr × Obj)} {σ:St} {H:Hp} {s:Shared} {fp:List Addr} (I:Inv X pins σ H s) (hf:∀ b ∈ fp,gA X pins H b) (ho:∀ b ∈ fp,∃ o,s.heap.get? b=some o /\ ∀ v,o.data ≠ .cell v):Inv X (pins ++ gW fp s.heap) σ H s :=
 I.pins_of fun p hp=>(List.mem_append.mp hp).elim (fun z=>I.pin p (List.mem_append_right _ z)) fun z=>by
  obtain ⟨hb,e⟩:=nL z
  obtain ⟨f0,f1,f2,_⟩:=hf p.1 hb
  obtain ⟨o,e',d⟩:=ho p.1 hb
  rw [e] at e'; cases e'
  exact ⟨e,f0,f1,f2,d⟩
theorem Inv.unpinned {pins pl:List (Addr × Obj)} {σ:St} {H:Hp} {s:Shared} (I:Inv X (pins ++ pl) σ H s):Inv X pins σ H s:=I.pins_of fun p hp=>I.pin p (List.mem_append_right _ (List.mem_append_left _ hp))
theorem cv {iter:Expr} {body:List Stmt} {wi:TI} {g:TG} {tb:TS} {pos:Pos} (hp:PassesOwn (model X.prog X.w) X.A X.env X.xe) (hc:X.calm=true) (hi:PI X tg iter wi) (hg:PG X tg g) (hb:PSs X body tb)
  (hs:∀ x,foldedSetIterable iter X.env x=pure x:=by intro _; rfl):PS X (.For tg iter body [] pos) (tFor wi g tb):=by
 intro pins s σ H D I h
 refine wpAny_For (thn (hi pins s σ H _ I h) fun v s1 h1=>thn h1 fun itv s2 h2=>?_) hs
 obtain ⟨it,fp,tn,J,H2,e,I2,T,st2,f2,W,⟨m0,w0⟩,turn⟩:=h2
 subst e
 have stat:∀ {H':Hp},(∀ b ∈ fp,H' b=none) -> ∀ b ∈ fp,gA X pins H' b:=fun hn b hb=>⟨hn b hb,(f2 b hb).2⟩
 refine codeAny_forLoop_any (fun n s'=>∃ i σ' H',Inv X pins σ' H' s' /\ tn i s'.heap /\ (∀ b ∈ fp,H' b=none) /\ W i n σ' H') ?_ m0 ⟨0,σ,H2,I2,st2,fun b hb=>(f2 b hb).1,w0⟩
 rintro n s3 ⟨i,σ3,H3,I3,st3,fr3,w3⟩
 rcases turn i n σ3 H3 w3 with ⟨stop,qn⟩ | ⟨go,N,hN,step⟩
 ·refine wpAny_passesOwn hp (thn (T.done X rfl rfl rfl hc i pins s3 σ3 H3 X.xe I3 (stat fr3) st3 stop) fun r s4 ⟨hr,I4⟩=>?_)
  subst hr
  exact wpAny_execs_nil ⟨σ3,H3,I4,qn⟩
 ·refine wpAny_passesOwn hp (thn (T.item X rfl rfl rfl hc i pins s3 σ3 H3 X.xe I3 (stat fr3) st3 go) fun r s4 ⟨u,hr,h4⟩=>?_)
  subst hr
  refine wpAny_passesOwn hp (thn h4 fun _ s5 ⟨x,H5,I5,r5,y5,st5,fr5⟩=>?_)
  have I5':=I5.pinned (stat fr5) (T.obj _ _ st5)
  refine wpAny_passesOwn hp (thn (hg _ s5 σ3 H5 x u _ I5' r5 (step x H5 y5)) fun _ s6 ⟨σ6,H6,I6,q6⟩=>?_)
  refine wpAny_passesOwn hp (thn (hb _ s6 σ6 H6 _ I6 q6) fun f s7 q7=>?_)
  have again:∀ {σ7:St} {H7:Hp},Inv X (pins ++ gW fp s5.heap) σ7 H7 s7 -> N σ7 H7 -> ∃ m,m < n /\ ∃ i σ' H',Inv X pins σ' H' s7 /\ tn i s7.heap /\ (∀ b ∈ fp,H' b=none) /\ W i m σ' H':=fun {σ7 H7} I7 n7=>by
   obtain ⟨m',hm,w7⟩:=hN σ7 H7 n7
   refine ⟨m',hm,i + 1,σ7,H7,I7.unpinned,T.keep _ _ _ st5 fun b hb o e=>(I7.pin (b,o) (List.mem_append_right _ (List.mem_append_right _ (dA hb e)))).1,fun b hb=>?_,w7⟩
   obtain ⟨o,e,d⟩:=T.obj _ _ st5 b hb
   exact (I7.pin (b,o) (List.mem_append_right _ (List.mem_append_right _ (dA hb e)))).2.1
  cases f with
  | next=>obtain ⟨σ7,H7,I7,n7⟩:=q7; exact again I7 n7
  | cont=>obtain ⟨σ7,H7,I7,n7⟩:=q7; exact again I7 n7
  | brk=>obtain ⟨σ7,H7,I7,q7⟩:=q7; exact ⟨σ7,H7,I7.unpinned,q7⟩
  | ret v=>obtain ⟨x7,σ7,H7,I7,r7,q7⟩:=q7; exact ⟨x7,σ7,H7,I7.unpinned,r7,q7⟩
end
theorem j4 {K:PySem.W.Frag} {a:Addr} {xs:List V} {g:TG} {tb:TS} {D:dQ} {σ:St} {H:Hp} (Pv:Nat -> St -> Hp -> Prop) (h0:Pv 0 σ H) (hl:∀ i σ H,i <= xs.length -> Pv i σ H -> SqL K H a xs)
  (hs:∀ i x σ H,xs[i]?=some x -> Pv i σ H -> g x σ H fun σ2 H2=>tb { D with nx:=Pv (i + 1),ct:=Pv (i + 1),bk:=D.nx } σ2 H2) (hd:∀ σ H,Pv xs.length σ H -> D.nx σ H) :
  ∃ W:Nat -> Nat -> St -> Hp -> Prop,(∃ m,W 0 m σ H) /\ ∀ i m σ H,W i m σ H ->
   ((Itl K a).stop i H /\ D.nx σ H) \/ ((Itl K a).go i H /\ ∃ N:St -> Hp -> Prop,(∀ σ' H',N σ' H' -> ∃ m',m' < m /\ W (i + 1) m' σ' H') /\ ∀ x H',(Itl K a).yld i H x H' -> g x σ H' fun σ2 H2=>tb { D with nx:=N,ct:=N,bk:=D.nx } σ2 H2):=by
 refine ⟨fun i m σ H=>m=xs.length - i /\ i <= xs.length /\ Pv i σ H,⟨xs.length,by simp,Nat.zero_le _,h0⟩,?_⟩
 rintro i m σ H ⟨rfl,hi,p⟩
 have q:=hl i σ H hi p
 by_cases hlt:i < xs.length
 ·refine .inr ⟨⟨xs,xs[i],q,by simp [hlt]⟩,Pv (i + 1),fun σ' H' p'=>⟨xs.length - (i + 1),by lia,rfl,hlt,p'⟩,fun x H' y=>?_⟩
  obtain ⟨e,y⟩:=y
  subst e
  exact hs i x σ _ (y xs q) p
 ·have e:i=xs.length:=by lia
  subst e
  exact .inl ⟨⟨xs,q,Nat.le_refl _⟩,hd σ H p⟩
theorem js {K:PySem.W.Frag} {a:Addr} {xs:List V} {g:TG} {tb:TS} {D:dQ} {σ:St} {H:Hp} (Pv:Nat -> St -> Hp -> Prop) (h0:Pv 0 σ H) (hl:∀ i σ H,i <= xs.length -> Pv i σ H -> SqT K H a xs)
  (hs:∀ i x σ H,xs[i]?=some x -> Pv i σ H -> g x σ H fun σ2 H2=>tb { D with nx:=Pv (i + 1),ct:=Pv (i + 1),bk:=D.nx } σ2 H2) (hd:∀ σ H,Pv xs.length σ H -> D.nx σ H) :
  ∃ W:Nat -> Nat -> St -> Hp -> Prop,(∃ m,W 0 m σ H) /\ ∀ i m σ H,W i m σ H ->
   ((Itt K a).stop i H /\ D.nx σ H) \/ ((Itt K a).go i H /\ ∃ N:St -> Hp -> Prop,(∀ σ' H',N σ' H' -> ∃ m',m' < m /\ W (i + 1) m' σ' H') /\ ∀ x H',(Itt K a).yld i H x H' -> g x σ H' fun σ2 H2=>tb { D with nx:=N,ct:=N,bk:=D.nx } σ2 H2):=by
 refine ⟨fun i m σ H=>m=xs.length - i /\ i <= xs.length /\ Pv i σ H,⟨xs.length,by simp,Nat.zero_le _,h0⟩,?_⟩
 rintro i m σ H ⟨rfl,hi,p⟩
 have q:=hl i σ H hi p
 by_cases hlt:i < xs.length
 ·refine .inr ⟨⟨xs,xs[i],q,by simp [hlt]⟩,Pv (i + 1),fun σ' H' p'=>⟨xs.length - (i + 1),by lia,rfl,hlt,p'⟩,fun x H' y=>?_⟩
  obtain ⟨e,y⟩:=y
  subst e
  exact hs i x σ _ (y xs q) p
 ·have e:i=xs.length:=by lia
  subst e
  exact .inl ⟨⟨xs,q,Nat.le_refl _⟩,hd σ H p⟩
theorem cO {lo:Int} {n:Nat} {g:TG} {tb:TS} {D:dQ} {σ:St} {H:Hp} (Pv:Nat -> St -> Hp -> Prop) (h0:Pv 0 σ H)
  (hs:∀ i σ H,i < n -> Pv i σ H -> g (.int (lo + i)) σ H fun σ2 H2=>tb { D with nx:=Pv (i + 1),ct:=Pv (i + 1),bk:=D.nx } σ2 H2) (hd:∀ σ H,Pv n σ H -> D.nx σ H) :
  ∃ W:Nat -> Nat -> St -> Hp -> Prop,(∃ m,W 0 m σ H) /\ ∀ i m σ H,W i m σ H ->
   ((Itr lo n).stop i H /\ D.nx σ H) \/ ((Itr lo n).go i H /\ ∃ N:St -> Hp -> Prop,(∀ σ' H',N σ' H' -> ∃ m',m' < m /\ W (i + 1) m' σ' H') /\ ∀ x H',(Itr lo n).yld i H x H' -> g x σ H' fun σ2 H2=>tb { D with nx:=N,ct:=N,bk:=D.nx } σ2 H2):=by
 refine ⟨fun i m σ H=>m=n - i /\ i <= n /\ Pv i σ H,⟨n,by simp,Nat.zero_le _,h0⟩,?_⟩
 rintro i m σ H ⟨rfl,hi,p⟩
 by_cases hlt:i < n
 ·refine .inr ⟨hlt,Pv (i + 1),fun σ' H' p'=>⟨n - (i + 1),by lia,rfl,hlt,p'⟩,fun x H' y=>?_⟩
  obtain ⟨e,y⟩:=y
  subst e y
  exact hs i σ _ hlt p
 ·have e:i=n:=by lia
  subst e
  exact .inl ⟨Nat.le_refl _,hd σ H p⟩
abbrev R2:=V -> V -> Hp -> VK -> Prop
def OpR (X:Cx) (f:Value -> Value -> Sem Value) (r:R2):Prop :=
 ∀ (pins:List (Addr × Obj)) (s:Shared) (σ:St) (H:Hp) (x y:V) (v u:Value) (Q:VK),Inv X pins σ H s -> aY x v -> aY y u -> r x y H Q ->
  wpAny (model X.prog X.w) X.A (f v u) (EP X pins σ Q) X.xe s
def UnR (X:Cx) (f:Value -> Sem Value) (r:V -> Hp -> VK -> Prop):Prop :=
 ∀ (pins:List (Addr × Obj)) (s:Shared) (σ:St) (H:Hp) (x:V) (v:Value) (Q:VK),Inv X pins σ H s -> aY x v -> r x H Q ->
  wpAny (model X.prog X.w) X.A (f v) (EP X pins σ Q) X.xe s
def cm (X:Cx) (f:Value) (r:List V -> Hp -> VK -> Prop):Prop :=
 ∀ (pins:List (Addr × Obj)) (s:Shared) (σ:St) (H:Hp) (xs:List V) (us:List Value) (Q:VK),Inv X pins σ H s -> aU xs us -> r xs H Q ->
  wpAny (model X.prog X.w) X.A (call f us) (EP X pins σ Q) X.xe s
def TruR (X:Cx) (r:V -> Hp -> (Bool -> Hp -> Prop) -> Prop):Prop :=
 ∀ (pins:List (Addr × Obj)) (s:Shared) (σ:St) (H:Hp) (x:V) (v:Value) (Q:Bool -> Hp -> Prop),Inv X pins σ H s -> aY x v -> r x H Q ->
  wpAny (model X.prog X.w) X.A (truthy v) (TP X pins σ Q) X.xe s
def tOp (r:R2) (ta tb:TE):TE:=fun σ H Q=>ta σ H fun x H1=>tb σ H1 fun y H2=>r x y H2 Q
def tUn (r:V -> Hp -> VK -> Prop) (ta:TE):TE:=fun σ H Q=>ta σ H fun x H1=>r x H1 Q
def rI (C:Int -> Int -> Prop) (g:Int -> Int -> V):R2:=fun x y H Q=>∃ i j,x=.int i /\ y=.int j /\ C i j /\ Q (g i j) H
def rI0 (g:Int -> Int -> V):R2:=fun x y H Q=>∃ i j,x=.int i /\ y=.int j /\ Q (g i j) H
def rU (g:Int -> V):V -> Hp -> VK -> Prop:=fun x H Q=>∃ i,x=.int i /\ Q (g i) H
section
variable {X:Cx} {a b c:Expr} {ta tb tc:TE} {pos:Pos}
theorem binT (ha:PE X a ta) (hb:PE X b tb) {pins:List (Addr × Obj)} {s:Shared} {σ:St} {H:Hp} {R:V -> V -> Hp -> Prop} (I:Inv X pins σ H s)
  (h:ta σ H fun x H1=>tb σ H1 fun y H2=>R x y H2) {Q:Value -> Shared -> Prop} {f:Value -> Value -> Sem Value}
  (hf:∀ v u s2 x y H2,Inv X pins σ H2 s2 -> aY x v -> aY y u -> R x y H2 -> wpAny (model X.prog X.w) X.A (f v u) Q X.xe s2) :
  wpAny (model X.prog X.w) X.A (eval a X.env) (fun v s₁=>wpAny (model X.prog X.w) X.A (eval b X.env) (fun u s₂=>wpAny (model X.prog X.w) X.A (f v u) Q X.xe s₂) X.xe s₁) X.xe s:=by
 refine thn (ha pins s σ H _ I h) fun v s1 ⟨x,H1,I1,r1,q1⟩=>?_
 refine thn (hb pins s1 σ H1 _ I1 q1) fun u s2 ⟨y,H2,I2,r2,q2⟩=>?_
 exact hf v u s2 x y H2 I2 r1 r2 q2
theorem aO {op:Operator} {r:R2} (ho:OpR X (binaryOp op) r) (ha:PE X a ta) (hb:PE X b tb):PE X (.BinOp a op b pos) (tOp r ta tb):=by
 intro pins s σ H Q I h
 exact wpAny_BinOp (binT ha hb I h fun v u s2 x y H2 I2 rx ry q=>ho pins s2 σ H2 x y v u Q I2 rx ry q)
theorem iL {op:UnaryOp} {r:V -> Hp -> VK -> Prop} (ho:UnR X (unaryOp op) r) (ha:PE X a ta):PE X (.UnaryOp op a pos) (tUn r ta):=by
 intro pins s σ H Q I h
 exact UnaryOp_ (thn (ha pins s σ H _ I h) fun v s1 ⟨x,H1,I1,r1,q1⟩=>ho pins s1 σ H1 x v Q I1 r1 q1)
theorem opI {f:Value -> Value -> Sem Value} {C:Int -> Int -> Prop} {g:Int -> Int -> Int}
  (rule:∀ (i j:Int) (t u:Tok) (s:Shared) (Q:Value -> Shared -> Prop) (E:Value -> Shared -> Prop),C i j -> Q (.int (g i j) s.toks) { s with toks:=s.toks + 1 } -> wpAny (model X.prog X.w) X.A (f (.int i t) (.int j u)) Q E s) :
  OpR X f (rI C fun i j=>.int (g i j)):=by
 intro pins s σ H x y v u Q I rx ry h
 obtain ⟨i,j,rfl,rfl,hc,q⟩:=h
 obtain ⟨t,rfl⟩:=rx
 obtain ⟨t',rfl⟩:=ry
 exact rule i j t t' s _ _ hc ⟨.int (g i j),H,I.tok _,⟨_,rfl⟩,q⟩
theorem opI0 {f:Value -> Value -> Sem Value} {g:Int -> Int -> Int}
  (rule:∀ (i j:Int) (t u:Tok) (s:Shared) (Q:Value -> Shared -> Prop) (E:Value -> Shared -> Prop),Q (.int (g i j) s.toks) { s with toks:=s.toks + 1 } -> wpAny (model X.prog X.w) X.A (f (.int i t) (.int j u)) Q E s) :
  OpR X f (rI0 fun i j=>.int (g i j)):=by
 intro pins s σ H x y v u Q I rx ry h
 obtain ⟨i,j,rfl,rfl,q⟩:=h
 obtain ⟨t,rfl⟩:=rx
 obtain ⟨t',rfl⟩:=ry
 exact rule i j t t' s _ _ ⟨.int (g i j),H,I.tok _,⟨_,rfl⟩,q⟩
theorem opB0 {f:Value -> Value -> Sem Value} {g:Int -> Int -> Bool}
  (rule:∀ (i j:Int) (t u:Tok) (s:Shared) (Q:Value -> Shared -> Prop) (E:Value -> Shared -> Prop),Q (.bool (g i j)) s -> wpAny (model X.prog X.w) X.A (f (.int i t) (.int j u)) Q E s) :
  OpR X f (rI0 fun i j=>.bl (g i j)):=by
 intro pins s σ H x y v u Q I rx ry h
 obtain ⟨i,j,rfl,rfl,q⟩:=h
 obtain ⟨t,rfl⟩:=rx
 obtain ⟨t',rfl⟩:=ry
 exact rule i j t t' s _ _ ⟨.bl (g i j),H,I,rfl,q⟩
def CDiv (i j:Int):Prop:=0 < j /\ j < 1073741824
def CPow (i j:Int):Prop:=0 <= j /\ j <= 1000000 /\ i.natAbs < 2 ^ 64
def CMul (i j:Int):Prop:=(-(2 ^ 64) < i /\ i < 2 ^ 64) \/ (-(2 ^ 64) < j /\ j < 2 ^ 64)
theorem CMul.ok {i j:Int} (h:CMul i j):IntMulOk i j:=by
 rcases h with ⟨h1,h2⟩ | ⟨h1,h2⟩
 ·exact .of_left (intBits_le_64 h1 h2)
 ·exact .of_right (intBits_le_64 h1 h2)
theorem bi:OpR X (binaryOp .Add) (rI0 fun i j=>.int (i + j)):=opI0 fun _ _ _ _ _ _ _ q=>add_int q
theorem dU:OpR X (binaryOp .Sub) (rI0 fun i j=>.int (i - j)):=opI0 fun _ _ _ _ _ _ _ q=>sub_int q
theorem gX:OpR X (binaryOp .Mult) (rI CMul fun i j=>.int (i * j)):=opI fun _ _ _ _ _ _ _ hc q=>mul_int q hc.ok
theorem op_fdiv:OpR X (binaryOp .FloorDiv) (rI CDiv fun i j=>.int (i / j)):=opI fun i j _ _ _ _ _ hc q=>by
 have h1:(0:Int) < j:=hc.1
 have h2:j < 1073741824:=hc.2
 exact floordiv_int (by lia) (by rw [Int.fdiv_eq_ediv_of_nonneg i (by lia)]; exact q) (.inl (PyProof.noPylong_small (by lia)))
theorem fT:OpR X (binaryOp .Mod) (rI (fun _ j=>0 < j) fun i j=>.int (i % j)):=opI fun i j _ _ _ _ _ hc q=>by
 have h1:(0:Int) < j:=hc
 exact mod_int' (by lia) (by rw [Int.fmod_eq_emod_of_nonneg i (by lia)]; exact q)
theorem kT:OpR X (binaryOp .Pow) (rI CPow fun i j=>.int (i ^ j.toNat)):=opI fun _ _ _ _ _ _ _ hc q=>pow_int_small hc.1 hc.2.1 hc.2.2 q
theorem unI {f:Value -> Sem Value} {g:Int -> Int}
  (rule:∀ (i:Int) (t:Tok) (s:Shared) (Q:Value -> Shared -> Prop) (E:Value -> Shared -> Prop),Q (.int (g i) s.toks) { s with toks:=s.toks + 1 } -> wpAny (model X.prog X.w) X.A (f (.int i t)) Q E s) :
  UnR X f (rU fun i=>.int (g i)):=by
 intro pins s σ H x v Q I rx h
 obtain ⟨i,rfl,q⟩:=h
 obtain ⟨t,rfl⟩:=rx
 exact rule i t s _ _ ⟨.int (g i),H,I.tok _,⟨_,rfl⟩,q⟩
theorem fU:UnR X (unaryOp .USub) (rU fun i=>.int (-i)):=unI fun _ _ _ _ _ q=>neg_int q
end
def scal:V -> V -> Bool
 | .non,.non=>true | .non,.int _=>true | .int _,.non=>true | .non,.bl _=>true | .bl _,.non=>true | .non,.str _=>true | .str _,.non=>true
 | .int _,.int _=>true | .bl _,.bl _=>true | .str _,.str _=>true | .byt _,.byt _=>true
 | .int _,.str _=>true | .str _,.int _=>true | .bl _,.str _=>true | .str _,.bl _=>true
 | _,_=>false
def rEq:R2:=fun x y H Q=>scal x y=true /\ Q (.bl (decide (x=y))) H
def rNe:R2:=fun x y H Q=>scal x y=true /\ Q (.bl (!decide (x=y))) H
theorem mo {i j:Int}:decide (V.int i=V.int j)=(i == j):=by
 rw [Bool.eq_iff_iff]
 simp
theorem pE {i j:Bool}:decide (V.bl i=V.bl j)=(i == j):=by
 rw [Bool.eq_iff_iff]
 simp
theorem gG {i j:Str}:decide (V.str i=V.str j)=(i == j):=by
 rw [Bool.eq_iff_iff]
 simp
theorem mq {i j:Array UInt8}:decide (V.byt i=V.byt j)=(i.toList == j.toList):=by
 rw [Bool.eq_iff_iff]
 cases i
 cases j
 simp
section
variable {X:Cx} {a b c:Expr} {ta tb tc:TE} {pos:Pos}
theorem aS {pins:List (Addr × Obj)} {σ:St} {H:Hp} {s:Shared} {Q:VK} {k k':Bool} (I:Inv X pins σ H s) (q:Q (.bl k) H) (e:k=k'):EP X pins σ Q (.bool k') s:=by
 subst e
 exact ⟨.bl k,H,I,rfl,q⟩
theorem bL:OpR X (compareOp .Eq) rEq:=by
 intro pins s σ H x y v u Q I rx ry h
 obtain ⟨hs,q⟩:=h
 cases x with
 | non =>
  cases rx
  cases y with
  | non=>cases ry; exact PySem.EqNone.eq_none_none (aS I q (by simp))
  | bl j=>cases ry; exact PySem.EqNone.eq_none_bool (aS I q (by simp))
  | int j=>obtain ⟨t',rfl⟩:=ry; exact PySem.EqNone.eq_none_int (aS I q (by simp))
  | str j=>obtain ⟨t',rfl⟩:=ry; exact PySem.EqNone.eq_none_str (aS I q (by simp))
  | _=>exact absurd (show false=true from hs) Bool.false_ne_true
 | bl i =>
  cases rx
  cases y with
  | non=>cases ry; exact PySem.EqNone.eq_bool_none (aS I q (by simp))
  | bl j=>cases ry; exact eq_bool (aS I q pE)
  | str j=>obtain ⟨t',rfl⟩:=ry; exact PySem.EqMixed.eq_bool_str (aS I q (by simp))
  | _=>exact absurd (show false=true from hs) Bool.false_ne_true
 | int i =>
  obtain ⟨t,rfl⟩:=rx
  cases y with
  | non=>cases ry; exact PySem.EqNone.eq_int_none (aS I q (by simp))
  | int j=>obtain ⟨t',rfl⟩:=ry; exact eq_int (aS I q mo)
  | str j=>obtain ⟨t',rfl⟩:=ry; exact PySem.EqMixed.eq_int_str (aS I q (by simp))
  | _=>exact absurd (show false=true from hs) Bool.false_ne_true
 | str i =>
  obtain ⟨t,rfl⟩:=rx
  cases y with
  | non=>cases ry; exact PySem.EqNone.eq_str_none (aS I q (by simp))
  | bl j=>cases ry; exact PySem.EqMixed.eq_str_bool (aS I q (by simp))
  | int j=>obtain ⟨t',rfl⟩:=ry; exact PySem.EqMixed.eq_str_int (aS I q (by simp))
  | str j=>obtain ⟨t',rfl⟩:=ry; exact eq_str (aS I q gG)
  | _=>exact absurd (show false=true from hs) Bool.false_ne_true
 | byt i =>
  obtain ⟨t,rfl⟩:=rx
  cases y with
  | byt j=>obtain ⟨t',rfl⟩:=ry; exact PySem.W.eq_bytes (aS I q mq)
  | _=>exact absurd (show false=true from hs) Bool.false_ne_true
 | _=>cases y <;> exact absurd (show false=true from hs) Bool.false_ne_true
theorem gY:OpR X (compareOp .NotEq) rNe:=by
 intro pins s σ H x y v u Q I rx ry h
 obtain ⟨hs,q⟩:=h
 cases x with
 | non =>
  cases rx
  cases y with
  | non=>cases ry; exact PySem.EqNone.ne_none_none (aS I q (by simp))
  | bl j=>cases ry; exact PySem.EqNone.ne_none_bool (aS I q (by simp))
  | int j=>obtain ⟨t',rfl⟩:=ry; exact PySem.EqNone.ne_none_int (aS I q (by simp))
  | str j=>obtain ⟨t',rfl⟩:=ry; exact PySem.EqNone.ne_none_str (aS I q (by simp))
  | _=>exact absurd (show false=true from hs) Bool.false_ne_true
 | bl i =>
  cases rx
  cases y with
  | non=>cases ry; exact PySem.EqNone.ne_bool_none (aS I q (by simp))
  | bl j=>cases ry; exact ne_bool (aS I q (congrArg not pE))
  | str j=>obtain ⟨t',rfl⟩:=ry; exact PySem.EqMixed.ne_bool_str (aS I q (by simp))
  | _=>exact absurd (show false=true from hs) Bool.false_ne_true
 | int i =>
  obtain ⟨t,rfl⟩:=rx
  cases y with
  | non=>cases ry; exact PySem.EqNone.ne_int_none (aS I q (by simp))
  | int j=>obtain ⟨t',rfl⟩:=ry; exact ne_int (aS I q (congrArg not mo))
  | str j=>obtain ⟨t',rfl⟩:=ry; exact PySem.EqMixed.ne_int_str (aS I q (by simp))
  | _=>exact absurd (show false=true from hs) Bool.false_ne_true
 | str i =>
  obtain ⟨t,rfl⟩:=rx
  cases y with
  | non=>cases ry; exact PySem.EqNone.ne_str_none (aS I q (by simp))
  | bl j=>cases ry; exact PySem.EqMixed.ne_str_bool (aS I q (by simp))
  | int j=>obtain ⟨t',rfl⟩:=ry; exact PySem.EqMixed.ne_str_int (aS I q (by simp))
  | str j=>obtain ⟨t',rfl⟩:=ry; exact ne_str (aS I q (congrArg not gG))
  | _=>exact absurd (show false=true from hs) Bool.false_ne_true
 | byt i =>
  obtain ⟨t,rfl⟩:=rx
  cases y with
  | byt j=>obtain ⟨t',rfl⟩:=ry; exact PySem.W.ne_bytes (aS I q (congrArg not mq))
  | _=>exact absurd (show false=true from hs) Bool.false_ne_true
 | _=>cases y <;> exact absurd (show false=true from hs) Bool.false_ne_true
theorem gr:OpR X (compareOp .Lt) (rI0 fun i j=>.bl (decide (i < j))):=opB0 fun _ _ _ _ _ _ _ q=>lt_int q
theorem pF:OpR X (compareOp .LtE) (rI0 fun i j=>.bl (decide (i <= j))):=opB0 fun _ _ _ _ _ _ _ q=>le_int q
theorem fz:OpR X (compareOp .Gt) (rI0 fun i j=>.bl (decide (j < i))):=opB0 fun _ _ _ _ _ _ _ q=>gt_int q
theorem op_ge:OpR X (compareOp .GtE) (rI0 fun i j=>.bl (decide (j <= i))):=opB0 fun _ _ _ _ _ _ _ q=>ge_int q
theorem nM:OpR X (compareOp .Lt) (fun x y H Q=>∃ i j,x=.str i /\ y=.str j /\ Q (.bl (decide (i.cps.toList < j.cps.toList))) H):=by
 intro pins s σ H x y v u Q I rx ry h
 obtain ⟨i,j,rfl,rfl,q⟩:=h
 obtain ⟨t,rfl⟩:=rx
 obtain ⟨t',rfl⟩:=ry
 exact lt_str (aS I q rfl)
theorem nP:OpR X (compareOp .In) (fun x y H Q=>∃ i j,x=.str i /\ y=.str j /\ Q (.bl (!(Builtin.Str.occurrences j i 0 j.length 1).isEmpty)) H):=by
 intro pins s σ H x y v u Q I rx ry h
 obtain ⟨i,j,rfl,rfl,q⟩:=h
 obtain ⟨t,rfl⟩:=rx
 obtain ⟨t',rfl⟩:=ry
 exact in_str (aS I q rfl)
theorem op_isN:OpR X (compareOp .Is) (fun x y H Q=>y=.non /\ Q (.bl (decide (x=.non))) H):=by
 intro pins s σ H x y v u Q I rx ry h
 obtain ⟨rfl,q⟩:=h
 cases ry
 refine is_none_gen (aS I q ?_)
 cases x <;> first
  | (cases rx; rfl)
  | (obtain ⟨t,rfl⟩:=rx; rfl)
theorem aB (b:Expr) {op:CmpOp} (h:op ≠ .In:=by decide) (h2:op ≠ .NotIn:=by decide):behindInMarks op b=false:=by
 have e1:(op == CmpOp.In)=false:=by cases op <;> first | rfl | exact absurd rfl h
 have e2:(op == CmpOp.NotIn)=false:=by cases op <;> first | rfl | exact absurd rfl h2
 cases b <;> simp [behindInMarks,e1,e2]
theorem ba {op:CmpOp} {r:R2} (ho:OpR X (compareOp op) r) (ha:PE X a ta) (hb:PE X b tb) (hm:behindInMarks op b=false):PE X (.Compare a [op] [b] pos) (tOp r ta tb):=by
 intro pins s σ H Q I h
 exact wpAny_Compare1 (binT ha hb I h fun v u s2 x y H2 I2 rx ry q=>ho pins s2 σ H2 x y v u Q I2 rx ry q) hm
def tTest (t:TE):TT:=fun σ H Q=>t σ H fun x H'=>∃ k,x=.bl k /\ Q k H'
theorem az {op:CmpOp} {r:R2} (ho:OpR X (compareOp op) r) (ha:PE X a ta) (hb:PE X b tb) (hm:behindInMarks op b=false):PT X (.Compare a [op] [b] pos) (tTest (tOp r ta tb)):=by
 intro pins s σ H Q I h
 refine wpAny_isTrue_Compare1 (thn (ha pins s σ H _ I h) fun v s1 ⟨x,H1,I1,r1,q1⟩=>thn (hb pins s1 σ H1 _ I1 q1) fun u s2 ⟨y,H2,I2,r2,q2⟩ =>
  thn (ho pins s2 σ H2 x y v u _ I2 r1 r2 q2) fun c s3 ⟨z,H3,I3,r3,k,e,q3⟩=>?_) hm
 subst e
 cases r3
 exact wpAny_truthy_bool ⟨H3,I3,q3⟩
def TruV (K:PySem.W.Frag) (x:V) (H:Hp) (k:Bool):Prop :=
 match x with
 | .non=>k=false
 | .bl b=>k=b
 | .int i=>k=(i != 0)
 | .str y=>y.length <= sizeLine /\ k=((y.length:Int) != 0)
 | .byt y=>y.size <= sizeLine /\ k=((y.size:Int) != 0)
 | .ref p=>(∃ xs,SqL K H p xs /\ k=!xs.isEmpty) \/ (∃ xs,SqT K H p xs /\ k=!xs.isEmpty) \/ ∃ kvs,H p=some (.dK kvs) /\ k=!kvs.isEmpty
 | _=>False
theorem kU {κ:Type} {kvs:List (κ × V)} {vs:List (κ × Value)} (r:KV kvs vs):(!vs.isEmpty)=!kvs.isEmpty:=by
 cases r <;> rfl
theorem gZ {xs:List V} {its:List Value} (r:aU xs its):(!its.toArray.isEmpty)=!xs.isEmpty:=by
 cases r <;> simp
theorem eZ:(sizeLine:Nat) < 2 ^ 63:=by rw [sizeLine_eq]; decide
theorem tru_ok:TruR X (fun x H Q=>∃ k,TruV X.K x H k /\ Q k H):=by
 intro pins s σ H x v Q I rx h
 obtain ⟨k,e,q⟩:=h
 have hl:=eZ
 have hs:sizeLine=16777216:=sizeLine_eq
 cases x with
 | non =>
  cases rx
  have e':k=false:=e
  subst e'
  exact truthy_none ⟨H,I,q⟩
 | bl b =>
  cases rx
  have e':k=b:=e
  subst e'
  exact wpAny_truthy_bool ⟨H,I,q⟩
 | int i =>
  obtain ⟨t,rfl⟩:=rx
  have e':k=(i != 0):=e
  subst e'
  exact PySem.P.truthy_int ⟨H,I,q⟩
 | str y =>
  obtain ⟨t,rfl⟩:=rx
  obtain ⟨hy,e'⟩:y.length <= sizeLine /\ k=((y.length:Int) != 0):=e
  subst e'
  exact PySem.P.truthy_str (by lia) ⟨H,I.tok _,q⟩
 | byt y =>
  obtain ⟨t,rfl⟩:=rx
  obtain ⟨hy,e'⟩:y.size <= sizeLine /\ k=((y.size:Int) != 0):=e
  subst e'
  exact PySem.W.truthy_bytes (by lia) ⟨H,I.tok _,q⟩
 | ref p =>
  cases rx
  have e':(∃ xs,SqL X.K H p xs /\ k=!xs.isEmpty) \/ (∃ xs,SqT X.K H p xs /\ k=!xs.isEmpty) \/ ∃ kvs,H p=some (.dK kvs) /\ k=!kvs.isEmpty:=e
  rcases e' with ⟨xs,hx,e'⟩ | ⟨xs,hx,e'⟩ | ⟨kvs,hx,e'⟩
  ·subst e'
   obtain ⟨its,r,pl,hz⟩:=I.list hx
   have hlen:=r.length
   exact wpAny_truthy_list pl.isList (by simp only [List.size_toArray]; lia) ⟨H,I.tok _,by rw [gZ r]; exact q⟩
  ·subst e'
   obtain ⟨its,r,pl,hz⟩:=I.tuple hx
   have hlen:=r.length
   exact truthy_tuple pl (by simp only [List.size_toArray]; lia) ⟨H,I.tok _,by rw [gZ r]; exact q⟩
  ·subst e'
   obtain ⟨hz,hS,vs,r,m⟩:kvs.length <= sizeLine /\ (p == sysModules)=false /\ ∃ vs,KV kvs vs /\ s.heap.DictOf (bB X.prog X.w) p vs:=I.hok p _ hx
   have hlen:kvs.length=vs.length:=Paired.length r
   exact wpAny_truthy_dict hS m (by lia) ⟨H,I.tok _,by rw [kU r]; exact q⟩
 | _=>exact (show False from e).elim
theorem fb:OpR X (binaryOp .Add) (fun x y H Q=>∃ i j,x=.str i /\ y=.str j /\ i.length + j.length <= sizeLine /\ Q (.str (i ++ j)) H):=by
 intro pins s σ H x y v u Q I rx ry h
 obtain ⟨i,j,rfl,rfl,hz,q⟩:=h
 obtain ⟨t,rfl⟩:=rx
 obtain ⟨t',rfl⟩:=ry
 exact add_str (fun t' tk=>⟨.str (i ++ j),H,I.tok _,⟨_,rfl⟩,q⟩) hz
theorem hG {x:V} {us:List Value} (r:aU [x] us):∃ u,us=[u] /\ aY x u:=by
 cases r with
 | cons r1 r2=>cases r2; exact ⟨_,rfl,r1⟩
theorem gt {x y:V} {us:List Value} (r:aU [x,y] us):∃ u w',us=[u,w'] /\ aY x u /\ aY y w':=by
 cases r with
 | cons r1 r2 =>
  cases r2 with
  | cons r3 r4=>cases r4; exact ⟨_,_,rfl,r1,r3⟩
theorem pG:cm X (.builtin "abs") (fun xs H Q=>∃ i,xs=[.int i] /\ Q (.int (if i < 0 then -i else i)) H):=by
 intro pins s σ H xs us Q I r h
 obtain ⟨i,rfl,q⟩:=h
 obtain ⟨u,rfl,t,rfl⟩:=hG r
 exact call_abs_int fun u tk=>⟨.int (if i < 0 then -i else i),H,I.tok _,⟨_,rfl⟩,q⟩
theorem iM (hc:X.calm=true):cm X (.builtin "max") (fun xs H Q=>∃ i j,xs=[.int i,.int j] /\ Q (.int (if j > i then j else i)) H):=by
 intro pins s σ H xs us Q I r h
 obtain ⟨i,j,rfl,q⟩:=h
 obtain ⟨u,w',rfl,⟨t,rfl⟩,⟨t',rfl⟩⟩:=gt r
 refine max_two_ints (I.ok.hd hc) fun h' tk k=>⟨_,H,I.kept k,?_,q⟩
 by_cases hj:j > i
 ·rw [if_pos hj,if_pos hj]; exact ⟨_,rfl⟩
 ·rw [if_neg hj,if_neg hj]; exact ⟨_,rfl⟩
theorem nQ (hc:X.calm=true):cm X (.builtin "min") (fun xs H Q=>∃ i j,xs=[.int i,.int j] /\ Q (.int (if j < i then j else i)) H):=by
 intro pins s σ H xs us Q I r h
 obtain ⟨i,j,rfl,q⟩:=h
 obtain ⟨u,w',rfl,⟨t,rfl⟩,⟨t',rfl⟩⟩:=gt r
 refine min_two_ints (I.ok.hd hc) fun h' tk k=>⟨_,H,I.kept k,?_,q⟩
 by_cases hj:j < i
 ·rw [if_pos hj,if_pos hj]; exact ⟨_,rfl⟩
 ·rw [if_neg hj,if_neg hj]; exact ⟨_,rfl⟩
end
structure kW (h:Heap) (x dx C:Addr) (mA:Str -> Option Value):Prop where
 obj:h.get? x=some (PySem.W.instObj C dx)
 ns:h.Ns1 dx mA
 ne:dx ≠ x
theorem nS {h:Heap} {dx:Addr} {mA:Str -> Option Value} (n:h.Ns1 dx mA):∃ od,h.get? dx=some od /\ ∀ name,PySem.W.lookIn name od=some (mA name):=by
 obtain ⟨o,es,ep,ho,hd,hk,_,hm⟩:=n
 refine ⟨o,ho,fun name=>?_⟩
 have e:=hm name
 unfold nsFind findBy at e
 rw [<- Array.find?_toList] at e
 unfold PySem.W.lookIn
 rw [hd]
 dsimp only
 split
 ·rename_i y q
  rw [q] at e
  exact congrArg some e
 ·rename_i q
  rw [q] at e
  have a:es.toList.any (·.refKey)=false:=by
   rw [List.any_eq_false]
   intro y hy
   obtain ⟨z,t,hkey⟩:=hk y (Array.mem_toList_iff.mp hy)
   simp [DictEntry.refKey,hkey]
  have a':¬ es.toList.any (·.refKey)=true:=by rw [a]; exact Bool.false_ne_true
  rw [if_neg a']
  exact congrArg some e
theorem kW.look {h:Heap} {x dx C:Addr} {mA:Str -> Option Value} (I:kW h x dx C mA):∃ od,PySem.W.InstAt h x (PySem.W.instObj C dx) C (some od) /\ ∀ name,PySem.W.lookIn name od=some (mA name) :=
 let ⟨od,ho,hl⟩:=nS I.ns
 ⟨od,⟨I.obj,rfl,rfl,ho⟩,hl⟩
section
variable {prog:Program} {w:World} {A:Around} {E:Value -> Shared -> Prop} {s:Shared} {K:PySem.W.Frag} {x dx C f:Addr} {mA:Str -> Option Value} {name:Str} {v:Value}
theorem get_map {expr:Bool} {Q:Value -> Shared -> Prop} (X:K.In s.heap) (I:kW s.heap x dx C mA) (hg:PySem.W.plainGet K C name=true) (hh:PySem.W.hasDictIn K C=true)
  (ha:PySem.W.findIn K (.ref C) name=some none) (hv:mA name=some v) (hv':PySem.W.handedIn v=true) (h:Q v { s with toks:=s.toks + 1 }) :
  wpAny (model prog w) A (getAttr (.ref x) name expr) Q E s:=by
 obtain ⟨od,J,hl⟩:=I.look
 exact PySem.W.get_value X J (PySem.W.plainGet_of hg).1 (PySem.W.findObj_own hh ha rfl (by rw [hl,hv])) hv' h
theorem pH {pl:Sem Bool} {Q:Value × List Value -> Shared -> Prop} (X:K.In s.heap) (I:kW s.heap x dx C mA) (hg:PySem.W.plainGet K C name=true)
  (hf:PySem.W.findIn K (.ref C) name=some (some (.ref f))) (ht:PySem.W.isFn K (.ref f)=true) (hv:mA name=none) (h:Q (.ref f,[.ref x]) s) :
  wpAny (model prog w) A (getMethod (.ref x) name pl) Q E s:=by
 obtain ⟨od,J,hl⟩:=I.look
 exact PySem.W.method_fn X J (PySem.W.plainGet_of hg).1 (PySem.W.plainGet_of hg).2 hf (beq_iff_eq.mp ht) (by show (PySem.W.lookIn name od).map (·.isSome)=some false; rw [hl,hv]; rfl) h
theorem set_map {ns:List Str} {Q:Unit -> Shared -> Prop} (X:K.In s.heap) (I:kW s.heap x dx C mA)
  (hs:PySem.W.findIn K (.ref C) "__setattr__"=some (some (.builtin "object.__setattr__"))) (hp:PySem.W.plainOver K C=true) (ht:PySem.W.takerIn K C name=some none) (hh:PySem.W.hasDictIn K C=true)
  (hw:PySem.Within mA ns) (hsz:ns.length <= sizeLine)
  (h:∀ h',kW h' x dx C (fun y=>if y=name then some v else mA y) -> Heap.SameBut dx s.heap h' -> Q () { s with heap:=h',toks:=s.toks + 2 }) :
  wpAny (model prog w) A (setAttr (.ref x) name v) Q E s:=by
 obtain ⟨od,J,hl⟩:=I.look
 refine PySem.W.set_plain X J hs (PySem.W.osa_open (s:={ s with toks:=s.toks + 1 }) (r:=none) X J hp ht fun b=>?_)
 obtain ⟨cd,hc,hd'⟩:=PySem.W.any_some hh
 have hx:s.heap.get? x=some ⟨.ref C,some dx,.plain,#[]⟩:=I.obj
 refine wpAny_bind (wpAny_pure (wpAny_bind (wpAny_bind (wpAny_loadPart hx (wpAny_bind (PySem.W.Looks.here (s:={ s with toks:=s.toks + 1 }) (PySem.W.looks_clsIn X hc) ?_))))))
 rw [hd']
 refine wpAny_pure (a:=some dx) (wpAny_bind (wpAny_pure (wpAny_bind ?_)))
 refine wpAny_nsSet1 (s:={ s with toks:=s.toks + 1 }) I.ns fun h' hn2 hs2=>?_
 obtain ⟨oD,esD,epD,hoD,hdD,hcD⟩:=hn2.count (PySem.Within.cons name v hw)
 refine wpAny_bind (wpAny_lookBehind hoD (by rw [hdD]; exact pastItsLine_dict (Nat.le_trans hcD (by rw [List.length_cons]; lia))) ?_)
 exact wpAny_pure (h _ ⟨(hs2.2 _ (Ne.symm I.ne)).trans I.obj,hn2,I.ne⟩ hs2)
theorem pI {R:Result -> Shared -> Prop} {vs:List Value} {kw:List (Str × Value)} (X:K.In s.heap) (hm:PySem.W.makesIn K C=true)
  (hi:PySem.W.findIn K (.ref C) "__init__"=some (some (.ref f))) (hf:PySem.W.typeIn K (.ref f)=some (.type "function"))
  (h:codeAny (model prog w) (A.under (.builtin "type.__call__" ⟨.ref C :: vs,kw⟩)) (.call (.ref f) ⟨.ref (s.heap.objs.size + 1) :: vs,kw⟩) (PySem.W.InitBack (s.heap.objs.size + 1) R)
   { s with heap:=(s.heap.push PySem.W.emptyDict).push (PySem.W.instObj C s.heap.objs.size) }) :
  codeAny (model prog w) A (.call (.ref C) ⟨vs,kw⟩) R s:=by
 obtain ⟨hh,g,d,t,os⟩:=s
 exact PySem.W.make_core (PySem.W.makes_of X hm) (PySem.W.looks_findIn X hi) (fun self=>PySem.W.bind_fn X self hf) (.inl rfl) h
end
def cV (f:Str) (v:V):List (Str × V) -> List (Str × V)
 | []=>[(f,v)]
 | (g,x) :: r=>if g=f then (g,v) :: r else (g,x) :: cV f v r
theorem bj (f g:Str) (v:V):∀ fs:List (Str × V),(cV f v fs).lookup g=if g=f then some v else fs.lookup g
 | []=>by
  show List.lookup g [(f,v)]=_
  by_cases h:g=f
  ·have hb:(g == f)=true:=beq_iff_eq.mpr h
   simp only [List.lookup,hb,if_pos h]
  ·have hb:(g == f)=false:=beq_eq_false_iff_ne.mpr h
   simp only [List.lookup,hb,if_neg h]
 | (k,x) :: r=>by
  have ih:=bj f g v r
  rw [show cV f v ((k,x) :: r)=(if k=f then (k,v) :: r else (k,x) :: cV f v r) from rfl]
  by_cases hk:k=f
  ·rw [if_pos hk]
   by_cases h:g=k
   ·have hb:(g == k)=true:=beq_iff_eq.mpr h
    simp only [List.lookup,hb,if_pos (h.trans hk)]
   ·have hb:(g == k)=false:=beq_eq_false_iff_ne.mpr h
    simp only [List.lookup,hb,if_neg (fun e:g=f=>h (e.trans hk.symm))]
  ·rw [if_neg hk]
   by_cases h:g=k
   ·have hb:(g == k)=true:=beq_iff_eq.mpr h
    simp only [List.lookup,hb,if_neg (fun e:g=f=>hk (h.symm.trans e))]
   ·have hb:(g == k)=false:=beq_eq_false_iff_ne.mpr h
    simp only [List.lookup,hb]
    exact ih
theorem fV (f:Str) (v:V):∀ fs:List (Str × V),f ∈ (cV f v fs).map (·.1) /\ ∀ g,g ∈ fs.map (·.1) -> g ∈ (cV f v fs).map (·.1)
 | []=>⟨by simp [cV],fun g h=>by simp at h⟩
 | (k,x) :: r=>by
  obtain ⟨i1,i2⟩:=fV f v r
  rw [show cV f v ((k,x) :: r)=(if k=f then (k,v) :: r else (k,x) :: cV f v r) from rfl]
  by_cases hk:k=f
  ·rw [if_pos hk]
   subst hk
   exact ⟨by simp,fun g h=>by simpa using h⟩
  ·rw [if_neg hk]
   refine ⟨?_,fun g h=>?_⟩
   ·rw [List.map_cons]
    exact List.mem_cons_of_mem _ i1
   ·rw [List.map_cons] at h ⊢
    rcases List.mem_cons.mp h with e | e
    ·exact List.mem_cons.mpr (.inl e)
    ·exact List.mem_cons_of_mem _ (i2 g e)
theorem gu (f:Str) (v:V):∀ fs:List (Str × V),(cV f v fs).length <= fs.length + 1
 | []=>by simp [cV]
 | (k,x) :: r=>by
  have ih:=gu f v r
  rw [show cV f v ((k,x) :: r)=(if k=f then (k,v) :: r else (k,x) :: cV f v r) from rfl]
  by_cases hk:k=f
  ·rw [if_pos hk,List.length_cons,List.length_cons]; lia
  ·rw [if_neg hk,List.length_cons,List.length_cons]; lia
theorem eV.some_of {v:V} {o:Option Value} (r:eV (some v) o):∃ u,o=some u /\ aY v u:=by
 cases o with
 | none=>exact (show False from r).elim
 | some u=>exact ⟨u,rfl,r⟩
theorem eV.none_of {o:Option Value} (r:eV none o):o=none:=by
 cases o with
 | none=>rfl
 | some u=>exact (show False from r).elim
theorem iN {v:V} {u:Value} (r:aY v u):PySem.W.handedIn u=true:=by
 cases v with
 | non=>cases (show u=Value.none from r); rfl
 | bl b=>cases (show u=Value.bool b from r); rfl
 | int i=>obtain ⟨t,e⟩:=(show ∃ t,u=Value.int i t from r); cases e; rfl
 | str x=>obtain ⟨t,e⟩:=(show ∃ t,u=Value.str x t from r); cases e; rfl
 | byt b=>obtain ⟨t,e⟩:=(show ∃ t,u=Value.bytes b t from r); cases e; rfl
 | flt b=>obtain ⟨t,e⟩:=(show ∃ t,u=Value.float b t from r); cases e; rfl
 | ref a=>cases (show u=Value.ref a from r); rfl
 | ty n=>cases (show u=Value.type n from r); rfl
section
variable {P:Program} {w:World} {H H':Hp} {h h':Heap} {a C dx:Addr} {fs fs':List (Str × V)}
theorem ju (hok:HOk P w H h) (e:H a=some (.ins C dx fs)):∃ mA,kW h a dx C mA /\ (∀ f,eV (fs.lookup f) (mA f)) /\ PySem.Within mA (fs.map (·.1)) /\ fs.length <= 1000 /\ H dx=some (.own a):=by
 obtain ⟨d,z,ne,ob,mA,n,r,q⟩:=(show bh P w H h a (.ins C dx fs) from hok a _ e)
 exact ⟨mA,⟨ob,n,ne⟩,r,q,z,d⟩
end
structure Cls (K:PySem.W.Frag) (C:Addr):Prop where
 pg:PySem.W.plainGet K C Str.empty=true
 hd:PySem.W.hasDictIn K C=true
 po:PySem.W.plainOver K C=true
 sa:PySem.W.findIn K (.ref C) "__setattr__"=some (some (.builtin "object.__setattr__"))
theorem Cls.get {K:PySem.W.Frag} {C:Addr} (c:Cls K C) (f:Str):PySem.W.plainGet K C f=true:=c.pg
def dB (K:PySem.W.Frag) (C:Addr) (f:Str):Prop:=PySem.W.findIn K (.ref C) f=some none
theorem dB.taker {K:PySem.W.Frag} {C:Addr} {f:Str} (n:dB K C f):PySem.W.takerIn K C f=some none:=by
 unfold PySem.W.takerIn
 rw [show PySem.W.findIn K (.ref C) f=some none from n]
 rfl
structure Meth (K:PySem.W.Frag) (C:Addr) (m:Str) (f:Addr):Prop where
 at_:PySem.W.findIn K (.ref C) m=some (some (.ref f))
 fn:PySem.W.isFn K (.ref f)=true
 kp:PySem.W.keepIn K (.ref f)=true
section
variable {X:Cx} {pins:List (Addr × Obj)} {σ:St} {H:Hp} {s:Shared} {a C dx:Addr} {fs:List (Str × V)} {f:Str} {v:V} {A:Around} {E:Value -> Shared -> Prop}
theorem kX {b:Bool} {Q:Value -> Shared -> Prop} (I:Inv X pins σ H s) (e:H a=some (.ins C dx fs)) (c:Cls X.K C) (n:dB X.K C f) (l:fs.lookup f=some v)
  (h:∀ u s',Inv X pins σ H s' -> aY v u -> Q u s'):wpAny (model X.prog X.w) A (getAttr (.ref a) f b) Q E s:=by
 obtain ⟨mA,O,r,_,_,_⟩:=ju I.hok e
 obtain ⟨u,hu,ru⟩:=eV.some_of (v:=v) (o:=mA f) (by rw [<- l]; exact r f)
 exact get_map I.kIn O (c.get f) c.hd n hu (iN ru) (h u _ (I.tok _) ru)
theorem kY {m:Str} {g:Addr} {pl:Sem Bool} {Q:Value × List Value -> Shared -> Prop} (I:Inv X pins σ H s) (e:H a=some (.ins C dx fs)) (c:Cls X.K C) (k:Meth X.K C m g) (l:fs.lookup m=none)
  (h:Q (.ref g,[.ref a]) s):wpAny (model X.prog X.w) A (getMethod (.ref a) m pl) Q E s:=by
 obtain ⟨mA,O,r,_,_,_⟩:=ju I.hok e
 have hn:mA m=none:=eV.none_of (by rw [<- l]; exact r m)
 exact pH I.kIn O (c.get m) k.at_ k.fn hn h
theorem kZ {y:V} {u:Value} {Q:Unit -> Shared -> Prop} (I:Inv X pins σ H s) (e:H a=some (.ins C dx fs)) (c:Cls X.K C) (n:dB X.K C f) (hl:fs.length < 1000) (ry:aY y u)
  (h:∀ s',Inv X pins σ (upd H a (.ins C dx (cV f y fs))) s' -> Q () s'):wpAny (model X.prog X.w) A (setAttr (.ref a) f u) Q E s:=by
 obtain ⟨mA,O,r,wi,_,ho⟩:=ju I.hok e
 have hz:(fs.map (·.1)).length <= sizeLine:=by rw [List.length_map,sizeLine_eq]; lia
 refine set_map I.kIn O c.sa c.po n.taker c.hd wi hz fun h' O' sb=>h _ ?_
 have hd:∃ o,h'.get? dx=some o:=let ⟨o,_,_,e',_⟩:=O'.ns; ⟨o,e'⟩
 refine I.write (x:=a) (e:=dx) (by rw [e]; exact True.intro) (.inr ho) (fun b q hb z=>(sb.2 b hb).trans z) hd ?_
 refine ⟨by rw [au O.ne]; exact ho,?_,O.ne,O'.obj,_,O'.ns,fun g=>?_,fun g hg=>?_⟩
 ·have:=gu f y fs; lia
 ·show eV ((cV f y fs).lookup g) (if g=f then some u else mA g)
  rw [bj]
  by_cases q:g=f
  ·rw [if_pos q,if_pos q]; exact ry
  ·rw [if_neg q,if_neg q]; exact r g
 ·by_cases q:g=f
  ·rw [q]; exact (fV f y fs).1
  ·refine (fV f y fs).2 g (wi g fun z=>hg ?_)
   show (if g=f then some u else mA g)=none
   rw [if_neg q]; exact z
theorem Inv.made (I:Inv X pins σ H s):Inv X pins σ (upd (upd H s.heap.objs.size (.own (s.heap.objs.size + 1))) (s.heap.objs.size + 1) (.ins C s.heap.objs.size []))
  { s with heap:=(s.heap.push PySem.W.emptyDict).push (PySem.W.instObj C s.heap.objs.size) }:=by
 have e1:(s.heap.push PySem.W.emptyDict).get? s.heap.objs.size=some PySem.W.emptyDict:=Heap.get?_push_size s.heap rfl
 have e2:((s.heap.push PySem.W.emptyDict).push (PySem.W.instObj C s.heap.objs.size)).get? (s.heap.objs.size + 1)=some (PySem.W.instObj C s.heap.objs.size):=by
  have:=Heap.get?_push_size (s.heap.push PySem.W.emptyDict) (o:=PySem.W.instObj C s.heap.objs.size) rfl
  rwa [Heap.size_push] at this
 have e3:(s.heap.push PySem.W.emptyDict).Ns s.heap.objs.size (fun _=>none):=⟨PySem.W.emptyDict,#[],_,e1,rfl,(fun e he=>absurd he (by simp)),fun _=>rfl⟩
 have I1:=I.laid (a:=s.heap.objs.size) (o:=.own (s.heap.objs.size + 1)) (h':=s.heap.push PySem.W.emptyDict) (t':=s.toks) (fun b u q=>Heap.get?_push_of_some _ q) (Nat.le_refl _) ⟨_,e1⟩
 refine I1.laid (a:=s.heap.objs.size + 1) (o:=.ins C s.heap.objs.size []) (t':=s.toks) (fun b u q=>Heap.get?_push_of_some _ q) (Nat.le_of_eq (Heap.size_push _ _)) ?_
 have ne:s.heap.objs.size ≠ s.heap.objs.size + 1:=Nat.ne_of_lt (Nat.lt_succ_self _)
 refine ⟨by rw [au ne,ar],Nat.zero_le _,ne,e2,fun _=>none,(Heap.Ns1.of_empty e3).at fun o q=>Heap.get?_push_of_some _ q,fun _=>True.intro,fun y hy=>absurd rfl hy⟩
theorem mr {prog:Program} {w:World} {env:Env} {e:Expr} {f:Str} {pos:Pos} {s:Shared} {Q:Value -> Shared -> Prop} (hb:attributeBase e f env (eval e env)=eval e env)
  (h:wpAny (model prog w) A (eval e env) (fun o s₁=>wpAny (model prog w) A (getAttr o f true) Q E s₁) E s):wpAny (model prog w) A (eval (.Attribute e f pos) env) Q E s :=
 Attribute_any_ h (by rw [arm_eval_Attribute,hb])
end
def tFld (K:PySem.W.Frag) (ta:TE) (f:Str):TE:=fun σ H Q=>ta σ H fun x H1=>∃ a C dx fs v,x=.ref a /\ H1 a=some (.ins C dx fs) /\ Cls K C /\ dB K C f /\ fs.lookup f=some v /\ Q v H1
def sFld (K:PySem.W.Frag) (ta tv:TE) (f:Str):TS:=fun D σ H=>tv σ H fun y H1=>ta σ H1 fun x H2=>∃ a C dx fs,x=.ref a /\ H2 a=some (.ins C dx fs) /\ Cls K C /\ dB K C f /\ fs.length < 1000 /\
 D.nx σ (upd H2 a (.ins C dx (cV f y fs)))
section
variable {X:Cx} {o e value:Expr} {f:Str} {pos pos' tpos:Pos} {ta tv:TE}
theorem cG (he:PE X e ta) (hb:attributeBase e f X.env (eval e X.env)=eval e X.env):PE X (.Attribute e f pos) (tFld X.K ta f):=by
 intro pins s σ H Q I h
 refine mr hb (thn (he pins s σ H _ I h) fun u s1 ⟨x,H1,I1,rx,a,C,dx,fs,v,ex,ea,c,n,l,q⟩=>?_)
 subst ex
 obtain rfl:u=Value.ref a:=rx
 exact kX I1 ea c n l fun u' s2 I2 ru=>⟨v,H1,I2,ru,q⟩
theorem jv (ha:PE X o ta) (hv:PE X value tv) (hs:swapsWith value (some (.Attribute o f pos')) pos.line X.env=pure false):PS X (.Assign [.Attribute o f pos'] value pos) (sFld X.K ta tv f):=by
 intro pins s σ H D I h
 refine plainObj_wpAny_Assign_Attribute (thn (hv pins s σ H _ I h) fun u s1 ⟨y,H1,I1,ry,q⟩=>thn (ha pins s1 σ H1 _ I1 q) fun ov s2 ⟨x,H2,I2,rx,a,C,dx,fs,ex,ea,c,n,l,q2⟩=>?_) hs
 subst ex
 obtain rfl:ov=Value.ref a:=rx
 exact kZ I2 ea c n l ry fun s3 I3=>⟨σ,_,I3,q2⟩
end
section
variable {X:Cx} {pins:List (Addr × Obj)} {σ:St} {H:Hp} {s:Shared} {A:Around} {E:Value -> Shared -> Prop} {Q:Value -> Shared -> Prop} {c:Value} {b:Bool}
end
structure aZ (k:Nat) (A:Around):Prop where
 hd:A.handled=none
 dp:A.depth + 3 * k + 5 < recursionLimit
 un:A.units + 16 * k + 200 < cLine
theorem aZ.mono {j k:Nat} {A:Around} (r:aZ k A) (h:j <= k):aZ j A:=⟨r.hd,by have:=r.dp; lia,by have:=r.un; lia⟩
theorem aZ.deeper {k:Nat} {A:Around} (r:aZ (k + 1) A) (env:Env):aZ k (A.deeper env) :=
 ⟨r.hd,by have:=r.dp; show A.depth + 1 + 3 * k + 5 < _; lia,by have:=r.un; show A.units + 3 + 16 * k + 200 < _; lia⟩
theorem lf {A:Around} {C:Addr} {us:List Value} {kw:List (Str × Value)}:(A.under (.builtin "type.__call__" ⟨.ref C :: us,kw⟩)).depth=A.depth + 1:=by
 first | rfl | simp [Around.under,Code.weight,Code.isCreation,Code.isGuard,Code.isCaller,Code.frames,Code.isFrame,guardIds]
theorem lh {A:Around} {C:Addr} {us:List Value} {kw:List (Str × Value)}:(A.under (.builtin "type.__call__" ⟨.ref C :: us,kw⟩)).units=A.units + 1:=by
 first | rfl | simp [Around.under,Code.cUnits,Code.frames,Code.isFrame]
theorem aZ.make {k:Nat} {A:Around} (r:aZ (k + 1) A) (C:Addr) (us:List Value) (kw:List (Str × Value)):aZ k (A.under (.builtin "type.__call__" ⟨.ref C :: us,kw⟩)) :=
 ⟨r.hd,by have:=r.dp; rw [lf]; lia,by have:=r.un; rw [lh]; lia⟩
theorem aZ.depth {k:Nat} {A:Around} (r:aZ k A):A.depth < recursionLimit:=by have:=r.dp; lia
theorem aZ.units {k:Nat} {A:Around} (r:aZ k A):A.units + 64 < cLine:=by have:=r.un; lia
def tNil:TA:=fun _ H Q=>Q [] H
def mt (ta:TE) (tr:TA):TA:=fun σ H Q=>ta σ H fun x H1=>tr σ H1 fun xs H2=>Q (x :: xs) H2
section
variable {X:Cx} {e:Expr} {es:List Expr} {te:TE} {t:TA} {pos:Pos}
theorem af:PA X [] tNil:=fun _ _ _ _ H Q I h=>Calls.spliced_nil ⟨[],H,I,.nil,h⟩
theorem ad (ha:PE X e te) (hr:PA X es t) (hs:starEach (e :: es) X.env=(false,eval e X.env) :: starEach es X.env:=by rfl):PA X (e :: es) (mt te t):=by
 intro pos pins s σ H Q I h
 rw [hs]
 show wpAny _ _ (spliced ((false,eval e X.env) :: backTo pos (starEach es X.env))) _ _ s
 refine Calls.spliced_cons (thn (ha pins s σ H _ I h) fun u s1 ⟨x,H1,I1,r1,q1⟩=>?_)
 exact thn (hr pos pins s1 σ H1 _ I1 q1) fun us s2 ⟨xs,H2,I2,r2,q2⟩=>⟨x :: xs,H2,I2,.cons r1 r2,q2⟩
end
abbrev Sp:=List V -> Hp -> VK -> XK -> Prop
abbrev CXT:=List Env -> Hp -> Shared -> XK -> Value -> Shared -> Prop
structure li (P:Program) (w:World) (K:PySem.W.Frag) (mg:Str -> Option Value) (base:Heap) (A:Around) (outer:List Env) (s:Shared) (H:Hp):Prop where
 frames:A.frames=some outer
 mod:Mod K mg base
 bs:∀ b o,base.get? b=some o -> s.heap.get? b=some o /\ H b=none
 bsz:base.objs.size <= s.heap.objs.size
 funs:s.heap.FunFrames base outer
 frf:∀ b ∈ frs outer,H b=none
 hok:HOk P w H s.heap
 bare:AllBare s.gens
def CE (outer:List Env) (P:Program) (w:World) (H:Hp) (s:Shared) (Q:VK) (u:Value) (s':Shared):Prop :=
 ∃ v H',s'.os=s.os /\ AllBare s'.gens /\ Un (frs outer) [] H H' s.heap s'.heap /\ HOk P w H' s'.heap /\ aY v u /\ Q v H'
def CR (CX:CXT) (outer:List Env) (P:Program) (w:World) (H:Hp) (s:Shared) (Q:VK) (E:XK) (r:Result) (s':Shared):Prop :=
 match r with
 | .ok (.ret u)=>CE outer P w H s Q u s'
 | .ok _=>False
 | .error e=>CX outer H s E e s'
structure a7 (P:Program) (w:World) (K:PySem.W.Frag) (mg:Str -> Option Value) (base:Heap) (CX:CXT) (k:Nat) (f:Addr) (fd:FuncData) (ps:List Str) (sp:Sp):Prop where
 len:∀ vs H Q E,sp vs H Q E -> vs.length=ps.length
 run:∀ (A:Around) (outer:List Env) (s:Shared) (H:Hp) (args:Args) (us:List Value) (vs:List V) (Q:VK) (E:XK),aZ k A -> li P w K mg base A outer s H -> BindsTo s fd args (ps.zip us) -> aU vs us -> sp vs H Q E ->
  codeAny (model P w) A (.call (.ref f) args) (CR CX outer P w H s Q E) s
theorem li.make {P:Program} {w:World} {K:PySem.W.Frag} {mg:Str -> Option Value} {base:Heap} {A:Around} {outer:List Env} {s:Shared} {H:Hp} (e:li P w K mg base A outer s H) (C:Addr) (us:List Value) (kw:List (Str × Value)) :
  li P w K mg base (A.under (.builtin "type.__call__" ⟨.ref C :: us,kw⟩)) outer s H:=⟨by first | exact e.frames | (simpa [Around.under,Code.envs,Code.isFrame,pushEnvs] using e.frames),e.mod,e.bs,e.bsz,e.funs,e.frf,e.hok,e.bare⟩
section
variable {X:Cx} {pins:List (Addr × Obj)} {σ:St} {H:Hp} {s s':Shared}
theorem Inv.env0 (I:Inv X pins σ H s):li X.prog X.w X.K X.mg X.base X.A X.stack s H :=
 ⟨I.ok.frames,I.ok.mod,I.bs,Nat.le_trans I.ok.bsz I.sz,I.stack,I.stkFree,I.hok,I.bare⟩
theorem Inv.after {Q:VK} {u:Value} (I:Inv X pins σ H s) (h:CE X.stack X.prog X.w H s Q u s'):EP X pins σ Q u s':=by
 obtain ⟨v,H',os,bare,un,hok,r,q⟩:=h
 obtain ⟨hh,g,d,t,os'⟩:=s'
 obtain rfl:os'=s.os:=os
 exact ⟨v,H',I.call (h':=hh) (g':=g) (d':=d) (t':=t) (ch:=[]) un hok bare (fun b z=>absurd z (by simp)),r,q⟩
end
def mv (sp:Sp) (dvs:List V) (E:XK) (t:TA):TE:=fun σ H Q=>t σ H fun vs H1=>sp (vs ++ dvs) H1 Q E
def tMeth (C:Addr) (m:Str) (sp:Sp) (dvs:List V) (E:XK) (ta:TE) (t:TA):TE:=fun σ H Q=>ta σ H fun x H1=>∃ a dx fs,x=.ref a /\ H1 a=some (.ins C dx fs) /\ fs.lookup m=none /\
 t σ H1 fun vs H2=>sp (x :: (vs ++ dvs)) H2 Q E
def tMake (C:Addr) (sp:Sp) (dvs:List V) (E:XK) (t:TA):TE:=fun σ H Q=>t σ H fun vs H1=>∀ x dx,H1 x=none -> H1 dx=none -> dx ≠ x ->
 sp (.ref x :: (vs ++ dvs)) (upd (upd H1 dx (.own x)) x (.ins C dx [])) (fun v H2=>v=.non /\ Q (.ref x) H2) E
def cQ (K:PySem.W.Frag) (fd:FuncData) (ps:List Str) (ds:List Value):Prop :=
 ∀ (s:Shared) (us:List Value),K.In s.heap -> (us ++ ds).length=ps.length -> BindsTo s fd ⟨us,[]⟩ (ps.zip (us ++ ds))
theorem cQ.all {K:PySem.W.Frag} {fd:FuncData} {ps:List Str} (h:∀ us:List Value,us.length=ps.length -> bindArgs fd ⟨us,[]⟩=pure (ps.zip us)):cQ K fd ps []:=fun s us _ hl=>by
 rw [List.append_nil] at hl ⊢
 exact .of_eq (h us hl)
def cS (CX:CXT) (X:Cx) (E:XK):Prop:=∀ (pins:List (Addr × Obj)) (σ:St) (H:Hp) (s:Shared) (e:Value) (s':Shared),Inv X pins σ H s -> CX X.stack H s E e s' -> X.xe e s'
section
variable {X:Cx} {CX:CXT} {k:Nat} {f C:Addr} {fd:FuncData} {ps:List Str} {sp:Sp} {dvs:List V} {ds:List Value} {E:XK} {x m:Str} {p pos apos:Pos} {e o:Expr} {es:List Expr} {ta:TE} {t:TA}
theorem pJ {pins:List (Addr × Obj)} {σ:St} {H:Hp} {s:Shared} {Q:VK} {us:List Value} {vs:List V} (F:a7 X.prog X.w X.K X.mg X.base CX k f fd ps sp) (hr:aZ k X.A) (hb:cQ X.K fd ps ds) (hd:aU dvs ds) (hx:cS CX X E)
  (I:Inv X pins σ H s) (r:aU vs us) (h:sp (vs ++ dvs) H Q E):wpAny (model X.prog X.w) X.A (call (.ref f) us) (EP X pins σ Q) X.xe s:=by
 have r2:aU (vs ++ dvs) (us ++ ds):=r.append hd
 have hl:(us ++ ds).length=ps.length:=by rw [<- r2.length]; exact F.len _ _ _ _ h
 refine wpAny_call (codeAny_mono (F.run X.A X.stack s H ⟨us,[]⟩ (us ++ ds) (vs ++ dvs) Q E hr I.env0 (hb s us I.kIn hl) r2 h) fun r s' hq=>?_)
 cases r with
 | error e=>exact hx pins σ H s e s' I hq
 | ok fl =>
  cases fl with
  | ret u=>exact I.after hq
  | next=>exact False.elim hq
  | brk=>exact False.elim hq
  | cont=>exact False.elim hq
theorem mw (F:a7 X.prog X.w X.K X.mg X.base CX k f fd ps sp) (hr:aZ k X.A) (hg:Gl X x) (hm:X.mg x=some (.ref f)) (hk:PySem.W.keepIn X.K (.ref f)=true) (hb:cQ X.K fd ps ds) (hd:aU dvs ds) (hx:cS CX X E)
  (ha:PA X (e :: es) t) (hdb:(x == ("__debug__":Str))=false:=by decide) (he:starEach (e :: es) X.env=(false,eval e X.env) :: starEach es X.env:=by rfl) (hpl:(backTo pos (starEach es X.env)).any (·.1)=false:=by rfl) :
  PE X (.Call (.Name x p) (e :: es) [] pos) (mv sp dvs E t):=by
 intro pins s σ H Q I h
 refine wpAny_Call_Name_kw (eJ I hg hm ?_ hdb)
 refine PySem.W.callWith_K (h₀:=X.base) I.ok.mod.kin hk (thn (ha pos pins s σ H _ I h) fun us s1 ⟨vs,H1,I1,r,q⟩=>⟨I1.kIn,?_⟩) he hpl
 exact pJ F hr hb hd hx I1 r q
theorem pe_meth {pl:Sem Bool} (he:PE X o ta) (c:Cls X.K C) (hm:Meth X.K C m f) (F:a7 X.prog X.w X.K X.mg X.base CX k f fd ps sp) (hr:aZ k X.A) (hb:cQ X.K fd ps ds) (hd:aU dvs ds) (hx:cS CX X E) (ha:PA X (e :: es) t)
  (hst:starEach (e :: es) X.env=(false,eval e X.env) :: starEach es X.env:=by rfl) (hpl:(backTo pos (starEach es X.env)).any (·.1)=false:=by rfl)
  (ht:eval (.Call (.Attribute o m apos) (e :: es) [] pos) X.env=(do
   let ov <- eval o X.env
   standAt apos.atName
   let (f,first) <- holding [ov] (getMethod ov m pl)
   callWith pos f first (backTo pos (starEach (e :: es) X.env)) (backToKw pos (keywordEach [] X.env))):=by rfl) :
  PE X (.Call (.Attribute o m apos) (e :: es) [] pos) (tMeth C m sp dvs E ta t):=by
 intro pins s σ H Q I h
 refine PySem.W.methodCall_KW (pl:=pl) (thn (he pins s σ H _ I h) fun u s1 ⟨x,H1,I1,rx,a,dx,fs,ex,ea,l,q⟩=>?_) ht
 subst ex
 obtain rfl:u=Value.ref a:=rx
 refine kY I1 ea c hm l ?_
 refine PySem.W.callWith_K (first:=[.ref a]) (h₀:=X.base) I.ok.mod.kin hm.kp (thn (ha pos pins s1 σ H1 _ I1 q) fun us s2 ⟨vs,H2,I2,r,q2⟩=>⟨I2.kIn,?_⟩) hst hpl
 exact pJ (us:=.ref a :: us) (vs:=.ref a :: vs) F hr hb hd hx I2 (.cons rfl r) q2
structure Mk (K:PySem.W.Frag) (C f:Addr):Prop where
 makes:PySem.W.makesIn K C=true
 init:PySem.W.findIn K (.ref C) "__init__"=some (some (.ref f))
 fn:PySem.W.isFn K (.ref f)=true
 kp:PySem.W.keepIn K (.ref C)=true
theorem pK {pins:List (Addr × Obj)} {σ:St} {H:Hp} {s:Shared} {Q:VK} {us:List Value} {vs:List V} (M:Mk X.K C f) (F:a7 X.prog X.w X.K X.mg X.base CX k f fd ps sp) (hr:aZ (k + 1) X.A) (hb:cQ X.K fd ps ds) (hd:aU dvs ds)
  (hx:cS CX X E) (I:Inv X pins σ H s) (r:aU vs us)
  (h:∀ x dx,H x=none -> H dx=none -> dx ≠ x -> sp (.ref x :: (vs ++ dvs)) (upd (upd H dx (.own x)) x (.ins C dx [])) (fun v H2=>v=.non /\ Q (.ref x) H2) E) :
  wpAny (model X.prog X.w) X.A (call (.ref C) us) (EP X pins σ Q) X.xe s:=by
 have hq:=h (s.heap.objs.size + 1) s.heap.objs.size (I.hok.fresh (Nat.le_succ _)) (I.hok.fresh (Nat.le_refl _)) (Nat.ne_of_lt (Nat.lt_succ_self _))
 have I2:=Inv.made (C:=C) I
 have r2:aU (V.ref (s.heap.objs.size + 1) :: (vs ++ dvs)) (Value.ref (s.heap.objs.size + 1) :: (us ++ ds)):=.cons rfl (r.append hd)
 have hl:(Value.ref (s.heap.objs.size + 1) :: us ++ ds).length=ps.length:=by
  have e:=r2.length
  rw [F.len _ _ _ _ hq] at e
  exact e.symm
 refine wpAny_call (pI (f:=f) I.kIn M.makes M.init (beq_iff_eq.mp M.fn) (codeAny_mono (F.run _ X.stack _ _ ⟨Value.ref (s.heap.objs.size + 1) :: us,[]⟩ (Value.ref (s.heap.objs.size + 1) :: (us ++ ds)) _ _ E (hr.make C us [])
  (I2.env0.make C us []) (hb _ (Value.ref (s.heap.objs.size + 1) :: us) I2.kIn hl) r2 hq) fun r s' hq'=>?_))
 cases r with
 | error e=>exact hx pins σ _ _ e s' I2 hq'
 | ok fl =>
  cases fl with
  | ret u =>
   obtain ⟨v,H',I3,rv,ev,q3⟩:=I2.after hq'
   subst ev
   exact ⟨rv,⟨V.ref (s.heap.objs.size + 1),H',I3,rfl,q3⟩⟩
  | next=>exact False.elim hq'
  | brk=>exact False.elim hq'
  | cont=>exact False.elim hq'
theorem pe_make (M:Mk X.K C f) (F:a7 X.prog X.w X.K X.mg X.base CX k f fd ps sp) (hr:aZ (k + 1) X.A) (hg:Gl X x) (hm:X.mg x=some (.ref C)) (hb:cQ X.K fd ps ds) (hd:aU dvs ds) (hx:cS CX X E)
  (ha:PA X (e :: es) t) (hdb:(x == ("__debug__":Str))=false:=by decide) (he:starEach (e :: es) X.env=(false,eval e X.env) :: starEach es X.env:=by rfl) (hpl:(backTo pos (starEach es X.env)).any (·.1)=false:=by rfl) :
  PE X (.Call (.Name x p) (e :: es) [] pos) (tMake C sp dvs E t):=by
 intro pins s σ H Q I h
 refine wpAny_Call_Name_kw (eJ I hg hm ?_ hdb)
 refine PySem.W.callWith_K (h₀:=X.base) I.ok.mod.kin M.kp (thn (ha pos pins s σ H _ I h) fun us s1 ⟨vs,H1,I1,r,q⟩=>⟨I1.kIn,?_⟩) he hpl
 exact pK M F hr hb hd hx I1 r q
end
section
variable {X:Cx} {CX:CXT} {k:Nat} {f C:Addr} {fd:FuncData} {ps ks:List Str} {sp:Sp} {E:XK} {x m:Str} {p pos apos kpos:Pos} {e o:Expr} {es:List Expr} {kws:List Keyword} {te ta:TE} {t tk:TA} {nm:Option Str}
variable {g:List Value -> List Value -> List Value} {gV:List V -> List V -> List V}
end
structure aH (N P:List Str) (sc:Scope):Prop where
 kind:sc.kind=.function
 co:sc.isCoroutine=false
 gen:sc.isGenerator=false
 nd:N.Nodup
 pre:N.take P.length=P
 par:∀ x ∈ P,sc.names.lookup x=some .local \/ sc.names.lookup x=some .cell
 nofree:∀ y ∈ sc.names,y.2 ≠ .free
theorem fsc {N P:List Str} {sc:Scope} (h:sc.kind=.function /\ sc.isCoroutine=false /\ sc.isGenerator=false /\ N.Nodup /\ N.take P.length=P /\ (∀ x ∈ P,sc.names.lookup x=some .local \/ sc.names.lookup x=some .cell) /\ ∀ y ∈ sc.names,y.2 ≠ .free):aH N P sc:=⟨h.1,h.2.1,h.2.2.1,h.2.2.2.1,h.2.2.2.2.1,h.2.2.2.2.2.1,h.2.2.2.2.2.2⟩
theorem iO {kindOf:Str -> Option NameKind} {x:Str}:∀ {binds:List (Str × Value)} {m:Str -> Option Value},(∀ v,(x,v) ∉ binds) -> bindL kindOf binds m x=m x
 | [],_,_=>rfl
 | (n,v) :: r,m,h=>by
  unfold bindL
  rw [iO fun w hw=>h w (List.mem_cons_of_mem _ hw)]
  split
  ·have:x ≠ n:=by rintro rfl; exact h v List.mem_cons_self
   simp [this]
  ·rfl
theorem iP {kindOf:Str -> Option NameKind} {x:Str}:∀ {binds:List (Str × Value)} {m:Str -> Option Value},(∀ v,(x,v) ∉ binds) -> bindC kindOf binds m x=m x
 | [],_,_=>rfl
 | (n,v) :: r,m,h=>by
  unfold bindC
  rw [iP fun w hw=>h w (List.mem_cons_of_mem _ hw)]
  split
  ·rfl
  ·have:x ≠ n:=by rintro rfl; exact h v List.mem_cons_self
   simp [this]
theorem iQ {kindOf:Str -> Option NameKind} {x:Str} {v:Value}:∀ {P:List Str} {vs:List Value} {i:Nat} {m:Str -> Option Value},P.Nodup -> P[i]?=some x -> vs[i]?=some v -> kindOf x=some .local ->
  bindL kindOf (P.zip vs) m x=some v
 | [],_,_,_,_,h,_,_=>by simp at h
 | _ :: _,[],_,_,_,_,h,_=>by simp at h
 | p :: P,w :: vs,0,m,nd,h1,h2,hk=>by
  simp at h1 h2; subst h1; subst h2
  show bindL kindOf ((p,w) :: P.zip vs) m p=_
  unfold bindL
  rw [iO fun v hv=>(List.nodup_cons.mp nd).1 (List.of_mem_zip hv).1,if_pos hk]
  simp
 | p :: P,w :: vs,i + 1,m,nd,h1,h2,hk=>by
  show bindL kindOf ((p,w) :: P.zip vs) m x=_
  unfold bindL
  exact iQ (i:=i) (List.nodup_cons.mp nd).2 (by simpa using h1) (by simpa using h2) hk
theorem iR {kindOf:Str -> Option NameKind} {x:Str} {v:Value}:∀ {P:List Str} {vs:List Value} {i:Nat} {m:Str -> Option Value},P.Nodup -> P[i]?=some x -> vs[i]?=some v -> kindOf x ≠ some .local ->
  bindC kindOf (P.zip vs) m x=some v
 | [],_,_,_,_,h,_,_=>by simp at h
 | _ :: _,[],_,_,_,_,h,_=>by simp at h
 | p :: P,w :: vs,0,m,nd,h1,h2,hk=>by
  simp at h1 h2; subst h1; subst h2
  show bindC kindOf ((p,w) :: P.zip vs) m p=_
  unfold bindC
  rw [iP fun v hv=>(List.nodup_cons.mp nd).1 (List.of_mem_zip hv).1,if_neg hk]
  simp
 | p :: P,w :: vs,i + 1,m,nd,h1,h2,hk=>by
  show bindC kindOf ((p,w) :: P.zip vs) m x=_
  unfold bindC
  exact iR (i:=i) (List.nodup_cons.mp nd).2 (by simpa using h1) (by simpa using h2) hk
def eX (N:List Str) (vs:List V):St:=vs.map some ++ List.replicate (N.length - vs.length) none
def eW (CX:CXT) (P:Program) (w:World) (K:PySem.W.Frag) (mg:Str -> Option Value) (base:Heap) (N:List Str) (qual:Str) (scope:Scope) (f:Addr) (cd:Value) (A:Around) (outer:List Env) (s:Shared) (H:Hp) (E:XK):Cx where
 prog:=P
 w:=w
 K:=K
 mg:=mg
 base:=base
 A:=A.deeper (envOfC qual scope s.heap.objs.size f cd)
 N:=N
 s₀:=s
 H₀:=H
 env:=envOfC qual scope s.heap.objs.size f cd
 outer:=outer
 stack:=envOfC qual scope s.heap.objs.size f cd :: outer
 ex:=[]
 calm:=true
 fn:=fun _=>true
 pn:=[]
 xe:=fun e s'=>wpAny (model P w) (A.deeper (envOfC qual scope s.heap.objs.size f cd)) (leaving (envOfC qual scope s.heap.objs.size f cd) e) (fun _ s''=>CX outer H s E e s'') (fun e' s''=>CX outer H s E e' s'') s'
theorem j5 {sc:Scope} {n:Nat} {x:Str} (h:sc.names.lookup x=some .cell):∃ c,(cellsFrom n sc.names []).lookup x=some c:=by
 have q:=PySem.W.cellsFrom_some sc.names n [] (.inl h)
 exact Option.isSome_iff_exists.mp q
theorem nU {CX:CXT} {P:Program} {w:World} {K:PySem.W.Frag} {mg:Str -> Option Value} {base:Heap} {N ps:List Str} {qual:Str} {scope:Scope} {f:Addr} {cd:Value} {A:Around} {outer:List Env} {s s1:Shared} {H:Hp} {E:XK} {us:List Value} {vs:List V}
  (S:aH N ps scope) (hd:A.handled=none) (e0:li P w K mg base A outer s H) (hl:vs.length=ps.length) (r:aU vs us)
  (x:InCallC s s.heap.objs.size (bindL (envOfC qual scope s.heap.objs.size f cd).kindOf (ps.zip us) fun _=>none) (cellsFrom (s.heap.objs.size + 1) scope.names []) (bindC (envOfC qual scope s.heap.objs.size f cd).kindOf (ps.zip us) fun _=>none) s1) :
  Inv (eW CX P w K mg base N qual scope f cd A outer s H E) [] (eX N vs) H s1:=by
 have hpl:ps.length <= N.length:=by have:=congrArg List.length S.pre; rw [List.length_take] at this; lia
 obtain ⟨h1,tk,rfl,hk⟩:=x.done
 have noA:∀ b:Addr,b ∉ (eW CX P w K mg base N qual scope f cd A outer s H E).ex:=fun b z=>absurd (show b ∈ ([]:List Addr) from z) (by simp)
 refine ⟨⟨e0.mod,S.kind,rfl,rfl,Nat.le_refl _,fun y z c h1 h2=>?_,fun y hy=>?_,fun y c _ h=>?_,fun _=>hd,Around.frames_deeper e0.frames,.inr ⟨rfl,rfl⟩,fun b z=>absurd z (noA b),e0.bs,e0.bsz,fun b _ _=>noA b,fun b z=>absurd z (noA b),e0.funs,e0.frf⟩,
  rfl,e0.bare,Un.kept hk,⟨_,x.toInCall.ns,fun i y v h1 h2 h3=>?_⟩,fun y c h=>⟨_,x.cell y c h⟩,e0.hok.fresh (Nat.le_refl _),fun y c h=>?_,fun p hp=>absurd (show p ∈ ([]:List (Addr × Obj)) from hp) (by simp),e0.hok.kept hk,?_⟩
 ·exact name_of_addr x.apart (PySem.mem_of_lookup h1) (PySem.mem_of_lookup h2)
 ·have hy:scope.names.lookup y=some .cell \/ scope.names.lookup y=some .free:=hy
  rcases hy with hy | hy
  ·exact j5 hy
  ·exact absurd rfl (S.nofree _ (PySem.mem_of_lookup hy))
 ·exact Nat.le_of_lt (x.above y c (PySem.mem_of_lookup h))
 ·have hi:i < vs.length:=by
   unfold eX at h2
   by_cases hi:i < vs.length
   ·exact hi
   ·rw [List.getElem?_append_right (by simpa using hi)] at h2
    rw [List.getElem?_replicate] at h2
    split at h2 <;> cases h2
  have ha:vs[i]?=some v:=by
   unfold eX at h2
   rw [List.getElem?_append_left (by simpa using hi),List.getElem?_map] at h2
   cases e:vs[i]? with
   | none=>rw [e] at h2; cases h2
   | some a=>rw [e] at h2; cases h2; rfl
  obtain ⟨u,hu,rv⟩:=r.get ha
  have hp:ps[i]?=some y:=by
   rw [<- S.pre,List.getElem?_take_of_lt (by lia)]; exact h1
  have ndP:ps.Nodup:=by rw [<- S.pre]; exact S.nd.sublist (List.take_sublist _ _)
  refine ⟨u,rv,?_⟩
  rcases S.par y (List.mem_of_getElem? hp) with k | k
  ·exact .inl ⟨k,iQ ndP hp hu k⟩
  ·obtain ⟨c,e⟩:=j5 (n:=s.heap.objs.size + 1) k
   refine .inr ⟨.inl k,c,e,?_⟩
   have q:=x.cell y c e
   rw [iR ndP hp hu (by show scope.names.lookup y ≠ _; rw [k]; decide)] at q
   exact q
 ·exact e0.hok.fresh (Nat.le_of_lt (x.above y c (PySem.mem_of_lookup h)))
 ·unfold eX
  show _=N.length
  rw [List.length_append,List.length_map,List.length_replicate]
  lia
theorem fn_of {CX:CXT} {P:Program} {w:World} {K:PySem.W.Frag} {mg:Str -> Option Value} {base:Heap} {k:Nat} {f:Addr} {name qual:Str} {params:Arguments} {body:List Stmt} {scope:Scope} {dV kV doc pm cdv ct oc:Value} {an od:Option Addr}
  {osl:Array (Option Value)} {N ps:List Str} {sp:Sp} (lk:K.lookup f=some ⟨oc,od,.func (PySem.W.fnOf name qual params body scope dV kV doc pm an cdv ct),osl⟩) (hcd:PySem.W.codeIn K cdv qual=true) (S:aH N ps scope)
  (len:∀ vs H Q E,sp vs H Q E -> vs.length=ps.length)
  (hbody:∀ (A:Around) (outer:List Env) (s:Shared) (H:Hp) (vs:List V) (Q:VK) (E:XK),aZ k (A.deeper (envOfC qual scope s.heap.objs.size f cdv)) -> sp vs H Q E ->
   ∃ t,PSs (eW CX P w K mg base N qual scope f cdv A outer s H E) body t /\ t { nx:=fun _ H'=>Q .non H',rt:=Q } (eX N vs) H) :
  a7 P w K mg base CX (k + 1) f (PySem.W.fnOf name qual params body scope dV kV doc pm an cdv ct) ps sp:=by
 refine ⟨len,fun A outer s H args us vs Q E hr e0 hb r hsp=>?_⟩
 have hl:=len _ _ _ _ hsp
 have KX:K.In s.heap:=e0.mod.kin.keeps fun b o e=>(e0.bs b o e).1
 have lim:s.heap.NoLimit:=e0.mod.nolimit.keeps fun b o e=>(e0.bs b o e).1
 have hkind:∀ y ∈ ps.zip us,scope.names.lookup y.1=some .local \/ (scope.names.lookup y.1=some .cell /\ ((cellsFrom (s.heap.objs.size + 1) scope.names []).lookup y.1).isSome=true):=fun ⟨n,v⟩ hy=>by
  rcases S.par n (List.of_mem_zip hy).1 with q | q
  ·exact .inl q
  ·exact .inr ⟨q,PySem.W.cellsFrom_some _ _ _ (.inl q)⟩
 refine codeAny_call_function hr.depth (KX _ _ lk) rfl S.co S.gen rfl (PySem.W.codeRec_of KX hcd) (hb _ _ _ _ ?_)
 refine wpAny_newFunctionEnv_cells S.kind hkind fun env he s1 x=>?_
 subst he
 refine ⟨lim.keeps x.toInCall.keep,codeAny_func ?_⟩
 obtain ⟨t,ht,hq⟩:=hbody A outer s H vs Q E (hr.deeper _) hsp
 have I:Inv (eW CX P w K mg base N qual scope f cdv A outer s H E) [] (eX N vs) H s1:=nU S hr.hd e0 hl r x
 refine wpAny_mono (ht [] s1 (eX N vs) H _ I hq) (fun fl s' hs=>?_) fun e s' hs=>hs
 have fin:∀ {σ':St} {H':Hp} {v:V} {u:Value},Inv (eW CX P w K mg base N qual scope f cdv A outer s H E) [] σ' H' s' -> aY v u -> Q v H' -> CE outer P w H s Q u s' :=
  fun {σ' H' v u} J rv q=>⟨v,H',J.os,J.bare,J.base,J.hok,rv,q⟩
 cases fl with
 | ret u =>
  obtain ⟨v,σ',H',J,rv,q⟩:=hs
  exact fin J rv q
 | next =>
  obtain ⟨σ',H',J,q⟩:=hs
  exact fin (v:=V.non) (u:=Value.none) J rfl q
 | brk =>
  obtain ⟨_,_,_,q⟩:=hs
  exact False.elim q
 | cont =>
  obtain ⟨_,_,_,q⟩:=hs
  exact False.elim q
section
variable {X:Cx} {x:Str} {p pos:Pos} {e:Expr} {es:List Expr} {t:TA} {id T:String} {r:List V -> Hp -> VK -> Prop}
def tCB (r:List V -> Hp -> VK -> Prop) (t:TA):TE:=fun σ H Q=>t σ H fun vs H1=>r vs H1 Q
theorem aq (hc:cm X (.builtin id) r) (hg:Gl X x) (hm:X.mg x=none) (hv:bootBuiltins x=some (.builtin id)) (ha:PA X (e :: es) t) (hn:x ≠ "__name__":=by decide) (hdb:(x == ("__debug__":Str))=false:=by decide)
  (he:starEach (e :: es) X.env=(false,eval e X.env) :: starEach es X.env:=by rfl) (hpl:(backTo pos (starEach es X.env)).any (·.1)=false:=by rfl):PE X (.Call (.Name x p) (e :: es) [] pos) (tCB r t):=by
 intro pins s σ H Q I h
 refine wpAny_Call_Name_kw (dR I hg hm hv ?_ hn hdb)
 exact PyProof.Rows.callWith_builtin1 (thn (ha pos pins s σ H _ I h) fun us s1 ⟨vs,H1,I1,r1,q1⟩=>hc pins s1 σ H1 vs us Q I1 r1 q1) he hpl
theorem dh (hc:cm X (.type T) r) (hg:Gl X x) (hm:X.mg x=none) (hv:bootBuiltins x=some (.type T)) (ha:PA X (e :: es) t) (hn:x ≠ "__name__":=by decide) (hdb:(x == ("__debug__":Str))=false:=by decide)
  (he:starEach (e :: es) X.env=(false,eval e X.env) :: starEach es X.env:=by rfl) (hpl:(backTo pos (starEach es X.env)).any (·.1)=false:=by rfl):PE X (.Call (.Name x p) (e :: es) [] pos) (tCB r t):=by
 intro pins s σ H Q I h
 refine wpAny_Call_Name_kw (dR I hg hm hv ?_ hn hdb)
 exact PyProof.Rows.callWith_type1 (thn (ha pos pins s σ H _ I h) fun us s1 ⟨vs,H1,I1,r1,q1⟩=>hc pins s1 σ H1 vs us Q I1 r1 q1) he hpl
end
section
variable {κ:Type} [DecidableEq κ]
def cD (kvs:List (κ × V)) (k:κ):Option V:=(kvs.find? fun kv=>decide (kv.1=k)).map (·.2)
def bZ (kvs:List (κ × V)) (k:κ) (v:V):List (κ × V) :=
 if (kvs.any fun kv=>decide (kv.1=k))=true then kvs.map (fun kv=>if kv.1=k then (kv.1,v) else kv) else kvs ++ [(k,v)]
theorem fA {p:κ × V} {r:List (κ × V)} {k:κ} (e:p.1=k):cD (p :: r) k=some p.2:=by simp [cD,List.find?_cons,e]
theorem hJ {p:κ × V} {r:List (κ × V)} {k:κ} (e:¬ p.1=k):cD (p :: r) k=cD r k:=by simp [cD,List.find?_cons,e]
theorem j6 (k:κ):∀ kvs:List (κ × V),(kvs.any fun kv=>decide (kv.1=k))=(cD kvs k).isSome
 | []=>rfl
 | p :: r=>by
  rw [List.any_cons]
  by_cases e:p.1=k
  ·simp only [fA e,decide_eq_true e,Bool.true_or,Option.isSome_some]
  ·rw [hJ e,decide_eq_false e,Bool.false_or]; exact j6 k r
theorem dW (kvs:List (κ × V)) (k:κ) (v:V):(bZ kvs k v).length <= kvs.length + 1:=by
 unfold bZ
 split
 ·rw [List.length_map]; lia
 ·rw [List.length_append,List.length_cons,List.length_nil]; lia
theorem eV.isSome_eq {o:Option V} {u:Option Value} (r:eV o u):o.isSome=u.isSome:=by
 cases o with
 | none=>cases u with
  | none=>rfl
  | some _=>exact (show False from r).elim
 | some _=>cases u with
  | none=>exact (show False from r).elim
  | some _=>rfl
theorem KV.val {kvs:List (κ × V)} {vs:List (κ × Value)} (r:KV kvs vs) (k:κ):eV (cD kvs k) (valueAt vs k):=by
 unfold KV at r
 induction r with
 | nil=>exact True.intro
 | @cons p q ps qs h t ih =>
  obtain ⟨h1,h2⟩:=h
  by_cases e:p.1=k
  ·have e':q.1=k:=h1.symm.trans e
   have b:valueAt (q :: qs) k=some q.2:=by simp [valueAt,List.find?_cons,e']
   rw [fA e,b]; exact h2
  ·have e':¬ q.1=k:=fun z=>e (h1.trans z)
   have b:valueAt (q :: qs) k=valueAt qs k:=by simp [valueAt,List.find?_cons,e']
   rw [hJ e,b]; exact ih
theorem KV.any {kvs:List (κ × V)} {vs:List (κ × Value)} (r:KV kvs vs) (k:κ):(kvs.any fun kv=>decide (kv.1=k))=vs.any fun kv=>decide (kv.1=k):=by
 unfold KV at r
 induction r with
 | nil=>rfl
 | cons h t ih=>rw [List.any_cons,List.any_cons,ih,h.1]
theorem KV.repl {kvs:List (κ × V)} {vs:List (κ × Value)} (r:KV kvs vs) (k:κ) {y:V} {u:Value} (ry:aY y u) :
  KV (kvs.map fun kv=>if kv.1=k then (kv.1,y) else kv) (vs.map fun kv=>if kv.1=k then (kv.1,u) else kv):=by
 unfold KV at r ⊢
 induction r with
 | nil=>exact .nil
 | @cons p q ps qs h t ih =>
  rw [List.map_cons,List.map_cons]
  refine .cons ?_ ih
  obtain ⟨h1,h2⟩:=h
  by_cases e:p.1=k
  ·rw [if_pos e,if_pos (h1.symm.trans e)]; exact ⟨h1,ry⟩
  ·rw [if_neg e,if_neg (fun z=>e (h1.trans z))]; exact ⟨h1,h2⟩
theorem KV.put {kvs:List (κ × V)} {vs:List (κ × Value)} (r:KV kvs vs) (k:κ) {y:V} {u:Value} (ry:aY y u):KV (bZ kvs k y) (stored vs k u):=by
 unfold bZ stored
 rw [r.any k]
 by_cases e:(vs.any fun kv=>decide (kv.1=k))=true
 ·rw [if_pos e,if_pos e]; exact r.repl k ry
 ·rw [if_neg e,if_neg e]; exact Paired.snoc r ⟨rfl,ry⟩
theorem KV.length {kvs:List (κ × V)} {vs:List (κ × Value)} (r:KV kvs vs):kvs.length=vs.length:=Paired.length r
end
theorem iS {P:Program} {w:World} {k:Key} {u:Value} (r:aY (kV k) u):(bB P w).is k u=true:=by
 cases k with
 | inl i=>obtain ⟨t,e⟩:=(show ∃ t,u=Value.int i t from r); subst e; exact jZ P w i t
 | inr x=>obtain ⟨t,e⟩:=(show ∃ t,u=Value.str x t from r); subst e; exact j2 P w x t
theorem iT {P:Program} {w:World}:∀ {ks:List Key} {us:List Value},aU (ks.map kV) us -> ItemsAre (bB P w) ks us
 | [],_,r=>by rw [List.map_nil] at r; cases r; exact .nil
 | k :: ks,_,r=>by
  rw [List.map_cons] at r
  cases r with
  | cons h t=>exact .cons (iS h) (iT t)
abbrev KT (H:Hp):List (List Key × V) -> List (List Key × Addr × Value) -> Prop:=Paired fun p q=>p.1=q.1 /\ H q.2.1=some (.tup (p.1.map kV)) /\ aY p.2 q.2.2
theorem KT.val {H:Hp} {kvs:List (List Key × V)} {xs:List (List Key × Addr × Value)} (r:KT H kvs xs) (k:List Key):eV (cD kvs k) ((atKey xs k).map (·.2)):=by
 induction r with
 | nil=>exact True.intro
 | @cons p q ps qs h t ih =>
  obtain ⟨h1,_,h2⟩:=h
  by_cases e:p.1=k
  ·have e':q.1=k:=h1.symm.trans e
   have b:atKey (q :: qs) k=some q.2:=by simp [atKey,List.find?_cons,e']
   rw [fA e,b]; exact h2
  ·have e':¬ q.1=k:=fun z=>e (h1.trans z)
   have b:atKey (q :: qs) k=atKey qs k:=by simp [atKey,List.find?_cons,e']
   rw [hJ e,b]; exact ih
theorem KT.repl {H:Hp} {kvs:List (List Key × V)} {xs:List (List Key × Addr × Value)} (r:KT H kvs xs) (k:List Key) {y:V} {u:Value} (ry:aY y u) :
  KT H (kvs.map fun kv=>if kv.1=k then (kv.1,y) else kv) (xs.map (putAt k u)):=by
 induction r with
 | nil=>exact .nil
 | @cons p q ps qs h t ih =>
  rw [List.map_cons,List.map_cons]
  refine .cons ?_ ih
  obtain ⟨h1,h2,h3⟩:=h
  unfold putAt
  by_cases e:p.1=k
  ·rw [if_pos e,if_pos (h1.symm.trans e)]; exact ⟨h1,h2,ry⟩
  ·rw [if_neg e,if_neg (fun z=>e (h1.trans z))]; exact ⟨h1,h2,h3⟩
theorem KT.put {H:Hp} {kvs:List (List Key × V)} {xs:List (List Key × Addr × Value)} (r:KT H kvs xs) (k:List Key) {b:Addr} {y:V} {u:Value} (hb:H b=some (.tup (k.map kV))) (ry:aY y u) :
  KT H (bZ kvs k y) (storedH xs k b u):=by
 have e:(kvs.any fun kv=>decide (kv.1=k))=(atKey xs k).isSome:=by
  rw [j6,(r.val k).isSome_eq,Option.isSome_map]
 unfold bZ storedH
 rw [e]
 by_cases q:(atKey xs k).isSome=true
 ·rw [if_pos q,if_pos q]; exact r.repl k ry
 ·rw [if_neg q,if_neg q]; exact Paired.snoc r ⟨rfl,hb,ry⟩
theorem KT.keeps {H H':Hp} {kvs:List (List Key × V)} {xs:List (List Key × Addr × Value)} (r:KT H kvs xs) (ht:∀ b ys,H b=some (.tup ys) -> H' b=some (.tup ys)):KT H' kvs xs :=
 Paired.mapP r fun _ _ z=>⟨z.1,ht _ _ z.2.1,z.2.2⟩
section
variable {P:Program} {w:World} {H:Hp} {h:Heap} {a:Addr}
theorem rd_of {u:HO} (ok:HOk P w H h) (e:Rd H a u):bh P w H h a u:=e.ok ok
theorem mx {kvs:List (Key × V)} (ok:HOk P w H h) (e:Rd H a (.dK kvs)):kvs.length <= sizeLine /\ (a == sysModules)=false /\ ∃ vs,KV kvs vs /\ h.DictOf (bB P w) a vs :=
 show bh P w H h a (.dK kvs) from rd_of ok e
theorem dk_of {kvs:List (Key × V)} (ok:HOk P w H h) (e:H a=some (.dK kvs)):kvs.length <= sizeLine /\ (a == sysModules)=false /\ ∃ vs,KV kvs vs /\ h.DictOf (bB P w) a vs:=mx ok (.inl e)
theorem jw {ks:List Key} (ok:HOk P w H h) (e:H a=some (.tup (ks.map kV))):(tupleKind (bB P w)).is h ks a:=by
 obtain ⟨_,its,r,o,h1,h2,n,h3⟩:=(show bh P w H h a (.tup (ks.map kV)) from ok a _ e)
 exact ⟨o,its.toArray,n,h1,h2,h3,by simpa using iT r⟩
theorem my {kvs:List (List Key × V)} (ok:HOk P w H h) (e:Rd H a (.dT kvs)):kvs.length <= sizeLine /\ (a == sysModules)=false /\
  ∃ xs,KT H kvs xs /\ h.DictOfH (tupleKind (bB P w)) a xs:=by
 obtain ⟨z,y,xs,r,o,es,ep,h1,h2,h3,h4,h5⟩:=(show bh P w H h a (.dT kvs) from rd_of ok e)
 refine ⟨z,y,xs,r,o,es,ep,h1,h2,h3,h4,fun x hx=>?_,h5⟩
 have all:∀ {l:List (List Key × V)} {m:List (List Key × Addr × Value)},KT H l m -> ∀ x ∈ m,(tupleKind (bB P w)).is h x.1 x.2.1:=by
  intro l m q
  induction q with
  | nil=>intro x hx; exact nomatch hx
  | @cons p q ps qs hq t ih =>
   intro x hx
   rcases List.mem_cons.mp hx with e | hx
   ·subst e
    exact jw ok (by rw [<- hq.1]; exact hq.2.1)
   ·exact ih x hx
 exact all r x hx
theorem dt_of {kvs:List (List Key × V)} (ok:HOk P w H h) (e:H a=some (.dT kvs)):kvs.length <= sizeLine /\ (a == sysModules)=false /\
  ∃ xs,KT H kvs xs /\ h.DictOfH (tupleKind (bB P w)) a xs:=my ok (.inl e)
end
def dX (H:Hp) (a:Addr) (y:V) (r:Option V):Prop :=
 (∃ kvs k,Rd H a (.dK kvs) /\ y=kV k /\ r=cD kvs k) \/ ∃ kvs k b,Rd H a (.dT kvs) /\ y=.ref b /\ H b=some (.tup (k.map kV)) /\ r=cD kvs k
def j7 (H:Hp) (a:Addr) (y v:V) (H':Hp):Prop :=
 (∃ kvs k,H a=some (.dK kvs) /\ y=kV k /\ kvs.length < sizeLine /\ H'=upd H a (.dK (bZ kvs k v))) \/
 ∃ kvs k b,H a=some (.dT kvs) /\ y=.ref b /\ H b=some (.tup (k.map kV)) /\ kvs.length < sizeLine /\ H'=upd H a (.dT (bZ kvs k v))
theorem dX.k {H:Hp} {a:Addr} {kvs:List (Key × V)} {k:Key} (e:H a=some (.dK kvs)):dX H a (kV k) (cD kvs k):=.inl ⟨kvs,k,.inl e,rfl,rfl⟩
theorem j7.k {H:Hp} {a:Addr} {kvs:List (Key × V)} {k:Key} {v:V} (e:H a=some (.dK kvs)) (hl:kvs.length < sizeLine):j7 H a (kV k) v (upd H a (.dK (bZ kvs k v))):=.inl ⟨kvs,k,e,rfl,hl,rfl⟩
section
variable {X:Cx} {pins:List (Addr × Obj)} {σ:St} {H:Hp} {s:Shared} {a:Addr} {y v:V} {u r:Value} {o:Option V} {A:Around} {E:Value -> Shared -> Prop}
theorem Inv.big (I:Inv X pins σ H s):sysModules < s.heap.objs.size:=by
 have h:mainGlobals < s.heap.objs.size:=(I.mod.glob.keeps I.bk).lt
 exact Nat.lt_trans (by decide) h
theorem nV {Q:Value -> Shared -> Prop} (hu:A.units + 1 < cLine) (I:Inv X pins σ H s) (g:dX H a y (some v)) (ry:aY y u) (h:∀ w' s',Inv X pins σ H s' -> aY v w' -> Q w' s') :
  wpAny (model X.prog X.w) A (getItem (.ref a) u) Q E s:=by
 rcases g with ⟨kvs,k,e,ey,l⟩ | ⟨kvs,k,b,e,ey,eb,l⟩
 ·subst ey
  obtain ⟨z,hd,vs,rel,dd⟩:=mx I.hok e
  obtain ⟨w',hw,rw'⟩:=eV.some_of (v:=v) (o:=valueAt vs k) (by rw [l]; exact rel.val k)
  exact wpAny_getItem_of (iS ry) dd.mapOf hw (h w' _ (I.tok _) rw')
 ·subst ey
  cases (show u=Value.ref b from ry)
  obtain ⟨z,hd,xs,rel,dd⟩:=my I.hok e
  obtain ⟨w',hw,rw'⟩:=eV.some_of (v:=v) (o:=(atKey xs k).map (·.2)) (by rw [l]; exact rel.val k)
  obtain ⟨p,hp,hp2⟩:=Option.map_eq_some_iff.mp hw
  refine wpAny_getItem_heap (tupleKind_room_in1 hu) (jw I.hok eb) dd hp ?_
  rw [hp2]
  exact h w' _ (I.tok _) rw'
theorem d_notIn {Q:Value -> Shared -> Prop} (hu:A.units + 1 < cLine) (I:Inv X pins σ H s) (g:dX H a y o) (ry:aY y u) (h:∀ s',Inv X pins σ H s' -> Q (.bool (!o.isSome)) s') :
  wpAny (model X.prog X.w) A (compareOp .NotIn u (.ref a)) Q E s:=by
 rcases g with ⟨kvs,k,e,ey,l⟩ | ⟨kvs,k,b,e,ey,eb,l⟩
 ·subst ey
  obtain ⟨z,hd,vs,rel,dd⟩:=mx I.hok e
  refine wpAny_notIn_of (iS ry) hd dd.mapOf ?_
  rw [<- (rel.val k).isSome_eq,<- l]
  exact h _ (I.tok _)
 ·subst ey
  cases (show u=Value.ref b from ry)
  obtain ⟨z,hd,xs,rel,dd⟩:=my I.hok e
  refine wpAny_notIn_heap (tupleKind_room_in1 hu) (jw I.hok eb) hd dd ?_
  have q:=(rel.val k).isSome_eq
  rw [Option.isSome_map] at q
  rw [<- q,<- l]
  exact h _ (I.tok _)
theorem jx {h':Heap} {t':Nat} {ob:HO} (I:Inv X pins σ H s) (mu:Mut (H a)) (hs:Heap.SameBut a s.heap h') (he:∃ q,h'.get? a=some q) (new:bh X.prog X.w (upd H a ob) h' a ob) :
  Inv X pins σ (upd H a ob) { s with heap:=h',toks:=t' } :=
 I.write (x:=a) (e:=a) mu (.inl rfl) (fun b q hb z=>(hs.2 b hb).trans z) he new
theorem pL {P:Program} {w:World} {H':Hp} {h':Heap} {kvs:List (Key × V)} {vs:List (Key × Value)} (z:kvs.length <= sizeLine) (hd:(a == sysModules)=false) (rel:KV kvs vs) (dd:h'.DictOf (bB P w) a vs) :
  bh P w H' h' a (.dK kvs):=⟨z,hd,vs,rel,dd⟩
theorem nW {H':Hp} {Q:Unit -> Shared -> Prop} (hu:A.units + 1 < cLine) (I:Inv X pins σ H s) (g:j7 H a y v H') (ry:aY y u) (rv:aY v r) (h:∀ s',Inv X pins σ H' s' -> Q () s') :
  wpAny (model X.prog X.w) A (setItem (.ref a) u r) Q E s:=by
 rcases g with ⟨kvs,k,e,ey,l,eH⟩ | ⟨kvs,k,b,e,ey,eb,l,eH⟩
 ·subst ey eH
  obtain ⟨z,hd,vs,rel,dd⟩:=dk_of I.hok e
  have hz:vs.length <= sizeLine:=by rw [<- rel.length]; exact z
  have hl:(bZ kvs k v).length <= sizeLine:=by have:=dW kvs k v; lia
  refine wpAny_setItem_pairs (hsz:=hz) (iS ry) dd fun h' dd' hs=>h _ ?_
  have he:∃ q,h'.get? a=some q:=let ⟨q,_,_,hq,_⟩:=dd'; ⟨q,hq⟩
  exact jx I (by rw [e]; exact True.intro) hs he (pL hl hd (rel.put k rv) dd')
 ·subst ey eH
  cases (show u=Value.ref b from ry)
  obtain ⟨z,hd,xs,rel,dd⟩:=dt_of I.hok e
  have hz:xs.length <= sizeLine:=by rw [<- Paired.length rel]; exact z
  have hl:(bZ kvs k v).length <= sizeLine:=by have:=dW kvs k v; lia
  refine wpAny_setItem_heap (hsz:=hz) (tupleKind_room_in1 hu) (jw I.hok eb) dd fun h' dd' hs=>h _ ?_
  obtain ⟨q,es,ep,hq,h2,h3,h4,_,h5⟩:=dd'
  refine jx I (by rw [e]; exact True.intro) hs ⟨q,hq⟩ ⟨hl,hd,_,(rel.put k eb rv).keeps fun c ys ec=>?_,q,es,ep,hq,h2,h3,h4,h5⟩
  rw [au (bp ec e (fun z=>nomatch z))]
  exact ec
end
section
variable {X:Cx} {pins:List (Addr × Obj)} {σ:St} {H:Hp} {s:Shared} {a:Addr} {kvs:List (Key × V)} {k:Key} {u:Value} {A:Around} {E:Value -> Shared -> Prop}
end
def NoSl (i:Expr):Prop:=∀ ov iv,subscripted i false ov iv=operate [ov,iv] (getItem ov iv)
theorem subD_of {prog:Program} {w:World} {A:Around} {E:Value -> Shared -> Prop} {s:Shared} {env:Env} {value slice:Expr} {pos:Pos} {T id:String} {Q:Value -> Shared -> Prop}
  (hl:typeLookup (.type T) "__getitem__"=pure (some (.builtin id))) (hs:NoSl slice)
  (h:wpAny (model prog w) A (eval value env) (fun o s₁=>wpAny (model prog w) A (eval slice env) (fun i s₂=>s₂.TypeIs o T /\ wpAny (model prog w) A (getItem o i) Q E s₂) E s₁) E s) :
  wpAny (model prog w) A (eval (.Subscript value slice pos) env) Q E s:=by
 refine Subscript_ (wpAny_mono h (fun o s₁ h₁=>wpAny_mono h₁ (fun i s₂ h₂=>?_) fun _ _ x=>x) fun _ _ x=>x)
 obtain ⟨hT,h₂⟩:=h₂
 unfold subscriptTail
 refine wpAny_bind ?_
 rw [getitemInPython_of_ne hT.not_modules]
 refine wpAny_bind (wpAny_specialOf hT hl ?_)
 have fin:wpAny (model prog w) A (subscripted slice false o i) (fun r s₃=>wpAny (model prog w) A (letTemporaryGo value o r >>= fun _=>pure r) Q E s₃) E s₂:=by
  rw [hs o i]
  exact wpAny_operating (wpAny_mono h₂ (fun r s₃ h₃=>wpAny_bind (wpAny_letTemporaryGo (wpAny_pure h₃))) fun _ _ x=>x)
 first
  | exact wpAny_pure (wpAny_bind fin)
  | exact wpAny_bind (wpAny_pure (wpAny_bind fin))
  | exact wpAny_bind fin
theorem j8 {X:Cx} {pins:List (Addr × Obj)} {σ:St} {H:Hp} {s:Shared} {a:Addr} {y:V} {o:Option V} (I:Inv X pins σ H s) (g:dX H a y o):s.TypeIs (.ref a) "dict":=by
 rcases g with ⟨kvs,k,e,_,_⟩ | ⟨kvs,k,b,e,_,_,_⟩
 ·obtain ⟨_,_,vs,_,dd⟩:=mx I.hok e
  exact dd.typeIs
 ·obtain ⟨_,_,xs,_,dd⟩:=my I.hok e
  exact dd.typeIs
def tDGet (td ty:TE):TE:=fun σ H Q=>td σ H fun x H1=>ty σ H1 fun y H2=>∃ a v,x=.ref a /\ dX H2 a y (some v) /\ Q v H2
def tDNotIn (ty td:TE):TE:=fun σ H Q=>ty σ H fun y H1=>td σ H1 fun x H2=>∃ a o,x=.ref a /\ dX H2 a y o /\ Q (.bl (!o.isSome)) H2
def sDPut (td ty tv:TE):TS:=fun D σ H=>tv σ H fun v H1=>td σ H1 fun x H2=>ty σ H2 fun y H3=>∃ a H4,x=.ref a /\ j7 H3 a y v H4 /\ D.nx σ H4
section
variable {X:Cx} {o i e value:Expr} {pos pos' tpos:Pos} {td ty tv:TE}
theorem bH (hu:X.A.units + 1 < cLine) (ho:PE X o td) (hi:PE X i ty) (hs:NoSl i):PE X (.Subscript o i pos) (tDGet td ty):=by
 intro pins s σ H Q I h
 refine subD_of PySem.F.slot_dict_getitem.lookup hs (thn (ho pins s σ H _ I h) fun u s1 ⟨x,H1,I1,rx,q1⟩=>thn (hi pins s1 σ H1 _ I1 q1) fun iv s2 ⟨y,H2,I2,ry,a,v,ex,g,q2⟩=>?_)
 subst ex
 obtain rfl:u=Value.ref a:=rx
 exact ⟨j8 I2 g,nV hu I2 g ry fun w' s3 I3 rw'=>⟨v,H2,I3,rw',q2⟩⟩
theorem iU (hu:X.A.units + 1 < cLine) (hi:PE X i ty) (ho:PE X o td):PC X .NotIn i o (tDNotIn ty td):=by
 intro pins s σ H Q I h
 refine thn (hi pins s σ H _ I h) fun iv s1 ⟨y,H1,I1,ry,q1⟩=>thn (ho pins s1 σ H1 _ I1 q1) fun u s2 ⟨x,H2,I2,rx,a,ov,ex,g,q2⟩=>?_
 subst ex
 obtain rfl:u=Value.ref a:=rx
 exact d_notIn hu I2 g ry fun s3 I3=>⟨.bl (!ov.isSome),H2,I3,rfl,q2⟩
theorem mz (hu:X.A.units + 1 < cLine) (ho:PE X o td) (hi:PE X i ty) (hv:PE X value tv) (hs:swapsWith value (some (.Subscript o i pos')) pos.line X.env=pure false) :
  PS X (.Assign [.Subscript o i pos'] value pos) (sDPut td ty tv):=by
 intro pins s σ H D I h
 refine wpAny_Assign_Subscript (thn (hv pins s σ H _ I h) fun r s1 ⟨v,H1,I1,rv,q1⟩=>thn (ho pins s1 σ H1 _ I1 q1) fun u s2 ⟨x,H2,I2,rx,q2⟩=>thn (hi pins s2 σ H2 _ I2 q2) fun iv s3 ⟨y,H3,I3,ry,a,H4,ex,g,q3⟩=>?_) hs
 subst ex
 obtain rfl:u=Value.ref a:=rx
 exact nW hu I3 g ry rv fun s4 I4=>⟨σ,H4,I4,q3⟩
end
theorem j9 {P:Program} {w:World} {H:Hp} (h:Heap) (hb:sysModules < h.objs.size):bh P w H (h.push { cls:=.type "dict",data:=.dict #[] }) h.objs.size (.dK []) :=
 ⟨Nat.zero_le _,beq_eq_false_iff_ne.mpr (Ne.symm (Nat.ne_of_lt hb)),[],.nil,Heap.DictOf.new h⟩
def tDNewK:TE:=fun _ H Q=>∀ p,H p=none -> Q (.ref p) (upd H p (.dK []))
section
variable {X:Cx} {pos:Pos}
theorem pM:PE X (.Dict [] [] pos) tDNewK:=fun pins s σ H Q I h =>
 wpAny_Dict_empty ⟨.ref s.heap.objs.size,_,I.laid (a:=s.heap.objs.size) (o:=.dK []) (t':=s.toks) (fun _ _ q=>Heap.get?_push_of_some _ q) (Nat.le_refl _) (j9 s.heap I.big),rfl,h _ (I.hok.fresh (Nat.le_refl _))⟩
end
def lj:List (TE × TE) -> St -> Hp -> (List (V × V) -> Hp -> Prop) -> Prop
 | [],_,H,Q=>Q [] H
 | (tk,tv) :: r,σ,H,Q=>tk σ H fun x H1=>tv σ H1 fun y H2=>lj r σ H2 fun ps H3=>Q ((x,y) :: ps) H3
abbrev VV:List (V × V) -> List (Value × Value) -> Prop:=Paired fun p q=>aY p.1 q.1 /\ aY p.2 q.2
def PPs (X:Cx) (pos:Pos) (keys:List (Option Expr)) (values:List Expr) (trs:List (TE × TE)):Prop :=
 ∀ (pins:List (Addr × Obj)) (s:Shared) (σ:St) (H:Hp) (Q:List (V × V) -> Hp -> Prop),Inv X pins σ H s -> lj trs σ H Q ->
  wpAny (model X.prog X.w) X.A (evalPairs (pairTrees keys values X.env pos)) (fun vs s'=>∃ ps H',Inv X pins σ H' s' /\ VV ps vs /\ Q ps H') X.xe s
theorem pps_nil {X:Cx} {pos:Pos}:PPs X pos [] [] []:=fun pins s σ H Q I h=>pairTrees_nil_walk ⟨[],H,I,.nil,h⟩
theorem hU {X:Cx} {pos:Pos} {k v:Expr} {ks:List (Option Expr)} {vs:List Expr} {tk tv:TE} {trs:List (TE × TE)} (hk:PE X k tk) (hv:PE X v tv) (hr:PPs X pos ks vs trs) :
  PPs X pos (some k :: ks) (v :: vs) ((tk,tv) :: trs):=fun pins s σ H Q I h =>
 pairTrees_cons_walk (thn (hk pins s σ H _ I h) fun u s1 ⟨x,H1,I1,rx,q1⟩=>thn (hv pins s1 σ H1 _ I1 q1) fun w2 s2 ⟨y,H2,I2,ry,q2⟩ =>
  thn (hr pins s2 σ H2 _ I2 q2) fun ws s3 ⟨ps,H3,I3,rel,q3⟩=>⟨(x,y) :: ps,H3,I3,.cons ⟨rx,ry⟩ rel,q3⟩)
def dC (kvs more:List (Key × V)):List (Key × V):=more.foldl (fun acc kv=>bZ acc kv.1 kv.2) kvs
theorem KV.merge:∀ {more:List (Key × V)} {rs:List (Key × Value)} {kvs:List (Key × V)} {vs:List (Key × Value)},KV more rs -> KV kvs vs -> KV (dC kvs more) (merged vs rs):=by
 intro more rs kvs vs r
 unfold KV at r
 induction r generalizing kvs vs with
 | nil=>intro q; exact q
 | @cons p q ps qs h t ih =>
  intro r0
  have e:KV (bZ kvs p.1 p.2) (stored vs q.1 q.2):=by
   have:=r0.put p.1 h.2
   rw [<- h.1]; exact this
  exact ih e
theorem eY:∀ (more kvs:List (Key × V)),(dC kvs more).length <= kvs.length + more.length
 | [],kvs=>by show kvs.length <= kvs.length + 0; lia
 | p :: r,kvs=>by
  have h1:=eY r (bZ kvs p.1 p.2)
  have h2:=dW kvs p.1 p.2
  show (dC (bZ kvs p.1 p.2) r).length <= _
  rw [List.length_cons]; lia
theorem hZ {P:Program} {w:World}:∀ {kvs:List (Key × V)} {ws:List (Value × Value)},VV (kvs.map fun kv=>(kV kv.1,kv.2)) ws -> ∃ rs,Carries (bB P w) ws rs /\ KV kvs rs
 | [],_,r=>by rw [List.map_nil] at r; cases r; exact ⟨[],True.intro,.nil⟩
 | p :: kvs,_,r=>by
  rw [List.map_cons] at r
  cases r with
  | @cons a b as bs h t =>
   obtain ⟨rs,c,q⟩:=hZ (P:=P) (w:=w) t
   obtain ⟨b1,b2⟩:=b
   exact ⟨(p.1,b2) :: rs,⟨iS h.1,rfl,c⟩,.cons ⟨rfl,h.2⟩ q⟩
def tDisp (trs:List (TE × TE)):TE:=fun σ H Q=>∀ p,H p=none -> lj trs σ (upd H p (.dK [])) fun ps H2=>H2 p=some (.dK []) /\ ∃ kvs:List (Key × V),ps=kvs.map (fun kv=>(kV kv.1,kv.2)) /\ kvs.length <= 15 /\ Q (.ref p) (upd H2 p (.dK (dC [] kvs)))
theorem pe_disp {X:Cx} {pos:Pos} {keys:List (Option Expr)} {values:List Expr} {trs:List (TE × TE)} (h:PPs X pos keys values trs) (hall:keys.all (·.isSome)=true) (hl:keys.length=values.length) (h0:keys ≠ [])
  (h15:keys.length <= 15):PE X (.Dict keys values pos) (tDisp trs):=by
 intro pins s σ H Q I q
 have hn:=I.hok.fresh (Nat.le_refl s.heap.objs.size)
 have I1:=I.laid (a:=s.heap.objs.size) (o:=.dK []) (h':=s.heap.push { cls:=.type "dict",data:=.dict #[] }) (t':=s.toks) (fun _ _ q=>Heap.get?_push_of_some _ q) (Nat.le_refl _) (j9 s.heap I.big)
 refine wpAny_Dict_walk (knd:=bB X.prog X.w) hall hl h0 h15 (thn (h pins _ σ _ _ I1 (q _ hn)) fun ws s2 ⟨ps,H2,I2,rel,e,kvs,ep,lk,q2⟩=>?_)
 subst ep
 obtain ⟨rs,c,rk⟩:=hZ (P:=X.prog) (w:=X.w) rel
 obtain ⟨z,hd,vs0,r0,dd⟩:=dk_of I2.hok e
 cases r0
 refine ⟨rs,c,dd,fun h' dd' hs=>⟨.ref s.heap.objs.size,_,?_,rfl,q2⟩⟩
 have hz:(dC [] kvs).length <= sizeLine:=by
  have h1:=eY kvs []
  rw [List.length_nil] at h1
  rw [sizeLine_eq]; lia
 have he:∃ q,h'.get? s.heap.objs.size=some q:=let ⟨q,_,_,hq,_⟩:=dd'; ⟨q,hq⟩
 exact jx I2 (by rw [e]; exact True.intro) hs he (pL hz hd (rk.merge .nil) dd')
section
variable {X:Cx} {pins:List (Addr × Obj)} {σ:St} {H:Hp} {s:Shared} {a:Addr} {y d:V} {u r:Value} {o:Option V} {A:Around} {E:Value -> Shared -> Prop}
end
section
variable {X:Cx} {o e f:Expr} {apos cpos:Pos} {td ty tx:TE}
end
section
variable {X:Cx} {pins:List (Addr × Obj)} {σ:St} {H:Hp} {s:Shared} {a:Addr} {kvs:List (Key × V)} {A:Around} {E:Value -> Shared -> Prop}
end
section
variable {X:Cx} {pins:List (Addr × Obj)} {σ:St} {H:Hp} {s:Shared} {a:Addr} {y:V} {u:Value} {A:Around} {E:Value -> Shared -> Prop}
end
end L2
namespace HT
open PySem PyProof.Rows
section
open PySem.SeqAt
open PySem.AutoSeq1 (wpAny_loadPart')
open PySem.MeetsSeq PySem.MeetsSeq2 PySem.MeetsSeq3
end
section
variable {prog:Program} {w:World} {A:Around} {E:Value -> Shared -> Prop} {s:Shared}
theorem cat_tup {t b:Addr} {vs ws:List Value} {Q:Value -> Shared -> Prop} (ht:IsTup s.heap t vs.toArray) (hb:IsTup s.heap b ws.toArray) (hv:vs ≠ [])
  (h1:ws=[] -> Q (.ref t) s) (h2:ws ≠ [] -> Q (.ref s.heap.objs.size) { s with heap:=s.heap.push { cls:=.type "tuple",data:=.seq (vs ++ ws).toArray } })
  (hsz:vs.length + ws.length <= sizeLine):wpAny (model prog w) A (binaryOp .Add (.ref t) (.ref b)) Q E s:=by
 obtain ⟨⟨cls,dd,data,sl⟩,ho,hc,n,hd⟩:=id ht
 obtain ⟨⟨cls2,dd2,data2,sl2⟩,ho2,hc2,n2,hd2⟩:=id hb
 simp only at hc hd hc2 hd2
 subst hc hd hc2 hd2
 have e:vs.toArray ++ ws.toArray=(vs ++ ws).toArray:=by simp
 by_cases hw:ws=[]
 ·exact concat_meets ⟨_,ho,rfl⟩ ⟨_,ho2,rfl⟩ noFill_tuple_add seq_tuple_add PySem.F.slot_tuple_add PySem.F.entry_tuple_add (PySem.F.args_tuple_add_2 _ _)
   (tuple_addW1 t b vs.toArray ws.toArray n n2 dd dd2 sl sl2 (by simpa using hv) (by simp [hw])) ⟨ho,ho2,h1 hw⟩
 ·refine concat_meets ⟨_,ho,rfl⟩ ⟨_,ho2,rfl⟩ noFill_tuple_add seq_tuple_add PySem.F.slot_tuple_add PySem.F.entry_tuple_add (PySem.F.args_tuple_add_2 _ _)
   (tuple_addW2 t b vs.toArray ws.toArray n n2 dd dd2 sl sl2 (by simpa using hv) (by simpa using hw) (by rw [List.size_toArray,List.size_toArray]; exact hsz)) ⟨ho,ho2,?_⟩
  rw [e]
  exact h2 hw
def sIx (n d:Nat):Option Int -> Nat
 | none=>d
 | some v=>if v < 0 then (v + (n:Int)).toNat else min v.toNat n
theorem dY (n d:Nat):sIx n d none=d:=rfl
theorem dD (n d k:Nat):sIx n d (some (k:Int))=min k n:=by
 show (if (k:Int) < 0 then ((k:Int) + (n:Int)).toNat else min (k:Int).toNat n)=min k n
 rw [if_neg (by lia),Int.toNat_natCast]
theorem sIx_le (n d:Nat) (hd:d <= n) (o:Option Int):sIx n d o <= n:=by
 cases o with
 | none=>exact hd
 | some v =>
  show (if v < 0 then (v + (n:Int)).toNat else min v.toNat n) <= n
  by_cases hv:v < 0
  ·rw [if_pos hv]; lia
  ·rw [if_neg hv]; exact Nat.min_le_right _ _
theorem mB (v:Int) (n d:Nat):(if v < 0 then max (v + (n:Int)) 0 else min v (n:Int))=((sIx n d (some v):Nat):Int):=by
 show (if v < 0 then max (v + (n:Int)) 0 else min v (n:Int))=(((if v < 0 then (v + (n:Int)).toNat else min v.toNat n):Nat):Int)
 by_cases hv:v < 0
 ·simp only [if_pos hv]; lia
 ·simp only [if_neg hv]; lia
theorem lm (lo hi:Option Int) (n:Nat):Builtin.Slice.sliceAdjust lo hi 1 (n:Int)=(((sIx n 0 lo:Nat):Int),((sIx n n hi:Nat):Int)):=by
 have h1:¬ ((1:Int) < 0):=by lia
 unfold Builtin.Slice.sliceAdjust
 simp only [h1,if_false]
 refine Prod.ext ?_ ?_
 ·cases lo with
  | none=>rfl
  | some v=>exact mB v n 0
 ·cases hi with
  | none=>rfl
  | some v=>exact mB v n n
theorem lq (i j:Nat):Builtin.Slice.slicePlaces (i:Int) (j:Int) 1=j - i:=by
 unfold Builtin.Slice.slicePlaces
 have h1:(1:Int) > 0:=by lia
 simp only [h1,if_true,Int.ediv_one]
 split <;> lia
theorem ia {v:Value} {o:Option Int} {Q:Option Int -> Shared -> Prop} (p:IsPart v o) (h:Q o s):wpAny (model prog w) A (Builtin.Slice.slicePartIndex v) Q E s:=by
 cases p with
 | none=>exact slicePart_none h
 | int i t=>exact slicePart_int h
theorem di {sl:Addr} {vl vu:Value} {lo hi:Option Int} {n:Nat} {Q:Int × Int × Nat -> Shared -> Prop} (hs:s.heap.IsSliceOf sl vl vu .none) (pl:IsPart vl lo) (pu:IsPart vu hi)
  (h:Q (((sIx n 0 lo:Nat):Int),1,sIx n n hi - sIx n 0 lo) s):wpAny (model prog w) A (Builtin.Slice.sliceApplied (.ref sl) (pure (n:Int))) Q E s:=by
 obtain ⟨os,hos,hcs,hds⟩:=id hs
 unfold Builtin.Slice.sliceApplied Builtin.Slice.sliceFields
 refine wpAny_bind (wpAny_bind (wpAny_field hos hds (x:=vl) rfl (wpAny_bind (wpAny_field hos hds (x:=vu) rfl (wpAny_bind (wpAny_field hos hds (x:=.none) rfl (wpAny_pure ?_)))))))
 refine wpAny_bind (slicePart_none ?_)
 show wpAny _ _ (if ((1:Int) == 0)=true then _ else _) _ _ s
 rw [if_neg (by decide)]
 refine wpAny_bind (ia pl (wpAny_bind (ia pu (wpAny_bind (wpAny_pure ?_)))))
 show wpAny _ _ (match Builtin.Slice.sliceAdjust lo hi 1 (n:Int) with | (lo,hi)=>pure (lo,(1:Int),Builtin.Slice.slicePlaces lo hi 1)) _ _ s
 rw [lm lo hi n]
 show wpAny _ _ (pure (((sIx n 0 lo:Nat):Int),(1:Int),Builtin.Slice.slicePlaces ((sIx n 0 lo:Nat):Int) ((sIx n n hi:Nat):Int) 1)) _ _ s
 rw [lq]
 exact wpAny_pure h
theorem pN (xs:Array Value) (i k:Nat):((List.range k).filterMap fun (m:Nat)=>xs[((i:Int) + (m:Int) * 1).toNat]?).toArray=((xs.toList.drop i).take k).toArray:=by
 have e:(fun (m:Nat)=>xs[((i:Int) + (m:Int) * 1).toNat]?)=fun m=>xs[i + m]?:=by
  funext m
  have:((i:Int) + (m:Int) * 1).toNat=i + m:=by lia
  rw [this]
 rw [e]
 have:=pick_run xs i k
 rw [List.filterMap_map] at this
 have e2:((fun x=>xs[x]?) ∘ fun x=>i + x)=fun m=>xs[i + m]?:=rfl
 rw [e2] at this
 rw [this]
theorem fB {t sl:Addr} {items:Array Value} {vl vu:Value} {lo hi:Option Int} {Q:Value -> Shared -> Prop} (ht:IsTup s.heap t items) (hs:s.heap.IsSliceOf sl vl vu .none) (pl:IsPart vl lo) (pu:IsPart vu hi)
  (hw:¬ (sIx items.size 0 lo=0 /\ sIx items.size items.size hi=items.size))
  (h:Q (.ref s.heap.objs.size) { s with heap:=s.heap.push { cls:=.type "tuple",data:=.seq ((items.toList.drop (sIx items.size 0 lo)).take (sIx items.size items.size hi - sIx items.size 0 lo)).toArray } })
  (hsz:items.size <= sizeLine):wpAny (model prog w) A (getItem (.ref t) (.ref sl)) Q E s:=by
 have htake:sizeOk (.seq ((items.toList.drop (sIx items.size 0 lo)).take (sIx items.size items.size hi - sIx items.size 0 lo)).toArray):=by
  show ((items.toList.drop (sIx items.size 0 lo)).take (sIx items.size items.size hi - sIx items.size 0 lo)).toArray.size <= sizeLine
  rw [List.size_toArray,List.length_take,List.length_drop,Array.length_toList]
  lia
 have hj:sIx items.size items.size hi <= items.size:=sIx_le _ _ (Nat.le_refl _) hi
 obtain ⟨os,hos,hcs,hds⟩:=id hs
 have hTs:s.TypeIs (.ref sl) "slice":=⟨os,hos,hcs⟩
 unfold getItem
 try with_reducible refine wpAny_holding ?_
 first | refine wpAny_bind (wpAny_pure ?_) | skip
 refine wpAny_bind (wpAny_sequenceKey ht.typeIs (by decide) ?_)
 refine wpAny_bind (wpAny_callSpecial?_slot (name:=Str.ofString "__getitem__") ht.typeIs PyProof.Rows.slot_tuple_getitem
  (wpAny_call_entry PyProof.Rows.slot_tuple_getitem ht.typeIs entry_tuple_getitem ?_ (args_tuple_getitem _ _)))
 show wpAny _ _ (Builtin.Tuple.tupleItemsOf (.ref t) >>= _) _ _ s
 refine wpAny_bind (tupleItemsOf_ ht ?_)
 refine wpAny_bind (wpAny_typeOf hTs ?_)
 rw [if_pos (by decide)]
 refine wpAny_bind (di hs pl pu ?_)
 have hno:¬ ((((sIx items.size 0 lo:Nat):Int) == 0 && (1:Int) == 1 && (sIx items.size items.size hi - sIx items.size 0 lo) == items.size)=true):=by
  intro q
  rw [Bool.and_eq_true,Bool.and_eq_true] at q
  have q1:((sIx items.size 0 lo:Nat):Int)=0:=eq_of_beq q.1.1
  have q2:sIx items.size items.size hi - sIx items.size 0 lo=items.size:=eq_of_beq q.2
  exact hw ⟨by lia,by lia⟩
 show wpAny _ _ (if (((sIx items.size 0 lo:Nat):Int) == 0 && (1:Int) == 1 && (sIx items.size items.size hi - sIx items.size 0 lo) == items.size)=true then _ else _) _ _ s
 rw [if_neg hno,pN]
 first
  | exact wpAny_bind (m:=Builtin.Tuple.tupleExact _) (wpAny_newObj_type (wpAny_pure ⟨_,rfl,wpAny_pure h⟩) htake)
  | exact wpAny_bind (m:=Builtin.Tuple.tupleExact _) (wpAny_newObj_type (wpAny_bind (wpAny_pure (wpAny_pure ⟨_,rfl,wpAny_pure h⟩))) htake)
  | exact wpAny_bind (wpAny_bind (m:=Builtin.Tuple.tupleExact _) (wpAny_newObj_type (wpAny_pure (wpAny_pure ⟨_,rfl,wpAny_pure h⟩)) htake))
  | exact wpAny_bind (wpAny_bind (m:=Builtin.Tuple.tupleExact _) (wpAny_newObj_type (wpAny_pure ⟨_,rfl,wpAny_pure h⟩) htake))
end
end HT
namespace L2
open PySem PySem.Spec PyProof.Rows
abbrev TO:=St -> Hp -> (Option Int -> Hp -> Prop) -> Prop
def PO (X:Cx) (e:Option Expr) (t:TO):Prop :=
 ∀ (pins:List (Addr × Obj)) (s:Shared) (σ:St) (H:Hp) (Q:Option Int -> Hp -> Prop),Inv X pins σ H s -> t σ H Q ->
  wpAny (model X.prog X.w) X.A (evalPart e X.env) (fun u s'=>∃ o H',Inv X pins σ H' s' /\ IsPart u o /\ Q o H') X.xe s
def tNoPart:TO:=fun _ H Q=>Q none H
def tPart (t:TE):TO:=fun σ H Q=>t σ H fun x H1=>∃ i,x=.int i /\ Q (some i) H1
section
variable {X:Cx} {e:Expr} {te:TE} {lo hi:Option Expr} {tl th:TO} {pos p2:Pos}
theorem bN:PO X none tNoPart:=by
 intro pins s σ H Q I h
 rw [evalPart_none]
 exact wpAny_pure ⟨none,H,I,.none,h⟩
theorem bb (h:PE X e te):PO X (some e) (tPart te):=by
 intro pins s σ H Q I hw
 rw [evalPart_some]
 refine thn (h pins s σ H _ I hw) fun u s1 ⟨x,H1,I1,r1,q1⟩=>?_
 obtain ⟨i,rfl,q⟩:=q1
 obtain ⟨t,rfl⟩:=r1
 exact ⟨some i,H1,I1,.int i t,q⟩
def SlR (X:Cx) (r:V -> Option Int -> Option Int -> Hp -> VK -> Prop):Prop :=
 ∀ (pins:List (Addr × Obj)) (s:Shared) (σ:St) (H:Hp) (x:V) (v vl vu:Value) (lo hi:Option Int) (sl:Addr) (Q:VK),Inv X pins σ H s -> aY x v -> s.heap.IsSliceOf sl vl vu .none -> IsPart vl lo -> IsPart vu hi -> r x lo hi H Q ->
  ∃ T id,typeLookup (.type T) "__getitem__"=pure (some (.builtin id)) /\ s.TypeIs v T /\ wpAny (model X.prog X.w) X.A (getItem v (.ref sl)) (EP X pins σ Q) X.xe s
def tSl (r:V -> Option Int -> Option Int -> Hp -> VK -> Prop) (te:TE) (tl th:TO):TE:=fun σ H Q=>te σ H fun x H1=>tl σ H1 fun l H2=>th σ H2 fun u H3=>r x l u H3 Q
theorem bf {r:V -> Option Int -> Option Int -> Hp -> VK -> Prop} (hr:SlR X r) (he:PE X e te) (hl:PO X lo tl) (hu:PO X hi th):PE X (.Subscript e (.Slice lo hi none p2) pos) (tSl r te tl th):=by
 intro pins s σ H Q I h
 refine Subscript_ (thn (he pins s σ H _ I h) fun v s1 ⟨x,H1,I1,r1,q1⟩=>?_)
 refine wpAny_Slice (thn (hl pins s1 σ H1 _ I1 q1) fun vl s2 ⟨l,H2,I2,pl,q2⟩=>thn (hu pins s2 σ H2 _ I2 q2) fun vu s3 ⟨u,H3,I3,pu,q3⟩=>?_)
 rw [evalPart_none]
 refine wpAny_pure ?_
 have I4:Inv X pins σ H3 { s3 with heap:=s3.heap.push { cls:=.type "slice",data:=.fields #[vl,vu,.none] } }:=I3.kept (t':=s3.toks) fun b ob q=>Heap.get?_push_of_some _ q
 obtain ⟨T,id,hT,ht,hg⟩:=hr pins { s3 with heap:=s3.heap.push { cls:=.type "slice",data:=.fields #[vl,vu,.none] } } σ H3 x v vl vu l u s3.heap.objs.size Q I4 r1 (Heap.IsSliceOf.new ..) pl pu q3
 show wpAny (model X.prog X.w) X.A (subscriptTail e (.Slice lo hi none p2) v (.ref s3.heap.objs.size)) (EP X pins σ Q) X.xe { s3 with heap:=s3.heap.push { cls:=.type "slice",data:=.fields #[vl,vu,.none] } }
 exact tail_any (ops:=[.ref s3.heap.objs.size,v]) ht hT hg (by with_unfolding_all rfl)
def cH (xs:List V) (lo hi:Option Int):List V:=(xs.drop (HT.sIx xs.length 0 lo)).take (HT.sIx xs.length xs.length hi - HT.sIx xs.length 0 lo)
theorem gw (xs:List V) (lo hi:Option Int):(cH xs lo hi).length <= xs.length:=by
 unfold cH
 rw [List.length_take,List.length_drop]
 lia
def rSlT (K:PySem.W.Frag):V -> Option Int -> Option Int -> Hp -> VK -> Prop:=fun x lo hi H Q=>∃ a xs,x=.ref a /\ SqT K H a xs /\
 ¬ (HT.sIx xs.length 0 lo=0 /\ HT.sIx xs.length xs.length hi=xs.length) /\ ∀ p,H p=none -> Q (.ref p) (upd H p (.tup (cH xs lo hi)))
theorem sl_tup:SlR X (rSlT X.K):=by
 intro pins s σ H x v vl vu lo hi sl Q I rx hs pl pu h
 obtain ⟨a,xs,rfl,hx,hw,q⟩:=h
 cases rx
 obtain ⟨its,r,ht,hz⟩:=I.tuple hx
 have hlen:its.toArray.size=xs.length:=by rw [List.size_toArray]; exact r.length.symm
 refine ⟨"tuple",_,PyProof.Rows.slot_tuple_getitem.lookup,ht.typeIs,?_⟩
 refine HT.fB ht hs pl pu (by rw [hlen]; exact hw) ?_ (by rw [hlen]; exact hz)
 rw [hlen]
 refine ⟨.ref s.heap.objs.size,_,I.laid (t':=s.toks) (o:=.tup (cH xs lo hi)) (fun b ob q=>Heap.get?_push_of_some _ q) (Nat.le_refl _) ?_,rfl,q _ (I.hok.fresh (Nat.le_refl _))⟩
 exact ⟨Nat.le_trans (gw xs lo hi) hz,_,(r.drop (HT.sIx xs.length 0 lo)).take (HT.sIx xs.length xs.length hi - HT.sIx xs.length 0 lo),IsTup.new _ _⟩
def rCatT (K:PySem.W.Frag):R2:=fun x y H Q=>∃ a b xs ys,x=.ref a /\ y=.ref b /\ SqT K H a xs /\ SqT K H b ys /\ xs ≠ [] /\ xs.length + ys.length <= sizeLine /\
 (ys=[] -> Q (.ref a) H) /\ (ys ≠ [] -> ∀ p,H p=none -> Q (.ref p) (upd H p (.tup (xs ++ ys))))
theorem aU.nil_iff {xs:List V} {us:List Value} (r:aU xs us):us=[] ↔ xs=[]:=by
 cases r with
 | nil=>simp
 | cons _ _=>simp
theorem op_catT:OpR X (binaryOp .Add) (rCatT X.K):=by
 intro pins s σ H x y v u Q I rx ry h
 obtain ⟨a,b,xs,ys,rfl,rfl,ha,hb,hx,hz,q1,q2⟩:=h
 cases rx
 cases ry
 obtain ⟨its,r1,p1,_⟩:=I.tuple ha
 obtain ⟨its2,r2,p2,_⟩:=I.tuple hb
 refine HT.cat_tup p1 p2 (fun z=>hx (r1.nil_iff.mp z)) (fun z=>⟨.ref a,H,I,rfl,q1 (r2.nil_iff.mp z)⟩) (fun z=>?_) (by rw [<- r1.length,<- r2.length]; exact hz)
 refine ⟨.ref s.heap.objs.size,_,I.laid (t':=s.toks) (o:=.tup (xs ++ ys)) (fun b ob q=>Heap.get?_push_of_some _ q) (Nat.le_refl _) ?_,rfl,q2 (fun w=>z (r2.nil_iff.mpr w)) _ (I.hok.fresh (Nat.le_refl _))⟩
 exact ⟨by rw [List.length_append]; exact hz,_,r1.append r2,IsTup.new _ _⟩
end
def ixN (n:Nat) (i:Int):Option Nat:=if 0 <= i then (if i < n then some i.toNat else none) else if -(n:Int) <= i then some (i + n).toNat else none
def atI {α:Type} (xs:List α) (i:Int):Option α:=(ixN xs.length i).bind fun j=>xs[j]?
theorem mC {n:Nat} {i:Int} {j:Nat} (h:ixN n i=some j):seqIndex? i n=some j /\ j < n /\ -(n:Int) <= i /\ i < n:=by
 unfold ixN at h
 by_cases h0:0 <= i
 ·rw [if_pos h0] at h
  by_cases h1:i < n
  ·rw [if_pos h1] at h
   have e:i.toNat=j:=Option.some.inj h
   exact ⟨by rw [seqIndex_of h0 h1,e],by lia,by lia,h1⟩
  ·rw [if_neg h1] at h; cases h
 ·rw [if_neg h0] at h
  by_cases h1:-(n:Int) <= i
  ·rw [if_pos h1] at h
   have e:(i + n).toNat=j:=Option.some.inj h
   exact ⟨by rw [seqIndex_neg (by lia) h1,e],by lia,h1,by lia⟩
  ·rw [if_neg h1] at h; cases h
theorem jy {α:Type} {xs:List α} {i:Int} {v:α} (h:atI xs i=some v):∃ j,seqIndex? i xs.length=some j /\ xs[j]?=some v /\ j < xs.length /\ -(xs.length:Int) <= i /\ i < xs.length:=by
 unfold atI at h
 cases e:ixN xs.length i with
 | none=>rw [e] at h; cases h
 | some j =>
  rw [e] at h
  obtain ⟨h1,h2,h3,h4⟩:=mC e
  exact ⟨j,h1,h,h2,h3,h4⟩
theorem aK {α:Type} {xs:List α} {j:Nat} {v:α} (h:xs[j]?=some v):atI xs (j:Int)=some v:=by
 have hj:j < xs.length:=(List.getElem?_eq_some_iff.mp h).1
 have e:ixN xs.length (j:Int)=some j:=by
  unfold ixN
  rw [if_pos (by lia),if_pos (by lia)]; simp
 unfold atI; rw [e]; exact h
theorem ke {α:Type} (xs:List α) (v:α):atI (xs ++ [v]) (-1)=some v:=by
 have hl:(xs ++ [v]).length=xs.length + 1:=by simp
 have e:ixN (xs ++ [v]).length (-1)=some xs.length:=by
  unfold ixN
  rw [hl,if_neg (by decide),if_pos (by lia)]
  congr 1
  lia
 unfold atI
 rw [e]
 show (xs ++ [v])[xs.length]?=some v
 simp
def mD (b:Expr):Prop:=∀ o i,subscripted b false o i=operate [o,i] (getItem o i)
def IxR (X:Cx) (r:R2):Prop :=
 ∀ (value slice:Expr) (pins:List (Addr × Obj)) (s:Shared) (σ:St) (H:Hp) (x y:V) (v u:Value) (Q:VK),Inv X pins σ H s -> aY x v -> aY y u -> r x y H Q ->
  subscripted slice false v u=operate [v,u] (getItem v u) -> wpAny (model X.prog X.w) X.A (subscriptTail value slice v u) (EP X pins σ Q) X.xe s
def MtR (X:Cx) (id:String) (r:V -> List V -> Hp -> VK -> Prop):Prop :=
 ∀ (pins:List (Addr × Obj)) (s:Shared) (σ:St) (H:Hp) (x:V) (xs:List V) (v:Value) (us:List Value) (Q:VK),Inv X pins σ H s -> aY x v -> aU xs us -> r x xs H Q ->
  wpAny (model X.prog X.w) X.A (call (.builtin id) (v :: us)) (EP X pins σ Q) X.xe s
section
variable {X:Cx} {a b:Expr} {ta tb:TE} {pos:Pos}
theorem ax {r:R2} (hr:IxR X r) (ha:PE X a ta) (hb:PE X b tb) (hs:mD b):PE X (.Subscript a b pos) (tOp r ta tb):=by
 intro pins s σ H Q I h
 exact Subscript_ (binT ha hb I h fun v u s2 x y H2 I2 rx ry q=>hr a b pins s2 σ H2 x y v u Q I2 rx ry q (hs _ _))
def rIxL (K:PySem.W.Frag):R2:=fun x y H Q=>∃ p xs i v,x=.ref p /\ y=.int i /\ SqL K H p xs /\ atI xs i=some v /\ Q v H
def rIxT (K:PySem.W.Frag):R2:=fun x y H Q=>∃ p xs i v,x=.ref p /\ y=.int i /\ SqT K H p xs /\ atI xs i=some v /\ Q v H
def rIxS:R2:=fun x y H Q=>∃ z i c,x=.str z /\ y=.int i /\ z.length <= sizeLine /\ atI z.cps.toList i=some c /\ Q (.str ⟨#[c]⟩) H
theorem bu:IxR X (rIxL X.K):=by
 intro value slice pins s σ H x y v u Q I rx ry h hs
 obtain ⟨p,xs,i,z,rfl,rfl,hq,he,q⟩:=h
 cases rx
 obtain ⟨t,rfl⟩:=ry
 obtain ⟨its,r,pl,hz⟩:=I.list hq
 obtain ⟨j,h1,h2,h3,h4,h5⟩:=jy he
 obtain ⟨w,ew,rw'⟩:=r.get h2
 have hl:=r.length
 have hn:=eZ
 have fin:EP X pins σ Q w s:=⟨z,H,I,rw',q⟩
 by_cases h0:0 <= i
 ·have hj:i.toNat=j:=by
   rw [seqIndex_of h0 h5] at h1
   exact Option.some.inj h1
  exact item_listR pl.isList h0 (by lia) (by rw [hj]; simpa using ew) fin hs
 ·have hj:(i + (its.toArray.size:Int)).toNat=j:=by
   rw [seqIndex_neg (by lia) h4] at h1
   rw [List.size_toArray,<- hl]
   exact Option.some.inj h1
  exact subscriptTail_builtinR (x:=w) pl.isList.typeIs slot_list_getitem.lookup
   (wpAny_getItem_list_neg (Q:=fun r s'=>r=w /\ EP X pins σ Q r s') pl.isList (by lia) (by rw [List.size_toArray] <;> lia) (by lia) (by rw [hj]; simpa using ew) ⟨rfl,fin⟩) hs
theorem aw:IxR X (rIxT X.K):=by
 intro value slice pins s σ H x y v u Q I rx ry h hs
 obtain ⟨p,xs,i,z,rfl,rfl,hq,he,q⟩:=h
 cases rx
 obtain ⟨t,rfl⟩:=ry
 obtain ⟨its,r,pl,hz⟩:=I.tuple hq
 obtain ⟨j,h1,h2,h3,h4,h5⟩:=jy he
 obtain ⟨w,ew,rw'⟩:=r.get h2
 have hl:=r.length
 have hn:=eZ
 have fin:EP X pins σ Q w s:=⟨z,H,I,rw',q⟩
 exact subscriptTail_builtinR (x:=w) pl.typeIs slot_tuple_getitem.lookup
  (getItem_tuple (j:=j) (Q:=fun r s'=>r=w /\ EP X pins σ Q r s') pl (by lia) (by lia) (by rw [List.size_toArray,<- hl]; exact h1) (by simpa using ew) ⟨rfl,fin⟩) hs
theorem lu:IxR X rIxS:=by
 intro value slice pins s σ H x y v u Q I rx ry h hs
 obtain ⟨z,i,c,rfl,rfl,hz,he,q⟩:=h
 obtain ⟨t,rfl⟩:=rx
 obtain ⟨t',rfl⟩:=ry
 obtain ⟨j,h1,h2,h3,h4,h5⟩:=jy he
 have hl:z.cps.toList.length=z.length:=by simp [Str.length]
 rw [hl] at h1 h4 h5
 have hn:=eZ
 exact tail_any (typeIs_str s z t) slot_str_getitem.lookup (getItem_str (c:=c) (by
  have e1:decide (i < -(2 ^ 63:Int))=false:=decide_eq_false (by lia)
  have e2:decide (i ≥ 2 ^ 63)=false:=decide_eq_false (by lia)
  rw [e1,e2,Bool.or_false]) (by rw [h1]; simpa using h2) ⟨.str ⟨#[c]⟩,H,I.tok _,⟨_,rfl⟩,q⟩) hs
theorem lv (its:List Value) (n j:Nat) (u:Value):Obj.mapSeq (·.setIfInBounds j u) { cls:=.type "list",data:=.seq its.toArray n }={ cls:=.type "list",data:=.seq (its.set j u).toArray n }:=by
 simp [Obj.mapSeq]
theorem Inv.lst {pins:List (Addr × Obj)} {σ:St} {H:Hp} {s:Shared} {p:Addr} {xs:List V} (I:Inv X pins σ H s) (h:H p=some (.lst xs)) :
  ∃ (its:List Value) (n:Nat),aU xs its /\ s.heap.get? p=some { cls:=.type "list",data:=.seq its.toArray n } /\ xs.length <= sizeLine:=by
 obtain ⟨z,its,n,r,e⟩:=I.hok p _ h
 exact ⟨its,n,r,e,z⟩
theorem Inv.lstUpd {pins:List (Addr × Obj)} {σ:St} {H:Hp} {s:Shared} {p:Addr} {xs ys:List V} {its its':List Value} {n n':Nat} {f:Obj -> Obj} (I:Inv X pins σ H s) (h:H p=some (.lst xs))
  (ho:s.heap.get? p=some { cls:=.type "list",data:=.seq its.toArray n }) (hf:f { cls:=.type "list",data:=.seq its.toArray n }={ cls:=.type "list",data:=.seq its'.toArray n' }) (r:aU ys its') (hz:ys.length <= sizeLine) (t:Nat) :
  Inv X pins σ (upd H p (.lst ys)) { s with heap:=s.heap.update p f,toks:=t }:=by
 have e:(s.heap.update p f).get? p=some { cls:=.type "list",data:=.seq its'.toArray n' }:=by
  rw [Heap.get?_update_self f ho (by rw [hf] <;> rfl),hf]
 refine I.write (x:=p) (e:=p) (by rw [h]; trivial) (.inl rfl) (fun b u hb q=>(Heap.get?_update_other _ _ (Ne.symm hb)).trans q) ⟨_,e⟩ ?_
 exact ⟨hz,its',n',r,e⟩
def rSetL:V -> V -> V -> Hp -> (Hp -> Prop) -> Prop:=fun o i v H Q=>∃ p xs k j,o=.ref p /\ i=.int k /\ H p=some (.lst xs) /\ ixN xs.length k=some j /\ Q (upd H p (.lst (xs.set j v)))
theorem pO:PSet X rSetL:=by
 intro pins s σ H o i v ov iv u Q I ro ri rv h
 obtain ⟨p,xs,k,j,rfl,rfl,hp,hj,q⟩:=h
 cases ro
 obtain ⟨t,rfl⟩:=ri
 obtain ⟨its,n,r,ho,hz⟩:=I.lst hp
 obtain ⟨h1,h2,h3,h4⟩:=mC hj
 have hl:=r.length
 have hn:=eZ
 have I':Inv X pins σ (upd H p (.lst (xs.set j v))) { s with heap:=s.heap.update p (Obj.mapSeq (·.setIfInBounds j u)) } :=
  I.lstUpd hp ho (lv its n j u) (r.set rv j) (by rw [List.length_set]; exact hz) s.toks
 by_cases h0:0 <= k
 ·have hk:k.toNat=j:=by
   rw [seqIndex_of h0 h4] at h1
   exact Option.some.inj h1
  exact PySem.W.ki_setAt ho h0 (by lia) (by rw [List.size_toArray,<- hl]; exact h4) (by rw [hk]; exact ⟨_,I',q⟩)
 ·have hk:(k + (its.toArray.size:Int)).toNat=j:=by
   rw [seqIndex_neg (by lia) h3] at h1
   rw [List.size_toArray,<- hl]
   exact Option.some.inj h1
  exact PySem.W.ki_setBack ho (by lia) (by rw [List.size_toArray,<- hl]; exact h3) (by lia) (by rw [hk]; exact ⟨_,I',q⟩)
theorem jz (lo hi:Option Int) (n:Nat):(sliceBounds lo hi none n).1=((HT.sIx n 0 lo:Nat):Int) /\ (sliceBounds lo hi none n).2.1=((HT.sIx n n hi:Nat):Int) /\ (sliceBounds lo hi none n).2.2=1:=by
 refine ⟨?_,?_,rfl⟩
 ·cases lo with
  | none=>simp [sliceBounds,HT.sIx]
  | some i =>
   simp only [sliceBounds,HT.sIx,Option.getD_none,show (1:Int) > 0 by decide,if_true]
   by_cases h:i < 0
   ·simp only [h,if_true] <;> lia
   ·simp only [h,if_false] <;> lia
 ·cases hi with
  | none=>simp [sliceBounds,HT.sIx]
  | some i =>
   simp only [sliceBounds,HT.sIx,Option.getD_none,show (1:Int) > 0 by decide,if_true]
   by_cases h:i < 0
   ·simp only [h,if_true] <;> lia
   ·simp only [h,if_false] <;> lia
theorem iE (its:List Value) (lo hi:Option Int):slicePick its.toArray lo hi none=((its.drop (HT.sIx its.length 0 lo)).take (HT.sIx its.length its.length hi - HT.sIx its.length 0 lo)).toArray:=by
 obtain ⟨h1,h2,h3⟩:=jz lo hi its.toArray.size
 unfold slicePick
 rw [h1,h2,h3]
 simp only [sliceRange_one,pick_run,List.size_toArray] <;> rfl
def rSlL (K:PySem.W.Frag):V -> Option Int -> Option Int -> Hp -> VK -> Prop:=fun x lo hi H Q=>∃ a xs,x=.ref a /\ SqL K H a xs /\ ∀ p,H p=none -> Q (.ref p) (upd H p (.lst (cH xs lo hi)))
theorem sl_list:SlR X (rSlL X.K):=by
 intro pins s σ H x v vl vu lo hi sl Q I rx hs pl pu h
 obtain ⟨a,xs,rfl,hx,q⟩:=h
 cases rx
 obtain ⟨its,r,ht,hz⟩:=I.list hx
 have hlen:=r.length
 refine ⟨"list",_,slot_list_getitem.lookup,ht.isList.typeIs,?_⟩
 refine wpAny_getItem_list_slice ht.isList hs pl pu .none (by simp) ?_ (by rw [List.size_toArray] <;> lia)
 rw [iE,<- hlen]
 refine ⟨.ref s.heap.objs.size,_,I.laid (t':=s.toks) (o:=.lst (cH xs lo hi)) (fun b ob q=>Heap.get?_push_of_some _ q) (Nat.le_refl _) ?_,rfl,q _ (I.hok.fresh (Nat.le_refl _))⟩
 exact ⟨Nat.le_trans (gw xs lo hi) hz,_,0,(r.drop (HT.sIx xs.length 0 lo)).take (HT.sIx xs.length xs.length hi - HT.sIx xs.length 0 lo),Heap.get?_push_size _ rfl⟩
def cc:V -> Bool
 | .non=>true
 | .bl _=>true
 | .int _=>true
 | .str _=>true
 | _=>false
def eqV:V -> V -> Bool
 | .non,.non=>true
 | .bl a,.bl b=>a == b
 | .bl a,.int b=>(if a then 1 else 0) == b
 | .int a,.bl b=>a == (if b then 1 else 0)
 | .int a,.int b=>a == b
 | .str a,.str b=>a == b
 | _,_=>false
theorem eqAt_V {A:Around} {s:Shared} {y x:V} {u v:Value} (ry:aY y u) (rx:aY x v) (fy:cc y=true) (fx:cc x=true):SeqAt.EqAt A s u v (eqV y x):=by
 cases y with
 | non =>
  cases ry
  cases x with
  | non=>cases rx; exact SeqAt.EqAt.same _
  | bl b=>cases rx; exact SeqAt.EqAt.none_bool b
  | int b=>obtain ⟨t,rfl⟩:=rx; exact SeqAt.EqAt.none_int b t
  | str b=>obtain ⟨t,rfl⟩:=rx; exact SeqAt.EqAt.none_str b t
  | _=>exact absurd (show false=true from fx) Bool.false_ne_true
 | bl a =>
  cases ry
  cases x with
  | non=>cases rx; exact SeqAt.EqAt.bool_none a
  | bl b=>cases rx; exact SeqAt.EqAt.bool_bool a b
  | int b=>obtain ⟨t,rfl⟩:=rx; exact SeqAt.EqAt.bool_int a b t
  | str b=>obtain ⟨t,rfl⟩:=rx; exact SeqAt.EqAt.bool_str a b t
  | _=>exact absurd (show false=true from fx) Bool.false_ne_true
 | int a =>
  obtain ⟨t',rfl⟩:=ry
  cases x with
  | non=>cases rx; exact SeqAt.EqAt.int_none a t'
  | bl b=>cases rx; exact SeqAt.EqAt.int_bool a t' b
  | int b=>obtain ⟨t,rfl⟩:=rx; exact SeqAt.EqAt.int_int a t' b t
  | str b=>obtain ⟨t,rfl⟩:=rx; exact SeqAt.EqAt.int_str a t' b t
  | _=>exact absurd (show false=true from fx) Bool.false_ne_true
 | str a =>
  obtain ⟨t',rfl⟩:=ry
  cases x with
  | non=>cases rx; exact SeqAt.EqAt.str_none a t'
  | bl b=>cases rx; exact SeqAt.EqAt.str_bool a t' b
  | int b=>obtain ⟨t,rfl⟩:=rx; exact SeqAt.EqAt.str_int a t' b t
  | str b=>obtain ⟨t,rfl⟩:=rx; exact SeqAt.EqAt.str_str a t' b t
  | _=>exact absurd (show false=true from fx) Bool.false_ne_true
 | _=>exact absurd (show false=true from fy) Bool.false_ne_true
def eqU (x:V) (u:Value):Bool:=match u with
 | .none=>eqV .non x
 | .bool b=>eqV (.bl b) x
 | .int i _=>eqV (.int i) x
 | .str z _=>eqV (.str z) x
 | _=>false
theorem pP {x y:V} {u:Value} (r:aY y u) (f:cc y=true):eqU x u=eqV y x:=by
 cases y with
 | non=>cases r; rfl
 | bl b=>cases r; rfl
 | int i=>obtain ⟨t,rfl⟩:=r; rfl
 | str z=>obtain ⟨t,rfl⟩:=r; rfl
 | _=>exact absurd (show false=true from f) Bool.false_ne_true
theorem fC {x:V}:∀ {xs:List V} {us:List Value},aU xs us -> xs.all cc=true -> us.any (eqU x)=xs.any fun y=>eqV y x
 | _,_,.nil,_=>rfl
 | y :: xs,u :: us,.cons r t,f=>by
  rw [List.all_cons,Bool.and_eq_true] at f
  rw [List.any_cons,List.any_cons,pP r f.1,fC t f.2]
theorem dZ {A:Around} {s:Shared} {x:V} {v:Value} (rx:aY x v) (fx:cc x=true):∀ {xs:List V} {us:List Value},aU xs us -> xs.all cc=true -> ∀ u ∈ us,SeqAt.EqAt A s u v (eqU x u)
 | _,_,.nil,_=>fun u hu=>by cases hu
 | y :: xs,u :: us,.cons r t,f=>fun u' hu=>by
  rw [List.all_cons,Bool.and_eq_true] at f
  rcases List.mem_cons.mp hu with rfl | hu
  ·rw [pP r f.1]; exact eqAt_V r rx f.1 fx
  ·exact dZ rx fx t f.2 u' hu
def inV (x:V) (xs:List V):Bool:=xs.any fun y=>eqV y x
def rIn (K:PySem.W.Frag) (neg:Bool):R2:=fun x y H Q=>∃ p xs,y=.ref p /\ (SqL K H p xs \/ SqT K H p xs) /\ cc x=true /\ xs.all cc=true /\ Q (.bl (if neg then !inV x xs else inV x xs)) H
theorem fW:OpR X (compareOp .In) (rIn X.K false):=by
 intro pins s σ H x y v u Q I rx ry h
 obtain ⟨p,xs,rfl,hq,fx,fs,q⟩:=h
 cases ry
 rcases hq with hq | hq
 ·obtain ⟨its,r,pl,hz⟩:=I.list hq
  refine SeqAt.in_listAt (eqU x) pl.isList (fun w hw=>dZ rx fx r fs w (by simpa using hw)) ⟨.bl _,H,I,rfl,?_⟩
  rw [show its.toArray.any (eqU x)=its.any (eqU x) by simp,fC r fs]
  exact q
 ·obtain ⟨its,r,pl,hz⟩:=I.tuple hq
  refine SeqAt.in_tupleAt (eqU x) pl (fun w hw=>dZ rx fx r fs w (by simpa using hw)) ⟨.bl _,H,I,rfl,?_⟩
  rw [show its.toArray.any (eqU x)=its.any (eqU x) by simp,fC r fs]
  exact q
theorem fE:OpR X (compareOp .NotIn) (rIn X.K true):=by
 intro pins s σ H x y v u Q I rx ry h
 obtain ⟨p,xs,rfl,hq,fx,fs,q⟩:=h
 cases ry
 rcases hq with hq | hq
 ·obtain ⟨its,r,pl,hz⟩:=I.list hq
  refine SeqAt.notIn_listAt (eqU x) pl.isList (fun w hw=>dZ rx fx r fs w (by simpa using hw)) ⟨.bl _,H,I,rfl,?_⟩
  rw [show its.toArray.any (eqU x)=its.any (eqU x) by simp,fC r fs]
  exact q
 ·obtain ⟨its,r,pl,hz⟩:=I.tuple hq
  refine SeqAt.notIn_tupleAt (eqU x) pl (fun w hw=>dZ rx fx r fs w (by simpa using hw)) ⟨.bl _,H,I,rfl,?_⟩
  rw [show its.toArray.any (eqU x)=its.any (eqU x) by simp,fC r fs]
  exact q
theorem ao:cm X (.builtin "len") (fun xs H Q=>∃ p ys,xs=[.ref p] /\ (SqL X.K H p ys \/ SqT X.K H p ys) /\ Q (.int ys.length) H):=by
 intro pins s σ H xs us Q I r h
 obtain ⟨p,ys,rfl,hq,q⟩:=h
 obtain ⟨u,rfl,rx⟩:=hG r
 cases rx
 have hn:=eZ
 rcases hq with hq | hq
 ·obtain ⟨its,r',pl,hz⟩:=I.list hq
  have hlen:=r'.length
  exact Calls.call_len_list pl.isList (by simp only [List.size_toArray] <;> lia) ⟨.int ys.length,H,I.tok _,⟨s.toks + 1,by rw [List.size_toArray,hlen]⟩,q⟩
 ·obtain ⟨its,r',pl,hz⟩:=I.tuple hq
  have hlen:=r'.length
  exact len_tuple pl (by simp only [List.size_toArray] <;> lia) ⟨.int ys.length,H,I.tok _,⟨s.toks + 1,by rw [List.size_toArray,hlen]⟩,q⟩
theorem fF:cm X (.builtin "len") (fun xs H Q=>∃ z,xs=[.str z] /\ z.length <= sizeLine /\ Q (.int z.length) H):=by
 intro pins s σ H xs us Q I r h
 obtain ⟨z,rfl,hz,q⟩:=h
 obtain ⟨u,rfl,t,rfl⟩:=hG r
 have hn:=eZ
 exact len_str (by lia) ⟨.int z.length,H,I.tok _,⟨_,rfl⟩,q⟩
theorem jA:cm X (.type "list") (fun xs H Q=>∃ p ys,xs=[.ref p] /\ (SqL X.K H p ys \/ SqT X.K H p ys) /\ ∀ l,H l=none -> Q (.ref l) (upd H l (.lst ys))):=by
 intro pins s σ H xs us Q I r h
 obtain ⟨p,ys,rfl,hq,q⟩:=h
 obtain ⟨u,rfl,rx⟩:=hG r
 cases rx
 have fin:∀ (its:List Value),aU ys its -> ys.length <= sizeLine -> ∀ (h':Heap) (c':Nat),(∀ b o',s.heap.get? b=some o' -> h'.get? b=some o') ->
   h'.get? s.heap.objs.size=some { cls:=.type "list",dict:=none,data:=.seq its.toArray c',slots:=#[] } -> EP X pins σ Q (.ref s.heap.objs.size) { s with heap:=h' }:=fun its r' hz h' c' kp e =>
  ⟨.ref s.heap.objs.size,_,I.laid (t':=s.toks) kp (Nat.le_refl _) (show bh X.prog X.w _ h' _ (.lst ys) from ⟨hz,its,c',r',e⟩),rfl,q _ (I.hok.fresh (Nat.le_refl _))⟩
 rcases hq with hq | hq
 ·obtain ⟨its,r',pl,hz⟩:=I.list hq
  have hlen:=r'.length
  obtain ⟨o,ho,hc,n,hd⟩:=pl.isList
  exact call_list_seq p (.inl rfl) ho hc hd (fun h' c' kp e=>fin its r' hz h' c' kp e) (by simp only [List.size_toArray] <;> lia)
 ·obtain ⟨its,r',pl,hz⟩:=I.tuple hq
  have hlen:=r'.length
  obtain ⟨o,ho,hc,n,hd⟩:=pl
  exact call_list_seq p (.inr rfl) ho hc hd (fun h' c' kp e=>fin its r' hz h' c' kp e) (by simp only [List.size_toArray] <;> lia)
theorem iF:cm X (.type "tuple") (fun xs H Q=>∃ p ys,xs=[.ref p] /\ ((SqL X.K H p ys /\ ∀ l,H l=none -> Q (.ref l) (upd H l (.tup ys))) \/ (SqT X.K H p ys /\ Q (.ref p) H))):=by
 intro pins s σ H xs us Q I r h
 obtain ⟨p,ys,rfl,h⟩:=h
 obtain ⟨u,rfl,rx⟩:=hG r
 cases rx
 rcases h with ⟨hq,q⟩ | ⟨hq,q⟩
 ·obtain ⟨its,r',pl,hz⟩:=I.list hq
  have hlen:=r'.length
  refine call_tuple_list pl.isList (fun h' kp=>?_) (by simp only [List.size_toArray] <;> lia)
  have I1:Inv X pins σ H { s with heap:=h' }:=I.kept (t':=s.toks) kp
  have I2:Inv X pins σ (upd H h'.objs.size (.tup ys)) { s with heap:=h'.push { cls:=.type "tuple",data:=.seq its.toArray } } :=
   I1.laid (t':=s.toks) (fun b o e=>Heap.get?_push_of_some _ e) (Nat.le_refl _) (show bh X.prog X.w _ _ _ (.tup ys) from ⟨hz,its,r',IsTup.new _ _⟩)
  exact ⟨.ref h'.objs.size,_,I2,rfl,q _ (I1.hok.fresh (Nat.le_refl _))⟩
 ·obtain ⟨its,r',pl,hz⟩:=I.tuple hq
  exact call_tuple_same pl ⟨.ref p,H,I,rfl,q⟩
def tyV (K:PySem.W.Frag) (T:String) (x:V) (H:Hp):Prop:=match x with
 | .str _=>T="str"
 | .int _=>T="int"
 | .ref p=>(T="list" /\ ∃ xs,SqL K H p xs) \/ (T="tuple" /\ ∃ o,K.lookup p=some o /\ o.cls=.type "tuple" /\ o.dict=none) \/
   (T="dict" /\ ((∃ kvs,H p=some (.dK kvs)) \/ ∃ kvs,H p=some (.dT kvs))) \/ (T="set" /\ ∃ S n,H p=some (.set S n))
 | _=>False
theorem tyV_is {pins:List (Addr × Obj)} {σ:St} {H:Hp} {s:Shared} {T:String} {x:V} {v:Value} (I:Inv X pins σ H s) (r:aY x v) (ty:tyV X.K T x H) :
  s.TypeIs v T /\ ∀ a,v=.ref a -> ∃ ob,s.heap.get? a=some ob /\ ob.dict=none:=by
 cases x with
 | str z =>
  obtain ⟨t,rfl⟩:=r
  cases (show T="str" from ty)
  exact ⟨typeIs_str s z t,fun _ e=>nomatch e⟩
 | int i =>
  obtain ⟨t,rfl⟩:=r
  cases (show T="int" from ty)
  exact ⟨typeIs_int s i t,fun _ e=>nomatch e⟩
 | ref p =>
  cases r
  rcases ty with ⟨rfl,xs,hq⟩ | ⟨rfl,o,hk,hc,hd⟩ | ⟨rfl,hk⟩ | ⟨rfl,S,n,hk⟩
  ·obtain ⟨its,_,pl,_⟩:=I.list hq
   refine ⟨pl.isList.typeIs,fun a e=>?_⟩
   cases e
   obtain ⟨o,n,e,c,hd,_⟩:=pl
   exact ⟨o,e,hd⟩
  ·refine ⟨⟨o,I.kIn p o hk,hc⟩,fun a e=>?_⟩
   cases e
   exact ⟨o,I.kIn _ o hk,hd⟩
  ·have z:∃ o,s.heap.get? p=some o /\ o.ExactDict:=by
    rcases hk with ⟨kvs,hk⟩ | ⟨kvs,hk⟩
    ·obtain ⟨_,_,_,_,o,_,_,e,ex,_⟩:=I.hok p _ hk
     exact ⟨o,e,ex⟩
    ·obtain ⟨_,_,_,_,o,_,_,e,ex,_⟩:=I.hok p _ hk
     exact ⟨o,e,ex⟩
   obtain ⟨o,e,ex⟩:=z
   refine ⟨⟨o,e,ex.1⟩,fun a e2=>?_⟩
   cases e2
   exact ⟨o,e,ex.2.1⟩
  ·obtain ⟨o,_,_,_,e,ex,_⟩:=I.hok p _ hk
   refine ⟨⟨o,e,ex.1⟩,fun a e2=>?_⟩
   cases e2
   exact ⟨o,e,ex.2.1⟩
 | _=>exact False.elim ty
def tBM (K:PySem.W.Frag) (T:String) (r:V -> List V -> Hp -> VK -> Prop) (to:TE) (t:TA):TE:=fun σ H Q=>to σ H fun x H1=>tyV K T x H1 /\ t σ H1 fun xs H2=>r x xs H2 Q
variable {o e:Expr} {es:List Expr} {to:TE} {t:TA} {name:Str} {apos cpos:Pos} {T id:String} {r:V -> List V -> Hp -> VK -> Prop}
theorem cT (pa:PlainAttrs T) (slot:Slot T name id) (hty:typeOf (.builtin id)=pure (.type "method_descriptor")) (hm:MtR X id r) (ho:PE X o to) (ha:PA X (e :: es) t)
  (hbase:attributeBase o name X.env (eval o X.env)=eval o X.env:=by rfl)
  (hfew:((backTo cpos (starEach (e :: es) X.env)).all (fun x=>!x.1) && (backToKw cpos (keywordEach [] X.env)).all (fun x=>x.1.isSome)
   && decide ((e :: es).length + ([]:List Keyword).length + (if ([]:List Keyword).isEmpty then 0 else 1) < 30))=true:=by rfl)
  (hline:(apos.endLine == cpos.line)=true:=by rfl) (hs:starEach (e :: es) X.env=(false,eval e X.env) :: starEach es X.env:=by rfl) (hplain:(backTo cpos (starEach es X.env)).any (·.1)=false:=by rfl) :
  PE X (.Call (.Attribute o name apos) (e :: es) [] cpos) (tBM X.K T r to t):=by
 intro pins s σ H Q I h
 refine wpAny_Call_method_late hbase hfew hline rfl (thn (ho pins s σ H _ I h) fun v s1 ⟨x,H1,I1,r1,ty,q1⟩=>?_)
 obtain ⟨h1,h2⟩:=tyV_is I1 r1 ty
 refine ⟨T,id,pa,slot,hty,h1,h2,?_⟩
 have hA:=ha cpos pins s1 σ H1 _ I1 q1
 rw [hs] at hA ⊢
 refine Calls.callWith_builtin (by show (false || (backTo cpos (starEach es X.env)).any (·.1))=false; rw [hplain] <;> rfl) (Calls.evalArgs_plain ?_)
 exact thn hA fun us s2 ⟨vs,H2,I2,r2,q2⟩=>hm pins s2 σ H2 x vs v us Q I2 r1 r2 q2
end
def MtM (X:Cx) (id:String) (r:V -> List V -> Hp -> VK -> Prop):Prop :=
 ∀ (pins:List (Addr × Obj)) (s:Shared) (σ:St) (H:Hp) (x:V) (xs:List V) (v:Value) (us:List Value) (Q:VK),Inv X pins σ H s -> aY x v -> aU xs us -> r x xs H Q ->
  wpAny (model X.prog X.w) X.A (call (.builtin id) (v :: us)) (EP X pins σ Q) X.xe s
theorem aU.one:∀ {x:V} {us:List Value},aU [x] us -> ∃ u,us=[u] /\ aY x u
 | _,_,.cons r .nil=>⟨_,rfl,r⟩
theorem aU.eraseIdx:∀ {xs:List V} {us:List Value} (i:Nat),aU xs us -> aU (xs.eraseIdx i) (us.eraseIdx i)
 | _,_,_,.nil=>.nil
 | _,_,0,.cons _ t=>t
 | _,_,i + 1,.cons r t=>.cons r (aU.eraseIdx i t)
theorem aU.reverse {xs:List V} {us:List Value} (h:aU xs us):aU xs.reverse us.reverse:=by
 induction h with
 | nil=>exact .nil
 | cons r t ih=>rw [List.reverse_cons,List.reverse_cons]; exact aU.append ih (.cons r .nil)
theorem iV {α:Type}:∀ (l:List α) (i:Nat),(l.eraseIdx i).length <= l.length
 | [],_=>Nat.le_refl _
 | _ :: _,0=>Nat.le_succ _
 | _ :: r,i + 1=>Nat.succ_le_succ (iV r i)
section
variable {X:Cx} {pins:List (Addr × Obj)} {σ:St} {H:Hp} {s:Shared} {l b:Addr} {xs ys zs:List V}
theorem Inv.lset {its its':List Value} {n:Nat} {f:Array Value -> Array Value} {t':Nat} (I:Inv X pins σ H s) (hH:H l=some (.lst xs))
  (e:s.heap.get? l=some { cls:=.type "list",data:=.seq its.toArray n }) (hf:f its.toArray=its'.toArray) (hv:aU ys its') (hz:ys.length <= sizeLine) :
  Inv X pins σ (upd H l (.lst ys)) { s with heap:=s.heap.update l (Obj.mapSeq f),toks:=t' }:=by
 have q:=PySem.IsL.update e f
 rw [hf] at q
 refine I.write (x:=l) (e:=l) (by rw [hH]; exact trivial) (.inl rfl) (fun b' u hb hu=>(Heap.get?_update_other s.heap (Obj.mapSeq f) (Ne.symm hb)).trans hu) ⟨_,q⟩ ?_
 exact ⟨hz,its',_,hv,q⟩
theorem Inv.lnew {its:List Value} {t':Nat} (I:Inv X pins σ H s) (hv:aU ys its) (hz:ys.length <= sizeLine) :
  Inv X pins σ (upd H s.heap.objs.size (.lst ys)) { s with heap:=s.heap.push { cls:=.type "list",data:=.seq its.toArray },toks:=t' } :=
 I.laid (fun _ _ q=>Heap.get?_push_of_some _ q) (Nat.le_refl _) ⟨hz,its,0,hv,Heap.get?_push_size _ rfl⟩
theorem Inv.fresh (I:Inv X pins σ H s):H s.heap.objs.size=none:=I.hok.fresh (Nat.le_refl _)
theorem Inv.lstM (I:Inv X pins σ H s) (hH:H l=some (.lst xs)):xs.length <= sizeLine /\ ∃ (its:List Value) (n:Nat),aU xs its /\ xs.length=its.length /\ s.heap.get? l=some { cls:=.type "list",data:=.seq its.toArray n }:=by
 obtain ⟨z,its,n,r,e⟩:=I.hok l _ hH
 exact ⟨z,its,n,r,r.length,e⟩
end
section
variable {X:Cx}
def rAppend:V -> List V -> Hp -> VK -> Prop:=fun x vs H Q=>∃ l xs y,x=.ref l /\ vs=[y] /\ H l=some (.lst xs) /\ xs.length < sizeLine /\ Q .non (upd H l (.lst (xs ++ [y])))
theorem fX:MtM X "list.append" rAppend:=by
 intro pins s σ H x vs v us Q I rx rv h
 obtain ⟨l,xs,y,rfl,rfl,hH,hz,q⟩:=h
 cases rx
 obtain ⟨u,rfl,ru⟩:=rv.one
 obtain ⟨z,its,n,r,hl,e⟩:=I.lstM hH
 refine call_meets F.slot_list_append ⟨_,e,rfl⟩ F.entry_list_append (F.args_list_append_2 _ _) (PySem.list_append l its.toArray n u (by rw [List.size_toArray]; lia)) ⟨e,?_⟩
 refine ⟨.non,_,I.lset (its':=its ++ [u]) hH e (by simp) (r.append (.cons ru .nil)) ?_,rfl,q⟩
 rw [List.length_append,List.length_singleton]
 lia
def rPopAt:V -> List V -> Hp -> VK -> Prop:=fun x vs H Q=>∃ l xs i k y,x=.ref l /\ vs=[.int i] /\ H l=some (.lst xs) /\ -(2 ^ 63) <= i /\ i < 2 ^ 63 /\ seqIndex? i xs.length=some k /\ xs[k]?=some y /\ Q y (upd H l (.lst (xs.eraseIdx k)))
theorem pQ:MtM X "list.pop" rPopAt:=by
 intro pins s σ H x vs v us Q I rx rv h
 obtain ⟨l,xs,i,k,y,rfl,rfl,hH,h1,h2,hk,hy,q⟩:=h
 cases rx
 obtain ⟨u,rfl,ru⟩:=rv.one
 obtain ⟨t,rfl⟩:=ru
 obtain ⟨z,its,n,r,hl,e⟩:=I.lstM hH
 obtain ⟨w,hw,rw'⟩:=r.get hy
 refine call_meets F.slot_list_pop ⟨_,e,rfl⟩ F.entry_list_pop (F.args_list_pop_2 _ _)
  (MeetsSeq.list_pop_at l its.toArray n i t k w (fitsIndex_both h1 h2) (by rw [List.size_toArray,<- hl]; exact hk) (by rw [<- Array.getElem?_toList]; exact hw) (by rw [List.size_toArray]; lia)) ⟨e,?_⟩
 refine ⟨y,_,I.lset (its':=its.eraseIdx k) hH e ?_ (r.eraseIdx k) ?_,rw',q⟩
 ·show its.toArray.eraseIdxIfInBounds k=(its.eraseIdx k).toArray
  rw [List.eraseIdxIfInBounds_toArray]
 ·have:=iV xs k
  lia
def rCat:R2:=fun x y H Q=>∃ l b xs zs,x=.ref l /\ y=.ref b /\ H l=some (.lst xs) /\ H b=some (.lst zs) /\ xs.length + zs.length <= sizeLine /\ ∀ p,H p=none -> Q (.ref p) (upd H p (.lst (xs ++ zs)))
theorem op_cat:OpR X (binaryOp .Add) rCat:=by
 intro pins s σ H x y v u Q I rx ry h
 obtain ⟨l,b,xs,zs,rfl,rfl,hH,hB,hz,q⟩:=h
 cases rx
 cases ry
 obtain ⟨z,its,n,r,hl,e⟩:=I.lstM hH
 obtain ⟨z2,its2,n2,r2,hl2,e2⟩:=I.lstM hB
 refine PySem.P.add_list e e2 ?_ (by rw [List.size_toArray,List.size_toArray]; lia)
 have ea:its.toArray ++ its2.toArray=(its ++ its2).toArray:=by simp
 rw [ea]
 exact ⟨.ref _,_,I.lnew (t':=s.toks) (r.append r2) (by rw [List.length_append]; lia),rfl,q _ I.fresh⟩
end
section
variable {prog:Program} {w:World} {A:Around} {E:Value -> Shared -> Prop} {s:Shared}
end
section
variable {X:Cx}
end
end L2
namespace Att
open PySem PySem.W PySem.Calls PyProof.Rows
theorem gB {P:Params} {h:Heap}:∀ (ns:List Int) (vs:List Value),WellAll P h vs (ns.map WData.int) -> IntsAre vs ns:=by
 intro ns
 induction ns with
 | nil =>
  intro vs w
  rw [List.map_nil] at w
  cases w
  exact .nil
 | cons n ns ih =>
  intro vs w
  rw [List.map_cons] at w
  cases w with
  | cons a b =>
   cases a
   exact .cons _ _ (ih _ b)
theorem nX {l:OpenLaw} {n:Nat} (hn:l.most=some n) {P:Params} {h:Heap} {args:List WData} {vals:List Value}
  (hpre:l.row.toRowW.claim.pre args=true) (hwl:WellAll P h vals args) :
  ∃ a vs ns,vals=[Value.ref a] /\ args=[WData.list (ns.map WData.int)] /\ h.get? a=some { cls:=.type "list",data:=.seq vs.toArray } /\ IntsAre vs ns /\ ns.length <= n:=by
 have hsh:WShape.hasAll [] args [.list .int]=true:=(pre_splitW hpre).1
 have hc:l.pre.holds [] { args:=args }=true:=(pre_splitW hpre).2
 obtain ⟨d,r,rfl,h1,h2⟩:=hasAllW_cons hsh
 obtain rfl:=hasAllW_nil h2
 obtain ⟨xs,rfl,h3⟩:=hasW_list h1
 obtain ⟨ns,rfl⟩:=items_int h3
 have hlen:ns.length <= n:=by
  unfold OpenLaw.pre at hc
  have h4:(WTm.not (.lt (.lit (.int (n:Int))) (.len (.arg 0)))).holds [] { args:=[.list (ns.map .int)] }=true:=by
   have h4:=(holds_andW hc).1
   rw [hn] at h4
   exact h4
  have h5:=condW_of h4 (w_not (w_lt w_lit (w_len_list (w_arg rfl))))
  rw [List.length_map] at h5
  refine Nat.le_of_not_lt fun q=>?_
  have q':(n:Int) < ((ns.length:Nat):Int):=by lia
  first
   | (rw [decide_eq_true q'] at h5; exact absurd h5 (by decide))
   | (simp at h5; lia)
 cases hwl with
 | cons w1 w2 =>
  cases w2
  cases w1 with
  | list ho hall=>exact ⟨_,_,ns,rfl,rfl,ho,gB ns _ hall,hlen⟩
theorem nY (l:OpenLaw) (args:List WData):l.row.toRowW.claim.post args (.bool true) args=true :=
 postW_of (r:=l.row.toRowW) (X:=(true == true))
  (show WShape.has [] (.bool true) .bool=true by first | rfl | decide | simp [WShape.has,WShape.arms,WShape.armsAll])
  (show (WTm.eq .res (.lit (.bool true))).value [] { args:=args,res:=some (.bool true),after:=args }=some (.bool (true == true)) from w_eq_bool (w_res rfl) w_lit) rfl
theorem kf {l:OpenLaw} {n:Nat} {q:Program} {loose:List Str} {XP:(Str -> Option Value) -> Heap -> Prop} {YP:World -> Heap -> Prop} {d:DefRec}
  (hn:l.most=some n) (hdf:d.params.defaults=[])
  (call:∀ (w:World) (s₀ s₁:Shared) (mg mb:Str -> Option Value) (fa:Addr) (o:Obj) (pm cd doc:Value) (a:Addr) (vs:List Value) (ns:List Int),
   Ground q loose [] XP w s₀ mg mb s₁.heap -> YP w s₁.heap ->
   s₁.heap.get? fa=some o -> o.data=.func (docDef d.name d.params d.body d.scope pm cd doc) -> s₁.heap.CodeRec cd d.name -> mg d.name=some (.ref fa) ->
   s₁.heap.get? a=some { cls:=.type "list",data:=.seq vs.toArray } -> IntsAre vs ns -> ns.length <= n -> s₁.gens=#[] ->
   codeAny (model l.prog w) callerA (.call (.ref fa) ⟨[.ref a],[]⟩) (fun r s'=>r=.ok (.ret (.bool true)) /\ OldK s₁.heap s'.heap /\ s'.os=s₁.os /\ AllBare s'.gens) s₁) :
  WalkO q loose XP YP l.row.toRowW d [] (fun f vs=>PySem.call f vs):=by
 intro w s₀ s₁ mg mb G Y fa o pm cd doc dV kV ho hd hcd hD hmg hg args vals as hpre hlay hrd hwl hlo
 obtain rfl:dV=.none:=Dflts.none hD hdf
 obtain rfl:kV=.none:=Dflts.noKw hD
 obtain ⟨a,vs,ns,rfl,rfl,hobj,hints,hlen⟩:=nX hn hpre hwl
 refine enter_call (codeAny_mono (call w s₀ s₁ mg mb fa o pm cd doc a vs ns G Y ho (fd_plain hd) hcd hmg hobj hints hlen hg) fun r s' hq=>?_)
 obtain ⟨rfl,h2,h3,h4⟩:=hq
 exact ⟨.inl ⟨.bool true,.bool true,[],rfl,fun _=>rfl,.bool true,nY l _,fun _=>⟨List.Pairwise.nil,fun _ hm=>(nomatch hm)⟩⟩,h2,h3,h4⟩
section
variable {prog:Program} {w:World} {A:Around} {E:Value -> Shared -> Prop} {s:Shared} {K:Frag}
end
end Att
namespace L2
open PySem PySem.Spec PyProof.Rows
theorem iW:∀ {vs:List Value} {ns:List Int},IntsAre vs ns -> aU (ns.map V.int) vs
 | _,_,.nil=>.nil
 | _,_,.cons n t h=>.cons ⟨t,rfl⟩ (iW h)
def Only (H:Hp):Prop:=∀ b,H b=none \/ ∃ o xs,H b=some (.frz o (.lst xs))
theorem pR {P:Program} {w:World} {K:PySem.W.Frag} {mg mb:Str -> Option Value} {CX:CXT} {k:Nat} {fa a:Addr} {fd:FuncData} {x:Str} {sp:Sp} {s₁:Shared} {vs:List Value} {ns:List Int}
  (KX:K.In s₁.heap) (hns:s₁.heap.Ns mainGlobals mg) (hb:s₁.heap.Ns builtinsNs mb) (hbb:∀ x:Str,x ≠ "__name__" -> mb x=bootBuiltins x) (hlim:s₁.heap.NoLimit) (hg:s₁.gens=#[])
  (ha:s₁.heap.get? a=some { cls:=.type "list",data:=.seq vs.toArray }) (hi:IntsAre vs ns) (hl:ns.length <= sizeLine) (hr:aZ k callerA)
  (F:∀ base:Heap,K.In base -> base.Ns mainGlobals mg -> a7 P w K mg base CX k fa fd [x] sp) (hbind:∀ (s:Shared) (u:Value),BindsTo s fd ⟨[u],[]⟩ [(x,u)])
  (hsp:∀ H:Hp,Only H -> SqL K H a (ns.map V.int) -> sp [.ref a] H (fun v _=>v=.bl true) fun _ _ _=>False)
  (hCX:∀ H e s',CX [] H s₁ (fun _ _ _=>False) e s' -> False) :
  codeAny (model P w) callerA (.call (.ref fa) ⟨[.ref a],[]⟩) (fun r s'=>r=.ok (.ret (.bool true)) /\ OldK s₁.heap s'.heap /\ s'.os=s₁.os /\ AllBare s'.gens) s₁:=by
 have rv:=iW hi
 have lenV:=hi.length
 have core:∀ H:Hp,Only H -> SqL K H a (ns.map V.int) -> HOk P w H s₁.heap -> (∀ b,H b ≠ none -> b=a) -> (H a ≠ none -> K.lookup a=none) ->
   codeAny (model P w) callerA (.call (.ref fa) ⟨[.ref a],[]⟩) (fun r s'=>r=.ok (.ret (.bool true)) /\ OldK s₁.heap s'.heap /\ s'.os=s₁.os /\ AllBare s'.gens) s₁:=by
  intro H hO hS hok hA hK
  have base_of:∀ {b:Addr} {o:Obj},s₁.heap.get? b=some o -> H b=none -> (jq s₁.heap H).get? b=some o:=fun e n=>pw e n
  have noA:∀ {b:Addr} {o:Obj} {es:Array DictEntry} {ep:Nat},s₁.heap.get? b=some o -> o.data=.dict es ep -> H b=none:=fun {b o es ep} e d=>by
   cases q:H b with
   | none=>rfl
   | some u =>
    have e':b=a:=hA b (by rw [q]; simp)
    subst e'
    rw [ha] at e; cases e
    have d':Data.seq vs.toArray _=Data.dict es ep:=d
    cases d'
  have nsK:∀ {b:Addr} {m:Str -> Option Value},s₁.heap.Ns b m -> (jq s₁.heap H).Ns b m:=fun {b m} ⟨o,es,ep,e,d,r⟩=>⟨o,es,ep,base_of e (noA e d),d,r⟩
  have hKb:K.In (jq s₁.heap H):=fun b o e=>base_of (KX b o e) (by
   cases q:H b with
   | none=>rfl
   | some u =>
    have e':b=a:=hA b (by rw [q]; simp)
    subst e'
    rw [hK (by rw [q]; simp)] at e; cases e)
  have hM:Mod K mg (jq s₁.heap H):=⟨hKb,nsK hns,⟨mb,nsK hb,hbb⟩,let ⟨mc,h1,h2⟩:=hlim; ⟨mc,nsK h1,h2⟩⟩
  have e0:li P w K mg (jq s₁.heap H) callerA [] s₁ H:=⟨rfl,hM,fun b o e=>of_hidT e,Nat.le_of_eq (nJ _ _),trivial,fun b hb=>absurd (show b ∈ ([]:List Addr) from hb) (by simp),hok,.of_eq hg⟩
  refine codeAny_mono ((F _ hKb (nsK hns)).run callerA [] s₁ H ⟨[.ref a],[]⟩ [.ref a] [.ref a] _ _ hr e0 (hbind s₁ (.ref a)) (.cons rfl .nil) (hsp H hO hS)) fun r s' h=>?_
  cases r with
  | error e=>exact (hCX H e s' h).elim
  | ok fl =>
   cases fl with
   | next=>exact False.elim h
   | brk=>exact False.elim h
   | cont=>exact False.elim h
   | ret u =>
    obtain ⟨v,H',os,bare,un,hok',r',q⟩:=h
    have q':v=.bl true:=q
    subst q'
    obtain rfl:u=Value.bool true:=r'
    refine ⟨rfl,OldK.of_keep fun b o e=>?_,os,bare⟩
    cases q:H b with
    | none=>exact un.keep b o e q (by intro z; exact absurd (show b ∈ ([]:List Addr) from z) (by simp)) (by simp)
    | some u =>
     rcases hO b with z | ⟨ob,xs,z⟩
     ·rw [q] at z; cases z
     ·have z2:=un.frzs b ob _ z
      obtain ⟨e1,_⟩:=hok b _ z
      obtain ⟨e2,_⟩:=hok' b _ z2
      rw [e] at e1; cases e1
      exact e2
 cases hk:K.lookup a with
 | some o =>
  have e:=KX a o hk
  rw [ha] at e
  cases e
  refine core (fun _=>none) (fun _=>.inl rfl) (.inr ⟨_,vs.toArray,_,hk,rfl,rfl,rfl,by rw [List.size_toArray,lenV]; exact hl,by simpa using rv⟩) (fun b u z=>by have z':(none:Option HO)=some u:=z; cases z') (fun b z=>absurd rfl z) fun z=>absurd rfl z
 | none =>
  refine core (fun b=>if b=a then some (.frz { cls:=.type "list",data:=.seq vs.toArray } (.lst (ns.map V.int))) else none) (fun b=>?_) (.inl (.inr ⟨{ cls:=.type "list",data:=.seq vs.toArray },if_pos rfl⟩)) (fun b u z=>?_) (fun b z=>?_) fun _=>hk
  ·by_cases hb:b=a
   ·exact .inr ⟨_,_,if_pos hb⟩
   ·exact .inl (if_neg hb)
  ·by_cases hb:b=a
   ·have z':=(if_pos hb).symm.trans z
    cases z'
    subst hb
    exact ⟨ha,by rw [List.length_map]; exact hl,vs,_,rv,ha⟩
   ·have z':=(if_neg hb).symm.trans z
    cases z'
  ·by_cases hb:b=a
   ·exact hb
   ·exact absurd (if_neg hb) z
theorem walk_of {l:PySem.W.OpenLaw} {n k:Nat} {q:Program} {loose:List Str} {XP:(Str -> Option Value) -> Heap -> Prop} {YP:World -> Heap -> Prop} {d:DefRec} {K:Params -> PySem.W.Frag} {CX:World -> CXT} {sp:World -> Sp} {x:Str}
  (hn:l.most=some n) (hn2:n <= sizeLine) (hdf:d.params.defaults=[]) (hr:aZ k callerA)
  (hY:∀ (w:World) (h:Heap),YP w h -> (K w.params).In h)
  (F:∀ (w:World) (mg:Str -> Option Value) (fa:Addr) (h:Heap),(K w.params).In h -> h.Ns mainGlobals mg -> mg d.name=some (.ref fa) ->
   ∃ fd:FuncData,(∀ (s:Shared) (u:Value),BindsTo s fd ⟨[u],[]⟩ [(x,u)]) /\
    ∀ base:Heap,(K w.params).In base -> base.Ns mainGlobals mg -> a7 l.prog w (K w.params) mg base (CX w) k fa fd [x] (sp w))
  (hsp:∀ (w:World) (H:Hp) (a:Addr) (ns:List Int),ns.length <= n -> Only H -> SqL (K w.params) H a (ns.map V.int) -> sp w [.ref a] H (fun v _=>v=.bl true) fun _ _ _=>False)
  (hCX:∀ (w:World) (H:Hp) (s:Shared) (e:Value) (s':Shared),CX w [] H s (fun _ _ _=>False) e s' -> False) :
  PySem.W.WalkO q loose XP YP l.row.toRowW d [] (fun f vs=>PySem.call f vs):=by
 refine Att.kf hn hdf fun w s₀ s₁ mg mb fa o pm cd doc a vs ns G Y ho hd hcd hmg hobj hints hlen hg=>?_
 have KX:=hY w _ Y
 obtain ⟨fd,hb,hF⟩:=F w mg fa _ KX G.T.g hmg
 exact pR KX G.T.g G.T.b G.T.builtins G.T.nolimit hg hobj hints (Nat.le_trans hlen hn2) hr hF hb (fun H hO hS=>hsp w H a ns hlen hO hS) fun H e s'=>hCX w H s₁ e s'
def cX (s:Stmt) (j:Nat):Stmt:=match s with
 | .ClassDef _ _ _ body _ _ _ _ _ _ _=>body.getD j (.Pass ⟨0,0,0,0⟩)
 | _=>.Pass ⟨0,0,0,0⟩
def aI (s:Stmt):Arguments:=match s with
 | .FunctionDef _ a _ _ _ _ _ _ _ _=>a
 | _=>{ posonlyargs:=[],args:=[],vararg:=none,kwonlyargs:=[],kw_defaults:=[],kwarg:=none,defaults:=[] }
def aF (s:Stmt):List Stmt:=match s with
 | .FunctionDef _ _ b _ _ _ _ _ _ _=>b
 | _=>[]
def ai (s:Stmt):Scope:=match s with
 | .FunctionDef _ _ _ _ _ _ sc _ _ _=>sc
 | _=>{ kind:=.function,names:=[],isGenerator:=false,isCoroutine:=false }
abbrev CX0:CXT:=fun _ _ _ _ _ _=>False
abbrev E0:XK:=fun _ _ _=>False
theorem mE {X:Cx}:cS CX0 X E0:=fun _ _ _ _ _ _ _ h=>h.elim
structure Fun (K:PySem.W.Frag) (x qual:Str) (st:Stmt) (f:Addr) (fd:FuncData):Prop where
 ex:∃ (oc:Value) (od:Option Addr) (kV doc pm:Value) (an:Option Addr) (cdv ct:Value) (osl:Array (Option Value)),
  fd=PySem.W.fnOf x qual (aI st) (aF st) (ai st) .none kV doc pm an cdv ct /\ K.lookup f=some ⟨oc,od,.func fd,osl⟩ /\ PySem.W.codeIn K cdv qual=true
 kp:PySem.W.keepIn K (.ref f)=true
section
variable {P:Program} {w:World} {K:PySem.W.Frag} {mg:Str -> Option Value} {base:Heap}
theorem Fun.ok {x qual:Str} {st:Stmt} {f:Addr} {fd:FuncData} {N ps:List Str} {k:Nat} {sp:Sp} (F:Fun K x qual st f fd) (S:aH N ps (ai st)) (len:∀ vs H Q E,sp vs H Q E -> vs.length=ps.length)
  (hbody:∀ (cdv:Value) (A:Around) (outer:List Env) (s:Shared) (H:Hp) (vs:List V) (Q:VK) (E:XK),aZ k (A.deeper (envOfC qual (ai st) s.heap.objs.size f cdv)) -> sp vs H Q E ->
   ∃ t,PSs (eW CX0 P w K mg base N qual (ai st) f cdv A outer s H E).nox (aF st) t /\ t { nx:=fun _ H'=>Q .non H',rt:=Q } (eX N vs) H):a7 P w K mg base CX0 (k + 1) f fd ps sp:=by
 obtain ⟨oc,od,kV,doc,pm,an,cdv,ct,osl,rfl,lk,hcd⟩:=F.ex
 refine fn_of lk hcd S len fun A outer s H vs Q E hr hsp=>?_
 obtain ⟨t,h,q⟩:=hbody cdv A outer s H vs Q E hr hsp
 exact ⟨t,h.nox,q⟩
theorem Fun.binds {x qual:Str} {st:Stmt} {f:Addr} {fd:FuncData} {ps:List Str} (F:Fun K x qual st f fd)
  (h:∀ (kV doc pm:Value) (an:Option Addr) (cdv ct:Value) (us:List Value),us.length=ps.length -> bindArgs (PySem.W.fnOf x qual (aI st) (aF st) (ai st) .none kV doc pm an cdv ct) ⟨us,[]⟩=pure (ps.zip us)):cQ K fd ps []:=by
 obtain ⟨oc,od,kV,doc,pm,an,cdv,ct,osl,rfl,lk,hcd⟩:=F.ex
 exact .all (h kV doc pm an cdv ct)
theorem aP {x qual:Str} {st:Stmt} {f:Addr} {oc:Value} {od an:Option Addr} {osl:Array (Option Value)} {kV doc pm cdv ct:Value} (l:K.lookup f=some ⟨oc,od,.func (PySem.W.fnOf x qual (aI st) (aF st) (ai st) .none kV doc pm an cdv ct),osl⟩)
  (c:PySem.W.codeIn K cdv qual=true) (k:PySem.W.keepIn K (.ref f)=true):Fun K x qual st f (PySem.W.fnOf x qual (aI st) (aF st) (ai st) .none kV doc pm an cdv ct):=⟨⟨oc,od,kV,doc,pm,an,cdv,ct,osl,rfl,l,c⟩,k⟩
end
theorem hu_of {A:Around} {k:Nat} (hr:aZ k A):A.units + 1 < cLine:=Nat.lt_of_le_of_lt (Nat.add_le_add_left (by decide:1 <= 64) _) hr.units
theorem bz {n:Nat} (h:n <= 1000):n < sizeLine:=Nat.lt_of_le_of_lt h (by decide)
section
variable {X:Cx}
theorem pv (i:Nat) {x:Str} {pos:Pos} (hN:X.N[i]?=some x:=by rfl) (hv:Vis X.env.scope x:=by first | exact Or.inl rfl | exact Or.inr (Or.inl rfl) | exact Or.inr (Or.inr rfl)) (hd:(x == ("__debug__":Str))=false:=by decide)
  (hcd:(x == ("__classdict__":Str))=false:=by decide):PE X (.Name x pos) (kP i):=pe_var hN hv hd hcd
end
theorem aN {A B:Prop} (h:B):if false=true then A else B:=by
 rw [if_neg Bool.false_ne_true]
 exact h
theorem aQ {A B:Prop} (h:A):if true=true then A else B:=by
 rw [if_pos rfl]
 exact h
theorem bD {c A B:Prop} [Decidable c] (h1:c -> A) (h2:¬ c -> B):if c then A else B:=by
 by_cases h:c
 ·rw [if_pos h]
  exact h1 h
 ·rw [if_neg h]
  exact h2 h
theorem pS {c A B:Prop} [Decidable c] (hc:c) (h:B):if (!decide c)=true then A else B:=by
 rw [decide_eq_true hc]
 exact aN h
def aA (H H':Hp):Prop:=∀ b o,H b=some o -> H' b=some o
theorem aA.refl (H:Hp):aA H H:=fun _ _ h=>h
theorem aA.trans {H H1 H2:Hp} (a:aA H H1) (b:aA H1 H2):aA H H2:=fun c o h=>b c o (a c o h)
theorem aA.free {H H':Hp} (e:aA H H') {l:Addr} (h:H' l=Option.none):H l=Option.none:=by
 cases q:H l with
 | none=>rfl
 | some o =>
  rw [e l o q] at h
  cases h
theorem aA.seq {K:PySem.W.Frag} {H H':Hp} {a:Addr} {xs:List V} (e:aA H H') (h:SqL K H a xs):SqL K H' a xs:=by
 rcases h with (h | ⟨o,h⟩) | h
 ·exact .inl (.inl (e _ _ h))
 ·exact .inl (.inr ⟨o,e _ _ h⟩)
 ·exact .inr h
section
variable {κ:Type} [DecidableEq κ]
end
theorem fe {env:Env}:∀ (l:List (Str × NameKind)) (acc:List (Str × Addr)),(∀ x ∈ l,x.2=NameKind.free -> ∃ c,env.cells.lookup x.1=some c) -> (∀ x c,acc.lookup x=some c -> env.cells.lookup x=some c) ->
  ∃ cl:List (Str × Addr),(forIn l acc (fun (p:Str × NameKind) (cs:List (Str × Addr))=>if (p.2 == NameKind.free)=true then (do let c <- cellOf env p.1; pure (ForInStep.yield ((p.1,c) :: cs))) else pure (ForInStep.yield cs)):Sem (List (Str × Addr)))=pure cl /\
   (∀ x c,cl.lookup x=some c -> env.cells.lookup x=some c) /\ (∀ x,(x,NameKind.free) ∈ l -> ∃ c,cl.lookup x=some c) /\ ∀ x c,acc.lookup x=some c -> ∃ c',cl.lookup x=some c'
 | [],acc,_,ha=>⟨acc,rfl,ha,fun _ z=>(nomatch z),fun x c e=>⟨c,e⟩⟩
 | (n,k) :: r,acc,h,ha=>by
  by_cases hk:k=NameKind.free
  ·subst hk
   obtain ⟨c,hc⟩:=h (n,NameKind.free) List.mem_cons_self rfl
   obtain ⟨cl,e1,e2,e3,e4⟩:=fe r ((n,c) :: acc) (fun x hx=>h x (List.mem_cons_of_mem _ hx)) (fun x c' e=>by
    by_cases hx:x=n
    ·subst hx
     simp only [List.lookup_cons,beq_self_eq_true] at e
     cases e
     exact hc
    ·have hb:(x == n)=false:=by simpa using hx
     simp only [List.lookup_cons,hb] at e
     exact ha x c' e)
   have hn:∃ c',cl.lookup n=some c':=e4 n c (by simp only [List.lookup_cons,beq_self_eq_true])
   refine ⟨cl,?_,e2,fun x hx=>?_,fun x c' e=>?_⟩
   ·have hcell:cellOf env n=pure c:=by unfold cellOf; rw [hc]
    rw [List.forIn_cons]
    show ((if (NameKind.free == NameKind.free)=true then (do let c <- cellOf env n; pure (ForInStep.yield ((n,c) :: acc))) else pure (ForInStep.yield acc)) >>= _)=pure cl
    rw [if_pos (by decide),hcell,pure_bind,pure_bind]
    exact e1
   ·rcases List.mem_cons.mp hx with q | q
    ·cases q; exact hn
    ·exact e3 x q
   ·by_cases hx:x=n
    ·subst hx; exact hn
    ·refine e4 x c' ?_
     have hb:(x == n)=false:=by simpa using hx
     simp only [List.lookup_cons,hb]
     exact e
  ·obtain ⟨cl,e1,e2,e3,e4⟩:=fe r acc (fun x hx=>h x (List.mem_cons_of_mem _ hx)) ha
   refine ⟨cl,?_,e2,fun x hx=>?_,e4⟩
   ·have hb:(k == NameKind.free)=false:=by simpa using hk
    rw [List.forIn_cons]
    show ((if (k == NameKind.free)=true then (do let c <- cellOf env n; pure (ForInStep.yield ((n,c) :: acc))) else pure (ForInStep.yield acc)) >>= _)=pure cl
    rw [hb,if_neg (by decide),pure_bind]
    exact e1
   ·rcases List.mem_cons.mp hx with q | q
    ·cases q; exact absurd rfl hk
    ·exact e3 x q
theorem lw {scope:Scope} {env:Env} (h:∀ x ∈ scope.names,x.2=NameKind.free -> ∃ c,env.cells.lookup x.1=some c) :
  ∃ cl:List (Str × Addr),closureFor scope env=pure cl /\ (∀ x c,cl.lookup x=some c -> env.cells.lookup x=some c) /\ ∀ x,(x,NameKind.free) ∈ scope.names -> ∃ c,cl.lookup x=some c:=by
 obtain ⟨cl,e1,e2,e3,_⟩:=fe scope.names [] h (fun x c e=>by simp at e)
 refine ⟨cl,?_,e2,e3⟩
 unfold closureFor
 show (forIn scope.names [] _ >>= fun cs=>pure cs)=pure cl
 have e1':(forIn scope.names ([]:List (Str × Addr)) (fun (x:Str × NameKind) (cs:List (Str × Addr))=>if (x.2 == NameKind.free)=true then (do let c <- cellOf env x.1; pure (ForInStep.yield ((x.1,c) :: cs))) else pure (ForInStep.yield cs)):Sem (List (Str × Addr)))=pure cl:=e1
 have e5:∀ (m:Sem (List (Str × Addr))),m=pure cl -> (m >>= fun cs=>pure cs)=pure cl:=fun m e=>by rw [e,pure_bind]
 exact e5 _ e1'
def cxC (X:Cx) (scope:Scope) (cl:List (Str × Addr)) (N2 ys:List Str) (C:Addr) (s:Shared) (H:Hp) (fp:List Addr):Cx :=
 { prog:=X.prog,w:=X.w,K:=X.K,mg:=X.mg,base:=X.base,A:=X.A,N:=N2 ++ ys,s₀:=s,H₀:=H,env:=compEnvC scope cl C X.env,outer:=X.stack,stack:=X.stack,ex:=fp,fn:=fun _=>false,calm:=X.calm,pn:=[],xe:=fun _ _=>False }
def PTs (X:Cx) (ifs:List Expr) (t:TT):Prop :=
 ∀ (pins:List (Addr × Obj)) (s:Shared) (σ:St) (H:Hp) (Q:Bool -> Hp -> Prop),Inv X pins σ H s -> t σ H Q ->
  wpAny (model X.prog X.w) X.A (forIn ifs true fun c r=>if r=true then do let ok <- isTrue c X.env (eval c X.env); pure (ForInStep.yield ok) else pure (ForInStep.yield r)) (TP X pins σ Q) X.xe s
def iG:TT:=fun _ H Q=>Q true H
theorem bU {X:Cx}:PTs X [] iG:=fun _ _ _ H _ I h=>wpAny_tests_nil ⟨H,I,h⟩
theorem dE {X:Cx} {c:Expr} {t:TT} (h:PT X c t):PTs X [c] t:=fun pins s σ H Q I q=>wpAny_tests_one (h pins s σ H Q I q)
theorem kg {prog:Program} {w:World} {A:Around} {R:Result -> Shared -> Prop} {s:Shared} {elt target iter:Expr} {ifs:List Expr} {scope:Scope} {pos:Pos} {it acc:Value} {env:Env} (I:Nat -> Shared -> Prop)
  (turn:∀ n s,I n s -> wpAny (model prog w) A (pyNext it) (fun r s₁=>match r with
   | none=>R (.ok .next) s₁
   | some v=>wpAny (model prog w) A (letOwnedTupleGo target it v) (fun _ s₁'=>wpAny (model prog w) A (assign target env v) (fun _ s₂ =>
     wpAny (model prog w) A (forIn ifs true fun c r=>if r=true then do let ok <- isTrue c env (eval c env); pure (ForInStep.yield ok) else pure (ForInStep.yield r)) (fun ok s₃ =>
      if ok=true then wpAny (model prog w) A (eval elt env) (fun x s₄ =>
       wpAny (model prog w) A (call (.builtin "list.append") [acc,x]) (fun _ s₅=>∃ m,m < n /\ I m s₅) (notedBy (model prog w) A env fun e s'=>R (.error e) s') s₄) (notedBy (model prog w) A env fun e s'=>R (.error e) s') s₃
      else ∃ m,m < n /\ I m s₃) (notedBy (model prog w) A env fun e s'=>R (.error e) s') s₂) (notedBy (model prog w) A env fun e s'=>R (.error e) s') s₁') (notedBy (model prog w) A env fun e s'=>R (.error e) s') s₁) (notedBy (model prog w) A env fun e s'=>R (.error e) s') s)
  (n:Nat) (h:I n s) :
  codeAny (model prog w) A (.compLoop (.ListComp elt [⟨target,iter,ifs,0⟩] scope pos) 0 it acc env) R s:=by
 refine codeAny_loop rfl I (fun n s hI=>?_) n h
 show wpAny _ A ((compTurn (.ListComp elt [⟨target,iter,ifs,0⟩] scope pos) 0 it acc env).onRaise (fun x=>do noteFrame x env; theTreesLotGoes x)) _ _ s
 refine wpAny_noted ?_
 rw [compTurn_list]
 refine wpAny_bind (wpAny_standAt (wpAny_bind (wpAny_mono (turn n s hI) (fun r s₁ h₁=>?_) fun _ _ h'=>h')))
 cases r with
 | none=>exact wpAny_pure h₁
 | some v =>
  refine wpAny_bind (wpAny_mono h₁ (fun _ s₁' h₁'=>?_) fun _ _ h'=>h')
  refine wpAny_bind (wpAny_mono h₁' (fun _ s₂ h₂=>wpAny_bind (wpAny_mono h₂ (fun ok s₃ h₃=>?_) fun _ _ h'=>h')) fun _ _ h'=>h')
  cases ok with
  | false=>exact wpAny_pure ⟨rfl,h₃⟩
  | true =>
   exact wpAny_bind (wpAny_bind (wpAny_mono h₃ (fun x s₄ h₄=>wpAny_bind (wpAny_mono h₄ (fun _ s₅ h₅=>wpAny_pure (wpAny_pure ⟨rfl,h₅⟩)) fun _ _ h'=>h')) fun _ _ h'=>h'))
def LCT (k:Nat) (g:TG) (tt:TT) (te:TE) (σ:St) (Q:VK) (J:It) (H1:Hp):Prop:=∀ D,H1 D=none -> ∃ W:Nat -> Nat -> List V -> Hp -> Prop,(∃ m,W 0 m [] (upd H1 D (.lst []))) /\ ∀ i m ys H,W i m ys H ->
 (J.stop i H /\ Q (.ref D) H) \/ (J.go i H /\ ∀ x H',J.yld i H x H' -> g x (σ ++ List.replicate k none) H' fun σ2 H2=>(∃ τ:St,σ2=σ ++ τ /\ τ.length=k) /\
  tt σ2 H2 fun b H3=>if b=true then te σ2 H3 fun y H4=>H4 D=some (.lst ys) /\ ys.length < sizeLine /\ ∃ m',m' < m /\ W (i + 1) m' (ys ++ [y]) (upd H4 D (.lst (ys ++ [y]))) else ∃ m',m' < m /\ W (i + 1) m' ys H3)
def tLC (k:Nat) (wi:TI) (g:TG) (tt:TT) (te:TE):TE:=fun σ H Q=>wi σ H (LCT k g tt te σ Q)
theorem br {env:Env}:∀ {names:List (Str × NameKind)} {x:Str} {k:NameKind},(names.map fun (n,k)=>if (k == NameKind.free && env.scope.kind == .function && env.kindOf n == some .cell) then (n,NameKind.cell) else (n,k)).lookup x=some k ->
  (names.lookup x=some k) \/ (names.lookup x=some .free /\ k=.cell)
 | [],_,_,h=>by simp at h
 | (n,k0) :: r,x,k,h=>by
  have ih:=@br env r x k
  have h:List.lookup x ((if (k0 == NameKind.free && env.scope.kind == .function && env.kindOf n == some .cell)=true then (n,NameKind.cell) else (n,k0)) :: r.map fun (n,k)=>if (k == NameKind.free && env.scope.kind == .function && env.kindOf n == some .cell) then (n,NameKind.cell) else (n,k))=some k:=h
  cases hx:x == n with
  | true =>
   by_cases hc:(k0 == NameKind.free && env.scope.kind == .function && env.kindOf n == some .cell)=true
   ·rw [if_pos hc] at h
    simp only [List.lookup_cons,hx] at h
    cases h
    have hf:k0=.free:=by
     have:=hc
     simp only [Bool.and_eq_true,beq_iff_eq] at this
     exact this.1.1
    right
    simp only [List.lookup_cons,hx,hf,and_self]
   ·rw [if_neg hc] at h
    simp only [List.lookup_cons,hx] at h
    cases h
    left
    simp only [List.lookup_cons,hx]
  | false =>
   have h':List.lookup x (r.map fun (n,k)=>if (k == NameKind.free && env.scope.kind == .function && env.kindOf n == some .cell) then (n,NameKind.cell) else (n,k))=some k:=by
    by_cases hc:(k0 == NameKind.free && env.scope.kind == .function && env.kindOf n == some .cell)=true
    ·rw [if_pos hc] at h
     simp only [List.lookup_cons,hx] at h
     exact h
    ·rw [if_neg hc] at h
     simp only [List.lookup_cons,hx] at h
     exact h
   rcases ih h' with q | q
   ·left; simp only [List.lookup_cons,hx]; exact q
   ·right; simp only [List.lookup_cons,hx]; exact q
theorem lcJ {J:It} {n k:Nat} {σ:St} {H1:Hp} {te:TE} {Q:VK} (xv:Nat -> V) (Pv:Addr -> Nat -> List V -> Hp -> Prop) (hk:σ.length=k)
  (hgo:∀ D i ys H,i < n -> Pv D i ys H -> J.go i H) (hyld:∀ D i ys H x H',i < n -> Pv D i ys H -> J.yld i H x H' -> H'=H /\ x=xv i) (hstop:∀ D ys H,Pv D n ys H -> J.stop n H)
  (h0:∀ D,H1 D=none -> Pv D 0 [] (upd H1 D (.lst [])))
  (turn:∀ D i ys H (post:VK),i < n -> Pv D i ys H -> (∀ y H4,H4 D=some (.lst ys) -> ys.length < sizeLine -> Pv D (i + 1) (ys ++ [y]) (upd H4 D (.lst (ys ++ [y]))) -> post y H4) -> te (σ ++ [some (xv i)]) H post)
  (fin:∀ D ys H,Pv D n ys H -> Q (.ref D) H) :
  LCT 1 (bY k) iG te σ Q J H1:=by
 intro D hD
 refine ⟨fun i m ys H=>m=n - i /\ i <= n /\ Pv D i ys H,⟨n,by simp,Nat.zero_le _,h0 D hD⟩,?_⟩
 rintro i m ys H ⟨rfl,hi,p⟩
 by_cases hlt:i < n
 ·refine .inr ⟨hgo D i ys H hlt p,fun x H' y=>?_⟩
  obtain ⟨rfl,rfl⟩:=hyld D i ys H x H' hlt p y
  have e:(σ ++ List.replicate 1 (none:Option V)).set k (some (xv i))=σ ++ [some (xv i)]:=by
   subst hk
   simp [List.set_append]
  unfold bY
  rw [e]
  unfold iG
  refine ⟨⟨_,rfl,rfl⟩,?_⟩
  refine aQ ?_
  exact turn D i ys H' _ hlt p fun y H4 h1 h2 h3=>⟨h1,h2,n - (i + 1),by lia,rfl,hlt,h3⟩
 ·have e:i=n:=by lia
  subst e
  exact .inl ⟨hstop D ys H p,fin D ys H p⟩
end L2
namespace L2
open PySem PySem.Spec PyProof.Rows PySem.Builtin PySem.Builtin.Str
section
variable {X:Cx}
theorem aV {K:PySem.W.Frag} {T:String}:PySem.W.kitOne K (.type T) (.type T)=some true:=by
 unfold PySem.W.kitOne
 rw [if_pos (by simp)]
def rSlS:V -> Option Int -> Option Int -> Hp -> VK -> Prop:=fun x lo hi H Q=>∃ z,x=.str z /\ z.length <= sizeLine /\ Q (.str (Txt.slice z lo hi)) H
theorem lx:SlR X rSlS:=by
 intro pins s σ H x v vl vu lo hi sl Q I rx hs pl pu h
 obtain ⟨z,rfl,hz,q⟩:=h
 obtain ⟨t,rfl⟩:=rx
 refine ⟨"str",_,F.slot_str_getitem.lookup,typeIs_str _ _ _,?_⟩
 have key:∀ (l u:Option (Int × Tok)),vl=partValue l -> vu=partValue u -> lo=l.map (·.1) -> hi=u.map (·.1) -> wpAny (model X.prog X.w) X.A (getItem (.str z t) (.ref sl)) (EP X pins σ Q) X.xe s:=by
  rintro l u rfl rfl rfl rfl
  refine wpAny_getItem_str_slice (l:=l) (u:=u) (st:=none) ?_ rfl (post_val_or_str ⟨Nat.le_trans (Txt.slice_le z _ _) hz,fun t' k=>⟨.str _,H,I.tok _,⟨_,rfl⟩,q⟩⟩)
  obtain ⟨o,h1,h2,h3⟩:=hs
  exact ⟨o,h1,h2,h3⟩
 cases pl with
 | none =>
  cases pu with
  | none=>exact key none none rfl rfl rfl rfl
  | int j t2=>exact key none (some (j,t2)) rfl rfl rfl rfl
 | int i t1 =>
  cases pu with
  | none=>exact key (some (i,t1)) none rfl rfl rfl rfl
  | int j t2=>exact key (some (i,t1)) (some (j,t2)) rfl rfl rfl rfl
theorem ff:∀ {ys:List Str} {us:List Value},aU (ys.map V.str) us -> StrsAre us ys
 | [],us,r=>by
  cases r
  exact .nil
 | y :: ys,us,r=>by
  have r:aU (V.str y :: ys.map V.str) us:=r
  cases r with
  | cons h t =>
   obtain ⟨tk,rfl⟩:=h
   exact .cons _ _ (ff t)
def rJoin (K:PySem.W.Frag):V -> List V -> Hp -> VK -> Prop:=fun x vs H Q=>∃ z p ys,x=.str z /\ vs=[.ref p] /\ SqL K H p (ys.map V.str) /\ (ys.map (·.length)).sum + ys.length * z.length <= 16777216 /\ Q (.str (Txt.join z ys)) H
theorem mF:MtR X "str.join" (rJoin X.K):=by
 intro pins s σ H x vs v us Q I rx rv h
 obtain ⟨z,p,ys,rfl,rfl,hS,hz,q⟩:=h
 obtain ⟨t,rfl⟩:=rx
 obtain ⟨u,rfl,ru⟩:=rv.one
 cases ru
 obtain ⟨its,r,hp,_⟩:=I.list hS
 exact join_list hp.isList (by simpa using ff r) hz fun t' k=>⟨.str _,H,I.tok _,⟨_,rfl⟩,q⟩
end
end L2
namespace L2
open PySem PySem.Spec PyProof.Rows
theorem upd_id {H:Hp} {a:Addr} {o:HO} (h:H a=some o):upd H a o=H:=by
 funext b
 unfold upd
 split
 ·rename_i e; subst e; exact h.symm
 ·rfl
section
variable {X:Cx}
theorem op_neE (hu:X.A.units + 1 < cLine):OpR X (compareOp .NotEq) (fun x y H Q=>∃ a b xs,x=.ref a /\ y=.ref b /\ SqL X.K H a xs /\ SqL X.K H b [] /\ Q (.bl (!xs.isEmpty)) H):=by
 intro pins s σ H x y v u Q I rx ry h
 obtain ⟨a,b,xs,rfl,rfl,ha,hb,q⟩:=h
 cases rx
 cases ry
 obtain ⟨its,rv,p,_⟩:=I.list ha
 obtain ⟨its2,rv2,p2,_⟩:=I.list hb
 cases rv2
 have hl:=rv.length
 cases xs with
 | nil =>
  cases rv
  exact SeqAt.RcNeAt.lists (e:=fun _=>true) p.isList p2.isList rfl (Nat.lt_of_succ_lt hu) (fun j h1 _=>absurd h1 (by simp)) _ _ _ _ (aS I q (by rfl))
 | cons z r =>
  exact SeqAt.RcNeAt.lists_lengths p.isList p2.isList (by simp only [List.size_toArray,<- hl,List.length_cons,List.length_nil]; simp) (Nat.lt_of_succ_lt hu) _ _ _ _ (aS I q (by rfl))
theorem mG {bs:List Bool} {us:List Value} (r:aU (bs.map V.bl) us) {i:Nat} {v:Value} (h:us[i]?=some v):∃ b,bs[i]?=some b /\ v=.bool b:=by
 have hl:=r.length
 rw [List.length_map] at hl
 have hi:i < bs.length:=by have:=(List.getElem?_eq_some_iff.mp h).1; lia
 obtain ⟨u,e,ru⟩:=r.get (i:=i) (x:=V.bl bs[i]) (by rw [List.getElem?_map,List.getElem?_eq_getElem hi]; rfl)
 rw [h] at e; cases e
 exact ⟨_,List.getElem?_eq_getElem hi,ru⟩
theorem ly (bs:List Bool):((List.range bs.length).all fun i=>(bs[i]?).getD true)=bs.all id:=by
 rw [Bool.eq_iff_iff,List.all_eq_true,List.all_eq_true]
 constructor
 ·intro h b hb
  obtain ⟨i,hi,rfl⟩:=List.mem_iff_getElem.mp hb
  have:=h i (List.mem_range.mpr hi)
  rw [List.getElem?_eq_getElem hi] at this
  exact this
 ·intro h i hi
  have hi:=List.mem_range.mp hi
  rw [List.getElem?_eq_getElem hi]
  exact h _ (List.getElem_mem hi)
theorem dl (hc:X.calm=true):cm X (.builtin "all") (fun xs H Q=>∃ (p:Addr) (bs:List Bool),xs=[.ref p] /\ SqL X.K H p (bs.map V.bl) /\ Q (.bl (bs.all id)) H):=by
 intro pins s σ H xs us Q I rv h
 obtain ⟨p,bs,rfl,hS,q⟩:=h
 obtain ⟨u,rfl,ru⟩:=rv.one
 cases ru
 obtain ⟨its,r,hp,_⟩:=I.list hS
 have hlen:its.length=bs.length:=by have:=r.length; rw [List.length_map] at this; lia
 have hl:=hp.isList
 have hlt:p < s.heap.objs.size:=by obtain ⟨_,e,_⟩:=hl; exact Heap.lt_size e
 refine call_all_walk (wpAny_pyIter_list hl ?_)
 refine ⟨s.heap.objs.size,[s.heap.objs.size,p],[s.heap.objs.size],its.toArray.size,_,_,fun i=>(bs[i]?).getD true,rfl,Walks.list (A:=X.A.in1) (I.ok.hd hc) _ p (Nat.ne_of_lt hlt) its.toArray,
  ⟨⟨_,Heap.get?_push_size _ rfl,rfl,rfl⟩,hl.push _⟩,fun i v s' Q' E' hP hQ=>?_,fun h' tk hk=>?_⟩
 ·obtain ⟨b,e,rfl⟩:=mG r (i:=i) (v:=v) (by simpa using hP)
  simp only [e,Option.getD_some] at hQ
  exact wpAny_truthy_bool hQ
 ·rw [List.size_toArray,hlen,ly]
  refine ⟨.bl _,H,I.kept (t':=tk) fun b o e=>hk b o (fun hm=>?_) (Heap.get?_push_of_some _ e),rfl,q⟩
  rw [List.mem_singleton.mp hm] at e
  exact Nat.lt_irrefl _ (Heap.lt_size e)
end
theorem lcP {J:It} {n k:Nat} {σ:St} {H1:Hp} {g:TG} {tt:TT} {te:TE} {Q:VK} (xv:Nat -> V) (Pv:Addr -> Nat -> List V -> Hp -> Prop)
  (hgo:∀ D i ys H,i < n -> Pv D i ys H -> J.go i H) (hyld:∀ D i ys H x H',i < n -> Pv D i ys H -> J.yld i H x H' -> H'=H /\ x=xv i) (hstop:∀ D ys H,Pv D n ys H -> J.stop n H)
  (h0:∀ D,H1 D=none -> Pv D 0 [] (upd H1 D (.lst [])))
  (turn:∀ D i ys H (yes:VK) (no:Hp -> Prop),i < n -> Pv D i ys H -> (∀ y H4,H4 D=some (.lst ys) -> ys.length < sizeLine -> Pv D (i + 1) (ys ++ [y]) (upd H4 D (.lst (ys ++ [y]))) -> yes y H4) -> (∀ H3,Pv D (i + 1) ys H3 -> no H3) ->
   g (xv i) (σ ++ List.replicate k none) H fun σ2 H2=>(∃ τ:St,σ2=σ ++ τ /\ τ.length=k) /\ tt σ2 H2 fun b H3=>if b=true then te σ2 H3 yes else no H3)
  (fin:∀ D ys H,Pv D n ys H -> Q (.ref D) H):LCT k g tt te σ Q J H1:=by
 intro D hD
 refine ⟨fun i m ys H=>m=n - i /\ i <= n /\ Pv D i ys H,⟨n,by simp,Nat.zero_le _,h0 D hD⟩,?_⟩
 rintro i m ys H ⟨rfl,hi,p⟩
 by_cases hlt:i < n
 ·refine .inr ⟨hgo D i ys H hlt p,fun x H' y=>?_⟩
  obtain ⟨rfl,rfl⟩:=hyld D i ys H x H' hlt p y
  exact turn D i ys H' _ _ hlt p (fun y H4 h1 h2 h3=>⟨h1,h2,n - (i + 1),by lia,rfl,hlt,h3⟩) fun H3 h3=>⟨n - (i + 1),by lia,rfl,hlt,h3⟩
 ·have e:i=n:=by lia
  subst e
  exact .inl ⟨hstop D ys H p,fin D ys H p⟩
theorem mH {X:Cx} {elt tg iter:Expr} {ifs:List Expr} {scope:Scope} {pos cpos:Pos} {use:Option (Value -> Sem Unit)} {QQ:Value -> Shared -> Prop} {pins:List (Addr × Obj)} {s:Shared} {σ:St} {H:Hp} {Q:VK} {wi:TI} {g:TG} {tt:TT} {te:TE}
  (N N2 ys:List Str) (sc:Scope) (hc:X.calm=true) (hNe:X.N=N) (hNl:N2.length=N.length) (hsub:∀ p ∈ N2.zip N,p.1=p.2 \/ ¬ scope.names.lookup p.1=some .free) (hsc:X.env.scope=sc) (hkind:scope.kind=.function) (hcell:∀ y ∈ scope.names,y.2 ≠ .cell) (hnames:∀ y ∈ scope.names,y.2=.local -> scope.names.lookup y.1=some .local)
  (hfr:∀ y ∈ scope.names,y.2=.free -> sc.names.lookup y.1=some .cell) (hloc:∀ y ∈ N2,scope.names.lookup y ≠ some .local)
  (hi:PI X tg iter wi) (hg:∀ cl C s H fp,PG (cxC X scope cl N2 ys C s H fp) tg g) (ht:∀ cl C s H fp,PTs (cxC X scope cl N2 ys C s H fp) ifs tt) (he:∀ cl C s H fp,PE (cxC X scope cl N2 ys C s H fp) elt te)
  (I:Inv X pins σ H s) (h:tLC ys.length wi g tt te σ H Q)
  (fin0:∀ (D C:Addr) (H':Hp) (s':Shared),Inv X pins σ H' s' -> gA X pins H' C -> (∃ m,s'.heap.Ns C m) -> Q (.ref D) H' -> compPost (model X.prog X.w) X.A X.xe use QQ (.ref D) C (.ok .next) s')
  (hs:∀ x,foldedSetIterable iter X.env x=pure x:=by intro _; rfl) :
  wpAny (model X.prog X.w) X.A (comprehension (.ListComp elt [⟨tg,iter,ifs,0⟩] scope pos) scope X.env cpos (newList []) false (eval iter X.env) use) QQ X.xe s:=by
 obtain ⟨cl,hclos,cl1,cl2⟩:=lw (scope:=scope) (env:=X.env) (fun x hx hf=>I.ok.has x.1 (.inl (by
  show X.env.scope.names.lookup x.1=_
  rw [hsc]; exact hfr x hx hf)))
 refine wpAny_comprehension_free (use:=use) rfl hs hclos hkind hnames (thn (hi pins s σ H _ I h) fun v s1 h1=>thn h1 fun itv s2 h2=>?_)
 obtain ⟨it,fp,tn,J,H2,e,I2,T,st2,f2,hD⟩:=h2
 subst e
 refine wpAny_newObj_type (wpAny_newFunctionEnv hcell (by intro y hy; simp at hy) (fun h₁ hns₁ hsb₁=>?_) hkind)
 have I3:Inv X pins σ (upd H2 s2.heap.objs.size (.lst [])) { s2 with heap:=s2.heap.push { cls:=.type "list",data:=.seq ([]:List Value).toArray },toks:=s2.toks }:=I2.lnew (ys:=[]) (its:=[]) .nil (Nat.zero_le _)
 have fD:H2 s2.heap.objs.size=none:=I2.hok.fresh (Nat.le_refl _)
 obtain ⟨W,⟨m0,w0⟩,turn⟩:=hD _ fD
 have hfp2:∀ b ∈ fp,b < s2.heap.objs.size:=fun b hb=>by
  obtain ⟨o,e,_⟩:=T.obj 0 s2.heap st2 b hb
  exact Heap.lt_size e
 dsimp only at hns₁ hsb₁ I3 ⊢
 generalize hH2:s2.heap.push { cls:=.type "list",dict:=none,data:=.seq ([]:List Value).toArray }=H3h at hns₁ hsb₁ I3 ⊢
 generalize hDd:s2.heap.objs.size=D at *
 have hC:H3h.objs.size=D + 1:=by rw [<- hH2,Heap.size_push,hDd]
 generalize hCc:H3h.objs.size=C at *
 have hDC:D < C:=by rw [hC]; exact Nat.lt_succ_self _
 have hCD:C ≠ D:=Nat.ne_of_gt hDC
 have hfpC:∀ b ∈ fp,b ≠ C:=fun b hb=>Nat.ne_of_lt (Nat.lt_trans (hfp2 b hb) hDC)
 have hfpD:∀ b ∈ fp,b ≠ D:=fun b hb=>Nat.ne_of_lt (hfp2 b hb)
 have old2:∀ b o,s2.heap.get? b=some o -> H3h.get? b=some o:=fun b o e=>by rw [<- hH2]; exact Heap.get?_push_of_some _ e
 have old:∀ b o,H3h.get? b=some o -> h₁.get? b=some o:=fun b o e=>hsb₁.extBut b o (Nat.ne_of_lt (by have:=Heap.lt_size e; rw [hCc] at this; exact this)) (Heap.get?_push_of_some _ e)
 have frH:upd H2 D (.lst []) C=none:=by rw [au hCD]; exact I2.hok.fresh (by rw [hDd]; exact Nat.le_of_lt hDC)
 have ok':(cxC X scope cl N2 ys C { s2 with heap:=H3h } (upd H2 D (.lst [])) fp).Ok:=by
  refine ⟨I.ok.mod,hkind,I.ok.glob,I.ok.blt,?_,?_,?_,?_,I.ok.hd,I.ok.frames,.inl rfl,?_,?_,?_,?_,?_,?_,?_⟩
  ·show H3h.objs.size <= C
   exact Nat.le_of_eq hCc
  ·intro x y c h1 h2
   exact I.ok.inj x y c (cl1 x c h1) (cl1 y c h2)
  ·intro x hx
   have hx:(relabel scope X.env).names.lookup x=some .cell \/ (relabel scope X.env).names.lookup x=some .free:=hx
   have key:scope.names.lookup x=some .free \/ scope.names.lookup x=some .cell:=by
    rcases hx with q | q
    ·rcases br q with z | z
     ·exact .inr z
     ·exact .inl z.1
    ·rcases br q with z | z
     ·exact .inl z
     ·exact .inl z.1
   rcases key with q | q
   ·exact cl2 x (PySem.mem_of_lookup q)
   ·exact absurd rfl (hcell _ (PySem.mem_of_lookup q))
  ·intro x c z _
   exact absurd (show false=true from z) (by decide)
  ·intro b hb
   refine ⟨fun z=>?_,fun x c e=>?_⟩
   ·exact hfpC b hb z
   ·exact (f2 b hb).2.2.2.2.1 x c (cl1 x c e)
  ·intro b o e
   exact ⟨I3.bk b o e,(I3.bs b o e).2⟩
  ·exact Nat.le_trans I.ok.bsz I3.sz
  ·intro b o e hb
   rcases (f2 b hb).2.2.2.1 with q | q
   ·exact I.ok.noex b o e q
   ·exact absurd (Nat.lt_of_lt_of_le (Heap.lt_size e) (Nat.le_trans I.ok.bsz q)) (Nat.lt_irrefl _)
  ·intro b hb hz
   rcases List.mem_cons.mp (I.stkSub b hz) with q | q
   ·exact (f2 b hb).2.1 q
   ·exact (f2 b hb).2.2.1 q
  ·exact I3.stack
  ·intro b hb
   exact I3.stkFree b hb
 have lenN:N2.length=X.N.length:=by rw [hNl,hNe]
 have lenR:(σ ++ List.replicate ys.length (none:Option V)).length=(N2 ++ ys).length:=by
  rw [List.length_append,List.length_append,List.length_replicate,I.len,lenN]
 have I4:Inv (cxC X scope cl N2 ys C { s2 with heap:=H3h } (upd H2 D (.lst [])) fp) [] (σ ++ List.replicate ys.length none) (upd H2 D (.lst [])) { s2 with heap:=h₁,toks:=s2.toks + ([]:List (Str × Value)).length }:=by
  refine ⟨ok',rfl,I2.bare,Un.kept old,⟨_,hns₁,?_⟩,?_,frH,?_,?_,I3.hok.kept old,lenR⟩
  ·intro i x v h1 h2 h3
   have hi:i < X.N.length:=by
    by_cases hi:i < X.N.length
    ·exact hi
    ·exfalso
     rw [List.getElem?_append_right (by rw [I.len]; lia),List.getElem?_replicate] at h2
     split at h2 <;> cases h2
   have h1:N2[i]?=some x:=by
    have h1:(N2 ++ ys)[i]?=some x:=h1
    rw [List.getElem?_append_left (by rw [lenN]; exact hi)] at h1
    exact h1
   have h2:σ[i]?=some (some v):=by
    rw [List.getElem?_append_left (by rw [I.len]; exact hi)] at h2
    exact h2
   have h3:Vis (relabel scope X.env) x:=h3
   have hx:x ∈ N2:=List.mem_of_getElem? h1
   have hfree:scope.names.lookup x=some .free:=by
    rcases h3 with q | q | q
    ·rcases br q with z | z
     ·exact absurd z (hloc x hx)
     ·exact z.1
    ·rcases br q with z | z
     ·exact absurd rfl (hcell _ (PySem.mem_of_lookup z))
     ·exact z.1
    ·rcases br q with z | z
     ·exact z
     ·exact z.1
   have h1:X.N[i]?=some x:=by
    rw [hNe] at hi ⊢
    have h1z:(N2.zip N)[i]?=some (x,N[i]):=by
     rw [List.getElem?_zip_eq_some]
     exact ⟨h1,List.getElem?_eq_getElem hi⟩
    rcases hsub _ (List.mem_of_getElem? h1z) with e | e
    ·rw [List.getElem?_eq_getElem hi]
     exact congrArg some e.symm
    ·exact absurd hfree e
   have hk:X.env.scope.names.lookup x=some .cell:=by rw [hsc]; exact hfr _ (PySem.mem_of_lookup hfree) rfl
   obtain ⟨m,hn,hl⟩:=I3.loc
   obtain ⟨u,r,l⟩:=hl i x v h1 h2 (.inr (.inl hk))
   refine ⟨u,r,.inr ⟨?_,?_⟩⟩
   ·show (relabel scope X.env).names.lookup x=some .cell \/ (relabel scope X.env).names.lookup x=some .free
    rcases h3 with q | q | q
    ·rcases br q with z | z
     ·exact absurd z (hloc x hx)
     ·cases z.2
    ·exact .inl q
    ·exact .inr q
   ·rcases l with ⟨q,_⟩ | ⟨_,c,e,z⟩
    ·have q:X.env.scope.names.lookup x=some .local:=q
     rw [hk] at q; cases q
    ·obtain ⟨c',e'⟩:=cl2 x (PySem.mem_of_lookup hfree)
     have:=cl1 x c' e'
     rw [e] at this; cases this
     obtain ⟨o,ho,hd⟩:=z
     exact ⟨c,e',o,old c o ho,hd⟩
  ·intro x c e
   obtain ⟨v,o,ho,hd⟩:=I3.cell x c (cl1 x c e)
   exact ⟨v,o,old c o ho,hd⟩
  ·intro x c e
   exact I3.freeC x c (cl1 x c e)
  ·intro p hp
   exact absurd (show p ∈ ([]:List (Addr × Obj)) from hp) (by simp)
 have stat:∀ {H':Hp},(∀ b ∈ fp,H' b=none) -> ∀ b ∈ fp,gA (cxC X scope cl N2 ys C { s2 with heap:=H3h } (upd H2 D (.lst [])) fp) [] H' b:=fun hn b hb=>by
  refine ⟨hn b hb,fun z=>?_,ok'.exfs b hb,.inl hb,fun x c e=>(f2 b hb).2.2.2.2.1 x c (cl1 x c e),fun p hp=>absurd (show p ∈ ([]:List (Addr × Obj)) from hp) (by simp)⟩
  exact hfpC b hb z
 have frD:∀ b ∈ fp,upd H2 D (.lst []) b=none:=fun b hb=>by
  rw [au (hfpD b hb)]
  exact (f2 b hb).1
 have tn4:tn 0 h₁:=T.keep _ _ _ st2 fun b _ o e=>old b o (old2 b o e)
 have fin:∀ {σ':St} {H':Hp} {s':Shared},Inv (cxC X scope cl N2 ys C { s2 with heap:=H3h } (upd H2 D (.lst [])) fp) [] σ' H' s' -> Q (.ref D) H' ->
   compPost (model X.prog X.w) X.A X.xe use QQ (.ref D) C (.ok .next) s':=fun {σ' H' s'} I' q=>by
  obtain ⟨m,hn,_⟩:=I'.loc
  have uab:Un (frs X.stack) fp H2 H' s2.heap s'.heap:=(Un.laid (fs:=frs X.stack) (ex:=fp) (h:=s2.heap) (h':=H3h) (a:=D) (o:=.lst []) old2 (Nat.le_of_eq hDd) fD).trans I'.base
  have I'':Inv X pins σ H' s':=I2.call' (ch:=fp) I'.os uab I'.hok I'.bare (fun b hb=>by
   obtain ⟨f0,f1,_,f3,f4,f5⟩:=f2 b hb
   exact ⟨f3,f1,f4,f5⟩)
  exact fin0 D C H' s' I'' (I2.fpOk (by rw [hDd]; exact Nat.le_of_lt hDC) I'.free) ⟨m,hn⟩ q
 have loop:codeAny (model X.prog X.w) X.A (.compLoop (.ListComp elt [⟨tg,iter,ifs,0⟩] scope pos) 0 (.ref it) (.ref D) (compEnvC scope cl C X.env)) (compPost (model X.prog X.w) X.A X.xe use QQ (.ref D) C) { s2 with heap:=h₁,toks:=s2.toks + ([]:List (Str × Value)).length }:=by
  refine kg (fun n s'=>∃ i zs H',Inv (cxC X scope cl N2 ys C { s2 with heap:=H3h } (upd H2 D (.lst [])) fp) [] (σ ++ List.replicate ys.length none) H' s' /\ tn i s'.heap /\ (∀ b ∈ fp,H' b=none) /\ W i n zs H') ?_ m0
   ⟨0,[],_,I4,tn4,frD,w0⟩
  rintro n s3 ⟨i,zs,H3,J3,st3,fr3,w3⟩
  rcases turn i n zs H3 w3 with ⟨stop,qn⟩ | ⟨go,step⟩
  ·refine thn (T.done (cxC X scope cl N2 ys C { s2 with heap:=H3h } (upd H2 D (.lst [])) fp) rfl rfl rfl hc i [] s3 _ H3 _ J3 (stat fr3) st3 stop) fun r s4 ⟨hr,J4⟩=>?_
   subst hr
   exact fin J4 qn
  ·refine thn (T.item (cxC X scope cl N2 ys C { s2 with heap:=H3h } (upd H2 D (.lst [])) fp) rfl rfl rfl hc i [] s3 _ H3 _ J3 (stat fr3) st3 go) fun r s4 ⟨u,hr,h4⟩=>?_
   subst hr
   refine thn h4 fun _ s5 ⟨x,H5,J5,r5,y5,st5,fr5⟩=>?_
   have J5':=J5.pinned (stat fr5) (T.obj _ _ st5)
   refine wpAny_mono (hg cl C _ _ fp _ s5 _ H5 x u _ J5' r5 (step x H5 y5)) (fun _ s6 ⟨σ6,H6,J6,⟨τ,eτ,lτ⟩,q6⟩=>?_) fun _ _ z=>False.elim z
   refine wpAny_mono (ht cl C _ _ fp _ s6 σ6 H6 _ J6 q6) (fun b s7 ⟨H7,J7,q7⟩=>?_) fun _ _ z=>False.elim z
   have again:∀ {H8:Hp} {s8:Shared} {zs':List V},Inv (cxC X scope cl N2 ys C { s2 with heap:=H3h } (upd H2 D (.lst [])) fp) ([] ++ gW fp s5.heap) σ6 H8 s8 -> (∃ m',m' < n /\ W (i + 1) m' zs' H8) ->
     ∃ m,m < n /\ ∃ i zs H',Inv (cxC X scope cl N2 ys C { s2 with heap:=H3h } (upd H2 D (.lst [])) fp) [] (σ ++ List.replicate ys.length none) H' s8 /\ tn i s8.heap /\ (∀ b ∈ fp,H' b=none) /\ W i m zs H':=fun {H8 s8 zs'} J8 ⟨m',hm,w8⟩=>by
    refine ⟨m',hm,i + 1,zs',H8,J8.unpinned.weak (by rw [eτ,List.length_append,List.length_append,List.length_replicate,lτ]) (fun j v e=>?_),T.keep _ _ _ st5 fun b hb o e=>(J8.pin (b,o) (List.mem_append_right _ (List.mem_append_right _ (dA hb e)))).1,fun b hb=>?_,w8⟩
    ·rw [eτ]
     by_cases hj:j < σ.length
     ·rw [List.getElem?_append_left hj] at e ⊢
      exact e
     ·exfalso
      rw [List.getElem?_append_right (by lia),List.getElem?_replicate] at e
      split at e <;> cases e
    ·obtain ⟨o,e,d⟩:=T.obj _ _ st5 b hb
     exact (J8.pin (b,o) (List.mem_append_right _ (List.mem_append_right _ (dA hb e)))).2.1
   cases b with
   | false =>
    rw [if_neg (by decide)] at q7 ⊢
    exact again J7 q7
   | true =>
    rw [if_pos rfl] at q7 ⊢
    refine wpAny_mono (he cl C _ _ fp _ s7 σ6 H7 _ J7 q7) (fun y s8 ⟨yv,H8,J8,r8,hD8,hz8,w8⟩=>?_) fun _ _ z=>False.elim z
    refine wpAny_mono (fX (X:=(cxC X scope cl N2 ys C { s2 with heap:=H3h } (upd H2 D (.lst [])) fp)) _ s8 σ6 H8 (.ref D) [yv] (.ref D) [y] (fun _ H9=>∃ m',m' < n /\ W (i + 1) m' (zs ++ [yv]) H9) J8 rfl (.cons r8 .nil) ⟨D,zs,yv,rfl,rfl,hD8,hz8,w8⟩) (fun _ s9 ⟨_,H9,J9,_,w9⟩=>?_) fun _ _ z=>False.elim z
    exact again J9 w9
 exact codeAny_compStart_list loop (T.self _ 0 _ _ _ tn4 loop)
theorem cE {X:Cx} {elt tg iter:Expr} {ifs:List Expr} {scope:Scope} {pos:Pos} {wi:TI} {g:TG} {tt:TT} {te:TE}
  (N N2 ys:List Str) (sc:Scope) (hc:X.calm=true) (hNe:X.N=N) (hNl:N2.length=N.length) (hsub:∀ p ∈ N2.zip N,p.1=p.2 \/ ¬ scope.names.lookup p.1=some .free) (hsc:X.env.scope=sc) (hkind:scope.kind=.function) (hcell:∀ y ∈ scope.names,y.2 ≠ .cell) (hnames:∀ y ∈ scope.names,y.2=.local -> scope.names.lookup y.1=some .local)
  (hfr:∀ y ∈ scope.names,y.2=.free -> sc.names.lookup y.1=some .cell) (hloc:∀ y ∈ N2,scope.names.lookup y ≠ some .local)
  (hi:PI X tg iter wi) (hg:∀ cl C s H fp,PG (cxC X scope cl N2 ys C s H fp) tg g) (ht:∀ cl C s H fp,PTs (cxC X scope cl N2 ys C s H fp) ifs tt) (he:∀ cl C s H fp,PE (cxC X scope cl N2 ys C s H fp) elt te)
  (hs:∀ x,foldedSetIterable iter X.env x=pure x:=by intro _; rfl) :
  PE X (.ListComp elt [⟨tg,iter,ifs,0⟩] scope pos) (tLC ys.length wi g tt te):=by
 intro pins s σ H Q I h
 rw [eval_ListComp]
 refine mH (use:=none) N N2 ys sc hc hNe hNl hsub hsc hkind hcell hnames hfr hloc hi hg ht he I h (fun D C H' s' I' cf hns q=>?_) hs
 obtain ⟨m,hn⟩:=hns
 obtain ⟨f0,f1,f2,f3,f4,f5⟩:=cf
 exact ⟨m,hn,fun h' hs'=>⟨.ref D,H',I'.turned (t':=s'.toks) (it:=C) (fun b o hb e=>(hs'.2 b hb).trans e) f0 f1 f3 f4 f5,rfl,q⟩⟩
theorem mI {X:Cx} {elt tg iter:Expr} {ifs:List Expr} {scope:Scope} {pos spos py:Pos} {wi:TI} {g:TG} {tt:TT} {te:TE} {i:Nat} {y:Str} (hN:X.N.Nodup) (hiy:X.N[i]?=some y) (hy:Loc X.env.scope y)
  (N N2 ys:List Str) (sc:Scope) (hc:X.calm=true) (hNe:X.N=N) (hNl:N2.length=N.length) (hsub:∀ p ∈ N2.zip N,p.1=p.2 \/ ¬ scope.names.lookup p.1=some .free) (hsc:X.env.scope=sc) (hkind:scope.kind=.function) (hcell:∀ y ∈ scope.names,y.2 ≠ .cell) (hnames:∀ y ∈ scope.names,y.2=.local -> scope.names.lookup y.1=some .local)
  (hfr:∀ y ∈ scope.names,y.2=.free -> sc.names.lookup y.1=some .cell) (hloc:∀ y ∈ N2,scope.names.lookup y ≠ some .local)
  (hi:PI X tg iter wi) (hg:∀ cl C s H fp,PG (cxC X scope cl N2 ys C s H fp) tg g) (ht:∀ cl C s H fp,PTs (cxC X scope cl N2 ys C s H fp) ifs tt) (he:∀ cl C s H fp,PE (cxC X scope cl N2 ys C s H fp) elt te)
  (hsw:swapsWith (.ListComp elt [⟨tg,iter,ifs,0⟩] scope pos) (some (.Name y py)) spos.line X.env=pure true)
  (hs:∀ x,foldedSetIterable iter X.env x=pure x:=by intro _; rfl) (hf:X.fn y=true \/ X.env.scope.names.lookup y=some .local:=by first | exact .inl rfl | exact .inr rfl | assumption) :
  PS X (.Assign [.Name y py] (.ListComp elt [⟨tg,iter,ifs,0⟩] scope pos) spos) (tAsg (tLC ys.length wi g tt te) (bY i)):=by
 intro pins s σ H D I h
 rw [exec_Assign_Name_used _ _ _ _ hsw]
 refine wpAny_bind (wpAny_standAt (wpAny_bind ?_))
 show wpAny _ X.A (do let _ <- comprehension (.ListComp elt [⟨tg,iter,ifs,0⟩] scope pos) scope X.env _ (newList []) false (eval iter X.env) (some (assign (.Name y py) X.env))) _ _ s
 refine wpAny_bind (wpAny_mono (mH (use:=some (assign (.Name y py) X.env)) (QQ:=fun _ s'=>SP X pins D .next s') N N2 ys sc hc hNe hNl hsub hsc hkind hcell hnames hfr hloc hi hg ht he I h (fun D' C H' s' I' cf hns q=>?_) hs) (fun _ s' hq=>wpAny_pure (wpAny_pure hq)) fun _ _ e=>e)
 obtain ⟨m,hn⟩:=hns
 obtain ⟨f0,f1,f2,f3,f4,f5⟩:=cf
 show wpAny _ X.A (assign (.Name y py) X.env (.ref D')) _ _ s'
 refine wpAny_assign_Name (iK I' hN hiy hy (show aY (V.ref D') (Value.ref D') from rfl) (fun s'' I'' hsb=>?_) hf)
 obtain ⟨a,sb,ha⟩:=hsb
 have hCa:C ≠ a:=by
  rcases ha with e | e
  ·rw [e]; exact f1
  ·exact (f4 y a e).symm
 refine ⟨m,hn.sameBut sb hCa,fun h' hs'=>⟨_,H',?_,q⟩⟩
 exact I''.turned (t':=s''.toks) (it:=C) (fun b o hb e=>(hs'.2 b hb).trans e) f0 f1 f3 f4 f5
theorem nZ {us:List Value} {ss:List Str} (h:StrsAre us ss):aU (ss.map V.str) us:=by
 induction h with
 | nil=>exact .nil
 | cons y t r ih=>exact .cons ⟨t,rfl⟩ ih
def leS (a b:Str):Prop:=ltCps b.cps.toList a.cps.toList=false
theorem iH {vs:List Value} {ss:List Str} (hS:StrsAre vs ss) {xs:Array Keyed} (hp:xs.Perm (pairsOf vs)) (hs:SortedToK strKind xs (pairsOf vs).size) :
  ∃ ss',StrsAre (xs.map (·.2)).toList ss' /\ ss'.Perm ss /\ ss'.Pairwise leS:=by
 have hl:xs.toList.Perm (vs.zip vs):=by rw [<- pairsOf_toList]; exact Array.perm_iff_toList_perm.mp hp
 have hmem:∀ p,p ∈ xs.toList -> p.1=p.2 /\ p.1 ∈ vs:=fun p hp'=>mem_zip_self (hl.mem_iff.mp hp')
 refine ⟨xs.toList.map (fun p=>strOf p.1),?_,?_,?_⟩
 ·have e:(xs.map (·.2)).toList=xs.toList.map (·.1):=by
   rw [Array.toList_map]; exact List.map_congr_left fun p hp'=>(hmem p hp').1.symm
  rw [e]
  have h1:=strsAre_map (xs.toList.map (·.1)) (by
   intro v hv
   obtain ⟨p,hp',rfl⟩:=List.mem_map.mp hv
   exact hS.all _ (hmem p hp').2)
  rwa [List.map_map] at h1
 ·have h1:=hl.map (fun p=>strOf p.1)
  have e2:(vs.zip vs).map (fun p=>strOf p.1)=ss:=by
   have:(vs.zip vs).map (fun p=>strOf p.1)=((vs.zip vs).map Prod.fst).map strOf:=by rw [List.map_map]; rfl
   rw [this,List.map_fst_zip (Nat.le_refl _),hS.strs]
  rwa [e2] at h1
 ·rw [List.pairwise_iff_getElem]
  intro i j hi hj hij
  have hi':i < xs.size:=by simpa using hi
  have hj':j < xs.size:=by simpa using hj
  have h1:=hs i j (Nat.le_of_lt hij) (by rw [<- hp.size_eq]; exact hj')
  obtain ⟨x,t,ex⟩:=hS.all _ (hmem xs[i] (by simp)).2
  obtain ⟨y,u,ey⟩:=hS.all _ (hmem xs[j] (by simp)).2
  rw [KK_str hi' (x:=x) (t:=t) (q:=xs[i].2) (Prod.ext ex rfl),KK_str hj' (x:=y) (t:=u) (q:=xs[j].2) (Prod.ext ey rfl)] at h1
  change decide (y.cps.toList < x.cps.toList)=false at h1
  unfold leS
  simp only [List.getElem_map,Array.getElem_toList]
  rw [show strOf xs[i].1=x by rw [ex]; rfl,show strOf xs[j].1=y by rw [ey]; rfl,ltCps_eq]
  exact h1
section
variable {X:Cx}
theorem Inv.turnedT {pins:List (Addr × Obj)} {σ:St} {H:Hp} {s:Shared} {h':Heap} {t':Nat} {ch:List Addr} {T:Addr} {xs:List V} {us:List Value} (I:Inv X pins σ H s) (k:∀ b o,b ∉ ch -> s.heap.get? b=some o -> h'.get? b=some o)
  (hf:∀ b ∈ ch,gA X pins H b) (hT:s.heap.objs.size <= T) (hz:xs.length <= sizeLine) (hv:aU xs us) (ht:IsTup h' T us.toArray):Inv X pins σ (upd H T (.tup xs)) { s with heap:=h',toks:=t' }:=by
 have hn:H T=none:=I.hok.fresh hT
 have nch:∀ b u,H b=some u -> b ∉ ch:=fun b u e z=>by rw [(hf b z).1] at e; cases e
 refine I.step (g':=s.gens) (d':=s.drawn) (ch:=ch) (fun b hb=>?_) (fun b o _ _ hc e _=>k b o hc e) (fun b o _ _ hc e _=>⟨o.slots,k b o hc e⟩) (fun b o _ e n=>?_)
  (fun b o hc e=>⟨o,k b o hc e⟩) (fun b ys e=>?_) (fun b o u e=>?_) (fun b ps e=>⟨#[],?_⟩) (fun m hm=>?_) (fun b u e=>?_) I.bare
 ·obtain ⟨_,h1,_,h3,h4,h5⟩:=hf b hb
  exact ⟨h3,h1,h4,h5⟩
 ·rw [au (Nat.ne_of_lt (Nat.lt_of_lt_of_le (Heap.lt_size e) hT))]
  exact n
 ·rw [au (am e hn)]; exact e
 ·rw [au (am e hn)]; exact e
 ·rw [au (am e hn),e]; simp
 ·obtain ⟨o,es,ep,ho,r⟩:=hm
  exact ⟨o,es,ep,k _ o (fun z=>(hf _ z).2.1 rfl) ho,r⟩
 ·by_cases hb:b=T
  ·subst hb
   rw [ar] at e
   cases e
   exact ⟨hz,us,hv,ht⟩
  ·rw [au hb] at e
   refine (I.hok b u e).stay (fun c v hc q=>k c v ?_ q) (fun c q=>by rw [au (am q hn)]; exact q) fun c ys q=>by rw [au (am q hn)]; exact q
   rcases hc with z | z
   ·rw [z]; exact nch b u e
   ·exact nch c _ z
theorem Inv.turnedL {pins:List (Addr × Obj)} {σ:St} {H:Hp} {s:Shared} {h':Heap} {t':Nat} {ch:List Addr} (I:Inv X pins σ H s) (k:∀ b o,b ∉ ch -> s.heap.get? b=some o -> h'.get? b=some o)
  (hf:∀ b ∈ ch,gA X pins H b):Inv X pins σ H { s with heap:=h',toks:=t' }:=by
 have nch:∀ b u,H b=some u -> b ∉ ch:=fun b u e z=>by rw [(hf b z).1] at e; cases e
 refine I.step (g':=s.gens) (d':=s.drawn) (ch:=ch) (fun b hb=>?_) (fun b o _ _ hc e _=>k b o hc e) (fun b o _ _ hc e _=>⟨o.slots,k b o hc e⟩) (fun b o _ e n=>n)
  (fun b o hc e=>⟨o,k b o hc e⟩) (fun b ys e=>e) (fun b o u e=>e) (fun b ps e=>⟨#[],by rw [e]; simp⟩) (fun m hm=>?_) (fun b u e=>?_) I.bare
 ·obtain ⟨_,h1,_,h3,h4,h5⟩:=hf b hb
  exact ⟨h3,h1,h4,h5⟩
 ·obtain ⟨o,es,ep,ho,r⟩:=hm
  exact ⟨o,es,ep,k _ o (fun z=>(hf _ z).2.1 rfl) ho,r⟩
 ·refine (I.hok b u e).stay (fun c v hc q=>k c v ?_ q) (fun c q=>q) fun c ys q=>q
  rcases hc with z | z
  ·rw [z]; exact nch b u e
  ·exact nch c _ z
end
end L2
namespace KR
open PySem
section
variable {prog:Program} {w:World} {A:Around} {E:Value -> Shared -> Prop} {s:Shared}
end
end KR
namespace L2
open PySem PySem.Spec PyProof.Rows
section
variable {X:Cx}
theorem op_eqE (hu:X.A.units + 1 < cLine):OpR X (compareOp .Eq) (fun x y H Q=>∃ a b xs,x=.ref a /\ y=.ref b /\ SqL X.K H a xs /\ SqL X.K H b [] /\ Q (.bl xs.isEmpty) H):=by
 intro pins s σ H x y v u Q I rx ry h
 obtain ⟨a,b,xs,rfl,rfl,ha,hb,q⟩:=h
 cases rx
 cases ry
 obtain ⟨its,rv,p,_⟩:=I.list ha
 obtain ⟨its2,rv2,p2,_⟩:=I.list hb
 cases rv2
 have hl:=rv.length
 cases xs with
 | nil =>
  cases rv
  exact SeqAt.RcAt.lists (e:=fun _=>true) p.isList p2.isList rfl (Nat.lt_of_succ_lt hu) (fun j h1 _=>absurd h1 (by simp)) _ _ _ _ (aS I q (by rfl))
 | cons z r =>
  exact SeqAt.RcAt.lists_lengths p.isList p2.isList (by simp only [List.size_toArray,<- hl,List.length_cons,List.length_nil]; simp) (Nat.lt_of_succ_lt hu) _ _ _ _ (aS I q (by rfl))
def Itx (x:Str):It:=⟨fun i _=>i < x.cps.size,fun i H v H'=>H'=H /\ ∃ c,x.cps[i]?=some c /\ v=.str ⟨#[c]⟩,fun i _=>i=x.cps.size⟩
theorem pT {P:Program} {w:World} {K:PySem.W.Frag} {tg:Expr} (it:Addr) (x:Str) (t:Tok) {ty:String} (hty:ty="str_ascii_iterator" \/ ty="str_iterator"):jr P w K tg (Itx x) [it] it (fun i h=>h.IsStrIter it ty x t i) where
 mem:=by simp
 obj:=fun i h st b hb=>by
  have e:b=it:=by simpa using hb
  subst e
  obtain ⟨o,e,c,d⟩:=st
  exact ⟨o,e,fun v z=>by rw [d] at z; cases z⟩
 keep:=fun i h h' st k=>by
  obtain ⟨o,e,c⟩:=st
  exact ⟨o,k it (by simp) o e,c⟩
 item:=by
  intro X hP hw hK hc i pins s σ H E I hf st hg
  subst hP hw hK
  have W:Walks X.prog X.w X.A it [it] [it] x.cps.size (SignAt x) (fun i h=>h.IsStrIter it ty x t i):=by
   rcases hty with rfl | rfl
   ·exact Walks.strAscii (I.ok.hd hc) it x t
   ·exact Walks.strWide (I.ok.hd hc) it x t
  refine W.item i s _ _ hg st fun v h' tk hv st' kk=>?_
  obtain ⟨c,u,e1,rfl⟩:=hv
  have I1:Inv X pins σ H { s with heap:=h',toks:=tk }:=I.turnedL (ch:=[it]) kk (fun b hb=>hf b hb)
  obtain ⟨o,eo,co,d⟩:=id st'
  refine ⟨_,rfl,j3 (s:={ s with heap:=h',toks:=tk }) (n:=ty) eo co d (by rcases hty with rfl | rfl <;> decide) ⟨.str ⟨#[c]⟩,H,I1,⟨u,rfl⟩,⟨rfl,c,e1,rfl⟩,st',fun b hb=>(hf b hb).1⟩⟩
 done:=by
  intro X hP hw hK hc i pins s σ H E I hf st hg
  subst hP hw hK
  have W:Walks X.prog X.w X.A it [it] [it] x.cps.size (SignAt x) (fun i h=>h.IsStrIter it ty x t i):=by
   rcases hty with rfl | rfl
   ·exact Walks.strAscii (I.ok.hd hc) it x t
   ·exact Walks.strWide (I.ok.hd hc) it x t
  have hg:i=x.cps.size:=hg
  subst hg
  exact W.done s _ _ st fun h' tk kk=>⟨rfl,I.turnedL (ch:=[it]) kk (fun b hb=>hf b hb)⟩
 self:=fun _ _ _ _ _ st h=>by
  rcases hty with rfl | rfl
  ·exact wpAny_pyIter_striter_ascii st h
  ·exact wpAny_pyIter_striter_wide st h
def iStr (te:TE):TI:=fun σ H R=>te σ H fun x H1=>∃ z:Str,x=.str z /\ R (Itx z) H1
theorem pU {tg e:Expr} {te:TE} (he:PE X e te):PI X tg e (iStr te):=by
 intro pins s σ H R I h
 refine thn (he pins s σ H _ I h) fun v s1 ⟨x,H1,I1,r1,q1⟩=>?_
 obtain ⟨z,e,q⟩:=q1
 subst e
 obtain ⟨t,rfl⟩:=r1
 refine wpAny_pyIter_strU ?_
 have hty:strIterType z="str_ascii_iterator" \/ strIterType z="str_iterator":=by
  unfold strIterType
  split
  ·exact .inl rfl
  ·exact .inr rfl
 refine ⟨s1.heap.objs.size,[s1.heap.objs.size],_,_,H1,rfl,I1.kept (t':=s1.toks) fun b o e=>Heap.get?_push_of_some _ e,pT s1.heap.objs.size z t hty,⟨_,Heap.get?_push_size _ rfl,rfl,rfl⟩,fun b hb=>?_,q⟩
 have e:b=s1.heap.objs.size:=by simpa using hb
 subst e
 exact I1.fpOk (Nat.le_refl _) (I1.hok.fresh (Nat.le_refl _))
def Th1 (H:Hp) (x:V):Prop:=cc x=true \/ ∃ (a:Addr) (xs:List V),x=.ref a /\ (Rd H a (.tup xs) \/ Rd H a (.lst xs))
theorem Th1.same {H H':Hp} {x:V} (e:aA H H') (h:Th1 H x):Th1 H' x:=by
 rcases h with h | ⟨a,xs,rfl,h⟩
 ·exact .inl h
 ·refine .inr ⟨a,xs,rfl,?_⟩
  rcases h with (h | ⟨o,h⟩) | (h | ⟨o,h⟩)
  ·exact .inl (.inl (e _ _ h))
  ·exact .inl (.inr ⟨o,e _ _ h⟩)
  ·exact .inr (.inl (e _ _ h))
  ·exact .inr (.inr ⟨o,e _ _ h⟩)
theorem rc_th {A:Around} {pins:List (Addr × Obj)} {σ:St} {H:Hp} {s:Shared} {x:V} {u:Value} {z:Str} {t:Tok} (hu:A.units < cLine) (I:Inv X pins σ H s) (hx:Th1 H x) (r:aY x u):SeqAt.RcAt A s u (.str z t) (decide (x=.str z)):=by
 rcases hx with hx | ⟨a,xs,rfl,hx⟩
 ·cases x with
  | non=>cases r; rw [decide_eq_false (by intro h; cases h)]; exact SeqAt.RcAt.none_str _ _
  | bl b=>cases r; rw [decide_eq_false (by intro h; cases h)]; exact SeqAt.RcAt.bool_str _ _ _
  | int i=>obtain ⟨t',rfl⟩:=r; rw [decide_eq_false (by intro h; cases h)]; exact SeqAt.RcAt.int_str _ _ _ _
  | str y=>obtain ⟨t',rfl⟩:=r; rw [gG]; exact SeqAt.RcAt.str_str _ _ _ _
  | _=>exact absurd hx (by simp [cc])
 ·cases r
  rw [decide_eq_false (by intro h; cases h)]
  rcases hx with hx | hx
  ·obtain ⟨_,its,rv,p⟩:=hx.ok I.hok
   exact SeqAt.RcAt.tuple_str _ _ (show s.heap.IsTuple a its.toArray from p) hu
  ·obtain ⟨_,its,n,rv,p⟩:=hx.ok I.hok
   exact SeqAt.RcAt.list_str (l:=a) (items:=its.toArray) _ _ ⟨_,p,rfl,_,rfl⟩ hu
theorem gH (hu:X.A.units + 1 < cLine):OpR X (compareOp .Eq) (fun x y H Q=>∃ z:Str,y=.str z /\ Th1 H x /\ Q (.bl (decide (x=.str z))) H):=by
 intro pins s σ H x y v u Q I rx ry h
 obtain ⟨z,rfl,hx,q⟩:=h
 obtain ⟨t,rfl⟩:=ry
 exact rc_th (Nat.lt_of_succ_lt hu) I hx rx _ _ _ _ (aS I q rfl)
theorem pV (y z:Str):(y == z)=(z == y):=by
 by_cases h:y=z
 ·rw [h]
 ·rw [beq_eq_false_iff_ne.mpr h,beq_eq_false_iff_ne.mpr (Ne.symm h)]
theorem eq_ht {A:Around} {pins:List (Addr × Obj)} {σ:St} {H:Hp} {s:Shared} {x:V} {u:Value} {z:Str} {t:Tok} (hu:A.units < cLine) (I:Inv X pins σ H s) (hx:Th1 H x) (r:aY x u):SeqAt.EqAt A s (.str z t) u (decide (x=.str z)):=by
 rcases hx with hx | ⟨a,xs,rfl,hx⟩
 ·cases x with
  | non=>cases r; rw [decide_eq_false (by intro h; cases h)]; exact SeqAt.EqAt.str_none _ _
  | bl b=>cases r; rw [decide_eq_false (by intro h; cases h)]; exact SeqAt.EqAt.str_bool _ _ _
  | int i=>obtain ⟨t',rfl⟩:=r; rw [decide_eq_false (by intro h; cases h)]; exact SeqAt.EqAt.str_int _ _ _ _
  | str y =>
   obtain ⟨t',rfl⟩:=r
   rw [gG,pV y z]
   exact SeqAt.EqAt.str_str _ _ _ _
  | _=>exact absurd hx (by simp [cc])
 ·cases r
  rw [decide_eq_false (by intro h; cases h)]
  rcases hx with hx | hx
  ·obtain ⟨_,its,rv,p⟩:=hx.ok I.hok
   exact SeqAt.EqAt.str_tuple _ _ (show s.heap.IsTuple a its.toArray from p) hu
  ·obtain ⟨_,its,n,rv,p⟩:=hx.ok I.hok
   exact SeqAt.EqAt.str_list (l:=a) (items:=its.toArray) _ _ ⟨_,p,rfl,_,rfl⟩ hu
def eqT (x:V):Value -> Bool
 | .str z _=>decide (x=.str z)
 | _=>false
theorem mJ (x:V):∀ {zs:List Str} {us:List Value},aU (zs.map V.str) us -> us.any (eqT x)=zs.any fun z=>decide (x=.str z)
 | [],_,.nil=>rfl
 | z :: zs,_,.cons r t=>by
  obtain ⟨t',rfl⟩:=r
  rw [List.any_cons,List.any_cons,mJ x t]
  rfl
theorem op_inTS (hu:X.A.units + 1 < cLine):OpR X (compareOp .In) (fun x y H Q=>∃ (p:Addr) (zs:List Str),y=.ref p /\ SqT X.K H p (zs.map V.str) /\ Th1 H x /\ Q (.bl (zs.any fun z=>decide (x=.str z))) H):=by
 intro pins s σ H x y v u Q I rx ry h
 obtain ⟨p,zs,rfl,hp,hx,q⟩:=h
 cases ry
 obtain ⟨its,r,pl,hz⟩:=I.tuple hp
 refine SeqAt.in_tupleAt (eqT x) pl (fun w hw=>?_) ⟨.bl _,H,I,rfl,?_⟩
 ·have hw:w ∈ its:=by simpa using hw
  obtain ⟨i,hi,e⟩:=List.mem_iff_getElem.mp hw
  have hl:=r.length
  rw [List.length_map] at hl
  obtain ⟨u',e1,e2⟩:=r.get (i:=i) (x:=.str (zs[i]'(by lia))) (by rw [List.getElem?_map,List.getElem?_eq_getElem (by lia)]; rfl)
  rw [List.getElem?_eq_getElem hi,e] at e1
  cases e1
  obtain ⟨t',rfl⟩:=e2
  exact eq_ht (A:=X.A.in1) hu I hx rx
 ·rw [show its.toArray.any (eqT x)=its.any (eqT x) by simp,mJ x r]
  exact q
inductive Kd:Hp -> V -> String -> Prop
 | non {H:Hp}:Kd H .non "NoneType"
 | bl {H:Hp} (b:Bool):Kd H (.bl b) "bool"
 | int {H:Hp} (i:Int):Kd H (.int i) "int"
 | str {H:Hp} (x:Str):Kd H (.str x) "str"
 | lst {H:Hp} {a:Addr} {xs:List V}:Rd H a (.lst xs) -> Kd H (.ref a) "list"
 | tup {H:Hp} {a:Addr} {xs:List V}:Rd H a (.tup xs) -> Kd H (.ref a) "tuple"
theorem Th1.kd {H:Hp} {x:V} (h:Th1 H x):∃ k,Kd H x k:=by
 rcases h with h | ⟨a,xs,rfl,h⟩
 ·cases x with
  | non=>exact ⟨_,.non⟩
  | bl b=>exact ⟨_,.bl b⟩
  | int i=>exact ⟨_,.int i⟩
  | str y=>exact ⟨_,.str y⟩
  | _=>exact absurd h (by simp [cc])
 ·rcases h with h | h
  ·exact ⟨_,.tup h⟩
  ·exact ⟨_,.lst h⟩
theorem Kd.kit {pins:List (Addr × Obj)} {σ:St} {H:Hp} {s:Shared} {x:V} {u:Value} {k:String} (I:Inv X pins σ H s) (h:Kd H x k) (r:aY x u):∃ Y:Heap -> Prop,PySem.W.KitX X.K u (.type k) Y /\ Y s.heap /\ u ≠ Value.builtin "__main__.__loader__#opaque":=by
 cases h with
 | non=>cases r; exact ⟨_,PySem.W.kitx_none,trivial,fun z=>nomatch z⟩
 | bl b=>cases r; exact ⟨_,PySem.W.kitx_bool,trivial,fun z=>nomatch z⟩
 | int i=>obtain ⟨t,rfl⟩:=r; exact ⟨_,PySem.W.kitx_int,trivial,fun z=>nomatch z⟩
 | str y=>obtain ⟨t,rfl⟩:=r; exact ⟨_,PySem.W.kitx_str,trivial,fun z=>nomatch z⟩
 | lst h =>
  cases r
  obtain ⟨_,its,n,rv,p⟩:=h.ok I.hok
  exact ⟨_,PySem.W.kitx_list,⟨_,p,rfl⟩,fun z=>nomatch z⟩
 | tup h =>
  cases r
  obtain ⟨_,its,rv,o,e1,e2,_⟩:=h.ok I.hok
  exact ⟨_,PySem.W.kitx_tuple,⟨o,e1,e2⟩,fun z=>nomatch z⟩
theorem bM:cm X (.builtin "isinstance") (fun xs H Q=>∃ x c k b,xs=[x,.ty c] /\ Kd H x k /\ PySem.W.kitOne X.K (.type k) (.type c)=some b /\ Q (.bl b) H):=by
 intro pins s σ H xs us Q I rv h
 obtain ⟨x,c,k,b,rfl,hk,e,q⟩:=h
 obtain ⟨u,u2,rfl,r1,r2⟩:=gt rv
 cases r2
 obtain ⟨Y,kx,hy,ne⟩:=hk.kit I r1
 exact PySem.W.kia_one kx I.kIn hy e ne fun tk=>⟨.bl b,H,I.tok tk,rfl,q⟩
end
end L2
namespace HT
open PySem PySem.Spec PyProof.Rows
section
variable {prog:Program} {w:World} {A:Around} {E:Value -> Shared -> Prop} {s:Shared}
theorem og {t sl:Addr} {items:Array Value} {vl vu:Value} {lo hi:Option Int} {Q:Value -> Shared -> Prop} (ht:IsTup s.heap t items) (hs:s.heap.IsSliceOf sl vl vu .none) (pl:IsPart vl lo) (pu:IsPart vu hi)
  (h1:sIx items.size 0 lo=0) (h2:sIx items.size items.size hi=items.size) (h:Q (.ref t) s):wpAny (model prog w) A (getItem (.ref t) (.ref sl)) Q E s:=by
 obtain ⟨os,hos,hcs,hds⟩:=id hs
 have hTs:s.TypeIs (.ref sl) "slice":=⟨os,hos,hcs⟩
 unfold getItem
 try with_reducible refine wpAny_holding ?_
 first | refine wpAny_bind (wpAny_pure ?_) | skip
 refine wpAny_bind (wpAny_sequenceKey ht.typeIs (by decide) ?_)
 refine wpAny_bind (wpAny_callSpecial?_slot (name:=Str.ofString "__getitem__") ht.typeIs PyProof.Rows.slot_tuple_getitem
  (wpAny_call_entry PyProof.Rows.slot_tuple_getitem ht.typeIs entry_tuple_getitem ?_ (args_tuple_getitem _ _)))
 show wpAny _ _ (Builtin.Tuple.tupleItemsOf (.ref t) >>= _) _ _ s
 refine wpAny_bind (tupleItemsOf_ ht ?_)
 refine wpAny_bind (wpAny_typeOf hTs ?_)
 rw [if_pos (by decide)]
 refine wpAny_bind (di hs pl pu ?_)
 rw [h1,h2]
 show wpAny _ _ (if (((0:Nat):Int) == 0 && (1:Int) == 1 && (items.size - 0) == items.size)=true then _ else _) _ _ s
 rw [if_pos (by simp)]
 unfold Builtin.Tuple.tupleIsExact
 refine wpAny_bind (wpAny_bind (wpAny_typeOf ht.typeIs (wpAny_pure ?_)))
 rw [if_pos (by decide)]
 exact wpAny_bind (wpAny_rule (wpAny_pure ⟨_,rfl,wpAny_pure h⟩))
theorem iX {α:Type} (l:List α):∀ k,k <= l.length -> (List.range k).filterMap (fun m=>l[l.length - 1 - m]?)=l.reverse.take k
 | 0,_=>by simp
 | k + 1,h=>by
  rw [List.range_succ,List.filterMap_append,iX l k (by lia),List.take_add_one,List.getElem?_reverse (by lia)]
  have hk:l[l.length - 1 - k]?=some (l[l.length - 1 - k]'(by lia)):=List.getElem?_eq_getElem (by lia)
  simp only [List.filterMap_cons,List.filterMap_nil,hk,Option.toList_some]
theorem pW (xs:Array Value):((List.range xs.size).filterMap fun (m:Nat)=>xs[(((xs.size:Nat):Int) - 1 + (m:Int) * -1).toNat]?).toArray=xs.toList.reverse.toArray:=by
 have e:(fun (m:Nat)=>xs[(((xs.size:Nat):Int) - 1 + (m:Int) * -1).toNat]?)=fun m=>xs.toList[xs.toList.length - 1 - m]?:=by
  funext m
  have:(((xs.size:Nat):Int) - 1 + (m:Int) * -1).toNat=xs.size - 1 - m:=by lia
  rw [this,Array.getElem?_toList,Array.length_toList]
 rw [e]
 have:=iX xs.toList xs.toList.length (Nat.le_refl _)
 rw [Array.length_toList] at this
 rw [Array.length_toList,this,List.take_of_length_le (by simp)]
theorem pX {t b:Addr} {vs ws:List Value} {Q:Value -> Shared -> Prop} (ht:IsTup s.heap t vs.toArray) (hb:IsTup s.heap b ws.toArray) (hv:vs=[]) (h1:Q (.ref b) s):wpAny (model prog w) A (binaryOp .Add (.ref t) (.ref b)) Q E s:=by
 obtain ⟨⟨cls,dd,data,sl⟩,ho,hc,n,hd⟩:=id ht
 obtain ⟨⟨cls2,dd2,data2,sl2⟩,ho2,hc2,n2,hd2⟩:=id hb
 simp only at hc hd hc2 hd2
 subst hc hd hc2 hd2
 exact concat_meets ⟨_,ho,rfl⟩ ⟨_,ho2,rfl⟩ noFill_tuple_add seq_tuple_add PySem.F.slot_tuple_add PySem.F.entry_tuple_add (PySem.F.args_tuple_add_2 _ _)
  (tuple_addW0 t b vs.toArray ws.toArray n n2 dd dd2 sl sl2 (by simp [hv])) ⟨ho,ho2,h1⟩
end
end HT
namespace L2
open PySem PySem.Spec PyProof.Rows
theorem bC {H:Hp} {a:Addr} {o:HO} (h:H a=none):aA H (upd H a o):=fun b u e=>by rw [au (am e h)]; exact e
section
variable {X:Cx}
theorem cz:SlR X (fun x lo hi H Q=>∃ a xs,x=.ref a /\ H a=some (.tup xs) /\ ∀ p H',aA H H' -> H' p=some (.tup (cH xs lo hi)) -> Q (.ref p) H'):=by
 intro pins s σ H x v vl vu lo hi sl Q I rx hs pl pu h
 obtain ⟨a,xs,rfl,hx,q⟩:=h
 by_cases hw:HT.sIx xs.length 0 lo=0 /\ HT.sIx xs.length xs.length hi=xs.length
 ·cases rx
  obtain ⟨its,r,ht,hz⟩:=I.tuple (SqT.of (K:=X.K) hx)
  have hlen:its.toArray.size=xs.length:=by rw [List.size_toArray]; exact r.length.symm
  refine ⟨"tuple",_,PyProof.Rows.slot_tuple_getitem.lookup,ht.typeIs,?_⟩
  refine HT.og ht hs pl pu (by rw [hlen]; exact hw.1) (by rw [hlen]; exact hw.2) ⟨.ref a,H,I,rfl,q a H (aA.refl H) ?_⟩
  rw [hx]
  unfold cH
  rw [hw.1,hw.2]
  simp
 ·exact sl_tup pins s σ H (.ref a) v vl vu lo hi sl Q I rx hs pl pu ⟨a,xs,rfl,SqT.of hx,hw,fun p hp=>q p _ (bC hp) ar⟩
theorem dF:OpR X (binaryOp .Add) (fun x y H Q=>∃ a b xs ys,x=.ref a /\ y=.ref b /\ H a=some (.tup xs) /\ H b=some (.tup ys) /\ xs.length + ys.length <= sizeLine /\ ∀ p H',aA H H' -> H' p=some (.tup (xs ++ ys)) -> Q (.ref p) H'):=by
 intro pins s σ H x y v u Q I rx ry h
 obtain ⟨a,b,xs,ys,rfl,rfl,ha,hb,hz,q⟩:=h
 by_cases hx:xs=[]
 ·subst hx
  cases rx
  cases ry
  obtain ⟨its,r1,p1,_⟩:=I.tuple (SqT.of (K:=X.K) ha)
  obtain ⟨its2,r2,p2,_⟩:=I.tuple (SqT.of (K:=X.K) hb)
  exact HT.pX p1 p2 (r1.nil_iff.mpr rfl) ⟨.ref b,H,I,rfl,q b H (aA.refl H) hb⟩
 ·exact op_catT pins s σ H _ _ v u Q I rx ry ⟨a,b,xs,ys,rfl,rfl,SqT.of ha,SqT.of hb,hx,hz,fun e=>q a H (aA.refl H) (by rw [ha,e,List.append_nil]),fun _ p hp=>q p _ (bC hp) ar⟩
def tLstA (t:TA):TE:=fun σ H Q=>t σ H fun xs H1=>xs.length <= sizeLine /\ ∀ p H2,H1 p=none -> aA H1 H2 -> H2 p=some (.lst xs) -> Q (.ref p) H2
def tTupA (t:TA):TE:=fun σ H Q=>t σ H fun xs H1=>xs.length <= sizeLine /\ ∀ p H2,H1 p=none -> aA H1 H2 -> H2 p=some (.tup xs) -> Q (.ref p) H2
theorem bO {es:List Expr} {t:TA} {pos:Pos} (h:PA X es t):PE X (.List es pos) (tLstA t):=by
 intro pins s σ H Q I hq
 refine wpAny_List_spliced (thn (h pos pins s σ H _ I hq) fun us s1 ⟨xs,H1,I1,r,z,q⟩=>⟨by rw [<- r.length]; exact z,?_⟩)
 have hf:H1 s1.heap.objs.size=none:=I1.hok.fresh (Nat.le_refl _)
 refine ⟨.ref s1.heap.objs.size,upd H1 s1.heap.objs.size (.lst xs),I1.laid (t':=s1.toks) (fun b u e=>Heap.get?_push_of_some _ e) (Nat.le_refl _) ?_,rfl,q _ _ hf (bC hf) ar⟩
 exact ⟨z,us,0,r,Heap.get?_push_size _ rfl⟩
theorem aG {es:List Expr} {t:TA} {pos:Pos} {x1:Nat} (h:PA X es t):PE X (.Tuple es x1 pos) (tTupA t):=by
 intro pins s σ H Q I hq
 refine wpAny_Tuple_spliced (thn (h pos pins s σ H _ I hq) fun us s1 ⟨xs,H1,I1,r,z,q⟩=>⟨by rw [<- r.length]; exact z,?_⟩)
 have hf:H1 s1.heap.objs.size=none:=I1.hok.fresh (Nat.le_refl _)
 refine ⟨.ref s1.heap.objs.size,upd H1 s1.heap.objs.size (.tup xs),I1.laid (t':=s1.toks) (fun b u e=>Heap.get?_push_of_some _ e) (Nat.le_refl _) ?_,rfl,q _ _ hf (bC hf) ar⟩
 exact ⟨z,us,r,⟨_,Heap.get?_push_size _ rfl,rfl,_,rfl⟩⟩
theorem jB:OpR X (binaryOp .Add) (fun x y H Q=>∃ l b xs zs,x=.ref l /\ y=.ref b /\ H l=some (.lst xs) /\ H b=some (.lst zs) /\ xs.length + zs.length <= sizeLine /\ ∀ p H2,H p=none -> aA H H2 -> H2 p=some (.lst (xs ++ zs)) -> Q (.ref p) H2):=by
 intro pins s σ H x y v u Q I rx ry h
 obtain ⟨l,b,xs,zs,h1,h2,h3,h4,h5,q⟩:=h
 exact op_cat pins s σ H x y v u Q I rx ry ⟨l,b,xs,zs,h1,h2,h3,h4,h5,fun p hp=>q p _ hp (bC hp) ar⟩
theorem ib:cm X (.type "list") (fun xs H Q=>∃ p ys,xs=[.ref p] /\ (SqL X.K H p ys \/ SqT X.K H p ys) /\ ∀ l H2,H l=none -> aA H H2 -> H2 l=some (.lst ys) -> Q (.ref l) H2):=by
 intro pins s σ H xs us Q I r h
 obtain ⟨p,ys,h1,h2,q⟩:=h
 exact jA pins s σ H xs us Q I r ⟨p,ys,h1,h2,fun l hl=>q l _ hl (bC hl) ar⟩
end
theorem lcT {x:Str} {k:Nat} {σ:St} {H1:Hp} {te:TE} {Q:VK} (f:Nat -> V) (hk:σ.length=k) (hz:x.cps.size <= 1000)
  (turn:∀ D c ys (post:VK),H1 D=none -> post (f c) (upd H1 D (.lst ys)) -> te (σ ++ [some (.str ⟨#[c]⟩)]) (upd H1 D (.lst ys)) post)
  (fin:∀ D,H1 D=none -> Q (.ref D) (upd H1 D (.lst (x.cps.toList.map f)))):LCT 1 (bY k) iG te σ Q (Itx x) H1:=by
 have hl:x.cps.toList.length=x.cps.size:=Array.length_toList
 refine lcJ (n:=x.cps.size) (fun i=>.str ⟨#[x.cps.toList.getD i 0]⟩) (fun D i ys H=>H1 D=none /\ ys=(x.cps.toList.take i).map f /\ H=upd H1 D (.lst ys)) hk ?_ ?_ ?_ ?_ ?_ ?_
 ·rintro D i ys H hi _
  exact hi
 ·rintro D i ys H y H' hi _ ⟨e,c,hc,rfl⟩
  refine ⟨e,?_⟩
  rw [<- Array.getElem?_toList] at hc
  rw [List.getD_eq_getElem?_getD,hc]; rfl
 ·rintro D ys H _
  exact rfl
 ·intro D hD
  exact ⟨hD,by simp,rfl⟩
 ·rintro D i ys H post hi ⟨h1,h2,rfl⟩ hp
  have hx:x.cps.toList[i]?=some (x.cps.toList.getD i 0):=by rw [List.getD_eq_getElem?_getD,List.getElem?_eq_getElem (by lia)]; rfl
  refine turn D _ ys post h1 (hp _ _ ar ?_ ⟨h1,?_,by rw [fw]⟩)
  ·rw [h2,List.length_map,List.length_take]; exact bz (by lia)
  ·rw [h2,List.take_add_one,hx]; simp
 ·rintro D ys H ⟨h1,h2,rfl⟩
  rw [h2,List.take_of_length_le (by lia)]
  exact fin D h1
section
variable {X:Cx}
theorem fg:cm X (.builtin "sorted") (fun xs H Q=>∃ (p:Addr) (ss:List Str),xs=[.ref p] /\ SqL X.K H p (ss.map V.str) /\ ss.length < 64 /\
  ∀ (l:Addr) (zs:List Str) (H2:Hp),H l=none -> aA H H2 -> H2 l=some (.lst (zs.map V.str)) -> zs.Perm ss -> zs.Pairwise leS -> Q (.ref l) H2):=by
 intro pins s σ H xs us Q I rv h
 obtain ⟨p,ss,rfl,hp,h64,q⟩:=h
 obtain ⟨u,rfl,ru⟩:=rv.one
 cases ru
 obtain ⟨its,r,pl,hz⟩:=I.list hp
 have hS:StrsAre its ss:=ff r
 have hl:its.length=ss.length:=by have:=r.length; rw [List.length_map] at this; exact this.symm
 refine sortedK strKind_oneLt (vs:=its) pl.isList hS.keysOf (fun v₁ v₂ rest e=>keyKind_strs (by rw [<- e]; exact hS)) (by omega) fun st' hp hs=>?_
 obtain ⟨ss',h1,h2,h3⟩:=iH hS hp hs
 obtain ⟨e,he⟩:=sortedAll_at s.heap its ((arrOf st').map (·.2))
 have hf:H (s.heap.objs.size + 1)=none:=I.hok.fresh (Nat.le_succ _)
 refine ⟨.ref (s.heap.objs.size + 1),_,I.laid (t':=s.toks) (a:=s.heap.objs.size + 1) (o:=.lst (ss'.map V.str)) (fun b o e=>sortedAll_old e) (Nat.le_succ _) ?_,rfl,q _ ss' _ hf (bC hf) ar h2 h3⟩
 exact ⟨by rw [List.length_map,h2.length_eq]; exact Nat.le_of_lt (bz (by omega)),((arrOf st').map (·.2)).toList,e,nZ h1,by rw [Array.toArray_toList]; exact he⟩
theorem eg:cm X (.type "tuple") (fun xs H Q=>∃ p ys,xs=[.ref p] /\ SqL X.K H p ys /\ ∀ l H2,H l=none -> aA H H2 -> H2 l=some (.tup ys) -> Q (.ref l) H2):=by
 intro pins s σ H xs us Q I r h
 obtain ⟨p,ys,h1,h2,q⟩:=h
 exact iF pins s σ H xs us Q I r ⟨p,ys,h1,.inl ⟨h2,fun l hl=>q l _ hl (bC hl) ar⟩⟩
theorem pe_orS {a b:Expr} {ta tb:TE} {pos:Pos} (ha:PE X a ta) (hb:PE X b tb):PE X (.BoolOp .Or [a,b] pos) (fun σ H Q=>ta σ H fun x H1=>∃ k,TruV X.K x H1 k /\ if k=true then Q x H1 else tb σ H1 Q):=by
 intro pins s σ H Q I h
 refine BoolOp_or (thn (ha pins s σ H _ I h) fun v s1 ⟨x,H1,I1,r1,k,hk,q⟩=>?_)
 refine thn (tru_ok pins s1 σ H1 x v (fun c H2=>c=k /\ H2=H1) I1 r1 ⟨k,hk,rfl,rfl⟩) fun c s2 ⟨H2,I2,e1,e2⟩=>?_
 subst e1 e2
 cases c with
 | true=>exact ⟨x,H2,I2,r1,q⟩
 | false=>exact BoolOp_one (hb pins s2 σ H2 Q I2 q)
theorem mt_popI:MtR X "list.pop" (fun x vs H Q=>∃ (l:Addr) (xs:List V) (i:Int) (y:V),x=.ref l /\ vs=[.int i] /\ H l=some (.lst xs) /\ 0 <= i /\ xs[i.toNat]?=some y /\
  ∀ H1,(∀ b o,b ≠ l -> H b=some o -> H1 b=some o) -> H1 l=some (.lst (xs.eraseIdx i.toNat)) -> Q y H1):=by
 intro pins s σ H x vs v us Q I rx rv h
 obtain ⟨l,xs,i,y,h1,h2,hl,h0,hy,q⟩:=h
 obtain ⟨z,_⟩:=I.lstM hl
 have hi:i.toNat < xs.length:=(List.getElem?_eq_some_iff.mp hy).1
 have hs:sizeLine=16777216:=sizeLine_eq
 exact pQ pins s σ H x vs v us Q I rx rv ⟨l,xs,i,i.toNat,y,h1,h2,hl,by omega,by omega,seqIndex_of h0 (by omega),hy,q _ (fun b o hb e=>by rw [au hb]; exact e) ar⟩
theorem cg:MtR X "list.append" (fun x vs H Q=>∃ (l:Addr) (xs:List V) (y:V),x=.ref l /\ vs=[y] /\ H l=some (.lst xs) /\ xs.length <= 1000 /\ ∀ H1,(∀ b o,b ≠ l -> H b=some o -> H1 b=some o) -> H1 l=some (.lst (xs ++ [y])) -> Q .non H1):=by
 intro pins s σ H x vs v us Q I rx rv h
 obtain ⟨l,xs,y,h1,h2,hl,hn,q⟩:=h
 exact fX pins s σ H x vs v us Q I rx rv ⟨l,xs,y,h1,h2,hl,bz hn,q _ (fun b o hb e=>by rw [au hb]; exact e) ar⟩
theorem fY:PSet X (fun o i v H Q=>∃ (l:Addr) (xs:List V) (k:Nat),o=.ref l /\ i=.int (k:Int) /\ H l=some (.lst xs) /\ k < xs.length /\ ∀ H1,(∀ b o,b ≠ l -> H b=some o -> H1 b=some o) -> H1 l=some (.lst (xs.set k v)) -> Q H1):=by
 intro pins s σ H o i v ov iv u Q I r1 r2 r3 h
 obtain ⟨l,xs,k,h1,h2,hl,hk,q⟩:=h
 refine pO pins s σ H o i v ov iv u Q I r1 r2 r3 ⟨l,xs,(k:Int),k,h1,h2,hl,?_,q _ (fun b o hb e=>by rw [au hb]; exact e) ar⟩
 unfold ixN
 rw [if_pos (by omega),if_pos (by omega),Int.toNat_natCast]
end
structure aL (P:Program) (w:World) (K:PySem.W.Frag) (mg:Str -> Option Value) (base:Heap) (k:Nat) (x:Str) (ps:List Str) (sp:Sp):Prop where
 ex:∃ f fd,a7 P w K mg base CX0 k f fd ps sp /\ mg x=some (.ref f) /\ PySem.W.keepIn K (.ref f)=true /\ cQ K fd ps []
theorem aj {X:Cx} {k:Nat} {x:Str} {ps:List Str} {sp:Sp} {e:Expr} {es:List Expr} {t:TA} {p pos:Pos} (F:aL X.prog X.w X.K X.mg X.base k x ps sp) (hr:aZ k X.A) (ha:PA X (e :: es) t) (hg:Gl X x:=by rfl)
  (hdb:(x == ("__debug__":Str))=false:=by decide) (he:starEach (e :: es) X.env=(false,eval e X.env) :: starEach es X.env:=by rfl) (hpl:(backTo pos (starEach es X.env)).any (·.1)=false:=by rfl) :
  PE X (.Call (.Name x p) (e :: es) [] pos) (mv sp [] E0 t):=by
 obtain ⟨f,fd,G,m,kp,b⟩:=F.ex
 exact mw G hr hg m kp b .nil mE ha hdb he hpl
theorem aA.new {H:Hp} {a:Addr} {o:HO} (h:H a=none):aA H (upd H a o):=fun b u e=>by rw [au (am e h)]; exact e
theorem aA.none {H H':Hp} (e:aA H H') {a:Addr} (h:H' a=Option.none):H a=Option.none:=e.free h
theorem eh {K:PySem.W.Frag} {T c:String} {b:Bool} (h1:(Value.type T == Value.type c)=false) (h2:PySem.W.kitMeta c=true) (h3:(PySem.W.subIn K (.type T) (.type c))=some b):PySem.W.kitOne K (.type T) (.type c)=some b:=by
 unfold PySem.W.kitOne
 rw [if_neg (by rw [h1]; decide)]
 unfold PySem.W.kitCls
 dsimp only
 rw [if_pos h2]
 exact h3
def isStrV:V -> Bool | .str _=>true | _=>false
def pY:V -> Bool | .int _=>true | .bl _=>true | _=>false
def isBlV:V -> Bool | .bl _=>true | _=>false
theorem kit_str {K:PySem.W.Frag} {H:Hp} {x:V} {k:String} (h:Kd H x k):PySem.W.kitOne K (.type k) (.type "str")=some (isStrV x):=by cases h <;> first | exact aV | exact eh (by decide +kernel) (by decide +kernel) (by with_unfolding_all rfl)
theorem kit_int {K:PySem.W.Frag} {H:Hp} {x:V} {k:String} (h:Kd H x k):PySem.W.kitOne K (.type k) (.type "int")=some (pY x):=by cases h <;> first | exact aV | exact eh (by decide +kernel) (by decide +kernel) (by with_unfolding_all rfl)
theorem lz {K:PySem.W.Frag} {H:Hp} {x:V} {k:String} (h:Kd H x k):PySem.W.kitOne K (.type k) (.type "bool")=some (isBlV x):=by cases h <;> first | exact aV | exact eh (by decide +kernel) (by decide +kernel) (by with_unfolding_all rfl)
theorem kit_lt {K:PySem.W.Frag}:PySem.W.kitOne K (.type "list") (.type "tuple")=some false:=by first | exact aV | exact eh (by decide +kernel) (by decide +kernel) (by with_unfolding_all rfl)
theorem jC {K:PySem.W.Frag} {H:Hp} {x:V} {k:String} (f:cc x=true) (h:Kd H x k):PySem.W.kitOne K (.type k) (.type "tuple")=some false:=by
 cases h with
 | lst _=>exact absurd f (by simp [cc])
 | tup _=>exact absurd f (by simp [cc])
 | non=>first | exact aV | exact eh (by decide +kernel) (by decide +kernel) (by with_unfolding_all rfl)
 | bl b=>first | exact aV | exact eh (by decide +kernel) (by decide +kernel) (by with_unfolding_all rfl)
 | int i=>first | exact aV | exact eh (by decide +kernel) (by decide +kernel) (by with_unfolding_all rfl)
 | str x=>first | exact aV | exact eh (by decide +kernel) (by decide +kernel) (by with_unfolding_all rfl)
theorem idxN {n len:Nat} (h:n <= len):Builtin.Str.strSliceIndices none (some (n:Int)) 1 len=Builtin.Str.strSliceIndices (some ((0:Nat):Int)) (some (n:Int)) 1 len:=by
 have z:max (0:Int) (min 0 (len:Int))=0:=by omega
 unfold Builtin.Str.strSliceIndices sliceRange
 simp [z]
theorem idxM {len:Nat} (h:1 <= len):Builtin.Str.strSliceIndices none (some (-1)) 1 len=Builtin.Str.strSliceIndices none (some ((len - 1:Nat):Int)) 1 len:=by
 unfold Builtin.Str.strSliceIndices
 have h1:((-1:Int) < 0):=by omega
 have h2:¬ (((len - 1:Nat):Int) < 0):=by omega
 simp only [h1,h2,if_true,if_false]
 have e:(-1:Int) + (len:Int)=((len - 1:Nat):Int):=by omega
 rw [e]
theorem kh {x:Str} {a b:Nat} (hab:a <= b) (hb:b <= x.length):(Txt.slice x (some (a:Int)) (some (b:Int))).cps.toList=(x.cps.toList.drop a).take (b - a):=by
 have hx:x.cps.toList.length=x.length:=by simp [Str.length]
 unfold Txt.slice
 have e:(Builtin.Str.strSliceIndices (some (a:Int)) (some (b:Int)) 1 x.length).length=b - a:=by rw [StrLaws.strSliceIndices_plain hab hb,List.length_map,List.length_range]
 by_cases c:b - a=x.length
 ·rw [if_pos (by rw [e,c]; simp)]
  have ea:a=0:=by omega
  have eb:b=x.length:=by omega
  subst ea eb
  rw [List.drop_zero,Nat.sub_zero,<- hx,List.take_length]
 ·rw [if_neg (by rw [e]; simp [c])]
  show ((Builtin.Str.strSliceIndices (some (a:Int)) (some (b:Int)) 1 x.length).filterMap (x.cps[·]?)).toArray.toList=_
  rw [StrLaws.sliced_plain x hab hb]
theorem gy {x:Str} {lo hi lo' hi':Option Int} (h:Builtin.Str.strSliceIndices lo hi 1 x.length=Builtin.Str.strSliceIndices lo' hi' 1 x.length):Txt.slice x lo hi=Txt.slice x lo' hi':=by
 unfold Txt.slice
 rw [h]
theorem kj {x:Str} {n:Nat} (h:n <= x.length):(Txt.slice x none (some (n:Int))).cps.toList=x.cps.toList.take n:=by
 rw [gy (idxN h),kh (Nat.zero_le _) h,List.drop_zero,Nat.sub_zero]
theorem pZ {x:Str} (h:1 <= x.length):(Txt.slice x none (some (-1))).cps.toList=x.cps.toList.take (x.length - 1):=by
 rw [gy (idxM h),kj (by omega)]
theorem jD (x y:Str):(x ++ y).cps.toList=x.cps.toList ++ y.cps.toList:=by rw [Str.cps_append,Array.toList_append]
theorem km {α:Type} [DecidableEq α]:∀ {xs ys:List α},xs.Nodup -> (∀ x ∈ xs,x ∈ ys) -> xs.length <= ys.length
 | [],_,_,_=>Nat.zero_le _
 | x :: xs,ys,hn,h=>by
  have hx:=h x List.mem_cons_self
  have hn':=List.nodup_cons.mp hn
  have:=km (xs:=xs) (ys:=ys.erase x) hn'.2 fun y hy=>(List.mem_erase_of_ne (by rintro rfl; exact hn'.1 hy)).mpr (h y (List.mem_cons_of_mem _ hy))
  rw [List.length_erase_of_mem hx] at this
  have hpos:0 < ys.length:=List.length_pos_of_mem hx
  rw [List.length_cons]
  omega
def ltS (a b:Str):Prop:=leS a b /\ a ≠ b
theorem fZ {zs:List Str} (h:zs.Pairwise leS) (hn:zs.Nodup):zs.Pairwise ltS:=List.Pairwise.and h hn
theorem bS {zs:List Str} (h:zs.Pairwise ltS):zs.Nodup:=h.imp fun h=>h.2
theorem p6 (xs ys:List Str):((List.range (min xs.length ys.length)).all (fun j=>decide (xs[j]?=ys[j]?)) && xs.length == ys.length)=decide (xs=ys):=by
 rw [Bool.eq_iff_iff,Bool.and_eq_true,List.all_eq_true,beq_iff_eq,decide_eq_true_iff]
 constructor
 ·rintro ⟨h1,h2⟩
  refine List.ext_getElem? fun i=>?_
  by_cases hi:i < xs.length
  ·exact of_decide_eq_true (h1 i (List.mem_range.mpr (by lia)))
  ·rw [List.getElem?_eq_none (by lia),List.getElem?_eq_none (by lia)]
 ·rintro rfl
  exact ⟨fun j _=>decide_eq_true rfl,rfl⟩
section
variable {X:Cx}
theorem oh {A:Around} {s:Shared} {xs ys:List Str} {its jts:List Value} (r1:aU (xs.map V.str) its) (r2:aU (ys.map V.str) jts) (j:Nat) (h1:j < its.toArray.size) (h2:j < jts.toArray.size):SeqAt.EqAt A s its.toArray[j] jts.toArray[j] (decide (xs[j]?=ys[j]?)):=by
 have l1:=r1.length
 have l2:=r2.length
 rw [List.length_map] at l1 l2
 have g1:j < its.length:=by simpa using h1
 have g2:j < jts.length:=by simpa using h2
 obtain ⟨u,hu,t,rfl⟩:=r1.get (i:=j) (x:=.str (xs[j]'(by lia))) (by rw [List.getElem?_map,List.getElem?_eq_getElem (by lia)]; rfl)
 obtain ⟨v,hv,t',rfl⟩:=r2.get (i:=j) (x:=.str (ys[j]'(by lia))) (by rw [List.getElem?_map,List.getElem?_eq_getElem (by lia)]; rfl)
 have i1:its.toArray[j]=Value.str (xs[j]'(by lia)) t:=by
  have:=List.getElem?_eq_getElem g1
  rw [hu] at this
  simpa using (Option.some.inj this).symm
 have i2:jts.toArray[j]=Value.str (ys[j]'(by lia)) t':=by
  have:=List.getElem?_eq_getElem g2
  rw [hv] at this
  simpa using (Option.some.inj this).symm
 rw [i1,i2,List.getElem?_eq_getElem (show j < xs.length by lia),List.getElem?_eq_getElem (show j < ys.length by lia)]
 have e:decide (some (xs[j]'(by lia))=some (ys[j]'(by lia)))=((xs[j]'(by lia)) == (ys[j]'(by lia))):=by
  rw [Bool.eq_iff_iff,decide_eq_true_iff,beq_iff_eq,Option.some.injEq]
 rw [e]
 exact SeqAt.EqAt.str_str _ _ _ _
theorem mK (hu:X.A.units + 1 < cLine):OpR X (compareOp .Eq) (fun x y H Q=>∃ (a b:Addr) (xs ys:List Str),x=.ref a /\ y=.ref b /\ SqT X.K H a (xs.map V.str) /\ SqT X.K H b (ys.map V.str) /\ Q (.bl (decide (xs=ys))) H):=by
 intro pins s σ H x y v u Q I rx ry h
 obtain ⟨a,b,xs,ys,rfl,rfl,ha,hb,q⟩:=h
 cases rx
 cases ry
 obtain ⟨its,r1,p1,_⟩:=I.tuple ha
 obtain ⟨jts,r2,p2,_⟩:=I.tuple hb
 have l1:=r1.length
 have l2:=r2.length
 rw [List.length_map] at l1 l2
 have:=SeqAt.RcAt.tuples (A:=X.A) (s:=s) (e:=fun j=>decide (xs[j]?=ys[j]?)) (show s.heap.IsTuple a its.toArray from p1) (show s.heap.IsTuple b jts.toArray from p2) (Nat.lt_of_succ_lt hu) (oh r1 r2)
 rw [List.size_toArray,List.size_toArray,<- l1,<- l2,p6] at this
 exact this _ _ _ _ (aS I q rfl)
end
section
variable {X:Cx}
end
theorem de {X:Cx} {scope:Scope} {cl:List (Str × Addr)} {N2 ys:List Str} {C:Addr} {s:Shared} {H:Hp} {fp:List Addr}:OpR (cxC X scope cl N2 ys C s H fp) (compareOp .NotIn) (rIn X.K true):=fE
theorem p8 {K:PySem.W.Frag} {a:Addr} {xs:List V} {k:Nat} {σ:St} {H1:Hp} {tt:TT} {Q:VK} (t:V -> Bool) (hk:σ.length=k) (hq:SqL K H1 a xs) (hz:xs.length <= 1000)
  (turn:∀ D x ys (post:Bool -> Hp -> Prop),H1 D=none -> x ∈ xs -> post (t x) (upd H1 D (.lst ys)) -> tt (σ ++ [some x]) (upd H1 D (.lst ys)) post)
  (fin:∀ D,H1 D=none -> Q (.ref D) (upd H1 D (.lst (xs.filter t)))):LCT 1 (bY k) tt (kP k) σ Q (Itl K a) H1:=by
 have sq:∀ D ys,H1 D=none -> SqL K (upd H1 D (.lst ys)) a xs:=fun D ys h=>aA.seq (bC h) hq
 refine lcP (n:=xs.length) (fun i=>xs.getD i .non) (fun D i ys H=>H1 D=none /\ ys=(xs.take i).filter t /\ H=upd H1 D (.lst ys)) ?_ ?_ ?_ ?_ ?_ ?_
 ·rintro D i ys H hi ⟨h1,h2,rfl⟩
  exact ⟨xs,xs[i],sq D ys h1,by simp [hi]⟩
 ·rintro D i ys H x H' hi ⟨h1,h2,rfl⟩ ⟨e,y⟩
  refine ⟨e,?_⟩
  have:=y xs (sq D ys h1)
  rw [List.getD_eq_getElem?_getD,this]; rfl
 ·rintro D ys H ⟨h1,h2,rfl⟩
  exact ⟨xs,sq D ys h1,Nat.le_refl _⟩
 ·intro D hD
  exact ⟨hD,by simp,rfl⟩
 ·rintro D i ys H yes no hi ⟨h1,h2,rfl⟩ hp hn
  have hx:xs[i]?=some (xs.getD i .non):=by rw [List.getD_eq_getElem?_getD,List.getElem?_eq_getElem hi]; rfl
  generalize xs.getD i .non=x at hx ⊢
  have e:(σ ++ List.replicate 1 (none:Option V)).set k (some x)=σ ++ [some x]:=by
   subst hk
   simp [List.set_append]
  unfold bY
  rw [e]
  refine ⟨⟨_,rfl,rfl⟩,turn D x ys _ h1 (List.mem_of_getElem? hx) ?_⟩
  cases hb:t x with
  | true =>
   refine aQ ⟨x,by subst hk; simp,hp _ _ ar ?_ ⟨h1,?_,by rw [fw]⟩⟩
   ·rw [h2]
    have h3:((xs.take i).filter t).length <= (xs.take i).length:=List.length_filter_le _ _
    rw [List.length_take] at h3
    exact bz (by omega)
   ·rw [h2,List.take_add_one,hx]; simp [List.filter_append,hb]
  | false =>
   refine aN (hn _ ⟨h1,?_,rfl⟩)
   rw [h2,List.take_add_one,hx]; simp [List.filter_append,hb]
 ·rintro D ys H ⟨h1,h2,rfl⟩
  rw [h2,List.take_of_length_le (Nat.le_refl _)]
  exact fin D h1
theorem eK {x:Str} {zs:List Str}:inV (.str x) (zs.map V.str)=decide (x ∈ zs):=by
 unfold inV
 rw [Bool.eq_iff_iff,List.any_eq_true,decide_eq_true_iff]
 constructor
 ·rintro ⟨y,hy,e⟩
  obtain ⟨z,hz,rfl⟩:=List.mem_map.mp hy
  have e:z=x:=beq_iff_eq.mp (show (z == x)=true from e)
  exact e ▸ hz
 ·intro h
  exact ⟨.str x,List.mem_map.mpr ⟨x,h,rfl⟩,show (x == x)=true from beq_self_eq_true x⟩
theorem bq (zs:List Str):(zs.map V.str).all cc=true:=by
 rw [List.all_map]
 exact List.all_eq_true.mpr fun _ _=>rfl
theorem pe_orSC {X:Cx} {scope:Scope} {cl:List (Str × Addr)} {N2 ys:List Str} {C:Addr} {s:Shared} {H:Hp} {fp:List Addr} {a b:Expr} {ta tb:TE} {pos:Pos} (ha:PE (cxC X scope cl N2 ys C s H fp) a ta) (hb:PE (cxC X scope cl N2 ys C s H fp) b tb) :
  PE (cxC X scope cl N2 ys C s H fp) (.BoolOp .Or [a,b] pos) (fun σ H Q=>ta σ H fun x H1=>∃ k,TruV X.K x H1 k /\ if k=true then Q x H1 else tb σ H1 Q):=pe_orS ha hb
theorem cY (ds:List Str):∀ zs:List Str,(zs.map V.str).filter (fun v=>!inV v (ds.map V.str))=(zs.filter fun x=>!decide (x ∈ ds)).map V.str
 | []=>rfl
 | z :: zs=>by
  rw [List.map_cons,List.filter_cons,List.filter_cons,eK,cY ds zs]
  cases decide (z ∈ ds) <;> rfl
theorem dG {X:Cx} {scope:Scope} {cl:List (Str × Addr)} {N2 ys:List Str} {C:Addr} {s:Shared} {H:Hp} {fp:List Addr}:OpR (cxC X scope cl N2 ys C s H fp) (compareOp .In) (rIn X.K false):=fW
theorem lcFU {K:PySem.W.Frag} {a:Addr} {xs:List V} {k:Nat} {σ:St} {H1:Hp} {tt:TT} {Q:VK} (t:V -> Bool) (hk:σ.length=k) (hq:H1 a=some (.tup xs)) (hz:xs.length <= 1000)
  (turn:∀ D x ys (post:Bool -> Hp -> Prop),H1 D=none -> x ∈ xs -> post (t x) (upd H1 D (.lst ys)) -> tt (σ ++ [some x]) (upd H1 D (.lst ys)) post)
  (fin:∀ D,H1 D=none -> Q (.ref D) (upd H1 D (.lst (xs.filter t)))):LCT 1 (bY k) tt (kP k) σ Q (Itt K a) H1:=by
 have sq:∀ D ys,H1 D=none -> SqT K (upd H1 D (.lst ys)) a xs:=fun D ys h=>SqT.of (bC h _ _ hq)
 refine lcP (n:=xs.length) (fun i=>xs.getD i .non) (fun D i ys H=>H1 D=none /\ ys=(xs.take i).filter t /\ H=upd H1 D (.lst ys)) ?_ ?_ ?_ ?_ ?_ ?_
 ·rintro D i ys H hi ⟨h1,h2,rfl⟩
  exact ⟨xs,xs[i],sq D ys h1,by simp [hi]⟩
 ·rintro D i ys H x H' hi ⟨h1,h2,rfl⟩ ⟨e,y⟩
  refine ⟨e,?_⟩
  have:=y xs (sq D ys h1)
  rw [List.getD_eq_getElem?_getD,this]; rfl
 ·rintro D ys H ⟨h1,h2,rfl⟩
  exact ⟨xs,sq D ys h1,Nat.le_refl _⟩
 ·intro D hD
  exact ⟨hD,by simp,rfl⟩
 ·rintro D i ys H yes no hi ⟨h1,h2,rfl⟩ hp hn
  have hx:xs[i]?=some (xs.getD i .non):=by rw [List.getD_eq_getElem?_getD,List.getElem?_eq_getElem hi]; rfl
  generalize xs.getD i .non=x at hx ⊢
  have e:(σ ++ List.replicate 1 (none:Option V)).set k (some x)=σ ++ [some x]:=by
   subst hk
   simp [List.set_append]
  unfold bY
  rw [e]
  refine ⟨⟨_,rfl,rfl⟩,turn D x ys _ h1 (List.mem_of_getElem? hx) ?_⟩
  cases hb:t x with
  | true =>
   refine aQ ⟨x,by subst hk; simp,hp _ _ ar ?_ ⟨h1,?_,by rw [fw]⟩⟩
   ·rw [h2]
    have h3:((xs.take i).filter t).length <= (xs.take i).length:=List.length_filter_le _ _
    rw [List.length_take] at h3
    exact bz (by lia)
   ·rw [h2,List.take_add_one,hx]; simp [List.filter_append,hb]
  | false =>
   refine aN (hn _ ⟨h1,?_,rfl⟩)
   rw [h2,List.take_add_one,hx]; simp [List.filter_append,hb]
 ·rintro D ys H ⟨h1,h2,rfl⟩
  rw [h2,List.take_of_length_le (Nat.le_refl _)]
  exact fin D h1
theorem eM (ds:List Str):∀ zs:List Str,(zs.map V.str).filter (fun v=>inV v (ds.map V.str))=(zs.filter fun x=>decide (x ∈ ds)).map V.str
 | []=>rfl
 | z :: zs=>by
  rw [List.map_cons,List.filter_cons,List.filter_cons,eK,eM ds zs]
  cases decide (z ∈ ds) <;> rfl
theorem jE {α β:Type} {f:α -> β} {xs:List α} {i:Int} {x:α} (h0:0 <= i) (h:xs[i.toNat]?=some x):atI (xs.map f) i=some (f x):=by
 obtain ⟨n,rfl⟩:=Int.eq_ofNat_of_zero_le h0
 have hn:n < xs.length:=by
  have:=(List.getElem?_eq_some_iff.mp h).1
  simpa using this
 unfold atI ixN
 rw [if_pos h0,if_pos (by rw [List.length_map]; lia)]
 show (xs.map f)[(n:Int).toNat]?=_
 rw [List.getElem?_map,h]; rfl
def Ite (K:PySem.W.Frag) (l:Addr):It :=
 ⟨fun i H=>∃ xs x,SqL K H l xs /\ xs[i]?=some x,fun i H v H'=>∃ p,v=.ref p /\ H p=none /\ ∀ xs,SqL K H l xs -> ∃ x,xs[i]?=some x /\ H'=upd H p (.tup [.int (i:Int),x]),fun i H=>∃ xs,SqL K H l xs /\ i=xs.length⟩
def TnE (e it l:Addr) (i:Nat) (h:Heap):Prop:=(∃ old,IsEnum h e it i old) /\ h.IsListIter it l i
theorem oi {P:Program} {w:World} {K:PySem.W.Frag} {elts:List Expr} {k:Nat} {pos:Pos} {e it l:Addr} (a1:e ≠ it) (a2:l ≠ e) (a3:l ≠ it):jr P w K (.Tuple elts k pos) (Ite K l) [e,it] e (TnE e it l) where
 mem:=by simp
 obj:=fun i h st b hb=>by
  obtain ⟨⟨old,h1⟩,h2⟩:=st
  simp only [List.mem_cons,List.not_mem_nil,or_false] at hb
  rcases hb with rfl | rfl
  ·exact ⟨_,h1,fun v e=>by cases e⟩
  ·obtain ⟨o,e,c,d⟩:=h2
   exact ⟨o,e,fun v z=>by rw [d] at z; cases z⟩
 keep:=fun i h h' st kk=>by
  obtain ⟨⟨old,h1⟩,h2⟩:=st
  exact ⟨⟨old,kk _ (by simp) _ h1⟩,h2.at fun o e=>kk _ (by simp) o e⟩
 item:=by
  intro X hP hw hK hc i pins s σ H E I hf st hg
  subst hP hw hK
  obtain ⟨xs,x,hx,ex⟩:=hg
  obtain ⟨its,rv,p,hz⟩:=I.list hx
  obtain ⟨u,hu,ru⟩:=rv.get ex
  have W:=WalksT.enumerate (prog:=X.prog) (w:=X.w) (I.ok.hd hc) e it l a1 a2 a3 its.toArray
  have hi1:i < its.length:=(List.getElem?_eq_some_iff.mp hu).1
  obtain ⟨st1,st2⟩:=st
  refine W.item i s _ _ (by simp only [List.size_toArray]; omega) ⟨st1,st2,p.isList⟩ fun T vals h' tk hpt hT ht mid kk=>?_
  obtain ⟨tt,a,ea,rfl⟩:=hpt
  have ea':its[i]?=some a:=by simpa using ea
  rw [hu] at ea'; cases ea'
  refine ⟨_,rfl,W.go elts k pos i T _ _ _ mid fun h'' st'' kk2=>?_⟩
  have nT:=W.apart i T h' mid
  have hTup:IsTup h'' T [Value.int i tt,u].toArray:=by
   obtain ⟨o,eo,c⟩:=ht
   exact ⟨o,kk2 _ _ nT eo,c⟩
  have I1:=I.turnedT (h':=h'') (t':=tk) (xs:=[.int (i:Int),x]) (us:=[Value.int i tt,u]) (ch:=[e,it]) (fun b o hb eo=>kk2 _ _ hb (kk _ _ hb eo)) hf hT (by show 2 <= sizeLine; decide) (.cons ⟨tt,rfl⟩ (.cons ru .nil)) hTup
  refine ⟨.ref T,_,I1,rfl,⟨T,rfl,I.hok.fresh hT,fun xs' hx'=>⟨x,?_,rfl⟩⟩,⟨st''.1,st''.2.1⟩,fun b hb=>?_⟩
  ·rw [I.list_inj hx' hx]; exact ex
  ·have hb':∃ o,s.heap.get? b=some o:=by
    simp only [List.mem_cons,List.not_mem_nil,or_false] at hb
    obtain ⟨old,st1⟩:=st1
    obtain ⟨o4,e4,_⟩:=st2
    rcases hb with h | h <;> rw [h]
    ·exact ⟨_,st1⟩
    ·exact ⟨_,e4⟩
   obtain ⟨o,eo⟩:=hb'
   rw [au (Nat.ne_of_lt (Nat.lt_of_lt_of_le (Heap.lt_size eo) hT))]
   exact (hf b hb).1
 done:=by
  intro X hP hw hK hc i pins s σ H E I hf st hg
  subst hP hw hK
  obtain ⟨xs,hx,rfl⟩:=hg
  obtain ⟨its,rv,p,hz⟩:=I.list hx
  have W:=WalksT.enumerate (prog:=X.prog) (w:=X.w) (I.ok.hd hc) e it l a1 a2 a3 its.toArray
  obtain ⟨st1,st2⟩:=st
  have en:xs.length=its.toArray.size:=by rw [rv.length,List.size_toArray]
  rw [en] at st1 st2
  refine W.done s _ _ ⟨st1,st2,p.isList⟩ fun h' tk kk=>⟨rfl,I.turnedL (ch:=[e,it]) kk hf⟩
 self:=fun _ _ _ _ _ st h=>by
  obtain ⟨⟨old,h1⟩,_⟩:=st
  exact wpAny_pyIter_enum h1 h
section
variable {X:Cx}
def iEnum (K:PySem.W.Frag) (ta:TA):TI:=fun σ H R=>ta σ H fun vs H1=>∃ a xs,vs=[.ref a] /\ SqL K H1 a xs /\ R (Ite K a) H1
theorem pi_enum {elts:List Expr} {k:Nat} {tpos:Pos} {a:Expr} {ta:TA} {p pos:Pos} (hg:Gl X "enumerate") (hm:X.mg "enumerate"=none) (ha:PA X [a] ta) (hs:starEach [a] X.env=[(false,eval a X.env)]:=by rfl) :
  PI X (.Tuple elts k tpos) (.Call (.Name "enumerate" p) [a] [] pos) (iEnum X.K ta):=by
 intro pins s σ H R I h
 refine Call_ (dR I hg hm boot_enumerate (PyProof.Rows.callWith_type1 (thn (ha pos pins s σ H _ I h) fun us s1 ⟨vs,H1,I1,r1,q1⟩=>?_) hs rfl))
 obtain ⟨l,xs,e,hx,q⟩:=q1
 subst e
 obtain ⟨u,rfl,rr⟩:=hG r1
 cases rr
 obtain ⟨its,rv,p1,hz⟩:=I1.list hx
 refine call_enumerate_list p1.isList fun h' z1 z2 hsz kk=>?_
 refine wpAny_pyIter_enum (s:={ s1 with heap:=h' }) z1 ?_
 have h1:l < s1.heap.objs.size:=by obtain ⟨o,eo,_⟩:=p1.isList; exact Heap.lt_size eo
 refine ⟨_,[s1.heap.objs.size + 1,s1.heap.objs.size],_,_,H1,rfl,I1.kept (t':=s1.toks) kk,oi (Nat.succ_ne_self _) (Nat.ne_of_lt (Nat.lt_succ_of_lt h1)) (Nat.ne_of_lt h1),⟨⟨_,z1⟩,z2⟩,fun b hb=>?_,q⟩
 have hb':s1.heap.objs.size <= b:=by
  simp only [List.mem_cons,List.not_mem_nil,or_false] at hb
  rcases hb with h | h <;> rw [h] <;> first | exact Nat.le_add_right _ _ | exact Nat.le_refl _
 exact I1.fpOk hb' (I1.hok.fresh hb')
theorem p9 {K:PySem.W.Frag} {a:Addr} {xs:List V} {g:TG} {tb:TS} {D:dQ} {σ:St} {H:Hp} (Pv:Nat -> St -> Hp -> Prop) (h0:Pv 0 σ H) (hl:∀ i σ H,Pv i σ H -> SqL K H a xs)
  (hs:∀ i x p σ H,xs[i]?=some x -> H p=none -> Pv i σ H -> g (.ref p) σ (upd H p (.tup [.int (i:Int),x])) fun σ2 H2=>tb { D with nx:=Pv (i + 1),ct:=Pv (i + 1),bk:=D.nx } σ2 H2) (hd:∀ σ H,Pv xs.length σ H -> D.nx σ H) :
  ∃ W:Nat -> Nat -> St -> Hp -> Prop,(∃ m,W 0 m σ H) /\ ∀ i m σ H,W i m σ H ->
   ((Ite K a).stop i H /\ D.nx σ H) \/ ((Ite K a).go i H /\ ∃ N:St -> Hp -> Prop,(∀ σ' H',N σ' H' -> ∃ m',m' < m /\ W (i + 1) m' σ' H') /\ ∀ x H',(Ite K a).yld i H x H' -> g x σ H' fun σ2 H2=>tb { D with nx:=N,ct:=N,bk:=D.nx } σ2 H2):=by
 refine ⟨fun i m σ H=>m=xs.length - i /\ i <= xs.length /\ Pv i σ H,⟨xs.length,by simp,Nat.zero_le _,h0⟩,?_⟩
 rintro i m σ H ⟨rfl,hi,p⟩
 have q1:=hl i σ H p
 by_cases hlt:i < xs.length
 ·refine .inr ⟨⟨xs,xs[i],q1,by simp [hlt]⟩,Pv (i + 1),fun σ' H' p'=>⟨xs.length - (i + 1),by omega,rfl,hlt,p'⟩,fun x H' y=>?_⟩
  obtain ⟨t,rfl,ht,y⟩:=y
  obtain ⟨u,eu,rfl⟩:=y xs q1
  exact hs i u t σ H eu ht p
 ·have e:i=xs.length:=by omega
  subst e
  exact .inl ⟨⟨xs,q1,rfl⟩,hd σ H p⟩
end
structure fG (P:Program) (w:World) (K:PySem.W.Frag) (mg:Str -> Option Value) (base:Heap) (C:Addr) (k:Nat) (x:Str) (ps:List Str) (sp:Sp):Prop where
 ex:∃ f fd,a7 P w K mg base CX0 k f fd ps sp /\ cQ K fd ps [] /\ Meth K C x f
structure MkAt (P:Program) (w:World) (K:PySem.W.Frag) (mg:Str -> Option Value) (base:Heap) (C:Addr) (k:Nat) (ps:List Str) (sp:Sp):Prop where
 ex:∃ f fd,a7 P w K mg base CX0 k f fd ps sp /\ cQ K fd ps [] /\ Mk K C f
section
variable {X:Cx} {k:Nat} {C:Addr} {m x:Str} {ps:List Str} {sp:Sp} {o e:Expr} {es:List Expr} {ta:TE} {t:TA} {p pos apos:Pos}
theorem cF {pl:Sem Bool} (M:fG X.prog X.w X.K X.mg X.base C k m ps sp) (c:Cls X.K C) (hr:aZ k X.A) (he:PE X o ta) (ha:PA X (e :: es) t)
  (hst:starEach (e :: es) X.env=(false,eval e X.env) :: starEach es X.env:=by rfl) (hpl:(backTo pos (starEach es X.env)).any (·.1)=false:=by rfl)
  (ht:eval (.Call (.Attribute o m apos) (e :: es) [] pos) X.env=(do
   let ov <- eval o X.env
   standAt apos.atName
   let (f,first) <- holding [ov] (getMethod ov m pl)
   callWith pos f first (backTo pos (starEach (e :: es) X.env)) (backToKw pos (keywordEach [] X.env))):=by rfl) :
  PE X (.Call (.Attribute o m apos) (e :: es) [] pos) (tMeth C m sp [] E0 ta t):=by
 obtain ⟨f,fd,G,b,M⟩:=M.ex
 exact pe_meth he c M G hr b .nil mE ha hst hpl ht
theorem qc (M:MkAt X.prog X.w X.K X.mg X.base C k ps sp) (hr:aZ (k + 1) X.A) (hm:X.mg x=some (.ref C)) (ha:PA X (e :: es) t) (hg:Gl X x:=by rfl) (hdb:(x == ("__debug__":Str))=false:=by decide)
  (he:starEach (e :: es) X.env=(false,eval e X.env) :: starEach es X.env:=by rfl) (hpl:(backTo pos (starEach es X.env)).any (·.1)=false:=by rfl):PE X (.Call (.Name x p) (e :: es) [] pos) (tMake C sp [] E0 t):=by
 obtain ⟨f,fd,G,b,M⟩:=M.ex
 exact pe_make M G hr hg hm b .nil mE ha hdb he hpl
end
section
variable {X:Cx}
theorem gI (hu:X.A.units + 1 < cLine):OpR X (compareOp .NotEq) (fun x y H Q=>∃ (a b:Addr) (xs:List V),x=.ref a /\ y=.ref b /\ SqT X.K H a xs /\ SqT X.K H b [] /\ Q (.bl (!xs.isEmpty)) H):=by
 intro pins s σ H x y v u Q I rx ry h
 obtain ⟨a,b,xs,rfl,rfl,ha,hb,q⟩:=h
 cases rx
 cases ry
 obtain ⟨its,r1,p1,_⟩:=I.tuple ha
 obtain ⟨jts,r2,p2,_⟩:=I.tuple hb
 cases r2
 have:=SeqAt.RcNeAt.tuples (A:=X.A) (s:=s) (e:=fun _=>true) (show s.heap.IsTuple a its.toArray from p1) (show s.heap.IsTuple b ([]:List Value).toArray from p2) (Nat.lt_of_succ_lt hu) (fun j h1 h2=>absurd h2 (by simp))
 have e:((List.range (min its.toArray.size ([]:List Value).toArray.size)).all (fun _=>true) && its.toArray.size == ([]:List Value).toArray.size)=xs.isEmpty:=by
  have hl:=r1.length
  cases xs with
  | nil =>
   cases r1
   rfl
  | cons z zs =>
   cases its with
   | nil=>simp at hl
   | cons y ys=>simp
 rw [e] at this
 exact this _ _ _ _ (aS I q rfl)
theorem op_eqT0 (hu:X.A.units + 1 < cLine):OpR X (compareOp .Eq) (fun x y H Q=>∃ (a b:Addr) (xs:List V),x=.ref a /\ y=.ref b /\ SqT X.K H a xs /\ SqT X.K H b [] /\ Q (.bl xs.isEmpty) H):=by
 intro pins s σ H x y v u Q I rx ry h
 obtain ⟨a,b,xs,rfl,rfl,ha,hb,q⟩:=h
 cases rx
 cases ry
 obtain ⟨its,r1,p1,_⟩:=I.tuple ha
 obtain ⟨jts,r2,p2,_⟩:=I.tuple hb
 cases r2
 have:=SeqAt.RcAt.tuples (A:=X.A) (s:=s) (e:=fun _=>true) (show s.heap.IsTuple a its.toArray from p1) (show s.heap.IsTuple b ([]:List Value).toArray from p2) (Nat.lt_of_succ_lt hu) (fun j h1 h2=>absurd h2 (by simp))
 have e:((List.range (min its.toArray.size ([]:List Value).toArray.size)).all (fun _=>true) && its.toArray.size == ([]:List Value).toArray.size)=xs.isEmpty:=by
  have hl:=r1.length
  cases xs with
  | nil =>
   cases r1
   rfl
  | cons z zs =>
   cases its with
   | nil=>simp at hl
   | cons y ys=>simp
 rw [e] at this
 exact this _ _ _ _ (aS I q rfl)
end
theorem jF {X:Cx} {scope:Scope} {cl:List (Str × Addr)} {N2 ys:List Str} {C:Addr} {s:Shared} {H:Hp} {fp:List Addr} {pos:Pos} {es:List Expr} {k:Nat} {t:TGs} {n:Nat} (hc:X.calm=true) (h:PGs (cxC X scope cl N2 ys C s H fp) es t)
  (hn:(assignEach es (cxC X scope cl N2 ys C s H fp).env).length=n:=by rfl) (hst:(assignEach es (cxC X scope cl N2 ys C s H fp).env).findIdx? (·.1)=none:=by rfl):PG (cxC X scope cl N2 ys C s H fp) (.Tuple es k pos) (gTup X.K n t) :=
 gR (X:=cxC X scope cl N2 ys C s H fp) hc h hn hst
end L2
namespace L2.RV
open PySem PySem.Spec PyProof.Rows
section
variable {prog:Program} {w:World} {A:Around} {E:Value -> Shared -> Prop} {s:Shared}
end
end L2.RV
namespace L2
open PySem PySem.Spec PyProof.Rows
section
variable {X:Cx} {tg:Expr}
end
end L2
namespace L2.ST
open PySem PySem.Spec PyProof.Rows
section
variable {prog:Program} {w:World} {A:Around} {E:Value -> Shared -> Prop} {s:Shared}
end
section
variable {prog:Program} {w:World} {A:Around} {R:Result -> Shared -> Prop} {I:Addr} {fp wr:List Addr} {G:Array GenState -> Array GenState -> Prop} {n:Nat} {P:Nat -> Value -> Prop} {St:Nat -> Shared -> Prop}
end
section
variable {prog:Program} {w:World} {A:Around} {E:Value -> Shared -> Prop} {s:Shared}
end
section
variable {prog:Program} {w:World} {A:Around} {E:Value -> Shared -> Prop} {s:Shared}
end
section
variable {prog:Program} {w:World} {A:Around} {E:Value -> Shared -> Prop} {s:Shared}
end
section
variable {prog:Program} {w:World} {A:Around} {E:Value -> Shared -> Prop} {s:Shared}
end
end L2.ST
namespace L2
open PySem PySem.Spec PyProof.Rows
section
variable {X:Cx}
theorem qd {a b:Str} (h1:leS a b) (h2:leS b a):a=b:=by
 unfold leS at h1 h2
 rw [ltCps_eq,decide_eq_false_iff_not] at h1 h2
 have:a.cps.toList=b.cps.toList:=List.le_antisymm (List.not_lt.mp h1) (List.not_lt.mp h2)
 cases a with | mk x=>cases b with | mk y=>exact congrArg Str.mk (Array.toList_inj.mp this)
end
end L2
namespace L2.ZT
open PySem PySem.Spec PyProof.Rows
section
variable {prog:Program} {w:World} {A:Around} {E:Value -> Shared -> Prop} {s:Shared}
theorem eN {q tp:Addr} {j:Nat} {us:Array Value} {y:Value} {R:Value -> Shared -> Prop} (hq:s.heap.IsTupleIter q tp j) (htp:s.heap.IsTuple tp us) (hy:us[j]?=some y)
  (hR:∀ g,g.IsTupleIter q tp (j + 1) -> Heap.SameBut q s.heap g -> R y { s with heap:=g }):wpAny (model prog w) A (Builtin.SmallTypes.nextOf (.ref q)) R E s:=by
 obtain ⟨oq,eq1,cq,dq⟩:=id hq
 obtain ⟨ot,et,_,nt,dt⟩:=htp
 unfold Builtin.SmallTypes.nextOf
 refine wpAny_bind (wpAny_callSpecial?_slot (name:=Str.ofString "__next__") hq.typeIs F.slot_tuple_iterator_next (wpAny_call_entry F.slot_tuple_iterator_next hq.typeIs F.entry_tuple_iterator_next ?_ (F.args_tuple_iterator_next_1 _)))
 show wpAny _ _ (field (.ref q) 0 >>= _) _ _ s
 refine wpAny_bind (wpAny_field eq1 dq (x:=.ref tp) rfl ?_)
 show wpAny _ _ (if (Value.ref tp == Value.none)=true then _ else _) _ _ s
 rw [if_neg (show ¬ ((Value.ref tp == Value.none)=true) from Bool.false_ne_true)]
 show wpAny _ _ (field (.ref q) 1 >>= _) _ _ s
 refine wpAny_bind (wpAny_field eq1 dq (x:=.int j 0) rfl ?_)
 show wpAny _ _ (seqItems? (.ref tp) >>= _) _ _ s
 refine wpAny_bind (wpAny_seqItems et dt ?_)
 simp only [Int.toNat_natCast,hy]
 refine wpAny_bind (wpAny_setField eq1 dq (by simp) (wpAny_pure ⟨y,rfl,wpAny_pure (hR _ ?_ (Heap.SameBut.update ..))⟩))
 exact ⟨_,Heap.get?_update_self _ eq1 (Obj.isFreed_of_fields (Obj.data_mapFields dq _)),(Obj.cls_mapFields ..).trans cq,by rw [Obj.data_mapFields dq]; simp [rawInt]⟩
theorem ic {q tp:Addr} {j:Nat} {us:Array Value} {R:Value -> Shared -> Prop} (nh:A.handled=none) (hq:s.heap.IsTupleIter q tp j) (htp:s.heap.IsTuple tp us) (hy:us[j]?=none)
  (hX:∀ g e,Heap.ExtBut q s.heap g -> (∃ o,g.get? e=some o /\ o.cls=.type "StopIteration") -> E (.ref e) { s with heap:=g }):wpAny (model prog w) A (Builtin.SmallTypes.nextOf (.ref q)) R E s:=by
 obtain ⟨oq,eq1,cq,dq⟩:=id hq
 obtain ⟨ot,et,_,nt,dt⟩:=htp
 unfold Builtin.SmallTypes.nextOf
 refine wpAny_bind (wpAny_callSpecial?_slot (name:=Str.ofString "__next__") hq.typeIs F.slot_tuple_iterator_next (wpAny_call_entry F.slot_tuple_iterator_next hq.typeIs F.entry_tuple_iterator_next ?_ (F.args_tuple_iterator_next_1 _)))
 show wpAny _ _ (field (.ref q) 0 >>= _) _ _ s
 refine wpAny_bind (wpAny_field eq1 dq (x:=.ref tp) rfl ?_)
 show wpAny _ _ (if (Value.ref tp == Value.none)=true then _ else _) _ _ s
 rw [if_neg (show ¬ ((Value.ref tp == Value.none)=true) from Bool.false_ne_true)]
 show wpAny _ _ (field (.ref q) 1 >>= _) _ _ s
 refine wpAny_bind (wpAny_field eq1 dq (x:=.int j 0) rfl ?_)
 show wpAny _ _ (seqItems? (.ref tp) >>= _) _ _ s
 refine wpAny_bind (wpAny_seqItems et dt ?_)
 simp only [Int.toNat_natCast,hy]
 refine wpAny_bind (wpAny_rule (wpAny_bind (wpAny_setField eq1 dq (by simp) (wpAny_bind (m:=newExc (.type "StopIteration") []) ?_))))
 simp only [newExc,newTuple]
 refine wpAny_bind (wpAny_newObj_type (wpAny_bind (m:=firstArgMember _ _) (wpAny_of_eq (a:=Value.none) (by first | rfl | (simp only [firstArgMember]; rfl)) (wpAny_newObj_type ?_ (by size_fits)))) (by size_fits))
 simp only [raiseNew]
 refine wpAny_bind (wpAny_handled ?_)
 rw [show A.in1.handled=none from nh]
 exact wpAny_bind (wpAny_pure (wpAny_throw (hX _ _ (((Heap.SameBut.update ..).extBut.push _).push _) ⟨_,Heap.get?_push_size _ rfl,rfl⟩)))
section
variable {z TI TO p r a b:Addr} {us vs:Array Value} {o1 o2:Value} {m n:Nat}
theorem qe {x y:Value} {R:Value -> Shared -> Prop} (ap:ZipApart z TI TO p r a b) (hz:IsZip s.heap z TI TO .none) (hI:IsPair s.heap TI (.ref p) (.ref r)) (hO:IsPair s.heap TO o1 o2)
  (hp:s.heap.IsTupleIter p a m) (hr:s.heap.IsTupleIter r b n) (ha:s.heap.IsTuple a us) (hb:s.heap.IsTuple b vs) (hx:us[m]?=some x) (hy:vs[n]?=some y)
  (hR:∀ g,IsZip g z TI TO (rawInt s.heap.objs.size) -> IsPair g TO x y -> g.IsTupleIter p a (m + 1) -> g.IsTupleIter r b (n + 1) -> IsPair g s.heap.objs.size x y -> g.objs.size=s.heap.objs.size + 1 ->
   (∀ c o,c ≠ z -> c ≠ TO -> c ≠ p -> c ≠ r -> s.heap.get? c=some o -> g.get? c=some o) -> R (.ref s.heap.objs.size) { s with heap:=g }) :
  wpAny (model prog w) A (Builtin.«zip.__next__» ⟨[.ref z],[]⟩) (fun fin s'=>∃ v,fin=.done (.ret v) /\ R v s') E s:=by
 show wpAny _ _ (field (.ref z) 2 >>= _) _ _ _
 refine wpAny_bind (wpAny_field hz rfl (x:=.bool false) rfl (wpAny_bind (m:=field (.ref z) 3) (wpAny_field hz rfl (x:=.ref TI) rfl (wpAny_bind (wpAny_seqItems hI rfl ?_)))))
 show wpAny _ _ (Builtin.SmallTypes.ownedTupleIsFree (.ref z) >>= _) _ _ _
 unfold Builtin.SmallTypes.ownedTupleIsFree
 refine wpAny_bind (wpAny_bind (wpAny_field hz rfl (x:=.none) rfl (wpAny_pure ?_)))
 simp only [if_true]
 refine wpAny_bind (wpAny_rule (wpAny_bind (wpAny_field hz rfl (x:=.ref TO) rfl (wpAny_bind (wpAny_setField_rec hz (by simp) fun g1 z1 k1=>wpAny_bind ?_)))))
 have z1:IsZip g1 z TI TO .ellipsis:=z1
 simp only [List.zipIdx_cons,List.zipIdx_nil,List.forIn_cons,List.forIn_nil]
 refine wpAny_bind (wpAny_bind (wpAny_onRaise (wpAny_bind (m:=Builtin.SmallTypes.nextOf (.ref p)) (eN (hp.extBut k1.extBut ap.i1z) (ha.extBut k1.extBut ap.l1z) hx fun g2 p2 k2=>wpAny_pure ?_))))
 have O2:IsPair g2 TO o1 o2:=k2.extBut _ _ ap.TOi1 (k1.extBut _ _ ap.TOz hO)
 refine wpAny_bind (wpAny_seqItems O2 rfl (wpAny_bind (wpAny_updateSeq_pair O2 fun g3 O3 k3=>wpAny_bind (wpAny_letGo (wpAny_pure ?_)))))
 have O3:IsPair g3 TO x o2:=O3
 refine wpAny_bind (wpAny_bind (wpAny_onRaise (wpAny_bind (m:=Builtin.SmallTypes.nextOf (.ref r)) (eN (((hr.extBut k1.extBut ap.i2z).extBut k2.extBut ap.i12.symm).extBut k3.extBut ap.TOi2.symm)
  (((hb.extBut k1.extBut ap.l2z).extBut k2.extBut ap.l2i1).extBut k3.extBut ap.l2TO) hy fun g4 r4 k4=>wpAny_pure ?_))))
 have O4:IsPair g4 TO x o2:=k4.extBut _ _ ap.TOi2 O3
 refine wpAny_bind (wpAny_seqItems O4 rfl (wpAny_bind (wpAny_updateSeq_pair O4 fun g5 O5 k5=>wpAny_bind (wpAny_letGo (wpAny_pure (wpAny_pure ?_))))))
 have O5:IsPair g5 TO x y:=O5
 refine wpAny_bind (wpAny_seqItems O5 rfl (wpAny_bind (wpAny_newTuple ?_)))
 have sz:g5.objs.size=s.heap.objs.size:=by rw [k5.1,k4.1,k3.1,k2.1,k1.1]
 have z5:IsZip g5 z TI TO .ellipsis:=k5.extBut _ _ ap.TOz.symm (k4.extBut _ _ ap.i2z.symm (k3.extBut _ _ ap.TOz.symm (k2.extBut _ _ ap.i1z.symm z1)))
 have k05:∀ c o,c ≠ z -> c ≠ TO -> c ≠ p -> c ≠ r -> s.heap.get? c=some o -> g5.get? c=some o:=fun c o n1 n2 n3 n4 e=>k5.extBut _ _ n2 (k4.extBut _ _ n4 (k3.extBut _ _ n2 (k2.extBut _ _ n3 (k1.extBut _ _ n1 e))))
 have p5:g5.IsTupleIter p a (m + 1):=((p2.extBut k3.extBut ap.TOi1.symm).extBut k4.extBut ap.i12).extBut k5.extBut ap.TOi1.symm
 have r5:g5.IsTupleIter r b (n + 1):=r4.extBut k5.extBut ap.TOi2.symm
 have zl:z < g5.objs.size:=Heap.lt_size z5
 show wpAny _ _ (Builtin.SmallTypes.ownedTupleHandOut (.ref z) (.ref g5.objs.size) >>= _) _ _ _
 unfold Builtin.SmallTypes.ownedTupleHandOut
 have z6:IsZip (g5.push { cls:=.type "tuple",data:=.seq #[x,y] }) z TI TO .ellipsis:=Heap.get?_push_of_some _ z5
 refine wpAny_bind (wpAny_bind (wpAny_setField_rec z6 (by simp) fun g7 z7 k7=>?_))
 have z7:IsZip g7 z TI TO (rawInt g5.objs.size):=z7
 refine wpAny_setField_rec z7 (by simp) fun g8 z8 k8=>?_
 have z8:IsZip g8 z TI TO (rawInt g5.objs.size):=z8
 have up:∀ c o,c ≠ z -> g5.get? c=some o -> g8.get? c=some o:=fun c o n1 e=>k8.extBut _ _ n1 (k7.extBut _ _ n1 (Heap.get?_push_of_some _ e))
 have T8:IsPair g8 g5.objs.size x y:=k8.extBut _ _ (Nat.ne_of_gt zl) (k7.extBut _ _ (Nat.ne_of_gt zl) (Heap.get?_push_size _ rfl))
 have s8:g8.objs.size=g5.objs.size + 1:=by rw [k8.1,k7.1,Heap.size_push]
 rw [sz] at z8 T8 s8
 refine wpAny_pure ⟨_,rfl,(?_:R (.ref g5.objs.size) _)⟩
 rw [sz]
 exact hR g8 z8 (up _ _ ap.TOz O5) (p5.at fun o e=>up _ o ap.i1z e) (r5.at fun o e=>up _ o ap.i2z e) T8 s8 fun c o n1 n2 n3 n4 e=>up c o n1 (k05 c o n1 n2 n3 n4 e)
theorem zip_end {R:Fin -> Shared -> Prop} (nh:A.handled=none) (ap:ZipApart z TI TO p r a b) (hz:IsZip s.heap z TI TO .none) (hI:IsPair s.heap TI (.ref p) (.ref r)) (hO:IsPair s.heap TO o1 o2)
  (hp:s.heap.IsTupleIter p a m) (hr:s.heap.IsTupleIter r b n) (ha:s.heap.IsTuple a us) (hb:s.heap.IsTuple b vs) (hend:us[m]?=none \/ vs[n]?=none)
  (hX:∀ g e,(∀ c o,c ≠ z -> c ≠ TO -> c ≠ p -> c ≠ r -> s.heap.get? c=some o -> g.get? c=some o) -> (∃ o,g.get? e=some o /\ o.cls=.type "StopIteration") -> E (.ref e) { s with heap:=g }) :
  wpAny (model prog w) A (Builtin.«zip.__next__» ⟨[.ref z],[]⟩) R E s:=by
 show wpAny _ _ (field (.ref z) 2 >>= _) _ _ _
 refine wpAny_bind (wpAny_field hz rfl (x:=.bool false) rfl (wpAny_bind (m:=field (.ref z) 3) (wpAny_field hz rfl (x:=.ref TI) rfl (wpAny_bind (wpAny_seqItems hI rfl ?_)))))
 show wpAny _ _ (Builtin.SmallTypes.ownedTupleIsFree (.ref z) >>= _) _ _ _
 unfold Builtin.SmallTypes.ownedTupleIsFree
 refine wpAny_bind (wpAny_bind (wpAny_field hz rfl (x:=.none) rfl (wpAny_pure ?_)))
 simp only [if_true]
 refine wpAny_bind (wpAny_rule (wpAny_bind (wpAny_field hz rfl (x:=.ref TO) rfl (wpAny_bind (wpAny_setField_rec hz (by simp) fun g1 z1 k1=>wpAny_bind ?_)))))
 have z1:IsZip g1 z TI TO .ellipsis:=z1
 simp only [List.zipIdx_cons,List.zipIdx_nil,List.forIn_cons,List.forIn_nil]
 refine wpAny_bind (wpAny_bind (wpAny_onRaise (wpAny_bind (m:=Builtin.SmallTypes.nextOf (.ref p)) ?_)))
 have off:∀ {g:Heap} {e:Addr} {oe:Obj},IsZip g z TI TO .ellipsis -> g.get? e=some oe -> oe.cls=.type "StopIteration" -> e ≠ z:=fun hg he hc y=>by subst y; rw [hg] at he; cases he; simp at hc
 cases hx:us[m]? with
 | none =>
  refine ic nh (hp.extBut k1.extBut ap.i1z) (ha.extBut k1.extBut ap.l1z) hx fun g2 e k2 ⟨oe,he,ce⟩=>?_
  have z2:IsZip g2 z TI TO .ellipsis:=k2 _ _ ap.i1z.symm z1
  exact wpAny_setField_rec z2 (by simp) fun g3 _ k3=>hX g3 e (fun c o n1 _ n3 _ q=>k3.extBut _ _ n1 (k2 _ _ n3 (k1.extBut _ _ n1 q))) ⟨oe,k3.extBut _ _ (off z2 he ce) he,ce⟩
 | some x =>
  have hy:vs[n]?=none:=hend.resolve_left (by rw [hx]; exact fun h=>nomatch h)
  refine eN (hp.extBut k1.extBut ap.i1z) (ha.extBut k1.extBut ap.l1z) hx fun g2 p2 k2=>wpAny_pure ?_
  have O2:IsPair g2 TO o1 o2:=k2.extBut _ _ ap.TOi1 (k1.extBut _ _ ap.TOz hO)
  refine wpAny_bind (wpAny_seqItems O2 rfl (wpAny_bind (wpAny_updateSeq_pair O2 fun g3 O3 k3=>wpAny_bind (wpAny_letGo (wpAny_pure ?_)))))
  refine wpAny_bind (wpAny_bind (wpAny_onRaise (wpAny_bind (m:=Builtin.SmallTypes.nextOf (.ref r)) (ic nh (((hr.extBut k1.extBut ap.i2z).extBut k2.extBut ap.i12.symm).extBut k3.extBut ap.TOi2.symm)
   (((hb.extBut k1.extBut ap.l2z).extBut k2.extBut ap.l2i1).extBut k3.extBut ap.l2TO) hy fun g4 e k4 ⟨oe,he,ce⟩=>?_))))
  have z4:IsZip g4 z TI TO .ellipsis:=k4 _ _ ap.i2z.symm (k3.extBut _ _ ap.TOz.symm (k2.extBut _ _ ap.i1z.symm z1))
  exact wpAny_setField_rec z4 (by simp) fun g5 _ k5=>hX g5 e (fun c o n1 n2 n3 n4 q=>k5.extBut _ _ n1 (k4 _ _ n4 (k3.extBut _ _ n2 (k2.extBut _ _ n3 (k1.extBut _ _ n1 q))))) ⟨oe,k5.extBut _ _ (off z4 he ce) he,ce⟩
end
abbrev g1 (h:Heap) (a:Addr):Heap:=h.push { cls:=.type "tuple_iterator",data:=.fields #[.ref a,.int 0 0] }
abbrev g2 (h:Heap) (a b:Addr):Heap:=(g1 h a).push { cls:=.type "tuple_iterator",data:=.fields #[.ref b,.int 0 0] }
abbrev g3 (h:Heap) (a b:Addr):Heap:=(g2 h a b).push { cls:=.type "tuple",data:=.seq #[.ref h.objs.size,.ref (g1 h a).objs.size] }
abbrev g4 (h:Heap) (a b:Addr):Heap:=(g3 h a b).push { cls:=.type "tuple",data:=.seq #[.none,.none] }
abbrev g5 (h:Heap) (a b:Addr):Heap:=(g4 h a b).push { cls:=.type "zip",data:=.fields #[.none,.bool false,.bool false,.ref (g2 h a b).objs.size,.ref (g3 h a b).objs.size] }
theorem oj (a b:Addr) (us vs:Array Value):Meets (Builtin.«zip.__new__» ⟨[.type "zip",.ref a,.ref b],[]⟩) (fun _ R s=>s.heap.IsTuple a us /\ s.heap.IsTuple b vs /\ R (.ok (.ret (.ref (g4 s.heap a b).objs.size))) { s with heap:=g5 s.heap a b }) :=
 .of_wp fun prog w A R s h=>by
  obtain ⟨hp,gs,dr,tk,os⟩:=s
  obtain ⟨ha,hb,h⟩:=h
  have sub:=sub_zip
  have ha1:Heap.IsTuple (Shared.heap ⟨hp,gs,dr,tk,os⟩) a us:=ha
  have hb1:Heap.IsTuple (Shared.heap ⟨hp.push { cls:=.type "tuple_iterator",data:=.fields #[.ref a,.int 0 0] },gs,dr,tk,os⟩) b vs:=Heap.IsTuple.push hb _
  wp_walk using wpAny_pyIter_tuple ha1,wpAny_pyIter_tuple hb1
  exact ⟨_,rfl,h⟩
theorem qf {a b:Addr} {us vs:Array Value} {R:Value -> Shared -> Prop} (ha:s.heap.IsTuple a us) (hb:s.heap.IsTuple b vs)
  (h:∀ g,IsZip g (s.heap.objs.size + 4) (s.heap.objs.size + 2) (s.heap.objs.size + 3) .none -> IsPair g (s.heap.objs.size + 2) (.ref s.heap.objs.size) (.ref (s.heap.objs.size + 1)) -> IsPair g (s.heap.objs.size + 3) .none .none ->
   g.IsTupleIter s.heap.objs.size a 0 -> g.IsTupleIter (s.heap.objs.size + 1) b 0 -> (∀ c o,s.heap.get? c=some o -> g.get? c=some o) -> R (.ref (s.heap.objs.size + 4)) { s with heap:=g }) :
  wpAny (model prog w) A (call (.type "zip") [.ref a,.ref b]) R E s:=by
 refine callType_new F.called_zip (by decide) (F.typeCall_zip_2 _ _) (F.newCall_zip_2 _ _) (fun obj=>F.args_object_init_3 obj _ _) F.entry_zip_new (oj a b us vs) ⟨ha,hb,?_⟩
 have s1:(g1 s.heap a).objs.size=s.heap.objs.size + 1:=Heap.size_push ..
 have s2:(g2 s.heap a b).objs.size=s.heap.objs.size + 2:=by rw [Heap.size_push,s1]
 have s3:(g3 s.heap a b).objs.size=s.heap.objs.size + 3:=by rw [Heap.size_push,s2]
 have s4:(g4 s.heap a b).objs.size=s.heap.objs.size + 4:=by rw [Heap.size_push,s3]
 have e5:(g5 s.heap a b).get? (g4 s.heap a b).objs.size=some _:=Heap.get?_push_size _ rfl
 have e4:(g5 s.heap a b).get? (g3 s.heap a b).objs.size=some _:=Heap.get?_push_of_some _ (Heap.get?_push_size _ rfl)
 have e3:(g5 s.heap a b).get? (g2 s.heap a b).objs.size=some _:=Heap.get?_push_of_some _ (Heap.get?_push_of_some _ (Heap.get?_push_size _ rfl))
 have e2:(g5 s.heap a b).get? (g1 s.heap a).objs.size=some _:=Heap.get?_push_of_some _ (Heap.get?_push_of_some _ (Heap.get?_push_of_some _ (Heap.get?_push_size _ rfl)))
 have e1:(g5 s.heap a b).get? s.heap.objs.size=some _:=Heap.get?_push_of_some _ (Heap.get?_push_of_some _ (Heap.get?_push_of_some _ (Heap.get?_push_of_some _ (Heap.get?_push_size _ rfl))))
 show _ /\ _
 rw [s2,s3,s4] at e5
 rw [s1,s2] at e3
 rw [s3] at e4
 rw [s1] at e2
 rw [s4]
 exact ⟨⟨_,e5,rfl⟩,h _ e5 e3 e4 ⟨_,e1,rfl,rfl⟩ ⟨_,e2,rfl,rfl⟩ fun c o x=>Heap.get?_push_of_some _ (Heap.get?_push_of_some _ (Heap.get?_push_of_some _ (Heap.get?_push_of_some _ (Heap.get?_push_of_some _ x))))⟩
end
end L2.ZT
namespace L2
open PySem PySem.Spec PyProof.Rows
def Itu (K:PySem.W.Frag) (l1 l2:Addr):It :=
 ⟨fun i H=>∃ xs ys x y,SqT K H l1 xs /\ SqT K H l2 ys /\ xs[i]?=some x /\ ys[i]?=some y,fun i H v H'=>∃ p,v=.ref p /\ H p=none /\ ∀ xs ys,SqT K H l1 xs -> SqT K H l2 ys -> ∃ x y,xs[i]?=some x /\ ys[i]?=some y /\ H'=upd H p (.tup [x,y]),
  fun i H=>∃ xs ys,SqT K H l1 xs /\ SqT K H l2 ys /\ i=min xs.length ys.length⟩
def TnU (z TI TO i1 i2 l1 l2:Addr) (i:Nat) (h:Heap):Prop:=IsZip h z TI TO Value.none /\ IsPair h TI (Value.ref i1) (Value.ref i2) /\ (∃ a b,IsPair h TO a b) /\ h.IsTupleIter i1 l1 i /\ h.IsTupleIter i2 l2 i
theorem ol {P:Program} {w:World} {K:PySem.W.Frag} {elts:List Expr} {k:Nat} {pos:Pos} {z TI TO i1 i2 l1 l2:Addr} (ap:ZipApart z TI TO i1 i2 l1 l2):jr P w K (.Tuple elts k pos) (Itu K l1 l2) [z,TI,TO,i1,i2] z (TnU z TI TO i1 i2 l1 l2) where
 mem:=by simp
 obj:=fun i h st b hb=>by
  obtain ⟨h1,h2,⟨u,v,h3⟩,h4,h5⟩:=st
  simp only [List.mem_cons,List.not_mem_nil,or_false] at hb
  rcases hb with rfl | rfl | rfl | rfl | rfl
  ·exact ⟨_,h1,fun v e=>by cases e⟩
  ·exact ⟨_,h2,fun v e=>by cases e⟩
  ·exact ⟨_,h3,fun v e=>by cases e⟩
  ·obtain ⟨o,e,c,d⟩:=h4
   exact ⟨o,e,fun v z=>by rw [d] at z; cases z⟩
  ·obtain ⟨o,e,c,d⟩:=h5
   exact ⟨o,e,fun v z=>by rw [d] at z; cases z⟩
 keep:=fun i h h' st kk=>by
  obtain ⟨h1,h2,⟨u,v,h3⟩,h4,h5⟩:=st
  exact ⟨kk _ (by simp) _ h1,kk _ (by simp) _ h2,⟨u,v,kk _ (by simp) _ h3⟩,h4.at fun o e=>kk _ (by simp) o e,h5.at fun o e=>kk _ (by simp) o e⟩
 item:=by
  intro X hP hw hK hc i pins s σ H E I hf st hg
  subst hP hw hK
  obtain ⟨xs,ys,x,y,hx,hy,ex,ey⟩:=hg
  obtain ⟨its,rv,p,hz⟩:=I.tuple hx
  obtain ⟨jts,rv',p',hz'⟩:=I.tuple hy
  obtain ⟨u,hu,ru⟩:=rv.get ex
  obtain ⟨v,hv,rv2⟩:=rv'.get ey
  obtain ⟨st1,st2,⟨oa,ob,st3⟩,st4,st5⟩:=st
  have hT:s.TypeIs (.ref z) "zip":=⟨_,st1,rfl⟩
  unfold pyNext
  refine wpAny_bind (wpAny_attempt (wpAny_callSpecial?_slot (name:=Str.ofString "__next__") hT F.slot_zip_next (wpAny_call_entry F.slot_zip_next hT F.entry_zip_next
   (ZT.qe ap st1 st2 st3 st4 st5 (show s.heap.IsTuple l1 its.toArray from p) (show s.heap.IsTuple l2 jts.toArray from p') (x:=u) (y:=v) (by simpa using hu) (by simpa using hv) fun g a1 a2 a3 a4 a5 a6 kk=>wpAny_pure ?_) (F.args_zip_next_1 _))))
  refine ⟨_,rfl,wpAny_letOwnedTupleGo_zip a1 fun g' zz sb=>?_⟩
  have lt:∀ {c:Addr} {o:Obj},s.heap.get? c=some o -> s.heap.objs.size ≠ c:=fun e=>Nat.ne_of_gt (Heap.lt_size e)
  have up:∀ c o,c ≠ z -> g.get? c=some o -> g'.get? c=some o:=fun c o n e=>sb.extBut _ _ n e
  have hTup:IsTup g' s.heap.objs.size [u,v].toArray:=⟨_,up _ _ (lt st1) a5,rfl,_,rfl⟩
  have hfw:∀ b ∈ ([z,TO,i1,i2]:List Addr),gA X pins H b:=fun b hb=>hf b (by simp only [List.mem_cons,List.not_mem_nil,or_false] at hb ⊢; rcases hb with h | h | h | h <;> simp [h])
  have kk2:∀ b o,b ∉ ([z,TO,i1,i2]:List Addr) -> s.heap.get? b=some o -> g'.get? b=some o:=fun b o hb e=>by
   simp only [List.mem_cons,List.not_mem_nil,or_false,not_or] at hb
   exact up _ _ hb.1 (kk b o hb.1 hb.2.1 hb.2.2.1 hb.2.2.2 e)
  have I1:=I.turnedT (h':=g') (t':=s.toks) (T:=s.heap.objs.size) (xs:=[x,y]) (us:=[u,v]) (ch:=[z,TO,i1,i2]) kk2 hfw (Nat.le_refl _) (by show 2 <= sizeLine; decide) (.cons ru (.cons rv2 .nil)) hTup
  refine ⟨.ref s.heap.objs.size,_,I1,rfl,⟨_,rfl,I.hok.fresh (Nat.le_refl _),fun xs' ys' hx' hy'=>⟨x,y,?_,?_,rfl⟩⟩,⟨zz,up _ _ ap.TIz (kk _ _ ap.TIz ap.TITO ap.TIi1 ap.TIi2 st2),⟨_,_,up _ _ ap.TOz a2⟩,a3.at fun o e=>up _ o ap.i1z e,a4.at fun o e=>up _ o ap.i2z e⟩,fun b hb=>?_⟩
  ·rw [I.tuple_inj hx' hx]; exact ex
  ·rw [I.tuple_inj hy' hy]; exact ey
  ·have hb':∃ o,s.heap.get? b=some o:=by
    simp only [List.mem_cons,List.not_mem_nil,or_false] at hb
    obtain ⟨o4,e4,_⟩:=st4
    obtain ⟨o5,e5,_⟩:=st5
    rcases hb with h | h | h | h | h <;> rw [h]
    ·exact ⟨_,st1⟩
    ·exact ⟨_,st2⟩
    ·exact ⟨_,st3⟩
    ·exact ⟨_,e4⟩
    ·exact ⟨_,e5⟩
   obtain ⟨o,e⟩:=hb'
   rw [au (Nat.ne_of_lt (Heap.lt_size e))]
   exact (hf b hb).1
 done:=by
  intro X hP hw hK hc i pins s σ H E I hf st hg
  subst hP hw hK
  obtain ⟨xs,ys,hx,hy,rfl⟩:=hg
  obtain ⟨its,rv,p,hz⟩:=I.tuple hx
  obtain ⟨jts,rv',p',hz'⟩:=I.tuple hy
  obtain ⟨st1,st2,⟨oa,ob,st3⟩,st4,st5⟩:=st
  have hfw:∀ b ∈ ([z,TO,i1,i2]:List Addr),gA X pins H b:=fun b hb=>hf b (by simp only [List.mem_cons,List.not_mem_nil,or_false] at hb ⊢; rcases hb with h | h | h | h <;> simp [h])
  have e1:=rv.length
  have e2:=rv'.length
  have hend:its.toArray[min xs.length ys.length]?=none \/ jts.toArray[min xs.length ys.length]?=none:=by
   by_cases h:xs.length <= ys.length
   ·exact .inl (Array.getElem?_eq_none (by rw [List.size_toArray]; lia))
   ·exact .inr (Array.getElem?_eq_none (by rw [List.size_toArray]; lia))
  have hT:s.TypeIs (.ref z) "zip":=⟨_,st1,rfl⟩
  unfold pyNext
  refine wpAny_bind (wpAny_attempt (wpAny_callSpecial?_slot (name:=Str.ofString "__next__") hT F.slot_zip_next (wpAny_call_entry F.slot_zip_next hT F.entry_zip_next
   (ZT.zip_end (I.ok.hd hc) ap st1 st2 st3 st4 st5 (show s.heap.IsTuple l1 its.toArray from p) (show s.heap.IsTuple l2 jts.toArray from p') hend fun g e kk ⟨oe,he,ce⟩=>?_) (F.args_zip_next_1 _))))
  refine wpAny_bind (wpAny_isInstance (T:="StopIteration") (b:=true) ⟨oe,he,ce⟩ isSubtype_stop (wpAny_pure ⟨rfl,I.turnedL (t':=s.toks) (ch:=[z,TO,i1,i2]) (fun b o hb e=>?_) hfw⟩))
  simp only [List.mem_cons,List.not_mem_nil,or_false,not_or] at hb
  exact kk b o hb.1 hb.2.1 hb.2.2.1 hb.2.2.2 e
 self:=fun _ _ _ _ _ st h=>wpAny_pyIter_zip st.1 h
section
variable {X:Cx}
def iZipT (K:PySem.W.Frag) (ta:TA):TI:=fun σ H R=>ta σ H fun vs H1=>∃ a b xs ys,vs=[.ref a,.ref b] /\ SqT K H1 a xs /\ SqT K H1 b ys /\ R (Itu K a b) H1
theorem pi_zipT {elts:List Expr} {k:Nat} {tpos:Pos} {a b:Expr} {ta:TA} {p pos:Pos} (hg:Gl X "zip") (hm:X.mg "zip"=none) (ha:PA X [a,b] ta) (hs:starEach [a,b] X.env=[(false,eval a X.env),(false,eval b X.env)]:=by rfl) (hs2:starEach [b] X.env=[(false,eval b X.env)]:=by rfl) :
  PI X (.Tuple elts k tpos) (.Call (.Name "zip" p) [a,b] [] pos) (iZipT X.K ta):=by
 intro pins s σ H R I h
 refine Call_ (dR I hg hm boot_zip (PyProof.Rows.callWith_type1 (thn (ha pos pins s σ H _ I h) fun us s1 ⟨vs,H1,I1,r1,q1⟩=>?_) (by rw [hs,hs2]) (by rw [hs2]; rfl)))
 obtain ⟨l1,l2,xs,ys,e,hx,hy,q⟩:=q1
 subst e
 obtain ⟨u,u2,rfl,rr1,rr2⟩:=gt r1
 cases rr1
 cases rr2
 obtain ⟨its,rv,p1,hz⟩:=I1.tuple hx
 obtain ⟨jts,rv',p2,hz'⟩:=I1.tuple hy
 have h1:l1 < s1.heap.objs.size:=by obtain ⟨o,e,_⟩:=id p1; exact Heap.lt_size e
 have h2:l2 < s1.heap.objs.size:=by obtain ⟨o,e,_⟩:=id p2; exact Heap.lt_size e
 refine ZT.qf (show s1.heap.IsTuple l1 its.toArray from p1) (show s1.heap.IsTuple l2 jts.toArray from p2) fun h' z1 z2 z3 z4 z5 kk=>?_
 refine wpAny_pyIter_zip (s:={ s1 with heap:=h' }) z1 ?_
 refine ⟨_,[s1.heap.objs.size + 4,s1.heap.objs.size + 2,s1.heap.objs.size + 3,s1.heap.objs.size,s1.heap.objs.size + 1],_,_,H1,rfl,I1.kept (t':=s1.toks) kk,ol (zipApart_new h1 h2),⟨z1,z2,⟨_,_,z3⟩,z4,z5⟩,fun b hb=>?_,q⟩
 have hb':s1.heap.objs.size <= b:=by
  simp only [List.mem_cons,List.not_mem_nil,or_false] at hb
  rcases hb with h | h | h | h | h <;> rw [h] <;> first | exact Nat.le_add_right _ _ | exact Nat.le_refl _
 exact I1.fpOk hb' (I1.hok.fresh hb')
end
theorem qg {K:PySem.W.Frag} {a:Addr} {xs:List V} {k:Nat} {σ:St} {H1:Hp} {te:TE} {Q:VK} (f:V -> V) (hk:σ.length=k) (hq:H1 a=some (.tup xs)) (hz:xs.length <= 1000)
  (turn:∀ D x ys H (post:VK),H1 D=none -> x ∈ xs -> aA H1 H -> H D=some (.lst ys) -> (∀ H',aA H H' -> post (f x) H') -> te (σ ++ [some x]) H post)
  (fin:∀ D H,H1 D=none -> aA H1 H -> H D=some (.lst (xs.map f)) -> Q (.ref D) H):LCT 1 (bY k) iG te σ Q (Itt K a) H1:=by
 refine lcJ (n:=xs.length) (fun i=>xs.getD i .non) (fun D i ys H=>H1 D=none /\ aA H1 H /\ H D=some (.lst ys) /\ ys=(xs.take i).map f) hk ?_ ?_ ?_ ?_ ?_ ?_
 ·rintro D i ys H hi ⟨h1,h2,h3,rfl⟩
  exact ⟨xs,xs[i],SqT.of (h2 _ _ hq),by simp [hi]⟩
 ·rintro D i ys H x H' hi ⟨h1,h2,h3,rfl⟩ ⟨e,y⟩
  refine ⟨e,?_⟩
  have:=y xs (SqT.of (h2 _ _ hq))
  rw [List.getD_eq_getElem?_getD,this]; rfl
 ·rintro D ys H ⟨h1,h2,h3,rfl⟩
  exact ⟨xs,SqT.of (h2 _ _ hq),Nat.le_refl _⟩
 ·intro D hD
  exact ⟨hD,aA.new hD,ar,rfl⟩
 ·rintro D i ys H post hi ⟨h1,h2,h3,rfl⟩ hp
  have hx:xs.getD i .non=xs[i]:=by simp [hi]
  rw [hx]
  refine turn D xs[i] _ H post h1 (List.getElem_mem hi) h2 h3 fun H' s'=>hp _ _ (s' _ _ h3) ?_ ⟨h1,fun b o e=>?_,ar,?_⟩
  ·rw [List.length_map,List.length_take]
   exact bz (by lia)
  ·rw [au (am e h1)]
   exact s' _ _ (h2 _ _ e)
  ·rw [List.take_add_one,List.getElem?_eq_getElem hi,List.map_append]; rfl
 ·rintro D ys H ⟨h1,h2,h3,rfl⟩
  rw [List.take_length] at h3
  exact fin D H h1 h2 h3
theorem lcZU {K:PySem.W.Frag} {a b:Addr} {xs ys:List V} {g:TG} {σ:St} {H1:Hp} {te:TE} {Q:VK} (f:V -> V -> V) (ha:H1 a=some (.tup xs)) (hb:H1 b=some (.tup ys)) (hz:xs.length <= 1000)
  (hg:∀ (p:Addr) (x y:V) (H:Hp) (R:St -> Hp -> Prop),H p=some (.tup [x,y]) -> R (σ ++ [some x,some y]) H -> g (.ref p) (σ ++ List.replicate 2 none) H R)
  (turn:∀ (i:Nat) x y H (post:VK),xs[i]?=some x -> ys[i]?=some y -> aA H1 H -> (∀ H',aA H H' -> post (f x y) H') -> te (σ ++ [some x,some y]) H post)
  (fin:∀ D H,H1 D=none -> aA H1 H -> H D=some (.lst ((xs.zip ys).map fun p=>f p.1 p.2)) -> Q (.ref D) H):LCT 2 g iG te σ Q (Itu K a b) H1:=by
 have hzl:(xs.zip ys).length=min xs.length ys.length:=List.length_zip ..
 intro D hD
 refine ⟨fun i m us H=>m=(xs.zip ys).length - i /\ i <= (xs.zip ys).length /\ aA H1 H /\ H D=some (.lst us) /\ us=((xs.zip ys).take i).map fun p=>f p.1 p.2,⟨(xs.zip ys).length,by simp,Nat.zero_le _,aA.new hD,ar,rfl⟩,?_⟩
 rintro i m us H ⟨rfl,hi,sm,hDD,rfl⟩
 by_cases hlt:i < (xs.zip ys).length
 ·have h1:i < xs.length:=by lia
  have h2:i < ys.length:=by lia
  refine .inr ⟨⟨xs,ys,xs[i],ys[i],SqT.of (sm _ _ ha),SqT.of (sm _ _ hb),by simp,by simp⟩,fun v H' y=>?_⟩
  obtain ⟨p,rfl,hp,y⟩:=y
  obtain ⟨x',y',ex,ey,rfl⟩:=y xs ys (SqT.of (sm _ _ ha)) (SqT.of (sm _ _ hb))
  have s2:=aA.new (o:=.tup [x',y']) hp
  refine hg p x' y' _ _ ar ⟨⟨_,rfl,rfl⟩,?_⟩
  unfold iG
  refine aQ (turn i x' y' _ _ ex ey (sm.trans s2) fun H4 s4=>⟨s4 _ _ (s2 _ _ hDD),?_,(xs.zip ys).length - (i + 1),by lia,rfl,hlt,fun c o e=>?_,ar,?_⟩)
  ·rw [List.length_map,List.length_take]
   exact bz (by lia)
  ·rw [au (am e hD)]
   exact s4 _ _ (s2 _ _ (sm _ _ e))
  ·rw [List.take_add_one,List.getElem?_eq_getElem hlt,List.map_append]
   have e1:(xs.zip ys)[i]=(x',y'):=by
    rw [List.getElem_zip]
    rw [List.getElem?_eq_getElem h1] at ex
    rw [List.getElem?_eq_getElem h2] at ey
    rw [Option.some.inj ex,Option.some.inj ey]
   rw [e1]; rfl
 ·have e:i=(xs.zip ys).length:=by lia
  subst e
  rw [List.take_length] at hDD
  exact .inl ⟨⟨xs,ys,SqT.of (sm _ _ ha),SqT.of (sm _ _ hb),hzl⟩,fin D H hD sm hDD⟩
section
variable {X:Cx}
theorem lA (bs:List Bool):((List.range bs.length).any fun i=>(bs[i]?).getD false)=bs.any id:=by
 rw [Bool.eq_iff_iff,List.any_eq_true,List.any_eq_true]
 constructor
 ·rintro ⟨i,hi,h⟩
  have hi:=List.mem_range.mp hi
  rw [List.getElem?_eq_getElem hi] at h
  exact ⟨_,List.getElem_mem hi,h⟩
 ·rintro ⟨b,hb,h⟩
  obtain ⟨i,hi,e⟩:=List.getElem_of_mem hb
  exact ⟨i,List.mem_range.mpr hi,by rw [List.getElem?_eq_getElem hi,e]; exact h⟩
theorem iY (hc:X.calm=true):cm X (.builtin "any") (fun xs H Q=>∃ (p:Addr) (bs:List Bool),xs=[.ref p] /\ SqL X.K H p (bs.map V.bl) /\ Q (.bl (bs.any id)) H):=by
 intro pins s σ H xs us Q I rv h
 obtain ⟨p,bs,rfl,hS,q⟩:=h
 obtain ⟨u,rfl,ru⟩:=rv.one
 cases ru
 obtain ⟨its,r,hp,_⟩:=I.list hS
 have hlen:its.length=bs.length:=by have:=r.length; rw [List.length_map] at this; lia
 have hl:=hp.isList
 have hlt:p < s.heap.objs.size:=by obtain ⟨_,e,_⟩:=hl; exact Heap.lt_size e
 refine call_any_walk (wpAny_pyIter_list hl ?_)
 refine ⟨s.heap.objs.size,[s.heap.objs.size,p],[s.heap.objs.size],its.toArray.size,_,_,fun i=>(bs[i]?).getD false,rfl,Walks.list (A:=X.A.in1) (I.ok.hd hc) _ p (Nat.ne_of_lt hlt) its.toArray,
  ⟨⟨_,Heap.get?_push_size _ rfl,rfl,rfl⟩,hl.push _⟩,fun i v s' Q' E' hP hQ=>?_,fun h' tk hk=>?_⟩
 ·obtain ⟨b,e,rfl⟩:=mG r (i:=i) (v:=v) (by simpa using hP)
  simp only [e,Option.getD_some] at hQ
  exact wpAny_truthy_bool hQ
 ·rw [List.size_toArray,hlen,lA]
  refine ⟨.bl _,H,I.kept (t':=tk) fun b o e=>hk b o (fun hm=>?_) (Heap.get?_push_of_some _ e),rfl,q⟩
  rw [List.mem_singleton.mp hm] at e
  exact Nat.lt_irrefl _ (Heap.lt_size e)
end
def tJoin (t:TS):TS:=fun D σ H=>∃ J:St -> Hp -> Prop,t { D with nx:=J } σ H /\ ∀ σ' H',J σ' H' -> D.nx σ' H'
theorem fH {X:Cx} {st:Stmt} {t:TS} (h:PS X st t):PS X st (tJoin t):=by
 intro pins s σ H D I hh
 obtain ⟨J,h1,h2⟩:=hh
 refine thn (h pins s σ H { D with nx:=J } I h1) fun f s1 q=>?_
 cases f with
 | next =>
  obtain ⟨σ',H',I',q⟩:=q
  exact ⟨σ',H',I',h2 _ _ q⟩
 | ret v=>exact q
 | brk=>exact q
 | cont=>exact q
section
variable {P:Program} {w:World} {H H' H1 H2:Hp} {h h0 h1 h2 B:Heap} {a:Addr} {o:HO} {fs:List Addr}
theorem bh.there (x:bh P w H h a o):∃ u,h.get? a=some u:=by
 cases o with
 | lst xs=>obtain ⟨_,_,_,_,e⟩:=x; exact ⟨_,e⟩
 | tup xs=>obtain ⟨_,_,_,ob,e,_⟩:=x; exact ⟨_,e⟩
 | dK kvs=>obtain ⟨_,_,_,_,o,_,_,e,_⟩:=x; exact ⟨_,e⟩
 | dT kvs=>obtain ⟨_,_,_,_,o,_,_,e,_⟩:=x; exact ⟨_,e⟩
 | set S n=>obtain ⟨o,_,_,_,e,_⟩:=x; exact ⟨_,e⟩
 | ins C dx fs=>obtain ⟨_,_,_,e,_⟩:=x; exact ⟨_,e⟩
 | own y=>exact x
 | xd fs=>obtain ⟨_,⟨_,_,_,e,_⟩,_⟩:=x; exact ⟨_,e⟩
 | rng lo hi=>obtain ⟨_,_,_,e⟩:=x; exact ⟨_,e⟩
 | frz ob u=>obtain ⟨e,_⟩:=x; exact ⟨_,e⟩
 | tbl ps=>exact ⟨_,(show h.get? a=some _ from x)⟩
 | met f y=>exact ⟨_,(show h.get? a=some _ from x)⟩
 | ext φ=>obtain ⟨_,e,_⟩:=x; exact e
def Cov (fs:List Addr) (h0 h1:Heap) (H':Hp) (B:Heap):Prop:=∀ b u,h1.get? b=some u -> ((∃ o,h0.get? b=some o) \/ H' b ≠ none) -> b ∉ fs -> B.get? b=some u
theorem qh (un:Un fs [] H H2 h0 h1) (hok:HOk P w H2 h1) (cov:Cov fs h0 h1 H2 B) (st:B.StaysIn h2) (up:h1.UpToSlots h2) (nf:∀ b ∈ fs,H2 b=none) (fd:∀ b ∈ fs,∀ o,h1.get? b=some o -> ∀ vs,o.data ≠ .fields vs) :
  Un fs [] H H2 h0 h2 /\ HOk P w H2 h2 /\ Cov fs h0 h2 H2 B:=by
 have one:∀ b u,h1.get? b=some u -> ((∃ o,h0.get? b=some o) \/ H2 b ≠ none) -> b ∉ fs -> h2.get? b=some u:=fun b u e c n=>st b u (cov b u e c n)
 refine ⟨⟨fun b ob e n hb hx=>?_,fun b ob e n hb hx=>?_,un.free,fun b ob e hx=>?_,un.tups,un.frzs,un.tbls⟩,fun b u e=>?_,fun b u e c n=>?_⟩
 ·exact one b ob (un.keep b ob e n hb hx) (.inl ⟨ob,e⟩) hb
 ·obtain ⟨sl,e1⟩:=un.slot b ob e n hb hx
  obtain ⟨sl',e2⟩:=up b _ e1 (fd b hb _ e1)
  exact ⟨sl',e2⟩
 ·obtain ⟨o',e1⟩:=un.there b ob e hx
  by_cases hb:b ∈ fs
  ·obtain ⟨sl',e2⟩:=up b _ e1 (fd b hb _ e1)
   exact ⟨_,e2⟩
  ·exact ⟨_,one b o' e1 (.inl ⟨ob,e⟩) hb⟩
 ·refine (hok b u e).stay (fun c v hc q=>?_) (fun _ q=>q) fun _ _ q=>q
  have hn:H2 c ≠ none:=by
   rcases hc with rfl | hc
   ·rw [e]; intro z; cases z
   ·rw [hc]; intro z; cases z
  exact one c v q (.inr hn) fun z=>hn (nf c z)
 ·have:∃ v,h1.get? b=some v:=by
   rcases c with ⟨o',e1⟩ | c
   ·exact un.there b o' e1 (by simp)
   ·cases hq:H2 b with
    | none=>exact absurd hq c
    | some q=>exact (hok b q hq).there
  obtain ⟨v,hv⟩:=this
  have:=cov b v hv c n
  have e2:=st b v this
  rw [e] at e2
  cases e2
  exact this
end
section
variable {X:Cx} {pins:List (Addr × Obj)} {σ:St} {H H2:Hp} {s s':Shared}
theorem qi (I:Inv X pins σ H s) (un:Un (frs X.stack) [] H H2 s.heap s'.heap):∀ b ∈ frs X.stack,H2 b=none:=fun b hb=>by
 obtain ⟨_,o,ho,_⟩:=I.stack.mem hb
 exact un.free b o ho (I.stkFree b hb) (by simp)
theorem ko {B h:Heap} {l:List Env} {e:Addr} {cls a0:Value} (f:Heap.FlyingW B l e cls a0 h):∀ b ∈ frs l,∀ o,h.get? b=some o -> ∀ vs,o.data ≠ .fields vs:=fun b hb o ho=>by
 obtain ⟨_,o',ho',hd⟩:=f.2.2.1.mem hb
 rw [ho] at ho'
 cases ho'
 exact hd
end
section
variable {P:Program} {w:World} {K:PySem.W.Frag} {mg:Str -> Option Value} {base:Heap} {N:List Str} {qual:Str} {scope:Scope} {f:Addr} {cd:Value} {A:Around} {outer:List Env} {s:Shared} {H:Hp} {E:XK}
end
def bmV:List Value:=[.type "ValueError",.type "Exception",.type "BaseException",.type "object"]
def ExcAt (h:Heap) (C:Addr):Prop:=∃ bm N nm qn bs hd sn sub ab col dd k0 k1 k2 k3 k5 mN,h.get? C=some (excClassObj nm qn C N bs bm hd sn sub ab col dd k0 k1 k2 k3 k5 "ValueError.__new__") /\ h.Ns N mN /\ mN "__init__"=none /\ OwnTail h bmV bm
theorem qj {K:PySem.W.Frag} {h:Heap} {C:Addr} (X:K.In h) (q:PySem.W.excIn K C bmV "ValueError.__new__"=true):ExcAt h C:=by
 unfold PySem.W.excIn at q
 split at q
 case h_2=>cases q
 case h_1 dd cd sl ho =>
  split at q
  case h_2=>cases q
  case h_1 C2 tail y0 y1 y2 y3 nn y5 em es =>
   simp only [Bool.and_eq_true,beq_iff_eq,Bool.not_eq_true'] at q
   obtain ⟨⟨⟨⟨⟨c1,c2⟩,c3⟩,c4⟩,c5⟩,c6⟩:=q
   subst c1 c2
   cases cd
   rename_i f1 f2 f3 f4 f5 f6 f7 f8 f9 f10 f11
   simp only at em c3 c5 c6
   subst em c3
   obtain rfl:sl=#[y0,y1,y2,y3,some (.builtin "ValueError.__new__"),y5]:=by
    cases sl
    simp only at es
    rw [es]
   refine ⟨tail,f4,f1,f5,f2,f6,f7,f8,f9,f10,dd,y0,y1,y2,y3,y5,h.nsMap f4,X _ _ ho,?_,?_,PySem.W.tail_of_in X c4⟩
   ·exact .of_isNs (PySem.W.isNs_of_in X c5)
   ·exact PySem.W.nsMap_none_of_in X c5 c6
structure ExcC (K:PySem.W.Frag) (mg:Str -> Option Value) (x:Str) (C:Addr):Prop where
 mgC:mg x=some (.ref C)
 ex:PySem.W.excIn K C bmV "ValueError.__new__"=true
def fJ (X:Cx) (pins:List (Addr × Obj)) (xe:Value -> Shared -> Prop):Cx:={ X with pn:=X.pn ++ pins,xe:=xe }
def cxH (X:Cx) (ea:Addr):Cx:={ X with A:=X.A.mark (some (.ref ea)),calm:=false,xe:=fun _ _=>False }
section
variable {X:Cx} {pins pins':List (Addr × Obj)} {xe:Value -> Shared -> Prop} {σ:St} {H:Hp} {s:Shared} {ea:Addr}
theorem okTry (ok:X.Ok):(fJ X pins xe).Ok:=⟨ok.mod,ok.kind,ok.glob,ok.blt,ok.above,ok.inj,ok.has,ok.cab,ok.hd,ok.frames,ok.stk,ok.exf,ok.bs,ok.bsz,ok.noex,ok.exfs,ok.funs,ok.frf⟩
theorem okH (ok:X.Ok):(cxH X ea).Ok:=⟨ok.mod,ok.kind,ok.glob,ok.blt,ok.above,ok.inj,ok.has,ok.cab,(fun z=>nomatch z),ok.frames,ok.stk,ok.exf,ok.bs,ok.bsz,ok.noex,ok.exfs,ok.funs,ok.frf⟩
theorem Inv.toTry (I:Inv X pins σ H s):Inv (fJ X pins xe) [] σ H s:=⟨okTry I.ok,I.os,I.bare,I.base,I.loc,I.cell,I.free,I.freeC,fun p hp=>I.pin p (by
 have hp:p ∈ (X.pn ++ pins) ++ []:=hp
 rwa [List.append_nil] at hp),I.hok,I.len⟩
theorem Inv.ofTry (ok:X.Ok) (I:Inv (fJ X pins xe) pins' σ H s):Inv X pins σ H s:=⟨ok,I.os,I.bare,I.base,I.loc,I.cell,I.free,I.freeC,fun p hp=>I.pin p (List.mem_append_left _ (show p ∈ X.pn ++ pins from hp)),I.hok,I.len⟩
theorem Inv.toH (I:Inv X pins σ H s):Inv (cxH X ea) pins σ H s:=⟨okH I.ok,I.os,I.bare,I.base,I.loc,I.cell,I.free,I.freeC,I.pin,I.hok,I.len⟩
theorem Inv.ofH (ok:X.Ok) (I:Inv (cxH X ea) pins σ H s):Inv X pins σ H s:=⟨ok,I.os,I.bare,I.base,I.loc,I.cell,I.free,I.freeC,I.pin,I.hok,I.len⟩
theorem Inv.blank (I:Inv X pins σ H s):Inv X pins (List.replicate X.N.length none) H s:=by
 obtain ⟨m,hm,_⟩:=I.loc
 refine ⟨I.ok,I.os,I.bare,I.base,⟨m,hm,fun i x v _ h2=>?_⟩,I.cell,I.free,I.freeC,I.pin,I.hok,List.length_replicate ..⟩
 rw [List.getElem?_replicate] at h2
 split at h2 <;> cases h2
theorem SP.ofTry {D:dQ} {f:Flow} (ok:X.Ok) (h:SP (fJ X pins xe) [] D f s):SP X pins D f s:=by
 cases f with
 | next=>obtain ⟨σ',H',I,q⟩:=h; exact ⟨σ',H',I.ofTry ok,q⟩
 | brk=>obtain ⟨σ',H',I,q⟩:=h; exact ⟨σ',H',I.ofTry ok,q⟩
 | cont=>obtain ⟨σ',H',I,q⟩:=h; exact ⟨σ',H',I.ofTry ok,q⟩
 | ret u=>obtain ⟨v,σ',H',I,r,q⟩:=h; exact ⟨v,σ',H',I.ofTry ok,r,q⟩
theorem SP.ofH {D:dQ} {f:Flow} (ok:X.Ok) (h:SP (cxH X ea) pins D f s):SP X pins D f s:=by
 cases f with
 | next=>obtain ⟨σ',H',I,q⟩:=h; exact ⟨σ',H',I.ofH ok,q⟩
 | brk=>obtain ⟨σ',H',I,q⟩:=h; exact ⟨σ',H',I.ofH ok,q⟩
 | cont=>obtain ⟨σ',H',I,q⟩:=h; exact ⟨σ',H',I.ofH ok,q⟩
 | ret u=>obtain ⟨v,σ',H',I,r,q⟩:=h; exact ⟨v,σ',H',I.ofH ok,r,q⟩
end
section
variable {P:Program} {w:World} {K:PySem.W.Frag} {mg:Str -> Option Value} {base:Heap}
end
section
variable {prog:Program} {w:World} {A:Around} {E:Value -> Shared -> Prop} {h:Heap} {g:Array GenState} {d:Drawn} {t:Nat} {os:OsState} {K:PySem.W.Frag} {x C:Addr} {ox:Obj}
theorem exc_get {R:Result -> Shared -> Prop} (X:K.In h) (hx:h.get? x=some ox) (hc:ox.cls=.ref C) (hm:PySem.W.mroIn K C (.type "object")=some true) (hq:R (.ok (.ret (.ref C))) ⟨h,g,d,t,os⟩) :
  codeAny (model prog w) A (.call (.builtin "getset_descriptor.__get__") ⟨[.builtin "object.__class__",.ref x,.ref C],[]⟩) R ⟨h,g,d,t,os⟩:=by
 have tG:(⟨h,g,d,t,os⟩:Shared).TypeIs (.builtin "object.__class__") "getset_descriptor":=F.typeOf_object_class
 have lM:=PySem.W.looks_mroIn (M:=model prog w) X hm
 have eO:(".".intercalate ("object.__class__".cutAt '.').dropLast)="object":=by
  have z:"object.__class__".cutAt '.'=["object","__class__"]:=by first | rfl | decide +kernel
  rw [z]
  decide +kernel
 refine codeAny_call_builtin F.slot_gs_get.plain F.entry_gs_get
  (F.slot_gs_get.check _ _ _ _ _ _ _ _ tG (F.args_gs_get _ _ _) ?_)
 rw [<- eO] at lM
 repeat (any_goals (first | assumption | (with_reducible refine wpAny_loadPart_at hx ?_; rw [hc]) | with_reducible refine lM.at ?_ | wp_step))
 refine ⟨Code.quiet_builtin _ (by decide +kernel),
  codeAny_builtin F.entry_object_class ?_⟩
 repeat (any_goals (first | assumption | (with_reducible refine wpAny_loadPart_at hx ?_; rw [hc]) | wp_step))
theorem om {tk:Tok} {Q:Fin -> Shared -> Prop} (X:K.In h) (hx:h.get? x=some ox) (hc:ox.cls=.ref C) (f3:PySem.W.findIn K (.ref C) "__class__"=some (some (.builtin "object.__class__"))) (hm:PySem.W.mroIn K C (.type "object")=some true) (hq:Q (.done (.ret (.ref C))) ⟨h,g,d,t,os⟩) :
  wpAny (model prog w) A (Builtin.«object.__getattribute__» ⟨[.ref x,.str "__class__" tk],[]⟩) Q E ⟨h,g,d,t,os⟩:=by
 have L3:=PySem.W.looks_findIn (M:=model prog w) X f3
 have hT5:(⟨h,g,d,t,os⟩:Shared).TypeIs (.builtin "object.__class__") "getset_descriptor":=F.typeOf_object_class
 have f5:=F.typeOf_object_class
 have f6:=F.slot_gs_get.lookup
 have f7:=F.slot_gs_set.lookup
 repeat (any_goals (first | assumption | (with_reducible refine wpAny_loadPart_at hx ?_; rw [hc]) | with_reducible refine L3.at ?_ | wp_step))
 refine exc_get X hx hc hm ?_
 repeat (any_goals (first | assumption | wp_step))
end
section
end
theorem kq {M:Model} {A:Around} {E:Value -> Shared -> Prop} {h:Heap} {g:Array GenState} {d:Drawn} {t:Nat} {os:OsState} {K:PySem.W.Frag} {x C D:Addr} {ox:Obj} {Q:Bool -> Shared -> Prop} (X:K.In h) (ED:ExcAt h D) (hs:PySem.W.mroIn K C (.ref D)=some true)
  (hx:h.get? x=some ox) (hc:ox.cls=.ref C) (hq:Q true ⟨h,g,d,t,os⟩):wpAny M A (excMatches (.ref x) (.ref D)) Q E ⟨h,g,d,t,os⟩:=by
 obtain ⟨tl,Nn,nm,qn,bs,hdct,sn,sub,ab,col,dd,k0,k1,k2,k3,k5,mN,hD,_,_,TL⟩:=ED
 have e1:(Value.ref D :: tl).contains (.type "BaseException")=true:=by
  rw [List.contains_cons,TL.hasType PySem.F.excBase_ValueError.hasBase,Bool.or_true]
 have lS:=PySem.W.looks_mroIn (M:=M) X hs
 have z:=tc_notTuple
 unfold excMatches
 repeat (first | (with_reducible refine wpAny_loadPart_at hx ?_; rw [hc]) | with_reducible refine wpAny_loadPart_at hD ?_ | (with_reducible refine wpAny_isSubtype_exc hD ?_; rw [e1]) | with_reducible refine lS.at ?_ | wp_step)
 exact hq
theorem gJ {X:Cx} {pins:List (Addr × Obj)} {σ:St} {H:Hp} {s:Shared} {M:Model} {A:Around} {E:Value -> Shared -> Prop} {i:Nat} {n:Str} {pos:Pos} {Q:Unit -> Shared -> Prop} (I:Inv X pins σ H s) (hN:X.N.Nodup) (hi:X.N[i]?=some n) (hk:X.env.scope.names.lookup n=some .local)
  (h:∀ s',Inv X pins (σ.set i none) H s' -> Q () s'):wpAny M A (do bindName X.env n .none; unbindBehindTheSuite X.env n pos) Q E s:=by
 obtain ⟨m,hn,hl⟩:=id I.loc
 have hcls:(X.env.scope.kind == .class || (X.env.scope.kind == .module && X.env.locals != X.env.globals))=false:=by
  rw [I.ok.kind]
  rfl
 have hiσ:i < σ.length:=by
  rw [I.len]
  exact (List.getElem?_eq_some_iff.mp hi).1
 have cne:=I.cne
 refine wpAny_nameGoes_keeps hk hn hcls fun h' v hn' hs=>?_
 obtain ⟨oL,_,_,hoL,_⟩:=id hn
 have far:∀ b o,X.s₀.heap.get? b=some o -> h'.get? b=s.heap.get? b:=fun b o e=>hs.2 b (Nat.ne_of_lt (Nat.lt_of_lt_of_le (Heap.lt_size e) I.ok.above))
 refine h _ ⟨I.ok,I.os,I.bare,⟨fun b o e n hb hx=>?_,fun b o e n hb hx=>?_,I.base.free,fun b o e hx=>?_,I.base.tups,I.base.frzs,I.base.tbls⟩,⟨_,hn',fun j y v' e1 e2 e3=>?_⟩,fun y c e=>?_,I.free,I.freeC,fun p hp=>?_,fun b ob e=>?_,by simpa using I.len⟩
 ·exact (far b o e).trans (I.base.keep b o e n hb hx)
 ·obtain ⟨sl,e1⟩:=I.base.slot b o e n hb hx
  exact ⟨sl,(far b o e).trans e1⟩
 ·obtain ⟨o',e1⟩:=I.base.there b o e hx
  exact ⟨o',(far b o e).trans e1⟩
 ·by_cases hj:j=i
  ·subst hj
   rw [List.getElem?_set_self hiσ] at e2
   cases e2
  ·rw [List.getElem?_set_ne (Ne.symm hj)] at e2
   obtain ⟨u',r',q⟩:=hl j y v' e1 e2 e3
   refine ⟨u',r',?_⟩
   rcases q with ⟨k,e⟩ | ⟨k,c,e,z⟩
   ·refine .inl ⟨k,?_⟩
    have:y ≠ n:=fun e=>hj (gP hN e1 (e ▸ hi))
    simp [this,e]
   ·exact .inr ⟨k,c,e,z.sameBut hs (cne y c e)⟩
 ·obtain ⟨w',z⟩:=I.cell y c e
  exact ⟨w',z.sameBut hs (cne y c e)⟩
 ·obtain ⟨e,n,ne,nf,dd⟩:=I.pin p hp
  exact ⟨(hs.2 p.1 ne).trans e,n,ne,nf,dd⟩
 ·refine (I.hok b ob e).stay (fun c w' hc q=>(hs.2 c ?_).trans q) (fun _ q=>q) fun _ _ q=>q
  rintro rfl
  have hfree:=I.free
  rcases hc with rfl | hc
  ·rw [hfree] at e; cases e
  ·rw [hfree] at hc; cases hc
def dQ.gone (D:dQ) (i:Nat):dQ:=⟨fun σ H=>D.nx (σ.set i none) H,D.rt,fun σ H=>D.bk (σ.set i none) H,fun σ H=>D.ct (σ.set i none) H⟩
theorem SP.ungone {X:Cx} {pins:List (Addr × Obj)} {D:dQ} {f:Flow} {s:Shared} {M:Model} {A:Around} {E:Value -> Shared -> Prop} {i:Nat} {n:Str} {pos:Pos} (hN:X.N.Nodup) (hi:X.N[i]?=some n) (hk:X.env.scope.names.lookup n=some .local) (h:SP X pins (D.gone i) f s) :
  wpAny M A (do bindName X.env n .none; unbindBehindTheSuite X.env n pos) (fun _ s'=>SP X pins D f s') E s:=by
 cases f with
 | next=>obtain ⟨σ',H',I,q⟩:=h; exact gJ I hN hi hk fun s' I'=>⟨_,H',I',q⟩
 | brk=>obtain ⟨σ',H',I,q⟩:=h; exact gJ I hN hi hk fun s' I'=>⟨_,H',I',q⟩
 | cont=>obtain ⟨σ',H',I,q⟩:=h; exact gJ I hN hi hk fun s' I'=>⟨_,H',I',q⟩
 | ret u=>obtain ⟨v,σ',H',I,r,q⟩:=h; exact gJ I hN hi hk fun s' I'=>⟨v,_,H',I',r,q⟩
theorem on {ds:List Addr}:∀ {its:List Value},aU (ds.map V.ref) its -> its=ds.map Value.ref:=by
 induction ds with
 | nil=>intro its r; cases r; rfl
 | cons d r ih =>
  intro its h
  cases h with
  | cons h1 h2 =>
   cases h1
   rw [ih h2]
   rfl
section
variable {X:Cx}
end
section
variable {X:Cx}
structure PAW (X:Cx) (es:List Expr) (t:TA):Prop where
 h:PA X es t
structure PEW (X:Cx) (e:Expr) (t:TE):Prop where
 h:PE X e t
theorem pa_nilW:PAW X [] tNil:=⟨af⟩
theorem ie {e:Expr} {es:List Expr} {te:TE} {t:TA} (he:PE X e te) (ha:PAW X es t) (hs:starEach (e :: es) X.env=(false,eval e X.env) :: starEach es X.env:=by rfl):PAW X (e :: es) (mt te t):=⟨ad he ha.h hs⟩
theorem qk {es:List Expr} {b:Expr} {t:TA} {tb:TE} {p1 p2:Pos} (ha:PAW X es t) (hb:PE X b tb) (hs:mD b):PEW X (.Subscript (.List es p1) b p2) (tOp (rIxL X.K) (tLstA t) tb):=⟨ax bu (bO ha.h) hb hs⟩
end
section
variable {P:Program} {w:World} {K:PySem.W.Frag} {mg:Str -> Option Value} {base:Heap}
end
section
variable {X:Cx} {k:Nat} {C:Addr} {m x:Str} {ps:List Str} {sp:Sp} {o e:Expr} {es:List Expr} {ta:TE} {t:TA} {p pos apos:Pos} {E:XK}
theorem ps_setW {i:Nat} {x:Str} {e:Expr} {te:TE} {pos' pos:Pos} (hN:X.N.Nodup) (hi:X.N[i]?=some x) (hx:Loc X.env.scope x) (he:PEW X e te) (hs:swapsWith e (some (.Name x pos')) pos.line X.env=pure false:=by rfl) (hf:X.fn x=true \/ X.env.scope.names.lookup x=some .local:=by first | exact .inl rfl | exact .inr rfl | assumption) :
  PS X (.Assign [.Name x pos'] e pos) (tAsg te (bY i)):=aD hN hi hx he.h hs hf
end
section
variable {X:Cx}
end
end L2
namespace L2.ST
open PySem PySem.Spec PyProof.Rows
section
variable {prog:Program} {w:World} {A:Around} {E:Value -> Shared -> Prop} {s:Shared}
end
end L2.ST
namespace L2
open PySem PySem.Spec PyProof.Rows
section
variable {X:Cx}
end
mutual
inductive Rds (H:Hp):V -> PyData -> Prop
 | non:Rds H .non .none
 | bl (b:Bool):Rds H (.bl b) (.bool b)
 | int (i:Int):Rds H (.int i) (.int i)
 | str (x:Str):Rds H (.str x) (.str x)
 | tup {a:Addr} {xs:List V} {ds:List PyData}:H a=some (.tup xs) -> RdsAll H xs ds -> Rds H (.ref a) (.tuple ds)
 | lst {a:Addr} {xs:List V} {ds:List PyData}:H a=some (.lst xs) -> RdsAll H xs ds -> Rds H (.ref a) (.list ds)
inductive RdsAll (H:Hp):List V -> List PyData -> Prop
 | nil:RdsAll H [] []
 | cons {x:V} {xs:List V} {d:PyData} {ds:List PyData}:Rds H x d -> RdsAll H xs ds -> RdsAll H (x :: xs) (d :: ds)
end
theorem RdsAll.length {H:Hp}:∀ {xs:List V} {ds:List PyData},RdsAll H xs ds -> xs.length=ds.length
 | _,_,.nil=>rfl
 | _,_,.cons _ r=>congrArg (· + 1) r.length
theorem RdsAll.get {H:Hp}:∀ {xs:List V} {ds:List PyData},RdsAll H xs ds -> ∀ (i:Nat) (x:V),xs[i]?=some x -> ∃ d,ds[i]?=some d /\ Rds H x d
 | _,_,.nil,i,x,h=>by simp at h
 | _,_,.cons r t,0,x,h=>by
  simp at h
  subst h
  exact ⟨_,rfl,r⟩
 | _,_,.cons r t,i + 1,x,h=>by
  obtain ⟨d,h1,h2⟩:=t.get i x (by simpa using h)
  exact ⟨d,by simpa using h1,h2⟩
mutual
theorem Rds.same {H H':Hp} (e:aA H H'):∀ {x:V} {d:PyData},Rds H x d -> Rds H' x d
 | _,_,.non=>.non
 | _,_,.bl b=>.bl b
 | _,_,.int i=>.int i
 | _,_,.str x=>.str x
 | _,_,.tup h r=>.tup (e _ _ h) (r.same e)
 | _,_,.lst h r=>.lst (e _ _ h) (r.same e)
theorem RdsAll.same {H H':Hp} (e:aA H H'):∀ {xs:List V} {ds:List PyData},RdsAll H xs ds -> RdsAll H' xs ds
 | _,_,.nil=>.nil
 | _,_,.cons r t=>.cons (r.same e) (t.same e)
end
section
variable {X:Cx}
mutual
theorem Rds.reads {pins:List (Addr × Obj)} {σ:St} {H:Hp} {s:Shared} (I:Inv X pins σ H s):∀ {x:V} {d:PyData} {u:Value},Rds H x d -> aY x u -> ∃ as,Reads s.heap u d as
 | _,_,_,.non,r=>by cases r; exact ⟨_,.none⟩
 | _,_,_,.bl b,r=>by cases r; exact ⟨_,.bool b⟩
 | _,_,_,.int i,r=>by obtain ⟨t,rfl⟩:=r; exact ⟨_,.int i t⟩
 | _,_,_,.str x,r=>by obtain ⟨t,rfl⟩:=r; exact ⟨_,.str x t⟩
 | _,_,_,.tup h t,r=>by
  cases r
  obtain ⟨its,rv,⟨o,h1,h2,n,h3⟩,_⟩:=I.tuple (SqT.of (K:=X.K) h)
  obtain ⟨as,ha⟩:=t.reads I rv
  exact ⟨_,.tuple h1 h2 h3 (by simpa using ha)⟩
 | _,_,_,.lst h t,r=>by
  cases r
  obtain ⟨its,rv,p,_⟩:=I.list (SqL.of (K:=X.K) h)
  obtain ⟨o,h1,h2,n,h3⟩:=p.isList
  obtain ⟨as,ha⟩:=t.reads I rv
  exact ⟨_,.list h1 h2 h3 (by simpa using ha)⟩
theorem RdsAll.reads {pins:List (Addr × Obj)} {σ:St} {H:Hp} {s:Shared} (I:Inv X pins σ H s):∀ {xs:List V} {ds:List PyData} {us:List Value},RdsAll H xs ds -> aU xs us -> ∃ as,ReadsAll s.heap us ds as
 | _,_,_,.nil,.nil=>⟨_,.nil⟩
 | _,_,_,.cons r t,.cons rv tv=>by
  obtain ⟨as,ha⟩:=r.reads I rv
  obtain ⟨bs,hb⟩:=t.reads I tv
  exact ⟨_,.cons ha hb⟩
end
structure Dt (H:Hp) (x:V) (d:PyData):Prop where
 rds:Rds H x d
 can:d.canLay0=true
 dep:d.depth <= 60
theorem ig (hu:X.A.units + 64 < cLine):OpR X (compareOp .Eq) (fun x y H Q=>∃ d e:PyData,Dt H x d /\ Dt H y e /\ Q (.bl (PyData.eqv d e)) H):=by
 intro pins s σ H x y v u Q I rx ry h
 obtain ⟨d,e,hd,he,q⟩:=h
 obtain ⟨as,ra⟩:=hd.rds.reads I rx
 obtain ⟨bs,rb⟩:=he.rds.reads I ry
 have:=hd.dep
 exact SeqAt.compareEq_reads ra rb hd.can he.can (by lia) (aS I q rfl)
theorem fh:∀ {ds:List PyData},PyData.canLayAll0 ds=true -> ∀ (i:Nat) (d:PyData),ds[i]?=some d -> d.canLay0=true
 | [],_,i,d,h=>by simp at h
 | x :: xs,hc,0,d,h=>by
  simp at h
  subst h
  unfold PyData.canLayAll0 at hc
  rw [Bool.and_eq_true] at hc
  exact hc.1
 | x :: xs,hc,i + 1,d,h=>by
  unfold PyData.canLayAll0 at hc
  rw [Bool.and_eq_true] at hc
  exact fh hc.2 i d (by simpa using h)
theorem mL:∀ {ds:List PyData} (i:Nat) (d:PyData),ds[i]?=some d -> d.depth <= PyData.depthAll ds
 | [],i,d,h=>by simp at h
 | x :: xs,0,d,h=>by
  simp at h
  subst h
  unfold PyData.depthAll
  lia
 | x :: xs,i + 1,d,h=>by
  have:=mL (ds:=xs) i d (by simpa using h)
  unfold PyData.depthAll
  lia
theorem qm (hu:X.A.units + 64 < cLine):OpR X (compareOp .NotEq) (fun x y H Q=>∃ ds es:List PyData,Dt H x (.tuple ds) /\ Dt H y (.tuple es) /\ Q (.bl (!PyData.eqvAll ds es)) H):=by
 intro pins s σ H x y v u Q I rx ry h
 obtain ⟨ds,es,hd,he,q⟩:=h
 have d1:=hd.dep
 have e1:=he.dep
 unfold PyData.depth at d1 e1
 have hdc:PyData.canLayAll0 ds=true:=by have:=hd.can; unfold PyData.canLay0 at this; exact this
 have hec:PyData.canLayAll0 es=true:=by have:=he.can; unfold PyData.canLay0 at this; exact this
 cases hd.rds with
 | @tup a xs _ ha ra =>
  cases he.rds with
  | @tup b ys _ hb rb =>
   cases rx
   cases ry
   obtain ⟨its,r1,p1,_⟩:=I.tuple (SqT.of (K:=X.K) ha)
   obtain ⟨jts,r2,p2,_⟩:=I.tuple (SqT.of (K:=X.K) hb)
   have l1:=r1.length
   have l2:=r2.length
   have l3:=ra.length
   have l4:=rb.length
   have:=SeqAt.RcNeAt.tuples (A:=X.A) (s:=s) (e:=SeqAt.pairEq ds es) (show s.heap.IsTuple a its.toArray from p1) (show s.heap.IsTuple b jts.toArray from p2) (by lia) (fun j h1 h2=>?_)
   ·rw [List.size_toArray,List.size_toArray,<- l1,<- l2,l3,l4,SeqAt.eqvAll_eq] at this
    exact this _ _ _ _ (aS I q rfl)
   ·have hj1:j < its.length:=by simpa using h1
    have hj2:j < jts.length:=by simpa using h2
    obtain ⟨u1,hu1,ru1⟩:=r1.get (i:=j) (x:=xs[j]'(by lia)) (List.getElem?_eq_getElem _)
    obtain ⟨u2,hu2,ru2⟩:=r2.get (i:=j) (x:=ys[j]'(by lia)) (List.getElem?_eq_getElem _)
    obtain ⟨dj,hdj,rdj⟩:=ra.get j _ (List.getElem?_eq_getElem (by lia))
    obtain ⟨ej,hej,rej⟩:=rb.get j _ (List.getElem?_eq_getElem (by lia))
    have i1:its.toArray[j]=u1:=by
     have:=List.getElem?_eq_getElem hj1
     rw [hu1] at this
     simpa using (Option.some.inj this).symm
    have i2:jts.toArray[j]=u2:=by
     have:=List.getElem?_eq_getElem hj2
     rw [hu2] at this
     simpa using (Option.some.inj this).symm
    rw [i1,i2]
    obtain ⟨as,qa⟩:=rdj.reads I ru1
    obtain ⟨bs,qb⟩:=rej.reads I ru2
    have pe:SeqAt.pairEq ds es j=PyData.eqv dj ej:=by
     unfold SeqAt.pairEq
     simp [hdj,hej]
    rw [pe]
    have k1:=mL j dj hdj
    exact SeqAt.eqAt_reads dj ej X.A.in1 s u1 u2 as bs qa qb (fh hdc j dj hdj) (fh hec j ej hej) (by show X.A.units + 1 + min dj.depth ej.depth < cLine; lia)
end
open Classical in
noncomputable def eqR (h:Heap) (dx:PyData) (y:Value):Bool :=
 if c:∃ d:PyData,d.canLay0=true /\ ∃ as,Reads h y d as then PyData.eqv (Classical.choose c) dx else false
theorem qo {h:Heap} {dx d:PyData} {y:Value} {as:List Addr} (hc:d.canLay0=true) (hr:Reads h y d as):eqR h dx y=PyData.eqv d dx:=by
 have c:∃ d:PyData,d.canLay0=true /\ ∃ as,Reads h y d as:=⟨d,hc,as,hr⟩
 unfold eqR
 rw [dif_pos c]
 obtain ⟨h1,as',h2⟩:=Classical.choose_spec c
 rw [SeqAt.Reads.unique _ _ _ _ _ h1 h2 hr]
theorem jG {h:Heap} {dx:PyData}:∀ {us:List Value} {ds:List PyData} {as:List Addr},ReadsAll h us ds as -> PyData.canLayAll0 ds=true -> us.any (eqR h dx)=ds.any fun d=>PyData.eqv d dx
 | _,_,_,.nil,_=>rfl
 | _,_,_,.cons r t,hc=>by
  unfold PyData.canLayAll0 at hc
  rw [Bool.and_eq_true] at hc
  rw [List.any_cons,List.any_cons,qo hc.1 r,jG t hc.2]
theorem fK {h:Heap}:∀ {us:List Value} {ds:List PyData} {as:List Addr},ReadsAll h us ds as -> PyData.canLayAll0 ds=true -> ∀ u ∈ us,∃ d bs,Reads h u d bs /\ d.canLay0=true /\ d.depth <= PyData.depthAll ds
 | _,_,_,.nil,_,u,hu=>by cases hu
 | _,_,_,.cons r t,hc,u,hu=>by
  unfold PyData.canLayAll0 at hc
  rw [Bool.and_eq_true] at hc
  rcases List.mem_cons.mp hu with rfl | hu
  ·exact ⟨_,_,r,hc.1,by unfold PyData.depthAll; lia⟩
  ·obtain ⟨d,bs,h1,h2,h3⟩:=fK t hc.2 u hu
   exact ⟨d,bs,h1,h2,by unfold PyData.depthAll; lia⟩
section
variable {X:Cx}
structure Ds (H:Hp) (xs:List V) (ds:List PyData):Prop where
 rds:RdsAll H xs ds
 can:PyData.canLayAll0 ds=true
 dep:PyData.depthAll ds <= 60
theorem Ds.same {H H':Hp} {xs:List V} {ds:List PyData} (e:aA H H') (h:Ds H xs ds):Ds H' xs ds:=⟨h.rds.same e,h.can,h.dep⟩
theorem iZ (hu:X.A.units + 64 < cLine):OpR X (compareOp .NotIn) (fun x y H Q=>∃ (p:Addr) (xs:List V) (ds:List PyData) (dx:PyData),y=.ref p /\ (H p=some (.tup xs) \/ H p=some (.lst xs)) /\ Ds H xs ds /\ Dt H x dx /\ Q (.bl (!(ds.any fun d=>PyData.eqv d dx))) H):=by
 intro pins s σ H x y v u Q I rx ry h
 obtain ⟨p,xs,ds,dx,rfl,hp,hD,hx,q⟩:=h
 cases ry
 obtain ⟨bs,rb⟩:=hx.rds.reads I rx
 have hdep:=hD.dep
 have eqs:∀ {us:List Value} {as:List Addr},ReadsAll s.heap us ds as -> ∀ y,y ∈ us -> SeqAt.EqAt X.A.in1 s y v (eqR s.heap dx y):=fun {us as} ra y hy=>by
  obtain ⟨d,cs,h1,h2,h3⟩:=fK ra hD.can y hy
  rw [qo h2 h1]
  exact SeqAt.eqAt_reads d dx X.A.in1 s y v cs bs h1 rb h2 hx.can (by show X.A.units + 1 + min d.depth dx.depth < cLine; lia)
 rcases hp with hp | hp
 ·obtain ⟨its,r,pl,hz⟩:=I.tuple (SqT.of (K:=X.K) hp)
  obtain ⟨as,ra⟩:=hD.rds.reads I r
  refine SeqAt.notIn_tupleAt (eqR s.heap dx) pl (fun w hw=>eqs ra w (by simpa using hw)) ⟨.bl _,H,I,rfl,?_⟩
  rw [show its.toArray.any (eqR s.heap dx)=its.any (eqR s.heap dx) by simp,jG ra hD.can]
  exact q
 ·obtain ⟨its,r,pl,hz⟩:=I.list (SqL.of (K:=X.K) hp)
  obtain ⟨as,ra⟩:=hD.rds.reads I r
  refine SeqAt.notIn_listAt (eqR s.heap dx) pl.isList (fun w hw=>eqs ra w (by simpa using hw)) ⟨.bl _,H,I,rfl,?_⟩
  rw [show its.toArray.any (eqR s.heap dx)=its.any (eqR s.heap dx) by simp,jG ra hD.can]
  exact q
end
end L2
namespace L2.ZS
open PySem PySem.Spec PyProof.Rows
section
variable {prog:Program} {w:World} {A:Around} {E:Value -> Shared -> Prop} {s:Shared}
section
variable {z TI TO p r b:Addr} {zs:Str} {t:Tok} {vs:Array Value} {o1 o2:Value} {m n:Nat}
end
end
end L2.ZS
namespace L2
open PySem PySem.Spec PyProof.Rows
section
variable {X:Cx}
end
section
variable {X:Cx}
end
section
variable {X:Cx} {es:List Expr} {te:TE} {t:TA}
end
section
variable {X:Cx}
end
theorem oo {P:Program} {w:World} {K:PySem.W.Frag} {tg:Expr} (it:Addr) (lo:Int) (n:Nat):jr P w K tg (Itr lo n) [it] it (fun i h=>IsLongIter h it (lo + (i:Nat) * 1) ((n:Int) - (i:Nat)) 1) where
 mem:=by simp
 obj:=fun i h st b hb=>by
  have e:b=it:=by simpa using hb
  subst e
  exact ⟨_,st,fun v z=>by
   have z':Data.fields _=Data.cell v:=z
   cases z'⟩
 keep:=fun i h h' st k=>k it (by simp) _ st
 item:=by
  intro X hP hw hK hc i pins s σ H E I hf st hg
  subst hP hw hK
  obtain ⟨f0,f1,f2,f3,f4,f5⟩:=hf it (by simp)
  have W:=Walks.longrange (prog:=X.prog) (w:=X.w) (I.ok.hd hc) it lo 1 n
  refine W.item i s _ _ hg st fun v h' tk hv st' kk=>?_
  obtain ⟨t,rfl⟩:=hv
  have I1:Inv X pins σ H { s with heap:=h',toks:=tk }:=I.turned (fun b o hb e=>kk b o (by simpa using hb) e) f0 f1 f3 f4 f5
  refine ⟨_,rfl,j3 (s:={ s with heap:=h',toks:=tk }) (n:="longrange_iterator") st' rfl rfl (by decide) ⟨.int (lo + i),H,I1,⟨t,?_⟩,⟨rfl,rfl⟩,st',fun b hb=>(hf b hb).1⟩⟩
  rw [Int.mul_one]
 done:=by
  intro X hP hw hK hc i pins s σ H E I hf st hg
  subst hP hw hK
  obtain ⟨f0,f1,f2,f3,f4,f5⟩:=hf it (by simp)
  exact wpAny_pyNext_long_end (I.ok.hd hc) st (by have:n <= i:=hg; lia) fun h' eb=>⟨rfl,I.turned (t':=s.toks) (fun b o hb e=>eb b o hb e) f0 f1 f3 f4 f5⟩
 self:=fun _ _ _ _ _ st h=>wpAny_pyIter_longiter st h
theorem gb {α:Type} {us:List α} (h:us.length=1):∃ a0,us=[a0]:=by
 match us,h with
 | [a0],_=>exact ⟨a0,rfl⟩
theorem dH {α:Type} {us:List α} (h:us.length=2):∃ a0 a1,us=[a0,a1]:=by
 match us,h with
 | [a0,a1],_=>exact ⟨a0,a1,rfl⟩
theorem jH {α:Type} {us:List α} (h:us.length=3):∃ a0 a1 a2,us=[a0,a1,a2]:=by
 match us,h with
 | [a0,a1,a2],_=>exact ⟨a0,a1,a2,rfl⟩
theorem len4 {α:Type} {us:List α} (h:us.length=4):∃ a0 a1 a2 a3,us=[a0,a1,a2,a3]:=by
 match us,h with
 | [a0,a1,a2,a3],_=>exact ⟨a0,a1,a2,a3,rfl⟩
section
variable {X:Cx} {tg:Expr}
theorem ou {pins:List (Addr × Obj)} {σ:St} {H:Hp} {s:Shared} {R:It -> Hp -> Prop} {E:Value -> Shared -> Prop} {lo hi:Int} {t u v:Tok} {tk:Nat} (I:Inv X pins σ H s)
  (q:R (Itr lo (hi - lo).toNat) H):wpAny (model X.prog X.w) X.A (pyIter (.ref s.heap.objs.size)) (PIE X pins σ tg R) E { s with heap:=s.heap.push { cls:=.type "range",data:=.fields #[.int lo t,.int hi u,.int 1 v] },toks:=tk }:=by
 have I1:Inv X pins σ H { s with heap:=s.heap.push { cls:=.type "range",data:=.fields #[.int lo t,.int hi u,.int 1 v] },toks:=tk }:=I.kept fun b o e=>Heap.get?_push_of_some _ e
 have e1:lo + ((0:Nat):Int) * 1=lo:=by simp
 have e2:(((hi - lo).toNat:Nat):Int) - ((0:Nat):Int)=Builtin.Range.rangeSize lo hi 1:=by rw [rangeSize_one]; split <;> lia
 cases hs:Builtin.Range.small lo hi 1 with
 | true =>
  refine wpAny_pyIter_range (IsRange.new ..) hs ?_
  refine ⟨(s.heap.push { cls:=.type "range",data:=.fields #[.int lo t,.int hi u,.int 1 v] }).objs.size,[(s.heap.push { cls:=.type "range",data:=.fields #[.int lo t,.int hi u,.int 1 v] }).objs.size],_,_,H,rfl,
   I1.kept (t':=tk) fun b o e=>Heap.get?_push_of_some _ e,gU _ lo (hi - lo).toNat,?_,fun b hb=>?_,q⟩
  ·show IsRangeIter _ _ (lo + ((0:Nat):Int) * 1) ((((hi - lo).toNat:Nat):Int) - ((0:Nat):Int)) 1
   rw [e1,e2]
   exact Heap.get?_push_size _ rfl
  ·have e:b=(s.heap.push { cls:=.type "range",data:=.fields #[.int lo t,.int hi u,.int 1 v] }).objs.size:=by simpa using hb
   subst e
   exact I1.fpOk (Nat.le_refl _) (I1.hok.fresh (Nat.le_refl _))
 | false =>
  refine wpAny_pyIter_longrange (IsRange.new ..) hs ?_
  refine ⟨(s.heap.push { cls:=.type "range",data:=.fields #[.int lo t,.int hi u,.int 1 v] }).objs.size,[(s.heap.push { cls:=.type "range",data:=.fields #[.int lo t,.int hi u,.int 1 v] }).objs.size],_,_,H,rfl,
   I1.kept (t':=tk) fun b o e=>Heap.get?_push_of_some _ e,oo _ lo (hi - lo).toNat,?_,fun b hb=>?_,q⟩
  ·show IsLongIter _ _ (lo + ((0:Nat):Int) * 1) ((((hi - lo).toNat:Nat):Int) - ((0:Nat):Int)) 1
   rw [e1,e2]
   exact Heap.get?_push_size _ rfl
  ·have e:b=(s.heap.push { cls:=.type "range",data:=.fields #[.int lo t,.int hi u,.int 1 v] }).objs.size:=by simpa using hb
   subst e
   exact I1.fpOk (Nat.le_refl _) (I1.hok.fresh (Nat.le_refl _))
def iRngA (ta:TA):TI:=fun σ H R=>ta σ H fun vs H1=>∃ i j:Int,vs=[.int i,.int j] /\ R (Itr i (j - i).toNat) H1
theorem ow {a b:Expr} {ta:TA} {p pos:Pos} (hg:Gl X "range") (hm:X.mg "range"=none) (ha:PA X [a,b] ta) (hs:starEach [a,b] X.env=[(false,eval a X.env),(false,eval b X.env)]:=by rfl) (hs2:starEach [b] X.env=[(false,eval b X.env)]:=by rfl) :
  PI X tg (.Call (.Name "range" p) [a,b] [] pos) (iRngA ta):=by
 intro pins s σ H R I h
 refine Call_ (dR I hg hm boot_range (PyProof.Rows.callWith_type1 (thn (ha pos pins s σ H _ I h) fun us s1 ⟨vs,H1,I1,r1,q1⟩=>?_) (by rw [hs,hs2]) (by rw [hs2]; rfl)))
 obtain ⟨i,j,e,q⟩:=q1
 subst e
 cases r1 with
 | cons r rr =>
  cases rr with
  | cons r' rr =>
   cases rr
   obtain ⟨t,rfl⟩:=r
   obtain ⟨t',rfl⟩:=r'
   exact call_range_2 (ou I1 q)
end
section
variable {X:Cx}
def PJ (X:Cx) (es:List Expr) (t:Str -> TE):Prop :=
 ∀ (out:Str) (pins:List (Addr × Obj)) (s:Shared) (σ:St) (H:Hp) (Q:VK),Inv X pins σ H s -> t out σ H Q -> wpAny (model X.prog X.w) X.A (joinParts out (evalEach es X.env)) (EP X pins σ Q) X.xe s
def tJ0:Str -> TE:=fun out _ H Q=>out.length <= sizeLine /\ Q (.str out) H
def tJc (ta:TE) (u:Str -> TE):Str -> TE:=fun out σ H Q=>ta σ H fun x H1=>∃ z,x=.str z /\ (out ++ z).length <= sizeLine /\ u (out ++ z) σ H1 Q
theorem pj_nil:PJ X [] tJ0:=by
 intro out pins s σ H Q I h
 exact joinParts_nil ⟨.str _,H,I.tok _,⟨_,rfl⟩,h.2⟩ h.1
theorem mM {e:Expr} {es:List Expr} {ta:TE} {u:Str -> TE} (ha:PE X e ta) (hs:PJ X es u):PJ X (e :: es) (tJc ta u):=by
 intro out pins s σ H Q I h
 refine joinParts_cons (x:=eval e X.env) (rest:=evalEach es X.env) (thn (ha pins s σ H _ I h) fun v s1 ⟨x,H1,I1,r,z,e1,hl,q⟩=>?_)
 subst e1
 obtain ⟨t,rfl⟩:=r
 exact ⟨hl,hs _ pins s1 σ H1 Q I1 q⟩
theorem pe_fstr {v1 v2:Expr} {rest:List Expr} {t:Str -> TE} {pos:Pos} (h:PJ X (v1 :: v2 :: rest) t):PE X (.JoinedStr (v1 :: v2 :: rest) pos) (t Str.empty):=by
 intro pins s σ H Q I hq
 exact JoinedStr_many (h _ pins s σ H Q I hq)
def tFmt (ta:TE):TE:=fun σ H Q=>ta σ H fun x H1=>(∃ z,x=.str z /\ z.length <= sizeLine /\ Q (.str z) H1) \/ ∃ n,x=.int n /\ n.natAbs.log2 < 1920 /\ Q (.str (toString n)) H1
theorem pe_fmt {e:Expr} {ta:TE} {pos:Pos} (ha:PE X e ta):PE X (.FormattedValue e (-1) none pos) (tFmt ta):=by
 intro pins s σ H Q I h
 refine FormattedValue_plain (thn (ha pins s σ H _ I h) fun v s1 ⟨x,H1,I1,r,q⟩=>?_)
 rcases q with ⟨z,rfl,hl,q⟩ | ⟨n,rfl,hl,q⟩
 ·obtain ⟨t,rfl⟩:=r
  exact formatField_str (fun t' tk=>⟨.str _,H1,I1.tok _,⟨_,rfl⟩,q⟩) hl
 ·obtain ⟨t,rfl⟩:=r
  exact formatField_int_small hl ⟨.str _,H1,I1.tok _,⟨_,rfl⟩,q⟩
end
section
variable {X:Cx}
end
open PySem.SeqAt
end L2
namespace L2
open PySem PySem.Spec PyProof.Rows PySem.NumText
end L2
namespace L2
open PySem PySem.Spec PyProof.Rows
theorem Paired.snoc {α β:Type} {R:α -> β -> Prop}:∀ {xs:List α} {ys:List β} {x:α} {y:β},Paired R xs ys -> R x y -> Paired R (xs ++ [x]) (ys ++ [y])
 | _,_,_,_,.nil,h=>.cons h .nil
 | _,_,_,_,.cons h t,h'=>.cons h (Paired.snoc t h')
theorem Paired.zip {α β:Type} {R:α -> β -> Prop}:∀ {xs:List α} {ys:List β},Paired R xs ys -> ∀ z ∈ xs.zip ys,R z.1 z.2
 | _,_,.nil,z,h=>by simp at h
 | _,_,.cons h t,z,hz=>by
  rcases List.mem_cons.mp hz with rfl | hz
  ·exact h
  ·exact Paired.zip t z hz
theorem Paired.fst {α β:Type} {R:α -> β -> Prop}:∀ {xs:List α} {ys:List β},Paired R xs ys -> (xs.zip ys).map Prod.fst=xs
 | _,_,.nil=>rfl
 | _,_,.cons h t=>by
  show _ :: (List.zip _ _).map Prod.fst=_
  rw [Paired.fst t]
theorem lcG {K:PySem.W.Frag} {a:Addr} {β:Type} {xs:List β} {k:Nat} {σ:St} {H1:Hp} {tt:TT} {te:TE} {Q:VK} (gv:β -> V) (t:β -> Bool) (R:Addr -> β -> V -> Hp -> Prop)
  (st:∀ D x y (H H':Hp),(∀ b o,b ≠ D -> H b=some o -> H' b=some o) -> R D x y H -> R D x y H') (hk:σ.length=k) (hq:H1 a=some (.lst (xs.map gv))) (hz:xs.length <= 1000)
  (test:∀ D x ys H (post:Bool -> Hp -> Prop),H1 D=none -> x ∈ xs -> aA H1 H -> H D=some (.lst ys) -> (∀ H',aA H H' -> post (t x) H') -> tt (σ ++ [some (gv x)]) H post)
  (turn:∀ D x ys H (post:VK),H1 D=none -> x ∈ xs -> t x=true -> aA H1 H -> H D=some (.lst ys) -> (∀ y H',aA H H' -> R D x y H' -> post y H') -> te (σ ++ [some (gv x)]) H post)
  (fin:∀ D H us,H1 D=none -> aA H1 H -> H D=some (.lst us) -> Paired (fun u x=>R D x u H) us (xs.filter t) -> Q (.ref D) H):LCT 1 (bY k) tt te σ Q (Itl K a) H1:=by
 intro D hD
 refine ⟨fun i m us H=>m=xs.length - i /\ i <= xs.length /\ aA H1 H /\ H D=some (.lst us) /\ Paired (fun u x=>R D x u H) us ((xs.take i).filter t),⟨xs.length,by simp,Nat.zero_le _,aA.new hD,ar,.nil⟩,?_⟩
 rintro i m us H ⟨rfl,hi,sm,hDD,hP⟩
 by_cases hlt:i < xs.length
 ·have hx:(xs.map gv)[i]?=some (gv xs[i]):=by rw [List.getElem?_map,List.getElem?_eq_getElem hlt]; rfl
  refine .inr ⟨⟨xs.map gv,gv xs[i],SqL.of (sm _ _ hq),hx⟩,fun v H' y=>?_⟩
  obtain ⟨rfl,y⟩:=y
  have hv:=y _ (SqL.of (sm _ _ hq))
  rw [hx] at hv
  cases hv
  have hm:xs[i] ∈ xs:=List.getElem_mem hlt
  have hu:us.length <= i:=by
   rw [Paired.length hP]
   refine Nat.le_trans (List.length_filter_le _ _) ?_
   rw [List.length_take]
   lia
  have e:(σ ++ List.replicate 1 (none:Option V)).set k (some (gv xs[i]))=σ ++ [some (gv xs[i])]:=by
   subst hk
   simp [List.set_append]
  unfold bY
  rw [e]
  refine ⟨⟨_,rfl,rfl⟩,test D xs[i] us _ _ hD hm sm hDD fun H3 s3=>?_⟩
  cases ht:t xs[i] with
  | true =>
   refine aQ (turn D xs[i] us _ _ hD hm ht (sm.trans s3) (s3 _ _ hDD) fun y H4 s4 hR=>⟨s4 _ _ (s3 _ _ hDD),bz (by lia),xs.length - (i + 1),by lia,rfl,hlt,fun c o e=>?_,ar,?_⟩)
   ·rw [au (am e hD)]
    exact s4 _ _ (s3 _ _ (sm _ _ e))
   ·rw [List.take_add_one,List.getElem?_eq_getElem hlt,List.filter_append]
    have ef:((some xs[i]:Option β).toList).filter t=[xs[i]]:=by simp [ht]
    rw [ef]
    exact Paired.snoc (Paired.imp' (fun u x h=>st D x u _ _ (fun b o hb e=>by rw [au hb]; exact s4 _ _ (s3 _ _ e)) h) hP) (st D _ _ _ _ (fun b o hb e=>by rw [au hb]; exact e) hR)
  | false =>
   refine aN ⟨xs.length - (i + 1),by lia,rfl,hlt,sm.trans s3,s3 _ _ hDD,?_⟩
   rw [List.take_add_one,List.getElem?_eq_getElem hlt,List.filter_append]
   have ef:((some xs[i]:Option β).toList).filter t=[]:=by simp [ht]
   rw [ef,List.append_nil]
   exact Paired.imp' (fun u x h=>st D x u _ _ (fun b o _ e=>s3 _ _ e) h) hP
 ·have e:i=xs.length:=by lia
  subst e
  rw [List.take_of_length_le (Nat.le_refl _)] at hP
  exact .inl ⟨⟨xs.map gv,SqL.of (sm _ _ hq),by rw [List.length_map]; exact Nat.le_refl _⟩,fin D H us hD sm hDD hP⟩
section
variable {X:Cx}
theorem oy (its:List Value):slicePick its.toArray none none (some (-1))=its.reverse.toArray:=by
 have h:=HT.pW its.toArray
 rw [List.toList_toArray] at h
 rw [<- h]
 unfold slicePick sliceBounds sliceRange
 simp only [Option.getD_some]
 have hc:(if (-1:Int) > 0 then (if (if (-1:Int) > 0 then (0:Int) else (its.toArray.size:Int) - 1) < (if (-1:Int) > 0 then (its.toArray.size:Int) else -1) then ((if (-1:Int) > 0 then (its.toArray.size:Int) else -1) - (if (-1:Int) > 0 then (0:Int) else (its.toArray.size:Int) - 1) + -1 - 1) / -1 else 0) else if (if (-1:Int) > 0 then (0:Int) else (its.toArray.size:Int) - 1) > (if (-1:Int) > 0 then (its.toArray.size:Int) else -1) then ((if (-1:Int) > 0 then (0:Int) else (its.toArray.size:Int) - 1) - (if (-1:Int) > 0 then (its.toArray.size:Int) else -1) - -1 - 1) / - -1 else 0).toNat=its.toArray.size:=by
  simp only [show ¬ ((-1:Int) > 0) by decide,if_false]
  split
  ·have e:((its.toArray.size:Int) - 1 - -1 - -1 - 1) / - -1=(its.toArray.size:Int):=by rw [show (- -1:Int)=1 from rfl,Int.ediv_one]; lia
   rw [e]; lia
  ·rename_i h; lia
 rw [hc,List.filterMap_map]
 congr 1
 refine congrArg (fun f=>List.filterMap f _) (funext fun k=>?_)
 simp only [Function.comp_apply,show ¬ ((-1:Int) > 0) by decide,if_false]
 rw [show (-1:Int) * (k:Int)=(k:Int) * -1 from Int.mul_comm _ _]
theorem qp {e:Expr} {te:TE} {p2 p3 p4 pos:Pos} {k:Nat} (he:PE X e te) :
  PE X (.Subscript e (.Slice none none (some (.UnaryOp .USub (.Constant (.int 1) k p3) p4)) p2) pos) (fun σ H Q=>te σ H fun x H1=>∃ a xs,x=.ref a /\ H1 a=some (.lst xs) /\ ∀ p H2,H1 p=none -> aA H1 H2 -> H2 p=some (.lst xs.reverse) -> Q (.ref p) H2):=by
 intro pins s σ H Q I h
 refine Subscript_ (thn (he pins s σ H _ I h) fun v s1 ⟨x,H1,I1,r1,a,xs,ex,ha,q⟩=>?_)
 subst ex
 cases r1
 refine wpAny_Slice ?_
 rw [evalPart_none]
 refine wpAny_pure (wpAny_pure ?_)
 rw [evalPart_some]
 refine thn (iL (X:=X) fU ag pins s1 σ H1 (fun z H2=>z=.int (-1) /\ H2=H1) I1 ⟨1,rfl,rfl,rfl⟩) fun st s2 ⟨z,H2,I2,r2,e1,e2⟩=>?_
 subst e1 e2
 obtain ⟨tk,rfl⟩:=r2
 have I4:Inv X pins σ H2 { s2 with heap:=s2.heap.push { cls:=.type "slice",data:=.fields #[.none,.none,.int (-1) tk] } }:=I2.kept (t':=s2.toks) fun b ob q=>Heap.get?_push_of_some _ q
 obtain ⟨its,r,ht,hz⟩:=I4.list (SqL.of (K:=X.K) ha)
 show wpAny (model X.prog X.w) X.A (subscriptTail e (.Slice none none (some (.UnaryOp .USub (.Constant (.int 1) k p3) p4)) p2) (.ref a) (.ref s2.heap.objs.size)) (EP X pins σ Q) X.xe { s2 with heap:=s2.heap.push { cls:=.type "slice",data:=.fields #[.none,.none,.int (-1) tk] } }
 refine tail_any (ops:=[.ref a,.ref s2.heap.objs.size]) ht.isList.typeIs slot_list_getitem.lookup (wpAny_getItem_list_slice ht.isList (Heap.IsSliceOf.new ..) .none .none (.int (-1) tk) (by decide) ?_ (by rw [List.size_toArray,<- r.length]; exact hz)) (by with_unfolding_all rfl)
 rw [oy]
 refine ⟨.ref _,_,I4.laid (t':=s2.toks) (o:=.lst xs.reverse) (fun b ob q=>Heap.get?_push_of_some _ q) (Nat.le_refl _) ?_,rfl,q _ _ (I4.hok.fresh (Nat.le_refl _)) (bC (I4.hok.fresh (Nat.le_refl _))) ar⟩
 exact ⟨by rw [List.length_reverse]; exact hz,_,0,r.reverse,Heap.get?_push_size _ rfl⟩
end
theorem qq {X:Cx}:OpR X (binaryOp .FloorDiv) (rI (fun _ j=>0 < j /\ j < 2 ^ 250) fun i j=>.int (i / j)):=opI fun i j _ _ _ _ _ hc q=>by
 have e:i.fdiv j=i / j:=Int.fdiv_eq_ediv_of_nonneg _ (Int.le_of_lt hc.1)
 refine floordiv_int (by have:=hc.1; omega) (by rw [e]; exact q) (.inl (PyProof.noPylong_of_log2 ?_))
 have h1:=hc.1
 have h2:=hc.2
 have h3:j.natAbs < 2 ^ 250:=by omega
 have h4:j.natAbs ≠ 0:=by omega
 have:=(Nat.log2_lt h4).mpr h3
 omega
end L2
namespace K84
open PySem L2
def top (i:Nat):Stmt:=PySem.Challenge.pw_chainhouse_k84_whole_papers_looked_over.main.body.getD i (.Pass ⟨0,0,0,0⟩)
abbrev i5:Stmt:=top 42
abbrev i6:Stmt:=top 43
abbrev df:Stmt:=top 44
abbrev i7:Stmt:=top 45
abbrev fi:Stmt:=top 46
theorem cI:bootBuiltins "tuple"=some (.type "tuple"):=by decide +kernel
theorem bList:bootBuiltins "list"=some (.type "list"):=by decide +kernel
theorem ei:bootBuiltins "isinstance"=some (.builtin "isinstance"):=by decide +kernel
theorem oz:bootBuiltins "all"=some (.builtin "all"):=by decide +kernel
theorem bMin:bootBuiltins "min"=some (.builtin "min"):=by decide +kernel
theorem jI:bootBuiltins "sorted"=some (.builtin "sorted"):=by decide +kernel
abbrev ABC:Str:=Str.ofString "abcdefghijklmnopqrstuvwxyz"
structure Blt (mg:Str -> Option Value):Prop where
 len:mg "len"=none
 range:mg "range"=none
 min:mg "min"=none
 list:mg "list"=none
 tuple:mg "tuple"=none
 sorted:mg "sorted"=none
def okc (c:Nat):Bool:=!(Builtin.Str.occurrences ABC ⟨#[c]⟩ 0 ABC.length 1).isEmpty
structure Nm (x:Str):Prop where
 one:1 <= x.length
 eight:x.length <= 8
 ok:∀ c ∈ x.cps.toList,okc c=true
theorem cA:ABC.length=26:=by decide +kernel
theorem qr:ABC.length <= sizeLine:=by rw [cA,sizeLine_eq]; decide
theorem lB:∀ c ∈ ABC.cps.toList,okc c=true:=by decide +kernel
theorem abc_nd:ABC.cps.toList.Nodup:=by decide +kernel
theorem jJ {α:Type} {xs:List α} {i:Int} (h0:0 <= i) (h1:i < xs.length):∃ v,atI xs i=some v /\ v ∈ xs:=by
 obtain ⟨n,rfl⟩:=Int.eq_ofNat_of_zero_le h0
 have hn:n < xs.length:=by omega
 exact ⟨xs[n],aK (List.getElem?_eq_getElem hn),List.getElem_mem hn⟩
theorem at0 {α:Type} {a:α} {r:List α}:atI (a :: r) 0=some a:=aK (j:=0) rfl
theorem at1 {α:Type} {a b:α} {r:List α}:atI (a :: b :: r) 1=some b:=aK (j:=1) rfl
def aR (R:Addr) (H H':Hp):Prop:=∀ b o,b ≠ R -> H b=some o -> H' b=some o
theorem aR.trans {R:Addr} {H H1 H2:Hp} (a:aR R H H1) (b:aR R H1 H2):aR R H H2:=fun c o h1 h=>b c o h1 (a c o h1 h)
theorem aR.of {R:Addr} {H H':Hp} (e:aA H H'):aR R H H':=fun c o _ h=>e c o h
def Rst (H:Hp) (R:Addr):Prop:=∃ a b:Int,H R=some (.lst [.int a,.int b]) /\ 0 <= b /\ b < 4294967296
theorem Rst.same {H H':Hp} {R:Addr} (e:aA H H') (h:Rst H R):Rst H' R:=by
 obtain ⟨a,b,h1,h2⟩:=h
 exact ⟨a,b,e _ _ h1,h2⟩
theorem Rst.keep {H H':Hp} {R l:Addr} (e:∀ b o,b ≠ l -> H b=some o -> H' b=some o) (hl:R ≠ l) (h:Rst H R):Rst H' R:=by
 obtain ⟨a,b,h1,h2⟩:=h
 exact ⟨a,b,e _ _ hl h1,h2⟩
theorem Rst.ne {H:Hp} {R p:Addr} (h:Rst H R) (hp:H p=none):p ≠ R:=by
 obtain ⟨a,b,h1,_⟩:=h
 exact (am h1 hp).symm
def cw:Sp:=fun vs H Q _=>∃ (R:Addr) (m:Int),vs=[.ref R,.int m] /\ Rst H R /\ 0 < m /\ m <= 10 ^ 60 /\ ∀ (z:Int) (H':Hp),0 <= z -> z < m -> Rst H' R -> aR R H H' -> Q (.int z) H'
def lC:Sp:=fun vs H Q _=>∃ c:Int,vs=[.int c] /\ ∀ (R:Addr) (H':Hp),H R=none -> aA H H' -> Rst H' R -> Q (.ref R) H'
def jK:Sp:=fun vs H Q _=>∃ (R:Addr) (m:Int),vs=[.ref R,.int m] /\ Rst H R /\ 1 <= m /\ m <= 17 /\ ∀ (l:Addr) (zs:List Str) (H':Hp),H l=none -> H' l=some (.lst (zs.map V.str)) -> (zs.length:Int)=m -> zs.Pairwise ltS -> (∀ z ∈ zs,Nm z) -> Rst H' R -> aR R H H' -> Q (.ref l) H'
abbrev dN:List Str:=["_law_rest_here","_law_base"]
section
variable {P:Program} {w:World} {K:PySem.W.Frag} {mg:Str -> Option Value} {base:Heap}
abbrev nTake:List Str:=["_law_rest_here","_law_base","_law_digit"]
theorem qt:aH nTake dN (ai i5):=fsc (by decide +kernel)
theorem ok_take {f:Addr} {fd:FuncData} (F:Fun K "_law_take" "_law_take" i5 f fd):a7 P w K mg base CX0 1 f fd dN cw:=by
 refine F.ok qt (fun vs H Q E h=>?_) (fun cdv A outer s H vs Q E hr h=>?_)
 ·obtain ⟨R,m,rfl,_⟩:=h
  rfl
 ·obtain ⟨R,m,rfl,⟨a,b,hR,b0,b1⟩,m0,m1,q⟩:=h
  have nd:=qt.nd
  refine ⟨_,ah (aT (az bL (ax bu (pv 0) ag (fun _ _=>rfl)) ag (aB _))
    (ah (gS (aO fT (aO bi (aO gX (ax bu (pv 0) ag (fun _ _=>rfl)) ag) ag) ag) (kQ (pv 0) ag fY)) <|
     ah (gS (aO fT (aO bi (aO gX (ax bu (pv 0) ag (fun _ _=>rfl)) ag) ag) ag) (kQ (pv 0) ag fY)) <|
     ak <| ay <| aO fT (aO op_fdiv (ax bu (pv 0) ag (fun _ _=>rfl)) ag) (pv 1)) aE) <|
   ah (aD (i:=2) nd rfl (Or.inl rfl) (aO fT (ax bu (pv 0) ag (fun _ _=>rfl)) (pv 1))) <|
   ah (gS (aO qq (ax bu (pv 0) ag (fun _ _=>rfl)) (pv 1)) (kQ (pv 0) ag fY)) <|
   ak <| ay <| pv 2,?_⟩
  have mm:∀ y:Int,0 <= y % m /\ y % m < m:=fun y=>⟨Int.emod_nonneg _ (by omega),Int.emod_lt_of_pos _ m0⟩
  refine ⟨_,rfl,R,_,_,_,rfl,rfl,SqL.of hR,at0,rfl,_,rfl,?_⟩
  refine bD (fun _=>?_) (fun _=>?_)
  ·refine ⟨_,rfl,R,_,_,_,rfl,rfl,SqL.of hR,at1,_,_,rfl,rfl,.inl ⟨by omega,by omega⟩,_,_,rfl,rfl,_,_,rfl,rfl,(by dsimp only; decide),?_⟩
   refine ⟨_,rfl,R,_,1,rfl,rfl,hR,by simp,fun H1 k1 e1=>?_⟩
   have c0:=Int.emod_nonneg (b * 48271 + 7919) (show (2147483629:Int) ≠ 0 by decide)
   have c1:=Int.emod_lt_of_pos (b * 48271 + 7919) (show (0:Int) < 2147483629 by decide)
   have e1:H1 R=some (.lst [.int a,.int ((b * 48271 + 7919) % 2147483629)]):=e1
   generalize (b * 48271 + 7919) % 2147483629=b' at c0 c1 e1
   refine ⟨_,rfl,R,_,_,_,rfl,rfl,SqL.of e1,at1,_,_,rfl,rfl,.inl ⟨by omega,by omega⟩,_,_,rfl,rfl,_,_,rfl,rfl,(by dsimp only; decide),?_⟩
   refine ⟨_,rfl,R,_,1,rfl,rfl,e1,by simp,fun H2 k2 e2=>?_⟩
   have d0:=Int.emod_nonneg (b' * 69621 + 101) (show (2147483587:Int) ≠ 0 by decide)
   have d1:=Int.emod_lt_of_pos (b' * 69621 + 101) (show (0:Int) < 2147483587 by decide)
   have e2:H2 R=some (.lst [.int a,.int ((b' * 69621 + 101) % 2147483587)]):=e2
   generalize (b' * 69621 + 101) % 2147483587=b'' at d0 d1 e2
   refine ⟨_,rfl,R,_,_,_,rfl,rfl,SqL.of e2,at1,_,_,rfl,rfl,⟨by decide,by decide⟩,_,rfl,_,_,rfl,rfl,m0,?_⟩
   exact q _ H2 (mm _).1 (mm _).2 ⟨a,b'',e2,d0,by omega⟩ fun c o hc e=>k2 c o hc (k1 c o hc e)
  ·refine ⟨_,rfl,R,_,_,_,rfl,rfl,SqL.of hR,at0,_,rfl,_,_,rfl,rfl,m0,?_⟩
   refine ⟨_,rfl,R,_,_,_,rfl,rfl,SqL.of hR,at0,_,rfl,_,_,rfl,rfl,⟨m0,Int.lt_of_le_of_lt m1 (by decide)⟩,?_⟩
   refine ⟨_,rfl,R,_,0,rfl,rfl,hR,by simp,fun H1 k1 e1=>?_⟩
   exact ⟨_,rfl,q _ H1 (mm _).1 (mm _).2 ⟨_,b,e1,b0,b1⟩ k1⟩
theorem scRest:aH ["_law_cell"] ["_law_cell"] (ai i6):=fsc (by decide +kernel)
theorem ok_rest {f:Addr} {fd:FuncData} (F:Fun K "_law_rest" "_law_rest" i6 f fd):a7 P w K mg base CX0 1 f fd ["_law_cell"] lC:=by
 refine F.ok scRest (fun vs H Q E h=>?_) (fun cdv A outer s H vs Q E hr h=>?_)
 ·obtain ⟨c,rfl,_⟩:=h
  rfl
 ·obtain ⟨c,rfl,q⟩:=h
  refine ⟨_,ah (aT (az op_ge (pv 0) (aO kT ag ag) (aB _)) (ak (ay (bO (ad (pv 0) (ad (aO bi (aO fT (pv 0) ag) ag) af))))) aE) <|
   ak <| ay <| bO (ad ag (ad (aO bi (aO fT (pv 0) ag) ag) af)),?_⟩
  have c0:=Int.emod_nonneg c (show (2147483587:Int) ≠ 0 by decide)
  have c1:=Int.emod_lt_of_pos c (show (0:Int) < 2147483587 by decide)
  refine ⟨_,rfl,_,_,rfl,rfl,⟨by decide,by decide,by decide⟩,_,_,rfl,rfl,_,rfl,?_⟩
  refine bD (fun _=>?_) (fun _=>?_)
  ·refine ⟨_,rfl,_,rfl,_,_,rfl,rfl,(by dsimp only; decide),_,_,rfl,rfl,(by show 2 <= sizeLine; decide),fun R H1 n1 s1 e1=>?_⟩
   exact q R H1 n1 s1 ⟨c,c % 2147483587 + 1,e1,by omega,by omega⟩
  ·refine ⟨_,rfl,_,_,rfl,rfl,(by dsimp only; decide),_,_,rfl,rfl,(by show 2 <= sizeLine; decide),fun R H1 n1 s1 e1=>?_⟩
   exact q R H1 n1 s1 ⟨0,c % 2147483587 + 1,e1,by omega,by omega⟩
end
theorem kr {n k:Nat} {lo:Int} {σ:St} {H1:Hp} {Q:VK} {R:Addr} (hσ:σ.length=k) (hL:σ[2]?=some (some (.str ABC))) (hR:σ[0]?=some (some (.ref R))) (r1:Rst H1 R) (hn:n <= 100)
  (fin:∀ (l:Addr) (cs:List Nat) (H':Hp),H1 l=none -> Rst H' R -> aR R H1 H' -> H' l=some (.lst (cs.map fun c=>V.str ⟨#[c]⟩)) -> cs.length=n -> (∀ c ∈ cs,okc c=true) -> Q (.ref l) H') :
  LCT 1 (bY k) iG (tOp rIxS (kP 2) (mv cw [] E0 (mt (kP 0) (mt (tC (.int 26)) tNil)))) σ Q (Itr lo n) H1:=by
 have h2:2 < σ.length:=(List.getElem?_eq_some_iff.mp hL).1
 have h0:0 < σ.length:=by omega
 refine lcJ (n:=n) (fun i=>.int (lo + i)) (fun l i ys H'=>H1 l=none /\ Rst H' R /\ aR R H1 H' /\ H' l=some (.lst ys) /\ ∃ cs:List Nat,ys=cs.map (fun c=>V.str ⟨#[c]⟩) /\ cs.length=i /\ ∀ c ∈ cs,okc c=true) hσ ?_ ?_ ?_ ?_ ?_ ?_
 ·rintro l i ys H' hi _
  exact hi
 ·rintro l i ys H' x H'' hi _ ⟨e,y⟩
  exact ⟨e,y⟩
 ·rintro l ys H' _
  exact Nat.le_refl _
 ·intro l hl
  exact ⟨hl,r1.same (.new hl),aR.of (.new hl),ar,[],rfl,rfl,fun c hc=>by simp at hc⟩
 ·rintro l i ys H' post hi ⟨hl0,r',b',hl,cs,rfl,hcl,hc⟩ hp
  refine ⟨.str ABC,by rw [List.getElem?_append_left h2]; exact hL,.ref R,by rw [List.getElem?_append_left h0]; exact hR,R,26,rfl,r',by decide,by decide,fun x H3 x0 x1 r3 b3=>?_⟩
  obtain ⟨c,hx,hm⟩:=jJ (xs:=ABC.cps.toList) x0 (by rw [Array.length_toList]; show x < ((ABC.length:Nat):Int); rw [cA]; exact x1)
  have hlR:l ≠ R:=r1.ne hl0
  have hl3:=b3 _ _ hlR hl
  refine ⟨_,_,c,rfl,rfl,qr,hx,hp _ _ hl3 (by rw [List.length_map]; exact bz (by omega)) ⟨hl0,?_,?_,ar,cs ++ [c],by rw [List.map_append]; rfl,by rw [List.length_append,hcl]; rfl,?_⟩⟩
  ·obtain ⟨a,b,h1,h3⟩:=r3
   exact ⟨a,b,by rw [au hlR.symm]; exact h1,h3⟩
  ·exact fun b o hb e=>by rw [au (am e hl0)]; exact (b'.trans b3) b o hb e
  ·intro c' hc'
   rcases List.mem_append.mp hc' with h | h
   ·exact hc c' h
   ·rw [List.mem_singleton.mp h]
    exact lB c hm
 ·rintro l ys H' ⟨hl0,r',b',hl,cs,rfl,hcl,hc⟩
  exact fin l cs H' hl0 r' b' hl hcl hc
theorem kt:∀ cs:List Nat,(Txt.join (Str.ofString "") (cs.map fun c=>(⟨#[c]⟩:Str))).cps.toList=cs:=by
 intro cs
 show (Builtin.Str.glued (Str.ofString "") _).cps.toList=_
 rw [StrLaws.glued_eq_join]
 induction cs with
 | nil=>rfl
 | cons c r ih =>
  cases r with
  | nil=>rfl
  | cons d r' =>
   show ((⟨#[c]⟩:Str) ++ Str.ofString "" ++ Str.join (Str.ofString "") ((d :: r').map fun c=>(⟨#[c]⟩:Str))).cps.toList=_
   rw [Str.cps_append,Str.cps_append,Array.toList_append,Array.toList_append,ih]
   rfl
theorem mO (cs:List Nat):((cs.map fun c=>(⟨#[c]⟩:Str)).map (·.length)).sum=cs.length:=by
 induction cs with
 | nil=>rfl
 | cons c r ih =>
  simp only [List.map_cons,List.sum_cons,List.length_cons]
  simp only [List.map_map] at ih ⊢
  rw [ih]
  show 1 + r.length=r.length + 1
  omega
theorem ci (x:Str):x.cps.toList.length=x.length:=by simp [Str.length]
def cJ (x:Str) (c:Nat):Str:=Txt.slice x none (some (-1)) ++ ⟨#[c]⟩
theorem ii {x:Str} (h:1 <= x.length) (c:Nat):(cJ x c).cps.toList=x.cps.toList.take (x.length - 1) ++ [c]:=by
 unfold cJ
 rw [jD,pZ h]
theorem qu {x:Str} (h:1 <= x.length) {c d:Nat} (e:cJ x c=cJ x d):c=d:=by
 have:(cJ x c).cps.toList=(cJ x d).cps.toList:=by rw [e]
 rw [ii h,ii h] at this
 have:=List.append_cancel_left this
 simpa using this
theorem cand_nm {x:Str} (h:Nm x) {c:Nat} (hc:okc c=true):Nm (cJ x c):=by
 have e:=ii h.one c
 have hl:(cJ x c).length=x.length:=by
  rw [<- ci,e,List.length_append,List.length_take,ci]
  simp only [List.length_cons,List.length_nil]
  have:=h.one
  omega
 refine ⟨by rw [hl]; exact h.one,by rw [hl]; exact h.eight,fun d hd=>?_⟩
 rw [e] at hd
 rcases List.mem_append.mp hd with q | q
 ·exact h.ok d (List.mem_of_mem_take q)
 ·rw [List.mem_singleton.mp q]; exact hc
theorem ku {x:Str} (h:Nm x) {zs:List Str} (hz:zs.length <= 20):∃ (y:Str) (r:List V),([V.str x] ++ ABC.cps.toList.map fun c=>V.str (cJ x c)).filter (fun v=>!inV v (zs.map V.str))=.str y :: r /\ Nm y /\ y ∉ zs:=by
 generalize hxs:([V.str x] ++ ABC.cps.toList.map fun c=>V.str (cJ x c))=xs
 have all:∀ v ∈ xs,∃ y,v=.str y /\ Nm y:=by
  intro v hv
  rw [<- hxs] at hv
  rcases List.mem_append.mp hv with q | q
  ·exact ⟨x,List.mem_singleton.mp q,h⟩
  ·obtain ⟨c,hc,rfl⟩:=List.mem_map.mp q
   exact ⟨_,rfl,cand_nm h (lB c hc)⟩
 cases hf:xs.filter (fun v=>!inV v (zs.map V.str)) with
 | nil =>
  exfalso
  have sub:∀ y ∈ ABC.cps.toList.map (cJ x),y ∈ zs:=by
   intro y hy
   obtain ⟨c,hc,rfl⟩:=List.mem_map.mp hy
   have hm:V.str (cJ x c) ∈ xs:=by rw [<- hxs]; exact List.mem_append_right _ (List.mem_map.mpr ⟨c,hc,rfl⟩)
   by_cases hin:cJ x c ∈ zs
   ·exact hin
   ·have:V.str (cJ x c) ∈ xs.filter (fun v=>!inV v (zs.map V.str)):=List.mem_filter.mpr ⟨hm,by rw [eK,decide_eq_false hin]; rfl⟩
    rw [hf] at this
    simp at this
  have nd:(ABC.cps.toList.map (cJ x)).Nodup:=by
   refine List.Pairwise.map _ (fun c d hcd e=>hcd (qu h.one e)) abc_nd
  have:=km nd sub
  rw [List.length_map,ci,cA] at this
  omega
 | cons v r =>
  have hm:v ∈ xs.filter (fun v=>!inV v (zs.map V.str)):=by rw [hf]; exact List.mem_cons_self
  obtain ⟨h1,h2⟩:=List.mem_filter.mp hm
  obtain ⟨y,rfl,hy⟩:=all v h1
  refine ⟨y,r,rfl,hy,fun hin=>?_⟩
  rw [eK,decide_eq_true hin] at h2
  cases h2
abbrev nN:List Str:=["_law_rest_here","_law_many","_law_letters","_law_kind","_law_base","_law_long","_law_at","_law_names_here","_law_k","_law_name","_law_size","_law_some_here"]
abbrev nNk:List Str:=["_law_rest_here","_law_many","_law_letters","_law_kind","_law_base","_law_long","_law_at","_law_names_here","#k","_law_name","_law_size","_law_some_here"]
theorem ndN1:(nNk ++ (["_law_k"]:List Str)).Nodup:=by decide +kernel
theorem ndN2:(nN ++ (["_law_j"]:List Str)).Nodup:=by decide +kernel
theorem ndN3:(nN ++ (["_law_letter"]:List Str)).Nodup:=by decide +kernel
theorem ndN4:(nN ++ (["_law_one"]:List Str)).Nodup:=by decide +kernel
theorem mid_nm {b:Str} {at' lg c:Nat} (hb:b.length=8) (hok:∀ c ∈ b.cps.toList,okc c=true) (h1:at' < lg) (h2:lg <= 8) (hc:okc c=true) :
  Nm (Txt.slice b none (some (at':Int)) ++ ⟨#[c]⟩ ++ Txt.slice b (some ((at':Int) + 1)) (some (lg:Int))):=by
 have e:(Txt.slice b none (some (at':Int)) ++ ⟨#[c]⟩ ++ Txt.slice b (some ((at':Int) + 1)) (some (lg:Int))).cps.toList=b.cps.toList.take at' ++ [c] ++ (b.cps.toList.drop (at' + 1)).take (lg - (at' + 1)):=by
  rw [jD,jD,kj (by omega),show ((at':Int) + 1)=((at' + 1:Nat):Int) by omega,kh (by omega) (by omega)]
 have hl:(Txt.slice b none (some (at':Int)) ++ ⟨#[c]⟩ ++ Txt.slice b (some ((at':Int) + 1)) (some (lg:Int))).length=lg:=by
  rw [<- ci,e]
  simp only [List.length_append,List.length_take,List.length_drop,ci,List.length_cons,List.length_nil]
  omega
 refine ⟨by omega,by omega,fun d hd=>?_⟩
 rw [e] at hd
 rcases List.mem_append.mp hd with q | q
 ·rcases List.mem_append.mp q with q | q
  ·exact hok d (List.mem_of_mem_take q)
  ·rw [List.mem_singleton.mp q]; exact hc
 ·exact hok d (List.mem_of_mem_drop (List.mem_of_mem_take q))
section
variable {P:Program} {w:World} {K:PySem.W.Frag} {mg:Str -> Option Value} {base:Heap}
theorem mP:aH nN ["_law_rest_here","_law_many"] (ai df):=fsc (by decide +kernel)
theorem qv {f:Addr} {fd:FuncData} (F:Fun K "_law_names" "_law_names" df f fd) (T:Blt mg) (Ft:aL P w K mg base 1 "_law_take" dN cw):a7 P w K mg base CX0 2 f fd ["_law_rest_here","_law_many"] jK:=by
 refine F.ok mP (fun vs H Q E h=>?_) (fun cdv A outer s H vs Q E hr h=>?_)
 ·obtain ⟨R,m,rfl,_⟩:=h
  rfl
 ·obtain ⟨R,m,rfl,r0,m0,m1,q⟩:=h
  have nd:=mP.nd
  have hs16:sizeLine=16777216:=sizeLine_eq
  have e00:(Str.ofString "").length=0:=rfl
  refine ⟨_,ah (aD (i:=2) nd rfl (Or.inr rfl) aM) <|
   ah (aD (i:=3) nd rfl (Or.inl rfl) (aj Ft hr (ad (pv 0) (ad ag af)))) <|
   ah (aD (i:=4) nd rfl (Or.inl rfl) (cT PySem.F.plainAttrs_str PySem.F.slot_str_join PySem.F.type_str_join mF aM (ad
    (cE nN nNk ["_law_k"] (ai df) rfl rfl rfl (by decide +kernel) rfl rfl (by decide +kernel) (by decide +kernel) (by decide +kernel) (by decide +kernel)
     (bW (by rfl) T.range (ad ag af)) (fun _ _ _ _ _=>aJ (i:=12) ndN1 rfl (Or.inl rfl)) (fun _ _ _ _ _=>bU)
     (fun _ _ _ _ _=>ax lu (pv 2) (aj Ft hr (ad (pv 0) (ad ag af))) (fun _ _=>rfl))) af))) <|
   ah (aD (i:=5) nd rfl (Or.inl rfl) (aO bi ag (aj Ft hr (ad (pv 0) (ad ag af))))) <|
   ah (aD (i:=6) nd rfl (Or.inl rfl) (aj Ft hr (ad (pv 0) (ad (pv 5) af)))) <|
   ah (aD (i:=7) nd rfl (Or.inr rfl) (bO af)) <|
   ah (cv PassesOwn.never rfl (bW (by rfl) T.range (ad (pv 1) af)) (aJ (i:=8) nd rfl (Or.inl rfl))
    (ah (aD (i:=9) nd rfl (Or.inr rfl) (aO fb (aO fb (bf lx (pv 4) bN (bb (pv 6))) (ax lu (pv 2) (aj Ft hr (ad (pv 0) (ad ag af))) (fun _ _=>rfl)))
       (bf lx (pv 4) (bb (aO bi (pv 6) ag)) (bb (pv 5))))) <|
     ah (aT (az bL (pv 3) ag (aB _)) (ah (aD (i:=10) nd rfl (Or.inl rfl) (aO bi ag (aj Ft hr (ad (pv 0) (ad ag af))))) <|
       ak (aD (i:=9) nd rfl (Or.inr rfl) (cT PySem.F.plainAttrs_str PySem.F.slot_str_join PySem.F.type_str_join mF aM (ad
         (cE nN nN ["_law_j"] (ai df) rfl rfl rfl (by decide +kernel) rfl rfl (by decide +kernel) (by decide +kernel) (by decide +kernel) (by decide +kernel)
           (bW (by rfl) T.range (ad (pv 10) af)) (fun _ _ _ _ _=>aJ (i:=12) ndN2 rfl (Or.inl rfl)) (fun _ _ _ _ _=>bU)
           (fun _ _ _ _ _=>ax lu (pv 2) (aj Ft hr (ad (pv 0) (ad ag af))) (fun _ _=>rfl))) af)))) aE) <|
     ah (aD (i:=11) nd rfl (Or.inl rfl) (aO jB (bO (ad (pv 9) af))
       (cE nN nN ["_law_letter"] (ai df) rfl rfl rfl (by decide +kernel) rfl rfl (by decide +kernel) (by decide +kernel) (by decide +kernel) (by decide +kernel)
         (pU (pv 2)) (fun _ _ _ _ _=>aJ (i:=12) ndN3 rfl (Or.inl rfl)) (fun _ _ _ _ _=>bU)
         (fun _ _ _ _ _=>aO fb (bf lx (pv 9) bN (bb (iL fU ag))) (pv 12))))) <|
     ak (bK (cT PySem.F.plainAttrs_list PySem.F.slot_list_append PySem.F.type_list_append cg (pv 7) (ad (ax bu
       (cE nN nN ["_law_one"] (ai df) rfl rfl rfl (by decide +kernel) rfl rfl (by decide +kernel) (by decide +kernel) (by decide +kernel) (by decide +kernel)
         (cW (pv 11)) (fun _ _ _ _ _=>aJ (i:=12) ndN4 rfl (Or.inl rfl)) (fun _ _ _ _ _=>dE (az de (pv 12) (pv 7) (by rfl)))
         (fun _ _ _ _ _=>pv 12)) ag (fun _ _=>rfl)) af))))) <|
   ak <| ay <| aq fg (by rfl) T.sorted jI (ad (pv 7) af),?_⟩
  refine ⟨_,rfl,R,3,rfl,r0,by decide,by decide,fun kind H1 _ _ r1 b1=>?_⟩
  refine ⟨rfl,8,rfl,by decide,by decide,?_⟩
  refine kr (R:=R) rfl rfl rfl r1 (by decide) fun l2 cs H2 hl2 r2 b2 e2 hcl hco=>?_
  refine ⟨_,l2,cs.map (fun c=>(⟨#[c]⟩:Str)),rfl,rfl,SqL.of (by rw [e2,List.map_map]; rfl),by rw [mO,e00]; omega,?_⟩
  have ecs:=kt cs
  generalize Txt.join (Str.ofString "") (cs.map fun c=>(⟨#[c]⟩:Str))=bs at ecs ⊢
  have hbl:bs.length=8:=by rw [<- ci,ecs,hcl]; rfl
  have hbo:∀ c ∈ bs.cps.toList,okc c=true:=by rw [ecs]; exact hco
  refine ⟨_,rfl,R,8,rfl,r2,by decide,by decide,fun lg H3 g0 g1 r3 b3=>?_⟩
  refine ⟨_,_,rfl,rfl,?_⟩
  refine ⟨_,rfl,_,rfl,R,1 + lg,rfl,r3,by omega,by omega,fun at' H4 a0 a1 r4 b4=>?_⟩
  refine ⟨Nat.zero_le _,fun l H5 hl s5 e5=>?_⟩
  have hlR:l ≠ R:=r4.ne hl
  have b05:aR R H H5:=(((b1.trans b2).trans b3).trans b4).trans (aR.of s5)
  have hlH:H l=none:=by
   cases eq:H l with
   | none=>rfl
   | some o=>rw [(((b1.trans b2).trans b3).trans b4) l o hlR eq] at hl; cases hl
  obtain ⟨lgn,rfl⟩:=Int.eq_ofNat_of_zero_le g0
  obtain ⟨atn,rfl⟩:=Int.eq_ofNat_of_zero_le a0
  refine ⟨_,rfl,m,rfl,by omega,by omega,cO (lo:=0) (n:=m.toNat) (fun i σ Hx=>∃ (zs:List Str) (kv nv sv ov:Option V),σ=[some (V.ref R),some (V.int m),some (V.str ABC),some (V.int kind),some (V.str bs),some (V.int (1 + (lgn:Int))),some (V.int (atn:Int)),some (V.ref l),kv,nv,sv,ov] /\
   Hx l=some (.lst (zs.map V.str)) /\ zs.length=i /\ zs.Nodup /\ (∀ z ∈ zs,Nm z) /\ Rst Hx R /\ aR R H Hx) ⟨[],none,none,none,none,rfl,e5,rfl,List.nodup_nil,fun z hz=>by simp at hz,r4.same s5,b05⟩ ?_ ?_⟩
  ·rintro i σ Hx hi ⟨zs,kv,nv,sv,ov,rfl,hlx,hzl,hzn,hzm,rx,bx⟩
   have hi20:zs.length <= 20:=by omega
   refine ⟨_,rfl,_,rfl,_,rfl,_,rfl,by omega,?_⟩
   refine ⟨_,rfl,_,rfl,R,26,rfl,rx,by decide,by decide,fun x H6 x0 x1 r6 b6=>?_⟩
   obtain ⟨c,hx,hm⟩:=jJ (xs:=ABC.cps.toList) x0 (by rw [Array.length_toList]; show x < ((ABC.length:Nat):Int); rw [cA]; exact x1)
   have hl6:=b6 _ _ hlR hlx
   have b06:=bx.trans b6
   refine ⟨_,_,c,rfl,rfl,qr,hx,_,_,rfl,rfl,?_,?_⟩
   ·have h9:=Txt.slice_le bs none (some (atn:Int))
    show (Txt.slice bs none (some (atn:Int))).length + 1 <= sizeLine
    omega
   refine ⟨_,rfl,_,rfl,_,_,rfl,rfl,_,rfl,_,rfl,_,rfl,_,rfl,by omega,_,_,rfl,rfl,?_,?_⟩
   ·have h9:=Txt.slice_le bs none (some (atn:Int))
    have h8:=Txt.slice_le bs (some ((atn:Int) + 1)) (some (1 + (lgn:Int)))
    rw [Str.length_append]
    show (Txt.slice bs none (some (atn:Int))).length + 1 + (Txt.slice bs (some ((atn:Int) + 1)) (some (1 + (lgn:Int)))).length <= sizeLine
    omega
   have hnm:Nm (Txt.slice bs none (some (atn:Int)) ++ ⟨#[c]⟩ ++ Txt.slice bs (some ((atn:Int) + 1)) (some (1 + (lgn:Int)))):=by
    have:=mid_nm (b:=bs) (at':=atn) (lg:=1 + lgn) (c:=c) hbl hbo (by omega) (by omega) (lB c hm)
    rw [show (((1 + lgn:Nat)):Int)=1 + (lgn:Int) by omega] at this
    exact this
   generalize Txt.slice bs none (some (atn:Int)) ++ ⟨#[c]⟩ ++ Txt.slice bs (some ((atn:Int) + 1)) (some (1 + (lgn:Int)))=nm at hnm ⊢
   refine ⟨_,rfl,rfl,_,rfl,?_⟩
   refine bD (fun _=>?_) (fun _=>?_)
   ·refine ⟨_,rfl,R,8,rfl,r6,by decide,by decide,fun sz H7 z0 z1 r7 b7=>?_⟩
    refine ⟨_,_,rfl,rfl,?_⟩
    refine ⟨rfl,_,rfl,1 + sz,rfl,by omega,by omega,?_⟩
    refine kr (R:=R) rfl rfl rfl r7 (by omega) fun l3 cs3 Hc hl3 rc bc ec hcl3 hco3=>?_
    refine ⟨_,l3,cs3.map (fun c=>(⟨#[c]⟩:Str)),rfl,rfl,SqL.of (by rw [ec,List.map_map]; rfl),by rw [mO,e00]; omega,?_⟩
    have ecs3:=kt cs3
    generalize Txt.join (Str.ofString "") (cs3.map fun c=>(⟨#[c]⟩:Str))=nm3 at ecs3 ⊢
    have hnm3:Nm nm3:=by
     have hl3':nm3.length=cs3.length:=by rw [<- ci,ecs3]
     exact ⟨by omega,by omega,by rw [ecs3]; exact hco3⟩
    have hlc:=bc _ _ hlR (b7 _ _ hlR hl6)
    have b0c:=(b06.trans b7).trans bc
    refine ⟨_,rfl,(by show 1 <= sizeLine; decide),fun p H8 n8 s8 e8=>?_⟩
    have hl8:=s8 _ _ hlc
    have hnl:=hnm3.eight
    refine ⟨_,rfl,_,rfl,?_⟩
    refine lcT (fun c=>V.str (cJ nm3 c)) rfl (show ABC.length <= 1000 by rw [cA]; decide) (fun D c ys post hD hp=>?_) (fun D hD=>?_)
    ·exact ⟨_,rfl,_,rfl,_,rfl,_,rfl,by omega,_,rfl,_,_,rfl,rfl,by have h9:=Txt.slice_le nm3 none (some (-1)); show (Txt.slice nm3 none (some (-1))).length + 1 <= sizeLine; omega,hp⟩
    have s9:=aA.new (o:=.lst (ABC.cps.toList.map fun c=>V.str (cJ nm3 c))) hD
    have e9:upd H8 D (.lst (ABC.cps.toList.map fun c=>V.str (cJ nm3 c))) D=some (.lst (ABC.cps.toList.map fun c=>V.str (cJ nm3 c))):=ar
    generalize upd H8 D (.lst (ABC.cps.toList.map fun c=>V.str (cJ nm3 c)))=H9 at s9 e9 ⊢
    refine ⟨p,D,_,_,rfl,rfl,s9 _ _ e8,e9,?_,fun p2 Ha na sa ea=>?_⟩
    ·rw [List.length_map,ci,cA,hs16]; simp
    have hla:=sa _ _ (s9 _ _ hl8)
    refine ⟨_,rfl,.inl ⟨rfl,_,SqL.of hla⟩,?_⟩
    refine ⟨_,rfl,p2,rfl,⟨_,SqL.of ea⟩,?_⟩
    obtain ⟨y,r,ef,hy,hny⟩:=ku hnm3 hi20
    refine p8 (fun v=>!inV v (zs.map V.str)) rfl (SqL.of ea) ?_ (fun D2 v ys post hD2 hv hp=>?_) (fun D2 hD2=>?_)
    ·rw [List.length_append,List.length_map,ci,cA]; simp
    ·have fv:cc v=true:=by
      rcases List.mem_append.mp hv with hv | hv
      ·rw [List.mem_singleton.mp hv]; rfl
      ·obtain ⟨c,_,rfl⟩:=List.mem_map.mp hv; rfl
     exact ⟨_,rfl,_,rfl,l,_,rfl,.inl (SqL.of (by rw [au (am hla hD2)]; exact hla)),fv,bq zs,_,rfl,hp⟩
    rw [ef]
    refine ⟨D2,_,_,_,rfl,rfl,SqL.of ar,at0,l,_,_,rfl,rfl,(by rw [au (am hla hD2)]; exact hla),by rw [List.length_map]; omega,fun Hb kb eb=>?_⟩
    have rb:Rst (upd Ha D2 (.lst (.str y :: r))) R:=((((rc.same s8).same s9).same sa).same (.new hD2))
    refine ⟨zs ++ [y],_,_,_,_,rfl,by rw [eb,List.map_append]; rfl,by rw [List.length_append,hzl]; rfl,?_,fun z hz=>?_,rb.keep kb hlR.symm,fun c o hc e=>?_⟩
    ·exact List.nodup_append.mpr ⟨hzn,by simp,fun a ha b hb=>by rw [List.mem_singleton.mp hb]; rintro rfl; exact hny ha⟩
    ·rcases List.mem_append.mp hz with hz | hz
     ·exact hzm z hz
     ·rw [List.mem_singleton.mp hz]; exact hy
    ·have hcl:c ≠ l:=by rintro rfl; rw [hlH] at e; cases e
     exact kb c o hcl ((((((b0c.trans (aR.of s8)).trans (aR.of s9)).trans (aR.of sa)).trans (aR.of (.new hD2))) c o hc e))
   ·skip
    refine ⟨_,rfl,(by show 1 <= sizeLine; decide),fun p H8 n8 s8 e8=>?_⟩
    have hl8:=s8 _ _ hl6
    have hnl:=hnm.eight
    refine ⟨_,rfl,_,rfl,?_⟩
    refine lcT (fun c=>V.str (cJ nm c)) rfl (show ABC.length <= 1000 by rw [cA]; decide) (fun D c ys post hD hp=>?_) (fun D hD=>?_)
    ·exact ⟨_,rfl,_,rfl,_,rfl,_,rfl,by omega,_,rfl,_,_,rfl,rfl,by have h9:=Txt.slice_le nm none (some (-1)); show (Txt.slice nm none (some (-1))).length + 1 <= sizeLine; omega,hp⟩
    have s9:=aA.new (o:=.lst (ABC.cps.toList.map fun c=>V.str (cJ nm c))) hD
    have e9:upd H8 D (.lst (ABC.cps.toList.map fun c=>V.str (cJ nm c))) D=some (.lst (ABC.cps.toList.map fun c=>V.str (cJ nm c))):=ar
    generalize upd H8 D (.lst (ABC.cps.toList.map fun c=>V.str (cJ nm c)))=H9 at s9 e9 ⊢
    refine ⟨p,D,_,_,rfl,rfl,s9 _ _ e8,e9,?_,fun p2 Ha na sa ea=>?_⟩
    ·rw [List.length_map,ci,cA,hs16]; simp
    have hla:=sa _ _ (s9 _ _ hl8)
    refine ⟨_,rfl,.inl ⟨rfl,_,SqL.of hla⟩,?_⟩
    refine ⟨_,rfl,p2,rfl,⟨_,SqL.of ea⟩,?_⟩
    obtain ⟨y,r,ef,hy,hny⟩:=ku hnm hi20
    refine p8 (fun v=>!inV v (zs.map V.str)) rfl (SqL.of ea) ?_ (fun D2 v ys post hD2 hv hp=>?_) (fun D2 hD2=>?_)
    ·rw [List.length_append,List.length_map,ci,cA]; simp
    ·have fv:cc v=true:=by
      rcases List.mem_append.mp hv with hv | hv
      ·rw [List.mem_singleton.mp hv]; rfl
      ·obtain ⟨c,_,rfl⟩:=List.mem_map.mp hv; rfl
     exact ⟨_,rfl,_,rfl,l,_,rfl,.inl (SqL.of (by rw [au (am hla hD2)]; exact hla)),fv,bq zs,_,rfl,hp⟩
    rw [ef]
    refine ⟨D2,_,_,_,rfl,rfl,SqL.of ar,at0,l,_,_,rfl,rfl,(by rw [au (am hla hD2)]; exact hla),by rw [List.length_map]; omega,fun Hb kb eb=>?_⟩
    have rb:Rst (upd Ha D2 (.lst (.str y :: r))) R:=((((r6.same s8).same s9).same sa).same (.new hD2))
    refine ⟨zs ++ [y],_,_,_,_,rfl,by rw [eb,List.map_append]; rfl,by rw [List.length_append,hzl]; rfl,?_,fun z hz=>?_,rb.keep kb hlR.symm,fun c o hc e=>?_⟩
    ·exact List.nodup_append.mpr ⟨hzn,by simp,fun a ha b hb=>by rw [List.mem_singleton.mp hb]; rintro rfl; exact hny ha⟩
    ·rcases List.mem_append.mp hz with hz | hz
     ·exact hzm z hz
     ·rw [List.mem_singleton.mp hz]; exact hy
    ·have hcl:c ≠ l:=by rintro rfl; rw [hlH] at e; cases e
     exact kb c o hcl ((((((b06.trans (aR.of s8)).trans (aR.of s9)).trans (aR.of sa)).trans (aR.of (.new hD2))) c o hc e))
  ·rintro σ Hx ⟨zs,kv,nv,sv,ov,rfl,hlx,hzl,hzn,hzm,rx,bx⟩
   refine ⟨_,rfl,l,zs,rfl,SqL.of hlx,by omega,fun l' ys Hz hl' sz ez hp hs=>?_⟩
   have hn':ys.Nodup:=hp.nodup_iff.mpr hzn
   have hlR':l' ≠ R:=rx.ne hl'
   refine q l' ys Hz ?_ ez (by rw [hp.length_eq]; omega) (fZ hs hn') (fun z hz=>hzm z (hp.mem_iff.mp hz)) (rx.same sz) (bx.trans (aR.of sz))
   cases eq:H l' with
   | none=>rfl
   | some o=>rw [bx l' o hlR' eq] at hl'; cases hl'
end
theorem dm {R l:Addr} {H H':Hp} (b:aR R H H') (hl:H' l=none) (hR:l ≠ R):H l=none:=by
 cases eq:H l with
 | none=>rfl
 | some o=>rw [b l o hR eq] at hl; cases hl
def gc:Sp:=fun vs H Q _=>∃ (R nl:Addr) (zs:List Str) (lo hi:Int),vs=[.ref R,.ref nl,.int lo,.int hi] /\ Rst H R /\ H nl=some (.lst (zs.map V.str)) /\ nl ≠ R /\ zs.Nodup /\ zs.length <= 15 /\ 0 <= lo /\ lo <= hi /\ lo <= zs.length /\ hi <= 100 /\
 ∀ (t:Addr) (ys:List Str) (H':Hp),H t=none -> H' t=some (.tup (ys.map V.str)) -> ys.Pairwise ltS -> (∀ y ∈ ys,y ∈ zs) -> lo <= ys.length -> (ys.length:Int) <= hi -> Rst H' R -> aR R H H' -> Q (.ref t) H'
abbrev i8:List Str:=["_law_rest_here","_law_names_here","_law_least","_law_most_here"]
abbrev nSome:List Str:=["_law_rest_here","_law_names_here","_law_least","_law_most_here","_law_many","_law_left","_law_found","_law_k"]
theorem ky:∀ {ls:List Str} {j:Nat} {y:Str},ls[j]?=some y -> (y :: ls.eraseIdx j).Perm ls
 | [],_,_,h=>by simp at h
 | x :: r,0,y,h=>by
  have h:some x=some y:=h
  cases h
  exact List.Perm.refl _
 | x :: r,j + 1,y,h=>(List.Perm.swap x y _).trans ((ky (ls:=r) (j:=j) h).cons x)
theorem i9:∀ (ls:List Str) (j:Nat),(ls.map V.str).eraseIdx j=(ls.eraseIdx j).map V.str
 | [],_=>by simp
 | x :: r,0=>rfl
 | x :: r,j + 1=>by
  show V.str x :: (r.map V.str).eraseIdx j=V.str x :: (r.eraseIdx j).map V.str
  rw [i9 r j]
section
variable {P:Program} {w:World} {K:PySem.W.Frag} {mg:Str -> Option Value} {base:Heap}
theorem qw:aH nSome i8 (ai i7):=fsc (by decide +kernel)
theorem ok_some {f:Addr} {fd:FuncData} (F:Fun K "_law_some" "_law_some" i7 f fd) (T:Blt mg) (Ft:aL P w K mg base 1 "_law_take" dN cw):a7 P w K mg base CX0 2 f fd i8 gc:=by
 refine F.ok qw (fun vs H Q E h=>?_) (fun cdv A outer s H vs Q E hr h=>?_)
 ·obtain ⟨R,nl,zs,lo,hi,rfl,_⟩:=h
  rfl
 ·obtain ⟨R,nl,zs,lo,hi,rfl,r0,hnl,hnR,hzn,hzl,l0,l1,l2,l3,q⟩:=h
  have nd:=qw.nd
  refine ⟨_,ah (aD (i:=4) nd rfl (Or.inl rfl) (aO bi (pv 2) (aj Ft hr (ad (pv 0) (ad (aO bi (aO dU (aq (nQ rfl) (by rfl) T.min bMin (ad (pv 3) (ad (aq ao (by rfl) T.len PySem.boot_len (ad (pv 1) af)) af))) (pv 2)) ag) af))))) <|
   ah (aD (i:=5) nd rfl (Or.inl rfl) (dh ib (by rfl) T.list bList (ad (pv 1) af))) <|
   ah (aD (i:=6) nd rfl (Or.inl rfl) (bO af)) <|
   ah (cv PassesOwn.never rfl (bW (by rfl) T.range (ad (pv 4) af)) (aJ (i:=7) nd rfl (Or.inl rfl))
    (ak (bK (cT PySem.F.plainAttrs_list PySem.F.slot_list_append PySem.F.type_list_append cg (pv 6) (ad
     (cT PySem.F.plainAttrs_list PySem.F.slot_list_pop PySem.F.type_list_pop mt_popI (pv 5) (ad (aj Ft hr (ad (pv 0) (ad (aq ao (by rfl) T.len PySem.boot_len (ad (pv 5) af)) af))) af)) af))))) <|
   ak <| ay <| dh eg (by rfl) T.tuple cI (ad (aq fg (by rfl) T.sorted jI (ad (pv 6) af)) af),?_⟩
  have hml:(zs.map V.str).length=zs.length:=List.length_map ..
  refine ⟨_,rfl,_,rfl,_,rfl,_,rfl,nl,_,rfl,.inl (SqL.of hnl),_,_,rfl,_,rfl,_,_,rfl,rfl,_,_,rfl,rfl,?_⟩
  have hmin:∃ mn:Int,(if (((zs.map V.str).length:Nat):Int) < hi then (((zs.map V.str).length:Nat):Int) else hi)=mn /\ lo <= mn /\ mn <= hi /\ mn <= zs.length:=by
   refine ⟨_,rfl,?_⟩
   rw [hml]
   by_cases h:((zs.length:Nat):Int) < hi
   ·rw [if_pos h]; omega
   ·rw [if_neg h]; omega
  obtain ⟨mn,emn,n1,n2,n3⟩:=hmin
  rw [emn]
  refine ⟨R,mn - lo + 1,rfl,r0,by omega,by omega,fun z H1 z0 z1 r1 b1=>?_⟩
  refine ⟨_,_,rfl,rfl,?_⟩
  have hnl1:=b1 _ _ hnR hnl
  refine ⟨_,rfl,nl,_,rfl,.inl (SqL.of hnl1),fun a1 H2 na1 s2 ea1=>?_⟩
  have r2:=r1.same s2
  refine ⟨Nat.zero_le _,fun a2 H3 na2 s3 ea2=>?_⟩
  have r3:=r2.same s3
  have aR1:a1 ≠ R:=r1.ne na1
  have aR2:a2 ≠ R:=r2.ne na2
  have a12:a1 ≠ a2:=am ea1 na2
  have f1:H a1=none:=dm b1 na1 aR1
  have f2:H a2=none:=dm (b1.trans (aR.of s2)) na2 aR2
  refine ⟨_,rfl,lo + z,rfl,by omega,by omega,cO (lo:=0) (n:=(lo + z).toNat) (fun i σ Hx=>∃ (ls fs:List Str) (kv:Option V),σ=[some (V.ref R),some (V.ref nl),some (V.int lo),some (V.int hi),some (V.int (lo + z)),some (V.ref a1),some (V.ref a2),kv] /\
   Hx a1=some (.lst (ls.map V.str)) /\ Hx a2=some (.lst (fs.map V.str)) /\ fs.length=i /\ (fs ++ ls).Perm zs /\ Rst Hx R /\ aR R H Hx) ⟨zs,[],none,rfl,s3 _ _ ea1,ea2,rfl,List.Perm.refl _,r3,(b1.trans (aR.of s2)).trans (aR.of s3)⟩ ?_ ?_⟩
  ·rintro i σ Hx hi ⟨ls,fs,kv,rfl,h1,h2,hfl,hp,rx,bx⟩
   have hpl:=hp.length_eq
   rw [List.length_append] at hpl
   refine ⟨_,rfl,.inl ⟨rfl,_,SqL.of h2⟩,_,rfl,.inl ⟨rfl,_,SqL.of h1⟩,_,rfl,_,rfl,a1,_,rfl,.inl (SqL.of h1),R,_,rfl,rx,?_,?_,fun x H4 x0 x1 r4 b4=>?_⟩
   ·rw [List.length_map]; omega
   ·rw [List.length_map]; omega
   ·rw [List.length_map] at x1
    have hx:x.toNat < ls.length:=by omega
    have h14:=b4 _ _ aR1 h1
    refine ⟨a1,_,x,_,rfl,rfl,h14,x0,(by rw [List.getElem?_map,List.getElem?_eq_getElem hx]; rfl),fun H5 k5 e5=>?_⟩
    have h24:=k5 _ _ a12.symm (b4 _ _ aR2 h2)
    refine ⟨a2,_,_,rfl,rfl,h24,by rw [List.length_map]; omega,fun H6 k6 e6=>?_⟩
    refine ⟨ls.eraseIdx x.toNat,fs ++ [ls[x.toNat]],_,rfl,?_,?_,by rw [List.length_append,hfl]; rfl,?_,(r4.keep k5 aR1.symm).keep k6 aR2.symm,fun c o hc e=>?_⟩
    ·rw [k6 _ _ a12 e5,i9]
    ·rw [e6,List.map_append]; rfl
    ·have hpp:=ky (List.getElem?_eq_getElem hx)
     rw [List.append_assoc]
     exact (hpp.append_left fs).trans hp
    ·have c1:c ≠ a1:=by rintro rfl; rw [f1] at e; cases e
     have c2:c ≠ a2:=by rintro rfl; rw [f2] at e; cases e
     exact k6 c o c2 (k5 c o c1 (b4 c o hc (bx c o hc e)))
  ·rintro σ Hx ⟨ls,fs,kv,rfl,h1,h2,hfl,hp,rx,bx⟩
   refine ⟨_,rfl,a2,fs,rfl,SqL.of h2,by omega,fun l ys H4 nl4 s4 e4 hpy hsy=>?_⟩
   refine ⟨l,_,rfl,SqL.of e4,fun t H5 nt s5 et=>?_⟩
   have hfn:fs.Nodup:=(List.nodup_append.mp (hp.nodup_iff.mpr hzn)).1
   have r4:=rx.same s4
   have bt:=bx.trans (aR.of s4)
   refine q t ys H5 (dm bt nt (r4.ne nt)) et (fZ hsy (hpy.nodup_iff.mpr hfn)) (fun y hy=>hp.mem_iff.mp (List.mem_append_left _ (hpy.mem_iff.mp hy))) (by rw [hpy.length_eq]; omega) (by rw [hpy.length_eq]; omega) (r4.same s5) (bt.trans (aR.of s5))
end
structure bI (H:Hp) (b:Addr) (vs cs ls:List Str):Prop where
 at':∃ v c l:Addr,H b=some (.tup [.ref v,.ref c,.ref l]) /\ H v=some (.tup (vs.map V.str)) /\ H c=some (.tup (cs.map V.str)) /\ H l=some (.tup (ls.map V.str))
 vr:vs.Pairwise ltS
 cr:cs.Pairwise ltS
 lr:ls.Pairwise ltS
 v1:1 <= vs.length
 v7:vs.length <= 7
 c7:cs.length <= 7
 l4:ls.length <= 4
 apart:∀ x ∈ ls,x ∉ (if cs=[] then vs else cs)
theorem bI.same {H H':Hp} {b:Addr} {vs cs ls:List Str} (e:aA H H') (h:bI H b vs cs ls):bI H' b vs cs ls:=by
 obtain ⟨⟨v,c,l,h1,h2,h3,h4⟩,r⟩:=h
 exact ⟨⟨v,c,l,e _ _ h1,e _ _ h2,e _ _ h3,e _ _ h4⟩,by assumption,by assumption,by assumption,by assumption,by assumption,by assumption,by assumption,by assumption⟩
def fL:Sp:=fun us H Q _=>∃ (R nl:Addr) (zs:List Str),us=[.ref R,.ref nl] /\ Rst H R /\ H nl=some (.lst (zs.map V.str)) /\ nl ≠ R /\ zs.Pairwise ltS /\ 8 <= zs.length /\ zs.length <= 15 /\
 ∀ (b:Addr) (vs cs ls:List Str) (H':Hp),H b=none -> bI H' b vs cs ls -> (∀ x ∈ vs,x ∈ zs) -> (∀ x ∈ cs,x ∈ zs) -> (∀ x ∈ ls,x ∈ zs) -> Rst H' R -> aR R H H' -> Q (.ref b) H'
abbrev nB:List Str:=["_law_rest_here","_law_names_here","_law_voters","_law_coming","_law_others"]
theorem ndB:(nB ++ (["_law_name"]:List Str)).Nodup:=by decide +kernel
section
variable {P:Program} {w:World} {K:PySem.W.Frag} {mg:Str -> Option Value} {base:Heap}
theorem mQ:aH nB ["_law_rest_here","_law_names_here"] (ai fi):=fsc (by decide +kernel)
theorem qy {f:Addr} {fd:FuncData} (F:Fun K "_law_bench" "_law_bench" fi f fd) (Ft:aL P w K mg base 1 "_law_take" dN cw) (Fs:aL P w K mg base 2 "_law_some" i8 gc):a7 P w K mg base CX0 3 f fd ["_law_rest_here","_law_names_here"] fL:=by
 refine F.ok mQ (fun us H Q E h=>?_) (fun cdv A outer s H us Q E hr h=>?_)
 ·obtain ⟨R,nl,zs,rfl,_⟩:=h
  rfl
 ·obtain ⟨R,nl,zs,rfl,r0,hnl,hnR,hzr,z8,z15,q⟩:=h
  have nd:=mQ.nd
  have hzn:=bS hzr
  refine ⟨_,ah (aD (i:=2) nd rfl (Or.inr rfl) (aj Fs hr (ad (pv 0) (ad (pv 1) (ad ag (ad ag af)))))) <|
   ah (aD (i:=3) nd rfl (Or.inr rfl) (aG af)) <|
   ah (aT (az bL (aj Ft (hr.mono (by decide)) (ad (pv 0) (ad ag af))) ag (aB _))
    (ak (aD (i:=3) nd rfl (Or.inr rfl) (aj Fs hr (ad (pv 0) (ad (pv 1) (ad ag (ad ag af))))))) aE) <|
   ah (mI (i:=4) nd rfl (Or.inl rfl) nB nB ["_law_name"] (ai fi) rfl rfl rfl (by decide +kernel) rfl rfl (by decide +kernel) (by decide +kernel) (by decide +kernel) (by decide +kernel)
    (cW (pv 1)) (fun _ _ _ _ _=>aJ (i:=5) ndB rfl (Or.inl rfl)) (fun _ _ _ _ _=>dE (az de (pv 5) (pe_orSC (pv 3) (pv 2)) (by rfl)))
    (fun _ _ _ _ _=>pv 5) (by with_unfolding_all rfl)) <|
   ak <| ay <| aG (ad (pv 2) (ad (pv 3) (ad (aj Fs hr (ad (pv 0) (ad (pv 4) (ad ag (ad ag af))))) af))),?_⟩
  refine ⟨_,rfl,_,rfl,R,nl,zs,1,7,rfl,r0,hnl,hnR,hzn,z15,by decide,by decide,by omega,by decide,fun v vs H1 nv ev hvr hvz v1 v7 r1 b1=>?_⟩
  have vR:v ≠ R:=r0.ne nv
  refine ⟨Nat.zero_le _,fun c0 H2 nc0 s2 ec0=>?_⟩
  have r2:=r1.same s2
  have cR0:c0 ≠ R:=r1.ne nc0
  refine ⟨_,rfl,R,2,rfl,r2,by decide,by decide,fun x H3 x0 x1 r3 b3=>?_⟩
  have b03:=(b1.trans (aR.of s2)).trans b3
  have ev3:=b3 _ _ vR (s2 _ _ ev)
  have ec3:=b3 _ _ cR0 ec0
  refine ⟨rfl,_,rfl,?_⟩
  refine bD (fun _=>?_) (fun _=>?_)
  ·have hnl3:=b03 _ _ hnR hnl
   refine ⟨_,rfl,_,rfl,R,nl,zs,1,7,rfl,r3,hnl3,hnR,hzn,z15,by decide,by decide,by omega,by decide,fun c cs H4 nc ec4 hcr hcz c1 c7 r4 b4=>?_⟩
   have cR:c ≠ R:=r3.ne nc
   have ev4:=b4 _ _ vR ev3
   have hnl4:=b4 _ _ hnR hnl3
   have b04:=b03.trans b4
   have c7':cs.length <= 7:=by omega
   refine ⟨_,rfl,nl,rfl,⟨_,SqL.of hnl4⟩,?_⟩
   refine p8 (fun u=>!inV u ((if cs=[] then vs else cs).map V.str)) rfl (SqL.of hnl4) (by rw [List.length_map]; omega) (fun D x ys post hD hx hp=>?_) (fun D hD=>?_)
   ·obtain ⟨z,hz,rfl⟩:=List.mem_map.mp hx
    have e3:upd H4 D (.lst ys) c=some (.tup (cs.map V.str)):=by rw [au (am ec4 hD)]; exact ec4
    have e4:upd H4 D (.lst ys) v=some (.tup (vs.map V.str)):=by rw [au (am ev4 hD)]; exact ev4
    refine ⟨_,rfl,_,rfl,_,.inr (.inl ⟨_,SqT.of e3,rfl⟩),?_⟩
    by_cases hcs:cs=[]
    ·rw [if_pos hcs] at hp
     have he:(!(cs.map V.str).isEmpty)=false:=by rw [hcs]; rfl
     rw [he]
     exact aN ⟨_,rfl,v,_,rfl,.inr (SqT.of e4),rfl,bq vs,_,rfl,hp⟩
    ·rw [if_neg hcs] at hp
     have he:(!(cs.map V.str).isEmpty)=true:=by
      rw [Bool.not_eq_true',List.isEmpty_eq_false_iff]
      exact fun z=>hcs (List.map_eq_nil_iff.mp z)
     rw [he]
     exact aQ ⟨c,_,rfl,.inr (SqT.of e3),rfl,bq cs,_,rfl,hp⟩
   rw [cY]
   have hos:∀ x ∈ zs.filter (fun x=>!decide (x ∈ (if cs=[] then vs else cs))),x ∈ zs /\ x ∉ (if cs=[] then vs else cs):=fun x hx=>by
    obtain ⟨h1,h2⟩:=List.mem_filter.mp hx
    exact ⟨h1,fun hm=>by rw [decide_eq_true hm] at h2; cases h2⟩
   have hon:(zs.filter (fun x=>!decide (x ∈ (if cs=[] then vs else cs)))).Nodup:=hzn.filter _
   have hol:(zs.filter (fun x=>!decide (x ∈ (if cs=[] then vs else cs)))).length <= zs.length:=List.length_filter_le _ _
   generalize zs.filter (fun x=>!decide (x ∈ (if cs=[] then vs else cs)))=os at hos hon hol ⊢
   have s5:=aA.new (o:=.lst (os.map V.str)) hD
   have e5:upd H4 D (.lst (os.map V.str)) D=some (.lst (os.map V.str)):=ar
   generalize upd H4 D (.lst (os.map V.str))=H5 at s5 e5 ⊢
   have DR:D ≠ R:=r4.ne hD
   refine ⟨_,rfl,_,rfl,_,rfl,_,rfl,R,D,os,0,4,rfl,r4.same s5,e5,DR,hon,by omega,by decide,by decide,by omega,by decide,fun l ls H6 nl6 el hlr hlz l0 l4 r6 b6=>?_⟩
   refine ⟨(by show 3 <= sizeLine; decide),fun b H7 nb s7 eb=>?_⟩
   have b06:=(b04.trans (aR.of s5)).trans b6
   refine q b vs cs ls H7 (dm b06 nb (r6.ne nb)) ⟨⟨v,c,l,eb,s7 _ _ (b6 _ _ vR (s5 _ _ ev4)),s7 _ _ (b6 _ _ cR (s5 _ _ ec4)),s7 _ _ el⟩,hvr,hcr,hlr,by omega,by omega,c7',by omega,fun x hx=>(hos x (hlz x hx)).2⟩ hvz hcz (fun x hx=>(hos x (hlz x hx)).1) (r6.same s7) (b06.trans (aR.of s7))
  ·have hnl3:=b03 _ _ hnR hnl
   have ec3':H3 c0=some (.tup (([]:List Str).map V.str)):=ec3
   refine ⟨_,rfl,nl,rfl,⟨_,SqL.of hnl3⟩,?_⟩
   refine p8 (fun u=>!inV u ((if ([]:List Str)=[] then vs else ([]:List Str)).map V.str)) rfl (SqL.of hnl3) (by rw [List.length_map]; omega) (fun D x ys post hD hx hp=>?_) (fun D hD=>?_)
   ·obtain ⟨z,hz,rfl⟩:=List.mem_map.mp hx
    have e3:upd H3 D (.lst ys) c0=some (.tup (([]:List Str).map V.str)):=by rw [au (am ec3' hD)]; exact ec3'
    have e4:upd H3 D (.lst ys) v=some (.tup (vs.map V.str)):=by rw [au (am ev3 hD)]; exact ev3
    refine ⟨_,rfl,_,rfl,_,.inr (.inl ⟨_,SqT.of e3,rfl⟩),?_⟩
    by_cases hcs:([]:List Str)=[]
    ·rw [if_pos hcs] at hp
     have he:(!(([]:List Str).map V.str).isEmpty)=false:=by rw [hcs]; rfl
     rw [he]
     exact aN ⟨_,rfl,v,_,rfl,.inr (SqT.of e4),rfl,bq vs,_,rfl,hp⟩
    ·rw [if_neg hcs] at hp
     have he:(!(([]:List Str).map V.str).isEmpty)=true:=by
      rw [Bool.not_eq_true',List.isEmpty_eq_false_iff]
      exact fun z=>hcs (List.map_eq_nil_iff.mp z)
     rw [he]
     exact aQ ⟨c0,_,rfl,.inr (SqT.of e3),rfl,bq ([]:List Str),_,rfl,hp⟩
   rw [cY]
   have hos:∀ x ∈ zs.filter (fun x=>!decide (x ∈ (if ([]:List Str)=[] then vs else ([]:List Str)))),x ∈ zs /\ x ∉ (if ([]:List Str)=[] then vs else ([]:List Str)):=fun x hx=>by
    obtain ⟨h1,h2⟩:=List.mem_filter.mp hx
    exact ⟨h1,fun hm=>by rw [decide_eq_true hm] at h2; cases h2⟩
   have hon:(zs.filter (fun x=>!decide (x ∈ (if ([]:List Str)=[] then vs else ([]:List Str))))).Nodup:=hzn.filter _
   have hol:(zs.filter (fun x=>!decide (x ∈ (if ([]:List Str)=[] then vs else ([]:List Str))))).length <= zs.length:=List.length_filter_le _ _
   generalize zs.filter (fun x=>!decide (x ∈ (if ([]:List Str)=[] then vs else ([]:List Str))))=os at hos hon hol ⊢
   have s5:=aA.new (o:=.lst (os.map V.str)) hD
   have e5:upd H3 D (.lst (os.map V.str)) D=some (.lst (os.map V.str)):=ar
   generalize upd H3 D (.lst (os.map V.str))=H5 at s5 e5 ⊢
   have DR:D ≠ R:=r3.ne hD
   refine ⟨_,rfl,_,rfl,_,rfl,_,rfl,R,D,os,0,4,rfl,r3.same s5,e5,DR,hon,by omega,by decide,by decide,by omega,by decide,fun l ls H6 nl6 el hlr hlz l0 l4 r6 b6=>?_⟩
   refine ⟨(by show 3 <= sizeLine; decide),fun b H7 nb s7 eb=>?_⟩
   have b06:=(b03.trans (aR.of s5)).trans b6
   refine q b vs ([]:List Str) ls H7 (dm b06 nb (r6.ne nb)) ⟨⟨v,c0,l,eb,s7 _ _ (b6 _ _ vR (s5 _ _ ev3)),s7 _ _ (b6 _ _ cR0 (s5 _ _ ec3')),s7 _ _ el⟩,hvr,List.Pairwise.nil,hlr,by omega,by omega,(by simp),by omega,fun x hx=>(hos x (hlz x hx)).2⟩ hvz (fun x hx=>absurd hx (by simp)) (fun x hx=>(hos x (hlz x hx)).1) (r6.same s7) (b06.trans (aR.of s7))
end
def cnt (ps xs:List Str):Nat:=(ps.filter fun p=>decide (p ∈ xs)).length
def cy (ps xs:List Str):Bool:=decide (ps.length < 2 * cnt ps xs)
def bF (vs cs xs:List Str):Bool:=cy vs xs && (decide (cs=[]) || cy cs xs)
theorem qz {ps xs ys:List Str} (h:∀ x ∈ xs,x ∈ ys):cnt ps xs <= cnt ps ys:=by
 unfold cnt
 induction ps with
 | nil=>exact Nat.le_refl _
 | cons p r ih =>
  rw [List.filter_cons,List.filter_cons]
  by_cases h1:p ∈ xs
  ·rw [if_pos (decide_eq_true h1),if_pos (decide_eq_true (h p h1)),List.length_cons,List.length_cons]
   omega
  ·rw [if_neg (by simp [h1])]
   split
   ·rw [List.length_cons]; omega
   ·exact ih
theorem eP {ps xs ys:List Str} (h:∀ x ∈ xs,x ∈ ys) (e:cy ps xs=true):cy ps ys=true:=by
 have:=qz (ps:=ps) h
 have e:=of_decide_eq_true e
 exact decide_eq_true (by omega)
theorem lD {vs cs xs ys:List Str} (h:∀ x ∈ xs,x ∈ ys) (e:bF vs cs xs=true):bF vs cs ys=true:=by
 unfold bF at *
 rw [Bool.and_eq_true,Bool.or_eq_true] at *
 refine ⟨eP h e.1,?_⟩
 rcases e.2 with e2 | e2
 ·exact .inl e2
 ·exact .inr (eP h e2)
theorem cnt_all {ps xs:List Str} (h:∀ p ∈ ps,p ∈ xs):cnt ps xs=ps.length:=by
 unfold cnt
 rw [List.filter_eq_self.mpr fun p hp=>decide_eq_true (h p hp)]
def jL:Sp:=fun us H Q _=>∃ (b t:Addr) (vs cs ls xs:List Str),us=[.ref b,.ref t] /\ bI H b vs cs ls /\ H t=some (.tup (xs.map V.str)) /\ xs.length <= 100 /\ ∀ H',aA H H' -> Q (.bl (bF vs cs xs)) H'
abbrev cM:Stmt:=top 27
abbrev ij:Stmt:=top 28
abbrev ja:Stmt:=top 29
def cj:Sp:=fun us H Q _=>∃ (b v c l:Addr) (cs:List Str),us=[.ref b] /\ H b=some (.tup [.ref v,.ref c,.ref l]) /\ H c=some (.tup (cs.map V.str)) /\ Q (.bl (decide (0 < cs.length))) H
def lE:Sp:=fun us H Q _=>∃ (p t:Addr) (ps xs:List Str),us=[.ref p,.ref t] /\ H p=some (.tup (ps.map V.str)) /\ H t=some (.tup (xs.map V.str)) /\ ps.length <= 100 /\ ∀ H',aA H H' -> Q (.bl (cy ps xs)) H'
theorem ndM:((["side","names"]:List Str) ++ (["name"]:List Str)).Nodup:=by decide +kernel
theorem jM (n:Nat):decide ((0:Int) < (n:Int))=decide (0 < n):=by
 rw [Bool.eq_iff_iff,decide_eq_true_iff,decide_eq_true_iff]
 omega
theorem most_is (ps xs:List Str):decide ((ps.length:Int) < 2 * (((ps.filter fun p=>decide (p ∈ xs)).length:Nat):Int))=cy ps xs:=by
 unfold cy cnt
 rw [Bool.eq_iff_iff,decide_eq_true_iff,decide_eq_true_iff]
 omega
section
variable {P:Program} {w:World} {K:PySem.W.Frag} {mg:Str -> Option Value} {base:Heap}
theorem ik:aH ["bench"] ["bench"] (ai cM):=fsc (by decide +kernel)
theorem gd {f:Addr} {fd:FuncData} (F:Fun K "is_joined" "is_joined" cM f fd) (hlen:mg "len"=none):a7 P w K mg base CX0 1 f fd ["bench"] cj:=by
 refine F.ok ik (fun us H Q E h=>?_) (fun cdv A outer s H us Q E hr h=>?_)
 ·obtain ⟨b,v,c,l,cs,rfl,_⟩:=h
  rfl
 ·obtain ⟨b,v,c,l,cs,rfl,hb,hc,q⟩:=h
  refine ⟨_,ak <| ay <| ba fz (aq ao (by rfl) hlen PySem.boot_len (ad (ax aw (pv 0) ag (fun _ _=>rfl)) af)) ag (aB _),?_⟩
  refine ⟨_,rfl,b,_,_,_,rfl,rfl,SqT.of hb,at1,c,_,rfl,.inr (SqT.of hc),_,_,rfl,rfl,?_⟩
  rw [List.length_map]
  show Q (.bl (decide ((0:Int) < (cs.length:Int)))) H
  rw [jM]
  exact q
theorem scMost:aH ["side","names"] ["side","names"] (ai ij):=fsc (by decide +kernel)
theorem ok_most {f:Addr} {fd:FuncData} (F:Fun K "is_most" "is_most" ij f fd) (hlen:mg "len"=none):a7 P w K mg base CX0 1 f fd ["side","names"] lE:=by
 refine F.ok scMost (fun us H Q E h=>?_) (fun cdv A outer s H us Q E hr h=>?_)
 ·obtain ⟨p,t,ps,xs,rfl,_⟩:=h
  rfl
 ·obtain ⟨p,t,ps,xs,rfl,hp,ht,hl,q⟩:=h
  refine ⟨_,ak <| ay <| ba fz (aO gX ag (aq ao (by rfl) hlen PySem.boot_len (ad
    (cE ["side","names"] ["side","names"] ["name"] (ai ij) rfl rfl rfl (by decide +kernel) rfl rfl (by decide +kernel) (by decide +kernel) (by decide +kernel) (by decide +kernel)
     (db (pv 0)) (fun _ _ _ _ _=>aJ (i:=2) ndM rfl (Or.inl rfl)) (fun _ _ _ _ _=>dE (az dG (pv 2) (pv 1) (by rfl))) (fun _ _ _ _ _=>pv 2)) af)))
   (aq ao (by rfl) hlen PySem.boot_len (ad (pv 0) af)) (aB _),?_⟩
  refine ⟨_,rfl,p,rfl,⟨_,SqT.of hp⟩,?_⟩
  refine lcFU (fun u=>inV u (xs.map V.str)) rfl hp (by rw [List.length_map]; omega) (fun D x ys post hD hx hpost=>?_) (fun D hD=>?_)
  ·obtain ⟨z,hz,rfl⟩:=List.mem_map.mp hx
   have e3:upd H D (.lst ys) t=some (.tup (xs.map V.str)):=by rw [au (am ht hD)]; exact ht
   exact ⟨_,rfl,_,rfl,t,_,rfl,.inr (SqT.of e3),rfl,bq xs,_,rfl,hpost⟩
  rw [eM]
  have s5:=aA.new (o:=.lst ((ps.filter fun x=>decide (x ∈ xs)).map V.str)) hD
  have e5:upd H D (.lst ((ps.filter fun x=>decide (x ∈ xs)).map V.str)) D=some (.lst ((ps.filter fun x=>decide (x ∈ xs)).map V.str)):=ar
  generalize upd H D (.lst ((ps.filter fun x=>decide (x ∈ xs)).map V.str))=H5 at s5 e5 ⊢
  refine ⟨D,_,rfl,.inl (SqL.of e5),2,_,rfl,rfl,.inl (by decide),_,rfl,p,_,rfl,.inr (SqT.of (s5 _ _ hp)),_,_,rfl,rfl,?_⟩
  rw [List.length_map,List.length_map]
  show Q (.bl (decide ((ps.length:Int) < 2 * (((ps.filter fun p=>decide (p ∈ xs)).length:Nat):Int)))) H5
  rw [most_is]
  exact q H5 s5
theorem scHalf:aH ["bench","names"] ["bench","names"] (ai ja):=fsc (by decide +kernel)
theorem ok_half {f:Addr} {fd:FuncData} (F:Fun K "is_half" "is_half" ja f fd) (Fj:aL P w K mg base 1 "is_joined" ["bench"] cj) (Fm:aL P w K mg base 1 "is_most" ["side","names"] lE):a7 P w K mg base CX0 2 f fd ["bench","names"] jL:=by
 refine F.ok scHalf (fun us H Q E h=>?_) (fun cdv A outer s H us Q E hr h=>?_)
 ·obtain ⟨b,t,vs,cs,ls,xs,rfl,_⟩:=h
  rfl
 ·obtain ⟨b,t,vs,cs,ls,xs,rfl,⟨⟨v,c,l,hb,hv,hc,hl⟩,_,_,_,v1,v7,c7,_,_⟩,ht,hxl,q⟩:=h
  refine ⟨_,ah (aT (PW.pt (c9 (aW (aj Fj hr (ad (pv 0) af))) (cL (bg (aW (aj Fm hr (ad (ax aw (pv 0) ag (fun _ _=>rfl)) (ad (pv 1) af)))))))) (ak (ay bE)) aE) <|
   ak <| ay <| aj Fm hr (ad (ax aw (pv 0) ag (fun _ _=>rfl)) (ad (pv 1) af)),?_⟩
  refine ⟨_,rfl,b,v,c,l,cs,rfl,hb,hc,_,rfl,?_⟩
  by_cases hcs:cs=[]
  ·have e:bF vs cs xs=cy vs xs:=by
    unfold bF
    rw [decide_eq_true hcs,Bool.true_or,Bool.and_true]
   rw [e] at q
   rw [decide_eq_false (show ¬ 0 < cs.length by rw [hcs]; simp)]
   refine aN (aN ?_)
   exact ⟨_,rfl,b,_,_,_,rfl,rfl,SqT.of hb,at0,_,rfl,v,t,vs,xs,rfl,hv,ht,by omega,q⟩
  ·rw [decide_eq_true (show 0 < cs.length from List.length_pos_iff.mpr hcs)]
   refine aQ ?_
   refine ⟨_,rfl,b,_,_,_,rfl,rfl,SqT.of hb,at1,_,rfl,c,t,cs,xs,rfl,hc,ht,by omega,fun H1 s1=>⟨_,rfl,?_⟩⟩
   have e:bF vs cs xs=(cy vs xs && cy cs xs):=by
    unfold bF
    rw [decide_eq_false hcs,Bool.false_or]
   rw [e] at q
   cases hh:cy cs xs with
   | false =>
    rw [hh,Bool.and_false] at q
    exact aQ (q H1 s1)
   | true =>
    rw [hh,Bool.and_true] at q
    refine aN ?_
    exact ⟨_,rfl,b,_,_,_,rfl,rfl,SqT.of (s1 _ _ hb),at0,_,rfl,v,t,vs,xs,rfl,s1 _ _ hv,s1 _ _ ht,by omega,fun H2 s2=>q H2 (s1.trans s2)⟩
end
abbrev oA:Stmt:=top 30
structure Bl2 (mg:Str -> Option Value):Prop where
 isi:mg "isinstance"=none
 str:mg "str"=none
 all:mg "all"=none
 any:mg "any"=none
 zip:mg "zip"=none
 set:mg "set"=none
 abc:∃ t,mg "SMALL_LETTERS"=some (.str ABC t)
 sev:∃ t,mg "MOST_SPEAKING"=some (.int 7 t)
 fou:∃ t,mg "MOST_LEARNERS"=some (.int 4 t)
theorem bAny:bootBuiltins "any"=some (.builtin "any"):=by decide +kernel
theorem at2 {α:Type} {a b c:α} {r:List α}:atI (a :: b :: c :: r) 2=some c:=aK (j:=2) rfl
def Nms (vs cs ls:List Str):Prop:=(∀ x ∈ vs,Nm x) /\ (∀ x ∈ cs,Nm x) /\ ∀ x ∈ ls,Nm x
def qA:Sp:=fun us H Q _=>∃ (b:Addr) (vs cs ls:List Str),us=[.ref b] /\ bI H b vs cs ls /\ cs ≠ [] /\ ∀ (t:Addr) (H':Hp),aA H H' -> bI H' t cs [] ls -> Q (.ref t) H'
section
variable {P:Program} {w:World} {K:PySem.W.Frag} {mg:Str -> Option Value} {base:Heap}
theorem scBeh:aH ["bench"] ["bench"] (ai oA):=fsc (by decide +kernel)
theorem ok_beh {f:Addr} {fd:FuncData} (F:Fun K "behind" "behind" oA f fd) (Fj:aL P w K mg base 1 "is_joined" ["bench"] cj):a7 P w K mg base CX0 2 f fd ["bench"] qA:=by
 refine F.ok scBeh (fun us H Q E h=>?_) (fun cdv A outer s H us Q E hr h=>?_)
 ·obtain ⟨b,vs,cs,ls,rfl,_⟩:=h
  rfl
 ·obtain ⟨b,vs,cs,ls,rfl,⟨⟨v,c,l,hb,hv,hc,hl⟩,vr,cr,lr,v1,v7,c7,l4,ap⟩,hcs,q⟩:=h
  refine ⟨_,ah (aT (bg (aW (aj Fj hr (ad (pv 0) af)))) (ak pA) aE) <|
   ak (ay (aG (ad (ax aw (pv 0) ag (fun _ _=>rfl)) (ad (aG af) (ad (ax aw (pv 0) ag (fun _ _=>rfl)) af))))),?_⟩
  refine ⟨_,rfl,b,v,c,l,cs,rfl,hb,hc,_,rfl,?_⟩
  rw [decide_eq_true (show 0 < cs.length from List.length_pos_iff.mpr hcs)]
  refine aN ⟨_,rfl,b,_,_,_,rfl,rfl,SqT.of hb,at1,Nat.zero_le _,fun t0 H1 n1 s1 e1=>?_⟩
  refine ⟨_,rfl,b,_,_,_,rfl,rfl,SqT.of (s1 _ _ hb),at2,(by show 3 <= sizeLine; decide),fun t H2 n2 s2 e2=>?_⟩
  exact q t H2 (s1.trans s2) ⟨⟨c,t0,l,e2,s2 _ _ (s1 _ _ hc),s2 _ _ e1,s2 _ _ (s1 _ _ hl)⟩,cr,List.Pairwise.nil,lr,List.length_pos_iff.mpr hcs,c7,Nat.zero_le _,l4,fun x hx=>by
   have:=ap x hx
   rw [if_neg hcs] at this
   rw [if_pos rfl]
   exact this⟩
end
end K84
namespace K84P
open PySem L2
def top (i:Nat):Stmt:=PySem.Challenge.pw_chainhouse_k84_whole_papers_looked_over.main.body.getD i (.Pass ⟨0,0,0,0⟩)
theorem cI:bootBuiltins "tuple"=some (.type "tuple"):=by decide +kernel
theorem bAbs:bootBuiltins "abs"=some (.builtin "abs"):=by decide +kernel
abbrev ABC:Str:=Str.ofString "abcdefghijklmnopqrstuvwxyz"
def okc (c:Nat):Bool:=!(Builtin.Str.occurrences ABC ⟨#[c]⟩ 0 ABC.length 1).isEmpty
structure Nm (x:Str):Prop where
 one:1 <= x.length
 eight:x.length <= 8
 ok:∀ c ∈ x.cps.toList,okc c=true
theorem at0 {α:Type} {a:α} {r:List α}:atI (a :: r) 0=some a:=aK (j:=0) rfl
theorem at1 {α:Type} {a b:α} {r:List α}:atI (a :: b :: r) 1=some b:=aK (j:=1) rfl
abbrev fj:Stmt:=top 18
abbrev gz:Stmt:=top 19
abbrev kz:Stmt:=top 26
abbrev cM:Stmt:=top 27
structure Blt (mg:Str -> Option Value):Prop where
 len:mg "len"=none
 list:mg "list"=none
 tuple:mg "tuple"=none
 sorted:mg "sorted"=none
theorem ei:bootBuiltins "isinstance"=some (.builtin "isinstance"):=by decide +kernel
theorem bStr:bootBuiltins "str"=some (.type "str"):=by decide +kernel
theorem oz:bootBuiltins "all"=some (.builtin "all"):=by decide +kernel
structure Bl2 (mg:Str -> Option Value):Prop where
 isi:mg "isinstance"=none
 str:mg "str"=none
 all:mg "all"=none
 any:mg "any"=none
 zip:mg "zip"=none
 set:mg "set"=none
 abc:∃ t,mg "SMALL_LETTERS"=some (.str ABC t)
 sev:∃ t,mg "MOST_SPEAKING"=some (.int 7 t)
 fou:∃ t,mg "MOST_LEARNERS"=some (.int 4 t)
theorem bAny:bootBuiltins "any"=some (.builtin "any"):=by decide +kernel
theorem at2 {α:Type} {a b c:α} {r:List α}:atI (a :: b :: c :: r) 2=some c:=aK (j:=2) rfl
def nmB:V -> Bool
 | .str x=>(decide (1 <= x.length) && decide (x.length <= 8)) && x.cps.toList.all okc
 | _=>false
theorem nmB_nm {x:Str} (h:nmB (.str x)=true):Nm x:=by
 have h:((decide (1 <= x.length) && decide (x.length <= 8)) && x.cps.toList.all okc)=true:=h
 simp only [Bool.and_eq_true,decide_eq_true_iff] at h
 exact ⟨h.1.1,h.1.2,List.all_eq_true.mp h.2⟩
theorem ge {x:Str} (h:Nm x):nmB (.str x)=true:=by
 show ((decide (1 <= x.length) && decide (x.length <= 8)) && x.cps.toList.all okc)=true
 simp only [Bool.and_eq_true,decide_eq_true_iff]
 exact ⟨⟨h.one,h.eight⟩,List.all_eq_true.mpr h.ok⟩
theorem nmB_mid {x:Str} (h1:1 <= x.length) (h2:x.length <= 8):nmB (.str x)=x.cps.toList.all okc:=by
 show ((decide (1 <= x.length) && decide (x.length <= 8)) && x.cps.toList.all okc)=_
 rw [decide_eq_true h1,decide_eq_true h2]
 rfl
theorem oB {x:Str} (h:¬ 1 <= x.length):nmB (.str x)=false:=by
 show ((decide (1 <= x.length) && decide (x.length <= 8)) && x.cps.toList.all okc)=_
 rw [decide_eq_false h]
 rfl
theorem qB {x:Str} (h:¬ x.length <= 8):nmB (.str x)=false:=by
 show ((decide (1 <= x.length) && decide (x.length <= 8)) && x.cps.toList.all okc)=_
 rw [decide_eq_false h,Bool.and_false]
 rfl
def Im (H:Hp) (x:V):Prop:=Th1 H x /\ ∀ z,x=.str z -> z.length <= 100
theorem Im.same {H H':Hp} {x:V} (e:aA H H') (h:Im H x):Im H' x:=⟨h.1.same e,h.2⟩
theorem Im.str {H:Hp} {x:Str} (h:x.length <= 100):Im H (.str x):=⟨.inl rfl,fun z e=>by cases e; exact h⟩
theorem Im.nm {H:Hp} {x:Str} (h:Nm x):Im H (.str x):=Im.str (by have:=h.eight; omega)
theorem il:∀ {xs:List V},xs.all nmB=true -> ∃ zs:List Str,xs=zs.map V.str /\ ∀ z ∈ zs,Nm z
 | [],_=>⟨[],rfl,by simp⟩
 | x :: r,h=>by
  rw [List.all_cons,Bool.and_eq_true] at h
  obtain ⟨zs,rfl,hz⟩:=il h.2
  cases x with
  | str z=>exact ⟨z :: zs,rfl,fun y hy=>by
    rcases List.mem_cons.mp hy with rfl | hy
    ·exact nmB_nm h.1
    ·exact hz y hy⟩
  | _=>exact absurd h.1 (by simp [nmB])
theorem oC {zs:List Str} (h:∀ z ∈ zs,Nm z):(zs.map V.str).all nmB=true:=by
 rw [List.all_map]
 exact List.all_eq_true.mpr fun z hz=>ge (h z hz)
def txs:List V -> List Str
 | []=>[]
 | .str z :: r=>z :: txs r
 | _ :: r=>txs r
theorem cB:∀ zs:List Str,txs (zs.map V.str)=zs
 | []=>rfl
 | z :: r=>by show z :: txs (r.map V.str)=_; rw [cB r]
def adj:List Str -> Bool
 | a :: b :: r=>decide (a.cps.toList < b.cps.toList) && adj (b :: r)
 | _=>true
theorem lt_of {x y:Str} (h:ltS x y):x.cps.toList < y.cps.toList:=by
 refine Classical.byContradiction fun hn=>h.2 ?_
 have h2:leS y x:=by
  unfold leS
  rw [PyProof.Rows.ltCps_eq,decide_eq_false_iff_not]
  exact hn
 exact qd h.1 h2
theorem qC:∀ {zs:List Str},zs.Pairwise ltS -> adj zs=true
 | [],_=>rfl
 | [a],_=>rfl
 | a :: b :: r,h=>by
  show (decide (a.cps.toList < b.cps.toList) && adj (b :: r))=true
  rw [decide_eq_true (lt_of ((List.pairwise_cons.mp h).1 b (by simp))),qC (List.pairwise_cons.mp h).2]
  rfl
theorem mR:∀ zs:List Str,(((zs.zip (zs.drop 1)).map fun p=>decide (p.1.cps.toList < p.2.cps.toList)).all id)=adj zs
 | []=>rfl
 | [a]=>rfl
 | a :: b :: r=>by
  have ih:=mR (b :: r)
  show ((decide (a.cps.toList < b.cps.toList)) && ((((b :: r).zip ((b :: r).drop 1)).map fun p=>decide (p.1.cps.toList < p.2.cps.toList)).all id))=_
  rw [ih]
  rfl
theorem eA {K:PySem.W.Frag} {H:Hp} {x:V} {k:String} (h:Kd H x k) (hk:k ≠ "tuple"):PySem.W.kitOne K (.type k) (.type "tuple")=some false:=by
 cases h with
 | non=>exact jC rfl (Kd.non (H:=H))
 | bl b=>exact jC rfl (Kd.bl (H:=H) b)
 | int i=>exact jC rfl (Kd.int (H:=H) i)
 | str z=>exact jC rfl (Kd.str (H:=H) z)
 | lst h=>exact kit_lt
 | tup h=>exact absurd rfl hk
theorem Kd.same {H H':Hp} {x:V} {k:String} (e:aA H H') (h:Kd H x k):Kd H' x k:=by
 cases h with
 | non=>exact .non
 | bl b=>exact .bl b
 | int i=>exact .int i
 | str z=>exact .str z
 | lst h =>
  rcases h with h | ⟨o,h⟩
  ·exact .lst (.inl (e _ _ h))
  ·exact .lst (.inr ⟨o,e _ _ h⟩)
 | tup h =>
  rcases h with h | ⟨o,h⟩
  ·exact .tup (.inl (e _ _ h))
  ·exact .tup (.inr ⟨o,e _ _ h⟩)
inductive gf (H:Hp):V -> Option (List V) -> Prop
 | no {x:V} {k:String}:Kd H x k -> k ≠ "tuple" -> gf H x none
 | tup {a:Addr} {xs:List V}:H a=some (.tup xs) -> xs.length <= 60 -> (∀ x ∈ xs,Im H x) -> gf H (.ref a) (some xs)
theorem gf.same {H H':Hp} {x:V} {o:Option (List V)} (e:aA H H') (h:gf H x o):gf H' x o:=by
 cases h with
 | no h hk=>exact .no (Kd.same e h) hk
 | tup h hl hi=>exact .tup (e _ _ h) hl fun x hx=>(hi x hx).same e
abbrev Tr:=Option (Option (List V) × Option (List V) × Option (List V))
inductive jN (H:Hp):V -> Tr -> Prop
 | no {x:V} {k:String}:Kd H x k -> k ≠ "tuple" -> jN H x none
 | odd {a:Addr} {ps:List V}:H a=some (.tup ps) -> ps.length <= 60 -> ps.length ≠ 3 -> jN H (.ref a) none
 | tri {a:Addr} {p0 p1 p2:V} {o0 o1 o2:Option (List V)}:H a=some (.tup [p0,p1,p2]) -> gf H p0 o0 -> gf H p1 o1 -> gf H p2 o2 -> jN H (.ref a) (some (o0,o1,o2))
theorem jN.same {H H':Hp} {x:V} {o:Tr} (e:aA H H') (h:jN H x o):jN H' x o:=by
 cases h with
 | no h hk=>exact .no (Kd.same e h) hk
 | odd h hl hi=>exact .odd (e _ _ h) hl hi
 | tri h h0 h1 h2=>exact .tri (e _ _ h) (h0.same e) (h1.same e) (h2.same e)
def a8:Option (List V) -> Bool
 | some xs=>xs.all nmB && adj (txs xs)
 | none=>false
def oE:Option (List V) -> List Str
 | some xs=>txs xs
 | none=>[]
def com (vs cs ls:List Str):Bool:=ls.any fun x=>decide (x ∈ (if cs=[] then vs else cs))
def jO (vs cs ls:List Str):Bool:=(((decide (1 <= vs.length) && decide (vs.length <= 7)) && decide (cs.length <= 7)) && decide (ls.length <= 4)) && !com vs cs ls
def bnB:Tr -> Bool
 | some (a,b,c)=>((a8 a && a8 b) && a8 c) && jO (oE a) (oE b) (oE c)
 | none=>false
theorem im {H:Hp} {p:V} {o:Option (List V)} (h:gf H p o) (hr:a8 o=true):∃ (a:Addr) (zs:List Str),p=.ref a /\ H a=some (.tup (zs.map V.str)) /\ o=some (zs.map V.str) /\ zs.length <= 60 /\ (∀ z ∈ zs,Nm z) /\ adj zs=true:=by
 cases h with
 | no h hk=>cases hr
 | @tup a xs h hl hi =>
  have hr:(xs.all nmB && adj (txs xs))=true:=hr
  rw [Bool.and_eq_true] at hr
  obtain ⟨zs,rfl,hz⟩:=il hr.1
  have h2:=hr.2
  rw [cB] at h2
  rw [List.length_map] at hl
  exact ⟨a,zs,rfl,h,rfl,hl,hz,h2⟩
theorem rise_of {zs:List Str} (hz:∀ z ∈ zs,Nm z) (ha:adj zs=true):a8 (some (zs.map V.str))=true:=by
 show ((zs.map V.str).all nmB && adj (txs (zs.map V.str)))=true
 rw [oC hz,cB,ha]
 rfl
def lF:Sp:=fun us H Q _=>∃ x:V,us=[x] /\ Im H x /\ ∀ H',aA H H' -> Q (.bl (nmB x)) H'
def io:Sp:=fun us H Q _=>∃ (x:V) (o:Option (List V)),us=[x] /\ gf H x o /\ ∀ H',aA H H' -> Q (.bl (a8 o)) H'
def cj:Sp:=fun us H Q _=>∃ (b v c l:Addr) (cs:List Str),us=[.ref b] /\ H b=some (.tup [.ref v,.ref c,.ref l]) /\ H c=some (.tup (cs.map V.str)) /\ Q (.bl (decide (0 < cs.length))) H
def kA:Sp:=fun us H Q _=>∃ (x:V) (o:Tr),us=[x] /\ jN H x o /\ ∀ H',aA H H' -> Q (.bl (bnB o)) H'
theorem cut1 (zs:List Str):cH (zs.map V.str) (some 1) none=(zs.drop 1).map V.str:=by
 unfold cH
 rw [List.length_map,HT.dY,show HT.sIx zs.length 0 (some 1)=min 1 zs.length from HT.dD _ _ 1,List.map_drop,<- List.map_drop,<- List.map_drop]
 by_cases h:1 <= zs.length
 ·rw [Nat.min_eq_left h,List.take_of_length_le (by rw [List.length_map,List.length_drop]; omega)]
 ·rw [Nat.min_eq_right (by omega),List.drop_of_length_le (Nat.le_refl _),List.drop_of_length_le (by omega)]
  simp
theorem all_okc (xs:List Nat):(xs.map okc).all id=xs.all okc:=by rw [List.all_map]; rfl
theorem bls_okc (xs:List Nat):xs.map (fun c=>V.bl (okc c))=(xs.map okc).map V.bl:=by rw [List.map_map]; rfl
theorem bls_nm (xs:List V):xs.map (fun c=>V.bl (nmB c))=(xs.map nmB).map V.bl:=by rw [List.map_map]; rfl
theorem all_nm (xs:List V):(xs.map nmB).all id=xs.all nmB:=by rw [List.all_map]; rfl
theorem jM (n:Nat):decide ((0:Int) < (n:Int))=decide (0 < n):=by
 rw [Bool.eq_iff_iff,decide_eq_true_iff,decide_eq_true_iff]
 omega
def ltV:V -> V -> Bool
 | .str a,.str b=>decide (a.cps.toList < b.cps.toList)
 | _,_=>false
theorem zip_lt (zs ys:List Str):((zs.map V.str).zip (ys.map V.str)).map (fun p=>V.bl (ltV p.1 p.2))=((zs.zip ys).map fun p=>decide (p.1.cps.toList < p.2.cps.toList)).map V.bl:=by
 rw [List.zip_map,List.map_map,List.map_map]
 rfl
section
variable {P:Program} {w:World} {K:PySem.W.Frag} {mg:Str -> Option Value} {base:Heap}
theorem scPName:aH ["thing"] ["thing"] (ai fj):=fsc (by decide +kernel)
theorem ndSign:((["thing"]:List Str) ++ (["sign"]:List Str)).Nodup:=by decide +kernel
theorem qD {f:Addr} {fd:FuncData} (F:Fun K "is_name" "is_name" fj f fd) (B:Blt mg) (T:Bl2 mg):a7 P w K mg base CX0 1 f fd ["thing"] lF:=by
 refine F.ok scPName (fun vs H Q E h=>?_) (fun cdv A outer s H vs Q E hr h=>?_)
 ·obtain ⟨v,rfl,_⟩:=h
  rfl
 ·obtain ⟨v,rfl,hI,q⟩:=h
  obtain ⟨tA,hA⟩:=T.abc
  refine ⟨_,ah (aT (PW.pt (bv (bg (aW (aq bM (by rfl) T.isi ei (ad (pv 0) (ad (bR (v:=.ty "str") (by rfl) T.str bStr rfl) af))))) <|
    bv (az gr (aq fF (by rfl) B.len PySem.boot_len (ad (pv 0) af)) ag (aB _)) <|
    bJ (az fz (aq fF (by rfl) B.len PySem.boot_len (ad (pv 0) af)) ag (aB _)))) (ak (ay bE)) aE) <|
   ak <| ay <| aq (dl rfl) (by rfl) T.all oz (ad (cE ["thing"] ["thing"] ["sign"] (ai fj) rfl rfl rfl (by decide +kernel) rfl rfl (by decide +kernel) (by decide +kernel) (by decide +kernel) (by decide +kernel)
    (pU (pv 0)) (fun _ _ _ _ _=>aJ (i:=1) ndSign rfl (Or.inl rfl)) (fun _ _ _ _ _=>bU)
    (fun _ _ _ _ _=>ba nP (pv 1) (bG (v:=.str ABC) (by rfl) hA ⟨tA,rfl⟩) (by rfl))) af),?_⟩
  obtain ⟨k,hk⟩:=hI.1.kd
  refine ⟨_,rfl,_,_,_,_,rfl,hk,kit_str hk,_,rfl,?_⟩
  cases v with
  | str x =>
   have hx:=hI.2 x rfl
   have hz:x.length <= sizeLine:=Nat.le_of_lt (bz (by omega))
   refine aN ?_
   refine ⟨_,rfl,x,rfl,hz,_,_,rfl,rfl,_,rfl,bD (fun z=>?_) (fun z1=>?_)⟩
   ·have z:=of_decide_eq_true z
    rw [oB (by omega)] at q
    exact aQ (q H (aA.refl H))
   have z1:¬ (((x.length:Nat):Int) < 1):=fun y=>z1 (decide_eq_true y)
   refine ⟨_,rfl,x,rfl,hz,_,_,rfl,rfl,_,rfl,bD (fun z=>?_) (fun z2=>?_)⟩
   ·have z:=of_decide_eq_true z
    rw [qB (by omega)] at q
    exact q H (aA.refl H)
   have z2:¬ ((8:Int) < ((x.length:Nat):Int)):=fun y=>z2 (decide_eq_true y)
   rw [nmB_mid (by omega) (by omega)] at q
   refine ⟨_,rfl,x,rfl,?_⟩
   refine lcT (fun c=>V.bl (okc c)) rfl (show x.length <= 1000 by omega) (fun D c ys post hD hp=>?_) (fun D hD=>?_)
   ·exact ⟨_,rfl,_,_,rfl,rfl,hp⟩
   ·rw [bls_okc]
    refine ⟨D,_,rfl,SqL.of ar,?_⟩
    rw [all_okc]
    exact q _ (aA.new hD)
  | _=>exact aQ (aQ (q H (aA.refl H)))
theorem scRise:aH ["thing"] ["thing"] (ai gz):=fsc (by decide +kernel)
theorem ndPart:((["thing"]:List Str) ++ (["part"]:List Str)).Nodup:=by decide +kernel
theorem ndTwo:((["thing"]:List Str) ++ (["name","following"]:List Str)).Nodup:=by decide +kernel
theorem ok_rise {f:Addr} {fd:FuncData} (F:Fun K "is_rising_names" "is_rising_names" gz f fd) (B:Blt mg) (T:Bl2 mg) (Fn:aL P w K mg base 1 "is_name" ["thing"] lF):a7 P w K mg base CX0 2 f fd ["thing"] io:=by
 refine F.ok scRise (fun vs H Q E h=>?_) (fun cdv A outer s H vs Q E hr h=>?_)
 ·obtain ⟨t,xs,rfl,_⟩:=h
  rfl
 ·obtain ⟨x,o,rfl,hP,q⟩:=h
  refine ⟨_,ah (aT (PW.pt (bv (bg (aW (aq bM (by rfl) T.isi ei (ad (pv 0) (ad (bR (v:=.ty "tuple") (by rfl) B.tuple cI rfl) af))))) <|
    bJ (bg (aW (aq (dl rfl) (by rfl) T.all oz (ad (cE ["thing"] ["thing"] ["part"] (ai gz) rfl rfl rfl (by decide +kernel) rfl rfl (by decide +kernel) (by decide +kernel) (by decide +kernel) (by decide +kernel)
     (db (pv 0)) (fun _ _ _ _ _=>aJ (i:=1) ndPart rfl (Or.inl rfl)) (fun _ _ _ _ _=>bU) (fun _ _ _ _ _=>aj (X:=cxC _ _ _ _ _ _ _ _ _) Fn hr (ad (pv 1) af))) af)))))) (ak (ay bE)) aE) <|
   ak <| ay <| aq (dl rfl) (by rfl) T.all oz (ad (cE ["thing"] ["thing"] ["name","following"] (ai gz) rfl rfl rfl (by decide +kernel) rfl rfl (by decide +kernel) (by decide +kernel) (by decide +kernel) (by decide +kernel)
     (pi_zipT (by rfl) T.zip (ad (pv 0) (ad (bf cz (pv 0) (bb ag) bN) af)))
     (fun _ _ _ _ _=>jF (n:=2) rfl (a9 (aJ (i:=1) ndTwo rfl (Or.inl rfl)) (a9 (aJ (i:=2) ndTwo rfl (Or.inl rfl)) dz))) (fun _ _ _ _ _=>bU)
     (fun _ _ _ _ _=>ba nM (pv 1) (pv 2) (by rfl))) af),?_⟩
  cases hP with
  | no hk ne=>exact ⟨_,rfl,_,_,_,false,rfl,hk,eA hk ne,_,rfl,aQ (aQ (q H (aA.refl H)))⟩
  | @tup t xs ht hl hi =>
   refine ⟨_,rfl,_,_,"tuple",true,rfl,Kd.tup (.inl ht),aV,_,rfl,aN ?_⟩
   refine ⟨_,rfl,t,rfl,⟨_,SqT.of ht⟩,?_⟩
   refine qg (fun x=>V.bl (nmB x)) rfl ht (by omega) (fun D x ys H1 post hD hx sm hDD hpost=>?_) (fun D H1 hD sm eD=>?_)
   ·exact ⟨_,rfl,x,rfl,(hi x hx).same sm,fun H' s'=>hpost H' s'⟩
   rw [bls_nm] at eD
   refine ⟨D,_,rfl,SqL.of eD,?_⟩
   rw [all_nm]
   cases hn:xs.all nmB with
   | false =>
    rw [show a8 (some xs)=false by show (xs.all nmB && adj (txs xs))=false; rw [hn]; rfl] at q
    exact ⟨_,rfl,aQ (q _ sm)⟩
   | true =>
    obtain ⟨zs,rfl,hz⟩:=il hn
    rw [show a8 (some (zs.map V.str))=adj zs by show ((zs.map V.str).all nmB && adj (txs (zs.map V.str)))=adj zs; rw [hn,cB]; rfl] at q
    refine ⟨_,rfl,aN ?_⟩
    refine ⟨_,rfl,_,rfl,_,rfl,t,_,rfl,sm _ _ ht,fun p H2 s2 ep=>?_⟩
    rw [cut1] at ep
    refine ⟨t,p,_,_,rfl,SqT.of (s2 _ _ (sm _ _ ht)),SqT.of ep,?_⟩
    refine lcZU (fun x y=>V.bl (ltV x y)) (s2 _ _ (sm _ _ ht)) ep (by omega) (fun p' x y Hx R hp' hR=>?_) (fun i x y Hx post hx hy sx hpost=>?_) (fun D2 H3 hD2 s3 e3=>?_)
    ·exact ⟨p',_,rfl,SqT.of hp',rfl,x,[y],rfl,y,[],rfl,rfl,hR⟩
    ·obtain ⟨a,_,rfl⟩:=List.mem_map.mp (List.mem_of_getElem? hx)
     obtain ⟨b,_,rfl⟩:=List.mem_map.mp (List.mem_of_getElem? hy)
     refine ⟨_,rfl,_,rfl,_,_,rfl,rfl,?_⟩
     exact hpost _ (aA.refl _)
    ·rw [zip_lt] at e3
     refine ⟨D2,_,rfl,SqL.of e3,?_⟩
     rw [mR]
     exact q _ ((sm.trans s2).trans s3)
theorem ik:aH ["bench"] ["bench"] (ai cM):=fsc (by decide +kernel)
theorem gd {f:Addr} {fd:FuncData} (F:Fun K "is_joined" "is_joined" cM f fd) (hlen:mg "len"=none):a7 P w K mg base CX0 1 f fd ["bench"] cj:=by
 refine F.ok ik (fun us H Q E h=>?_) (fun cdv A outer s H us Q E hr h=>?_)
 ·obtain ⟨b,v,c,l,cs,rfl,_⟩:=h
  rfl
 ·obtain ⟨b,v,c,l,cs,rfl,hb,hc,q⟩:=h
  refine ⟨_,ak <| ay <| ba fz (aq ao (by rfl) hlen PySem.boot_len (ad (ax aw (pv 0) ag (fun _ _=>rfl)) af)) ag (aB _),?_⟩
  refine ⟨_,rfl,b,_,_,_,rfl,rfl,SqT.of hb,at1,c,_,rfl,.inr (SqT.of hc),_,_,rfl,rfl,?_⟩
  rw [List.length_map]
  show Q (.bl (decide ((0:Int) < (cs.length:Int)))) H
  rw [jM]
  exact q
end
theorem bn_not3 {a b c:Option (List V)} (h:((a8 a && a8 b) && a8 c)=false):bnB (some (a,b,c))=false:=by
 show (((a8 a && a8 b) && a8 c) && jO (oE a) (oE b) (oE c))=false
 rw [h]
 rfl
theorem bn_fit {vs cs ls:List Str} (h:((a8 (some (vs.map V.str)) && a8 (some (cs.map V.str))) && a8 (some (ls.map V.str)))=true):bnB (some (some (vs.map V.str),some (cs.map V.str),some (ls.map V.str)))=jO vs cs ls:=by
 show (((a8 (some (vs.map V.str)) && a8 (some (cs.map V.str))) && a8 (some (ls.map V.str))) && jO (txs (vs.map V.str)) (txs (cs.map V.str)) (txs (ls.map V.str)))=_
 rw [h,cB,cB,cB]
 rfl
def ptO (H:Hp):V -> Option (List V)
 | .ref a=>match H a with
  | some (.tup xs)=>some xs
  | _=>none
 | _=>none
theorem gf.eq {H:Hp} {x:V} {o:Option (List V)} (h:gf H x o):ptO H x=o:=by
 cases h with
 | no h hk=>cases h with
  | non=>rfl
  | bl b=>rfl
  | int i=>rfl
  | str z=>rfl
  | lst h=>rcases h with h | ⟨_,h⟩ <;> simp [ptO,h]
  | tup h=>exact absurd rfl hk
 | tup h hl hi=>simp [ptO,h]
theorem mS {vs cs ls:List Str} (h1:1 <= vs.length) (h2:vs.length <= 7) (h3:cs.length <= 7) (h4:ls.length <= 4):jO vs cs ls=!com vs cs ls:=by
 unfold jO
 rw [decide_eq_true h1,decide_eq_true h2,decide_eq_true h3,decide_eq_true h4]
 rfl
theorem ip {vs cs ls:List Str} (h:vs.length < 1 \/ 7 < vs.length \/ 7 < cs.length \/ 4 < ls.length):jO vs cs ls=false:=by
 unfold jO
 rcases h with h | h | h | h
 ·rw [decide_eq_false (by omega)]; rfl
 ·rw [decide_eq_false (show ¬ vs.length <= 7 by omega),Bool.and_false]; rfl
 ·rw [decide_eq_false (show ¬ cs.length <= 7 by omega),Bool.and_false]; rfl
 ·rw [decide_eq_false (show ¬ ls.length <= 4 by omega),Bool.and_false]; rfl
theorem qG (ls vs:List Str):(ls.map V.str).map (fun x=>V.bl (inV x (vs.map V.str)))=(ls.map fun x=>decide (x ∈ vs)).map V.bl:=by
 rw [List.map_map,List.map_map]
 refine List.map_congr_left fun z _=>?_
 show V.bl (inV (.str z) (vs.map V.str))=V.bl (decide (z ∈ vs))
 rw [eK]
theorem mT (ls vs:List Str):(ls.map fun x=>decide (x ∈ vs)).any id=ls.any fun x=>decide (x ∈ vs):=by rw [List.any_map]; rfl
section
variable {P:Program} {w:World} {K:PySem.W.Frag} {mg:Str -> Option Value} {base:Heap}
abbrev lG:List Str:=["thing","speaking_then"]
theorem scIsB:aH lG ["thing"] (ai kz):=fsc (by decide +kernel)
theorem ndIsB1:(lG ++ (["part"]:List Str)).Nodup:=by decide +kernel
theorem ndIsB2:(lG ++ (["name"]:List Str)).Nodup:=by decide +kernel
theorem ok_isB {f:Addr} {fd:FuncData} (F:Fun K "is_bench" "is_bench" kz f fd) (B:Blt mg) (T:Bl2 mg) (Fr:aL P w K mg base 2 "is_rising_names" ["thing"] io) (Fj:aL P w K mg base 1 "is_joined" ["bench"] cj):a7 P w K mg base CX0 3 f fd ["thing"] kA:=by
 refine F.ok scIsB (fun us H Q E h=>?_) (fun cdv A outer s H us Q E hr h=>?_)
 ·obtain ⟨x,o,rfl,_⟩:=h
  rfl
 ·obtain ⟨x,o,rfl,hB,q⟩:=h
  obtain ⟨t7,h7⟩:=T.sev
  obtain ⟨t4,h4⟩:=T.fou
  have nd:=scIsB.nd
  have r1:aZ 1 _:=hr.mono (by decide)
  refine ⟨_,ah (aT (PW.pt (bv (bg (aW (aq bM (by rfl) T.isi ei (ad (pv 0) (ad (bR (v:=.ty "tuple") (by rfl) B.tuple cI rfl) af))))) <|
    bv (az gY (aq ao (by rfl) B.len PySem.boot_len (ad (pv 0) af)) ag (aB _)) <|
    bJ (bg (aW (aq (dl rfl) (by rfl) T.all oz (ad (cE lG lG ["part"] (ai kz) rfl rfl rfl (by decide +kernel) rfl rfl (by decide +kernel) (by decide +kernel) (by decide +kernel) (by decide +kernel)
     (db (pv 0)) (fun _ _ _ _ _=>aJ (i:=2) ndIsB1 rfl (Or.inl rfl)) (fun _ _ _ _ _=>bU) (fun _ _ _ _ _=>aj (X:=cxC _ _ _ _ _ _ _ _ _) Fr hr (ad (pv 2) af))) af)))))) (ak (ay bE)) aE) <|
   ah (aT (PW.pt (bv (az gr (aq ao (by rfl) B.len PySem.boot_len (ad (ax aw (pv 0) ag (fun _ _=>rfl)) af)) ag (aB _)) <|
    bv (az fz (aq ao (by rfl) B.len PySem.boot_len (ad (ax aw (pv 0) ag (fun _ _=>rfl)) af)) (bG (v:=.int 7) (by rfl) h7 ⟨t7,rfl⟩) (aB _)) <|
    bJ (az fz (aq ao (by rfl) B.len PySem.boot_len (ad (ax aw (pv 0) ag (fun _ _=>rfl)) af)) (bG (v:=.int 7) (by rfl) h7 ⟨t7,rfl⟩) (aB _)))) (ak (ay bE)) aE) <|
   ah (aD (i:=1) nd rfl (Or.inr rfl) (pz (aW (aj Fj r1 (ad (pv 0) af))) (ax aw (pv 0) ag (fun _ _=>rfl)) (ax aw (pv 0) ag (fun _ _=>rfl)))) <|
   ak <| ay <| bw (ba pF (aq ao (by rfl) B.len PySem.boot_len (ad (ax aw (pv 0) ag (fun _ _=>rfl)) af)) (bG (v:=.int 4) (by rfl) h4 ⟨t4,rfl⟩) (aB _))
    (bV (px (aq (iY rfl) (by rfl) T.any bAny (ad (cE lG lG ["name"] (ai kz) rfl rfl rfl (by decide +kernel) rfl rfl (by decide +kernel) (by decide +kernel) (by decide +kernel) (by decide +kernel)
     (db (ax aw (pv 0) ag (fun _ _=>rfl))) (fun _ _ _ _ _=>aJ (i:=2) ndIsB2 rfl (Or.inl rfl)) (fun _ _ _ _ _=>bU) (fun _ _ _ _ _=>ba dG (pv 2) (pv 1) (by rfl))) af)))),?_⟩
  cases hB with
  | no hk ne=>exact ⟨_,rfl,_,_,_,false,rfl,hk,eA hk ne,_,rfl,aQ (aQ (q H (aA.refl H)))⟩
  | @odd b ps hb hl n3 =>
   refine ⟨_,rfl,_,_,"tuple",true,rfl,Kd.tup (.inl hb),aV,_,rfl,aN ?_⟩
   refine ⟨_,rfl,b,_,rfl,.inr (SqT.of hb),rfl,_,rfl,?_⟩
   rw [show (!decide (V.int ((ps.length:Nat):Int)=V.int 3))=true by rw [decide_eq_false (fun e=>by injection e with e; omega)]; rfl]
   exact aQ (aQ (q H (aA.refl H)))
  | @tri b p0 p1 p2 o0 o1 o2 hb hp0 hp1 hp2 =>
   refine ⟨_,rfl,_,_,"tuple",true,rfl,Kd.tup (.inl hb),aV,_,rfl,aN ?_⟩
   refine ⟨_,rfl,b,_,rfl,.inr (SqT.of hb),rfl,_,rfl,pS rfl ?_⟩
   refine ⟨_,rfl,b,rfl,⟨_,SqT.of hb⟩,?_⟩
   refine qg (fun x=>V.bl (a8 (ptO H x))) rfl hb (by show 3 <= 1000; decide) (fun D x ys H1 post hD hx sm hDD hpost=>?_) (fun D H1 hD sm eD=>?_)
   ·simp only [List.mem_cons,List.not_mem_nil,or_false] at hx
    rcases hx with rfl | rfl | rfl
    ·rw [hp0.eq] at hpost
     exact ⟨_,rfl,_,o0,rfl,hp0.same sm,fun H' s'=>hpost H' s'⟩
    ·rw [hp1.eq] at hpost
     exact ⟨_,rfl,_,o1,rfl,hp1.same sm,fun H' s'=>hpost H' s'⟩
    ·rw [hp2.eq] at hpost
     exact ⟨_,rfl,_,o2,rfl,hp2.same sm,fun H' s'=>hpost H' s'⟩
   have e3:[p0,p1,p2].map (fun x=>V.bl (a8 (ptO H x)))=[a8 o0,a8 o1,a8 o2].map V.bl:=by
    show [V.bl (a8 (ptO H p0)),V.bl (a8 (ptO H p1)),V.bl (a8 (ptO H p2))]=_
    rw [hp0.eq,hp1.eq,hp2.eq]
    rfl
   rw [e3] at eD
   refine ⟨D,_,rfl,SqL.of eD,?_⟩
   rw [show [a8 o0,a8 o1,a8 o2].all id=((a8 o0 && a8 o1) && a8 o2) by simp [Bool.and_assoc]]
   cases h3:((a8 o0 && a8 o1) && a8 o2) with
   | false =>
    rw [bn_not3 h3] at q
    exact ⟨_,rfl,aQ (q _ sm)⟩
   | true =>
    have hh:=h3
    rw [Bool.and_eq_true,Bool.and_eq_true] at hh
    obtain ⟨v,vs,rfl,hv,rfl,vl,nv,av⟩:=im hp0 hh.1.1
    obtain ⟨c,cs,rfl,hc,rfl,cl,nc,ac⟩:=im hp1 hh.1.2
    obtain ⟨l,ls,rfl,hl,rfl,ll,nl,al⟩:=im hp2 hh.2
    rw [bn_fit h3] at q
    refine ⟨_,rfl,aN ?_⟩
    refine ⟨_,rfl,b,_,_,_,rfl,rfl,SqT.of (sm _ _ hb),at0,v,_,rfl,.inr (SqT.of (sm _ _ hv)),_,_,rfl,rfl,_,rfl,bD (fun z=>?_) (fun z1=>?_)⟩
    ·have z:=of_decide_eq_true z
     rw [List.length_map] at z
     rw [ip (.inl (by omega))] at q
     exact aQ (q _ sm)
    have z1:¬ (((vs.length:Nat):Int) < 1):=fun y=>z1 (decide_eq_true (by rw [List.length_map]; exact y))
    refine ⟨_,rfl,b,_,_,_,rfl,rfl,SqT.of (sm _ _ hb),at0,v,_,rfl,.inr (SqT.of (sm _ _ hv)),_,_,rfl,rfl,_,rfl,bD (fun z=>?_) (fun z2=>?_)⟩
    ·have z:=of_decide_eq_true z
     rw [List.length_map] at z
     rw [ip (.inr (.inl (by omega)))] at q
     exact aQ (q _ sm)
    have z2:¬ ((7:Int) < ((vs.length:Nat):Int)):=fun y=>z2 (decide_eq_true (by rw [List.length_map]; exact y))
    refine ⟨_,rfl,b,_,_,_,rfl,rfl,SqT.of (sm _ _ hb),at1,c,_,rfl,.inr (SqT.of (sm _ _ hc)),_,_,rfl,rfl,_,rfl,bD (fun z=>?_) (fun z3=>?_)⟩
    ·have z:=of_decide_eq_true z
     rw [List.length_map] at z
     rw [ip (.inr (.inr (.inl (by omega))))] at q
     exact q _ sm
    have z3:¬ ((7:Int) < ((cs.length:Nat):Int)):=fun y=>z3 (decide_eq_true (by rw [List.length_map]; exact y))
    refine ⟨_,rfl,b,v,c,l,cs,rfl,sm _ _ hb,sm _ _ hc,_,rfl,?_⟩
    by_cases hcs:cs=[]
    ·have hsp:com vs cs ls=ls.any fun x=>decide (x ∈ vs):=by unfold com; rw [if_pos hcs]
     rw [decide_eq_false (show ¬ 0 < cs.length by rw [hcs]; simp)]
     refine aN ⟨_,rfl,b,_,_,_,rfl,rfl,SqT.of (sm _ _ hb),at0,?_⟩
     refine ⟨_,rfl,b,_,_,_,rfl,rfl,SqT.of (sm _ _ hb),at2,l,_,rfl,.inr (SqT.of (sm _ _ hl)),_,_,rfl,rfl,?_⟩
     refine ⟨_,rfl,bD (fun z4=>?_) (fun z=>?_)⟩
     ·have z4:=of_decide_eq_true z4
      rw [List.length_map] at z4
      rw [mS (by omega) (by omega) (by omega) (by omega),hsp] at q
      refine ⟨_,rfl,b,_,_,_,rfl,rfl,SqT.of (sm _ _ hb),at2,l,rfl,⟨_,SqT.of (sm _ _ hl)⟩,?_⟩
      refine qg (fun x=>V.bl (inV x (vs.map V.str))) rfl (sm _ _ hl) (by rw [List.length_map]; omega) (fun D2 x us H2 post hD2 hx s2 hDD2 hpost=>?_) (fun D2 H2 hD2 s2 e2=>?_)
      ·obtain ⟨z,hz,rfl⟩:=List.mem_map.mp hx
       refine ⟨_,rfl,_,rfl,v,_,rfl,.inr (SqT.of (s2 _ _ (sm _ _ hv))),rfl,bq vs,?_⟩
       exact hpost _ (aA.refl _)
      ·rw [qG] at e2
       refine ⟨D2,_,rfl,SqL.of e2,?_⟩
       rw [mT]
       exact ⟨_,rfl,q _ (sm.trans s2)⟩
     ·have z4:¬ (((ls.length:Nat):Int) <= 4):=fun y=>z (decide_eq_true (by rw [List.length_map]; exact y))
      rw [ip (.inr (.inr (.inr (by omega))))] at q
      exact q _ sm
    ·have hsp:com vs cs ls=ls.any fun x=>decide (x ∈ cs):=by unfold com; rw [if_neg hcs]
     rw [decide_eq_true (show 0 < cs.length from List.length_pos_iff.mpr hcs)]
     refine aQ ⟨_,rfl,b,_,_,_,rfl,rfl,SqT.of (sm _ _ hb),at1,?_⟩
     refine ⟨_,rfl,b,_,_,_,rfl,rfl,SqT.of (sm _ _ hb),at2,l,_,rfl,.inr (SqT.of (sm _ _ hl)),_,_,rfl,rfl,?_⟩
     refine ⟨_,rfl,bD (fun z4=>?_) (fun z=>?_)⟩
     ·have z4:=of_decide_eq_true z4
      rw [List.length_map] at z4
      rw [mS (by omega) (by omega) (by omega) (by omega),hsp] at q
      refine ⟨_,rfl,b,_,_,_,rfl,rfl,SqT.of (sm _ _ hb),at2,l,rfl,⟨_,SqT.of (sm _ _ hl)⟩,?_⟩
      refine qg (fun x=>V.bl (inV x (cs.map V.str))) rfl (sm _ _ hl) (by rw [List.length_map]; omega) (fun D2 x us H2 post hD2 hx s2 hDD2 hpost=>?_) (fun D2 H2 hD2 s2 e2=>?_)
      ·obtain ⟨z,hz,rfl⟩:=List.mem_map.mp hx
       refine ⟨_,rfl,_,rfl,c,_,rfl,.inr (SqT.of (s2 _ _ (sm _ _ hc))),rfl,bq cs,?_⟩
       exact hpost _ (aA.refl _)
      ·rw [qG] at e2
       refine ⟨D2,_,rfl,SqL.of e2,?_⟩
       rw [mT]
       exact ⟨_,rfl,q _ (sm.trans s2)⟩
     ·have z4:¬ (((ls.length:Nat):Int) <= 4):=fun y=>z (decide_eq_true (by rw [List.length_map]; exact y))
      rw [ip (.inr (.inr (.inr (by omega))))] at q
      exact q _ sm
end
abbrev gg:Stmt:=top 16
abbrev jb:Stmt:=top 17
abbrev jc:Stmt:=top 20
abbrev gh:Stmt:=top 21
abbrev oF:Stmt:=top 22
abbrev gi:Stmt:=top 33
abbrev eQ:Stmt:=top 34
structure Bl3 (mg:Str -> Option Value):Prop where
 int:mg "int"=none
 bool:mg "bool"=none
 abs:mg "abs"=none
theorem bInt:bootBuiltins "int"=some (.type "int"):=by decide +kernel
theorem bBool:bootBuiltins "bool"=some (.type "bool"):=by decide +kernel
theorem at3 {α:Type} {a b c d:α} {r:List α}:atI (a :: b :: c :: d :: r) 3=some d:=aK (j:=3) rfl
def fk:V -> Bool
 | .int _=>true
 | _=>false
def eB (l:Int):V -> Bool
 | .int i=>decide (l <= i)
 | _=>false
def Nb (x:V):Prop:=∀ i,x=.int i -> -(10 ^ 60) < i /\ i < 10 ^ 60
inductive WAt (H:Hp):V -> Option (List V) -> Prop
 | no {x:V} {k:String}:Kd H x k -> k ≠ "tuple" -> WAt H x none
 | tup {a:Addr} {xs:List V}:H a=some (.tup xs) -> xs.length <= 60 -> (∀ x ∈ xs,Im H x /\ Nb x) -> WAt H (.ref a) (some xs)
theorem WAt.same {H H':Hp} {x:V} {o:Option (List V)} (e:aA H H') (h:WAt H x o):WAt H' x o:=by
 cases h with
 | no h hk=>exact .no (Kd.same e h) hk
 | tup h hl hi=>exact .tup (e _ _ h) hl fun x hx=>⟨(hi x hx).1.same e,(hi x hx).2⟩
def wkB:Option (List V) -> Bool
 | some [k,n]=>nmB n && decide (k=.str "drop")
 | some [k,n,z]=>nmB n && ((decide (k=.str "put") || decide (k=.str "add")) && fk z)
 | _=>false
inductive DdV (H:Hp):V -> Bool -> Prop
 | no {x:V} {k:String}:Kd H x k -> k ≠ "tuple" -> DdV H x false
 | nil {a:Addr}:H a=some (.tup []) -> DdV H (.ref a) false
 | first {a:Addr} {r:List V}:H a=some (.tup (.str "first" :: r)) -> r.length <= 60 -> DdV H (.ref a) (decide (r.length=0))
 | ask4 {a:Addr} {x1 x2 x3:V} {o:Option (List V)}:H a=some (.tup [.str "ask",x1,x2,x3]) -> Im H x1 -> Im H x2 -> WAt H x3 o -> DdV H (.ref a) (nmB x1 && (eB 1 x2 && wkB o))
 | askn {a:Addr} {r:List V}:H a=some (.tup (.str "ask" :: r)) -> r.length <= 60 -> r.length ≠ 3 -> DdV H (.ref a) false
 | bench2 {a:Addr} {x1:V} {o:Tr}:H a=some (.tup [.str "bench",x1]) -> jN H x1 o -> DdV H (.ref a) (bnB o)
 | benchn {a:Addr} {r:List V}:H a=some (.tup (.str "bench" :: r)) -> r.length <= 60 -> r.length ≠ 1 -> DdV H (.ref a) false
 | odd {a:Addr} {k:V} {r:List V}:H a=some (.tup (k :: r)) -> r.length <= 60 -> Th1 H k -> k ≠ .str "first" -> k ≠ .str "ask" -> k ≠ .str "bench" -> DdV H (.ref a) false
theorem DdV.same {H H':Hp} {x:V} {v:Bool} (e:aA H H') (h:DdV H x v):DdV H' x v:=by
 cases h with
 | no h hk=>exact .no (Kd.same e h) hk
 | nil h=>exact .nil (e _ _ h)
 | first h hl=>exact .first (e _ _ h) hl
 | ask4 h h1 h2 h3=>exact .ask4 (e _ _ h) (h1.same e) (h2.same e) (h3.same e)
 | askn h hl hn=>exact .askn (e _ _ h) hl hn
 | bench2 h h1=>exact .bench2 (e _ _ h) (h1.same e)
 | benchn h hl hn=>exact .benchn (e _ _ h) hl hn
 | odd h hl h1 h2 h3 h4=>exact .odd (e _ _ h) hl (h1.same e) h2 h3 h4
inductive EnV (H:Hp):V -> Bool -> Prop
 | no {x:V} {k:String}:Kd H x k -> k ≠ "tuple" -> EnV H x false
 | len {a:Addr} {xs:List V}:H a=some (.tup xs) -> xs.length <= 60 -> xs.length ≠ 2 -> EnV H (.ref a) false
 | two {a:Addr} {t d:V} {v:Bool}:H a=some (.tup [t,d]) -> Im H t -> DdV H d v -> EnV H (.ref a) (eB 1 t && v)
theorem EnV.same {H H':Hp} {x:V} {v:Bool} (e:aA H H') (h:EnV H x v):EnV H' x v:=by
 cases h with
 | no h hk=>exact .no (Kd.same e h) hk
 | len h hl hn=>exact .len (e _ _ h) hl hn
 | two h h1 h2=>exact .two (e _ _ h) (h1.same e) (h2.same e)
def gK:Sp:=fun us H Q _=>∃ x:V,us=[x] /\ Im H x /\ Q (.bl (fk x)) H
def gj:Sp:=fun us H Q _=>∃ (x:V) (l:Int),us=[x,.int l] /\ Im H x /\ Q (.bl (eB l x)) H
def lH:Sp:=fun us H Q _=>∃ x:V,us=[x] /\ Im H x /\ Nb x /\ Q (.bl (fk x)) H
def jP:Sp:=fun us H Q _=>∃ (x:V) (o:Option (List V)),us=[x] /\ WAt H x o /\ ∀ H',aA H H' -> Q (.bl (wkB o)) H'
def qH:Sp:=fun us H Q _=>∃ (x1 x2 x3:V) (o:Option (List V)),us=[x1,x2,x3] /\ Im H x1 /\ Im H x2 /\ WAt H x3 o /\ ∀ H',aA H H' -> Q (.bl (nmB x1 && (eB 1 x2 && wkB o))) H'
def jQ:Sp:=fun us H Q _=>∃ (x:V) (v:Bool),us=[x] /\ DdV H x v /\ ∀ H',aA H H' -> Q (.bl v) H'
def iq:Sp:=fun us H Q _=>∃ (x:V) (v:Bool),us=[x] /\ EnV H x v /\ ∀ H',aA H H' -> Q (.bl v) H'
theorem qI {xs:List V} (h:xs.length < 2):wkB (some xs)=false:=by
 match xs,h with
 | [],_=>rfl
 | [_],_=>rfl
theorem oG {k n:V} {r:List V} (h:nmB n=false):wkB (some (k :: n :: r))=false:=by
 match r with
 | []=>show (nmB n && _)=false; rw [h]; rfl
 | [z]=>show (nmB n && _)=false; rw [h]; rfl
 | _ :: _ :: _=>rfl
theorem wk_drop {n:V} {r:List V} (h:nmB n=true):wkB (some (.str "drop" :: n :: r))=decide (r.length=0):=by
 match r with
 | []=>show (nmB n && decide (V.str "drop"=.str "drop"))=_; rw [h,decide_eq_true rfl]; rfl
 | [z] =>
  show (nmB n && ((decide (V.str "drop"=.str "put") || decide (V.str "drop"=.str "add")) && fk z))=_
  rw [show decide (V.str "drop"=.str "put")=false by decide +kernel,show decide (V.str "drop"=.str "add")=false by decide +kernel,h]
  rfl
 | _ :: _ :: _=>rfl
theorem wk_else {k n:V} {r:List V} (h:nmB n=true) (hk:¬ k=.str "drop"):wkB (some (k :: n :: r))=((decide (k=.str "put") || decide (k=.str "add")) && (decide (r.length=1) && fk (r.getD 0 .non))):=by
 match r with
 | []=>show (nmB n && decide (k=.str "drop"))=_; rw [decide_eq_false hk,Bool.and_false]; simp
 | [z] =>
  show (nmB n && ((decide (k=.str "put") || decide (k=.str "add")) && fk z))=_
  rw [h]
  rfl
 | _ :: _ :: r=>show false=_; simp
theorem qJ (xs:List V) (n:Nat):decide (V.int ((xs.length:Nat):Int)=V.int (n:Int))=decide (xs.length=n):=by
 rw [Bool.eq_iff_iff,decide_eq_true_iff,decide_eq_true_iff,V.int.injEq]
 omega
section
variable {P:Program} {w:World} {K:PySem.W.Frag} {mg:Str -> Option Value} {base:Heap}
theorem scWhole:aH ["thing"] ["thing"] (ai gg):=fsc (by decide +kernel)
theorem qK {f:Addr} {fd:FuncData} (F:Fun K "is_whole" "is_whole" gg f fd) (T:Bl2 mg) (U:Bl3 mg):a7 P w K mg base CX0 1 f fd ["thing"] gK:=by
 refine F.ok scWhole (fun vs H Q E h=>?_) (fun cdv A outer s H vs Q E hr h=>?_)
 ·obtain ⟨x,rfl,_⟩:=h
  rfl
 ·obtain ⟨x,rfl,hI,q⟩:=h
  refine ⟨_,ak <| ay <| bw (aq bM (by rfl) T.isi ei (ad (pv 0) (ad (bR (v:=.ty "int") (by rfl) U.int bInt rfl) af))) (bV (px (aq bM (by rfl) T.isi ei (ad (pv 0) (ad (bR (v:=.ty "bool") (by rfl) U.bool bBool rfl) af))))),?_⟩
  obtain ⟨k,hk⟩:=hI.1.kd
  refine ⟨_,rfl,_,_,_,_,rfl,hk,kit_int hk,_,rfl,?_⟩
  have rest:pY x=true -> ∃ k b,Kd H x k /\ PySem.W.kitOne K (.type k) (.type "bool")=some b /\ b=isBlV x:=fun _=>⟨k,_,hk,lz hk,rfl⟩
  cases x with
  | int i=>exact aQ ⟨_,rfl,_,_,_,_,rfl,hk,lz hk,_,rfl,q⟩
  | bl b=>exact aQ ⟨_,rfl,_,_,_,_,rfl,hk,lz hk,_,rfl,q⟩
  | _=>exact aN q
theorem scFrom:aH ["thing","least"] ["thing","least"] (ai jb):=fsc (by decide +kernel)
theorem ok_from {f:Addr} {fd:FuncData} (F:Fun K "is_whole_from" "is_whole_from" jb f fd) (Fw:aL P w K mg base 1 "is_whole" ["thing"] gK):a7 P w K mg base CX0 2 f fd ["thing","least"] gj:=by
 refine F.ok scFrom (fun vs H Q E h=>?_) (fun cdv A outer s H vs Q E hr h=>?_)
 ·obtain ⟨x,l,rfl,_⟩:=h
  rfl
 ·obtain ⟨x,l,rfl,hI,q⟩:=h
  refine ⟨_,ak <| ay <| bw (aj Fw hr (ad (pv 0) af)) (bV (ba op_ge (pv 0) (pv 1) (aB _))),?_⟩
  refine ⟨_,rfl,x,rfl,hI,_,rfl,?_⟩
  cases x with
  | int i=>exact aQ ⟨_,rfl,_,rfl,_,_,rfl,rfl,q⟩
  | _=>exact aN q
theorem scWNum:aH ["thing"] ["thing"] (ai jc):=fsc (by decide +kernel)
theorem ok_wnum {f:Addr} {fd:FuncData} (F:Fun K "is_work_number" "is_work_number" jc f fd) (U:Bl3 mg) (Fw:aL P w K mg base 1 "is_whole" ["thing"] gK):a7 P w K mg base CX0 2 f fd ["thing"] lH:=by
 refine F.ok scWNum (fun vs H Q E h=>?_) (fun cdv A outer s H vs Q E hr h=>?_)
 ·obtain ⟨x,rfl,_⟩:=h
  rfl
 ·obtain ⟨x,rfl,hI,hb,q⟩:=h
  refine ⟨_,ak <| ay <| bw (aj Fw hr (ad (pv 0) af)) (bV (ba gr (aq pG (by rfl) U.abs bAbs (ad (pv 0) af)) (aO kT ag ag) (aB _))),?_⟩
  refine ⟨_,rfl,x,rfl,hI,_,rfl,?_⟩
  cases x with
  | int i =>
   refine aQ ⟨_,rfl,i,rfl,_,_,rfl,rfl,⟨by decide,by decide,by decide⟩,_,_,rfl,rfl,?_⟩
   obtain ⟨h1,h2⟩:=hb i rfl
   have this:decide ((if i < 0 then -i else i) < (10:Int) ^ 60)=true:=by
    refine decide_eq_true ?_
    split <;> omega
   show Q (.bl (decide ((if i < 0 then -i else i) < (10:Int) ^ 60))) H
   rw [this]
   exact q
  | _=>exact aN q
theorem scPWork:aH ["thing"] ["thing"] (ai gh):=fsc (by decide +kernel)
theorem qL {f:Addr} {fd:FuncData} (F:Fun K "is_work" "is_work" gh f fd) (B:Blt mg) (T:Bl2 mg) (Fn:aL P w K mg base 1 "is_name" ["thing"] lF) (Fw:aL P w K mg base 2 "is_work_number" ["thing"] lH):a7 P w K mg base CX0 3 f fd ["thing"] jP:=by
 refine F.ok scPWork (fun vs H Q E h=>?_) (fun cdv A outer s H vs Q E hr h=>?_)
 ·obtain ⟨x,o,rfl,_⟩:=h
  rfl
 ·obtain ⟨x,o,rfl,hW,q⟩:=h
  have hu:=hu_of hr
  have r1:aZ 1 _:=hr.mono (by decide)
  refine ⟨_,ah (aT (PW.pt (bv (bg (aW (aq bM (by rfl) T.isi ei (ad (pv 0) (ad (bR (v:=.ty "tuple") (by rfl) B.tuple cI rfl) af))))) <|
    bv (az gr (aq ao (by rfl) B.len PySem.boot_len (ad (pv 0) af)) ag (aB _)) <|
    bJ (bg (aW (aj Fn r1 (ad (ax aw (pv 0) ag (fun _ _=>rfl)) af)))))) (ak (ay bE)) aE) <|
   ah (aT (az (gH hu) (ax aw (pv 0) ag (fun _ _=>rfl)) aM (aB _)) (ak (ay (ba bL (aq ao (by rfl) B.len PySem.boot_len (ad (pv 0) af)) ag (aB _)))) aE) <|
   ak <| ay <| bw (ba (op_inTS hu) (ax aw (pv 0) ag (fun _ _=>rfl)) (aG (ad aM (ad aM af))) (by rfl)) <|
    bw (ba bL (aq ao (by rfl) B.len PySem.boot_len (ad (pv 0) af)) ag (aB _)) <|
    bV (aj Fw hr (ad (ax aw (pv 0) ag (fun _ _=>rfl)) af)),?_⟩
  cases hW with
  | no hk ne=>exact ⟨_,rfl,_,_,_,false,rfl,hk,eA hk ne,_,rfl,aQ (aQ (q H (aA.refl H)))⟩
  | @tup t xs ht hl hi =>
   refine ⟨_,rfl,_,_,"tuple",true,rfl,Kd.tup (.inl ht),aV,_,rfl,aN ?_⟩
   refine ⟨_,rfl,t,_,rfl,.inr (SqT.of ht),_,_,rfl,rfl,_,rfl,bD (fun z=>?_) (fun z=>?_)⟩
   ·have z:=of_decide_eq_true z
    rw [qI (by omega)] at q
    exact aQ (q H (aA.refl H))
   have z:¬ (((xs.length:Nat):Int) < 2):=fun y=>z (decide_eq_true y)
   obtain ⟨k,n,r,rfl⟩:∃ k n r,xs=k :: n :: r:=by
    match xs,z with
    | [],z=>exact absurd (show ((0:Nat):Int) < 2 by decide) z
    | [_],z=>exact absurd (show ((1:Nat):Int) < 2 by decide) z
    | k :: n :: r,_=>exact ⟨k,n,r,rfl⟩
   have hk:=hi k (by simp)
   have hn:=hi n (by simp)
   refine ⟨_,rfl,t,_,_,_,rfl,rfl,SqT.of ht,at1,n,rfl,hn.1,fun H1 s1=>⟨_,rfl,?_⟩⟩
   have ht1:=s1 _ _ ht
   cases en:nmB n with
   | false =>
    rw [oG en] at q
    exact aQ (q H1 s1)
   | true =>
    refine aN ?_
    refine ⟨_,rfl,t,_,_,_,rfl,rfl,SqT.of ht1,at0,_,rfl,hk.1.1.same s1,_,rfl,?_⟩
    by_cases hd:k=.str "drop"
    ·subst hd
     rw [decide_eq_true rfl,wk_drop en] at *
     refine aQ ⟨_,rfl,t,_,rfl,.inr (SqT.of ht1),rfl,?_⟩
     rw [show decide (V.int (((V.str "drop" :: n :: r).length:Nat):Int)=V.int 2)=decide (r.length=0) by rw [show (2:Int)=((2:Nat):Int) from rfl,qJ]; simp]
     exact q H1 s1
    ·rw [decide_eq_false hd]
     rw [wk_else en hd] at q
     refine aN ⟨_,rfl,t,_,_,_,rfl,rfl,SqT.of ht1,at0,(by show 2 <= sizeLine; decide),fun p H2 _ s2 ep=>?_⟩
     refine ⟨p,["put","add"],rfl,SqT.of ep,(hk.1.1.same s1).same s2,_,rfl,?_⟩
     have e2:([("put":Str),"add"].any fun z=>decide (k=.str z))=(decide (k=.str "put") || decide (k=.str "add")):=by simp
     rw [e2]
     have s12:=s1.trans s2
     cases ek:(decide (k=.str "put") || decide (k=.str "add")) with
     | false =>
      rw [ek] at q
      exact aN (q H2 s12)
     | true =>
      rw [ek] at q
      refine aQ ⟨_,rfl,t,_,rfl,.inr (SqT.of (s2 _ _ ht1)),rfl,?_⟩
      rw [show decide (V.int (((k :: n :: r).length:Nat):Int)=V.int 3)=decide (r.length=1) by rw [show (3:Int)=((3:Nat):Int) from rfl,qJ]; simp]
      refine ⟨_,rfl,?_⟩
      by_cases hr1:r.length=1
      ·rw [decide_eq_true hr1] at q ⊢
       obtain ⟨z',rfl⟩:∃ z',r=[z']:=by
        match r,hr1 with
        | [z'],_=>exact ⟨z',rfl⟩
       have hz:=hi z' (by simp)
       refine aQ ⟨_,rfl,t,_,_,_,rfl,rfl,SqT.of (s2 _ _ ht1),at2,z',rfl,hz.1.same s12,hz.2,?_⟩
       exact q H2 s12
      ·rw [decide_eq_false hr1] at q ⊢
       exact aN (q H2 s12)
theorem scAsk:aH ["asker","number","work"] ["asker","number","work"] (ai oF):=fsc (by decide +kernel)
theorem ok_ask {f:Addr} {fd:FuncData} (F:Fun K "is_ask" "is_ask" oF f fd) (Fn:aL P w K mg base 1 "is_name" ["thing"] lF) (Ff:aL P w K mg base 2 "is_whole_from" ["thing","least"] gj) (Fw:aL P w K mg base 3 "is_work" ["thing"] jP):a7 P w K mg base CX0 4 f fd ["asker","number","work"] qH:=by
 refine F.ok scAsk (fun vs H Q E h=>?_) (fun cdv A outer s H vs Q E hr h=>?_)
 ·obtain ⟨x1,x2,x3,o,rfl,_⟩:=h
  rfl
 ·obtain ⟨x1,x2,x3,o,rfl,h1,h2,h3,q⟩:=h
  have r1:aZ 1 _:=hr.mono (by decide)
  have r2:aZ 2 _:=hr.mono (by decide)
  refine ⟨_,ak <| ay <| bw (aj Fn r1 (ad (pv 0) af)) (bw (aj Ff r2 (ad (pv 1) (ad ag af))) (bV (aj Fw hr (ad (pv 2) af)))),?_⟩
  refine ⟨_,rfl,x1,rfl,h1,fun H1 s1=>⟨_,rfl,?_⟩⟩
  cases e1:nmB x1 with
  | false =>
   rw [e1] at q
   exact aN (q H1 s1)
  | true =>
   rw [e1] at q
   refine aQ ⟨_,rfl,x2,1,rfl,h2.same s1,_,rfl,?_⟩
   cases e2:eB 1 x2 with
   | false =>
    rw [e2] at q
    exact aN (q H1 s1)
   | true =>
    rw [e2] at q
    exact aQ ⟨_,rfl,x3,o,rfl,h3.same s1,fun H2 s2=>q H2 (s1.trans s2)⟩
theorem scPDeed:aH ["thing"] ["thing"] (ai gi):=fsc (by decide +kernel)
theorem qM {f:Addr} {fd:FuncData} (F:Fun K "is_deed" "is_deed" gi f fd) (B:Blt mg) (T:Bl2 mg) (Fa:aL P w K mg base 4 "is_ask" ["asker","number","work"] qH) (Fb:aL P w K mg base 3 "is_bench" ["thing"] kA):a7 P w K mg base CX0 5 f fd ["thing"] jQ:=by
 refine F.ok scPDeed (fun vs H Q E h=>?_) (fun cdv A outer s H vs Q E hr h=>?_)
 ·obtain ⟨x,v,rfl,_⟩:=h
  rfl
 ·obtain ⟨x,v,rfl,hV,q⟩:=h
  have hu:=hu_of hr
  have r3:aZ 3 _:=hr.mono (by decide)
  refine ⟨_,ah (aT (PW.pt (bv (bg (aW (aq bM (by rfl) T.isi ei (ad (pv 0) (ad (bR (v:=.ty "tuple") (by rfl) B.tuple cI rfl) af))))) <|
    bJ (az bL (aq ao (by rfl) B.len PySem.boot_len (ad (pv 0) af)) ag (aB _)))) (ak (ay bE)) aE) <|
   ah (aT (az (gH hu) (ax aw (pv 0) ag (fun _ _=>rfl)) aM (aB _)) (ak (ay (ba bL (aq ao (by rfl) B.len PySem.boot_len (ad (pv 0) af)) ag (aB _)))) aE) <|
   ah (aT (az (gH hu) (ax aw (pv 0) ag (fun _ _=>rfl)) aM (aB _)) (ak (ay (bw (ba bL (aq ao (by rfl) B.len PySem.boot_len (ad (pv 0) af)) ag (aB _)) (bV (aj Fa hr (ad (ax aw (pv 0) ag (fun _ _=>rfl)) (ad (ax aw (pv 0) ag (fun _ _=>rfl)) (ad (ax aw (pv 0) ag (fun _ _=>rfl)) af)))))))) aE) <|
   ak <| ay <| bw (ba (gH hu) (ax aw (pv 0) ag (fun _ _=>rfl)) aM (aB _)) <|
    bw (ba bL (aq ao (by rfl) B.len PySem.boot_len (ad (pv 0) af)) ag (aB _)) <|
    bV (aj Fb r3 (ad (ax aw (pv 0) ag (fun _ _=>rfl)) af)),?_⟩
  have l0:∀ (k:V) (r:List V),decide (V.int (((k :: r).length:Nat):Int)=V.int 0)=false:=fun k r=>by
   rw [show (0:Int)=((0:Nat):Int) from rfl,qJ]
   simp
  have ln:∀ (k:V) (r:List V) (n:Nat),decide (V.int (((k :: r).length:Nat):Int)=V.int (((n + 1:Nat)):Int))=decide (r.length=n):=fun k r n=>by
   rw [qJ]
   simp
  cases hV with
  | no hk ne=>exact ⟨_,rfl,_,_,_,false,rfl,hk,eA hk ne,_,rfl,aQ (aQ (q H (aA.refl H)))⟩
  | @nil t ht =>
   refine ⟨_,rfl,_,_,"tuple",true,rfl,Kd.tup (.inl ht),aV,_,rfl,aN ?_⟩
   exact ⟨_,rfl,t,_,rfl,.inr (SqT.of ht),rfl,_,rfl,aQ (q H (aA.refl H))⟩
  | @first t r ht hl =>
   refine ⟨_,rfl,_,_,"tuple",true,rfl,Kd.tup (.inl ht),aV,_,rfl,aN ?_⟩
   refine ⟨_,rfl,t,_,rfl,.inr (SqT.of ht),rfl,_,rfl,?_⟩
   rw [l0]
   refine aN ⟨_,rfl,t,_,_,_,rfl,rfl,SqT.of ht,at0,_,rfl,.inl rfl,_,rfl,?_⟩
   rw [decide_eq_true rfl]
   refine aQ ⟨_,rfl,t,_,rfl,.inr (SqT.of ht),rfl,?_⟩
   rw [show decide (V.int (((V.str "first" :: r).length:Nat):Int)=V.int 1)=decide (r.length=0) from ln _ r 0]
   exact q H (aA.refl H)
  | @ask4 t x1 x2 x3 o ht h1 h2 h3 =>
   refine ⟨_,rfl,_,_,"tuple",true,rfl,Kd.tup (.inl ht),aV,_,rfl,aN ?_⟩
   refine ⟨_,rfl,t,_,rfl,.inr (SqT.of ht),rfl,_,rfl,?_⟩
   rw [l0]
   refine aN ⟨_,rfl,t,_,_,_,rfl,rfl,SqT.of ht,at0,_,rfl,.inl rfl,_,rfl,?_⟩
   rw [show decide (V.str "ask"=V.str "first")=false by decide +kernel]
   refine aN ⟨_,rfl,t,_,_,_,rfl,rfl,SqT.of ht,at0,_,rfl,.inl rfl,_,rfl,?_⟩
   rw [decide_eq_true rfl]
   refine aQ ⟨_,rfl,t,_,rfl,.inr (SqT.of ht),rfl,_,rfl,?_⟩
   rw [show decide (V.int ((([V.str "ask",x1,x2,x3]:List V).length:Nat):Int)=V.int 4)=true from decide_eq_true rfl]
   refine aQ ⟨_,rfl,t,_,_,_,rfl,rfl,SqT.of ht,at1,_,rfl,t,_,_,_,rfl,rfl,SqT.of ht,at2,_,rfl,t,_,_,_,rfl,rfl,SqT.of ht,at3,x1,x2,x3,o,rfl,h1,h2,h3,fun H' s'=>q H' s'⟩
  | @askn t r ht hl hn =>
   refine ⟨_,rfl,_,_,"tuple",true,rfl,Kd.tup (.inl ht),aV,_,rfl,aN ?_⟩
   refine ⟨_,rfl,t,_,rfl,.inr (SqT.of ht),rfl,_,rfl,?_⟩
   rw [l0]
   refine aN ⟨_,rfl,t,_,_,_,rfl,rfl,SqT.of ht,at0,_,rfl,.inl rfl,_,rfl,?_⟩
   rw [show decide (V.str "ask"=V.str "first")=false by decide +kernel]
   refine aN ⟨_,rfl,t,_,_,_,rfl,rfl,SqT.of ht,at0,_,rfl,.inl rfl,_,rfl,?_⟩
   rw [decide_eq_true rfl]
   refine aQ ⟨_,rfl,t,_,rfl,.inr (SqT.of ht),rfl,_,rfl,?_⟩
   rw [show decide (V.int (((V.str "ask" :: r).length:Nat):Int)=V.int 4)=decide (r.length=3) from ln _ r 3,decide_eq_false hn]
   exact aN (q H (aA.refl H))
  | @bench2 t x1 o ht h1 =>
   refine ⟨_,rfl,_,_,"tuple",true,rfl,Kd.tup (.inl ht),aV,_,rfl,aN ?_⟩
   refine ⟨_,rfl,t,_,rfl,.inr (SqT.of ht),rfl,_,rfl,?_⟩
   rw [l0]
   refine aN ⟨_,rfl,t,_,_,_,rfl,rfl,SqT.of ht,at0,_,rfl,.inl rfl,_,rfl,?_⟩
   rw [show decide (V.str "bench"=V.str "first")=false by decide +kernel]
   refine aN ⟨_,rfl,t,_,_,_,rfl,rfl,SqT.of ht,at0,_,rfl,.inl rfl,_,rfl,?_⟩
   rw [show decide (V.str "bench"=V.str "ask")=false by decide +kernel]
   refine aN ⟨_,rfl,t,_,_,_,rfl,rfl,SqT.of ht,at0,_,rfl,.inl rfl,_,rfl,?_⟩
   rw [decide_eq_true rfl]
   refine aQ ⟨_,rfl,t,_,rfl,.inr (SqT.of ht),rfl,_,rfl,?_⟩
   rw [show decide (V.int ((([V.str "bench",x1]:List V).length:Nat):Int)=V.int 2)=true from decide_eq_true rfl]
   exact aQ ⟨_,rfl,t,_,_,_,rfl,rfl,SqT.of ht,at1,x1,o,rfl,h1,fun H' s'=>q H' s'⟩
  | @benchn t r ht hl hn =>
   refine ⟨_,rfl,_,_,"tuple",true,rfl,Kd.tup (.inl ht),aV,_,rfl,aN ?_⟩
   refine ⟨_,rfl,t,_,rfl,.inr (SqT.of ht),rfl,_,rfl,?_⟩
   rw [l0]
   refine aN ⟨_,rfl,t,_,_,_,rfl,rfl,SqT.of ht,at0,_,rfl,.inl rfl,_,rfl,?_⟩
   rw [show decide (V.str "bench"=V.str "first")=false by decide +kernel]
   refine aN ⟨_,rfl,t,_,_,_,rfl,rfl,SqT.of ht,at0,_,rfl,.inl rfl,_,rfl,?_⟩
   rw [show decide (V.str "bench"=V.str "ask")=false by decide +kernel]
   refine aN ⟨_,rfl,t,_,_,_,rfl,rfl,SqT.of ht,at0,_,rfl,.inl rfl,_,rfl,?_⟩
   rw [decide_eq_true rfl]
   refine aQ ⟨_,rfl,t,_,rfl,.inr (SqT.of ht),rfl,_,rfl,?_⟩
   rw [show decide (V.int (((V.str "bench" :: r).length:Nat):Int)=V.int 2)=decide (r.length=1) from ln _ r 1,decide_eq_false hn]
   exact aN (q H (aA.refl H))
  | @odd t k r ht hl hk n1 n2 n3 =>
   refine ⟨_,rfl,_,_,"tuple",true,rfl,Kd.tup (.inl ht),aV,_,rfl,aN ?_⟩
   refine ⟨_,rfl,t,_,rfl,.inr (SqT.of ht),rfl,_,rfl,?_⟩
   rw [l0]
   refine aN ⟨_,rfl,t,_,_,_,rfl,rfl,SqT.of ht,at0,_,rfl,hk,_,rfl,?_⟩
   rw [decide_eq_false n1]
   refine aN ⟨_,rfl,t,_,_,_,rfl,rfl,SqT.of ht,at0,_,rfl,hk,_,rfl,?_⟩
   rw [decide_eq_false n2]
   refine aN ⟨_,rfl,t,_,_,_,rfl,rfl,SqT.of ht,at0,_,rfl,hk,_,rfl,?_⟩
   rw [decide_eq_false n3]
   exact aN (q H (aA.refl H))
theorem qN:aH ["thing"] ["thing"] (ai eQ):=fsc (by decide +kernel)
theorem oH {f:Addr} {fd:FuncData} (F:Fun K "is_entry" "is_entry" eQ f fd) (B:Blt mg) (T:Bl2 mg) (Ff:aL P w K mg base 2 "is_whole_from" ["thing","least"] gj) (Fd:aL P w K mg base 5 "is_deed" ["thing"] jQ):a7 P w K mg base CX0 6 f fd ["thing"] iq:=by
 refine F.ok qN (fun vs H Q E h=>?_) (fun cdv A outer s H vs Q E hr h=>?_)
 ·obtain ⟨x,v,rfl,_⟩:=h
  rfl
 ·obtain ⟨x,v,rfl,hV,q⟩:=h
  have r2:aZ 2 _:=hr.mono (by decide)
  refine ⟨_,ak <| ay <| bw (aq bM (by rfl) T.isi ei (ad (pv 0) (ad (bR (v:=.ty "tuple") (by rfl) B.tuple cI rfl) af))) <|
    bw (ba bL (aq ao (by rfl) B.len PySem.boot_len (ad (pv 0) af)) ag (aB _)) <|
    bw (aj Ff r2 (ad (ax aw (pv 0) ag (fun _ _=>rfl)) (ad ag af))) <|
    bV (aj Fd hr (ad (ax aw (pv 0) ag (fun _ _=>rfl)) af)),?_⟩
  cases hV with
  | no hk ne=>exact ⟨_,rfl,_,_,_,false,rfl,hk,eA hk ne,_,rfl,aN (q H (aA.refl H))⟩
  | @len a xs ha hl hn =>
   refine ⟨_,rfl,_,_,"tuple",true,rfl,Kd.tup (.inl ha),aV,_,rfl,aQ ?_⟩
   refine ⟨_,rfl,a,_,rfl,.inr (SqT.of ha),rfl,_,rfl,?_⟩
   rw [show decide (V.int ((xs.length:Nat):Int)=V.int 2)=false by rw [show (2:Int)=((2:Nat):Int) from rfl,qJ]; exact decide_eq_false hn]
   exact aN (q H (aA.refl H))
  | @two a t d v ha ht hd =>
   refine ⟨_,rfl,_,_,"tuple",true,rfl,Kd.tup (.inl ha),aV,_,rfl,aQ ?_⟩
   refine ⟨_,rfl,a,_,rfl,.inr (SqT.of ha),rfl,_,rfl,?_⟩
   rw [show decide (V.int ((([t,d]:List V).length:Nat):Int)=V.int 2)=true from decide_eq_true rfl]
   refine aQ ⟨_,rfl,a,_,_,_,rfl,rfl,SqT.of ha,at0,t,1,rfl,ht,_,rfl,?_⟩
   cases e1:eB 1 t with
   | false =>
    rw [e1] at q
    exact aN (q H (aA.refl H))
   | true =>
    rw [e1] at q
    exact aQ ⟨_,rfl,a,_,_,_,rfl,rfl,SqT.of ha,at1,d,v,rfl,hd,fun H' s'=>q H' s'⟩
end
end K84P
namespace K84
open PySem L2
abbrev sCP:Stmt:=top 36
abbrev sSP:Stmt:=top 37
theorem nmP {x:Str} (h:Nm x):K84P.Nm x:=⟨h.one,h.eight,h.ok⟩
theorem kB {H:Hp} {t:Addr} {xs:List Str} (h:H t=some (.tup (xs.map V.str))) (hl:xs.length <= 60) (hn:∀ x ∈ xs,Nm x):K84P.gf H (.ref t) (some (xs.map V.str)) :=
 .tup h (by rw [List.length_map]; exact hl) fun x hx=>by
  obtain ⟨z,hz,rfl⟩:=List.mem_map.mp hx
  exact K84P.Im.str (Nat.le_trans (hn z hz).eight (by decide))
theorem eC {xs:List Str} (hn:∀ x ∈ xs,Nm x) (hp:xs.Pairwise ltS):K84P.a8 (some (xs.map V.str))=true:=K84P.rise_of (fun z hz=>nmP (hn z hz)) (K84P.qC hp)
theorem qO {H:Hp} {b:Addr} {vs cs ls:List Str} (h:bI H b vs cs ls) (n:Nms vs cs ls):∃ o,K84P.jN H (.ref b) o /\ K84P.bnB o=true:=by
 obtain ⟨⟨v,c,l,b1,b2,b3,b4⟩,vr,cr,lr,v1,v7,c7,l4,ap⟩:=h
 refine ⟨_,.tri b1 (kB b2 (by omega) n.1) (kB b3 (by omega) n.2.1) (kB b4 (by omega) n.2.2),?_⟩
 show (((K84P.a8 (some (vs.map V.str)) && K84P.a8 (some (cs.map V.str))) && K84P.a8 (some (ls.map V.str))) && K84P.jO (K84P.txs (vs.map V.str)) (K84P.txs (cs.map V.str)) (K84P.txs (ls.map V.str)))=true
 rw [eC n.1 vr,eC n.2.1 cr,eC n.2.2 lr,K84P.cB,K84P.cB,K84P.cB]
 have hc:K84P.com vs cs ls=false:=by
  unfold K84P.com
  rw [List.any_eq_false]
  intro x hx
  rw [decide_eq_false (ap x hx)]
  decide
 show ((((decide (1 <= vs.length) && decide (vs.length <= 7)) && decide (cs.length <= 7)) && decide (ls.length <= 4)) && !K84P.com vs cs ls)=true
 rw [hc,decide_eq_true v1,decide_eq_true v7,decide_eq_true c7,decide_eq_true l4]
 rfl
structure cZ (H:Hp) (p:Addr) (t:Int) (x:Str) (b y:Addr) (vs cs ls ys:List Str):Prop where
 ob:H p=some (.tup [.str (Str.ofString "chair"),.int t,.str x,.ref b,.ref y])
 t1:1 <= t
 nx:Nm x
 bn:bI H b vs cs ls
 nb:Nms vs cs ls
 yt:H y=some (.tup (ys.map V.str))
 yl:ys.length <= 60
 yn:∀ z ∈ ys,Nm z
 yr:ys.Pairwise ltS
def spCP:Sp:=fun us H Q _=>∃ p:Addr,us=[.ref p] /\ ((∃ (t:Int) (x:Str) (b y:Addr) (vs cs ls ys:List Str),cZ H p t x b y vs cs ls ys /\ ∀ H',aA H H' -> Q (.bl true) H') \/ ∃ xs:List V,H p=some (.tup xs) /\ xs.length=7 /\ Q (.bl false) H)
structure bT (H:Hp) (p:Addr) (t:Int) (x:Str) (n:Int) (e:Addr) (as:List Addr) (b y:Addr) (vs cs ls ys:List Str):Prop where
 ob:H p=some (.tup [.str (Str.ofString "settled"),.int t,.str x,.int n,.ref e,.ref b,.ref y])
 t1:1 <= t
 nx:Nm x
 n1:1 <= n
 et:H e=some (.tup (as.map V.ref))
 ne:as ≠ []
 el:as.length <= 900
 ee:∀ a ∈ as,K84P.EnV H (.ref a) true
 bn:bI H b vs cs ls
 nb:Nms vs cs ls
 yt:H y=some (.tup (ys.map V.str))
 yl:ys.length <= 60
 yn:∀ z ∈ ys,Nm z
 yr:ys.Pairwise ltS
def spSP:Sp:=fun us H Q _=>∃ p:Addr,us=[.ref p] /\ ((∃ (t:Int) (x:Str) (n:Int) (e:Addr) (as:List Addr) (b y:Addr) (vs cs ls ys:List Str),bT H p t x n e as b y vs cs ls ys /\ ∀ H',aA H H' -> Q (.bl true) H') \/ ∃ xs:List V,H p=some (.tup xs) /\ xs.length=5 /\ Q (.bl false) H)
section
variable {P:Program} {w:World} {K:PySem.W.Frag} {mg:Str -> Option Value} {base:Heap}
theorem scCP:aH ["thing"] ["thing"] (ai sCP):=fsc (by decide +kernel)
theorem ok_cp {f:Addr} {fd:FuncData} (F:Fun K "is_chair_paper" "is_chair_paper" sCP f fd) (B:Blt mg) (T:Bl2 mg) (Fw:aL P w K mg base 2 "is_whole_from" ["thing","least"] K84P.gj) (Fn:aL P w K mg base 1 "is_name" ["thing"] K84P.lF)
  (Fb:aL P w K mg base 3 "is_bench" ["thing"] K84P.kA) (Fr:aL P w K mg base 2 "is_rising_names" ["thing"] K84P.io):a7 P w K mg base CX0 4 f fd ["thing"] spCP:=by
 refine F.ok scCP (fun us H Q E h=>?_) (fun cdv A outer s H us Q E hr h=>?_)
 ·obtain ⟨p,rfl,_⟩:=h
  rfl
 ·obtain ⟨p,rfl,h⟩:=h
  have r1:aZ 1 _:=hr.mono (by decide)
  have r2:aZ 2 _:=hr.mono (by decide)
  refine ⟨_,ah (aT (PW.pt (bv (bg (aW (aq bM (by rfl) T.isi ei (ad (pv 0) (ad (bR (v:=.ty "tuple") (by rfl) B.tuple cI rfl) af))))) <|
    bv (az gY (aq ao (by rfl) B.len PySem.boot_len (ad (pv 0) af)) ag (aB _)) <|
    bJ (az gY (ax aw (pv 0) ag (fun _ _=>rfl)) aM (aB _)))) (ak (ay bE)) aE) <|
   ak <| ay <| bw (aj Fw r2 (ad (ax aw (pv 0) ag (fun _ _=>rfl)) (ad ag af))) <| bw (aj Fn r1 (ad (ax aw (pv 0) ag (fun _ _=>rfl)) af)) <|
    bw (aj Fb hr (ad (ax aw (pv 0) ag (fun _ _=>rfl)) af)) <| bV (aj Fr r2 (ad (ax aw (pv 0) ag (fun _ _=>rfl)) af)),?_⟩
  rcases h with ⟨t,x,b,y,vs,cs,ls,ys,C,q⟩ | ⟨xs,hp,hl,q⟩
  ·have hp:=C.ob
   obtain ⟨o,hbn,hbt⟩:=qO C.bn C.nb
   have hpt:=kB C.yt C.yl C.yn
   have hrt:=eC C.yn C.yr
   refine ⟨_,rfl,_,_,"tuple",true,rfl,Kd.tup (.inl hp),aV,_,rfl,aN ?_⟩
   refine ⟨_,rfl,p,_,rfl,.inr (SqT.of hp),rfl,_,rfl,pS rfl ?_⟩
   refine ⟨_,rfl,p,_,_,_,rfl,rfl,SqT.of hp,at0,rfl,_,rfl,?_⟩
   rw [decide_eq_true rfl]
   refine aN ?_
   have hf:K84P.eB 1 (.int t)=true:=decide_eq_true C.t1
   have hnm:K84P.nmB (.str x)=true:=K84P.ge (nmP C.nx)
   refine ⟨_,rfl,p,_,_,_,rfl,rfl,SqT.of hp,at1,.int t,1,rfl,⟨.inl rfl,fun z e=>by cases e⟩,?_⟩
   rw [hf]
   refine ⟨_,rfl,aQ ?_⟩
   refine ⟨_,rfl,p,_,_,_,rfl,rfl,SqT.of hp,at2,.str x,rfl,K84P.Im.nm (nmP C.nx),fun H1 s1=>?_⟩
   rw [hnm]
   refine ⟨_,rfl,aQ ?_⟩
   refine ⟨_,rfl,p,_,_,_,rfl,rfl,SqT.of (s1 _ _ hp),aK (j:=3) rfl,.ref b,o,rfl,hbn.same s1,fun H2 s2=>?_⟩
   rw [hbt]
   have s2:=s1.trans s2
   refine ⟨_,rfl,aQ ?_⟩
   refine ⟨_,rfl,p,_,_,_,rfl,rfl,SqT.of (s2 _ _ hp),aK (j:=4) rfl,.ref y,_,rfl,hpt.same s2,fun H3 s3=>?_⟩
   rw [hrt]
   exact q _ (s2.trans s3)
  ·refine ⟨_,rfl,_,_,"tuple",true,rfl,Kd.tup (.inl hp),aV,_,rfl,aN ?_⟩
   refine ⟨_,rfl,p,_,rfl,.inr (SqT.of hp),rfl,_,rfl,?_⟩
   rw [hl]
   refine bD (fun _=>q) (fun z=>absurd rfl z)
theorem scSP:aH ["thing"] ["thing"] (ai sSP):=fsc (by decide +kernel)
theorem ndSP:((["thing"]:List Str) ++ (["entry"]:List Str)).Nodup:=by decide +kernel
theorem ok_sp {f:Addr} {fd:FuncData} (F:Fun K "is_settled_paper" "is_settled_paper" sSP f fd) (B:Blt mg) (T:Bl2 mg) (Fw:aL P w K mg base 2 "is_whole_from" ["thing","least"] K84P.gj) (Fn:aL P w K mg base 1 "is_name" ["thing"] K84P.lF)
  (Fb:aL P w K mg base 3 "is_bench" ["thing"] K84P.kA) (Fr:aL P w K mg base 2 "is_rising_names" ["thing"] K84P.io) (Fe:aL P w K mg base 6 "is_entry" ["thing"] K84P.iq):a7 P w K mg base CX0 7 f fd ["thing"] spSP:=by
 refine F.ok scSP (fun us H Q E h=>?_) (fun cdv A outer s H us Q E hr h=>?_)
 ·obtain ⟨p,rfl,_⟩:=h
  rfl
 ·obtain ⟨p,rfl,h⟩:=h
  have r1:aZ 1 _:=hr.mono (by decide)
  have r2:aZ 2 _:=hr.mono (by decide)
  have r3:aZ 3 _:=hr.mono (by decide)
  refine ⟨_,ah (aT (PW.pt (bv (bg (aW (aq bM (by rfl) T.isi ei (ad (pv 0) (ad (bR (v:=.ty "tuple") (by rfl) B.tuple cI rfl) af))))) <|
    bv (az gY (aq ao (by rfl) B.len PySem.boot_len (ad (pv 0) af)) ag (aB _)) <|
    bJ (az gY (ax aw (pv 0) ag (fun _ _=>rfl)) aM (aB _)))) (ak (ay bE)) aE) <|
   ah (aT (PW.pt (bv (bg (aW (aj Fw r2 (ad (ax aw (pv 0) ag (fun _ _=>rfl)) (ad ag af))))) <|
    bv (bg (aW (aj Fn r1 (ad (ax aw (pv 0) ag (fun _ _=>rfl)) af)))) <|
    bJ (bg (aW (aj Fw r2 (ad (ax aw (pv 0) ag (fun _ _=>rfl)) (ad ag af))))))) (ak (ay bE)) aE) <|
   ah (aT (PW.pt (bv (bg (aW (aq bM (by rfl) T.isi ei (ad (ax aw (pv 0) ag (fun _ _=>rfl)) (ad (bR (v:=.ty "tuple") (by rfl) B.tuple cI rfl) af))))) <|
    bv (az bL (aq ao (by rfl) B.len PySem.boot_len (ad (ax aw (pv 0) ag (fun _ _=>rfl)) af)) ag (aB _)) <|
    bJ (bg (aW (aq (dl rfl) (by rfl) T.all oz (ad (cE ["thing"] ["thing"] ["entry"] (ai sSP) rfl rfl rfl (by decide +kernel) rfl rfl (by decide +kernel) (by decide +kernel) (by decide +kernel) (by decide +kernel)
     (db (ax aw (pv 0) ag (fun _ _=>rfl))) (fun _ _ _ _ _=>aJ (i:=1) ndSP rfl (Or.inl rfl)) (fun _ _ _ _ _=>bU) (fun _ _ _ _ _=>aj (X:=cxC _ _ _ _ _ _ _ _ _) Fe hr (ad (pv 1) af))) af)))))) (ak (ay bE)) aE) <|
   ak <| ay <| bw (aj Fb r3 (ad (ax aw (pv 0) ag (fun _ _=>rfl)) af)) <| bV (aj Fr r2 (ad (ax aw (pv 0) ag (fun _ _=>rfl)) af)),?_⟩
  rcases h with ⟨t,x,n,e,as,b,y,vs,cs,ls,ys,C,q⟩ | ⟨xs,hp,hl,q⟩
  rotate_left
  ·refine ⟨_,rfl,_,_,"tuple",true,rfl,Kd.tup (.inl hp),aV,_,rfl,aN ?_⟩
   refine ⟨_,rfl,p,_,rfl,.inr (SqT.of hp),rfl,_,rfl,?_⟩
   rw [hl]
   refine bD (fun _=>q) (fun z=>absurd rfl z)
  have hp:=C.ob
  obtain ⟨o,hbn,hbt⟩:=qO C.bn C.nb
  have hpt:=kB C.yt C.yl C.yn
  have hrt:=eC C.yn C.yr
  have hf:K84P.eB 1 (.int t)=true:=decide_eq_true C.t1
  have hf3:K84P.eB 1 (.int n)=true:=decide_eq_true C.n1
  have hnm:K84P.nmB (.str x)=true:=K84P.ge (nmP C.nx)
  refine ⟨_,rfl,_,_,"tuple",true,rfl,Kd.tup (.inl hp),aV,_,rfl,aN ?_⟩
  refine ⟨_,rfl,p,_,rfl,.inr (SqT.of hp),rfl,_,rfl,pS rfl ?_⟩
  refine ⟨_,rfl,p,_,_,_,rfl,rfl,SqT.of hp,at0,rfl,_,rfl,?_⟩
  rw [decide_eq_true rfl]
  refine aN ?_
  refine ⟨_,rfl,p,_,_,_,rfl,rfl,SqT.of hp,at1,.int t,1,rfl,⟨.inl rfl,fun z e=>by cases e⟩,?_⟩
  rw [hf]
  refine ⟨_,rfl,aN ?_⟩
  refine ⟨_,rfl,p,_,_,_,rfl,rfl,SqT.of hp,at2,.str x,rfl,K84P.Im.nm (nmP C.nx),fun H1 s1=>?_⟩
  rw [hnm]
  refine ⟨_,rfl,aN ?_⟩
  refine ⟨_,rfl,p,_,_,_,rfl,rfl,SqT.of (s1 _ _ hp),aK (j:=3) rfl,.int n,1,rfl,⟨.inl rfl,fun z e=>by cases e⟩,?_⟩
  rw [hf3]
  refine ⟨_,rfl,aN ?_⟩
  have he:=s1 _ _ C.et
  refine ⟨_,rfl,p,_,_,_,rfl,rfl,SqT.of (s1 _ _ hp),aK (j:=4) rfl,_,_,"tuple",true,rfl,Kd.tup (.inl he),aV,_,rfl,aN ?_⟩
  refine ⟨_,rfl,p,_,_,_,rfl,rfl,SqT.of (s1 _ _ hp),aK (j:=4) rfl,e,_,rfl,.inr (SqT.of he),rfl,_,rfl,?_⟩
  have hl0:¬ V.int (((as.map V.ref).length:Nat):Int)=V.int 0:=fun z=>by
   injection z with z
   rw [List.length_map] at z
   have:=C.ne
   cases as with
   | nil=>exact this rfl
   | cons a r=>rw [List.length_cons] at z; omega
  rw [decide_eq_false hl0]
  refine aN ?_
  refine ⟨_,rfl,p,_,_,_,rfl,rfl,SqT.of (s1 _ _ hp),aK (j:=4) rfl,e,rfl,⟨_,SqT.of he⟩,?_⟩
  refine qg (fun _=>V.bl true) rfl he (by rw [List.length_map]; have:=C.el; omega) (fun D x' ys' H2 post hD hx sm hDD hpost=>?_) (fun D H2 hD sm eD=>?_)
  ·obtain ⟨a,ha,rfl⟩:=List.mem_map.mp hx
   exact ⟨_,rfl,.ref a,true,rfl,(C.ee a ha).same (s1.trans sm),fun H3 s3=>hpost _ s3⟩
  have eD:H2 D=some (.lst ((List.replicate as.length true).map V.bl)):=eD.trans (by
   rw [List.map_map,List.map_replicate]
   congr 2
   exact (List.map_const' ..).trans rfl)
  refine ⟨D,_,rfl,SqL.of eD,?_⟩
  have ea:(List.replicate as.length true).all id=true:=by
   rw [List.all_eq_true]
   intro z hz
   rw [List.eq_of_mem_replicate hz]
   rfl
  rw [ea]
  refine ⟨_,rfl,aN ?_⟩
  have s2:=s1.trans sm
  refine ⟨_,rfl,p,_,_,_,rfl,rfl,SqT.of (s2 _ _ hp),aK (j:=5) rfl,.ref b,o,rfl,hbn.same s2,fun H3 s3=>?_⟩
  rw [hbt]
  have s3:=s2.trans s3
  refine ⟨_,rfl,aQ ?_⟩
  refine ⟨_,rfl,p,_,_,_,rfl,rfl,SqT.of (s3 _ _ hp),aK (j:=6) rfl,.ref y,_,rfl,hpt.same s3,fun H4 s4=>?_⟩
  rw [hrt]
  exact q _ (s3.trans s4)
end
abbrev jd:Stmt:=top 31
def iI (xs:List Str):PyData:=.tuple (xs.map PyData.str)
def dP (vs cs ls:List Str):PyData:=.tuple [iI vs,iI cs,iI ls]
theorem okc_mem {c:Nat} (h:okc c=true):c ∈ ABC.cps.toList:=by
 unfold okc at h
 rw [StrLaws.found_one] at h
 exact of_decide_eq_true h
theorem oJ:∀ c ∈ ABC.cps.toList,c < 1114112:=by decide +kernel
theorem je {x:Str} (h:Nm x):PyData.strOk x=true:=by
 unfold PyData.strOk
 rw [<- Array.all_toList,List.all_eq_true]
 exact fun c hc=>decide_eq_true (oJ c (okc_mem (h.ok c hc)))
theorem kC:∀ xs:List Str,(∀ x ∈ xs,Nm x) -> PyData.canLayAll0 (xs.map PyData.str)=true
 | [],_=>by simp [PyData.canLayAll0]
 | x :: r,h=>by simp [PyData.canLayAll0,PyData.canLay0,je (h x (List.mem_cons_self ..)),kC r fun y hy=>h y (List.mem_cons_of_mem _ hy)]
theorem bQ:∀ xs:List Str,PyData.depthAll (xs.map PyData.str) <= 1
 | []=>by simp [PyData.depthAll]
 | x :: r=>by
  have:=bQ r
  simp [PyData.depthAll,PyData.depth]
  omega
theorem kD {H:Hp}:∀ xs:List Str,RdsAll H (xs.map V.str) (xs.map PyData.str)
 | []=>.nil
 | x :: r=>.cons (.str x) (kD r)
theorem jR {H:Hp} {t:Addr} {xs:List Str} (h:H t=some (.tup (xs.map V.str))) (n:∀ x ∈ xs,Nm x):Dt H (.ref t) (iI xs):=by
 refine ⟨.tup h (kD xs),?_,?_⟩
 ·unfold iI
  simp [PyData.canLay0,kC xs n]
 ·unfold iI
  have:=bQ xs
  simp [PyData.depth]
  omega
theorem kE {H:Hp} {b v c l:Addr} {vs cs ls:List Str} (h:H b=some (.tup [.ref v,.ref c,.ref l])) (h1:H v=some (.tup (vs.map V.str))) (h2:H c=some (.tup (cs.map V.str))) (h3:H l=some (.tup (ls.map V.str))) (n:Nms vs cs ls):Dt H (.ref b) (dP vs cs ls):=by
 have d1:=jR h1 n.1
 have d2:=jR h2 n.2.1
 have d3:=jR h3 n.2.2
 refine ⟨.tup h (.cons d1.rds (.cons d2.rds (.cons d3.rds .nil))),?_,?_⟩
 ·unfold dP
  simp [PyData.canLay0,PyData.canLayAll0,d1.can,d2.can,d3.can]
 ·unfold dP
  have e1:=bQ vs
  have e2:=bQ cs
  have e3:=bQ ls
  simp [PyData.depth,PyData.depthAll,iI]
  omega
theorem kF:∀ xs ys:List Str,PyData.eqvAll (xs.map PyData.str) (ys.map PyData.str)=decide (xs=ys)
 | [],[]=>by simp [PyData.eqvAll]
 | [],y :: r=>by simp [PyData.eqvAll]
 | x :: r,[]=>by simp [PyData.eqvAll]
 | x :: r,y :: s=>by
  rw [List.map_cons,List.map_cons]
  simp only [PyData.eqvAll,PyData.eqv,kF r s]
  by_cases h:x=y <;> by_cases h2:r=s <;> simp [h,h2]
theorem cP (vs cs ls vs' cs' ls':List Str):PyData.eqv (dP vs cs ls) (dP vs' cs' ls')=decide (vs=vs' /\ cs=cs' /\ ls=ls'):=by
 unfold dP iI
 simp only [PyData.eqv,PyData.eqvAll,kF]
 by_cases h1:vs=vs' <;> by_cases h2:cs=cs' <;> by_cases h3:ls=ls' <;> simp [h1,h2,h3]
theorem bI.dt {H:Hp} {b:Addr} {vs cs ls:List Str} (h:bI H b vs cs ls) (n:Nms vs cs ls):Dt H (.ref b) (dP vs cs ls):=by
 obtain ⟨⟨v,c,l,b1,b2,b3,b4⟩,_⟩:=h
 exact kE b1 b2 b3 b4 n
def eE (vs cs ls vs' cs' ls':List Str):Bool:=if 0 < cs.length then decide (vs'=cs /\ cs'=[] /\ ls'=ls) else decide (0 < cs'.length) && decide (vs'=vs)
def lI:Sp:=fun us H Q _=>∃ (b o:Addr) (vs cs ls vs' cs' ls':List Str),us=[.ref b,.ref o] /\ bI H b vs cs ls /\ Nms vs cs ls /\ bI H o vs' cs' ls' /\ Nms vs' cs' ls' /\ ∀ H',aA H H' -> Q (.bl (eE vs cs ls vs' cs' ls')) H'
section
variable {P:Program} {w:World} {K:PySem.W.Frag} {mg:Str -> Option Value} {base:Heap}
theorem scStep:aH ["bench","other"] ["bench","other"] (ai jd):=fsc (by decide +kernel)
theorem ok_step {f:Addr} {fd:FuncData} (F:Fun K "is_step" "is_step" jd f fd) (Fj:aL P w K mg base 1 "is_joined" ["bench"] cj) (Fb:aL P w K mg base 2 "behind" ["bench"] qA):a7 P w K mg base CX0 3 f fd ["bench","other"] lI:=by
 refine F.ok scStep (fun us H Q E h=>?_) (fun cdv A outer s H us Q E hr h=>?_)
 ·obtain ⟨b,o,vs,cs,ls,vs',cs',ls',rfl,_⟩:=h
  rfl
 ·obtain ⟨b,o,vs,cs,ls,vs',cs',ls',rfl,hB,nB,hO,nO,q⟩:=h
  have r1:aZ 1 _:=hr.mono (by decide)
  have hu64:=hr.units
  refine ⟨_,ah (aT (aW (aj Fj r1 (ad (pv 0) af))) (ak (ay (ba (ig hu64) (pv 1) (aj Fb hr (ad (pv 0) af)) (aB _)))) aE) <|
   ak <| ay <| bw (aj Fj r1 (ad (pv 1) af)) <| bV <| ba (mK (Nat.lt_of_le_of_lt (Nat.add_le_add_left (show 1 <= 64 by decide) _) hu64)) (ax aw (pv 1) ag (fun _ _=>rfl)) (ax aw (pv 0) ag (fun _ _=>rfl)) (aB _),?_⟩
  obtain ⟨⟨v,c,l,b1,b2,b3,b4⟩,_⟩:=id hB
  obtain ⟨⟨v',c',l',o1,o2,o3,o4⟩,_⟩:=id hO
  refine ⟨_,rfl,b,v,c,l,cs,rfl,b1,b3,_,rfl,?_⟩
  have hq:=q
  unfold eE at hq
  by_cases hc:0 < cs.length
  ·rw [decide_eq_true hc]
   rw [if_pos hc] at hq
   refine aQ ?_
   refine ⟨_,rfl,_,rfl,b,vs,cs,ls,rfl,hB,fun e=>?_,fun t H1 s1 hT=>?_⟩
   ·rw [e] at hc; exact absurd hc (by decide)
   refine ⟨_,_,(hO.same s1).dt nO,hT.dt ⟨nB.2.1,fun x hx=>(nomatch hx),nB.2.2⟩,?_⟩
   rw [cP]
   exact hq _ s1
  ·rw [decide_eq_false hc]
   rw [if_neg hc] at hq
   refine aN ?_
   refine ⟨_,rfl,o,v',c',l',cs',rfl,o1,o3,_,rfl,?_⟩
   by_cases hc':0 < cs'.length
   ·rw [decide_eq_true hc']
    rw [decide_eq_true hc',Bool.true_and] at hq
    refine aQ ?_
    exact ⟨_,rfl,o,_,_,_,rfl,rfl,SqT.of o1,at0,_,rfl,b,_,_,_,rfl,rfl,SqT.of b1,at0,v',v,vs',vs,rfl,rfl,SqT.of o2,SqT.of b2,hq _ (aA.refl _)⟩
   ·rw [decide_eq_false hc']
    rw [decide_eq_false hc',Bool.false_and] at hq
    exact aN (hq _ (aA.refl _))
end
abbrev jf:Stmt:=cX (top 38) 0
abbrev fm:Stmt:=cX (top 38) 1
abbrev eR:Stmt:=cX (top 38) 2
abbrev jg:Stmt:=cX (top 38) 3
abbrev gk:Stmt:=cX (top 38) 4
abbrev jh:Stmt:=cX (top 38) 5
abbrev gl:Stmt:=cX (top 38) 6
def eF (bl ch en:Addr):List (Str × V):=cV "entries" (.ref en) (cV "chairs" (.ref ch) (cV "benches" (.ref bl) []))
theorem ne_bc:¬ (("benches":Str)="chairs"):=by decide +kernel
theorem ne_be:¬ (("benches":Str)="entries"):=by decide +kernel
theorem ne_ce:¬ (("chairs":Str)="entries"):=by decide +kernel
theorem lJ (bl ch en:Addr):(eF bl ch en).lookup ("benches":Str)=some (.ref bl):=by
 unfold eF
 rw [bj,if_neg ne_be,bj,if_neg ne_bc,bj,if_pos rfl]
theorem ir (bl ch en:Addr):(eF bl ch en).lookup ("chairs":Str)=some (.ref ch):=by
 unfold eF
 rw [bj,if_neg ne_ce,bj,if_pos rfl]
theorem iu (bl ch en:Addr):(eF bl ch en).lookup ("entries":Str)=some (.ref en):=by
 unfold eF
 rw [bj,if_pos rfl]
theorem gL (bl ch en:Addr) {m:Str} (h1:¬ m="entries") (h2:¬ m="chairs") (h3:¬ m="benches"):(eF bl ch en).lookup m=none:=by
 unfold eF
 rw [bj,if_neg h1,bj,if_neg h2,bj,if_neg h3]
 rfl
structure Cl (K:PySem.W.Frag) (mg:Str -> Option Value) (C:Addr):Prop where
 cl:Cls K C
 nB:dB K C "benches"
 nC:dB K C "chairs"
 nE:dB K C "entries"
 mgC:mg "Overlook"=some (.ref C)
abbrev Tri:=List Str × List Str × List Str
def BnO (H:Hp) (b:Addr) (t:Tri):Prop:=bI H b t.1 t.2.1 t.2.2 /\ Nms t.1 t.2.1 t.2.2
theorem BnO.same {H H':Hp} {b:Addr} {t:Tri} (e:aA H H') (h:BnO H b t):BnO H' b t:=⟨h.1.same e,h.2⟩
structure cN (C:Addr) (H:Hp) (o bl ch en:Addr) (bs:List Addr) (ts:List Tri) (kvs:List (Key × V)) (es:List Addr):Prop where
 ob:∃ dx,H o=some (.ins C dx (eF bl ch en))
 lb:H bl=some (.lst (bs.map V.ref))
 bt:Paired (BnO H) bs ts
 dc:H ch=some (.dK kvs)
 te:H en=some (.tup (es.map V.ref))
theorem cN.same {C:Addr} {H H':Hp} {o bl ch en:Addr} {bs:List Addr} {ts:List Tri} {kvs:List (Key × V)} {es:List Addr} (e:aA H H') (h:cN C H o bl ch en bs ts kvs es):cN C H' o bl ch en bs ts kvs es:=by
 obtain ⟨⟨dx,h1⟩,h2,h3,h4,h5⟩:=h
 exact ⟨⟨dx,e _ _ h1⟩,e _ _ h2,Paired.imp' (fun _ _ h=>h.same e) h3,e _ _ h4,e _ _ h5⟩
def aX (ts:List Tri) (t:Tri):Bool:=ts.any fun k=>decide (t=k) || eE k.1 k.2.1 k.2.2 t.1 t.2.1 t.2.2
def BtO (o:Addr) (H H':Hp):Prop:=∀ b u,b ≠ o -> H b=some u -> H' b=some u
theorem BnO.bt {o:Addr} {H H':Hp} {b:Addr} {t:Tri} {C dx:Addr} {fs:List (Str × V)} (e:BtO o H H') (ho:H o=some (.ins C dx fs)) (h:BnO H b t):BnO H' b t:=by
 obtain ⟨⟨⟨v,c,l,h1,h2,h3,h4⟩,r⟩,n⟩:=h
 have k:∀ {a:Addr} {xs:List V},H a=some (.tup xs) -> H' a=some (.tup xs):=fun q=>e _ _ (bp q ho (by intro z; cases z)) q
 exact ⟨⟨⟨v,c,l,k h1,k h2,k h3,k h4⟩,by assumption,by assumption,by assumption,by assumption,by assumption,by assumption,by assumption,by assumption⟩,n⟩
def lK (C:Addr):Sp:=fun us H Q _=>∃ (o dx b:Addr) (t:Tri),us=[.ref o,.ref b] /\ H o=some (.ins C dx []) /\ BnO H b t /\ ∀ (bl ch en:Addr) (H':Hp),H bl=none -> H ch=none -> H en=none -> BtO o H H' -> cN C H' o bl ch en [b] [t] [] [] -> Q .non H'
def gM (C:Addr):Sp:=fun us H Q _=>∃ (o bl ch en b:Addr) (bs:List Addr) (ts:List Tri) (kvs:List (Key × V)) (es:List Addr) (t:Tri),us=[.ref o,.ref b] /\ cN C H o bl ch en bs ts kvs es /\ bs.length <= 900 /\ BnO H b t /\ ∀ H',aA H H' -> Q (.bl (aX ts t)) H'
section
variable {P:Program} {w:World} {K:PySem.W.Frag} {mg:Str -> Option Value} {base:Heap} {C:Addr}
theorem scInit:aH ["self","bench"] ["self","bench"] (ai jf):=fsc (by decide +kernel)
theorem ok_init {f:Addr} {fd:FuncData} (F:Fun K "__init__" "Overlook.__init__" jf f fd) (T:Cl K mg C):a7 P w K mg base CX0 1 f fd ["self","bench"] (lK C):=by
 refine F.ok scInit (fun vs H Q E h=>?_) (fun cdv A outer s H vs Q E hr h=>?_)
 ·obtain ⟨o,dx,b,t,rfl,_⟩:=h
  rfl
 ·obtain ⟨o,dx,b,t,rfl,hO,hb,q⟩:=h
  have hs16:sizeLine=16777216:=sizeLine_eq
  refine ⟨_,ah (jv (pv 0) (bO (ad (pv 1) af)) rfl) <| ah (jv (pv 0) pM rfl) <| ak (jv (pv 0) (aG af) rfl),?_⟩
  refine ⟨_,rfl,(show 1 <= sizeLine by omega),fun bl H1 nb s1 e1=>?_⟩
  refine ⟨_,rfl,o,C,dx,[],rfl,s1 _ _ hO,T.cl,T.nB,(by show 0 < 1000; decide),?_⟩
  have n1:bl ≠ o:=fun e=>by rw [e,hO] at nb; cases nb
  intro ch nc
  have n2:ch ≠ o:=(am ar nc).symm
  have n2b:ch ≠ bl:=fun e=>by rw [e,au n1,e1] at nc; cases nc
  refine ⟨_,rfl,o,C,dx,_,rfl,(by rw [au n2.symm]; exact ar),T.cl,T.nC,(by show 1 < 1000; decide),?_⟩
  refine ⟨Nat.zero_le _,fun en H2 ne s2 e2=>?_⟩
  refine ⟨_,rfl,o,C,dx,_,rfl,s2 _ _ ar,T.cl,T.nE,(by show 2 < 1000; decide),?_⟩
  have n3:en ≠ o:=(am ar ne).symm
  have nc1:H1 ch=none:=by rw [au n2] at nc; exact nc
  have nch:H ch=none:=s1.none nc1
  have nen:H en=none:=by
   refine s1.none ?_
   rw [au n3] at ne
   by_cases h:en=ch
   ·rw [h,ar] at ne; cases ne
   ·rw [au h,au n3] at ne; exact ne
  have bt:BtO o H (upd H2 o (.ins C dx (eF bl ch en))):=fun b' u hb' e=>by
   rw [au hb']
   refine s2 _ _ ?_
   rw [au hb',au (am e nch),au hb']
   exact s1 _ _ e
  refine q bl ch en _ nb nch nen bt ⟨⟨dx,ar⟩,?_,.cons (hb.bt bt hO) .nil,?_,?_⟩
  ·rw [au n1]
   refine s2 _ _ ?_
   rw [au n1,au n2b.symm,au n1]
   exact e1
  ·rw [au n2]
   refine s2 _ _ ?_
   rw [au n2]
   exact ar
  ·rw [au n3]
   exact e2
theorem scKnown:aH ["self","bench"] ["self","bench"] (ai fm):=fsc (by decide +kernel)
theorem ndKn:((["self","bench"]:List Str) ++ (["known"]:List Str)).Nodup:=by decide +kernel
theorem qP {f:Addr} {fd:FuncData} (F:Fun K "is_known" "Overlook.is_known" fm f fd) (T:Cl K mg C) (hany:mg "any"=none) (Fs:aL P w K mg base 3 "is_step" ["bench","other"] lI):a7 P w K mg base CX0 4 f fd ["self","bench"] (gM C):=by
 refine F.ok scKnown (fun vs H Q E h=>?_) (fun cdv A outer s H vs Q E hr h=>?_)
 ·obtain ⟨o,bl,ch,en,b,bs,ts,kvs,es,t,rfl,_⟩:=h
  rfl
 ·obtain ⟨o,bl,ch,en,b,bs,ts,kvs,es,t,rfl,hO,hl,hb,q⟩:=h
  have hu64:=hr.units
  obtain ⟨⟨dx,h1⟩,h2,h3,h4,h5⟩:=id hO
  refine ⟨_,ak (ay (aq (iY rfl) (by rfl) hany bAny (ad (cE ["self","bench"] ["self","bench"] ["known"] (ai fm) rfl rfl rfl (by decide +kernel) rfl rfl (by decide +kernel) (by decide +kernel) (by decide +kernel) (by decide +kernel)
    (cW (cG (pv 0) rfl)) (fun _ _ _ _ _=>aJ (i:=2) ndKn rfl (Or.inl rfl)) (fun _ _ _ _ _=>bU)
    (fun _ _ _ _ _=>pe_or (ba (ig hu64) (pv 1) (pv 2) (aB _)) (bV (aj (X:=cxC _ _ _ _ _ _ _ _ _) Fs hr (ad (pv 2) (ad (pv 1) af)))))) af))),?_⟩
  refine ⟨_,rfl,o,C,dx,_,_,rfl,h1,T.cl,T.nB,lJ _ _ _,bl,rfl,⟨_,SqL.of h2⟩,?_⟩
  have hbl:bs.length=ts.length:=Paired.length h3
  refine lcG (β:=Addr × Tri) (fun z=>V.ref z.1) (fun _=>true) (xs:=bs.zip ts) (fun D z u H=>u=.bl (decide (t=z.2) || eE z.2.1 z.2.2.1 z.2.2.2 t.1 t.2.1 t.2.2)) (fun D x y Ha Hb e h=>h) rfl ?_ ?_ (fun D x ys Ha post _ _ _ _ h=>h _ (aA.refl _)) (fun D x ys Ha post hD hx _ sa ha hp=>?_) (fun D H1 us hD s1 hD1 hP=>?_)
  ·rw [h2]
   have:=Paired.fst h3
   rw [<- this,List.map_map]
   congr 1
   rw [this]
   rfl
  ·rw [List.length_zip]; omega
  ·have hx':=(Paired.zip h3 x hx).same sa
   have hb':=hb.same sa
   refine ⟨_,rfl,_,rfl,_,_,hb'.1.dt hb'.2,hx'.1.dt hx'.2,?_⟩
   rw [cP]
   have et:decide (t.1=x.2.1 /\ t.2.1=x.2.2.1 /\ t.2.2=x.2.2.2)=decide (t=x.2):=by
    rw [Bool.eq_iff_iff,decide_eq_true_iff,decide_eq_true_iff]
    exact ⟨fun h=>Prod.ext h.1 (Prod.ext h.2.1 h.2.2),fun h=>by rw [h]; exact ⟨rfl,rfl,rfl⟩⟩
   rw [et]
   cases hd:decide (t=x.2) with
   | true=>exact ⟨_,rfl,aQ (hp _ _ (aA.refl _) (by rw [hd]; rfl))⟩
   | false =>
    refine ⟨_,rfl,aN ?_⟩
    exact ⟨_,rfl,_,rfl,x.1,b,_,_,_,_,_,_,rfl,hx'.1,hx'.2,hb'.1,hb'.2,fun H' s'=>hp _ _ s' (by rw [hd]; rfl)⟩
  ·rw [List.filter_eq_self.mpr (fun _ _=>rfl)] at hP
   have hus:∀ {us:List V} {zs:List (Addr × Tri)},Paired (fun u z=>u=.bl (decide (t=z.2) || eE z.2.1 z.2.2.1 z.2.2.2 t.1 t.2.1 t.2.2)) us zs -> us=(zs.map fun z=>decide (t=z.2) || eE z.2.1 z.2.2.1 z.2.2.2 t.1 t.2.1 t.2.2).map V.bl:=by
    intro us zs h
    induction h with
    | nil=>rfl
    | cons h _ ih=>rw [h,ih]; rfl
   rw [hus hP] at hD1
   refine ⟨D,_,rfl,SqL.of hD1,?_⟩
   have ea:((bs.zip ts).map fun z=>decide (t=z.2) || eE z.2.1 z.2.2.1 z.2.2.2 t.1 t.2.1 t.2.2).any id=aX ts t:=by
    have e2:(bs.zip ts).map Prod.snd=ts:=List.map_snd_zip (by omega)
    unfold aX
    rw [List.any_map]
    conv=>rhs; rw [<- e2,List.any_map]
    rfl
   rw [ea]
   exact q _ s1
end
theorem BnO.keep {H H':Hp} {b:Addr} {t:Tri} (k:∀ {a:Addr} {xs:List V},H a=some (.tup xs) -> H' a=some (.tup xs)) (h:BnO H b t):BnO H' b t:=by
 obtain ⟨⟨⟨v,c,l,h1,h2,h3,h4⟩,r⟩,n⟩:=h
 exact ⟨⟨⟨v,c,l,k h1,k h2,k h3,k h4⟩,by assumption,by assumption,by assumption,by assumption,by assumption,by assumption,by assumption,by assumption⟩,n⟩
def Tk (H H':Hp):Prop:=∀ a xs,H a=some (.tup xs) -> H' a=some (.tup xs)
theorem Tk.of {H H':Hp} (s:aA H H'):Tk H H':=fun a xs e=>s _ _ e
theorem Tk.trans {H H1 H2:Hp} (a:Tk H H1) (b:Tk H1 H2):Tk H H2:=fun c xs e=>b c xs (a c xs e)
theorem BnO.tk {H H':Hp} {b:Addr} {t:Tri} (k:Tk H H') (h:BnO H b t):BnO H' b t:=h.keep fun e=>k _ _ e
inductive WkG (H:Hp) (a:Addr):Prop
 | put {k x:Str} {z:Int}:k="put" \/ k="add" -> H a=some (.tup [.str k,.str x,.int z]) -> Nm x -> -(10 ^ 60) < z -> z < 10 ^ 60 -> WkG H a
 | drop {x:Str}:H a=some (.tup [.str "drop",.str x]) -> Nm x -> WkG H a
inductive DdG (H:Hp) (a:Addr):Prop
 | first:H a=some (.tup [.str "first"]) -> DdG H a
 | bench {b:Addr} {t:Tri}:H a=some (.tup [.str "bench",.ref b]) -> BnO H b t -> DdG H a
 | ask {x:Str} {n:Int} {w:Addr}:H a=some (.tup [.str "ask",.str x,.int n,.ref w]) -> Nm x -> 1 <= n -> WkG H w -> DdG H a
def EnG (H:Hp) (a:Addr) (t:Int):Prop:=1 <= t /\ ∃ d:Addr,H a=some (.tup [.int t,.ref d]) /\ DdG H d
theorem WkG.tk {H H':Hp} {a:Addr} (k:Tk H H') (h:WkG H a):WkG H' a:=by
 cases h with
 | put h1 h2 h3 h4 h5=>exact .put h1 (k _ _ h2) h3 h4 h5
 | drop h1 h2=>exact .drop (k _ _ h1) h2
theorem DdG.tk {H H':Hp} {a:Addr} (k:Tk H H') (h:DdG H a):DdG H' a:=by
 cases h with
 | first h=>exact .first (k _ _ h)
 | bench h1 h2=>exact .bench (k _ _ h1) (h2.tk k)
 | ask h1 h2 h3 h4=>exact .ask (k _ _ h1) h2 h3 (h4.tk k)
theorem EnG.tk {H H':Hp} {a:Addr} {t:Int} (k:Tk H H') (h:EnG H a t):EnG H' a t:=by
 obtain ⟨h1,d,h2,h3⟩:=h
 exact ⟨h1,d,k _ _ h2,h3.tk k⟩
theorem lL {H:Hp} {x:Str} (h:Nm x):K84P.Im H (.str x):=K84P.Im.nm (nmP h)
theorem lN {H:Hp} (z:Int):K84P.Im H (.int z):=⟨.inl rfl,fun z e=>by cases e⟩
theorem WkG.at {H:Hp} {a:Addr} (h:WkG H a):∃ o,K84P.WAt H (.ref a) o /\ K84P.wkB o=true:=by
 cases h with
 | @put k x z h1 h2 h3 h4 h5 =>
  refine ⟨_,.tup h2 (by show 3 <= 60; decide) fun v hv=>?_,?_⟩
  ·simp only [List.mem_cons,List.not_mem_nil,or_false] at hv
   rcases hv with rfl | rfl | rfl
   ·exact ⟨K84P.Im.str (by rcases h1 with rfl | rfl <;> decide),fun i e=>by cases e⟩
   ·exact ⟨lL h3,fun i e=>by cases e⟩
   ·exact ⟨lN z,fun i e=>by cases e; exact ⟨h4,h5⟩⟩
  ·show (K84P.nmB (.str x) && ((decide (V.str k=.str "put") || decide (V.str k=.str "add")) && K84P.fk (.int z)))=true
   rw [K84P.ge (nmP h3)]
   rcases h1 with rfl | rfl
   ·rw [decide_eq_true rfl]; rfl
   ·rw [decide_eq_true (p:=V.str (Str.ofString "add")=.str "add") rfl,Bool.or_true]; rfl
 | @drop x h1 h2 =>
  refine ⟨_,.tup h1 (by show 2 <= 60; decide) fun v hv=>?_,?_⟩
  ·simp only [List.mem_cons,List.not_mem_nil,or_false] at hv
   rcases hv with rfl | rfl
   ·exact ⟨K84P.Im.str (by decide),fun i e=>by cases e⟩
   ·exact ⟨lL h2,fun i e=>by cases e⟩
  ·show (K84P.nmB (.str x) && decide (V.str (Str.ofString "drop")=.str "drop"))=true
   rw [K84P.ge (nmP h2),decide_eq_true rfl]
   rfl
theorem DdG.at {H:Hp} {a:Addr} (h:DdG H a):K84P.DdV H (.ref a) true:=by
 cases h with
 | first h =>
  have:=K84P.DdV.first (H:=H) (a:=a) (r:=[]) h (by decide)
  exact this
 | @bench b t h1 h2 =>
  obtain ⟨o,hbn,hbt⟩:=qO h2.1 h2.2
  have:=K84P.DdV.bench2 h1 hbn
  rw [hbt] at this
  exact this
 | @ask x n w h1 h2 h3 h4 =>
  obtain ⟨o,hw,hwt⟩:=h4.at
  have:=K84P.DdV.ask4 h1 (lL h2) (lN n) hw
  rw [K84P.ge (nmP h2),hwt,show K84P.eB 1 (.int n)=true from decide_eq_true h3] at this
  exact this
theorem EnG.at {H:Hp} {a:Addr} {t:Int} (h:EnG H a t):K84P.EnV H (.ref a) true:=by
 obtain ⟨h1,d,h2,h3⟩:=h
 have:=K84P.EnV.two h2 (lN t) h3.at
 rw [show K84P.eB 1 (.int t)=true from decide_eq_true h1] at this
 exact this
inductive WkD (H:Hp) (a:Addr):PyData -> Prop
 | put {k x:Str} {z:Int}:k="put" \/ k="add" -> H a=some (.tup [.str k,.str x,.int z]) -> Nm x -> -(10 ^ 60) < z -> z < 10 ^ 60 -> WkD H a (.tuple [.str k,.str x,.int z])
 | drop {x:Str}:H a=some (.tup [.str "drop",.str x]) -> Nm x -> WkD H a (.tuple [.str "drop",.str x])
inductive DdD (H:Hp) (a:Addr):PyData -> Prop
 | first:H a=some (.tup [.str "first"]) -> DdD H a (.tuple [.str "first"])
 | bench {b:Addr} {t:Tri}:H a=some (.tup [.str "bench",.ref b]) -> BnO H b t -> DdD H a (.tuple [.str "bench",dP t.1 t.2.1 t.2.2])
 | ask {x:Str} {n:Int} {w:Addr} {d:PyData}:H a=some (.tup [.str "ask",.str x,.int n,.ref w]) -> Nm x -> 1 <= n -> WkD H w d -> DdD H a (.tuple [.str "ask",.str x,.int n,d])
def EnD (H:Hp) (a:Addr) (d:Int × PyData):Prop:=1 <= d.1 /\ ∃ dd:Addr,H a=some (.tup [.int d.1,.ref dd]) /\ DdD H dd d.2
theorem WkD.g {H:Hp} {a:Addr} {d:PyData} (h:WkD H a d):WkG H a:=by
 cases h with
 | put h1 h2 h3 h4 h5=>exact .put h1 h2 h3 h4 h5
 | drop h1 h2=>exact .drop h1 h2
theorem DdD.g {H:Hp} {a:Addr} {d:PyData} (h:DdD H a d):DdG H a:=by
 cases h with
 | first h=>exact .first h
 | bench h1 h2=>exact .bench h1 h2
 | ask h1 h2 h3 h4=>exact .ask h1 h2 h3 h4.g
theorem EnD.g {H:Hp} {a:Addr} {d:Int × PyData} (h:EnD H a d):EnG H a d.1:=by
 obtain ⟨h1,dd,h2,h3⟩:=h
 exact ⟨h1,dd,h2,h3.g⟩
theorem WkG.d {H:Hp} {a:Addr} (h:WkG H a):∃ d,WkD H a d:=by
 cases h with
 | put h1 h2 h3 h4 h5=>exact ⟨_,.put h1 h2 h3 h4 h5⟩
 | drop h1 h2=>exact ⟨_,.drop h1 h2⟩
theorem DdG.d {H:Hp} {a:Addr} (h:DdG H a):∃ d,DdD H a d:=by
 cases h with
 | first h=>exact ⟨_,.first h⟩
 | bench h1 h2=>exact ⟨_,.bench h1 h2⟩
 | ask h1 h2 h3 h4=>obtain ⟨d,h4⟩:=h4.d; exact ⟨_,.ask h1 h2 h3 h4⟩
theorem EnG.en {H:Hp} {a:Addr} {t:Int} (h:EnG H a t):∃ d,EnD H a (t,d):=by
 obtain ⟨h1,d,h2,h3⟩:=h
 obtain ⟨dd,h3⟩:=h3.d
 exact ⟨dd,h1,d,h2,h3⟩
theorem WkD.tk {H H':Hp} {a:Addr} {d:PyData} (k:Tk H H') (h:WkD H a d):WkD H' a d:=by
 cases h with
 | put h1 h2 h3 h4 h5=>exact .put h1 (k _ _ h2) h3 h4 h5
 | drop h1 h2=>exact .drop (k _ _ h1) h2
theorem DdD.tk {H H':Hp} {a:Addr} {d:PyData} (k:Tk H H') (h:DdD H a d):DdD H' a d:=by
 cases h with
 | first h=>exact .first (k _ _ h)
 | bench h1 h2=>exact .bench (k _ _ h1) (h2.tk k)
 | ask h1 h2 h3 h4=>exact .ask (k _ _ h1) h2 h3 (h4.tk k)
theorem EnD.tk {H H':Hp} {a:Addr} {d:Int × PyData} (k:Tk H H') (h:EnD H a d):EnD H' a d:=by
 obtain ⟨h1,dd,h2,h3⟩:=h
 exact ⟨h1,dd,k _ _ h2,h3.tk k⟩
theorem EnD.same {H H':Hp} {a:Addr} {d:Int × PyData} (s:aA H H') (h:EnD H a d):EnD H' a d:=h.tk (Tk.of s)
theorem WkD.dt {H:Hp} {a:Addr} {d:PyData} (h:WkD H a d):Rds H (.ref a) d /\ d.canLay0=true /\ d.depth <= 3:=by
 cases h with
 | @put k x z h1 h2 h3 h4 h5 =>
  refine ⟨.tup h2 (.cons (.str _) (.cons (.str _) (.cons (.int _) .nil))),?_,?_⟩
  ·have n1:=je h3
   rcases h1 with rfl | rfl
   ·simp only [PyData.canLay0,PyData.canLayAll0,n1,Bool.and_true,Bool.true_and]
    decide +kernel
   ·simp only [PyData.canLay0,PyData.canLayAll0,n1,Bool.and_true,Bool.true_and]
    decide +kernel
  ·simp [PyData.depth,PyData.depthAll]
 | @drop x h1 h2 =>
  refine ⟨.tup h1 (.cons (.str _) (.cons (.str _) .nil)),?_,?_⟩
  ·have n1:=je h2
   simp only [PyData.canLay0,PyData.canLayAll0,n1,Bool.and_true,Bool.true_and]
   decide +kernel
  ·simp [PyData.depth,PyData.depthAll]
theorem oK (vs cs ls:List Str):(dP vs cs ls).depth <= 10:=by
 unfold dP iI
 have e1:=bQ vs
 have e2:=bQ cs
 have e3:=bQ ls
 simp [PyData.depth,PyData.depthAll]
 omega
theorem DdD.dt {H:Hp} {a:Addr} {d:PyData} (h:DdD H a d):Rds H (.ref a) d /\ d.canLay0=true /\ d.depth <= 15:=by
 cases h with
 | first h=>exact ⟨.tup h (.cons (.str _) .nil),by decide +kernel,by simp [PyData.depth,PyData.depthAll]⟩
 | @bench b t h1 h2 =>
  have d:=h2.1.dt h2.2
  refine ⟨.tup h1 (.cons (.str _) (.cons d.rds .nil)),?_,?_⟩
  ·have n1:=d.can
   simp only [PyData.canLay0,PyData.canLayAll0,n1,Bool.and_true,Bool.true_and]
   decide +kernel
  ·have:=oK t.1 t.2.1 t.2.2
   simp only [PyData.depth,PyData.depthAll]
   omega
 | @ask x n w d h1 h2 h3 h4 =>
  obtain ⟨r,c,dp⟩:=h4.dt
  refine ⟨.tup h1 (.cons (.str _) (.cons (.str _) (.cons (.int _) (.cons r .nil)))),?_,?_⟩
  ·have n1:=je h2
   simp only [PyData.canLay0,PyData.canLayAll0,n1,c,Bool.and_true,Bool.true_and]
   decide +kernel
  ·simp only [PyData.depth,PyData.depthAll]
   omega
theorem EnD.dt {H:Hp} {a:Addr} {d:Int × PyData} (h:EnD H a d):Rds H (.ref a) (.tuple [.int d.1,d.2]) /\ d.2.canLay0=true /\ d.2.depth <= 15:=by
 obtain ⟨h1,dd,h2,h3⟩:=h
 obtain ⟨r,c,dp⟩:=h3.dt
 exact ⟨.tup h2 (.cons (.int _) (.cons r .nil)),c,dp⟩
def enP (d:Int × PyData):PyData:=.tuple [.int d.1,d.2]
theorem lO {H:Hp}:∀ {as:List Addr} {ds:List (Int × PyData)},Paired (EnD H) as ds -> RdsAll H (as.map V.ref) (ds.map enP) /\ PyData.canLayAll0 (ds.map enP)=true /\ PyData.depthAll (ds.map enP) <= 20
 | _,_,.nil=>⟨.nil,by simp [PyData.canLayAll0],by simp [PyData.depthAll]⟩
 | _,_,.cons h r=>by
  obtain ⟨i1,i2,i3⟩:=lO r
  refine ⟨.cons h.dt.1 i1,?_,?_⟩
  ·rw [List.map_cons]
   simp only [PyData.canLayAll0,enP,PyData.canLay0,h.dt.2.1,i2,Bool.and_true,Bool.true_and]
  ·rw [List.map_cons]
   have:=h.dt.2.2
   simp only [PyData.depthAll,enP,PyData.depth]
   omega
theorem qQ {H:Hp} {p:Addr} {as:List Addr} {ds:List (Int × PyData)} (hp:H p=some (.tup (as.map V.ref))) (h:Paired (EnD H) as ds):Dt H (.ref p) (.tuple (ds.map enP)):=by
 obtain ⟨i1,i2,i3⟩:=lO h
 refine ⟨.tup hp i1,by simp only [PyData.canLay0,i2],?_⟩
 simp only [PyData.depth]
 omega
def kvO (chs:List (Int × Str)):List (Key × V):=chs.map fun c=>((Sum.inl c.1:Key),V.str c.2)
def bP (chs:List (Int × Str)) (t:Int):Option Str:=(chs.find? fun c=>decide (c.1=t)).map (·.2)
theorem fM:∀ (chs:List (Int × Str)) (t:Int),cD (kvO chs) (Sum.inl t:Key)=(bP chs t).map V.str
 | [],t=>rfl
 | c :: r,t=>by
  have ih:=fM r t
  unfold cD kvO bP at ih ⊢
  rw [List.map_cons,List.find?_cons,List.find?_cons]
  by_cases h:c.1=t
  ·rw [decide_eq_true h,decide_eq_true (by rw [h])]
   rfl
  ·rw [decide_eq_false h,decide_eq_false (by intro z; cases z; exact h rfl)]
   exact ih
def jj (ds:List (Int × PyData)):Int:=(ds.getLast?.map Prod.fst).getD 0
theorem gm {α β:Type} {R:α -> β -> Prop} {a:α} {b:β}:∀ {as:List α} {bs:List β},Paired R (as ++ [a]) (bs ++ [b]) -> R a b
 | [],[],.cons h _=>h
 | [],y :: ys,.cons _ r=>by
  have:=Paired.length r
  simp at this
 | x :: xs,[],.cons _ r=>by
  have:=Paired.length r
  simp at this
 | x :: xs,y :: ys,.cons _ r=>gm (as:=xs) (bs:=ys) r
theorem gn {α β:Type} {R:α -> β -> Prop}:∀ {as:List α} {bs:List β},Paired R as bs -> ∀ n,Paired R (as.take n) (bs.take n)
 | _,_,.nil,n=>by rw [List.take_nil,List.take_nil]; exact .nil
 | _,_,.cons h r,0=>.nil
 | _,_,.cons h r,n + 1=>.cons h (gn r n)
theorem eS {α β:Type} {R:α -> β -> Prop}:∀ {as:List α} {bs:List β},Paired R as bs -> ∀ n,Paired R (as.drop n) (bs.drop n)
 | _,_,.nil,n=>by rw [List.drop_nil,List.drop_nil]; exact .nil
 | _,_,.cons h r,0=>.cons h r
 | _,_,.cons h r,n + 1=>eS r n
theorem dn {α β:Type} {R:α -> β -> Prop}:∀ {as as':List α} {bs bs':List β},Paired R as bs -> Paired R as' bs' -> Paired R (as ++ as') (bs ++ bs')
 | _,_,_,_,.nil,t=>t
 | _,_,_,_,.cons h r,t=>.cons h (dn r t)
def iw (C:Addr):Sp:=fun us H Q _=>∃ (o bl ch en b y:Addr) (bs:List Addr) (ts:List Tri) (kvs:List (Key × V)) (es:List Addr) (t:Tri) (n:Int) (ys:List Str),us=[.ref o,.int n,.ref b,.ref y] /\ cN C H o bl ch en bs ts kvs es /\ bs.length <= 900 /\ BnO H b t /\ H y=some (.tup (ys.map V.str)) /\ ys.length <= 100 /\
 ∀ H',aA H H' -> Q (.bl (aX ts t && (bF t.1 t.2.1 ys && !(cD kvs (Sum.inl n:Key)).isSome))) H'
def ck (es ds:List (Int × PyData)) (m:Nat):Bool:=decide (m <= es.length) && PyData.eqvAll (((es.drop m).take ds.length).map enP) ((ds.take ((es.drop m).take ds.length).length).map enP)
def jS (C:Addr):Sp:=fun us H Q _=>∃ (o bl ch en e:Addr) (bs:List Addr) (ts:List Tri) (kvs:List (Key × V)) (es as:List Addr) (des das:List (Int × PyData)) (n:Nat),us=[.ref o,.int (n:Int),.ref e] /\ cN C H o bl ch en bs ts kvs es /\ Paired (EnD H) es des /\ H e=some (.tup (as.map V.ref)) /\ Paired (EnD H) as das /\
 ∀ H',aA H H' -> Q (.bl (ck des das n)) H'
section
variable {P:Program} {w:World} {K:PySem.W.Frag} {mg:Str -> Option Value} {base:Heap} {C:Addr}
theorem qR:aH ["self","term","bench","yes"] ["self","term","bench","yes"] (ai eR):=fsc (by decide +kernel)
theorem oM {f:Addr} {fd:FuncData} (F:Fun K "is_chair_held" "Overlook.is_chair_held" eR f fd) (T:Cl K mg C) (Mk:fG P w K mg base C 4 "is_known" ["self","bench"] (gM C)) (Fh:aL P w K mg base 2 "is_half" ["bench","names"] jL):a7 P w K mg base CX0 5 f fd ["self","term","bench","yes"] (iw C):=by
 refine F.ok qR (fun vs H Q E h=>?_) (fun cdv A outer s H vs Q E hr h=>?_)
 ·obtain ⟨o,bl,ch,en,b,y,bs,ts,kvs,es,t,n,ys,rfl,_⟩:=h
  rfl
 ·obtain ⟨o,bl,ch,en,b,y,bs,ts,kvs,es,t,n,ys,rfl,hO,hl,hb,hy,hyl,q⟩:=h
  have hu:_ + 1 < cLine:=Nat.lt_of_le_of_lt (Nat.add_le_add_left (show 1 <= 64 by decide) _) hr.units
  have r2:aZ 2 _:=hr.mono (by decide)
  obtain ⟨⟨dx,h1⟩,h2,h3,h4,h5⟩:=id hO
  refine ⟨_,ak (ay (bw (cF Mk T.cl hr (pv 0) (ad (pv 2) af)) <| bw (aj Fh r2 (ad (pv 2) (ad (pv 3) af))) <| bV (pe_cmp (iU hu (pv 1) (cG (pv 0) rfl))))),?_⟩
  refine ⟨_,rfl,o,dx,_,rfl,h1,gL _ _ _ (by decide +kernel) (by decide +kernel) (by decide +kernel),_,rfl,o,bl,ch,en,b,bs,ts,kvs,es,t,rfl,hO,hl,hb,fun H1 s1=>?_⟩
  cases hk:aX ts t with
  | false =>
   rw [hk,Bool.false_and] at q
   exact ⟨_,rfl,aN (q _ s1)⟩
  | true =>
   rw [hk,Bool.true_and] at q
   refine ⟨_,rfl,aQ ?_⟩
   refine ⟨_,rfl,_,rfl,b,y,_,_,_,ys,rfl,(hb.same s1).1,s1 _ _ hy,hyl,fun H2 s2=>?_⟩
   have s2:=s1.trans s2
   cases hh:bF t.1 t.2.1 ys with
   | false =>
    rw [hh,Bool.false_and] at q
    exact ⟨_,rfl,aN (q _ s2)⟩
   | true =>
    rw [hh,Bool.true_and] at q
    refine ⟨_,rfl,aQ ?_⟩
    exact ⟨_,rfl,_,rfl,o,C,dx,_,_,rfl,s2 _ _ h1,T.cl,T.nC,ir _ _ _,ch,_,rfl,(show dX H2 ch (kV (Sum.inl n:Key)) _ from dX.k (s2 _ _ h4)),q _ s2⟩
abbrev nJt:List Str:=["self","before","entries","there"]
theorem mU:aH nJt ["self","before","entries"] (ai gk):=fsc (by decide +kernel)
theorem cutNN {ys:List V} {a n:Nat} (ha:a <= ys.length):cH ys (some (a:Int)) (some ((a + n:Nat):Int))=(ys.drop a).take n:=by
 unfold cH
 rw [HT.dD,HT.dD,Nat.min_eq_left ha]
 by_cases h:a + n <= ys.length
 ·rw [Nat.min_eq_left h,Nat.add_sub_cancel_left]
 ·rw [Nat.min_eq_right (by omega),List.take_of_length_le (by rw [List.length_drop]; exact Nat.le_refl _),List.take_of_length_le (by rw [List.length_drop]; omega)]
theorem mV (ys:List V) (k:Nat):cH ys none (some (k:Int))=ys.take k:=by
 unfold cH
 rw [HT.dY,HT.dD,List.drop_zero,Nat.sub_zero]
 by_cases h:k <= ys.length
 ·rw [Nat.min_eq_left h]
 ·rw [Nat.min_eq_right (by omega),List.take_of_length_le (Nat.le_refl _),List.take_of_length_le (by omega)]
theorem qS {f:Addr} {fd:FuncData} (F:Fun K "is_joint" "Overlook.is_joint" gk f fd) (T:Cl K mg C) (B:Blt mg):a7 P w K mg base CX0 1 f fd ["self","before","entries"] (jS C):=by
 refine F.ok mU (fun vs H Q E h=>?_) (fun cdv A outer s H vs Q E hr h=>?_)
 ·obtain ⟨o,bl,ch,en,e,bs,ts,kvs,es,as,des,das,n,rfl,_⟩:=h
  rfl
 ·obtain ⟨o,bl,ch,en,e,bs,ts,kvs,es,as,des,das,n,rfl,hO,hes,he,has,q⟩:=h
  have hu64:=hr.units
  have nd:=mU.nd
  obtain ⟨⟨dx,h1⟩,h2,h3,h4,h5⟩:=id hO
  have le:=Paired.length hes
  have la:=Paired.length has
  refine ⟨_,ah (aT (PW.pt (bv (az gr (pv 1) ag (aB _)) (bJ (az fz (pv 1) (aq ao (by rfl) B.len PySem.boot_len (ad (cG (pv 0) rfl) af)) (aB _))))) (ak (ay bE)) aE) <|
   ah (aD (i:=3) nd rfl (Or.inl rfl) (bf cz (cG (pv 0) rfl) (bb (pv 1)) (bb (aO bi (pv 1) (aq ao (by rfl) B.len PySem.boot_len (ad (pv 2) af)))))) <|
   ak (ay (ba (ig hu64) (pv 3) (bf cz (pv 2) bN (bb (aq ao (by rfl) B.len PySem.boot_len (ad (pv 3) af)))) (aB _))),?_⟩
  refine ⟨_,rfl,_,_,rfl,rfl,_,rfl,bD (fun z=>absurd (of_decide_eq_true z) (by omega)) (fun _=>?_)⟩
  refine ⟨_,rfl,_,rfl,o,C,dx,_,_,rfl,h1,T.cl,T.nE,iu _ _ _,en,_,rfl,.inr (SqT.of h5),_,_,rfl,rfl,_,rfl,bD (fun z=>?_) (fun z=>?_)⟩
  ·have z:=of_decide_eq_true z
   rw [List.length_map] at z
   have e0:ck des das n=false:=by
    unfold ck
    rw [decide_eq_false (by omega),Bool.false_and]
   rw [e0] at q
   exact q H (aA.refl H)
  have hn:n <= es.length:=by
   have z:¬ ((es.map V.ref).length:Int) < (n:Int):=fun y=>z (decide_eq_true y)
   rw [List.length_map] at z
   omega
  refine ⟨_,rfl,o,C,dx,_,_,rfl,h1,T.cl,T.nE,iu _ _ _,_,rfl,_,rfl,_,rfl,_,rfl,e,_,rfl,.inr (SqT.of he),_,_,rfl,rfl,_,rfl,en,_,rfl,h5,fun p H1 s1 e1=>?_⟩
  have c1:cH (es.map V.ref) (some (n:Int)) (some ((n:Int) + ((as.map V.ref).length:Int)))=((es.drop n).take as.length).map V.ref:=by
   rw [show ((n:Int) + ((as.map V.ref).length:Int))=((n + as.length:Nat):Int) by rw [List.length_map]; omega,cutNN (by rw [List.length_map]; exact hn),List.map_take,List.map_drop]
  have e1:H1 p=some (.tup (((es.drop n).take as.length).map V.ref)):=e1.trans (by rw [c1])
  refine ⟨_,rfl,_,rfl,_,rfl,p,_,rfl,.inr (SqT.of e1),_,rfl,e,_,rfl,s1 _ _ he,fun p2 H2 s2 e2=>?_⟩
  have e2:H2 p2=some (.tup ((as.take ((es.drop n).take as.length).length).map V.ref)):=e2.trans (by rw [mV,List.length_map,<- List.map_take])
  have sm:=s1.trans s2
  have p1:Paired (EnD H2) ((es.drop n).take as.length) ((des.drop n).take das.length):=by rw [la]; exact Paired.imp' (fun _ _ h=>h.same sm) (gn (eS hes n) _)
  have p3:Paired (EnD H2) (as.take ((es.drop n).take as.length).length) (das.take ((des.drop n).take das.length).length):=by rw [Paired.length p1]; exact Paired.imp' (fun _ _ h=>h.same sm) (gn has _)
  refine ⟨_,_,qQ (s2 _ _ e1) p1,qQ e2 p3,?_⟩
  have e0:ck des das n=PyData.eqv (.tuple (((des.drop n).take das.length).map enP)) (.tuple ((das.take ((des.drop n).take das.length).length).map enP)):=by
   unfold ck
   rw [decide_eq_true (by omega),Bool.true_and]
   simp only [PyData.eqv]
  rw [<- e0]
  exact q _ sm
end
def cU (ts:List Tri) (chs:List (Int × Str)) (es:List (Int × PyData)) (t:Int) (x:Str) (m:Nat) (ds:List (Int × PyData)) (tri:Tri) (ys:List Str):Bool :=
 aX ts tri && (bF tri.1 tri.2.1 ys && (decide (bP chs t=some x) && (ck es ds m && decide (jj ds=t))))
def lP (C:Addr):Sp:=fun us H Q _=>∃ (o bl ch en p e b y:Addr) (bs:List Addr) (ts:List Tri) (chs:List (Int × Str)) (es as:List Addr) (des das:List (Int × PyData)) (t:Int) (x:Str) (n:Int) (m:Nat) (vs cs ls ys:List Str),us=[.ref o,.ref p] /\ cN C H o bl ch en bs ts (kvO chs) es /\ bs.length <= 900 /\ Paired (EnD H) es des /\ bT H p t x n e as b y vs cs ls ys /\ Paired (EnD H) as das /\ n=(m:Int) + (as.length:Int) /\ ys.length <= 100 /\
 ∀ H',aA H H' -> Q (.bl (cU ts chs des t x m das (vs,cs,ls) ys)) H'
section
variable {P:Program} {w:World} {K:PySem.W.Frag} {mg:Str -> Option Value} {base:Heap} {C:Addr}
abbrev nSH:List Str:=["self","paper","term"]
theorem qT:aH nSH ["self","paper"] (ai jg):=fsc (by decide +kernel)
theorem ok_setH {f:Addr} {fd:FuncData} (F:Fun K "is_settled_held" "Overlook.is_settled_held" jg f fd) (T:Cl K mg C) (B:Blt mg) (Mk:fG P w K mg base C 4 "is_known" ["self","bench"] (gM C)) (Fh:aL P w K mg base 2 "is_half" ["bench","names"] jL) (Mj:fG P w K mg base C 1 "is_joint" ["self","before","entries"] (jS C)):a7 P w K mg base CX0 5 f fd ["self","paper"] (lP C):=by
 refine F.ok qT (fun vs H Q E h=>?_) (fun cdv A outer s H vs Q E hr h=>?_)
 ·obtain ⟨o,bl,ch,en,p,e,b,y,bs,ts,chs,es,as,des,das,t,x,n,m,vs,cs,ls,ys,rfl,_⟩:=h
  rfl
 ·obtain ⟨o,bl,ch,en,p,e,b,y,bs,ts,chs,es,as,des,das,t,x,n,m,vs,cs,ls,ys,rfl,hO,hl,hes,S,has,hnm,hyl,q⟩:=h
  have hu:_ + 1 < cLine:=Nat.lt_of_le_of_lt (Nat.add_le_add_left (show 1 <= 64 by decide) _) hr.units
  have r1:aZ 1 _:=hr.mono (by decide)
  have r2:aZ 2 _:=hr.mono (by decide)
  have nd:=qT.nd
  obtain ⟨⟨dx,h1⟩,h2,h3,h4,h5⟩:=id hO
  have hp:=S.ob
  refine ⟨_,ah (aD (i:=2) nd rfl (Or.inl rfl) (ax aw (pv 1) ag (fun _ _=>rfl))) <|
   ah (aT (PW.pt (bv (bg (aW (cF Mk T.cl hr (pv 0) (ad (ax aw (pv 1) ag (fun _ _=>rfl)) af)))) (bJ (bg (aW (aj Fh r2 (ad (ax aw (pv 1) ag (fun _ _=>rfl)) (ad (ax aw (pv 1) ag (fun _ _=>rfl)) af)))))))) (ak (ay bE)) aE) <|
   ah (aT (PW.pt (bv (pt_cmp (iU hu (pv 2) (cG (pv 0) rfl))) (bJ (az gY (bH hu (cG (pv 0) rfl) (pv 2) (fun _ _=>rfl)) (ax aw (pv 1) ag (fun _ _=>rfl)) (aB _))))) (ak (ay bE)) aE) <|
   ak (ay (bw (cF Mj T.cl r1 (pv 0) (ad (aO dU (ax aw (pv 1) ag (fun _ _=>rfl)) (aq ao (by rfl) B.len PySem.boot_len (ad (ax aw (pv 1) ag (fun _ _=>rfl)) af))) (ad (ax aw (pv 1) ag (fun _ _=>rfl)) af)))
    (bV (ba bL (ax aw (ax aw (ax aw (pv 1) ag (fun _ _=>rfl)) (iL fU ag) (fun _ _=>rfl)) ag (fun _ _=>rfl)) (pv 2) (aB _))))),?_⟩
  have nl:∀ {m:Str},¬ m="entries" -> ¬ m="chairs" -> ¬ m="benches" -> (eF bl ch en).lookup m=none:=fun a b c=>gL _ _ _ a b c
  refine ⟨_,rfl,p,_,_,_,rfl,rfl,SqT.of hp,at1,?_⟩
  refine ⟨_,rfl,o,dx,_,rfl,h1,nl (by decide +kernel) (by decide +kernel) (by decide +kernel),_,rfl,p,_,_,_,rfl,rfl,SqT.of hp,aK (j:=5) rfl,o,bl,ch,en,b,bs,ts,kvO chs,es,(vs,cs,ls),rfl,hO,hl,⟨S.bn,S.nb⟩,fun H1 s1=>?_⟩
  unfold cU at q
  cases hk:aX ts (vs,cs,ls) with
  | false =>
   rw [hk,Bool.false_and] at q
   exact ⟨_,rfl,aQ (q _ s1)⟩
  | true =>
  rw [hk,Bool.true_and] at q
  refine ⟨_,rfl,aN ?_⟩
  refine ⟨_,rfl,p,_,_,_,rfl,rfl,SqT.of (s1 _ _ hp),aK (j:=5) rfl,_,rfl,p,_,_,_,rfl,rfl,SqT.of (s1 _ _ hp),aK (j:=6) rfl,b,y,vs,cs,ls,ys,rfl,S.bn.same s1,s1 _ _ S.yt,hyl,fun H2 s2=>?_⟩
  have s2:=s1.trans s2
  cases hh:bF vs cs ys with
  | false =>
   rw [hh,Bool.false_and] at q
   exact ⟨_,rfl,aQ (q _ s2)⟩
  | true =>
  rw [hh,Bool.true_and] at q
  refine ⟨_,rfl,aN ?_⟩
  have hg:dX H2 ch (kV (Sum.inl t:Key)) ((bP chs t).map V.str):=by
   have:=dX.k (k:=(Sum.inl t:Key)) (s2 _ _ h4)
   rw [fM] at this
   exact this
  cases hc:bP chs t with
  | none =>
   rw [hc] at hg
   rw [hc,decide_eq_false (by intro z; cases z),Bool.false_and] at q
   exact ⟨_,rfl,_,rfl,o,C,dx,_,_,rfl,s2 _ _ h1,T.cl,T.nC,ir _ _ _,ch,_,rfl,hg,_,rfl,aQ (q _ s2)⟩
  | some x' =>
  rw [hc] at hg
  rw [hc] at q
  refine ⟨_,rfl,_,rfl,o,C,dx,_,_,rfl,s2 _ _ h1,T.cl,T.nC,ir _ _ _,ch,_,rfl,hg,_,rfl,aN ?_⟩
  refine ⟨_,rfl,o,C,dx,_,_,rfl,s2 _ _ h1,T.cl,T.nC,ir _ _ _,_,rfl,ch,_,rfl,hg,_,rfl,p,_,_,_,rfl,rfl,SqT.of (s2 _ _ hp),at2,rfl,_,rfl,?_⟩
  by_cases hx:x'=x
  case neg =>
   rw [decide_eq_false (by intro z; cases z; exact hx rfl),Bool.false_and] at q
   rw [decide_eq_false (by intro z; cases z; exact hx rfl)]
   exact aQ (q _ s2)
  subst hx
  rw [decide_eq_true rfl,Bool.true_and] at q
  rw [decide_eq_true rfl]
  refine aN ?_
  have hm:V.int (n - ((as.map V.ref).length:Int))=V.int (m:Int):=by
   rw [List.length_map,hnm]
   congr 1
   omega
  refine ⟨_,rfl,o,dx,_,rfl,s2 _ _ h1,nl (by decide +kernel) (by decide +kernel) (by decide +kernel),_,rfl,p,_,_,_,rfl,rfl,SqT.of (s2 _ _ hp),aK (j:=3) rfl,_,rfl,p,_,_,_,rfl,rfl,SqT.of (s2 _ _ hp),aK (j:=4) rfl,e,_,rfl,.inr (SqT.of (s2 _ _ S.et)),_,_,rfl,rfl,_,rfl,p,_,_,_,rfl,rfl,SqT.of (s2 _ _ hp),aK (j:=4) rfl,
   o,bl,ch,en,e,bs,ts,kvO chs,es,as,des,das,m,(by show [V.ref o,V.int (n - ((as.map V.ref).length:Int)),V.ref e]=_; rw [hm]),hO.same s2,Paired.imp' (fun _ _ h=>h.same s2) hes,s2 _ _ S.et,Paired.imp' (fun _ _ h=>h.same s2) has,fun H3 s3=>?_⟩
  have s3:=s2.trans s3
  cases hj:ck des das m with
  | false =>
   rw [hj,Bool.false_and] at q
   exact ⟨_,rfl,aN (q _ s3)⟩
  | true =>
  rw [hj,Bool.true_and] at q
  refine ⟨_,rfl,aQ ?_⟩
  obtain ⟨r,a,ear⟩:∃ r a,as=r ++ [a]:=⟨_,_,(List.dropLast_concat_getLast S.ne).symm⟩
  subst ear
  obtain ⟨dr,d,hdd⟩:∃ dr d,das=dr ++ [d]:=⟨_,_,(List.dropLast_concat_getLast (by intro z; rw [z] at has; have:=Paired.length has; simp at this)).symm⟩
  subst hdd
  have hlast:jj (dr ++ [d])=d.1:=by
   unfold jj
   rw [List.getLast?_append]
   rfl
  have hen:EnD H a d:=gm has
  obtain ⟨_,dd,ha,_⟩:=hen
  have hal:atI ((r ++ [a]).map V.ref) (-1)=some (.ref a):=by rw [List.map_append]; exact ke _ _
  refine ⟨_,rfl,p,_,_,_,rfl,rfl,SqT.of (s3 _ _ hp),aK (j:=4) rfl,1,rfl,e,_,_,_,rfl,rfl,SqT.of (s3 _ _ S.et),hal,a,_,_,_,rfl,rfl,SqT.of (s3 _ _ ha),at0,_,rfl,rfl,?_⟩
  rw [hlast] at q
  have e0:decide (V.int d.1=V.int t)=decide (d.1=t):=by
   by_cases h:d.1=t
   ·rw [decide_eq_true h,decide_eq_true (by rw [h])]
   ·rw [decide_eq_false h,decide_eq_false (by intro z; cases z; exact h rfl)]
  first
   | exact q _ s3
   | (rw [e0]; exact q _ s3)
end
def lQ (t:Tri):PyData:=dP t.1 t.2.1 t.2.2
theorem oN (t:Tri):(lQ t).depth <= 10:=by
 unfold lQ dP iI
 have e1:=bQ t.1
 have e2:=bQ t.2.1
 have e3:=bQ t.2.2
 simp [PyData.depth,PyData.depthAll]
 omega
theorem mW:∀ ts:List Tri,PyData.depthAll (ts.map lQ) <= 20
 | []=>by simp [PyData.depthAll]
 | t :: r=>by
  have h1:=mW r
  have h2:=oN t
  rw [List.map_cons]
  simp only [PyData.depthAll]
  omega
theorem lT {H:Hp}:∀ {bs:List Addr} {ts:List Tri},Paired (BnO H) bs ts -> RdsAll H (bs.map V.ref) (ts.map lQ) /\ PyData.canLayAll0 (ts.map lQ)=true
 | _,_,.nil=>⟨.nil,by simp [PyData.canLayAll0]⟩
 | _,_,.cons h r=>by
  have ih:=lT r
  have d:=h.1.dt h.2
  refine ⟨.cons d.rds ih.1,?_⟩
  have h1:=d.can
  rw [List.map_cons]
  simp only [PyData.canLayAll0,Bool.and_eq_true]
  exact ⟨h1,ih.2⟩
theorem ds_of {H:Hp} {bs:List Addr} {ts:List Tri} (h:Paired (BnO H) bs ts):Ds H (bs.map V.ref) (ts.map lQ):=⟨(lT h).1,(lT h).2,Nat.le_trans (mW ts) (by decide)⟩
theorem any_tri (ts:List Tri) (t:Tri):((ts.map lQ).any fun d=>PyData.eqv d (dP t.1 t.2.1 t.2.2))=decide (t ∈ ts):=by
 rw [List.any_map,Bool.eq_iff_iff,List.any_eq_true,decide_eq_true_iff]
 constructor
 ·rintro ⟨k,hk,e⟩
  have e:PyData.eqv (dP k.1 k.2.1 k.2.2) (dP t.1 t.2.1 t.2.2)=true:=e
  rw [cP,decide_eq_true_iff] at e
  have:k=t:=Prod.ext e.1 (Prod.ext e.2.1 e.2.2)
  rw [<- this]
  exact hk
 ·intro h
  refine ⟨t,h,?_⟩
  show PyData.eqv (dP t.1 t.2.1 t.2.2) (dP t.1 t.2.1 t.2.2)=true
  rw [cP,decide_eq_true_iff]
  exact ⟨rfl,rfl,rfl⟩
def lU (C:Addr):Sp:=fun us H Q _=>∃ (o bl ch en b:Addr) (bs:List Addr) (ts:List Tri) (kvs:List (Key × V)) (es:List Addr) (t:Tri),us=[.ref o,.ref b] /\ cN C H o bl ch en bs ts kvs es /\ bs.length <= 900 /\ BnO H b t /\
 ∀ (H':Hp) (bs':List Addr) (ts':List Tri),BtO bl H H' -> cN C H' o bl ch en bs' ts' kvs es -> bs'.length <= bs.length + 1 -> (∀ k ∈ ts,k ∈ ts') -> t ∈ ts' -> (∀ k ∈ ts',k ∈ ts \/ k=t) -> Q .non H'
theorem cN.add {C:Addr} {H:Hp} {o bl ch en b:Addr} {bs:List Addr} {ts:List Tri} {kvs:List (Key × V)} {es:List Addr} {t:Tri} (h:cN C H o bl ch en bs ts kvs es) (hb:BnO H b t):cN C (upd H bl (.lst (bs.map V.ref ++ [.ref b]))) o bl ch en (bs ++ [b]) (ts ++ [t]) kvs es:=by
 obtain ⟨⟨dx,h1⟩,h2,h3,h4,h5⟩:=h
 have k:∀ {a:Addr} {u:HO},H a=some u -> (∀ m,u ≠ .lst m) -> upd H bl (.lst (bs.map V.ref ++ [.ref b])) a=some u:=fun q n=>by rw [au (bp q h2 (n _))]; exact q
 have kb:∀ {a:Addr} {t:Tri},BnO H a t -> BnO (upd H bl (.lst (bs.map V.ref ++ [.ref b]))) a t:=fun q=>by
  obtain ⟨⟨⟨v,c,l,q1,q2,q3,q4⟩,r⟩,n⟩:=q
  exact ⟨⟨⟨v,c,l,k q1 (by intro m z; cases z),k q2 (by intro m z; cases z),k q3 (by intro m z; cases z),k q4 (by intro m z; cases z)⟩,by assumption,by assumption,by assumption,by assumption,by assumption,by assumption,by assumption,by assumption⟩,n⟩
 exact ⟨⟨dx,k h1 (by intro m z; cases z)⟩,by rw [ar,List.map_append]; rfl,PySem.Paired.snoc (Paired.imp' (fun _ _ q=>kb q) h3) (kb hb),k h4 (by intro m z; cases z),k h5 (by intro m z; cases z)⟩
section
variable {P:Program} {w:World} {K:PySem.W.Frag} {mg:Str -> Option Value} {base:Heap} {C:Addr}
theorem scNote:aH ["self","bench"] ["self","bench"] (ai jh):=fsc (by decide +kernel)
theorem ok_note {f:Addr} {fd:FuncData} (F:Fun K "note_bench" "Overlook.note_bench" jh f fd) (T:Cl K mg C):a7 P w K mg base CX0 1 f fd ["self","bench"] (lU C):=by
 refine F.ok scNote (fun vs H Q E h=>?_) (fun cdv A outer s H vs Q E hr h=>?_)
 ·obtain ⟨o,bl,ch,en,b,bs,ts,kvs,es,t,rfl,_⟩:=h
  rfl
 ·obtain ⟨o,bl,ch,en,b,bs,ts,kvs,es,t,rfl,hO,hl,hb,q⟩:=h
  have hs16:sizeLine=16777216:=sizeLine_eq
  obtain ⟨⟨dx,h1⟩,h2,h3,h4,h5⟩:=id hO
  refine ⟨_,ak (aT (az (iZ hr.units) (pv 1) (cG (pv 0) rfl) (by rfl)) (ak (bK (cT PySem.F.plainAttrs_list PySem.F.slot_list_append PySem.F.type_list_append fX (cG (pv 0) rfl) (ad (pv 1) af)))) aE),?_⟩
  refine ⟨_,rfl,_,rfl,o,C,dx,_,_,rfl,h1,T.cl,T.nB,lJ _ _ _,bl,_,_,_,rfl,.inr h2,ds_of h3,hb.1.dt hb.2,?_⟩
  rw [any_tri]
  refine ⟨_,rfl,?_⟩
  by_cases hm:t ∈ ts
  ·rw [decide_eq_true hm]
   exact aN (q H bs ts (fun _ _ _ e=>e) hO (Nat.le_succ _) (fun k hk=>hk) hm (fun k hk=>.inl hk))
  ·rw [decide_eq_false hm]
   refine aQ ?_
   refine ⟨_,rfl,o,C,dx,_,_,rfl,h1,T.cl,T.nB,lJ _ _ _,.inl ⟨rfl,_,SqL.of h2⟩,_,rfl,bl,_,_,rfl,rfl,h2,by rw [List.length_map]; omega,?_⟩
   exact q _ (bs ++ [b]) (ts ++ [t]) (fun a u ha e=>by rw [au ha]; exact e) (hO.add hb) (by rw [List.length_append]; exact Nat.le_refl _) (fun k hk=>List.mem_append_left _ hk) (List.mem_append_right _ (List.mem_singleton.mpr rfl)) (fun k hk=>(List.mem_append.mp hk).elim .inl fun h=>.inr (List.mem_singleton.mp h))
end
def BtX (o bl ch:Addr) (H H':Hp):Prop:=∀ b u,b ≠ o -> b ≠ bl -> b ≠ ch -> H b=some u -> H' b=some u
theorem cN.put {C:Addr} {H:Hp} {o bl ch en:Addr} {bs:List Addr} {ts:List Tri} {kvs:List (Key × V)} {es:List Addr} (k:Key) (v:V) (h:cN C H o bl ch en bs ts kvs es):cN C (upd H ch (.dK (bZ kvs k v))) o bl ch en bs ts (bZ kvs k v) es:=by
 obtain ⟨⟨dx,h1⟩,h2,h3,h4,h5⟩:=h
 have k:∀ {a:Addr} {u:HO},H a=some u -> (∀ m,u ≠ .dK m) -> upd H ch (.dK (bZ kvs k v)) a=some u:=fun q n=>by rw [au (bp q h4 (n _))]; exact q
 exact ⟨⟨dx,k h1 (by intro m z; cases z)⟩,k h2 (by intro m z; cases z),Paired.imp' (fun _ _ q=>q.keep (fun e=>k e (by intro m z; cases z))) h3,ar,k h5 (by intro m z; cases z)⟩
theorem qU (bl ch en en':Addr):cV "entries" (.ref en') (eF bl ch en)=eF bl ch en':=by rfl
theorem cN.ent {C:Addr} {H:Hp} {o bl ch en en' dx:Addr} {bs:List Addr} {ts:List Tri} {kvs:List (Key × V)} {es es':List Addr} (h:cN C H o bl ch en bs ts kvs es) (he:H en'=some (.tup (es'.map V.ref))):cN C (upd H o (.ins C dx (cV "entries" (.ref en') (eF bl ch en)))) o bl ch en' bs ts kvs es':=by
 obtain ⟨⟨dx',h1⟩,h2,h3,h4,h5⟩:=h
 rw [qU]
 have k:∀ {a:Addr} {u:HO},H a=some u -> (∀ c d m,u ≠ .ins c d m) -> upd H o (.ins C dx (eF bl ch en')) a=some u:=fun q n=>by rw [au (bp q h1 (n _ _ _))]; exact q
 exact ⟨⟨dx,ar⟩,k h2 (by intro c d m z; cases z),Paired.imp' (fun _ _ q=>q.keep (fun e=>k e (by intro c d m z; cases z))) h3,k h4 (by intro c d m z; cases z),k he (by intro c d m z; cases z)⟩
theorem bT.same {H H':Hp} {p:Addr} {t:Int} {x:Str} {n:Int} {e:Addr} {as:List Addr} {b y:Addr} {vs cs ls ys:List Str} (s:aA H H') (h:bT H p t x n e as b y vs cs ls ys):bT H' p t x n e as b y vs cs ls ys:=⟨s _ _ h.ob,h.t1,h.nx,h.n1,s _ _ h.et,h.ne,h.el,fun a ha=>(h.ee a ha).same s,h.bn.same s,h.nb,s _ _ h.yt,h.yl,h.yn,h.yr⟩
theorem qV {kvs:List (Key × V)} {k:Key} {v:V} (h:cD kvs k=none):bZ kvs k v=kvs ++ [(k,v)]:=by
 unfold bZ
 rw [if_neg]
 intro z
 rw [List.any_eq_true] at z
 obtain ⟨u,hu,e⟩:=z
 unfold cD at h
 rw [Option.map_eq_none_iff,List.find?_eq_none] at h
 exact h u hu e
theorem kv_put {chs:List (Int × Str)} {t:Int} {x:Str} (h:bP chs t=none):bZ (kvO chs) (Sum.inl t:Key) (.str x)=kvO (chs ++ [(t,x)]):=by
 rw [qV (by rw [fM,h]; rfl)]
 unfold kvO
 rw [List.map_append]
 rfl
def chB (ts:List Tri) (chs:List (Int × Str)) (t:Int) (tri:Tri) (ys:List Str):Bool:=aX ts tri && (bF tri.1 tri.2.1 ys && !(bP chs t).isSome)
def jT (C:Addr):Sp:=fun us H Q _=>∃ (o bl ch en p:Addr) (bs:List Addr) (ts:List Tri) (chs:List (Int × Str)) (es:List Addr) (des:List (Int × PyData)),us=[.ref o,.ref p] /\ cN C H o bl ch en bs ts (kvO chs) es /\ bs.length <= 900 /\ chs.length <= 900 /\ es.length <= 900 /\ Paired (EnD H) es des /\
 ((∃ (b y:Addr) (t:Int) (x:Str) (vs cs ls ys:List Str),cZ H p t x b y vs cs ls ys /\
  (chB ts chs t (vs,cs,ls) ys=true -> ∀ (H':Hp) (bs':List Addr) (ts':List Tri),BtX o bl ch H H' -> cN C H' o bl ch en bs' ts' (kvO (chs ++ [(t,x)])) es -> bs'.length <= bs.length + 1 -> (∀ k ∈ ts,k ∈ ts') -> (vs,cs,ls) ∈ ts' -> (∀ k ∈ ts',k ∈ ts \/ k=(vs,cs,ls)) -> Q (.bl true) H') /\
  (chB ts chs t (vs,cs,ls) ys=false -> ∀ H',aA H H' -> Q (.bl false) H')) \/
 ∃ (e b y:Addr) (as:List Addr) (das:List (Int × PyData)) (t:Int) (x:Str) (n:Int) (m:Nat) (vs cs ls ys:List Str),bT H p t x n e as b y vs cs ls ys /\ Paired (EnD H) as das /\ n=(m:Int) + (as.length:Int) /\
  (cU ts chs des t x m das (vs,cs,ls) ys=true -> ∀ (H':Hp) (en':Addr) (bs':List Addr) (ts':List Tri),BtX o bl ch H H' -> cN C H' o bl ch en' bs' ts' (kvO chs) (es ++ as.drop (es.length - m)) -> bs'.length <= bs.length + 1 -> (∀ k ∈ ts,k ∈ ts') -> (vs,cs,ls) ∈ ts' -> (∀ k ∈ ts',k ∈ ts \/ k=(vs,cs,ls)) -> Q (.bl true) H') /\
  (cU ts chs des t x m das (vs,cs,ls) ys=false -> ∀ H',aA H H' -> Q (.bl false) H'))
section
variable {P:Program} {w:World} {K:PySem.W.Frag} {mg:Str -> Option Value} {base:Heap} {C:Addr}
abbrev nTP:List Str:=["self","paper","known"]
theorem mX:aH nTP ["self","paper"] (ai gl):=fsc (by decide +kernel)
theorem cutD (ys:List V) (k:Nat):cH ys (some (k:Int)) none=ys.drop k:=by
 unfold cH
 rw [HT.dY,HT.dD]
 by_cases h:k <= ys.length
 ·rw [Nat.min_eq_left h,List.take_of_length_le (by rw [List.length_drop]; exact Nat.le_refl _)]
 ·rw [Nat.min_eq_right (by omega),List.drop_of_length_le (Nat.le_refl _),List.drop_of_length_le (by omega)]
  exact List.take_nil
theorem qW {f:Addr} {fd:FuncData} (F:Fun K "take_paper" "Overlook.take_paper" gl f fd) (T:Cl K mg C) (B:Blt mg) (Fc:aL P w K mg base 4 "is_chair_paper" ["thing"] spCP) (Fs:aL P w K mg base 7 "is_settled_paper" ["thing"] spSP)
  (Mc:fG P w K mg base C 5 "is_chair_held" ["self","term","bench","yes"] (iw C)) (Ms:fG P w K mg base C 5 "is_settled_held" ["self","paper"] (lP C)) (Mn:fG P w K mg base C 1 "note_bench" ["self","bench"] (lU C)):a7 P w K mg base CX0 8 f fd ["self","paper"] (jT C):=by
 refine F.ok mX (fun vs H Q E h=>?_) (fun cdv A outer s H vs Q E hr h=>?_)
 ·obtain ⟨o,bl,ch,en,p,bs,ts,chs,es,des,rfl,_⟩:=h
  rfl
 ·obtain ⟨o,bl,ch,en,p,bs,ts,chs,es,des,rfl,hO,hl,hk,he9,hes,h⟩:=h
  have hk:(kvO chs).length <= 900:=by unfold kvO; rw [List.length_map]; exact hk
  have hs16:sizeLine=16777216:=sizeLine_eq
  have hu:_ + 1 < cLine:=Nat.lt_of_le_of_lt (Nat.add_le_add_left (show 1 <= 64 by decide) _) hr.units
  have r1:aZ 1 _:=hr.mono (by decide)
  have r4:aZ 4 _:=hr.mono (by decide)
  have r5:aZ 5 _:=hr.mono (by decide)
  have nd:=mX.nd
  obtain ⟨⟨dx,h1⟩,h2,h3,h4,h5⟩:=id hO
  refine ⟨_,ah (aT (PW.pt (c9 (aW (aj Fc r4 (ad (pv 1) af))) (cL (aW (cF Mc T.cl r5 (pv 0) (ad (ax aw (pv 1) ag (fun _ _=>rfl)) (ad (ax aw (pv 1) ag (fun _ _=>rfl)) (ad (ax aw (pv 1) ag (fun _ _=>rfl)) af))))))))
    (ah (mz hu (cG (pv 0) rfl) (ax aw (pv 1) ag (fun _ _=>rfl)) (ax aw (pv 1) ag (fun _ _=>rfl)) rfl) <| ah (bK (cF Mn T.cl r1 (pv 0) (ad (ax aw (pv 1) ag (fun _ _=>rfl)) af))) <| ak (ay bE)) aE) <|
   ah (aT (PW.pt (c9 (aW (aj Fs hr (ad (pv 1) af))) (cL (aW (cF Ms T.cl r5 (pv 0) (ad (pv 1) af))))))
    (ah (aD (i:=2) nd rfl (Or.inl rfl) (aO dU (aq ao (by rfl) B.len PySem.boot_len (ad (cG (pv 0) rfl) af)) (aO dU (ax aw (pv 1) ag (fun _ _=>rfl)) (aq ao (by rfl) B.len PySem.boot_len (ad (ax aw (pv 1) ag (fun _ _=>rfl)) af))))) <|
     ah (jv (pv 0) (aO dF (cG (pv 0) rfl) (bf cz (ax aw (pv 1) ag (fun _ _=>rfl)) (bb (pv 2)) bN)) rfl) <|
     ah (bK (cF Mn T.cl r1 (pv 0) (ad (ax aw (pv 1) ag (fun _ _=>rfl)) af))) <| ak (ay bE)) aE) <|
   ak (ay bE),?_⟩
  have nl:∀ {bl ch en:Addr} {m:Str},¬ m="entries" -> ¬ m="chairs" -> ¬ m="benches" -> (eF bl ch en).lookup m=none:=fun a b c=>gL _ _ _ a b c
  rcases h with ⟨b,y,t,x,vs,cs,ls,ys,S,q,qF⟩ | ⟨e,b,y,as,das,t,x,n,m,vs,cs,ls,ys,S,has,hnm,q,qF⟩
  ·have hp:=S.ob
   refine ⟨_,rfl,p,rfl,.inl ⟨t,x,b,y,vs,cs,ls,ys,S,fun H1 s1=>⟨_,rfl,aQ ?_⟩⟩⟩
   refine ⟨_,rfl,o,dx,_,rfl,s1 _ _ h1,nl (by decide +kernel) (by decide +kernel) (by decide +kernel),_,rfl,p,_,_,_,rfl,rfl,SqT.of (s1 _ _ hp),at1,_,rfl,p,_,_,_,rfl,rfl,SqT.of (s1 _ _ hp),aK (j:=3) rfl,_,rfl,p,_,_,_,rfl,rfl,SqT.of (s1 _ _ hp),aK (j:=4) rfl,
    o,bl,ch,en,b,y,bs,ts,kvO chs,es,(vs,cs,ls),t,ys,rfl,hO.same s1,hl,⟨S.bn.same s1,S.nb⟩,s1 _ _ S.yt,Nat.le_trans S.yl (by decide),fun H2 s2=>?_⟩
   have s2:=s1.trans s2
   have e0:(aX ts (vs,cs,ls) && (bF vs cs ys && !(cD (kvO chs) (Sum.inl t:Key)).isSome))=chB ts chs t (vs,cs,ls) ys:=by
    unfold chB
    rw [fM,Option.isSome_map]
   rw [e0]
   cases hb:chB ts chs t (vs,cs,ls) ys with
   | false =>
    refine ⟨_,rfl,aN ?_⟩
    refine ⟨_,rfl,p,rfl,.inr ⟨_,s2 _ _ hp,rfl,⟨_,rfl,aN ?_⟩⟩⟩
    exact qF hb H2 s2
   | true =>
   refine ⟨_,rfl,aQ ?_⟩
   have hno:bP chs t=none:=by
    unfold chB at hb
    cases hc:bP chs t with
    | none=>rfl
    | some u=>rw [hc] at hb; simp at hb
   have hO2:=hO.same s2
   refine ⟨_,rfl,p,_,_,_,rfl,rfl,SqT.of (s2 _ _ hp),at2,_,rfl,o,C,dx,_,_,rfl,s2 _ _ h1,T.cl,T.nC,ir _ _ _,_,rfl,p,_,_,_,rfl,rfl,SqT.of (s2 _ _ hp),at1,ch,_,rfl,(show j7 H2 ch (kV (Sum.inl t:Key)) _ _ from j7.k (s2 _ _ h4) (by omega)),?_⟩
   have hO3:=hO2.put (Sum.inl t:Key) (.str x)
   have k3:∀ {a:Addr} {u:HO},H2 a=some u -> (∀ m,u ≠ .dK m) -> upd H2 ch (.dK (bZ (kvO chs) (Sum.inl t:Key) (.str x))) a=some u:=fun q n=>by rw [au (bp q (s2 _ _ h4) (n _))]; exact q
   have p3:=k3 (s2 _ _ hp) (by intro m z; cases z)
   obtain ⟨⟨dx3,h13⟩,_⟩:=id hO3
   refine ⟨_,rfl,o,dx3,_,rfl,h13,nl (by decide +kernel) (by decide +kernel) (by decide +kernel),_,rfl,p,_,_,_,rfl,rfl,SqT.of p3,aK (j:=3) rfl,
    o,bl,ch,en,b,bs,ts,_,es,(vs,cs,ls),rfl,hO3,hl,(show BnO H2 b (vs,cs,ls) from ⟨S.bn.same s2,S.nb⟩).keep (fun e=>k3 e (by intro m z; cases z)),fun H' bs' ts' bt hO' hl' hm ht hu'=>?_⟩
   rw [kv_put hno] at hO'
   refine q hb H' bs' ts' (fun a u n1 n2 n3 e=>bt a u n2 (by rw [au n3]; exact s2 _ _ e)) hO' hl' hm ht hu'
  ·have hp:=S.ob
   refine ⟨_,rfl,p,rfl,.inr ⟨_,hp,rfl,⟨_,rfl,aN ?_⟩⟩⟩
   refine ⟨_,rfl,p,rfl,.inl ⟨t,x,n,e,as,b,y,vs,cs,ls,ys,S,fun H1 s1=>⟨_,rfl,aQ ?_⟩⟩⟩
   refine ⟨_,rfl,o,dx,_,rfl,s1 _ _ h1,nl (by decide +kernel) (by decide +kernel) (by decide +kernel),_,rfl,o,bl,ch,en,p,e,b,y,bs,ts,chs,es,as,des,das,t,x,n,m,vs,cs,ls,ys,rfl,hO.same s1,hl,Paired.imp' (fun _ _ h=>h.same s1) hes,S.same s1,Paired.imp' (fun _ _ h=>h.same s1) has,hnm,Nat.le_trans S.yl (by decide),fun H2 s2=>?_⟩
   have s2:=s1.trans s2
   cases hb:cU ts chs des t x m das (vs,cs,ls) ys with
   | false=>exact ⟨_,rfl,aN (qF hb H2 s2)⟩
   | true =>
   refine ⟨_,rfl,aQ ?_⟩
   have hml:m <= es.length:=by
    unfold cU ck at hb
    have le:=Paired.length hes
    simp only [Bool.and_eq_true,decide_eq_true_eq] at hb
    omega
   have he:=s2 _ _ S.et
   have hp2:=s2 _ _ hp
   refine ⟨_,rfl,o,C,dx,_,_,rfl,s2 _ _ h1,T.cl,T.nE,iu _ _ _,en,_,rfl,.inr (SqT.of (s2 _ _ h5)),_,rfl,p,_,_,_,rfl,rfl,SqT.of hp2,aK (j:=3) rfl,_,rfl,p,_,_,_,rfl,rfl,SqT.of hp2,aK (j:=4) rfl,e,_,rfl,.inr (SqT.of he),_,_,rfl,rfl,_,_,rfl,rfl,?_⟩
   have hm:V.int (((es.map V.ref).length:Int) - (n - ((as.map V.ref).length:Int)))=V.int ((es.length - m:Nat):Int):=by
    rw [List.length_map,List.length_map]
    congr 1
    omega
   refine Eq.mpr (congrArg (fun v=>bY 2 v (L2.eX nTP [V.ref o,V.ref p]) H2 _) hm) ?_
   refine ⟨_,rfl,o,C,dx,_,_,rfl,s2 _ _ h1,T.cl,T.nE,iu _ _ _,_,rfl,p,_,_,_,rfl,rfl,SqT.of hp2,aK (j:=4) rfl,_,rfl,_,rfl,e,_,rfl,he,fun c H3 s3 e3=>?_⟩
   have e3:H3 c=some (.tup ((as.drop (es.length - m)).map V.ref)):=e3.trans (by rw [cutD,List.map_drop])
   have s3:=s2.trans s3
   refine ⟨en,c,_,_,rfl,rfl,s3 _ _ h5,e3,(by have:=S.el; rw [List.length_map,List.length_map,List.length_drop]; omega),fun en' H4 s4 e4=>?_⟩
   have s4:=s3.trans s4
   rw [<- List.map_append] at e4
   refine ⟨_,rfl,o,C,dx,_,rfl,s4 _ _ h1,T.cl,T.nE,(show 3 < 1000 by decide),?_⟩
   have hO5:=(hO.same s4).ent (dx:=dx) e4
   have k5:∀ {a:Addr} {u:HO},H4 a=some u -> (∀ c d m,u ≠ .ins c d m) -> upd H4 o (.ins C dx (cV "entries" (.ref en') (eF bl ch en))) a=some u:=fun q n=>by rw [au (bp q (s4 _ _ h1) (n _ _ _))]; exact q
   obtain ⟨⟨dx5,h15⟩,_⟩:=id hO5
   refine ⟨_,rfl,o,dx5,_,rfl,h15,nl (by decide +kernel) (by decide +kernel) (by decide +kernel),_,rfl,p,_,_,_,rfl,rfl,SqT.of (k5 (s4 _ _ hp) (by intro c d m z; cases z)),aK (j:=5) rfl,
    o,bl,ch,en',b,bs,ts,kvO chs,_,(vs,cs,ls),rfl,hO5,hl,(show BnO H4 b (vs,cs,ls) from ⟨S.bn.same s4,S.nb⟩).keep (fun e=>k5 e (by intro c d m z; cases z)),fun H' bs' ts' bt hO' hl' hm ht hu'=>?_⟩
   exact q hb H' en' bs' ts' (fun a u n1 n2 n3 e=>bt a u n2 (by rw [au n1]; exact s4 _ _ e)) hO' hl' hm ht hu'
end
end K84
namespace L2
open PySem PySem.Spec PyProof.Rows
def DK (h h':Heap):Prop:=∀ b o,h.get? b=some o -> ∃ o',h'.get? b=some o' /\ o'.dict=o.dict
theorem DK.refl (h:Heap):DK h h:=fun _ o e=>⟨o,e,rfl⟩
theorem DK.trans {h1 h2 h3:Heap} (x:DK h1 h2) (y:DK h2 h3):DK h1 h3:=fun b o e=>by
 obtain ⟨o1,e1,d1⟩:=x b o e
 obtain ⟨o2,e2,d2⟩:=y b o1 e1
 exact ⟨o2,e2,d2.trans d1⟩
theorem DK.update {h:Heap} {a:Addr} {f:Obj -> Obj} (hf:∀ o,(f o).dict=o.dict) (hd:∀ o,o.isFreed=false -> (f o).isFreed=false):DK h (h.update a f):=fun b o e=>by
 by_cases hb:b=a
 ·subst hb
  refine ⟨f o,Heap.get?_update_self f e ?_,hf o⟩
  refine hd o ?_
  cases hq:o.isFreed with
  | false=>rfl
  | true =>
   exfalso
   unfold Heap.get? at e
   split at e
   ·cases e
   ·rename_i o' hne
    unfold Obj.isFreed at hq
    rw [e] at hne
    cases o with
    | mk c d dt sl =>
     cases dt <;> first | (cases hq; done) | exact hne _ _ _ rfl
 ·exact ⟨o,by rw [Heap.get?_update_other _ _ (Ne.symm hb)]; exact e,rfl⟩
theorem DK.push {h:Heap} {u:Obj}:DK h (h.push u):=fun b o e=>⟨o,Heap.get?_push_of_some _ e,rfl⟩
def KpD {α:Type} (t:Sem α):Prop:=∀ (M:Model) (Γ:PySem.Ctx) (Q:α -> Pos -> Shared -> Prop) (E:Value -> Pos -> Shared -> Prop) (p:Pos) (s:Shared),Sem.wp M Γ t Q E p s ->
 Sem.wp M Γ t (fun a p' s'=>Q a p' s' /\ DK s.heap s'.heap) (fun e p' s'=>E e p' s' /\ DK s.heap s'.heap) p s
section
variable {α β:Type}
theorem KpD.pure {a:α}:KpD (Pure.pure a:Sem α):=fun M Γ Q E p s h=>by
 rw [Sem.wp_pure'] at h ⊢
 exact ⟨h,DK.refl _⟩
theorem KpD.no {w:String}:KpD (PySem.unsupported w:Sem α):=fun M Γ Q E p s h=>h.elim
theorem KpD.bind {m:Sem α} {f:α -> Sem β} (x:KpD m) (y:∀ a,KpD (f a)):KpD (m >>= f):=fun M Γ Q E p s h=>by
 rw [Sem.wp_bind'] at h ⊢
 refine Sem.wp_mono M Γ m (fun a p' s' q=>?_) (fun e p' s' q=>q) p s (x M Γ _ _ p s h)
 obtain ⟨q1,q2⟩:=q
 exact Sem.wp_mono M Γ (f a) (fun b p2 s2 z=>⟨z.1,q2.trans z.2⟩) (fun e p2 s2 z=>⟨z.1,q2.trans z.2⟩) p' s' (y a M Γ Q E p' s' q1)
theorem KpD.ite {c:Prop} [Decidable c] {a b:Sem α} (x:KpD a) (y:KpD b):KpD (if c then a else b):=by split <;> assumption
theorem KpD.load {a:Addr}:KpD (PySem.load a):=fun M Γ Q E p s h=>by
 obtain ⟨o,ho,h⟩:=h
 exact ⟨o,ho,h,DK.refl _⟩
theorem KpD.stack:KpD (PySem.stack):=fun M Γ Q E p s h=>⟨h,DK.refl _⟩
theorem KpD.update {a:Addr} {f:Obj -> Obj} (hf:∀ o,(f o).dict=o.dict) (hd:∀ o,o.isFreed=false -> (f o).isFreed=false):KpD (PySem.update a f):=fun M Γ Q E p s h=>by
 obtain ⟨o,h⟩:=h
 exact ⟨o,h,DK.update hf hd⟩
theorem KpD.alloc {o:Obj}:KpD (PySem.alloc o):=fun M Γ Q E p s h=>⟨h,DK.push⟩
end
theorem ix (f:Array Value -> Array Value) (o:Obj):(Obj.mapFields f o).dict=o.dict:=by
 unfold Obj.mapFields
 split <;> rfl
theorem gC (f:Array Value -> Array Value) (o:Obj) (h:o.isFreed=false):(Obj.mapFields f o).isFreed=false:=by
 unfold Obj.mapFields
 split
 ·rfl
 ·exact h
theorem gD {a:Addr} {i:Nat} {v:Value}:KpD (updateField a i v):=by
 unfold updateField
 refine KpD.bind KpD.load fun o=>?_
 split
 ·exact KpD.ite (KpD.update (ix _) (gC _)) KpD.no
 ·exact KpD.no
theorem dI {v x:Value} {i:Nat}:KpD (setField v i x):=by
 unfold setField
 split
 ·exact gD
 ·exact KpD.no
theorem jU {v:Value}:KpD (fieldsOf v):=by
 unfold fieldsOf
 split
 ·refine KpD.bind KpD.load fun o=>?_
  split
  ·exact KpD.pure
  ·exact KpD.no
 ·exact KpD.no
theorem eT {v:Value} {i:Nat}:KpD (field v i):=by
 unfold field
 refine KpD.bind jU fun o=>?_
 split
 ·exact KpD.pure
 ·exact KpD.no
theorem dg {e:Value} {fr:Option Addr}:KpD (setFlight e fr):=by
 unfold setFlight
 exact KpD.bind eT fun o=>KpD.ite dI KpD.pure
theorem oO:KpD underTheClaimsCaller:=KpD.bind KpD.stack fun _=>KpD.pure
theorem oP (l:List Env):KpD (readyFrames l):=by
 induction l with
 | nil=>exact KpD.pure
 | cons env outer ih =>
  unfold readyFrames
  split
  ·refine KpD.bind KpD.load fun o=>KpD.ite KpD.pure ?_
   refine KpD.bind ?_ fun i=>KpD.bind ?_ fun b=>KpD.bind (KpD.update (fun _=>rfl) fun o h=>by cases o with | mk c d dt sl=>cases dt <;> first | rfl | exact h) fun _=>ih
   ·unfold behindIsImport
    exact KpD.ite KpD.pure (KpD.ite KpD.pure (KpD.bind eT fun _=>KpD.pure))
   ·unfold keptBack
    split
    ·exact KpD.ite KpD.pure (KpD.bind oO fun _=>KpD.pure)
    ·exact KpD.pure
  ·exact KpD.no
theorem kG {env:Env}:KpD (PySem.frameOf env):=by
 unfold PySem.frameOf
 refine KpD.bind (KpD.bind KpD.stack fun _=>KpD.pure) fun l=>KpD.bind ?_ fun o=>?_
 ·unfold frameObject
  split
  ·exact KpD.pure
  ·exact KpD.bind (oP _) fun _=>KpD.pure
 ·split
  ·exact KpD.pure
  ·exact KpD.no
theorem oQ {f:Addr} {b:Bool}:KpD (entryPlaceOf f b):=by
 unfold entryPlaceOf
 refine KpD.bind KpD.stack fun l=>?_
 split
 ·exact KpD.pure
 ·exact KpD.pure
theorem oS {a b c d e:Value} {l:List Value}:KpD (EntryCells.newEntry a b c d e l):=by
 unfold EntryCells.newEntry newFields newObj newObjAsIs
 dsimp only
 split
 ·exact KpD.bind KpD.alloc fun x=>KpD.pure
 ·exact KpD.ite (KpD.bind KpD.no fun _=>KpD.bind KpD.alloc fun x=>KpD.pure) (KpD.bind KpD.alloc fun x=>KpD.pure)
theorem kH {e:Value} {env:Env}:KpD (noteFrame e env):=by
 unfold noteFrame
 split
 ·rename_i f hf
  refine KpD.bind eT fun x=>?_
  have z:KpD (do setField e 1 (<- EntryCells.newEntry x (<- PySem.frameOf env) .none (rawInt f) .none (<- entryPlaceOf f (x != .none)))):=KpD.bind kG fun _=>KpD.bind oQ fun _=>KpD.bind oS fun _=>dI
  exact KpD.ite (KpD.bind eT fun y=>KpD.ite KpD.pure (KpD.bind dI fun _=>z)) z
 ·exact KpD.no
theorem kI {e:Value} {env:Env}:KpD (leaving env e):=by
 unfold leaving
 exact KpD.bind kH fun _=>dg
theorem fN {α:Type} {t:Sem α} {M:Model} {A:Around} {Q:α -> Shared -> Prop} {E:Value -> Shared -> Prop} {s:Shared} (k:KpD t) (h:wpAny M A t (fun a s'=>DK s.heap s'.heap -> Q a s') (fun e s'=>DK s.heap s'.heap -> E e s') s):wpAny M A t Q E s:=fun Γ p hΓ =>
 Sem.wp_mono M Γ t (fun _ _ _ z=>z.1 z.2) (fun _ _ _ z=>z.1 z.2) p s (k M Γ _ _ p s (h Γ p hΓ))
section
variable {prog:Program} {w:World} {A:Around} {E:Value -> Shared -> Prop} {h:Heap} {g:Array GenState} {d:Drawn} {t:Nat} {os:OsState}
variable {nm q:Str} {C N:Addr} {bs bm bmB:List Value} {hdct:Bool} {sn:List Str} {sub:List Value} {ab:Bool} {col:Option Bool} {dd:Option Addr} {k0 k1 k2 k3 k5:Option Value} {B newId initId:String}
theorem gE {K:PySem.W.Frag} (X:K.In h) (F:ExcBaseFacts B newId initId bmB) (T:OwnTail h bmB bm) {rest:List Value} {fI:Addr} {oI:Obj} {Q:Fin -> Shared -> Prop}
  (hC:h.get? C=some (excClassObj nm q C N bs bm hdct sn sub ab col dd k0 k1 k2 k3 k5 newId)) (hi:PySem.W.findIn K (.ref C) "__init__"=some (some (.ref fI)))
  (hfI:h.get? fI=some oI) (hfc:oI.cls=.type "function")
  (hq:∀ h' e,h.objs.size <= e -> Heap.MadeExcOf h h' e (.ref C) rest ->
   wpAny (model prog w) A (call (.ref fI) (.ref e :: rest)) (fun r s'=>r=.none /\ Q (.done (.ret (.ref e))) s') E ⟨h',g,d,t,os⟩) (hrest:rest.length <= sizeLine) :
  wpAny (model prog w) A (Builtin.«type.__call__» ⟨.ref C :: rest,[]⟩) Q E ⟨h,g,d,t,os⟩:=by
 repeat (first | with_reducible refine wpAny_loadPart_at hC ?_ | with_reducible refine wpAny_madeBy_exc hC ?_ | wp_step)
 refine codeAny_call_builtin_code (Code.quiet_builtin _ F.quiet) (wpAny_check_new_subT F T hC ?_)
 refine codeAny_exc_new_subT F T hC ?_ hrest
 show wpAny _ _ _ _ _ _
 have k:∀ b o,h.get? b=some o -> ((h.push { cls:=.type "tuple",data:=.seq rest.toArray }).push { cls:=.ref C,data:=.fields #[.ref h.objs.size,.none,.none,.none,.bool false,.none] }).get? b=some o:=fun b o e=>Heap.get?_push_of_some _ (Heap.get?_push_of_some _ e)
 have hC₁:=k _ _ hC
 have hfI₁:=k _ _ hfI
 have hget:((h.push { cls:=.type "tuple",data:=.seq rest.toArray }).push
   { cls:=.ref C,data:=.fields #[.ref h.objs.size,.none,.none,.none,.bool false,.none] }).get? (h.objs.size + 1)=some
   { cls:=.ref C,data:=.fields #[.ref h.objs.size,.none,.none,.none,.bool false,.none] }:=by heap_get
 have hcC:(Value.ref C :: bm).contains (.ref C)=true:=by simp
 unfold isInstance
 repeat (first | with_reducible refine wpAny_loadPart_at hget ?_ | (with_reducible refine wpAny_isSubtype_exc hC₁ ?_; rw [hcC]) | wp_step)
 show wpAny _ _ (typeLookup (.ref C) _) _ _ _
 refine (PySem.W.looks_findIn (M:=model prog w) X hi _ _ _ _ k ?_)
 refine wpAny_holding (wpAny_bind ?_)
 unfold bindSpecial
 refine wpAny_bind (wpAny_typeOf (T:="function") ⟨_,hfI₁,hfc⟩ ?_)
 rw [if_pos (by decide)]
 refine wpAny_pure (wpAny_bind (wpAny_mono (hq _ (h.objs.size + 1) (Nat.le_succ _) ⟨k,Heap.get?_none_of_le (Nat.le_succ _),h.objs.size,hget,Heap.get?_none_of_le (Nat.le_refl _),?_⟩) (fun r s' hr=>?_) fun _ _ x=>x))
 ·exact Heap.get?_push_of_some _ (Heap.get?_push_at rfl rfl)
 ·obtain ⟨rfl,hQ⟩:=hr
  wp_walk
  exact hQ
theorem lV {K:PySem.W.Frag} (X:K.In h) (F:ExcBaseFacts B newId initId bmB) (T:OwnTail h bmB bm) {rest:List Value} {fI:Addr} {oI:Obj} {Q:Value -> Shared -> Prop}
  (hC:h.get? C=some (excClassObj nm q C N bs bm hdct sn sub ab col dd k0 k1 k2 k3 k5 newId)) (hi:PySem.W.findIn K (.ref C) "__init__"=some (some (.ref fI)))
  (hfI:h.get? fI=some oI) (hfc:oI.cls=.type "function")
  (hq:∀ h' e,h.objs.size <= e -> Heap.MadeExcOf h h' e (.ref C) rest ->
   wpAny (model prog w) (A.under (.builtin "type.__call__" ⟨.ref C :: rest,[]⟩)) (call (.ref fI) (.ref e :: rest)) (fun r s'=>r=.none /\ Q (.ref e) s') E ⟨h',g,d,t,os⟩) (hrest:rest.length <= sizeLine) :
  wpAny (model prog w) A (call (.ref C) rest) Q E ⟨h,g,d,t,os⟩:=by
 have f1:=tc_lookup
 have f2:=tc_bind (.ref C)
 have hT:(⟨h,g,d,t,os⟩:Shared).TypeIs (.ref C) "type":=⟨_,hC,rfl⟩
 refine wpAny_call (codeAny_of_tree ?_)
 show wpAny _ _ (callAny (.ref C) _) _ _ _
 repeat (any_goals (first | assumption | with_reducible refine wpAny_loadPart_at hC ?_ | wp_step))
 refine ⟨rfl,?_⟩
 refine codeAny_call_builtin_at (Code.quiet_builtin _ (by decide +kernel)) entry_typeCall (wpAny_check_type_call_sub hC (gE X F T hC hi hfI hfc (fun h' e hs hm=>?_) hrest))
 exact hq h' e hs hm
end
def eG (K:PySem.W.Frag) (C:Addr) (bmB:List Value) (newId:String):Bool:=match K.lookup C with
 | some ⟨.type "type",_,.cls cd,sl⟩=>(match cd.mro,sl.toList with
  | .ref C' :: bm,[_,_,_,_,some (.builtin n),_]=>C' == C && n == newId && !cd.hasDel && PySem.W.tailIn K bmB bm && cd.hasDict
  | _,_=>false)
 | _=>false
def cK (h:Heap) (C:Addr):Prop:=∃ bm N nm qn bs sn sub ab col dd k0 k1 k2 k3 k5,h.get? C=some (excClassObj nm qn C N bs bm true sn sub ab col dd k0 k1 k2 k3 k5 "ValueError.__new__") /\ OwnTail h bmV bm
theorem bX {K:PySem.W.Frag} {h:Heap} {C:Addr} (X:K.In h) (q:eG K C bmV "ValueError.__new__"=true):cK h C:=by
 unfold eG at q
 split at q
 case h_2=>cases q
 case h_1 dd cd sl ho =>
  split at q
  case h_2=>cases q
  case h_1 C2 tail y0 y1 y2 y3 nn y5 em es =>
   simp only [Bool.and_eq_true,beq_iff_eq,Bool.not_eq_true'] at q
   obtain ⟨⟨⟨⟨c1,c2⟩,c3⟩,c4⟩,c5⟩:=q
   subst c1 c2
   cases cd
   rename_i f1 f2 f3 f4 f5 f6 f7 f8 f9 f10 f11
   simp only at em c3 c5
   subst em c3 c5
   obtain rfl:sl=#[y0,y1,y2,y3,some (.builtin "ValueError.__new__"),y5]:=by
    cases sl
    simp only at es
    rw [es]
   exact ⟨tail,f4,f1,f5,f2,f7,f8,f9,f10,dd,y0,y1,y2,y3,y5,X _ _ ho,PySem.W.tail_of_in X c4⟩
def XcA (e C:Addr) (d:Option Addr) (h:Heap):Prop:=∃ t,h.get? e=some { cls:=.ref C,dict:=d,data:=.fields #[.ref t,.none,.none,.none,.bool false,.none] }
def xcA (e C:Addr) (d:Option Addr):HO:=.ext (XcA e C d)
theorem lW {P:Program} {w:World} {H:Hp} {h:Heap} {e C:Addr} {d:Option Addr} (x:XcA e C d h):bh P w H h e (xcA e C d):=by
 refine ⟨x,?_,fun h1 h2 y k=>?_⟩
 ·obtain ⟨t,ht⟩:=x
  exact ⟨_,ht⟩
 ·obtain ⟨t,ht⟩:=y
  exact ⟨t,k _ ht⟩
structure ExcI (K:PySem.W.Frag) (C f:Addr):Prop where
 ex:eG K C bmV "ValueError.__new__"=true
 init:PySem.W.findIn K (.ref C) "__init__"=some (some (.ref f))
 fn:PySem.W.isFn K (.ref f)=true
 kp:PySem.W.keepIn K (.ref C)=true
def tMakeX (C:Addr) (sp:Sp) (E:XK) (t:TA):TE:=fun σ H Q=>t σ H fun vs H1=>vs.length <= sizeLine /\ ∀ x,H1 x=none ->
 sp (.ref x :: vs) (upd H1 x (xcA x C none)) (fun v H2=>v=.non /\ Q (.ref x) H2) E
section
variable {X:Cx} {CX:CXT} {k:Nat} {f C:Addr} {fd:FuncData} {ps:List Str} {sp:Sp} {E:XK} {x m:Str} {p pos apos:Pos} {e o:Expr} {es:List Expr} {ta:TE} {t:TA}
theorem oT {pins:List (Addr × Obj)} {σ:St} {H:Hp} {s:Shared} {Q:VK} {us:List Value} {vs:List V} (M:ExcI X.K C f) (F:a7 X.prog X.w X.K X.mg X.base CX k f fd ps sp) (hr:aZ (k + 1) X.A) (hb:cQ X.K fd ps [])
  (hx:cS CX X E) (I:Inv X pins σ H s) (r:aU vs us) (hl:vs.length <= sizeLine)
  (h:∀ x,H x=none -> sp (.ref x :: vs) (upd H x (xcA x C none)) (fun v H2=>v=.non /\ Q (.ref x) H2) E) :
  wpAny (model X.prog X.w) X.A (call (.ref C) us) (EP X pins σ Q) X.xe s:=by
 obtain ⟨tl,Nn,nm,qn,bs,sn,sub,ab,col,dd,k0,k1,k2,k3,k5,hC,TL⟩:=bX I.kIn M.ex
 obtain ⟨oI,hfI,hfc⟩:∃ o,s.heap.get? f=some o /\ o.cls=.type "function":=by
  have q:=beq_iff_eq.mp M.fn
  unfold PySem.W.typeIn at q
  dsimp only at q
  obtain ⟨o,ho,hc⟩:=Option.map_eq_some_iff.mp q
  exact ⟨o,I.kIn _ _ ho,hc⟩
 obtain ⟨hp,g,d,tk,os⟩:=s
 refine lV I.kIn PySem.F.excBase_ValueError TL hC M.init hfI hfc (fun h' e hs hm=>?_) (by rw [<- r.length]; exact hl)
 obtain ⟨tt,he,_,_⟩:=hm.there
 have I2:Inv X pins σ (upd H e (xcA e C none)) ⟨h',g,d,tk,os⟩:=I.laid (h':=h') (t':=tk) hm.keeps hs (lW ⟨tt,he⟩)
 have hq:=h e (I.hok.fresh hs)
 have r2:aU (V.ref e :: vs) (Value.ref e :: us):=.cons rfl r
 have hl2:(Value.ref e :: us).length=ps.length:=by
  rw [<- r2.length]
  exact F.len _ _ _ _ hq
 have hbb:=hb ⟨h',g,d,tk,os⟩ (Value.ref e :: us) I2.kIn (by rw [List.append_nil]; exact hl2)
 rw [List.append_nil] at hbb
 refine wpAny_call (codeAny_mono (F.run _ X.stack _ _ ⟨Value.ref e :: us,[]⟩ (Value.ref e :: us) _ _ E (hr.make C us []) (I2.env0.make C us []) hbb r2 hq) fun r s' hq'=>?_)
 cases r with
 | error e=>exact hx pins σ _ _ e s' I2 hq'
 | ok fl =>
  cases fl with
  | ret u =>
   obtain ⟨v,H',I3,rv,ev,q3⟩:=I2.after hq'
   subst ev
   exact ⟨rv,⟨V.ref e,H',I3,rfl,q3⟩⟩
  | next=>exact False.elim hq'
  | brk=>exact False.elim hq'
  | cont=>exact False.elim hq'
theorem qX (M:ExcI X.K C f) (F:a7 X.prog X.w X.K X.mg X.base CX k f fd ps sp) (hr:aZ (k + 1) X.A) (hg:Gl X x) (hm:X.mg x=some (.ref C)) (hb:cQ X.K fd ps []) (hx:cS CX X E)
  (ha:PA X (e :: es) t) (hdb:(x == ("__debug__":Str))=false:=by decide) (he:starEach (e :: es) X.env=(false,eval e X.env) :: starEach es X.env:=by rfl) (hpl:(backTo pos (starEach es X.env)).any (·.1)=false:=by rfl) :
  PE X (.Call (.Name x p) (e :: es) [] pos) (tMakeX C sp E t):=by
 intro pins s σ H Q I h
 refine wpAny_Call_Name_kw (eJ I hg hm ?_ hdb)
 refine PySem.W.callWith_K (h₀:=X.base) I.ok.mod.kin M.kp (thn (ha pos pins s σ H _ I h) fun us s1 ⟨vs,H1,I1,r,ql,q⟩=>⟨I1.kIn,?_⟩) he hpl
 exact oT M F hr hb hx I1 r ql q
end
structure ExcD (K:PySem.W.Frag) (D:Addr):Prop where
 rd:PySem.W.readsIn K D (.type "type")=true
 fc:PySem.W.findCls K (.ref D) (.type "type") "__init__"=some (.val (.builtin "ValueError.__init__"))
 ga:PySem.W.specialIn K (.ref D) "__getattribute__"=some (some (.builtin "type.__getattribute__"))
def tInitX (K:PySem.W.Frag) (t:TA):TE:=fun σ H Q=>t σ H fun vs H1=>∃ a C v,vs=[.ref a,v] /\ H1 a=some (xcA a C none) /\ eG K C bmV "ValueError.__new__"=true /\ Q .non H1
section
variable {prog:Program} {w:World} {A:Around} {E:Value -> Shared -> Prop} {h:Heap} {g:Array GenState} {d:Drawn} {t:Nat} {os:OsState} {e C:Addr} {dd:Option Addr} {v:Value}
theorem lX {Q:Value -> Shared -> Prop} (EA:cK h C) (he:XcA e C dd h) (hq:∀ h',(∀ b u,b ≠ e -> h.get? b=some u -> h'.get? b=some u) -> XcA e C dd h' -> Q .none ⟨h',g,d,t,os⟩) :
  wpAny (model prog w) A (call (.builtin "ValueError.__init__") [.ref e,v]) Q E ⟨h,g,d,t,os⟩:=by
 obtain ⟨tl,Nn,nm,qn,bs,sn,sub,ab,col,dc,k0,k1,k2,k3,k5,hC,TL⟩:=EA
 obtain ⟨tt,ht⟩:=he
 refine wpAny_call (codeAny_call_builtin PySem.F.excBase_ValueError.init.plain PySem.F.excBase_ValueError.initEntry (wpAny_check_init_subT PySem.F.excBase_ValueError TL hC ht rfl ?_))
 wp_walk
 refine hq _ (fun b u hb q=>?_) ⟨h.objs.size,?_⟩
 ·rw [Heap.get?_update_other _ _ (Ne.symm hb)]
  exact Heap.get?_push_of_some _ q
 ·rw [Heap.get?_update_self _ (Heap.get?_push_of_some _ ht) rfl]
  rfl
end
section
variable {X:Cx} {D:Addr} {x m:Str} {p pos apos:Pos} {e:Expr} {es:List Expr} {t:TA}
theorem qY {pl:Sem Bool} (M:ExcD X.K D) (hg:Gl X x) (hm:X.mg x=some (.ref D)) (ha:PA X (e :: es) t)
  (hdb:(x == ("__debug__":Str))=false:=by decide) (hst:starEach (e :: es) X.env=(false,eval e X.env) :: starEach es X.env:=by rfl) (hpl:(backTo pos (starEach es X.env)).any (·.1)=false:=by rfl)
  (ht:eval (.Call (.Attribute (.Name x p) "__init__" apos) (e :: es) [] pos) X.env=(do
   let ov <- eval (.Name x p) X.env
   standAt apos.atName
   let (f,first) <- holding [ov] (getMethod ov "__init__" pl)
   callWith pos f first (backTo pos (starEach (e :: es) X.env)) (backToKw pos (keywordEach [] X.env))):=by rfl) :
  PE X (.Call (.Attribute (.Name x p) "__init__" apos) (e :: es) [] pos) (tInitX X.K t):=by
 intro pins s σ H Q I h
 refine PySem.W.methodCall_KW (pl:=pl) (eJ I hg hm ?_ hdb) ht
 refine PySem.W.method_cls I.kIn M.ga (PySem.W.cls_value I.kIn M.rd M.fc (by decide +kernel) ?_)
 refine PyProof.Rows.callWith_builtin1 (thn (ha pos pins _ σ H _ (I.tok _) h) fun us s1 ⟨vs,H1,I1,r1,q1⟩=>?_) hst hpl
 obtain ⟨a,C,v,rfl,hH,hC,q⟩:=q1
 obtain ⟨u1,u2,rfl,ra,rv⟩:=gt r1
 cases ra
 obtain ⟨hp,g,d,tk,os⟩:=s1
 obtain ⟨hO,_⟩:=(show bh X.prog X.w H1 hp a (.ext (XcA a C none)) from I1.hok a _ hH)
 refine lX (bX I1.kIn hC) hO fun h' k hx=>?_
 have I2:Inv X pins σ (upd H1 a (xcA a C none)) ⟨h',g,d,tk,os⟩:=I1.write (h':=h') (t':=tk) (by rw [hH]; trivial) (.inl rfl) k (by obtain ⟨tt,z⟩:=hx; exact ⟨_,z⟩) (lW hx)
 rw [upd_id hH] at I2
 exact ⟨.non,H1,I2,rfl,q⟩
end
end L2
namespace L2
open PySem PySem.Spec PyProof.Rows Builtin Builtin.ObjectAttr
theorem kJ {h:Heap} {bmB tl:List Value} (T:OwnTail h bmB tl) (self:Value) (what:Str):PySem.refuseLoop self what tl=PySem.refuseLoop self what bmB:=by
 induction T with
 | base=>rfl
 | own _ _ _ _ ih=>rw [refuseLoop_ref]; exact ih
section
variable {prog:Program} {w:World} {A:Around} {E:Value -> Shared -> Prop} {h:Heap} {g:Array GenState} {d:Drawn} {t:Nat} {os:OsState} {K:PySem.W.Frag} {x C:Addr} {name:Str} {v:Value}
theorem jV {M:Model} {nameV:Value} {Q:Unit -> Shared -> Prop} (EA:cK h C) (hx:XcA x C none h) (hq:Q () ⟨h,g,d,t,os⟩) :
  wpAny M A (checkBuiltinCall "object.__setattr__" ⟨[.ref x,nameV,v],[]⟩) Q E ⟨h,g,d,t,os⟩:=by
 obtain ⟨tl,Nn,nm,qn,bs,sn,sub,ab,col,dc,k0,k1,k2,k3,k5,hC,TL⟩:=EA
 obtain ⟨tt,ht⟩:=hx
 have SF:=PySem.F.store_ValueError
 have hcB:(Value.ref C :: tl).contains (.type "object")=true:=by rw [List.contains_cons,TL.hasType SF.hasOwner,Bool.or_true]
 have ha:=SF.args (.ref x) nameV v
 simp only [checkBuiltinCall,SF.kind,SF.split]
 refine wpAny_bind ?_
 unfold isInstance
 repeat (first | with_reducible refine wpAny_loadPart_at ht ?_ | (with_reducible refine wpAny_isSubtype_exc hC ?_; rw [hcB]) | wp_step)
 exact hq
theorem jW {tk:Tok} {Q:Fin -> Shared -> Prop} (X:K.In h) (EA:cK h C) (fn:PySem.W.findIn K (.ref C) name=some none) (hx:XcA x C none h)
  (hq:∀ h' dx tk',h.objs.size <= dx -> h'.Ns1 dx (fun y=>if y=name then some v else none) -> (∀ b u,b ≠ x -> h.get? b=some u -> h'.get? b=some u) -> XcA x C (some dx) h' -> Q (.done (.ret .none)) ⟨h',g,d,tk',os⟩) :
  wpAny (model prog w) A (Builtin.«object.__setattr__» ⟨[.ref x,.str name tk,v],[]⟩) Q E ⟨h,g,d,t,os⟩:=by
 obtain ⟨tl,Nn,nm,qn,bs,sn,sub,ab,col,dc,k0,k1,k2,k3,k5,hC,TL⟩:=EA
 obtain ⟨tt,ht⟩:=hx
 have hpass:PySem.refuseLoop (.ref x) "__setattr__" tl=pure ():=by rw [kJ TL]; exact PySem.F.store_ValueError.passes (.ref x)
 have L3:=PySem.W.looks_findIn (M:=model prog w) X fn
 obtain ⟨dd,hdd⟩:∃ dd:Option Addr,dd=none:=⟨_,rfl⟩
 have ht':=ht
 rw [<- hdd] at ht'
 unfold Builtin.«object.__setattr__»
 repeat (first | rw [refuse_eq] | (rw [refuseLoop_ref,hpass]) | with_reducible refine wpAny_loadPart_at ht' ?_ | with_reducible refine wpAny_mroOf_exc hC ?_ | with_reducible refine L3.at ?_ | wp_step)
 rw [hdd,if_neg (by simp [typeHasDict])]
 split
 ·rename_i hcd
  cases hcd
 split
 ·rename_i c hcd
  cases hcd
 have hx₁:=Heap.get?_push_of_some { cls:=.type "dict",data:=.dict #[] } ht
 have hxs:x ≠ h.objs.size:=Nat.ne_of_lt (Heap.lt_size ht)
 refine wpAny_bind (wpAny_alloc' ?_)
 refine wpAny_bind (wpAny_update' hx₁ ?_)
 refine wpAny_pure ?_
 have hgd:((h.push { cls:=.type "dict",data:=.dict #[] }).update x fun o=>{ cls:=o.cls,dict:=some h.objs.size,data:=o.data,slots:=o.slots }).get? h.objs.size
   = some { cls:=.type "dict",data:=.dict #[] } :=
  (Heap.get?_update_ne _ _ _ _ hxs.symm).trans (Heap.get?_push_at rfl rfl)
 have hnd:((h.push { cls:=.type "dict",data:=.dict #[] }).update x fun o=>{ cls:=o.cls,dict:=some h.objs.size,data:=o.data,slots:=o.slots }).Ns h.objs.size (fun _=>none) :=
  ⟨_,#[],_,hgd,rfl,fun e he=>absurd he (by simp),fun _=>rfl⟩
 show wpAny _ _ (storeInDict h.objs.size (.str name tk) name v) _ _ _
 unfold storeInDict newKeyGuard
 refine wpAny_bind (wpAny_pure (wpAny_bind (wpAny_nsSet1 (Heap.Ns1.of_empty hnd) fun h' hn' hs=>?_)))
 obtain ⟨oD,esD,epD,hoD,hdD,hcD⟩:=hn'.count (Within.cons name v Within.nil)
 refine wpAny_bind (wpAny_lookBehind hoD (by rw [hdD]; exact pastItsLine_dict (Nat.le_trans hcD (by rw [List.length_cons,List.length_nil,sizeLine_eq]; omega))) ?_)
 wp_walk
 refine hq h' h.objs.size _ (Nat.le_refl _) hn' (fun b ob hbx hb=>?_) ⟨tt,?_⟩
 ·exact (hs.2 b (Nat.ne_of_lt (Heap.lt_size hb))).trans ((Heap.get?_update_ne _ _ _ _ hbx).trans (Heap.get?_push_of_some _ hb))
 ·refine (hs.2 x hxs).trans (Heap.get?_update_self _ hx₁ rfl)
theorem storeX {Q:Unit -> Shared -> Prop} (X:K.In h) (EA:cK h C) (fs:PySem.W.findIn K (.ref C) "__setattr__"=some (some (.builtin "object.__setattr__"))) (fn:PySem.W.findIn K (.ref C) name=some none) (hx:XcA x C none h)
  (hq:∀ h' dx tk',h.objs.size <= dx -> h'.Ns1 dx (fun y=>if y=name then some v else none) -> (∀ b u,b ≠ x -> h.get? b=some u -> h'.get? b=some u) -> XcA x C (some dx) h' -> Q () ⟨h',g,d,tk',os⟩) :
  wpAny (model prog w) A (setAttr (.ref x) name v) Q E ⟨h,g,d,t,os⟩:=by
 have SF:=PySem.F.store_ValueError
 have f3:=SF.slot.bind (.ref x)
 have L1:=PySem.W.looks_findIn (M:=model prog w) X fs
 obtain ⟨tt,ht⟩:=id hx
 unfold setAttr callSpecial? specialOf
 repeat (any_goals (first | assumption | with_reducible refine wpAny_loadPart_at ht ?_ | with_reducible refine L1.at ?_ | wp_step))
 refine codeAny_call_builtin SF.slot.plain SF.entry (jV EA hx (jW X EA fn hx fun h' dx tk' a b c e=>?_))
 repeat (any_goals (first | assumption | wp_step))
 exact hq h' dx tk' a b c e
end
end L2
namespace L2
open PySem PySem.Spec PyProof.Rows
section
variable {X:Cx} {pins:List (Addr × Obj)} {σ:St} {H:Hp} {s s':Shared} {a:Addr} {o:HO}
theorem Inv.knownO (I:Inv X pins σ H s) (hn:H a=none) (new:bh X.prog X.w (upd H a o) s.heap a o) (hnew:X.s₀.heap.get? a=none) (hL:a ≠ X.env.locals) (hcl:∀ x c,X.env.cells.lookup x=some c -> c ≠ a) (hp:∀ p ∈ X.pn ++ pins,p.1 ≠ a):Inv X pins σ (upd H a o) s:=by
 refine ⟨I.ok,I.os,I.bare,⟨I.base.keep,I.base.slot,fun b o e n hx=>?_,I.base.there,fun b xs e=>?_,fun b o u e=>?_,fun b ps e=>?_⟩,I.loc,I.cell,?_,fun x c e=>?_,fun p hp'=>?_,fun b u e=>?_,I.len⟩
 ·have hb:b ≠ a:=fun z=>by rw [z,hnew] at e; cases e
  rw [au hb]
  exact I.base.free b o e n hx
 ·rw [au (am (I.base.tups b xs e) hn)]
  exact I.base.tups b xs e
 ·rw [au (am (I.base.frzs b o u e) hn)]
  exact I.base.frzs b o u e
 ·obtain ⟨m,e1⟩:=I.base.tbls b ps e
  exact ⟨m,by rw [au (am e1 hn)]; exact e1⟩
 ·rw [au (Ne.symm hL)]
  exact I.free
 ·rw [au (hcl x c e)]
  exact I.freeC x c e
 ·obtain ⟨e,n,r⟩:=I.pin p hp'
  exact ⟨e,by rw [au (hp p hp')]; exact n,r⟩
 ·by_cases hb:b=a
  ·subst hb
   rw [ar] at e
   cases e
   exact new
  ·rw [au hb] at e
   exact (I.hok b u e).stay (fun c v _ q=>q) (fun c q=>by rw [au (am q hn)]; exact q) fun c xs q=>by rw [au (am q hn)]; exact q
theorem Inv.far (I:Inv X pins σ H s) (hex:X.ex=[]) (h:s.heap.get? a=none):X.s₀.heap.get? a=none /\ a ≠ X.env.locals /\ (∀ x c,X.env.cells.lookup x=some c -> c ≠ a) /\ ∀ p ∈ X.pn ++ pins,p.1 ≠ a:=by
 refine ⟨?_,fun z=>?_,fun y c hc z=>?_,fun p hp z=>?_⟩
 ·cases hq:X.s₀.heap.get? a with
  | none=>rfl
  | some o =>
   obtain ⟨o',ho'⟩:=I.base.there a o hq (show a ∉ X.ex by rw [hex]; simp)
   rw [h] at ho'
   cases ho'
 ·obtain ⟨m,⟨o,es,ep,ho,_⟩,_⟩:=I.loc
  rw [<- z,h] at ho
  cases ho
 ·obtain ⟨v,⟨o,ho,_⟩⟩:=I.cell y c hc
  rw [z,h] at ho
  cases ho
 ·obtain ⟨e,_⟩:=I.pin p hp
  rw [z,h] at e
  cases e
end
structure ExcS (K:PySem.W.Frag) (C:Addr) (f:Str):Prop where
 ex:eG K C bmV "ValueError.__new__"=true
 sa:PySem.W.findIn K (.ref C) "__setattr__"=some (some (.builtin "object.__setattr__"))
 no:PySem.W.findIn K (.ref C) f=some none
def sFldX (K:PySem.W.Frag) (ta tv:TE) (f:Str):TS:=fun D σ H=>tv σ H fun y H1=>ta σ H1 fun x H2=>∃ a C,x=.ref a /\ H2 a=some (xcA a C none) /\ ExcS K C f /\
 ∀ dx,H2 dx=none -> dx ≠ a -> D.nx σ (upd (upd H2 a (xcA a C (some dx))) dx (.xd [(f,y)]))
theorem ps_fldX {X:Cx} {o value:Expr} {f:Str} {pos pos':Pos} {ta tv:TE} (hex:X.ex=[]) (ha:PE X o ta) (hv:PE X value tv) (hs:swapsWith value (some (.Attribute o f pos')) pos.line X.env=pure false):PS X (.Assign [.Attribute o f pos'] value pos) (sFldX X.K ta tv f):=by
 intro pins s σ H D I h
 refine plainObj_wpAny_Assign_Attribute (thn (hv pins s σ H _ I h) fun u s1 ⟨y,H1,I1,ry,q⟩=>thn (ha pins s1 σ H1 _ I1 q) fun ov s2 ⟨x,H2,I2,rx,a,C,ex,ea,c,q2⟩=>?_) hs
 subst ex
 obtain rfl:ov=Value.ref a:=rx
 obtain ⟨hO,_⟩:=(show bh X.prog X.w H2 s2.heap a (.ext (XcA a C none)) from I2.hok a _ ea)
 obtain ⟨hp,g,d,tk,os⟩:=s2
 refine storeX I2.kIn (bX I2.kIn c.ex) c.sa c.no hO fun h' dx tk' hdx hns k hx=>?_
 have nd:H2 dx=none:=I2.hok.fresh hdx
 have ne:dx ≠ a:=fun z=>by rw [z,ea] at nd; cases nd
 have hnone:hp.get? dx=none:=Heap.get?_none_of_le hdx
 obtain ⟨f1,f2,f3,f4⟩:=I2.far hex hnone
 have I3:Inv X pins σ (upd H2 a (xcA a C (some dx))) ⟨h',g,d,tk',os⟩:=I2.write (h':=h') (t':=tk') (by rw [ea]; trivial) (.inl rfl) k (by obtain ⟨tt,z⟩:=hx; exact ⟨_,z⟩) (lW hx)
 have I4:Inv X pins σ (upd (upd H2 a (xcA a C (some dx))) dx (.xd [(f,y)])) ⟨h',g,d,tk',os⟩:=by
  refine I3.knownO (by rw [au ne]; exact nd) ⟨_,hns,fun z=>?_⟩ f1 f2 f3 f4
  by_cases hz:z=f
  ·subst hz
   simp only [List.lookup,beq_self_eq_true,if_true]
   exact ry
  ·have:(z == f)=false:=by simpa using hz
   simp only [List.lookup,this,if_neg hz]
   trivial
 exact ⟨σ,_,I4,q2 dx nd ne⟩
def del (H:Hp) (e:Addr):Hp:=fun b=>if b=e then none else H b
theorem fO {H:Hp} {e:Addr}:del H e e=none:=by unfold del; rw [if_pos rfl]
theorem dJ {H:Hp} {e b:Addr} (h:b ≠ e):del H e b=H b:=by unfold del; rw [if_neg h]
def CXF (P:Program) (w:World) (base:Heap):CXT:=fun outer H s E e s'=>∃ (ea:Addr) (cls a0:Value) (H':Hp) (B:Heap) (d:Option Addr),e=.ref ea /\ s'.os=s.os /\ AllBare s'.gens /\ Un (frs outer) [] H H' s.heap s'.heap /\ HOk P w H' s'.heap /\ H' ea=none /\
 base.StaysIn B /\ Heap.FlyingW B outer ea cls a0 s'.heap /\ Cov (frs outer) s.heap s'.heap H' B /\ (∃ oe,s'.heap.get? ea=some oe /\ oe.dict=d) /\ E cls d H'
section
variable {P:Program} {w:World} {K:PySem.W.Frag} {mg:Str -> Option Value} {base:Heap} {N:List Str} {qual:Str} {scope:Scope} {f:Addr} {cd:Value} {A:Around} {outer:List Env} {s:Shared} {H:Hp} {E:XK}
theorem raiseF {pins:List (Addr × Obj)} {σ:St} {H1:Hp} {s1:Shared} {ea C:Addr} {d:Option Addr} (I:Inv (eW (CXF P w base) P w K mg base N qual scope f cd A outer s H E) pins σ H1 s1) (hH:H1 ea=some (xcA ea C d)) (hnew:s.heap.get? ea=none) (hE:E (.ref C) d (del H1 ea)) :
  (eW (CXF P w base) P w K mg base N qual scope f cd A outer s H E).xe (.ref ea) s1:=by
 have hl:=I.stack
 obtain ⟨⟨tt,ht⟩,_⟩:=(show bh _ _ H1 s1.heap ea (.ext (XcA ea C d)) from I.hok ea _ hH)
 have nfr:ea ∉ frs (eW (CXF P w base) P w K mg base N qual scope f cd A outer s H E).stack:=fun z=>by
  have:=I.stkFree ea z
  rw [hH] at this
  cases this
 have hin:∀ env ∈ (eW (CXF P w base) P w K mg base N qual scope f cd A outer s H E).stack,∀ b,env.frame=some b -> b ∈ ea :: frs (eW (CXF P w base) P w K mg base N qual scope f cd A outer s H E).stack:=fun env he b hb=>List.mem_cons_of_mem _ (List.mem_filterMap.mpr ⟨env,he,hb⟩)
 obtain ⟨B,hB⟩:∃ B,B=PySem.W.hideAll s1.heap (ea :: frs (eW (CXF P w base) P w K mg base N qual scope f cd A outer s H E).stack):=⟨_,rfl⟩
 have hst:base.StaysIn B:=fun b o q=>by
  rw [hB]
  refine PySem.W.hideAll_get _ ((I.bs b o q).1) fun hm=>?_
  rcases List.mem_cons.mp hm with z | hm
  ·have:=(I.bs b o q).2
   rw [z,hH] at this
   cases this
  ·have z:base.get? b=none:=(hl.mem hm).1
   rw [z] at q; cases q
 have hen:B.get? ea=none:=by rw [hB]; exact PySem.W.hideAll_none _ (List.mem_cons_self ..)
 have hkb:B.StaysIn s1.heap:=fun b o q=>by rw [hB] at q; exact PySem.W.of_hideAll _ q
 have hfun:s1.heap.FunFrames B (eW (CXF P w base) P w K mg base N qual scope f cd A outer s H E).stack:=by rw [hB]; exact PySem.W.funFrames_hide hl hin
 show wpAny _ _ (leaving _ (.ref ea)) _ _ _
 refine fN kI (wpAny_leaving_firstW (base:=B) (a0:=.ref tt) I.ok.frames hfun rfl ht hkb hen rfl rfl rfl fun h' hL dk=>?_)
 obtain ⟨k1,⟨_,_,k2⟩,k3,k4⟩:=hL
 have un0:=I.base
 have hun:Un (frs outer) [] H (del H1 ea) s.heap s1.heap:=by
  refine ⟨fun b o e n hb hx=>un0.keep b o e n hb hx,fun b o e n hb hx=>un0.slot b o e n hb hx,fun b o e n hx=>?_,fun b o e hx=>un0.there b o e hx,fun b xs e=>?_,fun b o u e=>?_,fun b ps e=>?_⟩
  ·unfold del
   split
   ·rfl
   ·exact un0.free b o e n hx
  ·have e1:=un0.tups b xs e
   rw [dJ fun z=>by rw [z,hH] at e1; cases e1]
   exact e1
  ·have e1:=un0.frzs b o u e
   rw [dJ fun z=>by rw [z,hH] at e1; cases e1]
   exact e1
  ·obtain ⟨m,e1⟩:=un0.tbls b ps e
   refine ⟨m,?_⟩
   rw [dJ fun z=>by rw [z,hH] at e1; cases e1]
   exact e1
 have hok:HOk P w (del H1 ea) s1.heap:=fun b u e=>by
  have hb:b ≠ ea:=fun z=>by rw [z,fO] at e; cases e
  rw [dJ hb] at e
  refine (I.hok b u e).stay (fun c v _ q=>q) (fun c q=>?_) fun c xs q=>?_
  ·rw [dJ fun z=>by rw [z,hH] at q; cases q]
   exact q
  ·rw [dJ fun z=>by rw [z,hH] at q; cases q]
   exact q
 have cov:Cov (frs outer) s.heap s1.heap (del H1 ea) B:=fun b u e c n=>by
  rw [hB]
  refine PySem.W.hideAll_get _ e fun hm=>?_
  rcases List.mem_cons.mp hm with z | hm
  ·rcases c with ⟨o,c⟩ | c
   ·rw [z,hnew] at c; cases c
   ·rw [z,fO] at c; exact c rfl
  ·rcases c with ⟨o,c⟩ | c
   ·rcases List.mem_cons.mp (I.stkSub b hm) with y | y
    ·have h1:=Heap.lt_size c
     have h2:=I.ok.above
     rw [<- y] at h2
     exact absurd (Nat.lt_of_lt_of_le h1 h2) (Nat.lt_irrefl _)
    ·exact n y
   ·have:=I.stkFree b hm
    have hb:b ≠ ea:=fun z=>c (by rw [z]; exact fO)
    rw [dJ hb] at c
    exact c this
 have sub:∀ b ∈ frs outer,b ∈ frs (eW (CXF P w base) P w K mg base N qual scope f cd A outer s H E).stack:=fun b hb=>by
  obtain ⟨env,he,hf⟩:=List.mem_filterMap.mp hb
  exact List.mem_filterMap.mpr ⟨env,List.mem_cons_of_mem _ he,hf⟩
 have nf:∀ b ∈ frs outer,del H1 ea b=none:=fun b hb=>by
  have:=I.stkFree b (sub b hb)
  unfold del
  split
  ·rfl
  ·exact this
 have fd:∀ b ∈ frs outer,∀ o,s1.heap.get? b=some o -> ∀ vs,o.data ≠ .fields vs:=fun b hb o ho=>by
  obtain ⟨_,o',ho',hd⟩:=hl.mem (sub b hb)
  rw [ho] at ho'
  cases ho'
  exact hd
 obtain ⟨un2,hok2,cov2⟩:=qh hun hok cov k1 k4 nf fd
 obtain ⟨o',ho',hd'⟩:=dk _ _ ht
 exact ⟨ea,.ref C,_,del H1 ea,B,d,rfl,I.os,I.bare,un2,hok2,fO,hst,⟨k1,hen,k2,k3⟩,cov2,⟨o',ho',hd'⟩,hE⟩
end
theorem lY {M:Model} {A:Around} {E:Value -> Shared -> Prop} {env:Env} {s:Shared} {x:Sem Value} {Q:Flow -> Shared -> Prop} (hh:A.handled=none)
  (h:wpAny M A x (fun v s₁=>∃ e C d,v=.ref e /\ cK s₁.heap C /\ XcA e C d s₁.heap /\ E (.ref e) s₁) E s) :
  wpAny M A (raiseStmt env (some x) none) Q E s:=by
 unfold raiseStmt
 refine wpAny_bind (wpAny_mono h (fun v s₁ h₁=>?_) fun _ _ x=>x)
 obtain ⟨e,C,d,rfl,⟨tl,Nn,nm,qn,bs,sn,sub,ab,col,dc,k0,k1,k2,k3,k5,hC,TL⟩,⟨t,he⟩,hE⟩:=h₁
 have hcB:(Value.ref C :: tl).contains (.type "BaseException")=true:=by rw [List.contains_cons,TL.hasType PySem.F.excBase_ValueError.hasBase,Bool.or_true]
 obtain ⟨hp,g,dd,tk,os⟩:=s₁
 repeat (first | with_reducible refine wpAny_loadPart_at he ?_ | with_reducible refine wpAny_loadPart_at hC ?_ | (with_reducible refine wpAny_isSubtype_exc hC ?_; rw [hcB]) | wp_step)
 exact wpAny_raiseNew_none hh hE
def PassX (X:Cx) (E:XK):Prop:=∀ (pins:List (Addr × Obj)) (σ:St) (H:Hp) (s:Shared) (ea C:Addr) (d:Option Addr),Inv X pins σ H s -> H ea=some (xcA ea C d) -> X.s₀.heap.get? ea=none -> E (.ref C) d (del H ea) -> X.xe (.ref ea) s
theorem passX {P:Program} {w:World} {K:PySem.W.Frag} {mg:Str -> Option Value} {base:Heap} {N:List Str} {qual:Str} {scope:Scope} {f:Addr} {cd:Value} {A:Around} {outer:List Env} {s:Shared} {H:Hp} {E:XK} :
  PassX (eW (CXF P w base) P w K mg base N qual scope f cd A outer s H E) E:=fun _ _ _ _ _ _ _ I hH hn hE=>raiseF I hH hn hE
def tRaiseX (K:PySem.W.Frag) (H0:Hp) (E:XK) (t:TE):TS:=fun _ σ H=>t σ H fun v H1=>∃ a C d,v=.ref a /\ H1 a=some (xcA a C d) /\ eG K C bmV "ValueError.__new__"=true /\ H0 a=none /\ E (.ref C) d (del H1 a)
theorem oU {X:Cx} {E:XK} {e:Expr} {t:TE} {pos:Pos} (hN:PassX X E) (hc:X.calm=true) (hex:X.ex=[]) (he:PE X e t):PS X (.Raise (some e) none pos) (tRaiseX X.K X.H₀ E t):=by
 intro pins s σ H D I h
 rw [arm_exec_Raise]
 refine wpAny_bind (wpAny_standAt (lY (I.ok.hd hc) (wpAny_bind (wpAny_mono (he pins s σ H _ I h) (fun v s₃ h₃=>wpAny_bind (wpAny_standAt (wpAny_pure ?_))) fun _ _ x=>x))))
 obtain ⟨y,H1,I1,ry,a,C,d,rfl,hH,hC,h0,hE⟩:=h₃
 obtain rfl:v=Value.ref a:=ry
 obtain ⟨hO,_⟩:=(show bh X.prog X.w H1 s₃.heap a (.ext (XcA a C d)) from I1.hok a _ hH)
 refine ⟨a,C,d,rfl,bX I1.kIn hC,hO,hN pins σ H1 s₃ a C d I1 hH ?_ hE⟩
 cases hq:X.s₀.heap.get? a with
 | none=>rfl
 | some o =>
  have:=I1.base.free a o hq h0 (show a ∉ X.ex by rw [hex]; simp)
  rw [hH] at this
  cases this
section
variable {prog:Program} {w:World} {A:Around} {E:Value -> Shared -> Prop} {h:Heap} {g:Array GenState} {d:Drawn} {t:Nat} {os:OsState} {K:PySem.W.Frag} {x C:Addr} {ox:Obj}
theorem iy {M:Model} {nameV:Value} {Q:Unit -> Shared -> Prop} (EA:cK h C) (hx:h.get? x=some ox) (hc:ox.cls=.ref C) (hq:Q () ⟨h,g,d,t,os⟩):wpAny M A (checkBuiltinCall "BaseException.__getattribute__" ⟨[.ref x,nameV],[]⟩) Q E ⟨h,g,d,t,os⟩:=by
 obtain ⟨tl,Nn,nm,qn,bs,sn,sub,ab,col,dd,k0,k1,k2,k3,k5,hC,TL⟩:=EA
 have e1:builtinKind "BaseException.__getattribute__"=some .slot:=by decide +kernel
 have e2:splitId "BaseException.__getattribute__"=some ("BaseException","__getattribute__"):=by decide +kernel
 have e3:(Value.ref C :: tl).contains (.type "BaseException")=true:=by
  rw [List.contains_cons,TL.hasType PySem.F.excBase_ValueError.hasBase]
  rfl
 have e4:=F.args_bexc_ga (.ref x) nameV
 simp only [checkBuiltinCall,e1,e2]
 refine wpAny_bind ?_
 unfold isInstance
 repeat (first | (with_reducible refine wpAny_loadPart_at hx ?_; rw [hc]) | (with_reducible refine wpAny_isSubtype_exc hC ?_; rw [e3]) | wp_step)
 exact hq
theorem oV {tk:Tok} {R:Result -> Shared -> Prop} (EA:cK h C) (X:K.In h) (hx:h.get? x=some ox) (hc:ox.cls=.ref C) (f3:PySem.W.findIn K (.ref C) "__class__"=some (some (.builtin "object.__class__"))) (hm:PySem.W.mroIn K C (.type "object")=some true) (hq:R (.ok (.ret (.ref C))) ⟨h,g,d,t,os⟩) :
  codeAny (model prog w) A (.call (.builtin "BaseException.__getattribute__") ⟨[.ref x,.str "__class__" tk],[]⟩) R ⟨h,g,d,t,os⟩ :=
 codeAny_call_builtin PySem.F.attrBase_ValueError.ga.plain F.entry_bexc_ga (iy EA hx hc (om X hx hc f3 hm hq))
theorem excI_by {tk:Tok} {fill expr:Bool} {Q:Value -> Shared -> Prop} (EA:cK h C) (X:K.In h) (hx:h.get? x=some ox) (hc:ox.cls=.ref C) (f1:PySem.W.findIn K (.ref C) "__getattribute__"=some (some (.builtin "BaseException.__getattribute__"))) (f2:PySem.W.findIn K (.ref C) "__getattr__"=some none)
  (f3:PySem.W.findIn K (.ref C) "__class__"=some (some (.builtin "object.__class__"))) (hm:PySem.W.mroIn K C (.type "object")=some true) (hq:Q (.ref C) ⟨h,g,d,t,os⟩) :
  wpAny (model prog w) A (getAttrBy (.ref x) (.str "__class__" tk) fill expr) Q E ⟨h,g,d,t,os⟩:=by
 have L1:=PySem.W.looks_findIn (M:=model prog w) X f1
 have L2:=PySem.W.looks_findIn (M:=model prog w) X f2
 have b3:=PySem.F.attrBase_ValueError.ga.bind (.ref x)
 have y0:(expr && onTheHeap (Value.builtin "BaseException.__getattribute__"))=false:=by cases expr <;> rfl
 have y2:(Value.builtin "BaseException.__getattribute__" == Value.builtin "object.__getattribute__")=false:=by decide +kernel
 have y1:(onTheHeap (Value.ref C) && Value.builtin "BaseException.__getattribute__" == Value.builtin "object.__getattribute__")=false:=by rw [y2]; rfl
 repeat (any_goals (first | assumption | (with_reducible refine wpAny_loadPart_at hx ?_; rw [hc]) | with_reducible refine L1.at ?_ | with_reducible refine L2.at ?_ | wp_step))
 refine oV EA X hx hc f3 hm ?_
 repeat (any_goals (first | assumption | wp_step))
theorem oW {Q:Option Value -> Shared -> Prop} (EA:cK h C) (X:K.In h) (hx:h.get? x=some ox) (hc:ox.cls=.ref C) (f1:PySem.W.findIn K (.ref C) "__getattribute__"=some (some (.builtin "BaseException.__getattribute__"))) (f2:PySem.W.findIn K (.ref C) "__getattr__"=some none)
  (f3:PySem.W.findIn K (.ref C) "__class__"=some (some (.builtin "object.__class__"))) (hm:PySem.W.mroIn K C (.type "object")=some true) (hq:Q (some (.ref C)) ⟨h,g,d,t + 1,os⟩) :
  wpAny (model prog w) A (getAttr? (.ref x) "__class__") Q E ⟨h,g,d,t,os⟩:=by
 unfold getAttr? getAttrBy?
 refine wpAny_bind (wpAny_mkText (wpAny_bind (wpAny_attempt (excI_by EA X hx hc f1 f2 f3 hm ?_))))
 exact wpAny_pure hq
end
def jk (x C:Addr) (d:Option Addr) (h:Heap):Prop:=∃ ox,h.get? x=some ox /\ ox.cls=.ref C /\ ox.dict=d /\ ∃ vs,ox.data=.fields vs
structure iz (K:PySem.W.Frag) (C:Addr):Prop where
 ex:eG K C bmV "ValueError.__new__"=true
 f1:PySem.W.findIn K (.ref C) "__getattribute__"=some (some (.builtin "BaseException.__getattribute__"))
 f2:PySem.W.findIn K (.ref C) "__getattr__"=some none
 f3:PySem.W.findIn K (.ref C) "__class__"=some (some (.builtin "object.__class__"))
 hm:PySem.W.mroIn K C (.type "object")=some true
theorem gp {K:PySem.W.Frag} {x C:Addr} {d:Option Addr} (T:iz K C):PySem.W.KitX K (.ref x) (.ref C) (jk x C d) where
 ty:=fun _ _ _ hI=>by
  obtain ⟨ox,hx,hc,_⟩:=hI
  exact hc ▸ (PySem.W.Looks.ld hx).andThen .now
 it:=fun _ h X _=>by
  obtain ⟨tl,Nn,nm,qn,bs,sn,sub,ab,col,dd,k0,k1,k2,k3,k5,hC,_⟩:=bX X T.ex
  intro A' Q' E' s' k q
  unfold isType loadHead
  exact wpAny_bind (wpAny_loadPart (k _ _ hC) (wpAny_pure q))
 ne:=fun h tp dd its n sl X htp=>by
  obtain ⟨tl,Nn,nm,qn,bs,sn,sub,ab,col,dd',k0,k1,k2,k3,k5,hC,_⟩:=bX X T.ex
  refine Bool.eq_false_iff.mpr fun q=>?_
  have e:C=tp:=Value.ref.inj (beq_iff_eq.mp q)
  subst e
  rw [htp] at hC
  have e:=congrArg (fun o:Obj=>o.data) (Option.some.inj hC)
  cases e
 ca:=fun {prog w A E Q s} X hI k=>by
  obtain ⟨ox,hx,hc,_⟩:=hI
  obtain ⟨h,g,d,t,os⟩:=s
  exact oW (bX X T.ex) X hx hc T.f1 T.f2 T.f3 T.hm k
def xcD (x C:Addr) (d:Option Addr):HO:=.ext (jk x C d)
theorem qZ {X:Cx}:cm X (.builtin "isinstance") (fun xs H Q=>∃ (x C D:Addr) (d:Option Addr) (b:Bool),xs=[.ref x,.ref D] /\ H x=some (xcD x C d) /\ iz X.K C /\ PySem.W.kitOne X.K (.ref C) (.ref D)=some b /\ Q (.bl b) H):=by
 intro pins s σ H xs us Q I rv h
 obtain ⟨x,C,D,d,b,rfl,hx,T,e,q⟩:=h
 obtain ⟨u,u2,rfl,r1,r2⟩:=gt rv
 cases r1
 cases r2
 obtain ⟨hO,_⟩:=(show bh X.prog X.w H s.heap x (.ext (jk x C d)) from I.hok x _ hx)
 exact PySem.W.kia_one (gp T) I.kIn hO e (fun z=>nomatch z) fun tk=>⟨.bl b,H,I.tok tk,rfl,q⟩
theorem oX {X:Cx}:cm X (.builtin "isinstance") (fun xs H Q=>∃ (x C:Addr) (d:Option Addr) (c:String) (b:Bool),xs=[.ref x,.ty c] /\ H x=some (xcD x C d) /\ iz X.K C /\ PySem.W.kitOne X.K (.ref C) (.type c)=some b /\ Q (.bl b) H):=by
 intro pins s σ H xs us Q I rv h
 obtain ⟨x,C,d,c,b,rfl,hx,T,e,q⟩:=h
 obtain ⟨u,u2,rfl,r1,r2⟩:=gt rv
 cases r1
 cases r2
 obtain ⟨hO,_⟩:=(show bh X.prog X.w H s.heap x (.ext (jk x C d)) from I.hok x _ hx)
 exact PySem.W.kia_one (gp T) I.kIn hO e (fun z=>nomatch z) fun tk=>⟨.bl b,H,I.tok tk,rfl,q⟩
theorem jl {X:Cx}:cm X (.builtin "isinstance") (fun xs H Q=>∃ (x C p:Addr) (d:Option Addr) (ds:List Addr) (b:Bool),xs=[.ref x,.ref p] /\ H x=some (xcD x C d) /\ H p=some (.tup (ds.map V.ref)) /\ iz X.K C /\ PySem.W.kitAny X.K (.ref C) (ds.map Value.ref)=some b /\ Q (.bl b) H):=by
 intro pins s σ H xs us Q I rv h
 obtain ⟨x,C,p,d,ds,b,rfl,hx,hp,T,e,q⟩:=h
 obtain ⟨u,u2,rfl,r1,r2⟩:=gt rv
 cases r1
 cases r2
 obtain ⟨hO,_⟩:=(show bh X.prog X.w H s.heap x (.ext (jk x C d)) from I.hok x _ hx)
 obtain ⟨_,its,rv2,o,e1,e2,n,e3⟩:=(show bh X.prog X.w H s.heap p (.tup (ds.map V.ref)) from I.hok p _ hp)
 have hi:=on rv2
 subst hi
 obtain ⟨oc,od,oda,osl⟩:=o
 cases (show oc=_ from e2)
 cases (show oda=_ from e3)
 exact PySem.W.kia_tup (its:=ds.map Value.ref) (gp T) I.kIn hO e1 e (fun z=>nomatch z) fun tk=>⟨.bl b,H,I.tok tk,rfl,q⟩
def tTryAsF (K:PySem.W.Frag) (m i:Nat) (CE:Addr) (tb:XK -> TS) (th:TS):TS:=fun D σ H=>tb (fun cls d H'=>∃ C,cls=.ref C /\ PySem.W.mroIn K C (.ref CE)=some true /\ ∀ ea,H' ea=none -> th (D.gone i) ((List.replicate m none).set i (some (.ref ea))) (upd H' ea (xcD ea C d))) D σ H
theorem oY {X:Cx} {x n:Str} {CE:Addr} {i:Nat} {body:List Stmt} {b₀:Stmt} {suite:List Stmt} {np hpos pos:Pos} {tb:XK -> TS} {th:TS} (hst:X.stack=X.env :: X.outer) (hfr:X.env.frame=some X.env.locals) (hex:X.ex=[]) (T:ExcC X.K X.mg x CE) (hg:Gl X x)
  (hN:X.N.Nodup) (hi:X.N[i]?=some n) (hk:X.env.scope.names.lookup n=some .local)
  (hb:∀ (pins:List (Addr × Obj)) (xe:Value -> Shared -> Prop) (E:XK),cS (CXF X.prog X.w X.base) (fJ X pins xe) E -> PSs (fJ X pins xe) body (tb E))
  (hh:∀ ea,PSs (cxH X ea) (b₀ :: suite) th) (hd:(x == ("__debug__":Str))=false:=by decide) :
  PS X (.Try body [.ExceptHandler (some (.Name x np)) (some n) (b₀ :: suite) hpos] [] [] pos) (tTryAsF X.K X.N.length i CE tb th):=by
 intro pins s σ H D I h
 refine wpAny_Try_except ?_
 have hp:cS (CXF X.prog X.w X.base) (fJ X pins fun e s₁=>wpAny (model X.prog X.w) X.A (noteFrame e X.env) (fun _ s₂=>wpAny (model X.prog X.w) X.A (setFlight e none) (fun _ s₃=>wpAny (model X.prog X.w) X.A (handleBy e X.env [.ExceptHandler (some (.Name x np)) (some n) (b₀ :: suite) hpos]) (SP X pins D) X.xe s₃) X.xe s₂) X.xe s₁)
   (fun cls d H'=>∃ C,cls=.ref C /\ PySem.W.mroIn X.K C (.ref CE)=some true /\ ∀ ea,H' ea=none -> th (D.gone i) ((List.replicate X.N.length none).set i (some (.ref ea))) (upd H' ea (xcD ea C d))):=by
  intro pins' σ' H1 s1 e s' I1 hx
  obtain ⟨ea,cls,a0,H2,B,d,rfl,os,bare,un,hok,hea,hbb,fly,cov,⟨od,hod,hdd⟩,C,rfl,hsub,hth⟩:=hx
  have nf:=qi I1 un
  have fd:=ko fly
  have fly0:Heap.FlyingW B (X.env :: X.outer) ea (.ref C) a0 s'.heap:=by rw [<- hst]; exact fly
  have hfs:X.A.frames=some (X.env :: X.outer):=by rw [<- hst]; exact I.ok.frames
  have nfr:ea ∉ frs X.stack:=fun z=>by
   obtain ⟨_,_,_,oe,vs,_,_,_,he,_,hd',_⟩:=fly
   exact fd ea z oe he vs hd'
  have fresh:s1.heap.get? ea=none:=by
   cases hq:s1.heap.get? ea with
   | none=>rfl
   | some o =>
    obtain ⟨u,hu⟩:=un.there ea o hq (by simp)
    have:=cov ea u hu (.inl ⟨o,hq⟩) nfr
    rw [fly.2.1] at this
    cases this
  refine fN kH (wpAny_looks_onW hfs hfr fly0 fun h4 held4 up4 dk4=>?_)
  refine fN dg (wpAny_landsW held4 fun h5 fly5 up5 dk5=>?_)
  obtain ⟨un5,hok5,cov5⟩:=qh un hok cov fly5.1 (up4.trans up5) nf fd
  have I5:Inv X pins σ' H2 { s' with heap:=h5 }:=(I1.call' (s':={ s' with heap:=h5 }) os un5 hok5 bare (fun b z=>absurd z (by simp))).ofTry I.ok
  obtain ⟨oe,hoe,hoc⟩:=fly5.there
  refine wpAny_handleBy_cons (codeAny_handlers_test (eJ (X:=cxH X ea) I5.toH hg T.mgC ?_ hd)) (by intro q; cases q)
  refine kq I5.kIn (qj I5.kIn T.ex) hsub hoe hoc (codeAny_handlers_suite_as ?_)
  refine fN dg (lands_againW fly5 fun h6 fly6 up6 dk6=>?_)
  have fd5:=ko fly5
  rw [<- hst] at fd5
  obtain ⟨un6,hok6,cov6⟩:=qh un5 hok5 cov5 fly6.1 up6 nf fd5
  have I6:Inv X pins σ' H2 { s' with heap:=h6 }:=(I1.call' (s':={ s' with heap:=h6 }) os un6 hok6 bare (fun b z=>absurd z (by simp))).ofTry I.ok
  obtain ⟨oe6,vs6,hoe6,hoc6,hda6,_⟩:=fly6.first
  have hd6:oe6.dict=d:=by
   obtain ⟨o1,e1,g1⟩:=((dk4.trans dk5).trans dk6) _ _ hod
   rw [hoe6] at e1
   cases e1
   exact g1.trans hdd
  have I7:Inv X pins (List.replicate X.N.length none) (upd H2 ea (xcD ea C d)) { s' with heap:=h6 }:=by
   refine I6.blank.knownO hea ⟨⟨oe6,hoe6,hoc6,hd6,vs6,hda6⟩,⟨oe6,hoe6⟩,fun h1 h2 hφ k=>?_⟩ ?_ ?_ ?_ ?_
   ·obtain ⟨ox,e1,e2⟩:=hφ
    exact ⟨ox,k _ e1,e2⟩
   ·cases hq:X.s₀.heap.get? ea with
    | none=>rfl
    | some o =>
     obtain ⟨o',ho'⟩:=I1.base.there ea o hq (show ea ∉ X.ex by rw [hex]; simp)
     rw [fresh] at ho'
     cases ho'
   ·intro z
    refine nfr ?_
    rw [hst,z]
    exact List.mem_filterMap.mpr ⟨X.env,List.mem_cons_self ..,hfr⟩
   ·intro y c hc z
    obtain ⟨v,⟨o,ho,_⟩⟩:=I1.cell y c hc
    rw [z,fresh] at ho
    cases ho
   ·intro p hp' z
    obtain ⟨e,_⟩:=I1.pin p (List.mem_append_left _ hp')
    rw [z,fresh] at e
    cases e
  refine gQ (X:=cxH X ea) (I7.toH (ea:=ea)) hN hi (Or.inl hk) (v:=.ref ea) rfl (fun s8 I8=>?_) (Or.inr hk)
  refine wpAny_mono (hh ea pins _ _ _ (D.gone i) I8 (hth ea hea)) (fun f s9 q=>?_) (fun _ _ z=>z.elim)
  exact (q.ofH I.ok).ungone hN hi hk
 refine wpAny_mono (hb pins _ _ hp [] s σ H D I.toTry h) (fun f s1 q=>?_) fun _ _ z=>z
 have q2:=q.ofTry I.ok
 cases f with
 | next=>exact wpAny_execs_nil q2
 | ret u=>exact q2
 | brk=>exact q2
 | cont=>exact q2
end L2
namespace L2
open PySem PySem.Spec PyProof.Rows Builtin Builtin.ObjectAttr
section
variable {prog:Program} {w:World} {A:Around} {E:Value -> Shared -> Prop} {h:Heap} {g:Array GenState} {d:Drawn} {t:Nat} {os:OsState} {K:PySem.W.Frag} {x C dx:Addr} {ox:Obj} {f:Str} {mA:Str -> Option Value} {v:Value}
theorem lZ {tk:Tok} {Q:Fin -> Shared -> Prop} (EA:cK h C) (X:K.In h) (hx:h.get? x=some ox) (hc:ox.cls=.ref C) (hd:ox.dict=some dx) {vs:Array Value} (hda:ox.data=.fields vs) (fn:PySem.W.findIn K (.ref C) f=some none) (hns:h.Ns1 dx mA) (hv:mA f=some v) (hq:Q (.done (.ret v)) ⟨h,g,d,t,os⟩) :
  wpAny (model prog w) A (Builtin.«object.__getattribute__» ⟨[.ref x,.str f tk],[]⟩) Q E ⟨h,g,d,t,os⟩:=by
 have L3:=PySem.W.looks_findIn (M:=model prog w) X fn
 have hn:=hns.ns
 obtain ⟨tl,Nn,nm,qn,bs,sn,sub,ab,col,dc,k0,k1,k2,k3,k5,hC,TL⟩:=EA
 obtain ⟨oc,od,oda,osl⟩:=ox
 simp only at hc hd hda
 subst hc hd hda
 repeat (any_goals (first | assumption | with_reducible refine wpAny_loadPart_at hx ?_ | with_reducible refine wpAny_load hC ?_ | with_reducible refine L3.at ?_ | (with_reducible refine wpAny_nsGet hn ?_; rw [hv]) | wp_step))
theorem fldX_by {tk:Tok} {fill expr:Bool} {Q:Value -> Shared -> Prop} (EA:cK h C) (X:K.In h) (hx:h.get? x=some ox) (hc:ox.cls=.ref C) (hd:ox.dict=some dx) {vs:Array Value} (hda:ox.data=.fields vs) (f1:PySem.W.findIn K (.ref C) "__getattribute__"=some (some (.builtin "BaseException.__getattribute__"))) (f2:PySem.W.findIn K (.ref C) "__getattr__"=some none)
  (fn:PySem.W.findIn K (.ref C) f=some none) (hns:h.Ns1 dx mA) (hv:mA f=some v) (hh:PySem.W.handedIn v=true) (hq:Q v ⟨h,g,d,t,os⟩) :
  wpAny (model prog w) A (getAttrBy (.ref x) (.str f tk) fill expr) Q E ⟨h,g,d,t,os⟩:=by
 have L1:=PySem.W.looks_findIn (M:=model prog w) X f1
 have L2:=PySem.W.looks_findIn (M:=model prog w) X f2
 have b3:=PySem.F.attrBase_ValueError.ga.bind (.ref x)
 have y0:(expr && onTheHeap (Value.builtin "BaseException.__getattribute__"))=false:=by cases expr <;> rfl
 have y2:(Value.builtin "BaseException.__getattribute__" == Value.builtin "object.__getattribute__")=false:=by decide +kernel
 have y1:(onTheHeap (Value.ref C) && Value.builtin "BaseException.__getattribute__" == Value.builtin "object.__getattribute__")=false:=by rw [y2]; rfl
 repeat (any_goals (first | assumption | (with_reducible refine wpAny_loadPart_at hx ?_; rw [hc]) | with_reducible refine L1.at ?_ | with_reducible refine L2.at ?_ | wp_step))
 refine codeAny_call_builtin PySem.F.attrBase_ValueError.ga.plain F.entry_bexc_ga (iy EA hx hc (lZ EA X hx hc hd hda fn hns hv ?_))
 repeat (any_goals (first | assumption | wp_step))
 exact PySem.W.handed_on hh hq
end
structure ExcR (K:PySem.W.Frag) (C:Addr) (f:Str):Prop where
 ki:iz K C
 no:PySem.W.findIn K (.ref C) f=some none
def tFldX (K:PySem.W.Frag) (ta:TE) (f:Str):TE:=fun σ H Q=>ta σ H fun x H1=>∃ a C dx fs v,x=.ref a /\ H1 a=some (xcD a C (some dx)) /\ H1 dx=some (.xd fs) /\ ExcR K C f /\ fs.lookup f=some v /\ Q v H1
theorem mY {X:Cx} {e:Expr} {f:Str} {pos:Pos} {ta:TE} (he:PE X e ta) (hb:attributeBase e f X.env (eval e X.env)=eval e X.env):PE X (.Attribute e f pos) (tFldX X.K ta f):=by
 intro pins s σ H Q I h
 refine mr hb (thn (he pins s σ H _ I h) fun u s1 ⟨x,H1,I1,rx,a,C,dx,fs,v,ex,ea,ed,c,l,q⟩=>?_)
 subst ex
 obtain rfl:u=Value.ref a:=rx
 obtain ⟨hO,_⟩:=(show bh X.prog X.w H1 s1.heap a (.ext (jk a C (some dx))) from I1.hok a _ ea)
 obtain ⟨ox,h1,h2,h3,vs,h4⟩:=hO
 obtain ⟨mA,hns,rel⟩:=(show bh X.prog X.w H1 s1.heap dx (.xd fs) from I1.hok dx _ ed)
 have rf:=rel f
 rw [l] at rf
 cases hm:mA f with
 | none=>rw [hm] at rf; exact rf.elim
 | some u =>
  rw [hm] at rf
  obtain ⟨hp,g,d,tk,os⟩:=s1
  unfold getAttr
  refine wpAny_bind (wpAny_mkText ?_)
  refine fldX_by (bX I1.kIn c.ki.ex) I1.kIn h1 h2 h3 h4 c.ki.f1 c.ki.f2 c.no hns hm (iN rf) ?_
  exact ⟨v,H1,I1.tok _,rf,q⟩
end L2
namespace L2
open PySem PySem.Spec PyProof.Rows
structure q0 (P:Program) (w:World) (K:PySem.W.Frag) (mg:Str -> Option Value) (base:Heap) (k:Nat) (x:Str) (ps:List Str) (sp:Sp):Prop where
 ex:∃ f fd,a7 P w K mg base (CXF P w base) k f fd ps sp /\ mg x=some (.ref f) /\ PySem.W.keepIn K (.ref f)=true /\ cQ K fd ps []
theorem re {X:Cx} {k:Nat} {x:Str} {ps:List Str} {sp:Sp} {E:XK} {e:Expr} {es:List Expr} {t:TA} {p pos:Pos} (F:q0 X.prog X.w X.K X.mg X.base k x ps sp) (hr:aZ k X.A) (hx:cS (CXF X.prog X.w X.base) X E) (ha:PA X (e :: es) t) (hg:Gl X x:=by rfl)
  (hdb:(x == ("__debug__":Str))=false:=by decide) (he:starEach (e :: es) X.env=(false,eval e X.env) :: starEach es X.env:=by rfl) (hpl:(backTo pos (starEach es X.env)).any (·.1)=false:=by rfl) :
  PE X (.Call (.Name x p) (e :: es) [] pos) (mv sp [] E t):=by
 obtain ⟨f,fd,G,m,kp,b⟩:=F.ex
 exact mw G hr hg m kp b .nil hx ha hdb he hpl
section
variable {P:Program} {w:World} {K:PySem.W.Frag} {mg:Str -> Option Value} {base:Heap}
theorem Fun.okX {x qual:Str} {st:Stmt} {f:Addr} {fd:FuncData} {N ps:List Str} {k:Nat} {sp:Sp} (F:Fun K x qual st f fd) (S:aH N ps (ai st)) (len:∀ vs H Q E,sp vs H Q E -> vs.length=ps.length)
  (hbody:∀ (cdv:Value) (A:Around) (outer:List Env) (s:Shared) (H:Hp) (vs:List V) (Q:VK) (E:XK),aZ k (A.deeper (envOfC qual (ai st) s.heap.objs.size f cdv)) -> sp vs H Q E ->
   ∃ t,PSs (eW (CXF P w base) P w K mg base N qual (ai st) f cdv A outer s H E) (aF st) t /\ t { nx:=fun _ H'=>Q .non H',rt:=Q } (eX N vs) H):a7 P w K mg base (CXF P w base) (k + 1) f fd ps sp:=by
 obtain ⟨oc,od,kV,doc,pm,an,cdv,ct,osl,rfl,lk,hcd⟩:=F.ex
 exact fn_of lk hcd S len fun A outer s H vs Q E hr hsp=>hbody cdv A outer s H vs Q E hr hsp
end
end L2
namespace K84
open PySem L2
abbrev oZ:Stmt:=cX (top 13) 0
structure NPC (K:PySem.W.Frag) (mg:Str -> Option Value) (CN CE f:Addr):Prop where
 mke:ExcI K CN f
 st:ExcS K CN "number"
 rd:ExcR K CN "number"
 mgN:mg "NoPaper"=some (.ref CN)
 mgE:mg "ChainError"=some (.ref CE)
 ini:ExcD K CE
def spNPI (C:Addr):Sp:=fun us H Q _=>∃ (x:Addr) (n:Nat),us=[.ref x,.int (n:Int)] /\ n <= 100 /\ H x=some (xcA x C none) /\ ∀ dx,H dx=none -> dx ≠ x -> Q .non (upd (upd H x (xcA x C (some dx))) dx (.xd [("number",.int (n:Int))]))
theorem num_len:∀ n:Fin 101,(Str.ofString (toString ((n.val:Nat):Int))).length <= 100:=by decide +kernel
theorem num_log:∀ n:Fin 101,(((n.val:Nat):Int)).natAbs.log2 < 1920:=by decide +kernel
section
variable {P:Program} {w:World} {K:PySem.W.Frag} {mg:Str -> Option Value} {base:Heap} {CN CE f0:Addr}
theorem scNPI:aH ["self","number"] ["self","number"] (ai oZ):=fsc (by decide +kernel)
theorem ok_npi {f:Addr} {fd:FuncData} (F:Fun K "__init__" "NoPaper.__init__" oZ f fd) (T:NPC K mg CN CE f0):a7 P w K mg base CX0 1 f fd ["self","number"] (spNPI CN):=by
 refine F.ok scNPI (fun vs H Q E h=>?_) (fun cdv A outer s H vs Q E hr h=>?_)
 ·obtain ⟨x,n,rfl,_⟩:=h
  rfl
 ·obtain ⟨x,n,rfl,hn,hx,q⟩:=h
  have hs16:sizeLine=16777216:=sizeLine_eq
  refine ⟨_,ah (bK (qY T.ini (by rfl) T.mgE (ad (pv 0) (ad (pe_fstr (mM aM (mM (pe_fmt (pv 1)) pj_nil))) af)))) <| ak (ps_fldX rfl (pv 0) (pv 1) rfl),?_⟩
  have hz:=num_len ⟨n,by omega⟩
  have k1:(Str.ofString "the paper with this number does not hold: ").length=42:=by decide +kernel
  have hz:(Str.ofString (toString (n:Int))).length <= 100:=hz
  have k0:Str.empty.length=0:=rfl
  have l1:(Str.empty ++ Str.ofString "the paper with this number does not hold: ").length <= sizeLine:=by
   simp only [Str.length_append,k0,k1]
   omega
  have l2:(Str.empty ++ Str.ofString "the paper with this number does not hold: " ++ Str.ofString (toString (n:Int))).length <= sizeLine:=by
   simp only [Str.length_append,k0,k1]
   omega
  refine ⟨_,rfl,⟨_,rfl,l1,_,rfl,.inr ⟨_,rfl,num_log ⟨n,by omega⟩,_,rfl,l2,l2,?_⟩⟩⟩
  refine ⟨x,CN,_,rfl,hx,T.mke.ex,?_⟩
  exact ⟨_,rfl,_,rfl,x,CN,rfl,hx,T.st,fun dx n1 n2=>q dx n1 n2⟩
end
end K84
namespace L2.EK
open PySem PySem.Spec PyProof.Rows
abbrev jX (it:Addr) (f0:Value) (i:Int) (gv old:Value):Obj:={ cls:=.type "enumerate",dict:=none,data:=.fields #[f0,.bool false,.ref it,rawInt i,gv,old],slots:=#[] }
abbrev h1 (h:Heap) (l:Addr):Heap:=h.push { cls:=.type "tuple_iterator",data:=.fields #[.ref l,.int 0 0] }
section
variable {prog:Program} {w:World} {A:Around} {E:Value -> Shared -> Prop} {s:Shared}
theorem rg {jp:Value -> Sem Fin} {Q:Fin -> Shared -> Prop} {gv:Value} {z:Int} {h:Heap} {gs:Array GenState} {dr:Drawn} {tk0:Nat} {os:OsState} (hgv:gv=.none \/ ∃ t,gv=.int z t)
  (key:∀ (tv:Tok) (tk:Nat),wpAny (model prog w) A (jp (.int z tv)) Q E ⟨h,gs,dr,tk,os⟩):wpAny (model prog w) A (if (gv == Value.none)=true then mkInt z >>= jp else pure gv >>= jp) Q E ⟨h,gs,dr,tk0,os⟩:=by
 rcases hgv with rfl | ⟨t,rfl⟩
 ·rw [if_pos (show (Value.none == Value.none)=true from rfl)]
  exact wpAny_bind (wpAny_mkInt (key _ _))
 ·rw [if_neg (show ¬ ((Value.int z t == Value.none)=true) from Bool.false_ne_true)]
  exact wpAny_bind (wpAny_pure (key _ _))
theorem o6 {e it l:Addr} {z:Int} {i:Nat} {us:Array Value} {x gv old:Value} {R:Value -> Shared -> Prop} (he:s.heap.get? e=some (jX it .none z gv old)) (hgv:gv=.none \/ ∃ t,gv=.int z t)
  (hit:s.heap.IsTupleIter it l i) (hl:s.heap.IsTuple l us) (hx:us[i]?=some x) (ne:e ≠ it)
  (hR:∀ (g:Heap) (tk:Nat) (tv:Tok),IsEnumOut g e it (z + 1) x s.heap.objs.size -> g.IsTupleIter it l (i + 1) -> g.get? s.heap.objs.size=some { cls:=.type "tuple",data:=.seq #[.int z tv,x] } ->
   (∀ b o,b ≠ e -> b ≠ it -> s.heap.get? b=some o -> g.get? b=some o) -> R (.ref s.heap.objs.size) { s with heap:=g,toks:=tk }) :
  wpAny (model prog w) A (Builtin.«enumerate.__next__» ⟨[.ref e],[]⟩) (fun fin s'=>∃ v,fin=.done (.ret v) /\ R v s') E s:=by
 obtain ⟨hp,gs,dr,tk0,os⟩:=s
 show wpAny _ _ (field (.ref e) 2 >>= _) _ _ _
 refine wpAny_bind (wpAny_field he rfl (x:=.ref it) rfl (wpAny_bind (ZT.eN hit hl hx fun g1 it1 k1=>?_)))
 have k1:Heap.SameBut it hp g1:=k1
 have e1:g1.get? e=some (jX it .none z gv old):=(k1.2 e ne).trans he
 show wpAny _ _ (field (.ref e) 3 >>= _) _ _ ⟨g1,gs,dr,tk0,os⟩
 refine wpAny_bind (wpAny_field e1 rfl (x:=rawInt z) rfl ?_)
 show wpAny _ _ (field (.ref e) 4 >>= _) _ _ ⟨g1,gs,dr,tk0,os⟩
 refine wpAny_bind (wpAny_field e1 rfl (x:=gv) rfl ?_)
 refine rg hgv fun tv tk=>?_
 show wpAny _ _ (setField (.ref e) 3 (rawInt (z + 1)) >>= _) _ _ ⟨g1,gs,dr,tk,os⟩
 refine wpAny_bind (wpAny_setField_rec e1 (by simp) fun g2 e2 k2=>?_)
 have k2:Heap.SameBut e g1 g2:=k2
 have e2:g2.get? e=some (jX it .none (z + 1) gv old):=e2
 show wpAny _ _ (setField (.ref e) 4 .none >>= _) _ _ ⟨g2,gs,dr,tk,os⟩
 refine wpAny_bind (wpAny_setField_rec e2 (by simp) fun g3 e3 k3=>?_)
 have k3:Heap.SameBut e g2 g3:=k3
 have e3:IsEnum g3 e it (z + 1) old:=e3
 show wpAny _ _ (newTuple [.int z tv,x] >>= _) _ _ ⟨g3,gs,dr,tk,os⟩
 refine wpAny_bind (wpAny_newTuple ?_)
 have e4:IsEnum (g3.push { cls:=.type "tuple",data:=.seq #[.int z tv,x] }) e it (z + 1) old:=Heap.get?_push_of_some _ e3
 generalize hg4:g3.push { cls:=.type "tuple",data:=.seq #[.int z tv,x] }=g4 at e4
 have sz:g3.objs.size=hp.objs.size:=by rw [k3.1,k2.1,k1.1]
 have el:e < hp.objs.size:=Heap.lt_size he
 have t4:g4.get? hp.objs.size=some { cls:=.type "tuple",data:=.seq #[.int z tv,x] }:=by rw [<- hg4,<- sz]; exact Heap.get?_push_size _ rfl
 have k4:∀ b o,b ≠ e -> b ≠ it -> hp.get? b=some o -> g4.get? b=some o:=fun b o n1 n2 q=>by
  rw [<- hg4]; exact Heap.get?_push_of_some _ (k3.extBut b o n1 (k2.extBut b o n1 (k1.extBut b o n2 q)))
 have i4:g4.IsTupleIter it l (i + 1):=by
  rw [<- hg4]; obtain ⟨o,ho,r⟩:=(it1.extBut k2.extBut (Ne.symm ne)).extBut k3.extBut (Ne.symm ne); exact ⟨o,Heap.get?_push_of_some _ ho,r⟩
 show wpAny _ _ (Builtin.SmallTypes.ownedTupleIsFree (.ref e) >>= _) _ _ ⟨g4,gs,dr,tk,os⟩
 rw [sz]
 unfold Builtin.SmallTypes.ownedTupleIsFree
 refine wpAny_bind (wpAny_bind (wpAny_field e4 rfl (x:=.none) rfl (wpAny_pure ?_)))
 simp only [if_true]
 refine wpAny_bind (wpAny_rule (wpAny_bind (wpAny_field e4 rfl (x:=old) rfl (wpAny_bind (wpAny_setField_rec e4 (by simp) fun g5 e5 k5=>?_)))))
 have k5:Heap.SameBut e g4 g5:=k5
 have e5:IsEnum g5 e it (z + 1) x:=e5
 show wpAny _ _ (Builtin.SmallTypes.ownedTupleHandOut (.ref e) (.ref hp.objs.size) >>= _) _ _ ⟨g5,gs,dr,tk,os⟩
 unfold Builtin.SmallTypes.ownedTupleHandOut
 refine wpAny_bind (wpAny_bind (wpAny_setField_rec e5 (by simp) fun g6 e6 k6=>?_))
 have k6:Heap.SameBut e g5 g6:=k6
 have e6:IsEnumOut g6 e it (z + 1) x hp.objs.size:=e6
 refine wpAny_setField_rec e6 (by simp) fun g7 e7 k7=>?_
 have k7:Heap.SameBut e g6 g7:=k7
 have e7:IsEnumOut g7 e it (z + 1) x hp.objs.size:=e7
 refine wpAny_bind (wpAny_letGo (wpAny_pure ⟨_,rfl,hR g7 tk tv e7 ?_ ?_ ?_⟩))
 ·exact ((i4.extBut k5.extBut (Ne.symm ne)).extBut k6.extBut (Ne.symm ne)).extBut k7.extBut (Ne.symm ne)
 ·exact k7.extBut _ _ (Nat.ne_of_gt el) (k6.extBut _ _ (Nat.ne_of_gt el) (k5.extBut _ _ (Nat.ne_of_gt el) t4))
 ·exact fun b o n1 n2 q=>k7.extBut b o n1 (k6.extBut b o n1 (k5.extBut b o n1 (k4 b o n1 n2 q)))
end
end L2.EK
namespace L2
open PySem PySem.Spec PyProof.Rows
def ItK (K:PySem.W.Frag) (n:Int) (l:Addr):It :=
 ⟨fun i H=>∃ xs x,SqT K H l xs /\ xs[i]?=some x,fun i H v H'=>∃ p,v=.ref p /\ H p=none /\ ∀ xs,SqT K H l xs -> ∃ x,xs[i]?=some x /\ H'=upd H p (.tup [.int (n + i),x]),fun i H=>∃ xs,SqT K H l xs /\ i=xs.length⟩
def TnK (n:Int) (e it l:Addr) (i:Nat) (h:Heap):Prop:=(∃ gv old,(gv=Value.none \/ ∃ t,gv=.int (n + i) t) /\ h.get? e=some (EK.jX it .none (n + i) gv old)) /\ h.IsTupleIter it l i
theorem l5 {P:Program} {w:World} {K:PySem.W.Frag} {elts:List Expr} {k:Nat} {pos:Pos} {n:Int} {e it l:Addr} (a1:e ≠ it):jr P w K (.Tuple elts k pos) (ItK K n l) [e,it] e (TnK n e it l) where
 mem:=by simp
 obj:=fun i h st b hb=>by
  obtain ⟨⟨gv,old,_,h1⟩,h2⟩:=st
  simp only [List.mem_cons,List.not_mem_nil,or_false] at hb
  rcases hb with rfl | rfl
  ·exact ⟨_,h1,fun v e=>by cases e⟩
  ·obtain ⟨o,e,c,d⟩:=h2
   exact ⟨o,e,fun v z=>by rw [d] at z; cases z⟩
 keep:=fun i h h' st kk=>by
  obtain ⟨⟨gv,old,hg,h1⟩,h2⟩:=st
  exact ⟨⟨gv,old,hg,kk _ (by simp) _ h1⟩,h2.at fun o e=>kk _ (by simp) o e⟩
 item:=by
  intro X hP hw hK hc i pins s σ H E I hf st hg
  subst hP hw hK
  obtain ⟨xs,x,hx,ex⟩:=hg
  obtain ⟨its,rv,p,hz⟩:=I.tuple hx
  obtain ⟨u,hu,ru⟩:=rv.get ex
  obtain ⟨⟨gv,old,hgv,st1⟩,st2⟩:=st
  have hT:s.TypeIs (.ref e) "enumerate":=⟨_,st1,rfl⟩
  unfold pyNext
  refine wpAny_bind (wpAny_attempt (wpAny_callSpecial?_slot (name:=Str.ofString "__next__") hT F.slot_enumerate_next (wpAny_call_entry F.slot_enumerate_next hT F.entry_enumerate_next
   (EK.o6 st1 hgv st2 (show s.heap.IsTuple l its.toArray from p) (x:=u) (by simpa using hu) a1 fun g tk tv z1 z2 z3 kk=>wpAny_pure ?_) (F.args_enumerate_next_1 _))))
  refine ⟨_,rfl,wpAny_letOwnedTupleGo_enum z1 fun g' zz sb=>?_⟩
  have up:∀ c o,c ≠ e -> g.get? c=some o -> g'.get? c=some o:=fun c o n e=>sb.extBut _ _ n e
  have nT:s.heap.objs.size ≠ e:=Nat.ne_of_gt (Heap.lt_size st1)
  have hTup:IsTup g' s.heap.objs.size [Value.int (n + i) tv,u].toArray:=⟨_,up _ _ nT z3,rfl,_,rfl⟩
  have kk2:∀ b o,b ∉ ([e,it]:List Addr) -> s.heap.get? b=some o -> g'.get? b=some o:=fun b o hb q=>by
   simp only [List.mem_cons,List.not_mem_nil,or_false,not_or] at hb
   exact up _ _ hb.1 (kk b o hb.1 hb.2 q)
  have I1:=I.turnedT (h':=g') (t':=tk) (T:=s.heap.objs.size) (xs:=[.int (n + i),x]) (us:=[Value.int (n + i) tv,u]) (ch:=[e,it]) kk2 hf (Nat.le_refl _) (by show 2 <= sizeLine; decide) (.cons ⟨tv,rfl⟩ (.cons ru .nil)) hTup
  have en:n + (i:Int) + 1=n + ((i + 1:Nat):Int):=by lia
  rw [en] at zz
  refine ⟨.ref s.heap.objs.size,_,I1,rfl,⟨_,rfl,I.hok.fresh (Nat.le_refl _),fun xs' hx'=>⟨x,?_,rfl⟩⟩,⟨⟨.none,_,.inl rfl,zz⟩,z2.at fun o q=>up _ o (Ne.symm a1) q⟩,fun b hb=>?_⟩
  ·rw [I.tuple_inj hx' hx]; exact ex
  ·have hb':∃ o,s.heap.get? b=some o:=by
    simp only [List.mem_cons,List.not_mem_nil,or_false] at hb
    obtain ⟨o4,e4,_⟩:=st2
    rcases hb with h | h <;> rw [h]
    ·exact ⟨_,st1⟩
    ·exact ⟨_,e4⟩
   obtain ⟨o,eo⟩:=hb'
   rw [au (Nat.ne_of_lt (Heap.lt_size eo))]
   exact (hf b hb).1
 done:=by
  intro X hP hw hK hc i pins s σ H E I hf st hg
  subst hP hw hK
  obtain ⟨xs,hx,rfl⟩:=hg
  obtain ⟨its,rv,p,hz⟩:=I.tuple hx
  obtain ⟨⟨gv,old,hgv,st1⟩,st2⟩:=st
  have hT:s.TypeIs (.ref e) "enumerate":=⟨_,st1,rfl⟩
  have hend:its.toArray[xs.length]?=none:=Array.getElem?_eq_none (by rw [List.size_toArray,rv.length]; exact Nat.le_refl _)
  unfold pyNext
  refine wpAny_bind (wpAny_attempt (wpAny_callSpecial?_slot (name:=Str.ofString "__next__") hT F.slot_enumerate_next (wpAny_call_entry F.slot_enumerate_next hT F.entry_enumerate_next ?_ (F.args_enumerate_next_1 _))))
  show wpAny _ _ (field (.ref e) 2 >>= _) _ _ _
  refine wpAny_bind (wpAny_field st1 rfl (x:=.ref it) rfl (wpAny_bind (ZT.ic (I.ok.hd hc) st2 (show s.heap.IsTuple l its.toArray from p) hend fun g y kk ⟨oe,he,ce⟩=>?_)))
  refine wpAny_bind (wpAny_isInstance (T:="StopIteration") (b:=true) ⟨oe,he,ce⟩ isSubtype_stop (wpAny_pure ⟨rfl,I.turnedL (t':=s.toks) (ch:=[e,it]) (fun b o hb q=>kk b o ?_ q) hf⟩))
  simp only [List.mem_cons,List.not_mem_nil,or_false,not_or] at hb
  exact hb.2
 self:=fun _ _ s' _ _ st h=>by
  obtain ⟨⟨gv,old,_,h1⟩,_⟩:=st
  have hT:Shared.TypeIs s' (.ref e) "enumerate":=⟨_,h1,rfl⟩
  refine wpAny_pyIter_slot hT F.slot_enumerate_iter (wpAny_call_entry F.slot_enumerate_iter hT F.entry_enumerate_iter ?_ (F.args_enumerate_iter_1 _))
  exact wpAny_pure ⟨_,rfl,"enumerate",_,hT,F.slot_enumerate_next.lookup,h⟩
section
variable {X:Cx}
theorem o7 {K:PySem.W.Frag} {n:Int} {a:Addr} {xs:List V} {g:TG} {tb:TS} {D:dQ} {σ:St} {H:Hp} (Pv:Nat -> St -> Hp -> Prop) (h0:Pv 0 σ H) (hl:∀ i σ H,Pv i σ H -> SqT K H a xs)
  (hs:∀ i x p σ H,xs[i]?=some x -> H p=none -> Pv i σ H -> g (.ref p) σ (upd H p (.tup [.int (n + i),x])) fun σ2 H2=>tb { D with nx:=Pv (i + 1),ct:=Pv (i + 1),bk:=D.nx } σ2 H2) (hd:∀ σ H,Pv xs.length σ H -> D.nx σ H) :
  ∃ W:Nat -> Nat -> St -> Hp -> Prop,(∃ m,W 0 m σ H) /\ ∀ i m σ H,W i m σ H ->
   ((ItK K n a).stop i H /\ D.nx σ H) \/ ((ItK K n a).go i H /\ ∃ N:St -> Hp -> Prop,(∀ σ' H',N σ' H' -> ∃ m',m' < m /\ W (i + 1) m' σ' H') /\ ∀ x H',(ItK K n a).yld i H x H' -> g x σ H' fun σ2 H2=>tb { D with nx:=N,ct:=N,bk:=D.nx } σ2 H2):=by
 refine ⟨fun i m σ H=>m=xs.length - i /\ i <= xs.length /\ Pv i σ H,⟨xs.length,by simp,Nat.zero_le _,h0⟩,?_⟩
 rintro i m σ H ⟨rfl,hi,p⟩
 have q1:=hl i σ H p
 by_cases hlt:i < xs.length
 ·refine .inr ⟨⟨xs,xs[i],q1,by simp [hlt]⟩,Pv (i + 1),fun σ' H' p'=>⟨xs.length - (i + 1),by lia,rfl,hlt,p'⟩,fun x H' y=>?_⟩
  obtain ⟨t,rfl,ht,y⟩:=y
  obtain ⟨u,eu,rfl⟩:=y xs q1
  exact hs i u t σ H eu ht p
 ·have e:i=xs.length:=by lia
  subst e
  exact .inl ⟨⟨xs,q1,rfl⟩,hd σ H p⟩
end
end L2
namespace L2.EK
open PySem PySem.Spec PyProof.Rows
open AutoSeq1 (wpAny_loadPart')
theorem o8 (l:Addr) (us:Array Value) :
  Meets (Builtin.«enumerate.__new__» ⟨[.type "enumerate",.ref l],[]⟩) (fun _ R s=>s.heap.IsTuple l us /\ R (.ok (.ret (.ref (h1 s.heap l).objs.size))) { s with heap:=(h1 s.heap l).push (jX s.heap.objs.size .none 0 .none .none) }) :=
 .of_wp fun prog w A R s h=>by
  obtain ⟨hp,g,d,tk,os⟩:=s
  obtain ⟨hl,h⟩:=h
  have hsub:=sub_enumerate
  have hL:Heap.IsTuple (Shared.heap ⟨hp,g,d,tk,os⟩) l us:=hl
  wp_walk
  refine wpAny_stack_any fun st=>wpAny_pure ?_
  split
  ·rename_i c _ _ _ _ _
   cases (c == Value.type "enumerate")
   ·wp_walk using wpAny_pyIter_tuple hL
    exact ⟨_,rfl,h⟩
   ·wp_walk using wpAny_pyIter_tuple hL
    exact ⟨_,rfl,h⟩
  ·wp_walk using wpAny_pyIter_tuple hL
   exact ⟨_,rfl,h⟩
theorem call_T {prog:Program} {w:World} {A:Around} {E:Value -> Shared -> Prop} {s:Shared} {l:Addr} {us:Array Value} {Q:Value -> Shared -> Prop} (hl:s.heap.IsTuple l us)
  (h:∀ g:Heap,g.get? (s.heap.objs.size + 1)=some (jX s.heap.objs.size .none 0 .none .none) -> g.IsTupleIter s.heap.objs.size l 0 -> (∀ c o,s.heap.get? c=some o -> g.get? c=some o) -> Q (.ref (s.heap.objs.size + 1)) { s with heap:=g }) :
  wpAny (model prog w) A (call (.type "enumerate") [.ref l]) Q E s:=by
 refine callType_new F.called_enumerate (by decide) (F.typeCall_enumerate_1 _) (F.newCall_enumerate_1 _) (fun obj=>F.args_object_init_2 obj _) F.entry_enumerate_new
  (o8 l us) ⟨hl,?_⟩
 have hz:(h1 s.heap l).objs.size=s.heap.objs.size + 1:=Heap.size_push ..
 show _ /\ _
 rw [hz]
 have he:((h1 s.heap l).push (jX s.heap.objs.size .none 0 .none .none)).get? (s.heap.objs.size + 1)=some (jX s.heap.objs.size .none 0 .none .none):=by
  have:=Heap.get?_push_size (h1 s.heap l) (o:=jX s.heap.objs.size .none 0 .none .none) rfl
  rw [hz] at this; exact this
 exact ⟨⟨_,he,rfl⟩,h _ he ⟨_,Heap.get?_push_of_some _ (Heap.get?_push_size _ rfl),rfl,rfl⟩ fun b o x=>Heap.get?_push_of_some _ (Heap.get?_push_of_some _ x)⟩
end L2.EK
namespace L2
open PySem PySem.Spec PyProof.Rows
section
variable {X:Cx}
def iEnumT (K:PySem.W.Frag) (ta:TA):TI:=fun σ H R=>ta σ H fun vs H1=>∃ a xs,vs=[.ref a] /\ SqT K H1 a xs /\ R (ItK K 0 a) H1
theorem rh {elts:List Expr} {k:Nat} {tpos:Pos} {a:Expr} {ta:TA} {p pos:Pos} (hg:Gl X "enumerate") (hm:X.mg "enumerate"=none) (ha:PA X [a] ta) (hs:starEach [a] X.env=[(false,eval a X.env)]:=by rfl) :
  PI X (.Tuple elts k tpos) (.Call (.Name "enumerate" p) [a] [] pos) (iEnumT X.K ta):=by
 intro pins s σ H R I h
 refine Call_ (dR I hg hm boot_enumerate (PyProof.Rows.callWith_type1 (thn (ha pos pins s σ H _ I h) fun us s1 ⟨vs,H1,I1,r1,q1⟩=>?_) hs rfl))
 obtain ⟨l,xs,e,hx,q⟩:=q1
 subst e
 obtain ⟨u,rfl,rr⟩:=hG r1
 cases rr
 obtain ⟨its,rv,p1,hz⟩:=I1.tuple hx
 refine EK.call_T (show s1.heap.IsTuple l its.toArray from p1) fun g z1 z2 kk=>?_
 have st:TnK 0 (s1.heap.objs.size + 1) s1.heap.objs.size l 0 g:=⟨⟨.none,.none,.inl rfl,z1⟩,z2⟩
 have hT:Shared.TypeIs { s1 with heap:=g } (.ref (s1.heap.objs.size + 1)) "enumerate":=⟨_,z1,rfl⟩
 refine wpAny_pyIter_slot hT F.slot_enumerate_iter (wpAny_call_entry F.slot_enumerate_iter hT F.entry_enumerate_iter (wpAny_pure ⟨_,rfl,"enumerate",_,hT,F.slot_enumerate_next.lookup,?_⟩) (F.args_enumerate_iter_1 _))
 refine ⟨_,[s1.heap.objs.size + 1,s1.heap.objs.size],_,_,H1,rfl,I1.kept (t':=s1.toks) kk,l5 (Nat.succ_ne_self _),st,fun b hb=>?_,q⟩
 have hb':s1.heap.objs.size <= b:=by
  simp only [List.mem_cons,List.not_mem_nil,or_false] at hb
  rcases hb with h | h <;> rw [h] <;> first | exact Nat.le_add_right _ _ | exact Nat.le_refl _
 exact I1.fpOk hb' (I1.hok.fresh hb')
end
end L2
namespace K84
open PySem L2
abbrev jm:Stmt:=top 39
inductive Pap
 | chair (t:Int) (x:Str) (tri:Tri) (ys:List Str)
 | settled (t:Int) (x:Str) (m:Nat) (ds:List (Int × PyData)) (tri:Tri) (ys:List Str)
structure Sta where
 ts:List Tri
 chs:List (Int × Str)
 es:List (Int × PyData)
def Sta.step (s:Sta):Pap -> Option Sta
 | .chair t x tri ys=>if chB s.ts s.chs t tri ys=true then some ⟨s.ts ++ [tri],s.chs ++ [(t,x)],s.es⟩ else none
 | .settled t x m ds tri ys=>if cU s.ts s.chs s.es t x m ds tri ys=true then some ⟨s.ts ++ [tri],s.chs,s.es ++ ds.drop (s.es.length - m)⟩ else none
theorem mZ {s:Sta} {t:Int} {x:Str} {tri:Tri} {ys:List Str} (h:chB s.ts s.chs t tri ys=true):s.step (.chair t x tri ys)=some ⟨s.ts ++ [tri],s.chs ++ [(t,x)],s.es⟩:=by
 show (if chB s.ts s.chs t tri ys=true then _ else _)=_
 rw [if_pos h]
theorem ng {s:Sta} {t:Int} {x:Str} {tri:Tri} {ys:List Str} (h:chB s.ts s.chs t tri ys=false):s.step (.chair t x tri ys)=none:=by
 show (if chB s.ts s.chs t tri ys=true then _ else _)=_
 rw [if_neg (by rw [h]; decide)]
theorem ni {s:Sta} {t:Int} {x:Str} {m:Nat} {ds:List (Int × PyData)} {tri:Tri} {ys:List Str} (h:cU s.ts s.chs s.es t x m ds tri ys=true):s.step (.settled t x m ds tri ys)=some ⟨s.ts ++ [tri],s.chs,s.es ++ ds.drop (s.es.length - m)⟩:=by
 show (if cU s.ts s.chs s.es t x m ds tri ys=true then _ else _)=_
 rw [if_pos h]
theorem nj {s:Sta} {t:Int} {x:Str} {m:Nat} {ds:List (Int × PyData)} {tri:Tri} {ys:List Str} (h:cU s.ts s.chs s.es t x m ds tri ys=false):s.step (.settled t x m ds tri ys)=none:=by
 show (if cU s.ts s.chs s.es t x m ds tri ys=true then _ else _)=_
 rw [if_neg (by rw [h]; decide)]
def dO (H:Hp) (p:Addr):Pap -> Prop
 | .chair t x tri ys=>∃ b y,cZ H p t x b y tri.1 tri.2.1 tri.2.2 ys
 | .settled t x m ds tri ys=>∃ (e b y:Addr) (as:List Addr) (n:Int),bT H p t x n e as b y tri.1 tri.2.1 tri.2.2 ys /\ Paired (EnD H) as ds /\ n=(m:Int) + (as.length:Int)
theorem cZ.tk {H H':Hp} {p:Addr} {t:Int} {x:Str} {b y:Addr} {vs cs ls ys:List Str} (k:Tk H H') (h:cZ H p t x b y vs cs ls ys):cZ H' p t x b y vs cs ls ys:=by
 have hb:=BnO.tk k (show BnO H b (vs,cs,ls) from ⟨h.bn,h.nb⟩)
 exact ⟨k _ _ h.ob,h.t1,h.nx,hb.1,hb.2,k _ _ h.yt,h.yl,h.yn,h.yr⟩
theorem eI {H H':Hp} {as:List Addr} {ds:List (Int × PyData)} (k:Tk H H') (h:Paired (EnD H) as ds):Paired (EnD H') as ds:=Paired.imp' (fun _ _ h=>h.tk k) h
theorem l6 {H:Hp}:∀ {as:List Addr} {ds:List (Int × PyData)},Paired (EnD H) as ds -> ∀ a ∈ as,K84P.EnV H (.ref a) true
 | _,_,.nil,a,ha=>nomatch ha
 | _,_,.cons h r,a,ha=>by
  rcases List.mem_cons.mp ha with rfl | ha
  ·exact h.g.at
  ·exact l6 r a ha
theorem dO.tk {H H':Hp} {p:Addr} {q:Pap} (k:Tk H H') (h:dO H p q):dO H' p q:=by
 cases q with
 | chair t x tri ys=>obtain ⟨b,y,h⟩:=h; exact ⟨b,y,h.tk k⟩
 | settled t x m ds tri ys =>
  obtain ⟨e,b,y,as,n,h,h2,h3⟩:=h
  have hb:=BnO.tk k (show BnO H b (tri.1,tri.2.1,tri.2.2) from ⟨h.bn,h.nb⟩)
  have h2':=eI k h2
  exact ⟨e,b,y,as,n,⟨k _ _ h.ob,h.t1,h.nx,h.n1,k _ _ h.et,h.ne,h.el,l6 h2',hb.1,hb.2,k _ _ h.yt,h.yl,h.yn,h.yr⟩,h2',h3⟩
structure MkX (P:Program) (w:World) (K:PySem.W.Frag) (mg:Str -> Option Value) (base:Heap) (C:Addr):Prop where
 ex:∃ f fd,a7 P w K mg base CX0 1 f fd ["self","number"] (spNPI C) /\ cQ K fd ["self","number"] [] /\ ExcI K C f
theorem pb {T ts:List Tri} {t:Tri} (h1:∀ k ∈ T,k ∈ ts) (h2:∀ k ∈ ts,k ∈ T):aX ts t=aX T t:=by
 unfold aX
 rw [Bool.eq_iff_iff,List.any_eq_true,List.any_eq_true]
 exact ⟨fun ⟨k,a,b⟩=>⟨k,h2 k a,b⟩,fun ⟨k,a,b⟩=>⟨k,h1 k a,b⟩⟩
structure Jdg (s0:Sta) (qs:List Pap) (S:Nat -> Sta) (m:Nat):Prop where
 s0:S 0=s0
 st:∀ i,i < m -> ∃ q,qs[i]?=some q /\ (S i).step q=some (S (i + 1))
 no:m <= qs.length
def l7 (CN:Addr):Sp:=fun us H Q E=>∃ (b pp:Addr) (t0:Tri) (ps:List Addr) (qs:List Pap) (S:Nat -> Sta) (m:Nat),us=[.ref b,.ref pp] /\ BnO H b t0 /\ H pp=some (.tup (ps.map V.ref)) /\ ps.length <= 100 /\ Paired (dO H) ps qs /\ Jdg ⟨[t0],[],[]⟩ qs S m /\ (∀ i,i <= m -> (S i).chs.length <= 900 /\ (S i).es.length <= 900) /\
 ((m=ps.length /\ ∀ (en:Addr) (es:List Addr) (H':Hp),aA H H' -> H' en=some (.tup (es.map V.ref)) -> Paired (EnD H') es (S m).es -> Q (.ref en) H') \/
  ∃ q,qs[m]?=some q /\ (S m).step q=none /\ ∀ (dx:Addr) (H':Hp),aA H H' -> H' dx=some (.xd [("number",.int (m:Int))]) -> E (.ref CN) (some dx) H')
theorem dw {α β:Type} {R:α -> β -> Prop}:∀ {as:List α} {bs:List β},Paired R as bs -> ∀ {i:Nat} {a:α},as[i]?=some a -> ∃ b,bs[i]?=some b /\ R a b
 | _,_,.nil,i,a,h=>by simp at h
 | _,_,.cons h r,0,a,e=>by
  simp at e
  subst e
  exact ⟨_,rfl,h⟩
 | _,_,.cons h r,i + 1,a,e=>by
  obtain ⟨b,h1,h2⟩:=dw r (i:=i) (a:=a) (by simpa using e)
  exact ⟨b,by simpa using h1,h2⟩
section
variable {P:Program} {w:World} {K:PySem.W.Frag} {mg:Str -> Option Value} {base:Heap} {C CN CE f0:Addr}
abbrev nLk:List Str:=["bench","papers","overlook","number","paper"]
theorem rj:aH nLk ["bench","papers"] (ai jm):=fsc (by decide +kernel)
theorem ok_look {f:Addr} {fd:FuncData} (F:Fun K "look_over" "look_over" jm f fd) (T:Cl K mg C) (TN:NPC K mg CN CE f0) (henum:mg "enumerate"=none) (Mi:MkAt P w K mg base C 1 ["self","bench"] (lK C)) (Mx:MkX P w K mg base CN) (Mt:fG P w K mg base C 8 "take_paper" ["self","paper"] (jT C)):a7 P w K mg base (CXF P w base) 9 f fd ["bench","papers"] (l7 CN):=by
 obtain ⟨fx,fdx,Gx,bx,Ix⟩:=Mx.ex
 refine F.okX rj (fun vs H Q E h=>?_) (fun cdv A outer s H vs Q E hr h=>?_)
 ·obtain ⟨b,pp,t0,ps,qs,S,m,rfl,_⟩:=h
  rfl
 ·obtain ⟨b,pp,t0,ps,qs,S,m,rfl,hb,hpp,hpl,hpq,J,bnd,q⟩:=h
  have hlq:ps.length=qs.length:=Paired.length hpq
  have hm0:m <= ps.length:=by rw [hlq]; exact J.no
  have r2:aZ 2 _:=hr.mono (by decide)
  have nd:=rj.nd
  refine ⟨_,ah (aD (i:=2) nd rfl (Or.inl rfl) (qc Mi r2 T.mgC (ad (pv 0) af))) <|
   ah (cv PassesOwn.leaving rfl (rh (by rfl) henum (ad (pv 1) af)) (gR (n:=2) rfl (a9 (aJ (i:=3) nd rfl (Or.inl rfl)) (a9 (aJ (i:=4) nd rfl (Or.inl rfl)) dz)))
    (ak (aT (bg (aW (cF Mt T.cl hr (pv 2) (ad (pv 4) af)))) (ak (oU passX rfl rfl (qX Ix Gx r2 (by rfl) TN.mgN bx mE (ad (pv 3) af)))) aE))) <|
   ak (ay (cG (pv 2) rfl)),?_⟩
  refine ⟨_,rfl,?_⟩
  intro o dx no ndx ndo
  have no':upd H dx (.own o) o=none:=by rw [au ndo.symm]; exact no
  have s1:aA H (upd (upd H dx (.own o)) o (.ins C dx [])):=(aA.new ndx).trans (aA.new no')
  refine ⟨o,dx,b,t0,rfl,ar,hb.same s1,fun bl ch en H1 nb nc ne bt hO=>⟨rfl,?_⟩⟩
  have sm:aA H H1:=fun a u e=>bt a u (am e no) (s1 _ _ e)
  have nb':=s1.none nb
  have nc':=s1.none nc
  have hO:cN C H1 o bl ch en [b] [t0] (kvO (S 0).chs) []:=by rw [J.s0]; exact hO
  refine ⟨_,rfl,pp,_,rfl,SqT.of (sm _ _ hpp),o7 (K:=K) (xs:=ps.map V.ref) (fun i σ Hx=>i <= m /\ ∃ (v3 v4:Option V) (en:Addr) (bs:List Addr) (ts:List Tri) (es:List Addr),σ=[some (V.ref b),some (V.ref pp),some (V.ref o),v3,v4] /\ aA H Hx /\ cN C Hx o bl ch en bs ts (kvO (S i).chs) es /\ Paired (EnD Hx) es (S i).es /\ bs.length <= i + 1 /\ (∀ k ∈ (S i).ts,k ∈ ts) /\ ∀ k ∈ ts,k ∈ (S i).ts) ⟨Nat.zero_le _,none,none,en,[b],[t0],[],rfl,sm,hO,by rw [J.s0]; exact .nil,Nat.le_refl _,fun k hk=>by rw [J.s0] at hk; exact hk,fun k hk=>by rw [J.s0]; exact hk⟩ ?_ ?_ ?_⟩
  ·rintro i σ Hx ⟨_,v3,v4,en,bs,ts,es,rfl,sx,_⟩
   exact SqT.of (sx _ _ hpp)
  ·rintro i x a σ Hx hx ha ⟨him,v3,v4,en,bs,ts,es,rfl,sx,hO,hes,hbl,hts,hst⟩
   rw [List.getElem?_map] at hx
   cases he:ps[i]? with
   | none=>rw [he] at hx; cases hx
   | some p =>
    rw [he] at hx
    cases hx
    have hil:i < ps.length:=(List.getElem?_eq_some_iff.mp he).1
    have s2:=aA.new (o:=.tup [.int (0 + (i:Int)),.ref p]) ha
    have e2:upd Hx a (.tup [.int (0 + (i:Int)),.ref p]) a=some (.tup [.int (0 + (i:Int)),.ref p]):=ar
    refine ⟨a,_,rfl,SqT.of e2,rfl,_,_,rfl,_,_,rfl,rfl,?_⟩
    generalize upd Hx a (.tup [.int (0 + (i:Int)),.ref p])=H2 at s2 e2 ⊢
    have sH:=sx.trans s2
    have hO2:=hO.same s2
    have hes2:=Paired.imp' (fun _ _ h=>EnD.same s2 h) hes
    have lel:=Paired.length hes
    obtain ⟨⟨dx2,h12⟩,_⟩:=id hO2
    have bd:=bnd i him
    refine ⟨_,rfl,o,dx2,_,rfl,h12,gL _ _ _ (by decide +kernel) (by decide +kernel) (by decide +kernel),_,rfl,o,bl,ch,en,p,bs,ts,(S i).chs,es,(S i).es,rfl,hO2,by omega,bd.1,by omega,hes2,?_⟩
    have nx:∀ {H':Hp},BtX o bl ch H2 H' -> aA H H':=fun bt a u e=>bt a u (am e no) (am e nb') (am e nc') (sH _ _ e)
    have tx:∀ {H':Hp},BtX o bl ch H2 H' -> Tk H2 H':=fun bt a xs e=>by
     obtain ⟨⟨dq,g1⟩,g2,_,g4,_⟩:=hO2
     exact bt a _ (bp e g1 (by intro z; cases z)) (bp e g2 (by intro z; cases z)) (bp e g4 (by intro z; cases z)) e
    have kb:∀ tri,aX ts tri=aX (S i).ts tri:=fun tri=>pb hts hst
    obtain ⟨q',hq',hpa⟩:=dw hpq he
    have hpa:=hpa.tk (Tk.of sH)
    have good:∀ s',(S i).step q'=some s' -> i < m /\ S (i + 1)=s':=fun s' hs=>by
     by_cases hlt:i < m
     ·obtain ⟨q2,h1,h2⟩:=J.st i hlt
      rw [hq'] at h1
      cases h1
      rw [hs] at h2
      exact ⟨hlt,(Option.some.inj h2).symm⟩
     ·have em:i=m:=by omega
      rcases q with ⟨e0,_⟩ | ⟨q2,h1,h2,_⟩
      ·omega
      rw [em] at hq' hs
      rw [hq'] at h1
      cases h1
      rw [hs] at h2
      cases h2
    have bad:(S i).step q'=none -> i=m /\ ∀ (dx:Addr) (H':Hp),aA H H' -> H' dx=some (.xd [("number",.int (m:Int))]) -> E (.ref CN) (some dx) H':=fun hs=>by
     by_cases hlt:i < m
     ·obtain ⟨q2,h1,h2⟩:=J.st i hlt
      rw [hq'] at h1
      cases h1
      rw [hs] at h2
      cases h2
     ·have em:i=m:=by omega
      rcases q with ⟨e0,_⟩ | ⟨q2,h1,h2,h3⟩
      ·omega
      exact ⟨em,h3⟩
    have fin:(S i).step q'=none -> ∀ H3,aA H2 H3 -> ∀ xx,H3 xx=none -> ∀ dd,upd H3 xx (xcA xx CN none) dd=none -> dd ≠ xx -> H xx=none /\ E (.ref CN) (some dd) (del (upd (upd (upd H3 xx (xcA xx CN none)) xx (xcA xx CN (some dd))) dd (.xd [("number",.int (i:Int))])) xx):=fun hs H3 s3 xx nxx dd nd1 nd2=>by
     obtain ⟨em,qE⟩:=bad hs
     have s03:=sH.trans s3
     refine ⟨s03.none nxx,qE dd _ (fun c u e=>?_) ?_⟩
     ·have n1:c ≠ xx:=am (s03 _ _ e) nxx
      have n2:c ≠ dd:=fun z=>by
       rw [au nd2,<- z,s03 _ _ e] at nd1
       cases nd1
      rw [dJ n1,au n2,au n1,au n1]
      exact s03 _ _ e
     ·rw [dJ nd2,ar,em]
    cases q' with
    | chair t x tri ys =>
     obtain ⟨b',y,hc⟩:=hpa
     refine .inl ⟨b',y,t,x,tri.1,tri.2.1,tri.2.2,ys,hc,fun hb H' bs' ts' bt hO' hl' hm ht hu=>⟨_,rfl,aN ?_⟩,fun hb H3 s3=>⟨_,rfl,aQ ?_⟩⟩
     rotate_left
     ·refine ⟨_,rfl,(by show 1 <= sizeLine; rw [sizeLine_eq]; decide),fun xx nxx=>?_⟩
      refine ⟨xx,i,by rw [Int.zero_add],by omega,ar,fun dd nd1 nd2=>⟨rfl,?_⟩⟩
      have e1:upd (upd (upd H3 xx (xcA xx CN none)) xx (xcA xx CN (some dd))) dd (.xd [("number",.int (i:Int))]) xx=some (xcA xx CN (some dd)):=by rw [au nd2.symm,ar]
      obtain ⟨f1,f2⟩:=fin (ng (by unfold chB at hb ⊢; rw [<- kb]; exact hb)) H3 s3 xx nxx dd nd1 nd2
      exact ⟨xx,CN,some dd,rfl,e1,TN.mke.ex,f1,f2⟩
     obtain ⟨hlt,es1⟩:=good _ (mZ (by unfold chB at hb ⊢; rw [<- kb]; exact hb))
     refine ⟨hlt,_,_,en,bs',ts',es,rfl,nx bt,by rw [es1]; exact hO',by rw [es1]; exact eI (tx bt) hes2,by omega,fun k hk=>?_,fun k hk=>?_⟩
     ·rw [es1] at hk
      rcases List.mem_append.mp hk with h | h
      ·exact hm k (hts k h)
      ·rw [List.mem_singleton.mp h]; exact ht
     ·rw [es1]
      rcases hu k hk with h | h
      ·exact List.mem_append_left _ (hst k h)
      ·exact List.mem_append_right _ (List.mem_singleton.mpr h)
    | settled t x m' ds tri ys =>
     obtain ⟨e,b',y,as,n,hs,has,hnm⟩:=hpa
     refine .inr ⟨e,b',y,as,ds,t,x,n,m',tri.1,tri.2.1,tri.2.2,ys,hs,has,hnm,fun hb H' en' bs' ts' bt hO' hl' hm ht hu=>⟨_,rfl,aN ?_⟩,fun hb H3 s3=>⟨_,rfl,aQ ?_⟩⟩
     rotate_left
     ·refine ⟨_,rfl,(by show 1 <= sizeLine; rw [sizeLine_eq]; decide),fun xx nxx=>?_⟩
      refine ⟨xx,i,by rw [Int.zero_add],by omega,ar,fun dd nd1 nd2=>⟨rfl,?_⟩⟩
      have e1:upd (upd (upd H3 xx (xcA xx CN none)) xx (xcA xx CN (some dd))) dd (.xd [("number",.int (i:Int))]) xx=some (xcA xx CN (some dd)):=by rw [au nd2.symm,ar]
      obtain ⟨f1,f2⟩:=fin (nj (by unfold cU at hb ⊢; rw [<- kb]; exact hb)) H3 s3 xx nxx dd nd1 nd2
      exact ⟨xx,CN,some dd,rfl,e1,TN.mke.ex,f1,f2⟩
     obtain ⟨hlt,es1⟩:=good _ (ni (by unfold cU at hb ⊢; rw [<- kb]; exact hb))
     refine ⟨hlt,_,_,en',bs',ts',_,rfl,nx bt,by rw [es1]; exact hO',by rw [es1,<- lel]; exact eI (tx bt) (dn hes2 (eS has _)),by omega,fun k hk=>?_,fun k hk=>?_⟩
     ·rw [es1] at hk
      rcases List.mem_append.mp hk with h | h
      ·exact hm k (hts k h)
      ·rw [List.mem_singleton.mp h]; exact ht
     ·rw [es1]
      rcases hu k hk with h | h
      ·exact List.mem_append_left _ (hst k h)
      ·exact List.mem_append_right _ (List.mem_singleton.mpr h)
  ·rintro σ Hx ⟨him,v3,v4,en,bs,ts,es,rfl,sx,hO,hes,hbl,hts,hst⟩
   rw [List.length_map] at hO him hes
   obtain ⟨⟨dx2,h12⟩,_,_,_,h5⟩:=id hO
   rcases q with ⟨em,q⟩ | ⟨q2,hq2,_⟩
   ·rw [<- em] at hes
    exact ⟨_,rfl,o,C,dx2,_,_,rfl,h12,T.cl,T.nE,iu _ _ _,q en es Hx sx h5 hes⟩
   ·have:=(List.getElem?_eq_some_iff.mp hq2).1
    omega
end
structure Holds (H:Hp) (ts:List Tri) (kvs:List (Key × V)) (es:List Addr) (t:Int) (x:Str) (n:Int) (as:List Addr) (vs cs ls ys:List Str) (m:Nat):Prop where
 kn:aX ts (vs,cs,ls)=true
 hf:bF vs cs ys=true
 yl:ys.length <= 100
 ch:cD kvs (Sum.inl t:Key)=some (.str x)
 be:n=(m:Int) + (as.length:Int)
 ml:m <= es.length
 jt:(es.drop m).take as.length=as.take ((es.drop m).take as.length).length
 lt:∃ (r:List Addr) (a:Addr) (d:V),as=r ++ [a] /\ H a=some (.tup [.int t,d])
structure dy (H:Hp) (p:Addr) (t:Int) (x:Str) (n:Int) (e:Addr) (as:List Addr) (b y:Addr) (vs cs ls ys:List Str):Prop where
 ob:H p=some (.tup [.str (Str.ofString "settled"),.int t,.str x,.int n,.ref e,.ref b,.ref y])
 t1:1 <= t
 nx:Nm x
 n1:1 <= n
 et:H e=some (.tup (as.map V.ref))
 ne:as ≠ []
 el:as.length <= 900
 ee:∀ a ∈ as,∃ t,EnG H a t
 bn:BnO H b (vs,cs,ls)
 yt:H y=some (.tup (ys.map V.str))
 yl:ys.length <= 60
 yn:∀ z ∈ ys,Nm z
 yr:ys.Pairwise ltS
theorem dy.at {H:Hp} {p:Addr} {t:Int} {x:Str} {n:Int} {e:Addr} {as:List Addr} {b y:Addr} {vs cs ls ys:List Str} (h:dy H p t x n e as b y vs cs ls ys):bT H p t x n e as b y vs cs ls ys:=⟨h.ob,h.t1,h.nx,h.n1,h.et,h.ne,h.el,fun a ha=>by obtain ⟨t,q⟩:=h.ee a ha; exact q.at,h.bn.1,h.bn.2,h.yt,h.yl,h.yn,h.yr⟩
structure StaO where
 ts:List Tri
 kv:List (Key × V)
 es:List Addr
inductive Stp (H:Hp) (p:Addr) (s s':StaO):Prop
 | chair {b y:Addr} {t:Int} {x:Str} {vs cs ls ys:List Str}:cZ H p t x b y vs cs ls ys -> aX s.ts (vs,cs,ls)=true -> bF vs cs ys=true -> cD s.kv (Sum.inl t:Key)=none -> s'=⟨s.ts ++ [(vs,cs,ls)],bZ s.kv (Sum.inl t:Key) (.str x),s.es⟩ -> Stp H p s s'
 | settled {e b y:Addr} {as:List Addr} {t:Int} {x:Str} {n:Int} {m:Nat} {vs cs ls ys:List Str}:dy H p t x n e as b y vs cs ls ys -> Holds H s.ts s.kv s.es t x n as vs cs ls ys m -> s'=⟨s.ts ++ [(vs,cs,ls)],s.kv,s.es ++ as.drop (s.es.length - m)⟩ -> Stp H p s s'
 | again {e b y:Addr} {as:List Addr} {t:Int} {x:Str} {n:Int} {m:Nat} {vs cs ls ys:List Str}:dy H p t x n e as b y vs cs ls ys -> Holds H s.ts s.kv s.es t x n as vs cs ls ys m -> as.drop (s.es.length - m)=[] -> s'=s -> Stp H p s s'
theorem iA {T ts:List Tri} {t:Tri} (h:∀ k ∈ T,k ∈ ts) (hk:aX T t=true):aX ts t=true:=by
 unfold aX at hk ⊢
 rw [List.any_eq_true] at hk ⊢
 obtain ⟨k,h1,h2⟩:=hk
 exact ⟨k,h k h1,h2⟩
theorem l9 {H:Hp}:∀ {as:List Addr},(∀ a ∈ as,∃ t,EnG H a t) -> ∃ ds,Paired (EnD H) as ds
 | [],_=>⟨[],.nil⟩
 | a :: r,h=>by
  obtain ⟨t,g⟩:=h a (List.mem_cons_self ..)
  obtain ⟨d,hd⟩:=g.en
  obtain ⟨ds,hr⟩:=l9 (as:=r) fun b hb=>h b (List.mem_cons_of_mem _ hb)
  exact ⟨_,.cons hd hr⟩
abbrev pd:Stmt:=top 47
theorem aR.tk {R:Addr} {H H':Hp} (r:Rst H R) (b:aR R H H'):Tk H H':=fun a xs e=>b a _ (by obtain ⟨x,y,h,_⟩:=r; exact bp e h (by intro z; cases z)) e
structure cu (H:Hp) (nl:Addr) (zs:List Str):Prop where
 ob:H nl=some (.lst (zs.map V.str))
 up:zs.Pairwise ltS
 l8:8 <= zs.length
 l15:zs.length <= 15
 nm:∀ z ∈ zs,Nm z
theorem cu.but {R:Addr} {H H':Hp} {nl:Addr} {zs:List Str} (n:nl ≠ R) (b:aR R H H') (h:cu H nl zs):cu H' nl zs:=⟨b _ _ n h.ob,h.up,h.l8,h.l15,h.nm⟩
theorem cu.pick {H:Hp} {nl:Addr} {zs:List Str} (h:cu H nl zs) {z:Int} (h0:0 <= z) (h1:z < zs.length):∃ x,atI (zs.map V.str) z=some (.str x) /\ Nm x:=by
 obtain ⟨v,hv,hm⟩:=jJ (xs:=zs.map V.str) h0 (by rw [List.length_map]; exact h1)
 obtain ⟨x,hx,rfl⟩:=List.mem_map.mp hm
 exact ⟨x,hv,h.nm x hx⟩
def nq:Sp:=fun us H Q _=>∃ (R nl:Addr) (t:Int) (zs:List Str),us=[.ref R,.int t,.ref nl] /\ Rst H R /\ cu H nl zs /\ nl ≠ R /\ 1 <= t /\ ∀ (a:Addr) (H':Hp),EnG H' a t -> Rst H' R -> aR R H H' -> Q (.ref a) H'
section
variable {P:Program} {w:World} {K:PySem.W.Frag} {mg:Str -> Option Value} {base:Heap}
abbrev nEnt:List Str:=["_law_rest_here","_law_term","_law_names_here","_law_way","_law_number","_law_key","_law_work"]
theorem scEnt:aH nEnt ["_law_rest_here","_law_term","_law_names_here"] (ai pd):=fsc (by decide +kernel)
theorem ok_ent {f:Addr} {fd:FuncData} (F:Fun K "_law_entry" "_law_entry" pd f fd) (B:Blt mg) (Ft:aL P w K mg base 1 "_law_take" dN cw) (Fb:aL P w K mg base 3 "_law_bench" ["_law_rest_here","_law_names_here"] fL):a7 P w K mg base CX0 4 f fd ["_law_rest_here","_law_term","_law_names_here"] nq:=by
 refine F.ok scEnt (fun vs H Q E h=>?_) (fun cdv A outer s H vs Q E hr h=>?_)
 ·obtain ⟨R,nl,t,zs,rfl,_⟩:=h
  rfl
 ·obtain ⟨R,nl,t,zs,rfl,r0,N0,nR,t1,q⟩:=h
  have r1:aZ 1 _:=hr.mono (by decide)
  have nd:=scEnt.nd
  have hs16:sizeLine=16777216:=sizeLine_eq
  refine ⟨_,ah (aD (i:=3) nd rfl (Or.inl rfl) (aj Ft r1 (ad (pv 0) (ad ag af)))) <|
   ah (aT (az bL (pv 3) ag (aB _)) (ak (ay (aG (ad (pv 1) (ad (aG (ad aM af)) af))))) aE) <|
   ah (aT (az bL (pv 3) ag (aB _)) (ak (ay (aG (ad (pv 1) (ad (aG (ad aM (ad (aj Fb hr (ad (pv 0) (ad (pv 2) af))) af))) af))))) aE) <|
   ah (aD (i:=4) nd rfl (Or.inl rfl) (aj Ft r1 (ad (pv 0) (ad (aO kT ag ag) af)))) <|
   ah (aD (i:=5) nd rfl (Or.inl rfl) (ax bu (pv 2) (aj Ft r1 (ad (pv 0) (ad (aq ao (by rfl) B.len PySem.boot_len (ad (pv 2) af)) af))) (fun _ _=>rfl))) <|
   ah (ps_setW (i:=6) nd rfl (Or.inl rfl) (qk (ie (aG (ad aM (ad (pv 5) (ad (pv 4) af)))) <| ie (aG (ad aM (ad (pv 5) (ad (aO dU ag (pv 4)) af)))) <| ie (aG (ad aM (ad (pv 5) af))) pa_nilW) (aj Ft r1 (ad (pv 0) (ad ag af))) (fun _ _=>rfl))) <|
   ak (ay (aG (ad (pv 1) (ad (aG (ad aM (ad (ax bu (pv 2) (aj Ft r1 (ad (pv 0) (ad (aq ao (by rfl) B.len PySem.boot_len (ad (pv 2) af)) af))) (fun _ _=>rfl)) (ad (aO bi ag (aj Ft r1 (ad (pv 0) (ad ag af)))) (ad (pv 6) af))))) af)))),?_⟩
  refine ⟨_,rfl,R,4,rfl,r0,by decide,by decide,fun z H1 z0 z1 q1 b1=>?_⟩
  have N1:=N0.but nR b1
  refine ⟨_,rfl,rfl,_,rfl,bD (fun _=>?_) (fun _=>?_)⟩
  ·refine ⟨_,rfl,(show 1 <= sizeLine by omega),fun d H2 nd2 s2 e2=>⟨(show 2 <= sizeLine by omega),fun a H3 na s3 e3=>?_⟩⟩
   exact q a H3 ⟨t1,d,e3,.first (s3 _ _ e2)⟩ ((q1.same s2).same s3) (b1.trans (aR.of (s2.trans s3)))
  refine ⟨_,rfl,rfl,_,rfl,bD (fun _=>?_) (fun _=>?_)⟩
  ·refine ⟨_,rfl,_,rfl,_,rfl,R,nl,zs,rfl,q1,N1.ob,nR,N1.up,N1.l8,N1.l15,fun b vs cs ls H2 nb hb hv hc hl q2 b2=>?_⟩
   refine ⟨(show 2 <= sizeLine by omega),fun d H3 nd3 s3 e3=>⟨(show 2 <= sizeLine by omega),fun a H4 na s4 e4=>?_⟩⟩
   exact q a H4 ⟨t1,d,e4,.bench (t:=(vs,cs,ls)) (s4 _ _ e3) (BnO.same (s3.trans s4) ⟨hb,fun x hx=>N0.nm x (hv x hx),fun x hx=>N0.nm x (hc x hx),fun x hx=>N0.nm x (hl x hx)⟩)⟩ ((q2.same s3).same s4) ((b1.trans b2).trans (aR.of (s3.trans s4)))
  refine ⟨_,rfl,_,_,rfl,rfl,⟨by decide,by decide,by decide⟩,R,_,rfl,q1,(by decide +kernel),(by decide +kernel),fun n H2 n0 n1 q2 b2=>?_⟩
  have n1:n < 10 ^ 60:=n1
  have N2:=N1.but nR b2
  have l15:=N0.l15
  have l8:=N0.l8
  refine ⟨_,rfl,_,rfl,_,rfl,nl,_,rfl,.inl (SqL.of N2.ob),R,_,rfl,q2,(by rw [List.length_map]; omega),(by rw [List.length_map]; exact Int.le_trans (show ((zs.length:Nat):Int) <= 15 by omega) (by decide +kernel)),fun k H3 k0 k1 q3 b3=>?_⟩
  rw [List.length_map] at k1
  have N3:=N2.but nR b3
  obtain ⟨x,hx,nx⟩:=N3.pick k0 k1
  refine ⟨nl,_,_,_,rfl,rfl,SqL.of N3.ob,hx,?_⟩
  refine ⟨_,rfl,_,rfl,(show 3 <= sizeLine by omega),fun w0 H4 nw0 s4 e4=>?_⟩
  refine ⟨_,rfl,_,rfl,_,_,rfl,rfl,(show 3 <= sizeLine by omega),fun w1 H5 nw1 s5 e5=>?_⟩
  refine ⟨_,rfl,(show 2 <= sizeLine by omega),fun w2 H6 nw2 s6 e6=>?_⟩
  refine ⟨(show 3 <= sizeLine by omega),fun l H7 nl7 s7 e7=>?_⟩
  have s37:=((s4.trans s5).trans s6).trans s7
  have q7:=q3.same s37
  refine ⟨_,rfl,R,3,rfl,q7,by decide,by decide,fun j H8 j0 j1 q8 b8=>?_⟩
  have lR:l ≠ R:=((q3.same ((s4.trans s5).trans s6))).ne nl7
  have k8:=b8.tk q7
  have w0g:WkG H8 w0:=.put (.inl rfl) (k8 _ _ (s7 _ _ (s6 _ _ (s5 _ _ e4)))) nx (Int.lt_of_lt_of_le (by decide +kernel) n0) n1
  have hn9:-(10 ^ 60) < (0:Int) - n:=by omega
  have w1g:WkG H8 w1:=.put (.inr rfl) (k8 _ _ (s7 _ _ (s6 _ _ e5))) nx hn9 (Int.lt_of_le_of_lt (show (0:Int) - n <= 0 by omega) (by decide +kernel))
  have w2g:WkG H8 w2:=.drop (k8 _ _ (s7 _ _ e6)) nx
  have pick:∃ wk,atI [V.ref w0,V.ref w1,V.ref w2] j=some (.ref wk) /\ WkG H8 wk:=by
   have:j=0 \/ j=1 \/ j=2:=by omega
   rcases this with rfl | rfl | rfl
   ·exact ⟨w0,at0,w0g⟩
   ·exact ⟨w1,at1,w1g⟩
   ·exact ⟨w2,at2,w2g⟩
  obtain ⟨wk,hwk,gwk⟩:=pick
  refine ⟨l,_,_,_,rfl,rfl,SqL.of (b8 _ _ lR e7),hwk,?_⟩
  have b08:=((b1.trans b2).trans b3).trans ((aR.of s37).trans b8)
  have N8:=N0.but nR b08
  refine ⟨_,rfl,_,rfl,_,rfl,_,rfl,nl,_,rfl,.inl (SqL.of N8.ob),R,_,rfl,q8,(by rw [List.length_map]; omega),(by rw [List.length_map]; exact Int.le_trans (show ((zs.length:Nat):Int) <= 15 by omega) (by decide +kernel)),fun i H9 i0 i1 q9 b9=>?_⟩
  rw [List.length_map] at i1
  have N9:=N8.but nR b9
  obtain ⟨y,hy,ny⟩:=N9.pick i0 i1
  refine ⟨nl,_,_,_,rfl,rfl,SqL.of N9.ob,hy,?_⟩
  refine ⟨_,rfl,R,9,rfl,q9,by decide,by decide,fun m H10 m0 m1 q10 b10=>?_⟩
  refine ⟨_,_,rfl,rfl,_,rfl,(show 4 <= sizeLine by omega),fun d H11 nd11 s11 e11=>⟨(show 2 <= sizeLine by omega),fun a H12 na s12 e12=>?_⟩⟩
  have k10:=(b9.tk q8).trans (b10.tk q9)
  have k12:=k10.trans (Tk.of (s11.trans s12))
  exact q a H12 ⟨t1,d,e12,.ask (s12 _ _ e11) ny (by omega) (gwk.tk k12)⟩ ((q10.same s11).same s12) ((b08.trans (b9.trans b10)).trans (aR.of (s11.trans s12)))
end
abbrev fo:Stmt:=top 48
def fP:Sp:=fun us H Q _=>∃ (R b nl:Addr) (zs:List Str) (t:Tri),us=[.ref R,.ref b,.ref nl] /\ Rst H R /\ cu H nl zs /\ nl ≠ R /\ BnO H b t /\
 ∀ (y:Addr) (ys:List Str) (H':Hp),H' y=some (.tup (ys.map V.str)) -> ys.length <= 60 -> (∀ z ∈ ys,Nm z) -> ys.Pairwise ltS -> bF t.1 t.2.1 ys=true -> Rst H' R -> aR R H H' -> Q (.ref y) H'
def dL (ps fs:List Str) (i:Nat):Prop:=cy ps fs=true \/ ∀ x ∈ ps.take i,x ∈ fs
theorem dL.mono {ps fs gs:List Str} {i:Nat} (h:∀ x ∈ fs,x ∈ gs) (e:dL ps fs i):dL ps gs i:=e.imp (eP h) fun g x hx=>h x (g x hx)
theorem dL.step {ps fs:List Str} {i:Nat} {x:Str} (hx:ps[i]?=some x) (hm:x ∈ fs) (e:dL ps fs i):dL ps fs (i + 1):=by
 refine e.imp id fun g y hy=>?_
 rw [List.take_add_one,hx] at hy
 rcases List.mem_append.mp hy with h | h
 ·exact g y h
 ·rw [List.mem_singleton.mp h]; exact hm
theorem dL.done {ps fs:List Str} (e:dL ps fs ps.length) (h1:1 <= ps.length):cy ps fs=true:=by
 rcases e with h | h
 ·exact h
 ·rw [List.take_length] at h
  unfold cy
  rw [cnt_all h]
  exact decide_eq_true (by omega)
section
variable {P:Program} {w:World} {K:PySem.W.Frag} {mg:Str -> Option Value} {base:Heap}
abbrev nMs:List Str:=["_law_rest_here","_law_bench_here","_law_names_here","_law_some_here","_law_part","_law_name"]
theorem nr:aH nMs ["_law_rest_here","_law_bench_here","_law_names_here"] (ai fo):=fsc (by decide +kernel)
theorem ndMs:(nMs ++ (["_law_one"]:List Str)).Nodup:=by decide +kernel
theorem rl {f:Addr} {fd:FuncData} (F:Fun K "_law_most" "_law_most" fo f fd) (B:Blt mg) (Fs:aL P w K mg base 2 "_law_some" i8 gc):a7 P w K mg base CX0 3 f fd ["_law_rest_here","_law_bench_here","_law_names_here"] fP:=by
 refine F.ok nr (fun vs H Q E h=>?_) (fun cdv A outer s H vs Q E hr h=>?_)
 ·obtain ⟨R,b,nl,zs,t,rfl,_⟩:=h
  rfl
 ·obtain ⟨R,b,nl,zs,⟨vs,cs,ls⟩,rfl,r0,N0,nR,hB,q⟩:=h
  have nd:=nr.nd
  have hs16:sizeLine=16777216:=sizeLine_eq
  refine ⟨_,ah (aD (i:=3) nd rfl (Or.inr rfl) (dh ib (by rfl) B.list bList (ad (aj Fs hr (ad (pv 0) (ad (pv 2) (ad ag (ad ag af))))) af))) <|
   ah (cv PassesOwn.never rfl (db (bf cz (pv 1) bN (bb ag))) (aJ (i:=4) nd rfl (Or.inl rfl))
    (ak (cv PassesOwn.never rfl (db (pv 4)) (aJ (i:=5) nd rfl (Or.inl rfl))
     (ak (aT (PW.pt (c9 (az pF (aO gX ag (aq ao (by rfl) B.len PySem.boot_len (ad
      (cE nMs nMs ["_law_one"] (ai fo) rfl rfl rfl (by decide +kernel) rfl rfl (by decide +kernel) (by decide +kernel) (by decide +kernel) (by decide +kernel)
       (db (pv 4)) (fun _ _ _ _ _=>aJ (i:=6) ndMs rfl (Or.inl rfl)) (fun _ _ _ _ _=>dE (az dG (pv 6) (pv 3) (by rfl))) (fun _ _ _ _ _=>pv 6)) af)))
      (aq ao (by rfl) B.len PySem.boot_len (ad (pv 4) af)) (aB _)) (cL (az fE (pv 5) (pv 3) (by rfl)))))
      (ak (bK (cT PySem.F.plainAttrs_list PySem.F.slot_list_append PySem.F.type_list_append cg (pv 3) (ad (pv 5) af)))) aE))))) <|
   ak (ay (dh eg (by rfl) B.tuple cI (ad (aq fg (by rfl) B.sorted jI (ad (pv 3) af)) af))),?_⟩
  obtain ⟨⟨⟨v,c,l,b1,b2,b3,b4⟩,vr,cr,lr,v1,v7,c7,l4,ap⟩,nv,nc,nl'⟩:=id hB
  refine ⟨_,rfl,_,rfl,R,nl,zs,0,15,rfl,r0,N0.ob,nR,bS N0.up,N0.l15,by decide,by decide,by omega,by decide,fun s0 ss H1 ns0 es0 hsr hsz slo shi r1 bt1=>?_⟩
  refine ⟨s0,_,rfl,.inr (SqT.of es0),fun so H2 nso s2 eso=>?_⟩
  have bt2:=bt1.trans (aR.of s2)
  have oR:so ≠ R:=r1.ne nso
  have fso:H so=none:=dm bt1 nso oR
  have k2:=(bt1.tk r0).trans (Tk.of s2)
  refine ⟨_,rfl,_,rfl,b,_,rfl,k2 _ _ b1,fun p H3 s3 e3=>?_⟩
  have e3:H3 p=some (.tup [.ref v,.ref c]):=e3.trans (by rw [show (2:Int)=((2:Nat):Int) from rfl,mV]; rfl)
  refine ⟨p,rfl,⟨_,SqT.of e3⟩,js (K:=K) (xs:=[.ref v,.ref c]) (fun k σ Hx=>∃ (fs:List Str) (v4 v5:Option V),σ=[some (V.ref R),some (V.ref b),some (V.ref nl),some (V.ref so),v4,v5] /\ Hx so=some (.lst (fs.map V.str)) /\ fs.Nodup /\ fs.length <= 15 + 7 * k /\ (∀ z ∈ fs,Nm z) /\ Rst Hx R /\ aR R H Hx /\ Hx p=some (.tup [.ref v,.ref c]) /\ (1 <= k -> cy vs fs=true) /\ (2 <= k -> cs=[] \/ cy cs fs=true))
   ⟨ss,none,none,rfl,s3 _ _ eso,bS hsr,by omega,fun z hz=>N0.nm z (hsz z hz),(r1.same s2).same s3,bt2.trans (aR.of s3),e3,fun h=>absurd h (by decide),fun h=>absurd h (by decide)⟩ ?_ ?_ ?_⟩
  ·rintro k σ Hx _ ⟨fs,v4,v5,rfl,h1,h2,h3,h4,h5,h6,h7,h8,h9⟩
   exact SqT.of h7
  ·rintro k x σ Hx hx ⟨fs,v4,v5,rfl,h1,h2,h3,h4,h5,h6,h7,h8,h9⟩
   have hpart:∃ (pa:Addr) (ps:List Str),x=.ref pa /\ H pa=some (.tup (ps.map V.str)) /\ ps.length <= 7 /\ (∀ z ∈ ps,Nm z) /\ (k=0 /\ ps=vs \/ k=1 /\ ps=cs):=by
    match k,hx with
    | 0,hx=>cases hx; exact ⟨v,vs,rfl,b2,v7,nv,.inl ⟨rfl,rfl⟩⟩
    | 1,hx=>cases hx; exact ⟨c,cs,rfl,b3,c7,nc,.inr ⟨rfl,rfl⟩⟩
    | n + 2,hx=>cases hx
   obtain ⟨pa,ps,rfl,hpa,p7,pn,hk⟩:=hpart
   have k1:k <= 1:=by rcases hk with h | h <;> omega
   have paR:pa ≠ R:=by obtain ⟨x,y,h,_⟩:=r0; exact bp hpa h (by intro z; cases z)
   refine ⟨_,rfl,pa,rfl,⟨_,SqT.of (h6 _ _ paR hpa)⟩,js (K:=K) (xs:=ps.map V.str) (fun i σ Hx=>∃ (gs:List Str) (v5:Option V),σ=[some (V.ref R),some (V.ref b),some (V.ref nl),some (V.ref so),some (V.ref pa),v5] /\ Hx so=some (.lst (gs.map V.str)) /\ gs.Nodup /\ gs.length <= 15 + 7 * k + i /\ (∀ z ∈ gs,Nm z) /\ Rst Hx R /\ aR R H Hx /\ Hx p=some (.tup [.ref v,.ref c]) /\ (∀ z ∈ fs,z ∈ gs) /\ dL ps gs i)
    ⟨fs,v5,rfl,h1,h2,by omega,h4,h5,h6,h7,fun z hz=>hz,.inr (fun x hx=>by cases hx)⟩ ?_ ?_ ?_⟩
   ·rintro i σ Hy _ ⟨gs,v5,rfl,g1,g2,g3,g4,g5,g6,g7,g8,g9⟩
    exact SqT.of (g6 _ _ paR hpa)
   ·rintro i x σ Hy hx ⟨gs,v5,rfl,g1,g2,g3,g4,g5,g6,g7,g8,g9⟩
    rw [List.getElem?_map] at hx
    cases he:ps[i]? with
    | none=>rw [he] at hx; cases hx
    | some n =>
     rw [he] at hx
     cases hx
     have hil:i < ps.length:=(List.getElem?_eq_some_iff.mp he).1
     have hpy:=g6 _ _ paR hpa
     refine ⟨_,rfl,pa,rfl,⟨_,SqT.of hpy⟩,?_⟩
     refine lcFU (fun u=>inV u (gs.map V.str)) rfl hpy (by rw [List.length_map]; omega) (fun D x ys post hD hx hpost=>?_) (fun D hD=>?_)
     ·obtain ⟨z,hz,rfl⟩:=List.mem_map.mp hx
      have e3:upd Hy D (.lst ys) so=some (.lst (gs.map V.str)):=by rw [au (am g1 hD)]; exact g1
      exact ⟨_,rfl,_,rfl,so,_,rfl,.inl (SqL.of e3),rfl,bq gs,_,rfl,hpost⟩
     rw [eM]
     have s5:=aA.new (o:=.lst ((ps.filter fun x=>decide (x ∈ gs)).map V.str)) hD
     have e5:upd Hy D (.lst ((ps.filter fun x=>decide (x ∈ gs)).map V.str)) D=some (.lst ((ps.filter fun x=>decide (x ∈ gs)).map V.str)):=ar
     generalize upd Hy D (.lst ((ps.filter fun x=>decide (x ∈ gs)).map V.str))=H5 at s5 e5 ⊢
     refine ⟨D,_,rfl,.inl (SqL.of e5),2,_,rfl,rfl,.inl (by decide),_,rfl,pa,_,rfl,.inr (SqT.of (s5 _ _ hpy)),_,_,rfl,rfl,_,rfl,?_⟩
     rw [List.length_map,List.length_map]
     refine bD (fun z=>?_) (fun z=>?_)
     ·refine ⟨_,rfl,_,rfl,so,_,rfl,.inl (SqL.of (s5 _ _ g1)),rfl,bq gs,_,rfl,?_⟩
      rw [eK]
      by_cases hm:n ∈ gs
      ·rw [decide_eq_true hm]
       exact aN ⟨gs,_,rfl,s5 _ _ g1,g2,by omega,g4,g5.same s5,g6.trans (aR.of s5),s5 _ _ g7,g8,g9.step he hm⟩
      ·rw [decide_eq_false hm]
       refine aQ ⟨_,rfl,.inl ⟨rfl,_,SqL.of (s5 _ _ g1)⟩,_,rfl,so,_,_,rfl,rfl,s5 _ _ g1,by rw [List.length_map]; omega,fun H6 k6 e6=>?_⟩
       have sub:∀ z ∈ gs,z ∈ gs ++ [n]:=fun z hz=>List.mem_append_left _ hz
       refine ⟨gs ++ [n],_,rfl,by rw [e6,List.map_append]; rfl,?_,by rw [List.length_append]; show gs.length + 1 <= _; omega,fun z hz=>?_,(g5.same s5).keep k6 oR.symm,fun a u ha e=>k6 _ _ (fun e'=>by rw [e',fso] at e; cases e) (s5 _ _ (g6 _ _ ha e)),k6 _ _ (bp g7 g1 (by intro z; cases z)) (s5 _ _ g7),fun z hz=>sub z (g8 z hz),(g9.mono sub).step he (List.mem_append_right _ (List.mem_singleton.mpr rfl))⟩
       ·rw [List.nodup_append]
        exact ⟨g2,List.nodup_cons.mpr ⟨by simp,List.nodup_nil⟩,fun a ha b hb e=>by rw [List.mem_singleton.mp hb] at e; exact hm (e ▸ ha)⟩
       ·rcases List.mem_append.mp hz with h | h
        ·exact g4 z h
        ·rw [List.mem_singleton.mp h]; exact pn n (List.mem_of_getElem? he)
     ·refine ⟨gs,_,rfl,s5 _ _ g1,g2,by omega,g4,g5.same s5,g6.trans (aR.of s5),s5 _ _ g7,g8,.inl ?_⟩
      unfold cy cnt
      refine decide_eq_true ?_
      have:¬ (2 * (((ps.filter fun x=>decide (x ∈ gs)).length:Nat):Int) <= (ps.length:Int)):=fun h=>z (decide_eq_true h)
      omega
   ·rintro σ Hy ⟨gs,v5,rfl,g1,g2,g3,g4,g5,g6,g7,g8,g9⟩
    rw [List.length_map] at g3 g9
    refine ⟨gs,_,_,rfl,g1,g2,by omega,g4,g5,g6,g7,fun _=>?_,fun h=>?_⟩
    ·rcases hk with ⟨rfl,rfl⟩ | ⟨rfl,rfl⟩
     ·exact g9.done v1
     ·exact eP g8 (h8 (by omega))
    ·rcases hk with ⟨rfl,rfl⟩ | ⟨rfl,rfl⟩
     ·omega
     ·by_cases hc:ps=[]
      ·exact .inl hc
      ·exact .inr (g9.done (List.length_pos_iff.mpr hc))
  ·rintro σ Hx ⟨fs,v4,v5,rfl,h1,h2,h3,h4,h5,h6,h7,h8,h9⟩
   have h3:fs.length <= 15 + 7 * 2:=h3
   refine ⟨_,rfl,so,fs,rfl,SqL.of h1,by omega,fun l4 ys H4 nl4 s4 e4 hpy hsy=>?_⟩
   refine ⟨l4,_,rfl,SqL.of e4,fun y H5 ny s5 ey=>?_⟩
   refine q y ys H5 ey (by rw [hpy.length_eq]; omega) (fun z hz=>h4 z (hpy.mem_iff.mp hz)) (fZ hsy (hpy.nodup_iff.mpr h2)) ?_ ((h5.same s4).same s5) (h6.trans (aR.of (s4.trans s5)))
   have hm:bF vs cs fs=true:=by
    unfold bF
    rw [h8 (show 1 <= 2 by decide)]
    rcases h9 (show 2 <= 2 by decide) with h | h
    ·rw [decide_eq_true h]; rfl
    ·rw [h,Bool.or_true]; rfl
   exact lD (fun x hx=>hpy.mem_iff.mpr hx) hm
end
abbrev fq:Stmt:=top 49
def gN:Sp:=fun us H Q _=>∃ (R b nl:Addr) (zs:List Str) (t:Tri),us=[.ref R,.ref b,.ref nl] /\ Rst H R /\ cu H nl zs /\ nl ≠ R /\ BnO H b t /\
 ∀ (b':Addr) (t':Tri) (H':Hp),BnO H' b' t' -> aX [t] t'=true -> Rst H' R -> aR R H H' -> Q (.ref b') H'
theorem ma (t:Tri):aX [t] t=true:=by
 unfold aX
 rw [List.any_cons,decide_eq_true rfl]
 rfl
theorem iB {t t':Tri} (h:eE t.1 t.2.1 t.2.2 t'.1 t'.2.1 t'.2.2=true):aX [t] t'=true:=by
 unfold aX
 rw [List.any_cons,h,Bool.or_true]
 rfl
section
variable {P:Program} {w:World} {K:PySem.W.Frag} {mg:Str -> Option Value} {base:Heap}
abbrev nSF:List Str:=["_law_rest_here","_law_bench_here","_law_names_here","_law_coming"]
theorem nu:aH nSF ["_law_rest_here","_law_bench_here","_law_names_here"] (ai fq):=fsc (by decide +kernel)
theorem ndSF:(nSF ++ (["_law_name"]:List Str)).Nodup:=by decide +kernel
theorem rm {f:Addr} {fd:FuncData} (F:Fun K "_law_step_from" "_law_step_from" fq f fd) (Ft:aL P w K mg base 1 "_law_take" dN cw) (Fs:aL P w K mg base 2 "_law_some" i8 gc):a7 P w K mg base CX0 3 f fd ["_law_rest_here","_law_bench_here","_law_names_here"] gN:=by
 refine F.ok nu (fun vs H Q E h=>?_) (fun cdv A outer s H vs Q E hr h=>?_)
 ·obtain ⟨R,b,nl,zs,t,rfl,_⟩:=h
  rfl
 ·obtain ⟨R,b,nl,zs,⟨vs,cs,ls⟩,rfl,r0,N0,nR,hB,q⟩:=h
  have nd:=nu.nd
  have r1:aZ 1 _:=hr.mono (by decide)
  have hu:_ + 1 < cLine:=Nat.lt_of_le_of_lt (Nat.add_le_add_left (show 1 <= 64 by decide) _) hr.units
  have hs16:sizeLine=16777216:=sizeLine_eq
  refine ⟨_,ah (aT (az bL (aj Ft r1 (ad (pv 0) (ad ag af))) ag (aB _)) (ak (ay (pv 1))) aE) <|
   ah (aT (az (gI hu) (ax aw (pv 1) ag (fun _ _=>rfl)) (aG af) (aB _)) (ak (ay (aG (ad (ax aw (pv 1) ag (fun _ _=>rfl)) (ad (aG af) (ad (ax aw (pv 1) ag (fun _ _=>rfl)) af)))))) aE) <|
   ah (aD (i:=3) nd rfl (Or.inr rfl) (aj Fs hr (ad (pv 0) (ad (pv 2) (ad ag (ad ag af)))))) <|
   ak (ay (aG (ad (ax aw (pv 1) ag (fun _ _=>rfl)) (ad (pv 3) (ad (aj Fs hr (ad (pv 0) (ad
    (cE nSF nSF ["_law_name"] (ai fq) rfl rfl rfl (by decide +kernel) rfl rfl (by decide +kernel) (by decide +kernel) (by decide +kernel) (by decide +kernel)
     (cW (pv 2)) (fun _ _ _ _ _=>aJ (i:=4) ndSF rfl (Or.inl rfl)) (fun _ _ _ _ _=>dE (az de (pv 4) (pv 3) (by rfl))) (fun _ _ _ _ _=>pv 4))
    (ad ag (ad ag af))))) af))))),?_⟩
  refine ⟨_,rfl,R,2,rfl,r0,by decide,by decide,fun z H1 z0 z1 q1 b1=>?_⟩
  have N1:=N0.but nR b1
  have B1:=hB.tk (b1.tk r0)
  obtain ⟨⟨⟨v,c,l,e1,e2,e3,e4⟩,vr,cr,lr,v1,v7,c7,l4,ap⟩,nv,nc,nl'⟩:=id B1
  refine ⟨rfl,_,rfl,bD (fun _=>?_) (fun _=>?_)⟩
  ·exact ⟨_,rfl,q b (vs,cs,ls) H1 B1 (ma _) q1 b1⟩
  refine ⟨_,rfl,b,_,_,_,rfl,rfl,SqT.of e1,at1,Nat.zero_le _,fun t0 H2 nt0 s2 et0=>?_⟩
  refine ⟨c,t0,_,rfl,rfl,SqT.of (s2 _ _ e3),SqT.of et0,_,rfl,bD (fun z=>?_) (fun z=>?_)⟩
  ·have hc:cs ≠ []:=fun h=>by rw [h] at z; cases z
   refine ⟨_,rfl,b,_,_,_,rfl,rfl,SqT.of (s2 _ _ e1),at1,Nat.zero_le _,fun t1 H3 nt1 s3 et1=>?_⟩
   refine ⟨_,rfl,b,_,_,_,rfl,rfl,SqT.of (s3 _ _ (s2 _ _ e1)),at2,(show 3 <= sizeLine by omega),fun b' H4 nb' s4 eb'=>?_⟩
   have s24:=(s2.trans s3).trans s4
   have cl:0 < cs.length:=List.length_pos_iff.mpr hc
   refine q b' (cs,[],ls) H4 ⟨⟨⟨c,t1,l,eb',s24 _ _ e3,s4 _ _ et1,s24 _ _ e4⟩,cr,.nil,lr,cl,c7,Nat.zero_le _,l4,fun x hx=>?_⟩,nc,(fun x (hx:x ∈ ([]:List Str))=>nomatch hx),nl'⟩ (iB ?_) (q1.same s24) (b1.trans (aR.of s24))
   ·have:=ap x hx
    rw [if_neg hc] at this
    rw [if_pos rfl]
    exact this
   ·show (if 0 < cs.length then decide (cs=cs /\ ([]:List Str)=[] /\ ls=ls) else _)=true
    rw [if_pos cl]
    exact decide_eq_true ⟨rfl,rfl,rfl⟩
  have hc:cs=[]:=by
   cases cs with
   | nil=>rfl
   | cons a r=>exact absurd rfl z
  subst hc
  have N2:=N1.but nR (aR.of s2)
  have q2:=q1.same s2
  refine ⟨_,rfl,_,rfl,R,nl,zs,1,7,rfl,q2,N2.ob,nR,bS N2.up,N2.l15,by decide,by decide,(by have:=N2.l8; omega),by decide,fun c' cs' H3 nc3 ec3 hcr hcz clo chi q3 b3=>?_⟩
  have cR':c' ≠ R:=q2.ne nc3
  have N3:=N2.but nR b3
  have k13:=(Tk.of s2).trans (b3.tk q2)
  refine ⟨_,rfl,b,_,_,_,rfl,rfl,SqT.of (k13 _ _ e1),at0,_,rfl,_,rfl,_,rfl,nl,rfl,⟨_,SqL.of N3.ob⟩,?_⟩
  refine p8 (fun u=>!inV u (cs'.map V.str)) rfl (SqL.of N3.ob) (by rw [List.length_map]; have:=N3.l15; omega) (fun D x ys post hD hx hp=>?_) (fun D hD=>?_)
  ·obtain ⟨z,hz,rfl⟩:=List.mem_map.mp hx
   have e3:upd H3 D (.lst ys) c'=some (.tup (cs'.map V.str)):=by rw [au (am ec3 hD)]; exact ec3
   exact ⟨_,rfl,_,rfl,c',_,rfl,.inr (SqT.of e3),rfl,bq cs',_,rfl,hp⟩
  rw [cY]
  have hos:∀ x ∈ zs.filter (fun x=>!decide (x ∈ cs')),x ∈ zs /\ x ∉ cs':=fun x hx=>by
   obtain ⟨h1,h2⟩:=List.mem_filter.mp hx
   exact ⟨h1,fun hm=>by rw [decide_eq_true hm] at h2; cases h2⟩
  have hon:(zs.filter (fun x=>!decide (x ∈ cs'))).Nodup:=(bS N0.up).filter _
  have hol:(zs.filter (fun x=>!decide (x ∈ cs'))).length <= zs.length:=List.length_filter_le _ _
  generalize zs.filter (fun x=>!decide (x ∈ cs'))=os at hos hon hol ⊢
  have s5:=aA.new (o:=.lst (os.map V.str)) hD
  have e5:upd H3 D (.lst (os.map V.str)) D=some (.lst (os.map V.str)):=ar
  generalize upd H3 D (.lst (os.map V.str))=H5 at s5 e5 ⊢
  have DR:D ≠ R:=q3.ne hD
  have l15:=N0.l15
  have q5:=q3.same s5
  refine ⟨R,D,os,0,4,rfl,q5,e5,DR,hon,by omega,by decide,by decide,by omega,by decide,fun l' ls' H6 nl6 el hlr hlz l0 l4 q6 b6=>?_⟩
  refine ⟨(by show 3 <= sizeLine; omega),fun b' H7 nb s7 eb=>?_⟩
  have k16:=(k13.trans (Tk.of s5)).trans (b6.tk q5)
  have k36:=(Tk.of s5).trans (b6.tk q5)
  have c1:0 < cs'.length:=by omega
  have cn:cs' ≠ []:=List.length_pos_iff.mp c1
  refine q b' (vs,cs',ls') H7 ⟨⟨⟨v,c',l',eb,s7 _ _ (k16 _ _ e2),s7 _ _ (k36 _ _ ec3),s7 _ _ el⟩,vr,hcr,hlr,v1,v7,(show cs'.length <= 7 by omega),(show ls'.length <= 4 by omega),fun x hx=>?_⟩,nv,fun x hx=>N0.nm x (hcz x hx),fun x hx=>N0.nm x (hos x (hlz x hx)).1⟩ (iB ?_) (q6.same s7) (((b1.trans (aR.of s2)).trans b3).trans (((aR.of s5).trans b6).trans (aR.of s7)))
  ·rw [if_neg cn]
   exact (hos x (hlz x hx)).2
  ·show (if 0 < ([]:List Str).length then _ else decide (0 < cs'.length) && decide (vs=vs))=true
   rw [if_neg (by decide),decide_eq_true c1,decide_eq_true rfl]
   rfl
end
abbrev md:Stmt:=top 50
theorem lcPL {K:PySem.W.Frag} {a:Addr} {es:List Addr} {cs:List (Int × Str)} {k:Nat} {σ:St} {H1:Hp} {Q:VK} (hk:σ.length=k) (hq:H1 a=some (.lst (es.map V.ref))) (hp:Paired (fun e c=>H1 e=some (.tup [.int c.1,.str c.2])) es cs) (hz:es.length <= 1000)
  (fin:∀ D,H1 D=none -> Q (.ref D) (upd H1 D (.lst ((cs.map Prod.fst).map V.int)))):LCT 2 (gTup K 2 (pB (bY k) (pB (bY (k + 1)) gNil))) iG (kP k) σ Q (Itl K a) H1:=by
 have sq:∀ D ys,H1 D=none -> SqL K (upd H1 D (.lst ys)) a (es.map V.ref):=fun D ys h=>SqL.of (bC h _ _ hq)
 have hl:=Paired.length hp
 refine lcP (n:=es.length) (fun i=>.ref (es.getD i 0)) (fun D i ys H=>H1 D=none /\ ys=((cs.take i).map Prod.fst).map V.int /\ H=upd H1 D (.lst ys)) ?_ ?_ ?_ ?_ ?_ ?_
 ·rintro D i ys H hi ⟨h1,h2,rfl⟩
  exact ⟨_,_,sq D ys h1,by rw [List.getElem?_map,List.getElem?_eq_getElem hi]; rfl⟩
 ·rintro D i ys H x H' hi ⟨h1,h2,rfl⟩ ⟨e,y⟩
  refine ⟨e,?_⟩
  have:=y _ (sq D ys h1)
  rw [List.getElem?_map,List.getElem?_eq_getElem hi] at this
  rw [List.getD_eq_getElem?_getD,List.getElem?_eq_getElem hi]
  exact (Option.some.inj this).symm
 ·rintro D ys H ⟨h1,h2,rfl⟩
  exact ⟨_,sq D ys h1,by rw [List.length_map]; exact Nat.le_refl _⟩
 ·intro D hD
  exact ⟨hD,by simp,rfl⟩
 ·rintro D i ys H yes no hi ⟨h1,h2,rfl⟩ hp' hn
  have hi2:i < cs.length:=by omega
  have he:es.getD i 0=es[i]:=by rw [List.getD_eq_getElem?_getD,List.getElem?_eq_getElem hi]; rfl
  have hd:H1 es[i]=some (.tup [.int cs[i].1,.str cs[i].2]):=by
   have:=Paired.zip hp (es[i],cs[i]) (List.mem_iff_getElem.mpr ⟨i,by rw [List.length_zip]; omega,List.getElem_zip⟩)
   exact this
  show gTup K 2 _ (.ref (es.getD i 0)) _ _ _
  rw [he]
  refine ⟨_,_,rfl,SqT.of (bC h1 _ _ hd),rfl,_,_,rfl,_,_,rfl,rfl,?_⟩
  have e:((σ ++ List.replicate 2 (none:Option V)).set k (some (.int cs[i].1))).set (k + 1) (some (.str cs[i].2))=σ ++ [some (.int cs[i].1),some (.str cs[i].2)]:=by
   subst hk
   simp [List.set_append]
  rw [e]
  refine ⟨⟨_,rfl,rfl⟩,?_⟩
  unfold iG
  refine aQ ⟨.int cs[i].1,by subst hk; simp,hp' _ _ ar ?_ ⟨h1,?_,by rw [fw]⟩⟩
  ·rw [h2,List.length_map,List.length_map,List.length_take]; exact bz (by omega)
  ·rw [h2,List.take_add_one,List.getElem?_eq_getElem hi2,List.map_append,List.map_append]; rfl
 ·rintro D ys H ⟨h1,h2,rfl⟩
  rw [h2,List.take_of_length_le (by omega)]
  exact fin D h1
theorem nw {x:Int} {zs:List Int}:inV (.int x) (zs.map V.int)=decide (x ∈ zs):=by
 unfold inV
 rw [Bool.eq_iff_iff,List.any_eq_true,decide_eq_true_iff]
 constructor
 ·rintro ⟨y,hy,e⟩
  obtain ⟨z,hz,rfl⟩:=List.mem_map.mp hy
  have e:z=x:=beq_iff_eq.mp (show (z == x)=true from e)
  exact e ▸ hz
 ·intro h
  exact ⟨.int x,List.mem_map.mpr ⟨x,h,rfl⟩,show (x == x)=true from beq_self_eq_true x⟩
theorem jn (zs:List Int):(zs.map V.int).all cc=true:=by
 rw [List.all_map]
 exact List.all_eq_true.mpr fun _ _=>rfl
abbrev dS (kl cl rw':Addr):List (Key × V):=[(Sum.inr (Str.ofString "known"),.ref kl),(Sum.inr (Str.ofString "chairs"),.ref cl),(Sum.inr (Str.ofString "row"),.ref rw')]
structure bo (H:Hp) (sd kl cl rw':Addr) (ka ca:List Addr) (T:List Tri) (chs:List (Int × Str)) (es:List Addr):Prop where
 ds:H sd=some (.dK (dS kl cl rw'))
 hk:H kl=some (.lst (ka.map V.ref))
 kb:Paired (BnO H) ka T
 hc:H cl=some (.lst (ca.map V.ref))
 cb:Paired (fun a c=>H a=some (.tup [.int c.1,.str c.2])) ca chs
 hr:H rw'=some (.tup (es.map V.ref))
structure kK (R nl kl cl:Addr):Prop where
 nR:nl ≠ R
 kR:kl ≠ R
 cR:cl ≠ R
 kc:kl ≠ cl
 nk:nl ≠ kl
 nc:nl ≠ cl
theorem kL {H:Hp} {sd kl cl rw':Addr} (h:H sd=some (.dK (dS kl cl rw'))):dX H sd (.str (Str.ofString "known")) (some (.ref kl)):=by
 have:=dX.k (k:=(Sum.inr (Str.ofString "known"):Key)) h
 rwa [show cD (dS kl cl rw') (Sum.inr (Str.ofString "known"):Key)=some (.ref kl) from rfl] at this
theorem rn {H:Hp} {sd kl cl rw':Addr} (h:H sd=some (.dK (dS kl cl rw'))):dX H sd (.str (Str.ofString "chairs")) (some (.ref cl)):=by
 have:=dX.k (k:=(Sum.inr (Str.ofString "chairs"):Key)) h
 rwa [show cD (dS kl cl rw') (Sum.inr (Str.ofString "chairs"):Key)=some (.ref cl) from rfl] at this
theorem dS_r {H:Hp} {sd kl cl rw':Addr} (h:H sd=some (.dK (dS kl cl rw'))):dX H sd (.str (Str.ofString "row")) (some (.ref rw')):=by
 have:=dX.k (k:=(Sum.inr (Str.ofString "row"):Key)) h
 rwa [show cD (dS kl cl rw') (Sum.inr (Str.ofString "row"):Key)=some (.ref rw') from rfl] at this
theorem bo.but {R:Addr} {H H':Hp} {sd kl cl rw':Addr} {ka ca:List Addr} {T:List Tri} {chs:List (Int × Str)} {es:List Addr} (r:Rst H R) (kR:kl ≠ R) (cR:cl ≠ R) (b:aR R H H') (h:bo H sd kl cl rw' ka ca T chs es):bo H' sd kl cl rw' ka ca T chs es:=by
 have k:=b.tk r
 obtain ⟨x,y,hR,_⟩:=r
 exact ⟨b _ _ (bp h.ds hR (by intro z; cases z)) h.ds,b _ _ kR h.hk,Paired.imp' (fun _ _ q=>q.tk k) h.kb,b _ _ cR h.hc,Paired.imp' (fun _ _ q=>k _ _ q) h.cb,k _ _ h.hr⟩
theorem bo.same {H H':Hp} {sd kl cl rw':Addr} {ka ca:List Addr} {T:List Tri} {chs:List (Int × Str)} {es:List Addr} (s:aA H H') (h:bo H sd kl cl rw' ka ca T chs es):bo H' sd kl cl rw' ka ca T chs es:=⟨s _ _ h.ds,s _ _ h.hk,Paired.imp' (fun _ _ q=>q.same s) h.kb,s _ _ h.hc,Paired.imp' (fun _ _ q=>s _ _ q) h.cb,s _ _ h.hr⟩
def dM (R kl cl sd:Addr) (H H':Hp):Prop:=∀ a u,a ≠ R -> a ≠ kl -> a ≠ cl -> a ≠ sd -> H a=some u -> H' a=some u
theorem dM.of {R kl cl sd:Addr} {H H':Hp} (b:aR R H H'):dM R kl cl sd H H':=fun a u h1 _ _ _ e=>b a u h1 e
theorem dM.trans {R kl cl sd:Addr} {H H1 H2:Hp} (a:dM R kl cl sd H H1) (b:dM R kl cl sd H1 H2):dM R kl cl sd H H2:=fun c u h1 h2 h3 h4 e=>b c u h1 h2 h3 h4 (a c u h1 h2 h3 h4 e)
def rp:Sp:=fun us H Q _=>∃ (R sd nl kl cl rw':Addr) (ka ca:List Addr) (T:List Tri) (chs:List (Int × Str)) (es:List Addr) (zs:List Str),us=[.ref R,.ref sd,.ref nl] /\ Rst H R /\ cu H nl zs /\ bo H sd kl cl rw' ka ca T chs es /\ kK R nl kl cl /\ 1 <= ka.length /\ ka.length <= 100 /\ chs.length <= 100 /\
 ∀ (p b y:Addr) (t:Int) (x:Str) (tri:Tri) (ys:List Str) (ka' ca':List Addr) (H':Hp),cZ H' p t x b y tri.1 tri.2.1 tri.2.2 ys -> aX T tri=true -> bF tri.1 tri.2.1 ys=true -> t ∉ chs.map Prod.fst -> bo H' sd kl cl rw' ka' ca' (T ++ [tri]) (chs ++ [(t,x)]) es -> Rst H' R -> dM R kl cl sd H H' -> Q (.ref p) H'
section
variable {P:Program} {w:World} {K:PySem.W.Frag} {mg:Str -> Option Value} {base:Heap}
abbrev nCP:List Str:=["_law_rest_here","_law_story","_law_names_here","_law_term","_law_name","_law_bench_here"]
abbrev nCPk:List Str:=["_law_rest_here","_law_story","_law_names_here","_law_term","#n","_law_bench_here"]
theorem scChP:aH nCP ["_law_rest_here","_law_story","_law_names_here"] (ai md):=fsc (by decide +kernel)
theorem ndCP:(nCPk ++ (["_law_one","_law_name"]:List Str)).Nodup:=by decide +kernel
theorem kM:∀ ns:List Int,∃ M:Int,0 <= M /\ ∀ n ∈ ns,n <= M
 | []=>⟨0,by decide,fun n h=>by cases h⟩
 | a :: r=>by
  obtain ⟨M,h0,h⟩:=kM r
  refine ⟨if a <= M then M else a,by split <;> omega,fun n hn=>?_⟩
  rcases List.mem_cons.mp hn with rfl | hn
  ·split <;> omega
  ·have:=h n hn
   split <;> omega
theorem ok_chP {f:Addr} {fd:FuncData} (F:Fun K "_law_chair_paper" "_law_chair_paper" md f fd) (B:Blt mg) (Ft:aL P w K mg base 1 "_law_take" dN cw) (Fs:aL P w K mg base 3 "_law_step_from" ["_law_rest_here","_law_bench_here","_law_names_here"] gN) (Fm:aL P w K mg base 3 "_law_most" ["_law_rest_here","_law_bench_here","_law_names_here"] fP):a7 P w K mg base CX0 4 f fd ["_law_rest_here","_law_story","_law_names_here"] rp:=by
 refine F.ok scChP (fun vs H Q E h=>?_) (fun cdv A outer s H vs Q E hr h=>?_)
 ·obtain ⟨R,sd,nl,kl,cl,rw',ka,ca,T,chs,es,zs,rfl,_⟩:=h
  rfl
 ·obtain ⟨R,sd,nl,kl,cl,rw',ka,ca,T,chs,es,zs,rfl,r0,N0,S0,Ap,k1,k100,c100,q⟩:=h
  have nd:=scChP.nd
  have r1:aZ 1 _:=hr.mono (by decide)
  have hu:_ + 1 < cLine:=Nat.lt_of_le_of_lt (Nat.add_le_add_left (show 1 <= 64 by decide) _) hr.units
  have hs16:sizeLine=16777216:=sizeLine_eq
  refine ⟨_,ah (aD (i:=3) nd rfl (Or.inl rfl) (aO bi ag (aj Ft r1 (ad (pv 0) (ad ag af))))) <|
   ah (pC PassesOwn.never (az fW (pv 3) (cE nCP nCPk ["_law_one","_law_name"] (ai md) rfl rfl rfl (by decide +kernel) rfl rfl (by decide +kernel) (by decide +kernel) (by decide +kernel) (by decide +kernel)
     (cW (bH hu (pv 1) aM (fun _ _=>rfl))) (fun _ _ _ _ _=>jF (n:=2) rfl (a9 (aJ (i:=6) ndCP rfl (Or.inl rfl)) (a9 (aJ (i:=7) ndCP rfl (Or.inl rfl)) dz))) (fun _ _ _ _ _=>bU) (fun _ _ _ _ _=>pv 6)) (by rfl))
    (ak (aD (i:=3) nd rfl (Or.inl rfl) (aO bi (pv 3) ag)))) <|
   ah (aD (i:=4) nd rfl (Or.inl rfl) (ax bu (pv 2) (aj Ft r1 (ad (pv 0) (ad (aq ao (by rfl) B.len PySem.boot_len (ad (pv 2) af)) af))) (fun _ _=>rfl))) <|
   ah (aD (i:=5) nd rfl (Or.inl rfl) (aj Fs hr (ad (pv 0) (ad (ax bu (bH hu (pv 1) aM (fun _ _=>rfl)) (aj Ft r1 (ad (pv 0) (ad (aq ao (by rfl) B.len PySem.boot_len (ad (bH hu (pv 1) aM (fun _ _=>rfl)) af)) af))) (fun _ _=>rfl)) (ad (pv 2) af))))) <|
   ah (bK (cT PySem.F.plainAttrs_list PySem.F.slot_list_append PySem.F.type_list_append cg (bH hu (pv 1) aM (fun _ _=>rfl)) (ad (aG (ad (pv 3) (ad (pv 4) af))) af))) <|
   ah (bK (cT PySem.F.plainAttrs_list PySem.F.slot_list_append PySem.F.type_list_append cg (bH hu (pv 1) aM (fun _ _=>rfl)) (ad (pv 5) af))) <|
   ak (ay (aG (ad aM (ad (pv 3) (ad (pv 4) (ad (pv 5) (ad (aj Fm hr (ad (pv 0) (ad (pv 5) (ad (pv 2) af)))) af))))))),?_⟩
  obtain ⟨M,M0,hM⟩:=kM (chs.map Prod.fst)
  refine ⟨_,rfl,R,90,rfl,r0,by decide,by decide,fun z H1 z0 z1 q1 b1=>⟨_,_,rfl,rfl,?_⟩⟩
  have N1:=N0.but Ap.nR b1
  have S1:=S0.but r0 Ap.kR Ap.cR b1
  have cal:ca.length=chs.length:=Paired.length S0.cb
  refine ⟨fun m σ Hx=>∃ t:Int,σ=[some (V.ref R),some (V.ref sd),some (V.ref nl),some (V.int t),none,none] /\ aA H1 Hx /\ 1 <= t /\ m=(M + 1 - t).toNat,⟨_,1 + z,rfl,aA.refl _,by omega,rfl⟩,?_⟩
  rintro m σ Hx ⟨t,rfl,sx,t1,rfl⟩
  have Sx:=S1.same sx
  refine ⟨_,rfl,_,rfl,sd,_,rfl,rn Sx.ds,cl,rfl,⟨_,SqL.of Sx.hc⟩,?_⟩
  refine lcPL rfl Sx.hc Sx.cb (by omega) fun D hD=>?_
  have s2:=aA.new (o:=.lst ((chs.map Prod.fst).map V.int)) hD
  have e2:upd Hx D (.lst ((chs.map Prod.fst).map V.int)) D=some (.lst ((chs.map Prod.fst).map V.int)):=ar
  generalize upd Hx D (.lst ((chs.map Prod.fst).map V.int))=H2 at s2 e2 ⊢
  refine ⟨D,_,rfl,.inl (SqL.of e2),rfl,jn _,_,rfl,?_⟩
  rw [nw]
  by_cases hm:t ∈ chs.map Prod.fst
  ·rw [decide_eq_true hm]
   have:=hM t hm
   refine aQ ⟨fun σ' H'=>∃ t':Int,t'=t + 1 /\ σ'=[some (V.ref R),some (V.ref sd),some (V.ref nl),some (V.int t'),none,none] /\ aA H1 H',?_,?_⟩
   ·rintro σ' H' ⟨t',rfl,rfl,s'⟩
    exact ⟨(M + 1 - (t + 1)).toNat,by omega,t + 1,rfl,s',by omega,rfl⟩
   ·exact ⟨_,rfl,_,_,rfl,rfl,t + 1,rfl,rfl,sx.trans s2⟩
  rw [decide_eq_false hm]
  refine aN ?_
  have s12:=sx.trans s2
  have N2:=N1.but Ap.nR (aR.of s12)
  have S2:=S1.same s12
  have q2:=q1.same s12
  have l15:=N0.l15
  have l8:=N0.l8
  refine ⟨_,rfl,_,rfl,_,rfl,nl,_,rfl,.inl (SqL.of N2.ob),R,_,rfl,q2,(by rw [List.length_map]; omega),(by rw [List.length_map]; exact Int.le_trans (show ((zs.length:Nat):Int) <= 15 by omega) (by decide +kernel)),fun k H3 k0 k1' q3 b3=>?_⟩
  rw [List.length_map] at k1'
  have N3:=N2.but Ap.nR b3
  have S3:=S2.but q2 Ap.kR Ap.cR b3
  obtain ⟨x,hx,nx⟩:=N3.pick k0 k1'
  refine ⟨nl,_,_,_,rfl,rfl,SqL.of N3.ob,hx,?_⟩
  refine ⟨_,rfl,_,rfl,sd,_,rfl,kL S3.ds,_,rfl,_,rfl,sd,_,rfl,kL S3.ds,kl,_,rfl,.inl (SqL.of S3.hk),R,_,rfl,q3,(by rw [List.length_map]; omega),(by rw [List.length_map]; exact Int.le_trans (show ((ka.length:Nat):Int) <= 100 by omega) (by decide +kernel)),fun j H4 j0 j1 q4 b4=>?_⟩
  rw [List.length_map] at j1
  have N4:=N3.but Ap.nR b4
  have S4:=S3.but q3 Ap.kR Ap.cR b4
  have hjl:j.toNat < ka.length:=by omega
  have kal:ka.length=T.length:=Paired.length S0.kb
  have hb0:BnO H4 ka[j.toNat] T[j.toNat]:=Paired.zip S4.kb (ka[j.toNat],T[j.toNat]) (List.mem_iff_getElem.mpr ⟨j.toNat,by rw [List.length_zip]; omega,List.getElem_zip⟩)
  have hat:atI (ka.map V.ref) j=some (.ref ka[j.toNat]):=by
   have h:=aK (xs:=ka.map V.ref) (j:=j.toNat) (v:=.ref ka[j.toNat]) (by rw [List.getElem?_map,List.getElem?_eq_getElem hjl]; rfl)
   rwa [Int.toNat_of_nonneg j0] at h
  refine ⟨kl,_,_,_,rfl,rfl,SqL.of S4.hk,hat,_,rfl,R,_,nl,zs,_,rfl,q4,N4,Ap.nR,hb0,fun b tri H5 hb hkn q5 b5=>?_⟩
  have N5:=N4.but Ap.nR b5
  have S5:=S4.but q4 Ap.kR Ap.cR b5
  have hknT:aX T tri=true:=iA (fun k hk=>by rw [List.mem_singleton.mp hk]; exact List.getElem_mem _) hkn
  refine ⟨_,rfl,sd,_,rfl,rn S5.ds,.inl ⟨rfl,_,SqL.of S5.hc⟩,_,rfl,_,rfl,(show 2 <= sizeLine by omega),fun a H6 na s6 e6=>?_⟩
  have S6:=S5.same s6
  have aC:a ≠ cl:=(am S5.hc na).symm
  refine ⟨cl,_,_,rfl,rfl,S6.hc,by rw [List.length_map]; omega,fun H7 k7 e7=>?_⟩
  have t7:Tk H6 H7:=fun c xs e=>k7 _ _ (bp e S6.hc (by intro z; cases z)) e
  have q7:=(q5.same s6).keep k7 Ap.cR.symm
  have S7d:=k7 _ _ (bp S6.ds S6.hc (by intro z; cases z)) S6.ds
  have S7k:=k7 _ _ Ap.kc S6.hk
  refine ⟨_,rfl,sd,_,rfl,kL S7d,.inl ⟨rfl,_,SqL.of S7k⟩,_,rfl,kl,_,_,rfl,rfl,S7k,by rw [List.length_map]; omega,fun H8 k8 e8=>?_⟩
  have t8:Tk H7 H8:=fun c xs e=>k8 _ _ (bp e S7k (by intro z; cases z)) e
  have q8:=q7.keep k8 Ap.kR.symm
  have t58:=((Tk.of s6).trans t7).trans t8
  have N8:cu H8 nl zs:=⟨k8 _ _ Ap.nk (k7 _ _ Ap.nc (s6 _ _ N5.ob)),N0.up,N0.l8,N0.l15,N0.nm⟩
  have S8:bo H8 sd kl cl rw' (ka ++ [b]) (ca ++ [a]) (T ++ [tri]) (chs ++ [(t,x)]) es:=by
   refine ⟨k8 _ _ (bp S7d S7k (by intro z; cases z)) S7d,by rw [e8,List.map_append]; rfl,PySem.Paired.snoc (Paired.imp' (fun _ _ q=>q.tk t58) S5.kb) (hb.tk t58),?_,PySem.Paired.snoc (Paired.imp' (fun _ _ q=>t58 _ _ q) S5.cb) (t8 _ _ (t7 _ _ e6)),t58 _ _ S5.hr⟩
   rw [k8 _ _ Ap.kc.symm e7,List.map_append]
   rfl
  refine ⟨_,rfl,_,rfl,_,rfl,_,rfl,_,rfl,_,rfl,R,b,nl,zs,tri,rfl,q8,N8,Ap.nR,hb.tk t58,fun y ys H9 ey yl yn yr hh q9 b9=>?_⟩
  have t9:=b9.tk q8
  have hb9:=(hb.tk t58).tk t9
  refine ⟨(show 5 <= sizeLine by omega),fun p H10 np s10 ep=>?_⟩
  refine q p b y t x tri ys _ _ H10 ⟨ep,t1,nx,(hb9.same s10).1,(hb9.same s10).2,s10 _ _ ey,yl,yn,yr⟩ hknT hh hm ((S8.but q8 Ap.kR Ap.cR b9).same s10) (q9.same s10) ?_
  intro c u h1 h2 h3 h4 e
  exact s10 _ _ (b9 _ _ h1 (k8 _ _ h2 (k7 _ _ h3 (s6 _ _ (b5 _ _ h1 (b4 _ _ h1 (b3 _ _ h1 (s12 _ _ (b1 _ _ h1 e)))))))))
end
abbrev mf:Stmt:=top 51
theorem nz {X:Cx} {scope:Scope} {cl:List (Str × Addr)} {N2 ys:List Str} {C:Addr} {s:Shared} {H:Hp} {fp:List Addr}:IxR (cxC X scope cl N2 ys C s H fp) (rIxT X.K):=aw
theorem nA {tc:TT} {t u:TS} {D:dQ} {σ:St} {H:Hp} (h:∀ A B:Hp -> Prop,(∀ H1,t D σ H1 -> A H1) -> (∀ H1,u D σ H1 -> B H1) -> tc σ H fun b H1=>if b=true then A H1 else B H1):tIfS tc t u D σ H:=h _ _ (fun _ h=>h) fun _ h=>h
theorem rq {chs:List (Int × Str)} {t:Int} (h:t ∉ chs.map Prod.fst):cD (kvO chs) (Sum.inl t:Key)=none:=by
 unfold cD kvO
 rw [List.find?_eq_none.mpr]
 ·rfl
 ·intro kv hkv
  obtain ⟨c,hc,rfl⟩:=List.mem_map.mp hkv
  rw [decide_eq_true_iff]
  intro e
  exact h (List.mem_map.mpr ⟨c,hc,Sum.inl.inj e⟩)
theorem kN:∀ {chs:List (Int × Str)} {t:Int} {x:Str},(chs.map Prod.fst).Nodup -> (t,x) ∈ chs -> cD (kvO chs) (Sum.inl t:Key)=some (.str x)
 | [],_,_,_,h=>by cases h
 | (t',x') :: r,t,x,nd,h=>by
  by_cases e:t'=t
  ·have hx:x'=x:=by
    rcases List.mem_cons.mp h with h | h
    ·exact (Prod.mk.inj h).2.symm
    ·rw [List.map_cons,List.nodup_cons] at nd
     exact absurd (List.mem_map.mpr ⟨(t,x),h,rfl⟩) (by subst e; exact nd.1)
   subst e hx
   exact fA rfl
  ·have hm:(t,x) ∈ r:=by
    rcases List.mem_cons.mp h with h | h
    ·exact absurd (Prod.mk.inj h).1.symm e
    ·exact h
   have ih:=kN (List.nodup_cons.mp nd).2 hm
   unfold cD at ih ⊢
   show ((((Sum.inl t':Key),V.str x') :: kvO r).find? _).map _=_
   rw [List.find?_cons_of_neg]
   ·exact ih
   ·rw [decide_eq_true_iff]
    exact fun z=>e (Sum.inl.inj z)
theorem kvO_put {chs:List (Int × Str)} {t:Int} {x:Str} (h:t ∉ chs.map Prod.fst):bZ (kvO chs) (Sum.inl t:Key) (.str x)=kvO (chs ++ [(t,x)]):=by
 unfold bZ
 rw [if_neg]
 ·unfold kvO; rw [List.map_append]; rfl
 ·rw [List.any_eq_true]
  rintro ⟨kv,hkv,e⟩
  obtain ⟨c,hc,rfl⟩:=List.mem_map.mp hkv
  exact h (List.mem_map.mpr ⟨c,hc,Sum.inl.inj (of_decide_eq_true e)⟩)
def rz:Sp:=fun us H Q _=>∃ (R sd nl kl cl rw':Addr) (ka ca:List Addr) (T:List Tri) (chs:List (Int × Str)) (es:List Addr) (zs:List Str),us=[.ref R,.ref sd,.ref nl] /\ Rst H R /\ cu H nl zs /\ bo H sd kl cl rw' ka ca T chs es /\ kK R nl kl cl /\ 1 <= ka.length /\ ka.length <= 100 /\ 1 <= chs.length /\ chs.length <= 100 /\ (chs.map Prod.fst).Nodup /\ (∀ c ∈ chs,1 <= c.1 /\ Nm c.2) /\ es.length <= 300 /\ (∀ a ∈ es,∃ t,EnG H a t) /\
 ∀ (p e b y rw'':Addr) (as es':List Addr) (t:Int) (x:Str) (n:Int) (m:Nat) (tri:Tri) (ys:List Str) (ka':List Addr) (H':Hp),dy H' p t x n e as b y tri.1 tri.2.1 tri.2.2 ys -> Holds H' T (kvO chs) es t x n as tri.1 tri.2.1 tri.2.2 ys m -> es'=es ++ as.drop (es.length - m) -> es'.length <= es.length + 3 -> (∀ a ∈ es',∃ t,EnG H' a t) -> bo H' sd kl cl rw'' ka' ca (T ++ [tri]) chs es' -> Rst H' R -> dM R kl cl sd H H' -> Q (.ref p) H'
section
variable {P:Program} {w:World} {K:PySem.W.Frag} {mg:Str -> Option Value} {base:Heap}
abbrev nSP:List Str:=["_law_rest_here","_law_story","_law_names_here","_law_term","_law_name","_law_bench_here","_law_row","_law_first","_law_ends","_law_entries","_law_k"]
abbrev nSPk:List Str:=["_law_rest_here","_law_story","_law_names_here","_law_term","_law_name","_law_bench_here","_law_row","_law_first","_law_ends","_law_entries","#k"]
theorem scStP:aH nSP ["_law_rest_here","_law_story","_law_names_here"] (ai mf):=fsc (by decide +kernel)
theorem ndStP:(nSPk ++ (["_law_k"]:List Str)).Nodup:=by decide +kernel
theorem ok_stP {f:Addr} {fd:FuncData} (F:Fun K "_law_settled_paper" "_law_settled_paper" mf f fd) (B:Blt mg) (Ft:aL P w K mg base 1 "_law_take" dN cw) (Fs:aL P w K mg base 3 "_law_step_from" ["_law_rest_here","_law_bench_here","_law_names_here"] gN) (Fm:aL P w K mg base 3 "_law_most" ["_law_rest_here","_law_bench_here","_law_names_here"] fP) (Fe:aL P w K mg base 4 "_law_entry" ["_law_rest_here","_law_term","_law_names_here"] nq):a7 P w K mg base CX0 5 f fd ["_law_rest_here","_law_story","_law_names_here"] rz:=by
 refine F.ok scStP (fun vs H Q E h=>?_) (fun cdv A outer s H vs Q E hr h=>?_)
 ·obtain ⟨R,sd,nl,kl,cl,rw',ka,ca,T,chs,es,zs,rfl,_⟩:=h
  rfl
 ·obtain ⟨R,sd,nl,kl,cl,rw',ka,ca,T,chs,es,zs,rfl,r0,N0,S0,Ap,k1,k100,c1,c100,cnd,cok,e300,eok,q⟩:=h
  have nd:=scStP.nd
  have r1:aZ 1 _:=hr.mono (by decide)
  have r3:aZ 3 _:=hr.mono (by decide)
  have hu:_ + 1 < cLine:=Nat.lt_of_le_of_lt (Nat.add_le_add_left (show 1 <= 64 by decide) _) hr.units
  have hs16:sizeLine=16777216:=sizeLine_eq
  refine ⟨_,ah (gS (ax bu (bH hu (pv 1) aM (fun _ _=>rfl)) (aj Ft r1 (ad (pv 0) (ad (aq ao (by rfl) B.len PySem.boot_len (ad (bH hu (pv 1) aM (fun _ _=>rfl)) af)) af))) (fun _ _=>rfl)) (gR (n:=2) rfl (a9 (aJ (i:=3) nd rfl (Or.inr rfl)) (a9 (aJ (i:=4) nd rfl (Or.inl rfl)) dz)))) <|
   ah (aD (i:=5) nd rfl (Or.inl rfl) (aj Fs r3 (ad (pv 0) (ad (ax bu (bH hu (pv 1) aM (fun _ _=>rfl)) (aj Ft r1 (ad (pv 0) (ad (aq ao (by rfl) B.len PySem.boot_len (ad (bH hu (pv 1) aM (fun _ _=>rfl)) af)) af))) (fun _ _=>rfl)) (ad (pv 2) af))))) <|
   ah (aD (i:=6) nd rfl (Or.inr rfl) (bH hu (pv 1) aM (fun _ _=>rfl))) <|
   ah (aD (i:=7) nd rfl (Or.inl rfl) (aj Ft r1 (ad (pv 0) (ad (aO bi (aq ao (by rfl) B.len PySem.boot_len (ad (pv 6) af)) ag) af)))) <|
   ah (mI (i:=8) nd rfl (Or.inl rfl) nSP nSPk ["_law_k"] (ai mf) rfl rfl rfl (by decide +kernel) rfl rfl (by decide +kernel) (by decide +kernel) (by decide +kernel) (by decide +kernel)
    (ow (by rfl) B.range (ad (pv 7) (ad (aq ao (by rfl) B.len PySem.boot_len (ad (pv 6) af)) af))) (fun _ _ _ _ _=>aJ (i:=11) ndStP rfl (Or.inl rfl))
    (fun _ _ _ _ _=>dE (az bL (ax nz (ax nz (pv 6) (pv 11) (fun _ _=>rfl)) ag (fun _ _=>rfl)) (pv 3) (aB _)))
    (fun _ _ _ _ _=>aO bi (pv 11) ag) (by with_unfolding_all rfl)) <|
   ah (fH (aT (PW.pt (c9 (az (op_neE hu) (pv 8) (bO af) (aB _)) (cL (az bL (aj Ft r1 (ad (pv 0) (ad ag af))) ag (aB _)))))
    (ak (aD (i:=9) nd rfl (Or.inl rfl) (bf cz (pv 6) (bb (pv 7)) (bb (ax bu (pv 8) (aj Ft r1 (ad (pv 0) (ad (aq ao (by rfl) B.len PySem.boot_len (ad (pv 8) af)) af))) (fun _ _=>rfl))))))
    (ah (aD (i:=9) nd rfl (Or.inl rfl) (bf cz (pv 6) (bb (pv 7)) bN)) <|
     ah (cv PassesOwn.never rfl (bW (by rfl) B.range (ad (aj Ft r1 (ad (pv 0) (ad ag af))) af)) (aJ (i:=10) nd rfl (Or.inl rfl))
     (ak (aD (i:=9) nd rfl (Or.inl rfl) (aO dF (pv 9) (aG (ad (aj Fe hr (ad (pv 0) (ad (aO bi ag (aj Ft r1 (ad (pv 0) (ad ag af)))) (ad (pv 2) af)))) af)))))) <|
    ah (aD (i:=9) nd rfl (Or.inl rfl) (aO dF (pv 9) (aG (ad (aj Fe hr (ad (pv 0) (ad (pv 3) (ad (pv 2) af)))) af)))) <|
    ak (mz hu (pv 1) aM (aO dF (bf cz (pv 6) bN (bb (pv 7))) (pv 9)) rfl)))) <|
   ah (bK (cT PySem.F.plainAttrs_list PySem.F.slot_list_append PySem.F.type_list_append cg (bH hu (pv 1) aM (fun _ _=>rfl)) (ad (pv 5) af))) <|
   ak (ay (aG (ad aM (ad (pv 3) (ad (pv 4) (ad (aO bi (pv 7) (aq ao (by rfl) B.len PySem.boot_len (ad (pv 9) af))) (ad (pv 9) (ad (pv 5) (ad (aj Fm r3 (ad (pv 0) (ad (pv 5) (ad (pv 2) af)))) af))))))))),?_⟩
  have cal:ca.length=chs.length:=Paired.length S0.cb
  have kal:ka.length=T.length:=Paired.length S0.kb
  refine ⟨_,rfl,sd,_,rfl,rn S0.ds,_,rfl,_,rfl,sd,_,rfl,rn S0.ds,cl,_,rfl,.inl (SqL.of S0.hc),R,_,rfl,r0,(by rw [List.length_map]; omega),(by rw [List.length_map]; exact Int.le_trans (show ((ca.length:Nat):Int) <= 100 by omega) (by decide +kernel)),fun i H1 i0 i1 q1 b1=>?_⟩
  rw [List.length_map] at i1
  have N1:=N0.but Ap.nR b1
  have S1:=S0.but r0 Ap.kR Ap.cR b1
  have t01:=b1.tk r0
  have hil:i.toNat < ca.length:=by omega
  have hil2:i.toNat < chs.length:=by omega
  have hpr:H1 ca[i.toNat]=some (.tup [.int chs[i.toNat].1,.str chs[i.toNat].2]):=Paired.zip S1.cb (ca[i.toNat],chs[i.toNat]) (List.mem_iff_getElem.mpr ⟨i.toNat,by rw [List.length_zip]; omega,List.getElem_zip⟩)
  have hcm:chs[i.toNat] ∈ chs:=List.getElem_mem _
  generalize chs[i.toNat]=cx at hpr hcm
  obtain ⟨t,x⟩:=cx
  have hat:atI (ca.map V.ref) i=some (.ref ca[i.toNat]):=by
   have h:=aK (xs:=ca.map V.ref) (j:=i.toNat) (v:=.ref ca[i.toNat]) (by rw [List.getElem?_map,List.getElem?_eq_getElem hil]; rfl)
   rwa [Int.toNat_of_nonneg i0] at h
  refine ⟨cl,_,_,_,rfl,rfl,SqL.of S1.hc,hat,_,_,rfl,SqT.of hpr,rfl,_,_,rfl,_,_,rfl,rfl,?_⟩
  have t1:=(cok _ hcm).1
  have nx:=(cok _ hcm).2
  refine ⟨_,rfl,_,rfl,sd,_,rfl,kL S1.ds,_,rfl,_,rfl,sd,_,rfl,kL S1.ds,kl,_,rfl,.inl (SqL.of S1.hk),R,_,rfl,q1,(by rw [List.length_map]; omega),(by rw [List.length_map]; exact Int.le_trans (show ((ka.length:Nat):Int) <= 100 by omega) (by decide +kernel)),fun j H4 j0 j1 q4 b4=>?_⟩
  rw [List.length_map] at j1
  have N4:=N1.but Ap.nR b4
  have S4:=S1.but q1 Ap.kR Ap.cR b4
  have hjl:j.toNat < ka.length:=by omega
  have hb0:BnO H4 ka[j.toNat] T[j.toNat]:=Paired.zip S4.kb (ka[j.toNat],T[j.toNat]) (List.mem_iff_getElem.mpr ⟨j.toNat,by rw [List.length_zip]; omega,List.getElem_zip⟩)
  have hat:atI (ka.map V.ref) j=some (.ref ka[j.toNat]):=by
   have h:=aK (xs:=ka.map V.ref) (j:=j.toNat) (v:=.ref ka[j.toNat]) (by rw [List.getElem?_map,List.getElem?_eq_getElem hjl]; rfl)
   rwa [Int.toNat_of_nonneg j0] at h
  refine ⟨kl,_,_,_,rfl,rfl,SqL.of S4.hk,hat,_,rfl,R,_,nl,zs,_,rfl,q4,N4,Ap.nR,hb0,fun b tri H5 hb hkn q5 b5=>?_⟩
  have N5:=N4.but Ap.nR b5
  have S5:=S4.but q4 Ap.kR Ap.cR b5
  have hknT:aX T tri=true:=iA (fun k hk=>by rw [List.mem_singleton.mp hk]; exact List.getElem_mem _) hkn
  have t05:=(t01.trans (b4.tk q1)).trans (b5.tk q4)
  have b05:=(b1.trans b4).trans b5
  refine ⟨_,rfl,sd,_,rfl,dS_r S5.ds,?_⟩
  refine ⟨_,rfl,_,rfl,rw',_,rfl,.inr (SqT.of S5.hr),_,_,rfl,rfl,R,_,rfl,q5,(by rw [List.length_map]; omega),(by rw [List.length_map]; exact Int.le_trans (show ((es.length:Nat):Int) + 1 <= 301 by omega) (by decide +kernel)),fun m' H6 m0 m1 q6 b6=>?_⟩
  rw [List.length_map] at m1
  obtain ⟨m,rfl⟩:=Int.eq_ofNat_of_zero_le m0
  have me:m <= es.length:=by omega
  have N6:=N5.but Ap.nR b6
  have S6:=S5.but q5 Ap.kR Ap.cR b6
  have t06:=t05.trans (b6.tk q5)
  have hb6:=hb.tk (b6.tk q5)
  have e6:∀ a ∈ es,∃ t,EnG H6 a t:=fun a ha=>by obtain ⟨t,h⟩:=eok a ha; exact ⟨t,h.tk t06⟩
  refine ⟨_,rfl,_,rfl,rw',_,rfl,.inr (SqT.of S6.hr),(m:Int),_,rfl,?_⟩
  refine lcP (n:=(((es.map V.ref).length:Int) - (m:Int)).toNat) (fun i=>.int ((m:Int) + i)) (fun D i ys Hx=>H6 D=none /\ (∃ ms:List Int,ys=ms.map V.int /\ ms.length <= i /\ ∀ z ∈ ms,∃ (k:Nat) (a d:Addr),z=(k:Int) + 1 /\ m <= k /\ es[k]?=some a /\ H6 a=some (.tup [.int t,.ref d])) /\ Hx=upd H6 D (.lst ys)) ?_ ?_ ?_ ?_ ?_ ?_
  ·rintro D i ys Hx hi _
   exact hi
  ·rintro D i ys Hx y Hy hi _ ⟨rfl,rfl⟩
   exact ⟨rfl,rfl⟩
  ·rintro D ys Hx _
   exact Nat.le_refl _
  ·intro D hD
   exact ⟨hD,⟨[],rfl,Nat.le_refl _,fun z hz=>(nomatch hz)⟩,rfl⟩
  ·rintro D i ys Hx yes no hi ⟨hD,⟨ms,rfl,hml,hmz⟩,rfl⟩ hy hn
   rw [List.length_map] at hi
   have hk:m + i < es.length:=by omega
   obtain ⟨t',t1',d,hd,_⟩:=e6 es[m + i] (List.getElem_mem hk)
   have sD:=aA.new (o:=.lst (ms.map V.int)) hD
   have hat2:atI (es.map V.ref) ((m:Int) + (i:Int))=some (.ref es[m + i]):=by
    have h:=aK (xs:=es.map V.ref) (j:=m + i) (v:=.ref es[m + i]) (by rw [List.getElem?_map,List.getElem?_eq_getElem hk]; rfl)
    rwa [Int.natCast_add] at h
   refine ⟨⟨[some (.int ((m:Int) + i))],rfl,rfl⟩,?_⟩
   refine ⟨_,rfl,_,rfl,rw',_,_,_,rfl,rfl,SqT.of (sD _ _ S6.hr),hat2,_,_,_,_,rfl,rfl,SqT.of (sD _ _ hd),at0,_,rfl,rfl,_,rfl,bD (fun z=>?_) (fun z=>?_)⟩
   ·have et:t'=t:=by
     have:=of_decide_eq_true z
     exact V.int.inj this
    subst et
    refine ⟨_,rfl,_,_,rfl,rfl,hy _ _ ar ?_ ⟨hD,⟨ms ++ [(m:Int) + i + 1],by rw [List.map_append]; rfl,by rw [List.length_append]; exact Nat.succ_le_succ hml,fun z hz=>?_⟩,by rw [fw]⟩⟩
    ·rw [List.length_map]; exact bz (by omega)
    ·rcases List.mem_append.mp hz with h | h
     ·exact hmz z h
     ·rw [List.mem_singleton.mp h]
      exact ⟨m + i,es[m + i],d,by omega,by omega,List.getElem?_eq_getElem hk,hd⟩
   ·exact hn _ ⟨hD,⟨ms,rfl,by omega,hmz⟩,rfl⟩
  rintro D ys Hx ⟨hD,⟨ms,rfl,hml,hmz⟩,rfl⟩
  rw [List.length_map] at hml
  have s7:=aA.new (o:=.lst (ms.map V.int)) hD
  have e7:upd H6 D (.lst (ms.map V.int)) D=some (.lst (ms.map V.int)):=ar
  generalize upd H6 D (.lst (ms.map V.int))=H7 at s7 e7 ⊢
  have N7:=N6.but Ap.nR (aR.of s7)
  have S7:=S6.same s7
  have q7:=q6.same s7
  have DR:D ≠ R:=q6.ne hD
  have hb7:=hb6.same s7
  have g7:∀ a ∈ es,∃ t,EnG H7 a t:=fun a ha=>by obtain ⟨t,h⟩:=e6 a ha; exact ⟨t,h.tk (Tk.of s7)⟩
  have b07:=(b05.trans b6).trans (aR.of s7)
  refine ⟨fun σ' H'=>∃ (e rw2:Addr) (as es':List Addr) (v10:Option V),σ'=[some (V.ref R),some (V.ref sd),some (V.ref nl),some (V.int t),some (V.str x),some (V.ref b),some (V.ref rw'),some (V.int (m:Int)),some (V.ref D),some (V.ref e),v10] /\ H' e=some (.tup (as.map V.ref)) /\ bo H' sd kl cl rw2 ka ca T chs es' /\ es'=es ++ as.drop (es.length - m) /\ es'.length <= es.length + 3 /\ as.length <= 400 /\ (es.drop m).take as.length=as.take ((es.drop m).take as.length).length /\
   (∃ (r:List Addr) (a:Addr) (d:V),as=r ++ [a] /\ H' a=some (.tup [.int t,d])) /\ (∀ a ∈ as,∃ t,EnG H' a t) /\ (∀ a ∈ es',∃ t,EnG H' a t) /\ Rst H' R /\ Tk H7 H' /\ cu H' nl zs /\ dM R kl cl sd H7 H',?_,?_⟩
  ·refine nA fun A B hA hB=>?_
   have elseB:∀ H8,Rst H8 R -> aR R H7 H8 -> B H8:=fun H8 q8 b8=>hB H8 (by
    have S8:=S7.but q7 Ap.kR Ap.cR b8
    have N8:=N7.but Ap.nR b8
    have t8:=b8.tk q7
    refine ⟨_,rfl,_,rfl,_,rfl,rw',_,rfl,S8.hr,fun e0 H9 s9 e9=>?_⟩
    have e9:H9 e0=some (.tup ((es.drop m).map V.ref)):=e9.trans (by rw [cutD,List.map_drop])
    refine ⟨_,rfl,R,3,rfl,q8.same s9,by decide,by decide,fun c H10 c0 c1 q10 b10=>⟨c,rfl,by omega,by omega,cO (lo:=0) (n:=c.toNat) (fun i σ Hx=>∃ (e:Addr) (ns:List Addr) (v10:Option V),σ=[some (V.ref R),some (V.ref sd),some (V.ref nl),some (V.int t),some (V.str x),some (V.ref b),some (V.ref rw'),some (V.int (m:Int)),some (V.ref D),some (V.ref e),v10] /\ Hx e=some (.tup ((es.drop m ++ ns).map V.ref)) /\ ns.length=i /\ (∀ a ∈ ns,∃ t,EnG Hx a t) /\ Rst Hx R /\ aR R H7 Hx)
     ⟨e0,[],none,rfl,by rw [List.append_nil]; exact b10.tk (q8.same s9) _ _ e9,rfl,fun a ha=>(nomatch ha),q10,(b8.trans (aR.of s9)).trans b10⟩ ?_ ?_⟩⟩
    ·rintro i σ Hx hi ⟨e,ns,v10,rfl,he,hn,hg,qx,bx⟩
     have Nx:=N7.but Ap.nR bx
     refine ⟨_,rfl,_,rfl,_,rfl,R,90,rfl,qx,by decide,by decide,fun u H11 u0 u1 q11 b11=>⟨_,_,rfl,rfl,_,rfl,R,nl,_,zs,rfl,q11,Nx.but Ap.nR b11,Ap.nR,by omega,fun a H12 ga q12 b12=>⟨(show 1 <= sizeLine by omega),fun s0 H13 n13 s13 e13=>?_⟩⟩⟩
     have tk:=(b11.tk qx).trans ((b12.tk q11).trans (Tk.of s13))
     refine ⟨e,s0,_,_,rfl,rfl,tk _ _ he,e13,(by rw [List.length_map,List.length_append,List.length_drop]; show _ + 1 <= _; omega),fun e' H14 s14 e14=>?_⟩
     refine ⟨e',ns ++ [a],_,rfl,by rw [e14,<- List.append_assoc,List.map_append (l₁:=es.drop m ++ ns)]; rfl,by rw [List.length_append,hn]; rfl,fun a' ha'=>?_,(q12.same s13).same s14,bx.trans ((b11.trans b12).trans (aR.of (s13.trans s14)))⟩
     rcases List.mem_append.mp ha' with h | h
     ·obtain ⟨t',g⟩:=hg a' h
      exact ⟨t',g.tk (tk.trans (Tk.of s14))⟩
     ·rw [List.mem_singleton.mp h]
      exact ⟨_,ga.tk (Tk.of (s13.trans s14))⟩
    ·rintro σ Hx ⟨e,ns,v10,rfl,he,hn,hg,qx,bx⟩
     have Nx:=N7.but Ap.nR bx
     refine ⟨_,rfl,_,rfl,_,rfl,_,rfl,R,nl,t,zs,rfl,qx,Nx,Ap.nR,t1,fun a H12 ga q12 b12=>⟨(show 1 <= sizeLine by omega),fun s0 H13 n13 s13 e13=>?_⟩⟩
     have tk:=(b12.tk qx).trans (Tk.of s13)
     refine ⟨e,s0,_,_,rfl,rfl,tk _ _ he,e13,(by rw [List.length_map,List.length_append,List.length_drop]; show _ + 1 <= _; omega),fun e' H14 s14 e14=>?_⟩
     have e14:H14 e'=some (.tup ((es.drop m ++ (ns ++ [a])).map V.ref)):=by rw [e14,<- List.append_assoc,List.map_append (l₁:=es.drop m ++ ns)]; rfl
     have b714:=bx.trans (b12.trans (aR.of (s13.trans s14)))
     have S14:=S7.but q7 Ap.kR Ap.cR b714
     have q14:=(q12.same s13).same s14
     refine ⟨_,rfl,_,rfl,_,rfl,rw',_,rfl,S14.hr,fun c2 H15 s15 e15=>?_⟩
     have e15:H15 c2=some (.tup ((es.take m).map V.ref)):=e15.trans (by rw [mV,List.map_take])
     refine ⟨_,rfl,c2,e',_,_,rfl,rfl,e15,s15 _ _ e14,(by rw [List.length_map,List.length_map,List.length_append,List.length_append,List.length_take,List.length_drop]; show _ + (_ + (_ + 1)) <= _; omega),fun rw2 H16 s16 e16=>?_⟩
     have S16:=(S14.same s15).same s16
     refine ⟨_,rfl,sd,_,rfl,(show j7 H16 sd (kV (Sum.inr (Str.ofString "row"):Key)) _ _ from j7.k S16.ds (by show 3 < sizeLine; omega)),?_⟩
     have kk:∀ {c:Addr} {u:HO},H16 c=some u -> (∀ m,u ≠ .dK m) -> upd H16 sd (.dK (bZ (dS kl cl rw') (Sum.inr (Str.ofString "row"):Key) (.ref rw2))) c=some u:=fun q n=>by rw [au (bp q S16.ds (n _))]; exact q
     have ed:upd H16 sd (.dK (bZ (dS kl cl rw') (Sum.inr (Str.ofString "row"):Key) (.ref rw2))) sd=some (.dK (dS kl cl rw2)):=ar
     have nd':∀ c u,c ≠ sd -> H16 c=some u -> upd H16 sd (.dK (bZ (dS kl cl rw') (Sum.inr (Str.ofString "row"):Key) (.ref rw2))) c=some u:=fun c u h e=>by rw [au h]; exact e
     generalize upd H16 sd (.dK (bZ (dS kl cl rw') (Sum.inr (Str.ofString "row"):Key) (.ref rw2)))=H17 at kk ed nd' ⊢
     have tk17:Tk H16 H17:=fun c xs e=>kk e (by intro m z; cases z)
     have t1417:=(Tk.of (s15.trans s16)).trans tk17
     have t717:=(b714.tk q7).trans t1417
     have hsp:es.take m ++ (es.drop m ++ (ns ++ [a]))=es ++ (ns ++ [a]):=by rw [<- List.append_assoc,List.take_append_drop]
     have hnew:∀ a' ∈ ns ++ [a],∃ t,EnG H17 a' t:=fun a' ha'=>by
      rcases List.mem_append.mp ha' with h | h
      ·obtain ⟨t',g⟩:=hg a' h
       exact ⟨t',g.tk ((tk.trans (Tk.of s14)).trans t1417)⟩
      ·rw [List.mem_singleton.mp h]
       exact ⟨t,ga.tk ((Tk.of (s13.trans s14)).trans t1417)⟩
     have hold:∀ a' ∈ es,∃ t,EnG H17 a' t:=fun a' ha'=>by obtain ⟨t',g⟩:=g7 a' ha'; exact ⟨t',g.tk t717⟩
     have hc3:ns.length <= 2:=by omega
     obtain ⟨_,da,hda,_⟩:=id ga
     refine ⟨e',rw2,es.drop m ++ (ns ++ [a]),es ++ (ns ++ [a]),_,rfl,t1417 _ _ e14,⟨ed,kk S16.hk (by intro m z; cases z),Paired.imp' (fun _ _ q=>q.tk tk17) S16.kb,kk S16.hc (by intro m z; cases z),Paired.imp' (fun _ _ q=>tk17 _ _ q) S16.cb,?_⟩,?_,?_,?_,?_,⟨es.drop m ++ ns,a,.ref da,by rw [List.append_assoc],(Tk.of (s13.trans s14)).trans t1417 _ _ hda⟩,fun a' ha'=>?_,fun a' ha'=>?_,?_,t717,?_,?_⟩
     ·refine kk ?_ (by intro m z; cases z)
      rw [e16,<- List.map_append,hsp]
     ·rw [List.drop_append_of_le_length (by rw [List.length_drop]; exact Nat.le_refl _),List.drop_of_length_le (by rw [List.length_drop]; exact Nat.le_refl _),List.nil_append]
     ·rw [List.length_append,List.length_append]; show _ + (_ + 1) <= _; omega
     ·rw [List.length_append,List.length_append,List.length_drop]; show _ + (_ + 1) <= _; omega
     ·rw [List.take_of_length_le (l:=es.drop m) (by rw [List.length_append]; omega),List.take_left']
      rfl
     ·rcases List.mem_append.mp ha' with h | h
      ·exact hold a' (List.mem_of_mem_drop h)
      ·exact hnew a' h
     ·rcases List.mem_append.mp ha' with h | h
      ·exact hold a' h
      ·exact hnew a' h
     ·obtain ⟨ra,rb,hR,r2⟩:=(q14.same s15).same s16
      exact ⟨ra,rb,kk hR (by intro m z; cases z),r2⟩
     ·have Ny:=(N7.but Ap.nR b714)
      exact ⟨kk (s16 _ _ (s15 _ _ Ny.ob)) (by intro m z; cases z),Ny.up,Ny.l8,Ny.l15,Ny.nm⟩
     ·intro c u h1 h2 h3 h4 e
      exact nd' c u h4 (s16 _ _ (s15 _ _ (b714 _ _ h1 e))))
   refine ⟨_,rfl,Nat.zero_le _,fun l0 H8 n8 s8 e8=>⟨D,l0,_,rfl,rfl,SqL.of (s8 _ _ e7),SqL.of e8,_,rfl,bD (fun z=>?_) (fun z=>elseB H8 (q7.same s8) (aR.of s8))⟩⟩
   have q8:=q7.same s8
   refine ⟨_,rfl,R,3,rfl,q8,by decide,by decide,fun w9 H9 _ _ q9 b9=>⟨rfl,_,rfl,bD (fun _=>hA H9 ?_) (fun _=>elseB H9 q9 ((aR.of s8).trans b9))⟩⟩
   have hms:ms ≠ []:=fun h=>by subst h; cases z
   have b79:aR R H7 H9:=(aR.of s8).trans b9
   have D9:H9 D=some (.lst (ms.map V.int)):=b79 _ _ DR e7
   have S9:=S7.but q7 Ap.kR Ap.cR b79
   have hml0:0 < ms.length:=List.length_pos_iff.mpr hms
   refine ⟨_,rfl,_,rfl,_,rfl,_,rfl,_,rfl,_,rfl,D,_,rfl,.inl (SqL.of D9),R,_,rfl,q9,(by rw [List.length_map]; omega),(by rw [List.length_map]; exact Int.le_trans (show ((ms.length:Nat):Int) <= 300 by omega) (by decide +kernel)),fun i H10 i0 i1 q10 b10=>?_⟩
   have b710:=b79.trans b10
   have S10:=S7.but q7 Ap.kR Ap.cR b710
   have D10:H10 D=some (.lst (ms.map V.int)):=b10 _ _ DR D9
   obtain ⟨vz,hvz,hvm⟩:=jJ (xs:=ms.map V.int) i0 i1
   obtain ⟨zz,hzm,rfl⟩:=List.mem_map.mp hvm
   obtain ⟨k,a,d,rfl,hmk,hka,hda⟩:=hmz zz hzm
   have hkl:k < es.length:=(List.getElem?_eq_some_iff.mp hka).1
   refine ⟨D,_,_,_,rfl,rfl,SqL.of D10,hvz,_,rfl,rw',_,rfl,S10.hr,fun e H11 s11 e11=>?_⟩
   have b711:=b710.trans (aR.of s11)
   have t711:=b711.tk q7
   have S11:=S7.but q7 Ap.kR Ap.cR b711
   have N11:=N7.but Ap.nR b711
   have e11:H11 e=some (.tup (((es.drop m).take (k + 1 - m)).map V.ref)):=e11.trans (by
    rw [show ((k:Int) + 1)=((m + (k + 1 - m):Nat):Int) by omega,cutNN (by rw [List.length_map]; exact me),List.map_take,List.map_drop])
   have hal:((es.drop m).take (k + 1 - m)).length=k + 1 - m:=by rw [List.length_take,List.length_drop]; omega
   have hg:∀ a' ∈ es,∃ t,EnG H11 a' t:=fun a' ha'=>by obtain ⟨t',g⟩:=g7 a' ha'; exact ⟨t',g.tk t711⟩
   refine ⟨e,rw',(es.drop m).take (k + 1 - m),es,none,rfl,e11,S11,?_,by omega,by omega,?_,⟨(es.drop m).take (k - m),a,.ref d,?_,?_⟩,fun a' ha'=>hg a' (List.mem_of_mem_drop (List.mem_of_mem_take ha')),hg,q10.same s11,t711,N11,dM.of b711⟩
   ·rw [List.drop_of_length_le (by rw [hal]; omega),List.append_nil]
   ·rw [hal,hal,List.take_take,Nat.min_self]
   ·rw [show k + 1 - m=(k - m) + 1 by omega,List.take_add_one,List.getElem?_drop,show m + (k - m)=k by omega,hka]
    rfl
   ·exact t711 _ _ (s7 _ _ hda)
  ·rintro σ8 H8 ⟨e,rw2,as,es',v10,rfl,he,S8,hes,hel,hal,hjt,⟨r,a,d,hra,had⟩,gas,ges,q8,t8,N8,b8⟩
   have hb8:=hb7.tk t8
   refine ⟨_,rfl,sd,_,rfl,kL S8.ds,.inl ⟨rfl,_,SqL.of S8.hk⟩,_,rfl,kl,_,_,rfl,rfl,S8.hk,by rw [List.length_map]; omega,fun H9 k9 e9=>?_⟩
   have t9:Tk H8 H9:=fun c xs e=>k9 _ _ (bp e S8.hk (by intro z; cases z)) e
   have q9:=q8.keep k9 Ap.kR.symm
   have N9:cu H9 nl zs:=⟨k9 _ _ Ap.nk N8.ob,N8.up,N8.l8,N8.l15,N8.nm⟩
   have hb9:=hb8.tk t9
   have S9:bo H9 sd kl cl rw2 (ka ++ [b]) ca (T ++ [tri]) chs es':=⟨k9 _ _ (bp S8.ds S8.hk (by intro z; cases z)) S8.ds,by rw [e9,List.map_append]; rfl,PySem.Paired.snoc (Paired.imp' (fun _ _ q=>q.tk t9) S8.kb) hb9,k9 _ _ Ap.kc.symm S8.hc,Paired.imp' (fun _ _ q=>t9 _ _ q) S8.cb,t9 _ _ S8.hr⟩
   refine ⟨_,rfl,_,rfl,_,rfl,_,rfl,e,_,rfl,.inr (SqT.of (t9 _ _ he)),_,_,rfl,rfl,_,rfl,_,rfl,_,rfl,_,rfl,_,rfl,R,b,nl,zs,tri,rfl,q9,N9,Ap.nR,hb9,fun y ys H10 ey yl yn yr hh q10 b10=>⟨(show 7 <= sizeLine by omega),fun p H11 np s11 ep=>?_⟩⟩
   have t11:=(b10.tk q9).trans (Tk.of s11)
   rw [List.length_map] at ep
   have hb11:=hb9.tk t11
   have asn:as ≠ []:=by rw [hra]; simp
   have asl:0 < as.length:=List.length_pos_iff.mpr asn
   refine q p e b y rw2 as es' t x _ m tri ys _ H11 ⟨ep,t1,nx,by omega,t11 _ _ (t9 _ _ he),asn,by omega,fun a' ha'=>?_,hb11,s11 _ _ ey,yl,yn,yr⟩ ⟨hknT,hh,by omega,kN cnd hcm,rfl,me,hjt,r,a,d,hra,t11 _ _ (t9 _ _ had)⟩ hes hel (fun a' ha'=>?_) ((S9.but q9 Ap.kR Ap.cR b10).same s11) (q10.same s11) ?_
   ·obtain ⟨t',g⟩:=gas a' ha'
    exact ⟨t',g.tk (t9.trans t11)⟩
   ·obtain ⟨t',g⟩:=ges a' ha'
    exact ⟨t',g.tk (t9.trans t11)⟩
   ·intro c u h1 h2 h3 h4 e
    exact s11 _ _ (b10 _ _ h1 (k9 _ _ h2 (b8 c u h1 h2 h3 h4 (b07 _ _ h1 e))))
end
abbrev pf:Stmt:=top 52
theorem dM.tk {R kl cl sd rw':Addr} {H H':Hp} {ka ca:List Addr} {T:List Tri} {chs:List (Int × Str)} {es:List Addr} (r:Rst H R) (h:bo H sd kl cl rw' ka ca T chs es) (b:dM R kl cl sd H H'):Tk H H':=fun a xs e=>b a _ (by obtain ⟨x,y,hR,_⟩:=r; exact bp e hR (by intro z; cases z)) (bp e h.hk (by intro z; cases z)) (bp e h.hc (by intro z; cases z)) (bp e h.ds (by intro z; cases z)) e
structure cC (H:Hp) (ka:List Addr) (chs:List (Int × Str)) (es:List Addr) (i:Nat):Prop where
 k1:1 <= ka.length
 kl:ka.length <= i + 1
 cl:chs.length <= i
 cn:(chs.map Prod.fst).Nodup
 co:∀ c ∈ chs,1 <= c.1 /\ Nm c.2
 el:es.length <= 3 * i
 eo:∀ a ∈ es,∃ t,EnG H a t
def rA:Sp:=fun us H Q _=>∃ (R sd nl kl cl rw':Addr) (ka ca:List Addr) (T:List Tri) (chs:List (Int × Str)) (es:List Addr) (zs:List Str) (i:Nat),us=[.ref R,.ref sd,.ref nl] /\ Rst H R /\ cu H nl zs /\ bo H sd kl cl rw' ka ca T chs es /\ kK R nl kl cl /\ cC H ka chs es i /\ i <= 99 /\
 ∀ (p rw'':Addr) (ka' ca':List Addr) (T':List Tri) (chs':List (Int × Str)) (es':List Addr) (H':Hp),Stp H' p ⟨T,kvO chs,es⟩ ⟨T',kvO chs',es'⟩ -> bo H' sd kl cl rw'' ka' ca' T' chs' es' -> cC H' ka' chs' es' (i + 1) -> Rst H' R -> dM R kl cl sd H H' -> Tk H H' -> Q (.ref p) H'
section
variable {P:Program} {w:World} {K:PySem.W.Frag} {mg:Str -> Option Value} {base:Heap}
abbrev nNP:List Str:=["_law_rest_here","_law_story","_law_names_here"]
theorem scNxP:aH nNP nNP (ai pf):=fsc (by decide +kernel)
theorem ok_nxP {f:Addr} {fd:FuncData} (F:Fun K "_law_next_paper" "_law_next_paper" pf f fd) (Ft:aL P w K mg base 1 "_law_take" dN cw) (Fc:aL P w K mg base 4 "_law_chair_paper" nNP rp) (Fs:aL P w K mg base 5 "_law_settled_paper" nNP rz):a7 P w K mg base CX0 6 f fd nNP rA:=by
 refine F.ok scNxP (fun vs H Q E h=>?_) (fun cdv A outer s H vs Q E hr h=>?_)
 ·obtain ⟨R,sd,nl,kl,cl,rw',ka,ca,T,chs,es,zs,i,rfl,_⟩:=h
  rfl
 ·obtain ⟨R,sd,nl,kl,cl,rw',ka,ca,T,chs,es,zs,i,rfl,r0,N0,S0,Ap,O,i99,q⟩:=h
  have nd:=scNxP.nd
  have r1:aZ 1 _:=hr.mono (by decide)
  have r4:aZ 4 _:=hr.mono (by decide)
  have hu:_ + 1 < cLine:=Nat.lt_of_le_of_lt (Nat.add_le_add_left (show 1 <= 64 by decide) _) hr.units
  refine ⟨_,ah (aT (PW.pt (bv (az (op_eqE hu) (bH hu (pv 1) aM (fun _ _=>rfl)) (bO af) (aB _)) (bJ (az bL (aj Ft r1 (ad (pv 0) (ad ag af))) ag (aB _)))))
    (ak (ay (aj Fc r4 (ad (pv 0) (ad (pv 1) (ad (pv 2) af)))))) aE) <|
   ak (ay (aj Fs hr (ad (pv 0) (ad (pv 1) (ad (pv 2) af))))),?_⟩
  have k1:=O.k1
  have k2:=O.kl
  have k3:=O.cl
  have k4:=O.el
  have cal:ca.length=chs.length:=Paired.length S0.cb
  refine nA fun A B hA hB=>?_
  have chair:∀ H1,Rst H1 R -> aR R H H1 -> A H1:=fun H1 q1 b1=>hA H1 (by
   have S1:=S0.but r0 Ap.kR Ap.cR b1
   refine ⟨_,rfl,_,rfl,_,rfl,R,sd,nl,kl,cl,rw',ka,ca,T,chs,es,zs,rfl,q1,N0.but Ap.nR b1,S1,Ap,by omega,by omega,by omega,fun p b y t x tri ys ka' ca' H' hc hk hh ht S' r' bs=>?_⟩
   have t1:=(b1.tk r0).trans (bs.tk q1 S1)
   have e1:(ka':List Addr).length=T.length + 1:=by rw [Paired.length S'.kb,List.length_append]; rfl
   have e0:=Paired.length S0.kb
   refine q p rw' ka' ca' _ _ es H' (.chair hc hk hh (rq ht) (by rw [kvO_put ht])) S' ⟨by omega,by omega,by rw [List.length_append]; show _ + 1 <= _; omega,?_,fun c hcm=>?_,by omega,fun a ha=>?_⟩ r' ((dM.of b1).trans bs) t1
   ·rw [List.map_append,List.nodup_append]
    exact ⟨O.cn,by simp,fun a ha b hb e=>ht (by rw [List.mem_singleton.mp hb] at e; exact (show a=t from e) ▸ ha)⟩
   ·rcases List.mem_append.mp hcm with h | h
    ·exact O.co c h
    ·rw [List.mem_singleton.mp h]
     exact ⟨hc.t1,hc.nx⟩
   ·obtain ⟨t',g⟩:=O.eo a ha
    exact ⟨t',g.tk t1⟩)
  refine ⟨_,rfl,sd,_,rfl,rn S0.ds,Nat.zero_le _,fun l0 H1 n1 s1 e1=>⟨cl,l0,_,rfl,rfl,SqL.of (s1 _ _ S0.hc),SqL.of e1,_,rfl,bD (fun z=>aQ (chair H1 (r0.same s1) (aR.of s1))) (fun z=>?_)⟩⟩
  refine ⟨_,rfl,R,3,rfl,r0.same s1,by decide,by decide,fun w9 H2 _ _ q2 b2=>⟨rfl,_,rfl,bD (fun _=>chair H2 q2 ((aR.of s1).trans b2)) (fun _=>hB H2 ?_)⟩⟩
  have c1:1 <= chs.length:=by
   rw [<- cal]
   cases ca with
   | nil=>exact absurd rfl z
   | cons a r=>exact Nat.succ_le_succ (Nat.zero_le _)
  have b02:=(aR.of s1).trans b2
  have S2:=S0.but r0 Ap.kR Ap.cR b02
  have t02:=b02.tk r0
  refine ⟨_,rfl,_,rfl,_,rfl,R,sd,nl,kl,cl,rw',ka,ca,T,chs,es,zs,rfl,q2,N0.but Ap.nR b02,S2,Ap,by omega,by omega,c1,by omega,O.cn,O.co,by omega,fun a ha=>?_,fun p e b y rw2 as es' t x n m tri ys ka' H' hs hd hes hel ges S' r' bs=>?_⟩
  ·obtain ⟨t',g⟩:=O.eo a ha
   exact ⟨t',g.tk t02⟩
  ·have e1:(ka':List Addr).length=T.length + 1:=by rw [Paired.length S'.kb,List.length_append]; rfl
   have e0:=Paired.length S0.kb
   exact q p rw2 ka' ca _ _ es' H' (.settled hs hd (by rw [hes])) S' ⟨by omega,by omega,by omega,O.cn,O.co,by omega,ges⟩ r' ((dM.of b02).trans bs) (t02.trans (bs.tk q2 S2))
end
abbrev ph:Stmt:=top 53
structure ErF (K:PySem.W.Frag) (mg:Str -> Option Value) (CN CE d1 d2 d3 d4 d5 d6 d7 d8 d9 d10 d11:Addr):Prop where
 kn:iz K CN
 m1:mg "Down"=some (.ref d1)
 m2:mg "NoBench"=some (.ref d2)
 m3:mg "NoDeed"=some (.ref d3)
 m4:mg "NoHouse"=some (.ref d4)
 m5:mg "NoLetter"=some (.ref d5)
 m6:mg "NoText"=some (.ref d6)
 m7:mg "NoTown"=some (.ref d7)
 m8:mg "NotChair"=some (.ref d8)
 m9:mg "NotYet"=some (.ref d9)
 m10:mg "Old"=some (.ref d10)
 m11:mg "Standing"=some (.ref d11)
 isi:mg "isinstance"=none
 val:mg "ValueError"=none
 boo:mg "bool"=none
 k0:PySem.W.kitOne K (.ref CN) (.ref CN)=some true
 kv:PySem.W.kitOne K (.ref CN) (.type "ValueError")=some true
 kb:PySem.W.kitOne K (.type "int") (.type "bool")=some false
 ka:PySem.W.kitAny K (.ref CN) ([d1,d2,d3,d4,d5,d6,d7].map Value.ref)=some false
 kc:PySem.W.kitAny K (.ref CN) ([d8,d9,d10,d11].map Value.ref)=some false
 sub:PySem.W.mroIn K CN (.ref CE)=some true
theorem bVal:bootBuiltins "ValueError"=some (.type "ValueError"):=by decide +kernel
theorem bBoo:bootBuiltins "bool"=some (.type "bool"):=by decide +kernel
def rB:Sp:=fun us H Q _=>∃ (b pp:Addr) (t0:Tri) (ps:List Addr) (qs:List Pap) (S:Nat -> Sta) (m:Nat),us=[.ref b,.ref pp] /\ BnO H b t0 /\ H pp=some (.tup (ps.map V.ref)) /\ ps.length <= 100 /\ Paired (dO H) ps qs /\ Jdg ⟨[t0],[],[]⟩ qs S m /\ (∀ i,i <= m -> (S i).chs.length <= 900 /\ (S i).es.length <= 900) /\
 ((m=ps.length /\ ∀ (r en:Addr) (es:List Addr) (H':Hp),aA H H' -> H' r=some (.tup [.str "row",.ref en]) -> H' en=some (.tup (es.map V.ref)) -> Paired (EnD H') es (S m).es -> Q (.ref r) H') \/
  ∃ q,qs[m]?=some q /\ (S m).step q=none /\ ∀ (r:Addr) (H':Hp),aA H H' -> H' r=some (.tup [.str "paper",.int (m:Int)]) -> Q (.ref r) H')
section
variable {P:Program} {w:World} {K:PySem.W.Frag} {mg:Str -> Option Value} {base:Heap} {CN CE f0 d1 d2 d3 d4 d5 d6 d7 d8 d9 d10 d11:Addr}
abbrev nLkd:List Str:=["_law_bench_here","_law_papers","_law_found","_law_caught","e"]
theorem scLkd:aH nLkd ["_law_bench_here","_law_papers"] (ai ph):=fsc (by decide +kernel)
theorem ok_lkd {f:Addr} {fd:FuncData} (F:Fun K "_law_looked" "_law_looked" ph f fd) (TN:NPC K mg CN CE f0) (XC:ExcC K mg "ChainError" CE) (T:ErF K mg CN CE d1 d2 d3 d4 d5 d6 d7 d8 d9 d10 d11) (Fl:q0 P w K mg base 9 "look_over" ["bench","papers"] (l7 CN)):a7 P w K mg base CX0 10 f fd ["_law_bench_here","_law_papers"] rB:=by
 refine F.ok scLkd (fun us H Q E h=>?_) (fun cdv A outer s H us Q E hr h=>?_)
 ·obtain ⟨b,pp,t0,ps,qs,S,m,rfl,_⟩:=h
  rfl
 ·obtain ⟨b,pp,t0,ps,qs,S,m,rfl,hb,hpp,hpl,hpq,J,bd,q⟩:=h
  have nd:=scLkd.nd
  have hs16:sizeLine=16777216:=sizeLine_eq
  refine ⟨_,ah (aD (i:=2) nd rfl (Or.inl rfl) fS) <| ah (aD (i:=3) nd rfl (Or.inl rfl) fS) <|
   ah (oY (i:=4) rfl rfl rfl XC (by rfl) nd rfl rfl (fun pins xe E hE=>ak (aD (X:=fJ _ _ _) (i:=2) nd rfl (Or.inl rfl) (re (X:=fJ _ _ _) Fl hr hE (ad (pv 0) (ad (pv 1) af)))))
    (fun ea=>ak (aD (X:=cxH _ _) (i:=3) nd rfl (Or.inl rfl) (pv 4)))) <|
   ah (aT (az op_isN (pv 3) fS (aB _)) (ak (ay (aG (ad aM (ad (pv 2) af))))) aE) <|
   ah (aT (PW.pt (bv (bg (aW (aq qZ (by rfl) T.isi ei (ad (pv 3) (ad (bG (v:=.ref CN) (by rfl) TN.mgN rfl) af))))) <|
     bv (bg (aW (aq oX (by rfl) T.isi ei (ad (pv 3) (ad (bR (v:=.ty "ValueError") (by rfl) T.val bVal rfl) af))))) <|
     bJ (aW (aq bM (by rfl) T.isi ei (ad (mY (pv 3) rfl) (ad (bR (v:=.ty "bool") (by rfl) T.boo bBoo rfl) af)))))) (ak (ay (aG (ad aM (ad fS af))))) aE) <|
   ah (aT (aW (aq jl (by rfl) T.isi ei (ad (pv 3) (ad (aG (ad (bG (v:=.ref d1) (by rfl) T.m1 rfl) (ad (bG (v:=.ref d2) (by rfl) T.m2 rfl) (ad (bG (v:=.ref d3) (by rfl) T.m3 rfl) (ad (bG (v:=.ref d4) (by rfl) T.m4 rfl) (ad (bG (v:=.ref d5) (by rfl) T.m5 rfl) (ad (bG (v:=.ref d6) (by rfl) T.m6 rfl) (ad (bG (v:=.ref d7) (by rfl) T.m7 rfl) af)))))))) af)))) (ak (ay (aG (ad aM (ad fS af))))) aE) <|
   ah (aT (aW (aq jl (by rfl) T.isi ei (ad (pv 3) (ad (aG (ad (bG (v:=.ref d8) (by rfl) T.m8 rfl) (ad (bG (v:=.ref d9) (by rfl) T.m9 rfl) (ad (bG (v:=.ref d10) (by rfl) T.m10 rfl) (ad (bG (v:=.ref d11) (by rfl) T.m11 rfl) af))))) af)))) (ak (ay (aG (ad aM (ad fS af))))) aE) <|
   ak (ay (aG (ad aM (ad (mY (pv 3) rfl) af)))),?_⟩
  refine ⟨_,rfl,_,rfl,b,pp,t0,ps,qs,S,m,rfl,hb,hpp,hpl,hpq,J,bd,?_⟩
  rcases q with ⟨em,q⟩ | ⟨p,hp,hag,q⟩
  ·refine .inl ⟨em,fun en es H1 s1 e1 p1=>?_⟩
   refine ⟨_,rfl,rfl,_,rfl,aQ ?_⟩
   exact ⟨_,rfl,(by show 2 <= sizeLine; omega),fun r H2 n2 s2 e2=>q r en es H2 (s1.trans s2) e2 (s2 _ _ e1) (Paired.imp' (fun _ _ h=>EnD.same s2 h) p1)⟩
  ·refine .inr ⟨p,hp,hag,fun dx H1 s1 e1=>⟨CN,rfl,T.sub,fun ea hea=>?_⟩⟩
   have s2:=aA.new (o:=xcD ea CN (some dx)) hea
   have ex:upd H1 ea (xcD ea CN (some dx)) ea=some (xcD ea CN (some dx)):=ar
   generalize upd H1 ea (xcD ea CN (some dx))=H2 at s2 ex ⊢
   have e2:=s2 _ _ e1
   refine ⟨_,rfl,?_⟩
   refine ⟨_,rfl,rfl,_,rfl,aN ?_⟩
   refine ⟨_,rfl,ea,CN,CN,_,true,rfl,ex,T.kn,T.k0,_,rfl,aN ?_⟩
   refine ⟨_,rfl,ea,CN,_,"ValueError",true,rfl,ex,T.kn,T.kv,_,rfl,aN ?_⟩
   refine ⟨_,rfl,ea,CN,dx,_,_,rfl,ex,e2,TN.rd,rfl,_,"bool","int",false,rfl,Kd.int _,T.kb,_,rfl,aN ?_⟩
   refine ⟨_,rfl,(by show 7 <= sizeLine; omega),fun t1 H3 n3 s3 e3=>⟨ea,CN,t1,_,[d1,d2,d3,d4,d5,d6,d7],false,rfl,s3 _ _ ex,e3,T.kn,T.ka,_,rfl,aN ?_⟩⟩
   refine ⟨_,rfl,(by show 4 <= sizeLine; omega),fun t2 H4 n4 s4 e4=>⟨ea,CN,t2,_,[d8,d9,d10,d11],false,rfl,s4 _ _ (s3 _ _ ex),e4,T.kn,T.kc,_,rfl,aN ?_⟩⟩
   have s24:=s3.trans s4
   refine ⟨_,rfl,ea,CN,dx,_,_,rfl,s24 _ _ ex,s24 _ _ e2,TN.rd,rfl,(by show 2 <= sizeLine; omega),fun r H5 n5 s5 e5=>?_⟩
   exact q r H5 (((s1.trans s2).trans s24).trans s5) e5
end
abbrev ft:Stmt:=top 54
abbrev eU:Stmt:=top 55
def gO:Sp:=fun us H Q _=>∃ (b t:Addr) (vs cs ls xs:List Str),us=[.ref b,.ref t] /\ bI H b vs cs ls /\ H t=some (.tup (xs.map V.str)) /\ xs.length <= 100 /\ ∀ H',aA H H' -> Q (.bl (bF vs cs xs)) H'
section
variable {P:Program} {w:World} {K:PySem.W.Frag} {mg:Str -> Option Value} {base:Heap}
abbrev nLH:List Str:=["_law_bench_here","_law_names_here","_law_part"]
theorem nD:aH nLH ["_law_bench_here","_law_names_here"] (ai ft):=fsc (by decide +kernel)
theorem ndLH:(nLH ++ (["_law_name"]:List Str)).Nodup:=by decide +kernel
theorem rC {f:Addr} {fd:FuncData} (F:Fun K "_law_half" "_law_half" ft f fd) (hlen:mg "len"=none):a7 P w K mg base CX0 1 f fd ["_law_bench_here","_law_names_here"] gO:=by
 refine F.ok nD (fun us H Q E h=>?_) (fun cdv A outer s H us Q E hr h=>?_)
 ·obtain ⟨b,t,vs,cs,ls,xs,rfl,_⟩:=h
  rfl
 ·obtain ⟨b,t,vs,cs,ls,xs,rfl,⟨⟨v,c,l,hb,hv,hc,hl⟩,_,_,_,v1,v7,c7,_,_⟩,ht,hxl,q⟩:=h
  have nd:=nD.nd
  have hu:_ + 1 < cLine:=Nat.lt_of_le_of_lt (Nat.add_le_add_left (show 1 <= 64 by decide) _) hr.units
  refine ⟨_,ah (cv PassesOwn.never rfl (db (bf cz (pv 0) bN (bb ag))) (aJ (i:=2) nd rfl (Or.inl rfl)) <|
    ak (aT (PW.pt (c9 (az (gI hu) (pv 2) (aG af) (aB _)) (cL (az pF (aO gX ag (aq ao (by rfl) hlen PySem.boot_len (ad
     (cE nLH nLH ["_law_name"] (ai ft) rfl rfl rfl (by decide +kernel) rfl rfl (by decide +kernel) (by decide +kernel) (by decide +kernel) (by decide +kernel)
      (db (pv 2)) (fun _ _ _ _ _=>aJ (i:=3) ndLH rfl (Or.inl rfl)) (fun _ _ _ _ _=>dE (az dG (pv 3) (pv 1) (by rfl))) (fun _ _ _ _ _=>pv 3)) af)))
     (aq ao (by rfl) hlen PySem.boot_len (ad (pv 2) af)) (aB _))))) (ak (ay bE)) aE)) <|
   ak (ay bE),?_⟩
  refine ⟨_,rfl,_,rfl,b,_,rfl,hb,fun p H1 s1 e1=>?_⟩
  have e1:H1 p=some (.tup [.ref v,.ref c]):=e1
  refine ⟨p,rfl,⟨_,SqT.of e1⟩,js (xs:=[V.ref v,V.ref c]) (fun i σ Hx=>∃ w2:Option V,σ=[some (V.ref b),some (V.ref t),w2] /\ aA H Hx /\ Hx p=some (.tup [.ref v,.ref c]) /\ (1 <= i -> cy vs xs=true) /\ (2 <= i -> (decide (cs=[]) || cy cs xs)=true)) ⟨none,rfl,s1,e1,fun z=>absurd z (by decide),fun z=>absurd z (by decide)⟩ ?_ ?_ ?_⟩
  ·rintro i σ Hx hi ⟨w2,rfl,sx,ex,_⟩
   exact SqT.of ex
  ·rintro i x σ Hx hx ⟨w2,rfl,sx,ex,g1,g2⟩
   obtain ⟨a,ps,rfl,ha,hpl,gF,gT⟩:∃ (a:Addr) (ps:List Str),x=.ref a /\ Hx a=some (.tup (ps.map V.str)) /\ ps.length <= 100 /\ (ps ≠ [] -> cy ps xs=false -> bF vs cs xs=false) /\ ((ps=[] \/ cy ps xs=true) -> (1 <= i + 1 -> cy vs xs=true) /\ (2 <= i + 1 -> (decide (cs=[]) || cy cs xs)=true)):=by
    match i,hx with
    | 0,hx =>
     cases hx
     refine ⟨v,vs,rfl,sx _ _ hv,by omega,fun _ hf=>by unfold bF; rw [hf,Bool.false_and],fun h=>⟨fun _=>?_,fun z=>absurd z (by decide)⟩⟩
     rcases h with h | h
     ·rw [h] at v1; simp at v1
     ·exact h
    | 1,hx =>
     cases hx
     refine ⟨c,cs,rfl,sx _ _ hc,by omega,fun hne hf=>by unfold bF; rw [hf,decide_eq_false hne,Bool.false_or,Bool.and_false],fun h=>⟨fun _=>g1 (by decide),fun _=>?_⟩⟩
     rcases h with h | h
     ·rw [decide_eq_true h,Bool.true_or]
     ·rw [h,Bool.or_true]
   refine ⟨_,rfl,Nat.zero_le _,fun p0 H2 n2 s2 e2=>⟨a,p0,_,rfl,rfl,SqT.of (s2 _ _ ha),SqT.of e2,_,rfl,?_⟩⟩
   have s02:=sx.trans s2
   cases ps with
   | nil=>exact aN ⟨_,rfl,s02,s2 _ _ ex,gT (.inl rfl)⟩
   | cons z zs =>
   refine aQ ?_
   generalize hps:z :: zs=ps at *
   have ha2:=s2 _ _ ha
   refine ⟨_,rfl,a,rfl,⟨_,SqT.of ha2⟩,?_⟩
   refine lcFU (fun u=>inV u (xs.map V.str)) rfl ha2 (by rw [List.length_map]; omega) (fun D x ys post hD hx hpost=>?_) (fun D hD=>?_)
   ·obtain ⟨z,hz,rfl⟩:=List.mem_map.mp hx
    have e3:upd H2 D (.lst ys) t=some (.tup (xs.map V.str)):=by rw [au (am (s02 _ _ ht) hD)]; exact s02 _ _ ht
    exact ⟨_,rfl,_,rfl,t,_,rfl,.inr (SqT.of e3),rfl,bq xs,_,rfl,hpost⟩
   rw [eM]
   have s5:=aA.new (o:=.lst ((ps.filter fun x=>decide (x ∈ xs)).map V.str)) hD
   have e5:upd H2 D (.lst ((ps.filter fun x=>decide (x ∈ xs)).map V.str)) D=some (.lst ((ps.filter fun x=>decide (x ∈ xs)).map V.str)):=ar
   generalize upd H2 D (.lst ((ps.filter fun x=>decide (x ∈ xs)).map V.str))=H5 at s5 e5 ⊢
   refine ⟨D,_,rfl,.inl (SqL.of e5),2,_,rfl,rfl,.inl (by decide),_,rfl,a,_,rfl,.inr (SqT.of (s5 _ _ ha2)),_,_,rfl,rfl,_,rfl,?_⟩
   have s05:=s02.trans s5
   have hd:decide ((2:Int) * ((((ps.filter fun x=>decide (x ∈ xs)).map V.str).length:Nat):Int) <= (((ps.map V.str).length:Nat):Int))=!cy ps xs:=by
    rw [List.length_map,List.length_map]
    unfold cy cnt
    by_cases h:ps.length < 2 * (ps.filter fun x=>decide (x ∈ xs)).length
    ·rw [decide_eq_true h,decide_eq_false (by omega)]; rfl
    ·rw [decide_eq_false h,decide_eq_true (by omega)]; rfl
   refine bD (fun y=>?_) (fun y=>?_)
   ·have hf:cy ps xs=false:=by
     have y:decide _=true:=y
     rw [hd] at y
     simpa using y
    have:=gF (by rw [<- hps]; simp) hf
    rw [this] at q
    exact q _ s05
   ·have hf:cy ps xs=true:=by
     have y:¬ decide _=true:=y
     rw [hd] at y
     simpa using y
    exact ⟨_,rfl,s05,s5 _ _ (s2 _ _ ex),gT (.inr hf)⟩
  ·rintro σ Hx ⟨w2,rfl,sx,ex,g1,g2⟩
   have e:bF vs cs xs=true:=by
    unfold bF
    rw [g1 (Nat.le_succ _),g2 (Nat.le_refl _)]
    rfl
   rw [e] at q
   exact q _ sx
abbrev nLK:List Str:=["_law_bench_here","_law_known_here","_law_one"]
theorem kO:aH nLK ["_law_bench_here","_law_known_here"] (ai eU):=fsc (by decide +kernel)
def fQ:Sp:=fun us H Q _=>∃ (b kl:Addr) (ka:List Addr) (T:List Tri) (tri:Tri),us=[.ref b,.ref kl] /\ H kl=some (.lst (ka.map V.ref)) /\ Paired (BnO H) ka T /\ BnO H b tri /\ ∀ H',aA H H' -> Q (.bl (aX T tri)) H'
def knB (tri k:Tri):Bool:=decide (tri=k) || eE k.1 k.2.1 k.2.2 tri.1 tri.2.1 tri.2.2
theorem isE {ps:List Str}:(ps.map V.str).isEmpty=decide (ps=[]):=by
 cases ps with
 | nil=>rfl
 | cons z zs=>simp
theorem pi {f:Addr} {fd:FuncData} (F:Fun K "_law_known" "_law_known" eU f fd):a7 P w K mg base CX0 1 f fd ["_law_bench_here","_law_known_here"] fQ:=by
 refine F.ok kO (fun us H Q E h=>?_) (fun cdv A outer s H us Q E hr h=>?_)
 ·obtain ⟨b,kl,ka,T,tri,rfl,_⟩:=h
  rfl
 ·obtain ⟨b,kl,ka,T,tri,rfl,hkl,hka,hb,q⟩:=h
  have nd:=kO.nd
  have hu64:=hr.units
  have hs16:sizeLine=16777216:=sizeLine_eq
  have hu:_ + 1 < cLine:=Nat.lt_of_le_of_lt (Nat.add_le_add_left (show 1 <= 64 by decide) _) hr.units
  refine ⟨_,ah (cv PassesOwn.never rfl (cW (pv 1)) (aJ (i:=2) nd rfl (Or.inl rfl)) <|
    ah (aT (PW.pt (bv (az (ig hu64) (pv 0) (pv 2) (aB _)) (bJ (PW.pt (c9 (az (gI hu) (ax aw (pv 2) ag (fun _ _=>rfl)) (aG af) (aB _)) (cL (az (ig hu64) (pv 0) (aG (ad (ax aw (pv 2) ag (fun _ _=>rfl)) (ad (aG af) (ad (ax aw (pv 2) ag (fun _ _=>rfl)) af)))) (aB _)))))))) (ak (ay bE)) aE) <|
    ak (aT (PW.pt (c9 (az (op_eqT0 hu) (ax aw (pv 2) ag (fun _ _=>rfl)) (aG af) (aB _)) (c9 (az (gI hu) (ax aw (pv 0) ag (fun _ _=>rfl)) (aG af) (aB _)) (cL (az (mK hu) (ax aw (pv 0) ag (fun _ _=>rfl)) (ax aw (pv 2) ag (fun _ _=>rfl)) (aB _)))))) (ak (ay bE)) aE)) <|
   ak (ay bE),?_⟩
  refine ⟨_,rfl,kl,rfl,⟨_,SqL.of hkl⟩,j4 (xs:=ka.map V.ref) (fun i σ Hx=>∃ w2:Option V,σ=[some (V.ref b),some (V.ref kl),w2] /\ aA H Hx /\ ∀ j k,j < i -> T[j]?=some k -> knB tri k=false) ⟨none,rfl,aA.refl _,fun j k hj=>absurd hj (Nat.not_lt_zero _)⟩ ?_ ?_ ?_⟩
  ·rintro i σ Hx hi ⟨w2,rfl,sx,_⟩
   exact SqL.of (sx _ _ hkl)
  ·rintro i x σ Hx hx ⟨w2,rfl,sx,g⟩
   rw [List.getElem?_map] at hx
   cases he:ka[i]? with
   | none=>rw [he] at hx; cases hx
   | some a =>
    rw [he] at hx
    cases hx
    obtain ⟨k,hk,hak⟩:=dw hka he
    have yes:knB tri k=true -> aX T tri=true:=fun h=>by
     unfold aX
     rw [List.any_eq_true]
     exact ⟨k,List.mem_of_getElem? hk,h⟩
    have go:knB tri k=false -> ∀ j k',j < i + 1 -> T[j]?=some k' -> knB tri k'=false:=fun h j k' hj hjk=>by
     by_cases e:j=i
     ·rw [e,hk] at hjk
      cases hjk
      exact h
     ·exact g j k' (by omega) hjk
    have hbx:=hb.same sx
    have hax:=hak.same sx
    obtain ⟨⟨⟨v',c',l',o1,o2,o3,o4⟩,_⟩,nb⟩:=id hbx
    obtain ⟨⟨⟨v,c,l,b1,b2,b3,b4⟩,_⟩,na⟩:=id hax
    refine ⟨_,rfl,_,rfl,_,_,hbx.1.dt hbx.2,hax.1.dt hax.2,_,rfl,?_⟩
    rw [cP]
    refine bD (fun z=>?_) (fun z=>?_)
    ·have z:=of_decide_eq_true z
     have e:tri=k:=Prod.ext z.1 (Prod.ext z.2.1 z.2.2)
     have:=yes (by unfold knB; rw [decide_eq_true e,Bool.true_or])
     rw [this] at q
     exact q _ sx
    have hne:¬ tri=k:=fun e=>z (decide_eq_true (by rw [e]; exact ⟨rfl,rfl,rfl⟩))
    refine ⟨_,rfl,a,_,_,_,rfl,rfl,SqT.of b1,at1,Nat.zero_le _,fun p0 H2 n2 s2 e2=>⟨c,p0,_,rfl,rfl,SqT.of (s2 _ _ b3),SqT.of e2,_,rfl,?_⟩⟩
    rw [isE]
    by_cases hc:k.2.1=[]
    ·rw [decide_eq_true hc]
     refine aN ?_
     refine ⟨_,rfl,a,_,_,_,rfl,rfl,SqT.of (s2 _ _ b1),at1,Nat.zero_le _,fun p1 H3 n3 s3 e3=>⟨c,p1,_,rfl,rfl,SqT.of (s3 _ _ (s2 _ _ b3)),SqT.of e3,_,rfl,?_⟩⟩
     rw [isE,decide_eq_true hc]
     refine aQ ?_
     have s23:=s2.trans s3
     refine ⟨_,rfl,b,_,_,_,rfl,rfl,SqT.of (s23 _ _ o1),at1,Nat.zero_le _,fun p2 H4 n4 s4 e4=>⟨c',p2,_,rfl,rfl,SqT.of (s4 _ _ (s23 _ _ o3)),SqT.of e4,_,rfl,?_⟩⟩
     rw [isE]
     have s24:=s23.trans s4
     have sk:knB tri k=(!decide (tri.2.1=[]) && decide (tri.1=k.1)):=by
      unfold knB eE
      rw [decide_eq_false hne,Bool.false_or,if_neg (by rw [hc]; decide)]
      congr 1
      by_cases h:tri.2.1=[]
      ·rw [h]; rfl
      ·rw [decide_eq_false h,decide_eq_true (List.length_pos_iff.mpr h)]; rfl
     by_cases hc':tri.2.1=[]
     ·rw [decide_eq_true hc']
      refine aN ?_
      exact ⟨_,rfl,sx.trans s24,go (by rw [sk,decide_eq_true hc']; rfl)⟩
     ·rw [decide_eq_false hc']
      refine aQ ?_
      refine ⟨_,rfl,b,_,_,_,rfl,rfl,SqT.of (s24 _ _ o1),at0,_,rfl,a,_,_,_,rfl,rfl,SqT.of (s24 _ _ b1),at0,v',v,_,_,rfl,rfl,SqT.of (s24 _ _ o2),SqT.of (s24 _ _ b2),_,rfl,bD (fun y=>?_) (fun y=>?_)⟩
      ·have y:=of_decide_eq_true y
       have:=yes (by rw [sk,decide_eq_false hc',decide_eq_true y]; rfl)
       rw [this] at q
       exact q _ (sx.trans s24)
      ·have y:¬ tri.1=k.1:=fun e=>y (decide_eq_true e)
       exact ⟨_,rfl,sx.trans s24,go (by rw [sk,decide_eq_false hc',decide_eq_false y]; rfl)⟩
    ·rw [decide_eq_false hc]
     refine aQ ?_
     have sk:knB tri k=decide (tri.1=k.2.1 /\ tri.2.1=[] /\ tri.2.2=k.2.2):=by
      unfold knB eE
      rw [decide_eq_false hne,Bool.false_or,if_pos (List.length_pos_iff.mpr hc)]
     refine ⟨_,rfl,_,rfl,a,_,_,_,rfl,rfl,SqT.of (s2 _ _ b1),at1,Nat.zero_le _,fun p1 H3 n3 s3 e3=>⟨_,rfl,a,_,_,_,rfl,rfl,SqT.of (s3 _ _ (s2 _ _ b1)),at2,(show 3 <= sizeLine by omega),fun p2 H4 n4 s4 e4=>?_⟩⟩
     have s24:=s2.trans (s3.trans s4)
     have d4:Dt H4 (.ref p2) (dP k.2.1 [] k.2.2):=kE e4 (s24 _ _ b3) (s4 _ _ e3) (s24 _ _ b4) ⟨na.2.1,fun x hx=>(nomatch hx),na.2.2⟩
     refine ⟨_,_,(hbx.same s24).1.dt hbx.2,d4,_,rfl,?_⟩
     rw [cP,<- sk]
     cases hkk:knB tri k with
     | true =>
      have:=yes hkk
      rw [this] at q
      exact aQ (q _ (sx.trans s24))
     | false =>
      refine aN ?_
      refine ⟨_,rfl,a,_,_,_,rfl,rfl,SqT.of (s24 _ _ b1),at1,Nat.zero_le _,fun p3 H5 n5 s5 e5=>⟨c,p3,_,rfl,rfl,SqT.of (s5 _ _ (s24 _ _ b3)),SqT.of e5,_,rfl,?_⟩⟩
      rw [isE,decide_eq_false hc]
      exact aN ⟨_,rfl,sx.trans (s24.trans s5),go hkk⟩
  ·rintro σ Hx ⟨w2,rfl,sx,g⟩
   rw [List.length_map,Paired.length hka] at g
   have:aX T tri=false:=by
    rw [Bool.eq_false_iff]
    intro z
    unfold aX at z
    rw [List.any_eq_true] at z
    obtain ⟨k,hk,h⟩:=z
    obtain ⟨j,hj,e⟩:=List.getElem_of_mem hk
    have:=g j k hj (by rw [List.getElem?_eq_getElem hj,e])
    unfold knB at this
    rw [this] at h
    cases h
   rw [this] at q
   exact q _ sx
end
abbrev pj:Stmt:=top 56
def ChA (H:Hp) (a:Addr) (c:Int × Str):Prop:=H a=some (.tup [.int c.1,.str c.2]) /\ Nm c.2
def chD (c:Int × Str):PyData:=.tuple [.int c.1,.str c.2]
theorem rD {H:Hp}:∀ {ca:List Addr} {chs:List (Int × Str)},Paired (ChA H) ca chs -> RdsAll H (ca.map V.ref) (chs.map chD) /\ PyData.canLayAll0 (chs.map chD)=true /\ PyData.depthAll (chs.map chD) <= 5
 | _,_,.nil=>⟨.nil,by simp [PyData.canLayAll0],by simp [PyData.depthAll]⟩
 | _,_,.cons h r=>by
  obtain ⟨i1,i2,i3⟩:=rD r
  have n1:=je h.2
  refine ⟨.cons (.tup h.1 (.cons (.int _) (.cons (.str _) .nil))) i1,?_,?_⟩
  ·rw [List.map_cons]
   simp only [PyData.canLayAll0,chD,PyData.canLay0,n1,i2,Bool.and_true,Bool.true_and]
  ·rw [List.map_cons]
   simp only [PyData.depthAll,chD,PyData.depth]
   omega
theorem rE (c d:Int × Str):PyData.eqv (chD c) (chD d)=decide (c=d):=by
 unfold chD
 simp only [PyData.eqv,PyData.eqvAll,Bool.and_true]
 by_cases h1:c.1=d.1 <;> by_cases h2:c.2=d.2 <;> simp [h1,h2,Prod.ext_iff]
theorem gq:∀ {chs:List (Int × Str)} {t:Int} {x:Str},(chs.map Prod.fst).Nodup -> (bP chs t=some x ↔ (t,x) ∈ chs)
 | [],t,x,_=>by simp [bP]
 | c :: r,t,x,nd=>by
  rw [List.map_cons,List.nodup_cons] at nd
  have ih:=gq (chs:=r) (t:=t) (x:=x) nd.2
  unfold bP at ih ⊢
  rw [List.find?_cons]
  by_cases h:c.1=t
  ·rw [decide_eq_true h]
   constructor
   ·intro e
    have e:c.2=x:=by simpa using e
    rw [<- h,<- e]
    exact List.mem_cons_self ..
   ·intro hm
    rcases List.mem_cons.mp hm with e | e
    ·rw [<- e]; rfl
    ·exact absurd (List.mem_map.mpr ⟨_,e,h.symm⟩) nd.1
  ·rw [decide_eq_false h]
   constructor
   ·intro e
    exact List.mem_cons_of_mem _ (ih.mp e)
   ·intro hm
    rcases List.mem_cons.mp hm with e | e
    ·rw [<- e] at h; exact absurd rfl h
    ·exact ih.mpr e
theorem any_ch (chs:List (Int × Str)) (c:Int × Str):((chs.map chD).any fun d=>PyData.eqv d (chD c))=decide (c ∈ chs):=by
 rw [List.any_map,Bool.eq_iff_iff,List.any_eq_true,decide_eq_true_iff]
 constructor
 ·rintro ⟨k,hk,e⟩
  have e:PyData.eqv (chD k) (chD c)=true:=e
  rw [rE,decide_eq_true_iff] at e
  rw [<- e]
  exact hk
 ·intro h
  refine ⟨c,h,?_⟩
  show PyData.eqv (chD c) (chD c)=true
  rw [rE,decide_eq_true_iff]
theorem iC:∀ {xs ys:List PyData},xs.length=ys.length -> (PyData.eqvAll xs ys=true ↔ ∀ (i:Nat) (x y:PyData),xs[i]?=some x -> ys[i]?=some y -> PyData.eqv x y=true)
 | [],[],_=>by simp [PyData.eqvAll]
 | [],_ :: _,h=>by simp at h
 | _ :: _,[],h=>by simp at h
 | a :: r,b :: s,h=>by
  have ih:=iC (xs:=r) (ys:=s) (by simpa using h)
  simp only [PyData.eqvAll,Bool.and_eq_true]
  constructor
  ·rintro ⟨h1,h2⟩ i x y hx hy
   cases i with
   | zero=>simp at hx hy; rw [<- hx,<- hy]; exact h1
   | succ i=>exact ih.mp h2 i x y (by simpa using hx) (by simpa using hy)
  ·intro g
   exact ⟨g 0 a b rfl rfl,ih.mpr fun i x y hx hy=>g (i + 1) x y (by simpa using hx) (by simpa using hy)⟩
theorem pq {es ds:List (Int × PyData)} {m:Nat} (hm:m <= es.length):(ck es ds m=true ↔ ∀ (i:Nat) (x y:Int × PyData),es[m + i]?=some x -> ds[i]?=some y -> PyData.eqv (enP x) (enP y)=true):=by
 unfold ck
 rw [decide_eq_true hm,Bool.true_and]
 have l1:((es.drop m).take ds.length).length=min ds.length (es.length - m):=by rw [List.length_take,List.length_drop]
 rw [iC (by rw [List.length_map,List.length_map,List.length_take,List.length_take,List.length_drop]; omega)]
 constructor
 ·intro g i x y hx hy
  have hi:=(List.getElem?_eq_some_iff.mp hx).1
  have hj:=(List.getElem?_eq_some_iff.mp hy).1
  refine g i (enP x) (enP y) ?_ ?_
  ·rw [List.getElem?_map,List.getElem?_take,if_pos hj,List.getElem?_drop,hx]; rfl
  ·rw [List.getElem?_map,List.getElem?_take,if_pos (by rw [l1]; omega),hy]; rfl
 ·intro g i x y hx hy
  rw [List.getElem?_map,List.getElem?_take] at hx hy
  split at hx
  ·rw [List.getElem?_drop] at hx
   split at hy
   ·cases hx':es[m + i]? with
    | none=>rw [hx'] at hx; cases hx
    | some u =>
     cases hy':ds[i]? with
     | none=>rw [hy'] at hy; cases hy
     | some v =>
      rw [hx'] at hx
      rw [hy'] at hy
      cases hx
      cases hy
      exact g i u v hx' hy'
   ·cases hy
  ·cases hx
def rF:Sp:=fun us H Q _=>∃ (p rw' kl cl e b y:Addr) (as es ka ca:List Addr) (ds des:List (Int × PyData)) (T:List Tri) (chs:List (Int × Str)) (t:Int) (x:Str) (n:Int) (m:Nat) (tri:Tri) (ys:List Str),us=[.ref p,.ref rw',.ref kl,.ref cl] /\ bT H p t x n e as b y tri.1 tri.2.1 tri.2.2 ys /\ Paired (EnD H) as ds /\ n=(m:Int) + (as.length:Int) /\
 H rw'=some (.tup (es.map V.ref)) /\ Paired (EnD H) es des /\ H kl=some (.lst (ka.map V.ref)) /\ Paired (BnO H) ka T /\ H cl=some (.lst (ca.map V.ref)) /\ Paired (ChA H) ca chs /\ (chs.map Prod.fst).Nodup /\ ∀ H',aA H H' -> Q (.bl (cU T chs des t x m ds tri ys)) H'
section
variable {P:Program} {w:World} {K:PySem.W.Frag} {mg:Str -> Option Value} {base:Heap}
abbrev nSHo:List Str:=["_law_paper","_law_row","_law_known_here","_law_chairs","_law_kind","_law_term","_law_name","_law_place","_law_entries","_law_bench_here","_law_holders","_law_first","_law_k"]
abbrev pSHo:List Str:=["_law_paper","_law_row","_law_known_here","_law_chairs"]
theorem scSHo:aH nSHo pSHo (ai pj):=fsc (by decide +kernel)
theorem ok_sho {f:Addr} {fd:FuncData} (F:Fun K "_law_settled_holds" "_law_settled_holds" pj f fd) (B:Blt mg) (Fk:aL P w K mg base 1 "_law_known" ["_law_bench_here","_law_known_here"] fQ) (Fh:aL P w K mg base 1 "_law_half" ["_law_bench_here","_law_names_here"] gO):a7 P w K mg base CX0 2 f fd pSHo rF:=by
 refine F.ok scSHo (fun us H Q E h=>?_) (fun cdv A outer s H us Q E hr h=>?_)
 ·obtain ⟨p,rw',kl,cl,e,b,y,as,es,ka,ca,ds,des,T,chs,t,x,n,m,tri,ys,rfl,_⟩:=h
  rfl
 ·obtain ⟨p,rw',kl,cl,e,b,y,as,es,ka,ca,ds,des,T,chs,t,x,n,m,tri,ys,rfl,S,has,hnm,hrw,hes,hkl,hka,hcl,hca,hnd,q⟩:=h
  have nd:=scSHo.nd
  have hu64:=hr.units
  have hs16:sizeLine=16777216:=sizeLine_eq
  refine ⟨_,ah (gS (pv 0) (gR (n:=7) rfl (a9 (aJ (i:=4) nd rfl (Or.inl rfl)) (a9 (aJ (i:=5) nd rfl (Or.inl rfl)) (a9 (aJ (i:=6) nd rfl (Or.inl rfl)) (a9 (aJ (i:=7) nd rfl (Or.inl rfl)) (a9 (aJ (i:=8) nd rfl (Or.inl rfl)) (a9 (aJ (i:=9) nd rfl (Or.inl rfl)) (a9 (aJ (i:=10) nd rfl (Or.inl rfl)) dz))))))))) <|
   ah (aT (PW.pt (bv (az (iZ hu64) (aG (ad (pv 5) (ad (pv 6) af))) (pv 3) (by rfl)) <| bv (bg (aW (aj Fk hr (ad (pv 9) (ad (pv 2) af))))) <| bJ (bg (aW (aj Fh hr (ad (pv 9) (ad (pv 10) af))))))) (ak (ay bE)) aE) <|
   ah (aD (i:=11) nd rfl (Or.inl rfl) (aO dU (pv 7) (aq ao (by rfl) B.len PySem.boot_len (ad (pv 8) af)))) <|
   ah (aT (PW.pt (bv (az gr (pv 11) ag (aB _)) <| bv (az fz (pv 11) (aq ao (by rfl) B.len PySem.boot_len (ad (pv 1) af)) (aB _)) <| bJ (az gY (ax aw (ax aw (pv 8) (iL fU ag) (fun _ _=>rfl)) ag (fun _ _=>rfl)) (pv 5) (aB _)))) (ak (ay bE)) aE) <|
   ah (cv PassesOwn.never rfl (bW (by rfl) B.range (ad (aq ao (by rfl) B.len PySem.boot_len (ad (pv 8) af)) af)) (aJ (i:=12) nd rfl (Or.inl rfl)) <|
    ak (aT (PW.pt (c9 (az gr (aO bi (pv 11) (pv 12)) (aq ao (by rfl) B.len PySem.boot_len (ad (pv 1) af)) (aB _)) (cL (az (qm hu64) (ax aw (pv 1) (aO bi (pv 11) (pv 12)) (fun _ _=>rfl)) (ax aw (pv 8) (pv 12) (fun _ _=>rfl)) (aB _))))) (ak (ay bE)) aE)) <|
   ak (ay bE),?_⟩
  have hp:=S.ob
  have la:=Paired.length has
  have le:=Paired.length hes
  refine ⟨_,rfl,p,_,rfl,SqT.of hp,rfl,_,_,rfl,_,_,rfl,_,_,rfl,_,_,rfl,_,_,rfl,_,_,rfl,_,_,rfl,rfl,?_⟩
  refine ⟨_,rfl,_,rfl,(show 2 <= sizeLine by omega),fun p1 H1 n1 s1 e1=>?_⟩
  obtain ⟨i1,i2,i3⟩:=rD hca
  have nx:=je S.nx
  have dt1:Dt H1 (.ref p1) (chD (t,x)):=⟨.tup e1 (.cons (.int _) (.cons (.str _) .nil)),by simp only [chD,PyData.canLay0,PyData.canLayAll0,nx,Bool.and_true,Bool.true_and],by simp [chD,PyData.depth,PyData.depthAll]⟩
  refine ⟨_,rfl,cl,_,_,_,rfl,.inr (s1 _ _ hcl),(⟨i1,i2,by omega⟩:Ds H _ _).same s1,dt1,_,rfl,?_⟩
  rw [any_ch]
  have qF:cU T chs des t x m ds tri ys=false -> ∀ H',aA H H' -> Q (.bl false) H':=fun h H' s'=>by rw [h] at q; exact q H' s'
  by_cases hc:(t,x) ∈ chs
  case neg =>
   rw [decide_eq_false hc]
   refine aQ (qF ?_ _ s1)
   unfold cU
   rw [decide_eq_false (fun z=>hc ((gq hnd).mp z)),Bool.false_and,Bool.and_false,Bool.and_false]
  rw [decide_eq_true hc]
  refine aN ?_
  have hco:=(gq (x:=x) hnd).mpr hc
  have hb:BnO H b tri:=⟨S.bn,S.nb⟩
  refine ⟨_,rfl,_,rfl,b,kl,ka,T,tri,rfl,s1 _ _ hkl,Paired.imp' (fun _ _ h=>BnO.same s1 h) hka,hb.same s1,fun H2 s2=>?_⟩
  have s2:=s1.trans s2
  cases hk:aX T tri with
  | false =>
   refine ⟨_,rfl,aQ (qF ?_ _ s2)⟩
   unfold cU
   rw [hk,Bool.false_and]
  | true =>
  refine ⟨_,rfl,aN ?_⟩
  refine ⟨_,rfl,_,rfl,b,y,tri.1,tri.2.1,tri.2.2,ys,rfl,S.bn.same s2,s2 _ _ S.yt,Nat.le_trans S.yl (by decide),fun H3 s3=>?_⟩
  have s3:=s2.trans s3
  cases hh:bF tri.1 tri.2.1 ys with
  | false =>
   refine ⟨_,rfl,aQ (qF ?_ _ s3)⟩
   unfold cU
   rw [hk,hh,Bool.false_and,Bool.and_false]
  | true =>
  refine ⟨_,rfl,aN ?_⟩
  have sB:cU T chs des t x m ds tri ys=(ck des ds m && decide (jj ds=t)):=by
   unfold cU
   rw [hk,hh,decide_eq_true hco,Bool.true_and,Bool.true_and,Bool.true_and]
  refine ⟨_,rfl,_,rfl,e,_,rfl,.inr (SqT.of (s3 _ _ S.et)),_,_,rfl,rfl,?_⟩
  refine Eq.mpr (congrArg (fun v=>bY 11 v _ H3 _) (show V.int (n - ((as.map V.ref).length:Int))=V.int (m:Int) by rw [List.length_map,hnm]; congr 1; omega)) ?_
  refine ⟨_,rfl,_,_,rfl,rfl,_,rfl,bD (fun z=>absurd (of_decide_eq_true z) (by omega)) (fun _=>?_)⟩
  refine ⟨_,rfl,_,rfl,rw',_,rfl,.inr (SqT.of (s3 _ _ hrw)),_,_,rfl,rfl,_,rfl,bD (fun z=>?_) (fun z=>?_)⟩
  ·have z:=of_decide_eq_true z
   rw [List.length_map] at z
   refine qF ?_ _ s3
   rw [sB]
   unfold ck
   rw [decide_eq_false (by omega),Bool.false_and,Bool.false_and]
  have hml:m <= es.length:=by
   have z:¬ ((es.map V.ref).length:Int) < (m:Int):=fun y=>z (decide_eq_true y)
   rw [List.length_map] at z
   omega
  obtain ⟨r,a,ear⟩:∃ r a,as=r ++ [a]:=⟨_,_,(List.dropLast_concat_getLast S.ne).symm⟩
  subst ear
  obtain ⟨dr,d,hdd⟩:∃ dr d,ds=dr ++ [d]:=⟨_,_,(List.dropLast_concat_getLast (by intro z; rw [z] at has; have:=Paired.length has; simp at this)).symm⟩
  subst hdd
  have hlast:jj (dr ++ [d])=d.1:=by
   unfold jj
   rw [List.getLast?_append]
   rfl
  obtain ⟨_,dd,ha,_⟩:=gm has
  have hal:atI ((r ++ [a]).map V.ref) (-1)=some (.ref a):=by rw [List.map_append]; exact ke _ _
  refine ⟨_,rfl,1,rfl,e,_,_,_,rfl,rfl,SqT.of (s3 _ _ S.et),hal,a,_,_,_,rfl,rfl,SqT.of (s3 _ _ ha),at0,_,rfl,rfl,_,rfl,?_⟩
  by_cases hdt:d.1=t
  case neg =>
   rw [decide_eq_false (show ¬ V.int d.1=V.int t from fun z=>hdt (by cases z; rfl))]
   refine aQ (qF ?_ _ s3)
   rw [sB,hlast,decide_eq_false hdt,Bool.and_false]
  rw [decide_eq_true (show V.int d.1=V.int t by rw [hdt])]
  refine aN ?_
  rw [hlast,decide_eq_true hdt,Bool.and_true] at sB
  have ji:=pq (es:=des) (ds:=dr ++ [d]) (m:=m) (by omega)
  generalize r ++ [a]=as at *
  generalize dr ++ [d]=ds at *
  refine ⟨_,rfl,e,_,rfl,.inr (SqT.of (s3 _ _ S.et)),as.length,by rw [List.length_map],by omega,by have:=S.el; omega,cO (lo:=0) (n:=as.length) (fun i σ Hx=>∃ w2:Option V,σ=[some (V.ref p),some (V.ref rw'),some (V.ref kl),some (V.ref cl),some (V.str "settled"),some (V.int t),some (V.str x),some (V.int n),some (V.ref e),some (V.ref b),some (V.ref y),some (V.int (m:Int)),w2] /\ aA H Hx /\ ∀ (j:Nat) (u v:Int × PyData),j < i -> des[m + j]?=some u -> ds[j]?=some v -> PyData.eqv (enP u) (enP v)=true) ⟨none,rfl,s3,fun j u v hj=>absurd hj (Nat.not_lt_zero _)⟩ ?_ ?_⟩
  ·rintro i σ Hx hi ⟨w2,rfl,sx,g⟩
   have him:i < as.length:=hi
   refine ⟨_,rfl,_,rfl,_,_,rfl,rfl,_,rfl,rw',_,rfl,.inr (SqT.of (sx _ _ hrw)),_,_,rfl,rfl,_,rfl,bD (fun z=>?_) (fun z=>?_)⟩
   ·have z:=of_decide_eq_true z
    rw [List.length_map] at z
    have hmi:m + i < es.length:=by omega
    obtain ⟨ae,hae⟩:∃ a,es[m + i]?=some a:=⟨_,List.getElem?_eq_getElem hmi⟩
    obtain ⟨aa,haa⟩:∃ a,as[i]?=some a:=⟨_,List.getElem?_eq_getElem him⟩
    obtain ⟨u,hu,ru⟩:=dw hes hae
    obtain ⟨v,hv,rv⟩:=dw has haa
    have at1':atI (es.map V.ref) ((m:Int) + (0 + (i:Int)))=some (.ref ae):=jE (by omega) (by rw [show ((m:Int) + (0 + (i:Int))).toNat=m + i by omega]; exact hae)
    have at2':atI (as.map V.ref) (0 + (i:Int))=some (.ref aa):=jE (by omega) (by rw [show (0 + (i:Int)).toNat=i by omega]; exact haa)
    have du:=(ru.same sx).dt
    have dv:=(rv.same sx).dt
    refine ⟨_,rfl,_,rfl,_,rfl,_,_,rfl,rfl,rw',_,_,_,rfl,rfl,SqT.of (sx _ _ hrw),at1',_,rfl,_,rfl,e,_,_,_,rfl,rfl,SqT.of (sx _ _ S.et),at2',[.int u.1,u.2],[.int v.1,v.2],⟨du.1,by simp only [PyData.canLay0,PyData.canLayAll0,du.2.1,Bool.and_true],by have:=du.2.2; simp only [PyData.depth,PyData.depthAll]; omega⟩,⟨dv.1,by simp only [PyData.canLay0,PyData.canLayAll0,dv.2.1,Bool.and_true],by have:=dv.2.2; simp only [PyData.depth,PyData.depthAll]; omega⟩,_,rfl,?_⟩
    have ee:PyData.eqvAll [.int u.1,u.2] [.int v.1,v.2]=PyData.eqv (enP u) (enP v):=by
     unfold enP
     simp only [PyData.eqv]
    rw [ee]
    cases hq:PyData.eqv (enP u) (enP v) with
    | false =>
     refine aQ (qF ?_ _ sx)
     rw [sB,Bool.eq_false_iff]
     intro hj
     rw [ji.mp hj i u v hu hv] at hq
     cases hq
    | true =>
     refine aN ⟨_,rfl,sx,fun j u' v' hj hu' hv'=>?_⟩
     by_cases e:j=i
     ·rw [e] at hu' hv'
      rw [hu] at hu'
      rw [hv] at hv'
      cases hu'
      cases hv'
      exact hq
     ·exact g j u' v' (by omega) hu' hv'
   ·refine ⟨_,rfl,sx,fun j u' v' hj hu' hv'=>?_⟩
    by_cases e:j=i
    ·have hlt:=(List.getElem?_eq_some_iff.mp hu').1
     exact absurd (decide_eq_true (by rw [List.length_map]; omega)) z
    ·exact g j u' v' (by omega) hu' hv'
  ·rintro σ Hx ⟨w2,rfl,sx,g⟩
   have:ck des ds m=true:=ji.mpr fun j u v hu hv=>g j u v (by have:=(List.getElem?_eq_some_iff.mp hv).1; omega) hu hv
   rw [sB,this] at q
   exact q _ sx
end
abbrev mh:Stmt:=top 57
theorem fu:∀ (chs:List (Int × Str)) (t:Int),(bP chs t).isSome=decide (t ∈ chs.map Prod.fst)
 | [],t=>rfl
 | c :: r,t=>by
  have ih:=fu r t
  unfold bP at ih ⊢
  rw [List.find?_cons]
  by_cases h:c.1=t
  ·rw [decide_eq_true h,decide_eq_true (by rw [List.map_cons,h]; exact List.mem_cons_self ..)]
   rfl
  ·rw [decide_eq_false h]
   rw [ih]
   congr 1
   rw [List.map_cons,List.mem_cons]
   exact propext ⟨.inr,fun z=>z.elim (fun e=>absurd e.symm h) id⟩
def rG:Sp:=fun us H Q _=>∃ (b lp:Addr) (t0:Tri) (ps:List Addr) (qs:List Pap) (S:Nat -> Sta) (m:Nat),us=[.ref b,.ref lp] /\ BnO H b t0 /\ H lp=some (.lst (ps.map V.ref)) /\ ps.length <= 100 /\ Paired (dO H) ps qs /\ Jdg ⟨[t0],[],[]⟩ qs S m /\ (∀ i,i <= m -> (S i).chs.length <= 900 /\ (S i).es.length <= 900) /\
 ((m=ps.length /\ ∀ (r en:Addr) (es:List Addr) (H':Hp),aA H H' -> H' r=some (.tup [.str "row",.ref en]) -> H' en=some (.tup (es.map V.ref)) -> Paired (EnD H') es (S m).es -> Q (.ref r) H') \/
  ∃ q,qs[m]?=some q /\ (S m).step q=none /\ ∀ (r:Addr) (H':Hp),aA H H' -> H' r=some (.tup [.str "paper",.int (m:Int)]) -> Q (.ref r) H')
section
variable {P:Program} {w:World} {K:PySem.W.Frag} {mg:Str -> Option Value} {base:Heap}
abbrev nDue:List Str:=["_law_bench_here","_law_papers","_law_known_here","_law_chairs","_law_row","_law_number","_law_paper"]
theorem scDue:aH nDue ["_law_bench_here","_law_papers"] (ai mh):=fsc (by decide +kernel)
theorem ndDue:(nDue ++ (["_law_term","_law_name"]:List Str)).Nodup:=by decide +kernel
structure Nt (H:Hp) (kl cl rw':Addr) (ka ca es:List Addr) (s:Sta):Prop where
 hk:H kl=some (.lst (ka.map V.ref))
 kp:Paired (BnO H) ka s.ts
 hc:H cl=some (.lst (ca.map V.ref))
 cp:Paired (ChA H) ca s.chs
 hr:H rw'=some (.tup (es.map V.ref))
 ep:Paired (EnD H) es s.es
 nd:(s.chs.map Prod.fst).Nodup
theorem ChA.tk {H H':Hp} {a:Addr} {c:Int × Str} (k:Tk H H') (h:ChA H a c):ChA H' a c:=⟨k _ _ h.1,h.2⟩
theorem Nt.same {H H':Hp} {kl cl rw':Addr} {ka ca es:List Addr} {s:Sta} (e:aA H H') (h:Nt H kl cl rw' ka ca es s):Nt H' kl cl rw' ka ca es s:=⟨e _ _ h.hk,Paired.imp' (fun _ _ h=>BnO.same e h) h.kp,e _ _ h.hc,Paired.imp' (fun _ _ h=>ChA.tk (Tk.of e) h) h.cp,e _ _ h.hr,Paired.imp' (fun _ _ h=>EnD.same e h) h.ep,h.nd⟩
theorem ok_due {f:Addr} {fd:FuncData} (F:Fun K "_law_due" "_law_due" mh f fd) (B:Blt mg) (hmax:mg "max"=none) (henum:mg "enumerate"=none) (bMax:bootBuiltins "max"=some (.builtin "max")) (Fk:aL P w K mg base 1 "_law_known" ["_law_bench_here","_law_known_here"] fQ) (Fh:aL P w K mg base 1 "_law_half" ["_law_bench_here","_law_names_here"] gO) (Fs:aL P w K mg base 2 "_law_settled_holds" pSHo rF):a7 P w K mg base CX0 3 f fd ["_law_bench_here","_law_papers"] rG:=by
 refine F.ok scDue (fun us H Q E h=>?_) (fun cdv A outer s H us Q E hr h=>?_)
 ·obtain ⟨b,lp,t0,ps,qs,S,m,rfl,_⟩:=h
  rfl
 ·obtain ⟨b,lp,t0,ps,qs,S,m,rfl,hb,hlp,hpl,hpq,J,bnd,q⟩:=h
  have nd:=scDue.nd
  have r1:aZ 1 _:=hr.mono (by decide)
  have hs16:sizeLine=16777216:=sizeLine_eq
  have hlq:ps.length=qs.length:=Paired.length hpq
  have hm0:m <= ps.length:=by rw [hlq]; exact J.no
  refine ⟨_,ah (aD (i:=2) nd rfl (Or.inl rfl) (bO (ad (pv 0) af))) <| ah (aD (i:=3) nd rfl (Or.inl rfl) (bO af)) <| ah (aD (i:=4) nd rfl (Or.inl rfl) (aG af)) <|
   ah (cv PassesOwn.never rfl (pi_enum (by rfl) henum (ad (pv 1) af)) (gR (n:=2) rfl (a9 (aJ (i:=5) nd rfl (Or.inl rfl)) (a9 (aJ (i:=6) nd rfl (Or.inl rfl)) dz))) <|
    ak (aT (az bL (ax aw (pv 6) ag (fun _ _=>rfl)) aM (aB _))
     (ah (aT (PW.pt (bv (bg (aW (aj Fk r1 (ad (ax aw (pv 6) ag (fun _ _=>rfl)) (ad (pv 2) af))))) (bJ (bg (aW (aj Fh r1 (ad (ax aw (pv 6) ag (fun _ _=>rfl)) (ad (ax aw (pv 6) ag (fun _ _=>rfl)) af)))))))) (ak (ay (aG (ad aM (ad (pv 5) af))))) aE) <|
      ah (aT (az fW (ax aw (pv 6) ag (fun _ _=>rfl)) (cE nDue nDue ["_law_term","_law_name"] (ai mh) rfl rfl rfl (by decide +kernel) rfl rfl (by decide +kernel) (by decide +kernel) (by decide +kernel) (by decide +kernel)
       (cW (pv 3)) (fun _ _ _ _ _=>jF (n:=2) rfl (a9 (aJ (i:=7) ndDue rfl (Or.inl rfl)) (a9 (aJ (i:=8) ndDue rfl (Or.inl rfl)) dz))) (fun _ _ _ _ _=>bU) (fun _ _ _ _ _=>pv 7)) (by rfl)) (ak (ay (aG (ad aM (ad (pv 5) af))))) aE) <|
    ah (bK (cT PySem.F.plainAttrs_list PySem.F.slot_list_append PySem.F.type_list_append cg (pv 3) (ad (aG (ad (ax aw (pv 6) ag (fun _ _=>rfl)) (ad (ax aw (pv 6) ag (fun _ _=>rfl)) af))) af))) <|
    ak (bK (cT PySem.F.plainAttrs_list PySem.F.slot_list_append PySem.F.type_list_append cg (pv 2) (ad (ax aw (pv 6) ag (fun _ _=>rfl)) af))))
     (ah (aT (bg (aW (aj Fs hr (ad (pv 6) (ad (pv 4) (ad (pv 2) (ad (pv 3) af))))))) (ak (ay (aG (ad aM (ad (pv 5) af))))) aE) <|
      ah (aD (i:=4) nd rfl (Or.inl rfl) (aO dF (pv 4) (bf cz (ax aw (pv 6) ag (fun _ _=>rfl)) (bb (aq (iM rfl) (by rfl) hmax bMax (ad ag (ad (aO bi (aO dU (aq ao (by rfl) B.len PySem.boot_len (ad (pv 4) af)) (ax aw (pv 6) ag (fun _ _=>rfl))) (aq ao (by rfl) B.len PySem.boot_len (ad (ax aw (pv 6) ag (fun _ _=>rfl)) af))) af)))) bN))) <|
      ak (bK (cT PySem.F.plainAttrs_list PySem.F.slot_list_append PySem.F.type_list_append cg (pv 2) (ad (ax aw (pv 6) ag (fun _ _=>rfl)) af)))))) <|
   ak (ay (aG (ad aM (ad (pv 4) af)))),?_⟩
  refine ⟨_,rfl,(show 1 <= sizeLine by omega),fun kl H1 n1 s1 e1=>⟨Nat.zero_le _,fun cl H2 n2 s2 e2=>⟨Nat.zero_le _,fun rw' H3 n3 s3 e3=>?_⟩⟩⟩
  have s03:=s1.trans (s2.trans s3)
  have nkl:H kl=none:=n1
  have ncl:H cl=none:=s1.none n2
  have kc:kl ≠ cl:=am e1 n2
  have hb3:=hb.same s03
  have N3:Nt H3 kl cl rw' [b] [] [] ⟨[t0],[],[]⟩:=⟨s3 _ _ (s2 _ _ e1),.cons hb3 .nil,s3 _ _ e2,.nil,e3,.nil,List.nodup_nil⟩
  refine ⟨_,rfl,lp,_,rfl,SqL.of (s03 _ _ hlp),p9 (K:=K) (xs:=ps.map V.ref) (fun i σ Hx=>i <= m /\ ∃ (rw':Addr) (v5 v6:Option V) (ka ca es:List Addr),σ=[some (V.ref b),some (V.ref lp),some (V.ref kl),some (V.ref cl),some (V.ref rw'),v5,v6] /\ aA H Hx /\ Nt Hx kl cl rw' ka ca es (S i) /\ ka.length <= i + 1) ⟨Nat.zero_le _,rw',none,none,[b],[],[],rfl,s03,by rw [J.s0]; exact N3,Nat.le_refl _⟩ ?_ ?_ ?_⟩
  ·rintro i σ Hx ⟨_,rw',v5,v6,ka,ca,es,rfl,sx,_⟩
   exact SqL.of (sx _ _ hlp)
  ·rintro i x a σ Hx hx ha ⟨him,rw',v5,v6,ka,ca,es,rfl,sx,N,hkal⟩
   rw [List.getElem?_map] at hx
   cases he:ps[i]? with
   | none=>rw [he] at hx; cases hx
   | some p =>
    rw [he] at hx
    cases hx
    have hil:i < ps.length:=(List.getElem?_eq_some_iff.mp he).1
    have s4:=aA.new (o:=.tup [.int (i:Int),.ref p]) ha
    have e4:upd Hx a (.tup [.int (i:Int),.ref p]) a=some (.tup [.int (i:Int),.ref p]):=ar
    refine ⟨a,_,rfl,SqT.of e4,rfl,_,_,rfl,_,_,rfl,rfl,?_⟩
    generalize upd Hx a (.tup [.int (i:Int),.ref p])=H4 at s4 e4 ⊢
    have s04:=sx.trans s4
    have N4:=N.same s4
    obtain ⟨q',hq',hpa⟩:=dw hpq he
    have hpa:=hpa.tk (Tk.of s04)
    have good:∀ s',(S i).step q'=some s' -> i < m /\ S (i + 1)=s':=fun s' hs=>by
     by_cases hlt:i < m
     ·obtain ⟨q2,h1,h2⟩:=J.st i hlt
      rw [hq'] at h1
      cases h1
      rw [hs] at h2
      exact ⟨hlt,(Option.some.inj h2).symm⟩
     ·have em:i=m:=by omega
      rcases q with ⟨e0,_⟩ | ⟨q2,h1,h2,_⟩
      ·omega
      rw [em] at hq' hs
      rw [hq'] at h1
      cases h1
      rw [hs] at h2
      cases h2
    have bad:(S i).step q'=none -> ∀ (r:Addr) (H':Hp),aA H H' -> H' r=some (.tup [.str "paper",.int (i:Int)]) -> Q (.ref r) H':=fun hs=>by
     by_cases hlt:i < m
     ·obtain ⟨q2,h1,h2⟩:=J.st i hlt
      rw [hq'] at h1
      cases h1
      rw [hs] at h2
      cases h2
     ·have em:i=m:=by omega
      rcases q with ⟨e0,_⟩ | ⟨q2,h1,h2,h3⟩
      ·omega
      rw [em]
      exact h3
    have bd:=bnd i him
    have lc:=Paired.length N.cp
    have le:=Paired.length N.ep
    cases q' with
    | chair t x tri ys =>
     obtain ⟨b',y,hc⟩:=hpa
     refine ⟨_,rfl,p,_,_,_,rfl,rfl,SqT.of hc.ob,at0,rfl,_,rfl,bD (fun _=>?_) (fun z=>absurd (decide_eq_true rfl) z)⟩
     have hbn:BnO H4 b' tri:=⟨hc.bn,hc.nb⟩
     refine ⟨_,rfl,p,_,_,_,rfl,rfl,SqT.of hc.ob,aK (j:=3) rfl,_,rfl,b',kl,ka,(S i).ts,tri,rfl,N4.hk,N4.kp,hbn,fun H5 s5=>?_⟩
     have out:chB (S i).ts (S i).chs t tri ys=false -> ∀ (r:Addr) (H':Hp),aA H H' -> H' r=some (.tup [.str "paper",.int (i:Int)]) -> Q (.ref r) H':=fun h=>bad (ng h)
     have s05:=s04.trans s5
     cases hk:aX (S i).ts tri with
     | false=>exact ⟨_,rfl,aQ ⟨_,rfl,(show 2 <= sizeLine by omega),fun r H9 n9 s9 e9=>out (by unfold chB; rw [hk,Bool.false_and]) r H9 (s05.trans s9) e9⟩⟩
     | true =>
     refine ⟨_,rfl,aN ?_⟩
     refine ⟨_,rfl,p,_,_,_,rfl,rfl,SqT.of (s5 _ _ hc.ob),aK (j:=3) rfl,_,rfl,p,_,_,_,rfl,rfl,SqT.of (s5 _ _ hc.ob),aK (j:=4) rfl,b',y,tri.1,tri.2.1,tri.2.2,ys,rfl,hc.bn.same s5,s5 _ _ hc.yt,Nat.le_trans hc.yl (by decide),fun H6 s6=>?_⟩
     have s46:=s5.trans s6
     have s06:=s04.trans s46
     cases hh:bF tri.1 tri.2.1 ys with
     | false=>exact ⟨_,rfl,aQ ⟨_,rfl,(show 2 <= sizeLine by omega),fun r H9 n9 s9 e9=>out (by unfold chB; rw [hk,hh,Bool.false_and,Bool.and_false]) r H9 (s06.trans s9) e9⟩⟩
     | true =>
     refine ⟨_,rfl,aN ?_⟩
     have N6:=N4.same s46
     refine ⟨_,rfl,p,_,_,_,rfl,rfl,SqT.of (s46 _ _ hc.ob),at1,_,rfl,cl,rfl,⟨_,SqL.of N6.hc⟩,?_⟩
     refine lcPL rfl N6.hc (Paired.imp' (fun _ _ h=>h.1) N6.cp) (by omega) fun D hD=>?_
     have s7:=aA.new (o:=.lst (((S i).chs.map Prod.fst).map V.int)) hD
     have e7:upd H6 D (.lst (((S i).chs.map Prod.fst).map V.int)) D=some (.lst (((S i).chs.map Prod.fst).map V.int)):=ar
     generalize upd H6 D (.lst (((S i).chs.map Prod.fst).map V.int))=H7 at s7 e7 ⊢
     have s47:=s46.trans s7
     have s07:=s04.trans s47
     refine ⟨D,_,rfl,.inl (SqL.of e7),rfl,jn _,_,rfl,?_⟩
     rw [nw]
     by_cases hmem:t ∈ (S i).chs.map Prod.fst
     ·rw [decide_eq_true hmem]
      exact aQ ⟨_,rfl,(show 2 <= sizeLine by omega),fun r H9 n9 s9 e9=>out (by unfold chB; rw [fu,decide_eq_true hmem,Bool.not_true,Bool.and_false,Bool.and_false]) r H9 (s07.trans s9) e9⟩
     rw [decide_eq_false hmem]
     refine aN ?_
     obtain ⟨hlt,es1⟩:=good _ (mZ (by unfold chB; rw [hk,hh,fu,decide_eq_false hmem]; rfl))
     have N7:=N6.same s7
     refine ⟨_,rfl,.inl ⟨rfl,_,SqL.of N7.hc⟩,_,rfl,p,_,_,_,rfl,rfl,SqT.of (s47 _ _ hc.ob),at1,_,rfl,p,_,_,_,rfl,rfl,SqT.of (s47 _ _ hc.ob),at2,(show 2 <= sizeLine by omega),fun c8 H8 n8 s8 e8=>?_⟩
     have N8:=N7.same s8
     have s48:=s47.trans s8
     refine ⟨cl,_,_,rfl,rfl,N8.hc,by rw [List.length_map]; omega,fun H9 k9 e9=>?_⟩
     have t9:Tk H8 H9:=fun c xs e=>k9 c _ (bp e N8.hc (by intro z; cases z)) e
     refine ⟨_,rfl,.inl ⟨rfl,_,SqL.of (k9 _ _ kc N8.hk)⟩,_,rfl,p,_,_,_,rfl,rfl,SqT.of (t9 _ _ (s48 _ _ hc.ob)),aK (j:=3) rfl,?_⟩
     refine ⟨kl,_,_,rfl,rfl,k9 _ _ kc N8.hk,by rw [List.length_map]; omega,fun H10 k10 e10=>?_⟩
     have t10:Tk H9 H10:=fun c xs e=>k10 c _ (bp e (k9 _ _ kc N8.hk) (by intro z; cases z)) e
     have t810:=t9.trans t10
     have s010:aA H H10:=fun c u e=>k10 c u (am e nkl) (k9 c u (am e ncl) (s8 _ _ (s07 _ _ e)))
     refine ⟨hlt,rw',_,_,ka ++ [b'],ca ++ [c8],es,rfl,s010,?_,by rw [List.length_append]; show _ + 1 <= _; omega⟩
     rw [es1]
     refine ⟨by rw [e10,List.map_append]; rfl,dn (Paired.imp' (fun _ _ h=>BnO.tk t810 h) N8.kp) (.cons ((hbn.same s48).tk t810) .nil),?_,dn (Paired.imp' (fun _ _ h=>ChA.tk t810 h) N8.cp) (.cons ⟨t810 _ _ e8,hc.nx⟩ .nil),t810 _ _ N8.hr,eI t810 N8.ep,?_⟩
     ·rw [k10 _ _ kc.symm e9,List.map_append]
      rfl
     ·show (((S i).chs ++ [(t,x)]).map Prod.fst).Nodup
      rw [List.map_append,List.nodup_append]
      exact ⟨N8.nd,by simp,fun a ha b hb e=>hmem (by rw [List.mem_singleton.mp hb] at e; exact (show a=t from e) ▸ ha)⟩
    | settled t x m' ds tri ys =>
     obtain ⟨e,b',y,as,n,hs,has,hnm⟩:=hpa
     refine ⟨_,rfl,p,_,_,_,rfl,rfl,SqT.of hs.ob,at0,rfl,_,rfl,bD (fun z=>absurd (of_decide_eq_true z) (by decide +kernel)) (fun _=>?_)⟩
     refine ⟨_,rfl,_,rfl,_,rfl,_,rfl,p,rw',kl,cl,e,b',y,as,es,ka,ca,ds,(S i).es,(S i).ts,(S i).chs,t,x,n,m',tri,ys,rfl,hs,has,hnm,N4.hr,N4.ep,N4.hk,N4.kp,N4.hc,N4.cp,N4.nd,fun H5 s5=>?_⟩
     have s05:=s04.trans s5
     cases hb:cU (S i).ts (S i).chs (S i).es t x m' ds tri ys with
     | false=>exact ⟨_,rfl,aQ ⟨_,rfl,(show 2 <= sizeLine by omega),fun r H9 n9 s9 e9=>bad (nj hb) r H9 (s05.trans s9) e9⟩⟩
     | true =>
     refine ⟨_,rfl,aN ?_⟩
     obtain ⟨hlt,es1⟩:=good _ (ni hb)
     have hml:m' <= es.length:=by
      unfold cU ck at hb
      simp only [Bool.and_eq_true,decide_eq_true_eq] at hb
      omega
     have N5:=N4.same s5
     have hp5:=s5 _ _ hs.ob
     have het:=s5 _ _ hs.et
     refine ⟨_,rfl,_,rfl,p,_,_,_,rfl,rfl,SqT.of hp5,aK (j:=4) rfl,_,rfl,rw',_,rfl,.inr (SqT.of N5.hr),_,rfl,p,_,_,_,rfl,rfl,SqT.of hp5,aK (j:=3) rfl,_,_,rfl,rfl,_,rfl,p,_,_,_,rfl,rfl,SqT.of hp5,aK (j:=4) rfl,e,_,rfl,.inr (SqT.of het),_,_,rfl,rfl,_,_,rfl,_,rfl,e,_,rfl,het,fun c6 H6 s6 e6=>?_⟩
     have hk0:(if (((es.map V.ref).length:Int) - n + ((as.map V.ref).length:Int)) > 0 then (((es.map V.ref).length:Int) - n + ((as.map V.ref).length:Int)) else 0)=((es.length - m':Nat):Int):=by
      rw [List.length_map,List.length_map]
      split <;> omega
     have e6:H6 c6=some (.tup ((as.drop (es.length - m')).map V.ref)):=e6.trans (by rw [hk0,cutD,List.map_drop])
     have N6:=N5.same s6
     have s46:=s5.trans s6
     refine ⟨rw',c6,_,_,rfl,rfl,N6.hr,e6,(by have:=hs.el; rw [List.length_map,List.length_map,List.length_drop]; omega),fun rw2 H7 s7 e7=>?_⟩
     rw [<- List.map_append] at e7
     have N7:=N6.same s7
     have s47:=s46.trans s7
     have s07:=s04.trans s47
     refine ⟨_,rfl,.inl ⟨rfl,_,SqL.of N7.hk⟩,_,rfl,p,_,_,_,rfl,rfl,SqT.of (s47 _ _ hs.ob),aK (j:=5) rfl,?_⟩
     refine ⟨kl,_,_,rfl,rfl,N7.hk,by rw [List.length_map]; omega,fun H8 k8 e8=>?_⟩
     have t8:Tk H7 H8:=fun c xs e=>k8 c _ (bp e N7.hk (by intro z; cases z)) e
     have s08:aA H H8:=fun c u e=>k8 c u (am e nkl) (s07 _ _ e)
     have hbn:BnO H4 b' tri:=⟨hs.bn,hs.nb⟩
     refine ⟨hlt,rw2,_,_,ka ++ [b'],ca,es ++ as.drop (es.length - m'),rfl,s08,?_,by rw [List.length_append]; show _ + 1 <= _; omega⟩
     rw [es1,<- le]
     exact ⟨by rw [e8,List.map_append]; rfl,dn (Paired.imp' (fun _ _ h=>BnO.tk t8 h) N7.kp) (.cons ((hbn.same s47).tk t8) .nil),k8 _ _ kc.symm N7.hc,Paired.imp' (fun _ _ h=>ChA.tk t8 h) N7.cp,t8 _ _ e7,eI t8 (dn N7.ep (eS (Paired.imp' (fun _ _ h=>EnD.same s47 h) has) _)),N7.nd⟩
  ·rintro σ Hx ⟨him,rw',v5,v6,ka,ca,es,rfl,sx,N,_⟩
   rw [List.length_map] at N him
   rcases q with ⟨em,q⟩ | ⟨q2,hq2,_⟩
   ·rw [<- em] at N
    exact ⟨_,rfl,(show 2 <= sizeLine by omega),fun r H9 n9 s9 e9=>q r rw' es H9 (sx.trans s9) e9 (s9 _ _ N.hr) (Paired.imp' (fun _ _ h=>EnD.same s9 h) N.ep)⟩
   ·have:=(List.getElem?_eq_some_iff.mp hq2).1
    omega
end
abbrev pr:Stmt:=top 58
def Pap.top:Pap -> Nat
 | .chair _ _ _ _=>0
 | .settled _ _ m ds _ _=>m + ds.length
theorem Stp.papB {H:Hp} {p:Addr} {s s':StaO} (h:Stp H p s s') (hl:s'.es.length <= 300):∃ q,dO H p q /\ q.top <= 300:=by
 have key:∀ {t:Int} {x:Str} {n:Int} {e:Addr} {as:List Addr} {b y:Addr} {vs cs ls ys:List Str} {m:Nat},dy H p t x n e as b y vs cs ls ys -> n=(m:Int) + (as.length:Int) -> m + as.length <= 300 -> ∃ q,dO H p q /\ q.top <= 300:=fun h1 hn hb=>by
  obtain ⟨ds,hd⟩:=l9 h1.ee
  refine ⟨.settled _ _ _ ds (_,_,_) _,⟨_,_,_,_,_,h1.at,hd,hn⟩,?_⟩
  show _ + ds.length <= 300
  rw [<- Paired.length hd]
  exact hb
 cases h with
 | chair h1 h2 h3 h4 h5=>exact ⟨.chair _ _ (_,_,_) _,⟨_,_,h1⟩,Nat.zero_le _⟩
 | settled h1 h2 h3 =>
  refine key h1 h2.be ?_
  have:=h2.ml
  rw [h3] at hl
  have hl:(s.es ++ List.drop (s.es.length - _) _).length <= 300:=hl
  rw [List.length_append,List.length_drop] at hl
  omega
 | again h1 h2 h3 h4 =>
  refine key h1 h2.be ?_
  have:=h2.ml
  have h5:=congrArg List.length h3
  rw [List.length_drop] at h5
  have h5:_=0:=h5
  rw [h4] at hl
  omega
def rH:Sp:=fun us H Q _=>∃ (R sd nl kl cl rw':Addr) (ka ca:List Addr) (T:List Tri) (chs:List (Int × Str)) (es:List Addr) (zs:List Str),us=[.ref R,.ref sd,.ref nl] /\ Rst H R /\ cu H nl zs /\ bo H sd kl cl rw' ka ca T chs es /\ kK R nl kl cl /\ 1 <= ka.length /\ ka.length <= 100 /\ es.length <= 290 /\
 ∀ (p:Addr) (q:Pap) (H':Hp),dO H' p q -> q.top <= 300 -> Rst H' R -> aR R H H' -> Q (.ref p) H'
section
variable {P:Program} {w:World} {K:PySem.W.Frag} {mg:Str -> Option Value} {base:Heap}
abbrev nAnP:List Str:=["_law_rest_here","_law_story","_law_names_here","_law_term","_law_name","_law_bench_here","_law_some_here","_law_here","_law_entries","_law_k","_law_place"]
theorem scAnP:aH nAnP nNP (ai pr):=fsc (by decide +kernel)
theorem ok_anP {f:Addr} {fd:FuncData} (F:Fun K "_law_any_paper" "_law_any_paper" pr f fd) (B:Blt mg) (hmax:mg "max"=none) (bMax:bootBuiltins "max"=some (.builtin "max")) (Ft:aL P w K mg base 1 "_law_take" dN cw) (Fs:aL P w K mg base 2 "_law_some" i8 gc) (Fb:aL P w K mg base 3 "_law_bench" ["_law_rest_here","_law_names_here"] fL) (Fm:aL P w K mg base 3 "_law_most" ["_law_rest_here","_law_bench_here","_law_names_here"] fP) (Fe:aL P w K mg base 4 "_law_entry" ["_law_rest_here","_law_term","_law_names_here"] nq):a7 P w K mg base CX0 5 f fd nNP rH:=by
 refine F.ok scAnP (fun vs H Q E h=>?_) (fun cdv A outer s H vs Q E hr h=>?_)
 ·obtain ⟨R,sd,nl,kl,cl,rw',ka,ca,T,chs,es,zs,rfl,_⟩:=h
  rfl
 ·obtain ⟨R,sd,nl,kl,cl,rw',ka,ca,T,chs,es,zs,rfl,r0,N0,S0,Ap,k1,k100,e290,q⟩:=h
  have nd:=scAnP.nd
  have r1:aZ 1 _:=hr.mono (by decide)
  have r2:aZ 2 _:=hr.mono (by decide)
  have r3:aZ 3 _:=hr.mono (by decide)
  have hu:_ + 1 < cLine:=Nat.lt_of_le_of_lt (Nat.add_le_add_left (show 1 <= 64 by decide) _) hr.units
  have hs16:sizeLine=16777216:=sizeLine_eq
  refine ⟨_,ah (aD (i:=3) nd rfl (Or.inl rfl) (aO bi ag (aj Ft r1 (ad (pv 0) (ad ag af))))) <|
   ah (aD (i:=4) nd rfl (Or.inl rfl) (ax bu (pv 2) (aj Ft r1 (ad (pv 0) (ad ag af))) (fun _ _=>rfl))) <|
   ah (aD (i:=5) nd rfl (Or.inl rfl) (ax bu (bH hu (pv 1) aM (fun _ _=>rfl)) (aj Ft r1 (ad (pv 0) (ad (aq ao (by rfl) B.len PySem.boot_len (ad (bH hu (pv 1) aM (fun _ _=>rfl)) af)) af))) (fun _ _=>rfl))) <|
   ah (fH (aT (az bL (aj Ft r1 (ad (pv 0) (ad ag af))) ag (aB _)) (ak (aD (i:=5) nd rfl (Or.inl rfl) (aj Fb r3 (ad (pv 0) (ad (pv 2) af))))) aE)) <|
   ah (aD (i:=6) nd rfl (Or.inl rfl) (aj Fs r2 (ad (pv 0) (ad (pv 2) (ad ag (ad ag af)))))) <|
   ah (fH (aT (az fz (aj Ft r1 (ad (pv 0) (ad ag af))) ag (aB _)) (ak (aD (i:=6) nd rfl (Or.inl rfl) (aj Fm r3 (ad (pv 0) (ad (pv 5) (ad (pv 2) af)))))) aE)) <|
   ah (aT (az bL (aj Ft r1 (ad (pv 0) (ad ag af))) ag (aB _)) (ak (ay (aG (ad aM (ad (pv 3) (ad (pv 4) (ad (pv 5) (ad (pv 6) af)))))))) aE) <|
   ah (aD (i:=7) nd rfl (Or.inl rfl) (aq ao (by rfl) B.len PySem.boot_len (ad (bH hu (pv 1) aM (fun _ _=>rfl)) af))) <|
   ah (aD (i:=8) nd rfl (Or.inl rfl) (aG af)) <|
   ah (cv PassesOwn.never rfl (bW (by rfl) B.range (ad (aO bi ag (aj Ft r1 (ad (pv 0) (ad ag af)))) af)) (aJ (i:=9) nd rfl (Or.inl rfl))
     (ak (aD (i:=8) nd rfl (Or.inl rfl) (aO dF (pv 8) (aG (ad (aj Fe hr (ad (pv 0) (ad (aO bi ag (aj Ft r1 (ad (pv 0) (ad ag af)))) (ad (pv 2) af)))) af)))))) <|
   ah (fH (aT (az bL (aj Ft r1 (ad (pv 0) (ad ag af))) ag (aB _)) (ak (aD (i:=8) nd rfl (Or.inl rfl) (aO dF (pv 8) (aG (ad (aG (ad (pv 3) (ad (aG (ad aM af)) af))) af))))) aE)) <|
   ah (aD (i:=10) nd rfl (Or.inl rfl) (aq (iM rfl) (by rfl) hmax bMax (ad (aq ao (by rfl) B.len PySem.boot_len (ad (pv 8) af)) (ad (aO bi (aO dU (pv 7) ag) (aj Ft r1 (ad (pv 0) (ad ag af)))) af)))) <|
   ak (ay (aG (ad aM (ad (pv 3) (ad (pv 4) (ad (pv 10) (ad (pv 8) (ad (pv 5) (ad (pv 6) af))))))))),?_⟩
  have kal:ka.length=T.length:=Paired.length S0.kb
  refine ⟨_,rfl,R,4,rfl,r0,by decide,by decide,fun zt H1 z0 z1 q1 b1=>⟨_,_,rfl,rfl,?_⟩⟩
  have t1:1 <= 1 + zt:=by omega
  have N1:=N0.but Ap.nR b1
  have S1:=S0.but r0 Ap.kR Ap.cR b1
  have l8:=N0.l8
  refine ⟨_,rfl,_,rfl,R,3,rfl,q1,by decide,by decide,fun k H2 k0 k3 q2 b2=>?_⟩
  have N2:=N1.but Ap.nR b2
  have S2:=S1.but q1 Ap.kR Ap.cR b2
  obtain ⟨x,hx,nx⟩:=N2.pick k0 (by omega)
  refine ⟨nl,_,_,_,rfl,rfl,SqL.of N2.ob,hx,?_⟩
  refine ⟨_,rfl,sd,_,rfl,kL S2.ds,_,rfl,_,rfl,sd,_,rfl,kL S2.ds,kl,_,rfl,.inl (SqL.of S2.hk),R,_,rfl,q2,(by rw [List.length_map]; omega),(by rw [List.length_map]; exact Int.le_trans (show ((ka.length:Nat):Int) <= 100 by omega) (by decide +kernel)),fun j H4 j0 j1 q4 b4=>?_⟩
  rw [List.length_map] at j1
  have N4:=N2.but Ap.nR b4
  have S4:=S2.but q2 Ap.kR Ap.cR b4
  have hjl:j.toNat < ka.length:=by omega
  have hb0:BnO H4 ka[j.toNat] T[j.toNat]:=Paired.zip S4.kb (ka[j.toNat],T[j.toNat]) (List.mem_iff_getElem.mpr ⟨j.toNat,by rw [List.length_zip]; omega,List.getElem_zip⟩)
  have hat:atI (ka.map V.ref) j=some (.ref ka[j.toNat]):=by
   have h:=aK (xs:=ka.map V.ref) (j:=j.toNat) (v:=.ref ka[j.toNat]) (by rw [List.getElem?_map,List.getElem?_eq_getElem hjl]; rfl)
   rwa [Int.toNat_of_nonneg j0] at h
  generalize ka[j.toNat]=bk at hb0 hat
  generalize T[j.toNat]=tk0 at hb0
  refine ⟨kl,_,_,_,rfl,rfl,SqL.of S4.hk,hat,?_⟩
  have b04:=(b1.trans b2).trans b4
  clear b1 b2 b4 S1 S2 N1 N2
  refine ⟨fun σ' H'=>∃ (b:Addr) (tri:Tri),σ'=[some (V.ref R),some (V.ref sd),some (V.ref nl),some (V.int (1 + zt)),some (V.str x),some (V.ref b),none,none,none,none,none] /\ BnO H' b tri /\ Rst H' R /\ aR R H H',?_,?_⟩
  ·refine ⟨_,rfl,R,3,rfl,q4,by decide,by decide,fun z H5 z0 z1 q5 b5=>⟨rfl,_,rfl,bD (fun _=>?_) (fun _=>?_)⟩⟩
   ·have N5:=N4.but Ap.nR b5
    refine ⟨_,rfl,_,rfl,R,nl,zs,rfl,q5,N5.ob,Ap.nR,N5.up,N5.l8,N5.l15,fun b vs cs ls H6 nb hb hv hc hl q6 b6=>?_⟩
    exact ⟨b,(vs,cs,ls),rfl,⟨hb,fun x hx=>N0.nm x (hv x hx),fun x hx=>N0.nm x (hc x hx),fun x hx=>N0.nm x (hl x hx)⟩,q6,(b04.trans b5).trans b6⟩
   ·exact ⟨bk,tk0,rfl,hb0.tk (b5.tk q4),q5,b04.trans b5⟩
  rintro σ' H5 ⟨b,tri,rfl,hb5,q5,b05⟩
  have N5:=N0.but Ap.nR b05
  refine ⟨_,rfl,_,rfl,R,nl,zs,0,15,rfl,q5,N5.ob,Ap.nR,bS N0.up,N0.l15,by decide,by decide,by omega,by decide,fun s0 ss H6 ns0 es0 hsr hsz slo shi q6 b6=>?_⟩
  refine ⟨fun σ' H'=>∃ (y:Addr) (ys:List Str),σ'=[some (V.ref R),some (V.ref sd),some (V.ref nl),some (V.int (1 + zt)),some (V.str x),some (V.ref b),some (V.ref y),none,none,none,none] /\ BnO H' b tri /\ H' y=some (.tup (ys.map V.str)) /\ ys.length <= 60 /\ (∀ z ∈ ys,Nm z) /\ ys.Pairwise ltS /\ Rst H' R /\ aR R H H',?_,?_⟩
  ·refine ⟨_,rfl,R,3,rfl,q6,by decide,by decide,fun z H7 z0 z1 q7 b7=>⟨_,_,rfl,rfl,_,rfl,bD (fun _=>?_) (fun _=>?_)⟩⟩
   ·have N7:=(N5.but Ap.nR b6).but Ap.nR b7
    have hb7:=(hb5.tk (b6.tk q5)).tk (b7.tk q6)
    refine ⟨_,rfl,_,rfl,_,rfl,R,b,nl,zs,tri,rfl,q7,N7,Ap.nR,hb7,fun y ys H8 ey yl yn yr hh q8 b8=>?_⟩
    exact ⟨y,ys,rfl,hb7.tk (b8.tk q7),ey,yl,yn,yr,q8,((b05.trans b6).trans b7).trans b8⟩
   ·exact ⟨s0,ss,rfl,(hb5.tk (b6.tk q5)).tk (b7.tk q6),b7.tk q6 _ _ es0,by omega,fun z hz=>N0.nm z (hsz z hz),hsr,q7,(b05.trans b6).trans b7⟩
  rintro σ' H7 ⟨y,ys,rfl,hb7,ey,yl,yn,yr,q7,b07⟩
  refine ⟨_,rfl,R,3,rfl,q7,by decide,by decide,fun z H8 z0 z1 q8 b8=>⟨rfl,_,rfl,bD (fun _=>?_) (fun _=>?_)⟩⟩
  ·refine ⟨_,rfl,_,rfl,_,rfl,_,rfl,(show 5 <= sizeLine by omega),fun p H9 np s9 ep=>?_⟩
   have t9:=(b8.tk q7).trans (Tk.of s9)
   have hb9:=hb7.tk t9
   exact q p (.chair (1 + zt) x tri ys) H9 ⟨b,y,ep,t1,nx,hb9.1,hb9.2,t9 _ _ ey,yl,yn,yr⟩ (Nat.zero_le _) (q8.same s9) ((b07.trans b8).trans (aR.of s9))
  have b08:=b07.trans b8
  have hb8:=hb7.tk (b8.tk q7)
  have ey8:=b8.tk q7 _ _ ey
  have S8:=S0.but r0 Ap.kR Ap.cR b08
  refine ⟨_,rfl,sd,_,rfl,dS_r S8.ds,rw',_,rfl,.inr (SqT.of S8.hr),?_⟩
  rw [List.length_map]
  refine ⟨Nat.zero_le _,fun e0 H9 n9 s9 e9=>?_⟩
  refine ⟨_,rfl,R,3,rfl,q8.same s9,by decide,by decide,fun c H10 c0 c1 q10 b10=>⟨_,_,rfl,rfl,1 + c,rfl,by omega,by omega,?_⟩⟩
  have t910:=(Tk.of s9).trans (b10.tk (q8.same s9))
  refine cO (lo:=0) (n:=(1 + c).toNat) (fun i σ Hx=>∃ (e:Addr) (as:List Addr) (v9:Option V),σ=[some (V.ref R),some (V.ref sd),some (V.ref nl),some (V.int (1 + zt)),some (V.str x),some (V.ref b),some (V.ref y),some (V.int (es.length:Int)),some (V.ref e),v9,none] /\ Hx e=some (.tup (as.map V.ref)) /\ as.length=i /\ (∀ a ∈ as,∃ t,EnG Hx a t) /\ BnO Hx b tri /\ Hx y=some (.tup (ys.map V.str)) /\ Rst Hx R /\ aR R H Hx)
   ⟨e0,[],none,rfl,b10.tk (q8.same s9) _ _ e9,rfl,fun a ha=>(nomatch ha),hb8.tk t910,t910 _ _ ey8,q10,(b08.trans (aR.of s9)).trans b10⟩ ?_ ?_
  ·rintro i σ Hx hi ⟨e,as,v9,rfl,he,hn,hg,hbx,eyx,qx,bx⟩
   have Nx:=N0.but Ap.nR bx
   refine ⟨_,rfl,_,rfl,_,rfl,R,4,rfl,qx,by decide,by decide,fun u H11 u0 u1 q11 b11=>⟨_,_,rfl,rfl,_,rfl,R,nl,_,zs,rfl,q11,Nx.but Ap.nR b11,Ap.nR,by omega,fun a H12 ga q12 b12=>⟨(show 1 <= sizeLine by omega),fun s0 H13 n13 s13 e13=>?_⟩⟩⟩
   have tk:=(b11.tk qx).trans ((b12.tk q11).trans (Tk.of s13))
   refine ⟨e,s0,_,_,rfl,rfl,tk _ _ he,e13,(by rw [List.length_map]; show _ + 1 <= _; omega),fun e' H14 s14 e14=>?_⟩
   have tk14:=tk.trans (Tk.of s14)
   refine ⟨e',as ++ [a],_,rfl,by rw [e14,List.map_append]; rfl,by rw [List.length_append,hn]; rfl,fun a' ha'=>?_,hbx.tk tk14,tk14 _ _ eyx,(q12.same s13).same s14,bx.trans ((b11.trans b12).trans (aR.of (s13.trans s14)))⟩
   rcases List.mem_append.mp ha' with h | h
   ·obtain ⟨t',g⟩:=hg a' h
    exact ⟨t',g.tk tk14⟩
   ·rw [List.mem_singleton.mp h]
    exact ⟨_,ga.tk (Tk.of (s13.trans s14))⟩
  ·rintro σ Hx ⟨e,as,v9,rfl,he,hn,hg,hbx,eyx,qx,bx⟩
   refine ⟨fun σ' H'=>∃ (e:Addr) (as:List Addr),σ'=[some (V.ref R),some (V.ref sd),some (V.ref nl),some (V.int (1 + zt)),some (V.str x),some (V.ref b),some (V.ref y),some (V.int (es.length:Int)),some (V.ref e),v9,none] /\ H' e=some (.tup (as.map V.ref)) /\ 1 <= as.length /\ as.length <= 4 /\ (∀ a ∈ as,∃ t,EnG H' a t) /\ BnO H' b tri /\ H' y=some (.tup (ys.map V.str)) /\ Rst H' R /\ aR R H H',?_,?_⟩
   ·refine ⟨_,rfl,R,2,rfl,qx,by decide,by decide,fun z H11 z0 z1 q11 b11=>⟨rfl,_,rfl,bD (fun _=>?_) (fun _=>?_)⟩⟩
    ·refine ⟨_,rfl,_,rfl,(show 1 <= sizeLine by omega),fun d H12 n12 s12 e12=>⟨(show 2 <= sizeLine by omega),fun a H13 n13 s13 e13=>⟨(show 1 <= sizeLine by omega),fun s0 H14 n14 s14 e14=>?_⟩⟩⟩
     have tk:=(b11.tk qx).trans (Tk.of (s12.trans (s13.trans s14)))
     refine ⟨e,s0,_,_,rfl,rfl,tk _ _ he,e14,(by rw [List.length_map]; show _ + 1 <= _; omega),fun e' H15 s15 e15=>?_⟩
     have tk15:=tk.trans (Tk.of s15)
     refine ⟨e',as ++ [a],rfl,by rw [e15,List.map_append]; rfl,by rw [List.length_append]; show 1 <= _ + 1; omega,by rw [List.length_append]; show _ + 1 <= 4; omega,fun a' ha'=>?_,hbx.tk tk15,tk15 _ _ eyx,(((q11.same s12).same s13).same s14).same s15,bx.trans (b11.trans (aR.of (s12.trans (s13.trans (s14.trans s15)))))⟩
     rcases List.mem_append.mp ha' with h | h
     ·obtain ⟨t',g⟩:=hg a' h
      exact ⟨t',g.tk tk15⟩
     ·rw [List.mem_singleton.mp h]
      exact ⟨1 + zt,t1,d,s15 _ _ (s14 _ _ e13),.first (s15 _ _ (s14 _ _ (s13 _ _ e12)))⟩
    ·have tk:=b11.tk qx
     exact ⟨e,as,rfl,tk _ _ he,by omega,by omega,fun a' ha'=>by obtain ⟨t',g⟩:=hg a' ha'; exact ⟨t',g.tk tk⟩,hbx.tk tk,tk _ _ eyx,q11,bx.trans b11⟩
   clear he hn hg hbx eyx qx bx
   rintro σ' Hx ⟨e,as,rfl,he,a1,a4,hg,hbx,eyx,qx,bx⟩
   refine ⟨_,rfl,e,_,rfl,.inr (SqT.of he),_,rfl,_,_,rfl,rfl,_,rfl,R,6,rfl,qx,by decide,by decide,fun u H11 u0 u1 q11 b11=>⟨_,_,rfl,rfl,_,_,rfl,?_⟩⟩
   rw [List.length_map]
   have hpl:∃ m:Nat,(if ((es.length:Int) - 2 + u) > (as.length:Int) then ((es.length:Int) - 2 + u) else (as.length:Int))=(m:Int) + (as.length:Int) /\ m + as.length <= 300:=by
    split
    ·exact ⟨((es.length:Int) - 2 + u - as.length).toNat,by omega,by omega⟩
    ·exact ⟨0,by omega,by omega⟩
   obtain ⟨m,hm,hm3⟩:=hpl
   rw [hm]
   refine ⟨_,rfl,_,rfl,_,rfl,_,rfl,_,rfl,_,rfl,(show 7 <= sizeLine by omega),fun p H12 np s12 ep=>?_⟩
   have tk:=(b11.tk qx).trans (Tk.of s12)
   have hg12:∀ a ∈ as,∃ t,EnG H12 a t:=fun a' ha'=>by obtain ⟨t',g⟩:=hg a' ha'; exact ⟨t',g.tk tk⟩
   obtain ⟨ds,hd⟩:=l9 hg12
   have hl:=Paired.length hd
   have hb12:=hbx.tk tk
   refine q p (.settled (1 + zt) x m ds tri ys) H12 ⟨e,b,y,as,_,⟨ep,t1,nx,by omega,tk _ _ he,fun z=>by rw [z] at a1; exact absurd a1 (by decide),by omega,l6 hd,hb12.1,hb12.2,tk _ _ eyx,yl,yn,yr⟩,hd,rfl⟩ ?_ (q11.same s12) (bx.trans (b11.trans (aR.of s12)))
   show m + ds.length <= 300
   omega
end
abbrev jo:Stmt:=top 41
theorem bMaxK:bootBuiltins "max"=some (.builtin "max"):=by decide +kernel
abbrev jY:Stmt:=top 59
def mi (K:PySem.W.Frag):Sp:=fun vs H Q _=>∃ (a:Addr) (ns:List Int) (k:Int),vs=[.ref a,.int k] /\ SqL K H a (ns.map V.int) /\ 0 <= k /\ ∀ z:Int,Q (.int z) H
def nF (K:PySem.W.Frag):Sp:=fun vs H Q _=>∃ (a:Addr) (ns:List Int),vs=[.ref a] /\ SqL K H a (ns.map V.int) /\ ns.length <= 63 /\ ∀ H',Q (.bl true) H'
theorem rJ:∀ (qs:List Pap) (s0:Sta),∃ (S:Nat -> Sta) (m:Nat),Jdg s0 qs S m /\ (m=qs.length \/ ∃ q,qs[m]?=some q /\ (S m).step q=none)
 | [],s0=>⟨fun _=>s0,0,⟨rfl,fun i h=>(nomatch h),Nat.le_refl _⟩,.inl rfl⟩
 | q :: r,s0=>by
  cases h:s0.step q with
  | none=>exact ⟨fun _=>s0,0,⟨rfl,fun i h=>(nomatch h),Nat.zero_le _⟩,.inr ⟨q,rfl,h⟩⟩
  | some s1 =>
   obtain ⟨S,m,J,e⟩:=rJ r s1
   refine ⟨fun i=>match i with | 0=>s0 | i + 1=>S i,m + 1,⟨rfl,fun i hi=>?_,Nat.succ_le_succ J.no⟩,?_⟩
   ·match i,hi with
    | 0,_=>exact ⟨q,rfl,by show s0.step q=some (S 0); rw [h,J.s0]⟩
    | i + 1,hi =>
     obtain ⟨q',h1,h2⟩:=J.st i (Nat.lt_of_succ_lt_succ hi)
     exact ⟨q',h1,h2⟩
   ·rcases e with e | ⟨q',h1,h2⟩
    ·exact .inl (by rw [e]; rfl)
    ·exact .inr ⟨q',h1,h2⟩
theorem rK {t0:Tri} {qs:List Pap} {S:Nat -> Sta} {m:Nat} (J:Jdg ⟨[t0],[],[]⟩ qs S m) (ht:∀ q ∈ qs,q.top <= 300):∀ i,i <= m -> (S i).chs.length <= i /\ (S i).es.length <= 300
 | 0,_=>by rw [J.s0]; exact ⟨Nat.zero_le _,Nat.zero_le _⟩
 | i + 1,hi=>by
  obtain ⟨c,e⟩:=rK J ht i (by omega)
  obtain ⟨q,h1,h2⟩:=J.st i (by omega)
  have hq:=ht q (List.mem_of_getElem? h1)
  cases q with
  | chair t x tri ys =>
   have h2:(if chB (S i).ts (S i).chs t tri ys=true then some (⟨(S i).ts ++ [tri],(S i).chs ++ [(t,x)],(S i).es⟩:Sta) else none)=some (S (i + 1)):=h2
   split at h2
   ·rw [<- Option.some.inj h2]
    exact ⟨by show ((S i).chs ++ [(t,x)]).length <= _; rw [List.length_append]; show _ + 1 <= _; omega,e⟩
   ·cases h2
  | settled t x m' ds tri ys =>
   have h2:(if cU (S i).ts (S i).chs (S i).es t x m' ds tri ys=true then some (⟨(S i).ts ++ [tri],(S i).chs,(S i).es ++ ds.drop ((S i).es.length - m')⟩:Sta) else none)=some (S (i + 1)):=h2
   have hq:m' + ds.length <= 300:=hq
   split at h2
   ·rw [<- Option.some.inj h2]
    exact ⟨Nat.le_succ_of_le c,by show ((S i).es ++ ds.drop ((S i).es.length - m')).length <= _; rw [List.length_append,List.length_drop]; omega⟩
   ·cases h2
def iD (H:Hp) (ps:List Addr):Prop:=∀ p ∈ ps,∃ q,dO H p q /\ q.top <= 300
theorem iD.tk {H H':Hp} {ps:List Addr} (k:Tk H H') (h:iD H ps):iD H' ps:=fun p hp=>by obtain ⟨q,h1,h2⟩:=h p hp; exact ⟨q,h1.tk k,h2⟩
theorem iD.sub {H:Hp} {ps ps':List Addr} (s:∀ p ∈ ps',p ∈ ps) (h:iD H ps):iD H ps':=fun p hp=>h p (s p hp)
theorem iD.qs {H:Hp}:∀ {ps:List Addr},iD H ps -> ∃ qs,Paired (dO H) ps qs /\ ∀ q ∈ qs,q.top <= 300
 | [],_=>⟨[],.nil,fun q h=>(nomatch h)⟩
 | p :: r,h=>by
  obtain ⟨q,h1,h2⟩:=h p (List.mem_cons_self ..)
  obtain ⟨qs,h3,h4⟩:=iD.qs (ps:=r) (h.sub fun p hp=>List.mem_cons_of_mem _ hp)
  exact ⟨q :: qs,.cons h1 h3,fun q' hq=>by
   rcases List.mem_cons.mp hq with rfl | hq
   ·exact h2
   ·exact h4 q' hq⟩
structure Fr (H0:Hp) (nl sd kl cl:Addr):Prop where
 n0:H0 nl=none
 s0:H0 sd=none
 k0:H0 kl=none
 c0:H0 cl=none
 kc:kl ≠ cl
 nk:nl ≠ kl
 nc:nl ≠ cl
structure Pl (H0 H:Hp) (nl kl cl pl pp:Addr) (ps:List Addr):Prop where
 ob:H pp=some (.lst (ps.map V.ref))
 p0:H0 pp=none
 pn:nl ≠ pp
 pk:kl ≠ pp
 pc:cl ≠ pp
 pp:pl ≠ pp
 pa:iD H ps
def nG (H0 H:Hp) (nl b sd pp kl cl pl:Addr) (t0:Tri) (zs:List Str) (i:Nat):Prop:=aA H0 H /\ cu H nl zs /\ BnO H b t0 /\ ∃ (rw':Addr) (ka ca:List Addr) (T:List Tri) (chs:List (Int × Str)) (es ps:List Addr),bo H sd kl cl rw' ka ca T chs es /\ cC H ka chs es i /\ Pl H0 H nl kl cl pl pp ps /\ ps.length <= i
theorem cC.tk {H H':Hp} {ka:List Addr} {chs:List (Int × Str)} {es:List Addr} {i:Nat} (k:Tk H H') (h:cC H ka chs es i):cC H' ka chs es i:=⟨h.k1,h.kl,h.cl,h.cn,h.co,h.el,fun a ha=>by obtain ⟨t,g⟩:=h.eo a ha; exact ⟨t,g.tk k⟩⟩
theorem cC.le {H:Hp} {ka:List Addr} {chs:List (Int × Str)} {es:List Addr} {i:Nat} (h:cC H ka chs es i):cC H ka chs es (i + 1):=⟨h.k1,by have:=h.kl; omega,by have:=h.cl; omega,h.cn,h.co,by have:=h.el; omega,h.eo⟩
theorem cutAB (ys:List V) (a b:Nat):cH ys (some (a:Int)) (some (b:Int))=(ys.drop (min a ys.length)).take (min b ys.length - min a ys.length):=by
 unfold cH
 rw [HT.dD,HT.dD]
theorem rL (ns:List Int) (a b:Nat):∃ ms:List Int,cH (ns.map V.int) (some (a:Int)) (some (b:Int))=ms.map V.int /\ ms.length <= b - a:=by
 refine ⟨(ns.drop (min a ns.length)).take (min b ns.length - min a ns.length),?_,?_⟩
 ·rw [cutAB,List.length_map,List.map_take,List.map_drop]
 ·rw [List.length_take,List.length_drop]
  omega
theorem cutM (ys:List V):cH ys none (some (-2))=ys.take (ys.length - 2) /\ cH ys (some (-2)) none=ys.drop (ys.length - 2):=by
 have e:∀ d,HT.sIx ys.length d (some (-2))=ys.length - 2:=fun d=>by
  show (if (-2:Int) < 0 then ((-2:Int) + (ys.length:Int)).toNat else min (-2:Int).toNat ys.length)=_
  rw [if_pos (by decide)]
  omega
 unfold cH
 rw [e,e,HT.dY,HT.dY,List.drop_zero,Nat.sub_zero]
 exact ⟨rfl,List.take_of_length_le (by rw [List.length_drop]; omega)⟩
theorem fR {X:Cx}:SlR X (fun x lo hi H Q=>∃ a xs,x=.ref a /\ SqL X.K H a xs /\ ∀ p H2,H p=none -> aA H H2 -> H2 p=some (.lst (cH xs lo hi)) -> Q (.ref p) H2):=fun pins s σ H x v vl vu lo hi sl Q I rx hs pl pu h=>by
 obtain ⟨a,xs,h1,h2,q⟩:=h
 exact sl_list pins s σ H x v vl vu lo hi sl Q I rx hs pl pu ⟨a,xs,h1,h2,fun p hp=>q p _ hp (bC hp) ar⟩
theorem rM {H:Hp} {r en:Addr} {es:List Addr} {ds:List (Int × PyData)} (h:H r=some (.tup [.str "row",.ref en])) (he:H en=some (.tup (es.map V.ref))) (hp:Paired (EnD H) es ds):Dt H (.ref r) (.tuple [.str "row",.tuple (ds.map enP)]):=by
 obtain ⟨i1,i2,i3⟩:=lO hp
 refine ⟨.tup h (.cons (.str _) (.cons (.tup he i1) .nil)),?_,?_⟩
 ·simp only [PyData.canLay0,PyData.canLayAll0,i2,Bool.and_true,Bool.true_and]
  decide +kernel
 ·simp only [PyData.depth,PyData.depthAll]
  omega
theorem mj {H:Hp} {r:Addr} {m:Int} (h:H r=some (.tup [.str "paper",.int m])):Dt H (.ref r) (.tuple [.str "paper",.int m]):=by
 refine ⟨.tup h (.cons (.str _) (.cons (.int _) .nil)),?_,?_⟩
 ·simp only [PyData.canLay0,PyData.canLayAll0,Bool.and_true,Bool.true_and]
  decide +kernel
 ·simp [PyData.depth,PyData.depthAll]
section
variable {P:Program} {w:World} {K:PySem.W.Frag} {mg:Str -> Option Value} {base:Heap}
theorem scCell:aH ["_law_script","_law_k"] ["_law_script","_law_k"] (ai jo):=fsc (by decide +kernel)
theorem ok_cell {f:Addr} {fd:FuncData} (F:Fun K "_law_cell_at" "_law_cell_at" jo f fd) (hlen:mg "len"=none):a7 P w K mg base CX0 1 f fd ["_law_script","_law_k"] (mi K):=by
 refine F.ok scCell (fun vs H Q E h=>?_) (fun cdv A outer s H vs Q E hr h=>?_)
 ·obtain ⟨a,ns,k,rfl,_⟩:=h
  rfl
 ·obtain ⟨a,ns,k,rfl,hS,h0,q⟩:=h
  refine ⟨_,ah (aT (az gr (pv 1) (aq ao (by rfl) hlen PySem.boot_len (ad (pv 0) af)) (aB _)) (ak (ay (ax bu (pv 0) (pv 1) (fun _ _=>rfl)))) aE)
   (ak (ay ag)),?_⟩
  refine ⟨_,rfl,_,rfl,a,_,rfl,.inl hS,_,_,rfl,rfl,_,rfl,?_⟩
  refine bD (fun h=>?_) (fun _=>q 0)
  have h:=of_decide_eq_true h
  rw [List.length_map] at h
  have hk:k.toNat < ns.length:=by omega
  exact ⟨_,rfl,_,rfl,a,_,k,_,rfl,rfl,hS,jE h0 (List.getElem?_eq_getElem hk),q _⟩
abbrev nLaw:List Str:=["_law_script","_law_rest_here","_law_names_here","_law_bench_here","_law_story","_law_papers","_law_cell","_law_turn","_law_found"]
theorem scLaw:aH nLaw ["_law_script"] (ai jY):=fsc (by decide +kernel)
theorem ok_law {f:Addr} {fd:FuncData} (F:Fun K "law" "law" jY f fd) (B:Blt mg) (Fc:aL P w K mg base 1 "_law_cell_at" ["_law_script","_law_k"] (mi K)) (Ft:aL P w K mg base 1 "_law_take" dN cw) (Fr':aL P w K mg base 1 "_law_rest" ["_law_cell"] lC) (Fn:aL P w K mg base 2 "_law_names" ["_law_rest_here","_law_many"] jK)
  (Fb:aL P w K mg base 3 "_law_bench" ["_law_rest_here","_law_names_here"] fL) (Fa:aL P w K mg base 5 "_law_any_paper" nNP rH) (Fx:aL P w K mg base 6 "_law_next_paper" nNP rA) (Fl:aL P w K mg base 10 "_law_looked" ["_law_bench_here","_law_papers"] rB) (Fd:aL P w K mg base 3 "_law_due" ["_law_bench_here","_law_papers"] rG):a7 P w K mg base CX0 11 f fd ["_law_script"] (nF K):=by
 refine F.ok scLaw (fun us H Q E h=>?_) (fun cdv A outer s H us Q E hr h=>?_)
 ·obtain ⟨a,ns,rfl,_⟩:=h
  rfl
 ·obtain ⟨a,ns,rfl,hS,hl,q⟩:=h
  have nd:=scLaw.nd
  have r1:aZ 1 _:=hr.mono (by decide)
  have r2:aZ 2 _:=hr.mono (by decide)
  have r3:aZ 3 _:=hr.mono (by decide)
  have r5:aZ 5 _:=hr.mono (by decide)
  have r6:aZ 6 _:=hr.mono (by decide)
  have hu:_ + 1 < cLine:=Nat.lt_of_le_of_lt (Nat.add_le_add_left (show 1 <= 64 by decide) _) hr.units
  have hu64:_ + 64 < cLine:=hr.units
  have hs16:sizeLine=16777216:=sizeLine_eq
  refine ⟨_,ah (aD (i:=1) nd rfl (Or.inl rfl) (aj Fr' r1 (ad (aj Fc r1 (ad (pv 0) (ad ag af))) af))) <|
   ah (aD (i:=2) nd rfl (Or.inl rfl) (aj Fn r2 (ad (pv 1) (ad (aO bi ag (aj Ft r1 (ad (pv 1) (ad ag af)))) af)))) <|
   ah (aD (i:=3) nd rfl (Or.inl rfl) (aj Fb r3 (ad (pv 1) (ad (pv 2) af)))) <|
   ah (aD (i:=4) nd rfl (Or.inl rfl) (pe_disp (hU aM (bO (ad (pv 3) af)) (hU aM (bO af) (hU aM (aG af) pps_nil))) rfl rfl (by decide) (by decide))) <|
   ah (aD (i:=5) nd rfl (Or.inl rfl) (bO af)) <|
   ah (cv PassesOwn.never rfl (cW (bf fR (pv 0) (bb ag) (bb ag))) (aJ (i:=6) nd rfl (Or.inl rfl)) <|
    ah (aD (i:=1) nd rfl (Or.inl rfl) (aj Fr' r1 (ad (pv 6) af))) <|
    ah (fH (aT (az bL (aj Ft r1 (ad (pv 1) (ad ag af))) ag (aB _))
     (ak (bK (cT PySem.F.plainAttrs_list PySem.F.slot_list_append PySem.F.type_list_append cg (pv 5) (ad (aj Fa r5 (ad (pv 1) (ad (pv 4) (ad (pv 2) af)))) af))))
     (ak (bK (cT PySem.F.plainAttrs_list PySem.F.slot_list_append PySem.F.type_list_append cg (pv 5) (ad (aj Fx r6 (ad (pv 1) (ad (pv 4) (ad (pv 2) af)))) af)))))) <|
    ak (aT (az bL (aj Ft r1 (ad (pv 1) (ad ag af))) ag (aB _))
     (ak (aD (i:=5) nd rfl (Or.inl rfl) (aO jB (bf fR (pv 5) bN (bb (iL fU ag))) (qp (bf fR (pv 5) (bb (iL fU ag)) bN))))) aE)) <|
   ah (cv PassesOwn.never rfl (bW (by rfl) B.range (ad ag af)) (aJ (i:=7) nd rfl (Or.inl rfl)) <|
    ah (aD (i:=8) nd rfl (Or.inl rfl) (aj Fl hr (ad (pv 3) (ad (dh eg (by rfl) B.tuple cI (ad (pv 5) af)) af)))) <|
    ah (aT (az (qm hu64) (pv 8) (aj Fd r3 (ad (pv 3) (ad (pv 5) af))) (aB _)) (ak (ay bE)) aE) <|
    ak (aT (az bL (ax aw (pv 8) ag (fun _ _=>rfl)) aM (aB _))
     (ak (aD (i:=5) nd rfl (Or.inl rfl) (aO jB (bf fR (pv 5) bN (bb (ax aw (pv 8) ag (fun _ _=>rfl)))) (bf fR (pv 5) (bb (aO bi (ax aw (pv 8) ag (fun _ _=>rfl)) ag)) bN)))) aE)) <|
   ak (ay bE),?_⟩
  refine ⟨_,rfl,a,ns,0,rfl,hS,by decide,fun z0=>⟨z0,rfl,fun R H1 nR s1 q1=>?_⟩⟩
  refine ⟨_,rfl,_,rfl,R,8,rfl,q1,by decide,by decide,fun z H2 z0 z1 q2 b2=>⟨_,_,rfl,rfl,R,_,rfl,q2,by omega,by omega,fun nl zs H3 n3 e3 l3 up3 nm3 q3 b3=>?_⟩⟩
  have nlR:nl ≠ R:=q2.ne n3
  refine ⟨_,rfl,_,rfl,R,nl,zs,rfl,q3,e3,nlR,up3,by omega,by omega,fun b vs cs ls H4 n4 hB4 sv sc sl q4 b4=>?_⟩
  have hb4:BnO H4 b (vs,cs,ls):=⟨hB4,⟨fun x hx=>nm3 x (sv x hx),fun x hx=>nm3 x (sc x hx),fun x hx=>nm3 x (sl x hx)⟩⟩
  have N4:cu H4 nl zs:=⟨b4 _ _ nlR e3,up3,by omega,by omega,nm3⟩
  have s04:aA H H4:=fun c u e=>by
   have ne:c ≠ R:=am e nR
   exact b4 _ _ ne (b3 _ _ ne (b2 _ _ ne (s1 _ _ e)))
  have n0:H nl=none:=by
   cases e:H nl with
   | none=>rfl
   | some u=>exact absurd (b2 _ _ nlR (s1 _ _ e)) (by rw [n3]; intro z; cases z)
  generalize hst:(vs,cs,ls)=t0 at hb4
  refine fun sd nsd=>?_
  have s5:=aA.new (o:=.dK []) nsd
  have ed:upd H4 sd (.dK []) sd=some (.dK []):=ar
  have q5:=q4.same s5
  generalize upd H4 sd (.dK [])=H5 at s5 ed q5 ⊢
  refine ⟨_,rfl,(show 1 <= sizeLine by omega),fun kl H6 n6 s6 e6=>⟨Nat.zero_le _,fun cl H7 n7 s7 e7=>⟨Nat.zero_le _,fun rw' H8 n8 s8 e8=>⟨s8 _ _ (s7 _ _ (s6 _ _ ed)),dS kl cl rw',rfl,(by show 3 <= 15; decide),?_⟩⟩⟩⟩
  have kk:∀ {c:Addr} {u:HO},H8 c=some u -> (∀ m,u ≠ .dK m) -> upd H8 sd (.dK (dC [] (dS kl cl rw'))) c=some u:=fun q n=>by rw [au (bp q (s8 _ _ (s7 _ _ (s6 _ _ ed))) (n _))]; exact q
  have e9:upd H8 sd (.dK (dC [] (dS kl cl rw'))) sd=some (.dK (dS kl cl rw')):=ar
  have o9:∀ c u,c ≠ sd -> H8 c=some u -> upd H8 sd (.dK (dC [] (dS kl cl rw'))) c=some u:=fun c u h e=>by rw [au h]; exact e
  generalize upd H8 sd (.dK (dC [] (dS kl cl rw')))=H9 at kk e9 o9 ⊢
  have s48:=s5.trans (s6.trans (s7.trans s8))
  have s09:aA H H9:=fun c u e=>o9 c u (am (s04 _ _ e) nsd) (s48 _ _ (s04 _ _ e))
  have t9:Tk H4 H9:=fun c xs e=>kk (s48 _ _ e) (by intro m z; cases z)
  have kl9:H9 kl=some (.lst ([b].map V.ref)):=kk (s8 _ _ (s7 _ _ e6)) (by intro m z; cases z)
  have cl9:H9 cl=some (.lst (([]:List Addr).map V.ref)):=kk (s8 _ _ e7) (by intro m z; cases z)
  have rw9:H9 rw'=some (.tup (([]:List Addr).map V.ref)):=kk e8 (by intro m z; cases z)
  have b9:=hb4.tk t9
  have N9:cu H9 nl zs:=⟨kk (s48 _ _ N4.ob) (by intro m z; cases z),N4.up,N4.l8,N4.l15,N4.nm⟩
  have S9:bo H9 sd kl cl rw' [b] [] [t0] [] []:=⟨e9,kl9,.cons b9 .nil,cl9,.nil,rw9⟩
  have k0:H kl=none:=s04.none (s5.none n6)
  have c0:H cl=none:=s04.none (s5.none (s6.none n7))
  have fr:Fr H nl sd kl cl:=⟨n0,s04.none nsd,k0,c0,am e6 n7,am (s5 _ _ N4.ob) n6,am (s6 _ _ (s5 _ _ N4.ob)) n7⟩
  refine ⟨Nat.zero_le _,fun pp H10 n10 s10 e10=>?_⟩
  obtain ⟨ms,em,hml⟩:=rL ns 1 63
  have s010:=s09.trans s10
  refine ⟨_,rfl,_,rfl,_,rfl,a,_,rfl,s010.seq hS,fun pl H11 npl sL eL=>?_⟩
  have eL:H11 pl=some (.lst (ms.map V.int)):=eL.trans (by rw [show cH (ns.map V.int) (some 1) (some 63)=ms.map V.int from em])
  have s911:=s10.trans sL
  have S11:=S9.same s911
  have plk:kl ≠ pl:=am (s10 _ _ S9.hk) npl
  have plc:cl ≠ pl:=am (s10 _ _ S9.hc) npl
  have pls:sd ≠ pl:=am (s10 _ _ S9.ds) npl
  have g11:nG H H11 nl b sd pp kl cl pl t0 zs 0:=by
   refine ⟨s09.trans s911,⟨s911 _ _ N9.ob,N9.up,N9.l8,N9.l15,N9.nm⟩,b9.same s911,rw',[b],[],[t0],[],[],[],S11,⟨Nat.le_refl _,Nat.le_refl _,Nat.le_refl _,List.nodup_nil,fun c h=>(nomatch h),Nat.le_refl _,fun c h=>(nomatch h)⟩,⟨sL _ _ e10,s09.none n10,am N9.ob n10,am S9.hk n10,am S9.hc n10,(am e10 npl).symm,fun p h=>(nomatch h)⟩,Nat.le_refl _⟩
  refine ⟨pl,rfl,⟨_,SqL.of eL⟩,j4 (xs:=ms.map V.int) (fun i σ Hx=>∃ (pp:Addr) (v1 vc:Option V),σ=[some (V.ref a),v1,some (V.ref nl),some (V.ref b),some (V.ref sd),some (V.ref pp),vc,none,none] /\ Hx pl=some (.lst (ms.map V.int)) /\ nG H Hx nl b sd pp kl cl pl t0 zs i) ⟨pp,_,none,rfl,eL,g11⟩ ?_ ?_ ?_⟩
  ·rintro i σ Hx hi ⟨pp,v1,vc,rfl,ex,_⟩
   exact SqL.of ex
  ·rintro i x σ Hx hx ⟨pp,v1,vc,rfl,exl,sx,Nx,bx,rw',ka,ca,T,chs,es,ps,Sx,Ox,Px,hpl⟩
   rw [List.getElem?_map] at hx
   cases hc:ms[i]? with
   | none=>rw [hc] at hx; cases hx
   | some c =>
    rw [hc] at hx
    cases hx
    have him:=(List.getElem?_eq_some_iff.mp hc).1
    refine ⟨_,rfl,c,rfl,fun R1 H1 nR1 s1 q1=>?_⟩
    have ap:kK R1 nl kl cl:=⟨am Nx.ob nR1,am Sx.hk nR1,am Sx.hc nR1,fr.kc,fr.nk,fr.nc⟩
    have ppR:pp ≠ R1:=am Px.ob nR1
    have plR:pl ≠ R1:=am exl nR1
    have R0:H R1=none:=sx.none nR1
    have pps:pp ≠ sd:=bp Px.ob Sx.ds (by intro z; cases z)
    have nls:nl ≠ sd:=bp Nx.ob Sx.ds (by intro z; cases z)
    have put:∀ (p rw2:Addr) (ka' ca':List Addr) (T':List Tri) (chs':List (Int × Str)) (es':List Addr) (H2 H3:Hp),(∃ q,dO H2 p q /\ q.top <= 300) -> bo H2 sd kl cl rw2 ka' ca' T' chs' es' -> cC H2 ka' chs' es' (i + 1) -> Rst H2 R1 -> dM R1 kl cl sd H1 H2 -> Tk H1 H2 -> (∀ b o,b ≠ pp -> H2 b=some o -> H3 b=some o) -> H3 pp=some (.lst ((ps ++ [p]).map V.ref)) -> Rst H3 R1 /\ H3 pl=some (.lst (ms.map V.int)) /\ nG H H3 nl b sd pp kl cl pl t0 zs (i + 1):=by
     intro p rw2 ka' ca' T' chs' es' H2 H3 hq S2 O2 q2 bs tk k3 e3
     have pp2:H2 pp=some (.lst (ps.map V.ref)):=bs _ _ ppR Px.pk.symm Px.pc.symm pps (s1 _ _ Px.ob)
     have t3:Tk H2 H3:=fun c xs e=>k3 c _ (bp e pp2 (by intro z; cases z)) e
     have tx3:=((Tk.of s1).trans tk).trans t3
     refine ⟨q2.keep k3 ppR.symm,k3 _ _ Px.pp (bs _ _ plR plk.symm plc.symm pls.symm (s1 _ _ exl)),fun c u e=>?_,⟨k3 _ _ Px.pn (bs _ _ ap.nR fr.nk fr.nc nls (s1 _ _ Nx.ob)),Nx.up,Nx.l8,Nx.l15,Nx.nm⟩,bx.tk tx3,rw2,ka',ca',T',chs',es',ps ++ [p],⟨k3 _ _ pps.symm S2.ds,k3 _ _ Px.pk S2.hk,Paired.imp' (fun _ _ q=>q.tk t3) S2.kb,k3 _ _ Px.pc S2.hc,Paired.imp' (fun _ _ q=>t3 _ _ q) S2.cb,t3 _ _ S2.hr⟩,O2.tk t3,⟨e3,Px.p0,Px.pn,Px.pk,Px.pc,Px.pp,fun p' hp=>?_⟩,by rw [List.length_append]; show _ + 1 <= _; omega⟩
     ·exact k3 c u (am e Px.p0) (bs c u (am e R0) (am e fr.k0) (am e fr.c0) (am e fr.s0) (s1 _ _ (sx _ _ e)))
     ·rcases List.mem_append.mp hp with h | h
      ·exact Px.pa.tk tx3 p' h
      ·rw [List.mem_singleton.mp h]
       obtain ⟨q,h1,h2⟩:=hq
       exact ⟨q,h1.tk t3,h2⟩
    refine ⟨fun σ' H'=>σ'=[some (V.ref a),some (V.ref R1),some (V.ref nl),some (V.ref b),some (V.ref sd),some (V.ref pp),some (V.int c),none,none] /\ Rst H' R1 /\ H' pl=some (.lst (ms.map V.int)) /\ nG H H' nl b sd pp kl cl pl t0 zs (i + 1),?_,?_⟩
    ·refine ⟨_,rfl,R1,4,rfl,q1,by decide,by decide,fun w9 H2 _ _ q2 b2=>⟨rfl,_,rfl,bD (fun _=>?_) (fun _=>?_)⟩⟩
     ·have S2:=(Sx.same s1).but q1 ap.kR ap.cR b2
      have o1:=Ox.k1
      have o2:=Ox.kl
      have o3:=Ox.el
      refine ⟨_,rfl,.inl ⟨rfl,_,SqL.of (b2 _ _ ppR (s1 _ _ Px.ob))⟩,_,rfl,_,rfl,_,rfl,R1,sd,nl,kl,cl,rw',ka,ca,T,chs,es,zs,rfl,q2,⟨b2 _ _ ap.nR (s1 _ _ Nx.ob),Nx.up,Nx.l8,Nx.l15,Nx.nm⟩,S2,ap,by omega,by omega,by omega,fun p q' H3 hp hq q3 b3=>?_⟩
      have b13:=b2.trans b3
      have t13:=b13.tk q1
      refine ⟨pp,_,_,rfl,rfl,b13 _ _ ppR (s1 _ _ Px.ob),by rw [List.length_map]; omega,fun H4 k4 e4=>?_⟩
      exact ⟨rfl,put p rw' ka ca T chs es H3 H4 ⟨q',hp,hq⟩ (S2.but q2 ap.kR ap.cR b3) ((Ox.tk (Tk.of s1)).tk t13).le q3 (dM.of b13) t13 k4 (by rw [e4,List.map_append]; rfl)⟩
     ·refine ⟨_,rfl,.inl ⟨rfl,_,SqL.of (b2 _ _ ppR (s1 _ _ Px.ob))⟩,_,rfl,_,rfl,_,rfl,R1,sd,nl,kl,cl,rw',ka,ca,T,chs,es,zs,i,rfl,q2,⟨b2 _ _ ap.nR (s1 _ _ Nx.ob),Nx.up,Nx.l8,Nx.l15,Nx.nm⟩,(Sx.same s1).but q1 ap.kR ap.cR b2,ap,(Ox.tk (Tk.of s1)).tk (b2.tk q1),by omega,fun p rw2 ka' ca' T' chs' es' H3 st S' O' q3 bs tk=>?_⟩
      have bs13:=(dM.of b2:dM R1 kl cl sd H1 H2).trans bs
      have t13:=(b2.tk q1).trans tk
      refine ⟨pp,_,_,rfl,rfl,bs13 _ _ ppR Px.pk.symm Px.pc.symm pps (s1 _ _ Px.ob),by rw [List.length_map]; omega,fun H4 k4 e4=>?_⟩
      exact ⟨rfl,put p rw2 ka' ca' T' chs' es' H3 H4 (st.papB (by have:=O'.el; show es'.length <= 300; omega)) S' O' q3 bs13 t13 k4 (by rw [e4,List.map_append]; rfl)⟩
    rintro σ' H4 ⟨rfl,q4,exl4,g4⟩
    refine ⟨_,rfl,R1,8,rfl,q4,by decide,by decide,fun w9 H5 _ _ q5 b5=>⟨rfl,_,rfl,?_⟩⟩
    obtain ⟨sx4,N4,bx4,rw4,ka4,ca4,T4,chs4,es4,ps4,S4,O4,P4,hpl4⟩:=g4
    have t5:=b5.tk q4
    have pR4:pp ≠ R1:=ppR
    have S5:=S4.but q4 ap.kR ap.cR b5
    have N5:=N4.but ap.nR b5
    have sx5:aA H H5:=fun c u e=>b5 _ _ (am e R0) (sx4 _ _ e)
    have pp5:=b5 _ _ ppR P4.ob
    have exl5:=b5 _ _ plR exl4
    refine bD (fun _=>?_) (fun _=>?_)
    ·refine ⟨_,rfl,⟨2,rfl,_,rfl,pp,_,rfl,SqL.of pp5,fun c1 H6 n6 s6 e6=>?_⟩⟩
     have e6:H6 c1=some (.lst ((ps4.take (ps4.length - 2)).map V.ref)):=e6.trans (by rw [(cutM _).1,List.length_map,List.map_take])
     refine ⟨_,rfl,⟨2,rfl,_,rfl,pp,_,rfl,SqL.of (s6 _ _ pp5),fun c2 H7 n7 s7 e7=>?_⟩⟩
     have e7:H7 c2=some (.lst ((ps4.drop (ps4.length - 2)).map V.ref)):=e7.trans (by rw [(cutM _).2,List.length_map,List.map_drop])
     refine ⟨c2,_,rfl,e7,fun c3 H8 n8 s8 e8=>?_⟩
     refine ⟨c1,c3,_,_,rfl,rfl,s8 _ _ (s7 _ _ e6),e8,(by rw [List.length_reverse,List.length_map,List.length_map,List.length_take,List.length_drop]; omega),fun c4 H9 n9 s9 e9=>?_⟩
     have s58:=s6.trans (s7.trans s8)
     have s59:=s58.trans s9
     refine ⟨c4,_,_,rfl,s59 _ _ exl5,sx5.trans s59,⟨s59 _ _ N5.ob,N5.up,N5.l8,N5.l15,N5.nm⟩,(bx4.tk t5).same s59,rw4,ka4,ca4,T4,chs4,es4,ps4.take (ps4.length - 2) ++ (ps4.drop (ps4.length - 2)).reverse,S5.same s59,(O4.tk t5).tk (Tk.of s59),⟨by rw [e9,List.map_append,List.map_reverse],(sx5.trans s58).none n9,am (s58 _ _ N5.ob) n9,am (s58 _ _ S5.hk) n9,am (s58 _ _ S5.hc) n9,am (s58 _ _ exl5) n9,((P4.pa.tk t5).tk (Tk.of s59)).sub fun p hp=>?_⟩,?_⟩
     ·rcases List.mem_append.mp hp with h | h
      ·exact List.mem_of_mem_take h
      ·exact List.mem_of_mem_drop (List.mem_reverse.mp h)
     ·rw [List.length_append,List.length_reverse,List.length_take,List.length_drop]
      omega
    ·exact ⟨pp,_,_,rfl,exl5,sx5,N5,bx4.tk t5,rw4,ka4,ca4,T4,chs4,es4,ps4,S5,O4.tk t5,⟨pp5,P4.p0,P4.pn,P4.pk,P4.pc,P4.pp,P4.pa.tk t5⟩,hpl4⟩
  ·rintro σ Hx ⟨pp,v1,vc,rfl,_,gx⟩
   rw [List.length_map] at gx
   obtain ⟨sx,Nx,bx,rw',ka,ca,T,chs,es,ps,Sx,Ox,Px,hpl⟩:=gx
   have hp0:=Px.ob
   have ha0:=Px.pa
   have hl0:ps.length <= 62:=by omega
   clear Sx Ox Nx Px
   refine ⟨6,rfl,by decide,by decide,cO (lo:=0) (n:=6) (fun i σ Hx=>∃ (pp:Addr) (ps:List Addr) (v1 v6 v7 v8:Option V),σ=[some (V.ref a),v1,some (V.ref nl),some (V.ref b),some (V.ref sd),some (V.ref pp),v6,v7,v8] /\ BnO Hx b t0 /\ Hx pp=some (.lst (ps.map V.ref)) /\ ps.length <= 62 /\ iD Hx ps) ⟨pp,ps,_,_,_,_,rfl,bx,hp0,hl0,ha0⟩ ?_ ?_⟩
   ·rintro i σ Hx hi ⟨pp,ps,v1,v6,v7,v8,rfl,hb,hp,hl,ha⟩
    refine ⟨_,rfl,_,rfl,pp,_,rfl,SqL.of hp,fun tp H1 n1 s1 e1=>?_⟩
    obtain ⟨qs,hqs,hqt⟩:=(ha.tk (Tk.of s1)).qs
    obtain ⟨S,m,J,fin⟩:=rJ qs ⟨[t0],[],[]⟩
    have bd:∀ i,i <= m -> (S i).chs.length <= 900 /\ (S i).es.length <= 900:=fun i hi=>by
     have:=rK J hqt i hi
     have:=J.no
     have:=Paired.length hqs
     omega
    have hql:ps.length=qs.length:=Paired.length hqs
    refine ⟨b,tp,t0,ps,qs,S,m,rfl,hb.same s1,e1,by omega,hqs,J,bd,?_⟩
    rcases fin with fin | ⟨q',hq',hst⟩
    ·refine .inl ⟨by rw [hql]; exact fin,fun r en es' H2 s2 er een hp2=>?_⟩
     have s02:=s1.trans s2
     refine ⟨_,rfl,_,rfl,_,rfl,b,pp,t0,ps,qs,S,m,rfl,hb.same s02,s02 _ _ hp,by omega,Paired.imp' (fun _ _ h=>h.tk (Tk.of s2)) hqs,J,bd,.inl ⟨by rw [hql]; exact fin,fun r2 en2 es2 H3 s3 er2 een2 hp3=>?_⟩⟩
     have d1:=rM (s3 _ _ er) (s3 _ _ een) (Paired.imp' (fun _ _ h=>EnD.same s3 h) hp2)
     have d2:=rM er2 een2 hp3
     refine ⟨_,_,d1,d2,_,rfl,?_⟩
     rw [PySem.SeqAt.eqvAll_refl _ (by have:=d1.can; simpa only [PyData.canLay0] using this)]
     refine aN ?_
     have s03:=s02.trans s3
     refine ⟨_,rfl,r,_,_,_,rfl,rfl,SqT.of (s3 _ _ er),at0,rfl,_,rfl,bD (fun z=>absurd (of_decide_eq_true z) (by decide +kernel)) (fun _=>?_)⟩
     exact ⟨pp,ps,_,_,_,_,rfl,hb.same s03,s03 _ _ hp,hl,ha.tk (Tk.of s03)⟩
    ·refine .inr ⟨q',hq',hst,fun r H2 s2 er=>?_⟩
     have s02:=s1.trans s2
     refine ⟨_,rfl,_,rfl,_,rfl,b,pp,t0,ps,qs,S,m,rfl,hb.same s02,s02 _ _ hp,by omega,Paired.imp' (fun _ _ h=>h.tk (Tk.of s2)) hqs,J,bd,.inr ⟨q',hq',hst,fun r2 H3 s3 er2=>?_⟩⟩
     refine ⟨_,_,mj (s3 _ _ er),mj er2,_,rfl,?_⟩
     rw [PySem.SeqAt.eqvAll_refl _ (by have:=(mj er2).can; simpa only [PyData.canLay0] using this)]
     refine aN ?_
     have s03:=s02.trans s3
     refine ⟨_,rfl,r,_,_,_,rfl,rfl,SqT.of (s3 _ _ er),at0,rfl,_,rfl,bD (fun _=>?_) (fun z=>absurd (decide_eq_true rfl) z)⟩
     refine ⟨_,rfl,_,rfl,r,_,_,_,rfl,rfl,SqT.of (s3 _ _ er),at1,_,rfl,pp,_,rfl,SqL.of (s03 _ _ hp),fun c1 H4 n4 s4 e4=>?_⟩
     have e4:H4 c1=some (.lst ((ps.take m).map V.ref)):=e4.trans (by rw [mV,List.map_take])
     have s04:=s03.trans s4
     refine ⟨_,rfl,_,rfl,r,_,_,_,rfl,rfl,SqT.of (s4 _ _ (s3 _ _ er)),at1,_,_,rfl,rfl,_,rfl,pp,_,rfl,SqL.of (s04 _ _ hp),fun c2 H5 n5 s5 e5=>?_⟩
     have e5:H5 c2=some (.lst ((ps.drop (m + 1)).map V.ref)):=e5.trans (by rw [show ((m:Int) + 1)=((m + 1:Nat):Int) from rfl,cutD,List.map_drop])
     refine ⟨c1,c2,_,_,rfl,rfl,s5 _ _ e4,e5,(by rw [List.length_map,List.length_map,List.length_take,List.length_drop]; omega),fun c3 H6 n6 s6 e6=>?_⟩
     have s06:=(s04.trans s5).trans s6
     refine ⟨c3,ps.take m ++ ps.drop (m + 1),_,_,_,_,rfl,hb.same s06,by rw [e6,List.map_append],by rw [List.length_append,List.length_take,List.length_drop]; omega,(ha.tk (Tk.of s06)).sub fun p hp=>?_⟩
     rcases List.mem_append.mp hp with h | h
     ·exact List.mem_of_mem_take h
     ·exact List.mem_of_mem_drop h
   ·rintro σ Hx _
    exact q _
end
theorem all_mk {l:PySem.W.OpenLaw} {w:World} {K:PySem.W.Frag} {h:Heap} {mg:Str -> Option Value} {fa:Addr} (X:K.In h) (G:h.Ns mainGlobals mg) (hfa:mg "law"=some (.ref fa))
  {C:Addr} (aC:PySem.W.nsIn K mainGlobals "Overlook"=some (some (.ref C)))
  {fwhole:Addr} {odwhole anwhole:Option Addr} {slwhole:Array (Option Value)} {ocwhole kVwhole dcwhole pmwhole cdwhole ctwhole:Value} (awhole:PySem.W.nsIn K mainGlobals "is_whole"=some (some (.ref fwhole))) (lwhole:K.lookup fwhole=some ⟨ocwhole,odwhole,.func (PySem.W.fnOf "is_whole" "is_whole" (aI K84P.gg) (aF K84P.gg) (ai K84P.gg) .none kVwhole dcwhole pmwhole anwhole cdwhole ctwhole),slwhole⟩) (cwhole:PySem.W.codeIn K cdwhole "is_whole"=true) (kwhole:PySem.W.keepIn K (.ref fwhole)=true)
  {ffrom:Addr} {odfrom anfrom:Option Addr} {slfrom:Array (Option Value)} {ocfrom kVfrom dcfrom pmfrom cdfrom ctfrom:Value} (afrom:PySem.W.nsIn K mainGlobals "is_whole_from"=some (some (.ref ffrom))) (lfrom:K.lookup ffrom=some ⟨ocfrom,odfrom,.func (PySem.W.fnOf "is_whole_from" "is_whole_from" (aI K84P.jb) (aF K84P.jb) (ai K84P.jb) .none kVfrom dcfrom pmfrom anfrom cdfrom ctfrom),slfrom⟩) (cfrom:PySem.W.codeIn K cdfrom "is_whole_from"=true) (kfrom:PySem.W.keepIn K (.ref ffrom)=true)
  {fname:Addr} {odname anname:Option Addr} {slname:Array (Option Value)} {ocname kVname dcname pmname cdname ctname:Value} (aname:PySem.W.nsIn K mainGlobals "is_name"=some (some (.ref fname))) (lname:K.lookup fname=some ⟨ocname,odname,.func (PySem.W.fnOf "is_name" "is_name" (aI K84P.fj) (aF K84P.fj) (ai K84P.fj) .none kVname dcname pmname anname cdname ctname),slname⟩) (cname:PySem.W.codeIn K cdname "is_name"=true) (kname:PySem.W.keepIn K (.ref fname)=true)
  {frise:Addr} {odrise anrise:Option Addr} {slrise:Array (Option Value)} {ocrise kVrise dcrise pmrise cdrise ctrise:Value} (arise:PySem.W.nsIn K mainGlobals "is_rising_names"=some (some (.ref frise))) (lrise:K.lookup frise=some ⟨ocrise,odrise,.func (PySem.W.fnOf "is_rising_names" "is_rising_names" (aI K84P.gz) (aF K84P.gz) (ai K84P.gz) .none kVrise dcrise pmrise anrise cdrise ctrise),slrise⟩) (crise:PySem.W.codeIn K cdrise "is_rising_names"=true) (krise:PySem.W.keepIn K (.ref frise)=true)
  {fwnum:Addr} {odwnum anwnum:Option Addr} {slwnum:Array (Option Value)} {ocwnum kVwnum dcwnum pmwnum cdwnum ctwnum:Value} (awnum:PySem.W.nsIn K mainGlobals "is_work_number"=some (some (.ref fwnum))) (lwnum:K.lookup fwnum=some ⟨ocwnum,odwnum,.func (PySem.W.fnOf "is_work_number" "is_work_number" (aI K84P.jc) (aF K84P.jc) (ai K84P.jc) .none kVwnum dcwnum pmwnum anwnum cdwnum ctwnum),slwnum⟩) (cwnum:PySem.W.codeIn K cdwnum "is_work_number"=true) (kwnum:PySem.W.keepIn K (.ref fwnum)=true)
  {fwork:Addr} {odwork anwork:Option Addr} {slwork:Array (Option Value)} {ocwork kVwork dcwork pmwork cdwork ctwork:Value} (awork:PySem.W.nsIn K mainGlobals "is_work"=some (some (.ref fwork))) (lwork:K.lookup fwork=some ⟨ocwork,odwork,.func (PySem.W.fnOf "is_work" "is_work" (aI K84P.gh) (aF K84P.gh) (ai K84P.gh) .none kVwork dcwork pmwork anwork cdwork ctwork),slwork⟩) (cwork:PySem.W.codeIn K cdwork "is_work"=true) (kwork:PySem.W.keepIn K (.ref fwork)=true)
  {fask:Addr} {odask anask:Option Addr} {slask:Array (Option Value)} {ocask kVask dcask pmask cdask ctask:Value} (aask:PySem.W.nsIn K mainGlobals "is_ask"=some (some (.ref fask))) (lask:K.lookup fask=some ⟨ocask,odask,.func (PySem.W.fnOf "is_ask" "is_ask" (aI K84P.oF) (aF K84P.oF) (ai K84P.oF) .none kVask dcask pmask anask cdask ctask),slask⟩) (cask:PySem.W.codeIn K cdask "is_ask"=true) (kask:PySem.W.keepIn K (.ref fask)=true)
  {fisb:Addr} {odisb anisb:Option Addr} {slisb:Array (Option Value)} {ocisb kVisb dcisb pmisb cdisb ctisb:Value} (aisb:PySem.W.nsIn K mainGlobals "is_bench"=some (some (.ref fisb))) (lisb:K.lookup fisb=some ⟨ocisb,odisb,.func (PySem.W.fnOf "is_bench" "is_bench" (aI K84P.kz) (aF K84P.kz) (ai K84P.kz) .none kVisb dcisb pmisb anisb cdisb ctisb),slisb⟩) (cisb:PySem.W.codeIn K cdisb "is_bench"=true) (kisb:PySem.W.keepIn K (.ref fisb)=true)
  {fjoined:Addr} {odjoined anjoined:Option Addr} {sljoined:Array (Option Value)} {ocjoined kVjoined dcjoined pmjoined cdjoined ctjoined:Value} (ajoined:PySem.W.nsIn K mainGlobals "is_joined"=some (some (.ref fjoined))) (ljoined:K.lookup fjoined=some ⟨ocjoined,odjoined,.func (PySem.W.fnOf "is_joined" "is_joined" (aI cM) (aF cM) (ai cM) .none kVjoined dcjoined pmjoined anjoined cdjoined ctjoined),sljoined⟩) (cjoined:PySem.W.codeIn K cdjoined "is_joined"=true) (kjoined:PySem.W.keepIn K (.ref fjoined)=true)
  {fmost:Addr} {odmost anmost:Option Addr} {slmost:Array (Option Value)} {ocmost kVmost dcmost pmmost cdmost ctmost:Value} (amost:PySem.W.nsIn K mainGlobals "is_most"=some (some (.ref fmost))) (lmost:K.lookup fmost=some ⟨ocmost,odmost,.func (PySem.W.fnOf "is_most" "is_most" (aI ij) (aF ij) (ai ij) .none kVmost dcmost pmmost anmost cdmost ctmost),slmost⟩) (cmost:PySem.W.codeIn K cdmost "is_most"=true) (kmost:PySem.W.keepIn K (.ref fmost)=true)
  {fhalf:Addr} {odhalf anhalf:Option Addr} {slhalf:Array (Option Value)} {ochalf kVhalf dchalf pmhalf cdhalf cthalf:Value} (ahalf:PySem.W.nsIn K mainGlobals "is_half"=some (some (.ref fhalf))) (lhalf:K.lookup fhalf=some ⟨ochalf,odhalf,.func (PySem.W.fnOf "is_half" "is_half" (aI ja) (aF ja) (ai ja) .none kVhalf dchalf pmhalf anhalf cdhalf cthalf),slhalf⟩) (chalf:PySem.W.codeIn K cdhalf "is_half"=true) (khalf:PySem.W.keepIn K (.ref fhalf)=true)
  {fbeh:Addr} {odbeh anbeh:Option Addr} {slbeh:Array (Option Value)} {ocbeh kVbeh dcbeh pmbeh cdbeh ctbeh:Value} (abeh:PySem.W.nsIn K mainGlobals "behind"=some (some (.ref fbeh))) (lbeh:K.lookup fbeh=some ⟨ocbeh,odbeh,.func (PySem.W.fnOf "behind" "behind" (aI oA) (aF oA) (ai oA) .none kVbeh dcbeh pmbeh anbeh cdbeh ctbeh),slbeh⟩) (cbeh:PySem.W.codeIn K cdbeh "behind"=true) (kbeh:PySem.W.keepIn K (.ref fbeh)=true)
  {fstep:Addr} {odstep anstep:Option Addr} {slstep:Array (Option Value)} {ocstep kVstep dcstep pmstep cdstep ctstep:Value} (astep:PySem.W.nsIn K mainGlobals "is_step"=some (some (.ref fstep))) (lstep:K.lookup fstep=some ⟨ocstep,odstep,.func (PySem.W.fnOf "is_step" "is_step" (aI jd) (aF jd) (ai jd) .none kVstep dcstep pmstep anstep cdstep ctstep),slstep⟩) (cstep:PySem.W.codeIn K cdstep "is_step"=true) (kstep:PySem.W.keepIn K (.ref fstep)=true)
  {fdeed:Addr} {oddeed andeed:Option Addr} {sldeed:Array (Option Value)} {ocdeed kVdeed dcdeed pmdeed cddeed ctdeed:Value} (adeed:PySem.W.nsIn K mainGlobals "is_deed"=some (some (.ref fdeed))) (ldeed:K.lookup fdeed=some ⟨ocdeed,oddeed,.func (PySem.W.fnOf "is_deed" "is_deed" (aI K84P.gi) (aF K84P.gi) (ai K84P.gi) .none kVdeed dcdeed pmdeed andeed cddeed ctdeed),sldeed⟩) (cdeed:PySem.W.codeIn K cddeed "is_deed"=true) (kdeed:PySem.W.keepIn K (.ref fdeed)=true)
  {fentry:Addr} {odentry anentry:Option Addr} {slentry:Array (Option Value)} {ocentry kVentry dcentry pmentry cdentry ctentry:Value} (aentry:PySem.W.nsIn K mainGlobals "is_entry"=some (some (.ref fentry))) (lentry:K.lookup fentry=some ⟨ocentry,odentry,.func (PySem.W.fnOf "is_entry" "is_entry" (aI K84P.eQ) (aF K84P.eQ) (ai K84P.eQ) .none kVentry dcentry pmentry anentry cdentry ctentry),slentry⟩) (centry:PySem.W.codeIn K cdentry "is_entry"=true) (kentry:PySem.W.keepIn K (.ref fentry)=true)
  {fcp:Addr} {odcp ancp:Option Addr} {slcp:Array (Option Value)} {occp kVcp dccp pmcp cdcp ctcp:Value} (acp:PySem.W.nsIn K mainGlobals "is_chair_paper"=some (some (.ref fcp))) (lcp:K.lookup fcp=some ⟨occp,odcp,.func (PySem.W.fnOf "is_chair_paper" "is_chair_paper" (aI sCP) (aF sCP) (ai sCP) .none kVcp dccp pmcp ancp cdcp ctcp),slcp⟩) (ccp:PySem.W.codeIn K cdcp "is_chair_paper"=true) (kcp:PySem.W.keepIn K (.ref fcp)=true)
  {fsp:Addr} {odsp ansp:Option Addr} {slsp:Array (Option Value)} {ocsp kVsp dcsp pmsp cdsp ctsp:Value} (asp:PySem.W.nsIn K mainGlobals "is_settled_paper"=some (some (.ref fsp))) (lsp:K.lookup fsp=some ⟨ocsp,odsp,.func (PySem.W.fnOf "is_settled_paper" "is_settled_paper" (aI sSP) (aF sSP) (ai sSP) .none kVsp dcsp pmsp ansp cdsp ctsp),slsp⟩) (csp:PySem.W.codeIn K cdsp "is_settled_paper"=true) (ksp:PySem.W.keepIn K (.ref fsp)=true)
  {flook:Addr} {odlook anlook:Option Addr} {sllook:Array (Option Value)} {oclook kVlook dclook pmlook cdlook ctlook:Value} (alook:PySem.W.nsIn K mainGlobals "look_over"=some (some (.ref flook))) (llook:K.lookup flook=some ⟨oclook,odlook,.func (PySem.W.fnOf "look_over" "look_over" (aI jm) (aF jm) (ai jm) .none kVlook dclook pmlook anlook cdlook ctlook),sllook⟩) (clook:PySem.W.codeIn K cdlook "look_over"=true) (klook:PySem.W.keepIn K (.ref flook)=true)
  {fcell:Addr} {odcell ancell:Option Addr} {slcell:Array (Option Value)} {occell kVcell dccell pmcell cdcell ctcell:Value} (acell:PySem.W.nsIn K mainGlobals "_law_cell_at"=some (some (.ref fcell))) (lcell:K.lookup fcell=some ⟨occell,odcell,.func (PySem.W.fnOf "_law_cell_at" "_law_cell_at" (aI jo) (aF jo) (ai jo) .none kVcell dccell pmcell ancell cdcell ctcell),slcell⟩) (ccell:PySem.W.codeIn K cdcell "_law_cell_at"=true) (kcell:PySem.W.keepIn K (.ref fcell)=true)
  {ftake:Addr} {odtake antake:Option Addr} {sltake:Array (Option Value)} {octake kVtake dctake pmtake cdtake cttake:Value} (atake:PySem.W.nsIn K mainGlobals "_law_take"=some (some (.ref ftake))) (ltake:K.lookup ftake=some ⟨octake,odtake,.func (PySem.W.fnOf "_law_take" "_law_take" (aI i5) (aF i5) (ai i5) .none kVtake dctake pmtake antake cdtake cttake),sltake⟩) (ctake:PySem.W.codeIn K cdtake "_law_take"=true) (ktake:PySem.W.keepIn K (.ref ftake)=true)
  {frest:Addr} {odrest anrest:Option Addr} {slrest:Array (Option Value)} {ocrest kVrest dcrest pmrest cdrest ctrest:Value} (arest:PySem.W.nsIn K mainGlobals "_law_rest"=some (some (.ref frest))) (lrest:K.lookup frest=some ⟨ocrest,odrest,.func (PySem.W.fnOf "_law_rest" "_law_rest" (aI i6) (aF i6) (ai i6) .none kVrest dcrest pmrest anrest cdrest ctrest),slrest⟩) (crest:PySem.W.codeIn K cdrest "_law_rest"=true) (krest:PySem.W.keepIn K (.ref frest)=true)
  {fnames:Addr} {odnames annames:Option Addr} {slnames:Array (Option Value)} {ocnames kVnames dcnames pmnames cdnames ctnames:Value} (anames:PySem.W.nsIn K mainGlobals "_law_names"=some (some (.ref fnames))) (lnames:K.lookup fnames=some ⟨ocnames,odnames,.func (PySem.W.fnOf "_law_names" "_law_names" (aI df) (aF df) (ai df) .none kVnames dcnames pmnames annames cdnames ctnames),slnames⟩) (cnames:PySem.W.codeIn K cdnames "_law_names"=true) (knames:PySem.W.keepIn K (.ref fnames)=true)
  {fsome:Addr} {odsome ansome:Option Addr} {slsome:Array (Option Value)} {ocsome kVsome dcsome pmsome cdsome ctsome:Value} (asome:PySem.W.nsIn K mainGlobals "_law_some"=some (some (.ref fsome))) (lsome:K.lookup fsome=some ⟨ocsome,odsome,.func (PySem.W.fnOf "_law_some" "_law_some" (aI i7) (aF i7) (ai i7) .none kVsome dcsome pmsome ansome cdsome ctsome),slsome⟩) (csome:PySem.W.codeIn K cdsome "_law_some"=true) (ksome:PySem.W.keepIn K (.ref fsome)=true)
  {fbench:Addr} {odbench anbench:Option Addr} {slbench:Array (Option Value)} {ocbench kVbench dcbench pmbench cdbench ctbench:Value} (abench:PySem.W.nsIn K mainGlobals "_law_bench"=some (some (.ref fbench))) (lbench:K.lookup fbench=some ⟨ocbench,odbench,.func (PySem.W.fnOf "_law_bench" "_law_bench" (aI fi) (aF fi) (ai fi) .none kVbench dcbench pmbench anbench cdbench ctbench),slbench⟩) (cbench:PySem.W.codeIn K cdbench "_law_bench"=true) (kbench:PySem.W.keepIn K (.ref fbench)=true)
  {fent:Addr} {odent anent:Option Addr} {slent:Array (Option Value)} {ocent kVent dcent pment cdent ctent:Value} (aent:PySem.W.nsIn K mainGlobals "_law_entry"=some (some (.ref fent))) (lent:K.lookup fent=some ⟨ocent,odent,.func (PySem.W.fnOf "_law_entry" "_law_entry" (aI pd) (aF pd) (ai pd) .none kVent dcent pment anent cdent ctent),slent⟩) (cent:PySem.W.codeIn K cdent "_law_entry"=true) (kent:PySem.W.keepIn K (.ref fent)=true)
  {flmost:Addr} {odlmost anlmost:Option Addr} {sllmost:Array (Option Value)} {oclmost kVlmost dclmost pmlmost cdlmost ctlmost:Value} (almost:PySem.W.nsIn K mainGlobals "_law_most"=some (some (.ref flmost))) (llmost:K.lookup flmost=some ⟨oclmost,odlmost,.func (PySem.W.fnOf "_law_most" "_law_most" (aI fo) (aF fo) (ai fo) .none kVlmost dclmost pmlmost anlmost cdlmost ctlmost),sllmost⟩) (clmost:PySem.W.codeIn K cdlmost "_law_most"=true) (klmost:PySem.W.keepIn K (.ref flmost)=true)
  {fstepf:Addr} {odstepf anstepf:Option Addr} {slstepf:Array (Option Value)} {ocstepf kVstepf dcstepf pmstepf cdstepf ctstepf:Value} (astepf:PySem.W.nsIn K mainGlobals "_law_step_from"=some (some (.ref fstepf))) (lstepf:K.lookup fstepf=some ⟨ocstepf,odstepf,.func (PySem.W.fnOf "_law_step_from" "_law_step_from" (aI fq) (aF fq) (ai fq) .none kVstepf dcstepf pmstepf anstepf cdstepf ctstepf),slstepf⟩) (cstepf:PySem.W.codeIn K cdstepf "_law_step_from"=true) (kstepf:PySem.W.keepIn K (.ref fstepf)=true)
  {fchp:Addr} {odchp anchp:Option Addr} {slchp:Array (Option Value)} {occhp kVchp dcchp pmchp cdchp ctchp:Value} (achp:PySem.W.nsIn K mainGlobals "_law_chair_paper"=some (some (.ref fchp))) (lchp:K.lookup fchp=some ⟨occhp,odchp,.func (PySem.W.fnOf "_law_chair_paper" "_law_chair_paper" (aI md) (aF md) (ai md) .none kVchp dcchp pmchp anchp cdchp ctchp),slchp⟩) (cchp:PySem.W.codeIn K cdchp "_law_chair_paper"=true) (kchp:PySem.W.keepIn K (.ref fchp)=true)
  {fstp:Addr} {odstp anstp:Option Addr} {slstp:Array (Option Value)} {ocstp kVstp dcstp pmstp cdstp ctstp:Value} (astp:PySem.W.nsIn K mainGlobals "_law_settled_paper"=some (some (.ref fstp))) (lstp:K.lookup fstp=some ⟨ocstp,odstp,.func (PySem.W.fnOf "_law_settled_paper" "_law_settled_paper" (aI mf) (aF mf) (ai mf) .none kVstp dcstp pmstp anstp cdstp ctstp),slstp⟩) (cstp:PySem.W.codeIn K cdstp "_law_settled_paper"=true) (kstp:PySem.W.keepIn K (.ref fstp)=true)
  {fnxp:Addr} {odnxp annxp:Option Addr} {slnxp:Array (Option Value)} {ocnxp kVnxp dcnxp pmnxp cdnxp ctnxp:Value} (anxp:PySem.W.nsIn K mainGlobals "_law_next_paper"=some (some (.ref fnxp))) (lnxp:K.lookup fnxp=some ⟨ocnxp,odnxp,.func (PySem.W.fnOf "_law_next_paper" "_law_next_paper" (aI pf) (aF pf) (ai pf) .none kVnxp dcnxp pmnxp annxp cdnxp ctnxp),slnxp⟩) (cnxp:PySem.W.codeIn K cdnxp "_law_next_paper"=true) (knxp:PySem.W.keepIn K (.ref fnxp)=true)
  {flkd:Addr} {odlkd anlkd:Option Addr} {sllkd:Array (Option Value)} {oclkd kVlkd dclkd pmlkd cdlkd ctlkd:Value} (alkd:PySem.W.nsIn K mainGlobals "_law_looked"=some (some (.ref flkd))) (llkd:K.lookup flkd=some ⟨oclkd,odlkd,.func (PySem.W.fnOf "_law_looked" "_law_looked" (aI ph) (aF ph) (ai ph) .none kVlkd dclkd pmlkd anlkd cdlkd ctlkd),sllkd⟩) (clkd:PySem.W.codeIn K cdlkd "_law_looked"=true) (klkd:PySem.W.keepIn K (.ref flkd)=true)
  {flhalf:Addr} {odlhalf anlhalf:Option Addr} {sllhalf:Array (Option Value)} {oclhalf kVlhalf dclhalf pmlhalf cdlhalf ctlhalf:Value} (alhalf:PySem.W.nsIn K mainGlobals "_law_half"=some (some (.ref flhalf))) (llhalf:K.lookup flhalf=some ⟨oclhalf,odlhalf,.func (PySem.W.fnOf "_law_half" "_law_half" (aI ft) (aF ft) (ai ft) .none kVlhalf dclhalf pmlhalf anlhalf cdlhalf ctlhalf),sllhalf⟩) (clhalf:PySem.W.codeIn K cdlhalf "_law_half"=true) (klhalf:PySem.W.keepIn K (.ref flhalf)=true)
  {flknown:Addr} {odlknown anlknown:Option Addr} {sllknown:Array (Option Value)} {oclknown kVlknown dclknown pmlknown cdlknown ctlknown:Value} (alknown:PySem.W.nsIn K mainGlobals "_law_known"=some (some (.ref flknown))) (llknown:K.lookup flknown=some ⟨oclknown,odlknown,.func (PySem.W.fnOf "_law_known" "_law_known" (aI eU) (aF eU) (ai eU) .none kVlknown dclknown pmlknown anlknown cdlknown ctlknown),sllknown⟩) (clknown:PySem.W.codeIn K cdlknown "_law_known"=true) (klknown:PySem.W.keepIn K (.ref flknown)=true)
  {fsho:Addr} {odsho ansho:Option Addr} {slsho:Array (Option Value)} {ocsho kVsho dcsho pmsho cdsho ctsho:Value} (asho:PySem.W.nsIn K mainGlobals "_law_settled_holds"=some (some (.ref fsho))) (lsho:K.lookup fsho=some ⟨ocsho,odsho,.func (PySem.W.fnOf "_law_settled_holds" "_law_settled_holds" (aI pj) (aF pj) (ai pj) .none kVsho dcsho pmsho ansho cdsho ctsho),slsho⟩) (csho:PySem.W.codeIn K cdsho "_law_settled_holds"=true) (ksho:PySem.W.keepIn K (.ref fsho)=true)
  {fdue:Addr} {oddue andue:Option Addr} {sldue:Array (Option Value)} {ocdue kVdue dcdue pmdue cddue ctdue:Value} (adue:PySem.W.nsIn K mainGlobals "_law_due"=some (some (.ref fdue))) (ldue:K.lookup fdue=some ⟨ocdue,oddue,.func (PySem.W.fnOf "_law_due" "_law_due" (aI mh) (aF mh) (ai mh) .none kVdue dcdue pmdue andue cddue ctdue),sldue⟩) (cdue:PySem.W.codeIn K cddue "_law_due"=true) (kdue:PySem.W.keepIn K (.ref fdue)=true)
  {fanp:Addr} {odanp ananp:Option Addr} {slanp:Array (Option Value)} {ocanp kVanp dcanp pmanp cdanp ctanp:Value} (aanp:PySem.W.nsIn K mainGlobals "_law_any_paper"=some (some (.ref fanp))) (lanp:K.lookup fanp=some ⟨ocanp,odanp,.func (PySem.W.fnOf "_law_any_paper" "_law_any_paper" (aI pr) (aF pr) (ai pr) .none kVanp dcanp pmanp ananp cdanp ctanp),slanp⟩) (canp:PySem.W.codeIn K cdanp "_law_any_paper"=true) (kanp:PySem.W.keepIn K (.ref fanp)=true)
  {flaw:Addr} {odlaw anlaw:Option Addr} {sllaw:Array (Option Value)} {oclaw kVlaw dclaw pmlaw cdlaw ctlaw:Value} (alaw:PySem.W.nsIn K mainGlobals "law"=some (some (.ref flaw))) (llaw:K.lookup flaw=some ⟨oclaw,odlaw,.func (PySem.W.fnOf "law" "law" (aI jY) (aF jY) (ai jY) .none kVlaw dclaw pmlaw anlaw cdlaw ctlaw),sllaw⟩) (claw:PySem.W.codeIn K cdlaw "law"=true) (klaw:PySem.W.keepIn K (.ref flaw)=true)
  {finit:Addr} {odinit aninit:Option Addr} {slinit:Array (Option Value)} {ocinit kVinit dcinit pminit cdinit ctinit:Value} (ainit:PySem.W.findIn K (.ref C) "__init__"=some (some (.ref finit))) (iinit:PySem.W.isFn K (.ref finit)=true) (linit:K.lookup finit=some ⟨ocinit,odinit,.func (PySem.W.fnOf "__init__" "Overlook.__init__" (aI jf) (aF jf) (ai jf) .none kVinit dcinit pminit aninit cdinit ctinit),slinit⟩) (cinit:PySem.W.codeIn K cdinit "Overlook.__init__"=true) (kinit:PySem.W.keepIn K (.ref finit)=true)
  {fknown:Addr} {odknown anknown:Option Addr} {slknown:Array (Option Value)} {ocknown kVknown dcknown pmknown cdknown ctknown:Value} (aknown:PySem.W.findIn K (.ref C) "is_known"=some (some (.ref fknown))) (iknown:PySem.W.isFn K (.ref fknown)=true) (lknown:K.lookup fknown=some ⟨ocknown,odknown,.func (PySem.W.fnOf "is_known" "Overlook.is_known" (aI fm) (aF fm) (ai fm) .none kVknown dcknown pmknown anknown cdknown ctknown),slknown⟩) (cknown:PySem.W.codeIn K cdknown "Overlook.is_known"=true) (kknown:PySem.W.keepIn K (.ref fknown)=true)
  {fchh:Addr} {odchh anchh:Option Addr} {slchh:Array (Option Value)} {occhh kVchh dcchh pmchh cdchh ctchh:Value} (achh:PySem.W.findIn K (.ref C) "is_chair_held"=some (some (.ref fchh))) (ichh:PySem.W.isFn K (.ref fchh)=true) (lchh:K.lookup fchh=some ⟨occhh,odchh,.func (PySem.W.fnOf "is_chair_held" "Overlook.is_chair_held" (aI eR) (aF eR) (ai eR) .none kVchh dcchh pmchh anchh cdchh ctchh),slchh⟩) (cchh:PySem.W.codeIn K cdchh "Overlook.is_chair_held"=true) (kchh:PySem.W.keepIn K (.ref fchh)=true)
  {fseth:Addr} {odseth anseth:Option Addr} {slseth:Array (Option Value)} {ocseth kVseth dcseth pmseth cdseth ctseth:Value} (aseth:PySem.W.findIn K (.ref C) "is_settled_held"=some (some (.ref fseth))) (iseth:PySem.W.isFn K (.ref fseth)=true) (lseth:K.lookup fseth=some ⟨ocseth,odseth,.func (PySem.W.fnOf "is_settled_held" "Overlook.is_settled_held" (aI jg) (aF jg) (ai jg) .none kVseth dcseth pmseth anseth cdseth ctseth),slseth⟩) (cseth:PySem.W.codeIn K cdseth "Overlook.is_settled_held"=true) (kseth:PySem.W.keepIn K (.ref fseth)=true)
  {fjoint:Addr} {odjoint anjoint:Option Addr} {sljoint:Array (Option Value)} {ocjoint kVjoint dcjoint pmjoint cdjoint ctjoint:Value} (ajoint:PySem.W.findIn K (.ref C) "is_joint"=some (some (.ref fjoint))) (ijoint:PySem.W.isFn K (.ref fjoint)=true) (ljoint:K.lookup fjoint=some ⟨ocjoint,odjoint,.func (PySem.W.fnOf "is_joint" "Overlook.is_joint" (aI gk) (aF gk) (ai gk) .none kVjoint dcjoint pmjoint anjoint cdjoint ctjoint),sljoint⟩) (cjoint:PySem.W.codeIn K cdjoint "Overlook.is_joint"=true) (kjoint:PySem.W.keepIn K (.ref fjoint)=true)
  {fnote:Addr} {odnote annote:Option Addr} {slnote:Array (Option Value)} {ocnote kVnote dcnote pmnote cdnote ctnote:Value} (anote:PySem.W.findIn K (.ref C) "note_bench"=some (some (.ref fnote))) (inote:PySem.W.isFn K (.ref fnote)=true) (lnote:K.lookup fnote=some ⟨ocnote,odnote,.func (PySem.W.fnOf "note_bench" "Overlook.note_bench" (aI jh) (aF jh) (ai jh) .none kVnote dcnote pmnote annote cdnote ctnote),slnote⟩) (cnote:PySem.W.codeIn K cdnote "Overlook.note_bench"=true) (knote:PySem.W.keepIn K (.ref fnote)=true)
  {ftakep:Addr} {odtakep antakep:Option Addr} {sltakep:Array (Option Value)} {octakep kVtakep dctakep pmtakep cdtakep cttakep:Value} (atakep:PySem.W.findIn K (.ref C) "take_paper"=some (some (.ref ftakep))) (itakep:PySem.W.isFn K (.ref ftakep)=true) (ltakep:K.lookup ftakep=some ⟨octakep,odtakep,.func (PySem.W.fnOf "take_paper" "Overlook.take_paper" (aI gl) (aF gl) (ai gl) .none kVtakep dctakep pmtakep antakep cdtakep cttakep),sltakep⟩) (ctakep:PySem.W.codeIn K cdtakep "Overlook.take_paper"=true) (ktakep:PySem.W.keepIn K (.ref ftakep)=true)
  (pgC:PySem.W.plainGet K C Str.empty=true) (hdC:PySem.W.hasDictIn K C=true) (poC:PySem.W.plainOver K C=true) (saC:PySem.W.findIn K (.ref C) "__setattr__"=some (some (.builtin "object.__setattr__"))) (mkC:PySem.W.makesIn K C=true) (kcC:PySem.W.keepIn K (.ref C)=true) (nC_benches:PySem.W.findIn K (.ref C) "benches"=some none) (nC_chairs:PySem.W.findIn K (.ref C) "chairs"=some none) (nC_entries:PySem.W.findIn K (.ref C) "entries"=some none)
  {tabc:Tok} (gabc:PySem.W.nsIn K mainGlobals "SMALL_LETTERS"=some (some (.str ABC tabc))) {tsev:Tok} (gsev:PySem.W.nsIn K mainGlobals "MOST_SPEAKING"=some (some (.int 7 tsev))) {tfou:Tok} (gfou:PySem.W.nsIn K mainGlobals "MOST_LEARNERS"=some (some (.int 4 tfou))) (zlen:PySem.W.nsIn K mainGlobals "len"=some none) (zrange:PySem.W.nsIn K mainGlobals "range"=some none) (zmin:PySem.W.nsIn K mainGlobals "min"=some none) (zlist:PySem.W.nsIn K mainGlobals "list"=some none) (ztuple:PySem.W.nsIn K mainGlobals "tuple"=some none) (zsorted:PySem.W.nsIn K mainGlobals "sorted"=some none) (zisinstance:PySem.W.nsIn K mainGlobals "isinstance"=some none) (zstr:PySem.W.nsIn K mainGlobals "str"=some none) (zall:PySem.W.nsIn K mainGlobals "all"=some none) (zany:PySem.W.nsIn K mainGlobals "any"=some none) (zzip:PySem.W.nsIn K mainGlobals "zip"=some none) (zset:PySem.W.nsIn K mainGlobals "set"=some none) (zint:PySem.W.nsIn K mainGlobals "int"=some none) (zbool:PySem.W.nsIn K mainGlobals "bool"=some none) (zabs:PySem.W.nsIn K mainGlobals "abs"=some none) (zenumerate:PySem.W.nsIn K mainGlobals "enumerate"=some none) (zmax:PySem.W.nsIn K mainGlobals "max"=some none) (zValueError:PySem.W.nsIn K mainGlobals "ValueError"=some none) {CN:Addr} (aCN:PySem.W.nsIn K mainGlobals "NoPaper"=some (some (.ref CN))) {CE:Addr} (aCE:PySem.W.nsIn K mainGlobals "ChainError"=some (some (.ref CE))) {d1:Addr} (ad1:PySem.W.nsIn K mainGlobals "Down"=some (some (.ref d1))) {d2:Addr} (ad2:PySem.W.nsIn K mainGlobals "NoBench"=some (some (.ref d2))) {d3:Addr} (ad3:PySem.W.nsIn K mainGlobals "NoDeed"=some (some (.ref d3))) {d4:Addr} (ad4:PySem.W.nsIn K mainGlobals "NoHouse"=some (some (.ref d4))) {d5:Addr} (ad5:PySem.W.nsIn K mainGlobals "NoLetter"=some (some (.ref d5))) {d6:Addr} (ad6:PySem.W.nsIn K mainGlobals "NoText"=some (some (.ref d6))) {d7:Addr} (ad7:PySem.W.nsIn K mainGlobals "NoTown"=some (some (.ref d7))) {d8:Addr} (ad8:PySem.W.nsIn K mainGlobals "NotChair"=some (some (.ref d8))) {d9:Addr} (ad9:PySem.W.nsIn K mainGlobals "NotYet"=some (some (.ref d9))) {d10:Addr} (ad10:PySem.W.nsIn K mainGlobals "Old"=some (some (.ref d10))) {d11:Addr} (ad11:PySem.W.nsIn K mainGlobals "Standing"=some (some (.ref d11))) (xCE:PySem.W.excIn K CE bmV "ValueError.__new__"=true) (xCN:eG K CN bmV "ValueError.__new__"=true) {fnpi:Addr} {odnpi annpi:Option Addr} {slnpi:Array (Option Value)} {ocnpi kVnpi dcnpi pmnpi cdnpi ctnpi:Value} (anpi:PySem.W.findIn K (.ref CN) "__init__"=some (some (.ref fnpi))) (inpi:PySem.W.isFn K (.ref fnpi)=true) (lnpi:K.lookup fnpi=some ⟨ocnpi,odnpi,.func (PySem.W.fnOf "__init__" "NoPaper.__init__" (aI oZ) (aF oZ) (ai oZ) .none kVnpi dcnpi pmnpi annpi cdnpi ctnpi),slnpi⟩) (cnpi:PySem.W.codeIn K cdnpi "NoPaper.__init__"=true) (knpi:PySem.W.keepIn K (.ref fnpi)=true) (kcN:PySem.W.keepIn K (.ref CN)=true) (saN:PySem.W.findIn K (.ref CN) "__setattr__"=some (some (.builtin "object.__setattr__"))) (noN:PySem.W.findIn K (.ref CN) "number"=some none) (rdE:PySem.W.readsIn K CE (.type "type")=true) (fcE:PySem.W.findCls K (.ref CE) (.type "type") "__init__"=some (.val (.builtin "ValueError.__init__"))) (gaE:PySem.W.specialIn K (.ref CE) "__getattribute__"=some (some (.builtin "type.__getattribute__"))) (f1CN:PySem.W.findIn K (.ref CN) "__getattribute__"=some (some (.builtin "BaseException.__getattribute__"))) (f2CN:PySem.W.findIn K (.ref CN) "__getattr__"=some none) (f3CN:PySem.W.findIn K (.ref CN) "__class__"=some (some (.builtin "object.__class__"))) (hmCN:PySem.W.mroIn K CN (.type "object")=some true) (kvN:PySem.W.kitOne K (.ref CN) (.type "ValueError")=some true) (kbN:PySem.W.kitOne K (.type "int") (.type "bool")=some false) (kaN:PySem.W.kitAny K (.ref CN) ([d1,d2,d3,d4,d5,d6,d7].map Value.ref)=some false) (kdN:PySem.W.kitAny K (.ref CN) ([d8,d9,d10,d11].map Value.ref)=some false) (suN:PySem.W.mroIn K CN (.ref CE)=some true) :
  ∃ fd:FuncData,(∀ (s:Shared) (v:Value),BindsTo s fd ⟨[v],[]⟩ [("_law_script",v)]) /\ ∀ base:Heap,K.In base -> base.Ns mainGlobals mg -> a7 l.prog w K mg base CX0 11 fa fd ["_law_script"] (nF K):=by
 have e:=hfa.symm.trans (PySem.W.mg_of X G alaw)
 cases e
 have nlen:=PySem.W.mg_none_of X G zlen
 have nrange:=PySem.W.mg_none_of X G zrange
 have nmin:=PySem.W.mg_none_of X G zmin
 have nlist:=PySem.W.mg_none_of X G zlist
 have ntuple:=PySem.W.mg_none_of X G ztuple
 have nsorted:=PySem.W.mg_none_of X G zsorted
 have nisinstance:=PySem.W.mg_none_of X G zisinstance
 have nstr:=PySem.W.mg_none_of X G zstr
 have nall:=PySem.W.mg_none_of X G zall
 have nany:=PySem.W.mg_none_of X G zany
 have nzip:=PySem.W.mg_none_of X G zzip
 have nset:=PySem.W.mg_none_of X G zset
 have nint:=PySem.W.mg_none_of X G zint
 have nbool:=PySem.W.mg_none_of X G zbool
 have nabs:=PySem.W.mg_none_of X G zabs
 have nenumerate:=PySem.W.mg_none_of X G zenumerate
 have nmax:=PySem.W.mg_none_of X G zmax
 have nValueError:=PySem.W.mg_none_of X G zValueError
 have mabc:=PySem.W.mg_of X G gabc
 have msev:=PySem.W.mg_of X G gsev
 have mfou:=PySem.W.mg_of X G gfou
 have B:Blt mg:={ len:=nlen,range:=nrange,min:=nmin,list:=nlist,tuple:=ntuple,sorted:=nsorted }
 have T:Bl2 mg:={ isi:=nisinstance,str:=nstr,all:=nall,any:=nany,zip:=nzip,set:=nset,abc:=⟨_,mabc⟩,sev:=⟨_,msev⟩,fou:=⟨_,mfou⟩ }
 have PB:K84P.Blt mg:={ len:=nlen,list:=nlist,tuple:=ntuple,sorted:=nsorted }
 have PT:K84P.Bl2 mg:={ isi:=nisinstance,str:=nstr,all:=nall,any:=nany,zip:=nzip,set:=nset,abc:=⟨_,mabc⟩,sev:=⟨_,msev⟩,fou:=⟨_,mfou⟩ }
 have PU:K84P.Bl3 mg:={ int:=nint,bool:=nbool,abs:=nabs }
 have TC:Cl K mg C:=⟨⟨pgC,hdC,poC,saC⟩,nC_benches,nC_chairs,nC_entries,PySem.W.mg_of X G aC⟩
 have XC:ExcC K mg "ChainError" CE:=⟨PySem.W.mg_of X G aCE,xCE⟩
 have KN:iz K CN:=⟨xCN,f1CN,f2CN,f3CN,hmCN⟩
 have TN:NPC K mg CN CE fnpi:=⟨⟨xCN,anpi,inpi,kcN⟩,⟨xCN,saN,noN⟩,⟨KN,noN⟩,PySem.W.mg_of X G aCN,XC.mgC,⟨rdE,fcE,gaE⟩⟩
 have TE:ErF K mg CN CE d1 d2 d3 d4 d5 d6 d7 d8 d9 d10 d11:=⟨KN,PySem.W.mg_of X G ad1,PySem.W.mg_of X G ad2,PySem.W.mg_of X G ad3,PySem.W.mg_of X G ad4,PySem.W.mg_of X G ad5,PySem.W.mg_of X G ad6,PySem.W.mg_of X G ad7,PySem.W.mg_of X G ad8,PySem.W.mg_of X G ad9,PySem.W.mg_of X G ad10,PySem.W.mg_of X G ad11,nisinstance,nValueError,nbool,by unfold PySem.W.kitOne; rw [if_pos (by simp)],kvN,kbN,kaN,kdN,suN⟩
 have Fnpi:=aP (st:=oZ) lnpi cnpi knpi
 have bnpi:=Fnpi.binds (ps:=["self","number"]) fun _ _ _ _ _ _ us hl=>by obtain ⟨a0,a1,rfl⟩:=dH hl; rfl
 have Fwhole:=aP (st:=K84P.gg) lwhole cwhole kwhole
 have bwhole:=Fwhole.binds (ps:=["thing"]) fun _ _ _ _ _ _ us hl=>by obtain ⟨a0,rfl⟩:=gb hl; rfl
 have Ffrom:=aP (st:=K84P.jb) lfrom cfrom kfrom
 have bfrom:=Ffrom.binds (ps:=["thing","least"]) fun _ _ _ _ _ _ us hl=>by obtain ⟨a0,a1,rfl⟩:=dH hl; rfl
 have Fname:=aP (st:=K84P.fj) lname cname kname
 have bname:=Fname.binds (ps:=["thing"]) fun _ _ _ _ _ _ us hl=>by obtain ⟨a0,rfl⟩:=gb hl; rfl
 have Frise:=aP (st:=K84P.gz) lrise crise krise
 have brise:=Frise.binds (ps:=["thing"]) fun _ _ _ _ _ _ us hl=>by obtain ⟨a0,rfl⟩:=gb hl; rfl
 have Fwnum:=aP (st:=K84P.jc) lwnum cwnum kwnum
 have bwnum:=Fwnum.binds (ps:=["thing"]) fun _ _ _ _ _ _ us hl=>by obtain ⟨a0,rfl⟩:=gb hl; rfl
 have Fwork:=aP (st:=K84P.gh) lwork cwork kwork
 have bwork:=Fwork.binds (ps:=["thing"]) fun _ _ _ _ _ _ us hl=>by obtain ⟨a0,rfl⟩:=gb hl; rfl
 have Fask:=aP (st:=K84P.oF) lask cask kask
 have bask:=Fask.binds (ps:=["asker","number","work"]) fun _ _ _ _ _ _ us hl=>by obtain ⟨a0,a1,a2,rfl⟩:=jH hl; rfl
 have Fisb:=aP (st:=K84P.kz) lisb cisb kisb
 have bisb:=Fisb.binds (ps:=["thing"]) fun _ _ _ _ _ _ us hl=>by obtain ⟨a0,rfl⟩:=gb hl; rfl
 have Fjoined:=aP (st:=cM) ljoined cjoined kjoined
 have bjoined:=Fjoined.binds (ps:=["bench"]) fun _ _ _ _ _ _ us hl=>by obtain ⟨a0,rfl⟩:=gb hl; rfl
 have Fmost:=aP (st:=ij) lmost cmost kmost
 have bmost:=Fmost.binds (ps:=["side","names"]) fun _ _ _ _ _ _ us hl=>by obtain ⟨a0,a1,rfl⟩:=dH hl; rfl
 have Fhalf:=aP (st:=ja) lhalf chalf khalf
 have bhalf:=Fhalf.binds (ps:=["bench","names"]) fun _ _ _ _ _ _ us hl=>by obtain ⟨a0,a1,rfl⟩:=dH hl; rfl
 have Fbeh:=aP (st:=oA) lbeh cbeh kbeh
 have bbeh:=Fbeh.binds (ps:=["bench"]) fun _ _ _ _ _ _ us hl=>by obtain ⟨a0,rfl⟩:=gb hl; rfl
 have Fstep:=aP (st:=jd) lstep cstep kstep
 have bstep:=Fstep.binds (ps:=["bench","other"]) fun _ _ _ _ _ _ us hl=>by obtain ⟨a0,a1,rfl⟩:=dH hl; rfl
 have Fdeed:=aP (st:=K84P.gi) ldeed cdeed kdeed
 have bdeed:=Fdeed.binds (ps:=["thing"]) fun _ _ _ _ _ _ us hl=>by obtain ⟨a0,rfl⟩:=gb hl; rfl
 have Fentry:=aP (st:=K84P.eQ) lentry centry kentry
 have bentry:=Fentry.binds (ps:=["thing"]) fun _ _ _ _ _ _ us hl=>by obtain ⟨a0,rfl⟩:=gb hl; rfl
 have Fcp:=aP (st:=sCP) lcp ccp kcp
 have bcp:=Fcp.binds (ps:=["thing"]) fun _ _ _ _ _ _ us hl=>by obtain ⟨a0,rfl⟩:=gb hl; rfl
 have Fsp:=aP (st:=sSP) lsp csp ksp
 have bsp:=Fsp.binds (ps:=["thing"]) fun _ _ _ _ _ _ us hl=>by obtain ⟨a0,rfl⟩:=gb hl; rfl
 have Flook:=aP (st:=jm) llook clook klook
 have blook:=Flook.binds (ps:=["bench","papers"]) fun _ _ _ _ _ _ us hl=>by obtain ⟨a0,a1,rfl⟩:=dH hl; rfl
 have Fcell:=aP (st:=jo) lcell ccell kcell
 have bcell:=Fcell.binds (ps:=["_law_script","_law_k"]) fun _ _ _ _ _ _ us hl=>by obtain ⟨a0,a1,rfl⟩:=dH hl; rfl
 have Ftake:=aP (st:=i5) ltake ctake ktake
 have btake:=Ftake.binds (ps:=["_law_rest_here","_law_base"]) fun _ _ _ _ _ _ us hl=>by obtain ⟨a0,a1,rfl⟩:=dH hl; rfl
 have Frest:=aP (st:=i6) lrest crest krest
 have brest:=Frest.binds (ps:=["_law_cell"]) fun _ _ _ _ _ _ us hl=>by obtain ⟨a0,rfl⟩:=gb hl; rfl
 have Fnames:=aP (st:=df) lnames cnames knames
 have bnames:=Fnames.binds (ps:=["_law_rest_here","_law_many"]) fun _ _ _ _ _ _ us hl=>by obtain ⟨a0,a1,rfl⟩:=dH hl; rfl
 have Fsome:=aP (st:=i7) lsome csome ksome
 have bsome:=Fsome.binds (ps:=["_law_rest_here","_law_names_here","_law_least","_law_most_here"]) fun _ _ _ _ _ _ us hl=>by obtain ⟨a0,a1,a2,a3,rfl⟩:=len4 hl; rfl
 have Fbench:=aP (st:=fi) lbench cbench kbench
 have bbench:=Fbench.binds (ps:=["_law_rest_here","_law_names_here"]) fun _ _ _ _ _ _ us hl=>by obtain ⟨a0,a1,rfl⟩:=dH hl; rfl
 have Fent:=aP (st:=pd) lent cent kent
 have bent:=Fent.binds (ps:=["_law_rest_here","_law_term","_law_names_here"]) fun _ _ _ _ _ _ us hl=>by obtain ⟨a0,a1,a2,rfl⟩:=jH hl; rfl
 have Flmost:=aP (st:=fo) llmost clmost klmost
 have blmost:=Flmost.binds (ps:=["_law_rest_here","_law_bench_here","_law_names_here"]) fun _ _ _ _ _ _ us hl=>by obtain ⟨a0,a1,a2,rfl⟩:=jH hl; rfl
 have Fstepf:=aP (st:=fq) lstepf cstepf kstepf
 have bstepf:=Fstepf.binds (ps:=["_law_rest_here","_law_bench_here","_law_names_here"]) fun _ _ _ _ _ _ us hl=>by obtain ⟨a0,a1,a2,rfl⟩:=jH hl; rfl
 have Fchp:=aP (st:=md) lchp cchp kchp
 have bchp:=Fchp.binds (ps:=["_law_rest_here","_law_story","_law_names_here"]) fun _ _ _ _ _ _ us hl=>by obtain ⟨a0,a1,a2,rfl⟩:=jH hl; rfl
 have Fstp:=aP (st:=mf) lstp cstp kstp
 have bstp:=Fstp.binds (ps:=["_law_rest_here","_law_story","_law_names_here"]) fun _ _ _ _ _ _ us hl=>by obtain ⟨a0,a1,a2,rfl⟩:=jH hl; rfl
 have Fnxp:=aP (st:=pf) lnxp cnxp knxp
 have bnxp:=Fnxp.binds (ps:=["_law_rest_here","_law_story","_law_names_here"]) fun _ _ _ _ _ _ us hl=>by obtain ⟨a0,a1,a2,rfl⟩:=jH hl; rfl
 have Flkd:=aP (st:=ph) llkd clkd klkd
 have blkd:=Flkd.binds (ps:=["_law_bench_here","_law_papers"]) fun _ _ _ _ _ _ us hl=>by obtain ⟨a0,a1,rfl⟩:=dH hl; rfl
 have Flhalf:=aP (st:=ft) llhalf clhalf klhalf
 have blhalf:=Flhalf.binds (ps:=["_law_bench_here","_law_names_here"]) fun _ _ _ _ _ _ us hl=>by obtain ⟨a0,a1,rfl⟩:=dH hl; rfl
 have Flknown:=aP (st:=eU) llknown clknown klknown
 have blknown:=Flknown.binds (ps:=["_law_bench_here","_law_known_here"]) fun _ _ _ _ _ _ us hl=>by obtain ⟨a0,a1,rfl⟩:=dH hl; rfl
 have Fsho:=aP (st:=pj) lsho csho ksho
 have bsho:=Fsho.binds (ps:=["_law_paper","_law_row","_law_known_here","_law_chairs"]) fun _ _ _ _ _ _ us hl=>by obtain ⟨a0,a1,a2,a3,rfl⟩:=len4 hl; rfl
 have Fdue:=aP (st:=mh) ldue cdue kdue
 have bdue:=Fdue.binds (ps:=["_law_bench_here","_law_papers"]) fun _ _ _ _ _ _ us hl=>by obtain ⟨a0,a1,rfl⟩:=dH hl; rfl
 have Fanp:=aP (st:=pr) lanp canp kanp
 have banp:=Fanp.binds (ps:=["_law_rest_here","_law_story","_law_names_here"]) fun _ _ _ _ _ _ us hl=>by obtain ⟨a0,a1,a2,rfl⟩:=jH hl; rfl
 have Flaw:=aP (st:=jY) llaw claw klaw
 have Finit:=aP (st:=jf) linit cinit kinit
 have binit:=Finit.binds (ps:=["self","bench"]) fun _ _ _ _ _ _ us hl=>by obtain ⟨a0,a1,rfl⟩:=dH hl; rfl
 have Fknown:=aP (st:=fm) lknown cknown kknown
 have bknown:=Fknown.binds (ps:=["self","bench"]) fun _ _ _ _ _ _ us hl=>by obtain ⟨a0,a1,rfl⟩:=dH hl; rfl
 have Fchh:=aP (st:=eR) lchh cchh kchh
 have bchh:=Fchh.binds (ps:=["self","term","bench","yes"]) fun _ _ _ _ _ _ us hl=>by obtain ⟨a0,a1,a2,a3,rfl⟩:=len4 hl; rfl
 have Fseth:=aP (st:=jg) lseth cseth kseth
 have bseth:=Fseth.binds (ps:=["self","paper"]) fun _ _ _ _ _ _ us hl=>by obtain ⟨a0,a1,rfl⟩:=dH hl; rfl
 have Fjoint:=aP (st:=gk) ljoint cjoint kjoint
 have bjoint:=Fjoint.binds (ps:=["self","before","entries"]) fun _ _ _ _ _ _ us hl=>by obtain ⟨a0,a1,a2,rfl⟩:=jH hl; rfl
 have Fnote:=aP (st:=jh) lnote cnote knote
 have bnote:=Fnote.binds (ps:=["self","bench"]) fun _ _ _ _ _ _ us hl=>by obtain ⟨a0,a1,rfl⟩:=dH hl; rfl
 have Ftakep:=aP (st:=gl) ltakep ctakep ktakep
 have btakep:=Ftakep.binds (ps:=["self","paper"]) fun _ _ _ _ _ _ us hl=>by obtain ⟨a0,a1,rfl⟩:=dH hl; rfl
 refine ⟨PySem.W.fnOf "law" "law" (aI jY) (aF jY) (ai jY) .none kVlaw dclaw pmlaw anlaw cdlaw ctlaw,fun s v=>.of_eq rfl,fun base _ _=>?_⟩
 have MX:MkX l.prog w K mg base CN:=⟨_,_,ok_npi Fnpi TN,bnpi,⟨xCN,anpi,inpi,kcN⟩⟩
 have Awhole:aL l.prog w K mg base 1 "is_whole" ["thing"] K84P.gK:=⟨_,_,K84P.qK Fwhole PT PU,PySem.W.mg_of X G awhole,kwhole,bwhole⟩
 have Afrom:aL l.prog w K mg base 2 "is_whole_from" ["thing","least"] K84P.gj:=⟨_,_,K84P.ok_from Ffrom Awhole,PySem.W.mg_of X G afrom,kfrom,bfrom⟩
 have Aname:aL l.prog w K mg base 1 "is_name" ["thing"] K84P.lF:=⟨_,_,K84P.qD Fname PB PT,PySem.W.mg_of X G aname,kname,bname⟩
 have Arise:aL l.prog w K mg base 2 "is_rising_names" ["thing"] K84P.io:=⟨_,_,K84P.ok_rise Frise PB PT Aname,PySem.W.mg_of X G arise,krise,brise⟩
 have Awnum:aL l.prog w K mg base 2 "is_work_number" ["thing"] K84P.lH:=⟨_,_,K84P.ok_wnum Fwnum PU Awhole,PySem.W.mg_of X G awnum,kwnum,bwnum⟩
 have Awork:aL l.prog w K mg base 3 "is_work" ["thing"] K84P.jP:=⟨_,_,K84P.qL Fwork PB PT Aname Awnum,PySem.W.mg_of X G awork,kwork,bwork⟩
 have Aask:aL l.prog w K mg base 4 "is_ask" ["asker","number","work"] K84P.qH:=⟨_,_,K84P.ok_ask Fask Aname Afrom Awork,PySem.W.mg_of X G aask,kask,bask⟩
 have Pjoined:aL l.prog w K mg base 1 "is_joined" ["bench"] K84P.cj:=⟨_,_,K84P.gd Fjoined nlen,PySem.W.mg_of X G ajoined,kjoined,bjoined⟩
 have Ajoined:aL l.prog w K mg base 1 "is_joined" ["bench"] cj:=⟨_,_,gd Fjoined nlen,PySem.W.mg_of X G ajoined,kjoined,bjoined⟩
 have Aisb:aL l.prog w K mg base 3 "is_bench" ["thing"] K84P.kA:=⟨_,_,K84P.ok_isB Fisb PB PT Arise Pjoined,PySem.W.mg_of X G aisb,kisb,bisb⟩
 have Amost:aL l.prog w K mg base 1 "is_most" ["side","names"] lE:=⟨_,_,ok_most Fmost nlen,PySem.W.mg_of X G amost,kmost,bmost⟩
 have Ahalf:aL l.prog w K mg base 2 "is_half" ["bench","names"] jL:=⟨_,_,ok_half Fhalf Ajoined Amost,PySem.W.mg_of X G ahalf,khalf,bhalf⟩
 have Abeh:aL l.prog w K mg base 2 "behind" ["bench"] qA:=⟨_,_,ok_beh Fbeh Ajoined,PySem.W.mg_of X G abeh,kbeh,bbeh⟩
 have Astep:aL l.prog w K mg base 3 "is_step" ["bench","other"] lI:=⟨_,_,ok_step Fstep Ajoined Abeh,PySem.W.mg_of X G astep,kstep,bstep⟩
 have Adeed:aL l.prog w K mg base 5 "is_deed" ["thing"] K84P.jQ:=⟨_,_,K84P.qM Fdeed PB PT Aask Aisb,PySem.W.mg_of X G adeed,kdeed,bdeed⟩
 have Aentry:aL l.prog w K mg base 6 "is_entry" ["thing"] K84P.iq:=⟨_,_,K84P.oH Fentry PB PT Afrom Adeed,PySem.W.mg_of X G aentry,kentry,bentry⟩
 have Acp:aL l.prog w K mg base 4 "is_chair_paper" ["thing"] spCP:=⟨_,_,ok_cp Fcp B T Afrom Aname Aisb Arise,PySem.W.mg_of X G acp,kcp,bcp⟩
 have Asp:aL l.prog w K mg base 7 "is_settled_paper" ["thing"] spSP:=⟨_,_,ok_sp Fsp B T Afrom Aname Aisb Arise Aentry,PySem.W.mg_of X G asp,ksp,bsp⟩
 have Minit:MkAt l.prog w K mg base C 1 ["self","bench"] (lK C):=⟨_,_,ok_init Finit TC,binit,⟨mkC,ainit,iinit,kcC⟩⟩
 have Mknown:fG l.prog w K mg base C 4 "is_known" ["self","bench"] (gM C):=⟨_,_,qP Fknown TC nany Astep,bknown,⟨aknown,iknown,kknown⟩⟩
 have Mchh:fG l.prog w K mg base C 5 "is_chair_held" ["self","term","bench","yes"] (iw C):=⟨_,_,oM Fchh TC Mknown Ahalf,bchh,⟨achh,ichh,kchh⟩⟩
 have Mjoint:fG l.prog w K mg base C 1 "is_joint" ["self","before","entries"] (jS C):=⟨_,_,qS Fjoint TC B,bjoint,⟨ajoint,ijoint,kjoint⟩⟩
 have Mseth:fG l.prog w K mg base C 5 "is_settled_held" ["self","paper"] (lP C):=⟨_,_,ok_setH Fseth TC B Mknown Ahalf Mjoint,bseth,⟨aseth,iseth,kseth⟩⟩
 have Mnote:fG l.prog w K mg base C 1 "note_bench" ["self","bench"] (lU C):=⟨_,_,ok_note Fnote TC,bnote,⟨anote,inote,knote⟩⟩
 have Mtakep:fG l.prog w K mg base C 8 "take_paper" ["self","paper"] (jT C):=⟨_,_,qW Ftakep TC B Acp Asp Mchh Mseth Mnote,btakep,⟨atakep,itakep,ktakep⟩⟩
 have Alook:q0 l.prog w K mg base 9 "look_over" ["bench","papers"] (l7 CN):=⟨_,_,ok_look Flook TC TN nenumerate Minit MX Mtakep,PySem.W.mg_of X G alook,klook,blook⟩
 have Acell:aL l.prog w K mg base 1 "_law_cell_at" ["_law_script","_law_k"] (mi K):=⟨_,_,ok_cell Fcell nlen,PySem.W.mg_of X G acell,kcell,bcell⟩
 have Atake:aL l.prog w K mg base 1 "_law_take" ["_law_rest_here","_law_base"] cw:=⟨_,_,ok_take Ftake,PySem.W.mg_of X G atake,ktake,btake⟩
 have Arest:aL l.prog w K mg base 1 "_law_rest" ["_law_cell"] lC:=⟨_,_,ok_rest Frest,PySem.W.mg_of X G arest,krest,brest⟩
 have Anames:aL l.prog w K mg base 2 "_law_names" ["_law_rest_here","_law_many"] jK:=⟨_,_,qv Fnames B Atake,PySem.W.mg_of X G anames,knames,bnames⟩
 have Asome:aL l.prog w K mg base 2 "_law_some" ["_law_rest_here","_law_names_here","_law_least","_law_most_here"] gc:=⟨_,_,ok_some Fsome B Atake,PySem.W.mg_of X G asome,ksome,bsome⟩
 have Abench:aL l.prog w K mg base 3 "_law_bench" ["_law_rest_here","_law_names_here"] fL:=⟨_,_,qy Fbench Atake Asome,PySem.W.mg_of X G abench,kbench,bbench⟩
 have Aent:aL l.prog w K mg base 4 "_law_entry" ["_law_rest_here","_law_term","_law_names_here"] nq:=⟨_,_,ok_ent Fent B Atake Abench,PySem.W.mg_of X G aent,kent,bent⟩
 have Almost:aL l.prog w K mg base 3 "_law_most" ["_law_rest_here","_law_bench_here","_law_names_here"] fP:=⟨_,_,rl Flmost B Asome,PySem.W.mg_of X G almost,klmost,blmost⟩
 have Astepf:aL l.prog w K mg base 3 "_law_step_from" ["_law_rest_here","_law_bench_here","_law_names_here"] gN:=⟨_,_,rm Fstepf Atake Asome,PySem.W.mg_of X G astepf,kstepf,bstepf⟩
 have Achp:aL l.prog w K mg base 4 "_law_chair_paper" ["_law_rest_here","_law_story","_law_names_here"] rp:=⟨_,_,ok_chP Fchp B Atake Astepf Almost,PySem.W.mg_of X G achp,kchp,bchp⟩
 have Astp:aL l.prog w K mg base 5 "_law_settled_paper" ["_law_rest_here","_law_story","_law_names_here"] rz:=⟨_,_,ok_stP Fstp B Atake Astepf Almost Aent,PySem.W.mg_of X G astp,kstp,bstp⟩
 have Anxp:aL l.prog w K mg base 6 "_law_next_paper" ["_law_rest_here","_law_story","_law_names_here"] rA:=⟨_,_,ok_nxP Fnxp Atake Achp Astp,PySem.W.mg_of X G anxp,knxp,bnxp⟩
 have Alkd:aL l.prog w K mg base 10 "_law_looked" ["_law_bench_here","_law_papers"] rB:=⟨_,_,ok_lkd Flkd TN XC TE Alook,PySem.W.mg_of X G alkd,klkd,blkd⟩
 have Alhalf:aL l.prog w K mg base 1 "_law_half" ["_law_bench_here","_law_names_here"] gO:=⟨_,_,rC Flhalf nlen,PySem.W.mg_of X G alhalf,klhalf,blhalf⟩
 have Alknown:aL l.prog w K mg base 1 "_law_known" ["_law_bench_here","_law_known_here"] fQ:=⟨_,_,pi Flknown,PySem.W.mg_of X G alknown,klknown,blknown⟩
 have Asho:aL l.prog w K mg base 2 "_law_settled_holds" ["_law_paper","_law_row","_law_known_here","_law_chairs"] rF:=⟨_,_,ok_sho Fsho B Alknown Alhalf,PySem.W.mg_of X G asho,ksho,bsho⟩
 have Adue:aL l.prog w K mg base 3 "_law_due" ["_law_bench_here","_law_papers"] rG:=⟨_,_,ok_due Fdue B nmax nenumerate bMaxK Alknown Alhalf Asho,PySem.W.mg_of X G adue,kdue,bdue⟩
 have Aanp:aL l.prog w K mg base 5 "_law_any_paper" ["_law_rest_here","_law_story","_law_names_here"] rH:=⟨_,_,ok_anP Fanp B nmax bMaxK Atake Asome Abench Almost Aent,PySem.W.mg_of X G aanp,kanp,banp⟩
 exact ok_law Flaw B Acell Atake Arest Anames Abench Aanp Anxp Alkd Adue
theorem walk {l:PySem.W.OpenLaw} {q:Program} {loose:List Str} {XP:(Str -> Option Value) -> Heap -> Prop} {YP:World -> Heap -> Prop} {d:DefRec} {K:Params -> PySem.W.Frag} (hn:l.most=some 63) (hdf:d.params.defaults=[])
  (hY:∀ (w:World) (h:Heap),YP w h -> (K w.params).In h)
  (F:∀ (w:World) (mg:Str -> Option Value) (fa:Addr) (h:Heap),(K w.params).In h -> h.Ns mainGlobals mg -> mg d.name=some (.ref fa) ->
   ∃ fd:FuncData,(∀ (s:Shared) (u:Value),BindsTo s fd ⟨[u],[]⟩ [("_law_script",u)]) /\ ∀ base:Heap,(K w.params).In base -> base.Ns mainGlobals mg -> a7 l.prog w (K w.params) mg base CX0 11 fa fd ["_law_script"] (nF (K w.params))) :
  PySem.W.WalkO q loose XP YP l.row.toRowW d [] (fun f vs=>PySem.call f vs) :=
 L2.walk_of (n:=63) (k:=11) (x:="_law_script") (CX:=fun _=>CX0) (sp:=fun w=>nF (K w.params)) hn (by decide) hdf ⟨rfl,by decide,by decide⟩ hY F (fun _ _ a ns hl _ hS=>⟨a,ns,rfl,hS,hl,fun _=>rfl⟩) fun _ _ _ _ _ z=>z
end K84
def PySem.W.Fast.tw15854311186954933228 : Nat := 0
def PySem.W.Fast.tw13576481038513419007 : Nat := 0
def PySem.W.Fast.tw10239935061947601157 : Nat := 0
def PySem.W.Fast.tw6823530227344647709 : Nat := 0
def PySem.W.Fast.tw3396100660215675273 : Nat := 0
def PySem.W.Fast.tw15810986490870784673 : Nat := 0
def PySem.W.Fast.tw4634201634346030312 : Nat := 0
def PySem.W.Fast.tw4990989442410326247 : Nat := 0
def PySem.W.Fast.tw17583394996669825356 : Nat := 0
def PySem.W.Fast.tw9492146761304258935 : Nat := 0
def PySem.W.Fast.tw8655870576864405946 : Nat := 0
def PySem.W.Fast.tw7909171742219220049 : Nat := 0
def PySem.W.Fast.tw16630558141042351474 : Nat := 0
def PySem.W.Fast.tw16848451163387974068 : Nat := 0
def PySem.W.Fast.tw6198394295039322803 : Nat := 0
def PySem.W.Fast.tw18376659241106722916 : Nat := 0
def PySem.W.Fast.tw145851170471758559 : Nat := 0
def PySem.W.Fast.tw2895661199914642767 : Nat := 0
def PySem.W.Fast.tw18116491691904973419 : Nat := 0
def PySem.W.Fast.tw12370632435014392260 : Nat := 0
def PySem.W.Fast.tw2055230085710647623 : Nat := 0
def PySem.W.Fast.tw2701818121139414873 : Nat := 0
def PySem.W.Fast.tw8288084590278485564 : Nat := 0
def PySem.W.Fast.tw1790528695831966037 : Nat := 0
def PySem.W.Fast.tw8666651733816208724 : Nat := 0
def PySem.W.Fast.tw5937467483636177262 : Nat := 0
def PySem.W.Fast.tw5429068062974579573 : Nat := 0
def PySem.W.Fast.tw8942007842359585063 : Nat := 0
def PySem.W.Fast.tw17676157541649730826 : Nat := 0
def PySem.W.Fast.tw9458757114368298894 : Nat := 0
def PySem.W.Fast.tw2037742642753986377 : Nat := 0
def PySem.W.Fast.tw12288779053280422339 : Nat := 0
def PySem.W.Fast.tw3952434829259284650 : Nat := 0
def PySem.W.Fast.tw12361825591746292267 : Nat := 0
def PySem.W.Fast.tw15787899817717703091 : Nat := 0
def PySem.W.Fast.tw9290489860972469713 : Nat := 0
def PySem.W.Fast.tw10516226667597221217 : Nat := 0
def PySem.W.Fast.tw1042592629564385620 : Nat := 0
def PySem.W.Fast.tw146083860697357594 : Nat := 0
def PySem.W.Fast.tw11341060447994508428 : Nat := 0
def PySem.W.Fast.tw15052214180098482524 : Nat := 0
def PySem.W.Fast.tw7447619002247931958 : Nat := 0
def PySem.W.Fast.tw16220419180365953230 : Nat := 0
def PySem.W.Fast.tw17606726147819944766 : Nat := 0
def PySem.W.Fast.tw11119643288318587599 : Nat := 0
def PySem.W.Fast.tw12788333378366278837 : Nat := 0
def PySem.W.Fast.tw7012702043936229341 : Nat := 0
def PySem.W.Fast.tw17158747941545312779 : Nat := 0
def PySem.W.Fast.tw6532032718188933236 : Nat := 0
def PySem.W.Fast.tw2610269527685339110 : Nat := 0
def PySem.W.Fast.tw15121928764373452294 : Nat := 0
def PySem.W.Fast.tw1284379742196236315 : Nat := 0
def PySem.W.Fast.tw8587443972423955352 : Nat := 0
def PySem.W.Fast.tw9704728127958127140 : Nat := 0
def PySem.W.Fast.tw17175154228775020993 : Nat := 0
def PySem.W.Fast.tw452165283169834440 : Nat := 0
def PySem.W.Fast.tw3207653342971567149 : Nat := 0
def PySem.W.Fast.tw10751285868433894928 : Nat := 0
def PySem.W.Fast.tw7260574924785209045 : Nat := 0
def PySem.W.Fast.tw2019491768829440809 : Nat := 0
def PySem.W.Fast.tw1794891493478283138 : Nat := 0
def PySem.W.Fast.tw810106696450977352 : Nat := 0
def PySem.W.Fast.tw16147203324414293169 : Nat := 0
def PySem.W.Fast.tw4567487751808232107 : Nat := 0
def PySem.W.Fast.tw7389522212357770628 : Nat := 0
def PySem.W.Fast.tw557910902067536108 : Nat := 0
def PySem.W.Fast.tw11513569225832446674 : Nat := 0
def PySem.W.Fast.tw3435709007387196417 : Nat := 0
def PySem.W.Fast.tw8070675552583220705 : Nat := 0
def PySem.W.Fast.tw9616562024807954866 : Nat := 0
def PySem.W.Fast.tw7214698018591812000 : Nat := 0
def PySem.W.Fast.tw7387758972374334014 : Nat := 0
def PySem.W.Fast.tw9813816883379794671 : Nat := 0
def PySem.W.Fast.tw16157997204263705229 : Nat := 0
def PySem.W.Fast.tw1291117101984060089 : Nat := 0
def PySem.W.Fast.tw15059064020103258489 : Nat := 0
def PySem.W.Fast.tw10608761926011841 : Nat := 0
def PySem.W.Fast.tw9950059783704860996 : Nat := 0
def PySem.W.Fast.tw16278961992695703597 : Nat := 0
def PySem.W.Fast.tw15759747714387744646 : Nat := 0
def PySem.W.Fast.tw1376287747132728661 : Nat := 0
def PySem.W.Fast.tw10014065907397630754 : Nat := 0
def PySem.W.Fast.tw10615541648875190743 : Nat := 0
def PySem.W.Fast.tw16233280966028523347 : Nat := 0
def PySem.W.Fast.tw1721492847186547884 : Nat := 0
def PySem.W.Fast.tw14230633761095939130 : Nat := 0
def PySem.W.Fast.tw6153539324506693588 : Nat := 0
def PySem.W.Fast.tw16480225779485033301 : Nat := 0
def PySem.W.Fast.tw3741733174189776830 : Nat := 0
def PySem.W.Fast.tw3877698107467651024 : Nat := 0
def PySem.W.Fast.tw1126730148995507883 : Nat := 0
def PySem.W.Fast.tw467209346680733519 : Nat := 0
def PySem.W.Fast.tw6048301017611095381 : Nat := 0
def PySem.W.Fast.tw11523716036350212769 : Nat := 0
def PySem.W.Fast.tw16059175523039988222 : Nat := 0
def PySem.W.Fast.tw16737982656058246299 : Nat := 0
def PySem.W.Fast.tw7008440795448822154 : Nat := 0
def PySem.W.Fast.tw13840532316206582126 : Nat := 0
def PySem.W.Fast.tw11366927687904710040 : Nat := 0
def PySem.W.Fast.tw10152152982673195727 : Nat := 0
def PySem.W.Fast.tw14302940974379526079 : Nat := 0
def PySem.W.Fast.tw15039613749241642390 : Nat := 0
def PySem.W.Fast.tw11878211640331089292 : Nat := 0
def PySem.W.Fast.tw1369670087479456705 : Nat := 0
def PySem.W.Fast.tw9866628798694476262 : Nat := 0
def PySem.W.Fast.tw11583419558659445338 : Nat := 0
def PySem.W.Fast.tw15975401787923285093 : Nat := 0
def PySem.W.Fast.tw16935471159728555744 : Nat := 0
def PySem.W.Fast.tw18022199723532875140 : Nat := 0
def PySem.W.Fast.tw12209919304049321913 : Nat := 0
def PySem.W.Fast.tw13281245822514007895 : Nat := 0
def PySem.W.Fast.tw6338948061740810478 : Nat := 0
def PySem.W.Fast.tw7959705960609727733 : Nat := 0
def PySem.W.Fast.tw12184507704367682801 : Nat := 0
def PySem.W.Fast.tw544983608276230806 : Nat := 0
def PySem.W.Fast.tw13104555124370127682 : Nat := 0
def PySem.W.Fast.tw4339741952368622145 : Nat := 0
def PySem.W.Fast.tw2617239536198798556 : Nat := 0
def PySem.W.Fast.tw2744385435848817579 : Nat := 0
def PySem.W.Fast.tw11140303939689341604 : Nat := 0
def PySem.W.Fast.tw2716048777822282090 : Nat := 0
def PySem.W.Fast.tw14483847755085693621 : Nat := 0
def PySem.W.Fast.tw13990082046610518567 : Nat := 0
def PySem.W.Fast.tw3483145983125372194 : Nat := 0
def PySem.W.Fast.tw4742571021916479034 : Nat := 0
def PySem.W.Fast.tw3244902691298972169 : Nat := 0
def PySem.W.Fast.tw3655355477445379396 : Nat := 0
def PySem.W.Fast.tw5312557705496130933 : Nat := 0
def PySem.W.Fast.tw8558825793908784014 : Nat := 0
def PySem.W.Fast.tw16158447192579847432 : Nat := 0
def PySem.W.Fast.tw3131234795102881429 : Nat := 0
def PySem.W.Fast.tw14131026370021914345 : Nat := 0
def PySem.W.Fast.tw17296367190036728106 : Nat := 0
def PySem.W.Fast.tw9328412431614942965 : Nat := 0
def PySem.W.Fast.tw15362047460078900292 : Nat := 0
def PySem.W.Fast.tw2825312561841300778 : Nat := 0
def PySem.W.Fast.tw14120199144183076248 : Nat := 0
def PySem.W.Fast.tw6615688460712895336 : Nat := 0
def PySem.W.Fast.tw468289947268447534 : Nat := 0
def PySem.W.Fast.tw13831560540808313705 : Nat := 0
def PySem.W.Fast.tw904492652702974812 : Nat := 0
def PySem.W.Fast.tw7221051214129007930 : Nat := 0
def PySem.W.Fast.tw6037290843684315703 : Nat := 0
def PySem.W.Fast.tw17940950386517866217 : Nat := 0
def PySem.W.Fast.tw7102668743321500731 : Nat := 0
def PySem.W.Fast.tw17948758662623940037 : Nat := 0
def PySem.W.Fast.tw8671597525333113010 : Nat := 0
def PySem.W.Fast.tw9202673310670569771 : Nat := 0
def PySem.W.Fast.tw8614766927009135317 : Nat := 0
def PySem.W.Fast.tw13528076380967959447 : Nat := 0
def PySem.W.Fast.tw14050294667249327072 : Nat := 0
def PySem.W.Fast.tw3954903959979992148 : Nat := 0
def PySem.W.Fast.tw2893100767206642618 : Nat := 0
def PySem.W.Fast.tw9471967628595083304 : Nat := 0
def PySem.W.Fast.tw1750334727771364576 : Nat := 0
def PySem.W.Fast.tw2257938455359029518 : Nat := 0
def PySem.W.Fast.tw14156476096583885115 : Nat := 0
def PySem.W.Fast.tw2513256903567639638 : Nat := 0
def PySem.W.Fast.tw6445840294004402057 : Nat := 0
def PySem.W.Fast.tw8964816330048510142 : Nat := 0
def PySem.W.Fast.tw8464372841107908180 : Nat := 0
def PySem.W.Fast.tw8668598806250914262 : Nat := 0
def PySem.W.Fast.tw8369907456273230065 : Nat := 0
def PySem.W.Fast.tw12588647109538783382 : Nat := 0
def PySem.W.Fast.tw317055393376360258 : Nat := 0
def PySem.W.Fast.tw2682795265371113891 : Nat := 0
def PySem.W.Fast.tw7021635091510937863 : Nat := 0
def PySem.W.Fast.tw10807605466324073332 : Nat := 0
def PySem.W.Fast.tw6673578682743525573 : Nat := 0
def PySem.W.Fast.tw11846499446189309373 : Nat := 0
def PySem.W.Fast.tw12962362374325593199 : Nat := 0
def PySem.W.Fast.tw6856380169284506543 : Nat := 0
def PySem.W.Fast.tw9441272283197700297 : Nat := 0
def PySem.W.Fast.tw12855046138843693971 : Nat := 0
def PySem.W.Fast.tw12366022280796838036 : Nat := 0
def PySem.W.Fast.tw18362142136661066045 : Nat := 0
def PySem.W.Fast.tw2597415609133336392 : Nat := 0
def PySem.W.Fast.tw8035740981962235086 : Nat := 0
def PySem.W.Fast.tw12255826901764036656 : Nat := 0
def PySem.W.Fast.tw9824617465923315480 : Nat := 0
def PySem.W.Fast.tw862557724001687967 : Nat := 0
def PySem.W.Fast.tw11330185504118699233 : Nat := 0
def PySem.W.Fast.tw9690350617945810897 : Nat := 0
def PySem.W.Fast.tw7376127605390612994 : Nat := 0
def PySem.W.Fast.tw14443666159029963025 : Nat := 0
def PySem.W.Fast.tw7852600299569137314 : Nat := 0
def PySem.W.Fast.tw11946903389884605116 : Nat := 0
def PySem.W.Fast.tw17254514618912593456 : Nat := 0
def PySem.W.Fast.tw8178360580774872944 : Nat := 0
def PySem.W.Fast.tw9041873102599941500 : Nat := 0
def PySem.W.Fast.tw15665181995096743860 : Nat := 0
def PySem.W.Fast.tw10871443620240964492 : Nat := 0
def PySem.W.Fast.tw15831661464608534349 : Nat := 0
def PySem.W.Fast.tw492142357038215258 : Nat := 0
def PySem.W.Fast.tw7178028561895401 : Nat := 0
def PySem.W.Fast.tw1301887607307152926 : Nat := 0
def PySem.W.Fast.tw17645207065595006280 : Nat := 0
def PySem.W.Fast.tw445502234182240676 : Nat := 0
def PySem.W.Fast.tw10764567165548368262 : Nat := 0
def PySem.W.Fast.tw6484827486494750339 : Nat := 0
def PySem.W.Fast.tw580785826384357045 : Nat := 0
def PySem.W.Fast.tw1667142590076484118 : Nat := 0
def PySem.W.Fast.tw12170459834299976969 : Nat := 0
def PySem.W.Fast.tw14752089928745496428 : Nat := 0
def PySem.W.Fast.tw12777605538640575973 : Nat := 0
def PySem.W.Fast.tw2323724396009568995 : Nat := 0
def PySem.W.Fast.tw3784421995911036029 : Nat := 0
def PySem.W.Fast.tw1011632469183736482 : Nat := 0
def PySem.W.Fast.tw8264715944566782524 : Nat := 0
def PySem.W.Fast.tw9456189538258215765 : Nat := 0
def PySem.W.Fast.tw12721470800305529946 : Nat := 0
def PySem.W.Fast.tw4136737260696573872 : Nat := 0
def PySem.W.Fast.tw3189216166412303676 : Nat := 0
def PySem.W.Fast.tw12318535631817293525 : Nat := 0
def PySem.W.Fast.tw10146537694761569700 : Nat := 0
def PySem.W.Fast.tw9874645226451899366 : Nat := 0
def PySem.W.Fast.tw4531084585510577945 : Nat := 0
def PySem.W.Fast.tw1932294714191000209 : Nat := 0
def PySem.W.Fast.tw12247947805964633961 : Nat := 0
def PySem.W.Fast.tw18266033104158160518 : Nat := 0
def PySem.W.Fast.tw10906662744803554579 : Nat := 0
def PySem.W.Fast.tw4013640551342896985 : Nat := 0
def PySem.W.Fast.tw16306937557334394195 : Nat := 0
def PySem.W.Fast.tw7367530036499360148 : Nat := 0
def PySem.W.Fast.tw13910718208799225057 : Nat := 0
def PySem.W.Fast.tw13269566576723385466 : Nat := 0
def PySem.W.Fast.tw6359202043135522380 : Nat := 0
def PySem.W.Fast.tw17224666885549207196 : Nat := 0
def PySem.W.Fast.tw15638232213279344866 : Nat := 0
def PySem.W.Fast.tw15528404740469608436 : Nat := 0
def PySem.W.Fast.tw9724708694926168703 : Nat := 0
def PySem.W.Fast.tw2980800955314308972 : Nat := 0
def PySem.W.Fast.tw6916077586793747078 : Nat := 0
def PySem.W.Fast.tw1434516173136118317 : Nat := 0
def PySem.W.Fast.tw13262845363371268304 : Nat := 0
def PySem.W.Fast.tw3246906555855497644 : Nat := 0
def PySem.W.Fast.tw15609285103072663230 : Nat := 0
def PySem.W.Fast.tw12882235125561477227 : Nat := 0
def PySem.W.Fast.tw16402797898391982457 : Nat := 0
def PySem.W.Fast.tw13764785292724333127 : Nat := 0
def PySem.W.Fast.tw3719546756824343952 : Nat := 0
def PySem.W.Fast.tw9421790877066825110 : Nat := 0
def PySem.W.Fast.tw7569623905206101048 : Nat := 0
def PySem.W.Fast.tw424258698524571146 : Nat := 0
def PySem.W.Fast.tw5152962093463240608 : Nat := 0
def PySem.W.Fast.tw13266558250178526369 : Nat := 0
def PySem.W.Fast.tw3832058626391751439 : Nat := 0
def PySem.W.Fast.tw16768896362268150357 : Nat := 0
def PySem.W.Fast.tw7191683655907209628 : Nat := 0
def PySem.W.Fast.tw7079817352095207264 : Nat := 0
def PySem.W.Fast.tw5201832772942979279 : Nat := 0
def PySem.W.Fast.tw17451180220395864544 : Nat := 0
def PySem.W.Fast.tw10788435942705472984 : Nat := 0
def PySem.W.Fast.tw354042793513624348 : Nat := 0
def PySem.W.Fast.tw9475066400115925446 : Nat := 0
def PySem.W.Fast.tw8456845126744073283 : Nat := 0
def PySem.W.Fast.tw6189706539289514687 : Nat := 0
def PySem.W.Fast.tw13455711455280242297 : Nat := 0
def PySem.W.Fast.tw4094669131687288745 : Nat := 0
def PySem.W.Fast.tw16536122568005501033 : Nat := 0
def PySem.W.Fast.tw4107297922191361618 : Nat := 0
def PySem.W.Fast.tw31170464201693359 : Nat := 0
def PySem.W.Fast.tw3987037628570923488 : Nat := 0
def PySem.W.Fast.tw950107021184227383 : Nat := 0
def PySem.W.Fast.tw14616564643853423322 : Nat := 0
def PySem.W.Fast.tw18321805414588424628 : Nat := 0
def PySem.W.Fast.tw5576597267691278327 : Nat := 0
def PySem.W.Fast.tw13292892931687996257 : Nat := 0
def PySem.W.Fast.tw2425168388954474993 : Nat := 0
def PySem.W.Fast.tw4385178392309295135 : Nat := 0
def PySem.W.Fast.tw17277966872048571669 : Nat := 0
def PySem.W.Fast.tw13358628849862191053 : Nat := 0
def PySem.W.Fast.tw732168870541185232 : Nat := 0
def PySem.W.Fast.tw14417469502588280182 : Nat := 0
def PySem.W.Fast.tw681034795525004940 : Nat := 0
def PySem.W.Fast.tw14322487689292580124 : Nat := 0
def PySem.W.Fast.tw4063534071274887476 : Nat := 0
def PySem.W.Fast.tw939981391335752082 : Nat := 0
def PySem.W.Fast.tw867485050309951640 : Nat := 0
def PySem.W.Fast.tw2985870559379924056 : Nat := 0
def PySem.W.Fast.tw14664590509823246479 : Nat := 0
def PySem.W.Fast.tw11807058207090765883 : Nat := 0
def PySem.W.Fast.tw11127002522733250870 : Nat := 0
def PySem.W.Fast.tw11085557827311479496 : Nat := 0
def PySem.W.Fast.tw1403375189830254373 : Nat := 0
def PySem.W.Fast.tw16221033025495670504 : Nat := 0
def PySem.W.Fast.tw7759753480615770765 : Nat := 0
def PySem.W.Fast.tw14859239652208097953 : Nat := 0
def PySem.W.Fast.tw10054254595976684602 : Nat := 0
def PySem.W.Fast.tw17979076729000192189 : Nat := 0
def PySem.W.Fast.tw11305107206367682153 : Nat := 0
def PySem.W.Fast.tw16963828435629105716 : Nat := 0
def PySem.W.Fast.tw7465244980269878083 : Nat := 0
def PySem.W.Fast.tw12909096654509744816 : Nat := 0
def PySem.W.Fast.tw12011573758003845186 : Nat := 0
def PySem.W.Fast.tw5917516087243661304 : Nat := 0
def PySem.W.Fast.tw9117346771320397609 : Nat := 0
def PySem.W.Fast.tw14678969407493427431 : Nat := 0
def PySem.W.Fast.tw3342413548564392613 : Nat := 0
def PySem.W.Fast.tw14965843489746870629 : Nat := 0
def PySem.W.Fast.tw15277812275754118656 : Nat := 0
def PySem.W.Fast.tw17540364924837285611 : Nat := 0
def PySem.W.Fast.tw634521202318915826 : Nat := 0
def PySem.W.Fast.tw17791378183527802371 : Nat := 0
def PySem.W.Fast.tw185363546135260271 : Nat := 0
def PySem.W.Fast.tw15713857171547234433 : Nat := 0
def PySem.W.Fast.tw6865354004193927227 : Nat := 0
def PySem.W.Fast.tw18028850439356556600 : Nat := 0
def PySem.W.Fast.tw14019306637580036031 : Nat := 0
def PySem.W.Fast.tw10625043639978386024 : Nat := 0
def PySem.W.Fast.tw12720252067318486644 : Nat := 0
def PySem.W.Fast.tw7357097790092468703 : Nat := 0
def PySem.W.Fast.tw7510108042365085380 : Nat := 0
def PySem.W.Fast.tw7490991507999728790 : Nat := 0
def PySem.W.Fast.tw3950479935900554749 : Nat := 0
def PySem.W.Fast.tw5942688018604658584 : Nat := 0
def PySem.W.Fast.tw1337936770369332318 : Nat := 0
def PySem.W.Fast.tw12708955004665857008 : Nat := 0
def PySem.W.Fast.tw1293351148181039733 : Nat := 0
def PySem.W.Fast.tw7246736320941401767 : Nat := 0
def PySem.W.Fast.tw5135066201593604438 : Nat := 0
def PySem.W.Fast.tw4245016617151105501 : Nat := 0
def PySem.W.Fast.tw14826362712926081360 : Nat := 0
def PySem.W.Fast.tw18048112813036506164 : Nat := 0
def PySem.W.Fast.tw7424168998239187905 : Nat := 0
def PySem.W.Fast.tw9554301047696258583 : Nat := 0
def PySem.W.Fast.tw1983218264063300932 : Nat := 0
def PySem.W.Fast.tw7991787929232284769 : Nat := 0
def PySem.W.Fast.tw16337594873793899762 : Nat := 0
def PySem.W.Fast.tw9724421421281329301 : Nat := 0
def PySem.W.Fast.tw17845679476571900787 : Nat := 0
def PySem.W.Fast.tw10371533203410937881 : Nat := 0
def PySem.W.Fast.tw15314541277818955798 : Nat := 0
def PySem.W.Fast.tw15695603152304989785 : Nat := 0
def PySem.W.Fast.tw8777374020520604489 : Nat := 0
def PySem.W.Fast.tw17222332498178010904 : Nat := 0
def PySem.W.Fast.tw13389511657867372803 : Nat := 0
def PySem.W.Fast.tw12354825166296508200 : Nat := 0
def PySem.W.Fast.tw1213283930925575325 : Nat := 0
def PySem.W.Fast.tw9548746493349966537 : Nat := 0
def PySem.W.Fast.tw14397832456846927449 : Nat := 0
def PySem.W.Fast.tw7733626861666580581 : Nat := 0
def PySem.W.Fast.tw4052072041671329536 : Nat := 0
def PySem.W.Fast.tw17228788458115369390 : Nat := 0
def PySem.W.Fast.tw6491667156451604055 : Nat := 0
def PySem.W.Fast.tw7684070703604162642 : Nat := 0
def PySem.W.Fast.tw3418336876348332361 : Nat := 0
def PySem.W.Fast.tw9842385039650156536 : Nat := 0
def PySem.W.Fast.tw13365178680782078544 : Nat := 0
def PySem.W.Fast.tw8838304456866999419 : Nat := 0
def PySem.W.Fast.tw1386071219027671625 : Nat := 0
def PySem.W.Fast.tw14633994560455911704 : Nat := 0
def PySem.W.Fast.tw16105677653736400587 : Nat := 0
def PySem.W.Fast.tw12674247744404340202 : Nat := 0
def PySem.W.Fast.tw13377826087732434528 : Nat := 0
def PySem.W.Fast.tw15731554489672384248 : Nat := 0
def PySem.W.Fast.tw17112169445192836615 : Nat := 0
def PySem.W.Fast.tw14985008350071990179 : Nat := 0
def PySem.W.Fast.tw6677772662464060134 : Nat := 0
def PySem.W.Fast.tw1978590049099624969 : Nat := 0
def PySem.W.Fast.tw9773697868266559662 : Nat := 0
def PySem.W.Fast.tw1198319456528922970 : Nat := 0
def PySem.W.Fast.tw9655212149865071620 : Nat := 0
def PySem.W.Fast.tw8216396908211064273 : Nat := 0
def PySem.W.Fast.tw11324588232058674004 : Nat := 0
def PySem.W.Fast.tw13499715059272774002 : Nat := 0
def PySem.W.Fast.tw3984127648853726584 : Nat := 0
def PySem.W.Fast.tw11669585854917534241 : Nat := 0
def PySem.W.Fast.tw14484214691924851269 : Nat := 0
def PySem.W.Fast.tw6396095850189243982 : Nat := 0
def PySem.W.Fast.tw8847683080177098282 : Nat := 0
def PySem.W.Fast.tw13963124053914226256 : Nat := 0
def PySem.W.Fast.tw949657034362225779 : Nat := 0
def PySem.W.Fast.tw7184525425207416183 : Nat := 0
def PySem.W.Fast.tw5363807805692994844 : Nat := 0
def PySem.W.Fast.tw15191873823606567039 : Nat := 0
def PySem.W.Fast.tw9531074810609962929 : Nat := 0
def PySem.W.Fast.tw10196285835338124950 : Nat := 0
def PySem.W.Fast.tw733991046810461699 : Nat := 0
def PySem.W.Fast.tw8282952547191904134 : Nat := 0
def PySem.W.Fast.tw10460039651010920118 : Nat := 0
def PySem.W.Fast.tw5717031081376514581 : Nat := 0
def PySem.W.Fast.tw2483860011446511249 : Nat := 0
def PySem.W.Fast.tw18213835759399958390 : Nat := 0
def PySem.W.Fast.tw8406781456038735599 : Nat := 0
def PySem.W.Fast.tw1580967867711159071 : Nat := 0
def PySem.W.Fast.tw9673484495310198871 : Nat := 0
def PySem.W.Fast.tw3183343225900204310 : Nat := 0
def PySem.W.Fast.tw10004458938812866891 : Nat := 0
def PySem.W.Fast.tw11735342427125471210 : Nat := 0
def PySem.W.Fast.tw18010244354673526647 : Nat := 0
def PySem.W.Fast.tw8062266311536830002 : Nat := 0
def PySem.W.Fast.tw1258054020275002784 : Nat := 0
def PySem.W.Fast.tw2449389055299752404 : Nat := 0
def PySem.W.Fast.tw2119703522844453451 : Nat := 0
def PySem.W.Fast.tw256678681280638858 : Nat := 0
def PySem.W.Fast.tw5252816955455940711 : Nat := 0
def PySem.W.Fast.tw6004473068861895473 : Nat := 0
def PySem.W.Fast.tw3170627311474142740 : Nat := 0
def PySem.W.Fast.tw15239438539684653142 : Nat := 0
def PySem.W.Fast.tw11401916419115655623 : Nat := 0
def PySem.W.Fast.tw8204887580378486415 : Nat := 0
def PySem.W.Fast.tw4556372243788968222 : Nat := 0
def PySem.W.Fast.tw14791956887438921488 : Nat := 0
def PySem.W.Fast.tw4641363087333981191 : Nat := 0
def PySem.W.Fast.tw10318644911378728395 : Nat := 0
def PySem.W.Fast.tw17748510267538280037 : Nat := 0
def PySem.W.Fast.tw3349477679213876896 : Nat := 0
def PySem.W.Fast.tw12803092268110347732 : Nat := 0
def PySem.W.Fast.tw4663639981341766880 : Nat := 0
def PySem.W.Fast.tw15620110524056567522 : Nat := 0
def PySem.W.Fast.tw13386438671731236431 : Nat := 0
def PySem.W.Fast.tw8711521547749814427 : Nat := 0
def PySem.W.Fast.tw15501936318226549007 : Nat := 0
def PySem.W.Fast.tw12420453670595666542 : Nat := 0
def PySem.W.Fast.tw9879969356578420814 : Nat := 0
def PySem.W.Fast.tw12766257893101895465 : Nat := 0
def PySem.W.Fast.tw5451420023003984745 : Nat := 0
def PySem.W.Fast.tw2825481273227873703 : Nat := 0
def PySem.W.Fast.tw7653298049760879430 : Nat := 0
def PySem.W.Fast.tw11797134993920093273 : Nat := 0
def PySem.W.Fast.tw12790305301208937663 : Nat := 0
def PySem.W.Fast.tw4010206044980250299 : Nat := 0
def PySem.W.Fast.tw17553407239955851240 : Nat := 0
def PySem.W.Fast.tw4125883678379733585 : Nat := 0
def PySem.W.Fast.tw14936812158497041066 : Nat := 0
def PySem.W.Fast.tw6521429948747589346 : Nat := 0
def PySem.W.Fast.tw5751904377371703203 : Nat := 0
def PySem.W.Fast.tw4385701215777077453 : Nat := 0
def PySem.W.Fast.tw6904012351189938877 : Nat := 0
def PySem.W.Fast.tw6211129722906928079 : Nat := 0
def PySem.W.Fast.tw7106171993698108106 : Nat := 0
def PySem.W.Fast.tw11896911080907046272 : Nat := 0
def PySem.W.Fast.tw2189991696720346986 : Nat := 0
def PySem.W.Fast.tw14542611902527621653 : Nat := 0
def PySem.W.Fast.tw4287155622543238413 : Nat := 0
def PySem.W.Fast.tw1345513727550109753 : Nat := 0
def PySem.W.Fast.tw13358158109607564967 : Nat := 0
def PySem.W.Fast.tw16471385294424192848 : Nat := 0
def PySem.W.Fast.tw14898301055567654936 : Nat := 0
def PySem.W.Fast.tw1178239003764602763 : Nat := 0
def PySem.W.Fast.tw8270813766104735160 : Nat := 0
def PySem.W.Fast.tw840554925303025832 : Nat := 0
def PySem.W.Fast.tw15411656628816256560 : Nat := 0
def PySem.W.Fast.tw10699457440698102287 : Nat := 0
def PySem.W.Fast.tw4940151622539602714 : Nat := 0
def PySem.W.Fast.tw6711604995316602737 : Nat := 0
def PySem.W.Fast.tw1068794357144185106 : Nat := 0
def PySem.W.Fast.tw12883954050306964480 : Nat := 0
def PySem.W.Fast.tw10422418632714455641 : Nat := 0
def PySem.W.Fast.tw61328662530648149 : Nat := 0
def PySem.W.Fast.tw1164102481556482655 : Nat := 0
def PySem.W.Fast.tw12945759999077357342 : Nat := 0
def PySem.W.Fast.tw5053437686234397450 : Nat := 0
def PySem.W.Fast.tw7716074189024416915 : Nat := 0
def PySem.W.Fast.tw1971800772454172072 : Nat := 0
def PySem.W.Fast.tw12140967817690523882 : Nat := 0
def PySem.W.Fast.tw17884943574238750191 : Nat := 0
def PySem.W.Fast.tw3086417349817941260 : Nat := 0
def PySem.W.Fast.tw10705374141122444802 : Nat := 0
def PySem.W.Fast.tw7807874022679128718 : Nat := 0
def PySem.W.Fast.tw2213224976471429357 : Nat := 0
def PySem.W.Fast.tw5077553967885905418 : Nat := 0
def PySem.W.Fast.tw3710244352010128105 : Nat := 0
def PySem.W.Fast.tw8823795115210533512 : Nat := 0
def PySem.W.Fast.tw7119380136374406016 : Nat := 0
def PySem.W.Fast.tw18157672011337246726 : Nat := 0
def PySem.W.Fast.tw17907882440204555008 : Nat := 0
def PySem.W.Fast.tw5303309645724561335 : Nat := 0
def PySem.W.Fast.tw4728497754378502897 : Nat := 0
def PySem.W.Fast.tw9320351919267898633 : Nat := 0
def PySem.W.Fast.tw10950716444872121895 : Nat := 0
def PySem.W.Fast.tw7307281241189241872 : Nat := 0
def PySem.W.Fast.tw1146257229206754424 : Nat := 0
def PySem.W.Fast.tw8584206375803499852 : Nat := 0
def PySem.W.Fast.tw549243431680813569 : Nat := 0
def PySem.W.Fast.tw11829846294372055615 : Nat := 0
def PySem.W.Fast.tw18100162595082524622 : Nat := 0
def PySem.W.Fast.tw3906129044175915073 : Nat := 0
def PySem.W.Fast.tw12608136877155172308 : Nat := 0
def PySem.W.Fast.tw2590896832284097172 : Nat := 0
def PySem.W.Fast.tw17207218951565917171 : Nat := 0
open PySem PySem.W PyProof.Rows
set_option maxRecDepth 100000 in
set_option maxHeartbeats 0 in
theorem PySem.Challenge.cw_chainhouse_k84_whole_papers_looked_over_holds : PySem.Challenge.rw_chainhouse_k84_whole_papers_looked_over.Holds := by
 w_on; o_law; k_head; (case hw => w_witness2)
 k_fill
 refine K84.walk (l := PySem.Challenge.rw_chainhouse_k84_whole_papers_looked_over) rfl rfl (fun w h Y => PySem.W.kIn_of Y) ?F
 case F =>
  intro w mg fa h KX G hmg
  refine' K84.all_mk KX G hmg ?aC ?awhole ?lwhole ?cwhole ?kwhole ?afrom ?lfrom ?cfrom ?kfrom ?aname ?lname ?cname ?kname ?arise ?lrise ?crise ?krise ?awnum ?lwnum ?cwnum ?kwnum ?awork ?lwork ?cwork ?kwork ?aask ?lask ?cask ?kask ?aisb ?lisb ?cisb ?kisb ?ajoined ?ljoined ?cjoined ?kjoined ?amost ?lmost ?cmost ?kmost ?ahalf ?lhalf ?chalf ?khalf ?abeh ?lbeh ?cbeh ?kbeh ?astep ?lstep ?cstep ?kstep ?adeed ?ldeed ?cdeed ?kdeed ?aentry ?lentry ?centry ?kentry ?acp ?lcp ?ccp ?kcp ?asp ?lsp ?csp ?ksp ?alook ?llook ?clook ?klook ?acell ?lcell ?ccell ?kcell ?atake ?ltake ?ctake ?ktake ?arest ?lrest ?crest ?krest ?anames ?lnames ?cnames ?knames ?asome ?lsome ?csome ?ksome ?abench ?lbench ?cbench ?kbench ?aent ?lent ?cent ?kent ?almost ?llmost ?clmost ?klmost ?astepf ?lstepf ?cstepf ?kstepf ?achp ?lchp ?cchp ?kchp ?astp ?lstp ?cstp ?kstp ?anxp ?lnxp ?cnxp ?knxp ?alkd ?llkd ?clkd ?klkd ?alhalf ?llhalf ?clhalf ?klhalf ?alknown ?llknown ?clknown ?klknown ?asho ?lsho ?csho ?ksho ?adue ?ldue ?cdue ?kdue ?aanp ?lanp ?canp ?kanp ?alaw ?llaw ?claw ?klaw ?ainit ?iinit ?linit ?cinit ?kinit ?aknown ?iknown ?lknown ?cknown ?kknown ?achh ?ichh ?lchh ?cchh ?kchh ?aseth ?iseth ?lseth ?cseth ?kseth ?ajoint ?ijoint ?ljoint ?cjoint ?kjoint ?anote ?inote ?lnote ?cnote ?knote ?atakep ?itakep ?ltakep ?ctakep ?ktakep ?pgC ?hdC ?poC ?saC ?mkC ?kcC ?nC_benches ?nC_chairs ?nC_entries ?gabc ?gsev ?gfou ?zlen ?zrange ?zmin ?zlist ?ztuple ?zsorted ?zisinstance ?zstr ?zall ?zany ?zzip ?zset ?zint ?zbool ?zabs ?zenumerate ?zmax ?zValueError ?aCN ?aCE ?ad1 ?ad2 ?ad3 ?ad4 ?ad5 ?ad6 ?ad7 ?ad8 ?ad9 ?ad10 ?ad11 ?xCE ?xCN ?anpi ?inpi ?lnpi ?cnpi ?knpi ?kcN ?saN ?noN ?rdE ?fcE ?gaE ?f1CN ?f2CN ?f3CN ?hmCN ?kvN ?kbN ?kaN ?kdN ?suN
  (case aC => k_is)
  (case awhole => k_is)
  (case lwhole => k_is)
  (case cwhole => k_is)
  (case kwhole => k_is)
  (case afrom => k_is)
  (case lfrom => k_is)
  (case cfrom => k_is)
  (case kfrom => k_is)
  (case aname => k_is)
  (case lname => k_is)
  (case cname => k_is)
  (case kname => k_is)
  (case arise => k_is)
  (case lrise => k_is)
  (case crise => k_is)
  (case krise => k_is)
  (case awnum => k_is)
  (case lwnum => k_is)
  (case cwnum => k_is)
  (case kwnum => k_is)
  (case awork => k_is)
  (case lwork => k_is)
  (case cwork => k_is)
  (case kwork => k_is)
  (case aask => k_is)
  (case lask => k_is)
  (case cask => k_is)
  (case kask => k_is)
  (case aisb => k_is)
  (case lisb => k_is)
  (case cisb => k_is)
  (case kisb => k_is)
  (case ajoined => k_is)
  (case ljoined => k_is)
  (case cjoined => k_is)
  (case kjoined => k_is)
  (case amost => k_is)
  (case lmost => k_is)
  (case cmost => k_is)
  (case kmost => k_is)
  (case ahalf => k_is)
  (case lhalf => k_is)
  (case chalf => k_is)
  (case khalf => k_is)
  (case abeh => k_is)
  (case lbeh => k_is)
  (case cbeh => k_is)
  (case kbeh => k_is)
  (case astep => k_is)
  (case lstep => k_is)
  (case cstep => k_is)
  (case kstep => k_is)
  (case adeed => k_is)
  (case ldeed => k_is)
  (case cdeed => k_is)
  (case kdeed => k_is)
  (case aentry => k_is)
  (case lentry => k_is)
  (case centry => k_is)
  (case kentry => k_is)
  (case acp => k_is)
  (case lcp => k_is)
  (case ccp => k_is)
  (case kcp => k_is)
  (case asp => k_is)
  (case lsp => k_is)
  (case csp => k_is)
  (case ksp => k_is)
  (case alook => k_is)
  (case llook => k_is)
  (case clook => k_is)
  (case klook => k_is)
  (case acell => k_is)
  (case lcell => k_is)
  (case ccell => k_is)
  (case kcell => k_is)
  (case atake => k_is)
  (case ltake => k_is)
  (case ctake => k_is)
  (case ktake => k_is)
  (case arest => k_is)
  (case lrest => k_is)
  (case crest => k_is)
  (case krest => k_is)
  (case anames => k_is)
  (case lnames => k_is)
  (case cnames => k_is)
  (case knames => k_is)
  (case asome => k_is)
  (case lsome => k_is)
  (case csome => k_is)
  (case ksome => k_is)
  (case abench => k_is)
  (case lbench => k_is)
  (case cbench => k_is)
  (case kbench => k_is)
  (case aent => k_is)
  (case lent => k_is)
  (case cent => k_is)
  (case kent => k_is)
  (case almost => k_is)
  (case llmost => k_is)
  (case clmost => k_is)
  (case klmost => k_is)
  (case astepf => k_is)
  (case lstepf => k_is)
  (case cstepf => k_is)
  (case kstepf => k_is)
  (case achp => k_is)
  (case lchp => k_is)
  (case cchp => k_is)
  (case kchp => k_is)
  (case astp => k_is)
  (case lstp => k_is)
  (case cstp => k_is)
  (case kstp => k_is)
  (case anxp => k_is)
  (case lnxp => k_is)
  (case cnxp => k_is)
  (case knxp => k_is)
  (case alkd => k_is)
  (case llkd => k_is)
  (case clkd => k_is)
  (case klkd => k_is)
  (case alhalf => k_is)
  (case llhalf => k_is)
  (case clhalf => k_is)
  (case klhalf => k_is)
  (case alknown => k_is)
  (case llknown => k_is)
  (case clknown => k_is)
  (case klknown => k_is)
  (case asho => k_is)
  (case lsho => k_is)
  (case csho => k_is)
  (case ksho => k_is)
  (case adue => k_is)
  (case ldue => k_is)
  (case cdue => k_is)
  (case kdue => k_is)
  (case aanp => k_is)
  (case lanp => k_is)
  (case canp => k_is)
  (case kanp => k_is)
  (case alaw => k_is)
  (case llaw => k_is)
  (case claw => k_is)
  (case klaw => k_is)
  (case ainit => k_is)
  (case iinit => k_is)
  (case linit => k_is)
  (case cinit => k_is)
  (case kinit => k_is)
  (case aknown => k_is)
  (case iknown => k_is)
  (case lknown => k_is)
  (case cknown => k_is)
  (case kknown => k_is)
  (case achh => k_is)
  (case ichh => k_is)
  (case lchh => k_is)
  (case cchh => k_is)
  (case kchh => k_is)
  (case aseth => k_is)
  (case iseth => k_is)
  (case lseth => k_is)
  (case cseth => k_is)
  (case kseth => k_is)
  (case ajoint => k_is)
  (case ijoint => k_is)
  (case ljoint => k_is)
  (case cjoint => k_is)
  (case kjoint => k_is)
  (case anote => k_is)
  (case inote => k_is)
  (case lnote => k_is)
  (case cnote => k_is)
  (case knote => k_is)
  (case atakep => k_is)
  (case itakep => k_is)
  (case ltakep => k_is)
  (case ctakep => k_is)
  (case ktakep => k_is)
  (case pgC => k_is)
  (case hdC => k_is)
  (case poC => k_is)
  (case saC => k_is)
  (case mkC => k_is)
  (case kcC => k_is)
  (case nC_benches => k_is)
  (case nC_chairs => k_is)
  (case nC_entries => k_is)
  (case gabc => k_is)
  (case gsev => k_is)
  (case gfou => k_is)
  (case zlen => k_is)
  (case zrange => k_is)
  (case zmin => k_is)
  (case zlist => k_is)
  (case ztuple => k_is)
  (case zsorted => k_is)
  (case zisinstance => k_is)
  (case zstr => k_is)
  (case zall => k_is)
  (case zany => k_is)
  (case zzip => k_is)
  (case zset => k_is)
  (case zint => k_is)
  (case zbool => k_is)
  (case zabs => k_is)
  (case zenumerate => k_is)
  (case zmax => k_is)
  (case zValueError => k_is)
  (case aCN => k_is)
  (case aCE => k_is)
  (case ad1 => k_is)
  (case ad2 => k_is)
  (case ad3 => k_is)
  (case ad4 => k_is)
  (case ad5 => k_is)
  (case ad6 => k_is)
  (case ad7 => k_is)
  (case ad8 => k_is)
  (case ad9 => k_is)
  (case ad10 => k_is)
  (case ad11 => k_is)
  (case xCE => unfold L2.bmV; k_exc)
  (case xCN => kernel_rfl)
  (case anpi => k_is)
  (case inpi => k_is)
  (case lnpi => k_is)
  (case cnpi => k_is)
  (case knpi => k_is)
  (case kcN => k_is)
  (case saN => k_is)
  (case noN => k_is)
  (case rdE => kernel_rfl)
  (case fcE => kernel_rfl)
  (case gaE => kernel_rfl)
  (case f1CN => k_is)
  (case f2CN => k_is)
  (case f3CN => k_is)
  (case hmCN => k_is)
  (case kvN => kernel_rfl)
  (case kbN => kernel_rfl)
  (case kaN => kernel_rfl)
  (case kdN => kernel_rfl)
  (case suN => k_is)
