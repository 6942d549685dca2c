import PyProof.Rows.All
import Wide.All
import KE.KDictList
import KE.KDictOf
import KE.KDictSum
import KE.KIsAll
import Open.Boot
import Open.Fast
import Open.FastLooks
import Open.FastRun
import Open.FastT9
import Open.FastTabs
import Open.Head
import Open.Line
import Open.Pieces
import Open.Recs
import Open.Seg
import Open.Strs
import Open.Tree
import OpenK.KCall
import OpenK.KCls
import OpenK.KDescr
import OpenK.KGet
import OpenK.KLine
import OpenK.KMake
import OpenK.KMore
import OpenK.KOwn
import OpenK.KRaise
import OpenK.KWalk
import OpenK.Peek
import Wide.FinOn
import Lean
import PyProof.EqAt
import PyProof.EqKinds
import PyProof.TupleCall
import PyProof.Rows.Range3
import PyProof.WalksEnum
import PyProof.EnumMake
import PyProof.Rows.EnumRows
import PyProof.Rows.SetFrom
import PyProof.CollectStr
import PyProof.ZipIter
import PyProof.ExcAttrAll.ValueError
import PyProof.P3Eq
import PyProof.NeKinds
import PyProof.Draws
import PyProof.LongRange
import PyProof.Rows.FStr
import PyProof.StrCalls2
import PyProof.StrLawsTight
import PyProof.Rows.StrItems
import PyProof.Rows.ReprOcc
import PySem.Challenge.RW_chainhouse_k41_whole_two_chairs
set_option Elab.async false
set_option linter.all false
set_option maxRecDepth 100000
set_option maxHeartbeats 8000000
namespace L2
open PySem PySem.Spec PyProof.Rows
abbrev Key:=Sum Int Str
def iH:Key -> Value -> Bool
 | .inl k,v=>Value.isInt k v
 | .inr x,v=>Value.isStrOf x v
def keyH (w:World):Key -> Int
 | .inl k=>hashInt k
 | .inr x=>hashStr w x
theorem bS:∀ {k:Key} {v:Value},iH k v=true -> (∃ i t,k=Sum.inl i /\ v=Value.int i t) \/ (∃ x t,k=Sum.inr x /\ v=Value.str x t)
 | .inl i,v,h=>by
  obtain ⟨t,e⟩:=Value.isInt_shape (k:=i) (v:=v) h
  exact .inl ⟨i,t,rfl,e⟩
 | .inr x,v,h=>by
  obtain ⟨t,e⟩:=Value.isStrOf_shape (x:=x) (v:=v) h
  exact .inr ⟨x,t,rfl,e⟩
theorem qr (i:Int) (t:Tok):iH (.inl i) (.int i t)=true:=by simp [iH,Value.isInt]
theorem qt (x:Str) (t:Tok):iH (.inr x) (.str x t)=true:=by simp [iH,Value.isStrOf]
theorem key_ll (a b:Int):decide ((Sum.inl a:Key)=Sum.inl b)=(a == b):=by
 by_cases e:a=b
 ·subst e; simp
 ·have h:¬ (Sum.inl a:Key)=Sum.inl b:=fun q=>e (Sum.inl.inj q)
  rw [decide_eq_false h]
  exact (beq_eq_false_iff_ne.mpr e).symm
theorem key_rr (a b:Str):decide ((Sum.inr a:Key)=Sum.inr b)=decide (a=b):=by
 by_cases e:a=b
 ·subst e; simp
 ·have h:¬ (Sum.inr a:Key)=Sum.inr b:=fun q=>e (Sum.inr.inj q)
  rw [decide_eq_false h,decide_eq_false e]
theorem key_lr (a:Int) (b:Str):decide ((Sum.inl a:Key)=Sum.inr b)=false:=decide_eq_false (fun q=>nomatch q)
theorem key_rl (a:Str) (b:Int):decide ((Sum.inr a:Key)=Sum.inl b)=false:=decide_eq_false (fun q=>nomatch q)
def bo (prog:Program) (w:World):PySem.KeyKind prog w Key where
 is:=iH
 hash:=keyH w
 inj:=fun v a b ha hb=>by
  rcases bS ha with ⟨i,t,rfl,rfl⟩ | ⟨x,t,rfl,rfl⟩
  ·rcases bS hb with ⟨j,u,rfl,e⟩ | ⟨y,u,rfl,e⟩
   ·injection e with e1 _; rw [e1]
   ·exact nomatch e
  ·rcases bS hb with ⟨j,u,rfl,e⟩ | ⟨y,u,rfl,e⟩
   ·exact nomatch e
   ·injection e with e1 _; rw [e1]
 byValue:=fun k v h=>by
  rcases bS h with ⟨i,t,rfl,rfl⟩ | ⟨x,t,rfl,rfl⟩ <;> rfl
 pyHash:=fun hv h=>by
  rcases bS hv with ⟨i,t,rfl,rfl⟩ | ⟨x,t,rfl,rfl⟩
  ·exact wpAny_pyHash_int h
  ·exact wpAny_pyHash_str h
 eqBool:=fun hu hv h=>by
  rcases bS hu with ⟨i,t,rfl,rfl⟩ | ⟨x,t,rfl,rfl⟩
  ·rcases bS hv with ⟨j,u,rfl,rfl⟩ | ⟨y,u,rfl,rfl⟩
   ·rw [key_ll] at h; exact wpAny_eqBool_int h
   ·rw [key_lr] at h; exact SeqAt.EqAt.int_str i t y u _ _ _ _ h
  ·rcases bS hv with ⟨j,u,rfl,rfl⟩ | ⟨y,u,rfl,rfl⟩
   ·rw [key_rl] at h; exact SeqAt.EqAt.str_int x t j u _ _ _ _ h
   ·rw [key_rr] at h; exact wpAny_eqBool_str h
 «strs»:=fun k x t v h=>by
  rcases bS h with ⟨i,u,rfl,e⟩ | ⟨y,u,rfl,e⟩
  ·exact nomatch e
  ·injection e with e1 _
   subst e1
   cases v <;> rfl
theorem lX (prog:Program) (w:World) (i:Int) (t:Tok):(bo prog w).is (.inl i) (.int i t)=true:=qr i t
theorem lY (prog:Program) (w:World) (x:Str) (t:Tok):(bo prog w).is (.inr x) (.str x t)=true:=qt x t
inductive V where
 | non | bl (b:Bool) | int (i:Int) | str (x:Str) | byt (b:Array UInt8) | flt (b:UInt64) | ref (a:Addr) | ty (n:String)
 deriving DecidableEq
def aY:V -> Value -> Prop
 | .non,u=>u=Value.none
 | .bl b,u=>u=Value.bool b
 | .int i,u=>∃ t,u=Value.int i t
 | .str x,u=>∃ t,u=Value.str x t
 | .byt b,u=>∃ t,u=Value.bytes b t
 | .flt b,u=>∃ t,u=Value.float b t
 | .ref a,u=>u=Value.ref a
 | .ty n,u=>u=Value.type n
abbrev bh:List V -> List Value -> Prop:=Paired aY
theorem bh.length {xs:List V} {us:List Value} (r:bh xs us):xs.length=us.length:=Paired.length r
theorem bh.get:∀ {xs:List V} {us:List Value} {i:Nat} {x:V},bh xs us -> xs[i]?=some x -> ∃ u,us[i]?=some u /\ aY x u
 | _,_,_,_,.nil,e=>by simp at e
 | _,_,0,_,.cons r _,e=>by simp at e; subst e; exact ⟨_,rfl,r⟩
 | _,_,i + 1,x,.cons _ t,e=>by
  obtain ⟨u,h1,h2⟩:=bh.get (i:=i) (x:=x) t (by simpa using e)
  exact ⟨u,by simpa using h1,h2⟩
theorem bh.append:∀ {xs ys:List V} {us ws:List Value},bh xs us -> bh ys ws -> bh (xs ++ ys) (us ++ ws)
 | _,_,_,_,.nil,s=>s
 | _,_,_,_,.cons r t,s=>.cons r (bh.append t s)
theorem bh.take:∀ {xs:List V} {us:List Value} (n:Nat),bh xs us -> bh (xs.take n) (us.take n)
 | _,_,0,_=>.nil
 | _,_,_ + 1,.nil=>.nil
 | _,_,n + 1,.cons r t=>.cons r (bh.take n t)
theorem bh.drop:∀ {xs:List V} {us:List Value} (n:Nat),bh xs us -> bh (xs.drop n) (us.drop n)
 | _,_,0,r=>r
 | _,_,_ + 1,.nil=>.nil
 | _,_,n + 1,.cons _ t=>bh.drop n t
def ej:Option V -> Option Value -> Prop
 | some v,some u=>aY v u
 | none,none=>True
 | _,_=>False
def KV {κ:Type}:List (κ × V) -> List (κ × Value) -> Prop:=Paired fun (p:κ × V) (q:κ × Value)=>p.1=q.1 /\ aY p.2 q.2
def kV:Key -> V
 | .inl i=>.int i
 | .inr x=>.str x
inductive HO where
 | lst (xs:List V)
 | tup (xs:List V)
 | dK (kvs:List (Key × V)) | dT (kvs:List (List Key × V))
 | set (S:Int -> Bool) (n:Nat)
 | ins (C dx:Addr) (fs:List (Str × V))
 | own (x:Addr)
 | xd (fs:List (Str × V))
 | met (f x:Addr)
 | rng (lo hi:Int)
 | frz (o:Obj) (u:HO)
 | tbl (ps:Array Value)
 | ext (φ:Heap -> Prop)
abbrev Hp:=Addr -> Option HO
def upd (H:Hp) (a:Addr) (o:HO):Hp:=fun b=>if b=a then some o else H b
theorem ai {H:Hp} {a:Addr} {o:HO}:upd H a o a=some o:=by unfold upd; rw [if_pos rfl]
theorem aw {H:Hp} {a b:Addr} {o:HO} (h:b ≠ a):upd H a o b=H b:=by unfold upd; rw [if_neg h]
theorem ij {H:Hp} {a:Addr} {o u:HO}:upd (upd H a o) a u=upd H a u:=by
 funext b; unfold upd; split <;> rfl
theorem aM {H:Hp} {a b:Addr} {o u:HO} (h:H a=some o) (h':H b=some u) (d:o ≠ u):a ≠ b:=by
 intro e; subst e; rw [h] at h'; exact d (Option.some.inj h')
theorem ak {H:Hp} {a b:Addr} {o:HO} (h:H a=some o) (h':H b=none):a ≠ b:=by
 intro e; subst e; rw [h] at h'; cases h'
section
variable (P:Program) (w:World)
def ck (H:Hp) (h:Heap) (a:Addr):HO -> Prop
 | .lst xs=>xs.length <= sizeLine /\ ∃ (its:List Value) (n:Nat),bh xs its /\ h.get? a=some { cls:=.type "list",data:=.seq its.toArray n }
 | .tup xs=>xs.length <= sizeLine /\ ∃ its:List Value,bh xs its /\ IsTup h a its.toArray
 | .dK kvs=>kvs.length <= sizeLine /\ (a == sysModules)=false /\ ∃ vs,KV kvs vs /\ h.DictOf (bo P w) a vs
 | .dT kvs=>kvs.length <= sizeLine /\ (a == sysModules)=false /\ ∃ xs:List (List Key × Addr × Value),
   Paired (fun (p:List Key × V) (q:List Key × Addr × Value)=>p.1=q.1 /\ H q.2.1=some (.tup (p.1.map kV)) /\ aY p.2 q.2.2) kvs xs /\
   ∃ o es ep,h.get? a=some o /\ o.ExactDict /\ o.data=.dict es ep /\ es.toList=xs.map (entryOfKey (tupleKind (bo P w))) /\ (xs.map (·.1)).Nodup
 | .set S n=>h.SetOf (intKind P w) a S n
 | .ins C dx fs=>H dx=some (.own a) /\ fs.length <= 1000 /\ dx ≠ a /\ h.get? a=some (PySem.W.instObj C dx) /\
   ∃ mA,h.Ns1 dx mA /\ (∀ f,ej (fs.lookup f) (mA f)) /\ PySem.Within mA (fs.map (·.1))
 | .own _=>∃ o,h.get? a=some o
 | .xd fs=>∃ mA,h.Ns1 a mA /\ ∀ f,ej (fs.lookup f) (mA f)
 | .rng lo hi=>∃ t u v,h.get? a=some { cls:=.type "range",data:=.fields #[.int lo t,.int hi u,.int 1 v] }
 | .frz o u=>h.get? a=some o /\ ck H h a u
 | .tbl ps=>h.get? a=some { cls:=.none,data:=.fields ps }
 | .met f x=>h.get? a=some (PySem.W.methodObj (.ref f) (.ref x))
 | .ext φ=>φ h /\ (∃ o,h.get? a=some o) /\ ∀ h1 h2:Heap,φ h1 -> (∀ o,h1.get? a=some o -> h2.get? a=some o) -> φ h2
def HOk (H:Hp) (h:Heap):Prop:=∀ a o,H a=some o -> ck P w H h a o
end
section
variable {P:Program} {w:World} {H H':Hp} {h h':Heap} {a:Addr} {o:HO}
theorem ck.lt (x:ck P w H h a o):a < h.objs.size:=by
 cases o with
 | lst xs=>obtain ⟨_,_,_,_,e⟩:=x; exact Heap.lt_size e
 | tup xs=>obtain ⟨_,_,_,p⟩:=x; exact p.lt
 | dK kvs=>obtain ⟨_,_,_,_,o,_,_,e,_⟩:=x; exact Heap.lt_size e
 | dT kvs=>obtain ⟨_,_,_,_,o,_,_,e,_⟩:=x; exact Heap.lt_size e
 | set S n=>obtain ⟨o,_,_,_,e,_⟩:=x; exact Heap.lt_size e
 | ins C dx fs=>obtain ⟨_,_,_,e,_⟩:=x; exact Heap.lt_size e
 | own y=>obtain ⟨_,e⟩:=x; exact Heap.lt_size e
 | xd fs=>obtain ⟨_,⟨_,_,_,e,_⟩,_⟩:=x; exact Heap.lt_size e
 | rng lo hi=>obtain ⟨_,_,_,e⟩:=x; exact Heap.lt_size e
 | frz ob u=>obtain ⟨e,_⟩:=x; exact Heap.lt_size e
 | tbl ps=>exact Heap.lt_size (show h.get? a=some _ from x)
 | met f y=>exact Heap.lt_size (show h.get? a=some _ from x)
 | ext φ=>obtain ⟨_,⟨_,e⟩,_⟩:=x; exact Heap.lt_size e
theorem Paired.mapP {α β:Type} {F G:α -> β -> Prop}:∀ {l₁:List α} {l₂:List β},Paired F l₁ l₂ -> (∀ a b,F a b -> G a b) -> Paired G l₁ l₂
 | _,_,.nil,_=>.nil
 | _,_,.cons r t,f=>.cons (f _ _ r) (Paired.mapP t f)
theorem Paired.imp' {α β:Type} {F G:α -> β -> Prop} (f:∀ a b,F a b -> G a b) {l₁:List α} {l₂:List β} (r:Paired F l₁ l₂):Paired G l₁ l₂:=Paired.mapP r f
theorem ck.stay (x:ck P w H h a o) (k:∀ b u,(b=a \/ H b=some (.own a)) -> h.get? b=some u -> h'.get? b=some u)
  (ho:∀ b,H b=some (.own a) -> H' b=some (.own a)) (ht:∀ b xs,H b=some (.tup xs) -> H' b=some (.tup xs)):ck P w H' h' a o:=by
 induction o with
 | lst xs=>obtain ⟨z,its,n,r,e⟩:=x; exact ⟨z,its,n,r,k _ _ (.inl rfl) e⟩
 | tup xs=>obtain ⟨z,its,r,ob,e,c⟩:=x; exact ⟨z,its,r,ob,k _ _ (.inl rfl) e,c⟩
 | dK kvs=>obtain ⟨z,y,vs,r,ob,es,ep,e,c⟩:=x; exact ⟨z,y,vs,r,ob,es,ep,k _ _ (.inl rfl) e,c⟩
 | dT kvs =>
  obtain ⟨z,y,xs,r,ob,es,ep,e,c⟩:=x
  exact ⟨z,y,xs,Paired.mapP r fun p q z=>⟨z.1,ht _ _ z.2.1,z.2.2⟩,ob,es,ep,k _ _ (.inl rfl) e,c⟩
 | set S n=>obtain ⟨ob,es,ep,t,e,c⟩:=x; exact ⟨ob,es,ep,t,k _ _ (.inl rfl) e,c⟩
 | ins C dx fs =>
  obtain ⟨d,z,ne,e,mA,⟨od,es,ep,e2,c⟩,r⟩:=x
  exact ⟨ho _ d,z,ne,k _ _ (.inl rfl) e,mA,⟨od,es,ep,k _ _ (.inr d) e2,c⟩,r⟩
 | own y=>obtain ⟨ob,e⟩:=x; exact ⟨ob,k _ _ (.inl rfl) e⟩
 | xd fs=>obtain ⟨mA,⟨od,es,ep,e,c⟩,r⟩:=x; exact ⟨mA,⟨od,es,ep,k _ _ (.inl rfl) e,c⟩,r⟩
 | rng lo hi=>obtain ⟨t,u,v,e⟩:=x; exact ⟨t,u,v,k _ _ (.inl rfl) e⟩
 | frz ob u ih=>obtain ⟨e,q⟩:=x; exact ⟨k _ _ (.inl rfl) e,ih q⟩
 | tbl ps =>
  have e:h.get? a=some { cls:=.none,data:=.fields ps }:=x
  show h'.get? a=some { cls:=.none,data:=.fields ps }
  exact k a _ (.inl rfl) e
 | met f y =>
  have e:h.get? a=some (PySem.W.methodObj (.ref f) (.ref y)):=x
  show h'.get? a=some (PySem.W.methodObj (.ref f) (.ref y))
  exact k a _ (.inl rfl) e
 | ext φ=>obtain ⟨p,⟨o,e⟩,st⟩:=x; exact ⟨st _ _ p fun o q=>k _ _ (.inl rfl) q,⟨o,k _ _ (.inl rfl) e⟩,st⟩
theorem HOk.lt (x:HOk P w H h) (e:H a=some o):a < h.objs.size:=(x a o e).lt
theorem HOk.fresh (x:HOk P w H h) (e:h.objs.size <= a):H a=none:=by
 cases q:H a with
 | none=>rfl
 | some u=>exact absurd (Nat.lt_of_lt_of_le (x.lt q) e) (Nat.lt_irrefl _)
theorem HOk.kept (x:HOk P w H h) (k:∀ b u,h.get? b=some u -> h'.get? b=some u):HOk P w H h':=fun a o e =>
 (x a o e).stay (fun b u _ q=>k b u q) (fun _ q=>q) fun _ _ q=>q
theorem HOk.laid (x:HOk P w H h) (k:∀ b u,h.get? b=some u -> h'.get? b=some u) (hp:h.objs.size <= a) (new:ck P w (upd H a o) h' a o):HOk P w (upd H a o) h':=fun b u e=>by
 have hn:=x.fresh hp
 by_cases hb:b=a
 ·subst hb; rw [ai] at e; cases e; exact new
 ·rw [aw hb] at e
  exact (x b u e).stay (fun c v _ q=>k c v q) (fun c q=>by rw [aw (ak q hn)]; exact q) fun c xs q=>by rw [aw (ak q hn)]; exact q
end
def Rd (H:Hp) (a:Addr) (u:HO):Prop:=H a=some u \/ ∃ o,H a=some (.frz o u)
theorem Rd.ok {P:Program} {w:World} {H:Hp} {h:Heap} {a:Addr} {u:HO} (r:Rd H a u) (x:HOk P w H h):ck P w H h a u:=by
 rcases r with r | ⟨o,r⟩
 ·exact x a u r
 ·obtain ⟨_,q⟩:=x a _ r
  exact q
def Mut:Option HO -> Prop
 | some (.lst _)=>True
 | some (.dK _)=>True
 | some (.dT _)=>True
 | some (.set _ _)=>True
 | some (.ins _ _ _)=>True
 | some (.ext _)=>True
 | _=>False
section
variable {P:Program} {w:World} {H:Hp} {h h':Heap} {x e:Addr} {o':HO}
theorem HOk.write (ok:HOk P w H h) (mu:Mut (H x)) (he:e=x \/ H e=some (.own x)) (k:∀ b u,b ≠ e -> h.get? b=some u -> h'.get? b=some u) (heo:∃ u,h'.get? e=some u)
  (new:ck P w (upd H x o') h' x o'):HOk P w (upd H x o') h':=fun b u q=>by
 have nown:∀ c y,H c=some (.own y) -> c ≠ x:=fun c y r z=>by subst z; rw [r] at mu; exact mu
 have ntup:∀ c xs,H c=some (.tup xs) -> c ≠ x:=fun c xs r z=>by subst z; rw [r] at mu; exact mu
 by_cases hb:b=x
 ·subst hb; rw [ai] at q; cases q; exact new
 ·rw [aw hb] at q
  by_cases hbe:b=e
  ·have q':H b=some (.own x):=by
    rcases he with z | z
    ·exact absurd (hbe.trans z) hb
    ·rw [hbe]; exact z
   rw [q] at q'; cases q'
   obtain ⟨v,hv⟩:=heo
   exact ⟨v,by rw [hbe]; exact hv⟩
  ·refine (ok b u q).stay (fun c v hc r=>k c v ?_ r) (fun c r=>by rw [aw (nown c b r)]; exact r) fun c xs r=>by rw [aw (ntup c xs r)]; exact r
   rcases hc with rfl | hc
   ·exact hbe
   ·rintro rfl
    rcases he with z | z
    ·exact nown c b hc z
    ·rw [hc] at z; cases z; exact hb rfl
end
structure Un (fs ex:List Addr) (H H':Hp) (h h':Heap):Prop where
 keep:∀ b o,h.get? b=some o -> H b=none -> b ∉ fs -> b ∉ ex -> h'.get? b=some o
 slot:∀ b o,h.get? b=some o -> H b=none -> b ∈ fs -> b ∉ ex -> ∃ sl,h'.get? b=some { o with slots:=sl }
 free:∀ b o,h.get? b=some o -> H b=none -> b ∉ ex -> H' b=none
 there:∀ b o,h.get? b=some o -> b ∉ ex -> ∃ o',h'.get? b=some o'
 tups:∀ b xs,H b=some (.tup xs) -> H' b=some (.tup xs)
 frzs:∀ b o u,H b=some (.frz o u) -> H' b=some (.frz o u)
 tbls:∀ b ps,H b=some (.tbl ps) -> ∃ more,H' b=some (.tbl (ps ++ more))
section
variable {fs fs' ex ex':List Addr} {H H1 H2:Hp} {h h1 h2 h':Heap} {a x e:Addr} {o:HO}
theorem Un.any (u:Un fs ex H H1 h h1) {b:Addr} {ob:Obj} (q:h.get? b=some ob) (n:H b=none) (hx:b ∉ ex):∃ sl,h1.get? b=some { ob with slots:=sl }:=by
 by_cases hb:b ∈ fs
 ·exact u.slot b ob q n hb hx
 ·exact ⟨ob.slots,u.keep b ob q n hb hx⟩
theorem Un.trans (a:Un fs ex H H1 h h1) (b:Un fs ex H1 H2 h1 h2):Un fs ex H H2 h h2 where
 keep:=fun c ob q n hc hx=>b.keep c ob (a.keep c ob q n hc hx) (a.free c ob q n hx) hc hx
 slot:=fun c ob q n hc hx=>by
  obtain ⟨sl,e1⟩:=a.slot c ob q n hc hx
  obtain ⟨sl',e2⟩:=b.slot c _ e1 (a.free c ob q n hx) hc hx
  exact ⟨sl',e2⟩
 free:=fun c ob q n hx=>by
  obtain ⟨o',e1⟩:=a.there c ob q hx
  exact b.free c o' e1 (a.free c ob q n hx) hx
 there:=fun c ob q hx=>by
  obtain ⟨o',e1⟩:=a.there c ob q hx
  exact b.there c o' e1 hx
 tups:=fun c xs q=>b.tups c xs (a.tups c xs q)
 frzs:=fun c ob xs q=>b.frzs c ob xs (a.frzs c ob xs q)
 tbls:=fun c ps q=>by
  obtain ⟨m1,e1⟩:=a.tbls c ps q
  obtain ⟨m2,e2⟩:=b.tbls c _ e1
  exact ⟨m1 ++ m2,by rw [e2,Array.append_assoc]⟩
theorem Un.kept (k:∀ b u,h.get? b=some u -> h'.get? b=some u):Un fs ex H H h h' :=
 ⟨fun b ob q _ _ _=>k b ob q,fun b ob q _ _ _=>⟨ob.slots,k b ob q⟩,fun _ _ _ n _=>n,fun b ob q _=>⟨ob,k b ob q⟩,fun _ _ q=>q,fun _ _ _ q=>q,fun _ ps q=>⟨#[],by rw [q]; simp⟩⟩
theorem Un.refl:Un fs ex H H h h:=Un.kept fun _ _ q=>q
theorem Un.laid (k:∀ b u,h.get? b=some u -> h'.get? b=some u) (hp:h.objs.size <= a) (hn:H a=none):Un fs ex H (upd H a o) h h' where
 keep:=fun b u q _ _ _=>k b u q
 slot:=fun b u q _ _ _=>⟨u.slots,k b u q⟩
 free:=fun b u q n _=>by rw [aw (Nat.ne_of_lt (Nat.lt_of_lt_of_le (Heap.lt_size q) hp))]; exact n
 there:=fun b u q _=>⟨u,k b u q⟩
 tups:=fun b xs q=>by rw [aw (ak q hn)]; exact q
 frzs:=fun b u xs q=>by rw [aw (ak q hn)]; exact q
 tbls:=fun b ps q=>⟨#[],by rw [aw (ak q hn),q]; simp⟩
theorem Un.write (mu:Mut (H x)) (he:e=x \/ H e=some (.own x)) (k:∀ b u,b ≠ e -> h.get? b=some u -> h'.get? b=some u) (heo:∃ u,h'.get? e=some u):Un fs ex H (upd H x o) h h':=by
 have hx:∀ b,H b=none -> b ≠ x:=fun b n z=>by subst z; rw [n] at mu; exact mu
 have hb:∀ b,H b=none -> b ≠ e:=fun b n z=>by
  subst z
  rcases he with r | r
  ·exact hx b n r
  ·rw [n] at r; cases r
 have hm:∀ b u,H b=some u -> ¬ Mut (some u) -> b ≠ x:=fun b u q nm z=>by subst z; rw [q] at mu; exact nm mu
 refine ⟨fun b u q n _ _=>k b u (hb b n) q,fun b u q n _ _=>⟨u.slots,k b u (hb b n) q⟩,fun b u q n _=>by rw [aw (hx b n)]; exact n,fun b u q _=>?_,
  fun b xs q=>by rw [aw (hm b _ q fun z=>z)]; exact q,fun b u xs q=>by rw [aw (hm b _ q fun z=>z)]; exact q,fun b ps q=>⟨#[],by rw [aw (hm b _ q fun z=>z),q]; simp⟩⟩
 by_cases hbe:b=e
 ·subst hbe; exact heo
 ·exact ⟨u,k b u hbe q⟩
end
def trk (h:Heap) (H:Hp):List Addr:=(List.range h.objs.size).filter fun a=>(H a).isSome
def ko (h:Heap) (H:Hp):Heap:=PySem.W.hideAll h (trk h H)
theorem qv (h:Heap) (H:Hp):(ko h H).objs.size=h.objs.size:=PySem.W.hideAll_size _ _
theorem su {h:Heap} {H:Hp} {b:Addr} {o:Obj} (e:h.get? b=some o) (n:H b=none):(ko h H).get? b=some o :=
 PySem.W.hideAll_get _ e fun hm=>by
  have q:(H b).isSome=true:=(List.mem_filter.mp hm).2
  rw [n] at q; simp at q
theorem of_hidT {h:Heap} {H:Hp} {b:Addr} {o:Obj} (e:(ko h H).get? b=some o):h.get? b=some o /\ H b=none:=by
 have e':h.get? b=some o:=PySem.W.of_hideAll (trk h H) e
 refine ⟨e',?_⟩
 cases q:H b with
 | none=>rfl
 | some x =>
  have hm:b ∈ trk h H:=List.mem_filter.mpr ⟨List.mem_range.mpr (Heap.lt_size e'),by simp [q]⟩
  have z:(ko h H).get? b=none:=PySem.W.hideAll_none (trk h H) hm
  rw [z] at e; cases e
structure Mod (K:PySem.W.Frag) (mg:Str -> Option Value) (base:Heap):Prop where
 kin:K.In base
 glob:base.Ns mainGlobals mg
 blt:∃ mb,base.Ns builtinsNs mb /\ ∀ x:Str,x ≠ "__name__" -> mb x=bootBuiltins x
 nolimit:base.NoLimit
structure Cx where
 prog:Program
 w:World
 K:PySem.W.Frag
 mg:Str -> Option Value
 base:Heap
 A:Around
 N:List Str
 s₀:Shared
 H₀:Hp
 env:Env
 outer:List Env
 stack:List Env
 ex:List Addr
 fn:Str -> Bool
 calm:Bool
 pn:List (Addr × Obj)
 xe:Value -> Shared -> Prop
def frs (l:List Env):List Addr:=l.filterMap (·.frame)
abbrev Cx.fs (X:Cx):List Addr:=frs X.outer
def Vis (sc:Scope) (x:Str):Prop:=sc.names.lookup x=some .local \/ sc.names.lookup x=some .cell \/ sc.names.lookup x=some .free
def Loc (sc:Scope) (x:Str):Prop:=sc.names.lookup x=some .local \/ sc.names.lookup x=some .cell
def Look (env:Env) (h:Heap) (m:Str -> Option Value) (x:Str) (u:Value):Prop :=
 (env.kindOf x=some .local /\ m x=some u) \/ ((env.kindOf x=some .cell \/ env.kindOf x=some .free) /\ ∃ c,env.cells.lookup x=some c /\ h.IsCell c (some u))
structure Cx.Ok (X:Cx):Prop where
 mod:Mod X.K X.mg X.base
 kind:X.env.scope.kind=.function
 glob:X.env.globals=mainGlobals
 blt:X.env.builtins=builtinsNs
 above:X.s₀.heap.objs.size <= X.env.locals
 inj:∀ x y c,X.env.cells.lookup x=some c -> X.env.cells.lookup y=some c -> x=y
 has:∀ x,(X.env.kindOf x=some .cell \/ X.env.kindOf x=some .free) -> ∃ c,X.env.cells.lookup x=some c
 cab:∀ x c,X.fn x=true -> X.env.cells.lookup x=some c -> X.s₀.heap.objs.size <= c
 hd:X.calm=true -> X.A.handled=none
 frames:X.A.frames=some X.stack
 stk:X.stack=X.outer \/ (X.stack=X.env :: X.outer /\ X.env.frame=some X.env.locals)
 exf:∀ b ∈ X.ex,b ≠ X.env.locals /\ ∀ x c,X.env.cells.lookup x=some c -> c ≠ b
 bs:∀ b o,X.base.get? b=some o -> X.s₀.heap.get? b=some o /\ X.H₀ b=none
 bsz:X.base.objs.size <= X.s₀.heap.objs.size
 noex:∀ b o,X.base.get? b=some o -> b ∉ X.ex
 exfs:∀ b ∈ X.ex,b ∉ X.fs
 funs:X.s₀.heap.FunFrames X.base X.outer
 frf:∀ b ∈ X.fs,X.H₀ b=none
structure Inv (X:Cx) (pins:List (Addr × Obj)) (σ:List (Option V)) (H:Hp) (s:Shared):Prop where
 ok:X.Ok
 os:s.os=X.s₀.os
 bare:AllBare s.gens
 base:Un X.fs X.ex X.H₀ H X.s₀.heap s.heap
 loc:∃ m,s.heap.Ns X.env.locals m /\ ∀ (i:Nat) (x:Str) (v:V),X.N[i]?=some x -> σ[i]?=some (some v) -> Vis X.env.scope x -> ∃ u,aY v u /\ Look X.env s.heap m x u
 cell:∀ x c,X.env.cells.lookup x=some c -> ∃ v,s.heap.IsCell c v
 free:H X.env.locals=none
 freeC:∀ x c,X.env.cells.lookup x=some c -> H c=none
 pin:∀ p ∈ X.pn ++ pins,s.heap.get? p.1=some p.2 /\ H p.1=none /\ p.1 ≠ X.env.locals /\ p.1 ∉ X.fs /\ ∀ v,p.2.data ≠ .cell v
 hok:HOk X.prog X.w H s.heap
 len:σ.length=X.N.length
section
variable {X:Cx} {pins:List (Addr × Obj)} {σ:List (Option V)} {H H':Hp} {s:Shared} {h':Heap}
theorem Cx.Ok.nofr (ok:X.Ok) {b:Addr} {o:Obj} (e:X.base.get? b=some o):b ∉ X.fs:=fun hb=>by
 have:=(ok.funs.mem hb).1
 rw [e] at this; cases this
theorem Inv.bs (I:Inv X pins σ H s):∀ b o,X.base.get? b=some o -> s.heap.get? b=some o /\ H b=none:=fun b o e =>
 ⟨I.base.keep b o (I.ok.bs b o e).1 (I.ok.bs b o e).2 (I.ok.nofr e) (I.ok.noex b o e),I.base.free b o (I.ok.bs b o e).1 (I.ok.bs b o e).2 (I.ok.noex b o e)⟩
theorem Inv.bk (I:Inv X pins σ H s):∀ b o,X.base.get? b=some o -> s.heap.get? b=some o:=fun b o e=>(I.bs b o e).1
theorem Inv.mod (I:Inv X pins σ H s):Mod X.K X.mg X.base:=I.ok.mod
theorem Inv.kIn (I:Inv X pins σ H s):X.K.In s.heap:=I.ok.mod.kin.keeps I.bk
theorem Inv.fr (I:Inv X pins σ H s):∃ m,Fr X.base X.env.locals s.heap m :=
 let ⟨m,hn,_⟩:=I.loc
 ⟨m,hn,I.bk,Nat.le_trans I.ok.bsz I.ok.above⟩
theorem Inv.lt (I:Inv X pins σ H s):X.env.locals < s.heap.objs.size:=let ⟨_,hn,_⟩:=I.loc; hn.lt
theorem Inv.sz (I:Inv X pins σ H s):X.s₀.heap.objs.size <= s.heap.objs.size:=Nat.le_trans I.ok.above (Nat.le_of_lt I.lt)
theorem Inv.nofs (I:Inv X pins σ H s) {a:Addr} (h:s.heap.objs.size <= a):a ∉ X.fs:=fun hb=>by
 obtain ⟨_,o,ho,_⟩:=I.ok.funs.mem hb
 exact absurd (Nat.lt_of_lt_of_le (Heap.lt_size ho) (Nat.le_trans I.sz h)) (Nat.lt_irrefl _)
theorem Inv.cne (I:Inv X pins σ H s):∀ x c,X.env.cells.lookup x=some c -> c ≠ X.env.locals:=fun x c e z=>by
 obtain ⟨v,o,ho,hd⟩:=I.cell x c e
 obtain ⟨m,⟨o',es,ep,ho',hd',_⟩,_⟩:=I.loc
 rw [z,ho'] at ho; cases ho; rw [hd'] at hd; cases hd
theorem Inv.funs (I:Inv X pins σ H s):s.heap.FunFrames X.base X.outer:=by
 have all:∀ (l:List Env),(∀ b ∈ frs l,b ∈ X.fs) -> X.s₀.heap.FunFrames X.base l -> s.heap.FunFrames X.base l:=by
  intro l
  induction l with
  | nil=>intro _ _; trivial
  | cons env r ih =>
   intro hs hl
   obtain ⟨hk,⟨L,o,hf,hn,ho,hd⟩,hr⟩:=hl
   have hL:L ∈ X.fs:=hs L (by unfold frs; rw [List.filterMap_cons,hf]; exact List.mem_cons_self)
   obtain ⟨sl,e⟩:=I.base.slot L o ho (I.ok.frf L hL) hL fun z=>I.ok.exfs L z hL
   exact ⟨hk,⟨L,_,hf,hn,e,hd⟩,ih (fun b hb=>hs b (by unfold frs; rw [List.filterMap_cons,hf]; exact List.mem_cons_of_mem _ hb)) hr⟩
 exact all X.outer (fun _ hb=>hb) I.ok.funs
theorem Inv.stack (I:Inv X pins σ H s):s.heap.FunFrames X.base X.stack:=by
 rcases I.ok.stk with e | ⟨e,hf⟩
 ·rw [e]; exact I.funs
 ·rw [e]
  obtain ⟨m,hn,_⟩:=I.loc
  refine .cons (by rw [I.ok.kind]; decide) hf hn ?_ I.funs
  exact Heap.get?_none_of_le (Nat.le_trans I.ok.bsz I.ok.above)
theorem Inv.stkSub (I:Inv X pins σ H s):∀ b ∈ frs X.stack,b ∈ X.env.locals :: X.fs:=fun b hb=>by
 rcases I.ok.stk with e | ⟨e,hf⟩
 ·rw [e] at hb; exact List.mem_cons_of_mem _ hb
 ·rw [e] at hb
  unfold frs at hb
  rw [List.filterMap_cons,hf] at hb
  exact hb
theorem Inv.stkFree (I:Inv X pins σ H s):∀ b ∈ frs X.stack,H b=none:=fun b hb=>by
 rcases List.mem_cons.mp (I.stkSub b hb) with e | hb
 ·rw [e]; exact I.free
 ·obtain ⟨_,o,ho,_⟩:=I.ok.funs.mem hb
  exact I.base.free b o ho (I.ok.frf b hb) fun z=>I.ok.exfs b z hb
theorem Inv.step {g':Array GenState} {t':Nat} {d':Drawn} {ch:List Addr} (I:Inv X pins σ H s)
  (hch:∀ b ∈ ch,(b ∈ X.ex \/ X.s₀.heap.objs.size <= b) /\ b ≠ X.env.locals /\ (∀ x c,X.env.cells.lookup x=some c -> c ≠ b) /\ ∀ p ∈ X.pn ++ pins,p.1 ≠ b)
  (keep:∀ b o,b ≠ X.env.locals -> b ∉ X.fs -> b ∉ ch -> s.heap.get? b=some o -> H b=none -> h'.get? b=some o)
  (slot:∀ b o,b ≠ X.env.locals -> b ∈ X.fs -> b ∉ ch -> s.heap.get? b=some o -> H b=none -> ∃ sl,h'.get? b=some { o with slots:=sl }) (free:∀ b o,b ∉ ch -> s.heap.get? b=some o -> H b=none -> H' b=none)
  (there:∀ b o,b ∉ ch -> s.heap.get? b=some o -> ∃ o',h'.get? b=some o')
  (tups:∀ b xs,H b=some (.tup xs) -> H' b=some (.tup xs)) (frzs:∀ b o u,H b=some (.frz o u) -> H' b=some (.frz o u)) (tbls:∀ b ps,H b=some (.tbl ps) -> ∃ more,H' b=some (.tbl (ps ++ more)))
  (ns:∀ m,s.heap.Ns X.env.locals m -> h'.Ns X.env.locals m) (hok:HOk X.prog X.w H' h') (hg:AllBare g') :
  Inv X pins σ H' { s with heap:=h',gens:=g',drawn:=d',toks:=t' }:=by
 have neL:∀ b o,X.s₀.heap.get? b=some o -> b ≠ X.env.locals:=fun b o e=>Nat.ne_of_lt (Nat.lt_of_lt_of_le (Heap.lt_size e) I.ok.above)
 have neC:∀ b o,X.s₀.heap.get? b=some o -> b ∉ X.ex -> b ∉ ch:=fun b o e hx hb=>by
  rcases (hch b hb).1 with z | z
  ·exact hx z
  ·exact absurd (Nat.lt_of_lt_of_le (Heap.lt_size e) z) (Nat.lt_irrefl _)
 have cellK:∀ x c,X.env.cells.lookup x=some c -> ∀ v,s.heap.IsCell c v -> h'.IsCell c v:=fun x c e v ⟨o,ho,hd⟩=>by
  have nch:c ∉ ch:=fun z=>(hch c z).2.2.1 x c e rfl
  by_cases hc:c ∈ X.fs
  ·obtain ⟨sl,q⟩:=slot c o (I.cne x c e) hc nch ho (I.freeC x c e)
   exact ⟨_,q,hd⟩
  ·exact ⟨o,keep c o (I.cne x c e) hc nch ho (I.freeC x c e),hd⟩
 refine ⟨I.ok,I.os,hg,⟨fun b o e n hb hx=>?_,fun b o e n hb hx=>?_,fun b o e n hx=>?_,fun b o e hx=>?_,fun b xs e=>tups b xs (I.base.tups b xs e),fun b o xs e=>frzs b o xs (I.base.frzs b o xs e),fun b ps e=>?_⟩,?_,fun x c e=>?_,?_,fun x c e=>?_,fun p hp=>?_,hok,I.len⟩
 ·exact keep b o (neL b o e) hb (neC b o e hx) (I.base.keep b o e n hb hx) (I.base.free b o e n hx)
 ·obtain ⟨sl,e1⟩:=I.base.slot b o e n hb hx
  obtain ⟨sl',e2⟩:=slot b _ (neL b o e) hb (neC b o e hx) e1 (I.base.free b o e n hx)
  exact ⟨sl',e2⟩
 ·obtain ⟨o',e1⟩:=I.base.there b o e hx
  exact free b o' (neC b o e hx) e1 (I.base.free b o e n hx)
 ·obtain ⟨o',e1⟩:=I.base.there b o e hx
  exact there b o' (neC b o e hx) e1
 ·obtain ⟨m1,e1⟩:=I.base.tbls b ps e
  obtain ⟨m2,e2⟩:=tbls b _ e1
  exact ⟨m1 ++ m2,by rw [e2,Array.append_assoc]⟩
 ·obtain ⟨m,hn,hl⟩:=I.loc
  refine ⟨m,ns m hn,fun i x v e1 e2 e3=>?_⟩
  obtain ⟨u,r,l⟩:=hl i x v e1 e2 e3
  refine ⟨u,r,?_⟩
  rcases l with l | ⟨k,c,e,z⟩
  ·exact .inl l
  ·exact .inr ⟨k,c,e,cellK x c e _ z⟩
 ·obtain ⟨v,z⟩:=I.cell x c e
  exact ⟨v,cellK x c e v z⟩
 ·obtain ⟨m,⟨o,_,_,ho,_⟩,_⟩:=I.loc
  exact free _ o (fun z=>(hch _ z).2.1 rfl) ho I.free
 ·obtain ⟨v,o,ho,hd⟩:=I.cell x c e
  exact free c o (fun z=>(hch c z).2.2.1 x c e rfl) ho (I.freeC x c e)
 ·obtain ⟨e,n,ne,nf,d⟩:=I.pin p hp
  have nch:p.1 ∉ ch:=fun z=>(hch p.1 z).2.2.2 p hp rfl
  exact ⟨keep p.1 p.2 ne nf nch e n,free p.1 p.2 nch e n,ne,nf,d⟩
theorem Inv.un {t':Nat} (I:Inv X pins σ H s) (u:Un X.fs [] H H' s.heap h') (hok:HOk X.prog X.w H' h'):Inv X pins σ H' { s with heap:=h',toks:=t' }:=by
 obtain ⟨m,⟨o,es,ep,ho,r⟩,_⟩:=id I.loc
 obtain ⟨sl,hL⟩:=u.any ho I.free (by simp)
 exact I.step (g':=s.gens) (d':=s.drawn) (ch:=[]) (fun _ z=>nomatch z) (fun b o _ hb _ e n=>u.keep b o e n hb (by simp)) (fun b o _ hb _ e n=>u.slot b o e n hb (by simp)) (fun b o _ e n=>u.free b o e n (by simp)) (fun b o _ e=>u.there b o e (by simp)) u.tups u.frzs u.tbls (fun m' hm=>by
  obtain ⟨o',es',ep',ho',r'⟩:=hm
  rw [ho] at ho'; cases ho'
  exact ⟨_,es',ep',hL,r'⟩) hok I.bare
theorem Inv.call {g':Array GenState} {t':Nat} {d':Drawn} {ch:List Addr} (I:Inv X pins σ H s) (u:Un (frs X.stack) ch H H' s.heap h') (hok:HOk X.prog X.w H' h') (hg:AllBare g')
  (hch:∀ b ∈ ch,(b ∈ X.ex \/ X.s₀.heap.objs.size <= b) /\ b ≠ X.env.locals /\ (∀ x c,X.env.cells.lookup x=some c -> c ≠ b) /\ ∀ p ∈ X.pn ++ pins,p.1 ≠ b) :
  Inv X pins σ H' { s with heap:=h',gens:=g',drawn:=d',toks:=t' }:=by
 obtain ⟨m,⟨o,es,ep,ho,r⟩,_⟩:=id I.loc
 obtain ⟨sl,hL⟩:=u.any ho I.free fun z=>(hch _ z).2.1 rfl
 exact I.step (ch:=ch) hch (fun b o hL hb hc e n=>u.keep b o e n (fun z=>(List.mem_cons.mp (I.stkSub b z)).elim hL hb) hc) (fun b o _ _ hc e n=>u.any e n hc) (fun b o hc e n=>u.free b o e n hc) (fun b o hc e=>u.there b o e hc) u.tups u.frzs u.tbls (fun m' hm=>by
  obtain ⟨o',es',ep',ho',r'⟩:=hm
  rw [ho] at ho'; cases ho'
  exact ⟨_,es',ep',hL,r'⟩) hok hg
theorem Inv.turned {t':Nat} {it:Addr} (I:Inv X pins σ H s) (k:∀ b o,b ≠ it -> s.heap.get? b=some o -> h'.get? b=some o) (hn:H it=none) (hL:it ≠ X.env.locals)
  (h1:it ∈ X.ex \/ X.s₀.heap.objs.size <= it) (h2:∀ x c,X.env.cells.lookup x=some c -> c ≠ it) (h3:∀ p ∈ X.pn ++ pins,p.1 ≠ it):Inv X pins σ H { s with heap:=h',toks:=t' }:=by
 have nit:∀ b u,H b=some u -> b ≠ it:=fun b u e z=>by rw [z,hn] at e; cases e
 refine I.step (g':=s.gens) (d':=s.drawn) (ch:=[it]) (fun b hb=>?_) (fun b o _ _ hc e _=>k b o (fun z=>hc (by simp [z])) e) (fun b o _ _ hc e _=>⟨o.slots,k b o (fun z=>hc (by simp [z])) e⟩) (fun _ _ _ _ n=>n)
  (fun b o hc e=>⟨o,k b o (fun z=>hc (by simp [z])) e⟩) (fun _ _ e=>e) (fun _ _ _ e=>e) (fun b ps e=>⟨#[],by rw [e]; simp⟩) (fun m hm=>?_) (fun b u e=>?_) I.bare
 ·have e:b=it:=by simpa using hb
  subst e
  exact ⟨h1,hL,h2,h3⟩
 ·obtain ⟨o,es,ep,ho,r⟩:=hm
  exact ⟨o,es,ep,k _ o (Ne.symm hL) ho,r⟩
 ·refine (I.hok b u e).stay (fun c v hc q=>k c v ?_ q) (fun _ q=>q) fun _ _ q=>q
  rcases hc with z | z
  ·rw [z]; exact nit b u e
  ·exact nit c _ z
theorem Inv.tok (I:Inv X pins σ H s) (t:Nat):Inv X pins σ H { s with toks:=t }:=I.un (h':=s.heap) (t':=t) Un.refl I.hok
theorem Inv.kept {t':Nat} (I:Inv X pins σ H s) (k:∀ b u,s.heap.get? b=some u -> h'.get? b=some u):Inv X pins σ H { s with heap:=h',toks:=t' }:=I.un (Un.kept k) (I.hok.kept k)
theorem Inv.laid {a:Addr} {o:HO} {t':Nat} (I:Inv X pins σ H s) (k:∀ b u,s.heap.get? b=some u -> h'.get? b=some u) (hp:s.heap.objs.size <= a) (new:ck X.prog X.w (upd H a o) h' a o) :
  Inv X pins σ (upd H a o) { s with heap:=h',toks:=t' }:=I.un (Un.laid k hp (I.hok.fresh hp)) (I.hok.laid k hp new)
theorem Inv.write {x e:Addr} {o:HO} {t':Nat} (I:Inv X pins σ H s) (mu:Mut (H x)) (he:e=x \/ H e=some (.own x)) (k:∀ b u,b ≠ e -> s.heap.get? b=some u -> h'.get? b=some u) (heo:∃ u,h'.get? e=some u)
  (new:ck X.prog X.w (upd H x o) h' x o):Inv X pins σ (upd H x o) { s with heap:=h',toks:=t' }:=I.un (Un.write mu he k heo) (I.hok.write mu he k heo new)
theorem Inv.weak {σ':List (Option V)} (I:Inv X pins σ H s) (hl:σ'.length=σ.length) (w:∀ (i:Nat) v,σ'[i]?=some (some v) -> σ[i]?=some (some v)):Inv X pins σ' H s :=
 ⟨I.ok,I.os,I.bare,I.base,let ⟨m,hn,hl'⟩:=I.loc; ⟨m,hn,fun i x v e1 e2 e3=>hl' i x v e1 (w i v e2) e3⟩,I.cell,I.free,I.freeC,I.pin,I.hok,hl.trans I.len⟩
theorem Inv.pins_of {pins':List (Addr × Obj)} (I:Inv X pins σ H s) (h:∀ p ∈ pins',s.heap.get? p.1=some p.2 /\ H p.1=none /\ p.1 ≠ X.env.locals /\ p.1 ∉ X.fs /\ ∀ v,p.2.data ≠ .cell v):Inv X pins' σ H s :=
 ⟨I.ok,I.os,I.bare,I.base,I.loc,I.cell,I.free,I.freeC,fun p hp=>(List.mem_append.mp hp).elim (fun z=>I.pin p (List.mem_append_left _ z)) (h p),I.hok,I.len⟩
theorem lZ {N:List Str} (hN:N.Nodup) {i j:Nat} {x:Str} (a:N[i]?=some x) (b:N[j]?=some x):i=j:=by
 obtain ⟨h1,e1⟩:=List.getElem?_eq_some_iff.mp a
 obtain ⟨h2,e2⟩:=List.getElem?_eq_some_iff.mp b
 exact (List.getElem_inj hN).mp (e1.trans e2.symm)
theorem jI {M:Model} {A:Around} {E:Value -> Shared -> Prop} {i:Nat} {x:Str} {v:V} {u:Value} {Q:Unit -> Shared -> Prop} (I:Inv X pins σ H s) (hN:X.N.Nodup) (hi:X.N[i]?=some x) (hx:Loc X.env.scope x) (r:aY v u)
  (h:∀ s',Inv X pins (σ.set i (some v)) H s' -> (∃ a,Heap.SameBut a s.heap s'.heap /\ (a=X.env.locals \/ X.env.cells.lookup x=some a)) -> Q () s') (hf:X.fn x=true \/ X.env.scope.names.lookup x=some .local:=by first | exact .inl rfl | exact .inr rfl | assumption):wpAny M A (storeName X.env x u) Q E s:=by
 obtain ⟨m,hn,hl⟩:=id I.loc
 have hcls:(X.env.scope.kind == .class || (X.env.scope.kind == .module && X.env.locals != X.env.globals))=false:=by rw [I.ok.kind]; rfl
 have hiσ:i < σ.length:=by rw [I.len]; exact (List.getElem?_eq_some_iff.mp hi).1
 have cne:=I.cne
 have tracked:∀ {a:Addr} {h':Heap},(∃ o,s.heap.get? a=some o /\ H a=none) -> Heap.SameBut a s.heap h' -> HOk X.prog X.w H h':=fun {a h'} ha hs b ob e=>by
  obtain ⟨_,_,hfree⟩:=ha
  refine (I.hok b ob e).stay (fun c w' hc q=>(hs.2 c ?_).trans q) (fun _ q=>q) fun _ _ q=>q
  rintro rfl
  rcases hc with rfl | hc
  ·rw [hfree] at e; cases e
  ·rw [hfree] at hc; cases hc
 rcases hx with hk | hk
 ·refine wpAny_storeName_local hk hn (fun h' hn' hs=>?_) hcls
  obtain ⟨oL,_,_,hoL,_⟩:=id hn
  refine h _ ⟨I.ok,I.os,I.bare,⟨fun b o e n hb hx=>?_,fun b o e n hb hx=>?_,I.base.free,fun b o e hx=>?_,I.base.tups,I.base.frzs,I.base.tbls⟩,⟨_,hn',fun j y v' e1 e2 e3=>?_⟩,fun y c e=>?_,I.free,I.freeC,fun p hp=>?_,tracked ⟨oL,hoL,I.free⟩ hs,by simpa using I.len⟩ ⟨_,hs,.inl rfl⟩
  ·exact (hs.2 b (Nat.ne_of_lt (Nat.lt_of_lt_of_le (Heap.lt_size e) I.ok.above))).trans (I.base.keep b o e n hb hx)
  ·obtain ⟨sl,e1⟩:=I.base.slot b o e n hb hx
   exact ⟨sl,(hs.2 b (Nat.ne_of_lt (Nat.lt_of_lt_of_le (Heap.lt_size e) I.ok.above))).trans e1⟩
  ·obtain ⟨o',e1⟩:=I.base.there b o e hx
   exact ⟨o',(hs.2 b (Nat.ne_of_lt (Nat.lt_of_lt_of_le (Heap.lt_size e) I.ok.above))).trans e1⟩
  ·by_cases hj:j=i
   ·subst hj
    rw [hi] at e1; cases e1
    rw [List.getElem?_set_self hiσ] at e2
    cases e2
    exact ⟨u,r,.inl ⟨hk,by simp⟩⟩
   ·rw [List.getElem?_set_ne (Ne.symm hj)] at e2
    obtain ⟨u',r',q⟩:=hl j y v' e1 e2 e3
    refine ⟨u',r',?_⟩
    rcases q with ⟨k,e⟩ | ⟨k,c,e,z⟩
    ·refine .inl ⟨k,?_⟩
     have:y ≠ x:=fun e=>hj (lZ hN e1 (e ▸ hi))
     simp [this,e]
    ·exact .inr ⟨k,c,e,z.sameBut hs (cne y c e)⟩
  ·obtain ⟨w',z⟩:=I.cell y c e
   exact ⟨w',z.sameBut hs (cne y c e)⟩
  ·obtain ⟨e,n,ne,nf,d⟩:=I.pin p hp
   exact ⟨(hs.2 p.1 ne).trans e,n,ne,nf,d⟩
 ·have hfn:X.fn x=true:=by
   rcases hf with z | z
   ·exact z
   ·rw [z] at hk; cases hk
  obtain ⟨c,hc⟩:=I.ok.has x (.inl hk)
  obtain ⟨w',z⟩:=I.cell x c hc
  refine wpAny_storeName_cell I.ok.kind hk hc z (fun h' hc' hs=>?_)
  obtain ⟨oc,hoc,hocd⟩:=id z
  refine h { s with heap:=h' } ⟨I.ok,I.os,I.bare,⟨fun b o e n hb hx=>?_,fun b o e n hb hx=>?_,I.base.free,fun b o e hx=>?_,I.base.tups,I.base.frzs,I.base.tbls⟩,⟨m,hn.sameBut hs (Ne.symm (cne x c hc)),fun j y v' e1 e2 e3=>?_⟩,fun y c' e=>?_,I.free,I.freeC,fun p hp=>?_,tracked ⟨oc,hoc,I.freeC x c hc⟩ hs,by simpa using I.len⟩ ⟨c,hs,.inr hc⟩
  ·exact (hs.2 b (Nat.ne_of_lt (Nat.lt_of_lt_of_le (Heap.lt_size e) (I.ok.cab x c hfn hc)))).trans (I.base.keep b o e n hb hx)
  ·obtain ⟨sl,e1⟩:=I.base.slot b o e n hb hx
   exact ⟨sl,(hs.2 b (Nat.ne_of_lt (Nat.lt_of_lt_of_le (Heap.lt_size e) (I.ok.cab x c hfn hc)))).trans e1⟩
  ·obtain ⟨o',e1⟩:=I.base.there b o e hx
   exact ⟨o',(hs.2 b (Nat.ne_of_lt (Nat.lt_of_lt_of_le (Heap.lt_size e) (I.ok.cab x c hfn hc)))).trans e1⟩
  ·by_cases hj:j=i
   ·subst hj
    rw [hi] at e1; cases e1
    rw [List.getElem?_set_self hiσ] at e2
    cases e2
    exact ⟨u,r,.inr ⟨.inl hk,c,hc,hc'⟩⟩
   ·rw [List.getElem?_set_ne (Ne.symm hj)] at e2
    obtain ⟨u',r',q⟩:=hl j y v' e1 e2 e3
    refine ⟨u',r',?_⟩
    rcases q with q | ⟨k,c',e,z'⟩
    ·exact .inl q
    ·refine .inr ⟨k,c',e,z'.sameBut hs ?_⟩
     rintro rfl
     exact hj (lZ hN e1 (I.ok.inj _ _ _ e hc ▸ hi))
  ·by_cases hcc:c'=c
   ·subst hcc; exact ⟨_,hc'⟩
   ·obtain ⟨w2,z2⟩:=I.cell y c' e
    exact ⟨w2,z2.sameBut hs hcc⟩
  ·obtain ⟨e,n,ne,nf,d⟩:=I.pin p hp
   refine ⟨(hs.2 p.1 ?_).trans e,n,ne,nf,d⟩
   intro q
   rw [q,hoc] at e
   have q':oc=p.2:=Option.some.inj e
   exact d w' (by rw [<- q']; exact hocd)
theorem l6 {M:Model} {A:Around} {E:Value -> Shared -> Prop} {i:Nat} {x:Str} {v:V} {u:Value} {Q:Unit -> Shared -> Prop} (I:Inv X pins σ H s) (hN:X.N.Nodup) (hi:X.N[i]?=some x) (hx:Loc X.env.scope x) (r:aY v u)
  (h:∀ s',Inv X pins (σ.set i (some v)) H s' -> Q () s') (hf:X.fn x=true \/ X.env.scope.names.lookup x=some .local:=by first | exact .inl rfl | exact .inr rfl | assumption):wpAny M A (storeName X.env x u) Q E s :=
 jI I hN hi hx r (fun s' I' _=>h s' I') hf
theorem Inv.call' {s':Shared} {ch:List Addr} (I:Inv X pins σ H s) (ho:s'.os=s.os) (u:Un (frs X.stack) ch H H' s.heap s'.heap) (hok:HOk X.prog X.w H' s'.heap) (hg:AllBare s'.gens)
  (hch:∀ b ∈ ch,(b ∈ X.ex \/ X.s₀.heap.objs.size <= b) /\ b ≠ X.env.locals /\ (∀ x c,X.env.cells.lookup x=some c -> c ≠ b) /\ ∀ p ∈ X.pn ++ pins,p.1 ≠ b):Inv X pins σ H' s':=by
 obtain ⟨h',g',d',t',o'⟩:=s'
 have e:o'=s.os:=ho
 subst e
 exact I.call (g':=g') (t':=t') (d':=d') u hok hg hch
end
abbrev XK:=Value -> Option Addr -> Hp -> Prop
abbrev St:=List (Option V)
abbrev VK:=V -> Hp -> Prop
abbrev TE:=St -> Hp -> VK -> Prop
abbrev TT:=St -> Hp -> (Bool -> Hp -> Prop) -> Prop
abbrev TA:=St -> Hp -> (List V -> Hp -> Prop) -> Prop
structure ib where
 nx:St -> Hp -> Prop
 rt:VK
 bk:St -> Hp -> Prop:=fun _ _=>False
 ct:St -> Hp -> Prop:=fun _ _=>False
abbrev TS:=ib -> St -> Hp -> Prop
def EP (X:Cx) (pins:List (Addr × Obj)) (σ:St) (Q:VK) (u:Value) (s':Shared):Prop:=∃ v H',Inv X pins σ H' s' /\ aY v u /\ Q v H'
def TP (X:Cx) (pins:List (Addr × Obj)) (σ:St) (Q:Bool -> Hp -> Prop) (b:Bool) (s':Shared):Prop:=∃ H',Inv X pins σ H' s' /\ Q b H'
def AP (X:Cx) (pins:List (Addr × Obj)) (σ:St) (Q:List V -> Hp -> Prop) (us:List Value) (s':Shared):Prop:=∃ vs H',Inv X pins σ H' s' /\ bh vs us /\ Q vs H'
def SP (X:Cx) (pins:List (Addr × Obj)) (D:ib) (f:Flow) (s':Shared):Prop :=
 match f with
 | .next=>∃ σ' H',Inv X pins σ' H' s' /\ D.nx σ' H'
 | .brk=>∃ σ' H',Inv X pins σ' H' s' /\ D.bk σ' H'
 | .cont=>∃ σ' H',Inv X pins σ' H' s' /\ D.ct σ' H'
 | .ret u=>∃ v σ' H',Inv X pins σ' H' s' /\ aY v u /\ D.rt v H'
def PE (X:Cx) (e:Expr) (t:TE):Prop :=
 ∀ (pins:List (Addr × Obj)) (s:Shared) (σ:St) (H:Hp) (Q:VK),Inv X pins σ H s -> t σ H Q -> wpAny (model X.prog X.w) X.A (eval e X.env) (EP X pins σ Q) X.xe s
def PT (X:Cx) (e:Expr) (t:TT):Prop :=
 ∀ (pins:List (Addr × Obj)) (s:Shared) (σ:St) (H:Hp) (Q:Bool -> Hp -> Prop),Inv X pins σ H s -> t σ H Q -> wpAny (model X.prog X.w) X.A (isTrue e X.env (eval e X.env)) (TP X pins σ Q) X.xe s
def PW (X:Cx) (e:Expr) (t:TT):Prop :=
 ∀ (whole:Sem Value) (pins:List (Addr × Obj)) (s:Shared) (σ:St) (H:Hp) (Q:Bool -> Hp -> Prop),Inv X pins σ H s -> t σ H Q -> wpAny (model X.prog X.w) X.A (isTrue e X.env whole) (TP X pins σ Q) X.xe s
theorem PW.pt {X:Cx} {e:Expr} {t:TT} (h:PW X e t):PT X e t:=h _
def PA (X:Cx) (es:List Expr) (t:TA):Prop :=
 ∀ (pos:Pos) (pins:List (Addr × Obj)) (s:Shared) (σ:St) (H:Hp) (Q:List V -> Hp -> Prop),Inv X pins σ H s -> t σ H Q -> wpAny (model X.prog X.w) X.A (spliced (backTo pos (starEach es X.env))) (AP X pins σ Q) X.xe s
def PS (X:Cx) (st:Stmt) (t:TS):Prop :=
 ∀ (pins:List (Addr × Obj)) (s:Shared) (σ:St) (H:Hp) (D:ib),Inv X pins σ H s -> t D σ H -> wpAny (model X.prog X.w) X.A (exec st X.env) (SP X pins D) X.xe s
def PSs (X:Cx) (st:List Stmt) (t:TS):Prop :=
 ∀ (pins:List (Addr × Obj)) (s:Shared) (σ:St) (H:Hp) (D:ib),Inv X pins σ H s -> t D σ H -> wpAny (model X.prog X.w) X.A (execs st X.env) (SP X pins D) X.xe s
theorem thn {α:Type} {t:Sem α} {Q Q':α -> Shared -> Prop} {M:Model} {A:Around} {E:Value -> Shared -> Prop} {s:Shared} (h:wpAny M A t Q E s) (hQ:∀ a s,Q a s -> Q' a s):wpAny M A t Q' E s:=wpAny_mono h hQ fun _ _ x=>x
section
variable {X:Cx}
def tVar (i:Nat):TE:=fun σ H Q=>∃ v,σ[i]?=some (some v) /\ Q v H
def tC (v:V):TE:=fun _ H Q=>Q v H
theorem pe_var {i:Nat} {x:Str} {pos:Pos} (hN:X.N[i]?=some x) (hv:Vis X.env.scope x) (hd:(x == ("__debug__":Str))=false:=by decide) (hcd:(x == ("__classdict__":Str))=false:=by decide):PE X (.Name x pos) (tVar i):=by
 intro pins s σ H Q I h
 obtain ⟨v,e,h⟩:=h
 obtain ⟨m,hn,hl⟩:=I.loc
 obtain ⟨u,r,l⟩:=hl i x v hN e hv
 have fin:EP X pins σ Q u s:=⟨v,H,I,r,h⟩
 rcases l with ⟨hk,hm⟩ | ⟨hk,c,hc,hcell⟩
 ·exact wpAny_Name (wpAny_loadName_local I.ok.kind hk hn hm fin) hd
 ·rcases hk with hk | hk
  ·exact wpAny_Name (wpAny_loadName_cell I.ok.kind hk hc hcell fin) hd
  ·exact wpAny_Name (wpAny_loadName_free I.ok.kind hk hc hcell fin hcd) hd
theorem af {i j pos}:PE X (.Constant (.int i) j pos) (tC (.int i)):=fun _ _ _ H _ I h=>wpAny_Constant_int ⟨.int i,H,I.tok _,⟨_,rfl⟩,h⟩
theorem dU {b j pos}:PE X (.Constant (.bool b) j pos) (tC (.bl b)):=fun _ _ _ H _ I h=>Constant_bool ⟨.bl b,H,I,rfl,h⟩
theorem cn {j pos}:PE X (.Constant .none j pos) (tC .non):=fun _ _ _ H _ I h=>Constant_none ⟨.non,H,I,rfl,h⟩
theorem aN {x j pos}:PE X (.Constant (.str x) j pos) (tC (.str x)):=fun _ _ _ H _ I h=>Calls.Constant_str ⟨.str x,H,I.tok _,⟨_,rfl⟩,h⟩
def Gl (X:Cx) (x:Str):Prop:=X.env.kindOf x=some .globalImplicit
theorem il {E:Value -> Shared -> Prop} {pins:List (Addr × Obj)} {s:Shared} {σ:St} {H:Hp} {x:Str} {u:Value} {pos:Pos} {Q:Value -> Shared -> Prop} (I:Inv X pins σ H s) (hg:Gl X x) (hm:X.mg x=some u) (h:Q u s)
  (hd:(x == ("__debug__":Str))=false:=by decide):wpAny (model X.prog X.w) X.A (eval (.Name x pos) X.env) Q E s :=
 Calls.Name_function_global I.ok.kind hg (Calls.loadGlobal_global (by rw [I.ok.glob]; exact I.mod.glob.keeps I.bk) hm h) hd
theorem fR {E:Value -> Shared -> Prop} {pins:List (Addr × Obj)} {s:Shared} {σ:St} {H:Hp} {x:Str} {u:Value} {pos:Pos} {Q:Value -> Shared -> Prop} (I:Inv X pins σ H s) (hg:Gl X x) (hm:X.mg x=none) (hv:bootBuiltins x=some u) (h:Q u s)
  (hn:x ≠ "__name__":=by decide) (hd:(x == ("__debug__":Str))=false:=by decide):wpAny (model X.prog X.w) X.A (eval (.Name x pos) X.env) Q E s:=by
 obtain ⟨mb,h1,h2⟩:=I.mod.blt
 exact Calls.Name_function_global I.ok.kind hg (Calls.loadGlobal_builtin (by rw [I.ok.glob]; exact I.mod.glob.keeps I.bk) hm (by rw [I.ok.blt]; exact h1.keeps I.bk) ((h2 x hn).trans hv) h) hd
theorem eI {x:Str} {v:V} {u:Value} {pos:Pos} (hg:Gl X x) (hm:X.mg x=some u) (r:aY v u) (hd:(x == ("__debug__":Str))=false:=by decide):PE X (.Name x pos) (tC v) :=
 fun _ _ _ H _ I h=>il I hg hm ⟨v,H,I,r,h⟩ hd
theorem cG {x:Str} {v:V} {u:Value} {pos:Pos} (hg:Gl X x) (hm:X.mg x=none) (hv:bootBuiltins x=some u) (r:aY v u) (hn:x ≠ "__name__":=by decide) (hd:(x == ("__debug__":Str))=false:=by decide):PE X (.Name x pos) (tC v) :=
 fun _ _ _ H _ I h=>fR I hg hm hv ⟨v,H,I,r,h⟩ hn hd
variable {a b:Expr} {ta tb:TE} {pos:Pos}
def PC (X:Cx) (op:CmpOp) (a b:Expr) (t:TE):Prop :=
 ∀ (pins:List (Addr × Obj)) (s:Shared) (σ:St) (H:Hp) (Q:VK),Inv X pins σ H s -> t σ H Q ->
  wpAny (model X.prog X.w) X.A (eval a X.env) (fun v s₁=>wpAny (model X.prog X.w) X.A (eval b X.env) (fun u s₂=>wpAny (model X.prog X.w) X.A (compareOp op v u) (EP X pins σ Q) X.xe s₂) X.xe s₁) X.xe s
theorem sB (b:Expr) {op:CmpOp} (h:op ≠ .In) (h2:op ≠ .NotIn):behindInMarks op b=false:=by
 have e1:(op == CmpOp.In)=false:=by cases op <;> first | rfl | exact absurd rfl h
 have e2:(op == CmpOp.NotIn)=false:=by cases op <;> first | rfl | exact absurd rfl h2
 cases b <;> simp [behindInMarks,e1,e2]
def tIsN (ta:TE):TE:=fun σ H Q=>ta σ H fun x H1=>Q (.bl (decide (x=.non))) H1
theorem aY.none_iff {x:V} {v:Value} (r:aY x v):(v == Value.none)=decide (x=.non):=by
 cases x with
 | non=>cases r; rfl
 | bl _=>cases r; rfl
 | int _=>obtain ⟨t,rfl⟩:=r; rfl
 | str _=>obtain ⟨t,rfl⟩:=r; rfl
 | byt _=>obtain ⟨t,rfl⟩:=r; rfl
 | flt _=>obtain ⟨t,rfl⟩:=r; rfl
 | ref _=>cases r; rfl
 | ty _=>cases r; rfl
theorem kq {j pos'} (ha:PE X a ta):PC X .Is a (.Constant .none j pos') (tIsN ta):=by
 intro pins s σ H Q I h
 refine thn (ha pins s σ H _ I h) fun v s1 ⟨x,H1,I1,r1,q1⟩=>?_
 exact Constant_none (is_none_gen ⟨.bl _,H1,I1,by rw [r1.none_iff]; rfl,q1⟩)
def tB (t:TE):TT:=fun σ H Q=>t σ H fun x H1=>∃ c,x=.bl c /\ Q c H1
theorem iI {op:CmpOp} {t:TE} (h:PC X op a b t) (h1:behindInMarks op b=false:=by first | exact sB _ (by decide) (by decide) | rfl):PT X (.Compare a [op] [b] pos) (tB t):=by
 intro pins s σ H Q I hw
 refine wpAny_isTrue_Compare1 (thn (h pins s σ H _ I hw) fun v s1 h1=>thn h1 fun u s2 h2=>thn h2 fun c s3 ⟨x,H1,I1,r1,q1⟩=>?_) h1
 obtain ⟨d,rfl,q⟩:=q1
 cases r1
 exact wpAny_truthy_bool ⟨H1,I1,q⟩
theorem cY {e:Expr} {t:TE} (h:PE X e t) (he:∀ whole,isTrue e X.env whole=(do let v <- whole; standAt e.pos; holding [v] (truthy v)):=by intro _; rfl):PT X e (tB t):=by
 intro pins s σ H Q I hw
 refine isTrue_plain (thn (h pins s σ H _ I hw) fun v s1 ⟨x,H1,I1,r1,q1⟩=>?_) (he _)
 obtain ⟨d,rfl,q⟩:=q1
 cases r1
 exact wpAny_truthy_bool ⟨H1,I1,q⟩
variable {tA tB':TT} {rest:List Expr}
def tAnd (t u:TT):TT:=fun σ H Q=>t σ H fun c H1=>if c=true then u σ H1 Q else Q false H1
def tOr (t u:TT):TT:=fun σ H Q=>t σ H fun c H1=>if c=true then Q true H1 else u σ H1 Q
def tNot (t:TT):TT:=fun σ H Q=>t σ H fun c H1=>Q (!c) H1
theorem fZ (ha:PT X a tA):PW X (.BoolOp .And [a] pos) tA:=by
 intro wh pins s σ H Q I h
 refine isTrue_and (thn (ha pins s σ H Q I h) fun c s1 e=>?_)
 cases c with
 | true=>exact isTrue_and_nil e
 | false=>exact e
theorem cZ (ha:PT X a tA):PW X (.BoolOp .Or [a] pos) tA:=by
 intro wh pins s σ H Q I h
 refine isTrue_or (thn (ha pins s σ H Q I h) fun c s1 e=>?_)
 cases c with
 | false=>exact isTrue_or_nil e
 | true=>exact e
theorem iJ (ha:PT X a tA) (hb:PW X (.BoolOp .And (b :: rest) pos) tB'):PW X (.BoolOp .And (a :: b :: rest) pos) (tAnd tA tB'):=by
 intro wh pins s σ H Q I h
 refine isTrue_and (thn (ha pins s σ H _ I h) fun c s1 ⟨H1,I1,q1⟩=>?_)
 cases c with
 | true=>exact hb wh pins s1 σ H1 Q I1 q1
 | false=>exact ⟨H1,I1,q1⟩
theorem cN (ha:PT X a tA) (hb:PW X (.BoolOp .Or (b :: rest) pos) tB'):PW X (.BoolOp .Or (a :: b :: rest) pos) (tOr tA tB'):=by
 intro wh pins s σ H Q I h
 refine isTrue_or (thn (ha pins s σ H _ I h) fun c s1 ⟨H1,I1,q1⟩=>?_)
 cases c with
 | true=>exact ⟨H1,I1,q1⟩
 | false=>exact hb wh pins s1 σ H1 Q I1 q1
theorem dD (ha:PT X a tA):PT X (.UnaryOp .Not a pos) (tNot tA):=by
 intro pins s σ H Q I h
 exact isTrue_not (ha pins s σ H (fun c H1=>Q (!c) H1) I h)
def tAndV (ta tb:TE):TE:=fun σ H Q=>ta σ H fun x H1=>∃ c,x=.bl c /\ if c=true then tb σ H1 Q else Q (.bl false) H1
def tOrV (ta tb:TE):TE:=fun σ H Q=>ta σ H fun x H1=>∃ c,x=.bl c /\ if c=true then Q (.bl true) H1 else tb σ H1 Q
def tNotV (ta:TE):TE:=fun σ H Q=>ta σ H fun x H1=>∃ c,x=.bl c /\ Q (.bl (!c)) H1
theorem dE {op} {t:TE} (h:PE X a t):PE X (.BoolOp op [a] pos) t:=fun pins s σ H Q I hw=>BoolOp_one (h pins s σ H Q I hw)
theorem cK (ha:PE X a ta) (hb:PE X (.BoolOp .And (b :: rest) pos) tb):PE X (.BoolOp .And (a :: b :: rest) pos) (tAndV ta tb):=by
 intro pins s σ H Q I h
 refine BoolOp_and (thn (ha pins s σ H _ I h) fun v s1 ⟨x,H1,I1,r1,q1⟩=>?_)
 obtain ⟨c,rfl,q1⟩:=q1
 cases r1
 refine wpAny_truthy_bool ?_
 cases c with
 | true=>exact hb pins s1 σ H1 Q I1 q1
 | false=>exact ⟨.bl false,H1,I1,rfl,q1⟩
theorem pe_or (ha:PE X a ta) (hb:PE X (.BoolOp .Or (b :: rest) pos) tb):PE X (.BoolOp .Or (a :: b :: rest) pos) (tOrV ta tb):=by
 intro pins s σ H Q I h
 refine BoolOp_or (thn (ha pins s σ H _ I h) fun v s1 ⟨x,H1,I1,r1,q1⟩=>?_)
 obtain ⟨c,rfl,q1⟩:=q1
 cases r1
 refine wpAny_truthy_bool ?_
 cases c with
 | false=>exact hb pins s1 σ H1 Q I1 q1
 | true=>exact ⟨.bl true,H1,I1,rfl,q1⟩
theorem sC (ha:PE X a ta):PE X (.UnaryOp .Not a pos) (tNotV ta):=by
 intro pins s σ H Q I h
 refine UnaryOp_ (thn (ha pins s σ H _ I h) fun v s1 ⟨x,H1,I1,r1,q1⟩=>?_)
 obtain ⟨c,rfl,q1⟩:=q1
 cases r1
 exact not_of (wpAny_truthy_bool ⟨.bl (!c),H1,I1,rfl,q1⟩)
def tIf (t:TT) (ta tb:TE):TE:=fun σ H Q=>t σ H fun c H1=>if c=true then ta σ H1 Q else tb σ H1 Q
theorem l7 {c:Expr} (hc:PT X c tA) (ha:PE X a ta) (hb:PE X b tb):PE X (.IfExp c a b pos) (tIf tA ta tb):=by
 intro pins s σ H Q I h
 refine wpAny_IfExp (thn (hc pins s σ H _ I h) fun d s1 ⟨H1,I1,q1⟩=>?_)
 cases d with
 | true=>exact ha pins s1 σ H1 Q I1 q1
 | false=>exact hb pins s1 σ H1 Q I1 q1
end
def SqL (K:PySem.W.Frag) (H:Hp) (a:Addr) (xs:List V):Prop :=
 Rd H a (.lst xs) \/
  ∃ (o:Obj) (its:Array Value) (n:Nat),K.lookup a=some o /\ o.cls=.type "list" /\ o.dict=none /\ o.data=.seq its n /\ its.size <= sizeLine /\ bh xs its.toList
def SqT (K:PySem.W.Frag) (H:Hp) (a:Addr) (xs:List V):Prop :=
 Rd H a (.tup xs) \/
  ∃ (o:Obj) (its:Array Value) (n:Nat),K.lookup a=some o /\ o.cls=.type "tuple" /\ o.data=.seq its n /\ its.size <= sizeLine /\ bh xs its.toList
def absV:Value -> Option V
 | .none=>some .non
 | .bool b=>some (.bl b)
 | .int i _=>some (.int i)
 | .str x _=>some (.str x)
 | .bytes b _=>some (.byt b)
 | .float b _=>some (.flt b)
 | .ref a=>some (.ref a)
 | .type n=>some (.ty n)
 | _=>none
theorem aY.abs {x:V} {u:Value} (r:aY x u):absV u=some x:=by
 cases x with
 | non=>cases r; rfl
 | bl _=>cases r; rfl
 | int _=>obtain ⟨t,rfl⟩:=r; rfl
 | str _=>obtain ⟨t,rfl⟩:=r; rfl
 | byt _=>obtain ⟨t,rfl⟩:=r; rfl
 | flt _=>obtain ⟨t,rfl⟩:=r; rfl
 | ref _=>cases r; rfl
 | ty _=>cases r; rfl
theorem aY.inj {x y:V} {u:Value} (r:aY x u) (q:aY y u):x=y:=Option.some.inj (r.abs.symm.trans q.abs)
theorem bh.inj:∀ {xs ys:List V} {us:List Value},bh xs us -> bh ys us -> xs=ys
 | _,_,_,.nil,.nil=>rfl
 | _,_,_,.cons r t,.cons r' t'=>by rw [r.inj r',bh.inj t t']
section
variable {X:Cx} {pins:List (Addr × Obj)} {σ:St} {H:Hp} {s:Shared} {a:Addr} {xs ys:List V}
theorem SqL.of {K:PySem.W.Frag} (h:H a=some (.lst xs)):SqL K H a xs:=.inl (.inl h)
theorem SqT.of {K:PySem.W.Frag} (h:H a=some (.tup xs)):SqT K H a xs:=.inl (.inl h)
theorem Inv.list (I:Inv X pins σ H s) (h:SqL X.K H a xs):∃ its:List Value,bh xs its /\ PlainL s.heap a its.toArray /\ xs.length <= sizeLine:=by
 rcases h with h | ⟨o,its,n,hk,hc,hd,hs,hz,r⟩
 ·obtain ⟨z,its,n,r,e⟩:=h.ok I.hok
  exact ⟨its,r,⟨_,n,e,rfl,rfl,rfl⟩,z⟩
 ·refine ⟨its.toList,r,⟨o,n,I.kIn a o hk,hc,hd,by simpa using hs⟩,?_⟩
  have e:=r.length
  simp only [Array.length_toList] at e
  lia
theorem Inv.tuple (I:Inv X pins σ H s) (h:SqT X.K H a xs):∃ its:List Value,bh xs its /\ IsTup s.heap a its.toArray /\ xs.length <= sizeLine:=by
 rcases h with h | ⟨o,its,n,hk,hc,hs,hz,r⟩
 ·obtain ⟨z,its,r,p⟩:=h.ok I.hok
  exact ⟨its,r,p,z⟩
 ·refine ⟨its.toList,r,⟨o,I.kIn a o hk,hc,n,by simpa using hs⟩,?_⟩
  have e:=r.length
  simp only [Array.length_toList] at e
  lia
theorem Inv.list_inj (I:Inv X pins σ H s) (h:SqL X.K H a xs) (h':SqL X.K H a ys):xs=ys:=by
 obtain ⟨its,r,⟨o,n,e,_,_,d⟩,_⟩:=I.list h
 obtain ⟨its',r',⟨o',n',e',_,_,d'⟩,_⟩:=I.list h'
 rw [e] at e'; cases e'
 rw [d] at d'
 injection d' with d1 _
 have:its=its':=by simpa using congrArg Array.toList d1
 subst this
 exact r.inj r'
theorem Inv.tuple_inj (I:Inv X pins σ H s) (h:SqT X.K H a xs) (h':SqT X.K H a ys):xs=ys:=by
 obtain ⟨its,r,⟨o,e,_,n,d⟩,_⟩:=I.tuple h
 obtain ⟨its',r',⟨o',e',_,n',d'⟩,_⟩:=I.tuple h'
 rw [e] at e'; cases e'
 rw [d] at d'
 injection d' with d1 _
 have:its=its':=by simpa using congrArg Array.toList d1
 subst this
 exact r.inj r'
end
abbrev Cx.wish (X:Cx) (E:Value -> Shared -> Prop):Cx:={ X with xe:=E }
abbrev Cx.nox (X:Cx):Cx:=X.wish fun _ _=>False
theorem Cx.Ok.wish {X:Cx} (ok:X.Ok) (E:Value -> Shared -> Prop):(X.wish E).Ok :=
 ⟨ok.mod,ok.kind,ok.glob,ok.blt,ok.above,ok.inj,ok.has,ok.cab,ok.hd,ok.frames,ok.stk,ok.exf,ok.bs,ok.bsz,ok.noex,ok.exfs,ok.funs,ok.frf⟩
theorem Cx.Ok.unwish {X:Cx} {E:Value -> Shared -> Prop} (ok:(X.wish E).Ok):X.Ok :=
 ⟨ok.mod,ok.kind,ok.glob,ok.blt,ok.above,ok.inj,ok.has,ok.cab,ok.hd,ok.frames,ok.stk,ok.exf,ok.bs,ok.bsz,ok.noex,ok.exfs,ok.funs,ok.frf⟩
section
variable {X:Cx} {pins:List (Addr × Obj)} {σ:St} {H:Hp} {s:Shared} {E:Value -> Shared -> Prop}
theorem Inv.wish (I:Inv X pins σ H s) (E:Value -> Shared -> Prop):Inv (X.wish E) pins σ H s:=⟨I.ok.wish E,I.os,I.bare,I.base,I.loc,I.cell,I.free,I.freeC,I.pin,I.hok,I.len⟩
theorem Inv.unwish (I:Inv (X.wish E) pins σ H s):Inv X pins σ H s:=⟨I.ok.unwish,I.os,I.bare,I.base,I.loc,I.cell,I.free,I.freeC,I.pin,I.hok,I.len⟩
theorem SP.unwish {D:ib} {f:Flow} {s':Shared} (h:SP (X.wish E) pins D f s'):SP X pins D f s':=by
 cases f with
 | next=>obtain ⟨σ',H',I,q⟩:=h; exact ⟨σ',H',I.unwish,q⟩
 | brk=>obtain ⟨σ',H',I,q⟩:=h; exact ⟨σ',H',I.unwish,q⟩
 | cont=>obtain ⟨σ',H',I,q⟩:=h; exact ⟨σ',H',I.unwish,q⟩
 | ret u=>obtain ⟨v,σ',H',I,r,q⟩:=h; exact ⟨v,σ',H',I.unwish,r,q⟩
theorem PSs.nox {st:List Stmt} {t:TS} (h:PSs X.nox st t):PSs X st t:=fun pins s σ H D I hw =>
 wpAny_mono (h pins s σ H D (I.wish _) hw) (fun _ _ q=>q.unwish) fun _ _ z=>False.elim z
end
section
variable {X:Cx} {st:Stmt} {rest:List Stmt} {t u:TS} {e:Expr} {te:TE} {pos:Pos}
def tNext:TS:=fun D σ H=>D.nx σ H
def nB (t u:TS):TS:=fun D σ H=>t { D with nx:=u D } σ H
theorem aH:PSs X [] tNext:=fun _ _ σ H _ I h=>wpAny_execs_nil ⟨σ,H,I,h⟩
theorem ae (h1:PS X st t) (h2:PSs X rest u):PSs X (st :: rest) (nB t u):=by
 intro pins s σ H D I h
 refine wpAny_execs_cons (thn (h1 pins s σ H { D with nx:=u D } I h) fun f s1 q=>?_)
 cases f with
 | next =>
  obtain ⟨σ',H',I',q⟩:=q
  exact h2 pins s1 σ' H' D I' q
 | ret v=>exact q
 | brk=>exact q
 | cont=>exact q
theorem aj (h1:PS X st t):PSs X [st] t:=by
 intro pins s σ H D I h
 refine wpAny_execs_cons (thn (h1 pins s σ H D I h) fun f s1 q=>?_)
 cases f with
 | next=>exact wpAny_execs_nil q
 | ret v=>exact q
 | brk=>exact q
 | cont=>exact q
def tBreak:TS:=fun D σ H=>D.bk σ H
theorem sD:PS X (.Break pos) tBreak:=fun _ _ σ H _ I h=>wpAny_Break ⟨σ,H,I,h⟩
theorem Inv.quiet {pins:List (Addr × Obj)} {σ:St} {H:Hp} {s:Shared} (I:Inv X pins σ H s):interactive X.env=false:=by simp [interactive,I.ok.kind]
def tDrop (te:TE):TS:=fun D σ H=>te σ H fun _ H1=>D.nx σ H1
theorem bJ (he:PE X e te) (hs:swapsWith e none pos.line X.env=pure false:=by rfl):PS X (.Expr e pos) (tDrop te):=by
 intro pins s σ H D I h
 exact wpAny_Expr_any (thn (he pins s σ H _ I h) fun v s1 ⟨x,H1,I1,r1,q1⟩=>⟨σ,H1,I1,q1⟩) I.quiet hs
def tRet (te:TE):TS:=fun D σ H=>te σ H D.rt
theorem ay (he:PE X e te):PS X (.Return (some e) pos) (tRet te):=by
 intro pins s σ H D I h
 exact wpAny_Return_some (thn (he pins s σ H _ I h) fun v s1 ⟨x,H1,I1,r1,q1⟩=>⟨x,σ,H1,I1,r1,q1⟩)
def tRetN:TS:=fun D _ H=>D.rt .non H
theorem ps_retN:PS X (.Return none pos) tRetN:=fun _ _ σ H _ I h=>wpAny_Return_none ⟨.non,σ,H,I,rfl,h⟩
def tIfS (c:TT) (t u:TS):TS:=fun D σ H=>c σ H fun b H1=>if b=true then t D σ H1 else u D σ H1
theorem aS {c:Expr} {a b:List Stmt} {tc:TT} (hc:PT X c tc) (ha:PSs X a t) (hb:PSs X b u):PS X (.If c a b pos) (tIfS tc t u):=by
 intro pins s σ H D I h
 refine wpAny_If (thn (hc pins s σ H _ I h) fun d s1 ⟨H1,I1,q1⟩=>?_)
 cases d with
 | true=>exact ha pins s1 σ H1 D I1 q1
 | false=>exact hb pins s1 σ H1 D I1 q1
def tNever:TS:=fun _ _ _=>False
theorem bY {sts:List Stmt}:PSs X sts tNever:=fun _ _ _ _ _ _ h=>h.elim
end
abbrev TG:=V -> St -> Hp -> (St -> Hp -> Prop) -> Prop
abbrev TGs:=List V -> St -> Hp -> (St -> Hp -> Prop) -> Prop
def PG (X:Cx) (target:Expr) (t:TG):Prop :=
 ∀ (pins:List (Addr × Obj)) (s:Shared) (σ:St) (H:Hp) (v:V) (u:Value) (Q:St -> Hp -> Prop),Inv X pins σ H s -> aY v u -> t v σ H Q ->
  wpAny (model X.prog X.w) X.A (assign target X.env u) (fun _ s'=>∃ σ' H',Inv X pins σ' H' s' /\ Q σ' H') X.xe s
def PGs (X:Cx) (ts:List Expr) (t:TGs):Prop :=
 ∀ (pins:List (Addr × Obj)) (s:Shared) (σ:St) (H:Hp) (vs:List V) (us:List Value) (Q:St -> Hp -> Prop),Inv X pins σ H s -> bh vs us -> t vs σ H Q ->
  wpAny (model X.prog X.w) X.A (assignInOrder ((assignEach ts X.env).map (·.2)) us) (fun _ s'=>∃ σ' H',Inv X pins σ' H' s' /\ Q σ' H') X.xe s
section
variable {X:Cx} {pos:Pos}
def ga (i:Nat):TG:=fun v σ H Q=>Q (σ.set i (some v)) H
theorem au {i:Nat} {x:Str} (hN:X.N.Nodup) (hi:X.N[i]?=some x) (hx:Loc X.env.scope x) (hf:X.fn x=true \/ X.env.scope.names.lookup x=some .local:=by first | exact .inl rfl | exact .inr rfl | assumption):PG X (.Name x pos) (ga i):=by
 intro pins s σ H v u Q I r h
 exact wpAny_assign_Name (l6 I hN hi hx r (fun s' I'=>⟨_,H,I',h⟩) hf)
def gNil:TGs:=fun vs σ H Q=>vs=[] /\ Q σ H
def gCons (t:TG) (u:TGs):TGs:=fun vs σ H Q=>∃ v r,vs=v :: r /\ t v σ H fun σ' H'=>u r σ' H' Q
theorem bV:PGs X [] gNil:=by
 intro pins s σ H vs us Q I r h
 obtain ⟨e,h⟩:=h
 subst e
 cases r
 exact assignInOrder_nil ⟨σ,H,I,h⟩
theorem az {e:Expr} {es:List Expr} {t:TG} {u:TGs} (h1:PG X e t) (h2:PGs X es u)
  (hs:(assignEach (e :: es) X.env).map (·.2)=assign e X.env :: (assignEach es X.env).map (·.2):=by rfl):PGs X (e :: es) (gCons t u):=by
 intro pins s σ H vs us Q I r h
 obtain ⟨v,vr,e1,h⟩:=h
 subst e1
 cases r with
 | cons r rr =>
  rw [hs]
  refine assignInOrder_cons (thn (h1 pins s σ H _ _ _ I r h) fun _ s1 ⟨σ1,H1,I1,q1⟩=>?_)
  exact h2 pins s1 σ1 H1 _ _ Q I1 rr q1
def gTup (K:PySem.W.Frag) (n:Nat) (t:TGs):TG:=fun v σ H Q=>∃ a xs,v=.ref a /\ SqT K H a xs /\ xs.length=n /\ t xs σ H Q
theorem cL {es:List Expr} {k:Nat} {t:TGs} {n:Nat} (hc:X.calm=true) (h:PGs X es t)
  (hn:(assignEach es X.env).length=n:=by rfl) (hst:(assignEach es X.env).findIdx? (·.1)=none:=by rfl):PG X (.Tuple es k pos) (gTup X.K n t):=by
 intro pins s σ H v u Q I r hw
 obtain ⟨a,xs,e1,hq,hl,hw⟩:=hw
 subst e1
 cases r
 obtain ⟨its,rv,ht,hz⟩:=I.tuple hq
 refine assign_Tuple_tuple (I.ok.hd hc) ht (by simp [hn,<- hl,rv.length]) hst fun h' hx=>?_
 have I1:Inv X pins σ H { s with heap:=h' }:=I.kept (t':=s.toks) fun b o e=>hx b o (Nat.ne_of_lt (Heap.lt_size e)) e
 exact h pins _ σ H xs _ Q I1 (by simpa using rv) hw
def tAsg (te:TE) (g:TG):TS:=fun D σ H=>te σ H fun x H1=>g x σ H1 D.nx
theorem dW {tg e:Expr} {te:TE} {g:TG} (he:PE X e te) (hg:PG X tg g) (hs:swapsWithSole [tg] e pos.line X.env=pure false:=by rfl) (hw:swappedStores [tg] e X.env=pure none:=by rfl)
  (h1:(assignEach [tg] X.env).map (·.2)=[assign tg X.env]:=by rfl):PS X (.Assign [tg] e pos) (tAsg te g):=by
 intro pins s σ H D I h
 refine wpAny_Assign_stores (thn (he pins s σ H _ I h) fun v s1 ⟨x,H1,I1,r1,q1⟩=>?_) hs hw
 rw [h1]
 exact thn (hg pins s1 σ H1 x v _ I1 r1 q1) fun _ s2 q=>q
theorem aB {i:Nat} {x:Str} {e:Expr} {te:TE} {pos':Pos} (hN:X.N.Nodup) (hi:X.N[i]?=some x) (hx:Loc X.env.scope x) (he:PE X e te) (hs:swapsWith e (some (.Name x pos')) pos.line X.env=pure false:=by rfl) (hf:X.fn x=true \/ X.env.scope.names.lookup x=some .local:=by first | exact .inl rfl | exact .inr rfl | assumption) :
  PS X (.Assign [.Name x pos'] e pos) (tAsg te (ga i)):=by
 intro pins s σ H D I h
 refine wpAny_Assign_Name (thn (he pins s σ H _ I h) fun v s1 ⟨y,H1,I1,r1,q1⟩=>?_) hs
 exact l6 I1 hN hi hx r1 (fun s2 I2=>⟨_,H1,I2,q1⟩) hf
end
section
variable {X:Cx} {pos:Pos}
end
structure It where
 go:Nat -> Hp -> Prop
 yld:Nat -> Hp -> V -> Hp -> Prop
 stop:Nat -> Hp -> Prop
def gB (X:Cx) (pins:List (Addr × Obj)) (H:Hp) (b:Addr):Prop :=
 H b=none /\ b ≠ X.env.locals /\ b ∉ X.fs /\ (b ∈ X.ex \/ X.s₀.heap.objs.size <= b) /\ (∀ x c,X.env.cells.lookup x=some c -> c ≠ b) /\ ∀ p ∈ X.pn ++ pins,p.1 ≠ b
theorem Inv.fpOk {X:Cx} {pins:List (Addr × Obj)} {σ:St} {H H':Hp} {s:Shared} {b:Addr} (I:Inv X pins σ H s) (hb:s.heap.objs.size <= b) (hn:H' b=none):gB X pins H' b:=by
 refine ⟨hn,Nat.ne_of_gt (Nat.lt_of_lt_of_le I.lt hb),I.nofs hb,.inr (Nat.le_trans I.sz hb),fun x c e z=>?_,fun p hp z=>?_⟩
 ·obtain ⟨v,q⟩:=I.cell x c e
  exact absurd (Nat.lt_of_lt_of_le q.lt (by rw [z]; exact hb)) (Nat.lt_irrefl _)
 ·exact absurd (Nat.lt_of_lt_of_le (Heap.lt_size (I.pin p hp).1) (by rw [z]; exact hb)) (Nat.lt_irrefl _)
structure nC (P:Program) (w:World) (K:PySem.W.Frag) (tg:Expr) (J:It) (fp:List Addr) (it:Addr) (tn:Nat -> Heap -> Prop):Prop where
 mem:it ∈ fp
 obj:∀ i h,tn i h -> ∀ b ∈ fp,∃ o,h.get? b=some o /\ ∀ v,o.data ≠ .cell v
 keep:∀ i h h',tn i h -> (∀ b ∈ fp,∀ o,h.get? b=some o -> h'.get? b=some o) -> tn i h'
 item:∀ (X:Cx),X.prog=P -> X.w=w -> X.K=K -> X.calm=true -> ∀ (i:Nat) (pins:List (Addr × Obj)) (s:Shared) (σ:St) (H:Hp) (E:Value -> Shared -> Prop),Inv X pins σ H s -> (∀ b ∈ fp,gB X pins H b) -> tn i s.heap -> J.go i H ->
  wpAny (model P w) X.A (pyNext (.ref it)) (fun r s1=>∃ u,r=some u /\
   wpAny (model P w) X.A (letOwnedTupleGo tg (.ref it) u) (fun _ s2=>∃ x H',Inv X pins σ H' s2 /\ aY x u /\ J.yld i H x H' /\ tn (i + 1) s2.heap /\ ∀ b ∈ fp,H' b=none) E s1) E s
 done:∀ (X:Cx),X.prog=P -> X.w=w -> X.K=K -> X.calm=true -> ∀ (i:Nat) (pins:List (Addr × Obj)) (s:Shared) (σ:St) (H:Hp) (E:Value -> Shared -> Prop),Inv X pins σ H s -> (∀ b ∈ fp,gB X pins H b) -> tn i s.heap -> J.stop i H ->
  wpAny (model P w) X.A (pyNext (.ref it)) (fun r s1=>r=none /\ Inv X pins σ H s1) E s
 self:∀ (A:Around) (i:Nat) (s:Shared) (Q:Value -> Shared -> Prop) (E:Value -> Shared -> Prop),tn i s.heap -> Q (.ref it) s -> wpAny (model P w) A (pyIter (.ref it)) Q E s
abbrev TI:=St -> Hp -> (It -> Hp -> Prop) -> Prop
def PIE (X:Cx) (pins:List (Addr × Obj)) (σ:St) (tg:Expr) (R:It -> Hp -> Prop) (itv:Value) (s2:Shared):Prop :=
 ∃ (it:Addr) (fp:List Addr) (tn:Nat -> Heap -> Prop) (J:It) (H':Hp),itv=.ref it /\ Inv X pins σ H' s2 /\ nC X.prog X.w X.K tg J fp it tn /\ tn 0 s2.heap /\ (∀ b ∈ fp,gB X pins H' b) /\ R J H'
def PI (X:Cx) (tg iter:Expr) (wi:TI):Prop :=
 ∀ (pins:List (Addr × Obj)) (s:Shared) (σ:St) (H:Hp) (R:It -> Hp -> Prop),Inv X pins σ H s -> wi σ H R ->
  wpAny (model X.prog X.w) X.A (eval iter X.env) (fun v s1=>wpAny (model X.prog X.w) X.A (pyIter v) (PIE X pins σ tg R) X.xe s1) X.xe s
theorem pA {M:Model} {A:Around} {E:Value -> Shared -> Prop} {s:Shared} {tg:Expr} {it:Addr} {u:Value} {o:Obj} {n:String} {vs:Array Value} {Q:Unit -> Shared -> Prop} (ho:s.heap.get? it=some o) (hc:o.cls=.type n) (hd:o.data=.fields vs)
  (hn:["enumerate","zip","dict_itemiterator","dict_reverseitemiterator","odict_iterator","itertools.zip_longest","itertools.pairwise"].contains n=false) (hQ:Q () s):wpAny M A (letOwnedTupleGo tg (.ref it) u) Q E s:=by
 unfold letOwnedTupleGo
 cases tg <;> first
  | exact wpAny_pure hQ
  | (cases u <;> first
    | exact wpAny_pure hQ
    | (refine wpAny_bind (wpAny_load ho ?_)
       rw [hc,hd]
       show wpAny M A (if (["enumerate","zip","dict_itemiterator","dict_reverseitemiterator","odict_iterator","itertools.zip_longest","itertools.pairwise"].contains n && vs[0]? == some (rawInt _))=true then _ else _) Q E s
       rw [if_neg (by intro h; rw [hn,Bool.false_and] at h; cases h)]
       exact wpAny_pure hQ))
def Itl (K:PySem.W.Frag) (a:Addr):It :=
 ⟨fun i H=>∃ xs x,SqL K H a xs /\ xs[i]?=some x,fun i H x H'=>H'=H /\ ∀ xs,SqL K H a xs -> xs[i]?=some x,fun i H=>∃ xs,SqL K H a xs /\ xs.length <= i⟩
def Itt (K:PySem.W.Frag) (a:Addr):It :=
 ⟨fun i H=>∃ xs x,SqT K H a xs /\ xs[i]?=some x,fun i H x H'=>H'=H /\ ∀ xs,SqT K H a xs -> xs[i]?=some x,fun i H=>∃ xs,SqT K H a xs /\ xs.length <= i⟩
def Itr (lo:Int) (n:Nat):It:=⟨fun i _=>i < n,fun i H x H'=>H'=H /\ x=.int (lo + i),fun i _=>n <= i⟩
theorem qw {P:Program} {w:World} {K:PySem.W.Frag} {tg:Expr} (a it:Addr):nC P w K tg (Itl K a) [it] it (fun i h=>h.IsListIter it a i) where
 mem:=by simp
 obj:=fun i h st b hb=>by
  have e:b=it:=by simpa using hb
  subst e
  obtain ⟨o,e,c,d⟩:=st
  exact ⟨o,e,fun v z=>by rw [d] at z; cases z⟩
 keep:=fun i h h' st k=>st.at fun o e=>k it (by simp) o e
 item:=by
  intro X hP hw hK hc i pins s σ H E I hf st hg
  subst hP hw hK
  obtain ⟨xs,x,hq,hx⟩:=hg
  obtain ⟨its,rv,p,hz⟩:=I.list hq
  obtain ⟨u,hu,ru⟩:=rv.get hx
  obtain ⟨f0,f1,f2,f3,f4,f5⟩:=hf it (by simp)
  refine wpAny_pyNext_list_item st p.isList (x:=u) (by simpa using hu) fun h' st' sb=>?_
  have I1:Inv X pins σ H { s with heap:=h' }:=I.turned (t':=s.toks) (fun b o hb e=>(sb.2 b hb).trans e) f0 f1 f3 f4 f5
  obtain ⟨o,e,c,d⟩:=id st'
  exact ⟨u,rfl,pA (s:={ s with heap:=h' }) e c d (by decide) ⟨x,H,I1,ru,⟨rfl,fun ys hy=>by rw [I.list_inj hy hq]; exact hx⟩,st',fun b hb=>(hf b hb).1⟩⟩
 done:=by
  intro X hP hw hK hc i pins s σ H E I hf st hg
  subst hP hw hK
  obtain ⟨xs,hq,hx⟩:=hg
  obtain ⟨its,rv,p,hz⟩:=I.list hq
  obtain ⟨f0,f1,f2,f3,f4,f5⟩:=hf it (by simp)
  have hl:=rv.length
  exact wpAny_pyNext_list_end (I.ok.hd hc) st p.isList (by simp; lia) fun h' eb=>⟨rfl,I.turned (t':=s.toks) (fun b o hb e=>eb b o hb e) f0 f1 f3 f4 f5⟩
 self:=fun _ _ _ _ _ st h=>wpAny_pyIter_listiter st h
theorem nF {P:Program} {w:World} {K:PySem.W.Frag} {tg:Expr} (a it:Addr):nC P w K tg (Itt K a) [it] it (fun i h=>h.IsTupleIter it a i) where
 mem:=by simp
 obj:=fun i h st b hb=>by
  have e:b=it:=by simpa using hb
  subst e
  obtain ⟨o,e,c,d⟩:=st
  exact ⟨o,e,fun v z=>by rw [d] at z; cases z⟩
 keep:=fun i h h' st k=>st.at fun o e=>k it (by simp) o e
 item:=by
  intro X hP hw hK hc i pins s σ H E I hf st hg
  subst hP hw hK
  obtain ⟨xs,x,hq,hx⟩:=hg
  obtain ⟨its,rv,p,hz⟩:=I.tuple hq
  obtain ⟨u,hu,ru⟩:=rv.get hx
  obtain ⟨f0,f1,f2,f3,f4,f5⟩:=hf it (by simp)
  refine wpAny_pyNext_tuple_item st (show s.heap.IsTuple a its.toArray from p) (x:=u) (by simpa using hu) fun h' st' sb=>?_
  have I1:Inv X pins σ H { s with heap:=h' }:=I.turned (t':=s.toks) (fun b o hb e=>(sb.2 b hb).trans e) f0 f1 f3 f4 f5
  obtain ⟨o,e,c,d⟩:=id st'
  exact ⟨u,rfl,pA (s:={ s with heap:=h' }) e c d (by decide) ⟨x,H,I1,ru,⟨rfl,fun ys hy=>by rw [I.tuple_inj hy hq]; exact hx⟩,st',fun b hb=>(hf b hb).1⟩⟩
 done:=by
  intro X hP hw hK hc i pins s σ H E I hf st hg
  subst hP hw hK
  obtain ⟨xs,hq,hx⟩:=hg
  obtain ⟨its,rv,p,hz⟩:=I.tuple hq
  obtain ⟨f0,f1,f2,f3,f4,f5⟩:=hf it (by simp)
  have hl:=rv.length
  exact wpAny_pyNext_tuple_end (I.ok.hd hc) st (show s.heap.IsTuple a its.toArray from p) (by simp; lia) fun h' eb=>⟨rfl,I.turned (t':=s.toks) (fun b o hb e=>eb b o hb e) f0 f1 f3 f4 f5⟩
 self:=fun _ _ _ _ _ st h=>wpAny_pyIter_tupleiter st h
theorem nG {P:Program} {w:World} {K:PySem.W.Frag} {tg:Expr} (it:Addr) (lo:Int) (n:Nat):nC P w K tg (Itr lo n) [it] it (fun i h=>IsRangeIter h it (lo + (i:Nat) * 1) ((n:Int) - (i:Nat)) 1) where
 mem:=by simp
 obj:=fun i h st b hb=>by
  have e:b=it:=by simpa using hb
  subst e
  exact ⟨_,st,fun v z=>by
   have z':Data.fields _=Data.cell v:=z
   cases z'⟩
 keep:=fun i h h' st k=>k it (by simp) _ st
 item:=by
  intro X hP hw hK hc i pins s σ H E I hf st hg
  subst hP hw hK
  obtain ⟨f0,f1,f2,f3,f4,f5⟩:=hf it (by simp)
  have W:=Walks.range (prog:=X.prog) (w:=X.w) (I.ok.hd hc) it lo 1 n
  refine W.item i s _ _ hg st fun v h' tk hv st' kk=>?_
  obtain ⟨t,rfl⟩:=hv
  have I1:Inv X pins σ H { s with heap:=h',toks:=tk }:=I.turned (fun b o hb e=>kk b o (by simpa using hb) e) f0 f1 f3 f4 f5
  refine ⟨_,rfl,pA (s:={ s with heap:=h',toks:=tk }) (n:="range_iterator") st' rfl rfl (by decide) ⟨.int (lo + i),H,I1,⟨t,?_⟩,⟨rfl,rfl⟩,st',fun b hb=>(hf b hb).1⟩⟩
  rw [Int.mul_one]
 done:=by
  intro X hP hw hK hc i pins s σ H E I hf st hg
  subst hP hw hK
  obtain ⟨f0,f1,f2,f3,f4,f5⟩:=hf it (by simp)
  exact wpAny_pyNext_range_end (I.ok.hd hc) st (by have:n <= i:=hg; lia) fun h' eb=>⟨rfl,I.turned (t':=s.toks) (fun b o hb e=>eb b o hb e) f0 f1 f3 f4 f5⟩
 self:=fun _ _ _ _ _ st h=>wpAny_pyIter_rangeiter st h
section
variable {X:Cx} {tg:Expr}
def iList (K:PySem.W.Frag) (tl:TE):TI:=fun σ H R=>tl σ H fun x H1=>∃ a,x=.ref a /\ (∃ xs,SqL K H1 a xs) /\ R (Itl K a) H1
def iTup (K:PySem.W.Frag) (tl:TE):TI:=fun σ H R=>tl σ H fun x H1=>∃ a,x=.ref a /\ (∃ xs,SqT K H1 a xs) /\ R (Itt K a) H1
theorem eJ {l:Expr} {tl:TE} (hl:PE X l tl):PI X tg l (iList X.K tl):=by
 intro pins s σ H R I h
 refine thn (hl pins s σ H _ I h) fun v s1 ⟨x,H1,I1,r1,q1⟩=>?_
 obtain ⟨a,e,⟨xs,hq⟩,q⟩:=q1
 subst e
 cases r1
 obtain ⟨its,rv,p,hz⟩:=I1.list hq
 refine wpAny_pyIter_list p.isList ?_
 refine ⟨s1.heap.objs.size,[s1.heap.objs.size],_,_,H1,rfl,I1.kept (t':=s1.toks) fun b o e=>Heap.get?_push_of_some _ e,qw a _,⟨_,Heap.get?_push_size _ rfl,rfl,rfl⟩,fun b hb=>?_,q⟩
 have e:b=s1.heap.objs.size:=by simpa using hb
 subst e
 exact I1.fpOk (Nat.le_refl _) (I1.hok.fresh (Nat.le_refl _))
theorem fS {l:Expr} {tl:TE} (hl:PE X l tl):PI X tg l (iTup X.K tl):=by
 intro pins s σ H R I h
 refine thn (hl pins s σ H _ I h) fun v s1 ⟨x,H1,I1,r1,q1⟩=>?_
 obtain ⟨a,e,⟨xs,hq⟩,q⟩:=q1
 subst e
 cases r1
 obtain ⟨its,rv,p,hz⟩:=I1.tuple hq
 refine wpAny_pyIter_tuple (show s1.heap.IsTuple a its.toArray from p) ?_
 refine ⟨s1.heap.objs.size,[s1.heap.objs.size],_,_,H1,rfl,I1.kept (t':=s1.toks) fun b o e=>Heap.get?_push_of_some _ e,nF a _,⟨_,Heap.get?_push_size _ rfl,rfl,rfl⟩,fun b hb=>?_,q⟩
 have e:b=s1.heap.objs.size:=by simpa using hb
 subst e
 exact I1.fpOk (Nat.le_refl _) (I1.hok.fresh (Nat.le_refl _))
theorem sF {pins:List (Addr × Obj)} {σ:St} {H:Hp} {s:Shared} {R:It -> Hp -> Prop} {E:Value -> Shared -> Prop} {lo hi:Int} {t u v:Tok} {tk:Nat} (I:Inv X pins σ H s) (h1:-(2 ^ 62) <= lo) (h2:lo < 2 ^ 62) (h3:-(2 ^ 62) <= hi) (h4:hi < 2 ^ 62)
  (q:R (Itr lo (hi - lo).toNat) H):wpAny (model X.prog X.w) X.A (pyIter (.ref s.heap.objs.size)) (PIE X pins σ tg R) E { s with heap:=s.heap.push { cls:=.type "range",data:=.fields #[.int lo t,.int hi u,.int 1 v] },toks:=tk }:=by
 refine wpAny_pyIter_range (IsRange.new ..) (small_one h1 h2 h3 h4) ?_
 have I1:Inv X pins σ H { s with heap:=s.heap.push { cls:=.type "range",data:=.fields #[.int lo t,.int hi u,.int 1 v] },toks:=tk }:=I.kept fun b o e=>Heap.get?_push_of_some _ e
 refine ⟨(s.heap.push { cls:=.type "range",data:=.fields #[.int lo t,.int hi u,.int 1 v] }).objs.size,[(s.heap.push { cls:=.type "range",data:=.fields #[.int lo t,.int hi u,.int 1 v] }).objs.size],_,_,H,rfl,
  I1.kept (t':=tk) fun b o e=>Heap.get?_push_of_some _ e,nG _ lo (hi - lo).toNat,?_,fun b hb=>?_,q⟩
 ·have e1:lo + ((0:Nat):Int) * 1=lo:=by simp
  have e2:(((hi - lo).toNat:Nat):Int) - ((0:Nat):Int)=Builtin.Range.rangeSize lo hi 1:=by rw [rangeSize_one]; split <;> lia
  show IsRangeIter _ _ (lo + ((0:Nat):Int) * 1) ((((hi - lo).toNat:Nat):Int) - ((0:Nat):Int)) 1
  rw [e1,e2]
  exact Heap.get?_push_size _ rfl
 ·have e:b=(s.heap.push { cls:=.type "range",data:=.fields #[.int lo t,.int hi u,.int 1 v] }).objs.size:=by simpa using hb
  subst e
  exact I1.fpOk (Nat.le_refl _) (I1.hok.fresh (Nat.le_refl _))
def iRng1 (ta:TA):TI:=fun σ H R=>ta σ H fun vs H1=>∃ j:Int,vs=[.int j] /\ -(2 ^ 62) <= j /\ j < 2 ^ 62 /\ R (Itr 0 j.toNat) H1
theorem db {a:Expr} {ta:TA} {p pos:Pos} (hg:Gl X "range") (hm:X.mg "range"=none) (ha:PA X [a] ta) (hs:starEach [a] X.env=[(false,eval a X.env)]:=by rfl):PI X tg (.Call (.Name "range" p) [a] [] pos) (iRng1 ta):=by
 intro pins s σ H R I h
 refine Call_ (fR I hg hm boot_range (PyProof.Rows.callWith_type1 (thn (ha pos pins s σ H _ I h) fun us s1 ⟨vs,H1,I1,r1,q1⟩=>?_) hs rfl))
 obtain ⟨j,e,q1,q2,q⟩:=q1
 subst e
 cases r1 with
 | cons r rr =>
  cases rr
  obtain ⟨t,rfl⟩:=r
  exact call_range_1 (sF I1 (by lia) (by lia) q1 q2 (by simpa using q))
def tFor (wi:TI) (g:TG) (tb:TS):TS:=fun D σ H=>wi σ H fun J H1=>∃ W:Nat -> Nat -> St -> Hp -> Prop,(∃ m,W 0 m σ H1) /\ ∀ i m σ H,W i m σ H ->
 (J.stop i H /\ D.nx σ H) \/ (J.go i H /\ ∃ N:St -> Hp -> Prop,(∀ σ' H',N σ' H' -> ∃ m',m' < m /\ W (i + 1) m' σ' H') /\ ∀ x H',J.yld i H x H' -> g x σ H' fun σ2 H2=>tb { D with nx:=N,ct:=N,bk:=D.nx } σ2 H2)
def iK (fp:List Addr) (h:Heap):List (Addr × Obj):=fp.filterMap fun b=>(h.get? b).map fun o=>(b,o)
theorem eK {fp:List Addr} {h:Heap} {b:Addr} {o:Obj} (hb:b ∈ fp) (e:h.get? b=some o):(b,o) ∈ iK fp h:=List.mem_filterMap.mpr ⟨b,hb,by rw [e]; rfl⟩
theorem qx {fp:List Addr} {h:Heap} {p:Addr × Obj} (hp:p ∈ iK fp h):p.1 ∈ fp /\ h.get? p.1=some p.2:=by
 obtain ⟨b,hb,e⟩:=List.mem_filterMap.mp hp
 cases q:h.get? b with
 | none=>rw [q] at e; cases e
 | some o =>
  rw [q] at e
  have e':(b,o)=p:=Option.some.inj e
  subst e'
  exact ⟨hb,q⟩
theorem Inv.pinned {pins:List (Addr × Obj)} {σ:St} {H:Hp} {s:Shared} {fp:List Addr} (I:Inv X pins σ H s) (hf:∀ b ∈ fp,gB X pins H b) (ho:∀ b ∈ fp,∃ o,s.heap.get? b=some o /\ ∀ v,o.data ≠ .cell v):Inv X (pins ++ iK fp s.heap) σ H s :=
 I.pins_of fun p hp=>(List.mem_append.mp hp).elim (fun z=>I.pin p (List.mem_append_right _ z)) fun z=>by
  obtain ⟨hb,e⟩:=qx z
  obtain ⟨f0,f1,f2,_⟩:=hf p.1 hb
  obtain ⟨o,e',d⟩:=ho p.1 hb
  rw [e] at e'; cases e'
  exact ⟨e,f0,f1,f2,d⟩
theorem Inv.unpinned {pins pl:List (Addr × Obj)} {σ:St} {H:Hp} {s:Shared} (I:Inv X (pins ++ pl) σ H s):Inv X pins σ H s:=I.pins_of fun p hp=>I.pin p (List.mem_append_right _ (List.mem_append_left _ hp))
theorem dX {iter:Expr} {body:List Stmt} {wi:TI} {g:TG} {tb:TS} {pos:Pos} (hp:PassesOwn (model X.prog X.w) X.A X.env X.xe) (hc:X.calm=true) (hi:PI X tg iter wi) (hg:PG X tg g) (hb:PSs X body tb)
  (hs:∀ x,foldedSetIterable iter X.env x=pure x:=by intro _; rfl):PS X (.For tg iter body [] pos) (tFor wi g tb):=by
 intro pins s σ H D I h
 refine wpAny_For (thn (hi pins s σ H _ I h) fun v s1 h1=>thn h1 fun itv s2 h2=>?_) hs
 obtain ⟨it,fp,tn,J,H2,e,I2,T,st2,f2,W,⟨m0,w0⟩,turn⟩:=h2
 subst e
 have stat:∀ {H':Hp},(∀ b ∈ fp,H' b=none) -> ∀ b ∈ fp,gB X pins H' b:=fun hn b hb=>⟨hn b hb,(f2 b hb).2⟩
 refine codeAny_forLoop_any (fun n s'=>∃ i σ' H',Inv X pins σ' H' s' /\ tn i s'.heap /\ (∀ b ∈ fp,H' b=none) /\ W i n σ' H') ?_ m0 ⟨0,σ,H2,I2,st2,fun b hb=>(f2 b hb).1,w0⟩
 rintro n s3 ⟨i,σ3,H3,I3,st3,fr3,w3⟩
 rcases turn i n σ3 H3 w3 with ⟨stop,qn⟩ | ⟨go,N,hN,step⟩
 ·refine wpAny_passesOwn hp (thn (T.done X rfl rfl rfl hc i pins s3 σ3 H3 X.xe I3 (stat fr3) st3 stop) fun r s4 ⟨hr,I4⟩=>?_)
  subst hr
  exact wpAny_execs_nil ⟨σ3,H3,I4,qn⟩
 ·refine wpAny_passesOwn hp (thn (T.item X rfl rfl rfl hc i pins s3 σ3 H3 X.xe I3 (stat fr3) st3 go) fun r s4 ⟨u,hr,h4⟩=>?_)
  subst hr
  refine wpAny_passesOwn hp (thn h4 fun _ s5 ⟨x,H5,I5,r5,y5,st5,fr5⟩=>?_)
  have I5':=I5.pinned (stat fr5) (T.obj _ _ st5)
  refine wpAny_passesOwn hp (thn (hg _ s5 σ3 H5 x u _ I5' r5 (step x H5 y5)) fun _ s6 ⟨σ6,H6,I6,q6⟩=>?_)
  refine wpAny_passesOwn hp (thn (hb _ s6 σ6 H6 _ I6 q6) fun f s7 q7=>?_)
  have again:∀ {σ7:St} {H7:Hp},Inv X (pins ++ iK fp s5.heap) σ7 H7 s7 -> N σ7 H7 -> ∃ m,m < n /\ ∃ i σ' H',Inv X pins σ' H' s7 /\ tn i s7.heap /\ (∀ b ∈ fp,H' b=none) /\ W i m σ' H':=fun {σ7 H7} I7 n7=>by
   obtain ⟨m',hm,w7⟩:=hN σ7 H7 n7
   refine ⟨m',hm,i + 1,σ7,H7,I7.unpinned,T.keep _ _ _ st5 fun b hb o e=>(I7.pin (b,o) (List.mem_append_right _ (List.mem_append_right _ (eK hb e)))).1,fun b hb=>?_,w7⟩
   obtain ⟨o,e,d⟩:=T.obj _ _ st5 b hb
   exact (I7.pin (b,o) (List.mem_append_right _ (List.mem_append_right _ (eK hb e)))).2.1
  cases f with
  | next=>obtain ⟨σ7,H7,I7,n7⟩:=q7; exact again I7 n7
  | cont=>obtain ⟨σ7,H7,I7,n7⟩:=q7; exact again I7 n7
  | brk=>obtain ⟨σ7,H7,I7,q7⟩:=q7; exact ⟨σ7,H7,I7.unpinned,q7⟩
  | ret v=>obtain ⟨x7,σ7,H7,I7,r7,q7⟩:=q7; exact ⟨x7,σ7,H7,I7.unpinned,r7,q7⟩
end
theorem l8 {K:PySem.W.Frag} {a:Addr} {xs:List V} {g:TG} {tb:TS} {D:ib} {σ:St} {H:Hp} (Pv:Nat -> St -> Hp -> Prop) (h0:Pv 0 σ H) (hl:∀ i σ H,i <= xs.length -> Pv i σ H -> SqL K H a xs)
  (hs:∀ i x σ H,xs[i]?=some x -> Pv i σ H -> g x σ H fun σ2 H2=>tb { D with nx:=Pv (i + 1),ct:=Pv (i + 1),bk:=D.nx } σ2 H2) (hd:∀ σ H,Pv xs.length σ H -> D.nx σ H) :
  ∃ W:Nat -> Nat -> St -> Hp -> Prop,(∃ m,W 0 m σ H) /\ ∀ i m σ H,W i m σ H ->
   ((Itl K a).stop i H /\ D.nx σ H) \/ ((Itl K a).go i H /\ ∃ N:St -> Hp -> Prop,(∀ σ' H',N σ' H' -> ∃ m',m' < m /\ W (i + 1) m' σ' H') /\ ∀ x H',(Itl K a).yld i H x H' -> g x σ H' fun σ2 H2=>tb { D with nx:=N,ct:=N,bk:=D.nx } σ2 H2):=by
 refine ⟨fun i m σ H=>m=xs.length - i /\ i <= xs.length /\ Pv i σ H,⟨xs.length,by simp,Nat.zero_le _,h0⟩,?_⟩
 rintro i m σ H ⟨rfl,hi,p⟩
 have q:=hl i σ H hi p
 by_cases hlt:i < xs.length
 ·refine .inr ⟨⟨xs,xs[i],q,by simp [hlt]⟩,Pv (i + 1),fun σ' H' p'=>⟨xs.length - (i + 1),by lia,rfl,hlt,p'⟩,fun x H' y=>?_⟩
  obtain ⟨e,y⟩:=y
  subst e
  exact hs i x σ _ (y xs q) p
 ·have e:i=xs.length:=by lia
  subst e
  exact .inl ⟨⟨xs,q,Nat.le_refl _⟩,hd σ H p⟩
theorem ky {K:PySem.W.Frag} {a:Addr} {xs:List V} {g:TG} {tb:TS} {D:ib} {σ:St} {H:Hp} (Pv:Nat -> St -> Hp -> Prop) (h0:Pv 0 σ H) (hl:∀ i σ H,i <= xs.length -> Pv i σ H -> SqT K H a xs)
  (hs:∀ i x σ H,xs[i]?=some x -> Pv i σ H -> g x σ H fun σ2 H2=>tb { D with nx:=Pv (i + 1),ct:=Pv (i + 1),bk:=D.nx } σ2 H2) (hd:∀ σ H,Pv xs.length σ H -> D.nx σ H) :
  ∃ W:Nat -> Nat -> St -> Hp -> Prop,(∃ m,W 0 m σ H) /\ ∀ i m σ H,W i m σ H ->
   ((Itt K a).stop i H /\ D.nx σ H) \/ ((Itt K a).go i H /\ ∃ N:St -> Hp -> Prop,(∀ σ' H',N σ' H' -> ∃ m',m' < m /\ W (i + 1) m' σ' H') /\ ∀ x H',(Itt K a).yld i H x H' -> g x σ H' fun σ2 H2=>tb { D with nx:=N,ct:=N,bk:=D.nx } σ2 H2):=by
 refine ⟨fun i m σ H=>m=xs.length - i /\ i <= xs.length /\ Pv i σ H,⟨xs.length,by simp,Nat.zero_le _,h0⟩,?_⟩
 rintro i m σ H ⟨rfl,hi,p⟩
 have q:=hl i σ H hi p
 by_cases hlt:i < xs.length
 ·refine .inr ⟨⟨xs,xs[i],q,by simp [hlt]⟩,Pv (i + 1),fun σ' H' p'=>⟨xs.length - (i + 1),by lia,rfl,hlt,p'⟩,fun x H' y=>?_⟩
  obtain ⟨e,y⟩:=y
  subst e
  exact hs i x σ _ (y xs q) p
 ·have e:i=xs.length:=by lia
  subst e
  exact .inl ⟨⟨xs,q,Nat.le_refl _⟩,hd σ H p⟩
theorem ft {lo:Int} {n:Nat} {g:TG} {tb:TS} {D:ib} {σ:St} {H:Hp} (Pv:Nat -> St -> Hp -> Prop) (h0:Pv 0 σ H)
  (hs:∀ i σ H,i < n -> Pv i σ H -> g (.int (lo + i)) σ H fun σ2 H2=>tb { D with nx:=Pv (i + 1),ct:=Pv (i + 1),bk:=D.nx } σ2 H2) (hd:∀ σ H,Pv n σ H -> D.nx σ H) :
  ∃ W:Nat -> Nat -> St -> Hp -> Prop,(∃ m,W 0 m σ H) /\ ∀ i m σ H,W i m σ H ->
   ((Itr lo n).stop i H /\ D.nx σ H) \/ ((Itr lo n).go i H /\ ∃ N:St -> Hp -> Prop,(∀ σ' H',N σ' H' -> ∃ m',m' < m /\ W (i + 1) m' σ' H') /\ ∀ x H',(Itr lo n).yld i H x H' -> g x σ H' fun σ2 H2=>tb { D with nx:=N,ct:=N,bk:=D.nx } σ2 H2):=by
 refine ⟨fun i m σ H=>m=n - i /\ i <= n /\ Pv i σ H,⟨n,by simp,Nat.zero_le _,h0⟩,?_⟩
 rintro i m σ H ⟨rfl,hi,p⟩
 by_cases hlt:i < n
 ·refine .inr ⟨hlt,Pv (i + 1),fun σ' H' p'=>⟨n - (i + 1),by lia,rfl,hlt,p'⟩,fun x H' y=>?_⟩
  obtain ⟨e,y⟩:=y
  subst e y
  exact hs i σ _ hlt p
 ·have e:i=n:=by lia
  subst e
  exact .inl ⟨Nat.le_refl _,hd σ H p⟩
abbrev R2:=V -> V -> Hp -> VK -> Prop
def OpR (X:Cx) (f:Value -> Value -> Sem Value) (r:R2):Prop :=
 ∀ (pins:List (Addr × Obj)) (s:Shared) (σ:St) (H:Hp) (x y:V) (v u:Value) (Q:VK),Inv X pins σ H s -> aY x v -> aY y u -> r x y H Q ->
  wpAny (model X.prog X.w) X.A (f v u) (EP X pins σ Q) X.xe s
def UnR (X:Cx) (f:Value -> Sem Value) (r:V -> Hp -> VK -> Prop):Prop :=
 ∀ (pins:List (Addr × Obj)) (s:Shared) (σ:St) (H:Hp) (x:V) (v:Value) (Q:VK),Inv X pins σ H s -> aY x v -> r x H Q ->
  wpAny (model X.prog X.w) X.A (f v) (EP X pins σ Q) X.xe s
def cU (X:Cx) (f:Value) (r:List V -> Hp -> VK -> Prop):Prop :=
 ∀ (pins:List (Addr × Obj)) (s:Shared) (σ:St) (H:Hp) (xs:List V) (us:List Value) (Q:VK),Inv X pins σ H s -> bh xs us -> r xs H Q ->
  wpAny (model X.prog X.w) X.A (call f us) (EP X pins σ Q) X.xe s
def tOp (r:R2) (ta tb:TE):TE:=fun σ H Q=>ta σ H fun x H1=>tb σ H1 fun y H2=>r x y H2 Q
def tUn (r:V -> Hp -> VK -> Prop) (ta:TE):TE:=fun σ H Q=>ta σ H fun x H1=>r x H1 Q
def rI (C:Int -> Int -> Prop) (g:Int -> Int -> V):R2:=fun x y H Q=>∃ i j,x=.int i /\ y=.int j /\ C i j /\ Q (g i j) H
def rI0 (g:Int -> Int -> V):R2:=fun x y H Q=>∃ i j,x=.int i /\ y=.int j /\ Q (g i j) H
def rU (g:Int -> V):V -> Hp -> VK -> Prop:=fun x H Q=>∃ i,x=.int i /\ Q (g i) H
section
variable {X:Cx} {a b c:Expr} {ta tb tc:TE} {pos:Pos}
theorem binT (ha:PE X a ta) (hb:PE X b tb) {pins:List (Addr × Obj)} {s:Shared} {σ:St} {H:Hp} {R:V -> V -> Hp -> Prop} (I:Inv X pins σ H s)
  (h:ta σ H fun x H1=>tb σ H1 fun y H2=>R x y H2) {Q:Value -> Shared -> Prop} {f:Value -> Value -> Sem Value}
  (hf:∀ v u s2 x y H2,Inv X pins σ H2 s2 -> aY x v -> aY y u -> R x y H2 -> wpAny (model X.prog X.w) X.A (f v u) Q X.xe s2) :
  wpAny (model X.prog X.w) X.A (eval a X.env) (fun v s₁=>wpAny (model X.prog X.w) X.A (eval b X.env) (fun u s₂=>wpAny (model X.prog X.w) X.A (f v u) Q X.xe s₂) X.xe s₁) X.xe s:=by
 refine thn (ha pins s σ H _ I h) fun v s1 ⟨x,H1,I1,r1,q1⟩=>?_
 refine thn (hb pins s1 σ H1 _ I1 q1) fun u s2 ⟨y,H2,I2,r2,q2⟩=>?_
 exact hf v u s2 x y H2 I2 r1 r2 q2
theorem aE {op:Operator} {r:R2} (ho:OpR X (binaryOp op) r) (ha:PE X a ta) (hb:PE X b tb):PE X (.BinOp a op b pos) (tOp r ta tb):=by
 intro pins s σ H Q I h
 exact wpAny_BinOp (binT ha hb I h fun v u s2 x y H2 I2 rx ry q=>ho pins s2 σ H2 x y v u Q I2 rx ry q)
theorem md {op:UnaryOp} {r:V -> Hp -> VK -> Prop} (ho:UnR X (unaryOp op) r) (ha:PE X a ta):PE X (.UnaryOp op a pos) (tUn r ta):=by
 intro pins s σ H Q I h
 exact UnaryOp_ (thn (ha pins s σ H _ I h) fun v s1 ⟨x,H1,I1,r1,q1⟩=>ho pins s1 σ H1 x v Q I1 r1 q1)
theorem opI {f:Value -> Value -> Sem Value} {C:Int -> Int -> Prop} {g:Int -> Int -> Int}
  (rule:∀ (i j:Int) (t u:Tok) (s:Shared) (Q:Value -> Shared -> Prop) (E:Value -> Shared -> Prop),C i j -> Q (.int (g i j) s.toks) { s with toks:=s.toks + 1 } -> wpAny (model X.prog X.w) X.A (f (.int i t) (.int j u)) Q E s) :
  OpR X f (rI C fun i j=>.int (g i j)):=by
 intro pins s σ H x y v u Q I rx ry h
 obtain ⟨i,j,rfl,rfl,hc,q⟩:=h
 obtain ⟨t,rfl⟩:=rx
 obtain ⟨t',rfl⟩:=ry
 exact rule i j t t' s _ _ hc ⟨.int (g i j),H,I.tok _,⟨_,rfl⟩,q⟩
theorem opI0 {f:Value -> Value -> Sem Value} {g:Int -> Int -> Int}
  (rule:∀ (i j:Int) (t u:Tok) (s:Shared) (Q:Value -> Shared -> Prop) (E:Value -> Shared -> Prop),Q (.int (g i j) s.toks) { s with toks:=s.toks + 1 } -> wpAny (model X.prog X.w) X.A (f (.int i t) (.int j u)) Q E s) :
  OpR X f (rI0 fun i j=>.int (g i j)):=by
 intro pins s σ H x y v u Q I rx ry h
 obtain ⟨i,j,rfl,rfl,q⟩:=h
 obtain ⟨t,rfl⟩:=rx
 obtain ⟨t',rfl⟩:=ry
 exact rule i j t t' s _ _ ⟨.int (g i j),H,I.tok _,⟨_,rfl⟩,q⟩
theorem opB0 {f:Value -> Value -> Sem Value} {g:Int -> Int -> Bool}
  (rule:∀ (i j:Int) (t u:Tok) (s:Shared) (Q:Value -> Shared -> Prop) (E:Value -> Shared -> Prop),Q (.bool (g i j)) s -> wpAny (model X.prog X.w) X.A (f (.int i t) (.int j u)) Q E s) :
  OpR X f (rI0 fun i j=>.bl (g i j)):=by
 intro pins s σ H x y v u Q I rx ry h
 obtain ⟨i,j,rfl,rfl,q⟩:=h
 obtain ⟨t,rfl⟩:=rx
 obtain ⟨t',rfl⟩:=ry
 exact rule i j t t' s _ _ ⟨.bl (g i j),H,I,rfl,q⟩
def CDiv (i j:Int):Prop:=0 < j /\ j < 1073741824
def CPow (i j:Int):Prop:=0 <= j /\ j <= 1000000 /\ i.natAbs < 2 ^ 64
def CMul (i j:Int):Prop:=(-(2 ^ 64) < i /\ i < 2 ^ 64) \/ (-(2 ^ 64) < j /\ j < 2 ^ 64)
theorem CMul.ok {i j:Int} (h:CMul i j):IntMulOk i j:=by
 rcases h with ⟨h1,h2⟩ | ⟨h1,h2⟩
 ·exact .of_left (intBits_le_64 h1 h2)
 ·exact .of_right (intBits_le_64 h1 h2)
theorem aX:OpR X (binaryOp .Add) (rI0 fun i j=>.int (i + j)):=opI0 fun _ _ _ _ _ _ _ q=>add_int q
theorem bR:OpR X (binaryOp .Sub) (rI0 fun i j=>.int (i - j)):=opI0 fun _ _ _ _ _ _ _ q=>sub_int q
theorem dc:OpR X (binaryOp .Mult) (rI CMul fun i j=>.int (i * j)):=opI fun _ _ _ _ _ _ _ hc q=>mul_int q hc.ok
theorem pB:OpR X (binaryOp .FloorDiv) (rI CDiv fun i j=>.int (i / j)):=opI fun i j _ _ _ _ _ hc q=>by
 have h1:(0:Int) < j:=hc.1
 have h2:j < 1073741824:=hc.2
 exact floordiv_int (by lia) (by rw [Int.fdiv_eq_ediv_of_nonneg i (by lia)]; exact q) (.inl (PyProof.noPylong_small (by lia)))
theorem cB:OpR X (binaryOp .Mod) (rI (fun _ j=>0 < j) fun i j=>.int (i % j)):=opI fun i j _ _ _ _ _ hc q=>by
 have h1:(0:Int) < j:=hc
 exact mod_int' (by lia) (by rw [Int.fmod_eq_emod_of_nonneg i (by lia)]; exact q)
theorem iL:OpR X (binaryOp .Pow) (rI CPow fun i j=>.int (i ^ j.toNat)):=opI fun _ _ _ _ _ _ _ hc q=>pow_int_small hc.1 hc.2.1 hc.2.2 q
theorem unI {f:Value -> Sem Value} {g:Int -> Int}
  (rule:∀ (i:Int) (t:Tok) (s:Shared) (Q:Value -> Shared -> Prop) (E:Value -> Shared -> Prop),Q (.int (g i) s.toks) { s with toks:=s.toks + 1 } -> wpAny (model X.prog X.w) X.A (f (.int i t)) Q E s) :
  UnR X f (rU fun i=>.int (g i)):=by
 intro pins s σ H x v Q I rx h
 obtain ⟨i,rfl,q⟩:=h
 obtain ⟨t,rfl⟩:=rx
 exact rule i t s _ _ ⟨.int (g i),H,I.tok _,⟨_,rfl⟩,q⟩
theorem iM:UnR X (unaryOp .USub) (rU fun i=>.int (-i)):=unI fun _ _ _ _ _ q=>neg_int q
end
def scal:V -> V -> Bool
 | .non,.non=>true | .non,.int _=>true | .int _,.non=>true | .non,.bl _=>true | .bl _,.non=>true | .non,.str _=>true | .str _,.non=>true
 | .int _,.int _=>true | .bl _,.bl _=>true | .str _,.str _=>true | .byt _,.byt _=>true
 | .int _,.str _=>true | .str _,.int _=>true | .bl _,.str _=>true | .str _,.bl _=>true
 | _,_=>false
def rEq:R2:=fun x y H Q=>scal x y=true /\ Q (.bl (decide (x=y))) H
def rNe:R2:=fun x y H Q=>scal x y=true /\ Q (.bl (!decide (x=y))) H
theorem pC {i j:Int}:decide (V.int i=V.int j)=(i == j):=by
 rw [Bool.eq_iff_iff]
 simp
theorem sG {i j:Bool}:decide (V.bl i=V.bl j)=(i == j):=by
 rw [Bool.eq_iff_iff]
 simp
theorem im {i j:Str}:decide (V.str i=V.str j)=(i == j):=by
 rw [Bool.eq_iff_iff]
 simp
theorem pD {i j:Array UInt8}:decide (V.byt i=V.byt j)=(i.toList == j.toList):=by
 rw [Bool.eq_iff_iff]
 cases i
 cases j
 simp
section
variable {X:Cx} {a b c:Expr} {ta tb tc:TE} {pos:Pos}
theorem bf {pins:List (Addr × Obj)} {σ:St} {H:Hp} {s:Shared} {Q:VK} {k k':Bool} (I:Inv X pins σ H s) (q:Q (.bl k) H) (e:k=k'):EP X pins σ Q (.bool k') s:=by
 subst e
 exact ⟨.bl k,H,I,rfl,q⟩
theorem bW:OpR X (compareOp .Eq) rEq:=by
 intro pins s σ H x y v u Q I rx ry h
 obtain ⟨hs,q⟩:=h
 cases x with
 | non =>
  cases rx
  cases y with
  | non=>cases ry; exact PySem.EqNone.eq_none_none (bf I q (by simp))
  | bl j=>cases ry; exact PySem.EqNone.eq_none_bool (bf I q (by simp))
  | int j=>obtain ⟨t',rfl⟩:=ry; exact PySem.EqNone.eq_none_int (bf I q (by simp))
  | str j=>obtain ⟨t',rfl⟩:=ry; exact PySem.EqNone.eq_none_str (bf I q (by simp))
  | _=>exact absurd (show false=true from hs) Bool.false_ne_true
 | bl i =>
  cases rx
  cases y with
  | non=>cases ry; exact PySem.EqNone.eq_bool_none (bf I q (by simp))
  | bl j=>cases ry; exact eq_bool (bf I q sG)
  | str j=>obtain ⟨t',rfl⟩:=ry; exact PySem.EqMixed.eq_bool_str (bf I q (by simp))
  | _=>exact absurd (show false=true from hs) Bool.false_ne_true
 | int i =>
  obtain ⟨t,rfl⟩:=rx
  cases y with
  | non=>cases ry; exact PySem.EqNone.eq_int_none (bf I q (by simp))
  | int j=>obtain ⟨t',rfl⟩:=ry; exact eq_int (bf I q pC)
  | str j=>obtain ⟨t',rfl⟩:=ry; exact PySem.EqMixed.eq_int_str (bf I q (by simp))
  | _=>exact absurd (show false=true from hs) Bool.false_ne_true
 | str i =>
  obtain ⟨t,rfl⟩:=rx
  cases y with
  | non=>cases ry; exact PySem.EqNone.eq_str_none (bf I q (by simp))
  | bl j=>cases ry; exact PySem.EqMixed.eq_str_bool (bf I q (by simp))
  | int j=>obtain ⟨t',rfl⟩:=ry; exact PySem.EqMixed.eq_str_int (bf I q (by simp))
  | str j=>obtain ⟨t',rfl⟩:=ry; exact eq_str (bf I q im)
  | _=>exact absurd (show false=true from hs) Bool.false_ne_true
 | byt i =>
  obtain ⟨t,rfl⟩:=rx
  cases y with
  | byt j=>obtain ⟨t',rfl⟩:=ry; exact PySem.W.eq_bytes (bf I q pD)
  | _=>exact absurd (show false=true from hs) Bool.false_ne_true
 | _=>cases y <;> exact absurd (show false=true from hs) Bool.false_ne_true
theorem gb:OpR X (compareOp .NotEq) rNe:=by
 intro pins s σ H x y v u Q I rx ry h
 obtain ⟨hs,q⟩:=h
 cases x with
 | non =>
  cases rx
  cases y with
  | non=>cases ry; exact PySem.EqNone.ne_none_none (bf I q (by simp))
  | bl j=>cases ry; exact PySem.EqNone.ne_none_bool (bf I q (by simp))
  | int j=>obtain ⟨t',rfl⟩:=ry; exact PySem.EqNone.ne_none_int (bf I q (by simp))
  | str j=>obtain ⟨t',rfl⟩:=ry; exact PySem.EqNone.ne_none_str (bf I q (by simp))
  | _=>exact absurd (show false=true from hs) Bool.false_ne_true
 | bl i =>
  cases rx
  cases y with
  | non=>cases ry; exact PySem.EqNone.ne_bool_none (bf I q (by simp))
  | bl j=>cases ry; exact ne_bool (bf I q (congrArg not sG))
  | str j=>obtain ⟨t',rfl⟩:=ry; exact PySem.EqMixed.ne_bool_str (bf I q (by simp))
  | _=>exact absurd (show false=true from hs) Bool.false_ne_true
 | int i =>
  obtain ⟨t,rfl⟩:=rx
  cases y with
  | non=>cases ry; exact PySem.EqNone.ne_int_none (bf I q (by simp))
  | int j=>obtain ⟨t',rfl⟩:=ry; exact ne_int (bf I q (congrArg not pC))
  | str j=>obtain ⟨t',rfl⟩:=ry; exact PySem.EqMixed.ne_int_str (bf I q (by simp))
  | _=>exact absurd (show false=true from hs) Bool.false_ne_true
 | str i =>
  obtain ⟨t,rfl⟩:=rx
  cases y with
  | non=>cases ry; exact PySem.EqNone.ne_str_none (bf I q (by simp))
  | bl j=>cases ry; exact PySem.EqMixed.ne_str_bool (bf I q (by simp))
  | int j=>obtain ⟨t',rfl⟩:=ry; exact PySem.EqMixed.ne_str_int (bf I q (by simp))
  | str j=>obtain ⟨t',rfl⟩:=ry; exact ne_str (bf I q (congrArg not im))
  | _=>exact absurd (show false=true from hs) Bool.false_ne_true
 | byt i =>
  obtain ⟨t,rfl⟩:=rx
  cases y with
  | byt j=>obtain ⟨t',rfl⟩:=ry; exact PySem.W.ne_bytes (bf I q (congrArg not pD))
  | _=>exact absurd (show false=true from hs) Bool.false_ne_true
 | _=>cases y <;> exact absurd (show false=true from hs) Bool.false_ne_true
theorem dY:OpR X (compareOp .Lt) (rI0 fun i j=>.bl (decide (i < j))):=opB0 fun _ _ _ _ _ _ _ q=>lt_int q
theorem pE:OpR X (compareOp .LtE) (rI0 fun i j=>.bl (decide (i <= j))):=opB0 fun _ _ _ _ _ _ _ q=>le_int q
theorem dL:OpR X (compareOp .Gt) (rI0 fun i j=>.bl (decide (j < i))):=opB0 fun _ _ _ _ _ _ _ q=>gt_int q
theorem jJ:OpR X (compareOp .GtE) (rI0 fun i j=>.bl (decide (j <= i))):=opB0 fun _ _ _ _ _ _ _ q=>ge_int q
theorem qy:OpR X (compareOp .Lt) (fun x y H Q=>∃ i j,x=.str i /\ y=.str j /\ Q (.bl (decide (i.cps.toList < j.cps.toList))) H):=by
 intro pins s σ H x y v u Q I rx ry h
 obtain ⟨i,j,rfl,rfl,q⟩:=h
 obtain ⟨t,rfl⟩:=rx
 obtain ⟨t',rfl⟩:=ry
 exact lt_str (bf I q rfl)
theorem qz:OpR X (compareOp .In) (fun x y H Q=>∃ i j,x=.str i /\ y=.str j /\ Q (.bl (!(Builtin.Str.occurrences j i 0 j.length 1).isEmpty)) H):=by
 intro pins s σ H x y v u Q I rx ry h
 obtain ⟨i,j,rfl,rfl,q⟩:=h
 obtain ⟨t,rfl⟩:=rx
 obtain ⟨t',rfl⟩:=ry
 exact in_str (bf I q rfl)
theorem aF (b:Expr) {op:CmpOp} (h:op ≠ .In:=by decide) (h2:op ≠ .NotIn:=by decide):behindInMarks op b=false:=by
 have e1:(op == CmpOp.In)=false:=by cases op <;> first | rfl | exact absurd rfl h
 have e2:(op == CmpOp.NotIn)=false:=by cases op <;> first | rfl | exact absurd rfl h2
 cases b <;> simp [behindInMarks,e1,e2]
theorem bC {op:CmpOp} {r:R2} (ho:OpR X (compareOp op) r) (ha:PE X a ta) (hb:PE X b tb) (hm:behindInMarks op b=false):PE X (.Compare a [op] [b] pos) (tOp r ta tb):=by
 intro pins s σ H Q I h
 exact wpAny_Compare1 (binT ha hb I h fun v u s2 x y H2 I2 rx ry q=>ho pins s2 σ H2 x y v u Q I2 rx ry q) hm
def tTest (t:TE):TT:=fun σ H Q=>t σ H fun x H'=>∃ k,x=.bl k /\ Q k H'
theorem aD {op:CmpOp} {r:R2} (ho:OpR X (compareOp op) r) (ha:PE X a ta) (hb:PE X b tb) (hm:behindInMarks op b=false):PT X (.Compare a [op] [b] pos) (tTest (tOp r ta tb)):=by
 intro pins s σ H Q I h
 refine wpAny_isTrue_Compare1 (thn (ha pins s σ H _ I h) fun v s1 ⟨x,H1,I1,r1,q1⟩=>thn (hb pins s1 σ H1 _ I1 q1) fun u s2 ⟨y,H2,I2,r2,q2⟩ =>
  thn (ho pins s2 σ H2 x y v u _ I2 r1 r2 q2) fun c s3 ⟨z,H3,I3,r3,k,e,q3⟩=>?_) hm
 subst e
 cases r3
 exact wpAny_truthy_bool ⟨H3,I3,q3⟩
def tChain (r r':R2) (ta tb tc:TE):TE:=fun σ H Q=>ta σ H fun x H1=>tb σ H1 fun y H2=>r x y H2 fun z H3=>∃ k,z=.bl k /\
 (if k=true then tc σ H3 fun w' H4=>r' y w' H4 Q else Q (.bl false) H3)
theorem mf {op op':CmpOp} {r r':R2} (ho:OpR X (compareOp op) r) (ho':OpR X (compareOp op') r') (ha:PE X a ta) (hb:PE X b tb) (hc:PE X c tc)
  (hm:lastMarks [op,op'] [b,c]=false:=by with_unfolding_all rfl):PT X (.Compare a [op,op'] [b,c] pos) (tTest (tChain r r' ta tb tc)):=by
 intro pins s σ H Q I h
 refine isTrue_chain (thn (ha pins s σ H _ I h) fun v s1 ⟨x,H1,I1,r1,q1⟩=>test_link (thn (hb pins s1 σ H1 _ I1 q1) fun u s2 ⟨y,H2,I2,r2,q2⟩ =>
  thn (ho pins s2 σ H2 x y v u _ I2 r1 r2 q2) fun d s3 ⟨z,H3,I3,r3,k,e,q3⟩=>?_)) hm
 subst e
 cases r3
 refine wpAny_truthy_bool ?_
 cases k with
 | false =>
  obtain ⟨k',e',q'⟩:=q3
  cases e'
  exact ite_ff ⟨H3,I3,q'⟩
 | true =>
  refine ite_tt (test_last (thn (hc pins s3 σ H3 _ I3 q3) fun w' s4 ⟨z',H4,I4,r4,q4⟩=>thn (ho' pins s4 σ H4 y z' u w' _ I4 r2 r4 q4) fun d' s5 ⟨z2,H5,I5,r5,k2,e2,q5⟩=>?_))
  subst e2
  cases r5
  exact wpAny_truthy_bool ⟨H5,I5,q5⟩
theorem kz:(sizeLine:Nat) < 2 ^ 63:=by rw [sizeLine_eq]; decide
theorem eW {x:V} {us:List Value} (r:bh [x] us):∃ u,us=[u] /\ aY x u:=by
 cases r with
 | cons r1 r2=>cases r2; exact ⟨_,rfl,r1⟩
theorem mi {x y:V} {us:List Value} (r:bh [x,y] us):∃ u w',us=[u,w'] /\ aY x u /\ aY y w':=by
 cases r with
 | cons r1 r2 =>
  cases r2 with
  | cons r3 r4=>cases r4; exact ⟨_,_,rfl,r1,r3⟩
theorem sI:cU X (.builtin "abs") (fun xs H Q=>∃ i,xs=[.int i] /\ Q (.int (if i < 0 then -i else i)) H):=by
 intro pins s σ H xs us Q I r h
 obtain ⟨i,rfl,q⟩:=h
 obtain ⟨u,rfl,t,rfl⟩:=eW r
 exact call_abs_int fun u tk=>⟨.int (if i < 0 then -i else i),H,I.tok _,⟨_,rfl⟩,q⟩
theorem eA (hc:X.calm=true):cU X (.builtin "max") (fun xs H Q=>∃ i j,xs=[.int i,.int j] /\ Q (.int (if j > i then j else i)) H):=by
 intro pins s σ H xs us Q I r h
 obtain ⟨i,j,rfl,q⟩:=h
 obtain ⟨u,w',rfl,⟨t,rfl⟩,⟨t',rfl⟩⟩:=mi r
 refine max_two_ints (I.ok.hd hc) fun h' tk k=>⟨_,H,I.kept k,?_,q⟩
 by_cases hj:j > i
 ·rw [if_pos hj,if_pos hj]; exact ⟨_,rfl⟩
 ·rw [if_neg hj,if_neg hj]; exact ⟨_,rfl⟩
theorem jK (hc:X.calm=true):cU X (.builtin "min") (fun xs H Q=>∃ i j,xs=[.int i,.int j] /\ Q (.int (if j < i then j else i)) H):=by
 intro pins s σ H xs us Q I r h
 obtain ⟨i,j,rfl,q⟩:=h
 obtain ⟨u,w',rfl,⟨t,rfl⟩,⟨t',rfl⟩⟩:=mi r
 refine min_two_ints (I.ok.hd hc) fun h' tk k=>⟨_,H,I.kept k,?_,q⟩
 by_cases hj:j < i
 ·rw [if_pos hj,if_pos hj]; exact ⟨_,rfl⟩
 ·rw [if_neg hj,if_neg hj]; exact ⟨_,rfl⟩
theorem fu:cU X (.type "int") (fun xs H Q=>(∃ i,xs=[.int i] /\ Q (.int i) H) \/ ∃ k,xs=[.bl k] /\ Q (.int (if k then 1 else 0)) H):=by
 intro pins s σ H xs us Q I r h
 rcases h with ⟨i,rfl,q⟩ | ⟨k,rfl,q⟩
 ·obtain ⟨u,rfl,t,rfl⟩:=eW r
  exact call_int_int ⟨.int i,H,I,⟨_,rfl⟩,q⟩
 ·obtain ⟨u,rfl,r1⟩:=eW r
  cases r1
  exact call_int_bool ⟨.int (if k then 1 else 0),H,I.tok _,⟨_,rfl⟩,q⟩
end
structure nI (h:Heap) (x dx C:Addr) (mA:Str -> Option Value):Prop where
 obj:h.get? x=some (PySem.W.instObj C dx)
 ns:h.Ns1 dx mA
 ne:dx ≠ x
theorem qA {h:Heap} {dx:Addr} {mA:Str -> Option Value} (n:h.Ns1 dx mA):∃ od,h.get? dx=some od /\ ∀ name,PySem.W.lookIn name od=some (mA name):=by
 obtain ⟨o,es,ep,ho,hd,hk,_,hm⟩:=n
 refine ⟨o,ho,fun name=>?_⟩
 have e:=hm name
 unfold nsFind findBy at e
 rw [<- Array.find?_toList] at e
 unfold PySem.W.lookIn
 rw [hd]
 dsimp only
 split
 ·rename_i y q
  rw [q] at e
  exact congrArg some e
 ·rename_i q
  rw [q] at e
  have a:es.toList.any (·.refKey)=false:=by
   rw [List.any_eq_false]
   intro y hy
   obtain ⟨z,t,hkey⟩:=hk y (Array.mem_toList_iff.mp hy)
   simp [DictEntry.refKey,hkey]
  have a':¬ es.toList.any (·.refKey)=true:=by rw [a]; exact Bool.false_ne_true
  rw [if_neg a']
  exact congrArg some e
theorem nI.look {h:Heap} {x dx C:Addr} {mA:Str -> Option Value} (I:nI h x dx C mA):∃ od,PySem.W.InstAt h x (PySem.W.instObj C dx) C (some od) /\ ∀ name,PySem.W.lookIn name od=some (mA name) :=
 let ⟨od,ho,hl⟩:=qA I.ns
 ⟨od,⟨I.obj,rfl,rfl,ho⟩,hl⟩
section
variable {prog:Program} {w:World} {A:Around} {E:Value -> Shared -> Prop} {s:Shared} {K:PySem.W.Frag} {x dx C f:Addr} {mA:Str -> Option Value} {name:Str} {v:Value}
theorem get_map {expr:Bool} {Q:Value -> Shared -> Prop} (X:K.In s.heap) (I:nI s.heap x dx C mA) (hg:PySem.W.plainGet K C name=true) (hh:PySem.W.hasDictIn K C=true)
  (ha:PySem.W.findIn K (.ref C) name=some none) (hv:mA name=some v) (hv':PySem.W.handedIn v=true) (h:Q v { s with toks:=s.toks + 1 }) :
  wpAny (model prog w) A (getAttr (.ref x) name expr) Q E s:=by
 obtain ⟨od,J,hl⟩:=I.look
 exact PySem.W.get_value X J (PySem.W.plainGet_of hg).1 (PySem.W.findObj_own hh ha rfl (by rw [hl,hv])) hv' h
theorem sJ {pl:Sem Bool} {Q:Value × List Value -> Shared -> Prop} (X:K.In s.heap) (I:nI s.heap x dx C mA) (hg:PySem.W.plainGet K C name=true)
  (hf:PySem.W.findIn K (.ref C) name=some (some (.ref f))) (ht:PySem.W.isFn K (.ref f)=true) (hv:mA name=none) (h:Q (.ref f,[.ref x]) s) :
  wpAny (model prog w) A (getMethod (.ref x) name pl) Q E s:=by
 obtain ⟨od,J,hl⟩:=I.look
 exact PySem.W.method_fn X J (PySem.W.plainGet_of hg).1 (PySem.W.plainGet_of hg).2 hf (beq_iff_eq.mp ht) (by show (PySem.W.lookIn name od).map (·.isSome)=some false; rw [hl,hv]; rfl) h
theorem set_map {ns:List Str} {Q:Unit -> Shared -> Prop} (X:K.In s.heap) (I:nI s.heap x dx C mA)
  (hs:PySem.W.findIn K (.ref C) "__setattr__"=some (some (.builtin "object.__setattr__"))) (hp:PySem.W.plainOver K C=true) (ht:PySem.W.takerIn K C name=some none) (hh:PySem.W.hasDictIn K C=true)
  (hw:PySem.Within mA ns) (hsz:ns.length <= sizeLine)
  (h:∀ h',nI h' x dx C (fun y=>if y=name then some v else mA y) -> Heap.SameBut dx s.heap h' -> Q () { s with heap:=h',toks:=s.toks + 2 }) :
  wpAny (model prog w) A (setAttr (.ref x) name v) Q E s:=by
 obtain ⟨od,J,hl⟩:=I.look
 refine PySem.W.set_plain X J hs (PySem.W.osa_open (s:={ s with toks:=s.toks + 1 }) (r:=none) X J hp ht fun b=>?_)
 obtain ⟨cd,hc,hd'⟩:=PySem.W.any_some hh
 have hx:s.heap.get? x=some ⟨.ref C,some dx,.plain,#[]⟩:=I.obj
 refine wpAny_bind (wpAny_pure (wpAny_bind (wpAny_bind (wpAny_loadPart hx (wpAny_bind (PySem.W.Looks.here (s:={ s with toks:=s.toks + 1 }) (PySem.W.looks_clsIn X hc) ?_))))))
 rw [hd']
 refine wpAny_pure (a:=some dx) (wpAny_bind (wpAny_pure (wpAny_bind ?_)))
 refine wpAny_nsSet1 (s:={ s with toks:=s.toks + 1 }) I.ns fun h' hn2 hs2=>?_
 obtain ⟨oD,esD,epD,hoD,hdD,hcD⟩:=hn2.count (PySem.Within.cons name v hw)
 refine wpAny_bind (wpAny_lookBehind hoD (by rw [hdD]; exact pastItsLine_dict (Nat.le_trans hcD (by rw [List.length_cons]; lia))) ?_)
 exact wpAny_pure (h _ ⟨(hs2.2 _ (Ne.symm I.ne)).trans I.obj,hn2,I.ne⟩ hs2)
theorem sK {R:Result -> Shared -> Prop} {vs:List Value} {kw:List (Str × Value)} (X:K.In s.heap) (hm:PySem.W.makesIn K C=true)
  (hi:PySem.W.findIn K (.ref C) "__init__"=some (some (.ref f))) (hf:PySem.W.typeIn K (.ref f)=some (.type "function"))
  (h:codeAny (model prog w) (A.under (.builtin "type.__call__" ⟨.ref C :: vs,kw⟩)) (.call (.ref f) ⟨.ref (s.heap.objs.size + 1) :: vs,kw⟩) (PySem.W.InitBack (s.heap.objs.size + 1) R)
   { s with heap:=(s.heap.push PySem.W.emptyDict).push (PySem.W.instObj C s.heap.objs.size) }) :
  codeAny (model prog w) A (.call (.ref C) ⟨vs,kw⟩) R s:=by
 obtain ⟨hh,g,d,t,os⟩:=s
 exact PySem.W.make_core (PySem.W.makes_of X hm) (PySem.W.looks_findIn X hi) (fun self=>PySem.W.bind_fn X self hf) (.inl rfl) h
end
def aL (f:Str) (v:V):List (Str × V) -> List (Str × V)
 | []=>[(f,v)]
 | (g,x) :: r=>if g=f then (g,v) :: r else (g,x) :: aL f v r
theorem cC (f g:Str) (v:V):∀ fs:List (Str × V),(aL f v fs).lookup g=if g=f then some v else fs.lookup g
 | []=>by
  show List.lookup g [(f,v)]=_
  by_cases h:g=f
  ·have hb:(g == f)=true:=beq_iff_eq.mpr h
   simp only [List.lookup,hb,if_pos h]
  ·have hb:(g == f)=false:=beq_eq_false_iff_ne.mpr h
   simp only [List.lookup,hb,if_neg h]
 | (k,x) :: r=>by
  have ih:=cC f g v r
  rw [show aL f v ((k,x) :: r)=(if k=f then (k,v) :: r else (k,x) :: aL f v r) from rfl]
  by_cases hk:k=f
  ·rw [if_pos hk]
   by_cases h:g=k
   ·have hb:(g == k)=true:=beq_iff_eq.mpr h
    simp only [List.lookup,hb,if_pos (h.trans hk)]
   ·have hb:(g == k)=false:=beq_eq_false_iff_ne.mpr h
    simp only [List.lookup,hb,if_neg (fun e:g=f=>h (e.trans hk.symm))]
  ·rw [if_neg hk]
   by_cases h:g=k
   ·have hb:(g == k)=true:=beq_iff_eq.mpr h
    simp only [List.lookup,hb,if_neg (fun e:g=f=>hk (h.symm.trans e))]
   ·have hb:(g == k)=false:=beq_eq_false_iff_ne.mpr h
    simp only [List.lookup,hb]
    exact ih
theorem gC (f:Str) (v:V):∀ fs:List (Str × V),f ∈ (aL f v fs).map (·.1) /\ ∀ g,g ∈ fs.map (·.1) -> g ∈ (aL f v fs).map (·.1)
 | []=>⟨by simp [aL],fun g h=>by simp at h⟩
 | (k,x) :: r=>by
  obtain ⟨i1,i2⟩:=gC f v r
  rw [show aL f v ((k,x) :: r)=(if k=f then (k,v) :: r else (k,x) :: aL f v r) from rfl]
  by_cases hk:k=f
  ·rw [if_pos hk]
   subst hk
   exact ⟨by simp,fun g h=>by simpa using h⟩
  ·rw [if_neg hk]
   refine ⟨?_,fun g h=>?_⟩
   ·rw [List.map_cons]
    exact List.mem_cons_of_mem _ i1
   ·rw [List.map_cons] at h ⊢
    rcases List.mem_cons.mp h with e | e
    ·exact List.mem_cons.mpr (.inl e)
    ·exact List.mem_cons_of_mem _ (i2 g e)
theorem gU (f:Str) (v:V):∀ fs:List (Str × V),(aL f v fs).length <= fs.length + 1
 | []=>by simp [aL]
 | (k,x) :: r=>by
  have ih:=gU f v r
  rw [show aL f v ((k,x) :: r)=(if k=f then (k,v) :: r else (k,x) :: aL f v r) from rfl]
  by_cases hk:k=f
  ·rw [if_pos hk,List.length_cons,List.length_cons]; lia
  ·rw [if_neg hk,List.length_cons,List.length_cons]; lia
theorem ej.some_of {v:V} {o:Option Value} (r:ej (some v) o):∃ u,o=some u /\ aY v u:=by
 cases o with
 | none=>exact (show False from r).elim
 | some u=>exact ⟨u,rfl,r⟩
theorem ej.none_of {o:Option Value} (r:ej none o):o=none:=by
 cases o with
 | none=>rfl
 | some u=>exact (show False from r).elim
theorem qB {v:V} {u:Value} (r:aY v u):PySem.W.handedIn u=true:=by
 cases v with
 | non=>cases (show u=Value.none from r); rfl
 | bl b=>cases (show u=Value.bool b from r); rfl
 | int i=>obtain ⟨t,e⟩:=(show ∃ t,u=Value.int i t from r); cases e; rfl
 | str x=>obtain ⟨t,e⟩:=(show ∃ t,u=Value.str x t from r); cases e; rfl
 | byt b=>obtain ⟨t,e⟩:=(show ∃ t,u=Value.bytes b t from r); cases e; rfl
 | flt b=>obtain ⟨t,e⟩:=(show ∃ t,u=Value.float b t from r); cases e; rfl
 | ref a=>cases (show u=Value.ref a from r); rfl
 | ty n=>cases (show u=Value.type n from r); rfl
section
variable {P:Program} {w:World} {H H':Hp} {h h':Heap} {a C dx:Addr} {fs fs':List (Str × V)}
theorem kA (hok:HOk P w H h) (e:H a=some (.ins C dx fs)):∃ mA,nI h a dx C mA /\ (∀ f,ej (fs.lookup f) (mA f)) /\ PySem.Within mA (fs.map (·.1)) /\ fs.length <= 1000 /\ H dx=some (.own a):=by
 obtain ⟨d,z,ne,ob,mA,n,r,q⟩:=(show ck P w H h a (.ins C dx fs) from hok a _ e)
 exact ⟨mA,⟨ob,n,ne⟩,r,q,z,d⟩
end
structure Cls (K:PySem.W.Frag) (C:Addr):Prop where
 pg:PySem.W.plainGet K C Str.empty=true
 hd:PySem.W.hasDictIn K C=true
 po:PySem.W.plainOver K C=true
 sa:PySem.W.findIn K (.ref C) "__setattr__"=some (some (.builtin "object.__setattr__"))
theorem Cls.get {K:PySem.W.Frag} {C:Addr} (c:Cls K C) (f:Str):PySem.W.plainGet K C f=true:=c.pg
def bx (K:PySem.W.Frag) (C:Addr) (f:Str):Prop:=PySem.W.findIn K (.ref C) f=some none
theorem bx.taker {K:PySem.W.Frag} {C:Addr} {f:Str} (n:bx K C f):PySem.W.takerIn K C f=some none:=by
 unfold PySem.W.takerIn
 rw [show PySem.W.findIn K (.ref C) f=some none from n]
 rfl
structure nJ (K:PySem.W.Frag) (C:Addr) (m:Str) (f:Addr):Prop where
 at_:PySem.W.findIn K (.ref C) m=some (some (.ref f))
 fn:PySem.W.isFn K (.ref f)=true
 kp:PySem.W.keepIn K (.ref f)=true
section
variable {X:Cx} {pins:List (Addr × Obj)} {σ:St} {H:Hp} {s:Shared} {a C dx:Addr} {fs:List (Str × V)} {f:Str} {v:V} {A:Around} {E:Value -> Shared -> Prop}
theorem nM {b:Bool} {Q:Value -> Shared -> Prop} (I:Inv X pins σ H s) (e:H a=some (.ins C dx fs)) (c:Cls X.K C) (n:bx X.K C f) (l:fs.lookup f=some v)
  (h:∀ u s',Inv X pins σ H s' -> aY v u -> Q u s'):wpAny (model X.prog X.w) A (getAttr (.ref a) f b) Q E s:=by
 obtain ⟨mA,O,r,_,_,_⟩:=kA I.hok e
 obtain ⟨u,hu,ru⟩:=ej.some_of (v:=v) (o:=mA f) (by rw [<- l]; exact r f)
 exact get_map I.kIn O (c.get f) c.hd n hu (qB ru) (h u _ (I.tok _) ru)
theorem iN {m:Str} {g:Addr} {pl:Sem Bool} {Q:Value × List Value -> Shared -> Prop} (I:Inv X pins σ H s) (e:H a=some (.ins C dx fs)) (c:Cls X.K C) (k:nJ X.K C m g) (l:fs.lookup m=none)
  (h:Q (.ref g,[.ref a]) s):wpAny (model X.prog X.w) A (getMethod (.ref a) m pl) Q E s:=by
 obtain ⟨mA,O,r,_,_,_⟩:=kA I.hok e
 have hn:mA m=none:=ej.none_of (by rw [<- l]; exact r m)
 exact sJ I.kIn O (c.get m) k.at_ k.fn hn h
theorem nN {y:V} {u:Value} {Q:Unit -> Shared -> Prop} (I:Inv X pins σ H s) (e:H a=some (.ins C dx fs)) (c:Cls X.K C) (n:bx X.K C f) (hl:fs.length < 1000) (ry:aY y u)
  (h:∀ s',Inv X pins σ (upd H a (.ins C dx (aL f y fs))) s' -> Q () s'):wpAny (model X.prog X.w) A (setAttr (.ref a) f u) Q E s:=by
 obtain ⟨mA,O,r,wi,_,ho⟩:=kA I.hok e
 have hz:(fs.map (·.1)).length <= sizeLine:=by rw [List.length_map,sizeLine_eq]; lia
 refine set_map I.kIn O c.sa c.po n.taker c.hd wi hz fun h' O' sb=>h _ ?_
 have hd:∃ o,h'.get? dx=some o:=let ⟨o,_,_,e',_⟩:=O'.ns; ⟨o,e'⟩
 refine I.write (x:=a) (e:=dx) (by rw [e]; exact True.intro) (.inr ho) (fun b q hb z=>(sb.2 b hb).trans z) hd ?_
 refine ⟨by rw [aw O.ne]; exact ho,?_,O.ne,O'.obj,_,O'.ns,fun g=>?_,fun g hg=>?_⟩
 ·have:=gU f y fs; lia
 ·show ej ((aL f y fs).lookup g) (if g=f then some u else mA g)
  rw [cC]
  by_cases q:g=f
  ·rw [if_pos q,if_pos q]; exact ry
  ·rw [if_neg q,if_neg q]; exact r g
 ·by_cases q:g=f
  ·rw [q]; exact (gC f y fs).1
  ·refine (gC f y fs).2 g (wi g fun z=>hg ?_)
   show (if g=f then some u else mA g)=none
   rw [if_neg q]; exact z
theorem Inv.made (I:Inv X pins σ H s):Inv X pins σ (upd (upd H s.heap.objs.size (.own (s.heap.objs.size + 1))) (s.heap.objs.size + 1) (.ins C s.heap.objs.size []))
  { s with heap:=(s.heap.push PySem.W.emptyDict).push (PySem.W.instObj C s.heap.objs.size) }:=by
 have e1:(s.heap.push PySem.W.emptyDict).get? s.heap.objs.size=some PySem.W.emptyDict:=Heap.get?_push_size s.heap rfl
 have e2:((s.heap.push PySem.W.emptyDict).push (PySem.W.instObj C s.heap.objs.size)).get? (s.heap.objs.size + 1)=some (PySem.W.instObj C s.heap.objs.size):=by
  have:=Heap.get?_push_size (s.heap.push PySem.W.emptyDict) (o:=PySem.W.instObj C s.heap.objs.size) rfl
  rwa [Heap.size_push] at this
 have e3:(s.heap.push PySem.W.emptyDict).Ns s.heap.objs.size (fun _=>none):=⟨PySem.W.emptyDict,#[],_,e1,rfl,(fun e he=>absurd he (by simp)),fun _=>rfl⟩
 have I1:=I.laid (a:=s.heap.objs.size) (o:=.own (s.heap.objs.size + 1)) (h':=s.heap.push PySem.W.emptyDict) (t':=s.toks) (fun b u q=>Heap.get?_push_of_some _ q) (Nat.le_refl _) ⟨_,e1⟩
 refine I1.laid (a:=s.heap.objs.size + 1) (o:=.ins C s.heap.objs.size []) (t':=s.toks) (fun b u q=>Heap.get?_push_of_some _ q) (Nat.le_of_eq (Heap.size_push _ _)) ?_
 have ne:s.heap.objs.size ≠ s.heap.objs.size + 1:=Nat.ne_of_lt (Nat.lt_succ_self _)
 refine ⟨by rw [aw ne,ai],Nat.zero_le _,ne,e2,fun _=>none,(Heap.Ns1.of_empty e3).at fun o q=>Heap.get?_push_of_some _ q,fun _=>True.intro,fun y hy=>absurd rfl hy⟩
theorem attr_of {prog:Program} {w:World} {env:Env} {e:Expr} {f:Str} {pos:Pos} {s:Shared} {Q:Value -> Shared -> Prop} (hb:attributeBase e f env (eval e env)=eval e env)
  (h:wpAny (model prog w) A (eval e env) (fun o s₁=>wpAny (model prog w) A (getAttr o f true) Q E s₁) E s):wpAny (model prog w) A (eval (.Attribute e f pos) env) Q E s :=
 Attribute_any_ h (by rw [arm_eval_Attribute,hb])
end
def tFld (K:PySem.W.Frag) (ta:TE) (f:Str):TE:=fun σ H Q=>ta σ H fun x H1=>∃ a C dx fs v,x=.ref a /\ H1 a=some (.ins C dx fs) /\ Cls K C /\ bx K C f /\ fs.lookup f=some v /\ Q v H1
def sFld (K:PySem.W.Frag) (ta tv:TE) (f:Str):TS:=fun D σ H=>tv σ H fun y H1=>ta σ H1 fun x H2=>∃ a C dx fs,x=.ref a /\ H2 a=some (.ins C dx fs) /\ Cls K C /\ bx K C f /\ fs.length < 1000 /\
 D.nx σ (upd H2 a (.ins C dx (aL f y fs)))
section
variable {X:Cx} {o e value:Expr} {f:Str} {pos pos' tpos:Pos} {ta tv:TE}
theorem aG (he:PE X e ta) (hb:attributeBase e f X.env (eval e X.env)=eval e X.env):PE X (.Attribute e f pos) (tFld X.K ta f):=by
 intro pins s σ H Q I h
 refine attr_of hb (thn (he pins s σ H _ I h) fun u s1 ⟨x,H1,I1,rx,a,C,dx,fs,v,ex,ea,c,n,l,q⟩=>?_)
 subst ex
 obtain rfl:u=Value.ref a:=rx
 exact nM I1 ea c n l fun u' s2 I2 ru=>⟨v,H1,I2,ru,q⟩
theorem bg (ha:PE X o ta) (hv:PE X value tv) (hs:swapsWith value (some (.Attribute o f pos')) pos.line X.env=pure false):PS X (.Assign [.Attribute o f pos'] value pos) (sFld X.K ta tv f):=by
 intro pins s σ H D I h
 refine plainObj_wpAny_Assign_Attribute (thn (hv pins s σ H _ I h) fun u s1 ⟨y,H1,I1,ry,q⟩=>thn (ha pins s1 σ H1 _ I1 q) fun ov s2 ⟨x,H2,I2,rx,a,C,dx,fs,ex,ea,c,n,l,q2⟩=>?_) hs
 subst ex
 obtain rfl:ov=Value.ref a:=rx
 exact nN I2 ea c n l ry fun s3 I3=>⟨σ,_,I3,q2⟩
end
section
variable {X:Cx} {pins:List (Addr × Obj)} {σ:St} {H:Hp} {s:Shared} {A:Around} {E:Value -> Shared -> Prop} {Q:Value -> Shared -> Prop} {c:Value} {b:Bool}
end
structure bi (k:Nat) (A:Around):Prop where
 hd:A.handled=none
 dp:A.depth + 3 * k + 5 < recursionLimit
 un:A.units + 16 * k + 200 < cLine
theorem bi.mono {j k:Nat} {A:Around} (r:bi k A) (h:j <= k):bi j A:=⟨r.hd,by have:=r.dp; lia,by have:=r.un; lia⟩
theorem bi.deeper {k:Nat} {A:Around} (r:bi (k + 1) A) (env:Env):bi k (A.deeper env) :=
 ⟨r.hd,by have:=r.dp; show A.depth + 1 + 3 * k + 5 < _; lia,by have:=r.un; show A.units + 3 + 16 * k + 200 < _; lia⟩
theorem nO {A:Around} {C:Addr} {us:List Value} {kw:List (Str × Value)}:(A.under (.builtin "type.__call__" ⟨.ref C :: us,kw⟩)).depth=A.depth + 1:=by
 first | rfl | simp [Around.under,Code.weight,Code.isCreation,Code.isGuard,Code.isCaller,Code.frames,Code.isFrame,guardIds]
theorem nP {A:Around} {C:Addr} {us:List Value} {kw:List (Str × Value)}:(A.under (.builtin "type.__call__" ⟨.ref C :: us,kw⟩)).units=A.units + 1:=by
 first | rfl | simp [Around.under,Code.cUnits,Code.frames,Code.isFrame]
theorem bi.make {k:Nat} {A:Around} (r:bi (k + 1) A) (C:Addr) (us:List Value) (kw:List (Str × Value)):bi k (A.under (.builtin "type.__call__" ⟨.ref C :: us,kw⟩)) :=
 ⟨r.hd,by have:=r.dp; rw [nO]; lia,by have:=r.un; rw [nP]; lia⟩
theorem bi.depth {k:Nat} {A:Around} (r:bi k A):A.depth < recursionLimit:=by have:=r.dp; lia
theorem bi.units {k:Nat} {A:Around} (r:bi k A):A.units + 64 < cLine:=by have:=r.un; lia
def mj:TA:=fun _ H Q=>Q [] H
def dM (ta:TE) (tr:TA):TA:=fun σ H Q=>ta σ H fun x H1=>tr σ H1 fun xs H2=>Q (x :: xs) H2
section
variable {X:Cx} {e:Expr} {es:List Expr} {te:TE} {t:TA} {pos:Pos}
theorem ag:PA X [] mj:=fun _ _ _ _ H Q I h=>Calls.spliced_nil ⟨[],H,I,.nil,h⟩
theorem ad (ha:PE X e te) (hr:PA X es t) (hs:starEach (e :: es) X.env=(false,eval e X.env) :: starEach es X.env:=by rfl):PA X (e :: es) (dM te t):=by
 intro pos pins s σ H Q I h
 rw [hs]
 show wpAny _ _ (spliced ((false,eval e X.env) :: backTo pos (starEach es X.env))) _ _ s
 refine Calls.spliced_cons (thn (ha pins s σ H _ I h) fun u s1 ⟨x,H1,I1,r1,q1⟩=>?_)
 exact thn (hr pos pins s1 σ H1 _ I1 q1) fun us s2 ⟨xs,H2,I2,r2,q2⟩=>⟨x :: xs,H2,I2,.cons r1 r2,q2⟩
def tTup (t:TA):TE:=fun σ H Q=>t σ H fun xs H1=>xs.length <= sizeLine /\ ∀ p,H1 p=none -> Q (.ref p) (upd H1 p (.tup xs))
theorem dF {x1} (h:PA X es t):PE X (.Tuple es x1 pos) (tTup t):=by
 intro pins s σ H Q I hq
 refine wpAny_Tuple_spliced (thn (h pos pins s σ H _ I hq) fun us s1 ⟨xs,H1,I1,r,z,q⟩=>⟨by rw [<- r.length]; exact z,?_⟩)
 have hf:H1 s1.heap.objs.size=none:=I1.hok.fresh (Nat.le_refl _)
 refine ⟨.ref s1.heap.objs.size,upd H1 s1.heap.objs.size (.tup xs),I1.laid (t':=s1.toks) (fun b u e=>Heap.get?_push_of_some _ e) (Nat.le_refl _) ?_,rfl,q _ hf⟩
 exact ⟨z,us,r,⟨_,Heap.get?_push_size _ rfl,rfl,_,rfl⟩⟩
end
abbrev Sp:=List V -> Hp -> VK -> XK -> Prop
abbrev CXT:=List Env -> Hp -> Shared -> XK -> Value -> Shared -> Prop
structure nQ (P:Program) (w:World) (K:PySem.W.Frag) (mg:Str -> Option Value) (base:Heap) (A:Around) (outer:List Env) (s:Shared) (H:Hp):Prop where
 frames:A.frames=some outer
 mod:Mod K mg base
 bs:∀ b o,base.get? b=some o -> s.heap.get? b=some o /\ H b=none
 bsz:base.objs.size <= s.heap.objs.size
 funs:s.heap.FunFrames base outer
 frf:∀ b ∈ frs outer,H b=none
 hok:HOk P w H s.heap
 bare:AllBare s.gens
def CE (outer:List Env) (P:Program) (w:World) (H:Hp) (s:Shared) (Q:VK) (u:Value) (s':Shared):Prop :=
 ∃ v H',s'.os=s.os /\ AllBare s'.gens /\ Un (frs outer) [] H H' s.heap s'.heap /\ HOk P w H' s'.heap /\ aY v u /\ Q v H'
def CR (CX:CXT) (outer:List Env) (P:Program) (w:World) (H:Hp) (s:Shared) (Q:VK) (E:XK) (r:Result) (s':Shared):Prop :=
 match r with
 | .ok (.ret u)=>CE outer P w H s Q u s'
 | .ok _=>False
 | .error e=>CX outer H s E e s'
structure aP (P:Program) (w:World) (K:PySem.W.Frag) (mg:Str -> Option Value) (base:Heap) (CX:CXT) (k:Nat) (f:Addr) (fd:FuncData) (ps:List Str) (sp:Sp):Prop where
 len:∀ vs H Q E,sp vs H Q E -> vs.length=ps.length
 run:∀ (A:Around) (outer:List Env) (s:Shared) (H:Hp) (args:Args) (us:List Value) (vs:List V) (Q:VK) (E:XK),bi k A -> nQ P w K mg base A outer s H -> BindsTo s fd args (ps.zip us) -> bh vs us -> sp vs H Q E ->
  codeAny (model P w) A (.call (.ref f) args) (CR CX outer P w H s Q E) s
theorem nQ.make {P:Program} {w:World} {K:PySem.W.Frag} {mg:Str -> Option Value} {base:Heap} {A:Around} {outer:List Env} {s:Shared} {H:Hp} (e:nQ P w K mg base A outer s H) (C:Addr) (us:List Value) (kw:List (Str × Value)) :
  nQ P w K mg base (A.under (.builtin "type.__call__" ⟨.ref C :: us,kw⟩)) outer s H:=⟨by first | exact e.frames | (simpa [Around.under,Code.envs,Code.isFrame,pushEnvs] using e.frames),e.mod,e.bs,e.bsz,e.funs,e.frf,e.hok,e.bare⟩
section
variable {X:Cx} {pins:List (Addr × Obj)} {σ:St} {H:Hp} {s s':Shared}
theorem Inv.env0 (I:Inv X pins σ H s):nQ X.prog X.w X.K X.mg X.base X.A X.stack s H :=
 ⟨I.ok.frames,I.ok.mod,I.bs,Nat.le_trans I.ok.bsz I.sz,I.stack,I.stkFree,I.hok,I.bare⟩
theorem Inv.after {Q:VK} {u:Value} (I:Inv X pins σ H s) (h:CE X.stack X.prog X.w H s Q u s'):EP X pins σ Q u s':=by
 obtain ⟨v,H',os,bare,un,hok,r,q⟩:=h
 obtain ⟨hh,g,d,t,os'⟩:=s'
 obtain rfl:os'=s.os:=os
 exact ⟨v,H',I.call (h':=hh) (g':=g) (d':=d) (t':=t) (ch:=[]) un hok bare (fun b z=>absurd z (by simp)),r,q⟩
end
def jL (sp:Sp) (dvs:List V) (E:XK) (t:TA):TE:=fun σ H Q=>t σ H fun vs H1=>sp (vs ++ dvs) H1 Q E
def pF (C:Addr) (m:Str) (sp:Sp) (dvs:List V) (E:XK) (ta:TE) (t:TA):TE:=fun σ H Q=>ta σ H fun x H1=>∃ a dx fs,x=.ref a /\ H1 a=some (.ins C dx fs) /\ fs.lookup m=none /\
 t σ H1 fun vs H2=>sp (x :: (vs ++ dvs)) H2 Q E
def tMake (C:Addr) (sp:Sp) (dvs:List V) (E:XK) (t:TA):TE:=fun σ H Q=>t σ H fun vs H1=>∀ x dx,H1 x=none -> H1 dx=none -> dx ≠ x ->
 sp (.ref x :: (vs ++ dvs)) (upd (upd H1 dx (.own x)) x (.ins C dx [])) (fun v H2=>v=.non /\ Q (.ref x) H2) E
def dN (K:PySem.W.Frag) (fd:FuncData) (ps:List Str) (ds:List Value):Prop :=
 ∀ (s:Shared) (us:List Value),K.In s.heap -> (us ++ ds).length=ps.length -> BindsTo s fd ⟨us,[]⟩ (ps.zip (us ++ ds))
theorem dN.all {K:PySem.W.Frag} {fd:FuncData} {ps:List Str} (h:∀ us:List Value,us.length=ps.length -> bindArgs fd ⟨us,[]⟩=pure (ps.zip us)):dN K fd ps []:=fun s us _ hl=>by
 rw [List.append_nil] at hl ⊢
 exact .of_eq (h us hl)
def eL (CX:CXT) (X:Cx) (E:XK):Prop:=∀ (pins:List (Addr × Obj)) (σ:St) (H:Hp) (s:Shared) (e:Value) (s':Shared),Inv X pins σ H s -> CX X.stack H s E e s' -> X.xe e s'
section
variable {X:Cx} {CX:CXT} {k:Nat} {f C:Addr} {fd:FuncData} {ps:List Str} {sp:Sp} {dvs:List V} {ds:List Value} {E:XK} {x m:Str} {p pos apos:Pos} {e o:Expr} {es:List Expr} {ta:TE} {t:TA}
theorem nR {pins:List (Addr × Obj)} {σ:St} {H:Hp} {s:Shared} {Q:VK} {us:List Value} {vs:List V} (F:aP X.prog X.w X.K X.mg X.base CX k f fd ps sp) (hr:bi k X.A) (hb:dN X.K fd ps ds) (hd:bh dvs ds) (hx:eL CX X E)
  (I:Inv X pins σ H s) (r:bh vs us) (h:sp (vs ++ dvs) H Q E):wpAny (model X.prog X.w) X.A (call (.ref f) us) (EP X pins σ Q) X.xe s:=by
 have r2:bh (vs ++ dvs) (us ++ ds):=r.append hd
 have hl:(us ++ ds).length=ps.length:=by rw [<- r2.length]; exact F.len _ _ _ _ h
 refine wpAny_call (codeAny_mono (F.run X.A X.stack s H ⟨us,[]⟩ (us ++ ds) (vs ++ dvs) Q E hr I.env0 (hb s us I.kIn hl) r2 h) fun r s' hq=>?_)
 cases r with
 | error e=>exact hx pins σ H s e s' I hq
 | ok fl =>
  cases fl with
  | ret u=>exact I.after hq
  | next=>exact False.elim hq
  | brk=>exact False.elim hq
  | cont=>exact False.elim hq
theorem pG (F:aP X.prog X.w X.K X.mg X.base CX k f fd ps sp) (hr:bi k X.A) (hg:Gl X x) (hm:X.mg x=some (.ref f)) (hk:PySem.W.keepIn X.K (.ref f)=true) (hb:dN X.K fd ps ds) (hd:bh dvs ds) (hx:eL CX X E)
  (ha:PA X (e :: es) t) (hdb:(x == ("__debug__":Str))=false:=by decide) (he:starEach (e :: es) X.env=(false,eval e X.env) :: starEach es X.env:=by rfl) (hpl:(backTo pos (starEach es X.env)).any (·.1)=false:=by rfl) :
  PE X (.Call (.Name x p) (e :: es) [] pos) (jL sp dvs E t):=by
 intro pins s σ H Q I h
 refine wpAny_Call_Name_kw (il I hg hm ?_ hdb)
 refine PySem.W.callWith_K (h₀:=X.base) I.ok.mod.kin hk (thn (ha pos pins s σ H _ I h) fun us s1 ⟨vs,H1,I1,r,q⟩=>⟨I1.kIn,?_⟩) he hpl
 exact nR F hr hb hd hx I1 r q
theorem io {pl:Sem Bool} (he:PE X o ta) (c:Cls X.K C) (hm:nJ X.K C m f) (F:aP X.prog X.w X.K X.mg X.base CX k f fd ps sp) (hr:bi k X.A) (hb:dN X.K fd ps ds) (hd:bh dvs ds) (hx:eL CX X E) (ha:PA X (e :: es) t)
  (hst:starEach (e :: es) X.env=(false,eval e X.env) :: starEach es X.env:=by rfl) (hpl:(backTo pos (starEach es X.env)).any (·.1)=false:=by rfl)
  (ht:eval (.Call (.Attribute o m apos) (e :: es) [] pos) X.env=(do
   let ov <- eval o X.env
   standAt apos.atName
   let (f,first) <- holding [ov] (getMethod ov m pl)
   callWith pos f first (backTo pos (starEach (e :: es) X.env)) (backToKw pos (keywordEach [] X.env))):=by rfl) :
  PE X (.Call (.Attribute o m apos) (e :: es) [] pos) (pF C m sp dvs E ta t):=by
 intro pins s σ H Q I h
 refine PySem.W.methodCall_KW (pl:=pl) (thn (he pins s σ H _ I h) fun u s1 ⟨x,H1,I1,rx,a,dx,fs,ex,ea,l,q⟩=>?_) ht
 subst ex
 obtain rfl:u=Value.ref a:=rx
 refine iN I1 ea c hm l ?_
 refine PySem.W.callWith_K (first:=[.ref a]) (h₀:=X.base) I.ok.mod.kin hm.kp (thn (ha pos pins s1 σ H1 _ I1 q) fun us s2 ⟨vs,H2,I2,r,q2⟩=>⟨I2.kIn,?_⟩) hst hpl
 exact nR (us:=.ref a :: us) (vs:=.ref a :: vs) F hr hb hd hx I2 (.cons rfl r) q2
theorem sL {pl:Sem Bool} (he:PE X o ta) (c:Cls X.K C) (hm:nJ X.K C m f) (F:aP X.prog X.w X.K X.mg X.base CX k f fd ps sp) (hr:bi k X.A) (hb:dN X.K fd ps ds) (hd:bh dvs ds) (hx:eL CX X E)
  (ht:eval (.Call (.Attribute o m apos) [] [] pos) X.env=(do
   let ov <- eval o X.env
   standAt apos.atName
   let (f,first) <- holding [ov] (getMethod ov m pl)
   callWith pos f first (backTo pos (starEach [] X.env)) (backToKw pos (keywordEach [] X.env))):=by rfl) :
  PE X (.Call (.Attribute o m apos) [] [] pos) (pF C m sp dvs E ta mj):=by
 intro pins s σ H Q I h
 refine PySem.W.methodCall_KW (pl:=pl) (thn (he pins s σ H _ I h) fun u s1 ⟨x,H1,I1,rx,a,dx,fs,ex,ea,l,q⟩=>?_) ht
 subst ex
 obtain rfl:u=Value.ref a:=rx
 refine iN I1 ea c hm l ?_
 exact PySem.W.callWith_K0 (first:=[.ref a]) I1.kIn hm.kp (nR (us:=[.ref a]) (vs:=[.ref a]) F hr hb hd hx I1 (.cons rfl .nil) q)
structure Mk (K:PySem.W.Frag) (C f:Addr):Prop where
 makes:PySem.W.makesIn K C=true
 init:PySem.W.findIn K (.ref C) "__init__"=some (some (.ref f))
 fn:PySem.W.isFn K (.ref f)=true
 kp:PySem.W.keepIn K (.ref C)=true
theorem sM {pins:List (Addr × Obj)} {σ:St} {H:Hp} {s:Shared} {Q:VK} {us:List Value} {vs:List V} (M:Mk X.K C f) (F:aP X.prog X.w X.K X.mg X.base CX k f fd ps sp) (hr:bi (k + 1) X.A) (hb:dN X.K fd ps ds) (hd:bh dvs ds)
  (hx:eL CX X E) (I:Inv X pins σ H s) (r:bh vs us)
  (h:∀ x dx,H x=none -> H dx=none -> dx ≠ x -> sp (.ref x :: (vs ++ dvs)) (upd (upd H dx (.own x)) x (.ins C dx [])) (fun v H2=>v=.non /\ Q (.ref x) H2) E) :
  wpAny (model X.prog X.w) X.A (call (.ref C) us) (EP X pins σ Q) X.xe s:=by
 have hq:=h (s.heap.objs.size + 1) s.heap.objs.size (I.hok.fresh (Nat.le_succ _)) (I.hok.fresh (Nat.le_refl _)) (Nat.ne_of_lt (Nat.lt_succ_self _))
 have I2:=Inv.made (C:=C) I
 have r2:bh (V.ref (s.heap.objs.size + 1) :: (vs ++ dvs)) (Value.ref (s.heap.objs.size + 1) :: (us ++ ds)):=.cons rfl (r.append hd)
 have hl:(Value.ref (s.heap.objs.size + 1) :: us ++ ds).length=ps.length:=by
  have e:=r2.length
  rw [F.len _ _ _ _ hq] at e
  exact e.symm
 refine wpAny_call (sK (f:=f) I.kIn M.makes M.init (beq_iff_eq.mp M.fn) (codeAny_mono (F.run _ X.stack _ _ ⟨Value.ref (s.heap.objs.size + 1) :: us,[]⟩ (Value.ref (s.heap.objs.size + 1) :: (us ++ ds)) _ _ E (hr.make C us [])
  (I2.env0.make C us []) (hb _ (Value.ref (s.heap.objs.size + 1) :: us) I2.kIn hl) r2 hq) fun r s' hq'=>?_))
 cases r with
 | error e=>exact hx pins σ _ _ e s' I2 hq'
 | ok fl =>
  cases fl with
  | ret u =>
   obtain ⟨v,H',I3,rv,ev,q3⟩:=I2.after hq'
   subst ev
   exact ⟨rv,⟨V.ref (s.heap.objs.size + 1),H',I3,rfl,q3⟩⟩
  | next=>exact False.elim hq'
  | brk=>exact False.elim hq'
  | cont=>exact False.elim hq'
theorem pe_make (M:Mk X.K C f) (F:aP X.prog X.w X.K X.mg X.base CX k f fd ps sp) (hr:bi (k + 1) X.A) (hg:Gl X x) (hm:X.mg x=some (.ref C)) (hb:dN X.K fd ps ds) (hd:bh dvs ds) (hx:eL CX X E)
  (ha:PA X (e :: es) t) (hdb:(x == ("__debug__":Str))=false:=by decide) (he:starEach (e :: es) X.env=(false,eval e X.env) :: starEach es X.env:=by rfl) (hpl:(backTo pos (starEach es X.env)).any (·.1)=false:=by rfl) :
  PE X (.Call (.Name x p) (e :: es) [] pos) (tMake C sp dvs E t):=by
 intro pins s σ H Q I h
 refine wpAny_Call_Name_kw (il I hg hm ?_ hdb)
 refine PySem.W.callWith_K (h₀:=X.base) I.ok.mod.kin M.kp (thn (ha pos pins s σ H _ I h) fun us s1 ⟨vs,H1,I1,r,q⟩=>⟨I1.kIn,?_⟩) he hpl
 exact sM M F hr hb hd hx I1 r q
end
def PK (X:Cx) (kws:List Keyword) (t:TA):Prop :=
 ∀ (pos:Pos) (pins:List (Addr × Obj)) (s:Shared) (σ:St) (H:Hp) (Q:List V -> Hp -> Prop),Inv X pins σ H s -> t σ H Q -> wpAny (model X.prog X.w) X.A (evalAll ((backToKw pos (keywordEach kws X.env)).map (·.2))) (AP X pins σ Q) X.xe s
section
variable {X:Cx} {CX:CXT} {k:Nat} {f C:Addr} {fd:FuncData} {ps ks:List Str} {sp:Sp} {E:XK} {x m:Str} {p pos apos kpos:Pos} {e o:Expr} {es:List Expr} {kws:List Keyword} {te ta:TE} {t tk:TA} {nm:Option Str}
theorem pk_nil:PK X [] mj:=fun _ _ _ _ H Q I h=>wpAny_evalAll_nil ⟨[],H,I,.nil,h⟩
theorem pk_cons (ha:PE X e te) (hr:PK X kws t):PK X (⟨nm,e,kpos⟩ :: kws) (dM te t):=by
 intro pos pins s σ H Q I h
 show wpAny _ _ (evalAll ((do let v <- eval e X.env; standAt pos; pure v) :: (backToKw pos (keywordEach kws X.env)).map (·.2))) _ _ s
 refine wpAny_evalAll_cons (wpAny_bind (thn (ha pins s σ H _ I h) fun u s1 ⟨x,H1,I1,r1,q1⟩=>wpAny_bind (wpAny_standAt (wpAny_pure ?_))))
 exact thn (hr pos pins s1 σ H1 _ I1 q1) fun us s2 ⟨xs,H2,I2,r2,q2⟩=>⟨x :: xs,H2,I2,.cons r1 r2,q2⟩
variable {g:List Value -> List Value -> List Value} {gV:List V -> List V -> List V}
end
structure ax (N P:List Str) (sc:Scope):Prop where
 kind:sc.kind=.function
 co:sc.isCoroutine=false
 gen:sc.isGenerator=false
 nd:N.Nodup
 pre:N.take P.length=P
 par:∀ x ∈ P,sc.names.lookup x=some .local \/ sc.names.lookup x=some .cell
 nofree:∀ y ∈ sc.names,y.2 ≠ .free
theorem fsc {N P:List Str} {sc:Scope} (h:sc.kind=.function /\ sc.isCoroutine=false /\ sc.isGenerator=false /\ N.Nodup /\ N.take P.length=P /\ (∀ x ∈ P,sc.names.lookup x=some .local \/ sc.names.lookup x=some .cell) /\ ∀ y ∈ sc.names,y.2 ≠ .free):ax N P sc:=⟨h.1,h.2.1,h.2.2.1,h.2.2.2.1,h.2.2.2.2.1,h.2.2.2.2.2.1,h.2.2.2.2.2.2⟩
theorem jM {kindOf:Str -> Option NameKind} {x:Str}:∀ {binds:List (Str × Value)} {m:Str -> Option Value},(∀ v,(x,v) ∉ binds) -> bindL kindOf binds m x=m x
 | [],_,_=>rfl
 | (n,v) :: r,m,h=>by
  unfold bindL
  rw [jM fun w hw=>h w (List.mem_cons_of_mem _ hw)]
  split
  ·have:x ≠ n:=by rintro rfl; exact h v List.mem_cons_self
   simp [this]
  ·rfl
theorem jN {kindOf:Str -> Option NameKind} {x:Str}:∀ {binds:List (Str × Value)} {m:Str -> Option Value},(∀ v,(x,v) ∉ binds) -> bindC kindOf binds m x=m x
 | [],_,_=>rfl
 | (n,v) :: r,m,h=>by
  unfold bindC
  rw [jN fun w hw=>h w (List.mem_cons_of_mem _ hw)]
  split
  ·rfl
  ·have:x ≠ n:=by rintro rfl; exact h v List.mem_cons_self
   simp [this]
theorem jO {kindOf:Str -> Option NameKind} {x:Str} {v:Value}:∀ {P:List Str} {vs:List Value} {i:Nat} {m:Str -> Option Value},P.Nodup -> P[i]?=some x -> vs[i]?=some v -> kindOf x=some .local ->
  bindL kindOf (P.zip vs) m x=some v
 | [],_,_,_,_,h,_,_=>by simp at h
 | _ :: _,[],_,_,_,_,h,_=>by simp at h
 | p :: P,w :: vs,0,m,nd,h1,h2,hk=>by
  simp at h1 h2; subst h1; subst h2
  show bindL kindOf ((p,w) :: P.zip vs) m p=_
  unfold bindL
  rw [jM fun v hv=>(List.nodup_cons.mp nd).1 (List.of_mem_zip hv).1,if_pos hk]
  simp
 | p :: P,w :: vs,i + 1,m,nd,h1,h2,hk=>by
  show bindL kindOf ((p,w) :: P.zip vs) m x=_
  unfold bindL
  exact jO (i:=i) (List.nodup_cons.mp nd).2 (by simpa using h1) (by simpa using h2) hk
theorem jP {kindOf:Str -> Option NameKind} {x:Str} {v:Value}:∀ {P:List Str} {vs:List Value} {i:Nat} {m:Str -> Option Value},P.Nodup -> P[i]?=some x -> vs[i]?=some v -> kindOf x ≠ some .local ->
  bindC kindOf (P.zip vs) m x=some v
 | [],_,_,_,_,h,_,_=>by simp at h
 | _ :: _,[],_,_,_,_,h,_=>by simp at h
 | p :: P,w :: vs,0,m,nd,h1,h2,hk=>by
  simp at h1 h2; subst h1; subst h2
  show bindC kindOf ((p,w) :: P.zip vs) m p=_
  unfold bindC
  rw [jN fun v hv=>(List.nodup_cons.mp nd).1 (List.of_mem_zip hv).1,if_neg hk]
  simp
 | p :: P,w :: vs,i + 1,m,nd,h1,h2,hk=>by
  show bindC kindOf ((p,w) :: P.zip vs) m x=_
  unfold bindC
  exact jP (i:=i) (List.nodup_cons.mp nd).2 (by simpa using h1) (by simpa using h2) hk
def eX (N:List Str) (vs:List V):St:=vs.map some ++ List.replicate (N.length - vs.length) none
def bj (CX:CXT) (P:Program) (w:World) (K:PySem.W.Frag) (mg:Str -> Option Value) (base:Heap) (N:List Str) (qual:Str) (scope:Scope) (f:Addr) (cd:Value) (A:Around) (outer:List Env) (s:Shared) (H:Hp) (E:XK):Cx where
 prog:=P
 w:=w
 K:=K
 mg:=mg
 base:=base
 A:=A.deeper (envOfC qual scope s.heap.objs.size f cd)
 N:=N
 s₀:=s
 H₀:=H
 env:=envOfC qual scope s.heap.objs.size f cd
 outer:=outer
 stack:=envOfC qual scope s.heap.objs.size f cd :: outer
 ex:=[]
 calm:=true
 fn:=fun _=>true
 pn:=[]
 xe:=fun e s'=>wpAny (model P w) (A.deeper (envOfC qual scope s.heap.objs.size f cd)) (leaving (envOfC qual scope s.heap.objs.size f cd) e) (fun _ s''=>CX outer H s E e s'') (fun e' s''=>CX outer H s E e' s'') s'
theorem mm {sc:Scope} {n:Nat} {x:Str} (h:sc.names.lookup x=some .cell):∃ c,(cellsFrom n sc.names []).lookup x=some c:=by
 have q:=PySem.W.cellsFrom_some sc.names n [] (.inl h)
 exact Option.isSome_iff_exists.mp q
theorem qC {CX:CXT} {P:Program} {w:World} {K:PySem.W.Frag} {mg:Str -> Option Value} {base:Heap} {N ps:List Str} {qual:Str} {scope:Scope} {f:Addr} {cd:Value} {A:Around} {outer:List Env} {s s1:Shared} {H:Hp} {E:XK} {us:List Value} {vs:List V}
  (S:ax N ps scope) (hd:A.handled=none) (e0:nQ P w K mg base A outer s H) (hl:vs.length=ps.length) (r:bh vs us)
  (x:InCallC s s.heap.objs.size (bindL (envOfC qual scope s.heap.objs.size f cd).kindOf (ps.zip us) fun _=>none) (cellsFrom (s.heap.objs.size + 1) scope.names []) (bindC (envOfC qual scope s.heap.objs.size f cd).kindOf (ps.zip us) fun _=>none) s1) :
  Inv (bj CX P w K mg base N qual scope f cd A outer s H E) [] (eX N vs) H s1:=by
 have hpl:ps.length <= N.length:=by have:=congrArg List.length S.pre; rw [List.length_take] at this; lia
 obtain ⟨h1,tk,rfl,hk⟩:=x.done
 have noA:∀ b:Addr,b ∉ (bj CX P w K mg base N qual scope f cd A outer s H E).ex:=fun b z=>absurd (show b ∈ ([]:List Addr) from z) (by simp)
 refine ⟨⟨e0.mod,S.kind,rfl,rfl,Nat.le_refl _,fun y z c h1 h2=>?_,fun y hy=>?_,fun y c _ h=>?_,fun _=>hd,Around.frames_deeper e0.frames,.inr ⟨rfl,rfl⟩,fun b z=>absurd z (noA b),e0.bs,e0.bsz,fun b _ _=>noA b,fun b z=>absurd z (noA b),e0.funs,e0.frf⟩,
  rfl,e0.bare,Un.kept hk,⟨_,x.toInCall.ns,fun i y v h1 h2 h3=>?_⟩,fun y c h=>⟨_,x.cell y c h⟩,e0.hok.fresh (Nat.le_refl _),fun y c h=>?_,fun p hp=>absurd (show p ∈ ([]:List (Addr × Obj)) from hp) (by simp),e0.hok.kept hk,?_⟩
 ·exact name_of_addr x.apart (PySem.mem_of_lookup h1) (PySem.mem_of_lookup h2)
 ·have hy:scope.names.lookup y=some .cell \/ scope.names.lookup y=some .free:=hy
  rcases hy with hy | hy
  ·exact mm hy
  ·exact absurd rfl (S.nofree _ (PySem.mem_of_lookup hy))
 ·exact Nat.le_of_lt (x.above y c (PySem.mem_of_lookup h))
 ·have hi:i < vs.length:=by
   unfold eX at h2
   by_cases hi:i < vs.length
   ·exact hi
   ·rw [List.getElem?_append_right (by simpa using hi)] at h2
    rw [List.getElem?_replicate] at h2
    split at h2 <;> cases h2
  have ha:vs[i]?=some v:=by
   unfold eX at h2
   rw [List.getElem?_append_left (by simpa using hi),List.getElem?_map] at h2
   cases e:vs[i]? with
   | none=>rw [e] at h2; cases h2
   | some a=>rw [e] at h2; cases h2; rfl
  obtain ⟨u,hu,rv⟩:=r.get ha
  have hp:ps[i]?=some y:=by
   rw [<- S.pre,List.getElem?_take_of_lt (by lia)]; exact h1
  have ndP:ps.Nodup:=by rw [<- S.pre]; exact S.nd.sublist (List.take_sublist _ _)
  refine ⟨u,rv,?_⟩
  rcases S.par y (List.mem_of_getElem? hp) with k | k
  ·exact .inl ⟨k,jO ndP hp hu k⟩
  ·obtain ⟨c,e⟩:=mm (n:=s.heap.objs.size + 1) k
   refine .inr ⟨.inl k,c,e,?_⟩
   have q:=x.cell y c e
   rw [jP ndP hp hu (by show scope.names.lookup y ≠ _; rw [k]; decide)] at q
   exact q
 ·exact e0.hok.fresh (Nat.le_of_lt (x.above y c (PySem.mem_of_lookup h)))
 ·unfold eX
  show _=N.length
  rw [List.length_append,List.length_map,List.length_replicate]
  lia
theorem fn_of {CX:CXT} {P:Program} {w:World} {K:PySem.W.Frag} {mg:Str -> Option Value} {base:Heap} {k:Nat} {f:Addr} {name qual:Str} {params:Arguments} {body:List Stmt} {scope:Scope} {dV kV doc pm cdv ct oc:Value} {an od:Option Addr}
  {osl:Array (Option Value)} {N ps:List Str} {sp:Sp} (lk:K.lookup f=some ⟨oc,od,.func (PySem.W.fnOf name qual params body scope dV kV doc pm an cdv ct),osl⟩) (hcd:PySem.W.codeIn K cdv qual=true) (S:ax N ps scope)
  (len:∀ vs H Q E,sp vs H Q E -> vs.length=ps.length)
  (hbody:∀ (A:Around) (outer:List Env) (s:Shared) (H:Hp) (vs:List V) (Q:VK) (E:XK),bi k (A.deeper (envOfC qual scope s.heap.objs.size f cdv)) -> sp vs H Q E ->
   ∃ t,PSs (bj CX P w K mg base N qual scope f cdv A outer s H E) body t /\ t { nx:=fun _ H'=>Q .non H',rt:=Q } (eX N vs) H) :
  aP P w K mg base CX (k + 1) f (PySem.W.fnOf name qual params body scope dV kV doc pm an cdv ct) ps sp:=by
 refine ⟨len,fun A outer s H args us vs Q E hr e0 hb r hsp=>?_⟩
 have hl:=len _ _ _ _ hsp
 have KX:K.In s.heap:=e0.mod.kin.keeps fun b o e=>(e0.bs b o e).1
 have lim:s.heap.NoLimit:=e0.mod.nolimit.keeps fun b o e=>(e0.bs b o e).1
 have hkind:∀ y ∈ ps.zip us,scope.names.lookup y.1=some .local \/ (scope.names.lookup y.1=some .cell /\ ((cellsFrom (s.heap.objs.size + 1) scope.names []).lookup y.1).isSome=true):=fun ⟨n,v⟩ hy=>by
  rcases S.par n (List.of_mem_zip hy).1 with q | q
  ·exact .inl q
  ·exact .inr ⟨q,PySem.W.cellsFrom_some _ _ _ (.inl q)⟩
 refine codeAny_call_function hr.depth (KX _ _ lk) rfl S.co S.gen rfl (PySem.W.codeRec_of KX hcd) (hb _ _ _ _ ?_)
 refine wpAny_newFunctionEnv_cells S.kind hkind fun env he s1 x=>?_
 subst he
 refine ⟨lim.keeps x.toInCall.keep,codeAny_func ?_⟩
 obtain ⟨t,ht,hq⟩:=hbody A outer s H vs Q E (hr.deeper _) hsp
 have I:Inv (bj CX P w K mg base N qual scope f cdv A outer s H E) [] (eX N vs) H s1:=qC S hr.hd e0 hl r x
 refine wpAny_mono (ht [] s1 (eX N vs) H _ I hq) (fun fl s' hs=>?_) fun e s' hs=>hs
 have fin:∀ {σ':St} {H':Hp} {v:V} {u:Value},Inv (bj CX P w K mg base N qual scope f cdv A outer s H E) [] σ' H' s' -> aY v u -> Q v H' -> CE outer P w H s Q u s' :=
  fun {σ' H' v u} J rv q=>⟨v,H',J.os,J.bare,J.base,J.hok,rv,q⟩
 cases fl with
 | ret u =>
  obtain ⟨v,σ',H',J,rv,q⟩:=hs
  exact fin J rv q
 | next =>
  obtain ⟨σ',H',J,q⟩:=hs
  exact fin (v:=V.non) (u:=Value.none) J rfl q
 | brk =>
  obtain ⟨_,_,_,q⟩:=hs
  exact False.elim q
 | cont =>
  obtain ⟨_,_,_,q⟩:=hs
  exact False.elim q
section
variable {X:Cx} {x:Str} {p pos:Pos} {e:Expr} {es:List Expr} {t:TA} {id T:String} {r:List V -> Hp -> VK -> Prop}
def tCB (r:List V -> Hp -> VK -> Prop) (t:TA):TE:=fun σ H Q=>t σ H fun vs H1=>r vs H1 Q
theorem aA (hc:cU X (.builtin id) r) (hg:Gl X x) (hm:X.mg x=none) (hv:bootBuiltins x=some (.builtin id)) (ha:PA X (e :: es) t) (hn:x ≠ "__name__":=by decide) (hdb:(x == ("__debug__":Str))=false:=by decide)
  (he:starEach (e :: es) X.env=(false,eval e X.env) :: starEach es X.env:=by rfl) (hpl:(backTo pos (starEach es X.env)).any (·.1)=false:=by rfl):PE X (.Call (.Name x p) (e :: es) [] pos) (tCB r t):=by
 intro pins s σ H Q I h
 refine wpAny_Call_Name_kw (fR I hg hm hv ?_ hn hdb)
 exact PyProof.Rows.callWith_builtin1 (thn (ha pos pins s σ H _ I h) fun us s1 ⟨vs,H1,I1,r1,q1⟩=>hc pins s1 σ H1 vs us Q I1 r1 q1) he hpl
theorem bc (hc:cU X (.type T) r) (hg:Gl X x) (hm:X.mg x=none) (hv:bootBuiltins x=some (.type T)) (ha:PA X (e :: es) t) (hn:x ≠ "__name__":=by decide) (hdb:(x == ("__debug__":Str))=false:=by decide)
  (he:starEach (e :: es) X.env=(false,eval e X.env) :: starEach es X.env:=by rfl) (hpl:(backTo pos (starEach es X.env)).any (·.1)=false:=by rfl):PE X (.Call (.Name x p) (e :: es) [] pos) (tCB r t):=by
 intro pins s σ H Q I h
 refine wpAny_Call_Name_kw (fR I hg hm hv ?_ hn hdb)
 exact PyProof.Rows.callWith_type1 (thn (ha pos pins s σ H _ I h) fun us s1 ⟨vs,H1,I1,r1,q1⟩=>hc pins s1 σ H1 vs us Q I1 r1 q1) he hpl
end
section
variable {κ:Type} [DecidableEq κ]
def bG (kvs:List (κ × V)) (k:κ):Option V:=(kvs.find? fun kv=>decide (kv.1=k)).map (·.2)
def bX (kvs:List (κ × V)) (k:κ) (v:V):List (κ × V) :=
 if (kvs.any fun kv=>decide (kv.1=k))=true then kvs.map (fun kv=>if kv.1=k then (kv.1,v) else kv) else kvs ++ [(k,v)]
def di (kvs:List (κ × V)) (k:κ):List (κ × V):=kvs.filter fun kv=>decide (kv.1 ≠ k)
theorem cc {p:κ × V} {r:List (κ × V)} {k:κ} (e:p.1=k):bG (p :: r) k=some p.2:=by simp [bG,List.find?_cons,e]
theorem bT {p:κ × V} {r:List (κ × V)} {k:κ} (e:¬ p.1=k):bG (p :: r) k=bG r k:=by simp [bG,List.find?_cons,e]
theorem eY (k:κ):∀ kvs:List (κ × V),(kvs.any fun kv=>decide (kv.1=k))=(bG kvs k).isSome
 | []=>rfl
 | p :: r=>by
  rw [List.any_cons]
  by_cases e:p.1=k
  ·simp only [cc e,decide_eq_true e,Bool.true_or,Option.isSome_some]
  ·rw [bT e,decide_eq_false e,Bool.false_or]; exact eY k r
theorem mn (k j:κ) (y:V):∀ kvs:List (κ × V),bG (kvs.map fun kv=>if kv.1=k then (kv.1,y) else kv) j=(bG kvs j).map fun x=>if j=k then y else x
 | []=>rfl
 | p :: r=>by
  have ih:=mn k j y r
  rw [List.map_cons]
  by_cases h:p.1=k
  ·rw [if_pos h]
   by_cases e:p.1=j
   ·rw [cc (p:=(p.1,y)) e,cc e,Option.map_some,if_pos (e.symm.trans h)]
   ·rw [bT (p:=(p.1,y)) e,bT e,ih]
  ·rw [if_neg h]
   by_cases e:p.1=j
   ·rw [cc (p:=p) e,cc e,Option.map_some,if_neg (fun z=>h (e.trans z))]
   ·rw [bT (p:=p) e,bT e,ih]
theorem jQ (k j:κ) (y:V):∀ kvs:List (κ × V),bG kvs k=none -> bG (kvs ++ [(k,y)]) j=if j=k then some y else bG kvs j
 | [],_=>by
  by_cases e:k=j
  ·rw [if_pos e.symm]; exact cc (p:=(k,y)) e
  ·rw [if_neg (fun z=>e z.symm)]; exact bT (p:=(k,y)) e
 | p :: r,hn=>by
  rw [List.cons_append]
  have hk:¬ p.1=k:=fun z=>by rw [cc z] at hn; cases hn
  rw [bT hk] at hn
  have ih:=jQ k j y r hn
  by_cases e:p.1=j
  ·rw [cc e,cc e,if_neg (fun z=>hk (e.trans z))]
  ·rw [bT e,bT e,ih]
theorem gc (kvs:List (κ × V)) (k j:κ) (y:V):bG (bX kvs k y) j=if j=k then some y else bG kvs j:=by
 unfold bX
 by_cases a:(kvs.any fun kv=>decide (kv.1=k))=true
 ·rw [if_pos a,mn]
  rw [eY] at a
  by_cases e:j=k
  ·obtain ⟨x,hx⟩:=Option.isSome_iff_exists.mp a
   rw [if_pos e,e,hx,Option.map_some,if_pos rfl]
  ·rw [if_neg e]
   cases bG kvs j with
   | none=>rfl
   | some x=>rw [Option.map_some,if_neg e]
 ·rw [if_neg a]
  refine jQ k j y kvs ?_
  rw [eY] at a
  cases q:bG kvs k with
  | none=>rfl
  | some x=>rw [q] at a; exact (a rfl).elim
theorem dj (kvs:List (κ × V)) (k:κ) (v:V):(bX kvs k v).length <= kvs.length + 1:=by
 unfold bX
 split
 ·rw [List.length_map]; lia
 ·rw [List.length_append,List.length_cons,List.length_nil]; lia
theorem ej.isSome_eq {o:Option V} {u:Option Value} (r:ej o u):o.isSome=u.isSome:=by
 cases o with
 | none=>cases u with
  | none=>rfl
  | some _=>exact (show False from r).elim
 | some _=>cases u with
  | none=>exact (show False from r).elim
  | some _=>rfl
theorem ej.getD {o:Option V} {u:Option Value} {d:V} {d':Value} (r:ej o u) (rd:aY d d'):aY (o.getD d) (u.getD d'):=by
 cases o with
 | none=>cases u with
  | none=>exact rd
  | some _=>exact (show False from r).elim
 | some _=>cases u with
  | none=>exact (show False from r).elim
  | some _=>exact r
theorem KV.val {kvs:List (κ × V)} {vs:List (κ × Value)} (r:KV kvs vs) (k:κ):ej (bG kvs k) (valueAt vs k):=by
 unfold KV at r
 induction r with
 | nil=>exact True.intro
 | @cons p q ps qs h t ih =>
  obtain ⟨h1,h2⟩:=h
  by_cases e:p.1=k
  ·have e':q.1=k:=h1.symm.trans e
   have b:valueAt (q :: qs) k=some q.2:=by simp [valueAt,List.find?_cons,e']
   rw [cc e,b]; exact h2
  ·have e':¬ q.1=k:=fun z=>e (h1.trans z)
   have b:valueAt (q :: qs) k=valueAt qs k:=by simp [valueAt,List.find?_cons,e']
   rw [bT e,b]; exact ih
theorem KV.any {kvs:List (κ × V)} {vs:List (κ × Value)} (r:KV kvs vs) (k:κ):(kvs.any fun kv=>decide (kv.1=k))=vs.any fun kv=>decide (kv.1=k):=by
 unfold KV at r
 induction r with
 | nil=>rfl
 | cons h t ih=>rw [List.any_cons,List.any_cons,ih,h.1]
theorem KV.repl {kvs:List (κ × V)} {vs:List (κ × Value)} (r:KV kvs vs) (k:κ) {y:V} {u:Value} (ry:aY y u) :
  KV (kvs.map fun kv=>if kv.1=k then (kv.1,y) else kv) (vs.map fun kv=>if kv.1=k then (kv.1,u) else kv):=by
 unfold KV at r ⊢
 induction r with
 | nil=>exact .nil
 | @cons p q ps qs h t ih =>
  rw [List.map_cons,List.map_cons]
  refine .cons ?_ ih
  obtain ⟨h1,h2⟩:=h
  by_cases e:p.1=k
  ·rw [if_pos e,if_pos (h1.symm.trans e)]; exact ⟨h1,ry⟩
  ·rw [if_neg e,if_neg (fun z=>e (h1.trans z))]; exact ⟨h1,h2⟩
theorem KV.put {kvs:List (κ × V)} {vs:List (κ × Value)} (r:KV kvs vs) (k:κ) {y:V} {u:Value} (ry:aY y u):KV (bX kvs k y) (stored vs k u):=by
 unfold bX stored
 rw [r.any k]
 by_cases e:(vs.any fun kv=>decide (kv.1=k))=true
 ·rw [if_pos e,if_pos e]; exact r.repl k ry
 ·rw [if_neg e,if_neg e]; exact Paired.snoc r ⟨rfl,ry⟩
theorem KV.drop {kvs:List (κ × V)} {vs:List (κ × Value)} (r:KV kvs vs) (k:κ):KV (di kvs k) (without vs k):=by
 unfold KV at r ⊢
 unfold di without
 induction r with
 | nil=>exact .nil
 | @cons p q ps qs h t ih =>
  obtain ⟨h1,h2⟩:=h
  rw [List.filter_cons,List.filter_cons]
  by_cases e:p.1=k
  ·have a:¬ decide (p.1 ≠ k)=true:=by simp [e]
   have b:¬ decide (q.1 ≠ k)=true:=by simp [h1.symm.trans e]
   rw [if_neg a,if_neg b]; exact ih
  ·have e':¬ q.1=k:=fun z=>e (h1.trans z)
   have a:decide (p.1 ≠ k)=true:=by simp [e]
   have b:decide (q.1 ≠ k)=true:=by simp [e']
   rw [if_pos a,if_pos b]; exact .cons ⟨h1,h2⟩ ih
theorem KV.length {kvs:List (κ × V)} {vs:List (κ × Value)} (r:KV kvs vs):kvs.length=vs.length:=Paired.length r
theorem sN (kvs:List (κ × V)) (k:κ):(di kvs k).length <= kvs.length:=List.length_filter_le _ _
end
theorem eQ {P:Program} {w:World} {k:Key} {u:Value} (r:aY (kV k) u):(bo P w).is k u=true:=by
 cases k with
 | inl i=>obtain ⟨t,e⟩:=(show ∃ t,u=Value.int i t from r); subst e; exact lX P w i t
 | inr x=>obtain ⟨t,e⟩:=(show ∃ t,u=Value.str x t from r); subst e; exact lY P w x t
theorem jR {P:Program} {w:World}:∀ {ks:List Key} {us:List Value},bh (ks.map kV) us -> ItemsAre (bo P w) ks us
 | [],_,r=>by rw [List.map_nil] at r; cases r; exact .nil
 | k :: ks,_,r=>by
  rw [List.map_cons] at r
  cases r with
  | cons h t=>exact .cons (eQ h) (jR t)
abbrev KT (H:Hp):List (List Key × V) -> List (List Key × Addr × Value) -> Prop:=Paired fun p q=>p.1=q.1 /\ H q.2.1=some (.tup (p.1.map kV)) /\ aY p.2 q.2.2
theorem KT.val {H:Hp} {kvs:List (List Key × V)} {xs:List (List Key × Addr × Value)} (r:KT H kvs xs) (k:List Key):ej (bG kvs k) ((atKey xs k).map (·.2)):=by
 induction r with
 | nil=>exact True.intro
 | @cons p q ps qs h t ih =>
  obtain ⟨h1,_,h2⟩:=h
  by_cases e:p.1=k
  ·have e':q.1=k:=h1.symm.trans e
   have b:atKey (q :: qs) k=some q.2:=by simp [atKey,List.find?_cons,e']
   rw [cc e,b]; exact h2
  ·have e':¬ q.1=k:=fun z=>e (h1.trans z)
   have b:atKey (q :: qs) k=atKey qs k:=by simp [atKey,List.find?_cons,e']
   rw [bT e,b]; exact ih
theorem KT.repl {H:Hp} {kvs:List (List Key × V)} {xs:List (List Key × Addr × Value)} (r:KT H kvs xs) (k:List Key) {y:V} {u:Value} (ry:aY y u) :
  KT H (kvs.map fun kv=>if kv.1=k then (kv.1,y) else kv) (xs.map (putAt k u)):=by
 induction r with
 | nil=>exact .nil
 | @cons p q ps qs h t ih =>
  rw [List.map_cons,List.map_cons]
  refine .cons ?_ ih
  obtain ⟨h1,h2,h3⟩:=h
  unfold putAt
  by_cases e:p.1=k
  ·rw [if_pos e,if_pos (h1.symm.trans e)]; exact ⟨h1,h2,ry⟩
  ·rw [if_neg e,if_neg (fun z=>e (h1.trans z))]; exact ⟨h1,h2,h3⟩
theorem KT.put {H:Hp} {kvs:List (List Key × V)} {xs:List (List Key × Addr × Value)} (r:KT H kvs xs) (k:List Key) {b:Addr} {y:V} {u:Value} (hb:H b=some (.tup (k.map kV))) (ry:aY y u) :
  KT H (bX kvs k y) (storedH xs k b u):=by
 have e:(kvs.any fun kv=>decide (kv.1=k))=(atKey xs k).isSome:=by
  rw [eY,(r.val k).isSome_eq,Option.isSome_map]
 unfold bX storedH
 rw [e]
 by_cases q:(atKey xs k).isSome=true
 ·rw [if_pos q,if_pos q]; exact r.repl k ry
 ·rw [if_neg q,if_neg q]; exact Paired.snoc r ⟨rfl,hb,ry⟩
theorem KT.keeps {H H':Hp} {kvs:List (List Key × V)} {xs:List (List Key × Addr × Value)} (r:KT H kvs xs) (ht:∀ b ys,H b=some (.tup ys) -> H' b=some (.tup ys)):KT H' kvs xs :=
 Paired.mapP r fun _ _ z=>⟨z.1,ht _ _ z.2.1,z.2.2⟩
section
variable {P:Program} {w:World} {H:Hp} {h:Heap} {a:Addr}
theorem rd_of {u:HO} (ok:HOk P w H h) (e:Rd H a u):ck P w H h a u:=e.ok ok
theorem iO {kvs:List (Key × V)} (ok:HOk P w H h) (e:Rd H a (.dK kvs)):kvs.length <= sizeLine /\ (a == sysModules)=false /\ ∃ vs,KV kvs vs /\ h.DictOf (bo P w) a vs :=
 show ck P w H h a (.dK kvs) from rd_of ok e
theorem mq {kvs:List (Key × V)} (ok:HOk P w H h) (e:H a=some (.dK kvs)):kvs.length <= sizeLine /\ (a == sysModules)=false /\ ∃ vs,KV kvs vs /\ h.DictOf (bo P w) a vs:=iO ok (.inl e)
theorem gD {ks:List Key} (ok:HOk P w H h) (e:H a=some (.tup (ks.map kV))):(tupleKind (bo P w)).is h ks a:=by
 obtain ⟨_,its,r,o,h1,h2,n,h3⟩:=(show ck P w H h a (.tup (ks.map kV)) from ok a _ e)
 exact ⟨o,its.toArray,n,h1,h2,h3,by simpa using jR r⟩
theorem iP {kvs:List (List Key × V)} (ok:HOk P w H h) (e:Rd H a (.dT kvs)):kvs.length <= sizeLine /\ (a == sysModules)=false /\
  ∃ xs,KT H kvs xs /\ h.DictOfH (tupleKind (bo P w)) a xs:=by
 obtain ⟨z,y,xs,r,o,es,ep,h1,h2,h3,h4,h5⟩:=(show ck P w H h a (.dT kvs) from rd_of ok e)
 refine ⟨z,y,xs,r,o,es,ep,h1,h2,h3,h4,fun x hx=>?_,h5⟩
 have all:∀ {l:List (List Key × V)} {m:List (List Key × Addr × Value)},KT H l m -> ∀ x ∈ m,(tupleKind (bo P w)).is h x.1 x.2.1:=by
  intro l m q
  induction q with
  | nil=>intro x hx; exact nomatch hx
  | @cons p q ps qs hq t ih =>
   intro x hx
   rcases List.mem_cons.mp hx with e | hx
   ·subst e
    exact gD ok (by rw [<- hq.1]; exact hq.2.1)
   ·exact ih x hx
 exact all r x hx
theorem dt_of {kvs:List (List Key × V)} (ok:HOk P w H h) (e:H a=some (.dT kvs)):kvs.length <= sizeLine /\ (a == sysModules)=false /\
  ∃ xs,KT H kvs xs /\ h.DictOfH (tupleKind (bo P w)) a xs:=iP ok (.inl e)
end
def cM (H:Hp) (a:Addr) (y:V) (r:Option V):Prop :=
 (∃ kvs k,Rd H a (.dK kvs) /\ y=kV k /\ r=bG kvs k) \/ ∃ kvs k b,Rd H a (.dT kvs) /\ y=.ref b /\ H b=some (.tup (k.map kV)) /\ r=bG kvs k
def fI (H:Hp) (a:Addr) (y v:V) (H':Hp):Prop :=
 (∃ kvs k,H a=some (.dK kvs) /\ y=kV k /\ kvs.length < sizeLine /\ H'=upd H a (.dK (bX kvs k v))) \/
 ∃ kvs k b,H a=some (.dT kvs) /\ y=.ref b /\ H b=some (.tup (k.map kV)) /\ kvs.length < sizeLine /\ H'=upd H a (.dT (bX kvs k v))
theorem cM.k {H:Hp} {a:Addr} {kvs:List (Key × V)} {k:Key} (e:H a=some (.dK kvs)):cM H a (kV k) (bG kvs k):=.inl ⟨kvs,k,.inl e,rfl,rfl⟩
theorem fI.k {H:Hp} {a:Addr} {kvs:List (Key × V)} {k:Key} {v:V} (e:H a=some (.dK kvs)) (hl:kvs.length < sizeLine):fI H a (kV k) v (upd H a (.dK (bX kvs k v))):=.inl ⟨kvs,k,e,rfl,hl,rfl⟩
section
variable {X:Cx} {pins:List (Addr × Obj)} {σ:St} {H:Hp} {s:Shared} {a:Addr} {y v:V} {u r:Value} {o:Option V} {A:Around} {E:Value -> Shared -> Prop}
theorem Inv.big (I:Inv X pins σ H s):sysModules < s.heap.objs.size:=by
 have h:mainGlobals < s.heap.objs.size:=(I.mod.glob.keeps I.bk).lt
 exact Nat.lt_trans (by decide) h
theorem qD {Q:Value -> Shared -> Prop} (hu:A.units + 1 < cLine) (I:Inv X pins σ H s) (g:cM H a y (some v)) (ry:aY y u) (h:∀ w' s',Inv X pins σ H s' -> aY v w' -> Q w' s') :
  wpAny (model X.prog X.w) A (getItem (.ref a) u) Q E s:=by
 rcases g with ⟨kvs,k,e,ey,l⟩ | ⟨kvs,k,b,e,ey,eb,l⟩
 ·subst ey
  obtain ⟨z,hd,vs,rel,dd⟩:=iO I.hok e
  obtain ⟨w',hw,rw'⟩:=ej.some_of (v:=v) (o:=valueAt vs k) (by rw [l]; exact rel.val k)
  exact wpAny_getItem_of (eQ ry) dd.mapOf hw (h w' _ (I.tok _) rw')
 ·subst ey
  cases (show u=Value.ref b from ry)
  obtain ⟨z,hd,xs,rel,dd⟩:=iP I.hok e
  obtain ⟨w',hw,rw'⟩:=ej.some_of (v:=v) (o:=(atKey xs k).map (·.2)) (by rw [l]; exact rel.val k)
  obtain ⟨p,hp,hp2⟩:=Option.map_eq_some_iff.mp hw
  refine wpAny_getItem_heap (tupleKind_room_in1 hu) (gD I.hok eb) dd hp ?_
  rw [hp2]
  exact h w' _ (I.tok _) rw'
theorem d_notIn {Q:Value -> Shared -> Prop} (hu:A.units + 1 < cLine) (I:Inv X pins σ H s) (g:cM H a y o) (ry:aY y u) (h:∀ s',Inv X pins σ H s' -> Q (.bool (!o.isSome)) s') :
  wpAny (model X.prog X.w) A (compareOp .NotIn u (.ref a)) Q E s:=by
 rcases g with ⟨kvs,k,e,ey,l⟩ | ⟨kvs,k,b,e,ey,eb,l⟩
 ·subst ey
  obtain ⟨z,hd,vs,rel,dd⟩:=iO I.hok e
  refine wpAny_notIn_of (eQ ry) hd dd.mapOf ?_
  rw [<- (rel.val k).isSome_eq,<- l]
  exact h _ (I.tok _)
 ·subst ey
  cases (show u=Value.ref b from ry)
  obtain ⟨z,hd,xs,rel,dd⟩:=iP I.hok e
  refine wpAny_notIn_heap (tupleKind_room_in1 hu) (gD I.hok eb) hd dd ?_
  have q:=(rel.val k).isSome_eq
  rw [Option.isSome_map] at q
  rw [<- q,<- l]
  exact h _ (I.tok _)
theorem ip {h':Heap} {t':Nat} {ob:HO} (I:Inv X pins σ H s) (mu:Mut (H a)) (hs:Heap.SameBut a s.heap h') (he:∃ q,h'.get? a=some q) (new:ck X.prog X.w (upd H a ob) h' a ob) :
  Inv X pins σ (upd H a ob) { s with heap:=h',toks:=t' } :=
 I.write (x:=a) (e:=a) mu (.inl rfl) (fun b q hb z=>(hs.2 b hb).trans z) he new
theorem nU {P:Program} {w:World} {H':Hp} {h':Heap} {kvs:List (Key × V)} {vs:List (Key × Value)} (z:kvs.length <= sizeLine) (hd:(a == sysModules)=false) (rel:KV kvs vs) (dd:h'.DictOf (bo P w) a vs) :
  ck P w H' h' a (.dK kvs):=⟨z,hd,vs,rel,dd⟩
theorem qE {H':Hp} {Q:Unit -> Shared -> Prop} (hu:A.units + 1 < cLine) (I:Inv X pins σ H s) (g:fI H a y v H') (ry:aY y u) (rv:aY v r) (h:∀ s',Inv X pins σ H' s' -> Q () s') :
  wpAny (model X.prog X.w) A (setItem (.ref a) u r) Q E s:=by
 rcases g with ⟨kvs,k,e,ey,l,eH⟩ | ⟨kvs,k,b,e,ey,eb,l,eH⟩
 ·subst ey eH
  obtain ⟨z,hd,vs,rel,dd⟩:=mq I.hok e
  have hz:vs.length <= sizeLine:=by rw [<- rel.length]; exact z
  have hl:(bX kvs k v).length <= sizeLine:=by have:=dj kvs k v; lia
  refine wpAny_setItem_pairs (hsz:=hz) (eQ ry) dd fun h' dd' hs=>h _ ?_
  have he:∃ q,h'.get? a=some q:=let ⟨q,_,_,hq,_⟩:=dd'; ⟨q,hq⟩
  exact ip I (by rw [e]; exact True.intro) hs he (nU hl hd (rel.put k rv) dd')
 ·subst ey eH
  cases (show u=Value.ref b from ry)
  obtain ⟨z,hd,xs,rel,dd⟩:=dt_of I.hok e
  have hz:xs.length <= sizeLine:=by rw [<- Paired.length rel]; exact z
  have hl:(bX kvs k v).length <= sizeLine:=by have:=dj kvs k v; lia
  refine wpAny_setItem_heap (hsz:=hz) (tupleKind_room_in1 hu) (gD I.hok eb) dd fun h' dd' hs=>h _ ?_
  obtain ⟨q,es,ep,hq,h2,h3,h4,_,h5⟩:=dd'
  refine ip I (by rw [e]; exact True.intro) hs ⟨q,hq⟩ ⟨hl,hd,_,(rel.put k eb rv).keeps fun c ys ec=>?_,q,es,ep,hq,h2,h3,h4,h5⟩
  rw [aw (aM ec e (fun z=>nomatch z))]
  exact ec
end
section
variable {X:Cx} {pins:List (Addr × Obj)} {σ:St} {H:Hp} {s:Shared} {a:Addr} {kvs:List (Key × V)} {k:Key} {u:Value} {A:Around} {E:Value -> Shared -> Prop}
theorem d_pop {v:V} {more:List Value} {Q:Value -> Shared -> Prop} (I:Inv X pins σ H s) (e:H a=some (.dK kvs)) (ry:aY (kV k) u) (l:bG kvs k=some v) (hm:more=[] \/ ∃ x,more=[x])
  (h:∀ w' s',Inv X pins σ (upd H a (.dK (di kvs k))) s' -> aY v w' -> Q w' s'):wpAny (model X.prog X.w) A (call (.builtin "dict.pop") (.ref a :: u :: more)) Q E s:=by
 obtain ⟨z,hd,vs,rel,dd⟩:=mq I.hok e
 obtain ⟨w',hw,rw'⟩:=ej.some_of (v:=v) (o:=valueAt vs k) (by rw [<- l]; exact rel.val k)
 have hp:(keyPart u).isSome=true:=by
  cases k with
  | inl i=>obtain ⟨t,q⟩:=(show ∃ t,u=Value.int i t from ry); subst q; rfl
  | inr x=>obtain ⟨t,q⟩:=(show ∃ t,u=Value.str x t from ry); subst q; rfl
 have ha:argsOk "dict.pop" ⟨.ref a :: u :: more,[]⟩:=by
  rcases hm with q | ⟨x,q⟩
  ·subst q; exact PySem.F.args_dict_pop_2 _ _
  ·subst q; exact PySem.F.args_dict_pop_3 _ _ _
 refine call_meetsIn PySem.F.slot_dict_pop dd.typeIs PySem.F.entry_dict_pop ha (meets_dict_pop_there (bo X.prog X.w) a (eQ ry) more hm hp)
  ⟨vs,w',dd,by rw [<- rel.length]; exact z,hw,fun h' dd' hs=>h w' _ ?_ rw'⟩
 have he:∃ q,h'.get? a=some q:=let ⟨q,_,_,hq,_⟩:=dd'; ⟨q,hq⟩
 exact ip I (by rw [e]; exact True.intro) hs he (nU (Nat.le_trans (sN kvs k) z) hd (rel.drop k) dd')
theorem d_popD {r:Value} {Q:Value -> Shared -> Prop} (I:Inv X pins σ H s) (e:H a=some (.dK kvs)) (ry:aY (kV k) u) (l:bG kvs k=none) (h:∀ s',Inv X pins σ H s' -> Q r s') :
  wpAny (model X.prog X.w) A (call (.builtin "dict.pop") [.ref a,u,r]) Q E s:=by
 obtain ⟨z,hd,vs,rel,dd⟩:=mq I.hok e
 have hn:valueAt vs k=none:=ej.none_of (by rw [<- l]; exact rel.val k)
 have hp:(keyPart u).isSome=true:=by
  cases k with
  | inl i=>obtain ⟨t,q⟩:=(show ∃ t,u=Value.int i t from ry); subst q; rfl
  | inr x=>obtain ⟨t,q⟩:=(show ∃ t,u=Value.str x t from ry); subst q; rfl
 exact call_meetsIn PySem.F.slot_dict_pop dd.typeIs PySem.F.entry_dict_pop (PySem.F.args_dict_pop_3 _ _ _) (meets_dict_pop_default (bo X.prog X.w) a (eQ ry) hd hp r) ⟨vs,dd,hn,h _ (I.tok _)⟩
end
def NoSl (i:Expr):Prop:=∀ ov iv,subscripted i false ov iv=operate [ov,iv] (getItem ov iv)
theorem pH {prog:Program} {w:World} {A:Around} {E:Value -> Shared -> Prop} {s:Shared} {env:Env} {value slice:Expr} {pos:Pos} {T id:String} {Q:Value -> Shared -> Prop}
  (hl:typeLookup (.type T) "__getitem__"=pure (some (.builtin id))) (hs:NoSl slice)
  (h:wpAny (model prog w) A (eval value env) (fun o s₁=>wpAny (model prog w) A (eval slice env) (fun i s₂=>s₂.TypeIs o T /\ wpAny (model prog w) A (getItem o i) Q E s₂) E s₁) E s) :
  wpAny (model prog w) A (eval (.Subscript value slice pos) env) Q E s:=by
 refine Subscript_ (wpAny_mono h (fun o s₁ h₁=>wpAny_mono h₁ (fun i s₂ h₂=>?_) fun _ _ x=>x) fun _ _ x=>x)
 obtain ⟨hT,h₂⟩:=h₂
 unfold subscriptTail
 refine wpAny_bind ?_
 rw [getitemInPython_of_ne hT.not_modules]
 refine wpAny_bind (wpAny_specialOf hT hl ?_)
 have fin:wpAny (model prog w) A (subscripted slice false o i) (fun r s₃=>wpAny (model prog w) A (letTemporaryGo value o r >>= fun _=>pure r) Q E s₃) E s₂:=by
  rw [hs o i]
  exact wpAny_operating (wpAny_mono h₂ (fun r s₃ h₃=>wpAny_bind (wpAny_letTemporaryGo (wpAny_pure h₃))) fun _ _ x=>x)
 first
  | exact wpAny_pure (wpAny_bind fin)
  | exact wpAny_bind (wpAny_pure (wpAny_bind fin))
  | exact wpAny_bind fin
theorem mr {X:Cx} {pins:List (Addr × Obj)} {σ:St} {H:Hp} {s:Shared} {a:Addr} {y:V} {o:Option V} (I:Inv X pins σ H s) (g:cM H a y o):s.TypeIs (.ref a) "dict":=by
 rcases g with ⟨kvs,k,e,_,_⟩ | ⟨kvs,k,b,e,_,_,_⟩
 ·obtain ⟨_,_,vs,_,dd⟩:=iO I.hok e
  exact dd.typeIs
 ·obtain ⟨_,_,xs,_,dd⟩:=iP I.hok e
  exact dd.typeIs
def tDGet (td ty:TE):TE:=fun σ H Q=>td σ H fun x H1=>ty σ H1 fun y H2=>∃ a v,x=.ref a /\ cM H2 a y (some v) /\ Q v H2
def tDNotIn (ty td:TE):TE:=fun σ H Q=>ty σ H fun y H1=>td σ H1 fun x H2=>∃ a o,x=.ref a /\ cM H2 a y o /\ Q (.bl (!o.isSome)) H2
def sDPut (td ty tv:TE):TS:=fun D σ H=>tv σ H fun v H1=>td σ H1 fun x H2=>ty σ H2 fun y H3=>∃ a H4,x=.ref a /\ fI H3 a y v H4 /\ D.nx σ H4
section
variable {X:Cx} {o i e value:Expr} {pos pos' tpos:Pos} {td ty tv:TE}
theorem de (hu:X.A.units + 1 < cLine) (ho:PE X o td) (hi:PE X i ty) (hs:NoSl i):PE X (.Subscript o i pos) (tDGet td ty):=by
 intro pins s σ H Q I h
 refine pH PySem.F.slot_dict_getitem.lookup hs (thn (ho pins s σ H _ I h) fun u s1 ⟨x,H1,I1,rx,q1⟩=>thn (hi pins s1 σ H1 _ I1 q1) fun iv s2 ⟨y,H2,I2,ry,a,v,ex,g,q2⟩=>?_)
 subst ex
 obtain rfl:u=Value.ref a:=rx
 exact ⟨mr I2 g,qD hu I2 g ry fun w' s3 I3 rw'=>⟨v,H2,I3,rw',q2⟩⟩
theorem qF (hu:X.A.units + 1 < cLine) (hi:PE X i ty) (ho:PE X o td):PC X .NotIn i o (tDNotIn ty td):=by
 intro pins s σ H Q I h
 refine thn (hi pins s σ H _ I h) fun iv s1 ⟨y,H1,I1,ry,q1⟩=>thn (ho pins s1 σ H1 _ I1 q1) fun u s2 ⟨x,H2,I2,rx,a,ov,ex,g,q2⟩=>?_
 subst ex
 obtain rfl:u=Value.ref a:=rx
 exact d_notIn hu I2 g ry fun s3 I3=>⟨.bl (!ov.isSome),H2,I3,rfl,q2⟩
theorem d9 (hu:X.A.units + 1 < cLine) (ho:PE X o td) (hi:PE X i ty) (hv:PE X value tv) (hs:swapsWith value (some (.Subscript o i pos')) pos.line X.env=pure false) :
  PS X (.Assign [.Subscript o i pos'] value pos) (sDPut td ty tv):=by
 intro pins s σ H D I h
 refine wpAny_Assign_Subscript (thn (hv pins s σ H _ I h) fun r s1 ⟨v,H1,I1,rv,q1⟩=>thn (ho pins s1 σ H1 _ I1 q1) fun u s2 ⟨x,H2,I2,rx,q2⟩=>thn (hi pins s2 σ H2 _ I2 q2) fun iv s3 ⟨y,H3,I3,ry,a,H4,ex,g,q3⟩=>?_) hs
 subst ex
 obtain rfl:u=Value.ref a:=rx
 exact qE hu I3 g ry rv fun s4 I4=>⟨σ,H4,I4,q3⟩
end
theorem mv {P:Program} {w:World} {H:Hp} (h:Heap) (hb:sysModules < h.objs.size):ck P w H (h.push { cls:=.type "dict",data:=.dict #[] }) h.objs.size (.dK []) :=
 ⟨Nat.zero_le _,beq_eq_false_iff_ne.mpr (Ne.symm (Nat.ne_of_lt hb)),[],.nil,Heap.DictOf.new h⟩
def tDNewK:TE:=fun _ H Q=>∀ p,H p=none -> Q (.ref p) (upd H p (.dK []))
section
variable {X:Cx} {pos:Pos}
theorem iQ:PE X (.Dict [] [] pos) tDNewK:=fun pins s σ H Q I h =>
 wpAny_Dict_empty ⟨.ref s.heap.objs.size,_,I.laid (a:=s.heap.objs.size) (o:=.dK []) (t':=s.toks) (fun _ _ q=>Heap.get?_push_of_some _ q) (Nat.le_refl _) (mv s.heap I.big),rfl,h _ (I.hok.fresh (Nat.le_refl _))⟩
end
structure M1 (X:Cx) (o:Expr) (m:Str) (apos:Pos) (e:Expr) (cpos:Pos):Prop where
 base:attributeBase o m X.env (eval o X.env)=eval o X.env
 few:((backTo cpos (starEach [e] X.env)).all (fun x=>!x.1) && (backToKw cpos (keywordEach [] X.env)).all (fun x=>x.1.isSome)
  && decide (([e]:List Expr).length + ([]:List Keyword).length + (if ([]:List Keyword).isEmpty then 0 else 1) < 30))=true
 line:(apos.endLine == cpos.line)=true
 trees:backTo cpos (starEach [e] X.env)=[(false,eval e X.env)]
structure M2 (X:Cx) (o:Expr) (m:Str) (apos:Pos) (e f:Expr) (cpos:Pos):Prop where
 base:attributeBase o m X.env (eval o X.env)=eval o X.env
 few:((backTo cpos (starEach [e,f] X.env)).all (fun x=>!x.1) && (backToKw cpos (keywordEach [] X.env)).all (fun x=>x.1.isSome)
  && decide (([e,f]:List Expr).length + ([]:List Keyword).length + (if ([]:List Keyword).isEmpty then 0 else 1) < 30))=true
 line:(apos.endLine == cpos.line)=true
 trees:backTo cpos (starEach [e,f] X.env)=[(false,eval e X.env),(false,eval f X.env)]
def IsD (H:Hp) (a:Addr):Prop:=(∃ kvs,Rd H a (.dK kvs)) \/ ∃ kvs,Rd H a (.dT kvs)
theorem nW {X:Cx} {pins:List (Addr × Obj)} {σ:St} {H:Hp} {s:Shared} {a:Addr} (I:Inv X pins σ H s) (d:IsD H a) :
  s.TypeIs (.ref a) "dict" /\ (∀ b,Value.ref a=.ref b -> ∃ ob,s.heap.get? b=some ob /\ ob.dict=none) /\ (a == sysModules)=false:=by
 rcases d with ⟨kvs,e⟩ | ⟨kvs,e⟩
 ·obtain ⟨_,hd,vs,_,dd⟩:=iO I.hok e
  refine ⟨dd.typeIs,fun b q=>?_,hd⟩
  cases q
  obtain ⟨ob,_,_,h1,h2,_⟩:=dd
  exact ⟨ob,h1,h2.2.1⟩
 ·obtain ⟨_,hd,xs,_,dd⟩:=iP I.hok e
  refine ⟨dd.typeIs,fun b q=>?_,hd⟩
  cases q
  obtain ⟨ob,_,_,h1,h2,_⟩:=dd
  exact ⟨ob,h1,h2.2.1⟩
section
variable {X:Cx} {pins:List (Addr × Obj)} {σ:St} {H:Hp} {s:Shared} {a:Addr} {y d:V} {u r:Value} {o:Option V} {A:Around} {E:Value -> Shared -> Prop}
theorem d_get1 {Q:Value -> Shared -> Prop} (hu:A.units + 1 < cLine) (I:Inv X pins σ H s) (g:cM H a y o) (ry:aY y u) (h:∀ w' s',Inv X pins σ H s' -> aY (o.getD .non) w' -> Q w' s') :
  wpAny (model X.prog X.w) A (call (.builtin "dict.get") [.ref a,u]) Q E s:=by
 rcases g with ⟨kvs,k,e,ey,l⟩ | ⟨kvs,k,b,e,ey,eb,l⟩
 ·subst ey
  obtain ⟨z,hd,vs,rel,dd⟩:=iO I.hok e
  refine call_meetsIn PySem.F.slot_dict_get dd.typeIs PySem.F.entry_dict_get (PySem.F.args_dict_get_2 _ _) (meets_dict_get (bo X.prog X.w) a (eQ ry) hd) ⟨_,dd.mapOf,h _ _ (I.tok _) ?_⟩
  rw [l]
  exact (rel.val k).getD rfl
 ·subst ey
  cases (show u=Value.ref b from ry)
  obtain ⟨z,hd,xs,rel,dd⟩:=iP I.hok e
  refine call_meetsIn PySem.F.slot_dict_get dd.typeIs PySem.F.entry_dict_get (PySem.F.args_dict_get_2 _ _) (meetsH_dict_get (tupleKind (bo X.prog X.w)) a b hd) ⟨tupleKind_room_in1 hu,k,xs,gD I.hok eb,dd,h _ _ (I.tok _) ?_⟩
  rw [l]
  exact (rel.val k).getD rfl
theorem d_get2 {Q:Value -> Shared -> Prop} (hu:A.units + 1 < cLine) (I:Inv X pins σ H s) (g:cM H a y o) (ry:aY y u) (rd:aY d r) (h:∀ w' s',Inv X pins σ H s' -> aY (o.getD d) w' -> Q w' s') :
  wpAny (model X.prog X.w) A (call (.builtin "dict.get") [.ref a,u,r]) Q E s:=by
 rcases g with ⟨kvs,k,e,ey,l⟩ | ⟨kvs,k,b,e,ey,eb,l⟩
 ·subst ey
  obtain ⟨z,hd,vs,rel,dd⟩:=iO I.hok e
  refine call_meetsIn PySem.F.slot_dict_get dd.typeIs PySem.F.entry_dict_get (PySem.F.args_dict_get_3 _ _ _) (meets_dict_get_default (bo X.prog X.w) a (eQ ry) hd r) ⟨_,dd.mapOf,h _ _ (I.tok _) ?_⟩
  rw [l]
  exact (rel.val k).getD rd
 ·subst ey
  cases (show u=Value.ref b from ry)
  obtain ⟨z,hd,xs,rel,dd⟩:=iP I.hok e
  refine call_meetsIn PySem.F.slot_dict_get dd.typeIs PySem.F.entry_dict_get (PySem.F.args_dict_get_3 _ _ _) (meetsH_dict_get_default (tupleKind (bo X.prog X.w)) a b hd r) ⟨tupleKind_room_in1 hu,k,xs,gD I.hok eb,dd,h _ _ (I.tok _) ?_⟩
  rw [l]
  exact (rel.val k).getD rd
end
def tDGet1 (td ty:TE):TE:=fun σ H Q=>td σ H fun x H1=>∃ a,x=.ref a /\ IsD H1 a /\ ty σ H1 fun y H2=>∃ o,cM H2 a y o /\ Q (o.getD .non) H2
def tDGet2 (td ty tx:TE):TE:=fun σ H Q=>td σ H fun x H1=>∃ a,x=.ref a /\ IsD H1 a /\ ty σ H1 fun y H2=>tx σ H2 fun z H3=>∃ o,cM H3 a y o /\ Q (o.getD z) H3
def tDPop2 (td ty tx:TE):TE:=fun σ H Q=>td σ H fun x H1=>∃ a,x=.ref a /\ IsD H1 a /\ ty σ H1 fun y H2=>tx σ H2 fun z H3=>∃ kvs k,H3 a=some (.dK kvs) /\ y=kV k /\
 (∀ v,bG kvs k=some v -> Q v (upd H3 a (.dK (di kvs k)))) /\ (bG kvs k=none -> Q z H3)
section
variable {X:Cx} {o e f:Expr} {apos cpos:Pos} {td ty tx:TE}
theorem mw (hu:X.A.units + 1 < cLine) (ho:PE X o td) (he:PE X e ty) (m:M1 X o "get" apos e cpos):PE X (.Call (.Attribute o "get" apos) [e] [] cpos) (tDGet1 td ty):=by
 intro pins s σ H Q I h
 refine wpAny_Call_method m.base m.few m.line PySem.F.plainAttrs_dict PySem.F.slot_dict_get PySem.F.type_dict_get (thn (ho pins s σ H _ I h) fun u s1 ⟨x,H1,I1,rx,a,ex,d,q1⟩=>?_)
 subst ex
 obtain rfl:u=Value.ref a:=rx
 obtain ⟨t1,t2,_⟩:=nW I1 d
 refine ⟨t1,t2,?_⟩
 rw [m.trees]
 refine Calls.callWith_builtin rfl (Calls.evalArgs_plain (Calls.spliced_cons (thn (he pins s1 σ H1 _ I1 q1) fun iv s2 ⟨y,H2,I2,ry,ov,g,q2⟩=>Calls.spliced_nil ?_)))
 exact d_get1 hu I2 g ry fun w' s3 I3 rw'=>⟨_,H2,I3,rw',q2⟩
theorem mx (hu:X.A.units + 1 < cLine) (ho:PE X o td) (he:PE X e ty) (hf:PE X f tx) (m:M2 X o "get" apos e f cpos):PE X (.Call (.Attribute o "get" apos) [e,f] [] cpos) (tDGet2 td ty tx):=by
 intro pins s σ H Q I h
 refine wpAny_Call_method m.base m.few m.line PySem.F.plainAttrs_dict PySem.F.slot_dict_get PySem.F.type_dict_get (thn (ho pins s σ H _ I h) fun u s1 ⟨x,H1,I1,rx,a,ex,d,q1⟩=>?_)
 subst ex
 obtain rfl:u=Value.ref a:=rx
 obtain ⟨t1,t2,_⟩:=nW I1 d
 refine ⟨t1,t2,?_⟩
 rw [m.trees]
 refine Calls.callWith_builtin rfl (Calls.evalArgs_plain (Calls.spliced_cons (thn (he pins s1 σ H1 _ I1 q1) fun iv s2 ⟨y,H2,I2,ry,q2⟩ =>
  Calls.spliced_cons (thn (hf pins s2 σ H2 _ I2 q2) fun fv s3 ⟨z,H3,I3,rz,ov,g,q3⟩=>Calls.spliced_nil ?_))))
 exact d_get2 hu I3 g ry rz fun w' s4 I4 rw'=>⟨_,H3,I4,rw',q3⟩
theorem my (ho:PE X o td) (he:PE X e ty) (hf:PE X f tx) (m:M2 X o "pop" apos e f cpos):PE X (.Call (.Attribute o "pop" apos) [e,f] [] cpos) (tDPop2 td ty tx):=by
 intro pins s σ H Q I h
 refine wpAny_Call_method m.base m.few m.line PySem.F.plainAttrs_dict PySem.F.slot_dict_pop PySem.F.type_dict_pop (thn (ho pins s σ H _ I h) fun u s1 ⟨x,H1,I1,rx,a,ex,d,q1⟩=>?_)
 subst ex
 obtain rfl:u=Value.ref a:=rx
 obtain ⟨t1,t2,_⟩:=nW I1 d
 refine ⟨t1,t2,?_⟩
 rw [m.trees]
 refine Calls.callWith_builtin rfl (Calls.evalArgs_plain (Calls.spliced_cons (thn (he pins s1 σ H1 _ I1 q1) fun iv s2 ⟨y,H2,I2,ry,q2⟩ =>
  Calls.spliced_cons (thn (hf pins s2 σ H2 _ I2 q2) fun fv s3 ⟨z,H3,I3,rz,kvs,k,ea,ey,q3,q4⟩=>Calls.spliced_nil ?_))))
 subst ey
 cases l:bG kvs k with
 | some v=>exact d_pop I3 ea ry l (.inr ⟨fv,rfl⟩) fun w' s4 I4 rw'=>⟨v,_,I4,rw',q3 v l⟩
 | none=>exact d_popD I3 ea ry l fun s4 I4=>⟨z,H3,I4,rz,q4 l⟩
end
section
variable {X:Cx} {pins:List (Addr × Obj)} {σ:St} {H:Hp} {s:Shared} {a:Addr} {kvs:List (Key × V)} {A:Around} {E:Value -> Shared -> Prop}
end
section
variable {X:Cx} {pins:List (Addr × Obj)} {σ:St} {H:Hp} {s:Shared} {a:Addr} {y:V} {u:Value} {A:Around} {E:Value -> Shared -> Prop}
end
end L2
namespace HT
open PySem PyProof.Rows
section
open PySem.SeqAt
open PySem.AutoSeq1 (wpAny_loadPart')
open PySem.MeetsSeq PySem.MeetsSeq2 PySem.MeetsSeq3
end
section
variable {prog:Program} {w:World} {A:Around} {E:Value -> Shared -> Prop} {s:Shared}
theorem cat_tup {t b:Addr} {vs ws:List Value} {Q:Value -> Shared -> Prop} (ht:IsTup s.heap t vs.toArray) (hb:IsTup s.heap b ws.toArray) (hv:vs ≠ [])
  (h1:ws=[] -> Q (.ref t) s) (h2:ws ≠ [] -> Q (.ref s.heap.objs.size) { s with heap:=s.heap.push { cls:=.type "tuple",data:=.seq (vs ++ ws).toArray } })
  (hsz:vs.length + ws.length <= sizeLine):wpAny (model prog w) A (binaryOp .Add (.ref t) (.ref b)) Q E s:=by
 obtain ⟨⟨cls,dd,data,sl⟩,ho,hc,n,hd⟩:=id ht
 obtain ⟨⟨cls2,dd2,data2,sl2⟩,ho2,hc2,n2,hd2⟩:=id hb
 simp only at hc hd hc2 hd2
 subst hc hd hc2 hd2
 have e:vs.toArray ++ ws.toArray=(vs ++ ws).toArray:=by simp
 by_cases hw:ws=[]
 ·exact concat_meets ⟨_,ho,rfl⟩ ⟨_,ho2,rfl⟩ noFill_tuple_add seq_tuple_add PySem.F.slot_tuple_add PySem.F.entry_tuple_add (PySem.F.args_tuple_add_2 _ _)
   (tuple_addW1 t b vs.toArray ws.toArray n n2 dd dd2 sl sl2 (by simpa using hv) (by simp [hw])) ⟨ho,ho2,h1 hw⟩
 ·refine concat_meets ⟨_,ho,rfl⟩ ⟨_,ho2,rfl⟩ noFill_tuple_add seq_tuple_add PySem.F.slot_tuple_add PySem.F.entry_tuple_add (PySem.F.args_tuple_add_2 _ _)
   (tuple_addW2 t b vs.toArray ws.toArray n n2 dd dd2 sl sl2 (by simpa using hv) (by simpa using hw) (by rw [List.size_toArray,List.size_toArray]; exact hsz)) ⟨ho,ho2,?_⟩
  rw [e]
  exact h2 hw
def sIx (n d:Nat):Option Int -> Nat
 | none=>d
 | some v=>if v < 0 then (v + (n:Int)).toNat else min v.toNat n
theorem eB (n d:Nat):sIx n d none=d:=rfl
theorem df (n d k:Nat):sIx n d (some (k:Int))=min k n:=by
 show (if (k:Int) < 0 then ((k:Int) + (n:Int)).toNat else min (k:Int).toNat n)=min k n
 rw [if_neg (by lia),Int.toNat_natCast]
theorem sIx_le (n d:Nat) (hd:d <= n) (o:Option Int):sIx n d o <= n:=by
 cases o with
 | none=>exact hd
 | some v =>
  show (if v < 0 then (v + (n:Int)).toNat else min v.toNat n) <= n
  by_cases hv:v < 0
  ·rw [if_pos hv]; lia
  ·rw [if_neg hv]; exact Nat.min_le_right _ _
theorem pI (v:Int) (n d:Nat):(if v < 0 then max (v + (n:Int)) 0 else min v (n:Int))=((sIx n d (some v):Nat):Int):=by
 show (if v < 0 then max (v + (n:Int)) 0 else min v (n:Int))=(((if v < 0 then (v + (n:Int)).toNat else min v.toNat n):Nat):Int)
 by_cases hv:v < 0
 ·simp only [if_pos hv]; lia
 ·simp only [if_neg hv]; lia
theorem nX (lo hi:Option Int) (n:Nat):Builtin.Slice.sliceAdjust lo hi 1 (n:Int)=(((sIx n 0 lo:Nat):Int),((sIx n n hi:Nat):Int)):=by
 have h1:¬ ((1:Int) < 0):=by lia
 unfold Builtin.Slice.sliceAdjust
 simp only [h1,if_false]
 refine Prod.ext ?_ ?_
 ·cases lo with
  | none=>rfl
  | some v=>exact pI v n 0
 ·cases hi with
  | none=>rfl
  | some v=>exact pI v n n
theorem nY (i j:Nat):Builtin.Slice.slicePlaces (i:Int) (j:Int) 1=j - i:=by
 unfold Builtin.Slice.slicePlaces
 have h1:(1:Int) > 0:=by lia
 simp only [h1,if_true,Int.ediv_one]
 split <;> lia
theorem iR {v:Value} {o:Option Int} {Q:Option Int -> Shared -> Prop} (p:IsPart v o) (h:Q o s):wpAny (model prog w) A (Builtin.Slice.slicePartIndex v) Q E s:=by
 cases p with
 | none=>exact slicePart_none h
 | int i t=>exact slicePart_int h
theorem eC {sl:Addr} {vl vu:Value} {lo hi:Option Int} {n:Nat} {Q:Int × Int × Nat -> Shared -> Prop} (hs:s.heap.IsSliceOf sl vl vu .none) (pl:IsPart vl lo) (pu:IsPart vu hi)
  (h:Q (((sIx n 0 lo:Nat):Int),1,sIx n n hi - sIx n 0 lo) s):wpAny (model prog w) A (Builtin.Slice.sliceApplied (.ref sl) (pure (n:Int))) Q E s:=by
 obtain ⟨os,hos,hcs,hds⟩:=id hs
 unfold Builtin.Slice.sliceApplied Builtin.Slice.sliceFields
 refine wpAny_bind (wpAny_bind (wpAny_field hos hds (x:=vl) rfl (wpAny_bind (wpAny_field hos hds (x:=vu) rfl (wpAny_bind (wpAny_field hos hds (x:=.none) rfl (wpAny_pure ?_)))))))
 refine wpAny_bind (slicePart_none ?_)
 show wpAny _ _ (if ((1:Int) == 0)=true then _ else _) _ _ s
 rw [if_neg (by decide)]
 refine wpAny_bind (iR pl (wpAny_bind (iR pu (wpAny_bind (wpAny_pure ?_)))))
 show wpAny _ _ (match Builtin.Slice.sliceAdjust lo hi 1 (n:Int) with | (lo,hi)=>pure (lo,(1:Int),Builtin.Slice.slicePlaces lo hi 1)) _ _ s
 rw [nX lo hi n]
 show wpAny _ _ (pure (((sIx n 0 lo:Nat):Int),(1:Int),Builtin.Slice.slicePlaces ((sIx n 0 lo:Nat):Int) ((sIx n n hi:Nat):Int) 1)) _ _ s
 rw [nY]
 exact wpAny_pure h
theorem sO (xs:Array Value) (i k:Nat):((List.range k).filterMap fun (m:Nat)=>xs[((i:Int) + (m:Int) * 1).toNat]?).toArray=((xs.toList.drop i).take k).toArray:=by
 have e:(fun (m:Nat)=>xs[((i:Int) + (m:Int) * 1).toNat]?)=fun m=>xs[i + m]?:=by
  funext m
  have:((i:Int) + (m:Int) * 1).toNat=i + m:=by lia
  rw [this]
 rw [e]
 have:=pick_run xs i k
 rw [List.filterMap_map] at this
 have e2:((fun x=>xs[x]?) ∘ fun x=>i + x)=fun m=>xs[i + m]?:=rfl
 rw [e2] at this
 rw [this]
theorem ge {t sl:Addr} {items:Array Value} {vl vu:Value} {lo hi:Option Int} {Q:Value -> Shared -> Prop} (ht:IsTup s.heap t items) (hs:s.heap.IsSliceOf sl vl vu .none) (pl:IsPart vl lo) (pu:IsPart vu hi)
  (hw:¬ (sIx items.size 0 lo=0 /\ sIx items.size items.size hi=items.size))
  (h:Q (.ref s.heap.objs.size) { s with heap:=s.heap.push { cls:=.type "tuple",data:=.seq ((items.toList.drop (sIx items.size 0 lo)).take (sIx items.size items.size hi - sIx items.size 0 lo)).toArray } })
  (hsz:items.size <= sizeLine):wpAny (model prog w) A (getItem (.ref t) (.ref sl)) Q E s:=by
 have htake:sizeOk (.seq ((items.toList.drop (sIx items.size 0 lo)).take (sIx items.size items.size hi - sIx items.size 0 lo)).toArray):=by
  show ((items.toList.drop (sIx items.size 0 lo)).take (sIx items.size items.size hi - sIx items.size 0 lo)).toArray.size <= sizeLine
  rw [List.size_toArray,List.length_take,List.length_drop,Array.length_toList]
  lia
 have hj:sIx items.size items.size hi <= items.size:=sIx_le _ _ (Nat.le_refl _) hi
 obtain ⟨os,hos,hcs,hds⟩:=id hs
 have hTs:s.TypeIs (.ref sl) "slice":=⟨os,hos,hcs⟩
 unfold getItem
 try with_reducible refine wpAny_holding ?_
 first | refine wpAny_bind (wpAny_pure ?_) | skip
 refine wpAny_bind (wpAny_sequenceKey ht.typeIs (by decide) ?_)
 refine wpAny_bind (wpAny_callSpecial?_slot (name:=Str.ofString "__getitem__") ht.typeIs PyProof.Rows.slot_tuple_getitem
  (wpAny_call_entry PyProof.Rows.slot_tuple_getitem ht.typeIs entry_tuple_getitem ?_ (args_tuple_getitem _ _)))
 show wpAny _ _ (Builtin.Tuple.tupleItemsOf (.ref t) >>= _) _ _ s
 refine wpAny_bind (tupleItemsOf_ ht ?_)
 refine wpAny_bind (wpAny_typeOf hTs ?_)
 rw [if_pos (by decide)]
 refine wpAny_bind (eC hs pl pu ?_)
 have hno:¬ ((((sIx items.size 0 lo:Nat):Int) == 0 && (1:Int) == 1 && (sIx items.size items.size hi - sIx items.size 0 lo) == items.size)=true):=by
  intro q
  rw [Bool.and_eq_true,Bool.and_eq_true] at q
  have q1:((sIx items.size 0 lo:Nat):Int)=0:=eq_of_beq q.1.1
  have q2:sIx items.size items.size hi - sIx items.size 0 lo=items.size:=eq_of_beq q.2
  exact hw ⟨by lia,by lia⟩
 show wpAny _ _ (if (((sIx items.size 0 lo:Nat):Int) == 0 && (1:Int) == 1 && (sIx items.size items.size hi - sIx items.size 0 lo) == items.size)=true then _ else _) _ _ s
 rw [if_neg hno,sO]
 first
  | exact wpAny_bind (m:=Builtin.Tuple.tupleExact _) (wpAny_newObj_type (wpAny_pure ⟨_,rfl,wpAny_pure h⟩) htake)
  | exact wpAny_bind (m:=Builtin.Tuple.tupleExact _) (wpAny_newObj_type (wpAny_bind (wpAny_pure (wpAny_pure ⟨_,rfl,wpAny_pure h⟩))) htake)
  | exact wpAny_bind (wpAny_bind (m:=Builtin.Tuple.tupleExact _) (wpAny_newObj_type (wpAny_pure (wpAny_pure ⟨_,rfl,wpAny_pure h⟩)) htake))
  | exact wpAny_bind (wpAny_bind (m:=Builtin.Tuple.tupleExact _) (wpAny_newObj_type (wpAny_pure ⟨_,rfl,wpAny_pure h⟩) htake))
end
end HT
namespace L2
open PySem PySem.Spec PyProof.Rows
abbrev TO:=St -> Hp -> (Option Int -> Hp -> Prop) -> Prop
def PO (X:Cx) (e:Option Expr) (t:TO):Prop :=
 ∀ (pins:List (Addr × Obj)) (s:Shared) (σ:St) (H:Hp) (Q:Option Int -> Hp -> Prop),Inv X pins σ H s -> t σ H Q ->
  wpAny (model X.prog X.w) X.A (evalPart e X.env) (fun u s'=>∃ o H',Inv X pins σ H' s' /\ IsPart u o /\ Q o H') X.xe s
def tNoPart:TO:=fun _ H Q=>Q none H
def tPart (t:TE):TO:=fun σ H Q=>t σ H fun x H1=>∃ i,x=.int i /\ Q (some i) H1
theorem nZ {ns:List Int}:∀ {us:List Value},bh (ns.map V.int) us -> IntsAre us ns:=by
 induction ns with
 | nil=>intro us r; rw [List.map_nil] at r; cases r; exact .nil
 | cons n ns ih =>
  intro us r
  rw [List.map_cons] at r
  cases r with
  | cons r1 r2 =>
   obtain ⟨t,e⟩:=r1
   subst e
   exact .cons n t (ih r2)
section
variable {X:Cx} {e:Expr} {te:TE} {lo hi:Option Expr} {tl th:TO} {pos p2:Pos}
theorem cx:PO X none tNoPart:=by
 intro pins s σ H Q I h
 rw [evalPart_none]
 exact wpAny_pure ⟨none,H,I,.none,h⟩
theorem bP (h:PE X e te):PO X (some e) (tPart te):=by
 intro pins s σ H Q I hw
 rw [evalPart_some]
 refine thn (h pins s σ H _ I hw) fun u s1 ⟨x,H1,I1,r1,q1⟩=>?_
 obtain ⟨i,rfl,q⟩:=q1
 obtain ⟨t,rfl⟩:=r1
 exact ⟨some i,H1,I1,.int i t,q⟩
def SlR (X:Cx) (r:V -> Option Int -> Option Int -> Hp -> VK -> Prop):Prop :=
 ∀ (pins:List (Addr × Obj)) (s:Shared) (σ:St) (H:Hp) (x:V) (v vl vu:Value) (lo hi:Option Int) (sl:Addr) (Q:VK),Inv X pins σ H s -> aY x v -> s.heap.IsSliceOf sl vl vu .none -> IsPart vl lo -> IsPart vu hi -> r x lo hi H Q ->
  ∃ T id,typeLookup (.type T) "__getitem__"=pure (some (.builtin id)) /\ s.TypeIs v T /\ wpAny (model X.prog X.w) X.A (getItem v (.ref sl)) (EP X pins σ Q) X.xe s
def tSl (r:V -> Option Int -> Option Int -> Hp -> VK -> Prop) (te:TE) (tl th:TO):TE:=fun σ H Q=>te σ H fun x H1=>tl σ H1 fun l H2=>th σ H2 fun u H3=>r x l u H3 Q
theorem bO {r:V -> Option Int -> Option Int -> Hp -> VK -> Prop} (hr:SlR X r) (he:PE X e te) (hl:PO X lo tl) (hu:PO X hi th):PE X (.Subscript e (.Slice lo hi none p2) pos) (tSl r te tl th):=by
 intro pins s σ H Q I h
 refine Subscript_ (thn (he pins s σ H _ I h) fun v s1 ⟨x,H1,I1,r1,q1⟩=>?_)
 refine wpAny_Slice (thn (hl pins s1 σ H1 _ I1 q1) fun vl s2 ⟨l,H2,I2,pl,q2⟩=>thn (hu pins s2 σ H2 _ I2 q2) fun vu s3 ⟨u,H3,I3,pu,q3⟩=>?_)
 rw [evalPart_none]
 refine wpAny_pure ?_
 have I4:Inv X pins σ H3 { s3 with heap:=s3.heap.push { cls:=.type "slice",data:=.fields #[vl,vu,.none] } }:=I3.kept (t':=s3.toks) fun b ob q=>Heap.get?_push_of_some _ q
 obtain ⟨T,id,hT,ht,hg⟩:=hr pins { s3 with heap:=s3.heap.push { cls:=.type "slice",data:=.fields #[vl,vu,.none] } } σ H3 x v vl vu l u s3.heap.objs.size Q I4 r1 (Heap.IsSliceOf.new ..) pl pu q3
 show wpAny (model X.prog X.w) X.A (subscriptTail e (.Slice lo hi none p2) v (.ref s3.heap.objs.size)) (EP X pins σ Q) X.xe { s3 with heap:=s3.heap.push { cls:=.type "slice",data:=.fields #[vl,vu,.none] } }
 exact tail_any (ops:=[.ref s3.heap.objs.size,v]) ht hT hg (by with_unfolding_all rfl)
def cj (xs:List V) (lo hi:Option Int):List V:=(xs.drop (HT.sIx xs.length 0 lo)).take (HT.sIx xs.length xs.length hi - HT.sIx xs.length 0 lo)
theorem gW (xs:List V) (lo hi:Option Int):(cj xs lo hi).length <= xs.length:=by
 unfold cj
 rw [List.length_take,List.length_drop]
 lia
def rSlT (K:PySem.W.Frag):V -> Option Int -> Option Int -> Hp -> VK -> Prop:=fun x lo hi H Q=>∃ a xs,x=.ref a /\ SqT K H a xs /\
 ¬ (HT.sIx xs.length 0 lo=0 /\ HT.sIx xs.length xs.length hi=xs.length) /\ ∀ p,H p=none -> Q (.ref p) (upd H p (.tup (cj xs lo hi)))
theorem sl_tup:SlR X (rSlT X.K):=by
 intro pins s σ H x v vl vu lo hi sl Q I rx hs pl pu h
 obtain ⟨a,xs,rfl,hx,hw,q⟩:=h
 cases rx
 obtain ⟨its,r,ht,hz⟩:=I.tuple hx
 have hlen:its.toArray.size=xs.length:=by rw [List.size_toArray]; exact r.length.symm
 refine ⟨"tuple",_,PyProof.Rows.slot_tuple_getitem.lookup,ht.typeIs,?_⟩
 refine HT.ge ht hs pl pu (by rw [hlen]; exact hw) ?_ (by rw [hlen]; exact hz)
 rw [hlen]
 refine ⟨.ref s.heap.objs.size,_,I.laid (t':=s.toks) (o:=.tup (cj xs lo hi)) (fun b ob q=>Heap.get?_push_of_some _ q) (Nat.le_refl _) ?_,rfl,q _ (I.hok.fresh (Nat.le_refl _))⟩
 exact ⟨Nat.le_trans (gW xs lo hi) hz,_,(r.drop (HT.sIx xs.length 0 lo)).take (HT.sIx xs.length xs.length hi - HT.sIx xs.length 0 lo),IsTup.new _ _⟩
def rCatT (K:PySem.W.Frag):R2:=fun x y H Q=>∃ a b xs ys,x=.ref a /\ y=.ref b /\ SqT K H a xs /\ SqT K H b ys /\ xs ≠ [] /\ xs.length + ys.length <= sizeLine /\
 (ys=[] -> Q (.ref a) H) /\ (ys ≠ [] -> ∀ p,H p=none -> Q (.ref p) (upd H p (.tup (xs ++ ys))))
theorem bh.nil_iff {xs:List V} {us:List Value} (r:bh xs us):us=[] ↔ xs=[]:=by
 cases r with
 | nil=>simp
 | cons _ _=>simp
theorem pJ:OpR X (binaryOp .Add) (rCatT X.K):=by
 intro pins s σ H x y v u Q I rx ry h
 obtain ⟨a,b,xs,ys,rfl,rfl,ha,hb,hx,hz,q1,q2⟩:=h
 cases rx
 cases ry
 obtain ⟨its,r1,p1,_⟩:=I.tuple ha
 obtain ⟨its2,r2,p2,_⟩:=I.tuple hb
 refine HT.cat_tup p1 p2 (fun z=>hx (r1.nil_iff.mp z)) (fun z=>⟨.ref a,H,I,rfl,q1 (r2.nil_iff.mp z)⟩) (fun z=>?_) (by rw [<- r1.length,<- r2.length]; exact hz)
 refine ⟨.ref s.heap.objs.size,_,I.laid (t':=s.toks) (o:=.tup (xs ++ ys)) (fun b ob q=>Heap.get?_push_of_some _ q) (Nat.le_refl _) ?_,rfl,q2 (fun w=>z (r2.nil_iff.mpr w)) _ (I.hok.fresh (Nat.le_refl _))⟩
 exact ⟨by rw [List.length_append]; exact hz,_,r1.append r2,IsTup.new _ _⟩
end
def ixN (n:Nat) (i:Int):Option Nat:=if 0 <= i then (if i < n then some i.toNat else none) else if -(n:Int) <= i then some (i + n).toNat else none
def atI {α:Type} (xs:List α) (i:Int):Option α:=(ixN xs.length i).bind fun j=>xs[j]?
theorem ixN_seq {n:Nat} {i:Int} {j:Nat} (h:ixN n i=some j):seqIndex? i n=some j /\ j < n /\ -(n:Int) <= i /\ i < n:=by
 unfold ixN at h
 by_cases h0:0 <= i
 ·rw [if_pos h0] at h
  by_cases h1:i < n
  ·rw [if_pos h1] at h
   have e:i.toNat=j:=Option.some.inj h
   exact ⟨by rw [seqIndex_of h0 h1,e],by lia,by lia,h1⟩
  ·rw [if_neg h1] at h; cases h
 ·rw [if_neg h0] at h
  by_cases h1:-(n:Int) <= i
  ·rw [if_pos h1] at h
   have e:(i + n).toNat=j:=Option.some.inj h
   exact ⟨by rw [seqIndex_neg (by lia) h1,e],by lia,h1,by lia⟩
  ·rw [if_neg h1] at h; cases h
theorem pK {α:Type} {xs:List α} {i:Int} {v:α} (h:atI xs i=some v):∃ j,seqIndex? i xs.length=some j /\ xs[j]?=some v /\ j < xs.length /\ -(xs.length:Int) <= i /\ i < xs.length:=by
 unfold atI at h
 cases e:ixN xs.length i with
 | none=>rw [e] at h; cases h
 | some j =>
  rw [e] at h
  obtain ⟨h1,h2,h3,h4⟩:=ixN_seq e
  exact ⟨j,h1,h,h2,h3,h4⟩
theorem bN {α:Type} {xs:List α} {j:Nat} {v:α} (h:xs[j]?=some v):atI xs (j:Int)=some v:=by
 have hj:j < xs.length:=(List.getElem?_eq_some_iff.mp h).1
 have e:ixN xs.length (j:Int)=some j:=by
  unfold ixN
  rw [if_pos (by lia),if_pos (by lia)]; simp
 unfold atI; rw [e]; exact h
theorem eZ {α:Type} (xs:List α) (v:α):atI (xs ++ [v]) (-1)=some v:=by
 have hl:(xs ++ [v]).length=xs.length + 1:=by simp
 have e:ixN (xs ++ [v]).length (-1)=some xs.length:=by
  unfold ixN
  rw [hl,if_neg (by decide),if_pos (by lia)]
  congr 1
  lia
 unfold atI
 rw [e]
 show (xs ++ [v])[xs.length]?=some v
 simp
def PlainIx (b:Expr):Prop:=∀ o i,subscripted b false o i=operate [o,i] (getItem o i)
def IxR (X:Cx) (r:R2):Prop :=
 ∀ (value slice:Expr) (pins:List (Addr × Obj)) (s:Shared) (σ:St) (H:Hp) (x y:V) (v u:Value) (Q:VK),Inv X pins σ H s -> aY x v -> aY y u -> r x y H Q ->
  subscripted slice false v u=operate [v,u] (getItem v u) -> wpAny (model X.prog X.w) X.A (subscriptTail value slice v u) (EP X pins σ Q) X.xe s
def MtR (X:Cx) (id:String) (r:V -> List V -> Hp -> VK -> Prop):Prop :=
 ∀ (pins:List (Addr × Obj)) (s:Shared) (σ:St) (H:Hp) (x:V) (xs:List V) (v:Value) (us:List Value) (Q:VK),Inv X pins σ H s -> aY x v -> bh xs us -> r x xs H Q ->
  wpAny (model X.prog X.w) X.A (call (.builtin id) (v :: us)) (EP X pins σ Q) X.xe s
section
variable {X:Cx} {a b:Expr} {ta tb:TE} {pos:Pos}
theorem aq {r:R2} (hr:IxR X r) (ha:PE X a ta) (hb:PE X b tb) (hs:PlainIx b):PE X (.Subscript a b pos) (tOp r ta tb):=by
 intro pins s σ H Q I h
 exact Subscript_ (binT ha hb I h fun v u s2 x y H2 I2 rx ry q=>hr a b pins s2 σ H2 x y v u Q I2 rx ry q (hs _ _))
def rIxL (K:PySem.W.Frag):R2:=fun x y H Q=>∃ p xs i v,x=.ref p /\ y=.int i /\ SqL K H p xs /\ atI xs i=some v /\ Q v H
def rIxT (K:PySem.W.Frag):R2:=fun x y H Q=>∃ p xs i v,x=.ref p /\ y=.int i /\ SqT K H p xs /\ atI xs i=some v /\ Q v H
theorem aW:IxR X (rIxL X.K):=by
 intro value slice pins s σ H x y v u Q I rx ry h hs
 obtain ⟨p,xs,i,z,rfl,rfl,hq,he,q⟩:=h
 cases rx
 obtain ⟨t,rfl⟩:=ry
 obtain ⟨its,r,pl,hz⟩:=I.list hq
 obtain ⟨j,h1,h2,h3,h4,h5⟩:=pK he
 obtain ⟨w,ew,rw'⟩:=r.get h2
 have hl:=r.length
 have hn:=kz
 have fin:EP X pins σ Q w s:=⟨z,H,I,rw',q⟩
 by_cases h0:0 <= i
 ·have hj:i.toNat=j:=by
   rw [seqIndex_of h0 h5] at h1
   exact Option.some.inj h1
  exact item_listR pl.isList h0 (by lia) (by rw [hj]; simpa using ew) fin hs
 ·have hj:(i + (its.toArray.size:Int)).toNat=j:=by
   rw [seqIndex_neg (by lia) h4] at h1
   rw [List.size_toArray,<- hl]
   exact Option.some.inj h1
  exact subscriptTail_builtinR (x:=w) pl.isList.typeIs slot_list_getitem.lookup
   (wpAny_getItem_list_neg (Q:=fun r s'=>r=w /\ EP X pins σ Q r s') pl.isList (by lia) (by rw [List.size_toArray] <;> lia) (by lia) (by rw [hj]; simpa using ew) ⟨rfl,fin⟩) hs
theorem ao:IxR X (rIxT X.K):=by
 intro value slice pins s σ H x y v u Q I rx ry h hs
 obtain ⟨p,xs,i,z,rfl,rfl,hq,he,q⟩:=h
 cases rx
 obtain ⟨t,rfl⟩:=ry
 obtain ⟨its,r,pl,hz⟩:=I.tuple hq
 obtain ⟨j,h1,h2,h3,h4,h5⟩:=pK he
 obtain ⟨w,ew,rw'⟩:=r.get h2
 have hl:=r.length
 have hn:=kz
 have fin:EP X pins σ Q w s:=⟨z,H,I,rw',q⟩
 exact subscriptTail_builtinR (x:=w) pl.typeIs slot_tuple_getitem.lookup
  (getItem_tuple (j:=j) (Q:=fun r s'=>r=w /\ EP X pins σ Q r s') pl (by lia) (by lia) (by rw [List.size_toArray,<- hl]; exact h1) (by simpa using ew) ⟨rfl,fin⟩) hs
theorem kB (lo hi:Option Int) (n:Nat):(sliceBounds lo hi none n).1=((HT.sIx n 0 lo:Nat):Int) /\ (sliceBounds lo hi none n).2.1=((HT.sIx n n hi:Nat):Int) /\ (sliceBounds lo hi none n).2.2=1:=by
 refine ⟨?_,?_,rfl⟩
 ·cases lo with
  | none=>simp [sliceBounds,HT.sIx]
  | some i =>
   simp only [sliceBounds,HT.sIx,Option.getD_none,show (1:Int) > 0 by decide,if_true]
   by_cases h:i < 0
   ·simp only [h,if_true] <;> lia
   ·simp only [h,if_false] <;> lia
 ·cases hi with
  | none=>simp [sliceBounds,HT.sIx]
  | some i =>
   simp only [sliceBounds,HT.sIx,Option.getD_none,show (1:Int) > 0 by decide,if_true]
   by_cases h:i < 0
   ·simp only [h,if_true] <;> lia
   ·simp only [h,if_false] <;> lia
theorem jD (its:List Value) (lo hi:Option Int):slicePick its.toArray lo hi none=((its.drop (HT.sIx its.length 0 lo)).take (HT.sIx its.length its.length hi - HT.sIx its.length 0 lo)).toArray:=by
 obtain ⟨h1,h2,h3⟩:=kB lo hi its.toArray.size
 unfold slicePick
 rw [h1,h2,h3]
 simp only [sliceRange_one,pick_run,List.size_toArray] <;> rfl
def rSlL (K:PySem.W.Frag):V -> Option Int -> Option Int -> Hp -> VK -> Prop:=fun x lo hi H Q=>∃ a xs,x=.ref a /\ SqL K H a xs /\ ∀ p,H p=none -> Q (.ref p) (upd H p (.lst (cj xs lo hi)))
theorem gf:SlR X (rSlL X.K):=by
 intro pins s σ H x v vl vu lo hi sl Q I rx hs pl pu h
 obtain ⟨a,xs,rfl,hx,q⟩:=h
 cases rx
 obtain ⟨its,r,ht,hz⟩:=I.list hx
 have hlen:=r.length
 refine ⟨"list",_,slot_list_getitem.lookup,ht.isList.typeIs,?_⟩
 refine wpAny_getItem_list_slice ht.isList hs pl pu .none (by simp) ?_ (by rw [List.size_toArray] <;> lia)
 rw [jD,<- hlen]
 refine ⟨.ref s.heap.objs.size,_,I.laid (t':=s.toks) (o:=.lst (cj xs lo hi)) (fun b ob q=>Heap.get?_push_of_some _ q) (Nat.le_refl _) ?_,rfl,q _ (I.hok.fresh (Nat.le_refl _))⟩
 exact ⟨Nat.le_trans (gW xs lo hi) hz,_,0,(r.drop (HT.sIx xs.length 0 lo)).take (HT.sIx xs.length xs.length hi - HT.sIx xs.length 0 lo),Heap.get?_push_size _ rfl⟩
def cO:V -> Bool
 | .non=>true
 | .bl _=>true
 | .int _=>true
 | .str _=>true
 | _=>false
def eqV:V -> V -> Bool
 | .non,.non=>true
 | .bl a,.bl b=>a == b
 | .bl a,.int b=>(if a then 1 else 0) == b
 | .int a,.bl b=>a == (if b then 1 else 0)
 | .int a,.int b=>a == b
 | .str a,.str b=>a == b
 | _,_=>false
theorem sP {A:Around} {s:Shared} {y x:V} {u v:Value} (ry:aY y u) (rx:aY x v) (fy:cO y=true) (fx:cO x=true):SeqAt.EqAt A s u v (eqV y x):=by
 cases y with
 | non =>
  cases ry
  cases x with
  | non=>cases rx; exact SeqAt.EqAt.same _
  | bl b=>cases rx; exact SeqAt.EqAt.none_bool b
  | int b=>obtain ⟨t,rfl⟩:=rx; exact SeqAt.EqAt.none_int b t
  | str b=>obtain ⟨t,rfl⟩:=rx; exact SeqAt.EqAt.none_str b t
  | _=>exact absurd (show false=true from fx) Bool.false_ne_true
 | bl a =>
  cases ry
  cases x with
  | non=>cases rx; exact SeqAt.EqAt.bool_none a
  | bl b=>cases rx; exact SeqAt.EqAt.bool_bool a b
  | int b=>obtain ⟨t,rfl⟩:=rx; exact SeqAt.EqAt.bool_int a b t
  | str b=>obtain ⟨t,rfl⟩:=rx; exact SeqAt.EqAt.bool_str a b t
  | _=>exact absurd (show false=true from fx) Bool.false_ne_true
 | int a =>
  obtain ⟨t',rfl⟩:=ry
  cases x with
  | non=>cases rx; exact SeqAt.EqAt.int_none a t'
  | bl b=>cases rx; exact SeqAt.EqAt.int_bool a t' b
  | int b=>obtain ⟨t,rfl⟩:=rx; exact SeqAt.EqAt.int_int a t' b t
  | str b=>obtain ⟨t,rfl⟩:=rx; exact SeqAt.EqAt.int_str a t' b t
  | _=>exact absurd (show false=true from fx) Bool.false_ne_true
 | str a =>
  obtain ⟨t',rfl⟩:=ry
  cases x with
  | non=>cases rx; exact SeqAt.EqAt.str_none a t'
  | bl b=>cases rx; exact SeqAt.EqAt.str_bool a t' b
  | int b=>obtain ⟨t,rfl⟩:=rx; exact SeqAt.EqAt.str_int a t' b t
  | str b=>obtain ⟨t,rfl⟩:=rx; exact SeqAt.EqAt.str_str a t' b t
  | _=>exact absurd (show false=true from fx) Bool.false_ne_true
 | _=>exact absurd (show false=true from fy) Bool.false_ne_true
def eqU (x:V) (u:Value):Bool:=match u with
 | .none=>eqV .non x
 | .bool b=>eqV (.bl b) x
 | .int i _=>eqV (.int i) x
 | .str z _=>eqV (.str z) x
 | _=>false
theorem sQ {x y:V} {u:Value} (r:aY y u) (f:cO y=true):eqU x u=eqV y x:=by
 cases y with
 | non=>cases r; rfl
 | bl b=>cases r; rfl
 | int i=>obtain ⟨t,rfl⟩:=r; rfl
 | str z=>obtain ⟨t,rfl⟩:=r; rfl
 | _=>exact absurd (show false=true from f) Bool.false_ne_true
theorem kC {x:V}:∀ {xs:List V} {us:List Value},bh xs us -> xs.all cO=true -> us.any (eqU x)=xs.any fun y=>eqV y x
 | _,_,.nil,_=>rfl
 | y :: xs,u :: us,.cons r t,f=>by
  rw [List.all_cons,Bool.and_eq_true] at f
  rw [List.any_cons,List.any_cons,sQ r f.1,kC t f.2]
theorem iS {A:Around} {s:Shared} {x:V} {v:Value} (rx:aY x v) (fx:cO x=true):∀ {xs:List V} {us:List Value},bh xs us -> xs.all cO=true -> ∀ u ∈ us,SeqAt.EqAt A s u v (eqU x u)
 | _,_,.nil,_=>fun u hu=>by cases hu
 | y :: xs,u :: us,.cons r t,f=>fun u' hu=>by
  rw [List.all_cons,Bool.and_eq_true] at f
  rcases List.mem_cons.mp hu with rfl | hu
  ·rw [sQ r f.1]; exact sP r rx f.1 fx
  ·exact iS rx fx t f.2 u' hu
def inV (x:V) (xs:List V):Bool:=xs.any fun y=>eqV y x
def rIn (K:PySem.W.Frag) (neg:Bool):R2:=fun x y H Q=>∃ p xs,y=.ref p /\ (SqL K H p xs \/ SqT K H p xs) /\ cO x=true /\ xs.all cO=true /\ Q (.bl (if neg then !inV x xs else inV x xs)) H
theorem fw:OpR X (compareOp .In) (rIn X.K false):=by
 intro pins s σ H x y v u Q I rx ry h
 obtain ⟨p,xs,rfl,hq,fx,fs,q⟩:=h
 cases ry
 rcases hq with hq | hq
 ·obtain ⟨its,r,pl,hz⟩:=I.list hq
  refine SeqAt.in_listAt (eqU x) pl.isList (fun w hw=>iS rx fx r fs w (by simpa using hw)) ⟨.bl _,H,I,rfl,?_⟩
  rw [show its.toArray.any (eqU x)=its.any (eqU x) by simp,kC r fs]
  exact q
 ·obtain ⟨its,r,pl,hz⟩:=I.tuple hq
  refine SeqAt.in_tupleAt (eqU x) pl (fun w hw=>iS rx fx r fs w (by simpa using hw)) ⟨.bl _,H,I,rfl,?_⟩
  rw [show its.toArray.any (eqU x)=its.any (eqU x) by simp,kC r fs]
  exact q
theorem aK:cU X (.builtin "len") (fun xs H Q=>∃ p ys,xs=[.ref p] /\ (SqL X.K H p ys \/ SqT X.K H p ys) /\ Q (.int ys.length) H):=by
 intro pins s σ H xs us Q I r h
 obtain ⟨p,ys,rfl,hq,q⟩:=h
 obtain ⟨u,rfl,rx⟩:=eW r
 cases rx
 have hn:=kz
 rcases hq with hq | hq
 ·obtain ⟨its,r',pl,hz⟩:=I.list hq
  have hlen:=r'.length
  exact Calls.call_len_list pl.isList (by simp only [List.size_toArray] <;> lia) ⟨.int ys.length,H,I.tok _,⟨s.toks + 1,by rw [List.size_toArray,hlen]⟩,q⟩
 ·obtain ⟨its,r',pl,hz⟩:=I.tuple hq
  have hlen:=r'.length
  exact len_tuple pl (by simp only [List.size_toArray] <;> lia) ⟨.int ys.length,H,I.tok _,⟨s.toks + 1,by rw [List.size_toArray,hlen]⟩,q⟩
theorem gg:cU X (.builtin "len") (fun xs H Q=>∃ z,xs=[.str z] /\ z.length <= sizeLine /\ Q (.int z.length) H):=by
 intro pins s σ H xs us Q I r h
 obtain ⟨z,rfl,hz,q⟩:=h
 obtain ⟨u,rfl,t,rfl⟩:=eW r
 have hn:=kz
 exact len_str (by lia) ⟨.int z.length,H,I.tok _,⟨_,rfl⟩,q⟩
theorem kD:cU X (.type "list") (fun xs H Q=>∃ p ys,xs=[.ref p] /\ (SqL X.K H p ys \/ SqT X.K H p ys) /\ ∀ l,H l=none -> Q (.ref l) (upd H l (.lst ys))):=by
 intro pins s σ H xs us Q I r h
 obtain ⟨p,ys,rfl,hq,q⟩:=h
 obtain ⟨u,rfl,rx⟩:=eW r
 cases rx
 have fin:∀ (its:List Value),bh ys its -> ys.length <= sizeLine -> ∀ (h':Heap) (c':Nat),(∀ b o',s.heap.get? b=some o' -> h'.get? b=some o') ->
   h'.get? s.heap.objs.size=some { cls:=.type "list",dict:=none,data:=.seq its.toArray c',slots:=#[] } -> EP X pins σ Q (.ref s.heap.objs.size) { s with heap:=h' }:=fun its r' hz h' c' kp e =>
  ⟨.ref s.heap.objs.size,_,I.laid (t':=s.toks) kp (Nat.le_refl _) (show ck X.prog X.w _ h' _ (.lst ys) from ⟨hz,its,c',r',e⟩),rfl,q _ (I.hok.fresh (Nat.le_refl _))⟩
 rcases hq with hq | hq
 ·obtain ⟨its,r',pl,hz⟩:=I.list hq
  have hlen:=r'.length
  obtain ⟨o,ho,hc,n,hd⟩:=pl.isList
  exact call_list_seq p (.inl rfl) ho hc hd (fun h' c' kp e=>fin its r' hz h' c' kp e) (by simp only [List.size_toArray] <;> lia)
 ·obtain ⟨its,r',pl,hz⟩:=I.tuple hq
  have hlen:=r'.length
  obtain ⟨o,ho,hc,n,hd⟩:=pl
  exact call_list_seq p (.inr rfl) ho hc hd (fun h' c' kp e=>fin its r' hz h' c' kp e) (by simp only [List.size_toArray] <;> lia)
theorem jE:cU X (.type "tuple") (fun xs H Q=>∃ p ys,xs=[.ref p] /\ ((SqL X.K H p ys /\ ∀ l,H l=none -> Q (.ref l) (upd H l (.tup ys))) \/ (SqT X.K H p ys /\ Q (.ref p) H))):=by
 intro pins s σ H xs us Q I r h
 obtain ⟨p,ys,rfl,h⟩:=h
 obtain ⟨u,rfl,rx⟩:=eW r
 cases rx
 rcases h with ⟨hq,q⟩ | ⟨hq,q⟩
 ·obtain ⟨its,r',pl,hz⟩:=I.list hq
  have hlen:=r'.length
  refine call_tuple_list pl.isList (fun h' kp=>?_) (by simp only [List.size_toArray] <;> lia)
  have I1:Inv X pins σ H { s with heap:=h' }:=I.kept (t':=s.toks) kp
  have I2:Inv X pins σ (upd H h'.objs.size (.tup ys)) { s with heap:=h'.push { cls:=.type "tuple",data:=.seq its.toArray } } :=
   I1.laid (t':=s.toks) (fun b o e=>Heap.get?_push_of_some _ e) (Nat.le_refl _) (show ck X.prog X.w _ _ _ (.tup ys) from ⟨hz,its,r',IsTup.new _ _⟩)
  exact ⟨.ref h'.objs.size,_,I2,rfl,q _ (I1.hok.fresh (Nat.le_refl _))⟩
 ·obtain ⟨its,r',pl,hz⟩:=I.tuple hq
  exact call_tuple_same pl ⟨.ref p,H,I,rfl,q⟩
def tyV (K:PySem.W.Frag) (T:String) (x:V) (H:Hp):Prop:=match x with
 | .str _=>T="str"
 | .int _=>T="int"
 | .ref p=>(T="list" /\ ∃ xs,SqL K H p xs) \/ (T="tuple" /\ ∃ o,K.lookup p=some o /\ o.cls=.type "tuple" /\ o.dict=none) \/
   (T="dict" /\ ((∃ kvs,H p=some (.dK kvs)) \/ ∃ kvs,H p=some (.dT kvs))) \/ (T="set" /\ ∃ S n,H p=some (.set S n))
 | _=>False
theorem tyV_is {pins:List (Addr × Obj)} {σ:St} {H:Hp} {s:Shared} {T:String} {x:V} {v:Value} (I:Inv X pins σ H s) (r:aY x v) (ty:tyV X.K T x H) :
  s.TypeIs v T /\ ∀ a,v=.ref a -> ∃ ob,s.heap.get? a=some ob /\ ob.dict=none:=by
 cases x with
 | str z =>
  obtain ⟨t,rfl⟩:=r
  cases (show T="str" from ty)
  exact ⟨typeIs_str s z t,fun _ e=>nomatch e⟩
 | int i =>
  obtain ⟨t,rfl⟩:=r
  cases (show T="int" from ty)
  exact ⟨typeIs_int s i t,fun _ e=>nomatch e⟩
 | ref p =>
  cases r
  rcases ty with ⟨rfl,xs,hq⟩ | ⟨rfl,o,hk,hc,hd⟩ | ⟨rfl,hk⟩ | ⟨rfl,S,n,hk⟩
  ·obtain ⟨its,_,pl,_⟩:=I.list hq
   refine ⟨pl.isList.typeIs,fun a e=>?_⟩
   cases e
   obtain ⟨o,n,e,c,hd,_⟩:=pl
   exact ⟨o,e,hd⟩
  ·refine ⟨⟨o,I.kIn p o hk,hc⟩,fun a e=>?_⟩
   cases e
   exact ⟨o,I.kIn _ o hk,hd⟩
  ·have z:∃ o,s.heap.get? p=some o /\ o.ExactDict:=by
    rcases hk with ⟨kvs,hk⟩ | ⟨kvs,hk⟩
    ·obtain ⟨_,_,_,_,o,_,_,e,ex,_⟩:=I.hok p _ hk
     exact ⟨o,e,ex⟩
    ·obtain ⟨_,_,_,_,o,_,_,e,ex,_⟩:=I.hok p _ hk
     exact ⟨o,e,ex⟩
   obtain ⟨o,e,ex⟩:=z
   refine ⟨⟨o,e,ex.1⟩,fun a e2=>?_⟩
   cases e2
   exact ⟨o,e,ex.2.1⟩
  ·obtain ⟨o,_,_,_,e,ex,_⟩:=I.hok p _ hk
   refine ⟨⟨o,e,ex.1⟩,fun a e2=>?_⟩
   cases e2
   exact ⟨o,e,ex.2.1⟩
 | _=>exact False.elim ty
def tBM (K:PySem.W.Frag) (T:String) (r:V -> List V -> Hp -> VK -> Prop) (to:TE) (t:TA):TE:=fun σ H Q=>to σ H fun x H1=>tyV K T x H1 /\ t σ H1 fun xs H2=>r x xs H2 Q
variable {o e:Expr} {es:List Expr} {to:TE} {t:TA} {name:Str} {apos cpos:Pos} {T id:String} {r:V -> List V -> Hp -> VK -> Prop}
theorem jS (pa:PlainAttrs T) (slot:Slot T name id) (hty:typeOf (.builtin id)=pure (.type "method_descriptor")) (hm:MtR X id r) (ho:PE X o to) (ha:PA X (e :: es) t)
  (hbase:attributeBase o name X.env (eval o X.env)=eval o X.env:=by rfl)
  (hfew:((backTo cpos (starEach (e :: es) X.env)).all (fun x=>!x.1) && (backToKw cpos (keywordEach [] X.env)).all (fun x=>x.1.isSome)
   && decide ((e :: es).length + ([]:List Keyword).length + (if ([]:List Keyword).isEmpty then 0 else 1) < 30))=true:=by rfl)
  (hline:(apos.endLine == cpos.line)=true:=by rfl) (hs:starEach (e :: es) X.env=(false,eval e X.env) :: starEach es X.env:=by rfl) (hplain:(backTo cpos (starEach es X.env)).any (·.1)=false:=by rfl) :
  PE X (.Call (.Attribute o name apos) (e :: es) [] cpos) (tBM X.K T r to t):=by
 intro pins s σ H Q I h
 refine wpAny_Call_method_late hbase hfew hline rfl (thn (ho pins s σ H _ I h) fun v s1 ⟨x,H1,I1,r1,ty,q1⟩=>?_)
 obtain ⟨h1,h2⟩:=tyV_is I1 r1 ty
 refine ⟨T,id,pa,slot,hty,h1,h2,?_⟩
 have hA:=ha cpos pins s1 σ H1 _ I1 q1
 rw [hs] at hA ⊢
 refine Calls.callWith_builtin (by show (false || (backTo cpos (starEach es X.env)).any (·.1))=false; rw [hplain] <;> rfl) (Calls.evalArgs_plain ?_)
 exact thn hA fun us s2 ⟨vs,H2,I2,r2,q2⟩=>hm pins s2 σ H2 x vs v us Q I2 r1 r2 q2
end
def MtM (X:Cx) (id:String) (r:V -> List V -> Hp -> VK -> Prop):Prop :=
 ∀ (pins:List (Addr × Obj)) (s:Shared) (σ:St) (H:Hp) (x:V) (xs:List V) (v:Value) (us:List Value) (Q:VK),Inv X pins σ H s -> aY x v -> bh xs us -> r x xs H Q ->
  wpAny (model X.prog X.w) X.A (call (.builtin id) (v :: us)) (EP X pins σ Q) X.xe s
theorem bh.one:∀ {x:V} {us:List Value},bh [x] us -> ∃ u,us=[u] /\ aY x u
 | _,_,.cons r .nil=>⟨_,rfl,r⟩
theorem bh.rep {xs:List V} {us:List Value} (h:bh xs us):∀ k:Nat,bh (List.replicate k xs).flatten (List.replicate k us).flatten
 | 0=>.nil
 | k + 1=>by
  rw [List.replicate_succ,List.replicate_succ,List.flatten_cons,List.flatten_cons]
  exact bh.append h (bh.rep h k)
theorem jT (its:List Value):∀ (k:Nat) (acc:List Value),
  List.foldl (fun x1 x2=>x1 ++ x2) acc.toArray (List.replicate k its.toArray)=(acc ++ (List.replicate k its).flatten).toArray
 | 0,acc=>by simp
 | k + 1,acc=>by
  have e:acc.toArray ++ its.toArray=(acc ++ its).toArray:=by simp
  have e2:(acc ++ its) ++ (List.replicate k its).flatten=acc ++ (List.replicate (k + 1) its).flatten:=by
   rw [List.replicate_succ,List.flatten_cons,List.append_assoc]
  rw [<- e2,<- jT its k (acc ++ its),<- e,List.replicate_succ,List.foldl_cons]
section
variable {X:Cx} {pins:List (Addr × Obj)} {σ:St} {H:Hp} {s:Shared} {l b:Addr} {xs ys zs:List V}
theorem Inv.lset {its its':List Value} {n:Nat} {f:Array Value -> Array Value} {t':Nat} (I:Inv X pins σ H s) (hH:H l=some (.lst xs))
  (e:s.heap.get? l=some { cls:=.type "list",data:=.seq its.toArray n }) (hf:f its.toArray=its'.toArray) (hv:bh ys its') (hz:ys.length <= sizeLine) :
  Inv X pins σ (upd H l (.lst ys)) { s with heap:=s.heap.update l (Obj.mapSeq f),toks:=t' }:=by
 have q:=PySem.IsL.update e f
 rw [hf] at q
 refine I.write (x:=l) (e:=l) (by rw [hH]; exact trivial) (.inl rfl) (fun b' u hb hu=>(Heap.get?_update_other s.heap (Obj.mapSeq f) (Ne.symm hb)).trans hu) ⟨_,q⟩ ?_
 exact ⟨hz,its',_,hv,q⟩
theorem Inv.lnew {its:List Value} {t':Nat} (I:Inv X pins σ H s) (hv:bh ys its) (hz:ys.length <= sizeLine) :
  Inv X pins σ (upd H s.heap.objs.size (.lst ys)) { s with heap:=s.heap.push { cls:=.type "list",data:=.seq its.toArray },toks:=t' } :=
 I.laid (fun _ _ q=>Heap.get?_push_of_some _ q) (Nat.le_refl _) ⟨hz,its,0,hv,Heap.get?_push_size _ rfl⟩
theorem Inv.fresh (I:Inv X pins σ H s):H s.heap.objs.size=none:=I.hok.fresh (Nat.le_refl _)
theorem Inv.lstM (I:Inv X pins σ H s) (hH:H l=some (.lst xs)):xs.length <= sizeLine /\ ∃ (its:List Value) (n:Nat),bh xs its /\ xs.length=its.length /\ s.heap.get? l=some { cls:=.type "list",data:=.seq its.toArray n }:=by
 obtain ⟨z,its,n,r,e⟩:=I.hok l _ hH
 exact ⟨z,its,n,r,r.length,e⟩
theorem sR {n:Nat} (h:n <= sizeLine):Builtin.List.listTooLong n=false:=by
 unfold Builtin.List.listTooLong
 exact decide_eq_false (by lia)
end
section
variable {X:Cx}
def rAppend:V -> List V -> Hp -> VK -> Prop:=fun x vs H Q=>∃ l xs y,x=.ref l /\ vs=[y] /\ H l=some (.lst xs) /\ xs.length < sizeLine /\ Q .non (upd H l (.lst (xs ++ [y])))
theorem jU:MtM X "list.append" rAppend:=by
 intro pins s σ H x vs v us Q I rx rv h
 obtain ⟨l,xs,y,rfl,rfl,hH,hz,q⟩:=h
 cases rx
 obtain ⟨u,rfl,ru⟩:=rv.one
 obtain ⟨z,its,n,r,hl,e⟩:=I.lstM hH
 refine call_meets F.slot_list_append ⟨_,e,rfl⟩ F.entry_list_append (F.args_list_append_2 _ _) (PySem.list_append l its.toArray n u (by rw [List.size_toArray]; lia)) ⟨e,?_⟩
 refine ⟨.non,_,I.lset (its':=its ++ [u]) hH e (by simp) (r.append (.cons ru .nil)) ?_,rfl,q⟩
 rw [List.length_append,List.length_singleton]
 lia
def rCat:R2:=fun x y H Q=>∃ l b xs zs,x=.ref l /\ y=.ref b /\ H l=some (.lst xs) /\ H b=some (.lst zs) /\ xs.length + zs.length <= sizeLine /\ ∀ p,H p=none -> Q (.ref p) (upd H p (.lst (xs ++ zs)))
theorem op_cat:OpR X (binaryOp .Add) rCat:=by
 intro pins s σ H x y v u Q I rx ry h
 obtain ⟨l,b,xs,zs,rfl,rfl,hH,hB,hz,q⟩:=h
 cases rx
 cases ry
 obtain ⟨z,its,n,r,hl,e⟩:=I.lstM hH
 obtain ⟨z2,its2,n2,r2,hl2,e2⟩:=I.lstM hB
 refine PySem.P.add_list e e2 ?_ (by rw [List.size_toArray,List.size_toArray]; lia)
 have ea:its.toArray ++ its2.toArray=(its ++ its2).toArray:=by simp
 rw [ea]
 exact ⟨.ref _,_,I.lnew (t':=s.toks) (r.append r2) (by rw [List.length_append]; lia),rfl,q _ I.fresh⟩
def rRep:R2:=fun x y H Q=>∃ l k xs,x=.ref l /\ y=.int k /\ H l=some (.lst xs) /\ -(2 ^ 63) <= k /\ k < 2 ^ 63 /\ xs.length * k.toNat <= sizeLine /\
 ∀ p,H p=none -> Q (.ref p) (upd H p (.lst (List.replicate k.toNat xs).flatten))
theorem len_rep {α:Type} (xs:List α) (k:Nat):(List.replicate k xs).flatten.length=k * xs.length:=by
 induction k with
 | zero=>simp
 | succ k ih=>rw [List.replicate_succ,List.flatten_cons,List.length_append,ih,Nat.succ_mul,Nat.add_comm]
theorem op_rep:OpR X (binaryOp .Mult) rRep:=by
 intro pins s σ H x y v u Q I rx ry h
 obtain ⟨l,k,xs,rfl,rfl,hH,h1,h2,hz,q⟩:=h
 cases rx
 obtain ⟨t,rfl⟩:=ry
 obtain ⟨z,its,n,r,hl,e⟩:=I.lstM hH
 have hlen:its.toArray.size * k.toNat <= sizeLine:=by rw [List.size_toArray,<- hl]; exact hz
 have hcap:¬ its.toArray.size * k.toNat > (2 ^ 63 - 1) / 8:=by
  have:(sizeLine:Nat) <= (2 ^ 63 - 1) / 8:=by decide
  lia
 have hfit:¬ (!Builtin.List.listFitsIndex k)=true:=by
  rw [fitsIndex_both h1 h2]
  exact Bool.false_ne_true
 have hlong:¬ Builtin.List.listTooLong (its.toArray.size * k.toNat)=true:=by
  rw [sR hlen]
  exact Bool.false_ne_true
 have hnew:List.foldl (fun x1 x2=>x1 ++ x2) #[] (List.replicate (if its.toArray.isEmpty=true then 0 else k.toNat) its.toArray)=(List.replicate k.toNat its).flatten.toArray:=by
  have f0:∀ m:Nat,List.foldl (fun x1 x2=>x1 ++ x2) #[] (List.replicate m its.toArray)=(List.replicate m its).flatten.toArray:=fun m=>by
   have:=jT its m []
   rw [List.nil_append] at this
   exact this
  rw [f0]
  cases its with
  | nil=>simp
  | cons a r'=>rw [if_neg (by simp)]
 refine wpAny_binaryOp_repeat_ref (T:="list") (U:="int") (by decide) ⟨_,e,rfl⟩ (fun s'=>typeIs_int s' k t) noFill_list_mul F.fills_int_mul F.slot_int_rmul repeat_list F.slot_int_index.lookup
  (call_meets F.slot_int_rmul (typeIs_int s k t) F.entry_int_rmul (F.args_int_rmul_2 _ _) (int___rmul___int_list k t l its.toArray n)
   ⟨e,rfl,⟨_,e,rfl⟩,call_meets F.slot_list_mul ⟨_,e,rfl⟩ F.entry_list_mul (F.args_list_mul_2 _ _) (AutoListH.list___mul___list_int_3 l its.toArray n k t hfit hcap hlong) ⟨e,?_⟩⟩)
 rw [hnew]
 exact ⟨.ref _,_,I.lnew (t':=s.toks) (r.rep k.toNat) (by rw [len_rep,Nat.mul_comm]; exact hz),rfl,q _ I.fresh⟩
end
section
variable {prog:Program} {w:World} {A:Around} {E:Value -> Shared -> Prop} {s:Shared}
end
section
variable {X:Cx}
end
end L2
namespace Att
open PySem PySem.W PySem.Calls PyProof.Rows
theorem ic {P:Params} {h:Heap}:∀ (ns:List Int) (vs:List Value),WellAll P h vs (ns.map WData.int) -> IntsAre vs ns:=by
 intro ns
 induction ns with
 | nil =>
  intro vs w
  rw [List.map_nil] at w
  cases w
  exact .nil
 | cons n ns ih =>
  intro vs w
  rw [List.map_cons] at w
  cases w with
  | cons a b =>
   cases a
   exact .cons _ _ (ih _ b)
theorem qG {l:OpenLaw} {n:Nat} (hn:l.most=some n) {P:Params} {h:Heap} {args:List WData} {vals:List Value}
  (hpre:l.row.toRowW.claim.pre args=true) (hwl:WellAll P h vals args) :
  ∃ a vs ns,vals=[Value.ref a] /\ args=[WData.list (ns.map WData.int)] /\ h.get? a=some { cls:=.type "list",data:=.seq vs.toArray } /\ IntsAre vs ns /\ ns.length <= n:=by
 have hsh:WShape.hasAll [] args [.list .int]=true:=(pre_splitW hpre).1
 have hc:l.pre.holds [] { args:=args }=true:=(pre_splitW hpre).2
 obtain ⟨d,r,rfl,h1,h2⟩:=hasAllW_cons hsh
 obtain rfl:=hasAllW_nil h2
 obtain ⟨xs,rfl,h3⟩:=hasW_list h1
 obtain ⟨ns,rfl⟩:=items_int h3
 have hlen:ns.length <= n:=by
  unfold OpenLaw.pre at hc
  have h4:(WTm.not (.lt (.lit (.int (n:Int))) (.len (.arg 0)))).holds [] { args:=[.list (ns.map .int)] }=true:=by
   have h4:=(holds_andW hc).1
   rw [hn] at h4
   exact h4
  have h5:=condW_of h4 (w_not (w_lt w_lit (w_len_list (w_arg rfl))))
  rw [List.length_map] at h5
  refine Nat.le_of_not_lt fun q=>?_
  have q':(n:Int) < ((ns.length:Nat):Int):=by lia
  first
   | (rw [decide_eq_true q'] at h5; exact absurd h5 (by decide))
   | (simp at h5; lia)
 cases hwl with
 | cons w1 w2 =>
  cases w2
  cases w1 with
  | list ho hall=>exact ⟨_,_,ns,rfl,rfl,ho,ic ns _ hall,hlen⟩
theorem qH (l:OpenLaw) (args:List WData):l.row.toRowW.claim.post args (.bool true) args=true :=
 postW_of (r:=l.row.toRowW) (X:=(true == true))
  (show WShape.has [] (.bool true) .bool=true by first | rfl | decide | simp [WShape.has,WShape.arms,WShape.armsAll])
  (show (WTm.eq .res (.lit (.bool true))).value [] { args:=args,res:=some (.bool true),after:=args }=some (.bool (true == true)) from w_eq_bool (w_res rfl) w_lit) rfl
theorem mz {l:OpenLaw} {n:Nat} {q:Program} {loose:List Str} {XP:(Str -> Option Value) -> Heap -> Prop} {YP:World -> Heap -> Prop} {d:DefRec}
  (hn:l.most=some n) (hdf:d.params.defaults=[])
  (call:∀ (w:World) (s₀ s₁:Shared) (mg mb:Str -> Option Value) (fa:Addr) (o:Obj) (pm cd doc:Value) (a:Addr) (vs:List Value) (ns:List Int),
   Ground q loose [] XP w s₀ mg mb s₁.heap -> YP w s₁.heap ->
   s₁.heap.get? fa=some o -> o.data=.func (docDef d.name d.params d.body d.scope pm cd doc) -> s₁.heap.CodeRec cd d.name -> mg d.name=some (.ref fa) ->
   s₁.heap.get? a=some { cls:=.type "list",data:=.seq vs.toArray } -> IntsAre vs ns -> ns.length <= n -> s₁.gens=#[] ->
   codeAny (model l.prog w) callerA (.call (.ref fa) ⟨[.ref a],[]⟩) (fun r s'=>r=.ok (.ret (.bool true)) /\ OldK s₁.heap s'.heap /\ s'.os=s₁.os /\ AllBare s'.gens) s₁) :
  WalkO q loose XP YP l.row.toRowW d [] (fun f vs=>PySem.call f vs):=by
 intro w s₀ s₁ mg mb G Y fa o pm cd doc dV kV ho hd hcd hD hmg hg args vals as hpre hlay hrd hwl hlo
 obtain rfl:dV=.none:=Dflts.none hD hdf
 obtain rfl:kV=.none:=Dflts.noKw hD
 obtain ⟨a,vs,ns,rfl,rfl,hobj,hints,hlen⟩:=qG hn hpre hwl
 refine enter_call (codeAny_mono (call w s₀ s₁ mg mb fa o pm cd doc a vs ns G Y ho (fd_plain hd) hcd hmg hobj hints hlen hg) fun r s' hq=>?_)
 obtain ⟨rfl,h2,h3,h4⟩:=hq
 exact ⟨.inl ⟨.bool true,.bool true,[],rfl,fun _=>rfl,.bool true,qH l _,fun _=>⟨List.Pairwise.nil,fun _ hm=>(nomatch hm)⟩⟩,h2,h3,h4⟩
section
variable {prog:Program} {w:World} {A:Around} {E:Value -> Shared -> Prop} {s:Shared} {K:Frag}
end
end Att
namespace L2
open PySem PySem.Spec PyProof.Rows
theorem jV:∀ {vs:List Value} {ns:List Int},IntsAre vs ns -> bh (ns.map V.int) vs
 | _,_,.nil=>.nil
 | _,_,.cons n t h=>.cons ⟨t,rfl⟩ (jV h)
def Only (H:Hp):Prop:=∀ b,H b=none \/ ∃ o xs,H b=some (.frz o (.lst xs))
theorem sS {P:Program} {w:World} {K:PySem.W.Frag} {mg mb:Str -> Option Value} {CX:CXT} {k:Nat} {fa a:Addr} {fd:FuncData} {x:Str} {sp:Sp} {s₁:Shared} {vs:List Value} {ns:List Int}
  (KX:K.In s₁.heap) (hns:s₁.heap.Ns mainGlobals mg) (hb:s₁.heap.Ns builtinsNs mb) (hbb:∀ x:Str,x ≠ "__name__" -> mb x=bootBuiltins x) (hlim:s₁.heap.NoLimit) (hg:s₁.gens=#[])
  (ha:s₁.heap.get? a=some { cls:=.type "list",data:=.seq vs.toArray }) (hi:IntsAre vs ns) (hl:ns.length <= sizeLine) (hr:bi k callerA)
  (F:∀ base:Heap,K.In base -> base.Ns mainGlobals mg -> aP P w K mg base CX k fa fd [x] sp) (hbind:∀ (s:Shared) (u:Value),BindsTo s fd ⟨[u],[]⟩ [(x,u)])
  (hsp:∀ H:Hp,Only H -> SqL K H a (ns.map V.int) -> sp [.ref a] H (fun v _=>v=.bl true) fun _ _ _=>False)
  (hCX:∀ H e s',CX [] H s₁ (fun _ _ _=>False) e s' -> False) :
  codeAny (model P w) callerA (.call (.ref fa) ⟨[.ref a],[]⟩) (fun r s'=>r=.ok (.ret (.bool true)) /\ OldK s₁.heap s'.heap /\ s'.os=s₁.os /\ AllBare s'.gens) s₁:=by
 have rv:=jV hi
 have lenV:=hi.length
 have core:∀ H:Hp,Only H -> SqL K H a (ns.map V.int) -> HOk P w H s₁.heap -> (∀ b,H b ≠ none -> b=a) -> (H a ≠ none -> K.lookup a=none) ->
   codeAny (model P w) callerA (.call (.ref fa) ⟨[.ref a],[]⟩) (fun r s'=>r=.ok (.ret (.bool true)) /\ OldK s₁.heap s'.heap /\ s'.os=s₁.os /\ AllBare s'.gens) s₁:=by
  intro H hO hS hok hA hK
  have base_of:∀ {b:Addr} {o:Obj},s₁.heap.get? b=some o -> H b=none -> (ko s₁.heap H).get? b=some o:=fun e n=>su e n
  have noA:∀ {b:Addr} {o:Obj} {es:Array DictEntry} {ep:Nat},s₁.heap.get? b=some o -> o.data=.dict es ep -> H b=none:=fun {b o es ep} e d=>by
   cases q:H b with
   | none=>rfl
   | some u =>
    have e':b=a:=hA b (by rw [q]; simp)
    subst e'
    rw [ha] at e; cases e
    have d':Data.seq vs.toArray _=Data.dict es ep:=d
    cases d'
  have nsK:∀ {b:Addr} {m:Str -> Option Value},s₁.heap.Ns b m -> (ko s₁.heap H).Ns b m:=fun {b m} ⟨o,es,ep,e,d,r⟩=>⟨o,es,ep,base_of e (noA e d),d,r⟩
  have hKb:K.In (ko s₁.heap H):=fun b o e=>base_of (KX b o e) (by
   cases q:H b with
   | none=>rfl
   | some u =>
    have e':b=a:=hA b (by rw [q]; simp)
    subst e'
    rw [hK (by rw [q]; simp)] at e; cases e)
  have hM:Mod K mg (ko s₁.heap H):=⟨hKb,nsK hns,⟨mb,nsK hb,hbb⟩,let ⟨mc,h1,h2⟩:=hlim; ⟨mc,nsK h1,h2⟩⟩
  have e0:nQ P w K mg (ko s₁.heap H) callerA [] s₁ H:=⟨rfl,hM,fun b o e=>of_hidT e,Nat.le_of_eq (qv _ _),trivial,fun b hb=>absurd (show b ∈ ([]:List Addr) from hb) (by simp),hok,.of_eq hg⟩
  refine codeAny_mono ((F _ hKb (nsK hns)).run callerA [] s₁ H ⟨[.ref a],[]⟩ [.ref a] [.ref a] _ _ hr e0 (hbind s₁ (.ref a)) (.cons rfl .nil) (hsp H hO hS)) fun r s' h=>?_
  cases r with
  | error e=>exact (hCX H e s' h).elim
  | ok fl =>
   cases fl with
   | next=>exact False.elim h
   | brk=>exact False.elim h
   | cont=>exact False.elim h
   | ret u =>
    obtain ⟨v,H',os,bare,un,hok',r',q⟩:=h
    have q':v=.bl true:=q
    subst q'
    obtain rfl:u=Value.bool true:=r'
    refine ⟨rfl,OldK.of_keep fun b o e=>?_,os,bare⟩
    cases q:H b with
    | none=>exact un.keep b o e q (by intro z; exact absurd (show b ∈ ([]:List Addr) from z) (by simp)) (by simp)
    | some u =>
     rcases hO b with z | ⟨ob,xs,z⟩
     ·rw [q] at z; cases z
     ·have z2:=un.frzs b ob _ z
      obtain ⟨e1,_⟩:=hok b _ z
      obtain ⟨e2,_⟩:=hok' b _ z2
      rw [e] at e1; cases e1
      exact e2
 cases hk:K.lookup a with
 | some o =>
  have e:=KX a o hk
  rw [ha] at e
  cases e
  refine core (fun _=>none) (fun _=>.inl rfl) (.inr ⟨_,vs.toArray,_,hk,rfl,rfl,rfl,by rw [List.size_toArray,lenV]; exact hl,by simpa using rv⟩) (fun b u z=>by have z':(none:Option HO)=some u:=z; cases z') (fun b z=>absurd rfl z) fun z=>absurd rfl z
 | none =>
  refine core (fun b=>if b=a then some (.frz { cls:=.type "list",data:=.seq vs.toArray } (.lst (ns.map V.int))) else none) (fun b=>?_) (.inl (.inr ⟨{ cls:=.type "list",data:=.seq vs.toArray },if_pos rfl⟩)) (fun b u z=>?_) (fun b z=>?_) fun _=>hk
  ·by_cases hb:b=a
   ·exact .inr ⟨_,_,if_pos hb⟩
   ·exact .inl (if_neg hb)
  ·by_cases hb:b=a
   ·have z':=(if_pos hb).symm.trans z
    cases z'
    subst hb
    exact ⟨ha,by rw [List.length_map]; exact hl,vs,_,rv,ha⟩
   ·have z':=(if_neg hb).symm.trans z
    cases z'
  ·by_cases hb:b=a
   ·exact hb
   ·exact absurd (if_neg hb) z
theorem walk_of {l:PySem.W.OpenLaw} {n k:Nat} {q:Program} {loose:List Str} {XP:(Str -> Option Value) -> Heap -> Prop} {YP:World -> Heap -> Prop} {d:DefRec} {K:Params -> PySem.W.Frag} {CX:World -> CXT} {sp:World -> Sp} {x:Str}
  (hn:l.most=some n) (hn2:n <= sizeLine) (hdf:d.params.defaults=[]) (hr:bi k callerA)
  (hY:∀ (w:World) (h:Heap),YP w h -> (K w.params).In h)
  (F:∀ (w:World) (mg:Str -> Option Value) (fa:Addr) (h:Heap),(K w.params).In h -> h.Ns mainGlobals mg -> mg d.name=some (.ref fa) ->
   ∃ fd:FuncData,(∀ (s:Shared) (u:Value),BindsTo s fd ⟨[u],[]⟩ [(x,u)]) /\
    ∀ base:Heap,(K w.params).In base -> base.Ns mainGlobals mg -> aP l.prog w (K w.params) mg base (CX w) k fa fd [x] (sp w))
  (hsp:∀ (w:World) (H:Hp) (a:Addr) (ns:List Int),ns.length <= n -> Only H -> SqL (K w.params) H a (ns.map V.int) -> sp w [.ref a] H (fun v _=>v=.bl true) fun _ _ _=>False)
  (hCX:∀ (w:World) (H:Hp) (s:Shared) (e:Value) (s':Shared),CX w [] H s (fun _ _ _=>False) e s' -> False) :
  PySem.W.WalkO q loose XP YP l.row.toRowW d [] (fun f vs=>PySem.call f vs):=by
 refine Att.mz hn hdf fun w s₀ s₁ mg mb fa o pm cd doc a vs ns G Y ho hd hcd hmg hobj hints hlen hg=>?_
 have KX:=hY w _ Y
 obtain ⟨fd,hb,hF⟩:=F w mg fa _ KX G.T.g hmg
 exact sS KX G.T.g G.T.b G.T.builtins G.T.nolimit hg hobj hints (Nat.le_trans hlen hn2) hr hF hb (fun H hO hS=>hsp w H a ns hlen hO hS) fun H e s'=>hCX w H s₁ e s'
def aT (s:Stmt) (j:Nat):Stmt:=match s with
 | .ClassDef _ _ _ body _ _ _ _ _ _ _=>body.getD j (.Pass ⟨0,0,0,0⟩)
 | _=>.Pass ⟨0,0,0,0⟩
def dg (s:Stmt):Arguments:=match s with
 | .FunctionDef _ a _ _ _ _ _ _ _ _=>a
 | _=>{ posonlyargs:=[],args:=[],vararg:=none,kwonlyargs:=[],kw_defaults:=[],kwarg:=none,defaults:=[] }
def cS (s:Stmt):List Stmt:=match s with
 | .FunctionDef _ _ b _ _ _ _ _ _ _=>b
 | _=>[]
def am (s:Stmt):Scope:=match s with
 | .FunctionDef _ _ _ _ _ _ sc _ _ _=>sc
 | _=>{ kind:=.function,names:=[],isGenerator:=false,isCoroutine:=false }
abbrev CX0:CXT:=fun _ _ _ _ _ _=>False
abbrev E0:XK:=fun _ _ _=>False
theorem iT {X:Cx}:eL CX0 X E0:=fun _ _ _ _ _ _ _ h=>h.elim
structure Fun (K:PySem.W.Frag) (x qual:Str) (st:Stmt) (f:Addr) (fd:FuncData):Prop where
 ex:∃ (oc:Value) (od:Option Addr) (kV doc pm:Value) (an:Option Addr) (cdv ct:Value) (osl:Array (Option Value)),
  fd=PySem.W.fnOf x qual (dg st) (cS st) (am st) .none kV doc pm an cdv ct /\ K.lookup f=some ⟨oc,od,.func fd,osl⟩ /\ PySem.W.codeIn K cdv qual=true
 kp:PySem.W.keepIn K (.ref f)=true
section
variable {P:Program} {w:World} {K:PySem.W.Frag} {mg:Str -> Option Value} {base:Heap}
theorem Fun.ok {x qual:Str} {st:Stmt} {f:Addr} {fd:FuncData} {N ps:List Str} {k:Nat} {sp:Sp} (F:Fun K x qual st f fd) (S:ax N ps (am st)) (len:∀ vs H Q E,sp vs H Q E -> vs.length=ps.length)
  (hbody:∀ (cdv:Value) (A:Around) (outer:List Env) (s:Shared) (H:Hp) (vs:List V) (Q:VK) (E:XK),bi k (A.deeper (envOfC qual (am st) s.heap.objs.size f cdv)) -> sp vs H Q E ->
   ∃ t,PSs (bj CX0 P w K mg base N qual (am st) f cdv A outer s H E).nox (cS st) t /\ t { nx:=fun _ H'=>Q .non H',rt:=Q } (eX N vs) H):aP P w K mg base CX0 (k + 1) f fd ps sp:=by
 obtain ⟨oc,od,kV,doc,pm,an,cdv,ct,osl,rfl,lk,hcd⟩:=F.ex
 refine fn_of lk hcd S len fun A outer s H vs Q E hr hsp=>?_
 obtain ⟨t,h,q⟩:=hbody cdv A outer s H vs Q E hr hsp
 exact ⟨t,h.nox,q⟩
theorem Fun.binds {x qual:Str} {st:Stmt} {f:Addr} {fd:FuncData} {ps:List Str} (F:Fun K x qual st f fd)
  (h:∀ (kV doc pm:Value) (an:Option Addr) (cdv ct:Value) (us:List Value),us.length=ps.length -> bindArgs (PySem.W.fnOf x qual (dg st) (cS st) (am st) .none kV doc pm an cdv ct) ⟨us,[]⟩=pure (ps.zip us)):dN K fd ps []:=by
 obtain ⟨oc,od,kV,doc,pm,an,cdv,ct,osl,rfl,lk,hcd⟩:=F.ex
 exact .all (h kV doc pm an cdv ct)
theorem og {x qual:Str} {st:Stmt} {f:Addr} {oc:Value} {od an:Option Addr} {osl:Array (Option Value)} {kV doc pm cdv ct:Value} (l:K.lookup f=some ⟨oc,od,.func (PySem.W.fnOf x qual (dg st) (cS st) (am st) .none kV doc pm an cdv ct),osl⟩)
  (c:PySem.W.codeIn K cdv qual=true) (k:PySem.W.keepIn K (.ref f)=true):Fun K x qual st f (PySem.W.fnOf x qual (dg st) (cS st) (am st) .none kV doc pm an cdv ct):=⟨⟨oc,od,kV,doc,pm,an,cdv,ct,osl,rfl,l,c⟩,k⟩
end
theorem gX {A:Around} {k:Nat} (hr:bi k A):A.units + 1 < cLine:=Nat.lt_of_le_of_lt (Nat.add_le_add_left (by decide:1 <= 64) _) hr.units
theorem bA {n:Nat} (h:n <= 1000):n < sizeLine:=Nat.lt_of_le_of_lt h (by decide)
section
variable {X:Cx}
theorem pv (i:Nat) {x:Str} {pos:Pos} (hN:X.N[i]?=some x:=by rfl) (hv:Vis X.env.scope x:=by first | exact Or.inl rfl | exact Or.inr (Or.inl rfl) | exact Or.inr (Or.inr rfl)) (hd:(x == ("__debug__":Str))=false:=by decide)
  (hcd:(x == ("__classdict__":Str))=false:=by decide):PE X (.Name x pos) (tVar i):=pe_var hN hv hd hcd
end
theorem aV {A B:Prop} (h:B):if false=true then A else B:=by
 rw [if_neg Bool.false_ne_true]
 exact h
theorem bz {A B:Prop} (h:A):if true=true then A else B:=by
 rw [if_pos rfl]
 exact h
theorem bE {c A B:Prop} [Decidable c] (h1:c -> A) (h2:¬ c -> B):if c then A else B:=by
 by_cases h:c
 ·rw [if_pos h]
  exact h1 h
 ·rw [if_neg h]
  exact h2 h
theorem mB {c A B:Prop} [Decidable c] (hc:c) (h:B):if (!decide c)=true then A else B:=by
 rw [decide_eq_true hc]
 exact aV h
def ar (H H':Hp):Prop:=∀ b o,H b=some o -> H' b=some o
theorem ar.refl (H:Hp):ar H H:=fun _ _ h=>h
theorem ar.trans {H H1 H2:Hp} (a:ar H H1) (b:ar H1 H2):ar H H2:=fun c o h=>b c o (a c o h)
theorem ar.free {H H':Hp} (e:ar H H') {l:Addr} (h:H' l=Option.none):H l=Option.none:=by
 cases q:H l with
 | none=>rfl
 | some o =>
  rw [e l o q] at h
  cases h
theorem ar.seq {K:PySem.W.Frag} {H H':Hp} {a:Addr} {xs:List V} (e:ar H H') (h:SqL K H a xs):SqL K H' a xs:=by
 rcases h with (h | ⟨o,h⟩) | h
 ·exact .inl (.inl (e _ _ h))
 ·exact .inl (.inr ⟨o,e _ _ h⟩)
 ·exact .inr h
section
variable {κ:Type} [DecidableEq κ]
theorem mC {kvs:List (κ × V)} {k:κ} (h:bG kvs k=none):¬ k ∈ kvs.map (·.1):=by
 intro m
 obtain ⟨p,hp,e⟩:=List.mem_map.mp m
 have q:(kvs.any fun kv=>decide (kv.1=k))=true:=List.any_eq_true.mpr ⟨p,hp,decide_eq_true e⟩
 rw [eY,h] at q
 exact absurd q (by simp)
theorem pL:∀ {l:List κ} {k:κ},l.Nodup -> ¬ k ∈ l -> (l ++ [k]).Nodup
 | [],k,_,_=>by simp
 | a :: r,k,h,hk=>by
  obtain ⟨h1,h2⟩:=List.nodup_cons.mp h
  show (a :: (r ++ [k])).Nodup
  refine List.nodup_cons.mpr ⟨fun m=>?_,pL h2 fun m=>hk (List.mem_cons.mpr (Or.inr m))⟩
  rcases List.mem_append.mp m with q | q
  ·exact h1 q
  ·exact hk (List.mem_cons.mpr (Or.inl (List.mem_singleton.mp q).symm))
theorem jW {p:κ × V} {r:List (κ × V)} {k:κ} (e:p.1=k):di (p :: r) k=di r k:=by
 unfold di
 rw [List.filter_cons,if_neg (by simp [e])]
theorem gE {p:κ × V} {r:List (κ × V)} {k:κ} (e:¬ p.1=k):di (p :: r) k=p :: di r k:=by
 unfold di
 rw [List.filter_cons,if_pos (by simp [e])]
theorem iU:∀ {kvs:List (κ × V)} {k:κ},¬ k ∈ kvs.map (·.1) -> di kvs k=kvs
 | [],_,_=>rfl
 | p :: r,k,h=>by
  have h':¬ k ∈ r.map (·.1):=fun m=>by
   obtain ⟨q,hq,e⟩:=List.mem_map.mp m
   exact h (List.mem_map.mpr ⟨q,List.mem_cons.mpr (Or.inr hq),e⟩)
  rw [gE fun e=>h (List.mem_map.mpr ⟨p,List.mem_cons.mpr (Or.inl rfl),e⟩),iU h']
end
theorem fT {env:Env}:∀ (l:List (Str × NameKind)) (acc:List (Str × Addr)),(∀ x ∈ l,x.2=NameKind.free -> ∃ c,env.cells.lookup x.1=some c) -> (∀ x c,acc.lookup x=some c -> env.cells.lookup x=some c) ->
  ∃ cl:List (Str × Addr),(forIn l acc (fun (p:Str × NameKind) (cs:List (Str × Addr))=>if (p.2 == NameKind.free)=true then (do let c <- cellOf env p.1; pure (ForInStep.yield ((p.1,c) :: cs))) else pure (ForInStep.yield cs)):Sem (List (Str × Addr)))=pure cl /\
   (∀ x c,cl.lookup x=some c -> env.cells.lookup x=some c) /\ (∀ x,(x,NameKind.free) ∈ l -> ∃ c,cl.lookup x=some c) /\ ∀ x c,acc.lookup x=some c -> ∃ c',cl.lookup x=some c'
 | [],acc,_,ha=>⟨acc,rfl,ha,fun _ z=>(nomatch z),fun x c e=>⟨c,e⟩⟩
 | (n,k) :: r,acc,h,ha=>by
  by_cases hk:k=NameKind.free
  ·subst hk
   obtain ⟨c,hc⟩:=h (n,NameKind.free) List.mem_cons_self rfl
   obtain ⟨cl,e1,e2,e3,e4⟩:=fT r ((n,c) :: acc) (fun x hx=>h x (List.mem_cons_of_mem _ hx)) (fun x c' e=>by
    by_cases hx:x=n
    ·subst hx
     simp only [List.lookup_cons,beq_self_eq_true] at e
     cases e
     exact hc
    ·have hb:(x == n)=false:=by simpa using hx
     simp only [List.lookup_cons,hb] at e
     exact ha x c' e)
   have hn:∃ c',cl.lookup n=some c':=e4 n c (by simp only [List.lookup_cons,beq_self_eq_true])
   refine ⟨cl,?_,e2,fun x hx=>?_,fun x c' e=>?_⟩
   ·have hcell:cellOf env n=pure c:=by unfold cellOf; rw [hc]
    rw [List.forIn_cons]
    show ((if (NameKind.free == NameKind.free)=true then (do let c <- cellOf env n; pure (ForInStep.yield ((n,c) :: acc))) else pure (ForInStep.yield acc)) >>= _)=pure cl
    rw [if_pos (by decide),hcell,pure_bind,pure_bind]
    exact e1
   ·rcases List.mem_cons.mp hx with q | q
    ·cases q; exact hn
    ·exact e3 x q
   ·by_cases hx:x=n
    ·subst hx; exact hn
    ·refine e4 x c' ?_
     have hb:(x == n)=false:=by simpa using hx
     simp only [List.lookup_cons,hb]
     exact e
  ·obtain ⟨cl,e1,e2,e3,e4⟩:=fT r acc (fun x hx=>h x (List.mem_cons_of_mem _ hx)) ha
   refine ⟨cl,?_,e2,fun x hx=>?_,e4⟩
   ·have hb:(k == NameKind.free)=false:=by simpa using hk
    rw [List.forIn_cons]
    show ((if (k == NameKind.free)=true then (do let c <- cellOf env n; pure (ForInStep.yield ((n,c) :: acc))) else pure (ForInStep.yield acc)) >>= _)=pure cl
    rw [hb,if_neg (by decide),pure_bind]
    exact e1
   ·rcases List.mem_cons.mp hx with q | q
    ·cases q; exact absurd rfl hk
    ·exact e3 x q
theorem oi {scope:Scope} {env:Env} (h:∀ x ∈ scope.names,x.2=NameKind.free -> ∃ c,env.cells.lookup x.1=some c) :
  ∃ cl:List (Str × Addr),closureFor scope env=pure cl /\ (∀ x c,cl.lookup x=some c -> env.cells.lookup x=some c) /\ ∀ x,(x,NameKind.free) ∈ scope.names -> ∃ c,cl.lookup x=some c:=by
 obtain ⟨cl,e1,e2,e3,_⟩:=fT scope.names [] h (fun x c e=>by simp at e)
 refine ⟨cl,?_,e2,e3⟩
 unfold closureFor
 show (forIn scope.names [] _ >>= fun cs=>pure cs)=pure cl
 have e1':(forIn scope.names ([]:List (Str × Addr)) (fun (x:Str × NameKind) (cs:List (Str × Addr))=>if (x.2 == NameKind.free)=true then (do let c <- cellOf env x.1; pure (ForInStep.yield ((x.1,c) :: cs))) else pure (ForInStep.yield cs)):Sem (List (Str × Addr)))=pure cl:=e1
 have e5:∀ (m:Sem (List (Str × Addr))),m=pure cl -> (m >>= fun cs=>pure cs)=pure cl:=fun m e=>by rw [e,pure_bind]
 exact e5 _ e1'
def cxC (X:Cx) (scope:Scope) (cl:List (Str × Addr)) (N2 ys:List Str) (C:Addr) (s:Shared) (H:Hp) (fp:List Addr):Cx :=
 { prog:=X.prog,w:=X.w,K:=X.K,mg:=X.mg,base:=X.base,A:=X.A,N:=N2 ++ ys,s₀:=s,H₀:=H,env:=compEnvC scope cl C X.env,outer:=X.stack,stack:=X.stack,ex:=fp,fn:=fun _=>false,calm:=X.calm,pn:=[],xe:=fun _ _=>False }
def PTs (X:Cx) (ifs:List Expr) (t:TT):Prop :=
 ∀ (pins:List (Addr × Obj)) (s:Shared) (σ:St) (H:Hp) (Q:Bool -> Hp -> Prop),Inv X pins σ H s -> t σ H Q ->
  wpAny (model X.prog X.w) X.A (forIn ifs true fun c r=>if r=true then do let ok <- isTrue c X.env (eval c X.env); pure (ForInStep.yield ok) else pure (ForInStep.yield r)) (TP X pins σ Q) X.xe s
def kE:TT:=fun _ H Q=>Q true H
theorem cr {X:Cx}:PTs X [] kE:=fun _ _ _ H _ I h=>wpAny_tests_nil ⟨H,I,h⟩
theorem mE {prog:Program} {w:World} {A:Around} {R:Result -> Shared -> Prop} {s:Shared} {elt target iter:Expr} {ifs:List Expr} {scope:Scope} {pos:Pos} {it acc:Value} {env:Env} (I:Nat -> Shared -> Prop)
  (turn:∀ n s,I n s -> wpAny (model prog w) A (pyNext it) (fun r s₁=>match r with
   | none=>R (.ok .next) s₁
   | some v=>wpAny (model prog w) A (letOwnedTupleGo target it v) (fun _ s₁'=>wpAny (model prog w) A (assign target env v) (fun _ s₂ =>
     wpAny (model prog w) A (forIn ifs true fun c r=>if r=true then do let ok <- isTrue c env (eval c env); pure (ForInStep.yield ok) else pure (ForInStep.yield r)) (fun ok s₃ =>
      if ok=true then wpAny (model prog w) A (eval elt env) (fun x s₄ =>
       wpAny (model prog w) A (call (.builtin "list.append") [acc,x]) (fun _ s₅=>∃ m,m < n /\ I m s₅) (notedBy (model prog w) A env fun e s'=>R (.error e) s') s₄) (notedBy (model prog w) A env fun e s'=>R (.error e) s') s₃
      else ∃ m,m < n /\ I m s₃) (notedBy (model prog w) A env fun e s'=>R (.error e) s') s₂) (notedBy (model prog w) A env fun e s'=>R (.error e) s') s₁') (notedBy (model prog w) A env fun e s'=>R (.error e) s') s₁) (notedBy (model prog w) A env fun e s'=>R (.error e) s') s)
  (n:Nat) (h:I n s) :
  codeAny (model prog w) A (.compLoop (.ListComp elt [⟨target,iter,ifs,0⟩] scope pos) 0 it acc env) R s:=by
 refine codeAny_loop rfl I (fun n s hI=>?_) n h
 show wpAny _ A ((compTurn (.ListComp elt [⟨target,iter,ifs,0⟩] scope pos) 0 it acc env).onRaise (fun x=>do noteFrame x env; theTreesLotGoes x)) _ _ s
 refine wpAny_noted ?_
 rw [compTurn_list]
 refine wpAny_bind (wpAny_standAt (wpAny_bind (wpAny_mono (turn n s hI) (fun r s₁ h₁=>?_) fun _ _ h'=>h')))
 cases r with
 | none=>exact wpAny_pure h₁
 | some v =>
  refine wpAny_bind (wpAny_mono h₁ (fun _ s₁' h₁'=>?_) fun _ _ h'=>h')
  refine wpAny_bind (wpAny_mono h₁' (fun _ s₂ h₂=>wpAny_bind (wpAny_mono h₂ (fun ok s₃ h₃=>?_) fun _ _ h'=>h')) fun _ _ h'=>h')
  cases ok with
  | false=>exact wpAny_pure ⟨rfl,h₃⟩
  | true =>
   exact wpAny_bind (wpAny_bind (wpAny_mono h₃ (fun x s₄ h₄=>wpAny_bind (wpAny_mono h₄ (fun _ s₅ h₅=>wpAny_pure (wpAny_pure ⟨rfl,h₅⟩)) fun _ _ h'=>h')) fun _ _ h'=>h'))
def LCT (k:Nat) (g:TG) (tt:TT) (te:TE) (σ:St) (Q:VK) (J:It) (H1:Hp):Prop:=∀ D,H1 D=none -> ∃ W:Nat -> Nat -> List V -> Hp -> Prop,(∃ m,W 0 m [] (upd H1 D (.lst []))) /\ ∀ i m ys H,W i m ys H ->
 (J.stop i H /\ Q (.ref D) H) \/ (J.go i H /\ ∀ x H',J.yld i H x H' -> g x (σ ++ List.replicate k none) H' fun σ2 H2=>(∃ τ:St,σ2=σ ++ τ /\ τ.length=k) /\
  tt σ2 H2 fun b H3=>if b=true then te σ2 H3 fun y H4=>H4 D=some (.lst ys) /\ ys.length < sizeLine /\ ∃ m',m' < m /\ W (i + 1) m' (ys ++ [y]) (upd H4 D (.lst (ys ++ [y]))) else ∃ m',m' < m /\ W (i + 1) m' ys H3)
def tLC (k:Nat) (wi:TI) (g:TG) (tt:TT) (te:TE):TE:=fun σ H Q=>wi σ H (LCT k g tt te σ Q)
theorem bU {env:Env}:∀ {names:List (Str × NameKind)} {x:Str} {k:NameKind},(names.map fun (n,k)=>if (k == NameKind.free && env.scope.kind == .function && env.kindOf n == some .cell) then (n,NameKind.cell) else (n,k)).lookup x=some k ->
  (names.lookup x=some k) \/ (names.lookup x=some .free /\ k=.cell)
 | [],_,_,h=>by simp at h
 | (n,k0) :: r,x,k,h=>by
  have ih:=@bU env r x k
  have h:List.lookup x ((if (k0 == NameKind.free && env.scope.kind == .function && env.kindOf n == some .cell)=true then (n,NameKind.cell) else (n,k0)) :: r.map fun (n,k)=>if (k == NameKind.free && env.scope.kind == .function && env.kindOf n == some .cell) then (n,NameKind.cell) else (n,k))=some k:=h
  cases hx:x == n with
  | true =>
   by_cases hc:(k0 == NameKind.free && env.scope.kind == .function && env.kindOf n == some .cell)=true
   ·rw [if_pos hc] at h
    simp only [List.lookup_cons,hx] at h
    cases h
    have hf:k0=.free:=by
     have:=hc
     simp only [Bool.and_eq_true,beq_iff_eq] at this
     exact this.1.1
    right
    simp only [List.lookup_cons,hx,hf,and_self]
   ·rw [if_neg hc] at h
    simp only [List.lookup_cons,hx] at h
    cases h
    left
    simp only [List.lookup_cons,hx]
  | false =>
   have h':List.lookup x (r.map fun (n,k)=>if (k == NameKind.free && env.scope.kind == .function && env.kindOf n == some .cell) then (n,NameKind.cell) else (n,k))=some k:=by
    by_cases hc:(k0 == NameKind.free && env.scope.kind == .function && env.kindOf n == some .cell)=true
    ·rw [if_pos hc] at h
     simp only [List.lookup_cons,hx] at h
     exact h
    ·rw [if_neg hc] at h
     simp only [List.lookup_cons,hx] at h
     exact h
   rcases ih h' with q | q
   ·left; simp only [List.lookup_cons,hx]; exact q
   ·right; simp only [List.lookup_cons,hx]; exact q
theorem lcJ {J:It} {n k:Nat} {σ:St} {H1:Hp} {te:TE} {Q:VK} (xv:Nat -> V) (Pv:Addr -> Nat -> List V -> Hp -> Prop) (hk:σ.length=k)
  (hgo:∀ D i ys H,i < n -> Pv D i ys H -> J.go i H) (hyld:∀ D i ys H x H',i < n -> Pv D i ys H -> J.yld i H x H' -> H'=H /\ x=xv i) (hstop:∀ D ys H,Pv D n ys H -> J.stop n H)
  (h0:∀ D,H1 D=none -> Pv D 0 [] (upd H1 D (.lst [])))
  (turn:∀ D i ys H (post:VK),i < n -> Pv D i ys H -> (∀ y H4,H4 D=some (.lst ys) -> ys.length < sizeLine -> Pv D (i + 1) (ys ++ [y]) (upd H4 D (.lst (ys ++ [y]))) -> post y H4) -> te (σ ++ [some (xv i)]) H post)
  (fin:∀ D ys H,Pv D n ys H -> Q (.ref D) H) :
  LCT 1 (ga k) kE te σ Q J H1:=by
 intro D hD
 refine ⟨fun i m ys H=>m=n - i /\ i <= n /\ Pv D i ys H,⟨n,by simp,Nat.zero_le _,h0 D hD⟩,?_⟩
 rintro i m ys H ⟨rfl,hi,p⟩
 by_cases hlt:i < n
 ·refine .inr ⟨hgo D i ys H hlt p,fun x H' y=>?_⟩
  obtain ⟨rfl,rfl⟩:=hyld D i ys H x H' hlt p y
  have e:(σ ++ List.replicate 1 (none:Option V)).set k (some (xv i))=σ ++ [some (xv i)]:=by
   subst hk
   simp [List.set_append]
  unfold ga
  rw [e]
  unfold kE
  refine ⟨⟨_,rfl,rfl⟩,?_⟩
  refine bz ?_
  exact turn D i ys H' _ hlt p fun y H4 h1 h2 h3=>⟨h1,h2,n - (i + 1),by lia,rfl,hlt,h3⟩
 ·have e:i=n:=by lia
  subst e
  exact .inl ⟨hstop D ys H p,fin D ys H p⟩
theorem lcL0 {K:PySem.W.Frag} {a:Addr} {xs:List V} {k:Nat} {σ:St} {H1:Hp} {te:TE} {Q:VK} (R:Nat -> V -> Prop) (hk:σ.length=k) (hq:SqL K H1 a xs) (hz:xs.length <= 1000)
  (turn:∀ D i x ys (post:VK),xs[i]?=some x -> H1 D=none -> (∀ y,R i y -> post y (upd H1 D (.lst ys))) -> te (σ ++ [some x]) (upd H1 D (.lst ys)) post)
  (fin:∀ D ys,H1 D=none -> ys.length=xs.length -> (∀ i y,ys[i]?=some y -> R i y) -> Q (.ref D) (upd H1 D (.lst ys))) :
  LCT 1 (ga k) kE te σ Q (Itl K a) H1:=by
 have sq:∀ D ys,H1 D=none -> SqL K (upd H1 D (.lst ys)) a xs:=fun D ys h=>ar.seq (fun b u e=>by rw [aw (ak e h)]; exact e) hq
 refine lcJ (n:=xs.length) (fun i=>xs.getD i .non) (fun D i ys H=>H1 D=none /\ ys.length=i /\ (∀ j y,ys[j]?=some y -> R j y) /\ H=upd H1 D (.lst ys)) hk ?_ ?_ ?_ ?_ ?_ ?_
 ·rintro D i ys H hi ⟨h1,h2,h3,rfl⟩
  exact ⟨xs,xs[i],sq D ys h1,by simp [hi]⟩
 ·rintro D i ys H x H' hi ⟨h1,h2,h3,rfl⟩ ⟨e,y⟩
  refine ⟨e,?_⟩
  have:=y xs (sq D ys h1)
  rw [List.getD_eq_getElem?_getD,this]; rfl
 ·rintro D ys H ⟨h1,h2,h3,rfl⟩
  exact ⟨xs,sq D ys h1,Nat.le_refl _⟩
 ·intro D hD
  exact ⟨hD,rfl,fun j y e=>by simp at e,rfl⟩
 ·rintro D i ys H post hi ⟨h1,h2,h3,rfl⟩ hp
  have hx:xs[i]?=some (xs.getD i .non):=by rw [List.getD_eq_getElem?_getD,List.getElem?_eq_getElem hi]; rfl
  refine turn D i _ ys post hx h1 fun y hy=>hp y _ ai (bA (by lia)) ⟨h1,by rw [List.length_append,h2]; rfl,fun j z e=>?_,by rw [ij]⟩
  by_cases hj:j < ys.length
  ·rw [List.getElem?_append_left hj] at e
   exact h3 j z e
  ·rw [List.getElem?_append_right (by lia)] at e
   have hj2:j=i:=by
    have:=(List.getElem?_eq_some_iff.mp e).1
    simp at this
    lia
   subst hj2
   rw [h2,Nat.sub_self] at e
   cases e
   exact hy
 ·rintro D ys H ⟨h1,h2,h3,rfl⟩
  exact fin D ys h1 h2 h3
end L2
namespace L2
open PySem PySem.Spec PyProof.Rows PySem.Builtin PySem.Builtin.Str
section
variable {X:Cx}
theorem aZ {K:PySem.W.Frag} {T:String}:PySem.W.kitOne K (.type T) (.type T)=some true:=by
 unfold PySem.W.kitOne
 rw [if_pos (by simp)]
def tTup0:TE:=fun _ H Q=>∀ p,H p=none -> Q (.ref p) (upd H p (.frz { cls:=.type "tuple",data:=.seq #[] } (.tup [])))
theorem iq {x1:Nat} {pos:Pos}:PE X (.Tuple [] x1 pos) tTup0:=by
 intro pins s σ H Q I hq
 refine wpAny_Tuple_spliced (thn (ag (X:=X) pos pins s σ H (fun xs H1=>xs=[] /\ H1=H) I ⟨rfl,rfl⟩) fun us s1 ⟨xs,H1,I1,r,e1,e2⟩=>?_)
 subst e1 e2
 cases r
 refine ⟨Nat.zero_le _,?_⟩
 have hf:H1 s1.heap.objs.size=none:=I1.hok.fresh (Nat.le_refl _)
 refine ⟨.ref s1.heap.objs.size,upd H1 s1.heap.objs.size _,I1.laid (t':=s1.toks) (fun b u e=>Heap.get?_push_of_some _ e) (Nat.le_refl _) ?_,rfl,hq _ hf⟩
 exact ⟨Heap.get?_push_size _ rfl,Nat.zero_le _,[],.nil,⟨_,Heap.get?_push_size _ rfl,rfl,_,rfl⟩⟩
end
set_option maxRecDepth 8000 in
theorem fJ {prog:Program} {w:World} {A:Around} {E:Value -> Shared -> Prop} {s:Shared} {a:Addr} {o:Obj} {xs:Array Value} {k:Nat} {name:Str} {Q:Option Value -> Shared -> Prop}
  (hx:s.heap.get? a=some o) (hc:o.cls=.type "tuple") (hdat:o.data=.seq xs k) (hd:o.dict=none) (hmiss:typeLookup (.type "tuple") name=pure none) (hname:(["__module__","__name__","__qualname__","__doc__","__annotations__"]:List Str).contains name=false) (hA:A.handled=none)
  (h:∀ h' tk,(∀ b o,s.heap.get? b=some o -> h'.get? b=some o) -> Q none { s with heap:=h',toks:=tk }) (hsz:name.length + 100 <= sizeLine:=by size_fits) :
  wpAny (model prog w) A (getAttr? (.ref a) name) Q E s:=by
 obtain ⟨c,dct,dat,sl⟩:=o
 simp only at hc hdat hd
 subst hc hdat hd
 obtain ⟨hp,g,d,tk,os⟩:=s
 have hT:∀ tk',(⟨hp,g,d,tk',os⟩:Shared).TypeIs (.ref a) "tuple":=fun _=>⟨_,hx,rfl⟩
 have f1:=sub_AttributeError
 have f3:=F.slot_tuple_getattribute.lookup
 have f4:=F.slot_tuple_getattribute.bind (.ref a)
 have f5:=am_tuple_getattr_none
 unfold getAttr? getAttrBy? getAttrBy
 repeat (any_goals (first | assumption | exact hT _ | ((with_reducible show wpAny _ _ (call (Value.builtin "tuple.__getattribute__") _ _) _ _ _); refine call_meets F.slot_tuple_getattribute (hT _) am_entry_tuple_getattribute (F.args_tuple_getattribute_2 _ _) (meets_getattribute_miss_tuple a xs k sl name _ hmiss hname hsz) ⟨hx,hA,fun h' tk' e hx'=>?_⟩) | wp_step))
 obtain ⟨t',u',he⟩:=hx'.there
 show wpAny _ _ (getattributeRaised _ _ _ _ _ _ _) _ _ _
 unfold getattributeRaised
 repeat (any_goals (first | assumption | wp_step))
 exact h _ _ (fun b o q=>hx'.of.keeps b o q)
end L2
namespace L2
open PySem PySem.Spec PyProof.Rows
theorem upd_id {H:Hp} {a:Addr} {o:HO} (h:H a=some o):upd H a o=H:=by
 funext b
 unfold upd
 split
 ·rename_i e; subst e; exact h.symm
 ·rfl
theorem SqT.upd {K:PySem.W.Frag} {H:Hp} {d b:Addr} {m:List (Key × V)} {o:HO} {xs:List V} (h:SqT K H b xs) (e:H d=some (.dK m)):SqT K (L2.upd H d o) b xs:=by
 rcases h with (h | ⟨o',h⟩) | h
 ·exact .inl (.inl (by rw [aw (aM h e (by intro z; cases z))]; exact h))
 ·exact .inl (.inr ⟨o',by rw [aw (aM h e (by intro z; cases z))]; exact h⟩)
 ·exact .inr h
theorem eR:entryFor table "dict.update.loop"=some Builtin.«dict.update.loop»:=entryFor_of_tree (by kernel_rfl)
theorem qI {X:Cx} {pins:List (Addr × Obj)} {σ:St} {A:Around} {E:Value -> Shared -> Prop} {a d it:Addr} {ps:List V} {Q:Shared -> Prop} (hA:A.handled=none) :
  ∀ (kvs:List (Key × V)) (i:Nat) (s:Shared) (H:Hp) (m:List (Key × V)),Inv X pins σ H s -> SqT X.K H a ps -> gB X pins H it -> s.heap.IsTupleIter it a i -> H d=some (.dK m) -> m.length + kvs.length <= sizeLine ->
   (∀ j kv,kvs[j]?=some kv -> ∃ b,ps[i + j]?=some (.ref b) /\ SqT X.K H b [kV kv.1,kv.2]) -> ps.length=i + kvs.length ->
   (∀ s',Inv X pins σ (upd H d (.dK (kvs.foldl (fun m kv=>bX m kv.1 kv.2) m))) s' -> Q s') ->
   codeAny (model X.prog X.w) A (.builtin "dict.update.loop" ⟨[.ref d,.ref it,.int i 0,.none],[]⟩) (wants (fun r s₂=>r=.none /\ Q s₂) E) s:=by
 intro kvs
 induction kvs with
 | nil =>
  intro i s H m I ha hf hit hd hm hp hl hQ
  obtain ⟨its,rv,p,hz⟩:=I.tuple ha
  obtain ⟨f0,f1,f2,f3,f4,f5⟩:=hf
  have hlen:=rv.length
  refine codeAny_builtin eR ?_
  unfold Builtin.«dict.update.loop»
  refine wpAny_bind (wpAny_pyNext_tuple_end (by first | exact hA | (simpa [Around.under] using hA)) hit (show s.heap.IsTuple a its.toArray from p) (by simp at hl ⊢; omega) fun h' eb=>?_)
  show wpAny _ _ (Builtin.Dict.addKeywords d [] >>= fun _=>ret Value.none) _ _ _
  refine wpAny_bind (wpAny_pure (wpAny_pure ⟨rfl,hQ _ ?_⟩))
  show Inv X pins σ (upd H d (.dK m)) _
  rw [upd_id hd]
  exact I.turned (t':=s.toks) (fun b o hb e=>eb b o hb e) f0 f1 f3 f4 f5
 | cons kv rest ih =>
  intro i s H m I ha hf hit hd hm hp hl hQ
  obtain ⟨its,rv,p,hz⟩:=I.tuple ha
  obtain ⟨b,hb,hbt⟩:=hp 0 kv rfl
  obtain ⟨u,hu,ru⟩:=rv.get (show ps[i]?=some (.ref b) from hb)
  cases ru
  have hf':=hf
  obtain ⟨f0,f1,f2,f3,f4,f5⟩:=hf
  refine codeAny_builtin eR ?_
  unfold Builtin.«dict.update.loop»
  refine wpAny_bind (wpAny_pyNext_tuple_item hit (show s.heap.IsTuple a its.toArray from p) (x:=.ref b) (by simpa using hu) fun h' st' sb=>?_)
  have I1:Inv X pins σ H { s with heap:=h' }:=I.turned (t':=s.toks) (fun b o hb e=>(sb.2 b hb).trans e) f0 f1 f3 f4 f5
  obtain ⟨pr,rp,pt,_⟩:=I1.tuple hbt
  obtain ⟨ku,vu,epr,rk,rvv⟩:∃ ku vu,pr=[ku,vu] /\ aY (kV kv.1) ku /\ aY kv.2 vu:=by
   obtain ⟨u1,u2,e1,r1,r2⟩:=mi rp
   exact ⟨u1,u2,e1,r1,r2⟩
  subst epr
  obtain ⟨ob,ho,hc,n,hdt⟩:=id pt
  show wpAny _ _ (holding [Value.ref b] _ >>= _) _ _ _
  refine wpAny_bind (wpAny_holding ?_)
  refine wpAny_bind (wpAny_tryCatch ?_)
  unfold Builtin.Dict.pairItems
  refine wpAny_bind (wpAny_typeOf (show ({ s with heap:=h' }:Shared).TypeIs (.ref b) "tuple" from ⟨ob,ho,hc⟩) ?_)
  rw [if_pos (by decide)]
  refine wpAny_bind (wpAny_seqItems ho hdt (wpAny_pure ?_))
  show wpAny _ _ (holding [ku,vu] (dictSet d ku vu)) _ _ _
  refine wpAny_holding ?_
  obtain ⟨z,hdd,vs,rel,dd⟩:=mq I1.hok hd
  have hz2:vs.length <= sizeLine:=by rw [<- rel.length]; exact z
  simp only [List.length_cons] at hm hl
  have hl2:(bX m kv.1 kv.2).length <= m.length + 1:=dj m kv.1 kv.2
  refine wpAny_dictSet_pairs (hsz:=hz2) (eQ rk) dd fun h2 dd' hs=>?_
  have he:∃ q,h2.get? d=some q:=let ⟨q,_,_,hq,_⟩:=dd'; ⟨q,hq⟩
  have I2:Inv X pins σ (upd H d (.dK (bX m kv.1 kv.2))) { heap:=h2,gens:=s.gens,drawn:=s.drawn,toks:=s.toks + 1,os:=s.os }:=ip (s:={ s with heap:=h' }) (t':=s.toks + 1) I1 (by rw [hd]; exact True.intro) hs he (nU (by omega) hdd (rel.put kv.1 rvv) dd')
  have nit:it ≠ d:=by
   rintro rfl
   rw [hd] at f0; cases f0
  refine wpAny_pure ⟨Code.quiet_builtin _ (by decide +kernel),?_⟩
  have:=ih (i + 1) { heap:=h2,gens:=s.gens,drawn:=s.drawn,toks:=s.toks + 1,os:=s.os } (upd H d (.dK (bX m kv.1 kv.2))) (bX m kv.1 kv.2) I2 (ha.upd hd) ⟨by rw [aw nit]; exact f0,f1,f2,f3,f4,f5⟩
   (st'.at fun o e=>(hs.2 it nit).trans e) ai (by omega) (fun j kv' e=>by
    obtain ⟨b',h1,h2⟩:=hp (j + 1) kv' (by simpa using e)
    exact ⟨b',by rw [show i + 1 + j=i + (j + 1) by omega]; exact h1,h2.upd hd⟩) (by omega) (fun s' I'=>hQ s' (by rw [ij] at I'; exact I'))
  exact this
def rDictOf (K:PySem.W.Frag):List V -> Hp -> VK -> Prop:=fun xs H Q=>∃ (a:Addr) (o:Obj) (ps:List V) (kvs:List (Key × V)),xs=[.ref a] /\ H a=some (.frz o (.tup ps)) /\ o.dict=none /\ ps.length=kvs.length /\ (∀ (j:Nat) (kv:Key × V),kvs[j]?=some kv -> ∃ b,ps[j]?=some (.ref b) /\ SqT K H b [kV kv.1,kv.2]) /\
 ∀ d,H d=none -> Q (.ref d) (upd H d (.dK (kvs.foldl (fun m kv=>bX m kv.1 kv.2) [])))
theorem SqT.new {K:PySem.W.Frag} {H:Hp} {d b:Addr} {o:HO} {xs:List V} (h:SqT K H b xs) (e:H d=none):SqT K (L2.upd H d o) b xs:=by
 rcases h with (h | ⟨o',h⟩) | h
 ·exact .inl (.inl (by rw [aw (ak h e)]; exact h))
 ·exact .inl (.inr ⟨o',by rw [aw (ak h e)]; exact h⟩)
 ·exact .inr h
theorem jX {X:Cx} (hc:X.calm=true):cU X (.type "dict") (rDictOf X.K):=by
 intro pins s σ H xs us Q I rv h
 obtain ⟨a,o,ps,kvs,rfl,ha,hod,hlen,hp,q⟩:=h
 obtain ⟨u,rfl,ru⟩:=rv.one
 cases ru
 have haT:SqT X.K H a ps:=.inl (.inr ⟨o,ha⟩)
 obtain ⟨hao,hz,its,rvs,p⟩:=(show ck X.prog X.w H s.heap a (.frz o (.tup ps)) from I.hok a _ ha)
 obtain ⟨o',ho',hcl,n,hdt⟩:=id p
 rw [hao] at ho'; cases ho'
 have fd:H s.heap.objs.size=none:=I.hok.fresh (Nat.le_refl _)
 have I1:Inv X pins σ (upd H s.heap.objs.size (.dK [])) { s with heap:=s.heap.push { cls:=.type "dict",data:=.dict #[] } }:=I.laid (t':=s.toks) (fun _ _ q=>Heap.get?_push_of_some _ q) (Nat.le_refl _) (mv s.heap I.big)
 refine callType_codes (Q₁:=fun obj s₁=>obj=.ref s.heap.objs.size /\ s₁={ s with heap:=s.heap.push { cls:=.type "dict",data:=.dict #[] } }) F.kt_called_dict (F.kt_typeCall_dict_1 _) F.entry_dict_init (kt_code_dict_new _ ⟨rfl,rfl⟩) ?_
 rintro obj s₁ ⟨rfl,rfl⟩
 have hnew:(s.heap.push { cls:=.type "dict",data:=.dict #[] }).DictOf (bo X.prog X.w) s.heap.objs.size []:=Heap.DictOf.new s.heap
 refine ⟨hnew.typeIs,F.args_dict_init_2 _ _,?_⟩
 unfold Builtin.«dict.__init__»
 refine wpAny_bind ?_
 unfold Builtin.Dict.selfAndRest
 refine wpAny_bind (wpAny_notOrdered_dict hnew.typeIs ?_)
 show wpAny _ _ (pure (s.heap.objs.size,[Value.ref a])) _ _ _
 refine wpAny_pure ?_
 show wpAny _ _ (Builtin.Dict.updateFrom "dict.__init__" s.heap.objs.size (.ref a) [] .none) _ _ _
 unfold Builtin.Dict.updateFrom
 have ha1:(s.heap.push { cls:=.type "dict",data:=.dict #[] }).get? a=some o:=Heap.get?_push_of_some _ hao
 refine wpAny_bind (wpAny_typeOf (show ({ s with heap:=s.heap.push { cls:=.type "dict",data:=.dict #[] } }:Shared).TypeIs (.ref a) "tuple" from ⟨o,ha1,hcl⟩) ?_)
 rw [if_pos (by decide)]
 have hh:X.A.handled=none:=I.ok.hd hc
 refine wpAny_bind (fJ (A:=X.A.in1.in1) (name:="keys") ha1 hcl hdt hod (am_miss_of_fast (by decide +kernel)) (by decide +kernel) hh fun h' tk keep=>?_)
 have I2:Inv X pins σ (upd H s.heap.objs.size (.dK [])) { s with heap:=h',toks:=tk }:=I1.kept (t':=tk) keep
 rw [if_pos (show (none:Option Value).isNone=true from rfl)]
 refine wpAny_bind (wpAny_rule (wpAny_bind ?_))
 obtain ⟨its2,rv2,p2,_⟩:=I2.tuple (haT.new fd)
 refine wpAny_pyIter_tuple (show h'.IsTuple a its2.toArray from p2) ?_
 have I3:Inv X pins σ (upd H s.heap.objs.size (.dK [])) { s with heap:=h'.push { cls:=.type "tuple_iterator",data:=.fields #[.ref a,.int 0 0] },toks:=tk }:=I2.kept (t':=tk) fun b o e=>Heap.get?_push_of_some _ e
 refine wpAny_pure ⟨Code.quiet_builtin _ (by decide +kernel),?_⟩
 refine qI (A:=X.A.in1) (E:=X.xe) (Q:=fun s₂=>EP X pins σ Q (Value.ref s.heap.objs.size) s₂) (X:=X) (pins:=pins) (σ:=σ) (a:=a) (ps:=ps) (d:=s.heap.objs.size) (it:=h'.objs.size) hh kvs 0 _ (upd H s.heap.objs.size (.dK [])) [] I3 (haT.new fd)
  (I2.fpOk (Nat.le_refl _) (I2.hok.fresh (Nat.le_refl _))) ⟨_,Heap.get?_push_size _ rfl,rfl,rfl⟩ ai (by rw [List.length_nil]; omega) (fun j kv e=>?_) (by omega) (fun s' I'=>?_)
 ·obtain ⟨b,h1,h2⟩:=hp j kv e
  exact ⟨b,by rw [Nat.zero_add]; exact h1,h2.new fd⟩
 ·rw [ij] at I'
  exact ⟨.ref s.heap.objs.size,_,I',rfl,q _ fd⟩
section
variable {X:Cx}
theorem sT (hu:X.A.units + 1 < cLine):OpR X (compareOp .NotEq) (fun x y H Q=>∃ a b xs,x=.ref a /\ y=.ref b /\ SqL X.K H a xs /\ SqL X.K H b [] /\ Q (.bl (!xs.isEmpty)) H):=by
 intro pins s σ H x y v u Q I rx ry h
 obtain ⟨a,b,xs,rfl,rfl,ha,hb,q⟩:=h
 cases rx
 cases ry
 obtain ⟨its,rv,p,_⟩:=I.list ha
 obtain ⟨its2,rv2,p2,_⟩:=I.list hb
 cases rv2
 have hl:=rv.length
 cases xs with
 | nil =>
  cases rv
  exact SeqAt.RcNeAt.lists (e:=fun _=>true) p.isList p2.isList rfl (Nat.lt_of_succ_lt hu) (fun j h1 _=>absurd h1 (by simp)) _ _ _ _ (bf I q (by rfl))
 | cons z r =>
  exact SeqAt.RcNeAt.lists_lengths p.isList p2.isList (by simp only [List.size_toArray,<- hl,List.length_cons,List.length_nil]; simp) (Nat.lt_of_succ_lt hu) _ _ _ _ (bf I q (by rfl))
theorem pM {bs:List Bool} {us:List Value} (r:bh (bs.map V.bl) us) {i:Nat} {v:Value} (h:us[i]?=some v):∃ b,bs[i]?=some b /\ v=.bool b:=by
 have hl:=r.length
 rw [List.length_map] at hl
 have hi:i < bs.length:=by have:=(List.getElem?_eq_some_iff.mp h).1; lia
 obtain ⟨u,e,ru⟩:=r.get (i:=i) (x:=V.bl bs[i]) (by rw [List.getElem?_map,List.getElem?_eq_getElem hi]; rfl)
 rw [h] at e; cases e
 exact ⟨_,List.getElem?_eq_getElem hi,ru⟩
theorem oj (bs:List Bool):((List.range bs.length).all fun i=>(bs[i]?).getD true)=bs.all id:=by
 rw [Bool.eq_iff_iff,List.all_eq_true,List.all_eq_true]
 constructor
 ·intro h b hb
  obtain ⟨i,hi,rfl⟩:=List.mem_iff_getElem.mp hb
  have:=h i (List.mem_range.mpr hi)
  rw [List.getElem?_eq_getElem hi] at this
  exact this
 ·intro h i hi
  have hi:=List.mem_range.mp hi
  rw [List.getElem?_eq_getElem hi]
  exact h _ (List.getElem_mem hi)
theorem dS (hc:X.calm=true):cU X (.builtin "all") (fun xs H Q=>∃ (p:Addr) (bs:List Bool),xs=[.ref p] /\ SqL X.K H p (bs.map V.bl) /\ Q (.bl (bs.all id)) H):=by
 intro pins s σ H xs us Q I rv h
 obtain ⟨p,bs,rfl,hS,q⟩:=h
 obtain ⟨u,rfl,ru⟩:=rv.one
 cases ru
 obtain ⟨its,r,hp,_⟩:=I.list hS
 have hlen:its.length=bs.length:=by have:=r.length; rw [List.length_map] at this; lia
 have hl:=hp.isList
 have hlt:p < s.heap.objs.size:=by obtain ⟨_,e,_⟩:=hl; exact Heap.lt_size e
 refine call_all_walk (wpAny_pyIter_list hl ?_)
 refine ⟨s.heap.objs.size,[s.heap.objs.size,p],[s.heap.objs.size],its.toArray.size,_,_,fun i=>(bs[i]?).getD true,rfl,Walks.list (A:=X.A.in1) (I.ok.hd hc) _ p (Nat.ne_of_lt hlt) its.toArray,
  ⟨⟨_,Heap.get?_push_size _ rfl,rfl,rfl⟩,hl.push _⟩,fun i v s' Q' E' hP hQ=>?_,fun h' tk hk=>?_⟩
 ·obtain ⟨b,e,rfl⟩:=pM r (i:=i) (v:=v) (by simpa using hP)
  simp only [e,Option.getD_some] at hQ
  exact wpAny_truthy_bool hQ
 ·rw [List.size_toArray,hlen,oj]
  refine ⟨.bl _,H,I.kept (t':=tk) fun b o e=>hk b o (fun hm=>?_) (Heap.get?_push_of_some _ e),rfl,q⟩
  rw [List.mem_singleton.mp hm] at e
  exact Nat.lt_irrefl _ (Heap.lt_size e)
theorem qJ (hc:X.calm=true):cU X (.builtin "max") (fun xs H Q=>∃ (p:Addr) (ns:List Int),xs=[.ref p] /\ SqL X.K H p (ns.map V.int) /\ 0 < ns.length /\ ∀ M:Int,M ∈ ns -> (∀ a ∈ ns,a <= M) -> Q (.int M) H):=by
 intro pins s σ H xs us Q I rv h
 obtain ⟨p,ns,rfl,hS,hne,q⟩:=h
 obtain ⟨u,rfl,ru⟩:=rv.one
 cases ru
 obtain ⟨its,r,hp,_⟩:=I.list hS
 have hi:=nZ r
 obtain ⟨ys,e⟩:=hi.allInts.items
 have hns:ns=ys.toList.map (·.1):=by rw [<- hi.numsOf,<- nums_intItems,<- e]
 have hsz:0 < ys.size:=by
  have h3:=hne; rw [hns,List.length_map,Array.length_toList] at h3; exact h3
 have hl:=hp.isList
 rw [e] at hl
 refine max_intList (I.ok.hd hc) hl hsz fun v h' tk hv hk=>?_
 obtain ⟨t,rfl⟩:=intItems_at hv
 obtain ⟨h1,h2⟩:=argBest_gt (numAt ys) (ys.size - 1)
 refine ⟨.int _,H,I.kept (t':=tk) hk,⟨t,rfl⟩,q _ ?_ fun a ha=>?_⟩
 ·rw [hns,numAt_eq]; exact getD_mem (by rw [List.length_map,Array.length_toList]; lia)
 ·rw [hns] at ha
  obtain ⟨j,hj,rfl⟩:=mem_getD ha
  rw [List.length_map,Array.length_toList] at hj
  rw [<- numAt_eq]; exact h2 j (by lia)
end
theorem pN {X:Cx} {elt tg iter:Expr} {ifs:List Expr} {scope:Scope} {pos cpos:Pos} {use:Option (Value -> Sem Unit)} {QQ:Value -> Shared -> Prop} {pins:List (Addr × Obj)} {s:Shared} {σ:St} {H:Hp} {Q:VK} {wi:TI} {g:TG} {tt:TT} {te:TE}
  (N N2 ys:List Str) (sc:Scope) (hc:X.calm=true) (hNe:X.N=N) (hNl:N2.length=N.length) (hsub:∀ p ∈ N2.zip N,p.1=p.2 \/ ¬ scope.names.lookup p.1=some .free) (hsc:X.env.scope=sc) (hkind:scope.kind=.function) (hcell:∀ y ∈ scope.names,y.2 ≠ .cell) (hnames:∀ y ∈ scope.names,y.2=.local -> scope.names.lookup y.1=some .local)
  (hfr:∀ y ∈ scope.names,y.2=.free -> sc.names.lookup y.1=some .cell) (hloc:∀ y ∈ N2,scope.names.lookup y ≠ some .local)
  (hi:PI X tg iter wi) (hg:∀ cl C s H fp,PG (cxC X scope cl N2 ys C s H fp) tg g) (ht:∀ cl C s H fp,PTs (cxC X scope cl N2 ys C s H fp) ifs tt) (he:∀ cl C s H fp,PE (cxC X scope cl N2 ys C s H fp) elt te)
  (I:Inv X pins σ H s) (h:tLC ys.length wi g tt te σ H Q)
  (fin0:∀ (D C:Addr) (H':Hp) (s':Shared),Inv X pins σ H' s' -> gB X pins H' C -> (∃ m,s'.heap.Ns C m) -> Q (.ref D) H' -> compPost (model X.prog X.w) X.A X.xe use QQ (.ref D) C (.ok .next) s')
  (hs:∀ x,foldedSetIterable iter X.env x=pure x:=by intro _; rfl) :
  wpAny (model X.prog X.w) X.A (comprehension (.ListComp elt [⟨tg,iter,ifs,0⟩] scope pos) scope X.env cpos (newList []) false (eval iter X.env) use) QQ X.xe s:=by
 obtain ⟨cl,hclos,cl1,cl2⟩:=oi (scope:=scope) (env:=X.env) (fun x hx hf=>I.ok.has x.1 (.inl (by
  show X.env.scope.names.lookup x.1=_
  rw [hsc]; exact hfr x hx hf)))
 refine wpAny_comprehension_free (use:=use) rfl hs hclos hkind hnames (thn (hi pins s σ H _ I h) fun v s1 h1=>thn h1 fun itv s2 h2=>?_)
 obtain ⟨it,fp,tn,J,H2,e,I2,T,st2,f2,hD⟩:=h2
 subst e
 refine wpAny_newObj_type (wpAny_newFunctionEnv hcell (by intro y hy; simp at hy) (fun h₁ hns₁ hsb₁=>?_) hkind)
 have I3:Inv X pins σ (upd H2 s2.heap.objs.size (.lst [])) { s2 with heap:=s2.heap.push { cls:=.type "list",data:=.seq ([]:List Value).toArray },toks:=s2.toks }:=I2.lnew (ys:=[]) (its:=[]) .nil (Nat.zero_le _)
 have fD:H2 s2.heap.objs.size=none:=I2.hok.fresh (Nat.le_refl _)
 obtain ⟨W,⟨m0,w0⟩,turn⟩:=hD _ fD
 have hfp2:∀ b ∈ fp,b < s2.heap.objs.size:=fun b hb=>by
  obtain ⟨o,e,_⟩:=T.obj 0 s2.heap st2 b hb
  exact Heap.lt_size e
 dsimp only at hns₁ hsb₁ I3 ⊢
 generalize hH2:s2.heap.push { cls:=.type "list",dict:=none,data:=.seq ([]:List Value).toArray }=H3h at hns₁ hsb₁ I3 ⊢
 generalize hDd:s2.heap.objs.size=D at *
 have hC:H3h.objs.size=D + 1:=by rw [<- hH2,Heap.size_push,hDd]
 generalize hCc:H3h.objs.size=C at *
 have hDC:D < C:=by rw [hC]; exact Nat.lt_succ_self _
 have hCD:C ≠ D:=Nat.ne_of_gt hDC
 have hfpC:∀ b ∈ fp,b ≠ C:=fun b hb=>Nat.ne_of_lt (Nat.lt_trans (hfp2 b hb) hDC)
 have hfpD:∀ b ∈ fp,b ≠ D:=fun b hb=>Nat.ne_of_lt (hfp2 b hb)
 have old2:∀ b o,s2.heap.get? b=some o -> H3h.get? b=some o:=fun b o e=>by rw [<- hH2]; exact Heap.get?_push_of_some _ e
 have old:∀ b o,H3h.get? b=some o -> h₁.get? b=some o:=fun b o e=>hsb₁.extBut b o (Nat.ne_of_lt (by have:=Heap.lt_size e; rw [hCc] at this; exact this)) (Heap.get?_push_of_some _ e)
 have frH:upd H2 D (.lst []) C=none:=by rw [aw hCD]; exact I2.hok.fresh (by rw [hDd]; exact Nat.le_of_lt hDC)
 have ok':(cxC X scope cl N2 ys C { s2 with heap:=H3h } (upd H2 D (.lst [])) fp).Ok:=by
  refine ⟨I.ok.mod,hkind,I.ok.glob,I.ok.blt,?_,?_,?_,?_,I.ok.hd,I.ok.frames,.inl rfl,?_,?_,?_,?_,?_,?_,?_⟩
  ·show H3h.objs.size <= C
   exact Nat.le_of_eq hCc
  ·intro x y c h1 h2
   exact I.ok.inj x y c (cl1 x c h1) (cl1 y c h2)
  ·intro x hx
   have hx:(relabel scope X.env).names.lookup x=some .cell \/ (relabel scope X.env).names.lookup x=some .free:=hx
   have key:scope.names.lookup x=some .free \/ scope.names.lookup x=some .cell:=by
    rcases hx with q | q
    ·rcases bU q with z | z
     ·exact .inr z
     ·exact .inl z.1
    ·rcases bU q with z | z
     ·exact .inl z
     ·exact .inl z.1
   rcases key with q | q
   ·exact cl2 x (PySem.mem_of_lookup q)
   ·exact absurd rfl (hcell _ (PySem.mem_of_lookup q))
  ·intro x c z _
   exact absurd (show false=true from z) (by decide)
  ·intro b hb
   refine ⟨fun z=>?_,fun x c e=>?_⟩
   ·exact hfpC b hb z
   ·exact (f2 b hb).2.2.2.2.1 x c (cl1 x c e)
  ·intro b o e
   exact ⟨I3.bk b o e,(I3.bs b o e).2⟩
  ·exact Nat.le_trans I.ok.bsz I3.sz
  ·intro b o e hb
   rcases (f2 b hb).2.2.2.1 with q | q
   ·exact I.ok.noex b o e q
   ·exact absurd (Nat.lt_of_lt_of_le (Heap.lt_size e) (Nat.le_trans I.ok.bsz q)) (Nat.lt_irrefl _)
  ·intro b hb hz
   rcases List.mem_cons.mp (I.stkSub b hz) with q | q
   ·exact (f2 b hb).2.1 q
   ·exact (f2 b hb).2.2.1 q
  ·exact I3.stack
  ·intro b hb
   exact I3.stkFree b hb
 have lenN:N2.length=X.N.length:=by rw [hNl,hNe]
 have lenR:(σ ++ List.replicate ys.length (none:Option V)).length=(N2 ++ ys).length:=by
  rw [List.length_append,List.length_append,List.length_replicate,I.len,lenN]
 have I4:Inv (cxC X scope cl N2 ys C { s2 with heap:=H3h } (upd H2 D (.lst [])) fp) [] (σ ++ List.replicate ys.length none) (upd H2 D (.lst [])) { s2 with heap:=h₁,toks:=s2.toks + ([]:List (Str × Value)).length }:=by
  refine ⟨ok',rfl,I2.bare,Un.kept old,⟨_,hns₁,?_⟩,?_,frH,?_,?_,I3.hok.kept old,lenR⟩
  ·intro i x v h1 h2 h3
   have hi:i < X.N.length:=by
    by_cases hi:i < X.N.length
    ·exact hi
    ·exfalso
     rw [List.getElem?_append_right (by rw [I.len]; lia),List.getElem?_replicate] at h2
     split at h2 <;> cases h2
   have h1:N2[i]?=some x:=by
    have h1:(N2 ++ ys)[i]?=some x:=h1
    rw [List.getElem?_append_left (by rw [lenN]; exact hi)] at h1
    exact h1
   have h2:σ[i]?=some (some v):=by
    rw [List.getElem?_append_left (by rw [I.len]; exact hi)] at h2
    exact h2
   have h3:Vis (relabel scope X.env) x:=h3
   have hx:x ∈ N2:=List.mem_of_getElem? h1
   have hfree:scope.names.lookup x=some .free:=by
    rcases h3 with q | q | q
    ·rcases bU q with z | z
     ·exact absurd z (hloc x hx)
     ·exact z.1
    ·rcases bU q with z | z
     ·exact absurd rfl (hcell _ (PySem.mem_of_lookup z))
     ·exact z.1
    ·rcases bU q with z | z
     ·exact z
     ·exact z.1
   have h1:X.N[i]?=some x:=by
    rw [hNe] at hi ⊢
    have h1z:(N2.zip N)[i]?=some (x,N[i]):=by
     rw [List.getElem?_zip_eq_some]
     exact ⟨h1,List.getElem?_eq_getElem hi⟩
    rcases hsub _ (List.mem_of_getElem? h1z) with e | e
    ·rw [List.getElem?_eq_getElem hi]
     exact congrArg some e.symm
    ·exact absurd hfree e
   have hk:X.env.scope.names.lookup x=some .cell:=by rw [hsc]; exact hfr _ (PySem.mem_of_lookup hfree) rfl
   obtain ⟨m,hn,hl⟩:=I3.loc
   obtain ⟨u,r,l⟩:=hl i x v h1 h2 (.inr (.inl hk))
   refine ⟨u,r,.inr ⟨?_,?_⟩⟩
   ·show (relabel scope X.env).names.lookup x=some .cell \/ (relabel scope X.env).names.lookup x=some .free
    rcases h3 with q | q | q
    ·rcases bU q with z | z
     ·exact absurd z (hloc x hx)
     ·cases z.2
    ·exact .inl q
    ·exact .inr q
   ·rcases l with ⟨q,_⟩ | ⟨_,c,e,z⟩
    ·have q:X.env.scope.names.lookup x=some .local:=q
     rw [hk] at q; cases q
    ·obtain ⟨c',e'⟩:=cl2 x (PySem.mem_of_lookup hfree)
     have:=cl1 x c' e'
     rw [e] at this; cases this
     obtain ⟨o,ho,hd⟩:=z
     exact ⟨c,e',o,old c o ho,hd⟩
  ·intro x c e
   obtain ⟨v,o,ho,hd⟩:=I3.cell x c (cl1 x c e)
   exact ⟨v,o,old c o ho,hd⟩
  ·intro x c e
   exact I3.freeC x c (cl1 x c e)
  ·intro p hp
   exact absurd (show p ∈ ([]:List (Addr × Obj)) from hp) (by simp)
 have stat:∀ {H':Hp},(∀ b ∈ fp,H' b=none) -> ∀ b ∈ fp,gB (cxC X scope cl N2 ys C { s2 with heap:=H3h } (upd H2 D (.lst [])) fp) [] H' b:=fun hn b hb=>by
  refine ⟨hn b hb,fun z=>?_,ok'.exfs b hb,.inl hb,fun x c e=>(f2 b hb).2.2.2.2.1 x c (cl1 x c e),fun p hp=>absurd (show p ∈ ([]:List (Addr × Obj)) from hp) (by simp)⟩
  exact hfpC b hb z
 have frD:∀ b ∈ fp,upd H2 D (.lst []) b=none:=fun b hb=>by
  rw [aw (hfpD b hb)]
  exact (f2 b hb).1
 have tn4:tn 0 h₁:=T.keep _ _ _ st2 fun b _ o e=>old b o (old2 b o e)
 have fin:∀ {σ':St} {H':Hp} {s':Shared},Inv (cxC X scope cl N2 ys C { s2 with heap:=H3h } (upd H2 D (.lst [])) fp) [] σ' H' s' -> Q (.ref D) H' ->
   compPost (model X.prog X.w) X.A X.xe use QQ (.ref D) C (.ok .next) s':=fun {σ' H' s'} I' q=>by
  obtain ⟨m,hn,_⟩:=I'.loc
  have uab:Un (frs X.stack) fp H2 H' s2.heap s'.heap:=(Un.laid (fs:=frs X.stack) (ex:=fp) (h:=s2.heap) (h':=H3h) (a:=D) (o:=.lst []) old2 (Nat.le_of_eq hDd) fD).trans I'.base
  have I'':Inv X pins σ H' s':=I2.call' (ch:=fp) I'.os uab I'.hok I'.bare (fun b hb=>by
   obtain ⟨f0,f1,_,f3,f4,f5⟩:=f2 b hb
   exact ⟨f3,f1,f4,f5⟩)
  exact fin0 D C H' s' I'' (I2.fpOk (by rw [hDd]; exact Nat.le_of_lt hDC) I'.free) ⟨m,hn⟩ q
 have loop:codeAny (model X.prog X.w) X.A (.compLoop (.ListComp elt [⟨tg,iter,ifs,0⟩] scope pos) 0 (.ref it) (.ref D) (compEnvC scope cl C X.env)) (compPost (model X.prog X.w) X.A X.xe use QQ (.ref D) C) { s2 with heap:=h₁,toks:=s2.toks + ([]:List (Str × Value)).length }:=by
  refine mE (fun n s'=>∃ i zs H',Inv (cxC X scope cl N2 ys C { s2 with heap:=H3h } (upd H2 D (.lst [])) fp) [] (σ ++ List.replicate ys.length none) H' s' /\ tn i s'.heap /\ (∀ b ∈ fp,H' b=none) /\ W i n zs H') ?_ m0
   ⟨0,[],_,I4,tn4,frD,w0⟩
  rintro n s3 ⟨i,zs,H3,J3,st3,fr3,w3⟩
  rcases turn i n zs H3 w3 with ⟨stop,qn⟩ | ⟨go,step⟩
  ·refine thn (T.done (cxC X scope cl N2 ys C { s2 with heap:=H3h } (upd H2 D (.lst [])) fp) rfl rfl rfl hc i [] s3 _ H3 _ J3 (stat fr3) st3 stop) fun r s4 ⟨hr,J4⟩=>?_
   subst hr
   exact fin J4 qn
  ·refine thn (T.item (cxC X scope cl N2 ys C { s2 with heap:=H3h } (upd H2 D (.lst [])) fp) rfl rfl rfl hc i [] s3 _ H3 _ J3 (stat fr3) st3 go) fun r s4 ⟨u,hr,h4⟩=>?_
   subst hr
   refine thn h4 fun _ s5 ⟨x,H5,J5,r5,y5,st5,fr5⟩=>?_
   have J5':=J5.pinned (stat fr5) (T.obj _ _ st5)
   refine wpAny_mono (hg cl C _ _ fp _ s5 _ H5 x u _ J5' r5 (step x H5 y5)) (fun _ s6 ⟨σ6,H6,J6,⟨τ,eτ,lτ⟩,q6⟩=>?_) fun _ _ z=>False.elim z
   refine wpAny_mono (ht cl C _ _ fp _ s6 σ6 H6 _ J6 q6) (fun b s7 ⟨H7,J7,q7⟩=>?_) fun _ _ z=>False.elim z
   have again:∀ {H8:Hp} {s8:Shared} {zs':List V},Inv (cxC X scope cl N2 ys C { s2 with heap:=H3h } (upd H2 D (.lst [])) fp) ([] ++ iK fp s5.heap) σ6 H8 s8 -> (∃ m',m' < n /\ W (i + 1) m' zs' H8) ->
     ∃ m,m < n /\ ∃ i zs H',Inv (cxC X scope cl N2 ys C { s2 with heap:=H3h } (upd H2 D (.lst [])) fp) [] (σ ++ List.replicate ys.length none) H' s8 /\ tn i s8.heap /\ (∀ b ∈ fp,H' b=none) /\ W i m zs H':=fun {H8 s8 zs'} J8 ⟨m',hm,w8⟩=>by
    refine ⟨m',hm,i + 1,zs',H8,J8.unpinned.weak (by rw [eτ,List.length_append,List.length_append,List.length_replicate,lτ]) (fun j v e=>?_),T.keep _ _ _ st5 fun b hb o e=>(J8.pin (b,o) (List.mem_append_right _ (List.mem_append_right _ (eK hb e)))).1,fun b hb=>?_,w8⟩
    ·rw [eτ]
     by_cases hj:j < σ.length
     ·rw [List.getElem?_append_left hj] at e ⊢
      exact e
     ·exfalso
      rw [List.getElem?_append_right (by lia),List.getElem?_replicate] at e
      split at e <;> cases e
    ·obtain ⟨o,e,d⟩:=T.obj _ _ st5 b hb
     exact (J8.pin (b,o) (List.mem_append_right _ (List.mem_append_right _ (eK hb e)))).2.1
   cases b with
   | false =>
    rw [if_neg (by decide)] at q7 ⊢
    exact again J7 q7
   | true =>
    rw [if_pos rfl] at q7 ⊢
    refine wpAny_mono (he cl C _ _ fp _ s7 σ6 H7 _ J7 q7) (fun y s8 ⟨yv,H8,J8,r8,hD8,hz8,w8⟩=>?_) fun _ _ z=>False.elim z
    refine wpAny_mono (jU (X:=(cxC X scope cl N2 ys C { s2 with heap:=H3h } (upd H2 D (.lst [])) fp)) _ s8 σ6 H8 (.ref D) [yv] (.ref D) [y] (fun _ H9=>∃ m',m' < n /\ W (i + 1) m' (zs ++ [yv]) H9) J8 rfl (.cons r8 .nil) ⟨D,zs,yv,rfl,rfl,hD8,hz8,w8⟩) (fun _ s9 ⟨_,H9,J9,_,w9⟩=>?_) fun _ _ z=>False.elim z
    exact again J9 w9
 exact codeAny_compStart_list loop (T.self _ 0 _ _ _ tn4 loop)
theorem fb {X:Cx} {elt tg iter:Expr} {ifs:List Expr} {scope:Scope} {pos:Pos} {wi:TI} {g:TG} {tt:TT} {te:TE}
  (N N2 ys:List Str) (sc:Scope) (hc:X.calm=true) (hNe:X.N=N) (hNl:N2.length=N.length) (hsub:∀ p ∈ N2.zip N,p.1=p.2 \/ ¬ scope.names.lookup p.1=some .free) (hsc:X.env.scope=sc) (hkind:scope.kind=.function) (hcell:∀ y ∈ scope.names,y.2 ≠ .cell) (hnames:∀ y ∈ scope.names,y.2=.local -> scope.names.lookup y.1=some .local)
  (hfr:∀ y ∈ scope.names,y.2=.free -> sc.names.lookup y.1=some .cell) (hloc:∀ y ∈ N2,scope.names.lookup y ≠ some .local)
  (hi:PI X tg iter wi) (hg:∀ cl C s H fp,PG (cxC X scope cl N2 ys C s H fp) tg g) (ht:∀ cl C s H fp,PTs (cxC X scope cl N2 ys C s H fp) ifs tt) (he:∀ cl C s H fp,PE (cxC X scope cl N2 ys C s H fp) elt te)
  (hs:∀ x,foldedSetIterable iter X.env x=pure x:=by intro _; rfl) :
  PE X (.ListComp elt [⟨tg,iter,ifs,0⟩] scope pos) (tLC ys.length wi g tt te):=by
 intro pins s σ H Q I h
 rw [eval_ListComp]
 refine pN (use:=none) N N2 ys sc hc hNe hNl hsub hsc hkind hcell hnames hfr hloc hi hg ht he I h (fun D C H' s' I' cf hns q=>?_) hs
 obtain ⟨m,hn⟩:=hns
 obtain ⟨f0,f1,f2,f3,f4,f5⟩:=cf
 exact ⟨m,hn,fun h' hs'=>⟨.ref D,H',I'.turned (t':=s'.toks) (it:=C) (fun b o hb e=>(hs'.2 b hb).trans e) f0 f1 f3 f4 f5,rfl,q⟩⟩
theorem ir {X:Cx} {elt tg iter:Expr} {ifs:List Expr} {scope:Scope} {pos spos py:Pos} {wi:TI} {g:TG} {tt:TT} {te:TE} {i:Nat} {y:Str} (hN:X.N.Nodup) (hiy:X.N[i]?=some y) (hy:Loc X.env.scope y)
  (N N2 ys:List Str) (sc:Scope) (hc:X.calm=true) (hNe:X.N=N) (hNl:N2.length=N.length) (hsub:∀ p ∈ N2.zip N,p.1=p.2 \/ ¬ scope.names.lookup p.1=some .free) (hsc:X.env.scope=sc) (hkind:scope.kind=.function) (hcell:∀ y ∈ scope.names,y.2 ≠ .cell) (hnames:∀ y ∈ scope.names,y.2=.local -> scope.names.lookup y.1=some .local)
  (hfr:∀ y ∈ scope.names,y.2=.free -> sc.names.lookup y.1=some .cell) (hloc:∀ y ∈ N2,scope.names.lookup y ≠ some .local)
  (hi:PI X tg iter wi) (hg:∀ cl C s H fp,PG (cxC X scope cl N2 ys C s H fp) tg g) (ht:∀ cl C s H fp,PTs (cxC X scope cl N2 ys C s H fp) ifs tt) (he:∀ cl C s H fp,PE (cxC X scope cl N2 ys C s H fp) elt te)
  (hsw:swapsWith (.ListComp elt [⟨tg,iter,ifs,0⟩] scope pos) (some (.Name y py)) spos.line X.env=pure true)
  (hs:∀ x,foldedSetIterable iter X.env x=pure x:=by intro _; rfl) (hf:X.fn y=true \/ X.env.scope.names.lookup y=some .local:=by first | exact .inl rfl | exact .inr rfl | assumption) :
  PS X (.Assign [.Name y py] (.ListComp elt [⟨tg,iter,ifs,0⟩] scope pos) spos) (tAsg (tLC ys.length wi g tt te) (ga i)):=by
 intro pins s σ H D I h
 rw [exec_Assign_Name_used _ _ _ _ hsw]
 refine wpAny_bind (wpAny_standAt (wpAny_bind ?_))
 show wpAny _ X.A (do let _ <- comprehension (.ListComp elt [⟨tg,iter,ifs,0⟩] scope pos) scope X.env _ (newList []) false (eval iter X.env) (some (assign (.Name y py) X.env))) _ _ s
 refine wpAny_bind (wpAny_mono (pN (use:=some (assign (.Name y py) X.env)) (QQ:=fun _ s'=>SP X pins D .next s') N N2 ys sc hc hNe hNl hsub hsc hkind hcell hnames hfr hloc hi hg ht he I h (fun D' C H' s' I' cf hns q=>?_) hs) (fun _ s' hq=>wpAny_pure (wpAny_pure hq)) fun _ _ e=>e)
 obtain ⟨m,hn⟩:=hns
 obtain ⟨f0,f1,f2,f3,f4,f5⟩:=cf
 show wpAny _ X.A (assign (.Name y py) X.env (.ref D')) _ _ s'
 refine wpAny_assign_Name (jI I' hN hiy hy (show aY (V.ref D') (Value.ref D') from rfl) (fun s'' I'' hsb=>?_) hf)
 obtain ⟨a,sb,ha⟩:=hsb
 have hCa:C ≠ a:=by
  rcases ha with e | e
  ·rw [e]; exact f1
  ·exact (f4 y a e).symm
 refine ⟨m,hn.sameBut sb hCa,fun h' hs'=>⟨_,H',?_,q⟩⟩
 exact I''.turned (t':=s''.toks) (it:=C) (fun b o hb e=>(hs'.2 b hb).trans e) f0 f1 f3 f4 f5
theorem gY:∀ {us:List Value} {ss:List Str},us.length=ss.length -> (∀ (j:Nat) (v:Value),us[j]?=some v -> ∃ x t,ss[j]?=some x /\ v=.str x t) -> StrsAre us ss
 | [],[],_,_=>.nil
 | [],_ :: _,h,_=>by simp at h
 | _ :: _,[],h,_=>by simp at h
 | u :: us,x :: ss,h,k=>by
  obtain ⟨x',t,e1,e2⟩:=k 0 u rfl
  cases e1
  subst e2
  exact .cons _ _ (gY (by simpa using h) fun j v e=>k (j + 1) v (by simpa using e))
theorem qK {us:List Value} {ss:List Str} (h:StrsAre us ss):bh (ss.map V.str) us:=by
 induction h with
 | nil=>exact .nil
 | cons y t r ih=>exact .cons ⟨t,rfl⟩ ih
def leS (a b:Str):Prop:=ltCps b.cps.toList a.cps.toList=false
theorem jF {vs:List Value} {ss:List Str} (hS:StrsAre vs ss) {xs:Array Keyed} (hp:xs.Perm (pairsOf vs)) (hs:SortedToK strKind xs (pairsOf vs).size) :
  ∃ ss',StrsAre (xs.map (·.2)).toList ss' /\ ss'.Perm ss /\ ss'.Pairwise leS:=by
 have hl:xs.toList.Perm (vs.zip vs):=by rw [<- pairsOf_toList]; exact Array.perm_iff_toList_perm.mp hp
 have hmem:∀ p,p ∈ xs.toList -> p.1=p.2 /\ p.1 ∈ vs:=fun p hp'=>mem_zip_self (hl.mem_iff.mp hp')
 refine ⟨xs.toList.map (fun p=>strOf p.1),?_,?_,?_⟩
 ·have e:(xs.map (·.2)).toList=xs.toList.map (·.1):=by
   rw [Array.toList_map]; exact List.map_congr_left fun p hp'=>(hmem p hp').1.symm
  rw [e]
  have h1:=strsAre_map (xs.toList.map (·.1)) (by
   intro v hv
   obtain ⟨p,hp',rfl⟩:=List.mem_map.mp hv
   exact hS.all _ (hmem p hp').2)
  rwa [List.map_map] at h1
 ·have h1:=hl.map (fun p=>strOf p.1)
  have e2:(vs.zip vs).map (fun p=>strOf p.1)=ss:=by
   have:(vs.zip vs).map (fun p=>strOf p.1)=((vs.zip vs).map Prod.fst).map strOf:=by rw [List.map_map]; rfl
   rw [this,List.map_fst_zip (Nat.le_refl _),hS.strs]
  rwa [e2] at h1
 ·rw [List.pairwise_iff_getElem]
  intro i j hi hj hij
  have hi':i < xs.size:=by simpa using hi
  have hj':j < xs.size:=by simpa using hj
  have h1:=hs i j (Nat.le_of_lt hij) (by rw [<- hp.size_eq]; exact hj')
  obtain ⟨x,t,ex⟩:=hS.all _ (hmem xs[i] (by simp)).2
  obtain ⟨y,u,ey⟩:=hS.all _ (hmem xs[j] (by simp)).2
  rw [KK_str hi' (x:=x) (t:=t) (q:=xs[i].2) (Prod.ext ex rfl),KK_str hj' (x:=y) (t:=u) (q:=xs[j].2) (Prod.ext ey rfl)] at h1
  change decide (y.cps.toList < x.cps.toList)=false at h1
  unfold leS
  simp only [List.getElem_map,Array.getElem_toList]
  rw [show strOf xs[i].1=x by rw [ex]; rfl,show strOf xs[j].1=y by rw [ey]; rfl,ltCps_eq]
  exact h1
theorem eM {X:Cx} (hc:X.calm=true):cU X (.builtin "sorted") (fun xs H Q=>∃ (a:Addr) (kvs:List (Key × V)) (ss:List Str),xs=[.ref a] /\ H a=some (.dK kvs) /\ kvs.map (·.1)=ss.map Sum.inr /\ kvs.length < 64 /\
  ∀ (p:Addr) (ss':List Str),H p=none -> ss'.Perm ss -> ss'.Pairwise leS -> Q (.ref p) (upd H p (.lst (ss'.map V.str)))):=by
 intro pins s σ H xs us Q I rv h
 obtain ⟨a,kvs,ss,rfl,hd,hks,h64,q⟩:=h
 obtain ⟨u,rfl,ru⟩:=rv.one
 cases ru
 obtain ⟨z,lo,vs,rel,dd⟩:=mq I.hok hd
 obtain ⟨ep,hat⟩:=dd.dictAt
 have hlen:vs.length=kvs.length:=rel.length.symm
 have hss:ss.length=kvs.length:=by have:=congrArg List.length hks; simpa using this.symm
 have hh:X.A.handled=none:=I.ok.hd hc
 refine Calls.call_function_entry kind_sorted plain_sorted entry_sorted (args_sorted1 _) ?_
 unfold Builtin.«sorted»
 refine wpAny_bind (m:=checkCount "sorted" 1 1 _) (wpAny_pure ?_)
 refine wpAny_bind (PySem.W.kdu_collect (A:=X.A.in1) (PySem.W.kdl_dict (knd:=bo X.prog X.w) (kvs:=vs) (ep:=ep) lo) hh hat (by rw [hlen]; exact z) fun h' tk acc hk hacc=>?_)
 have hal:acc.toList.length=vs.length:=by rw [Array.length_toList]; exact hacc.1
 refine wpAny_bind (wpAny_newList ?_ (by rw [hal,hlen]; exact z))
 have hS:StrsAre acc.toList ss:=gY (by lia) fun j v e=>by
  obtain ⟨k,x,e1,e2⟩:=hacc.2 j v (by rw [<- Array.getElem?_toList]; exact e)
  have hj:j < kvs.length:=by have:=(List.getElem?_eq_some_iff.mp e1).1; lia
  have key:(kvs.map (·.1))[j]?=some k:=by
   have h2:∀ {l:List (Key × V)} {m:List (Key × Value)} {j:Nat} {q:Key × Value},KV l m -> m[j]?=some q -> (l.map (·.1))[j]?=some q.1:=by
    intro l m
    intro j q r
    unfold KV at r
    induction r generalizing j with
    | nil=>intro e; simp at e
    | cons h t ih =>
     intro e
     cases j with
     | zero=>simp at e; subst e; simp [h.1]
     | succ j=>simp at e ⊢; have:=ih e; simpa using this
   exact h2 rel e1
  rw [hks,List.getElem?_map] at key
  cases es:ss[j]? with
  | none=>rw [es] at key; cases key
  | some x' =>
   rw [es] at key
   cases key
   rcases bS (show iH (Sum.inr x') v=true from e2) with ⟨i,t,e3,_⟩ | ⟨y,t,e3,e4⟩
   ·cases e3
   ·cases e3
    exact ⟨x',t,rfl,e4⟩
 have I1:Inv X pins σ H { s with heap:=h',toks:=tk }:=I.kept (t':=tk) hk
 have hoL:(h'.push { cls:=.type "list",data:=.seq acc.toList.toArray }).get? h'.objs.size=some (seqObj "list" acc.toList.toArray 0):=Heap.get?_push_size _ rfl
 refine wpAny_bind (wpAny_holding (wpAny_call_entry slot_list_sort ⟨_,hoL,rfl⟩ entry_list_sort (list_sort_treeK strKind_oneLt hoL hS.keysOf (fun v₁ v₂ rest e=>keyKind_strs (by rw [<- e]; exact hS)) (by lia) fun st' hp hs=>⟨_,rfl,?_⟩) (args_list_sort _)))
 obtain ⟨ss',h1,h2,h3⟩:=jF hS hp hs
 refine wpAny_pure ⟨_,rfl,?_⟩
 obtain ⟨e,he⟩:=sortedHeap_at (out:=(arrOf st').map (·.2)) hoL
 refine ⟨.ref h'.objs.size,_,I1.laid (t':=tk) (a:=h'.objs.size) (o:=.lst (ss'.map V.str)) (fun b o e=>?_) (Nat.le_refl _) ?_,rfl,q h'.objs.size ss' (I1.hok.fresh (Nat.le_refl _)) h2 h3⟩
 ·have hb:=Heap.lt_size e
  rw [sortedHeap_old (Nat.ne_of_lt hb) (by rw [Heap.size_push]; exact Nat.lt_succ_of_lt hb)]
  exact Heap.get?_push_of_some _ e
 ·exact ⟨by rw [List.length_map,h2.length_eq,hss]; exact z,((arrOf st').map (·.2)).toList,e,qK h1,by rw [Array.toArray_toList]; exact he⟩
theorem fz {X:Cx}:cU X (.type "tuple") (fun xs H Q=>∃ p ys,xs=[.ref p] /\ SqL X.K H p ys /\ ∀ (l:Addr) (o:Obj),H l=none -> o.dict=none -> Q (.ref l) (upd H l (.frz o (.tup ys)))):=by
 intro pins s σ H xs us Q I r h
 obtain ⟨p,ys,rfl,hq,q⟩:=h
 obtain ⟨u,rfl,rx⟩:=eW r
 cases rx
 obtain ⟨its,r',pl,hz⟩:=I.list hq
 have hlen:=r'.length
 refine call_tuple_list pl.isList (fun h' kp=>?_) (by simp only [List.size_toArray] <;> lia)
 have I1:Inv X pins σ H { s with heap:=h' }:=I.kept (t':=s.toks) kp
 have I2:Inv X pins σ (upd H h'.objs.size (.frz { cls:=.type "tuple",data:=.seq its.toArray } (.tup ys))) { s with heap:=h'.push { cls:=.type "tuple",data:=.seq its.toArray } } :=
  I1.laid (t':=s.toks) (fun b o e=>Heap.get?_push_of_some _ e) (Nat.le_refl _) (show ck X.prog X.w _ _ _ (.frz _ (.tup ys)) from ⟨Heap.get?_push_size _ rfl,hz,its,r',IsTup.new _ _⟩)
 exact ⟨.ref h'.objs.size,_,I2,rfl,q _ _ (I1.hok.fresh (Nat.le_refl _)) rfl⟩
section
variable {X:Cx}
theorem Inv.turnedT {pins:List (Addr × Obj)} {σ:St} {H:Hp} {s:Shared} {h':Heap} {t':Nat} {ch:List Addr} {T:Addr} {xs:List V} {us:List Value} (I:Inv X pins σ H s) (k:∀ b o,b ∉ ch -> s.heap.get? b=some o -> h'.get? b=some o)
  (hf:∀ b ∈ ch,gB X pins H b) (hT:s.heap.objs.size <= T) (hz:xs.length <= sizeLine) (hv:bh xs us) (ht:IsTup h' T us.toArray):Inv X pins σ (upd H T (.tup xs)) { s with heap:=h',toks:=t' }:=by
 have hn:H T=none:=I.hok.fresh hT
 have nch:∀ b u,H b=some u -> b ∉ ch:=fun b u e z=>by rw [(hf b z).1] at e; cases e
 refine I.step (g':=s.gens) (d':=s.drawn) (ch:=ch) (fun b hb=>?_) (fun b o _ _ hc e _=>k b o hc e) (fun b o _ _ hc e _=>⟨o.slots,k b o hc e⟩) (fun b o _ e n=>?_)
  (fun b o hc e=>⟨o,k b o hc e⟩) (fun b ys e=>?_) (fun b o u e=>?_) (fun b ps e=>⟨#[],?_⟩) (fun m hm=>?_) (fun b u e=>?_) I.bare
 ·obtain ⟨_,h1,_,h3,h4,h5⟩:=hf b hb
  exact ⟨h3,h1,h4,h5⟩
 ·rw [aw (Nat.ne_of_lt (Nat.lt_of_lt_of_le (Heap.lt_size e) hT))]
  exact n
 ·rw [aw (ak e hn)]; exact e
 ·rw [aw (ak e hn)]; exact e
 ·rw [aw (ak e hn),e]; simp
 ·obtain ⟨o,es,ep,ho,r⟩:=hm
  exact ⟨o,es,ep,k _ o (fun z=>(hf _ z).2.1 rfl) ho,r⟩
 ·by_cases hb:b=T
  ·subst hb
   rw [ai] at e
   cases e
   exact ⟨hz,us,hv,ht⟩
  ·rw [aw hb] at e
   refine (I.hok b u e).stay (fun c v hc q=>k c v ?_ q) (fun c q=>by rw [aw (ak q hn)]; exact q) fun c ys q=>by rw [aw (ak q hn)]; exact q
   rcases hc with z | z
   ·rw [z]; exact nch b u e
   ·exact nch c _ z
theorem Inv.turnedL {pins:List (Addr × Obj)} {σ:St} {H:Hp} {s:Shared} {h':Heap} {t':Nat} {ch:List Addr} (I:Inv X pins σ H s) (k:∀ b o,b ∉ ch -> s.heap.get? b=some o -> h'.get? b=some o)
  (hf:∀ b ∈ ch,gB X pins H b):Inv X pins σ H { s with heap:=h',toks:=t' }:=by
 have nch:∀ b u,H b=some u -> b ∉ ch:=fun b u e z=>by rw [(hf b z).1] at e; cases e
 refine I.step (g':=s.gens) (d':=s.drawn) (ch:=ch) (fun b hb=>?_) (fun b o _ _ hc e _=>k b o hc e) (fun b o _ _ hc e _=>⟨o.slots,k b o hc e⟩) (fun b o _ e n=>n)
  (fun b o hc e=>⟨o,k b o hc e⟩) (fun b ys e=>e) (fun b o u e=>e) (fun b ps e=>⟨#[],by rw [e]; simp⟩) (fun m hm=>?_) (fun b u e=>?_) I.bare
 ·obtain ⟨_,h1,_,h3,h4,h5⟩:=hf b hb
  exact ⟨h3,h1,h4,h5⟩
 ·obtain ⟨o,es,ep,ho,r⟩:=hm
  exact ⟨o,es,ep,k _ o (fun z=>(hf _ z).2.1 rfl) ho,r⟩
 ·refine (I.hok b u e).stay (fun c v hc q=>k c v ?_ q) (fun c q=>q) fun c ys q=>q
  rcases hc with z | z
  ·rw [z]; exact nch b u e
  ·exact nch c _ z
end
end L2
namespace KR
open PySem
section
variable {prog:Program} {w:World} {A:Around} {E:Value -> Shared -> Prop} {s:Shared}
end
end KR
namespace L2
open PySem PySem.Spec PyProof.Rows
section
variable {X:Cx}
def Itx (x:Str):It:=⟨fun i _=>i < x.cps.size,fun i H v H'=>H'=H /\ ∃ c,x.cps[i]?=some c /\ v=.str ⟨#[c]⟩,fun i _=>i=x.cps.size⟩
theorem sU {P:Program} {w:World} {K:PySem.W.Frag} {tg:Expr} (it:Addr) (x:Str) (t:Tok) {ty:String} (hty:ty="str_ascii_iterator" \/ ty="str_iterator"):nC P w K tg (Itx x) [it] it (fun i h=>h.IsStrIter it ty x t i) where
 mem:=by simp
 obj:=fun i h st b hb=>by
  have e:b=it:=by simpa using hb
  subst e
  obtain ⟨o,e,c,d⟩:=st
  exact ⟨o,e,fun v z=>by rw [d] at z; cases z⟩
 keep:=fun i h h' st k=>by
  obtain ⟨o,e,c⟩:=st
  exact ⟨o,k it (by simp) o e,c⟩
 item:=by
  intro X hP hw hK hc i pins s σ H E I hf st hg
  subst hP hw hK
  have W:Walks X.prog X.w X.A it [it] [it] x.cps.size (SignAt x) (fun i h=>h.IsStrIter it ty x t i):=by
   rcases hty with rfl | rfl
   ·exact Walks.strAscii (I.ok.hd hc) it x t
   ·exact Walks.strWide (I.ok.hd hc) it x t
  refine W.item i s _ _ hg st fun v h' tk hv st' kk=>?_
  obtain ⟨c,u,e1,rfl⟩:=hv
  have I1:Inv X pins σ H { s with heap:=h',toks:=tk }:=I.turnedL (ch:=[it]) kk (fun b hb=>hf b hb)
  obtain ⟨o,eo,co,d⟩:=id st'
  refine ⟨_,rfl,pA (s:={ s with heap:=h',toks:=tk }) (n:=ty) eo co d (by rcases hty with rfl | rfl <;> decide) ⟨.str ⟨#[c]⟩,H,I1,⟨u,rfl⟩,⟨rfl,c,e1,rfl⟩,st',fun b hb=>(hf b hb).1⟩⟩
 done:=by
  intro X hP hw hK hc i pins s σ H E I hf st hg
  subst hP hw hK
  have W:Walks X.prog X.w X.A it [it] [it] x.cps.size (SignAt x) (fun i h=>h.IsStrIter it ty x t i):=by
   rcases hty with rfl | rfl
   ·exact Walks.strAscii (I.ok.hd hc) it x t
   ·exact Walks.strWide (I.ok.hd hc) it x t
  have hg:i=x.cps.size:=hg
  subst hg
  exact W.done s _ _ st fun h' tk kk=>⟨rfl,I.turnedL (ch:=[it]) kk (fun b hb=>hf b hb)⟩
 self:=fun _ _ _ _ _ st h=>by
  rcases hty with rfl | rfl
  ·exact wpAny_pyIter_striter_ascii st h
  ·exact wpAny_pyIter_striter_wide st h
def iStr (te:TE):TI:=fun σ H R=>te σ H fun x H1=>∃ z:Str,x=.str z /\ R (Itx z) H1
theorem pi_str {tg e:Expr} {te:TE} (he:PE X e te):PI X tg e (iStr te):=by
 intro pins s σ H R I h
 refine thn (he pins s σ H _ I h) fun v s1 ⟨x,H1,I1,r1,q1⟩=>?_
 obtain ⟨z,e,q⟩:=q1
 subst e
 obtain ⟨t,rfl⟩:=r1
 refine wpAny_pyIter_strU ?_
 have hty:strIterType z="str_ascii_iterator" \/ strIterType z="str_iterator":=by
  unfold strIterType
  split
  ·exact .inl rfl
  ·exact .inr rfl
 refine ⟨s1.heap.objs.size,[s1.heap.objs.size],_,_,H1,rfl,I1.kept (t':=s1.toks) fun b o e=>Heap.get?_push_of_some _ e,sU s1.heap.objs.size z t hty,⟨_,Heap.get?_push_size _ rfl,rfl,rfl⟩,fun b hb=>?_,q⟩
 have e:b=s1.heap.objs.size:=by simpa using hb
 subst e
 exact I1.fpOk (Nat.le_refl _) (I1.hok.fresh (Nat.le_refl _))
def Th1 (H:Hp) (x:V):Prop:=cO x=true \/ ∃ (a:Addr) (xs:List V),x=.ref a /\ (Rd H a (.tup xs) \/ Rd H a (.lst xs))
theorem Th1.same {H H':Hp} {x:V} (e:ar H H') (h:Th1 H x):Th1 H' x:=by
 rcases h with h | ⟨a,xs,rfl,h⟩
 ·exact .inl h
 ·refine .inr ⟨a,xs,rfl,?_⟩
  rcases h with (h | ⟨o,h⟩) | (h | ⟨o,h⟩)
  ·exact .inl (.inl (e _ _ h))
  ·exact .inl (.inr ⟨o,e _ _ h⟩)
  ·exact .inr (.inl (e _ _ h))
  ·exact .inr (.inr ⟨o,e _ _ h⟩)
theorem rc_th {A:Around} {pins:List (Addr × Obj)} {σ:St} {H:Hp} {s:Shared} {x:V} {u:Value} {z:Str} {t:Tok} (hu:A.units < cLine) (I:Inv X pins σ H s) (hx:Th1 H x) (r:aY x u):SeqAt.RcAt A s u (.str z t) (decide (x=.str z)):=by
 rcases hx with hx | ⟨a,xs,rfl,hx⟩
 ·cases x with
  | non=>cases r; rw [decide_eq_false (by intro h; cases h)]; exact SeqAt.RcAt.none_str _ _
  | bl b=>cases r; rw [decide_eq_false (by intro h; cases h)]; exact SeqAt.RcAt.bool_str _ _ _
  | int i=>obtain ⟨t',rfl⟩:=r; rw [decide_eq_false (by intro h; cases h)]; exact SeqAt.RcAt.int_str _ _ _ _
  | str y=>obtain ⟨t',rfl⟩:=r; rw [im]; exact SeqAt.RcAt.str_str _ _ _ _
  | _=>exact absurd hx (by simp [cO])
 ·cases r
  rw [decide_eq_false (by intro h; cases h)]
  rcases hx with hx | hx
  ·obtain ⟨_,its,rv,p⟩:=hx.ok I.hok
   exact SeqAt.RcAt.tuple_str _ _ (show s.heap.IsTuple a its.toArray from p) hu
  ·obtain ⟨_,its,n,rv,p⟩:=hx.ok I.hok
   exact SeqAt.RcAt.list_str (l:=a) (items:=its.toArray) _ _ ⟨_,p,rfl,_,rfl⟩ hu
theorem iu (hu:X.A.units + 1 < cLine):OpR X (compareOp .Eq) (fun x y H Q=>∃ z:Str,y=.str z /\ Th1 H x /\ Q (.bl (decide (x=.str z))) H):=by
 intro pins s σ H x y v u Q I rx ry h
 obtain ⟨z,rfl,hx,q⟩:=h
 obtain ⟨t,rfl⟩:=ry
 exact rc_th (Nat.lt_of_succ_lt hu) I hx rx _ _ _ _ (bf I q rfl)
theorem sV (y z:Str):(y == z)=(z == y):=by
 by_cases h:y=z
 ·rw [h]
 ·rw [beq_eq_false_iff_ne.mpr h,beq_eq_false_iff_ne.mpr (Ne.symm h)]
theorem eq_ht {A:Around} {pins:List (Addr × Obj)} {σ:St} {H:Hp} {s:Shared} {x:V} {u:Value} {z:Str} {t:Tok} (hu:A.units < cLine) (I:Inv X pins σ H s) (hx:Th1 H x) (r:aY x u):SeqAt.EqAt A s (.str z t) u (decide (x=.str z)):=by
 rcases hx with hx | ⟨a,xs,rfl,hx⟩
 ·cases x with
  | non=>cases r; rw [decide_eq_false (by intro h; cases h)]; exact SeqAt.EqAt.str_none _ _
  | bl b=>cases r; rw [decide_eq_false (by intro h; cases h)]; exact SeqAt.EqAt.str_bool _ _ _
  | int i=>obtain ⟨t',rfl⟩:=r; rw [decide_eq_false (by intro h; cases h)]; exact SeqAt.EqAt.str_int _ _ _ _
  | str y =>
   obtain ⟨t',rfl⟩:=r
   rw [im,sV y z]
   exact SeqAt.EqAt.str_str _ _ _ _
  | _=>exact absurd hx (by simp [cO])
 ·cases r
  rw [decide_eq_false (by intro h; cases h)]
  rcases hx with hx | hx
  ·obtain ⟨_,its,rv,p⟩:=hx.ok I.hok
   exact SeqAt.EqAt.str_tuple _ _ (show s.heap.IsTuple a its.toArray from p) hu
  ·obtain ⟨_,its,n,rv,p⟩:=hx.ok I.hok
   exact SeqAt.EqAt.str_list (l:=a) (items:=its.toArray) _ _ ⟨_,p,rfl,_,rfl⟩ hu
def eqT (x:V):Value -> Bool
 | .str z _=>decide (x=.str z)
 | _=>false
theorem pO (x:V):∀ {zs:List Str} {us:List Value},bh (zs.map V.str) us -> us.any (eqT x)=zs.any fun z=>decide (x=.str z)
 | [],_,.nil=>rfl
 | z :: zs,_,.cons r t=>by
  obtain ⟨t',rfl⟩:=r
  rw [List.any_cons,List.any_cons,pO x t]
  rfl
theorem op_inTS (hu:X.A.units + 1 < cLine):OpR X (compareOp .In) (fun x y H Q=>∃ (p:Addr) (zs:List Str),y=.ref p /\ SqT X.K H p (zs.map V.str) /\ Th1 H x /\ Q (.bl (zs.any fun z=>decide (x=.str z))) H):=by
 intro pins s σ H x y v u Q I rx ry h
 obtain ⟨p,zs,rfl,hp,hx,q⟩:=h
 cases ry
 obtain ⟨its,r,pl,hz⟩:=I.tuple hp
 refine SeqAt.in_tupleAt (eqT x) pl (fun w hw=>?_) ⟨.bl _,H,I,rfl,?_⟩
 ·have hw:w ∈ its:=by simpa using hw
  obtain ⟨i,hi,e⟩:=List.mem_iff_getElem.mp hw
  have hl:=r.length
  rw [List.length_map] at hl
  obtain ⟨u',e1,e2⟩:=r.get (i:=i) (x:=.str (zs[i]'(by lia))) (by rw [List.getElem?_map,List.getElem?_eq_getElem (by lia)]; rfl)
  rw [List.getElem?_eq_getElem hi,e] at e1
  cases e1
  obtain ⟨t',rfl⟩:=e2
  exact eq_ht (A:=X.A.in1) hu I hx rx
 ·rw [show its.toArray.any (eqT x)=its.any (eqT x) by simp,pO x r]
  exact q
inductive Kd:Hp -> V -> String -> Prop
 | non {H:Hp}:Kd H .non "NoneType"
 | bl {H:Hp} (b:Bool):Kd H (.bl b) "bool"
 | int {H:Hp} (i:Int):Kd H (.int i) "int"
 | str {H:Hp} (x:Str):Kd H (.str x) "str"
 | lst {H:Hp} {a:Addr} {xs:List V}:Rd H a (.lst xs) -> Kd H (.ref a) "list"
 | tup {H:Hp} {a:Addr} {xs:List V}:Rd H a (.tup xs) -> Kd H (.ref a) "tuple"
theorem Th1.kd {H:Hp} {x:V} (h:Th1 H x):∃ k,Kd H x k:=by
 rcases h with h | ⟨a,xs,rfl,h⟩
 ·cases x with
  | non=>exact ⟨_,.non⟩
  | bl b=>exact ⟨_,.bl b⟩
  | int i=>exact ⟨_,.int i⟩
  | str y=>exact ⟨_,.str y⟩
  | _=>exact absurd h (by simp [cO])
 ·rcases h with h | h
  ·exact ⟨_,.tup h⟩
  ·exact ⟨_,.lst h⟩
theorem Kd.kit {pins:List (Addr × Obj)} {σ:St} {H:Hp} {s:Shared} {x:V} {u:Value} {k:String} (I:Inv X pins σ H s) (h:Kd H x k) (r:aY x u):∃ Y:Heap -> Prop,PySem.W.KitX X.K u (.type k) Y /\ Y s.heap /\ u ≠ Value.builtin "__main__.__loader__#opaque":=by
 cases h with
 | non=>cases r; exact ⟨_,PySem.W.kitx_none,trivial,fun z=>nomatch z⟩
 | bl b=>cases r; exact ⟨_,PySem.W.kitx_bool,trivial,fun z=>nomatch z⟩
 | int i=>obtain ⟨t,rfl⟩:=r; exact ⟨_,PySem.W.kitx_int,trivial,fun z=>nomatch z⟩
 | str y=>obtain ⟨t,rfl⟩:=r; exact ⟨_,PySem.W.kitx_str,trivial,fun z=>nomatch z⟩
 | lst h =>
  cases r
  obtain ⟨_,its,n,rv,p⟩:=h.ok I.hok
  exact ⟨_,PySem.W.kitx_list,⟨_,p,rfl⟩,fun z=>nomatch z⟩
 | tup h =>
  cases r
  obtain ⟨_,its,rv,o,e1,e2,_⟩:=h.ok I.hok
  exact ⟨_,PySem.W.kitx_tuple,⟨o,e1,e2⟩,fun z=>nomatch z⟩
theorem cg:cU X (.builtin "isinstance") (fun xs H Q=>∃ x c k b,xs=[x,.ty c] /\ Kd H x k /\ PySem.W.kitOne X.K (.type k) (.type c)=some b /\ Q (.bl b) H):=by
 intro pins s σ H xs us Q I rv h
 obtain ⟨x,c,k,b,rfl,hk,e,q⟩:=h
 obtain ⟨u,u2,rfl,r1,r2⟩:=mi rv
 cases r2
 obtain ⟨Y,kx,hy,ne⟩:=hk.kit I r1
 exact PySem.W.kia_one kx I.kIn hy e ne fun tk=>⟨.bl b,H,I.tok tk,rfl,q⟩
end
end L2
namespace HT
open PySem PySem.Spec PyProof.Rows
section
variable {prog:Program} {w:World} {A:Around} {E:Value -> Shared -> Prop} {s:Shared}
theorem qM {t sl:Addr} {items:Array Value} {vl vu:Value} {lo hi:Option Int} {Q:Value -> Shared -> Prop} (ht:IsTup s.heap t items) (hs:s.heap.IsSliceOf sl vl vu .none) (pl:IsPart vl lo) (pu:IsPart vu hi)
  (h1:sIx items.size 0 lo=0) (h2:sIx items.size items.size hi=items.size) (h:Q (.ref t) s):wpAny (model prog w) A (getItem (.ref t) (.ref sl)) Q E s:=by
 obtain ⟨os,hos,hcs,hds⟩:=id hs
 have hTs:s.TypeIs (.ref sl) "slice":=⟨os,hos,hcs⟩
 unfold getItem
 try with_reducible refine wpAny_holding ?_
 first | refine wpAny_bind (wpAny_pure ?_) | skip
 refine wpAny_bind (wpAny_sequenceKey ht.typeIs (by decide) ?_)
 refine wpAny_bind (wpAny_callSpecial?_slot (name:=Str.ofString "__getitem__") ht.typeIs PyProof.Rows.slot_tuple_getitem
  (wpAny_call_entry PyProof.Rows.slot_tuple_getitem ht.typeIs entry_tuple_getitem ?_ (args_tuple_getitem _ _)))
 show wpAny _ _ (Builtin.Tuple.tupleItemsOf (.ref t) >>= _) _ _ s
 refine wpAny_bind (tupleItemsOf_ ht ?_)
 refine wpAny_bind (wpAny_typeOf hTs ?_)
 rw [if_pos (by decide)]
 refine wpAny_bind (eC hs pl pu ?_)
 rw [h1,h2]
 show wpAny _ _ (if (((0:Nat):Int) == 0 && (1:Int) == 1 && (items.size - 0) == items.size)=true then _ else _) _ _ s
 rw [if_pos (by simp)]
 unfold Builtin.Tuple.tupleIsExact
 refine wpAny_bind (wpAny_bind (wpAny_typeOf ht.typeIs (wpAny_pure ?_)))
 rw [if_pos (by decide)]
 exact wpAny_bind (wpAny_rule (wpAny_pure ⟨_,rfl,wpAny_pure h⟩))
theorem sW {t b:Addr} {vs ws:List Value} {Q:Value -> Shared -> Prop} (ht:IsTup s.heap t vs.toArray) (hb:IsTup s.heap b ws.toArray) (hv:vs=[]) (h1:Q (.ref b) s):wpAny (model prog w) A (binaryOp .Add (.ref t) (.ref b)) Q E s:=by
 obtain ⟨⟨cls,dd,data,sl⟩,ho,hc,n,hd⟩:=id ht
 obtain ⟨⟨cls2,dd2,data2,sl2⟩,ho2,hc2,n2,hd2⟩:=id hb
 simp only at hc hd hc2 hd2
 subst hc hd hc2 hd2
 exact concat_meets ⟨_,ho,rfl⟩ ⟨_,ho2,rfl⟩ noFill_tuple_add seq_tuple_add PySem.F.slot_tuple_add PySem.F.entry_tuple_add (PySem.F.args_tuple_add_2 _ _)
  (tuple_addW0 t b vs.toArray ws.toArray n n2 dd dd2 sl sl2 (by simp [hv])) ⟨ho,ho2,h1⟩
end
end HT
namespace L2
open PySem PySem.Spec PyProof.Rows
theorem c9 {H:Hp} {a:Addr} {o:HO} (h:H a=none):ar H (upd H a o):=fun b u e=>by rw [aw (ak e h)]; exact e
section
variable {X:Cx}
theorem cT:SlR X (fun x lo hi H Q=>∃ a xs,x=.ref a /\ H a=some (.tup xs) /\ ∀ p H',ar H H' -> H' p=some (.tup (cj xs lo hi)) -> Q (.ref p) H'):=by
 intro pins s σ H x v vl vu lo hi sl Q I rx hs pl pu h
 obtain ⟨a,xs,rfl,hx,q⟩:=h
 by_cases hw:HT.sIx xs.length 0 lo=0 /\ HT.sIx xs.length xs.length hi=xs.length
 ·cases rx
  obtain ⟨its,r,ht,hz⟩:=I.tuple (SqT.of (K:=X.K) hx)
  have hlen:its.toArray.size=xs.length:=by rw [List.size_toArray]; exact r.length.symm
  refine ⟨"tuple",_,PyProof.Rows.slot_tuple_getitem.lookup,ht.typeIs,?_⟩
  refine HT.qM ht hs pl pu (by rw [hlen]; exact hw.1) (by rw [hlen]; exact hw.2) ⟨.ref a,H,I,rfl,q a H (ar.refl H) ?_⟩
  rw [hx]
  unfold cj
  rw [hw.1,hw.2]
  simp
 ·exact sl_tup pins s σ H (.ref a) v vl vu lo hi sl Q I rx hs pl pu ⟨a,xs,rfl,SqT.of hx,hw,fun p hp=>q p _ (c9 hp) ai⟩
theorem iw:OpR X (binaryOp .Add) (fun x y H Q=>∃ a b xs ys,x=.ref a /\ y=.ref b /\ H a=some (.tup xs) /\ H b=some (.tup ys) /\ xs.length + ys.length <= sizeLine /\ ∀ p H',ar H H' -> H' p=some (.tup (xs ++ ys)) -> Q (.ref p) H'):=by
 intro pins s σ H x y v u Q I rx ry h
 obtain ⟨a,b,xs,ys,rfl,rfl,ha,hb,hz,q⟩:=h
 by_cases hx:xs=[]
 ·subst hx
  cases rx
  cases ry
  obtain ⟨its,r1,p1,_⟩:=I.tuple (SqT.of (K:=X.K) ha)
  obtain ⟨its2,r2,p2,_⟩:=I.tuple (SqT.of (K:=X.K) hb)
  exact HT.sW p1 p2 (r1.nil_iff.mpr rfl) ⟨.ref b,H,I,rfl,q b H (ar.refl H) hb⟩
 ·exact pJ pins s σ H _ _ v u Q I rx ry ⟨a,b,xs,ys,rfl,rfl,SqT.of ha,SqT.of hb,hx,hz,fun e=>q a H (ar.refl H) (by rw [ha,e,List.append_nil]),fun _ p hp=>q p _ (c9 hp) ai⟩
def pP (t:TA):TE:=fun σ H Q=>t σ H fun xs H1=>xs.length <= sizeLine /\ ∀ p H2,H1 p=none -> ar H1 H2 -> H2 p=some (.lst xs) -> Q (.ref p) H2
def tTupA (t:TA):TE:=fun σ H Q=>t σ H fun xs H1=>xs.length <= sizeLine /\ ∀ p H2,H1 p=none -> ar H1 H2 -> H2 p=some (.tup xs) -> Q (.ref p) H2
theorem cy {es:List Expr} {t:TA} {pos:Pos} (h:PA X es t):PE X (.List es pos) (pP t):=by
 intro pins s σ H Q I hq
 refine wpAny_List_spliced (thn (h pos pins s σ H _ I hq) fun us s1 ⟨xs,H1,I1,r,z,q⟩=>⟨by rw [<- r.length]; exact z,?_⟩)
 have hf:H1 s1.heap.objs.size=none:=I1.hok.fresh (Nat.le_refl _)
 refine ⟨.ref s1.heap.objs.size,upd H1 s1.heap.objs.size (.lst xs),I1.laid (t':=s1.toks) (fun b u e=>Heap.get?_push_of_some _ e) (Nat.le_refl _) ?_,rfl,q _ _ hf (c9 hf) ai⟩
 exact ⟨z,us,0,r,Heap.get?_push_size _ rfl⟩
theorem aQ {es:List Expr} {t:TA} {pos:Pos} {x1:Nat} (h:PA X es t):PE X (.Tuple es x1 pos) (tTupA t):=by
 intro pins s σ H Q I hq
 refine wpAny_Tuple_spliced (thn (h pos pins s σ H _ I hq) fun us s1 ⟨xs,H1,I1,r,z,q⟩=>⟨by rw [<- r.length]; exact z,?_⟩)
 have hf:H1 s1.heap.objs.size=none:=I1.hok.fresh (Nat.le_refl _)
 refine ⟨.ref s1.heap.objs.size,upd H1 s1.heap.objs.size (.tup xs),I1.laid (t':=s1.toks) (fun b u e=>Heap.get?_push_of_some _ e) (Nat.le_refl _) ?_,rfl,q _ _ hf (c9 hf) ai⟩
 exact ⟨z,us,r,⟨_,Heap.get?_push_size _ rfl,rfl,_,rfl⟩⟩
theorem gh:OpR X (binaryOp .Add) (fun x y H Q=>∃ l b xs zs,x=.ref l /\ y=.ref b /\ H l=some (.lst xs) /\ H b=some (.lst zs) /\ xs.length + zs.length <= sizeLine /\ ∀ p H2,H p=none -> ar H H2 -> H2 p=some (.lst (xs ++ zs)) -> Q (.ref p) H2):=by
 intro pins s σ H x y v u Q I rx ry h
 obtain ⟨l,b,xs,zs,h1,h2,h3,h4,h5,q⟩:=h
 exact op_cat pins s σ H x y v u Q I rx ry ⟨l,b,xs,zs,h1,h2,h3,h4,h5,fun p hp=>q p _ hp (c9 hp) ai⟩
theorem eN:cU X (.type "list") (fun xs H Q=>∃ p ys,xs=[.ref p] /\ (SqL X.K H p ys \/ SqT X.K H p ys) /\ ∀ l H2,H l=none -> ar H H2 -> H2 l=some (.lst ys) -> Q (.ref l) H2):=by
 intro pins s σ H xs us Q I r h
 obtain ⟨p,ys,h1,h2,q⟩:=h
 exact kD pins s σ H xs us Q I r ⟨p,ys,h1,h2,fun l hl=>q l _ hl (c9 hl) ai⟩
theorem sX {v:V} (h:cO v=true):eqV v v=true:=by
 cases v with
 | non=>rfl
 | bl b=>cases b <;> rfl
 | int i=>show (i == i)=true; exact beq_self_eq_true i
 | str x=>show (x == x)=true; exact beq_self_eq_true x
 | _=>exact absurd h (by simp [cO])
theorem gi {A:Around} {s:Shared} {v:V} {u1 u2:Value} (h:cO v=true) (r1:aY v u1) (r2:aY v u2):SeqAt.EqAt A s u1 u2 true:=by
 have:=sP (A:=A) (s:=s) r1 r2 h h
 rwa [sX h] at this
end
theorem lcT {x:Str} {k:Nat} {σ:St} {H1:Hp} {te:TE} {Q:VK} (f:Nat -> V) (hk:σ.length=k) (hz:x.cps.size <= 1000)
  (turn:∀ D c ys (post:VK),H1 D=none -> post (f c) (upd H1 D (.lst ys)) -> te (σ ++ [some (.str ⟨#[c]⟩)]) (upd H1 D (.lst ys)) post)
  (fin:∀ D,H1 D=none -> Q (.ref D) (upd H1 D (.lst (x.cps.toList.map f)))):LCT 1 (ga k) kE te σ Q (Itx x) H1:=by
 have hl:x.cps.toList.length=x.cps.size:=Array.length_toList
 refine lcJ (n:=x.cps.size) (fun i=>.str ⟨#[x.cps.toList.getD i 0]⟩) (fun D i ys H=>H1 D=none /\ ys=(x.cps.toList.take i).map f /\ H=upd H1 D (.lst ys)) hk ?_ ?_ ?_ ?_ ?_ ?_
 ·rintro D i ys H hi _
  exact hi
 ·rintro D i ys H y H' hi _ ⟨e,c,hc,rfl⟩
  refine ⟨e,?_⟩
  rw [<- Array.getElem?_toList] at hc
  rw [List.getD_eq_getElem?_getD,hc]; rfl
 ·rintro D ys H _
  exact rfl
 ·intro D hD
  exact ⟨hD,by simp,rfl⟩
 ·rintro D i ys H post hi ⟨h1,h2,rfl⟩ hp
  have hx:x.cps.toList[i]?=some (x.cps.toList.getD i 0):=by rw [List.getD_eq_getElem?_getD,List.getElem?_eq_getElem (by lia)]; rfl
  refine turn D _ ys post h1 (hp _ _ ai ?_ ⟨h1,?_,by rw [ij]⟩)
  ·rw [h2,List.length_map,List.length_take]; exact bA (by lia)
  ·rw [h2,List.take_add_one,hx]; simp
 ·rintro D ys H ⟨h1,h2,rfl⟩
  rw [h2,List.take_of_length_le (by lia)]
  exact fin D h1
section
variable {X:Cx}
theorem dn:cU X (.type "tuple") (fun xs H Q=>∃ p ys,xs=[.ref p] /\ SqL X.K H p ys /\ ∀ l H2,H l=none -> ar H H2 -> H2 l=some (.tup ys) -> Q (.ref l) H2):=by
 intro pins s σ H xs us Q I r h
 obtain ⟨p,ys,h1,h2,q⟩:=h
 exact jE pins s σ H xs us Q I r ⟨p,ys,h1,.inl ⟨h2,fun l hl=>q l _ hl (c9 hl) ai⟩⟩
theorem fA:MtR X "list.append" (fun x vs H Q=>∃ (l:Addr) (xs:List V) (y:V),x=.ref l /\ vs=[y] /\ H l=some (.lst xs) /\ xs.length <= 1000 /\ ∀ H1,(∀ b o,b ≠ l -> H b=some o -> H1 b=some o) -> H1 l=some (.lst (xs ++ [y])) -> Q .non H1):=by
 intro pins s σ H x vs v us Q I rx rv h
 obtain ⟨l,xs,y,h1,h2,hl,hn,q⟩:=h
 exact jU pins s σ H x vs v us Q I rx rv ⟨l,xs,y,h1,h2,hl,bA hn,q _ (fun b o hb e=>by rw [aw hb]; exact e) ai⟩
end
structure aR (P:Program) (w:World) (K:PySem.W.Frag) (mg:Str -> Option Value) (base:Heap) (k:Nat) (x:Str) (ps:List Str) (sp:Sp):Prop where
 ex:∃ f fd,aP P w K mg base CX0 k f fd ps sp /\ mg x=some (.ref f) /\ PySem.W.keepIn K (.ref f)=true /\ dN K fd ps []
theorem aC {X:Cx} {k:Nat} {x:Str} {ps:List Str} {sp:Sp} {e:Expr} {es:List Expr} {t:TA} {p pos:Pos} (F:aR X.prog X.w X.K X.mg X.base k x ps sp) (hr:bi k X.A) (ha:PA X (e :: es) t) (hg:Gl X x:=by rfl)
  (hdb:(x == ("__debug__":Str))=false:=by decide) (he:starEach (e :: es) X.env=(false,eval e X.env) :: starEach es X.env:=by rfl) (hpl:(backTo pos (starEach es X.env)).any (·.1)=false:=by rfl) :
  PE X (.Call (.Name x p) (e :: es) [] pos) (jL sp [] E0 t):=by
 obtain ⟨f,fd,G,m,kp,b⟩:=F.ex
 exact pG G hr hg m kp b .nil iT ha hdb he hpl
theorem ar.new {H:Hp} {a:Addr} {o:HO} (h:H a=none):ar H (upd H a o):=fun b u e=>by rw [aw (ak e h)]; exact e
theorem ar.none {H H':Hp} (e:ar H H') {a:Addr} (h:H' a=Option.none):H a=Option.none:=e.free h
theorem fc {K:PySem.W.Frag} {T c:String} {b:Bool} (h1:(Value.type T == Value.type c)=false) (h2:PySem.W.kitMeta c=true) (h3:(PySem.W.subIn K (.type T) (.type c))=some b):PySem.W.kitOne K (.type T) (.type c)=some b:=by
 unfold PySem.W.kitOne
 rw [if_neg (by rw [h1]; decide)]
 unfold PySem.W.kitCls
 dsimp only
 rw [if_pos h2]
 exact h3
def isStrV:V -> Bool | .str _=>true | _=>false
def sY:V -> Bool | .int _=>true | .bl _=>true | _=>false
def isBlV:V -> Bool | .bl _=>true | _=>false
theorem kit_str {K:PySem.W.Frag} {H:Hp} {x:V} {k:String} (h:Kd H x k):PySem.W.kitOne K (.type k) (.type "str")=some (isStrV x):=by cases h <;> first | exact aZ | exact fc (by decide +kernel) (by decide +kernel) (by with_unfolding_all rfl)
theorem kit_int {K:PySem.W.Frag} {H:Hp} {x:V} {k:String} (h:Kd H x k):PySem.W.kitOne K (.type k) (.type "int")=some (sY x):=by cases h <;> first | exact aZ | exact fc (by decide +kernel) (by decide +kernel) (by with_unfolding_all rfl)
theorem om {K:PySem.W.Frag} {H:Hp} {x:V} {k:String} (h:Kd H x k):PySem.W.kitOne K (.type k) (.type "bool")=some (isBlV x):=by cases h <;> first | exact aZ | exact fc (by decide +kernel) (by decide +kernel) (by with_unfolding_all rfl)
theorem sZ {K:PySem.W.Frag}:PySem.W.kitOne K (.type "list") (.type "tuple")=some false:=by first | exact aZ | exact fc (by decide +kernel) (by decide +kernel) (by with_unfolding_all rfl)
theorem kF {K:PySem.W.Frag} {H:Hp} {x:V} {k:String} (f:cO x=true) (h:Kd H x k):PySem.W.kitOne K (.type k) (.type "tuple")=some false:=by
 cases h with
 | lst _=>exact absurd f (by simp [cO])
 | tup _=>exact absurd f (by simp [cO])
 | non=>first | exact aZ | exact fc (by decide +kernel) (by decide +kernel) (by with_unfolding_all rfl)
 | bl b=>first | exact aZ | exact fc (by decide +kernel) (by decide +kernel) (by with_unfolding_all rfl)
 | int i=>first | exact aZ | exact fc (by decide +kernel) (by decide +kernel) (by with_unfolding_all rfl)
 | str x=>first | exact aZ | exact fc (by decide +kernel) (by decide +kernel) (by with_unfolding_all rfl)
section
variable {X:Cx}
end
section
variable {X:Cx}
end
theorem inV_str {x:Str} {zs:List Str}:inV (.str x) (zs.map V.str)=decide (x ∈ zs):=by
 unfold inV
 rw [Bool.eq_iff_iff,List.any_eq_true,decide_eq_true_iff]
 constructor
 ·rintro ⟨y,hy,e⟩
  obtain ⟨z,hz,rfl⟩:=List.mem_map.mp hy
  have e:z=x:=beq_iff_eq.mp (show (z == x)=true from e)
  exact e ▸ hz
 ·intro h
  exact ⟨.str x,List.mem_map.mpr ⟨x,h,rfl⟩,show (x == x)=true from beq_self_eq_true x⟩
theorem jY (zs:List Str):(zs.map V.str).all cO=true:=by
 rw [List.all_map]
 exact List.all_eq_true.mpr fun _ _=>rfl
theorem on {X:Cx} {scope:Scope} {cl:List (Str × Addr)} {N2 ys:List Str} {C:Addr} {s:Shared} {H:Hp} {fp:List Addr}:OpR (cxC X scope cl N2 ys C s H fp) (compareOp .In) (rIn X.K false):=fw
section
variable {X:Cx}
end
structure bu (P:Program) (w:World) (K:PySem.W.Frag) (mg:Str -> Option Value) (base:Heap) (C:Addr) (k:Nat) (x:Str) (ps:List Str) (sp:Sp):Prop where
 ex:∃ f fd,aP P w K mg base CX0 k f fd ps sp /\ dN K fd ps [] /\ nJ K C x f
structure fK (P:Program) (w:World) (K:PySem.W.Frag) (mg:Str -> Option Value) (base:Heap) (C:Addr) (k:Nat) (ps:List Str) (sp:Sp):Prop where
 ex:∃ f fd,aP P w K mg base CX0 k f fd ps sp /\ dN K fd ps [] /\ Mk K C f
section
variable {X:Cx} {k:Nat} {C:Addr} {m x:Str} {ps:List Str} {sp:Sp} {o e:Expr} {es:List Expr} {ta:TE} {t:TA} {p pos apos:Pos}
theorem bv {pl:Sem Bool} (M:bu X.prog X.w X.K X.mg X.base C k m ps sp) (c:Cls X.K C) (hr:bi k X.A) (he:PE X o ta) (ha:PA X (e :: es) t)
  (hst:starEach (e :: es) X.env=(false,eval e X.env) :: starEach es X.env:=by rfl) (hpl:(backTo pos (starEach es X.env)).any (·.1)=false:=by rfl)
  (ht:eval (.Call (.Attribute o m apos) (e :: es) [] pos) X.env=(do
   let ov <- eval o X.env
   standAt apos.atName
   let (f,first) <- holding [ov] (getMethod ov m pl)
   callWith pos f first (backTo pos (starEach (e :: es) X.env)) (backToKw pos (keywordEach [] X.env))):=by rfl) :
  PE X (.Call (.Attribute o m apos) (e :: es) [] pos) (pF C m sp [] E0 ta t):=by
 obtain ⟨f,fd,G,b,M⟩:=M.ex
 exact io he c M G hr b .nil iT ha hst hpl ht
theorem bF {pl:Sem Bool} (M:bu X.prog X.w X.K X.mg X.base C k m ps sp) (c:Cls X.K C) (hr:bi k X.A) (he:PE X o ta)
  (ht:eval (.Call (.Attribute o m apos) [] [] pos) X.env=(do
   let ov <- eval o X.env
   standAt apos.atName
   let (f,first) <- holding [ov] (getMethod ov m pl)
   callWith pos f first (backTo pos (starEach [] X.env)) (backToKw pos (keywordEach [] X.env))):=by rfl) :
  PE X (.Call (.Attribute o m apos) [] [] pos) (pF C m sp [] E0 ta mj):=by
 obtain ⟨f,fd,G,b,M⟩:=M.ex
 exact sL he c M G hr b .nil iT ht
theorem cP (M:fK X.prog X.w X.K X.mg X.base C k ps sp) (hr:bi (k + 1) X.A) (hm:X.mg x=some (.ref C)) (ha:PA X (e :: es) t) (hg:Gl X x:=by rfl) (hdb:(x == ("__debug__":Str))=false:=by decide)
  (he:starEach (e :: es) X.env=(false,eval e X.env) :: starEach es X.env:=by rfl) (hpl:(backTo pos (starEach es X.env)).any (·.1)=false:=by rfl):PE X (.Call (.Name x p) (e :: es) [] pos) (tMake C sp [] E0 t):=by
 obtain ⟨f,fd,G,b,M⟩:=M.ex
 exact pe_make M G hr hg hm b .nil iT ha hdb he hpl
end
def smV:V -> Bool
 | .ref _=>true
 | v=>cO v
theorem tf {A:Around} {s:Shared} {v:V} {u1 u2:Value} (h:smV v=true) (r1:aY v u1) (r2:aY v u2):SeqAt.EqAt A s u1 u2 true:=by
 cases v with
 | ref a =>
  cases r1
  cases r2
  exact SeqAt.EqAt.same _
 | non=>exact gi (v:=.non) rfl r1 r2
 | bl b=>exact gi (v:=.bl b) rfl r1 r2
 | int i=>exact gi (v:=.int i) rfl r1 r2
 | str x=>exact gi (v:=.str x) rfl r1 r2
 | _=>exact absurd h (by simp [smV,cO])
theorem eqAt_sm {A:Around} {s:Shared} {xs:List V} {its jts:List Value} (hx:∀ v ∈ xs,smV v=true) (r1:bh xs its) (r2:bh xs jts) (j:Nat) (h1:j < its.toArray.size) (h2:j < jts.toArray.size):SeqAt.EqAt A s its.toArray[j] jts.toArray[j] true:=by
 have hj1:j < its.length:=by simpa using h1
 have hj2:j < jts.length:=by simpa using h2
 have hj:j < xs.length:=by rw [r1.length]; exact hj1
 obtain ⟨u1,hu1,ru1⟩:=r1.get (i:=j) (x:=xs[j]) (List.getElem?_eq_getElem hj)
 obtain ⟨u2,hu2,ru2⟩:=r2.get (i:=j) (x:=xs[j]) (List.getElem?_eq_getElem hj)
 have i1:its.toArray[j]=u1:=by
  have:=List.getElem?_eq_getElem hj1
  rw [hu1] at this
  simpa using (Option.some.inj this).symm
 have i2:jts.toArray[j]=u2:=by
  have:=List.getElem?_eq_getElem hj2
  rw [hu2] at this
  simpa using (Option.some.inj this).symm
 rw [i1,i2]
 exact tf (hx _ (List.getElem_mem hj)) ru1 ru2
section
variable {X:Cx}
theorem gj (n m:Nat) (h:n=m):((List.range (min n m)).all (fun _=>true) && n == m)=true:=by
 subst h
 simp
theorem op_neSm (hu:X.A.units + 1 < cLine):OpR X (compareOp .NotEq) (fun x y H Q=>∃ (a b:Addr) (xs:List V),x=.ref a /\ y=.ref b /\ SqT X.K H a xs /\ SqT X.K H b xs /\ (∀ v ∈ xs,smV v=true) /\ Q (.bl false) H):=by
 intro pins s σ H x y v u Q I rx ry h
 obtain ⟨a,b,xs,rfl,rfl,ha,hb,hx,q⟩:=h
 cases rx
 cases ry
 obtain ⟨its,r1,p1,_⟩:=I.tuple ha
 obtain ⟨jts,r2,p2,_⟩:=I.tuple hb
 have:=SeqAt.RcNeAt.tuples (A:=X.A) (s:=s) (e:=fun _=>true) (show s.heap.IsTuple a its.toArray from p1) (show s.heap.IsTuple b jts.toArray from p2) (Nat.lt_of_succ_lt hu) (eqAt_sm hx r1 r2)
 rw [List.size_toArray,List.size_toArray,gj _ _ (r1.length.symm.trans r2.length)] at this
 exact this _ _ _ _ (bf I q rfl)
theorem op_neT0 (hu:X.A.units + 1 < cLine):OpR X (compareOp .NotEq) (fun x y H Q=>∃ (a b:Addr) (xs:List V),x=.ref a /\ y=.ref b /\ SqT X.K H a xs /\ SqT X.K H b [] /\ Q (.bl (!xs.isEmpty)) H):=by
 intro pins s σ H x y v u Q I rx ry h
 obtain ⟨a,b,xs,rfl,rfl,ha,hb,q⟩:=h
 cases rx
 cases ry
 obtain ⟨its,r1,p1,_⟩:=I.tuple ha
 obtain ⟨jts,r2,p2,_⟩:=I.tuple hb
 cases r2
 have:=SeqAt.RcNeAt.tuples (A:=X.A) (s:=s) (e:=fun _=>true) (show s.heap.IsTuple a its.toArray from p1) (show s.heap.IsTuple b ([]:List Value).toArray from p2) (Nat.lt_of_succ_lt hu) (fun j h1 h2=>absurd h2 (by simp))
 have e:((List.range (min its.toArray.size ([]:List Value).toArray.size)).all (fun _=>true) && its.toArray.size == ([]:List Value).toArray.size)=xs.isEmpty:=by
  have hl:=r1.length
  cases xs with
  | nil =>
   cases r1
   rfl
  | cons z zs =>
   cases its with
   | nil=>simp at hl
   | cons y ys=>simp
 rw [e] at this
 exact this _ _ _ _ (bf I q rfl)
theorem gF:cU X (.type "tuple") (fun xs H Q=>∃ p ys,xs=[.ref p] /\ SqT X.K H p ys /\ Q (.ref p) H):=by
 intro pins s σ H xs us Q I rv h
 obtain ⟨p,ys,rfl,hp,q⟩:=h
 obtain ⟨u,rfl,ru⟩:=rv.one
 cases ru
 obtain ⟨its,r,ht,_⟩:=I.tuple hp
 exact call_tuple_same (show s.heap.IsTuple p its.toArray from ht) ⟨.ref p,H,I,rfl,q⟩
end
theorem pQ {X:Cx} {scope:Scope} {cl:List (Str × Addr)} {N2 ys:List Str} {C:Addr} {s:Shared} {H:Hp} {fp:List Addr} {pos:Pos} {es:List Expr} {k:Nat} {t:TGs} {n:Nat} (hc:X.calm=true) (h:PGs (cxC X scope cl N2 ys C s H fp) es t)
  (hn:(assignEach es (cxC X scope cl N2 ys C s H fp).env).length=n:=by rfl) (hst:(assignEach es (cxC X scope cl N2 ys C s H fp).env).findIdx? (·.1)=none:=by rfl):PG (cxC X scope cl N2 ys C s H fp) (.Tuple es k pos) (gTup X.K n t) :=
 cL (X:=cxC X scope cl N2 ys C s H fp) hc h hn hst
end L2
namespace L2.RV
open PySem PySem.Spec PyProof.Rows
section
variable {prog:Program} {w:World} {A:Around} {E:Value -> Shared -> Prop} {s:Shared}
end
end L2.RV
namespace L2
open PySem PySem.Spec PyProof.Rows
section
variable {X:Cx} {tg:Expr}
end
end L2
namespace L2.ST
open PySem PySem.Spec PyProof.Rows
section
variable {prog:Program} {w:World} {A:Around} {E:Value -> Shared -> Prop} {s:Shared}
end
section
variable {prog:Program} {w:World} {A:Around} {R:Result -> Shared -> Prop} {I:Addr} {fp wr:List Addr} {G:Array GenState -> Array GenState -> Prop} {n:Nat} {P:Nat -> Value -> Prop} {St:Nat -> Shared -> Prop}
end
section
variable {prog:Program} {w:World} {A:Around} {E:Value -> Shared -> Prop} {s:Shared}
end
section
variable {prog:Program} {w:World} {A:Around} {E:Value -> Shared -> Prop} {s:Shared}
end
section
variable {prog:Program} {w:World} {A:Around} {E:Value -> Shared -> Prop} {s:Shared}
end
section
variable {prog:Program} {w:World} {A:Around} {E:Value -> Shared -> Prop} {s:Shared}
end
end L2.ST
namespace L2
open PySem PySem.Spec PyProof.Rows
section
variable {X:Cx}
end
end L2
namespace L2.ZT
open PySem PySem.Spec PyProof.Rows
section
variable {prog:Program} {w:World} {A:Around} {E:Value -> Shared -> Prop} {s:Shared}
theorem fB {q tp:Addr} {j:Nat} {us:Array Value} {y:Value} {R:Value -> Shared -> Prop} (hq:s.heap.IsTupleIter q tp j) (htp:s.heap.IsTuple tp us) (hy:us[j]?=some y)
  (hR:∀ g,g.IsTupleIter q tp (j + 1) -> Heap.SameBut q s.heap g -> R y { s with heap:=g }):wpAny (model prog w) A (Builtin.SmallTypes.nextOf (.ref q)) R E s:=by
 obtain ⟨oq,eq1,cq,dq⟩:=id hq
 obtain ⟨ot,et,_,nt,dt⟩:=htp
 unfold Builtin.SmallTypes.nextOf
 refine wpAny_bind (wpAny_callSpecial?_slot (name:=Str.ofString "__next__") hq.typeIs F.slot_tuple_iterator_next (wpAny_call_entry F.slot_tuple_iterator_next hq.typeIs F.entry_tuple_iterator_next ?_ (F.args_tuple_iterator_next_1 _)))
 show wpAny _ _ (field (.ref q) 0 >>= _) _ _ s
 refine wpAny_bind (wpAny_field eq1 dq (x:=.ref tp) rfl ?_)
 show wpAny _ _ (if (Value.ref tp == Value.none)=true then _ else _) _ _ s
 rw [if_neg (show ¬ ((Value.ref tp == Value.none)=true) from Bool.false_ne_true)]
 show wpAny _ _ (field (.ref q) 1 >>= _) _ _ s
 refine wpAny_bind (wpAny_field eq1 dq (x:=.int j 0) rfl ?_)
 show wpAny _ _ (seqItems? (.ref tp) >>= _) _ _ s
 refine wpAny_bind (wpAny_seqItems et dt ?_)
 simp only [Int.toNat_natCast,hy]
 refine wpAny_bind (wpAny_setField eq1 dq (by simp) (wpAny_pure ⟨y,rfl,wpAny_pure (hR _ ?_ (Heap.SameBut.update ..))⟩))
 exact ⟨_,Heap.get?_update_self _ eq1 (Obj.isFreed_of_fields (Obj.data_mapFields dq _)),(Obj.cls_mapFields ..).trans cq,by rw [Obj.data_mapFields dq]; simp [rawInt]⟩
theorem iV {q tp:Addr} {j:Nat} {us:Array Value} {R:Value -> Shared -> Prop} (nh:A.handled=none) (hq:s.heap.IsTupleIter q tp j) (htp:s.heap.IsTuple tp us) (hy:us[j]?=none)
  (hX:∀ g e,Heap.ExtBut q s.heap g -> (∃ o,g.get? e=some o /\ o.cls=.type "StopIteration") -> E (.ref e) { s with heap:=g }):wpAny (model prog w) A (Builtin.SmallTypes.nextOf (.ref q)) R E s:=by
 obtain ⟨oq,eq1,cq,dq⟩:=id hq
 obtain ⟨ot,et,_,nt,dt⟩:=htp
 unfold Builtin.SmallTypes.nextOf
 refine wpAny_bind (wpAny_callSpecial?_slot (name:=Str.ofString "__next__") hq.typeIs F.slot_tuple_iterator_next (wpAny_call_entry F.slot_tuple_iterator_next hq.typeIs F.entry_tuple_iterator_next ?_ (F.args_tuple_iterator_next_1 _)))
 show wpAny _ _ (field (.ref q) 0 >>= _) _ _ s
 refine wpAny_bind (wpAny_field eq1 dq (x:=.ref tp) rfl ?_)
 show wpAny _ _ (if (Value.ref tp == Value.none)=true then _ else _) _ _ s
 rw [if_neg (show ¬ ((Value.ref tp == Value.none)=true) from Bool.false_ne_true)]
 show wpAny _ _ (field (.ref q) 1 >>= _) _ _ s
 refine wpAny_bind (wpAny_field eq1 dq (x:=.int j 0) rfl ?_)
 show wpAny _ _ (seqItems? (.ref tp) >>= _) _ _ s
 refine wpAny_bind (wpAny_seqItems et dt ?_)
 simp only [Int.toNat_natCast,hy]
 refine wpAny_bind (wpAny_rule (wpAny_bind (wpAny_setField eq1 dq (by simp) (wpAny_bind (m:=newExc (.type "StopIteration") []) ?_))))
 simp only [newExc,newTuple]
 refine wpAny_bind (wpAny_newObj_type (wpAny_bind (m:=firstArgMember _ _) (wpAny_of_eq (a:=Value.none) (by first | rfl | (simp only [firstArgMember]; rfl)) (wpAny_newObj_type ?_ (by size_fits)))) (by size_fits))
 simp only [raiseNew]
 refine wpAny_bind (wpAny_handled ?_)
 rw [show A.in1.handled=none from nh]
 exact wpAny_bind (wpAny_pure (wpAny_throw (hX _ _ (((Heap.SameBut.update ..).extBut.push _).push _) ⟨_,Heap.get?_push_size _ rfl,rfl⟩)))
section
variable {z TI TO p r a b:Addr} {us vs:Array Value} {o1 o2:Value} {m n:Nat}
theorem ti {x y:Value} {R:Value -> Shared -> Prop} (ap:ZipApart z TI TO p r a b) (hz:IsZip s.heap z TI TO .none) (hI:IsPair s.heap TI (.ref p) (.ref r)) (hO:IsPair s.heap TO o1 o2)
  (hp:s.heap.IsTupleIter p a m) (hr:s.heap.IsTupleIter r b n) (ha:s.heap.IsTuple a us) (hb:s.heap.IsTuple b vs) (hx:us[m]?=some x) (hy:vs[n]?=some y)
  (hR:∀ g,IsZip g z TI TO (rawInt s.heap.objs.size) -> IsPair g TO x y -> g.IsTupleIter p a (m + 1) -> g.IsTupleIter r b (n + 1) -> IsPair g s.heap.objs.size x y -> g.objs.size=s.heap.objs.size + 1 ->
   (∀ c o,c ≠ z -> c ≠ TO -> c ≠ p -> c ≠ r -> s.heap.get? c=some o -> g.get? c=some o) -> R (.ref s.heap.objs.size) { s with heap:=g }) :
  wpAny (model prog w) A (Builtin.«zip.__next__» ⟨[.ref z],[]⟩) (fun fin s'=>∃ v,fin=.done (.ret v) /\ R v s') E s:=by
 show wpAny _ _ (field (.ref z) 2 >>= _) _ _ _
 refine wpAny_bind (wpAny_field hz rfl (x:=.bool false) rfl (wpAny_bind (m:=field (.ref z) 3) (wpAny_field hz rfl (x:=.ref TI) rfl (wpAny_bind (wpAny_seqItems hI rfl ?_)))))
 show wpAny _ _ (Builtin.SmallTypes.ownedTupleIsFree (.ref z) >>= _) _ _ _
 unfold Builtin.SmallTypes.ownedTupleIsFree
 refine wpAny_bind (wpAny_bind (wpAny_field hz rfl (x:=.none) rfl (wpAny_pure ?_)))
 simp only [if_true]
 refine wpAny_bind (wpAny_rule (wpAny_bind (wpAny_field hz rfl (x:=.ref TO) rfl (wpAny_bind (wpAny_setField_rec hz (by simp) fun g1 z1 k1=>wpAny_bind ?_)))))
 have z1:IsZip g1 z TI TO .ellipsis:=z1
 simp only [List.zipIdx_cons,List.zipIdx_nil,List.forIn_cons,List.forIn_nil]
 refine wpAny_bind (wpAny_bind (wpAny_onRaise (wpAny_bind (m:=Builtin.SmallTypes.nextOf (.ref p)) (fB (hp.extBut k1.extBut ap.i1z) (ha.extBut k1.extBut ap.l1z) hx fun g2 p2 k2=>wpAny_pure ?_))))
 have O2:IsPair g2 TO o1 o2:=k2.extBut _ _ ap.TOi1 (k1.extBut _ _ ap.TOz hO)
 refine wpAny_bind (wpAny_seqItems O2 rfl (wpAny_bind (wpAny_updateSeq_pair O2 fun g3 O3 k3=>wpAny_bind (wpAny_letGo (wpAny_pure ?_)))))
 have O3:IsPair g3 TO x o2:=O3
 refine wpAny_bind (wpAny_bind (wpAny_onRaise (wpAny_bind (m:=Builtin.SmallTypes.nextOf (.ref r)) (fB (((hr.extBut k1.extBut ap.i2z).extBut k2.extBut ap.i12.symm).extBut k3.extBut ap.TOi2.symm)
  (((hb.extBut k1.extBut ap.l2z).extBut k2.extBut ap.l2i1).extBut k3.extBut ap.l2TO) hy fun g4 r4 k4=>wpAny_pure ?_))))
 have O4:IsPair g4 TO x o2:=k4.extBut _ _ ap.TOi2 O3
 refine wpAny_bind (wpAny_seqItems O4 rfl (wpAny_bind (wpAny_updateSeq_pair O4 fun g5 O5 k5=>wpAny_bind (wpAny_letGo (wpAny_pure (wpAny_pure ?_))))))
 have O5:IsPair g5 TO x y:=O5
 refine wpAny_bind (wpAny_seqItems O5 rfl (wpAny_bind (wpAny_newTuple ?_)))
 have sz:g5.objs.size=s.heap.objs.size:=by rw [k5.1,k4.1,k3.1,k2.1,k1.1]
 have z5:IsZip g5 z TI TO .ellipsis:=k5.extBut _ _ ap.TOz.symm (k4.extBut _ _ ap.i2z.symm (k3.extBut _ _ ap.TOz.symm (k2.extBut _ _ ap.i1z.symm z1)))
 have k05:∀ c o,c ≠ z -> c ≠ TO -> c ≠ p -> c ≠ r -> s.heap.get? c=some o -> g5.get? c=some o:=fun c o n1 n2 n3 n4 e=>k5.extBut _ _ n2 (k4.extBut _ _ n4 (k3.extBut _ _ n2 (k2.extBut _ _ n3 (k1.extBut _ _ n1 e))))
 have p5:g5.IsTupleIter p a (m + 1):=((p2.extBut k3.extBut ap.TOi1.symm).extBut k4.extBut ap.i12).extBut k5.extBut ap.TOi1.symm
 have r5:g5.IsTupleIter r b (n + 1):=r4.extBut k5.extBut ap.TOi2.symm
 have zl:z < g5.objs.size:=Heap.lt_size z5
 show wpAny _ _ (Builtin.SmallTypes.ownedTupleHandOut (.ref z) (.ref g5.objs.size) >>= _) _ _ _
 unfold Builtin.SmallTypes.ownedTupleHandOut
 have z6:IsZip (g5.push { cls:=.type "tuple",data:=.seq #[x,y] }) z TI TO .ellipsis:=Heap.get?_push_of_some _ z5
 refine wpAny_bind (wpAny_bind (wpAny_setField_rec z6 (by simp) fun g7 z7 k7=>?_))
 have z7:IsZip g7 z TI TO (rawInt g5.objs.size):=z7
 refine wpAny_setField_rec z7 (by simp) fun g8 z8 k8=>?_
 have z8:IsZip g8 z TI TO (rawInt g5.objs.size):=z8
 have up:∀ c o,c ≠ z -> g5.get? c=some o -> g8.get? c=some o:=fun c o n1 e=>k8.extBut _ _ n1 (k7.extBut _ _ n1 (Heap.get?_push_of_some _ e))
 have T8:IsPair g8 g5.objs.size x y:=k8.extBut _ _ (Nat.ne_of_gt zl) (k7.extBut _ _ (Nat.ne_of_gt zl) (Heap.get?_push_size _ rfl))
 have s8:g8.objs.size=g5.objs.size + 1:=by rw [k8.1,k7.1,Heap.size_push]
 rw [sz] at z8 T8 s8
 refine wpAny_pure ⟨_,rfl,(?_:R (.ref g5.objs.size) _)⟩
 rw [sz]
 exact hR g8 z8 (up _ _ ap.TOz O5) (p5.at fun o e=>up _ o ap.i1z e) (r5.at fun o e=>up _ o ap.i2z e) T8 s8 fun c o n1 n2 n3 n4 e=>up c o n1 (k05 c o n1 n2 n3 n4 e)
theorem zip_end {R:Fin -> Shared -> Prop} (nh:A.handled=none) (ap:ZipApart z TI TO p r a b) (hz:IsZip s.heap z TI TO .none) (hI:IsPair s.heap TI (.ref p) (.ref r)) (hO:IsPair s.heap TO o1 o2)
  (hp:s.heap.IsTupleIter p a m) (hr:s.heap.IsTupleIter r b n) (ha:s.heap.IsTuple a us) (hb:s.heap.IsTuple b vs) (hend:us[m]?=none \/ vs[n]?=none)
  (hX:∀ g e,(∀ c o,c ≠ z -> c ≠ TO -> c ≠ p -> c ≠ r -> s.heap.get? c=some o -> g.get? c=some o) -> (∃ o,g.get? e=some o /\ o.cls=.type "StopIteration") -> E (.ref e) { s with heap:=g }) :
  wpAny (model prog w) A (Builtin.«zip.__next__» ⟨[.ref z],[]⟩) R E s:=by
 show wpAny _ _ (field (.ref z) 2 >>= _) _ _ _
 refine wpAny_bind (wpAny_field hz rfl (x:=.bool false) rfl (wpAny_bind (m:=field (.ref z) 3) (wpAny_field hz rfl (x:=.ref TI) rfl (wpAny_bind (wpAny_seqItems hI rfl ?_)))))
 show wpAny _ _ (Builtin.SmallTypes.ownedTupleIsFree (.ref z) >>= _) _ _ _
 unfold Builtin.SmallTypes.ownedTupleIsFree
 refine wpAny_bind (wpAny_bind (wpAny_field hz rfl (x:=.none) rfl (wpAny_pure ?_)))
 simp only [if_true]
 refine wpAny_bind (wpAny_rule (wpAny_bind (wpAny_field hz rfl (x:=.ref TO) rfl (wpAny_bind (wpAny_setField_rec hz (by simp) fun g1 z1 k1=>wpAny_bind ?_)))))
 have z1:IsZip g1 z TI TO .ellipsis:=z1
 simp only [List.zipIdx_cons,List.zipIdx_nil,List.forIn_cons,List.forIn_nil]
 refine wpAny_bind (wpAny_bind (wpAny_onRaise (wpAny_bind (m:=Builtin.SmallTypes.nextOf (.ref p)) ?_)))
 have off:∀ {g:Heap} {e:Addr} {oe:Obj},IsZip g z TI TO .ellipsis -> g.get? e=some oe -> oe.cls=.type "StopIteration" -> e ≠ z:=fun hg he hc y=>by subst y; rw [hg] at he; cases he; simp at hc
 cases hx:us[m]? with
 | none =>
  refine iV nh (hp.extBut k1.extBut ap.i1z) (ha.extBut k1.extBut ap.l1z) hx fun g2 e k2 ⟨oe,he,ce⟩=>?_
  have z2:IsZip g2 z TI TO .ellipsis:=k2 _ _ ap.i1z.symm z1
  exact wpAny_setField_rec z2 (by simp) fun g3 _ k3=>hX g3 e (fun c o n1 _ n3 _ q=>k3.extBut _ _ n1 (k2 _ _ n3 (k1.extBut _ _ n1 q))) ⟨oe,k3.extBut _ _ (off z2 he ce) he,ce⟩
 | some x =>
  have hy:vs[n]?=none:=hend.resolve_left (by rw [hx]; exact fun h=>nomatch h)
  refine fB (hp.extBut k1.extBut ap.i1z) (ha.extBut k1.extBut ap.l1z) hx fun g2 p2 k2=>wpAny_pure ?_
  have O2:IsPair g2 TO o1 o2:=k2.extBut _ _ ap.TOi1 (k1.extBut _ _ ap.TOz hO)
  refine wpAny_bind (wpAny_seqItems O2 rfl (wpAny_bind (wpAny_updateSeq_pair O2 fun g3 O3 k3=>wpAny_bind (wpAny_letGo (wpAny_pure ?_)))))
  refine wpAny_bind (wpAny_bind (wpAny_onRaise (wpAny_bind (m:=Builtin.SmallTypes.nextOf (.ref r)) (iV nh (((hr.extBut k1.extBut ap.i2z).extBut k2.extBut ap.i12.symm).extBut k3.extBut ap.TOi2.symm)
   (((hb.extBut k1.extBut ap.l2z).extBut k2.extBut ap.l2i1).extBut k3.extBut ap.l2TO) hy fun g4 e k4 ⟨oe,he,ce⟩=>?_))))
  have z4:IsZip g4 z TI TO .ellipsis:=k4 _ _ ap.i2z.symm (k3.extBut _ _ ap.TOz.symm (k2.extBut _ _ ap.i1z.symm z1))
  exact wpAny_setField_rec z4 (by simp) fun g5 _ k5=>hX g5 e (fun c o n1 n2 n3 n4 q=>k5.extBut _ _ n1 (k4 _ _ n4 (k3.extBut _ _ n2 (k2.extBut _ _ n3 (k1.extBut _ _ n1 q))))) ⟨oe,k5.extBut _ _ (off z4 he ce) he,ce⟩
end
abbrev g1 (h:Heap) (a:Addr):Heap:=h.push { cls:=.type "tuple_iterator",data:=.fields #[.ref a,.int 0 0] }
abbrev g2 (h:Heap) (a b:Addr):Heap:=(g1 h a).push { cls:=.type "tuple_iterator",data:=.fields #[.ref b,.int 0 0] }
abbrev g3 (h:Heap) (a b:Addr):Heap:=(g2 h a b).push { cls:=.type "tuple",data:=.seq #[.ref h.objs.size,.ref (g1 h a).objs.size] }
abbrev g4 (h:Heap) (a b:Addr):Heap:=(g3 h a b).push { cls:=.type "tuple",data:=.seq #[.none,.none] }
abbrev g5 (h:Heap) (a b:Addr):Heap:=(g4 h a b).push { cls:=.type "zip",data:=.fields #[.none,.bool false,.bool false,.ref (g2 h a b).objs.size,.ref (g3 h a b).objs.size] }
theorem qO (a b:Addr) (us vs:Array Value):Meets (Builtin.«zip.__new__» ⟨[.type "zip",.ref a,.ref b],[]⟩) (fun _ R s=>s.heap.IsTuple a us /\ s.heap.IsTuple b vs /\ R (.ok (.ret (.ref (g4 s.heap a b).objs.size))) { s with heap:=g5 s.heap a b }) :=
 .of_wp fun prog w A R s h=>by
  obtain ⟨hp,gs,dr,tk,os⟩:=s
  obtain ⟨ha,hb,h⟩:=h
  have sub:=sub_zip
  have ha1:Heap.IsTuple (Shared.heap ⟨hp,gs,dr,tk,os⟩) a us:=ha
  have hb1:Heap.IsTuple (Shared.heap ⟨hp.push { cls:=.type "tuple_iterator",data:=.fields #[.ref a,.int 0 0] },gs,dr,tk,os⟩) b vs:=Heap.IsTuple.push hb _
  wp_walk using wpAny_pyIter_tuple ha1,wpAny_pyIter_tuple hb1
  exact ⟨_,rfl,h⟩
theorem tj {a b:Addr} {us vs:Array Value} {R:Value -> Shared -> Prop} (ha:s.heap.IsTuple a us) (hb:s.heap.IsTuple b vs)
  (h:∀ g,IsZip g (s.heap.objs.size + 4) (s.heap.objs.size + 2) (s.heap.objs.size + 3) .none -> IsPair g (s.heap.objs.size + 2) (.ref s.heap.objs.size) (.ref (s.heap.objs.size + 1)) -> IsPair g (s.heap.objs.size + 3) .none .none ->
   g.IsTupleIter s.heap.objs.size a 0 -> g.IsTupleIter (s.heap.objs.size + 1) b 0 -> (∀ c o,s.heap.get? c=some o -> g.get? c=some o) -> R (.ref (s.heap.objs.size + 4)) { s with heap:=g }) :
  wpAny (model prog w) A (call (.type "zip") [.ref a,.ref b]) R E s:=by
 refine callType_new F.called_zip (by decide) (F.typeCall_zip_2 _ _) (F.newCall_zip_2 _ _) (fun obj=>F.args_object_init_3 obj _ _) F.entry_zip_new (qO a b us vs) ⟨ha,hb,?_⟩
 have s1:(g1 s.heap a).objs.size=s.heap.objs.size + 1:=Heap.size_push ..
 have s2:(g2 s.heap a b).objs.size=s.heap.objs.size + 2:=by rw [Heap.size_push,s1]
 have s3:(g3 s.heap a b).objs.size=s.heap.objs.size + 3:=by rw [Heap.size_push,s2]
 have s4:(g4 s.heap a b).objs.size=s.heap.objs.size + 4:=by rw [Heap.size_push,s3]
 have e5:(g5 s.heap a b).get? (g4 s.heap a b).objs.size=some _:=Heap.get?_push_size _ rfl
 have e4:(g5 s.heap a b).get? (g3 s.heap a b).objs.size=some _:=Heap.get?_push_of_some _ (Heap.get?_push_size _ rfl)
 have e3:(g5 s.heap a b).get? (g2 s.heap a b).objs.size=some _:=Heap.get?_push_of_some _ (Heap.get?_push_of_some _ (Heap.get?_push_size _ rfl))
 have e2:(g5 s.heap a b).get? (g1 s.heap a).objs.size=some _:=Heap.get?_push_of_some _ (Heap.get?_push_of_some _ (Heap.get?_push_of_some _ (Heap.get?_push_size _ rfl)))
 have e1:(g5 s.heap a b).get? s.heap.objs.size=some _:=Heap.get?_push_of_some _ (Heap.get?_push_of_some _ (Heap.get?_push_of_some _ (Heap.get?_push_of_some _ (Heap.get?_push_size _ rfl))))
 show _ /\ _
 rw [s2,s3,s4] at e5
 rw [s1,s2] at e3
 rw [s3] at e4
 rw [s1] at e2
 rw [s4]
 exact ⟨⟨_,e5,rfl⟩,h _ e5 e3 e4 ⟨_,e1,rfl,rfl⟩ ⟨_,e2,rfl,rfl⟩ fun c o x=>Heap.get?_push_of_some _ (Heap.get?_push_of_some _ (Heap.get?_push_of_some _ (Heap.get?_push_of_some _ (Heap.get?_push_of_some _ x))))⟩
end
end L2.ZT
namespace L2
open PySem PySem.Spec PyProof.Rows
def Itu (K:PySem.W.Frag) (l1 l2:Addr):It :=
 ⟨fun i H=>∃ xs ys x y,SqT K H l1 xs /\ SqT K H l2 ys /\ xs[i]?=some x /\ ys[i]?=some y,fun i H v H'=>∃ p,v=.ref p /\ H p=none /\ ∀ xs ys,SqT K H l1 xs -> SqT K H l2 ys -> ∃ x y,xs[i]?=some x /\ ys[i]?=some y /\ H'=upd H p (.tup [x,y]),
  fun i H=>∃ xs ys,SqT K H l1 xs /\ SqT K H l2 ys /\ i=min xs.length ys.length⟩
def TnU (z TI TO i1 i2 l1 l2:Addr) (i:Nat) (h:Heap):Prop:=IsZip h z TI TO Value.none /\ IsPair h TI (Value.ref i1) (Value.ref i2) /\ (∃ a b,IsPair h TO a b) /\ h.IsTupleIter i1 l1 i /\ h.IsTupleIter i2 l2 i
theorem qP {P:Program} {w:World} {K:PySem.W.Frag} {elts:List Expr} {k:Nat} {pos:Pos} {z TI TO i1 i2 l1 l2:Addr} (ap:ZipApart z TI TO i1 i2 l1 l2):nC P w K (.Tuple elts k pos) (Itu K l1 l2) [z,TI,TO,i1,i2] z (TnU z TI TO i1 i2 l1 l2) where
 mem:=by simp
 obj:=fun i h st b hb=>by
  obtain ⟨h1,h2,⟨u,v,h3⟩,h4,h5⟩:=st
  simp only [List.mem_cons,List.not_mem_nil,or_false] at hb
  rcases hb with rfl | rfl | rfl | rfl | rfl
  ·exact ⟨_,h1,fun v e=>by cases e⟩
  ·exact ⟨_,h2,fun v e=>by cases e⟩
  ·exact ⟨_,h3,fun v e=>by cases e⟩
  ·obtain ⟨o,e,c,d⟩:=h4
   exact ⟨o,e,fun v z=>by rw [d] at z; cases z⟩
  ·obtain ⟨o,e,c,d⟩:=h5
   exact ⟨o,e,fun v z=>by rw [d] at z; cases z⟩
 keep:=fun i h h' st kk=>by
  obtain ⟨h1,h2,⟨u,v,h3⟩,h4,h5⟩:=st
  exact ⟨kk _ (by simp) _ h1,kk _ (by simp) _ h2,⟨u,v,kk _ (by simp) _ h3⟩,h4.at fun o e=>kk _ (by simp) o e,h5.at fun o e=>kk _ (by simp) o e⟩
 item:=by
  intro X hP hw hK hc i pins s σ H E I hf st hg
  subst hP hw hK
  obtain ⟨xs,ys,x,y,hx,hy,ex,ey⟩:=hg
  obtain ⟨its,rv,p,hz⟩:=I.tuple hx
  obtain ⟨jts,rv',p',hz'⟩:=I.tuple hy
  obtain ⟨u,hu,ru⟩:=rv.get ex
  obtain ⟨v,hv,rv2⟩:=rv'.get ey
  obtain ⟨st1,st2,⟨oa,ob,st3⟩,st4,st5⟩:=st
  have hT:s.TypeIs (.ref z) "zip":=⟨_,st1,rfl⟩
  unfold pyNext
  refine wpAny_bind (wpAny_attempt (wpAny_callSpecial?_slot (name:=Str.ofString "__next__") hT F.slot_zip_next (wpAny_call_entry F.slot_zip_next hT F.entry_zip_next
   (ZT.ti ap st1 st2 st3 st4 st5 (show s.heap.IsTuple l1 its.toArray from p) (show s.heap.IsTuple l2 jts.toArray from p') (x:=u) (y:=v) (by simpa using hu) (by simpa using hv) fun g a1 a2 a3 a4 a5 a6 kk=>wpAny_pure ?_) (F.args_zip_next_1 _))))
  refine ⟨_,rfl,wpAny_letOwnedTupleGo_zip a1 fun g' zz sb=>?_⟩
  have lt:∀ {c:Addr} {o:Obj},s.heap.get? c=some o -> s.heap.objs.size ≠ c:=fun e=>Nat.ne_of_gt (Heap.lt_size e)
  have up:∀ c o,c ≠ z -> g.get? c=some o -> g'.get? c=some o:=fun c o n e=>sb.extBut _ _ n e
  have hTup:IsTup g' s.heap.objs.size [u,v].toArray:=⟨_,up _ _ (lt st1) a5,rfl,_,rfl⟩
  have hfw:∀ b ∈ ([z,TO,i1,i2]:List Addr),gB X pins H b:=fun b hb=>hf b (by simp only [List.mem_cons,List.not_mem_nil,or_false] at hb ⊢; rcases hb with h | h | h | h <;> simp [h])
  have kk2:∀ b o,b ∉ ([z,TO,i1,i2]:List Addr) -> s.heap.get? b=some o -> g'.get? b=some o:=fun b o hb e=>by
   simp only [List.mem_cons,List.not_mem_nil,or_false,not_or] at hb
   exact up _ _ hb.1 (kk b o hb.1 hb.2.1 hb.2.2.1 hb.2.2.2 e)
  have I1:=I.turnedT (h':=g') (t':=s.toks) (T:=s.heap.objs.size) (xs:=[x,y]) (us:=[u,v]) (ch:=[z,TO,i1,i2]) kk2 hfw (Nat.le_refl _) (by show 2 <= sizeLine; decide) (.cons ru (.cons rv2 .nil)) hTup
  refine ⟨.ref s.heap.objs.size,_,I1,rfl,⟨_,rfl,I.hok.fresh (Nat.le_refl _),fun xs' ys' hx' hy'=>⟨x,y,?_,?_,rfl⟩⟩,⟨zz,up _ _ ap.TIz (kk _ _ ap.TIz ap.TITO ap.TIi1 ap.TIi2 st2),⟨_,_,up _ _ ap.TOz a2⟩,a3.at fun o e=>up _ o ap.i1z e,a4.at fun o e=>up _ o ap.i2z e⟩,fun b hb=>?_⟩
  ·rw [I.tuple_inj hx' hx]; exact ex
  ·rw [I.tuple_inj hy' hy]; exact ey
  ·have hb':∃ o,s.heap.get? b=some o:=by
    simp only [List.mem_cons,List.not_mem_nil,or_false] at hb
    obtain ⟨o4,e4,_⟩:=st4
    obtain ⟨o5,e5,_⟩:=st5
    rcases hb with h | h | h | h | h <;> rw [h]
    ·exact ⟨_,st1⟩
    ·exact ⟨_,st2⟩
    ·exact ⟨_,st3⟩
    ·exact ⟨_,e4⟩
    ·exact ⟨_,e5⟩
   obtain ⟨o,e⟩:=hb'
   rw [aw (Nat.ne_of_lt (Heap.lt_size e))]
   exact (hf b hb).1
 done:=by
  intro X hP hw hK hc i pins s σ H E I hf st hg
  subst hP hw hK
  obtain ⟨xs,ys,hx,hy,rfl⟩:=hg
  obtain ⟨its,rv,p,hz⟩:=I.tuple hx
  obtain ⟨jts,rv',p',hz'⟩:=I.tuple hy
  obtain ⟨st1,st2,⟨oa,ob,st3⟩,st4,st5⟩:=st
  have hfw:∀ b ∈ ([z,TO,i1,i2]:List Addr),gB X pins H b:=fun b hb=>hf b (by simp only [List.mem_cons,List.not_mem_nil,or_false] at hb ⊢; rcases hb with h | h | h | h <;> simp [h])
  have e1:=rv.length
  have e2:=rv'.length
  have hend:its.toArray[min xs.length ys.length]?=none \/ jts.toArray[min xs.length ys.length]?=none:=by
   by_cases h:xs.length <= ys.length
   ·exact .inl (Array.getElem?_eq_none (by rw [List.size_toArray]; lia))
   ·exact .inr (Array.getElem?_eq_none (by rw [List.size_toArray]; lia))
  have hT:s.TypeIs (.ref z) "zip":=⟨_,st1,rfl⟩
  unfold pyNext
  refine wpAny_bind (wpAny_attempt (wpAny_callSpecial?_slot (name:=Str.ofString "__next__") hT F.slot_zip_next (wpAny_call_entry F.slot_zip_next hT F.entry_zip_next
   (ZT.zip_end (I.ok.hd hc) ap st1 st2 st3 st4 st5 (show s.heap.IsTuple l1 its.toArray from p) (show s.heap.IsTuple l2 jts.toArray from p') hend fun g e kk ⟨oe,he,ce⟩=>?_) (F.args_zip_next_1 _))))
  refine wpAny_bind (wpAny_isInstance (T:="StopIteration") (b:=true) ⟨oe,he,ce⟩ isSubtype_stop (wpAny_pure ⟨rfl,I.turnedL (t':=s.toks) (ch:=[z,TO,i1,i2]) (fun b o hb e=>?_) hfw⟩))
  simp only [List.mem_cons,List.not_mem_nil,or_false,not_or] at hb
  exact kk b o hb.1 hb.2.1 hb.2.2.1 hb.2.2.2 e
 self:=fun _ _ _ _ _ st h=>wpAny_pyIter_zip st.1 h
section
variable {X:Cx}
def iZipT (K:PySem.W.Frag) (ta:TA):TI:=fun σ H R=>ta σ H fun vs H1=>∃ a b xs ys,vs=[.ref a,.ref b] /\ SqT K H1 a xs /\ SqT K H1 b ys /\ R (Itu K a b) H1
theorem pR {elts:List Expr} {k:Nat} {tpos:Pos} {a b:Expr} {ta:TA} {p pos:Pos} (hg:Gl X "zip") (hm:X.mg "zip"=none) (ha:PA X [a,b] ta) (hs:starEach [a,b] X.env=[(false,eval a X.env),(false,eval b X.env)]:=by rfl) (hs2:starEach [b] X.env=[(false,eval b X.env)]:=by rfl) :
  PI X (.Tuple elts k tpos) (.Call (.Name "zip" p) [a,b] [] pos) (iZipT X.K ta):=by
 intro pins s σ H R I h
 refine Call_ (fR I hg hm boot_zip (PyProof.Rows.callWith_type1 (thn (ha pos pins s σ H _ I h) fun us s1 ⟨vs,H1,I1,r1,q1⟩=>?_) (by rw [hs,hs2]) (by rw [hs2]; rfl)))
 obtain ⟨l1,l2,xs,ys,e,hx,hy,q⟩:=q1
 subst e
 obtain ⟨u,u2,rfl,rr1,rr2⟩:=mi r1
 cases rr1
 cases rr2
 obtain ⟨its,rv,p1,hz⟩:=I1.tuple hx
 obtain ⟨jts,rv',p2,hz'⟩:=I1.tuple hy
 have h1:l1 < s1.heap.objs.size:=by obtain ⟨o,e,_⟩:=id p1; exact Heap.lt_size e
 have h2:l2 < s1.heap.objs.size:=by obtain ⟨o,e,_⟩:=id p2; exact Heap.lt_size e
 refine ZT.tj (show s1.heap.IsTuple l1 its.toArray from p1) (show s1.heap.IsTuple l2 jts.toArray from p2) fun h' z1 z2 z3 z4 z5 kk=>?_
 refine wpAny_pyIter_zip (s:={ s1 with heap:=h' }) z1 ?_
 refine ⟨_,[s1.heap.objs.size + 4,s1.heap.objs.size + 2,s1.heap.objs.size + 3,s1.heap.objs.size,s1.heap.objs.size + 1],_,_,H1,rfl,I1.kept (t':=s1.toks) kk,qP (zipApart_new h1 h2),⟨z1,z2,⟨_,_,z3⟩,z4,z5⟩,fun b hb=>?_,q⟩
 have hb':s1.heap.objs.size <= b:=by
  simp only [List.mem_cons,List.not_mem_nil,or_false] at hb
  rcases hb with h | h | h | h | h <;> rw [h] <;> first | exact Nat.le_add_right _ _ | exact Nat.le_refl _
 exact I1.fpOk hb' (I1.hok.fresh hb')
end
theorem tz {K:PySem.W.Frag} {a:Addr} {xs:List V} {k:Nat} {σ:St} {H1:Hp} {te:TE} {Q:VK} (f:V -> V) (hk:σ.length=k) (hq:H1 a=some (.tup xs)) (hz:xs.length <= 1000)
  (turn:∀ D x ys H (post:VK),H1 D=none -> x ∈ xs -> ar H1 H -> H D=some (.lst ys) -> (∀ H',ar H H' -> post (f x) H') -> te (σ ++ [some x]) H post)
  (fin:∀ D H,H1 D=none -> ar H1 H -> H D=some (.lst (xs.map f)) -> Q (.ref D) H):LCT 1 (ga k) kE te σ Q (Itt K a) H1:=by
 refine lcJ (n:=xs.length) (fun i=>xs.getD i .non) (fun D i ys H=>H1 D=none /\ ar H1 H /\ H D=some (.lst ys) /\ ys=(xs.take i).map f) hk ?_ ?_ ?_ ?_ ?_ ?_
 ·rintro D i ys H hi ⟨h1,h2,h3,rfl⟩
  exact ⟨xs,xs[i],SqT.of (h2 _ _ hq),by simp [hi]⟩
 ·rintro D i ys H x H' hi ⟨h1,h2,h3,rfl⟩ ⟨e,y⟩
  refine ⟨e,?_⟩
  have:=y xs (SqT.of (h2 _ _ hq))
  rw [List.getD_eq_getElem?_getD,this]; rfl
 ·rintro D ys H ⟨h1,h2,h3,rfl⟩
  exact ⟨xs,SqT.of (h2 _ _ hq),Nat.le_refl _⟩
 ·intro D hD
  exact ⟨hD,ar.new hD,ai,rfl⟩
 ·rintro D i ys H post hi ⟨h1,h2,h3,rfl⟩ hp
  have hx:xs.getD i .non=xs[i]:=by simp [hi]
  rw [hx]
  refine turn D xs[i] _ H post h1 (List.getElem_mem hi) h2 h3 fun H' s'=>hp _ _ (s' _ _ h3) ?_ ⟨h1,fun b o e=>?_,ai,?_⟩
  ·rw [List.length_map,List.length_take]
   exact bA (by lia)
  ·rw [aw (ak e h1)]
   exact s' _ _ (h2 _ _ e)
  ·rw [List.take_add_one,List.getElem?_eq_getElem hi,List.map_append]; rfl
 ·rintro D ys H ⟨h1,h2,h3,rfl⟩
  rw [List.take_length] at h3
  exact fin D H h1 h2 h3
theorem lcZU {K:PySem.W.Frag} {a b:Addr} {xs ys:List V} {g:TG} {σ:St} {H1:Hp} {te:TE} {Q:VK} (f:V -> V -> V) (ha:H1 a=some (.tup xs)) (hb:H1 b=some (.tup ys)) (hz:xs.length <= 1000)
  (hg:∀ (p:Addr) (x y:V) (H:Hp) (R:St -> Hp -> Prop),H p=some (.tup [x,y]) -> R (σ ++ [some x,some y]) H -> g (.ref p) (σ ++ List.replicate 2 none) H R)
  (turn:∀ (i:Nat) x y H (post:VK),xs[i]?=some x -> ys[i]?=some y -> ar H1 H -> (∀ H',ar H H' -> post (f x y) H') -> te (σ ++ [some x,some y]) H post)
  (fin:∀ D H,H1 D=none -> ar H1 H -> H D=some (.lst ((xs.zip ys).map fun p=>f p.1 p.2)) -> Q (.ref D) H):LCT 2 g kE te σ Q (Itu K a b) H1:=by
 have hzl:(xs.zip ys).length=min xs.length ys.length:=List.length_zip ..
 intro D hD
 refine ⟨fun i m us H=>m=(xs.zip ys).length - i /\ i <= (xs.zip ys).length /\ ar H1 H /\ H D=some (.lst us) /\ us=((xs.zip ys).take i).map fun p=>f p.1 p.2,⟨(xs.zip ys).length,by simp,Nat.zero_le _,ar.new hD,ai,rfl⟩,?_⟩
 rintro i m us H ⟨rfl,hi,sm,hDD,rfl⟩
 by_cases hlt:i < (xs.zip ys).length
 ·have h1:i < xs.length:=by lia
  have h2:i < ys.length:=by lia
  refine .inr ⟨⟨xs,ys,xs[i],ys[i],SqT.of (sm _ _ ha),SqT.of (sm _ _ hb),by simp,by simp⟩,fun v H' y=>?_⟩
  obtain ⟨p,rfl,hp,y⟩:=y
  obtain ⟨x',y',ex,ey,rfl⟩:=y xs ys (SqT.of (sm _ _ ha)) (SqT.of (sm _ _ hb))
  have s2:=ar.new (o:=.tup [x',y']) hp
  refine hg p x' y' _ _ ai ⟨⟨_,rfl,rfl⟩,?_⟩
  unfold kE
  refine bz (turn i x' y' _ _ ex ey (sm.trans s2) fun H4 s4=>⟨s4 _ _ (s2 _ _ hDD),?_,(xs.zip ys).length - (i + 1),by lia,rfl,hlt,fun c o e=>?_,ai,?_⟩)
  ·rw [List.length_map,List.length_take]
   exact bA (by lia)
  ·rw [aw (ak e hD)]
   exact s4 _ _ (s2 _ _ (sm _ _ e))
  ·rw [List.take_add_one,List.getElem?_eq_getElem hlt,List.map_append]
   have e1:(xs.zip ys)[i]=(x',y'):=by
    rw [List.getElem_zip]
    rw [List.getElem?_eq_getElem h1] at ex
    rw [List.getElem?_eq_getElem h2] at ey
    rw [Option.some.inj ex,Option.some.inj ey]
   rw [e1]; rfl
 ·have e:i=(xs.zip ys).length:=by lia
  subst e
  rw [List.take_length] at hDD
  exact .inl ⟨⟨xs,ys,SqT.of (sm _ _ ha),SqT.of (sm _ _ hb),hzl⟩,fin D H hD sm hDD⟩
section
variable {X:Cx}
theorem ou (bs:List Bool):((List.range bs.length).any fun i=>(bs[i]?).getD false)=bs.any id:=by
 rw [Bool.eq_iff_iff,List.any_eq_true,List.any_eq_true]
 constructor
 ·rintro ⟨i,hi,h⟩
  have hi:=List.mem_range.mp hi
  rw [List.getElem?_eq_getElem hi] at h
  exact ⟨_,List.getElem_mem hi,h⟩
 ·rintro ⟨b,hb,h⟩
  obtain ⟨i,hi,e⟩:=List.getElem_of_mem hb
  exact ⟨i,List.mem_range.mpr hi,by rw [List.getElem?_eq_getElem hi,e]; exact h⟩
theorem qQ (hc:X.calm=true):cU X (.builtin "any") (fun xs H Q=>∃ (p:Addr) (bs:List Bool),xs=[.ref p] /\ SqL X.K H p (bs.map V.bl) /\ Q (.bl (bs.any id)) H):=by
 intro pins s σ H xs us Q I rv h
 obtain ⟨p,bs,rfl,hS,q⟩:=h
 obtain ⟨u,rfl,ru⟩:=rv.one
 cases ru
 obtain ⟨its,r,hp,_⟩:=I.list hS
 have hlen:its.length=bs.length:=by have:=r.length; rw [List.length_map] at this; lia
 have hl:=hp.isList
 have hlt:p < s.heap.objs.size:=by obtain ⟨_,e,_⟩:=hl; exact Heap.lt_size e
 refine call_any_walk (wpAny_pyIter_list hl ?_)
 refine ⟨s.heap.objs.size,[s.heap.objs.size,p],[s.heap.objs.size],its.toArray.size,_,_,fun i=>(bs[i]?).getD false,rfl,Walks.list (A:=X.A.in1) (I.ok.hd hc) _ p (Nat.ne_of_lt hlt) its.toArray,
  ⟨⟨_,Heap.get?_push_size _ rfl,rfl,rfl⟩,hl.push _⟩,fun i v s' Q' E' hP hQ=>?_,fun h' tk hk=>?_⟩
 ·obtain ⟨b,e,rfl⟩:=pM r (i:=i) (v:=v) (by simpa using hP)
  simp only [e,Option.getD_some] at hQ
  exact wpAny_truthy_bool hQ
 ·rw [List.size_toArray,hlen,ou]
  refine ⟨.bl _,H,I.kept (t':=tk) fun b o e=>hk b o (fun hm=>?_) (Heap.get?_push_of_some _ e),rfl,q⟩
  rw [List.mem_singleton.mp hm] at e
  exact Nat.lt_irrefl _ (Heap.lt_size e)
end
def tJoin (t:TS):TS:=fun D σ H=>∃ J:St -> Hp -> Prop,t { D with nx:=J } σ H /\ ∀ σ' H',J σ' H' -> D.nx σ' H'
theorem cz {X:Cx} {st:Stmt} {t:TS} (h:PS X st t):PS X st (tJoin t):=by
 intro pins s σ H D I hh
 obtain ⟨J,h1,h2⟩:=hh
 refine thn (h pins s σ H { D with nx:=J } I h1) fun f s1 q=>?_
 cases f with
 | next =>
  obtain ⟨σ',H',I',q⟩:=q
  exact ⟨σ',H',I',h2 _ _ q⟩
 | ret v=>exact q
 | brk=>exact q
 | cont=>exact q
section
variable {P:Program} {w:World} {H H' H1 H2:Hp} {h h0 h1 h2 B:Heap} {a:Addr} {o:HO} {fs:List Addr}
theorem ck.there (x:ck P w H h a o):∃ u,h.get? a=some u:=by
 cases o with
 | lst xs=>obtain ⟨_,_,_,_,e⟩:=x; exact ⟨_,e⟩
 | tup xs=>obtain ⟨_,_,_,ob,e,_⟩:=x; exact ⟨_,e⟩
 | dK kvs=>obtain ⟨_,_,_,_,o,_,_,e,_⟩:=x; exact ⟨_,e⟩
 | dT kvs=>obtain ⟨_,_,_,_,o,_,_,e,_⟩:=x; exact ⟨_,e⟩
 | set S n=>obtain ⟨o,_,_,_,e,_⟩:=x; exact ⟨_,e⟩
 | ins C dx fs=>obtain ⟨_,_,_,e,_⟩:=x; exact ⟨_,e⟩
 | own y=>exact x
 | xd fs=>obtain ⟨_,⟨_,_,_,e,_⟩,_⟩:=x; exact ⟨_,e⟩
 | rng lo hi=>obtain ⟨_,_,_,e⟩:=x; exact ⟨_,e⟩
 | frz ob u=>obtain ⟨e,_⟩:=x; exact ⟨_,e⟩
 | tbl ps=>exact ⟨_,(show h.get? a=some _ from x)⟩
 | met f y=>exact ⟨_,(show h.get? a=some _ from x)⟩
 | ext φ=>obtain ⟨_,e,_⟩:=x; exact e
def Cov (fs:List Addr) (h0 h1:Heap) (H':Hp) (B:Heap):Prop:=∀ b u,h1.get? b=some u -> ((∃ o,h0.get? b=some o) \/ H' b ≠ none) -> b ∉ fs -> B.get? b=some u
theorem moved (un:Un fs [] H H2 h0 h1) (hok:HOk P w H2 h1) (cov:Cov fs h0 h1 H2 B) (st:B.StaysIn h2) (up:h1.UpToSlots h2) (nf:∀ b ∈ fs,H2 b=none) (fd:∀ b ∈ fs,∀ o,h1.get? b=some o -> ∀ vs,o.data ≠ .fields vs) :
  Un fs [] H H2 h0 h2 /\ HOk P w H2 h2 /\ Cov fs h0 h2 H2 B:=by
 have one:∀ b u,h1.get? b=some u -> ((∃ o,h0.get? b=some o) \/ H2 b ≠ none) -> b ∉ fs -> h2.get? b=some u:=fun b u e c n=>st b u (cov b u e c n)
 refine ⟨⟨fun b ob e n hb hx=>?_,fun b ob e n hb hx=>?_,un.free,fun b ob e hx=>?_,un.tups,un.frzs,un.tbls⟩,fun b u e=>?_,fun b u e c n=>?_⟩
 ·exact one b ob (un.keep b ob e n hb hx) (.inl ⟨ob,e⟩) hb
 ·obtain ⟨sl,e1⟩:=un.slot b ob e n hb hx
  obtain ⟨sl',e2⟩:=up b _ e1 (fd b hb _ e1)
  exact ⟨sl',e2⟩
 ·obtain ⟨o',e1⟩:=un.there b ob e hx
  by_cases hb:b ∈ fs
  ·obtain ⟨sl',e2⟩:=up b _ e1 (fd b hb _ e1)
   exact ⟨_,e2⟩
  ·exact ⟨_,one b o' e1 (.inl ⟨ob,e⟩) hb⟩
 ·refine (hok b u e).stay (fun c v hc q=>?_) (fun _ q=>q) fun _ _ q=>q
  have hn:H2 c ≠ none:=by
   rcases hc with rfl | hc
   ·rw [e]; intro z; cases z
   ·rw [hc]; intro z; cases z
  exact one c v q (.inr hn) fun z=>hn (nf c z)
 ·have:∃ v,h1.get? b=some v:=by
   rcases c with ⟨o',e1⟩ | c
   ·exact un.there b o' e1 (by simp)
   ·cases hq:H2 b with
    | none=>exact absurd hq c
    | some q=>exact (hok b q hq).there
  obtain ⟨v,hv⟩:=this
  have:=cov b v hv c n
  have e2:=st b v this
  rw [e] at e2
  cases e2
  exact this
end
def CXR (P:Program) (w:World) (base:Heap):CXT:=fun outer H s E e s'=>∃ (ea:Addr) (cls a0:Value) (H':Hp) (B:Heap),e=.ref ea /\ s'.os=s.os /\ AllBare s'.gens /\ Un (frs outer) [] H H' s.heap s'.heap /\ HOk P w H' s'.heap /\ H' ea=none /\
 base.StaysIn B /\ Heap.FlyingW B outer ea cls a0 s'.heap /\ Cov (frs outer) s.heap s'.heap H' B /\ E cls none H'
section
variable {X:Cx} {pins:List (Addr × Obj)} {σ:St} {H H2:Hp} {s s':Shared}
end
theorem un_drop {X:Cx} {pins:List (Addr × Obj)} {σ:St} {H H2:Hp} {s:Shared} {h:Heap} (I:Inv X pins σ H s) (hex:X.ex=[]) (u:Un (frs X.stack) [] H H2 s.heap h):Un (frs X.outer) [] X.H₀ H2 X.s₀.heap h:=by
 have b0:=I.base
 rw [hex] at b0
 have nm:∀ b o,X.s₀.heap.get? b=some o -> b ∉ frs X.outer -> b ∉ frs X.stack:=fun b o e n z=>by
  rcases List.mem_cons.mp (I.stkSub b z) with q | q
  ·have h1:=Heap.lt_size e
   have h2:=I.ok.above
   rw [<- q] at h2
   exact absurd (Nat.lt_of_lt_of_le h1 h2) (Nat.lt_irrefl _)
  ·exact n q
 refine ⟨fun b o e n hb hx=>?_,fun b o e n hb hx=>?_,fun b o e n hx=>?_,fun b o e hx=>?_,fun b xs e=>u.tups b xs (b0.tups b xs e),fun b o v e=>u.frzs b o v (b0.frzs b o v e),fun b ps e=>?_⟩
 ·exact u.keep b o (b0.keep b o e n hb hx) (b0.free b o e n hx) (nm b o e hb) hx
 ·obtain ⟨sl,e1⟩:=b0.slot b o e n hb hx
  obtain ⟨sl',e2⟩:=u.any e1 (b0.free b o e n hx) hx
  exact ⟨sl',e2⟩
 ·obtain ⟨o',e1⟩:=b0.there b o e hx
  exact u.free b o' e1 (b0.free b o e n hx) hx
 ·obtain ⟨o',e1⟩:=b0.there b o e hx
  exact u.there b o' e1 hx
 ·obtain ⟨m1,e1⟩:=b0.tbls b ps e
  obtain ⟨m2,e2⟩:=u.tbls b _ e1
  exact ⟨m1 ++ m2,by rw [e2,Array.append_assoc]⟩
theorem tD {X:Cx} {pins:List (Addr × Obj)} {σ:St} {H H2:Hp} {s:Shared} {h B:Heap} (I:Inv X pins σ H s) (hex:X.ex=[]) (nf:∀ b ∈ frs X.stack,H2 b=none) (c:Cov (frs X.stack) s.heap h H2 B):Cov (frs X.outer) X.s₀.heap h H2 B:=by
 have b0:=I.base
 rw [hex] at b0
 intro b u e q n
 refine c b u e ?_ fun z=>?_
 ·rcases q with ⟨o,q⟩ | q
  ·exact .inl (b0.there b o q (by simp))
  ·exact .inr q
 ·rcases q with ⟨o,q⟩ | q
  ·rcases List.mem_cons.mp (I.stkSub b z) with y | y
   ·have h1:=Heap.lt_size q
    have h2:=I.ok.above
    rw [<- y] at h2
    exact absurd (Nat.lt_of_lt_of_le h1 h2) (Nat.lt_irrefl _)
   ·exact n y
  ·exact q (nf b z)
section
variable {P:Program} {w:World} {K:PySem.W.Frag} {mg:Str -> Option Value} {base:Heap} {N:List Str} {qual:Str} {scope:Scope} {f:Addr} {cd:Value} {A:Around} {outer:List Env} {s:Shared} {H:Hp} {E:XK}
theorem newR {pins:List (Addr × Obj)} {σ:St} {H1:Hp} {s1:Shared} {h':Heap} {ea:Addr} {cls:Value} {vs:List Value} (I:Inv (bj (CXR P w base) P w K mg base N qual scope f cd A outer s H E) pins σ H1 s1) (hx:Heap.MadeExcOf s1.heap h' ea cls vs) (hE:E cls none H1) :
  (bj (CXR P w base) P w K mg base N qual scope f cd A outer s H E).xe (.ref ea) { s1 with heap:=h' }:=by
 have hl:=I.stack
 have hin:∀ env ∈ (bj (CXR P w base) P w K mg base N qual scope f cd A outer s H E).stack,∀ b,env.frame=some b -> b ∈ frs (bj (CXR P w base) P w K mg base N qual scope f cd A outer s H E).stack:=fun env he b hb=>List.mem_filterMap.mpr ⟨env,he,hb⟩
 have hst:base.StaysIn (PySem.W.hideAll s1.heap (frs (bj (CXR P w base) P w K mg base N qual scope f cd A outer s H E).stack)):=fun b o q=>PySem.W.hideAll_get _ ((I.bs b o q).1) fun hm=>by
  have z:base.get? b=none:=(hl.mem hm).1
  rw [z] at q; cases q
 show wpAny _ _ (leaving _ (.ref ea)) _ _ _
 refine wpAny_leaves_madeW (base:=PySem.W.hideAll s1.heap (frs (bj (CXR P w base) P w K mg base N qual scope f cd A outer s H E).stack)) (h:=s1.heap) I.ok.frames rfl (fun b o q=>PySem.W.of_hideAll _ q) (PySem.W.funFrames_hide hl hin) hx fun h2 t fly tup bt up=>?_
 have nf:=I.stkFree
 have up2:s1.heap.UpToSlots h2:=(Heap.UpToSlots.of_keeps hx.keeps).trans up
 have cov:Cov (frs (bj (CXR P w base) P w K mg base N qual scope f cd A outer s H E).stack) s1.heap s1.heap H1 (PySem.W.hideAll s1.heap (frs (bj (CXR P w base) P w K mg base N qual scope f cd A outer s H E).stack)):=fun b u e _ n=>PySem.W.hideAll_get _ e n
 have fd:∀ b ∈ frs (bj (CXR P w base) P w K mg base N qual scope f cd A outer s H E).stack,∀ o,s1.heap.get? b=some o -> ∀ vs,o.data ≠ .fields vs:=fun b hb o ho=>by
  obtain ⟨_,o',ho',hd⟩:=hl.mem hb
  rw [ho] at ho'
  cases ho'
  exact hd
 obtain ⟨un2,hok2,cov2⟩:=moved (Un.kept fun _ _ e=>e) I.hok cov fly.1 up2 nf fd
 have hea:H1 ea=none:=by
  cases hq:H1 ea with
  | none=>rfl
  | some q =>
   obtain ⟨u,hu⟩:=(I.hok ea q hq).there
   rw [hx.new] at hu
   cases hu
 exact ⟨ea,cls,_,H1,_,rfl,I.os,I.bare,un_drop I rfl un2,hok2,hea,hst,fly,tD I rfl nf cov2,hE⟩
end
def bmV:List Value:=[.type "ValueError",.type "Exception",.type "BaseException",.type "object"]
def ExcAt (h:Heap) (C:Addr):Prop:=∃ bm N nm qn bs hd sn sub ab col dd k0 k1 k2 k3 k5 mN,h.get? C=some (excClassObj nm qn C N bs bm hd sn sub ab col dd k0 k1 k2 k3 k5 "ValueError.__new__") /\ h.Ns N mN /\ mN "__init__"=none /\ OwnTail h bmV bm
theorem tE {K:PySem.W.Frag} {h:Heap} {C:Addr} (X:K.In h) (q:PySem.W.excIn K C bmV "ValueError.__new__"=true):ExcAt h C:=by
 unfold PySem.W.excIn at q
 split at q
 case h_2=>cases q
 case h_1 dd cd sl ho =>
  split at q
  case h_2=>cases q
  case h_1 C2 tail y0 y1 y2 y3 nn y5 em es =>
   simp only [Bool.and_eq_true,beq_iff_eq,Bool.not_eq_true'] at q
   obtain ⟨⟨⟨⟨⟨c1,c2⟩,c3⟩,c4⟩,c5⟩,c6⟩:=q
   subst c1 c2
   cases cd
   rename_i f1 f2 f3 f4 f5 f6 f7 f8 f9 f10 f11
   simp only at em c3 c5 c6
   subst em c3
   obtain rfl:sl=#[y0,y1,y2,y3,some (.builtin "ValueError.__new__"),y5]:=by
    cases sl
    simp only at es
    rw [es]
   refine ⟨tail,f4,f1,f5,f2,f6,f7,f8,f9,f10,dd,y0,y1,y2,y3,y5,h.nsMap f4,X _ _ ho,?_,?_,PySem.W.tail_of_in X c4⟩
   ·exact .of_isNs (PySem.W.isNs_of_in X c5)
   ·exact PySem.W.nsMap_none_of_in X c5 c6
structure ExcC (K:PySem.W.Frag) (mg:Str -> Option Value) (x:Str) (C:Addr):Prop where
 mgC:mg x=some (.ref C)
 ex:PySem.W.excIn K C bmV "ValueError.__new__"=true
def tRaise (C:Addr) (E:XK) (t:TA):TS:=fun _ σ H=>t σ H fun vs H1=>vs.length <= sizeLine /\ E (.ref C) none H1
def PassN (X:Cx) (E:XK):Prop:=∀ (pins:List (Addr × Obj)) (σ:St) (H:Hp) (s:Shared) (h':Heap) (e:Addr) (cls:Value) (vs:List Value),Inv X pins σ H s -> Heap.MadeExcOf s.heap h' e cls vs -> E cls none H -> X.xe (.ref e) { s with heap:=h' }
theorem passN {P:Program} {w:World} {K:PySem.W.Frag} {mg:Str -> Option Value} {base:Heap} {N:List Str} {qual:Str} {scope:Scope} {f:Addr} {cd:Value} {A:Around} {outer:List Env} {s:Shared} {H:Hp} {E:XK} :
  PassN (bj (CXR P w base) P w K mg base N qual scope f cd A outer s H E) E:=fun _ _ _ _ _ _ _ _ I hx hE=>newR I hx hE
theorem tF {X:Cx} {x:Str} {C:Addr} {E:XK} {e:Expr} {es:List Expr} {t:TA} {np cpos pos:Pos} (hN:PassN X E) (hc:X.calm=true) (T:ExcC X.K X.mg x C) (hg:Gl X x) (ha:PA X (e :: es) t)
  (he:starEach (e :: es) X.env=(false,eval e X.env) :: starEach es X.env:=by rfl) (hpl:(backTo cpos (starEach es X.env)).any (·.1)=false:=by rfl) (hd:(x == ("__debug__":Str))=false:=by decide) :
  PS X (.Raise (some (.Call (.Name x np) (e :: es) [] cpos)) none pos) (tRaise C E t):=by
 intro pins s σ H D I h
 obtain ⟨tl,Nn,nm,qn,bs,hdct,sn,sub,ab,col,dd,k0,k1,k2,k3,k5,mN,hC,hNs,hni,TL⟩:=tE I.ok.mod.kin T.ex
 refine wpAny_Raise_call_subT (C:=C) (nm:=nm) (q:=qn) (N:=Nn) (bs:=bs) (bm:=tl) (hdct:=hdct) (sn:=sn) (sub:=sub) (ab:=ab) (col:=col) (dd:=dd) (k0:=k0) (k1:=k1) (k2:=k2) (k3:=k3) (k5:=k5)
  PySem.F.excBase_ValueError (mN:=mN) (TL.hasType PySem.F.excBase_ValueError.hasBase) (I.ok.hd hc) (by rw [he]; show (false || _)=false; rw [Bool.false_or]; exact hpl) hni (il I hg T.mgC ⟨rfl,?_⟩ hd)
 have h1:=ha cpos pins s σ H _ I h
 rw [he] at h1 ⊢
 refine Calls.evalArgs_plain (wpAny_mono h1 (fun us s2 h2=>?_) fun _ _ y=>y)
 obtain ⟨vs,H1,I1,r1,hl,hE⟩:=h2
 exact ⟨rfl,by rw [<- r1.length]; exact hl,I1.bk _ _ hC,hNs.keeps I1.bk,TL.keeps I1.bk,fun h' ea hm=>hN pins σ H1 s2 h' ea (.ref C) us I1 hm hE⟩
section
variable {X:Cx} {pins pins':List (Addr × Obj)} {xe:Value -> Shared -> Prop} {σ:St} {H:Hp} {s:Shared} {ea:Addr}
end
structure pS (P:Program) (w:World) (K:PySem.W.Frag) (mg:Str -> Option Value) (base:Heap) (k:Nat) (x:Str) (ps:List Str) (sp:Sp):Prop where
 ex:∃ f fd,aP P w K mg base (CXR P w base) k f fd ps sp /\ mg x=some (.ref f) /\ PySem.W.keepIn K (.ref f)=true /\ dN K fd ps []
theorem mF {X:Cx} {k:Nat} {x:Str} {ps:List Str} {sp:Sp} {E:XK} {e:Expr} {es:List Expr} {t:TA} {p pos:Pos} (F:pS X.prog X.w X.K X.mg X.base k x ps sp) (hr:bi k X.A) (hx:eL (CXR X.prog X.w X.base) X E) (ha:PA X (e :: es) t) (hg:Gl X x:=by rfl)
  (hdb:(x == ("__debug__":Str))=false:=by decide) (he:starEach (e :: es) X.env=(false,eval e X.env) :: starEach es X.env:=by rfl) (hpl:(backTo pos (starEach es X.env)).any (·.1)=false:=by rfl) :
  PE X (.Call (.Name x p) (e :: es) [] pos) (jL sp [] E t):=by
 obtain ⟨f,fd,G,m,kp,b⟩:=F.ex
 exact pG G hr hg m kp b .nil hx ha hdb he hpl
theorem tG {X:Cx}:eL (CXR X.prog X.w X.base) X E0:=fun _ _ _ _ _ _ _ h=>by
 obtain ⟨_,_,_,_,_,_,_,_,_,_,_,_,_,_,z⟩:=h
 exact z.elim
section
variable {P:Program} {w:World} {K:PySem.W.Frag} {mg:Str -> Option Value} {base:Heap}
theorem Fun.okR {x qual:Str} {st:Stmt} {f:Addr} {fd:FuncData} {N ps:List Str} {k:Nat} {sp:Sp} (F:Fun K x qual st f fd) (S:ax N ps (am st)) (len:∀ vs H Q E,sp vs H Q E -> vs.length=ps.length)
  (hbody:∀ (cdv:Value) (A:Around) (outer:List Env) (s:Shared) (H:Hp) (vs:List V) (Q:VK) (E:XK),bi k (A.deeper (envOfC qual (am st) s.heap.objs.size f cdv)) -> sp vs H Q E ->
   ∃ t,PSs (bj (CXR P w base) P w K mg base N qual (am st) f cdv A outer s H E) (cS st) t /\ t { nx:=fun _ H'=>Q .non H',rt:=Q } (eX N vs) H):aP P w K mg base (CXR P w base) (k + 1) f fd ps sp:=by
 obtain ⟨oc,od,kV,doc,pm,an,cdv,ct,osl,rfl,lk,hcd⟩:=F.ex
 exact fn_of lk hcd S len fun A outer s H vs Q E hr hsp=>hbody cdv A outer s H vs Q E hr hsp
end
section
variable {prog:Program} {w:World} {A:Around} {E:Value -> Shared -> Prop} {h:Heap} {g:Array GenState} {d:Drawn} {t:Nat} {os:OsState} {K:PySem.W.Frag} {x C:Addr} {ox:Obj}
end
section
end
section
variable {X:Cx}
end
section
variable {X:Cx}
end
section
variable {P:Program} {w:World} {K:PySem.W.Frag} {mg:Str -> Option Value} {base:Heap}
end
section
variable {X:Cx} {k:Nat} {C:Addr} {m x:Str} {ps:List Str} {sp:Sp} {o e:Expr} {es:List Expr} {ta:TE} {t:TA} {p pos apos:Pos} {E:XK}
end
inductive gp (w:World):List DictEntry -> List (Str × Addr) -> Prop
 | nil:gp w [] []
 | cons {x:Str} {t:Tok} {v:Addr} {es:List DictEntry} {kvs:List (Str × Addr)}:gp w es kvs -> gp w ({ hash:=PyData.keyHash w.params x,key:=.str x t,val:=.ref v } :: es) ((x,v) :: kvs)
structure tH (w:World) (K:PySem.W.Frag) (a:Addr) (kvs:List (Str × Addr)):Prop where
 ex:∃ (es:Array DictEntry) (ep:Nat),K.lookup a=some { cls:=.type "dict",dict:=none,data:=.dict es ep,slots:=#[] } /\ gp w es.toList kvs
 sys:(a == sysModules)=false
 nod:(kvs.map (·.1)).Nodup
def dkV (kvs:List (Str × Addr)):List (Key × Value):=kvs.map fun p=>(Sum.inr p.1,Value.ref p.2)
def gZ (kvs:List (Str × Addr)) (x:Str):Option Addr:=(kvs.find? fun p=>decide (p.1=x)).map (·.2)
theorem gp.pairs {P:Program} {w:World}:∀ {es:List DictEntry} {kvs:List (Str × Addr)},gp w es kvs -> Pairs (bo P w) es (dkV kvs)
 | _,_,.nil=>.nil
 | _,_,.cons (x:=x) (t:=t) r=>.cons (kv_str x t) rfl r.pairs
where
 kv_str {P:Program} {w:World} (x:Str) (t:Tok):(bo P w).is (Sum.inr x) (.str x t)=true:=eQ (P:=P) (w:=w) (k:=Sum.inr x) (show aY (.str x) (.str x t) from ⟨t,rfl⟩)
theorem gp.keys {P:Program} {w:World}:∀ {es:List DictEntry} {kvs:List (Str × Addr)},gp w es kvs -> ∀ e ∈ es,∃ k,(bo P w).is k e.key=true /\ e.hash=(bo P w).hash k
 | _,_,.nil,e,h=>by cases h
 | _,_,.cons (x:=x) (t:=t) r,e,h=>by
  rcases List.mem_cons.mp h with rfl | h
  ·exact ⟨Sum.inr x,gp.pairs.kv_str x t,rfl⟩
  ·exact r.keys e h
theorem tI:∀ {kvs:List (Str × Addr)},(kvs.map (·.1)).Nodup -> ((dkV kvs).map (·.1)).Nodup:=fun {kvs} h=>by
 unfold dkV
 rw [List.map_map]
 have:(kvs.map ((fun x=>x.1) ∘ fun p=>((Sum.inr p.1:Key),Value.ref p.2)))=(kvs.map (·.1)).map (Sum.inr:Str -> Key):=by rw [List.map_map]; rfl
 rw [this]
 exact List.Pairwise.map _ (fun a b hab e=>hab (by injection e)) h
theorem iW (x:Str):∀ kvs:List (Str × Addr),valueAt (dkV kvs) (Sum.inr x:Key)=(gZ kvs x).map Value.ref
 | []=>rfl
 | p :: r=>by
  have ih:=iW x r
  unfold valueAt gZ dkV at *
  rw [List.map_cons,List.find?_cons,List.find?_cons]
  by_cases h:p.1=x
  ·rw [decide_eq_true (show ((Sum.inr p.1:Key)=Sum.inr x) by rw [h]),decide_eq_true h]
   rfl
  ·rw [decide_eq_false (show ¬ ((Sum.inr p.1:Key)=Sum.inr x) from fun e=>h (by injection e)),decide_eq_false h]
   exact ih
theorem tH.dict {P:Program} {w:World} {K:PySem.W.Frag} {a:Addr} {kvs:List (Str × Addr)} {h:Heap} (D:tH w K a kvs) (X:K.In h):h.DictOf (bo P w) a (dkV kvs):=by
 obtain ⟨es,ep,lk,r⟩:=D.ex
 exact ⟨_,es,ep,X _ _ lk,⟨rfl,rfl,rfl⟩,rfl,fun e he=>r.keys e (by simpa using he),r.pairs,tI D.nod⟩
section
variable {X:Cx}
theorem qR:OpR X (compareOp .NotIn) (fun x y H Q=>∃ (a:Addr) (z:Str) (kvs:List (Str × Addr)),x=.str z /\ y=.ref a /\ tH X.w X.K a kvs /\ Q (.bl (!(gZ kvs z).isSome)) H):=by
 intro pins s σ H x y v u Q I rx ry h
 obtain ⟨a,z,kvs,rfl,rfl,D,q⟩:=h
 cases ry
 refine wpAny_notIn_of (knd:=bo X.prog X.w) (eQ (k:=Sum.inr z) rx) D.sys (D.dict I.kIn).mapOf ?_
 rw [iW,Option.isSome_map]
 exact ⟨.bl _,H,I.tok _,rfl,q⟩
theorem tJ {o i:Expr} {td ty:TE} {pos:Pos} (ho:PE X o td) (hi:PE X i ty) (hs:NoSl i):PE X (.Subscript o i pos) (fun σ H Q=>td σ H fun x H1=>ty σ H1 fun y H2=>∃ (a:Addr) (z:Str) (kvs:List (Str × Addr)) (t:Addr),x=.ref a /\ y=.str z /\ tH X.w X.K a kvs /\ gZ kvs z=some t /\ Q (.ref t) H2):=by
 intro pins s σ H Q I h
 refine pH PySem.F.slot_dict_getitem.lookup hs (thn (ho pins s σ H _ I h) fun u s1 ⟨x,H1,I1,rx,q1⟩=>thn (hi pins s1 σ H1 _ I1 q1) fun iv s2 ⟨y,H2,I2,ry,a,z,kvs,t,ex,ey,D,g,q2⟩=>?_)
 subst ex ey
 obtain rfl:u=Value.ref a:=rx
 have dd:=D.dict (P:=X.prog) I2.kIn
 refine ⟨?_,wpAny_getItem_of (knd:=bo X.prog X.w) (eQ (k:=Sum.inr z) ry) dd.mapOf (v:=.ref t) (by rw [iW,g]; rfl) ⟨.ref t,H2,I2.tok _,rfl,q2⟩⟩
 obtain ⟨ob,_,_,h1,h2,_⟩:=dd
 exact ⟨ob,h1,h2.1⟩
end
end L2
namespace L2.ST
open PySem PySem.Spec PyProof.Rows
section
variable {prog:Program} {w:World} {A:Around} {E:Value -> Shared -> Prop} {s:Shared}
end
end L2.ST
namespace L2
open PySem PySem.Spec PyProof.Rows
section
variable {X:Cx}
end
mutual
inductive Rds (H:Hp):V -> PyData -> Prop
 | non:Rds H .non .none
 | bl (b:Bool):Rds H (.bl b) (.bool b)
 | int (i:Int):Rds H (.int i) (.int i)
 | str (x:Str):Rds H (.str x) (.str x)
 | tup {a:Addr} {xs:List V} {ds:List PyData}:H a=some (.tup xs) -> RdsAll H xs ds -> Rds H (.ref a) (.tuple ds)
 | lst {a:Addr} {xs:List V} {ds:List PyData}:H a=some (.lst xs) -> RdsAll H xs ds -> Rds H (.ref a) (.list ds)
inductive RdsAll (H:Hp):List V -> List PyData -> Prop
 | nil:RdsAll H [] []
 | cons {x:V} {xs:List V} {d:PyData} {ds:List PyData}:Rds H x d -> RdsAll H xs ds -> RdsAll H (x :: xs) (d :: ds)
end
mutual
theorem Rds.same {H H':Hp} (e:ar H H'):∀ {x:V} {d:PyData},Rds H x d -> Rds H' x d
 | _,_,.non=>.non
 | _,_,.bl b=>.bl b
 | _,_,.int i=>.int i
 | _,_,.str x=>.str x
 | _,_,.tup h r=>.tup (e _ _ h) (r.same e)
 | _,_,.lst h r=>.lst (e _ _ h) (r.same e)
theorem RdsAll.same {H H':Hp} (e:ar H H'):∀ {xs:List V} {ds:List PyData},RdsAll H xs ds -> RdsAll H' xs ds
 | _,_,.nil=>.nil
 | _,_,.cons r t=>.cons (r.same e) (t.same e)
end
section
variable {X:Cx}
end
section
variable {X:Cx}
end
end L2
namespace L2.ZS
open PySem PySem.Spec PyProof.Rows
section
variable {prog:Program} {w:World} {A:Around} {E:Value -> Shared -> Prop} {s:Shared}
section
variable {z TI TO p r b:Addr} {zs:Str} {t:Tok} {vs:Array Value} {o1 o2:Value} {m n:Nat}
end
end
end L2.ZS
namespace L2
open PySem PySem.Spec PyProof.Rows
section
variable {X:Cx}
end
section
variable {X:Cx}
def Alk (K:PySem.W.Frag):Nat -> Hp -> V -> V -> Prop
 | 0,_,v,w=>smV v=true /\ w=v
 | n + 1,H,v,w=>(smV v=true /\ w=v) \/ ∃ (a b:Addr) (xs ys:List V),v=.ref a /\ w=.ref b /\ SqT K H a xs /\ SqT K H b ys /\ xs.length=ys.length /\ ∀ (i:Nat) (x y:V),xs[i]?=some x -> ys[i]?=some y -> Alk K n H x y
theorem Alk.sm {K:PySem.W.Frag} {n:Nat} {H:Hp} {v:V} (h:smV v=true):Alk K n H v v:=by
 cases n with
 | zero=>exact ⟨h,rfl⟩
 | succ n=>exact .inl ⟨h,rfl⟩
theorem oy {its jts:List Value} {xs ys:List V} {A:Around} {s:Shared} (r1:bh xs its) (r2:bh ys jts) (hl:xs.length=ys.length) (h:∀ (i:Nat) (x y:V) (u1 u2:Value),xs[i]?=some x -> ys[i]?=some y -> aY x u1 -> aY y u2 -> SeqAt.EqAt A s u1 u2 true) (j:Nat) (h1:j < its.toArray.size) (h2:j < jts.toArray.size):SeqAt.EqAt A s its.toArray[j] jts.toArray[j] true:=by
 have e1:=r1.length
 have e2:=r2.length
 have hj1:j < its.length:=by simpa using h1
 have hj2:j < jts.length:=by simpa using h2
 obtain ⟨u1,hu1,ru1⟩:=r1.get (i:=j) (x:=xs[j]'(by lia)) (List.getElem?_eq_getElem _)
 obtain ⟨u2,hu2,ru2⟩:=r2.get (i:=j) (x:=ys[j]'(by lia)) (List.getElem?_eq_getElem _)
 have i1:its.toArray[j]=u1:=by
  have:=List.getElem?_eq_getElem hj1
  rw [hu1] at this
  simpa using (Option.some.inj this).symm
 have i2:jts.toArray[j]=u2:=by
  have:=List.getElem?_eq_getElem hj2
  rw [hu2] at this
  simpa using (Option.some.inj this).symm
 rw [i1,i2]
 exact h j _ _ _ _ (List.getElem?_eq_getElem (by lia)) (List.getElem?_eq_getElem (by lia)) ru1 ru2
theorem oz {pins:List (Addr × Obj)} {σ:St} {H:Hp} {s:Shared} (I:Inv X pins σ H s):∀ (n:Nat) (A:Around) (x y:V) (u1 u2:Value),A.units + n < cLine -> Alk X.K n H x y -> aY x u1 -> aY y u2 -> SeqAt.EqAt A s u1 u2 true
 | 0,A,x,y,u1,u2,hu,h,r1,r2=>by
  obtain ⟨h1,rfl⟩:=h
  exact tf h1 r1 r2
 | n + 1,A,x,y,u1,u2,hu,h,r1,r2=>by
  rcases h with ⟨h1,rfl⟩ | ⟨a,b,xs,ys,rfl,rfl,ha,hb,hl,h⟩
  ·exact tf h1 r1 r2
  ·cases r1
   cases r2
   by_cases hab:a=b
   ·subst hab
    exact SeqAt.EqAt.same _
   ·obtain ⟨its,q1,p1,_⟩:=I.tuple ha
    obtain ⟨jts,q2,p2,_⟩:=I.tuple hb
    have:=SeqAt.RcAt.tuples (A:=A) (s:=s) (e:=fun _=>true) (show s.heap.IsTuple a its.toArray from p1) (show s.heap.IsTuple b jts.toArray from p2) (by lia) (oy q1 q2 hl fun i x y u1 u2 hx hy ru1 ru2=>oz I n A.in1 x y u1 u2 (by show A.units + 1 + n < cLine; lia) (h i x y hx hy) ru1 ru2)
    rw [List.size_toArray,List.size_toArray,gj _ _ (by have e1:=q1.length; have e2:=q2.length; lia)] at this
    exact SeqAt.EqAt.of_refs hab this
def tK (K:PySem.W.Frag) (H:Hp) (a b:Addr):Prop:=∃ (n:Nat) (xs ys:List V),n <= 60 /\ SqT K H a xs /\ SqT K H b ys /\ xs.length=ys.length /\ ∀ (i:Nat) (x y:V),xs[i]?=some x -> ys[i]?=some y -> Alk K n H x y
theorem op_eqAk (hu:X.A.units + 64 < cLine):OpR X (compareOp .Eq) (fun x y H Q=>∃ a b:Addr,x=.ref a /\ y=.ref b /\ tK X.K H a b /\ Q (.bl true) H):=by
 intro pins s σ H x y v u Q I rx ry h
 obtain ⟨a,b,rfl,rfl,⟨n,xs,ys,hn,ha,hb,hl,h⟩,q⟩:=h
 cases rx
 cases ry
 obtain ⟨its,q1,p1,_⟩:=I.tuple ha
 obtain ⟨jts,q2,p2,_⟩:=I.tuple hb
 have:=SeqAt.RcAt.tuples (A:=X.A) (s:=s) (e:=fun _=>true) (show s.heap.IsTuple a its.toArray from p1) (show s.heap.IsTuple b jts.toArray from p2) (by lia) (oy q1 q2 hl fun i x y u1 u2 hx hy ru1 ru2=>oz I n X.A.in1 x y u1 u2 (by show X.A.units + 1 + n < cLine; lia) (h i x y hx hy) ru1 ru2)
 rw [List.size_toArray,List.size_toArray,gj _ _ (by have e1:=q1.length; have e2:=q2.length; lia)] at this
 exact this _ _ _ _ (bf I q rfl)
theorem pT (hu:X.A.units + 64 < cLine):OpR X (compareOp .NotEq) (fun x y H Q=>∃ a b:Addr,x=.ref a /\ y=.ref b /\ tK X.K H a b /\ Q (.bl false) H):=by
 intro pins s σ H x y v u Q I rx ry h
 obtain ⟨a,b,rfl,rfl,⟨n,xs,ys,hn,ha,hb,hl,h⟩,q⟩:=h
 cases rx
 cases ry
 obtain ⟨its,q1,p1,_⟩:=I.tuple ha
 obtain ⟨jts,q2,p2,_⟩:=I.tuple hb
 have:=SeqAt.RcNeAt.tuples (A:=X.A) (s:=s) (e:=fun _=>true) (show s.heap.IsTuple a its.toArray from p1) (show s.heap.IsTuple b jts.toArray from p2) (by lia) (oy q1 q2 hl fun i x y u1 u2 hx hy ru1 ru2=>oz I n X.A.in1 x y u1 u2 (by show X.A.units + 1 + n < cLine; lia) (h i x y hx hy) ru1 ru2)
 rw [List.size_toArray,List.size_toArray,gj _ _ (by have e1:=q1.length; have e2:=q2.length; lia)] at this
 exact this _ _ _ _ (bf I q rfl)
end
structure Wd (p:Prop):Prop where
 h:p
section
variable {X:Cx} {es:List Expr} {te:TE} {t:TA}
theorem bI:Wd (PA X [] mj):=⟨ag⟩
theorem gq {o:Operator} {e f:Expr} {p:Pos} (ha:PE X (.BinOp e o f p) te) (hr:Wd (PA X es t)):Wd (PA X (.BinOp e o f p :: es) (dM te t)):=⟨ad ha hr.h (by rfl)⟩
end
section
variable {X:Cx}
end
theorem len1 {α:Type} {us:List α} (h:us.length=1):∃ a0,us=[a0]:=by
 match us,h with
 | [a0],_=>exact ⟨a0,rfl⟩
theorem qS {α:Type} {us:List α} (h:us.length=2):∃ a0 a1,us=[a0,a1]:=by
 match us,h with
 | [a0,a1],_=>exact ⟨a0,a1,rfl⟩
theorem len3 {α:Type} {us:List α} (h:us.length=3):∃ a0 a1 a2,us=[a0,a1,a2]:=by
 match us,h with
 | [a0,a1,a2],_=>exact ⟨a0,a1,a2,rfl⟩
theorem len4 {α:Type} {us:List α} (h:us.length=4):∃ a0 a1 a2 a3,us=[a0,a1,a2,a3]:=by
 match us,h with
 | [a0,a1,a2,a3],_=>exact ⟨a0,a1,a2,a3,rfl⟩
theorem len5 {α:Type} {us:List α} (h:us.length=5):∃ a0 a1 a2 a3 a4,us=[a0,a1,a2,a3,a4]:=by
 match us,h with
 | [a0,a1,a2,a3,a4],_=>exact ⟨a0,a1,a2,a3,a4,rfl⟩
theorem len6 {α:Type} {us:List α} (h:us.length=6):∃ a0 a1 a2 a3 a4 a5,us=[a0,a1,a2,a3,a4,a5]:=by
 match us,h with
 | [a0,a1,a2,a3,a4,a5],_=>exact ⟨a0,a1,a2,a3,a4,a5,rfl⟩
theorem ex3 {α0 α1 α2:Type} {F:α0 -> α1 -> α2 -> Prop} (a0:α0) (a1:α1) (a2:α2) (h:F a0 a1 a2):∃ (x0:α0) (x1:α1) (x2:α2),F x0 x1 x2:=⟨a0,a1,a2,h⟩
theorem ex4 {α0 α1 α2 α3:Type} {F:α0 -> α1 -> α2 -> α3 -> Prop} (a0:α0) (a1:α1) (a2:α2) (a3:α3) (h:F a0 a1 a2 a3):∃ (x0:α0) (x1:α1) (x2:α2) (x3:α3),F x0 x1 x2 x3:=⟨a0,a1,a2,a3,h⟩
theorem ex5 {α0 α1 α2 α3 α4:Type} {F:α0 -> α1 -> α2 -> α3 -> α4 -> Prop} (a0:α0) (a1:α1) (a2:α2) (a3:α3) (a4:α4) (h:F a0 a1 a2 a3 a4):∃ (x0:α0) (x1:α1) (x2:α2) (x3:α3) (x4:α4),F x0 x1 x2 x3 x4:=⟨a0,a1,a2,a3,a4,h⟩
theorem ex6 {α0 α1 α2 α3 α4 α5:Type} {F:α0 -> α1 -> α2 -> α3 -> α4 -> α5 -> Prop} (a0:α0) (a1:α1) (a2:α2) (a3:α3) (a4:α4) (a5:α5) (h:F a0 a1 a2 a3 a4 a5):∃ (x0:α0) (x1:α1) (x2:α2) (x3:α3) (x4:α4) (x5:α5),F x0 x1 x2 x3 x4 x5:=⟨a0,a1,a2,a3,a4,a5,h⟩
theorem ex7 {α0 α1 α2 α3 α4 α5 α6:Type} {F:α0 -> α1 -> α2 -> α3 -> α4 -> α5 -> α6 -> Prop} (a0:α0) (a1:α1) (a2:α2) (a3:α3) (a4:α4) (a5:α5) (a6:α6) (h:F a0 a1 a2 a3 a4 a5 a6):∃ (x0:α0) (x1:α1) (x2:α2) (x3:α3) (x4:α4) (x5:α5) (x6:α6),F x0 x1 x2 x3 x4 x5 x6:=⟨a0,a1,a2,a3,a4,a5,a6,h⟩
theorem ex8 {α0 α1 α2 α3 α4 α5 α6 α7:Type} {F:α0 -> α1 -> α2 -> α3 -> α4 -> α5 -> α6 -> α7 -> Prop} (a0:α0) (a1:α1) (a2:α2) (a3:α3) (a4:α4) (a5:α5) (a6:α6) (a7:α7) (h:F a0 a1 a2 a3 a4 a5 a6 a7):∃ (x0:α0) (x1:α1) (x2:α2) (x3:α3) (x4:α4) (x5:α5) (x6:α6) (x7:α7),F x0 x1 x2 x3 x4 x5 x6 x7:=⟨a0,a1,a2,a3,a4,a5,a6,a7,h⟩
theorem ex9 {α0 α1 α2 α3 α4 α5 α6 α7 α8:Type} {F:α0 -> α1 -> α2 -> α3 -> α4 -> α5 -> α6 -> α7 -> α8 -> Prop} (a0:α0) (a1:α1) (a2:α2) (a3:α3) (a4:α4) (a5:α5) (a6:α6) (a7:α7) (a8:α8) (h:F a0 a1 a2 a3 a4 a5 a6 a7 a8):∃ (x0:α0) (x1:α1) (x2:α2) (x3:α3) (x4:α4) (x5:α5) (x6:α6) (x7:α7) (x8:α8),F x0 x1 x2 x3 x4 x5 x6 x7 x8:=⟨a0,a1,a2,a3,a4,a5,a6,a7,a8,h⟩
theorem ex10 {α0 α1 α2 α3 α4 α5 α6 α7 α8 α9:Type} {F:α0 -> α1 -> α2 -> α3 -> α4 -> α5 -> α6 -> α7 -> α8 -> α9 -> Prop} (a0:α0) (a1:α1) (a2:α2) (a3:α3) (a4:α4) (a5:α5) (a6:α6) (a7:α7) (a8:α8) (a9:α9) (h:F a0 a1 a2 a3 a4 a5 a6 a7 a8 a9):∃ (x0:α0) (x1:α1) (x2:α2) (x3:α3) (x4:α4) (x5:α5) (x6:α6) (x7:α7) (x8:α8) (x9:α9),F x0 x1 x2 x3 x4 x5 x6 x7 x8 x9:=⟨a0,a1,a2,a3,a4,a5,a6,a7,a8,a9,h⟩
theorem tL {α0 α1 α2 α3 α4 α5 α6 α7 α8 α9 α10:Type} {F:α0 -> α1 -> α2 -> α3 -> α4 -> α5 -> α6 -> α7 -> α8 -> α9 -> α10 -> Prop} (a0:α0) (a1:α1) (a2:α2) (a3:α3) (a4:α4) (a5:α5) (a6:α6) (a7:α7) (a8:α8) (a9:α9) (a10:α10) (h:F a0 a1 a2 a3 a4 a5 a6 a7 a8 a9 a10):∃ (x0:α0) (x1:α1) (x2:α2) (x3:α3) (x4:α4) (x5:α5) (x6:α6) (x7:α7) (x8:α8) (x9:α9) (x10:α10),F x0 x1 x2 x3 x4 x5 x6 x7 x8 x9 x10:=⟨a0,a1,a2,a3,a4,a5,a6,a7,a8,a9,a10,h⟩
theorem ex13 {α0 α1 α2 α3 α4 α5 α6 α7 α8 α9 α10 α11 α12:Type} {F:α0 -> α1 -> α2 -> α3 -> α4 -> α5 -> α6 -> α7 -> α8 -> α9 -> α10 -> α11 -> α12 -> Prop} (a0:α0) (a1:α1) (a2:α2) (a3:α3) (a4:α4) (a5:α5) (a6:α6) (a7:α7) (a8:α8) (a9:α9) (a10:α10) (a11:α11) (a12:α12) (h:F a0 a1 a2 a3 a4 a5 a6 a7 a8 a9 a10 a11 a12):∃ (x0:α0) (x1:α1) (x2:α2) (x3:α3) (x4:α4) (x5:α5) (x6:α6) (x7:α7) (x8:α8) (x9:α9) (x10:α10) (x11:α11) (x12:α12),F x0 x1 x2 x3 x4 x5 x6 x7 x8 x9 x10 x11 x12:=⟨a0,a1,a2,a3,a4,a5,a6,a7,a8,a9,a10,a11,a12,h⟩
theorem ex14 {α0 α1 α2 α3 α4 α5 α6 α7 α8 α9 α10 α11 α12 α13:Type} {F:α0 -> α1 -> α2 -> α3 -> α4 -> α5 -> α6 -> α7 -> α8 -> α9 -> α10 -> α11 -> α12 -> α13 -> Prop} (a0:α0) (a1:α1) (a2:α2) (a3:α3) (a4:α4) (a5:α5) (a6:α6) (a7:α7) (a8:α8) (a9:α9) (a10:α10) (a11:α11) (a12:α12) (a13:α13) (h:F a0 a1 a2 a3 a4 a5 a6 a7 a8 a9 a10 a11 a12 a13):∃ (x0:α0) (x1:α1) (x2:α2) (x3:α3) (x4:α4) (x5:α5) (x6:α6) (x7:α7) (x8:α8) (x9:α9) (x10:α10) (x11:α11) (x12:α12) (x13:α13),F x0 x1 x2 x3 x4 x5 x6 x7 x8 x9 x10 x11 x12 x13:=⟨a0,a1,a2,a3,a4,a5,a6,a7,a8,a9,a10,a11,a12,a13,h⟩
theorem ah {t u:TS} {D:ib} {σ:St} {H:Hp} (h:∀ K:St -> Hp -> Prop,(∀ σ' H',u D σ' H' -> K σ' H') -> t { D with nx:=K } σ H):nB t u D σ H:=h (fun σ' H'=>u D σ' H') fun _ _ h=>h
section
variable {X:Cx} {tg:Expr}
end
section
variable {X:Cx}
end
section
variable {X:Cx}
end
open PySem.SeqAt
end L2
namespace L2
open PySem PySem.Spec PyProof.Rows
end L2
namespace L2
open PySem PySem.Spec PyProof.Rows
theorem Paired.zip {α β:Type} {R:α -> β -> Prop}:∀ {xs:List α} {ys:List β},Paired R xs ys -> ∀ z ∈ xs.zip ys,R z.1 z.2
 | _,_,.nil,z,h=>by simp at h
 | _,_,.cons h t,z,hz=>by
  rcases List.mem_cons.mp hz with rfl | hz
  ·exact h
  ·exact Paired.zip t z hz
section
variable {X:Cx}
end
theorem mG {X:Cx}:OpR X (binaryOp .FloorDiv) (rI (fun _ j=>0 < j /\ j < 2 ^ 250) fun i j=>.int (i / j)):=opI fun i j _ _ _ _ _ hc q=>by
 have e:i.fdiv j=i / j:=Int.fdiv_eq_ediv_of_nonneg _ (Int.le_of_lt hc.1)
 refine floordiv_int (by have:=hc.1; omega) (by rw [e]; exact q) (.inl (PyProof.noPylong_of_log2 ?_))
 have h1:=hc.1
 have h2:=hc.2
 have h3:j.natAbs < 2 ^ 250:=by omega
 have h4:j.natAbs ≠ 0:=by omega
 have:=(Nat.log2_lt h4).mpr h3
 omega
end L2
namespace L2.EK
open PySem PySem.Spec PyProof.Rows
theorem typeOk (a v:Value):checkTypeCall "enumerate" ⟨[a],[("start",v)]⟩=pure ():=by kernel_rfl
theorem newOk (a v:Value):checkBuiltinCall "enumerate.__new__" ⟨[.type "enumerate",a],[("start",v)]⟩=pure ():=by kernel_rfl
theorem initOk (o a v:Value):argsOk "object.__init__" ⟨[o,a],[("start",v)]⟩:=by
 unfold argsOk; rw [signature?_of (id:="object.__init__") (n:=['_','_','t','i','n','i','_','_']) (o:=['t','c','e','j','b','o']) (by kernel_rfl) F.owner_object]; kernel_rfl
theorem qT {self a v:Value} (hl:typeLookup (.type "enumerate") "__init__"=pure (some (.builtin "object.__init__"))) (hm:Bind.madeBy (.type "enumerate")=pure (some "enumerate.__new__")) :
  Meets (Builtin.«object.__init__» ⟨[self,a],[("start",v)]⟩) (fun _ R s=>s.TypeIs self "enumerate" /\ R (.ok (.ret .none)) s):=by
 refine Meets.of_wp fun prog w A R s hs=>?_
 obtain ⟨hT,hq⟩:=hs
 have hne:(some "enumerate.__new__" != some "object.__new__")=true:=by decide
 repeat (any_goals (first | assumption | wp_step))
 exact ⟨_,rfl,hq⟩
abbrev fe (it:Addr) (f0:Value) (i:Int) (gv old:Value):Obj:={ cls:=.type "enumerate",dict:=none,data:=.fields #[f0,.bool false,.ref it,rawInt i,gv,old],slots:=#[] }
abbrev h1 (h:Heap) (l:Addr):Heap:=h.push { cls:=.type "tuple_iterator",data:=.fields #[.ref l,.int 0 0] }
theorem tM (l:Addr) (us:Array Value) (n:Int) (t:Tok) :
  Meets (Builtin.«enumerate.__new__» ⟨[.type "enumerate",.ref l],[("start",.int n t)]⟩) (fun _ R s=>s.heap.IsTuple l us /\ ∀ gv:Value,(gv=.none \/ gv=.int n t) -> R (.ok (.ret (.ref (h1 s.heap l).objs.size))) { s with heap:=(h1 s.heap l).push (fe s.heap.objs.size .none n gv .none) }) :=
 .of_wp fun prog w A R s h=>by
  obtain ⟨hp,gs,dr,tk,os⟩:=s
  obtain ⟨hl,h⟩:=h
  have hsub:=sub_enumerate
  have hL:Heap.IsTuple (Shared.heap ⟨hp,gs,dr,tk,os⟩) l us:=hl
  wp_walk
  refine wpAny_stack_any fun st=>wpAny_pure ?_
  have fin1:=h .none (.inl rfl)
  have fin2:=h (.int n t) (.inr rfl)
  split
  ·rename_i c _ _ _ _ _
   cases (c == Value.type "enumerate") <;> cases hf:Builtin.SmallTypes.fitsIndex n
   all_goals (wp_walk using wpAny_pyIter_tuple hL)
   all_goals first | exact ⟨_,rfl,fin1⟩ | exact ⟨_,rfl,fin2⟩
  ·cases hf:Builtin.SmallTypes.fitsIndex n
   all_goals (wp_walk using wpAny_pyIter_tuple hL)
   all_goals first | exact ⟨_,rfl,fin1⟩ | exact ⟨_,rfl,fin2⟩
section
variable {prog:Program} {w:World} {A:Around} {E:Value -> Shared -> Prop} {s:Shared}
theorem call_K {l:Addr} {us:Array Value} {n:Int} {t:Tok} {R:Value -> Shared -> Prop} (hl:s.heap.IsTuple l us)
  (h:∀ (g:Heap) (gv:Value),(gv=.none \/ gv=.int n t) -> g.get? (s.heap.objs.size + 1)=some (fe s.heap.objs.size .none n gv .none) -> g.IsTupleIter s.heap.objs.size l 0 -> (∀ c o,s.heap.get? c=some o -> g.get? c=some o) -> R (.ref (s.heap.objs.size + 1)) { s with heap:=g }) :
  wpAny (model prog w) A (call (.type "enumerate") [.ref l] [("start",.int n t)]) R E s:=by
 obtain ⟨c0,tl0,mro0⟩:=F.called_enumerate.mro
 have made0:=F.called_enumerate.made
 have sub0:=F.called_enumerate.sub
 refine wpAny_call (codeAny_of_tree ?_)
 show wpAny _ _ (callAny (.type "enumerate") _) _ _ _
 refine wpAny_pure ⟨Code.quiet_builtin _ (by decide +kernel),codeAny_builtin F.entry_type_call ?_⟩
 rw [Around.under_plain (weight_type_call_type "enumerate" [.ref l] [("start",.int n t)]) rfl]
 have a1:=F.called_enumerate.notType
 have a2:=F.called_enumerate.canCreate
 have a3:=typeOk (.ref l) (.int n t)
 repeat (any_goals (first | assumption | wp_step))
 refine codeAny_mono (codeAny_call_builtin F.called_enumerate.plain F.entry_enumerate_new (wpAny_of_eq (newOk _ _) (tM l us n t prog w A.in1 (wants (fun obj s₁=>∃ (gv:Value),(gv=.none \/ gv=.int n t) /\ obj=.ref (s.heap.objs.size + 1) /\ s₁={ s with heap:=(h1 s.heap l).push (fe s.heap.objs.size .none n gv .none) }) E) s ⟨hl,fun gv hg=>⟨gv,hg,by rw [Heap.size_push],rfl⟩⟩))) fun r s₁ hr=>?_
 cases r with
 | error e=>exact hr
 | ok fl =>
  cases fl with
  | ret obj =>
   obtain ⟨gv,hg,rfl,rfl⟩:=hr
   have sz:(h1 s.heap l).objs.size=s.heap.objs.size + 1:=Heap.size_push ..
   have e1:((h1 s.heap l).push (fe s.heap.objs.size .none n gv .none)).get? (s.heap.objs.size + 1)=some (fe s.heap.objs.size .none n gv .none):=by
    have:=Heap.get?_push_size (h1 s.heap l) (o:=fe s.heap.objs.size .none n gv .none) rfl
    rwa [sz] at this
   have hT:Shared.TypeIs { s with heap:=(h1 s.heap l).push (fe s.heap.objs.size .none n gv .none) } (.ref (s.heap.objs.size + 1)) "enumerate":=⟨_,e1,rfl⟩
   have b1:=F.called_enumerate.init.lookup
   have b2:=F.called_enumerate.init.bind (.ref (s.heap.objs.size + 1))
   repeat (any_goals (first | assumption | wp_step))
   refine codeAny_mono (codeAny_call_builtin F.called_enumerate.init.plain F.entry_object_init (F.called_enumerate.init.check _ _ _ _ _ _ _ _ hT (initOk _ _ _) (qT b1 made0 prog w A.in1 (wants (fun r s₂=>r=.none /\ s₂={ s with heap:=(h1 s.heap l).push (fe s.heap.objs.size .none n gv .none) }) E) _ ⟨hT,rfl,rfl⟩))) fun r₂ s₂ hr₂=>?_
   cases r₂ with
   | error e=>exact hr₂
   | ok fl₂ =>
    cases fl₂ with
    | ret r =>
     obtain ⟨rfl,rfl⟩:=hr₂
     have fin:=h _ gv hg e1 ⟨_,Heap.get?_push_of_some _ (Heap.get?_push_size _ rfl),rfl,rfl⟩ fun c o x=>Heap.get?_push_of_some _ (Heap.get?_push_of_some _ x)
     repeat (any_goals (first | assumption | wp_step))
    | _=>exact hr₂.elim
  | _=>exact hr.elim
theorem tN {jp:Value -> Sem Fin} {Q:Fin -> Shared -> Prop} {gv:Value} {z:Int} {h:Heap} {gs:Array GenState} {dr:Drawn} {tk0:Nat} {os:OsState} (hgv:gv=.none \/ ∃ t,gv=.int z t)
  (key:∀ (tv:Tok) (tk:Nat),wpAny (model prog w) A (jp (.int z tv)) Q E ⟨h,gs,dr,tk,os⟩):wpAny (model prog w) A (if (gv == Value.none)=true then mkInt z >>= jp else pure gv >>= jp) Q E ⟨h,gs,dr,tk0,os⟩:=by
 rcases hgv with rfl | ⟨t,rfl⟩
 ·rw [if_pos (show (Value.none == Value.none)=true from rfl)]
  exact wpAny_bind (wpAny_mkInt (key _ _))
 ·rw [if_neg (show ¬ ((Value.int z t == Value.none)=true) from Bool.false_ne_true)]
  exact wpAny_bind (wpAny_pure (key _ _))
theorem qU {e it l:Addr} {z:Int} {i:Nat} {us:Array Value} {x gv old:Value} {R:Value -> Shared -> Prop} (he:s.heap.get? e=some (fe it .none z gv old)) (hgv:gv=.none \/ ∃ t,gv=.int z t)
  (hit:s.heap.IsTupleIter it l i) (hl:s.heap.IsTuple l us) (hx:us[i]?=some x) (ne:e ≠ it)
  (hR:∀ (g:Heap) (tk:Nat) (tv:Tok),IsEnumOut g e it (z + 1) x s.heap.objs.size -> g.IsTupleIter it l (i + 1) -> g.get? s.heap.objs.size=some { cls:=.type "tuple",data:=.seq #[.int z tv,x] } ->
   (∀ b o,b ≠ e -> b ≠ it -> s.heap.get? b=some o -> g.get? b=some o) -> R (.ref s.heap.objs.size) { s with heap:=g,toks:=tk }) :
  wpAny (model prog w) A (Builtin.«enumerate.__next__» ⟨[.ref e],[]⟩) (fun fin s'=>∃ v,fin=.done (.ret v) /\ R v s') E s:=by
 obtain ⟨hp,gs,dr,tk0,os⟩:=s
 show wpAny _ _ (field (.ref e) 2 >>= _) _ _ _
 refine wpAny_bind (wpAny_field he rfl (x:=.ref it) rfl (wpAny_bind (ZT.fB hit hl hx fun g1 it1 k1=>?_)))
 have k1:Heap.SameBut it hp g1:=k1
 have e1:g1.get? e=some (fe it .none z gv old):=(k1.2 e ne).trans he
 show wpAny _ _ (field (.ref e) 3 >>= _) _ _ ⟨g1,gs,dr,tk0,os⟩
 refine wpAny_bind (wpAny_field e1 rfl (x:=rawInt z) rfl ?_)
 show wpAny _ _ (field (.ref e) 4 >>= _) _ _ ⟨g1,gs,dr,tk0,os⟩
 refine wpAny_bind (wpAny_field e1 rfl (x:=gv) rfl ?_)
 refine tN hgv fun tv tk=>?_
 show wpAny _ _ (setField (.ref e) 3 (rawInt (z + 1)) >>= _) _ _ ⟨g1,gs,dr,tk,os⟩
 refine wpAny_bind (wpAny_setField_rec e1 (by simp) fun g2 e2 k2=>?_)
 have k2:Heap.SameBut e g1 g2:=k2
 have e2:g2.get? e=some (fe it .none (z + 1) gv old):=e2
 show wpAny _ _ (setField (.ref e) 4 .none >>= _) _ _ ⟨g2,gs,dr,tk,os⟩
 refine wpAny_bind (wpAny_setField_rec e2 (by simp) fun g3 e3 k3=>?_)
 have k3:Heap.SameBut e g2 g3:=k3
 have e3:IsEnum g3 e it (z + 1) old:=e3
 show wpAny _ _ (newTuple [.int z tv,x] >>= _) _ _ ⟨g3,gs,dr,tk,os⟩
 refine wpAny_bind (wpAny_newTuple ?_)
 have e4:IsEnum (g3.push { cls:=.type "tuple",data:=.seq #[.int z tv,x] }) e it (z + 1) old:=Heap.get?_push_of_some _ e3
 generalize hg4:g3.push { cls:=.type "tuple",data:=.seq #[.int z tv,x] }=g4 at e4
 have sz:g3.objs.size=hp.objs.size:=by rw [k3.1,k2.1,k1.1]
 have el:e < hp.objs.size:=Heap.lt_size he
 have t4:g4.get? hp.objs.size=some { cls:=.type "tuple",data:=.seq #[.int z tv,x] }:=by rw [<- hg4,<- sz]; exact Heap.get?_push_size _ rfl
 have k4:∀ b o,b ≠ e -> b ≠ it -> hp.get? b=some o -> g4.get? b=some o:=fun b o n1 n2 q=>by
  rw [<- hg4]; exact Heap.get?_push_of_some _ (k3.extBut b o n1 (k2.extBut b o n1 (k1.extBut b o n2 q)))
 have i4:g4.IsTupleIter it l (i + 1):=by
  rw [<- hg4]; obtain ⟨o,ho,r⟩:=(it1.extBut k2.extBut (Ne.symm ne)).extBut k3.extBut (Ne.symm ne); exact ⟨o,Heap.get?_push_of_some _ ho,r⟩
 show wpAny _ _ (Builtin.SmallTypes.ownedTupleIsFree (.ref e) >>= _) _ _ ⟨g4,gs,dr,tk,os⟩
 rw [sz]
 unfold Builtin.SmallTypes.ownedTupleIsFree
 refine wpAny_bind (wpAny_bind (wpAny_field e4 rfl (x:=.none) rfl (wpAny_pure ?_)))
 simp only [if_true]
 refine wpAny_bind (wpAny_rule (wpAny_bind (wpAny_field e4 rfl (x:=old) rfl (wpAny_bind (wpAny_setField_rec e4 (by simp) fun g5 e5 k5=>?_)))))
 have k5:Heap.SameBut e g4 g5:=k5
 have e5:IsEnum g5 e it (z + 1) x:=e5
 show wpAny _ _ (Builtin.SmallTypes.ownedTupleHandOut (.ref e) (.ref hp.objs.size) >>= _) _ _ ⟨g5,gs,dr,tk,os⟩
 unfold Builtin.SmallTypes.ownedTupleHandOut
 refine wpAny_bind (wpAny_bind (wpAny_setField_rec e5 (by simp) fun g6 e6 k6=>?_))
 have k6:Heap.SameBut e g5 g6:=k6
 have e6:IsEnumOut g6 e it (z + 1) x hp.objs.size:=e6
 refine wpAny_setField_rec e6 (by simp) fun g7 e7 k7=>?_
 have k7:Heap.SameBut e g6 g7:=k7
 have e7:IsEnumOut g7 e it (z + 1) x hp.objs.size:=e7
 refine wpAny_bind (wpAny_letGo (wpAny_pure ⟨_,rfl,hR g7 tk tv e7 ?_ ?_ ?_⟩))
 ·exact ((i4.extBut k5.extBut (Ne.symm ne)).extBut k6.extBut (Ne.symm ne)).extBut k7.extBut (Ne.symm ne)
 ·exact k7.extBut _ _ (Nat.ne_of_gt el) (k6.extBut _ _ (Nat.ne_of_gt el) (k5.extBut _ _ (Nat.ne_of_gt el) t4))
 ·exact fun b o n1 n2 q=>k7.extBut b o n1 (k6.extBut b o n1 (k5.extBut b o n1 (k4 b o n1 n2 q)))
end
end L2.EK
namespace L2
open PySem PySem.Spec PyProof.Rows
def ItK (K:PySem.W.Frag) (n:Int) (l:Addr):It :=
 ⟨fun i H=>∃ xs x,SqT K H l xs /\ xs[i]?=some x,fun i H v H'=>∃ p,v=.ref p /\ H p=none /\ ∀ xs,SqT K H l xs -> ∃ x,xs[i]?=some x /\ H'=upd H p (.tup [.int (n + i),x]),fun i H=>∃ xs,SqT K H l xs /\ i=xs.length⟩
def TnK (n:Int) (e it l:Addr) (i:Nat) (h:Heap):Prop:=(∃ gv old,(gv=Value.none \/ ∃ t,gv=.int (n + i) t) /\ h.get? e=some (EK.fe it .none (n + i) gv old)) /\ h.IsTupleIter it l i
theorem iX {P:Program} {w:World} {K:PySem.W.Frag} {elts:List Expr} {k:Nat} {pos:Pos} {n:Int} {e it l:Addr} (a1:e ≠ it):nC P w K (.Tuple elts k pos) (ItK K n l) [e,it] e (TnK n e it l) where
 mem:=by simp
 obj:=fun i h st b hb=>by
  obtain ⟨⟨gv,old,_,h1⟩,h2⟩:=st
  simp only [List.mem_cons,List.not_mem_nil,or_false] at hb
  rcases hb with rfl | rfl
  ·exact ⟨_,h1,fun v e=>by cases e⟩
  ·obtain ⟨o,e,c,d⟩:=h2
   exact ⟨o,e,fun v z=>by rw [d] at z; cases z⟩
 keep:=fun i h h' st kk=>by
  obtain ⟨⟨gv,old,hg,h1⟩,h2⟩:=st
  exact ⟨⟨gv,old,hg,kk _ (by simp) _ h1⟩,h2.at fun o e=>kk _ (by simp) o e⟩
 item:=by
  intro X hP hw hK hc i pins s σ H E I hf st hg
  subst hP hw hK
  obtain ⟨xs,x,hx,ex⟩:=hg
  obtain ⟨its,rv,p,hz⟩:=I.tuple hx
  obtain ⟨u,hu,ru⟩:=rv.get ex
  obtain ⟨⟨gv,old,hgv,st1⟩,st2⟩:=st
  have hT:s.TypeIs (.ref e) "enumerate":=⟨_,st1,rfl⟩
  unfold pyNext
  refine wpAny_bind (wpAny_attempt (wpAny_callSpecial?_slot (name:=Str.ofString "__next__") hT F.slot_enumerate_next (wpAny_call_entry F.slot_enumerate_next hT F.entry_enumerate_next
   (EK.qU st1 hgv st2 (show s.heap.IsTuple l its.toArray from p) (x:=u) (by simpa using hu) a1 fun g tk tv z1 z2 z3 kk=>wpAny_pure ?_) (F.args_enumerate_next_1 _))))
  refine ⟨_,rfl,wpAny_letOwnedTupleGo_enum z1 fun g' zz sb=>?_⟩
  have up:∀ c o,c ≠ e -> g.get? c=some o -> g'.get? c=some o:=fun c o n e=>sb.extBut _ _ n e
  have nT:s.heap.objs.size ≠ e:=Nat.ne_of_gt (Heap.lt_size st1)
  have hTup:IsTup g' s.heap.objs.size [Value.int (n + i) tv,u].toArray:=⟨_,up _ _ nT z3,rfl,_,rfl⟩
  have kk2:∀ b o,b ∉ ([e,it]:List Addr) -> s.heap.get? b=some o -> g'.get? b=some o:=fun b o hb q=>by
   simp only [List.mem_cons,List.not_mem_nil,or_false,not_or] at hb
   exact up _ _ hb.1 (kk b o hb.1 hb.2 q)
  have I1:=I.turnedT (h':=g') (t':=tk) (T:=s.heap.objs.size) (xs:=[.int (n + i),x]) (us:=[Value.int (n + i) tv,u]) (ch:=[e,it]) kk2 hf (Nat.le_refl _) (by show 2 <= sizeLine; decide) (.cons ⟨tv,rfl⟩ (.cons ru .nil)) hTup
  have en:n + (i:Int) + 1=n + ((i + 1:Nat):Int):=by lia
  rw [en] at zz
  refine ⟨.ref s.heap.objs.size,_,I1,rfl,⟨_,rfl,I.hok.fresh (Nat.le_refl _),fun xs' hx'=>⟨x,?_,rfl⟩⟩,⟨⟨.none,_,.inl rfl,zz⟩,z2.at fun o q=>up _ o (Ne.symm a1) q⟩,fun b hb=>?_⟩
  ·rw [I.tuple_inj hx' hx]; exact ex
  ·have hb':∃ o,s.heap.get? b=some o:=by
    simp only [List.mem_cons,List.not_mem_nil,or_false] at hb
    obtain ⟨o4,e4,_⟩:=st2
    rcases hb with h | h <;> rw [h]
    ·exact ⟨_,st1⟩
    ·exact ⟨_,e4⟩
   obtain ⟨o,eo⟩:=hb'
   rw [aw (Nat.ne_of_lt (Heap.lt_size eo))]
   exact (hf b hb).1
 done:=by
  intro X hP hw hK hc i pins s σ H E I hf st hg
  subst hP hw hK
  obtain ⟨xs,hx,rfl⟩:=hg
  obtain ⟨its,rv,p,hz⟩:=I.tuple hx
  obtain ⟨⟨gv,old,hgv,st1⟩,st2⟩:=st
  have hT:s.TypeIs (.ref e) "enumerate":=⟨_,st1,rfl⟩
  have hend:its.toArray[xs.length]?=none:=Array.getElem?_eq_none (by rw [List.size_toArray,rv.length]; exact Nat.le_refl _)
  unfold pyNext
  refine wpAny_bind (wpAny_attempt (wpAny_callSpecial?_slot (name:=Str.ofString "__next__") hT F.slot_enumerate_next (wpAny_call_entry F.slot_enumerate_next hT F.entry_enumerate_next ?_ (F.args_enumerate_next_1 _))))
  show wpAny _ _ (field (.ref e) 2 >>= _) _ _ _
  refine wpAny_bind (wpAny_field st1 rfl (x:=.ref it) rfl (wpAny_bind (ZT.iV (I.ok.hd hc) st2 (show s.heap.IsTuple l its.toArray from p) hend fun g y kk ⟨oe,he,ce⟩=>?_)))
  refine wpAny_bind (wpAny_isInstance (T:="StopIteration") (b:=true) ⟨oe,he,ce⟩ isSubtype_stop (wpAny_pure ⟨rfl,I.turnedL (t':=s.toks) (ch:=[e,it]) (fun b o hb q=>kk b o ?_ q) hf⟩))
  simp only [List.mem_cons,List.not_mem_nil,or_false,not_or] at hb
  exact hb.2
 self:=fun _ _ s' _ _ st h=>by
  obtain ⟨⟨gv,old,_,h1⟩,_⟩:=st
  have hT:Shared.TypeIs s' (.ref e) "enumerate":=⟨_,h1,rfl⟩
  refine wpAny_pyIter_slot hT F.slot_enumerate_iter (wpAny_call_entry F.slot_enumerate_iter hT F.entry_enumerate_iter ?_ (F.args_enumerate_iter_1 _))
  exact wpAny_pure ⟨_,rfl,"enumerate",_,hT,F.slot_enumerate_next.lookup,h⟩
section
variable {X:Cx}
def iEnumK (K:PySem.W.Frag) (ta tb:TA):TI:=fun σ H R=>ta σ H fun vs H1=>tb σ H1 fun ys H2=>∃ a xs n,vs=[.ref a] /\ ys=[.int n] /\ SqT K H2 a xs /\ R (ItK K n a) H2
theorem type_kw {M:Model} {A:Around} {E:Value -> Shared -> Prop} {s:Shared} {env:Env} {pos:Pos} {T:String} {e:Expr} {rest:List Expr} {kws:List Keyword} {Q:Value -> Shared -> Prop}
  (h:wpAny M A (spliced (backTo pos (starEach (e :: rest) env))) (fun vs s₁=>wpAny M A (evalAll ((backToKw pos (keywordEach kws env)).map (·.2))) (fun kvs s₂=>wpAny M A (call (.type T) vs (((backToKw pos (keywordEach kws env)).filterMap (·.1)).zip kvs)) Q E s₂) E s₁) E s)
  (he:backTo pos (starEach (e :: rest) env)=(false,eval e env) :: backTo pos (starEach rest env):=by rfl) (hp:(backTo pos (starEach (e :: rest) env)).any (·.1)=false:=by rfl)
  (ha:(backToKw pos (keywordEach kws env)).all (·.1.isSome)=true:=by rfl) (hk:(backToKw pos (keywordEach kws env)).any (·.1.isNone)=false:=by rfl) :
  wpAny M A (callWith pos (.type T) [] (backTo pos (starEach (e :: rest) env)) (backToKw pos (keywordEach kws env))) Q E s:=by
 unfold callWith
 refine wpAny_bind (wpAny_holding (thn (Q:=fun (a:Args) s₁=>wpAny M A (call (.type T) a.pos a.kw) Q E s₁) ?_ fun a s₁ h₁=>wpAny_bind (wpAny_standAt ?_)))
 ·rw [he] at h ⊢
  exact evalArgs_kwB ha h
 ·simp only [hp,hk,Bool.or_false]
  exact wpAny_bind (wpAny_pure (wpAny_bind (thn h₁ fun r s₂ hr=>wpAny_bind (wpAny_holding (wpAny_point (wpAny_pure hr))))))
theorem tO {elts:List Expr} {k:Nat} {tpos:Pos} {a b:Expr} {ta tb:TA} {p pos kp:Pos} (hg:Gl X "enumerate") (hm:X.mg "enumerate"=none) (ha:PA X [a] ta) (hb:PK X [⟨some "start",b,kp⟩] tb)
  (h1:backTo pos (starEach [a] X.env)=(false,eval a X.env) :: backTo pos (starEach [] X.env):=by rfl) (h2:(backTo pos (starEach [a] X.env)).any (·.1)=false:=by rfl)
  (h3:(backToKw pos (keywordEach [⟨some "start",b,kp⟩] X.env)).all (·.1.isSome)=true:=by rfl) (h4:(backToKw pos (keywordEach [⟨some "start",b,kp⟩] X.env)).any (·.1.isNone)=false:=by rfl)
  (h5:(backToKw pos (keywordEach [⟨some "start",b,kp⟩] X.env)).filterMap (·.1)=[("start":Str)]:=by rfl) :
  PI X (.Tuple elts k tpos) (.Call (.Name "enumerate" p) [a] [⟨some "start",b,kp⟩] pos) (iEnumK X.K ta tb):=by
 intro pins s σ H R I h
 refine wpAny_Call_Name_kw (fR I hg hm boot_enumerate (type_kw (thn (ha pos pins s σ H _ I h) fun us s1 ⟨vs,H1,I1,r1,q1⟩=>thn (hb pos pins s1 σ H1 _ I1 q1) fun ws s2 ⟨zs,H2,I2,r2,q2⟩=>?_) h1 h2 h3 h4))
 rw [h5]
 obtain ⟨l,xs,n,e1,e2,hx,q⟩:=q2
 subst e1 e2
 obtain ⟨u,rfl,rr⟩:=eW r1
 cases rr
 obtain ⟨u2,rfl,rr2⟩:=eW r2
 obtain ⟨t,rfl⟩:=rr2
 obtain ⟨its,rv,p1,hz⟩:=I2.tuple hx
 refine EK.call_K (show s2.heap.IsTuple l its.toArray from p1) fun g gv hgv z1 z2 kk=>?_
 have ez:n + ((0:Nat):Int)=n:=by lia
 have st:TnK n (s2.heap.objs.size + 1) s2.heap.objs.size l 0 g:=⟨⟨gv,.none,by
  rw [ez]
  exact hgv.imp_right fun e=>⟨t,e⟩,by rw [ez]; exact z1⟩,z2⟩
 have hT:Shared.TypeIs { s2 with heap:=g } (.ref (s2.heap.objs.size + 1)) "enumerate":=⟨_,z1,rfl⟩
 refine wpAny_pyIter_slot hT F.slot_enumerate_iter (wpAny_call_entry F.slot_enumerate_iter hT F.entry_enumerate_iter (wpAny_pure ⟨_,rfl,"enumerate",_,hT,F.slot_enumerate_next.lookup,?_⟩) (F.args_enumerate_iter_1 _))
 refine ⟨_,[s2.heap.objs.size + 1,s2.heap.objs.size],_,_,H2,rfl,I2.kept (t':=s2.toks) kk,iX (Nat.succ_ne_self _),st,fun b hb=>?_,q⟩
 have hb':s2.heap.objs.size <= b:=by
  simp only [List.mem_cons,List.not_mem_nil,or_false] at hb
  rcases hb with h | h <;> rw [h] <;> first | exact Nat.le_add_right _ _ | exact Nat.le_refl _
 exact I2.fpOk hb' (I2.hok.fresh hb')
theorem jZ {K:PySem.W.Frag} {n:Int} {a:Addr} {xs:List V} {g:TG} {tb:TS} {D:ib} {σ:St} {H:Hp} (Pv:Nat -> St -> Hp -> Prop) (h0:Pv 0 σ H) (hl:∀ i σ H,Pv i σ H -> SqT K H a xs)
  (hs:∀ i x p σ H,xs[i]?=some x -> H p=none -> Pv i σ H -> g (.ref p) σ (upd H p (.tup [.int (n + i),x])) fun σ2 H2=>tb { D with nx:=Pv (i + 1),ct:=Pv (i + 1),bk:=D.nx } σ2 H2) (hd:∀ σ H,Pv xs.length σ H -> D.nx σ H) :
  ∃ W:Nat -> Nat -> St -> Hp -> Prop,(∃ m,W 0 m σ H) /\ ∀ i m σ H,W i m σ H ->
   ((ItK K n a).stop i H /\ D.nx σ H) \/ ((ItK K n a).go i H /\ ∃ N:St -> Hp -> Prop,(∀ σ' H',N σ' H' -> ∃ m',m' < m /\ W (i + 1) m' σ' H') /\ ∀ x H',(ItK K n a).yld i H x H' -> g x σ H' fun σ2 H2=>tb { D with nx:=N,ct:=N,bk:=D.nx } σ2 H2):=by
 refine ⟨fun i m σ H=>m=xs.length - i /\ i <= xs.length /\ Pv i σ H,⟨xs.length,by simp,Nat.zero_le _,h0⟩,?_⟩
 rintro i m σ H ⟨rfl,hi,p⟩
 have q1:=hl i σ H p
 by_cases hlt:i < xs.length
 ·refine .inr ⟨⟨xs,xs[i],q1,by simp [hlt]⟩,Pv (i + 1),fun σ' H' p'=>⟨xs.length - (i + 1),by lia,rfl,hlt,p'⟩,fun x H' y=>?_⟩
  obtain ⟨t,rfl,ht,y⟩:=y
  obtain ⟨u,eu,rfl⟩:=y xs q1
  exact hs i u t σ H eu ht p
 ·have e:i=xs.length:=by lia
  subst e
  exact .inl ⟨⟨xs,q1,rfl⟩,hd σ H p⟩
end
end L2
namespace L2.EK
open PySem PySem.Spec PyProof.Rows
open AutoSeq1 (wpAny_loadPart')
theorem qV (l:Addr) (us:Array Value) :
  Meets (Builtin.«enumerate.__new__» ⟨[.type "enumerate",.ref l],[]⟩) (fun _ R s=>s.heap.IsTuple l us /\ R (.ok (.ret (.ref (h1 s.heap l).objs.size))) { s with heap:=(h1 s.heap l).push (fe s.heap.objs.size .none 0 .none .none) }) :=
 .of_wp fun prog w A R s h=>by
  obtain ⟨hp,g,d,tk,os⟩:=s
  obtain ⟨hl,h⟩:=h
  have hsub:=sub_enumerate
  have hL:Heap.IsTuple (Shared.heap ⟨hp,g,d,tk,os⟩) l us:=hl
  wp_walk
  refine wpAny_stack_any fun st=>wpAny_pure ?_
  split
  ·rename_i c _ _ _ _ _
   cases (c == Value.type "enumerate")
   ·wp_walk using wpAny_pyIter_tuple hL
    exact ⟨_,rfl,h⟩
   ·wp_walk using wpAny_pyIter_tuple hL
    exact ⟨_,rfl,h⟩
  ·wp_walk using wpAny_pyIter_tuple hL
   exact ⟨_,rfl,h⟩
theorem call_T {prog:Program} {w:World} {A:Around} {E:Value -> Shared -> Prop} {s:Shared} {l:Addr} {us:Array Value} {Q:Value -> Shared -> Prop} (hl:s.heap.IsTuple l us)
  (h:∀ g:Heap,g.get? (s.heap.objs.size + 1)=some (fe s.heap.objs.size .none 0 .none .none) -> g.IsTupleIter s.heap.objs.size l 0 -> (∀ c o,s.heap.get? c=some o -> g.get? c=some o) -> Q (.ref (s.heap.objs.size + 1)) { s with heap:=g }) :
  wpAny (model prog w) A (call (.type "enumerate") [.ref l]) Q E s:=by
 refine callType_new F.called_enumerate (by decide) (F.typeCall_enumerate_1 _) (F.newCall_enumerate_1 _) (fun obj=>F.args_object_init_2 obj _) F.entry_enumerate_new
  (qV l us) ⟨hl,?_⟩
 have hz:(h1 s.heap l).objs.size=s.heap.objs.size + 1:=Heap.size_push ..
 show _ /\ _
 rw [hz]
 have he:((h1 s.heap l).push (fe s.heap.objs.size .none 0 .none .none)).get? (s.heap.objs.size + 1)=some (fe s.heap.objs.size .none 0 .none .none):=by
  have:=Heap.get?_push_size (h1 s.heap l) (o:=fe s.heap.objs.size .none 0 .none .none) rfl
  rw [hz] at this; exact this
 exact ⟨⟨_,he,rfl⟩,h _ he ⟨_,Heap.get?_push_of_some _ (Heap.get?_push_size _ rfl),rfl,rfl⟩ fun b o x=>Heap.get?_push_of_some _ (Heap.get?_push_of_some _ x)⟩
end L2.EK
namespace L2
open PySem PySem.Spec PyProof.Rows
section
variable {X:Cx}
def iEnumT (K:PySem.W.Frag) (ta:TA):TI:=fun σ H R=>ta σ H fun vs H1=>∃ a xs,vs=[.ref a] /\ SqT K H1 a xs /\ R (ItK K 0 a) H1
theorem tP {elts:List Expr} {k:Nat} {tpos:Pos} {a:Expr} {ta:TA} {p pos:Pos} (hg:Gl X "enumerate") (hm:X.mg "enumerate"=none) (ha:PA X [a] ta) (hs:starEach [a] X.env=[(false,eval a X.env)]:=by rfl) :
  PI X (.Tuple elts k tpos) (.Call (.Name "enumerate" p) [a] [] pos) (iEnumT X.K ta):=by
 intro pins s σ H R I h
 refine Call_ (fR I hg hm boot_enumerate (PyProof.Rows.callWith_type1 (thn (ha pos pins s σ H _ I h) fun us s1 ⟨vs,H1,I1,r1,q1⟩=>?_) hs rfl))
 obtain ⟨l,xs,e,hx,q⟩:=q1
 subst e
 obtain ⟨u,rfl,rr⟩:=eW r1
 cases rr
 obtain ⟨its,rv,p1,hz⟩:=I1.tuple hx
 refine EK.call_T (show s1.heap.IsTuple l its.toArray from p1) fun g z1 z2 kk=>?_
 have st:TnK 0 (s1.heap.objs.size + 1) s1.heap.objs.size l 0 g:=⟨⟨.none,.none,.inl rfl,z1⟩,z2⟩
 have hT:Shared.TypeIs { s1 with heap:=g } (.ref (s1.heap.objs.size + 1)) "enumerate":=⟨_,z1,rfl⟩
 refine wpAny_pyIter_slot hT F.slot_enumerate_iter (wpAny_call_entry F.slot_enumerate_iter hT F.entry_enumerate_iter (wpAny_pure ⟨_,rfl,"enumerate",_,hT,F.slot_enumerate_next.lookup,?_⟩) (F.args_enumerate_iter_1 _))
 refine ⟨_,[s1.heap.objs.size + 1,s1.heap.objs.size],_,_,H1,rfl,I1.kept (t':=s1.toks) kk,iX (Nat.succ_ne_self _),st,fun b hb=>?_,q⟩
 have hb':s1.heap.objs.size <= b:=by
  simp only [List.mem_cons,List.not_mem_nil,or_false] at hb
  rcases hb with h | h <;> rw [h] <;> first | exact Nat.le_add_right _ _ | exact Nat.le_refl _
 exact I1.fpOk hb' (I1.hok.fresh hb')
end
theorem j2 {prog:Program} {w:World} {A:Around} {E:Value -> Shared -> Prop} {it l:Addr} {items:Array Value} (hne:l ≠ it):∀ (n i:Nat) (s:Shared) (Q:List Value -> Shared -> Prop),s.heap.IsListIter it l i -> s.heap.IsList l items -> i + n <= items.size ->
  (∀ h':Heap,h'.IsListIter it l (i + n) -> Heap.SameBut it s.heap h' -> Q ((items.toList.drop i).take n) { s with heap:=h' }) -> wpAny (model prog w) A (draw (.ref it) n) Q E s
 | 0,i,s,Q,hi,hl,hs,q=>by
  rw [draw.eq_1]
  exact wpAny_pure (q s.heap hi ⟨rfl,fun _ _=>rfl⟩)
 | n + 1,i,s,Q,hi,hl,hs,q=>by
  rw [draw.eq_2]
  have hil:i < items.size:=by lia
  refine wpAny_bind (wpAny_pyNext_list_item hi hl (x:=items[i]) (Array.getElem?_eq_getElem hil) fun h' st' sb=>?_)
  refine wpAny_bind (wpAny_holding (j2 (items:=items) hne n (i + 1) _ _ st' ?_ (by lia) fun h2 st2 sb2=>wpAny_pure ?_))
  ·obtain ⟨o,e,r⟩:=hl
   exact ⟨o,(sb.2 l hne).trans e,r⟩
  ·have:=q h2 (by rw [show i + (n + 1)=i + 1 + n by lia]; exact st2) ⟨sb2.1.trans sb.1,fun b hb=>(sb2.2 b hb).trans (sb.2 b hb)⟩
   rw [List.drop_eq_getElem_cons (by simpa using hil),List.take_succ_cons] at this
   simpa using this
theorem mI {prog:Program} {w:World} {A:Around} {E:Value -> Shared -> Prop} {s:Shared} {l:Addr} {items:Array Value} {targets:List (Bool × (Value -> Sem Unit))} {Q:Unit -> Shared -> Prop} (hh:A.handled=none) (hl:s.heap.IsList l items) (ht:targets.length=items.size) (hst:targets.findIdx? (·.1)=none)
  (q:∀ h':Heap,Heap.ExtBut s.heap.objs.size s.heap h' -> wpAny (model prog w) A (assignInOrder (targets.map (·.2)) items.toList) Q E { s with heap:=h' }):wpAny (model prog w) A (unpack (.ref l) targets) Q E s:=by
 unfold unpack
 rw [hst]
 refine wpAny_bind (wpAny_holding ?_)
 unfold unpackItems notIterableAtAll
 obtain ⟨o,e,c,n,d⟩:=id hl
 have hlt:=Heap.lt_size e
 refine wpAny_bind (wpAny_bind (wpAny_specialOf (T:="list") ⟨o,e,c⟩ PySem.F.slot_list_iter.lookup (wpAny_pure ?_)))
 refine wpAny_bind (wpAny_holding (wpAny_pyIter_list hl ?_))
 have st:(s.heap.push { cls:=.type "list_iterator",data:=.fields #[.ref l,.int 0 0] }).IsListIter s.heap.objs.size l 0:=⟨_,Heap.get?_push_size _ rfl,rfl,rfl⟩
 have hl2:(s.heap.push { cls:=.type "list_iterator",data:=.fields #[.ref l,.int 0 0] }).IsList l items:=⟨o,Heap.get?_push_of_some _ e,c,n,d⟩
 have hne:l ≠ s.heap.objs.size:=Nat.ne_of_lt hlt
 refine wpAny_bind (wpAny_holding (j2 (items:=items) hne targets.length 0 _ _ st hl2 (by lia) fun h' st' sb=>?_))
 have hl3:h'.IsList l items:=⟨o,(sb.2 l hne).trans (Heap.get?_push_of_some _ e),c,n,d⟩
 have hlen:((items.toList.drop 0).take targets.length)=items.toList:=by
  rw [List.drop_zero,List.take_of_length_le (by rw [Array.length_toList]; lia)]
 rw [hlen]
 rw [if_neg (by rw [Array.length_toList]; lia)]
 refine wpAny_bind (wpAny_holding (wpAny_pyNext_list_end hh st' hl3 (by rw [Array.getElem?_eq_none]; lia) fun h2 eb=>?_))
 refine wpAny_pure (q h2 fun b o' hb eo=>?_)
 exact eb b o' hb ((sb.2 b hb).trans (Heap.get?_push_of_some _ eo))
def gLst (K:PySem.W.Frag) (n:Nat) (t:TGs):TG:=fun v σ H Q=>∃ a xs,v=.ref a /\ SqL K H a xs /\ xs.length=n /\ t xs σ H Q
theorem pg_lst {X:Cx} {pos:Pos} {es:List Expr} {k:Nat} {t:TGs} {n:Nat} (hc:X.calm=true) (h:PGs X es t)
  (hn:(assignEach es X.env).length=n:=by rfl) (hst:(assignEach es X.env).findIdx? (·.1)=none:=by rfl):PG X (.Tuple es k pos) (gLst X.K n t):=by
 intro pins s σ H v u Q I r hw
 obtain ⟨a,xs,e1,hq,hl,hw⟩:=hw
 subst e1
 cases r
 obtain ⟨its,rv,p,hz⟩:=I.list hq
 rw [arm_assign_Tuple]
 refine wpAny_bind (wpAny_standAt (mI (I.ok.hd hc) p.isList (by simp [hn,<- hl,rv.length]) hst fun h' hx=>?_))
 have I1:Inv X pins σ H { s with heap:=h' }:=I.kept (t':=s.toks) fun b o e=>hx b o (Nat.ne_of_lt (Heap.lt_size e)) e
 exact h pins _ σ H xs _ Q I1 (by simpa using rv) hw
theorem gG:fillsNumberSlot (.type "tuple") "mul"=pure false:=by kernel_rfl
theorem kG:seqRepeat? (.type "tuple")=pure (some (.builtin "tuple.__mul__")):=by kernel_rfl
theorem g9 (k:Int) (t:Tok):asIndex (.int k t)=pure k:=rfl
theorem tQ (a:Addr) (o:Obj) (items:Array Value) (n:Nat) (t:Tok) (hc:o.cls=.type "tuple") (hd:o.data=.seq items n):Meets (Builtin.«tuple.__mul__» { pos:=[.ref a,.int 1 t] }) fun _ R s=>s.heap.get? a=some o /\ R (.ok (.ret (.ref a))) s:=by
 intro prog w A R s h
 obtain ⟨e,q⟩:=h
 with_unfolding_all refine wpAny_bind ?_
 rw [g9]
 refine wpAny_pure ?_
 show wpAny _ _ (Builtin.Tuple.tupleItemsOf (Value.ref a) >>= _) _ _ _
 refine wpAny_bind ?_
 unfold Builtin.Tuple.tupleItemsOf
 refine wpAny_bind (wpAny_seqItems e hd (wpAny_pure ?_))
 rw [show (items.isEmpty || ((1:Int) == 1))=true by rw [show ((1:Int) == 1)=true from rfl,Bool.or_true],if_pos rfl]
 unfold Builtin.Tuple.tupleIsExact
 refine wpAny_bind (wpAny_bind (wpAny_typeOf (T:="tuple") ⟨o,e,hc⟩ (wpAny_pure ?_)))
 rw [if_pos (by simp)]
 exact wpAny_bind (wpAny_rule (wpAny_pure q))
theorem tR (a:Addr) (o:Obj) (items:Array Value) (n:Nat) (t:Tok) (hd:o.data=.seq items n) (hne:items.isEmpty=false):Meets (Builtin.«tuple.__mul__» { pos:=[.ref a,.int 0 t] }) fun _ R s=>s.heap.get? a=some o /\ R (.ok (.ret (.ref s.heap.objs.size))) { s with heap:=s.heap.push { cls:=.type "tuple",data:=.seq #[] } }:=by
 intro prog w A R s h
 obtain ⟨e,q⟩:=h
 with_unfolding_all refine wpAny_bind ?_
 rw [g9]
 refine wpAny_pure ?_
 show wpAny _ _ (Builtin.Tuple.tupleItemsOf (Value.ref a) >>= _) _ _ _
 refine wpAny_bind ?_
 unfold Builtin.Tuple.tupleItemsOf
 refine wpAny_bind (wpAny_seqItems e hd (wpAny_pure ?_))
 rw [show (items.isEmpty || ((0:Int) == 1))=false by rw [hne]; rfl,if_neg (by decide)]
 rw [show (decide ((0:Int) <= 0) || items.isEmpty)=true from rfl,if_pos rfl]
 unfold Builtin.Tuple.tupleExact
 exact wpAny_bind (wpAny_newObj_type (wpAny_pure q))
theorem tS (k:Int) (t:Tok) (a:Addr) (o:Obj) (items:Array Value) (n:Nat) (hd:o.data=.seq items n):Meets (Builtin.«int.__rmul__» { pos:=[.int k t,.ref a] }) fun _ R s=>s.heap.get? a=some o /\ R (.ok (.ret .notImplemented)) s:=by
 intro prog w A R s h
 obtain ⟨e,q⟩:=h
 unfold Builtin.«int.__rmul__» Builtin.Int.intBinary
 refine wpAny_bind ?_
 show wpAny _ _ (pure (Value.int k t,[Value.ref a])) _ _ _
 refine wpAny_pure (wpAny_bind ?_)
 unfold Builtin.Int.intOfSelf
 refine wpAny_bind (wpAny_pure (wpAny_pure (wpAny_bind ?_)))
 show wpAny _ _ (load a >>= _) _ _ _
 refine wpAny_bind (wpAny_load e ?_)
 rw [hd]
 exact wpAny_pure (wpAny_bind (wpAny_rule (wpAny_pure q)))
theorem pU {X:Cx}:OpR X (binaryOp .Mult) (fun x y H Q=>∃ (a:Addr) (k:Int) (v:V),x=.ref a /\ y=.int k /\ H a=some (.tup [v]) /\ ((k=1 /\ Q (.ref a) H) \/ (k=0 /\ ∀ p H',H p=none -> ar H H' -> H' p=some (.tup []) -> Q (.ref p) H'))):=by
 intro pins s σ H x y v u Q I rx ry h
 obtain ⟨a,k,v0,rfl,rfl,hH,q⟩:=h
 cases rx
 obtain ⟨t,rfl⟩:=ry
 obtain ⟨its,rv,ht,hz⟩:=I.tuple (SqT.of hH)
 obtain ⟨o,e,hc,n,hd⟩:=id ht
 have hl:its.length=1:=rv.length.symm
 refine wpAny_binaryOp_repeat_ref (T:="tuple") (U:="int") (by decide) ⟨o,e,hc⟩ (fun s'=>typeIs_int s' k t) gG F.fills_int_mul F.slot_int_rmul kG F.slot_int_index.lookup
  (call_meets F.slot_int_rmul (typeIs_int s k t) F.entry_int_rmul (F.args_int_rmul_2 _ _) (tS k t a o its.toArray n hd) ⟨e,rfl,⟨o,e,hc⟩,?_⟩)
 rcases q with ⟨rfl,q⟩ | ⟨rfl,q⟩
 ·exact call_meets F.slot_tuple_mul ⟨o,e,hc⟩ F.entry_tuple_mul (F.args_tuple_mul_2 _ _) (tQ a o its.toArray n t hc hd) ⟨e,.ref a,H,I,rfl,q⟩
 ·refine call_meets F.slot_tuple_mul ⟨o,e,hc⟩ F.entry_tuple_mul (F.args_tuple_mul_2 _ _) (tR a o its.toArray n t hd (by cases its with | nil=>cases hl | cons _ _=>rfl)) ⟨e,?_⟩
  have hf:H s.heap.objs.size=none:=I.fresh
  refine ⟨.ref s.heap.objs.size,_,I.laid (t':=s.toks) (a:=s.heap.objs.size) (o:=.tup []) (fun b o e=>Heap.get?_push_of_some _ e) (Nat.le_refl _) ?_,rfl,q _ _ hf (c9 hf) ai⟩
  exact ⟨Nat.zero_le _,[],.nil,_,Heap.get?_push_size _ rfl,rfl,_,rfl⟩
section
variable {X:Cx}
theorem fC {k:Nat} {x:Str} {ps:List Str} {sp:Sp} {g:Expr} {as:List Expr} {ks:List Keyword} {l:List Expr} {ta:TE} {t:TA} {p pc pl pos:Pos} (F:aR X.prog X.w X.K X.mg X.base k x ps sp) (hr:bi k X.A) (ha:PE X (.Call g as ks pc) ta) (hl:Wd (PA X l t)) (hg:Gl X x:=by rfl) (hdb:(x == ("__debug__":Str))=false:=by decide):PE X (.Call (.Name x p) [.Call g as ks pc,.List l pl] [] pos) (jL sp [] E0 (dM ta (dM (pP t) mj))):=aC F hr (ad ha (ad (cy hl.h) ag)) hg hdb
theorem j3 {k:Nat} {x:Str} {ps:List Str} {sp:Sp} {y:Str} {l:List Expr} {ta:TE} {t:TA} {p pc pl pos:Pos} (F:aR X.prog X.w X.K X.mg X.base k x ps sp) (hr:bi k X.A) (ha:PE X (.Name y pc) ta) (hl:Wd (PA X l t)) (hg:Gl X x:=by rfl) (hdb:(x == ("__debug__":Str))=false:=by decide):PE X (.Call (.Name x p) [.Name y pc,.List l pl] [] pos) (jL sp [] E0 (dM ta (dM (pP t) mj))):=aC F hr (ad ha (ad (cy hl.h) ag)) hg hdb
theorem cA {c:Int} {k:Nat} {p:Pos} {es:List Expr} {t:TA} (hr:Wd (PA X es t)):Wd (PA X (.Constant (.int c) k p :: es) (dM (tC (.int c)) t)):=⟨ad af hr.h (by rfl)⟩
theorem dG {c:Str} {k:Nat} {p:Pos} {es:List Expr} {t:TA} (hr:Wd (PA X es t)):Wd (PA X (.Constant (.str c) k p :: es) (dM (tC (.str c)) t)):=⟨ad aN hr.h (by rfl)⟩
theorem wa_n {k:Nat} {p:Pos} {es:List Expr} {t:TA} (hr:Wd (PA X es t)):Wd (PA X (.Constant .none k p :: es) (dM (tC .non) t)):=⟨ad cn hr.h (by rfl)⟩
theorem eE {y:Str} {p:Pos} {es:List Expr} {te:TE} {t:TA} (ha:PE X (.Name y p) te) (hr:Wd (PA X es t)):Wd (PA X (.Name y p :: es) (dM te t)):=⟨ad ha hr.h (by rfl)⟩
theorem wa_c {g:Expr} {as:List Expr} {ks:List Keyword} {p:Pos} {es:List Expr} {te:TE} {t:TA} (ha:PE X (.Call g as ks p) te) (hr:Wd (PA X es t)):Wd (PA X (.Call g as ks p :: es) (dM te t)):=⟨ad ha hr.h (by rfl)⟩
theorem oA {a b:Expr} {p:Pos} {es:List Expr} {te:TE} {t:TA} (ha:PE X (.Subscript a b p) te) (hr:Wd (PA X es t)):Wd (PA X (.Subscript a b p :: es) (dM te t)):=⟨ad ha hr.h (by rfl)⟩
theorem wa_t {l:List Expr} {k:Nat} {p:Pos} {es:List Expr} {te:TE} {t:TA} (ha:PE X (.Tuple l k p) te) (hr:Wd (PA X es t)):Wd (PA X (.Tuple l k p :: es) (dM te t)):=⟨ad ha hr.h (by rfl)⟩
theorem dQ {es:List Expr} {t:TA} {pos:Pos} (h:Wd (PA X es t)):PE X (.List es pos) (pP t):=cy h.h
theorem cH {es:List Expr} {t:TA} {k:Nat} {pos:Pos} (h:Wd (PA X es t)):PE X (.Tuple es k pos) (tTupA t):=aQ h.h
theorem qW {k:Nat} {x:Str} {ps:List Str} {sp:Sp} {g:Expr} {as:List Expr} {ks:List Keyword} {a b:Expr} {op:Operator} {ta tb:TE} {p pc pl pos:Pos} (F:aR X.prog X.w X.K X.mg X.base k x ps sp) (hr:bi k X.A) (ha:PE X (.Call g as ks pc) ta) (hb:PE X (.BinOp a op b pl) tb) (hg:Gl X x:=by rfl) (hdb:(x == ("__debug__":Str))=false:=by decide):PE X (.Call (.Name x p) [.Call g as ks pc,.BinOp a op b pl] [] pos) (jL sp [] E0 (dM ta (dM tb mj))):=aC F hr (ad ha (ad hb ag)) hg hdb
end
end L2
namespace KM
open PySem PySem.Spec L2
def keyOf:Key -> Str
 | .inr x=>x
 | .inl _=>""
def cD {α:Type} (l:List (Key × α)):List Str:=l.map fun p=>keyOf p.1
structure cV {α:Type} (l:List (Key × α)):Prop where
 txt:∀ p ∈ l,∃ x:Str,p.1=Sum.inr x
 nd:(l.map (·.1)).Nodup
theorem cV.keys {α:Type} {l:List (Key × α)} (h:cV l):l.map (·.1)=(cD l).map Sum.inr:=by
 unfold cD
 rw [List.map_map]
 refine List.map_congr_left fun p hp=>?_
 obtain ⟨x,e⟩:=h.txt p hp
 show p.1=Sum.inr (keyOf p.1)
 rw [e]; rfl
theorem inj_inr {l:List Str} (h:(l.map (Sum.inr:Str -> Key)).Nodup):l.Nodup:=by
 induction l with
 | nil=>exact List.nodup_nil
 | cons x r ih =>
  have h:((Sum.inr x:Key) :: r.map Sum.inr).Nodup:=h
  obtain ⟨h1,h2⟩:=List.nodup_cons.mp h
  exact List.nodup_cons.mpr ⟨fun m=>h1 (List.mem_map.mpr ⟨x,m,rfl⟩),ih h2⟩
theorem cV.nodup {α:Type} {l:List (Key × α)} (h:cV l):(cD l).Nodup:=inj_inr (by rw [<- h.keys]; exact h.nd)
theorem cV.mem {α:Type} {l:List (Key × α)} (h:cV l) {x:Str}:x ∈ cD l ↔ (Sum.inr x:Key) ∈ l.map (·.1):=by
 rw [h.keys]
 constructor
 ·intro m; exact List.mem_map.mpr ⟨x,m,rfl⟩
 ·intro m
  obtain ⟨y,hy,e⟩:=List.mem_map.mp m
  cases e; exact hy
def cI {α:Type} (l:List (Key × α)) (k:Key):Option α:=(l.find? fun kv=>decide (kv.1=k)).map (·.2)
def fM {α:Type} (l:List (Key × α)) (k:Key) (v:α):List (Key × α):=if (l.any fun kv=>decide (kv.1=k))=true then l.map (fun kv=>if kv.1=k then (kv.1,v) else kv) else l ++ [(k,v)]
section
variable {α:Type}
theorem cE {p:Key × α} {r:List (Key × α)} {k:Key} (e:p.1=k):cI (p :: r) k=some p.2:=by simp [cI,List.find?_cons,e]
theorem cF {p:Key × α} {r:List (Key × α)} {k:Key} (e:¬ p.1=k):cI (p :: r) k=cI r k:=by simp [cI,List.find?_cons,e]
theorem ff (k:Key):∀ l:List (Key × α),(l.any fun kv=>decide (kv.1=k))=(cI l k).isSome
 | []=>rfl
 | p :: r=>by
  rw [List.any_cons]
  by_cases e:p.1=k
  ·simp only [cE e,decide_eq_true e,Bool.true_or,Option.isSome_some]
  ·rw [cF e,decide_eq_false e,Bool.false_or]; exact ff k r
theorem cw {l:List (Key × α)} {k:Key}:k ∈ l.map (·.1) ↔ (cI l k).isSome=true:=by
 rw [<- ff,List.any_eq_true]
 constructor
 ·intro m
  obtain ⟨p,hp,e⟩:=List.mem_map.mp m
  exact ⟨p,hp,decide_eq_true e⟩
 ·rintro ⟨p,hp,e⟩
  exact List.mem_map.mpr ⟨p,hp,of_decide_eq_true e⟩
theorem mJ (k j:Key) (y:α):∀ l:List (Key × α),cI (l.map fun kv=>if kv.1=k then (kv.1,y) else kv) j=(cI l j).map fun x=>if j=k then y else x
 | []=>rfl
 | p :: r=>by
  have ih:=mJ k j y r
  rw [List.map_cons]
  by_cases h:p.1=k
  ·rw [if_pos h]
   by_cases e:p.1=j
   ·rw [cE (p:=(p.1,y)) e,cE e,Option.map_some,if_pos (e.symm.trans h)]
   ·rw [cF (p:=(p.1,y)) e,cF e,ih]
  ·rw [if_neg h]
   by_cases e:p.1=j
   ·rw [cE (p:=p) e,cE e,Option.map_some,if_neg (fun z=>h (e.trans z))]
   ·rw [cF (p:=p) e,cF e,ih]
theorem j4 (k j:Key) (y:α):∀ l:List (Key × α),cI l k=none -> cI (l ++ [(k,y)]) j=if j=k then some y else cI l j
 | [],_=>by
  by_cases e:k=j
  ·rw [if_pos e.symm]; exact cE (p:=(k,y)) e
  ·rw [if_neg (fun z=>e z.symm)]; exact cF (p:=(k,y)) e
 | p :: r,hn=>by
  rw [List.cons_append]
  have hk:¬ p.1=k:=fun z=>by rw [cE z] at hn; cases hn
  rw [cF hk] at hn
  have ih:=j4 k j y r hn
  by_cases e:p.1=j
  ·rw [cE e,cE e,if_neg (fun z=>hk (e.trans z))]
  ·rw [cF e,cF e,ih]
theorem tT (l:List (Key × α)) (k j:Key) (y:α):cI (fM l k y) j=if j=k then some y else cI l j:=by
 unfold fM
 by_cases a:(l.any fun kv=>decide (kv.1=k))=true
 ·rw [if_pos a,mJ]
  rw [ff] at a
  by_cases e:j=k
  ·obtain ⟨x,hx⟩:=Option.isSome_iff_exists.mp a
   rw [if_pos e,e,hx,Option.map_some,if_pos rfl]
  ·rw [if_neg e]
   cases cI l j with
   | none=>rfl
   | some x=>rw [Option.map_some,if_neg e]
 ·rw [if_neg a]
  refine j4 k j y l ?_
  rw [ff] at a
  cases q:cI l k with
  | none=>rfl
  | some x=>rw [q] at a; exact (a rfl).elim
theorem cV.put {l:List (Key × α)} (h:cV l) (x:Str) (v:α):cV (fM l (Sum.inr x) v):=by
 unfold fM
 by_cases a:(l.any fun kv=>decide (kv.1=(Sum.inr x:Key)))=true
 ·rw [if_pos a]
  have e:(l.map (fun kv=>if kv.1=(Sum.inr x:Key) then (kv.1,v) else kv)).map (·.1)=l.map (·.1):=by
   rw [List.map_map]
   refine List.map_congr_left fun p _=>?_
   show (if p.1=(Sum.inr x:Key) then (p.1,v) else p).1=p.1
   split <;> rfl
  refine ⟨fun p hp=>?_,by rw [e]; exact h.nd⟩
  have:p.1 ∈ l.map (·.1):=by rw [<- e]; exact List.mem_map.mpr ⟨p,hp,rfl⟩
  obtain ⟨q,hq,eq⟩:=List.mem_map.mp this
  obtain ⟨y,ey⟩:=h.txt q hq
  exact ⟨y,eq.symm.trans ey⟩
 ·rw [if_neg a]
  refine ⟨fun p hp=>?_,?_⟩
  ·rcases List.mem_append.mp hp with q | q
   ·exact h.txt p q
   ·rw [List.mem_singleton.mp q]; exact ⟨x,rfl⟩
  ·rw [List.map_append]
   refine pL h.nd fun m=>a ?_
   rw [ff]
   exact cw.mp m
theorem cV.drop {l:List (Key × α)} (h:cV l) (k:Key):cV (l.filter fun kv=>decide (kv.1 ≠ k)) :=
 ⟨fun p hp=>h.txt p (List.mem_filter.mp hp).1,h.nd.sublist (List.Sublist.map _ (List.filter_sublist))⟩
theorem tU (l:List (Key × α)):∀ (m:List (Key × α)) (j:Key),(l.map (·.1)).Nodup -> cI (l.foldl (fun m kv=>fM m kv.1 kv.2) m) j=(match cI l j with | some v=>some v | none=>cI m j):=by
 induction l with
 | nil=>intro m j _; rfl
 | cons p r ih =>
  intro m j hn
  have hn:(p.1 :: r.map (·.1)).Nodup:=hn
  obtain ⟨h1,h2⟩:=List.nodup_cons.mp hn
  rw [List.foldl_cons,ih _ j h2,tT]
  by_cases e:p.1=j
  ·have hr:cI r j=none:=by
    cases q:cI r j with
    | none=>rfl
    | some v =>
     exfalso
     exact h1 (by rw [e]; exact cw.mpr (by rw [q]; rfl))
   rw [hr,cE e,if_pos e.symm]
  ·rw [cF e,if_neg (fun z=>e z.symm)]
theorem qX (l:List (Key × α)):∀ m:List (Key × α),(∀ p ∈ l,∃ x:Str,p.1=Sum.inr x) -> cV m -> cV (l.foldl (fun m kv=>fM m kv.1 kv.2) m):=by
 induction l with
 | nil=>intro m _ h; exact h
 | cons p r ih =>
  intro m hl h
  rw [List.foldl_cons]
  obtain ⟨x,e⟩:=hl p List.mem_cons_self
  refine ih _ (fun q hq=>hl q (List.mem_cons_of_mem _ hq)) ?_
  rw [e]; exact h.put x p.2
theorem mK (l:List (Key × α)):∀ m:List (Key × α),(l.foldl (fun m kv=>fM m kv.1 kv.2) m).length <= m.length + l.length:=by
 induction l with
 | nil=>intro m; exact Nat.le_refl _
 | cons p r ih =>
  intro m
  have:=ih (fM m p.1 p.2)
  have h2:(fM m p.1 p.2).length <= m.length + 1:=by
   unfold fM
   split
   ·rw [List.length_map]; lia
   ·rw [List.length_append]; exact Nat.le_refl _
  simp only [List.foldl_cons,List.length_cons]
  lia
theorem pV (f:Str -> α):∀ (ss:List Str) (x:Str),cI (ss.map fun k=>((Sum.inr k:Key),f k)) (Sum.inr x)=if x ∈ ss then some (f x) else none
 | [],x=>by simp [cI]
 | k :: r,x=>by
  rw [List.map_cons]
  by_cases e:k=x
  ·subst e
   rw [cE (p:=((Sum.inr k:Key),f k)) rfl,if_pos List.mem_cons_self]
  ·rw [cF (p:=((Sum.inr k:Key),f k)) (fun z=>e (Sum.inr.inj z)),pV f r x]
   by_cases m:x ∈ r
   ·rw [if_pos m,if_pos (List.mem_cons_of_mem _ m)]
   ·rw [if_neg m,if_neg (fun z=>by
     rcases List.mem_cons.mp z with q | q
     ·exact e q.symm
     ·exact m q)]
theorem tV {l:List (Key × α)} (h:cV l) {ss:List Str} (hp:ss.Perm (cD l)) (f:Str -> α) (hf:∀ x v,cI l (Sum.inr x)=some v -> f x=v) :
  (∀ k,cI ((ss.map fun k=>((Sum.inr k:Key),f k)).foldl (fun m kv=>fM m kv.1 kv.2) []) k=cI l k) /\ cV ((ss.map fun k=>((Sum.inr k:Key),f k)).foldl (fun m kv=>fM m kv.1 kv.2) []):=by
 have ek:(ss.map fun k=>((Sum.inr k:Key),f k)).map (·.1)=ss.map Sum.inr:=by rw [List.map_map]; rfl
 have hn:((ss.map fun k=>((Sum.inr k:Key),f k)).map (·.1)).Nodup:=by
  rw [ek]
  have h1:=(hp.map (Sum.inr:Str -> Key))
  rw [<- h.keys] at h1
  exact h1.nodup_iff.mpr h.nd
 refine ⟨fun k=>?_,qX _ _ (fun p hp=>?_) ⟨fun p hp=>(by cases hp),List.nodup_nil⟩⟩
 ·rw [tU _ _ _ hn]
  cases k with
  | inr x =>
   rw [pV]
   by_cases m:x ∈ ss
   ·rw [if_pos m]
    have hm:=cw.mp (h.mem.mp (hp.mem_iff.mp m))
    obtain ⟨v,hv⟩:=Option.isSome_iff_exists.mp hm
    rw [hv,hf x v hv]
   ·rw [if_neg m]
    cases q:cI l (Sum.inr x) with
    | none=>rfl
    | some v=>exact absurd (hp.mem_iff.mpr (h.mem.mpr (cw.mpr (by rw [q]; rfl)))) m
  | inl i =>
   have h1:cI (ss.map fun k=>((Sum.inr k:Key),f k)) (Sum.inl i)=none:=by
    cases q:cI (ss.map fun k=>((Sum.inr k:Key),f k)) (Sum.inl i) with
    | none=>rfl
    | some v =>
     have:(Sum.inl i:Key) ∈ (ss.map fun k=>((Sum.inr k:Key),f k)).map (·.1):=cw.mpr (by rw [q]; rfl)
     rw [ek] at this
     obtain ⟨_,_,e⟩:=List.mem_map.mp this
     cases e
   have h2:cI l (Sum.inl i)=none:=by
    cases q:cI l (Sum.inl i) with
    | none=>rfl
    | some v =>
     have:(Sum.inl i:Key) ∈ l.map (·.1):=cw.mpr (by rw [q]; rfl)
     rw [h.keys] at this
     obtain ⟨_,_,e⟩:=List.mem_map.mp this
     cases e
   rw [h1,h2]; rfl
 ·obtain ⟨k,_,rfl⟩:=List.mem_map.mp hp
  exact ⟨k,rfl⟩
end
theorem pW:∀ {a b:List Nat},ltCps a b=false -> ltCps b a=false -> a=b
 | [],[],_,_=>rfl
 | [],_ :: _,h,_=>by simp [ltCps] at h
 | _ :: _,[],_,h=>by simp [ltCps] at h
 | x :: r,y :: t,h1,h2=>by
  simp only [ltCps,Bool.or_eq_false_iff,decide_eq_false_iff_not,Bool.and_eq_false_iff,beq_eq_false_iff_ne] at h1 h2
  have e:x=y:=by lia
  subst e
  have h3:=h1.2.resolve_left (fun z=>z rfl)
  have h4:=h2.2.resolve_left (fun z=>z rfl)
  rw [pW h3 h4]
theorem tW {a b:Str} (h1:leS a b) (h2:leS b a):a=b:=by
 have:=pW (show ltCps b.cps.toList a.cps.toList=false from h1) (show ltCps a.cps.toList b.cps.toList=false from h2)
 exact PySem.Str.ext' (by rw [<- Array.toArray_toList (xs:=a.cps),<- Array.toArray_toList (xs:=b.cps),this])
theorem iY {ss tt:List Str} (h1:ss.Pairwise leS) (h2:tt.Pairwise leS) (hp:ss.Perm tt):ss=tt :=
 List.Perm.eq_of_pairwise (fun _ _ _ _=>tW) h1 h2 hp
theorem j5 {α:Type} {l m:List (Key × α)} (hl:cV l) (hm:cV m) (h:∀ k,cI l k=cI m k):(cD l).Perm (cD m):=by
 rw [List.perm_ext_iff_of_nodup hl.nodup hm.nodup]
 intro x
 rw [hl.mem,hm.mem,cw,cw,h]
end KM
namespace K41
open PySem L2
def top (i:Nat):Stmt:=PySem.Challenge.pw_chainhouse_k41_whole_two_chairs.main.body.getD i (.Pass ⟨0,0,0,0⟩)
abbrev tX:Stmt:=top 111
abbrev kI:Stmt:=top 113
theorem ca:bootBuiltins "tuple"=some (.type "tuple"):=by decide +kernel
theorem bAbs:bootBuiltins "abs"=some (.builtin "abs"):=by decide +kernel
abbrev ABC:Str:=Str.ofString "abcdefghijklmnopqrstuvwxyz"
def okc (c:Nat):Bool:=!(Builtin.Str.occurrences ABC ⟨#[c]⟩ 0 ABC.length 1).isEmpty
structure Nm (x:Str):Prop where
 one:1 <= x.length
 eight:x.length <= 8
 ok:∀ c ∈ x.cps.toList,okc c=true
theorem at0 {α:Type} {a:α} {r:List α}:atI (a :: r) 0=some a:=bN (j:=0) rfl
theorem at1 {α:Type} {a b:α} {r:List α}:atI (a :: b :: r) 1=some b:=bN (j:=1) rfl
theorem oB {α:Type} {xs:List α} {i:Int} (h0:0 <= i) (h1:i < xs.length):∃ v,atI xs i=some v /\ v ∈ xs:=by
 obtain ⟨n,rfl⟩:=Int.eq_ofNat_of_zero_le h0
 have hn:n < xs.length:=by lia
 exact ⟨xs[n],bN (List.getElem?_eq_getElem hn),List.getElem_mem hn⟩
theorem atI_map {α β:Type} {f:α -> β} {xs:List α} {i:Int} {x:α} (h0:0 <= i) (h:xs[i.toNat]?=some x):atI (xs.map f) i=some (f x):=by
 obtain ⟨n,rfl⟩:=Int.eq_ofNat_of_zero_le h0
 have h:xs[n]?=some x:=h
 exact bN (by rw [List.getElem?_map,h]; rfl)
structure Blm (mg:Str -> Option Value):Prop where
 len:mg "len"=none
 range:mg "range"=none
 int:mg "int"=none
def gH (K:PySem.W.Frag):Sp:=fun vs H Q _=>∃ (a:Addr) (ns:List Int) (k:Int),vs=[.ref a,.int k] /\ SqL K H a (ns.map V.int) /\ 0 <= k /\ ∀ z:Int,Q (.int z) H
section
variable {P:Program} {w:World} {K:PySem.W.Frag} {mg:Str -> Option Value} {base:Heap}
theorem scCell:ax ["_law_script","_law_k"] ["_law_script","_law_k"] (am tX):=fsc (by decide +kernel)
theorem ok_cell {f:Addr} {fd:FuncData} (F:Fun K "_law_cell_at" "_law_cell_at" tX f fd) (T:Blm mg):aP P w K mg base CX0 1 f fd ["_law_script","_law_k"] (gH K):=by
 refine F.ok scCell (fun vs H Q E h=>?_) (fun cdv A outer s H vs Q E hr h=>?_)
 ·obtain ⟨a,ns,k,rfl,_⟩:=h
  rfl
 ·obtain ⟨a,ns,k,rfl,hS,h0,q⟩:=h
  refine ⟨_,ae (aS (aD dY (pv 1) (aA aK (by rfl) T.len PySem.boot_len (ad (pv 0) ag)) (aF _)) (aj (ay (aq aW (pv 0) (pv 1) (fun _ _=>rfl)))) aH)
   (aj (ay af)),?_⟩
  dsimp only [bj,Cx.nox]
  refine ⟨_,rfl,_,rfl,a,_,rfl,.inl hS,_,_,rfl,rfl,_,rfl,?_⟩
  refine bE (fun h=>?_) (fun _=>q 0)
  have h:=of_decide_eq_true h
  rw [List.length_map] at h
  have hk:k.toNat < ns.length:=by lia
  exact ⟨_,rfl,_,rfl,ex4 a _ k _ ⟨rfl,rfl,hS,atI_map h0 (List.getElem?_eq_getElem hk),q _⟩⟩
end
end K41
namespace K41T
open PySem L2 KM
abbrev top:=K41.top
theorem bDict:bootBuiltins "dict"=some (.type "dict"):=by decide +kernel
theorem ca:bootBuiltins "tuple"=some (.type "tuple"):=by decide +kernel
theorem ix:bootBuiltins "sorted"=some (.builtin "sorted"):=by decide +kernel
theorem dne1:¬ (V.str "add"=V.str "put"):=by decide +kernel
theorem eO {X:Cx} {scope:Scope} {cl:List (Str × Addr)} {N2 ys:List Str} {C:Addr} {s:Shared} {H:Hp} {fp:List Addr}:IxR (cxC X scope cl N2 ys C s H fp) (rIxT X.K):=ao
structure Blt (mg:Str -> Option Value):Prop where
 tuple:mg "tuple"=none
 dict:mg "dict"=none
 sorted:mg "sorted"=none
inductive Wk where
 | put (k:Str) (n:Int) | add (k:Str) (n:Int) | drop (k:Str)
def Wk.key:Wk -> Str
 | .put k _=>k | .add k _=>k | .drop k=>k
def Wk.vs:Wk -> List V
 | .put k n=>[.str "put",.str k,.int n]
 | .add k n=>[.str "add",.str k,.int n]
 | .drop k=>[.str "drop",.str k]
abbrev Kvs:=List (Key × V)
def kJ (kvs:Kvs):Prop:=∀ k v,bG kvs k=some v -> ∃ i:Int,v=.int i
def num (kvs:Kvs) (k:Str):Int:=match bG kvs (Sum.inr k) with
 | some (.int i)=>i
 | _=>0
def Wk.to (kvs:Kvs):Wk -> Kvs
 | .put k n=>bX kvs (Sum.inr k) (.int n)
 | .add k n=>bX kvs (Sum.inr k) (.int (num kvs k + n))
 | .drop k=>di kvs (Sum.inr k)
def Wk.ans (kvs:Kvs):Wk -> V
 | .put k _=>(bG kvs (Sum.inr k)).getD .non
 | .add k n=>.int (num kvs k + n)
 | .drop k=>(bG kvs (Sum.inr k)).getD .non
theorem qZ {kvs:Kvs} {k j:Key} {v:V} (h:bG (di kvs k) j=some v):bG kvs j=some v:=by
 induction kvs with
 | nil=>exact h
 | cons p r ih =>
  by_cases e:p.1=k
  ·rw [jW e] at h
   have h':=ih h
   by_cases e2:p.1=j
   ·exfalso
    have:k=j:=e.symm.trans e2
    subst this
    have hk:∀ (l:Kvs),bG (di l k) k=none:=by
     intro l
     induction l with
     | nil=>rfl
     | cons q l ihl =>
      by_cases eq:q.1=k
      ·rw [jW eq]; exact ihl
      ·rw [gE eq,bT eq]; exact ihl
    rw [hk r] at h
    cases h
   ·rw [bT e2]; exact h'
  ·rw [gE e] at h
   by_cases e2:p.1=j
   ·rw [cc e2] at h ⊢; exact h
   ·rw [bT e2] at h ⊢; exact ih h
theorem kJ.to {kvs:Kvs} (h:kJ kvs) (x:Wk):kJ (x.to kvs):=by
 intro k v e
 cases x with
 | put a n =>
  rw [show Wk.to kvs (.put a n)=bX kvs (Sum.inr a) (.int n) from rfl,gc] at e
  split at e
  ·cases e; exact ⟨_,rfl⟩
  ·exact h k v e
 | add a n =>
  rw [show Wk.to kvs (.add a n)=bX kvs (Sum.inr a) (.int (num kvs a + n)) from rfl,gc] at e
  split at e
  ·cases e; exact ⟨_,rfl⟩
  ·exact h k v e
 | drop a=>exact h k v (qZ e)
theorem to_len (kvs:Kvs) (x:Wk):(x.to kvs).length <= kvs.length + 1:=by
 cases x with
 | put a n=>exact dj _ _ _
 | add a n=>exact dj _ _ _
 | drop a=>exact Nat.le_trans (List.length_filter_le _ _) (Nat.le_succ _)
theorem kJ.ans {kvs:Kvs} (h:kJ kvs) (x:Wk):x.ans kvs=.non \/ ∃ i:Int,x.ans kvs=.int i:=by
 have key:∀ a:Str,(bG kvs (Sum.inr a)).getD .non=.non \/ ∃ i:Int,(bG kvs (Sum.inr a)).getD .non=.int i:=fun a=>by
  cases e:bG kvs (Sum.inr a:Key) with
  | none=>exact .inl rfl
  | some v =>
   obtain ⟨i,rfl⟩:=h _ _ e
   exact .inr ⟨i,rfl⟩
 cases x with
 | put a n=>exact key a
 | add a n=>exact .inr ⟨_,rfl⟩
 | drop a=>exact key a
theorem num_get {kvs:Kvs} (h:kJ kvs) (k:Str):(bG kvs (Sum.inr k)).getD (.int 0)=.int (num kvs k):=by
 unfold num
 cases e:bG kvs (Sum.inr k:Key) with
 | none=>rfl
 | some v =>
  obtain ⟨i,rfl⟩:=h _ _ e
  rfl
def But (d:Addr) (H H':Hp):Prop:=∀ b o,H b=some o -> b ≠ d -> H' b=some o
abbrev j6:Stmt:=aT (top 89) 0
abbrev tY:Stmt:=aT (top 89) 1
abbrev tZ:Stmt:=aT (top 89) 2
abbrev oC:Stmt:=aT (top 89) 3
abbrev ua:Stmt:=aT (top 89) 4
theorem ne_hl:¬ (("held":Str)="lasts"):=by decide +kernel
def cW (d l:Addr):List (Str × V):=aL "lasts" (.ref l) (aL "held" (.ref d) [])
theorem fg (d l:Addr):(cW d l).lookup ("held":Str)=some (.ref d):=by
 unfold cW
 rw [cC,if_neg ne_hl,cC,if_pos rfl]
theorem fh (d l:Addr):(cW d l).lookup ("lasts":Str)=some (.ref l):=by
 unfold cW
 rw [cC,if_pos rfl]
theorem kK (d l:Addr) {m:Str} (h1:¬ m="lasts") (h2:¬ m="held"):(cW d l).lookup m=none:=by
 unfold cW
 rw [cC,if_neg h1,cC,if_neg h2]
 all_goals rfl
abbrev Las:=List (Key × (Int × V))
def cX (las:Las) (k:Key):Option (Int × V):=(las.find? fun kv=>decide (kv.1=k)).map (·.2)
def fU (las:Las) (k:Key) (q:Int × V):Las:=if (las.any fun kv=>decide (kv.1=k))=true then las.map (fun kv=>if kv.1=k then (kv.1,q) else kv) else las ++ [(k,q)]
theorem cQ {p:Key × (Int × V)} {r:Las} {k:Key} (e:p.1=k):cX (p :: r) k=some p.2:=by simp [cX,List.find?_cons,e]
theorem cR {p:Key × (Int × V)} {r:Las} {k:Key} (e:¬ p.1=k):cX (p :: r) k=cX r k:=by simp [cX,List.find?_cons,e]
theorem iZ (k:Key):∀ las:Las,(las.any fun kv=>decide (kv.1=k))=(cX las k).isSome
 | []=>rfl
 | p :: r=>by
  rw [List.any_cons]
  by_cases e:p.1=k
  ·simp only [cQ e,decide_eq_true e,Bool.true_or,Option.isSome_some]
  ·rw [cR e,decide_eq_false e,Bool.false_or]; exact iZ k r
theorem mM (k j:Key) (y:Int × V):∀ las:Las,cX (las.map fun kv=>if kv.1=k then (kv.1,y) else kv) j=(cX las j).map fun x=>if j=k then y else x
 | []=>rfl
 | p :: r=>by
  have ih:=mM k j y r
  rw [List.map_cons]
  by_cases h:p.1=k
  ·rw [if_pos h]
   by_cases e:p.1=j
   ·rw [cQ (p:=(p.1,y)) e,cQ e,Option.map_some,if_pos (e.symm.trans h)]
   ·rw [cR (p:=(p.1,y)) e,cR e,ih]
  ·rw [if_neg h]
   by_cases e:p.1=j
   ·rw [cQ (p:=p) e,cQ e,Option.map_some,if_neg (fun z=>h (e.trans z))]
   ·rw [cR (p:=p) e,cR e,ih]
theorem j7 (k j:Key) (y:Int × V):∀ las:Las,cX las k=none -> cX (las ++ [(k,y)]) j=if j=k then some y else cX las j
 | [],_=>by
  by_cases e:k=j
  ·rw [if_pos e.symm]; exact cQ (p:=(k,y)) e
  ·rw [if_neg (fun z=>e z.symm)]; exact cR (p:=(k,y)) e
 | p :: r,hn=>by
  rw [List.cons_append]
  have hk:¬ p.1=k:=fun z=>by rw [cQ z] at hn; cases hn
  rw [cR hk] at hn
  have ih:=j7 k j y r hn
  by_cases e:p.1=j
  ·rw [cQ e,cQ e,if_neg (fun z=>hk (e.trans z))]
  ·rw [cR e,cR e,ih]
theorem ub (las:Las) (k j:Key) (y:Int × V):cX (fU las k y) j=if j=k then some y else cX las j:=by
 unfold fU
 by_cases a:(las.any fun kv=>decide (kv.1=k))=true
 ·rw [if_pos a,mM]
  rw [iZ] at a
  by_cases e:j=k
  ·obtain ⟨x,hx⟩:=Option.isSome_iff_exists.mp a
   rw [if_pos e,e,hx,Option.map_some,if_pos rfl]
  ·rw [if_neg e]
   cases cX las j with
   | none=>rfl
   | some x=>rw [Option.map_some,if_neg e]
 ·rw [if_neg a]
  refine j7 k j y las ?_
  rw [iZ] at a
  cases q:cX las k with
  | none=>rfl
  | some x=>rw [q] at a; exact (a rfl).elim
theorem mO (las:Las) (k:Key) (y:Int × V):(fU las k y).length <= las.length + 1:=by
 unfold fU
 split
 ·rw [List.length_map]; lia
 ·rw [List.length_append]; exact Nat.le_refl _
def LRel (K:PySem.W.Frag) (H:Hp) (p:Key × V) (q:Key × (Int × V)):Prop:=p.1=q.1 /\ ∃ t,p.2=.ref t /\ SqT K H t [.int q.2.1,q.2.2]
abbrev LR (K:PySem.W.Frag) (H:Hp):Kvs -> Las -> Prop:=Paired (LRel K H)
theorem LR.mono {K:PySem.W.Frag} {H H':Hp} {lk:Kvs} {las:Las} (r:LR K H lk las) (h:∀ t xs,SqT K H t xs -> SqT K H' t xs):LR K H' lk las :=
 Paired.mapP r fun p q ⟨e,t,e2,s⟩=>⟨e,t,e2,h _ _ s⟩
theorem LR.val {K:PySem.W.Frag} {H:Hp} {lk:Kvs} {las:Las} (r:LR K H lk las) (k:Key):(bG lk k=none /\ cX las k=none) \/ ∃ t q,bG lk k=some (.ref t) /\ cX las k=some q /\ SqT K H t [.int q.1,q.2]:=by
 induction r with
 | nil=>exact .inl ⟨rfl,rfl⟩
 | @cons p q ps qs h t ih =>
  obtain ⟨h1,tt,h2,h3⟩:=h
  by_cases e:p.1=k
  ·exact .inr ⟨tt,q.2,by rw [cc e,h2],cQ (h1.symm.trans e),h3⟩
  ·rw [bT e,cR (fun z=>e (h1.trans z))]; exact ih
theorem LR.any {K:PySem.W.Frag} {H:Hp} {lk:Kvs} {las:Las} (r:LR K H lk las) (k:Key):(lk.any fun kv=>decide (kv.1=k))=las.any fun kv=>decide (kv.1=k):=by
 induction r with
 | nil=>rfl
 | cons h t ih=>rw [List.any_cons,List.any_cons,ih,h.1]
theorem LR.put {K:PySem.W.Frag} {H:Hp} {lk:Kvs} {las:Las} (r:LR K H lk las) (k:Key) {t:Addr} {n:Int} {a:V} (s:SqT K H t [.int n,a]):LR K H (bX lk k (.ref t)) (fU las k (n,a)):=by
 unfold bX fU
 rw [r.any k]
 by_cases e:(las.any fun kv=>decide (kv.1=k))=true
 ·rw [if_pos e,if_pos e]
  clear e
  induction r with
  | nil=>exact .nil
  | @cons p q ps qs h t ih =>
   rw [List.map_cons,List.map_cons]
   refine .cons ?_ ih
   obtain ⟨h1,tt,h2,h3⟩:=h
   by_cases e:p.1=k
   ·rw [if_pos e,if_pos (h1.symm.trans e)]; exact ⟨h1,_,rfl,s⟩
   ·rw [if_neg e,if_neg (fun z=>e (h1.trans z))]; exact ⟨h1,tt,h2,h3⟩
 ·rw [if_neg e,if_neg e]; exact PySem.Paired.snoc r ⟨rfl,_,rfl,s⟩
theorem LR.len {K:PySem.W.Frag} {H:Hp} {lk:Kvs} {las:Las} (r:LR K H lk las):lk.length=las.length:=Paired.length r
theorem SqT.but {K:PySem.W.Frag} {H H':Hp} {d t:Addr} {m:Kvs} {xs:List V} (e:But d H H') (hd:H d=some (.dK m)) (h:SqT K H t xs):SqT K H' t xs:=by
 rcases h with (h | ⟨o',h⟩) | h
 ·exact .inl (.inl (e _ _ h (aM h hd (by intro z; cases z))))
 ·exact .inl (.inr ⟨o',e _ _ h (aM h hd (by intro z; cases z))⟩)
 ·exact .inr h
theorem SqT.same {K:PySem.W.Frag} {H H':Hp} {t:Addr} {xs:List V} (e:ar H H') (h:SqT K H t xs):SqT K H' t xs:=by
 rcases h with (h | ⟨o',h⟩) | h
 ·exact .inl (.inl (e _ _ h))
 ·exact .inl (.inr ⟨o',e _ _ h⟩)
 ·exact .inr h
def lastN (las:Las) (x:Str):Int:=match cX las (Sum.inr x) with
 | some q=>q.1
 | none=>0
def lastA (las:Las) (x:Str):V:=match cX las (Sum.inr x) with
 | some q=>q.2
 | none=>.non
structure aU (K:PySem.W.Frag) (C:Addr) (H:Hp) (T d l:Addr) (kvs:Kvs) (las:Las):Prop where
 ob:∃ dx,H T=some (.ins C dx (cW d l))
 hd:H d=some (.dK kvs)
 hl:∃ lk,H l=some (.dK lk) /\ LR K H lk las
 ne:d ≠ l
structure Cl (K:PySem.W.Frag) (mg:Str -> Option Value) (C:Addr):Prop where
 cl:Cls K C
 nH:bx K C "held"
 nL:bx K C "lasts"
 mgC:mg "Table"=some (.ref C)
def kL (K:PySem.W.Frag) (C:Addr):Sp:=fun vs H Q _=>∃ (T d l:Addr) (kvs:Kvs) (las:Las) (k:Str),vs=[.ref T,.str k] /\ aU K C H T d l kvs las /\ Q ((bG kvs (Sum.inr k)).getD .non) H
def oE (K:PySem.W.Frag) (C:Addr):Sp:=fun vs H Q _=>∃ (T d l:Addr) (kvs:Kvs) (las:Las) (x:Str),vs=[.ref T,.str x] /\ aU K C H T d l kvs las /\ Q (.int (lastN las x)) H
def oF (K:PySem.W.Frag) (C:Addr):Sp:=fun vs H Q _=>∃ (T d l t:Addr) (kvs:Kvs) (las:Las) (x:Wk),vs=[.ref T,.ref t] /\ aU K C H T d l kvs las /\ kvs.length <= 1000 /\ kJ kvs /\ SqT K H t x.vs /\
 ∀ H',But d H H' -> H' d=some (.dK (x.to kvs)) -> Q (x.ans kvs) H'
def tagR (las:Las) (x:Str) (n:Int):V:=if n < lastN las x then .str "old" else if n=lastN las x then .str "again" else .str "done"
def ansR (kvs:Kvs) (las:Las) (x:Str) (n:Int) (wk:Wk):V:=if n < lastN las x then .non else if n=lastN las x then lastA las x else wk.ans kvs
def cm (kvs:Kvs) (las:Las) (x:Str) (n:Int) (wk:Wk):Kvs:=if n < lastN las x then kvs else if n=lastN las x then kvs else wk.to kvs
def dv (kvs:Kvs) (las:Las) (x:Str) (n:Int) (wk:Wk):Las:=if n < lastN las x then las else if n=lastN las x then las else fU las (Sum.inr x) (n,wk.ans kvs)
def cu (d l:Addr) (H H':Hp):Prop:=∀ b o,H b=some o -> b ≠ d -> b ≠ l -> H' b=some o
def oG (K:PySem.W.Frag) (C:Addr):Sp:=fun vs H Q _=>∃ (T d l t:Addr) (kvs:Kvs) (las:Las) (x:Str) (n:Int) (wk:Wk),vs=[.ref T,.str x,.int n,.ref t] /\ aU K C H T d l kvs las /\ kvs.length <= 1000 /\ las.length <= 1000 /\ kJ kvs /\ 1 <= n /\ SqT K H t wk.vs /\
 ∀ (r:Addr) (H':Hp),H r=none -> H' r=some (.tup [tagR las x n,ansR kvs las x n wk]) -> aU K C H' T d l (cm kvs las x n wk) (dv kvs las x n wk) -> cu d l H H' -> Q (.ref r) H'
section
variable {P:Program} {w:World} {K:PySem.W.Frag} {mg:Str -> Option Value} {base:Heap}
theorem scHolds:ax ["self","key"] ["self","key"] (am oC):=fsc (by decide +kernel)
theorem uc {f C:Addr} {fd:FuncData} (F:Fun K "holds" "Table.holds" oC f fd) (T:Cl K mg C):aP P w K mg base CX0 1 f fd ["self","key"] (kL K C):=by
 refine F.ok scHolds (fun vs H Q E h=>?_) (fun cdv A outer s H vs Q E hr h=>?_)
 ·obtain ⟨T',d,l,kvs,las,k,rfl,_⟩:=h
  rfl
 ·obtain ⟨T',d,l,kvs,las,k,rfl,S,q⟩:=h
  have hu:=gX hr
  obtain ⟨⟨dx,h1⟩,hd,hl,hne⟩:=id S
  refine ⟨_,aj (ay (mw hu (aG (pv 0) rfl) (pv 1) ⟨rfl,rfl,rfl,rfl⟩)),?_⟩
  dsimp only [bj,Cx.nox]
  exact ⟨_,rfl,ex5 T' C dx _ _ ⟨rfl,h1,T.cl,T.nH,fg _ _,d,rfl,.inl ⟨kvs,.inl hd⟩,_,rfl,_,cM.k (k:=Sum.inr k) hd,q⟩⟩
theorem scLast:ax ["self","asker"] ["self","asker"] (am ua):=fsc (by decide +kernel)
theorem ok_last {f C:Addr} {fd:FuncData} (F:Fun K "last_of" "Table.last_of" ua f fd) (T:Cl K mg C):aP P w K mg base CX0 1 f fd ["self","asker"] (oE K C):=by
 refine F.ok scLast (fun vs H Q E h=>?_) (fun cdv A outer s H vs Q E hr h=>?_)
 ·obtain ⟨T',d,l,kvs,las,k,rfl,_⟩:=h
  rfl
 ·obtain ⟨T',d,l,kvs,las,x,rfl,S,q⟩:=h
  have hu:=gX hr
  obtain ⟨⟨dx,h1⟩,hd,⟨lk,hl,lr⟩,hne⟩:=id S
  refine ⟨_,ae (aS (iI (qF hu (pv 1) (aG (pv 0) rfl))) (aj (ay af)) aH)
   (aj (ay (aq ao (de hu (aG (pv 0) rfl) (pv 1) (fun _ _=>rfl)) af (fun _ _=>rfl)))),?_⟩
  dsimp only [bj,Cx.nox]
  refine ah fun K_ hK_=>?_
  refine ⟨_,rfl,_,rfl,ex5 T' C dx _ _ ⟨rfl,h1,T.cl,T.nL,fh _ _,l,_,rfl,cM.k (k:=Sum.inr x) hl,_,rfl,?_⟩⟩
  rcases lr.val (Sum.inr x) with ⟨e1,e2⟩ | ⟨t,q',e1,e2,e3⟩
  ·rw [e1]
   refine bz ?_
   unfold lastN at q
   rw [e2] at q
   exact q
  ·rw [e1]
   refine aV ?_
   unfold lastN at q
   refine hK_ _ _ ?_
   rw [e2] at q
   refine ⟨_,rfl,ex5 T' C dx _ _ ⟨rfl,h1,T.cl,T.nL,fh _ _,_,rfl,l,V.ref t,rfl,?_,ex4 t _ _ _ ⟨rfl,rfl,e3,rfl,q⟩⟩⟩
   have:=cM.k (H:=H) (a:=l) (k:=Sum.inr x) hl
   rw [e1] at this
   exact this
abbrev nDone:List Str:=["self","work","key","before"]
theorem ud:ax nDone ["self","work"] (am tZ):=fsc (by decide +kernel)
theorem dne4:¬ (V.str "put"=V.str "drop"):=by decide +kernel
theorem dne5:¬ (V.str "add"=V.str "drop"):=by decide +kernel
theorem ok_done {f C fH:Addr} {fd fdH:FuncData} (F:Fun K "work_done" "Table.work_done" tZ f fd) (T:Cl K mg C) (GH:aP P w K mg base CX0 1 fH fdH ["self","key"] (kL K C)) (bH:dN K fdH ["self","key"] []) (mH:nJ K C "holds" fH) :
  aP P w K mg base CX0 2 f fd ["self","work"] (oF K C):=by
 refine F.ok ud (fun vs H Q E h=>?_) (fun cdv A outer s H vs Q E hr h=>?_)
 ·obtain ⟨T',d,l,t,kvs,las,x,rfl,_⟩:=h
  rfl
 ·obtain ⟨T',d,l,t,kvs,las,x,rfl,S,hlen,hI,hT,q⟩:=h
  have hu:=gX hr
  have nd:=ud.nd
  obtain ⟨⟨dx,h1⟩,hd,_,hne⟩:=id S
  refine ⟨_,ae (aB (i:=2) nd rfl (Or.inl rfl) (aq ao (pv 1) af (fun _ _=>rfl)))
   (ae (aB (i:=3) nd rfl (Or.inl rfl) (io (pv 0) T.cl mH GH hr bH .nil iT (ad (pv 2) ag)))
   (ae (aS (aD bW (aq ao (pv 1) af (fun _ _=>rfl)) aN (aF _))
    (ae (bJ (my (aG (pv 0) rfl) (pv 2) cn ⟨rfl,rfl,rfl,rfl⟩)) (aj (ay (pv 3)))) aH)
   (ae (aS (aD bW (aq ao (pv 1) af (fun _ _=>rfl)) aN (aF _))
    (ae (d9 hu (aG (pv 0) rfl) (pv 2) (aq ao (pv 1) af (fun _ _=>rfl)) rfl) (aj (ay (pv 3)))) aH)
   (ae (d9 hu (aG (pv 0) rfl) (pv 2) (aE aX (mx hu (aG (pv 0) rfl) (pv 2) af ⟨rfl,rfl,rfl,rfl⟩) (aq ao (pv 1) af (fun _ _=>rfl))) rfl)
   (aj (ay (de hu (aG (pv 0) rfl) (pv 2) (fun _ _=>rfl)))))))),?_⟩
  dsimp only [bj,Cx.nox]
  have isd:IsD H d:=.inl ⟨kvs,.inl hd⟩
  have but:∀ (m:Kvs),But d H (upd H d (.dK m)):=fun m b o e hb=>by rw [aw hb]; exact e
  have a1:atI x.vs (1:Int)=some (.str x.key):=by cases x <;> rfl
  have nTd:T' ≠ d:=aM h1 hd (by intro z; cases z)
  refine ah fun K_ hK_=>?_
  refine ⟨_,rfl,ex4 t _ _ _ ⟨rfl,rfl,hT,a1,?_⟩⟩
  refine hK_ _ _ (ah fun K_ hK_=>?_)
  refine ⟨_,rfl,ex3 T' dx _ ⟨rfl,h1,kK _ _ (by decide +kernel) (by decide +kernel),_,rfl,T',d,l,kvs,las,x.key,rfl,S,?_⟩⟩
  refine hK_ _ _ (ah fun K_ hK_=>?_)
  cases x with
  | drop a =>
   refine ⟨_,rfl,ex4 t _ _ _ ⟨rfl,rfl,hT,rfl,rfl,_,rfl,?_⟩⟩
   refine bE (fun _=>?_) (fun z=>absurd (decide_eq_true rfl) z)
   refine ah fun K_ hK_=>?_
   refine ⟨_,rfl,ex5 T' C dx _ _ ⟨rfl,h1,T.cl,T.nH,fg _ _,d,rfl,isd,_,rfl,kvs,Sum.inr a,hd,rfl,fun v e=>?_,fun e=>?_⟩⟩
   ·exact hK_ _ _ ⟨_,rfl,q _ (but _) ai⟩
   ·have e3:Wk.to kvs (.drop a)=kvs:=iU (mC e)
    exact hK_ _ _ ⟨_,rfl,q H (fun b o h _=>h) (by rw [e3]; exact hd)⟩
  | put a n =>
   refine ⟨_,rfl,ex4 t _ _ _ ⟨rfl,rfl,hT,rfl,rfl,_,rfl,?_⟩⟩
   refine bE (fun z=>absurd (of_decide_eq_true z) dne4) (fun _=>?_)
   refine hK_ _ _ (ah fun K_ hK_=>?_)
   refine ⟨_,rfl,ex4 t _ _ _ ⟨rfl,rfl,hT,rfl,rfl,_,rfl,?_⟩⟩
   refine bE (fun _=>?_) (fun z=>absurd (decide_eq_true rfl) z)
   refine ah fun K_ hK_=>?_
   refine ⟨_,rfl,ex4 t _ _ _ ⟨rfl,rfl,hT,rfl,_,rfl,ex5 T' C dx _ _ ⟨rfl,h1,T.cl,T.nH,fg _ _,_,rfl,d,_,rfl,fI.k (k:=Sum.inr a) hd (bA hlen),?_⟩⟩⟩
   exact hK_ _ _ ⟨_,rfl,q _ (but _) ai⟩
  | add a n =>
   refine ⟨_,rfl,ex4 t _ _ _ ⟨rfl,rfl,hT,rfl,rfl,_,rfl,?_⟩⟩
   refine bE (fun z=>absurd (of_decide_eq_true z) dne5) (fun _=>?_)
   refine hK_ _ _ (ah fun K_ hK_=>?_)
   refine ⟨_,rfl,ex4 t _ _ _ ⟨rfl,rfl,hT,rfl,rfl,_,rfl,?_⟩⟩
   refine bE (fun z=>absurd (of_decide_eq_true z) dne1) (fun _=>?_)
   refine hK_ _ _ (ah fun K_ hK_=>?_)
   refine ⟨_,rfl,ex5 T' C dx _ _ ⟨rfl,h1,T.cl,T.nH,fg _ _,d,rfl,isd,_,rfl,_,cM.k (k:=Sum.inr a) hd,_,rfl,ex4 t _ _ _ ⟨rfl,rfl,hT,rfl,?_⟩⟩⟩
   refine ⟨_,_,num_get hI a,rfl,?_⟩
   refine ⟨_,rfl,ex5 T' C dx _ _ ⟨rfl,h1,T.cl,T.nH,fg _ _,_,rfl,d,_,rfl,fI.k (k:=Sum.inr a) hd (bA hlen),?_⟩⟩
   have h1':(upd H d (.dK (bX kvs (Sum.inr a) (.int (num kvs a + n))))) T'=some (.ins C dx (cW d l)):=by rw [aw nTd]; exact h1
   refine hK_ _ _ ?_
   refine ⟨_,rfl,ex5 T' C dx _ _ ⟨rfl,h1',T.cl,T.nH,fg _ _,_,rfl,d,V.int (num kvs a + n),rfl,?_,q _ (but _) ai⟩⟩
   have:=cM.k (H:=upd H d (.dK (bX kvs (Sum.inr a) (.int (num kvs a + n))))) (k:=Sum.inr a) ai
   rw [gc,if_pos rfl] at this
   exact this
abbrev nDoes:List Str:=["self","asker","number","work","last","answer"]
theorem ue:ax nDoes ["self","asker","number","work"] (am tY):=fsc (by decide +kernel)
theorem ok_does {f C fL fD:Addr} {fd fdL fdD:FuncData} (F:Fun K "does" "Table.does" tY f fd) (T:Cl K mg C) (GL:aP P w K mg base CX0 1 fL fdL ["self","asker"] (oE K C)) (bL:dN K fdL ["self","asker"] []) (mL:nJ K C "last_of" fL)
  (GD:aP P w K mg base CX0 2 fD fdD ["self","work"] (oF K C)) (bD:dN K fdD ["self","work"] []) (mD:nJ K C "work_done" fD) :
  aP P w K mg base CX0 3 f fd ["self","asker","number","work"] (oG K C):=by
 refine F.ok ue (fun vs H Q E h=>?_) (fun cdv A outer s H vs Q E hr h=>?_)
 ·obtain ⟨T',d,l,t,kvs,las,x,n,wk,rfl,_⟩:=h
  rfl
 ·obtain ⟨T',d,l,t,kvs,las,x,n,wk,rfl,S,hlen,hll,hI,hn,hT,q⟩:=h
  have hu:=gX hr
  have hr1:bi 1 _:=hr.mono (by decide)
  have nd:=ue.nd
  obtain ⟨⟨dx,h1⟩,hd,⟨lk,hl,lr⟩,hne⟩:=id S
  refine ⟨_,ae (aB (i:=4) nd rfl (Or.inl rfl) (io (pv 0) T.cl mL GL hr1 bL .nil iT (ad (pv 1) ag)))
   (ae (aS (aD dY (pv 2) (pv 4) (aF _)) (aj (ay (dF (ad aN (ad cn ag))))) aH)
   (ae (aS (aD bW (pv 2) (pv 4) (aF _)) (aj (ay (dF (ad aN (ad (aq ao (de hu (aG (pv 0) rfl) (pv 1) (fun _ _=>rfl)) af (fun _ _=>rfl)) ag))))) aH)
   (ae (aB (i:=5) nd rfl (Or.inl rfl) (io (pv 0) T.cl mD GD hr bD .nil iT (ad (pv 3) ag)))
   (ae (d9 hu (aG (pv 0) rfl) (pv 1) (dF (ad (pv 2) (ad (pv 5) ag))) rfl)
   (aj (ay (dF (ad aN (ad (pv 5) ag))))))))),?_⟩
  dsimp only [bj,Cx.nox]
  have nl1:(cW d l).lookup ("last_of":Str)=none:=kK _ _ (by decide +kernel) (by decide +kernel)
  have nl2:(cW d l).lookup ("work_done":Str)=none:=kK _ _ (by decide +kernel) (by decide +kernel)
  refine ah fun K_ hK_=>?_
  refine ⟨_,rfl,ex3 T' dx _ ⟨rfl,h1,nl1,_,rfl,ex6 T' d l kvs las x ⟨rfl,S,?_⟩⟩⟩
  refine hK_ _ _ (ah fun K_ hK_=>?_)
  refine ⟨_,rfl,_,rfl,_,_,rfl,rfl,_,rfl,?_⟩
  have stay:∀ (r:Addr) (o:HO),H r=none -> aU K C (upd H r o) T' d l kvs las:=fun r o hr' =>
   ⟨⟨dx,(ar.new hr') _ _ h1⟩,(ar.new hr') _ _ hd,⟨lk,(ar.new hr') _ _ hl,lr.mono fun t xs=>SqT.same (.new hr')⟩,hne⟩
  refine bE (fun c1=>?_) (fun c1=>?_)
  ·have c1:n < lastN las x:=of_decide_eq_true c1
   refine ⟨(by show 2 <= sizeLine; decide),fun r hr'=>?_⟩
   have:=q r (upd H r (.tup [V.str "old",V.non])) hr'
   unfold tagR ansR cm dv at this
   rw [if_pos c1,if_pos c1,if_pos c1,if_pos c1] at this
   exact this ai (stay r _ hr') (fun b o e _ _=>(ar.new hr') b o e)
  ·have c1:¬ n < lastN las x:=fun z=>c1 (decide_eq_true z)
   refine hK_ _ _ (ah fun K_ hK_=>?_)
   refine ⟨_,rfl,_,rfl,rfl,_,rfl,?_⟩
   refine bE (fun c2=>?_) (fun c2=>?_)
   ·have c2:n=lastN las x:=V.int.inj (of_decide_eq_true c2)
    rcases lr.val (Sum.inr x) with ⟨e1,e2⟩ | ⟨tt,q',e1,e2,e3⟩
    ·exfalso
     unfold lastN at c2
     rw [e2] at c2
     dsimp only at c2
     lia
    ·have hA:lastA las x=q'.2:=by unfold lastA; rw [e2]
     refine ⟨_,rfl,ex5 T' C dx _ _ ⟨rfl,h1,T.cl,T.nL,fh _ _,_,rfl,l,V.ref tt,rfl,?_,ex4 tt _ _ _ ⟨rfl,rfl,e3,rfl,?_⟩⟩⟩
     ·have:=cM.k (H:=H) (a:=l) (k:=Sum.inr x) hl
      rw [e1] at this
      exact this
     refine ⟨(by show 2 <= sizeLine; decide),fun r hr'=>?_⟩
     have:=q r (upd H r (.tup [V.str "again",q'.2])) hr'
     unfold tagR ansR cm dv at this
     rw [if_neg c1,if_pos c2,if_neg c1,if_pos c2,if_neg c1,if_pos c2,if_neg c1,if_pos c2,hA] at this
     exact this ai (stay r _ hr') (fun b o e _ _=>(ar.new hr') b o e)
   ·have c2:¬ n=lastN las x:=fun z=>c2 (decide_eq_true (congrArg V.int z))
    refine hK_ _ _ (ah fun K_ hK_=>?_)
    refine ⟨_,rfl,ex3 T' dx _ ⟨rfl,h1,nl2,_,rfl,ex7 T' d l t kvs las wk ⟨rfl,S,hlen,hI,hT,fun H1 bt hd1=>?_⟩⟩⟩
    have nTd:T' ≠ d:=aM h1 hd (by intro z; cases z)
    have nTl:T' ≠ l:=aM h1 hl (by intro z; cases z)
    have h11:H1 T'=some (.ins C dx (cW d l)):=bt _ _ h1 nTd
    have hl1:H1 l=some (.dK lk):=bt _ _ hl hne.symm
    have lr1:LR K H1 lk las:=lr.mono fun t xs=>SqT.but bt hd
    refine hK_ _ _ (ah fun K_ hK_=>?_)
    refine ⟨_,rfl,_,rfl,(by show 2 <= sizeLine; decide),fun t2 ht2=>?_⟩
    have h12:=(ar.new (o:=.tup [V.int n,wk.ans kvs]) ht2) _ _ h11
    have hl2:=(ar.new (o:=.tup [V.int n,wk.ans kvs]) ht2) _ _ hl1
    have hd2:=(ar.new (o:=.tup [V.int n,wk.ans kvs]) ht2) _ _ hd1
    refine ⟨_,rfl,ex5 T' C dx _ _ ⟨rfl,h12,T.cl,T.nL,fh _ _,_,rfl,l,_,rfl,fI.k (k:=Sum.inr x) hl2 (bA (by rw [lr.len]; exact hll)),?_⟩⟩
    refine hK_ _ _ ?_
    refine ⟨_,rfl,(by show 2 <= sizeLine; decide),fun r hr'=>?_⟩
    have lr2:LR K (upd (upd H1 t2 (.tup [V.int n,wk.ans kvs])) l (.dK (bX lk (Sum.inr x) (.ref t2)))) (bX lk (Sum.inr x) (.ref t2)) (fU las (Sum.inr x) (n,wk.ans kvs)):=by
     refine LR.put (lr1.mono fun t xs e=>(SqT.same (.new ht2) e).upd hl2) (Sum.inr x) (SqT.upd (SqT.of ai) hl2)
    have hrH:H r=none:=by
     cases e:H r with
     | none=>rfl
     | some o =>
      exfalso
      have ntl:l ≠ r:=by
       rintro rfl
       rw [ai] at hr'; cases hr'
      have ntd:d ≠ r:=by
       rintro rfl
       rw [aw hne,hd2] at hr'; cases hr'
      have:upd (upd H1 t2 (.tup [V.int n,wk.ans kvs])) l (.dK (bX lk (Sum.inr x) (.ref t2))) r=some o:=by
       rw [aw ntl.symm]
       exact (ar.new ht2) _ _ (bt _ _ e ntd.symm)
      rw [this] at hr'; cases hr'
    have:=q r (upd (upd (upd H1 t2 (.tup [V.int n,wk.ans kvs])) l (.dK (bX lk (Sum.inr x) (.ref t2)))) r (.tup [V.str "done",wk.ans kvs])) hrH
    unfold tagR ansR cm dv at this
    rw [if_neg c1,if_neg c2,if_neg c1,if_neg c2,if_neg c1,if_neg c2,if_neg c1,if_neg c2] at this
    refine this ai ⟨⟨dx,?_⟩,?_,⟨bX lk (Sum.inr x) (.ref t2),?_,lr2.mono fun t xs=>SqT.same (.new hr')⟩,hne⟩ (fun b o e nb1 nb2=>?_)
    ·exact (ar.new hr') _ _ (by rw [aw nTl]; exact h12)
    ·exact (ar.new hr') _ _ (by rw [aw hne]; exact hd2)
    ·exact (ar.new hr') _ _ ai
    ·exact (ar.new hr') _ _ (by rw [aw nb2]; exact (ar.new ht2) _ _ (bt _ _ e nb1))
end
def aO (ps:List (Key × V)):Kvs:=ps.foldl (fun m kv=>bX m kv.1 kv.2) []
def bp (qs:List (Str × Int × V)):Las:=qs.foldl (fun m q=>fU m (Sum.inr q.1) q.2) []
def fj (K:PySem.W.Frag) (C:Addr):Sp:=fun vs H Q _=>∃ (T dx hh aa:Addr) (o:Obj) (ps as:List V) (kvs:List (Key × V)) (qs:List (Str × Int × V)),vs=[.ref T,.ref hh,.ref aa] /\ H T=some (.ins C dx []) /\ H hh=some (.frz o (.tup ps)) /\ o.dict=none /\ ps.length=kvs.length /\
 (∀ (j:Nat) (kv:Key × V),kvs[j]?=some kv -> ∃ b,ps[j]?=some (.ref b) /\ SqT K H b [kV kv.1,kv.2]) /\ SqT K H aa as /\ as.length=qs.length /\ qs.length <= 900 /\ (∀ (j:Nat) (q:Str × Int × V),qs[j]?=some q -> ∃ b,as[j]?=some (.ref b) /\ SqT K H b [.str q.1,.int q.2.1,q.2.2]) /\
 ∀ (d l:Addr) (H':Hp),H d=none -> H l=none -> aU K C H' T d l (aO kvs) (bp qs) -> But T H H' -> Q .non H'
theorem j8 (qs:List (Str × Int × V)):∀ m:Las,(qs.foldl (fun m q=>fU m (Sum.inr q.1) q.2) m).length <= m.length + qs.length:=by
 induction qs with
 | nil=>intro m; exact Nat.le_refl _
 | cons q r ih =>
  intro m
  have:=ih (fU m (Sum.inr q.1) q.2)
  have:=mO m (Sum.inr q.1) q.2
  simp only [List.foldl_cons,List.length_cons]
  lia
section
variable {P:Program} {w:World} {K:PySem.W.Frag} {mg:Str -> Option Value} {base:Heap}
abbrev nInit:List Str:=["self","held","asked","asker","number","answer"]
theorem kM:ax nInit ["self","held","asked"] (am j6):=fsc (by decide +kernel)
theorem kN {f C:Addr} {fd:FuncData} (F:Fun K "__init__" "Table.__init__" j6 f fd) (T:Cl K mg C) (B:Blt mg):aP P w K mg base CX0 1 f fd ["self","held","asked"] (fj K C):=by
 refine F.ok kM (fun vs H Q E h=>?_) (fun cdv A outer s H vs Q E hr h=>?_)
 ·obtain ⟨T',dx,hh,aa,o,ps,as,kvs,qs,rfl,_⟩:=h
  rfl
 ·obtain ⟨T',dx,hh,aa,o,ps,as,kvs,qs,rfl,hT,hh1,ho,hpl,hps,haa,hal,hq9,has,q⟩:=h
  have hu:=gX hr
  have nd:=kM.nd
  refine ⟨_,ae (bg (pv 0) (bc (jX rfl) (by rfl) B.dict bDict (ad (pv 1) ag)) rfl)
   (ae (bg (pv 0) iQ rfl)
   (aj (dX PassesOwn.never rfl (fS (pv 2)) (cL rfl (az (au (i:=3) nd rfl (Or.inl rfl)) (az (au (i:=4) nd rfl (Or.inl rfl)) (az (au (i:=5) nd rfl (Or.inl rfl)) bV))))
    (aj (d9 hu (aG (pv 0) rfl) (pv 3) (dF (ad (pv 4) (ad (pv 5) ag))) rfl))))),?_⟩
  dsimp only [bj,Cx.nox]
  refine ah fun K_ hK_=>?_
  refine ⟨_,rfl,ex4 hh o ps kvs ⟨rfl,hh1,ho,hpl,hps,fun d hd=>?_⟩⟩
  have hT1:=(ar.new (o:=.dK (aO kvs)) hd) _ _ hT
  refine ⟨_,rfl,T',C,dx,[],rfl,hT1,T.cl,T.nH,(by show 0 < 1000; decide),?_⟩
  have nTd:T' ≠ d:=ak hT hd
  refine hK_ _ _ (ah fun K_ hK_=>?_)
  intro l hl
  have nTl:T' ≠ l:=ak ai hl
  have hlH:H l=none:=by
   rw [aw nTl.symm] at hl
   exact (ar.new (o:=.dK (aO kvs)) hd).none hl
  have ndl:d ≠ l:=by
   rintro rfl
   rw [aw nTl.symm,ai] at hl
   cases hl
  refine ⟨_,rfl,ex4 T' C dx _ ⟨rfl,(by rw [aw nTl]; exact ai),T.cl,T.nL,(by show 1 < 1000; decide),?_⟩⟩
  have eX:∃ H3,H3=upd (upd (upd (upd H d (.dK (aO kvs))) T' (.ins C dx (aL "held" (.ref d) []))) l (.dK [])) T' (.ins C dx (cW d l)):=⟨_,rfl⟩
  obtain ⟨H3,e3⟩:=eX
  have b3:But T' H H3:=fun b o' e hb=>by
   rw [e3,aw hb,aw (ak e hlH),aw hb,aw (ak e hd)]
   exact e
  have sqB:∀ {H4:Hp} {b:Addr} {xs:List V},But T' H H4 -> SqT K H b xs -> SqT K H4 b xs:=fun bt h=>by
   rcases h with (h | ⟨o',h⟩) | h
   ·exact .inl (.inl (bt _ _ h (aM h hT (by intro z; cases z))))
   ·exact .inl (.inr ⟨o',bt _ _ h (aM h hT (by intro z; cases z))⟩)
   ·exact .inr h
  refine hK_ _ _ ?_
  refine ⟨_,rfl,aa,rfl,⟨as,?_⟩,ky (K:=K) (a:=aa) (xs:=as) (fun i σ H4=>∃ (u v w':Option V),σ=[some (.ref T'),some (.ref hh),some (.ref aa),u,v,w'] /\ But T' H H4 /\ aU K C H4 T' d l (aO kvs) ((qs.take i).foldl (fun m q=>fU m (Sum.inr q.1) q.2) []))
   ⟨none,none,none,rfl,?_,?_⟩ (fun i σ H4 _ ⟨_,_,_,_,bt,_⟩=>sqB bt haa) ?_ ?_⟩
  ·have:=sqB b3 haa
   rw [e3] at this
   exact this
  ·rw [e3] at b3
   exact b3
  ·refine ⟨⟨dx,ai⟩,?_,⟨[],?_,.nil⟩,ndl⟩
   ·rw [aw nTd.symm,aw ndl,aw nTd.symm]
    exact ai
   ·rw [aw nTl.symm]
    exact ai
  ·rintro i y σ H4 hy ⟨u,v,w',rfl,bt,S⟩
   have hi:i < as.length:=(List.getElem?_eq_some_iff.mp hy).1
   obtain ⟨q',hq'⟩:∃ q',qs[i]?=some q':=⟨_,List.getElem?_eq_getElem (by lia)⟩
   obtain ⟨b,hb,hbt⟩:=has i q' hq'
   rw [hb] at hy
   cases hy
   have et:qs.take (i + 1)=qs.take i ++ [q']:=by rw [List.take_add_one,hq']; rfl
   obtain ⟨⟨dx',h1⟩,hd4,⟨lk,hl4,lr⟩,_⟩:=id S
   refine ⟨b,_,rfl,sqB bt hbt,rfl,_,_,rfl,_,_,rfl,_,_,rfl,rfl,?_⟩
   refine ⟨_,rfl,_,rfl,(by show 2 <= sizeLine; decide),fun t ht=>?_⟩
   have h1':=(ar.new (o:=.tup [V.int q'.2.1,q'.2.2]) ht) _ _ h1
   have hl':=(ar.new (o:=.tup [V.int q'.2.1,q'.2.2]) ht) _ _ hl4
   have hd':=(ar.new (o:=.tup [V.int q'.2.1,q'.2.2]) ht) _ _ hd4
   have hlen:lk.length < sizeLine:=by
    have h2:=j8 (qs.take i) []
    rw [<- lr.len,List.length_take] at h2
    exact bA (by simp at h2; lia)
   refine ⟨_,rfl,ex5 T' C dx' _ _ ⟨rfl,h1',T.cl,T.nL,fh _ _,_,rfl,l,_,rfl,fI.k (k:=Sum.inr q'.1) hl' hlen,?_⟩⟩
   refine (ex3 _ _ _ ⟨rfl,fun c o' e hc=>?_,⟨dx',?_⟩,?_,⟨bX lk (Sum.inr q'.1) (.ref t),ai,?_⟩,ndl⟩)
   ·rw [aw (ak e hlH)]
    exact (ar.new ht) _ _ (bt _ _ e hc)
   ·rw [aw nTl]; exact h1'
   ·rw [aw ndl]; exact hd'
   ·rw [et,List.foldl_append]
    exact LR.put (lr.mono fun t' xs e=>(SqT.same (.new ht) e).upd hl') (Sum.inr q'.1) (SqT.upd (SqT.of ai) hl')
  ·rintro σ H4 ⟨u,v,w',rfl,bt,S⟩
   rw [hal,List.take_length] at S
   exact q d l H4 hd hlH S bt
end
theorem valV_G (kvs:Kvs) (k:Key):bG kvs k=cI kvs k:=rfl
structure ci (kvs:Kvs) (las:Las):Prop where
 gk:cV kvs
 gl:cV las
 ik:kJ kvs
 fl:∀ k q,cX las k=some q -> q.2=.non \/ ∃ i:Int,q.2=.int i
structure Eqv (kvs:Kvs) (las:Las) (kvs':Kvs) (las':Las):Prop where
 k:∀ j,bG kvs j=bG kvs' j
 l:∀ j,cX las j=cX las' j
theorem Eqv.lastN {kvs kvs':Kvs} {las las':Las} (e:Eqv kvs las kvs' las') (x:Str):lastN las x=lastN las' x:=by unfold K41T.lastN; rw [e.l]
theorem Eqv.lastA {kvs kvs':Kvs} {las las':Las} (e:Eqv kvs las kvs' las') (x:Str):lastA las x=lastA las' x:=by unfold K41T.lastA; rw [e.l]
theorem ci.step {kvs:Kvs} {las:Las} (h:ci kvs las) (x:Str) (n:Int) (wk:Wk):ci (cm kvs las x n wk) (dv kvs las x n wk):=by
 unfold cm dv
 split
 ·exact h
 ·split
  ·exact h
  ·refine ⟨?_,h.gl.put x _,h.ik.to wk,fun k q e=>?_⟩
   ·cases wk with
    | put a n=>exact h.gk.put a _
    | add a n=>exact h.gk.put a _
    | drop a=>exact h.gk.drop _
   ·rw [ub] at e
    split at e
    ·cases e; exact h.ik.ans wk
    ·exact h.fl k q e
theorem ci.empty:ci [] []:=⟨⟨fun p hp=>(by cases hp),List.nodup_nil⟩,⟨fun p hp=>(by cases hp),List.nodup_nil⟩,fun k v e=>(by cases e),fun k q e=>(by cases e)⟩
def i3 (kvs:Kvs) (ss:List Str):List (Str × V):=ss.map fun k=>(k,(bG kvs (Sum.inr k)).getD .non)
def gI (las:Las) (tt:List Str):List (Str × Int × V):=tt.map fun x=>(x,lastN las x,lastA las x)
structure cv (kvs:Kvs) (las:Las) (ps:List (Str × V)) (qs:List (Str × Int × V)):Prop where
 h:∃ ss:List Str,ss.Perm (cD kvs) /\ ss.Pairwise leS /\ ps=i3 kvs ss
 a:∃ tt:List Str,tt.Perm (cD las) /\ tt.Pairwise leS /\ qs=gI las tt
theorem cv.one {kvs kvs':Kvs} {las las':Las} {ps ps':List (Str × V)} {qs qs':List (Str × Int × V)} (o:ci kvs las) (o':ci kvs' las') (e:Eqv kvs las kvs' las') (h:cv kvs las ps qs) (h':cv kvs' las' ps' qs'):ps=ps' /\ qs=qs':=by
 obtain ⟨⟨ss,s1,s2,s3⟩,tt,t1,t2,t3⟩:=h
 obtain ⟨⟨ss',s1',s2',s3'⟩,tt',t1',t2',t3'⟩:=h'
 have es:ss=ss':=iY s2 s2' (s1.trans ((j5 o.gk o'.gk fun k=>e.k k).trans s1'.symm))
 have et:tt=tt':=iY t2 t2' (t1.trans ((j5 o.gl o'.gl fun k=>e.l k).trans t1'.symm))
 subst es et s3 t3 s3' t3'
 refine ⟨?_,?_⟩
 ·unfold i3
  exact List.map_congr_left fun k _=>by rw [e.k]
 ·unfold gI
  exact List.map_congr_left fun k _=>by rw [e.lastN,e.lastA]
abbrev gJ (ps:List (Str × V)):List (Key × V):=ps.map fun p=>(Sum.inr p.1,p.2)
theorem cv.made {kvs:Kvs} {las:Las} {ps:List (Str × V)} {qs:List (Str × Int × V)} (o:ci kvs las) (h:cv kvs las ps qs) :
  Eqv (aO (gJ ps)) (bp qs) kvs las /\ ci (aO (gJ ps)) (bp qs) /\ (aO (gJ ps)).length <= kvs.length /\ (bp qs).length <= las.length:=by
 obtain ⟨⟨ss,s1,s2,s3⟩,tt,t1,t2,t3⟩:=h
 subst s3 t3
 have e1:aO (gJ (i3 kvs ss))=(ss.map fun k=>((Sum.inr k:Key),(bG kvs (Sum.inr k)).getD .non)).foldl (fun m kv=>fM m kv.1 kv.2) []:=by
  unfold aO i3 gJ
  rw [List.map_map]
  rfl
 have e2:bp (gI las tt)=(tt.map fun k=>((Sum.inr k:Key),(lastN las k,lastA las k))).foldl (fun m kv=>fM m kv.1 kv.2) []:=by
  unfold bp gI
  rw [List.foldl_map,List.foldl_map]
  rfl
 obtain ⟨g1,g2⟩:=tV o.gk s1 (fun k=>(bG kvs (Sum.inr k)).getD .non) (fun x v e=>by rw [valV_G,e]; rfl)
 obtain ⟨f1,f2⟩:=tV o.gl t1 (fun k=>(lastN las k,lastA las k)) (fun x v e=>by
  have e:cX las (Sum.inr x)=some v:=e
  unfold lastN lastA
  rw [e])
 rw [e1,e2]
 have hk:∀ j,bG ((ss.map fun k=>((Sum.inr k:Key),(bG kvs (Sum.inr k)).getD .non)).foldl (fun m kv=>fM m kv.1 kv.2) []) j=bG kvs j:=g1
 have hl:∀ j,cX ((tt.map fun k=>((Sum.inr k:Key),(lastN las k,lastA las k))).foldl (fun m kv=>fM m kv.1 kv.2) []) j=cX las j:=f1
 refine ⟨⟨hk,hl⟩,⟨g2,f2,fun k v e=>o.ik k v (by rw [<- hk]; exact e),fun k q e=>o.fl k q (by rw [<- hl]; exact e)⟩,?_,?_⟩
 ·refine Nat.le_trans (mK _ _) ?_
  have h2:=s1.length_eq
  unfold cD at h2
  rw [List.length_map] at h2
  rw [List.length_nil,List.length_map]
  lia
 ·refine Nat.le_trans (mK _ _) ?_
  have h2:=t1.length_eq
  unfold cD at h2
  rw [List.length_map] at h2
  rw [List.length_nil,List.length_map]
  lia
def KeepN (H H':Hp):Prop:=∀ b o,H b=some o -> (∀ m,o ≠ .dK m) -> H' b=some o
def cb (H:Hp) (p:Addr) (ps:List (Str × V)) (qs:List (Str × Int × V)):Prop:=∃ (ph pa:Addr) (oh oa:Obj) (hs as:List V),H p=some (.tup [.ref ph,.ref pa]) /\ H ph=some (.frz oh (.tup hs)) /\ oh.dict=none /\ H pa=some (.frz oa (.tup as)) /\ hs.length=ps.length /\ as.length=qs.length /\
 (∀ (j:Nat) (kv:Str × V),ps[j]?=some kv -> ∃ b,hs[j]?=some (.ref b) /\ H b=some (.tup [.str kv.1,kv.2])) /\ (∀ (j:Nat) (q:Str × Int × V),qs[j]?=some q -> ∃ b,as[j]?=some (.ref b) /\ H b=some (.tup [.str q.1,.int q.2.1,q.2.2]))
theorem cb.keepN {H H':Hp} {p:Addr} {ps:List (Str × V)} {qs:List (Str × Int × V)} (h:cb H p ps qs) (e:KeepN H H'):cb H' p ps qs:=by
 obtain ⟨ph,pa,oh,oa,hs,as,h1,h2,h3,h4,h5,h6,h7,h8⟩:=h
 refine ⟨ph,pa,oh,oa,hs,as,e _ _ h1 (by intro m z; cases z),e _ _ h2 (by intro m z; cases z),h3,e _ _ h4 (by intro m z; cases z),h5,h6,fun j kv q=>?_,fun j kv q=>?_⟩
 ·obtain ⟨b,b1,b2⟩:=h7 j kv q
  exact ⟨b,b1,e _ _ b2 (by intro m z; cases z)⟩
 ·obtain ⟨b,b1,b2⟩:=h8 j kv q
  exact ⟨b,b1,e _ _ b2 (by intro m z; cases z)⟩
theorem cv.flat {kvs:Kvs} {las:Las} {ps:List (Str × V)} {qs:List (Str × Int × V)} (o:ci kvs las) (h:cv kvs las ps qs):(∀ p ∈ ps,p.2=.non \/ ∃ i:Int,p.2=.int i) /\ ∀ q ∈ qs,q.2.2=.non \/ ∃ i:Int,q.2.2=.int i:=by
 obtain ⟨⟨ss,s1,s2,rfl⟩,tt,t1,t2,rfl⟩:=h
 refine ⟨fun p hp=>?_,fun q hq=>?_⟩
 ·obtain ⟨k,_,rfl⟩:=List.mem_map.mp hp
  dsimp only
  cases e:bG kvs (Sum.inr k:Key) with
  | none=>exact .inl rfl
  | some v=>obtain ⟨i,rfl⟩:=o.ik _ _ e; exact .inr ⟨i,rfl⟩
 ·obtain ⟨k,_,rfl⟩:=List.mem_map.mp hq
  dsimp only
  unfold lastA
  cases e:cX las (Sum.inr k:Key) with
  | none=>exact .inl rfl
  | some v=>exact o.fl _ _ e
end K41T
namespace L2
open PySem PySem.Spec PyProof.Rows
theorem kO {X:Cx} {scope:Scope} {cl:List (Str × Addr)} {N2 ys:List Str} {C:Addr} {s:Shared} {H:Hp} {fp:List Addr} {e:Expr} {f:Str} {pos:Pos} {ta:TE} (he:PE (cxC X scope cl N2 ys C s H fp) e ta)
  (hb:attributeBase e f (cxC X scope cl N2 ys C s H fp).env (eval e (cxC X scope cl N2 ys C s H fp).env)=eval e (cxC X scope cl N2 ys C s H fp).env):PE (cxC X scope cl N2 ys C s H fp) (.Attribute e f pos) (tFld X.K ta f):=aG he hb
theorem kQ {K:PySem.W.Frag} {a:Addr} {ss:List Str} {k:Nat} {σ:St} {H1:Hp} {te:TE} {Q:VK} (row:Str -> List V) (hk:σ.length=k) (hq:SqL K H1 a (ss.map V.str)) (hz:ss.length <= 900)
  (turn:∀ (x:Str) (H':Hp) (post:VK),x ∈ ss -> ar H1 H' -> (∀ t,H' t=none -> post (.ref t) (upd H' t (.tup (row x)))) -> te (σ ++ [some (.str x)]) H' post)
  (fin:∀ (D:Addr) (bs:List Addr) (H':Hp),H1 D=none -> ar H1 H' -> H' D=some (.lst (bs.map V.ref)) -> bs.length=ss.length -> (∀ (j:Nat) (x:Str),ss[j]?=some x -> ∃ b,bs[j]?=some b /\ H' b=some (.tup (row x))) -> Q (.ref D) H') :
  LCT 1 (ga k) kE te σ Q (Itl K a) H1:=by
 refine lcJ (n:=ss.length) (fun i=>.str (ss.getD i "")) (fun D i ys H=>H1 D=none /\ ar H1 H /\ H D=some (.lst ys) /\ ∃ bs:List Addr,ys=bs.map V.ref /\ bs.length=i /\ ∀ (j:Nat) (x:Str),j < i -> ss[j]?=some x -> ∃ b,bs[j]?=some b /\ H b=some (.tup (row x))) hk ?_ ?_ ?_ ?_ ?_ ?_
 ·rintro D i ys H hi ⟨h1,h2,_⟩
  exact ⟨_,V.str ss[i],h2.seq hq,by rw [List.getElem?_map,List.getElem?_eq_getElem hi]; rfl⟩
 ·rintro D i ys H x H' hi ⟨h1,h2,_⟩ ⟨e,y⟩
  refine ⟨e,?_⟩
  have:=y _ (h2.seq hq)
  rw [List.getElem?_map,List.getElem?_eq_getElem hi] at this
  rw [List.getD_eq_getElem?_getD,List.getElem?_eq_getElem hi]
  exact (Option.some.inj this).symm
 ·rintro D ys H ⟨h1,h2,_⟩
  exact ⟨_,h2.seq hq,by rw [List.length_map]; exact Nat.le_refl _⟩
 ·intro D hD
  exact ⟨hD,.new hD,ai,[],rfl,rfl,fun j x hj=>absurd hj (Nat.not_lt_zero _)⟩
 ·rintro D i ys H post hi ⟨h1,h2,h3,bs,rfl,hbl,hbs⟩ hp
  have hx:ss[i]?=some (ss.getD i ""):=by rw [List.getD_eq_getElem?_getD,List.getElem?_eq_getElem hi]; rfl
  refine turn _ H post (List.mem_of_getElem? hx) h2 fun t ht=>?_
  have nDt:D ≠ t:=ak h3 ht
  refine hp (.ref t) _ (by rw [aw nDt]; exact h3) (by rw [List.length_map]; exact bA (by lia)) ⟨h1,fun b o e=>?_,ai,bs ++ [t],by rw [List.map_append]; rfl,by rw [List.length_append,hbl]; rfl,fun j x hj hx'=>?_⟩
  ·rw [aw (ak e h1),aw (ak (h2 _ _ e) ht)]
   exact h2 _ _ e
  ·by_cases hji:j < i
   ·obtain ⟨b,b1,b2⟩:=hbs j x hji hx'
    refine ⟨b,by rw [List.getElem?_append_left (by lia)]; exact b1,?_⟩
    have nbD:b ≠ D:=by rintro rfl; rw [h3] at b2; cases b2
    rw [aw nbD,aw (ak b2 ht)]
    exact b2
   ·have e:j=i:=by lia
    subst e
    rw [hx] at hx'
    cases hx'
    refine ⟨t,by rw [List.getElem?_append_right (by lia),hbl,Nat.sub_self]; rfl,?_⟩
    rw [aw nDt.symm]
    exact ai
 ·rintro D ys H ⟨h1,h2,h3,bs,rfl,hbl,hbs⟩
  exact fin D bs H h1 h2 h3 hbl fun j x hx=>hbs j x (List.getElem?_eq_some_iff.mp hx).1 hx
end L2
namespace K41T
open PySem L2 KM
abbrev mQ:Stmt:=aT (top 89) 5
def kR (K:PySem.W.Frag) (C:Addr):Sp:=fun vs H Q _=>∃ (T d l:Addr) (kvs:Kvs) (las:Las),vs=[.ref T] /\ aU K C H T d l kvs las /\ ci kvs las /\ kvs.length < 64 /\ las.length < 64 /\
 ∀ (p:Addr) (ps:List (Str × V)) (qs:List (Str × Int × V)) (H':Hp),ar H H' -> cb H' p ps qs -> cv kvs las ps qs -> Q (.ref p) H'
theorem LR.keys {K:PySem.W.Frag} {H:Hp} {lk:Kvs} {las:Las} (r:LR K H lk las):lk.map (·.1)=las.map (·.1):=by
 induction r with
 | nil=>rfl
 | cons h t ih=>rw [List.map_cons,List.map_cons,ih,h.1]
theorem kS {H:Hp} {p ph pa:Addr} {oh oa:Obj} {kvs:Kvs} {las:Las} {ss tt:List Str} {bs cs:List Addr} (h1:H p=some (.tup [.ref ph,.ref pa])) (h2:H ph=some (.frz oh (.tup (bs.map V.ref)))) (h3:oh.dict=none) (h4:H pa=some (.frz oa (.tup (cs.map V.ref))))
  (hb:bs.length=ss.length) (hc:cs.length=tt.length) (hbs:∀ (j:Nat) (x:Str),ss[j]?=some x -> ∃ b,bs[j]?=some b /\ H b=some (.tup [.str x,(bG kvs (Sum.inr x)).getD .non]))
  (hcs:∀ (j:Nat) (x:Str),tt[j]?=some x -> ∃ b,cs[j]?=some b /\ H b=some (.tup [.str x,.int (lastN las x),lastA las x])):cb H p (i3 kvs ss) (gI las tt):=by
 refine ⟨ph,pa,oh,oa,_,_,h1,h2,h3,h4,by unfold i3; rw [List.length_map,List.length_map,hb],by unfold gI; rw [List.length_map,List.length_map,hc],fun j kv e=>?_,fun j q e=>?_⟩
 ·unfold i3 at e
  rw [List.getElem?_map] at e
  cases es:ss[j]? with
  | none=>rw [es] at e; cases e
  | some x =>
   rw [es] at e
   cases e
   obtain ⟨b,b1,b2⟩:=hbs j x es
   exact ⟨b,by rw [List.getElem?_map,b1]; rfl,b2⟩
 ·unfold gI at e
  rw [List.getElem?_map] at e
  cases es:tt[j]? with
  | none=>rw [es] at e; cases e
  | some x =>
   rw [es] at e
   cases e
   obtain ⟨b,b1,b2⟩:=hcs j x es
   exact ⟨b,by rw [List.getElem?_map,b1]; rfl,b2⟩
section
variable {P:Program} {w:World} {K:PySem.W.Frag} {mg:Str -> Option Value} {base:Heap}
abbrev i5:List Str:=["self","held","asked"]
theorem uf:ax i5 ["self"] (am mQ):=fsc (by decide +kernel)
theorem ndTK:(i5 ++ (["key"]:List Str)).Nodup:=by decide +kernel
theorem ndTA:(i5 ++ (["asker"]:List Str)).Nodup:=by decide +kernel
theorem ok_told {f C:Addr} {fd:FuncData} (F:Fun K "told" "Table.told" mQ f fd) (T:Cl K mg C) (B:Blt mg):aP P w K mg base CX0 1 f fd ["self"] (kR K C):=by
 refine F.ok uf (fun vs H Q E h=>?_) (fun cdv A outer s H vs Q E hr h=>?_)
 ·obtain ⟨T',d,l,kvs,las,rfl,_⟩:=h
  rfl
 ·obtain ⟨T',d,l,kvs,las,rfl,S,ok,hk64,hl64,q⟩:=h
  have hu:=gX hr
  have nd:=uf.nd
  obtain ⟨⟨dx,h1⟩,hd,⟨lk,hl,lr⟩,hne⟩:=id S
  refine ⟨_,ae (aB (i:=1) nd rfl (Or.inl rfl) (bc fz (by rfl) B.tuple ca (ad (fb i5 i5 ["key"] (am mQ) rfl rfl rfl (by decide +kernel) rfl rfl (by decide +kernel) (by decide +kernel) (by decide +kernel) (by decide +kernel)
    (eJ (aA (eM rfl) (by rfl) B.sorted ix (ad (aG (pv 0) rfl) ag))) (fun _ _ _ _ _=>au (i:=3) ndTK rfl (Or.inl rfl)) (fun _ _ _ _ _=>cr)
    (fun _ _ _ _ _=>dF (ad (pv 3) (ad (de hu (kO (pv 0) rfl) (pv 3) (fun _ _=>rfl)) ag)))) ag))) <|
   ae (aB (i:=2) nd rfl (Or.inl rfl) (bc fz (by rfl) B.tuple ca (ad (fb i5 i5 ["asker"] (am mQ) rfl rfl rfl (by decide +kernel) rfl rfl (by decide +kernel) (by decide +kernel) (by decide +kernel) (by decide +kernel)
    (eJ (aA (eM rfl) (by rfl) B.sorted ix (ad (aG (pv 0) rfl) ag))) (fun _ _ _ _ _=>au (i:=3) ndTA rfl (Or.inl rfl)) (fun _ _ _ _ _=>cr)
    (fun _ _ _ _ _=>dF (ad (pv 3) (ad (aq eO (de hu (kO (pv 0) rfl) (pv 3) (fun _ _=>rfl)) af (fun _ _=>rfl)) (ad (aq eO (de hu (kO (pv 0) rfl) (pv 3) (fun _ _=>rfl)) af (fun _ _=>rfl)) ag))))) ag))) <|
   aj <| ay <| dF <| ad (pv 1) <| ad (pv 2) ag,?_⟩
  dsimp only [bj,Cx.nox]
  have kk:=ok.gk.keys
  have hlk:lk.map (·.1)=(cD las).map Sum.inr:=by rw [<- ok.gl.keys]; exact lr.keys
  refine ah fun K_ hK_=>?_
  refine ⟨_,rfl,ex5 T' C dx _ _ ⟨rfl,h1,T.cl,T.nH,fg _ _,d,kvs,cD kvs,rfl,hd,kk,hk64,fun p1 ss hp1 pm1 pw1=>?_⟩⟩
  refine ⟨p1,rfl,⟨_,SqL.of ai⟩,?_⟩
  have s1:ar H (upd H p1 (.lst (ss.map V.str))):=.new hp1
  have hsl:ss.length < 64:=by rw [pm1.length_eq]; unfold cD; rw [List.length_map]; exact hk64
  refine kQ (ss:=ss) (fun x=>[.str x,(bG kvs (Sum.inr x)).getD .non]) ?_ ?_ ?_ ?_ ?_
  ·rfl
  ·exact SqL.of ai
  ·lia
  ·intro x H' post hx sm hpost
   have s1':=s1.trans sm
   obtain ⟨v,hv⟩:∃ v,bG kvs (Sum.inr x)=some v:=Option.isSome_iff_exists.mp (cw.mp (ok.gk.mem.mp (pm1.mem_iff.mp hx)))
   refine ⟨_,rfl,_,rfl,ex5 T' C dx _ _ ⟨rfl,s1' _ _ h1,T.cl,T.nH,fg _ _,_,rfl,d,v,rfl,?_,(by show 2 <= sizeLine; decide),fun t ht=>?_⟩⟩
   ·have:=cM.k (H:=H') (k:=Sum.inr x) (s1' _ _ hd)
    rw [hv] at this
    exact this
   ·have:=hpost t ht
    rw [hv] at this
    exact this
  intro D bs H2 hD s2 hD2 hbl hbs
  refine ⟨D,_,rfl,SqL.of hD2,fun ph oh hph hoh=>?_⟩
  have s3:ar H (upd H2 ph (.frz oh (.tup (bs.map V.ref)))):=s1.trans (s2.trans (.new hph))
  have sph:ar H2 (upd H2 ph (.frz oh (.tup (bs.map V.ref)))):=.new hph
  have hph3:upd H2 ph (.frz oh (.tup (bs.map V.ref))) ph=some (.frz oh (.tup (bs.map V.ref))):=ai
  refine hK_ _ _ (ah fun K_ hK_=>?_)
  generalize upd H2 ph (.frz oh (.tup (bs.map V.ref)))=H3 at s3 sph hph3
  refine ⟨_,rfl,ex5 T' C dx _ _ ⟨rfl,s3 _ _ h1,T.cl,T.nL,fh _ _,l,lk,cD las,rfl,s3 _ _ hl,hlk,(by rw [lr.len]; exact hl64),fun p2 tt hp2 pm2 pw2=>?_⟩⟩
  refine ⟨p2,rfl,⟨_,SqL.of ai⟩,?_⟩
  have s4:ar H3 (upd H3 p2 (.lst (tt.map V.str))):=.new hp2
  have htl:tt.length < 64:=by rw [pm2.length_eq]; unfold cD; rw [List.length_map]; exact hl64
  refine kQ (ss:=tt) (fun x=>[.str x,.int (lastN las x),lastA las x]) ?_ ?_ ?_ ?_ ?_
  ·rfl
  ·exact SqL.of ai
  ·lia
  ·intro x H' post hx sm hpost
   have s1':=s3.trans (s4.trans sm)
   have hm:(cX las (Sum.inr x)).isSome=true:=cw.mp (ok.gl.mem.mp (pm2.mem_iff.mp hx))
   rcases lr.val (Sum.inr x) with ⟨_,e2⟩ | ⟨tx,q',e1,e2,e3⟩
   ·rw [e2] at hm; cases hm
   ·have hN:lastN las x=q'.1:=by unfold lastN; rw [e2]
    have hA:lastA las x=q'.2:=by unfold lastA; rw [e2]
    have hg:cM H' l (.str x) (some (.ref tx)):=by
     have:=cM.k (H:=H') (k:=Sum.inr x) (s1' _ _ hl)
     rw [e1] at this
     exact this
    refine ⟨_,rfl,_,rfl,ex5 T' C dx _ _ ⟨rfl,s1' _ _ h1,T.cl,T.nL,fh _ _,_,rfl,l,_,rfl,hg,ex4 tx _ _ _ ⟨rfl,rfl,SqT.same s1' e3,rfl,?_⟩⟩⟩
    refine ⟨_,rfl,ex5 T' C dx _ _ ⟨rfl,s1' _ _ h1,T.cl,T.nL,fh _ _,_,rfl,l,_,rfl,hg,ex4 tx _ _ _ ⟨rfl,rfl,SqT.same s1' e3,rfl,(by show 3 <= sizeLine; decide),fun t ht=>?_⟩⟩⟩
    have:=hpost t ht
    rw [hN,hA] at this
    exact this
  intro D2 cs H4 hD2' s5 hD4 hcl hcs
  refine ⟨D2,_,rfl,SqL.of hD4,fun pa oa hpa hoa=>?_⟩
  refine hK_ _ _ ?_
  refine ⟨_,rfl,_,rfl,(by show 2 <= sizeLine; decide),fun p hp=>?_⟩
  have s35:ar H3 (upd (upd H4 pa (.frz oa (.tup (cs.map V.ref)))) p (.tup [V.ref ph,V.ref pa])):=s4.trans (s5.trans ((ar.new hpa).trans (.new hp)))
  have s45:ar H4 (upd (upd H4 pa (.frz oa (.tup (cs.map V.ref)))) p (.tup [V.ref ph,V.ref pa])):=(ar.new hpa).trans (.new hp)
  refine q p (i3 kvs ss) (gI las tt) _ (s3.trans s35) (kS ai (s35 _ _ hph3) hoh ((ar.new hp) _ _ ai) hbl hcl (fun j x hx=>?_) (fun j x hx=>?_)) ⟨⟨ss,pm1,pw1,rfl⟩,tt,pm2,pw2,rfl⟩
  ·obtain ⟨b,b1,b2⟩:=hbs j x hx
   exact ⟨b,b1,s35 _ _ (sph _ _ b2)⟩
  ·obtain ⟨b,b1,b2⟩:=hcs j x hx
   exact ⟨b,b1,s45 _ _ b2⟩
end
end K41T
namespace K41
open PySem L2
abbrev oH:Stmt:=aT (top 73) 0
abbrev j9:Stmt:=aT (top 73) 5
abbrev oI:Stmt:=aT (top 91) 0
abbrev oJ:Stmt:=aT (top 91) 1
abbrev sFS:Stmt:=top 35
abbrev sFW:Stmt:=top 92
def BtO (o:Addr) (H H':Hp):Prop:=∀ b u,b ≠ o -> H b=some u -> H' b=some u
theorem BtO.refl (o:Addr) (H:Hp):BtO o H H:=fun _ _ _ e=>e
theorem BtO.of {o:Addr} {H H':Hp} (s:ar H H'):BtO o H H':=fun _ _ _ e=>s _ _ e
theorem BtO.trans {o:Addr} {H H1 H2:Hp} (a:BtO o H H1) (b:BtO o H1 H2):BtO o H H2:=fun c u n e=>b c u n (a c u n e)
theorem BtO.upd {o:Addr} {H:Hp} {u:HO}:BtO o H (L2.upd H o u):=fun b v n e=>by rw [aw n]; exact e
abbrev flR (st en:Addr):List (Str × V):=aL "entries" (.ref en) (aL "stand" (.ref st) [])
abbrev flW (t:Int) (v:V) (s:Int) (kr:Addr):List (Str × V):=aL "kept_row" (.ref kr) (aL "settled_place" (.int s) (aL "vote" v (aL "term" (.int t) [])))
structure ClR (K:PySem.W.Frag) (mg:Str -> Option Value) (C:Addr):Prop where
 cl:Cls K C
 nS:bx K C "stand"
 nE:bx K C "entries"
 mgC:mg "Row"=some (.ref C)
structure ClW (K:PySem.W.Frag) (mg:Str -> Option Value) (C:Addr):Prop where
 cl:Cls K C
 nT:bx K C "term"
 nV:bx K C "vote"
 nS:bx K C "settled_place"
 nK:bx K C "kept_row"
 mgC:mg "Written"=some (.ref C)
def kU (K:PySem.W.Frag) (C:Addr):Sp:=fun us H Q _=>∃ (r dx st en:Addr) (ys:List V),us=[.ref r,.ref st,.ref en] /\ H r=some (.ins C dx []) /\ SqT K H en ys /\ ∀ H',BtO r H H' -> H' r=some (.ins C dx (flR st en)) -> Q .non H'
def RowO (C:Addr) (H:Hp) (r st en:Addr):Prop:=∃ dx,H r=some (.ins C dx (flR st en))
def WrO (CW CR:Addr) (H:Hp) (o:Addr) (t:Int) (v:V) (s:Int) (kr st en:Addr):Prop:=(∃ dx,H o=some (.ins CW dx (flW t v s kr))) /\ RowO CR H kr st en
theorem WrO.same {CW CR:Addr} {H H':Hp} {o:Addr} {t:Int} {v:V} {s:Int} {kr st en:Addr} (e:ar H H') (h:WrO CW CR H o t v s kr st en):WrO CW CR H' o t v s kr st en:=by
 obtain ⟨⟨dx,h1⟩,dy,h2⟩:=h
 exact ⟨⟨dx,e _ _ h1⟩,dy,e _ _ h2⟩
theorem WrO.bto {CW CR:Addr} {H H':Hp} {o:Addr} {t:Int} {v:V} {s:Int} {kr st en x C2 dz:Addr} (hx:H x=some (.ins C2 dz [])) (e:BtO x H H') (h:WrO CW CR H o t v s kr st en):WrO CW CR H' o t v s kr st en:=by
 obtain ⟨⟨dx,h1⟩,dy,h2⟩:=h
 have n1:o ≠ x:=aM h1 hx (by intro z; cases z)
 have n2:kr ≠ x:=aM h2 hx (by intro z; cases z)
 exact ⟨⟨dx,e _ _ n1 h1⟩,dy,e _ _ n2 h2⟩
def StO (K:PySem.W.Frag) (H:Hp) (st:Addr) (pl tm:Int) (b hh aa:Addr):Prop:=SqT K H st [.int pl,.int tm,.ref b,.ref hh,.ref aa]
def fV (K:PySem.W.Frag) (C:Addr):Sp:=fun us H Q _=>∃ (r st en b hh aa:Addr) (pl tm p:Int) (ys:List V),us=[.ref r,.int p] /\ RowO C H r st en /\ StO K H st pl tm b hh aa /\ H en=some (.tup ys) /\ pl <= p /\ ∀ (a:Addr) (H':Hp),ar H H' -> H' a=some (.tup (ys.take (p - pl).toNat)) -> Q (.ref a) H'
def iy (K:PySem.W.Frag) (CW CR:Addr):Sp:=fun us H Q _=>∃ (o dx p st en:Addr) (t s:Int) (v:V) (ys:List V),us=[.ref o,.ref p] /\ H o=some (.ins CW dx []) /\ SqT K H p [.int t,v,.int s,.ref st,.ref en] /\ SqT K H en ys /\ ∀ (kr:Addr) (H':Hp),H kr=none -> BtO o H H' -> WrO CW CR H' o t v s kr st en -> Q .non H'
def kW (K:PySem.W.Frag) (CW CR:Addr):Sp:=fun us H Q _=>∃ (o kr st en:Addr) (t s:Int) (v:V),us=[.ref o] /\ WrO CW CR H o t v s kr st en /\ ∀ (p:Addr) (H':Hp),ar H H' -> H' p=some (.tup [.int t,v,.int s,.ref st,.ref en]) -> Q (.ref p) H'
def spFS:Sp:=fun us H Q _=>∃ b:Addr,us=[.ref b] /\ ∀ (st e1 e2:Addr) (o1 o2:Obj) (H':Hp),ar H H' -> H' st=some (.tup [.int 0,.int 0,.ref b,.ref e1,.ref e2]) -> H' e1=some (.frz o1 (.tup [])) -> o1.dict=none -> H' e2=some (.frz o2 (.tup [])) -> o2.dict=none -> Q (.ref st) H'
def spFW (CW CR:Addr):Sp:=fun us H Q _=>∃ b:Addr,us=[.ref b] /\ ∀ (o kr st en e1 e2:Addr) (o1 o2:Obj) (H':Hp),ar H H' -> WrO CW CR H' o 0 .non 0 kr st en -> H' st=some (.tup [.int 0,.int 0,.ref b,.ref e1,.ref e2]) -> H' e1=some (.frz o1 (.tup [])) -> o1.dict=none -> H' e2=some (.frz o2 (.tup [])) -> o2.dict=none -> H' en=some (.tup []) -> Q (.ref o) H'
theorem ei {α:Type} {a b c d:α} {r:List α}:atI (a :: b :: c :: d :: r) 3=some d:=bN (j:=3) rfl
theorem kX {α:Type} {a b c d e:α} {r:List α}:atI (a :: b :: c :: d :: e :: r) 4=some e:=bN (j:=4) rfl
theorem d8 {α:Type} {a b c:α} {r:List α}:atI (a :: b :: c :: r) 2=some c:=bN (j:=2) rfl
theorem i6 (ys:List V) (k:Nat):cj ys none (some (k:Int))=ys.take k:=by
 unfold cj
 rw [HT.eB,HT.df,List.drop_zero,Nat.sub_zero]
 by_cases h:k <= ys.length
 ·rw [Nat.min_eq_left h]
 ·rw [Nat.min_eq_right (by lia),List.take_of_length_le (Nat.le_refl _),List.take_of_length_le (by lia)]
section
variable {P:Program} {w:World} {K:PySem.W.Frag} {mg:Str -> Option Value} {base:Heap} {CR CW:Addr}
theorem scRInit:ax ["self","stand","entries"] ["self","stand","entries"] (am oH):=fsc (by decide +kernel)
theorem ug {f:Addr} {fd:FuncData} (F:Fun K "__init__" "Row.__init__" oH f fd) (T:ClR K mg CR) (htuple:mg "tuple"=none):aP P w K mg base CX0 1 f fd ["self","stand","entries"] (kU K CR):=by
 refine F.ok scRInit (fun vs H Q E h=>?_) (fun cdv A outer s H vs Q E hr h=>?_)
 ·obtain ⟨r,dx,st,en,ys,rfl,_⟩:=h
  rfl
 ·obtain ⟨r,dx,st,en,ys,rfl,hR,he,q⟩:=h
  refine ⟨_,ae (bg (pv 0) (pv 1) rfl) (aj (bg (pv 0) (bc gF (by rfl) htuple ca (ad (pv 2) ag)) rfl)),?_⟩
  refine ah fun K_ hK_=>?_
  refine ⟨_,rfl,_,rfl,r,CR,dx,[],rfl,hR,T.cl,T.nS,(by show 0 < 1000; decide),?_⟩
  have he2:SqT K (upd H r (.ins CR dx (aL "stand" (.ref st) []))) en ys:=by
   rcases he with he | he
   ·refine .inl ?_
    rcases he with he | ⟨o,he⟩
    ·exact .inl (by rw [aw (aM he hR (by intro z; cases z))]; exact he)
    ·exact .inr ⟨o,by rw [aw (aM he hR (by intro z; cases z))]; exact he⟩
   ·exact .inr he
  refine hK_ _ _ ?_
  refine ⟨_,rfl,en,ys,rfl,he2,_,rfl,ex4 r CR dx _ ⟨rfl,ai,T.cl,T.nE,(by show 1 < 1000; decide),?_⟩⟩
  exact q _ (BtO.upd.trans BtO.upd) ai
theorem oK:ax ["self","place"] ["self","place"] (am j9):=fsc (by decide +kernel)
theorem ok_upto {f:Addr} {fd:FuncData} (F:Fun K "up_to" "Row.up_to" j9 f fd) (T:ClR K mg CR):aP P w K mg base CX0 1 f fd ["self","place"] (fV K CR):=by
 refine F.ok oK (fun vs H Q E h=>?_) (fun cdv A outer s H vs Q E hr h=>?_)
 ·obtain ⟨r,st,en,b,hh,aa,pl,tm,p,ys,rfl,_⟩:=h
  rfl
 ·obtain ⟨r,st,en,b,hh,aa,pl,tm,p,ys,rfl,⟨dx,hR⟩,hst,he,hp,q⟩:=h
  refine ⟨_,aj <| ay <| bO cT (aG (pv 0) rfl) cx (bP (aE bR (pv 1) (aq ao (aG (pv 0) rfl) af (fun _ _=>rfl)))),?_⟩
  obtain ⟨k,hk⟩:=Int.eq_ofNat_of_zero_le (show 0 <= p - pl by lia)
  refine ⟨_,rfl,ex5 r CR dx _ _ ⟨rfl,hR,T.cl,T.nE,by kernel_rfl,_,rfl,_,rfl,ex5 r CR dx _ _ ⟨rfl,hR,T.cl,T.nS,by kernel_rfl,st,_,_,_,rfl,rfl,hst,at0,_,_,rfl,rfl,_,rfl,en,ys,rfl,he,fun a H' s' e'=>q a H' s' ?_⟩⟩⟩
  rw [e',hk,i6]
  rfl
theorem scWInit:ax ["self","parts"] ["self","parts"] (am oI):=fsc (by decide +kernel)
theorem gr {o x:Addr} {H H':Hp} {ys:List V} {C dx:Addr} {fs:List (Str × V)} (b:BtO o H H') (ho:H o=some (.ins C dx fs)) (h:SqT K H x ys):SqT K H' x ys:=by
 rcases h with h | h
 ·refine .inl ?_
  rcases h with h | ⟨u,h⟩
  ·exact .inl (b _ _ (aM h ho (by intro z; cases z)) h)
  ·exact .inr ⟨u,b _ _ (aM h ho (by intro z; cases z)) h⟩
 ·exact .inr h
theorem uh {f:Addr} {fd:FuncData} (F:Fun K "__init__" "Written.__init__" oI f fd) (T:ClW K mg CW) (TR:ClR K mg CR) (Mr:fK P w K mg base CR 1 ["self","stand","entries"] (kU K CR)):aP P w K mg base CX0 3 f fd ["self","parts"] (iy K CW CR):=by
 refine F.ok scWInit (fun vs H Q E h=>?_) (fun cdv A outer s H vs Q E hr h=>?_)
 ·obtain ⟨o,dx,p,st,en,t,s,v,ys,rfl,_⟩:=h
  rfl
 ·obtain ⟨o,dx,p,st,en,t,s,v,ys,rfl,hO,hp,he,q⟩:=h
  have r2:bi 2 _:=hr.mono (by decide)
  refine ⟨_,ae (bg (pv 0) (aq ao (pv 1) af (fun _ _=>rfl)) rfl) <| ae (bg (pv 0) (aq ao (pv 1) af (fun _ _=>rfl)) rfl) <| ae (bg (pv 0) (aq ao (pv 1) af (fun _ _=>rfl)) rfl) <|
   aj (bg (pv 0) (cP Mr r2 TR.mgC (ad (aq ao (pv 1) af (fun _ _=>rfl)) (ad (aq ao (pv 1) af (fun _ _=>rfl)) ag))) rfl),?_⟩
  refine ah fun K_ hK_=>?_
  refine ⟨_,rfl,ex4 p _ _ _ ⟨rfl,rfl,hp,at0,_,rfl,o,CW,dx,[],rfl,hO,T.cl,T.nT,(by show 0 < 1000; decide),?_⟩⟩
  have b1:BtO o H (upd H o (.ins CW dx (aL "term" (.int t) []))):=BtO.upd
  refine hK_ _ _ (ah fun K_ hK_=>?_)
  refine ⟨_,rfl,ex4 p _ _ _ ⟨rfl,rfl,gr b1 hO hp,at1,_,rfl,ex4 o CW dx _ ⟨rfl,ai,T.cl,T.nV,(by show 1 < 1000; decide),?_⟩⟩⟩
  have b2:=b1.trans (BtO.upd (u:=.ins CW dx (aL "vote" v (aL "term" (.int t) []))))
  refine hK_ _ _ (ah fun K_ hK_=>?_)
  refine ⟨_,rfl,ex4 p _ _ _ ⟨rfl,rfl,gr b2 hO hp,d8,_,rfl,ex4 o CW dx _ ⟨rfl,ai,T.cl,T.nS,(by show 2 < 1000; decide),?_⟩⟩⟩
  have b3:=b2.trans (BtO.upd (u:=.ins CW dx (aL "settled_place" (.int s) (aL "vote" v (aL "term" (.int t) [])))))
  have e3:upd (upd (upd H o (.ins CW dx (aL "term" (.int t) []))) o (.ins CW dx (aL "vote" v (aL "term" (.int t) [])))) o (.ins CW dx (aL "settled_place" (.int s) (aL "vote" v (aL "term" (.int t) [])))) o=some (.ins CW dx (aL "settled_place" (.int s) (aL "vote" v (aL "term" (.int t) [])))):=ai
  generalize upd (upd (upd H o (.ins CW dx (aL "term" (.int t) []))) o (.ins CW dx (aL "vote" v (aL "term" (.int t) [])))) o (.ins CW dx (aL "settled_place" (.int s) (aL "vote" v (aL "term" (.int t) []))))=H3 at b3 e3 ⊢
  refine hK_ _ _ ?_
  refine ⟨_,rfl,ex4 p _ _ _ ⟨rfl,rfl,gr b3 hO hp,ei,_,rfl,ex4 p _ _ _ ⟨rfl,rfl,gr b3 hO hp,kX,?_⟩⟩⟩
  intro kr dk nk nd ndk
  have nk':upd H3 dk (.own kr) kr=none:=by rw [aw ndk.symm]; exact nk
  have s4:ar H3 (upd (upd H3 dk (.own kr)) kr (.ins CR dk [])):=(ar.new nd).trans (ar.new nk')
  refine (ex5 kr dk st en ys ⟨rfl,ai,?_,fun H5 b5 e5=>⟨rfl,?_⟩⟩)
  ·have:=gr b3 hO he
   rcases this with h | h
   ·refine .inl ?_
    rcases h with h | ⟨u,h⟩
    ·exact .inl (s4 _ _ h)
    ·exact .inr ⟨u,s4 _ _ h⟩
   ·exact .inr h
  ·have nko:kr ≠ o:=(ak e3 nk).symm
   have e5o:H5 o=some (.ins CW dx (aL "settled_place" (.int s) (aL "vote" v (aL "term" (.int t) [])))):=b5 _ _ nko.symm (s4 _ _ e3)
   refine ⟨_,rfl,ex4 o CW dx _ ⟨rfl,e5o,T.cl,T.nK,(by show 3 < 1000; decide),?_⟩⟩
   have hkr:H kr=none:=by
    cases e:H kr with
    | none=>rfl
    | some u=>exact absurd (b3 _ _ nko e) (by rw [nk]; intro z; cases z)
   refine q kr _ hkr (fun c u n e=>?_) ⟨⟨dx,ai⟩,dk,by rw [aw nko]; exact e5⟩
   rw [aw n]
   exact b5 _ _ (ak e hkr) (s4 _ _ (b3 _ _ n e))
theorem scWTold:ax ["self"] ["self"] (am oJ):=fsc (by decide +kernel)
theorem ui {f:Addr} {fd:FuncData} (F:Fun K "told" "Written.told" oJ f fd) (T:ClW K mg CW) (TR:ClR K mg CR):aP P w K mg base CX0 1 f fd ["self"] (kW K CW CR):=by
 refine F.ok scWTold (fun vs H Q E h=>?_) (fun cdv A outer s H vs Q E hr h=>?_)
 ·obtain ⟨o,kr,st,en,t,s,v,rfl,_⟩:=h
  rfl
 ·obtain ⟨o,kr,st,en,t,s,v,rfl,⟨⟨dx,h1⟩,dy,h2⟩,q⟩:=h
  have hs16:sizeLine=16777216:=sizeLine_eq
  refine ⟨_,aj <| ay <| aQ (ad (aG (pv 0) rfl) (ad (aG (pv 0) rfl) (ad (aG (pv 0) rfl) (ad (aG (aG (pv 0) rfl) rfl) (ad (aG (aG (pv 0) rfl) rfl) ag))))),?_⟩
  refine ⟨_,rfl,o,CW,dx,_,_,rfl,h1,T.cl,T.nT,by kernel_rfl,_,rfl,o,CW,dx,_,_,rfl,h1,T.cl,T.nV,by kernel_rfl,_,rfl,o,CW,dx,_,_,rfl,h1,T.cl,T.nS,by kernel_rfl,
   _,rfl,o,CW,dx,_,_,rfl,h1,T.cl,T.nK,by kernel_rfl,kr,CR,dy,_,_,rfl,h2,TR.cl,TR.nS,by kernel_rfl,_,rfl,o,CW,dx,_,_,rfl,h1,T.cl,T.nK,by kernel_rfl,kr,CR,dy,_,_,rfl,h2,TR.cl,TR.nE,by kernel_rfl,(show 5 <= sizeLine by lia),fun p H' np s' e'=>q p H' s' e'⟩
theorem scFS:ax ["bench"] ["bench"] (am sFS):=fsc (by decide +kernel)
theorem ok_fs {f:Addr} {fd:FuncData} (F:Fun K "first_stand" "first_stand" sFS f fd):aP P w K mg base CX0 1 f fd ["bench"] spFS:=by
 refine F.ok scFS (fun vs H Q E h=>?_) (fun cdv A outer s H vs Q E hr h=>?_)
 ·obtain ⟨b,rfl,_⟩:=h
  rfl
 ·obtain ⟨b,rfl,q⟩:=h
  have hs16:sizeLine=16777216:=sizeLine_eq
  refine ⟨_,aj <| ay <| aQ (ad af (ad af (ad (pv 0) (ad iq (ad iq ag))))),?_⟩
  refine ⟨_,rfl,fun e1 n1=>?_⟩
  intro e2 n2
  have s1:=ar.new (o:=.frz { cls:=.type "tuple",data:=.seq #[] } (.tup [])) n1
  have s2:=ar.new (o:=.frz { cls:=.type "tuple",data:=.seq #[] } (.tup [])) n2
  refine ⟨(show 5 <= sizeLine by lia),fun st H' ns s3 e3=>q st e1 e2 _ _ H' ((s1.trans s2).trans s3) e3 (s3 _ _ (s2 _ _ ai)) rfl (s3 _ _ ai) rfl⟩
theorem scFW:ax ["bench"] ["bench"] (am sFW):=fsc (by decide +kernel)
theorem ok_fw {f:Addr} {fd:FuncData} (F:Fun K "first_written" "first_written" sFW f fd) (T:ClW K mg CW) (Fs:aR P w K mg base 1 "first_stand" ["bench"] spFS) (Mw:fK P w K mg base CW 3 ["self","parts"] (iy K CW CR)):aP P w K mg base CX0 5 f fd ["bench"] (spFW CW CR):=by
 refine F.ok scFW (fun vs H Q E h=>?_) (fun cdv A outer s H vs Q E hr h=>?_)
 ·obtain ⟨b,rfl,_⟩:=h
  rfl
 ·obtain ⟨b,rfl,q⟩:=h
  have r1:bi 1 _:=hr.mono (by decide)
  have r4:bi 4 _:=hr.mono (by decide)
  have hs16:sizeLine=16777216:=sizeLine_eq
  refine ⟨_,aj <| ay <| cP Mw r4 T.mgC (ad (aQ (ad af (ad cn (ad af (ad (aC Fs r1 (ad (pv 0) ag)) (ad (aQ ag) ag)))))) ag),?_⟩
  refine ⟨_,rfl,b,rfl,fun st e1 e2 o1 o2 H1 s1 h1 h2 d1 h3 d2=>⟨Nat.zero_le _,fun en H2 n2 s2 h4=>⟨(show 5 <= sizeLine by lia),fun p H3 n3 s3 h5=>?_⟩⟩⟩
  intro o dx no nd ndo
  have no':upd H3 dx (.own o) o=none:=by rw [aw ndo.symm]; exact no
  have s4:ar H3 (upd (upd H3 dx (.own o)) o (.ins CW dx [])):=(ar.new nd).trans (ar.new no')
  refine ⟨o,dx,p,st,en,0,0,.non,[],rfl,ai,SqT.of (s4 _ _ h5),SqT.of (s4 _ _ (s3 _ _ h4)),fun kr H5 nk b5 w5=>⟨rfl,?_⟩⟩
  have s35:ar H3 H5:=fun c u e=>b5 _ _ (ak e no) (s4 _ _ e)
  exact q o kr st en e1 e2 o1 o2 H5 (s1.trans (s2.trans (s3.trans s35))) w5 (s35 _ _ (s3 _ _ (s2 _ _ h1))) (s35 _ _ (s3 _ _ (s2 _ _ h2))) d1 (s35 _ _ (s3 _ _ (s2 _ _ h3))) d2 (s35 _ _ (s3 _ _ h4))
end
open K41T (Kvs Las Wk aU ci cu cm dv)
abbrev sAD:Stmt:=top 94
abbrev sTF:Stmt:=top 95
abbrev Dd:=Option (Str × Int × Wk)
abbrev En:=Int × Dd
def DdO (H:Hp) (d:Addr):Dd -> Prop
 | none=>H d=some (.tup [.str "first"])
 | some (x,n,wk)=>1 <= n /\ ∃ t,H d=some (.tup [.str "ask",.str x,.int n,.ref t]) /\ H t=some (.tup wk.vs)
def EnO (H:Hp) (a:Addr) (e:En):Prop:=∃ d,H a=some (.tup [.int e.1,.ref d]) /\ DdO H d e.2
def Tk (H H':Hp):Prop:=∀ a xs,H a=some (.tup xs) -> H' a=some (.tup xs)
theorem Tk.of {H H':Hp} (s:ar H H'):Tk H H':=fun a xs e=>s _ _ e
theorem Tk.refl (H:Hp):Tk H H:=fun _ _ e=>e
theorem Tk.trans {H H1 H2:Hp} (a:Tk H H1) (b:Tk H1 H2):Tk H H2:=fun c xs e=>b c xs (a c xs e)
theorem Tk.bt {o:Addr} {H H':Hp} {C dx:Addr} {fs:List (Str × V)} (b:BtO o H H') (ho:H o=some (.ins C dx fs)):Tk H H':=fun a xs e=>b _ _ (aM e ho (by intro z; cases z)) e
theorem DdO.tk {H H':Hp} {d:Addr} {x:Dd} (k:Tk H H') (h:DdO H d x):DdO H' d x:=by
 cases x with
 | none=>exact k _ _ h
 | some q =>
  obtain ⟨a,n,wk⟩:=q
  obtain ⟨h1,t,h2,h3⟩:=h
  exact ⟨h1,t,k _ _ h2,k _ _ h3⟩
theorem EnO.tk {H H':Hp} {a:Addr} {e:En} (k:Tk H H') (h:EnO H a e):EnO H' a e:=by
 obtain ⟨d,h1,h2⟩:=h
 exact ⟨d,k _ _ h1,h2.tk k⟩
theorem bq {H H':Hp} {es:List Addr} {xs:List En} (k:Tk H H') (h:Paired (EnO H) es xs):Paired (EnO H') es xs:=Paired.imp' (fun _ _ q=>q.tk k) h
def dB (s:Kvs × Las) (e:En):Kvs × Las:=match e.2 with
 | none=>s
 | some (x,n,wk)=>(cm s.1 s.2 x n wk,dv s.1 s.2 x n wk)
def eV (s:Kvs × Las) (xs:List En):Kvs × Las:=xs.foldl dB s
theorem uj {s:Kvs × Las} (h:ci s.1 s.2) (e:En):ci (dB s e).1 (dB s e).2:=by
 unfold dB
 cases e.2 with
 | none=>exact h
 | some q=>exact h.step _ _ _
theorem eP {s:Kvs × Las} (h:ci s.1 s.2):∀ xs:List En,ci (eV s xs).1 (eV s xs).2
 | []=>h
 | e :: r=>eP (s:=dB s e) (uj h e) r
theorem q9 (kvs:Kvs) (las:Las) (x:Str) (n:Int) (wk:Wk):(cm kvs las x n wk).length <= kvs.length + 1:=by
 unfold cm
 have:=K41T.to_len kvs wk
 split
 ·lia
 ·split
  ·lia
  ·exact this
theorem uk (kvs:Kvs) (las:Las) (x:Str) (n:Int) (wk:Wk):(dv kvs las x n wk).length <= las.length + 1:=by
 unfold dv
 split
 ·lia
 ·split
  ·lia
  ·exact K41T.mO _ _ _
theorem ra (s:Kvs × Las) (e:En):(dB s e).1.length <= s.1.length + 1 /\ (dB s e).2.length <= s.2.length + 1:=by
 unfold dB
 cases e.2 with
 | none=>exact ⟨Nat.le_succ _,Nat.le_succ _⟩
 | some q=>exact ⟨q9 _ _ _ _ _,uk _ _ _ _ _⟩
theorem dZ:∀ (xs:List En) (s:Kvs × Las),(eV s xs).1.length <= s.1.length + xs.length /\ (eV s xs).2.length <= s.2.length + xs.length
 | [],s=>⟨Nat.le_refl _,Nat.le_refl _⟩
 | e :: r,s=>by
  have h1:=ra s e
  have h2:=dZ r (dB s e)
  show (eV (dB s e) r).1.length <= _ /\ (eV (dB s e) r).2.length <= _
  rw [List.length_cons]
  lia
theorem ka {xs:List En} {i:Nat} {e:En} (s:Kvs × Las) (h:xs[i]?=some e):eV s (xs.take (i + 1))=dB (eV s (xs.take i)) e:=by
 unfold eV
 rw [List.take_add_one,h,List.foldl_append]
 rfl
def spAD (K:PySem.W.Frag) (CT:Addr):Sp:=fun us H Q _=>∃ (T d l en:Addr) (s:Kvs × Las) (es:List Addr) (xs:List En),us=[.ref T,.ref en] /\ aU K CT H T d l s.1 s.2 /\ ci s.1 s.2 /\ s.1.length <= 400 /\ s.2.length <= 400 /\ H en=some (.tup (es.map V.ref)) /\ Paired (EnO H) es xs /\ es.length <= 400 /\
 ∀ (r:Addr) (H':Hp),aU K CT H' T d l (eV s xs).1 (eV s xs).2 -> cu d l H H' -> Q (.ref r) H'
theorem cu.trans {d l:Addr} {H H1 H2:Hp} (a:cu d l H H1) (b:cu d l H1 H2):cu d l H H2:=fun c u e n1 n2=>b c u (a c u e n1 n2) n1 n2
theorem cu.of {d l:Addr} {H H1:Hp} (s:ar H H1):cu d l H H1:=fun c u e _ _=>s _ _ e
theorem cu.tk {K:PySem.W.Frag} {C T d l:Addr} {H H':Hp} {kvs:Kvs} {las:Las} (t:aU K C H T d l kvs las) (b:cu d l H H'):Tk H H':=fun a xs e=>by
 obtain ⟨lk,h2,_⟩:=t.hl
 exact b _ _ e (aM e t.hd (by intro z; cases z)) (aM e h2 (by intro z; cases z))
theorem neFA:decide (V.str (Str.ofString "first")=V.str (Str.ofString "ask"))=false:=by decide +kernel
section
variable {P:Program} {w:World} {K:PySem.W.Frag} {mg:Str -> Option Value} {base:Heap} {CT CR CW:Addr}
abbrev nAD:List Str:=["table","entries","told","entry","deed"]
theorem scAD:ax nAD ["table","entries"] (am sAD):=fsc (by decide +kernel)
theorem aU.same {T d l:Addr} {H H':Hp} {kvs:Kvs} {las:Las} (e:ar H H') (h:aU K CT H T d l kvs las):aU K CT H' T d l kvs las:=by
 obtain ⟨⟨dx,h1⟩,h2,⟨lk,h3,h4⟩,h5⟩:=h
 refine ⟨⟨dx,e _ _ h1⟩,e _ _ h2,⟨lk,e _ _ h3,?_⟩,h5⟩
 exact Paired.imp' (fun p q hh=>by
  obtain ⟨a1,t,a2,a3⟩:=hh
  refine ⟨a1,t,a2,?_⟩
  rcases a3 with h | h
  ·refine .inl ?_
   rcases h with h | ⟨u,h⟩
   ·exact .inl (e _ _ h)
   ·exact .inr ⟨u,e _ _ h⟩
  ·exact .inr h) h4
theorem ok_ad {f:Addr} {fd:FuncData} (F:Fun K "asks_done" "asks_done" sAD f fd) (T:K41T.Cl K mg CT) (htuple:mg "tuple"=none) (Md:bu P w K mg base CT 3 "does" ["self","asker","number","work"] (K41T.oG K CT)):aP P w K mg base CX0 4 f fd ["table","entries"] (spAD K CT):=by
 refine F.ok scAD (fun vs H Q E h=>?_) (fun cdv A outer s H vs Q E hr h=>?_)
 ·obtain ⟨T',d,l,en,s,es,xs,rfl,_⟩:=h
  rfl
 ·obtain ⟨T',d,l,en,st,es,xs,rfl,hT,hok,k4,l4,hen,hes,e4,q⟩:=h
  have nd:=scAD.nd
  have hs16:sizeLine=16777216:=sizeLine_eq
  refine ⟨_,ae (aB (i:=2) nd rfl (Or.inl rfl) (cy ag)) <|
   ae (dX PassesOwn.never rfl (fS (pv 1)) (au (i:=3) nd rfl (Or.inl rfl)) <|
    ae (aB (i:=4) nd rfl (Or.inl rfl) (aq ao (pv 3) af (fun _ _=>rfl))) <|
    aj (aS (aD bW (aq ao (pv 4) af (fun _ _=>rfl)) aN (aF _))
     (aj (bJ (jS PySem.F.plainAttrs_list PySem.F.slot_list_append PySem.F.type_list_append fA (pv 2) (ad (aE iw (aQ (ad (aq ao (pv 4) af (fun _ _=>rfl)) (ad (aq ao (pv 4) af (fun _ _=>rfl)) ag)))
      (bv Md T.cl hr (pv 0) (ad (aq ao (pv 4) af (fun _ _=>rfl)) (ad (aq ao (pv 4) af (fun _ _=>rfl)) (ad (aq ao (pv 4) af (fun _ _=>rfl)) ag))))) ag)))) aH)) <|
   aj (ay (bc dn (by rfl) htuple ca (ad (pv 2) ag))),?_⟩
  dsimp only [bj,Cx.nox]
  have hel:es.length=xs.length:=Paired.length hes
  refine ah fun K_ hK_=>?_
  refine ⟨Nat.zero_le _,fun l0 H1 n1 s1 e1=>?_⟩
  refine hK_ _ _ (ah fun K_ hK_=>?_)
  refine ⟨_,rfl,en,rfl,⟨_,SqT.of (s1 _ _ hen)⟩,ky (K:=K) (xs:=es.map V.ref) (fun i σ Hx=>∃ (v3 v4:Option V) (rs:List Addr),σ=[some (V.ref T'),some (V.ref en),some (V.ref l0),v3,v4] /\ Hx l0=some (.lst (rs.map V.ref)) /\ rs.length <= i /\ aU K CT Hx T' d l (eV st (xs.take i)).1 (eV st (xs.take i)).2 /\ cu d l H Hx)
   ⟨none,none,[],rfl,e1,Nat.zero_le _,aU.same s1 hT,cu.of s1⟩ ?_ ?_ ?_⟩
  ·rintro i σ Hx hi ⟨v3,v4,rs,rfl,h1,h2,h3,h4⟩
   exact SqT.of (cu.tk hT h4 _ _ hen)
  ·rintro i x σ Hx hx ⟨v3,v4,rs,rfl,h1,h2,h3,h4⟩
   rw [List.getElem?_map] at hx
   cases he:es[i]? with
   | none=>rw [he] at hx; cases hx
   | some a =>
    rw [he] at hx
    cases hx
    have hil:i < es.length:=(List.getElem?_eq_some_iff.mp he).1
    have hix:i < xs.length:=by lia
    have hxe:xs[i]?=some xs[i]:=List.getElem?_eq_getElem hix
    have hE:EnO Hx a xs[i]:=by
     have:=Paired.zip hes (es[i],xs[i]) (List.mem_iff_getElem.mpr ⟨i,by rw [List.length_zip]; lia,List.getElem_zip⟩)
     have hh:a=es[i]:=by
      rw [List.getElem?_eq_getElem hil] at he
      exact (Option.some.inj he).symm
     rw [hh]
     exact EnO.tk (cu.tk hT h4) this
    have hrun:=ka st hxe
    have rl:=dZ (xs.take i) st
    have tl:(xs.take i).length <= i:=by rw [List.length_take]; lia
    have rok:=eP hok (xs.take i)
    generalize xs[i]=e at hE hrun
    obtain ⟨tm,dd⟩:=e
    obtain ⟨dA,hA1,hA2⟩:=hE
    refine ⟨_,rfl,ex4 a _ _ _ ⟨rfl,rfl,SqT.of hA1,at1,?_⟩⟩
    cases dd with
    | none =>
     have hA2:Hx dA=some (.tup [.str "first"]):=hA2
     refine ⟨_,rfl,ex4 dA _ _ _ ⟨rfl,rfl,SqT.of hA2,at0,rfl,_,rfl,?_⟩⟩
     rw [neFA]
     refine aV ?_
     refine (ex3 _ _ rs ⟨rfl,h1,by lia,?_,h4⟩)
     rw [hrun]
     exact h3
    | some qq =>
     obtain ⟨x,n,wk⟩:=qq
     obtain ⟨n1',t,hA2,hA3⟩:=hA2
     refine ⟨_,rfl,ex4 dA _ _ _ ⟨rfl,rfl,SqT.of hA2,at0,rfl,_,rfl,?_⟩⟩
     rw [decide_eq_true rfl]
     refine bz ?_
     refine ⟨_,rfl,.inl ⟨rfl,_,SqL.of h1⟩,_,rfl,ex4 dA _ _ _ ⟨rfl,rfl,SqT.of hA2,at1,_,rfl,ex4 dA _ _ _ ⟨rfl,rfl,SqT.of hA2,d8,(show 2 <= sizeLine by lia),fun p2 H2 np s2 e2=>?_⟩⟩⟩
     have hT2:=aU.same s2 h3
     obtain ⟨dx,hob⟩:=hT2.ob
     refine ⟨_,rfl,T',dx,_,rfl,hob,by unfold K41T.cW; kernel_rfl,_,rfl,dA,_,_,_,rfl,rfl,SqT.of (s2 _ _ hA2),at1,_,rfl,dA,_,_,_,rfl,rfl,SqT.of (s2 _ _ hA2),d8,_,rfl,dA,_,_,_,rfl,rfl,SqT.of (s2 _ _ hA2),ei,
      T',d,l,t,_,_,x,n,wk,rfl,hT2,by lia,by lia,rok.ik,n1',SqT.of (s2 _ _ hA3),fun r H3 nr er hT3 b3=>?_⟩
     have k3:=cu.tk hT2 b3
     have nl0:l0 ≠ d /\ l0 ≠ l:=by
      obtain ⟨lk,q2,_⟩:=hT.hl
      exact ⟨(ak hT.hd n1).symm,(ak q2 n1).symm⟩
     refine (ex4 p2 r _ _ ⟨rfl,rfl,k3 _ _ e2,er,(show 2 + 2 <= sizeLine by lia),fun c H4 s4 e4'=>?_⟩)
     have h14:H4 l0=some (.lst (rs.map V.ref)):=s4 _ _ (b3 _ _ (s2 _ _ h1) nl0.1 nl0.2)
     refine (ex3 l0 _ _ ⟨rfl,rfl,h14,by rw [List.length_map]; lia,fun H5 k5 e5=>?_⟩)
     have hT4:=aU.same s4 hT3
     have b14:cu d l H H4:=cu.trans h4 (cu.trans (cu.of s2) (cu.trans b3 (cu.of s4)))
     have k5':∀ c u,H c=some u -> c ≠ d -> c ≠ l -> H5 c=some u:=fun c u e n1' n2'=>k5 _ _ (ak e n1) (b14 _ _ e n1' n2')
     refine ⟨_,_,rs ++ [c],rfl,by rw [e5,List.map_append]; rfl,by rw [List.length_append]; show _ + 1 <= _; lia,?_,k5'⟩
     rw [hrun]
     obtain ⟨⟨dy,g1⟩,g2,⟨lk,g3,g4⟩,g5⟩:=hT4
     refine ⟨⟨dy,k5 _ _ (aM g1 h14 (by intro z; cases z)) g1⟩,k5 _ _ (aM g2 h14 (by intro z; cases z)) g2,⟨lk,k5 _ _ (aM g3 h14 (by intro z; cases z)) g3,?_⟩,g5⟩
     exact Paired.imp' (fun p q hh=>by
      obtain ⟨a1,t',a2,a3⟩:=hh
      refine ⟨a1,t',a2,?_⟩
      rcases a3 with h | h
      ·refine .inl ?_
       rcases h with h | ⟨u,h⟩
       ·exact .inl (k5 _ _ (aM h h14 (by intro z; cases z)) h)
       ·exact .inr ⟨u,k5 _ _ (aM h h14 (by intro z; cases z)) h⟩
      ·exact .inr h) g4
  ·rintro σ Hx ⟨v3,v4,rs,rfl,h1,h2,h3,h4⟩
   rw [List.length_map,List.take_of_length_le (by lia)] at h3
   refine hK_ _ _ ?_
   refine ⟨_,rfl,l0,_,rfl,SqL.of h1,fun r H2 nr s2 e2=>?_⟩
   exact q r H2 (aU.same s2 h3) (cu.trans h4 (cu.of s2))
end
end K41
namespace K41
open PySem L2
open K41T (Kvs Las Wk aU ci cu cm dv aO bp)
abbrev oM:Stmt:=aT (top 96) 0
abbrev flM (nm:Str) (wa sz:Int) (wr rl bd yl sd gl fl sl:Addr):List (Str × V):=aL "shown" (.ref sl) (aL "found" (.ref fl) (aL "given" (.ref gl) (aL "seat" (.non) (aL "sheets" (.ref sd) (aL "yes" (.ref yl) (aL "quiet" (.int 0) (aL "known" (.non) (aL "role" (.str "plain") (aL "board" (.ref bd) (aL "records" (.ref rl) (aL "kept" (.ref wr) (aL "size" (.int sz) (aL "wait" (.int wa) (aL "name" (.str nm) []))))))))))))))
theorem ul {st en:Addr}:(flR st en).lookup ("stand":Str)=some (.ref st):=by kernel_rfl
theorem fk {t:Int} {v:V} {s:Int} {kr:Addr}:(flW t v s kr).lookup ("term":Str)=some (.int t):=by kernel_rfl
theorem flW_s {t:Int} {v:V} {s:Int} {kr:Addr}:(flW t v s kr).lookup ("settled_place":Str)=some (.int s):=by kernel_rfl
theorem flW_k {t:Int} {v:V} {s:Int} {kr:Addr}:(flW t v s kr).lookup ("kept_row":Str)=some (.ref kr):=by kernel_rfl
theorem rb {st en:Addr}:(flR st en).lookup ("up_to":Str)=none:=by kernel_rfl
structure ClM (K:PySem.W.Frag) (mg:Str -> Option Value) (C:Addr):Prop where
 cl:Cls K C
 n0:bx K C "name"
 n1:bx K C "wait"
 n2:bx K C "size"
 n3:bx K C "kept"
 n4:bx K C "records"
 n5:bx K C "board"
 n6:bx K C "role"
 n7:bx K C "known"
 n8:bx K C "quiet"
 n9:bx K C "yes"
 n10:bx K C "sheets"
 n11:bx K C "seat"
 n12:bx K C "given"
 n13:bx K C "found"
 n14:bx K C "shown"
 mgC:mg "Mind"=some (.ref C)
def dH (K:PySem.W.Frag) (H:Hp) (st:Addr) (pl tm:Int) (b:Addr) (hk:List (Key × V)) (hq:List (Str × Int × V)):Prop:=∃ (hh aa:Addr) (o:Obj) (ps as:List V),H st=some (.tup [.int pl,.int tm,.ref b,.ref hh,.ref aa]) /\ H hh=some (.frz o (.tup ps)) /\ o.dict=none /\ ps.length=hk.length /\
 (∀ (j:Nat) (kv:Key × V),hk[j]?=some kv -> ∃ b,ps[j]?=some (.ref b) /\ SqT K H b [kV kv.1,kv.2]) /\ SqT K H aa as /\ as.length=hq.length /\ hq.length <= 900 /\ (∀ (j:Nat) (q:Str × Int × V),hq[j]?=some q -> ∃ b,as[j]?=some (.ref b) /\ SqT K H b [.str q.1,.int q.2.1,q.2.2])
theorem cJ {K:PySem.W.Frag} {H H':Hp} {x:Addr} {ys:List V} (e:ar H H') (h:SqT K H x ys):SqT K H' x ys:=by
 rcases h with h | h
 ·refine .inl ?_
  rcases h with h | ⟨u,h⟩
  ·exact .inl (e _ _ h)
  ·exact .inr ⟨u,e _ _ h⟩
 ·exact .inr h
theorem dH.same {K:PySem.W.Frag} {H H':Hp} {st:Addr} {pl tm:Int} {b:Addr} {hk:List (Key × V)} {hq:List (Str × Int × V)} (e:ar H H') (h:dH K H st pl tm b hk hq):dH K H' st pl tm b hk hq:=by
 obtain ⟨hh,aa,o,ps,as,h1,h2,h3,h4,h5,h6,h7,h8,h9⟩:=h
 refine ⟨hh,aa,o,ps,as,e _ _ h1,e _ _ h2,h3,h4,fun j kv q=>?_,cJ e h6,h7,h8,fun j kv q=>?_⟩
 ·obtain ⟨b,b1,b2⟩:=h5 j kv q
  exact ⟨b,b1,cJ e b2⟩
 ·obtain ⟨b,b1,b2⟩:=h9 j kv q
  exact ⟨b,b1,cJ e b2⟩
theorem dH.bt {K:PySem.W.Frag} {H H':Hp} {st:Addr} {pl tm:Int} {b x C dx:Addr} {fs:List (Str × V)} {hk:List (Key × V)} {hq:List (Str × Int × V)} (e:BtO x H H') (hx:H x=some (.ins C dx fs)) (h:dH K H st pl tm b hk hq):dH K H' st pl tm b hk hq:=by
 obtain ⟨hh,aa,o,ps,as,h1,h2,h3,h4,h5,h6,h7,h8,h9⟩:=h
 refine ⟨hh,aa,o,ps,as,e _ _ (aM h1 hx (by intro z; cases z)) h1,e _ _ (aM h2 hx (by intro z; cases z)) h2,h3,h4,fun j kv q=>?_,gr e hx h6,h7,h8,fun j kv q=>?_⟩
 ·obtain ⟨b,b1,b2⟩:=h5 j kv q
  exact ⟨b,b1,gr e hx b2⟩
 ·obtain ⟨b,b1,b2⟩:=h9 j kv q
  exact ⟨b,b1,gr e hx b2⟩
theorem aU.bt {K:PySem.W.Frag} {CT C x T d l dz:Addr} {H H':Hp} {kvs:Kvs} {las:Las} {fs:List (Str × V)} (e:BtO x H H') (hx:H x=some (.ins C dz fs)) (nT:T ≠ x) (h:aU K CT H T d l kvs las):aU K CT H' T d l kvs las:=by
 obtain ⟨⟨dx,h1⟩,h2,⟨lk,h3,h4⟩,h5⟩:=h
 refine ⟨⟨dx,e _ _ nT h1⟩,e _ _ (aM h2 hx (by intro z; cases z)) h2,⟨lk,e _ _ (aM h3 hx (by intro z; cases z)) h3,?_⟩,h5⟩
 exact Paired.imp' (fun p q hh=>by
  obtain ⟨a1,t,a2,a3⟩:=hh
  exact ⟨a1,t,a2,gr e hx a3⟩) h4
theorem Paired.take' {α β:Type} {R:α -> β -> Prop} {as:List α} {bs:List β} (h:Paired R as bs) (n:Nat):Paired R (as.take n) (bs.take n):=by
 induction h generalizing n with
 | nil=>rw [List.take_nil,List.take_nil]; exact .nil
 | cons r _ ih =>
  cases n with
  | zero=>exact .nil
  | succ k=>exact .cons r (ih k)
def dI (hk:List (Key × V)) (hq:List (Str × Int × V)) (xs:List En) (n:Nat):Kvs × Las:=eV (aO hk,bp hq) (xs.take n)
structure WrG (K:PySem.W.Frag) (CW CR:Addr) (H:Hp) (wr:Addr) (t:Int) (v:V) (s:Int) (kr st en:Addr) (pl tm:Int) (b:Addr) (hk:List (Key × V)) (hq:List (Str × Int × V)) (es:List Addr) (xs:List En):Prop where
 wo:WrO CW CR H wr t v s kr st en
 so:dH K H st pl tm b hk hq
 ho:H en=some (.tup (es.map V.ref))
 eo:Paired (EnO H) es xs
 el:es.length <= 60
 ps:pl <= s
 ok:ci (aO hk) (bp hq)
 kl:(aO hk).length <= 300
 ll:(bp hq).length <= 300
theorem WrG.same {K:PySem.W.Frag} {CW CR:Addr} {H H':Hp} {wr:Addr} {t:Int} {v:V} {s:Int} {kr st en:Addr} {pl tm:Int} {b:Addr} {hk:List (Key × V)} {hq:List (Str × Int × V)} {es:List Addr} {xs:List En} (e:ar H H') (h:WrG K CW CR H wr t v s kr st en pl tm b hk hq es xs):WrG K CW CR H' wr t v s kr st en pl tm b hk hq es xs:=⟨h.wo.same e,h.so.same e,e _ _ h.ho,bq (Tk.of e) h.eo,h.el,h.ps,h.ok,h.kl,h.ll⟩
theorem WrG.bt {K:PySem.W.Frag} {CW CR:Addr} {H H':Hp} {wr x C2 dz:Addr} {t:Int} {v:V} {s:Int} {kr st en:Addr} {pl tm:Int} {b:Addr} {hk:List (Key × V)} {hq:List (Str × Int × V)} {es:List Addr} {xs:List En} (e:BtO x H H') (hx:H x=some (.ins C2 dz [])) (h:WrG K CW CR H wr t v s kr st en pl tm b hk hq es xs):WrG K CW CR H' wr t v s kr st en pl tm b hk hq es xs:=⟨h.wo.bto hx e,h.so.bt e hx,Tk.bt e hx _ _ h.ho,bq (Tk.bt e hx) h.eo,h.el,h.ps,h.ok,h.kl,h.ll⟩
def spTF (K:PySem.W.Frag) (CT CW CR:Addr):Sp:=fun us H Q _=>∃ (wr kr st en b:Addr) (t s pl tm:Int) (v:V) (hk:List (Key × V)) (hq:List (Str × Int × V)) (es:List Addr) (xs:List En),us=[.ref wr] /\ WrG K CW CR H wr t v s kr st en pl tm b hk hq es xs /\
 ∀ (T d l:Addr) (H':Hp),H T=none -> H d=none -> H l=none -> ar H H' -> aU K CT H' T d l (dI hk hq xs (s - pl).toNat).1 (dI hk hq xs (s - pl).toNat).2 -> Q (.ref T) H'
def spMI (K:PySem.W.Frag) (CM CT CW CR:Addr):Sp:=fun us H Q _=>∃ (m dx wr rl kr st en b:Addr) (nm:Str) (wa sz t s pl tm:Int) (v:V) (hk:List (Key × V)) (hq:List (Str × Int × V)) (es:List Addr) (xs:List En),us=[.ref m,.str nm,.int wa,.int sz,.ref wr,.ref rl] /\ H m=some (.ins CM dx []) /\ WrG K CW CR H wr t v s kr st en pl tm b hk hq es xs /\
 ∀ (bd d l yl sd gl fl sl:Addr) (H':Hp),BtO m H H' -> H' m=some (.ins CM dx (flM nm wa sz wr rl bd yl sd gl fl sl)) -> H bd=none -> H d=none -> H l=none -> aU K CT H' bd d l (dI hk hq xs (s - pl).toNat).1 (dI hk hq xs (s - pl).toNat).2 -> H' gl=some (.lst []) -> H' fl=some (.lst []) -> H' sl=some (.lst []) -> H gl=none -> H fl=none -> H sl=none -> Q .non H'
abbrev fm1 (nm:Str):List (Str × V):=aL "name" (.str nm) []
abbrev fm2 (nm:Str) (wa:Int):List (Str × V):=aL "wait" (.int wa) (fm1 nm)
abbrev fm3 (nm:Str) (wa:Int) (sz:Int):List (Str × V):=aL "size" (.int sz) (fm2 nm wa)
abbrev fm4 (nm:Str) (wa:Int) (sz:Int) (wr:Addr):List (Str × V):=aL "kept" (.ref wr) (fm3 nm wa sz)
abbrev fm5 (nm:Str) (wa:Int) (sz:Int) (wr:Addr) (rl:Addr):List (Str × V):=aL "records" (.ref rl) (fm4 nm wa sz wr)
abbrev fm6 (nm:Str) (wa:Int) (sz:Int) (wr:Addr) (rl:Addr) (bd:Addr):List (Str × V):=aL "board" (.ref bd) (fm5 nm wa sz wr rl)
abbrev fm7 (nm:Str) (wa:Int) (sz:Int) (wr:Addr) (rl:Addr) (bd:Addr):List (Str × V):=aL "role" (.str "plain") (fm6 nm wa sz wr rl bd)
abbrev fm8 (nm:Str) (wa:Int) (sz:Int) (wr:Addr) (rl:Addr) (bd:Addr):List (Str × V):=aL "known" (.non) (fm7 nm wa sz wr rl bd)
abbrev fm9 (nm:Str) (wa:Int) (sz:Int) (wr:Addr) (rl:Addr) (bd:Addr):List (Str × V):=aL "quiet" (.int 0) (fm8 nm wa sz wr rl bd)
abbrev re (nm:Str) (wa:Int) (sz:Int) (wr:Addr) (rl:Addr) (bd:Addr) (yl:Addr):List (Str × V):=aL "yes" (.ref yl) (fm9 nm wa sz wr rl bd)
abbrev rf (nm:Str) (wa:Int) (sz:Int) (wr:Addr) (rl:Addr) (bd:Addr) (yl:Addr) (sd:Addr):List (Str × V):=aL "sheets" (.ref sd) (re nm wa sz wr rl bd yl)
abbrev rg (nm:Str) (wa:Int) (sz:Int) (wr:Addr) (rl:Addr) (bd:Addr) (yl:Addr) (sd:Addr):List (Str × V):=aL "seat" (.non) (rf nm wa sz wr rl bd yl sd)
abbrev rh (nm:Str) (wa:Int) (sz:Int) (wr:Addr) (rl:Addr) (bd:Addr) (yl:Addr) (sd:Addr) (gl:Addr):List (Str × V):=aL "given" (.ref gl) (rg nm wa sz wr rl bd yl sd)
abbrev ri (nm:Str) (wa:Int) (sz:Int) (wr:Addr) (rl:Addr) (bd:Addr) (yl:Addr) (sd:Addr) (gl:Addr) (fl:Addr):List (Str × V):=aL "found" (.ref fl) (rh nm wa sz wr rl bd yl sd gl)
abbrev um (nm:Str) (wa:Int) (sz:Int) (wr:Addr) (rl:Addr) (bd:Addr) (yl:Addr) (sd:Addr) (gl:Addr) (fl:Addr) (sl:Addr):List (Str × V):=aL "shown" (.ref sl) (ri nm wa sz wr rl bd yl sd gl fl)
section
variable {P:Program} {w:World} {K:PySem.W.Frag} {mg:Str -> Option Value} {base:Heap} {CT CR CW CM:Addr}
abbrev nTF:List Str:=["kept","row","table"]
theorem scTF:ax nTF ["kept"] (am sTF):=fsc (by decide +kernel)
theorem ok_tf {f:Addr} {fd:FuncData} (F:Fun K "table_from" "table_from" sTF f fd) (TW:ClW K mg CW) (TR:ClR K mg CR) (TT:K41T.Cl K mg CT) (Mt:fK P w K mg base CT 1 ["self","held","asked"] (K41T.fj K CT)) (Fa:aR P w K mg base 4 "asks_done" ["table","entries"] (spAD K CT)) (Mu:bu P w K mg base CR 1 "up_to" ["self","place"] (fV K CR)):aP P w K mg base CX0 5 f fd ["kept"] (spTF K CT CW CR):=by
 refine F.ok scTF (fun vs H Q E h=>?_) (fun cdv A outer s H vs Q E hr h=>?_)
 ·obtain ⟨wr,kr,st,en,b,t,s,pl,tm,v,hk,hq,es,xs,rfl,_⟩:=h
  rfl
 ·obtain ⟨wr,kr,st,en,b,t,s,pl,tm,v,hk,hq,es,xs,rfl,G,q⟩:=h
  have nd:=scTF.nd
  have r1:bi 1 _:=hr.mono (by decide)
  have r2:bi 2 _:=hr.mono (by decide)
  refine ⟨_,ae (aB (i:=1) nd rfl (Or.inl rfl) (aG (pv 0) rfl)) <|
   ae (aB (i:=2) nd rfl (Or.inl rfl) (cP Mt r2 TT.mgC (ad (aq ao (aG (pv 1) rfl) af (fun _ _=>rfl)) (ad (aq ao (aG (pv 1) rfl) af (fun _ _=>rfl)) ag)))) <|
   ae (bJ (aC Fa hr (ad (pv 2) (ad (bv Mu TR.cl r1 (pv 1) (ad (aG (pv 0) rfl) ag)) ag)))) <|
   aj (ay (pv 2)),?_⟩
  dsimp only [bj,Cx.nox]
  obtain ⟨⟨dx,hw⟩,dy,hr'⟩:=id G.wo
  obtain ⟨hh,aa,o,ps,as,h1,h2,h3,h4,h5,h6,h7,h8,h9⟩:=id G.so
  refine ah fun K_ hK_=>?_
  refine ⟨_,rfl,ex5 wr CW dx _ _ ⟨rfl,hw,TW.cl,TW.nK,flW_k,?_⟩⟩
  refine hK_ _ _ (ah fun K_ hK_=>?_)
  refine ⟨_,rfl,ex5 kr CR dy _ _ ⟨rfl,hr',TR.cl,TR.nS,ul,st,ex3 _ _ _ ⟨rfl,rfl,SqT.of h1,ei,_,rfl,ex5 kr CR dy _ _ ⟨rfl,hr',TR.cl,TR.nS,ul,st,ex3 _ _ _ ⟨rfl,rfl,SqT.of h1,kX,?_⟩⟩⟩⟩⟩
  intro T dT nT ndT ndTT
  have nT':upd H dT (.own T) T=none:=by rw [aw ndTT.symm]; exact nT
  have s1:ar H (upd (upd H dT (.own T)) T (.ins CT dT [])):=(ar.new ndT).trans (ar.new nT')
  refine (ex9 T dT hh aa o ps as hk hq ⟨rfl,ai,s1 _ _ h2,h3,h4,fun j kv q=>?_,cJ s1 h6,h7,h8,fun j kv q=>?_,fun d l H2 nd2 nl2 hT bt=>⟨rfl,?_⟩⟩)
  ·obtain ⟨b,b1,b2⟩:=h5 j kv q
   exact ⟨b,b1,cJ s1 b2⟩
  ·obtain ⟨b,b1,b2⟩:=h9 j kv q
   exact ⟨b,b1,cJ s1 b2⟩
  ·have s2:ar H H2:=fun c u e=>bt _ _ (s1 _ _ e) (ak e nT)
   have G2:=G.same s2
   obtain ⟨⟨dx2,hw2⟩,dy2,hr2⟩:=id G2.wo
   obtain ⟨hh2,aa2,o2,ps2,as2,g1,_⟩:=id G2.so
   refine hK_ _ _ (ah fun K_ hK_=>?_)
   refine ⟨_,rfl,_,rfl,ex3 kr dy2 _ ⟨rfl,hr2,rb,_,rfl,ex5 wr CW dx2 _ _ ⟨rfl,hw2,TW.cl,TW.nS,flW_s,kr,st,en,b,hh2,ex5 aa2 pl tm s _ ⟨rfl,⟨dy2,hr2⟩,SqT.of g1,G2.ho,G2.ps,fun a H3 s3 e3=>?_⟩⟩⟩⟩
   have tl:(es.take (s - pl).toNat).length <= 60:=Nat.le_trans (by rw [List.length_take]; lia) G.el
   refine ⟨T,d,l,a,(aO hk,bp hq),es.take (s - pl).toNat,xs.take (s - pl).toNat,rfl,aU.same s3 hT,G.ok,by have:=G.kl; show (aO hk).length <= 400; lia,by have:=G.ll; show (bp hq).length <= 400; lia,by rw [e3,List.map_take],?_,by lia,fun r H4 hT4 b4=>?_⟩
   ·exact Paired.take' (bq (Tk.of s3) G2.eo) _
   ·refine hK_ _ _ ?_
    refine ⟨_,rfl,q T d l H4 nT (s1.none nd2) (s1.none nl2) (fun c u e=>?_) hT4⟩
    exact b4 _ _ (s3 _ _ (s2 _ _ e)) (ak e (s1.none nd2)) (ak e (s1.none nl2))
theorem scMI:ax ["self","name","wait","size","kept","records"] ["self","name","wait","size","kept","records"] (am oM):=fsc (by decide +kernel)
theorem ok_mi {f:Addr} {fd:FuncData} (F:Fun K "__init__" "Mind.__init__" oM f fd) (T:ClM K mg CM) (Ft:aR P w K mg base 5 "table_from" ["kept"] (spTF K CT CW CR)):aP P w K mg base CX0 6 f fd ["self","name","wait","size","kept","records"] (spMI K CM CT CW CR):=by
 refine F.ok scMI (fun vs H Q E h=>?_) (fun cdv A outer s H vs Q E hr h=>?_)
 ·obtain ⟨m,dx,wr,rl,kr,st,en,b,nm,wa,sz,t,s,pl,tm,v,hk,hq,es,xs,rfl,_⟩:=h
  rfl
 ·obtain ⟨m,dx,wr,rl,kr,st,en,b,nm,wa,sz,t,s,pl,tm,v,hk,hq,es,xs,rfl,hM,G,q⟩:=h
  refine ⟨_,ae (bg (pv 0) (pv 1) rfl) <| ae (bg (pv 0) (pv 2) rfl) <| ae (bg (pv 0) (pv 3) rfl) <| ae (bg (pv 0) (pv 4) rfl) <| ae (bg (pv 0) (pv 5) rfl) <| ae (bg (pv 0) (aC Ft hr (ad (pv 4) ag)) rfl) <| ae (bg (pv 0) aN rfl) <| ae (bg (pv 0) cn rfl) <| ae (bg (pv 0) af rfl) <| ae (bg (pv 0) (cy ag) rfl) <| ae (bg (pv 0) iQ rfl) <| ae (bg (pv 0) cn rfl) <| ae (bg (pv 0) (cy ag) rfl) <| ae (bg (pv 0) (cy ag) rfl) <| aj (bg (pv 0) (cy ag) rfl),?_⟩
  dsimp only [bj,Cx.nox]
  have b0:BtO m H H:=BtO.refl _ _
  refine ah fun K_ hK_=>?_
  refine ⟨_,rfl,_,rfl,ex4 m CM dx _ ⟨rfl,hM,T.cl,T.n0,(by show 0 < 1000; decide),?_⟩⟩
  have b1:=b0.trans (BtO.upd (u:=.ins CM dx (fm1 nm)))
  have u1:BtO m H (upd H m (.ins CM dx (fm1 nm))):=BtO.upd
  have ho1:upd H m (.ins CM dx (fm1 nm)) m=some (.ins CM dx (fm1 nm)):=ai
  refine hK_ _ _ (ah fun K_ hK_=>?_)
  generalize upd H m (.ins CM dx (fm1 nm))=H1 at b1 u1 ho1 ⊢
  refine ⟨_,rfl,_,rfl,ex4 m CM dx _ ⟨rfl,ho1,T.cl,T.n1,(by show 1 < 1000; decide),?_⟩⟩
  have b2:=b1.trans (BtO.upd (u:=.ins CM dx (fm2 nm wa)))
  have u2:BtO m H1 (upd H1 m (.ins CM dx (fm2 nm wa))):=BtO.upd
  have ho2:upd H1 m (.ins CM dx (fm2 nm wa)) m=some (.ins CM dx (fm2 nm wa)):=ai
  refine hK_ _ _ (ah fun K_ hK_=>?_)
  generalize upd H1 m (.ins CM dx (fm2 nm wa))=H2 at b2 u2 ho2 ⊢
  refine ⟨_,rfl,_,rfl,ex4 m CM dx _ ⟨rfl,ho2,T.cl,T.n2,(by show 2 < 1000; decide),?_⟩⟩
  have b3:=b2.trans (BtO.upd (u:=.ins CM dx (fm3 nm wa sz)))
  have u3:BtO m H2 (upd H2 m (.ins CM dx (fm3 nm wa sz))):=BtO.upd
  have ho3:upd H2 m (.ins CM dx (fm3 nm wa sz)) m=some (.ins CM dx (fm3 nm wa sz)):=ai
  refine hK_ _ _ (ah fun K_ hK_=>?_)
  generalize upd H2 m (.ins CM dx (fm3 nm wa sz))=H3 at b3 u3 ho3 ⊢
  refine ⟨_,rfl,_,rfl,ex4 m CM dx _ ⟨rfl,ho3,T.cl,T.n3,(by show 3 < 1000; decide),?_⟩⟩
  have b4:=b3.trans (BtO.upd (u:=.ins CM dx (fm4 nm wa sz wr)))
  have u4:BtO m H3 (upd H3 m (.ins CM dx (fm4 nm wa sz wr))):=BtO.upd
  have ho4:upd H3 m (.ins CM dx (fm4 nm wa sz wr)) m=some (.ins CM dx (fm4 nm wa sz wr)):=ai
  refine hK_ _ _ (ah fun K_ hK_=>?_)
  generalize upd H3 m (.ins CM dx (fm4 nm wa sz wr))=H4 at b4 u4 ho4 ⊢
  refine ⟨_,rfl,_,rfl,ex4 m CM dx _ ⟨rfl,ho4,T.cl,T.n4,(by show 4 < 1000; decide),?_⟩⟩
  have b5:=b4.trans (BtO.upd (u:=.ins CM dx (fm5 nm wa sz wr rl)))
  have u5:BtO m H4 (upd H4 m (.ins CM dx (fm5 nm wa sz wr rl))):=BtO.upd
  have ho5:upd H4 m (.ins CM dx (fm5 nm wa sz wr rl)) m=some (.ins CM dx (fm5 nm wa sz wr rl)):=ai
  refine hK_ _ _ (ah fun K_ hK_=>?_)
  generalize upd H4 m (.ins CM dx (fm5 nm wa sz wr rl))=H5 at b5 u5 ho5 ⊢
  refine ⟨_,rfl,wr,kr,st,tL en b t s pl tm v hk hq es xs ⟨rfl,G.bt b5 hM,fun bd d l Hc nbd nd nl sc hT=>?_⟩⟩
  have ho5c:=sc _ _ ho5
  have bc5:=b5.trans (BtO.of sc)
  refine ⟨_,rfl,ex4 m CM dx _ ⟨rfl,ho5c,T.cl,T.n5,(by show 5 < 1000; decide),?_⟩⟩
  have b6:=bc5.trans (BtO.upd (u:=.ins CM dx (fm6 nm wa sz wr rl bd)))
  have u6:BtO m Hc (upd Hc m (.ins CM dx (fm6 nm wa sz wr rl bd))):=BtO.upd
  have ho6:upd Hc m (.ins CM dx (fm6 nm wa sz wr rl bd)) m=some (.ins CM dx (fm6 nm wa sz wr rl bd)):=ai
  refine hK_ _ _ (ah fun K_ hK_=>?_)
  generalize upd Hc m (.ins CM dx (fm6 nm wa sz wr rl bd))=H6 at b6 u6 ho6 ⊢
  refine ⟨_,rfl,ex4 m CM dx _ ⟨rfl,ho6,T.cl,T.n6,(by show 6 < 1000; decide),?_⟩⟩
  have b7:=b6.trans (BtO.upd (u:=.ins CM dx (fm7 nm wa sz wr rl bd)))
  have u7:BtO m H6 (upd H6 m (.ins CM dx (fm7 nm wa sz wr rl bd))):=BtO.upd
  have ho7:upd H6 m (.ins CM dx (fm7 nm wa sz wr rl bd)) m=some (.ins CM dx (fm7 nm wa sz wr rl bd)):=ai
  refine hK_ _ _ (ah fun K_ hK_=>?_)
  generalize upd H6 m (.ins CM dx (fm7 nm wa sz wr rl bd))=H7 at b7 u7 ho7 ⊢
  refine ⟨_,rfl,ex4 m CM dx _ ⟨rfl,ho7,T.cl,T.n7,(by show 7 < 1000; decide),?_⟩⟩
  have b8:=b7.trans (BtO.upd (u:=.ins CM dx (fm8 nm wa sz wr rl bd)))
  have u8:BtO m H7 (upd H7 m (.ins CM dx (fm8 nm wa sz wr rl bd))):=BtO.upd
  have ho8:upd H7 m (.ins CM dx (fm8 nm wa sz wr rl bd)) m=some (.ins CM dx (fm8 nm wa sz wr rl bd)):=ai
  refine hK_ _ _ (ah fun K_ hK_=>?_)
  generalize upd H7 m (.ins CM dx (fm8 nm wa sz wr rl bd))=H8 at b8 u8 ho8 ⊢
  refine ⟨_,rfl,ex4 m CM dx _ ⟨rfl,ho8,T.cl,T.n8,(by show 8 < 1000; decide),?_⟩⟩
  have b9:=b8.trans (BtO.upd (u:=.ins CM dx (fm9 nm wa sz wr rl bd)))
  have u9:BtO m H8 (upd H8 m (.ins CM dx (fm9 nm wa sz wr rl bd))):=BtO.upd
  have ho9:upd H8 m (.ins CM dx (fm9 nm wa sz wr rl bd)) m=some (.ins CM dx (fm9 nm wa sz wr rl bd)):=ai
  refine hK_ _ _ (ah fun K_ hK_=>?_)
  generalize upd H8 m (.ins CM dx (fm9 nm wa sz wr rl bd))=H9 at b9 u9 ho9 ⊢
  refine ⟨Nat.zero_le _,fun yl G9 nyl syl eyl=>?_⟩
  have ho9c:=syl _ _ ho9
  have bc9:=b9.trans (BtO.of syl)
  refine ⟨_,rfl,ex4 m CM dx _ ⟨rfl,ho9c,T.cl,T.n9,(by show 9 < 1000; decide),?_⟩⟩
  have b10:=bc9.trans (BtO.upd (u:=.ins CM dx (re nm wa sz wr rl bd yl)))
  have u10:BtO m G9 (upd G9 m (.ins CM dx (re nm wa sz wr rl bd yl))):=BtO.upd
  have ho10:upd G9 m (.ins CM dx (re nm wa sz wr rl bd yl)) m=some (.ins CM dx (re nm wa sz wr rl bd yl)):=ai
  refine hK_ _ _ (ah fun K_ hK_=>?_)
  generalize upd G9 m (.ins CM dx (re nm wa sz wr rl bd yl))=H10 at b10 u10 ho10 ⊢
  intro sd nsd
  have ssd:=ar.new (o:=.dK []) nsd
  have ho10c:=ssd _ _ ho10
  have bc10:=b10.trans (BtO.of ssd)
  generalize upd H10 sd (.dK [])=G10 at ssd ho10c bc10 ⊢
  refine ⟨_,rfl,ex4 m CM dx _ ⟨rfl,ho10c,T.cl,T.n10,(by show 10 < 1000; decide),?_⟩⟩
  have b11:=bc10.trans (BtO.upd (u:=.ins CM dx (rf nm wa sz wr rl bd yl sd)))
  have u11:BtO m G10 (upd G10 m (.ins CM dx (rf nm wa sz wr rl bd yl sd))):=BtO.upd
  have ho11:upd G10 m (.ins CM dx (rf nm wa sz wr rl bd yl sd)) m=some (.ins CM dx (rf nm wa sz wr rl bd yl sd)):=ai
  refine hK_ _ _ (ah fun K_ hK_=>?_)
  generalize upd G10 m (.ins CM dx (rf nm wa sz wr rl bd yl sd))=H11 at b11 u11 ho11 ⊢
  refine ⟨_,rfl,ex4 m CM dx _ ⟨rfl,ho11,T.cl,T.n11,(by show 11 < 1000; decide),?_⟩⟩
  have b12:=b11.trans (BtO.upd (u:=.ins CM dx (rg nm wa sz wr rl bd yl sd)))
  have u12:BtO m H11 (upd H11 m (.ins CM dx (rg nm wa sz wr rl bd yl sd))):=BtO.upd
  have ho12:upd H11 m (.ins CM dx (rg nm wa sz wr rl bd yl sd)) m=some (.ins CM dx (rg nm wa sz wr rl bd yl sd)):=ai
  refine hK_ _ _ (ah fun K_ hK_=>?_)
  generalize upd H11 m (.ins CM dx (rg nm wa sz wr rl bd yl sd))=H12 at b12 u12 ho12 ⊢
  refine ⟨Nat.zero_le _,fun gl G12 ngl sgl egl=>?_⟩
  have ho12c:=sgl _ _ ho12
  have bc12:=b12.trans (BtO.of sgl)
  refine ⟨_,rfl,ex4 m CM dx _ ⟨rfl,ho12c,T.cl,T.n12,(by show 12 < 1000; decide),?_⟩⟩
  have b13:=bc12.trans (BtO.upd (u:=.ins CM dx (rh nm wa sz wr rl bd yl sd gl)))
  have u13:BtO m G12 (upd G12 m (.ins CM dx (rh nm wa sz wr rl bd yl sd gl))):=BtO.upd
  have ho13:upd G12 m (.ins CM dx (rh nm wa sz wr rl bd yl sd gl)) m=some (.ins CM dx (rh nm wa sz wr rl bd yl sd gl)):=ai
  refine hK_ _ _ (ah fun K_ hK_=>?_)
  generalize upd G12 m (.ins CM dx (rh nm wa sz wr rl bd yl sd gl))=H13 at b13 u13 ho13 ⊢
  refine ⟨Nat.zero_le _,fun fl G13 nfl sfl efl=>?_⟩
  have ho13c:=sfl _ _ ho13
  have bc13:=b13.trans (BtO.of sfl)
  refine ⟨_,rfl,ex4 m CM dx _ ⟨rfl,ho13c,T.cl,T.n13,(by show 13 < 1000; decide),?_⟩⟩
  have b14:=bc13.trans (BtO.upd (u:=.ins CM dx (ri nm wa sz wr rl bd yl sd gl fl)))
  have u14:BtO m G13 (upd G13 m (.ins CM dx (ri nm wa sz wr rl bd yl sd gl fl))):=BtO.upd
  have ho14:upd G13 m (.ins CM dx (ri nm wa sz wr rl bd yl sd gl fl)) m=some (.ins CM dx (ri nm wa sz wr rl bd yl sd gl fl)):=ai
  refine hK_ _ _ ?_
  generalize upd G13 m (.ins CM dx (ri nm wa sz wr rl bd yl sd gl fl))=H14 at b14 u14 ho14 ⊢
  refine ⟨Nat.zero_le _,fun sl G14 nsl ssl esl=>?_⟩
  have ho14c:=ssl _ _ ho14
  have bc14:=b14.trans (BtO.of ssl)
  refine ⟨_,rfl,ex4 m CM dx _ ⟨rfl,ho14c,T.cl,T.n14,(by show 14 < 1000; decide),?_⟩⟩
  have b15:=bc14.trans (BtO.upd (u:=.ins CM dx (um nm wa sz wr rl bd yl sd gl fl sl)))
  have u15:BtO m G14 (upd G14 m (.ins CM dx (um nm wa sz wr rl bd yl sd gl fl sl))):=BtO.upd
  have ho15:upd G14 m (.ins CM dx (um nm wa sz wr rl bd yl sd gl fl sl)) m=some (.ins CM dx (um nm wa sz wr rl bd yl sd gl fl sl)):=ai
  generalize upd G14 m (.ins CM dx (um nm wa sz wr rl bd yl sd gl fl sl))=H15 at b15 u15 ho15 ⊢
  have up:BtO m Hc H15:=(((((((((((((u6.trans u7).trans u8).trans u9).trans (BtO.of syl)).trans u10).trans (BtO.of ssd)).trans u11).trans u12).trans (BtO.of sgl)).trans u13).trans (BtO.of sfl)).trans u14).trans (BtO.of ssl)).trans u15
  have hn:∀ x,H5 x=none -> H x=none:=fun x h=>by
   cases e:H x with
   | none=>rfl
   | some u =>
    have:x ≠ m:=fun z=>by rw [z,ho5] at h; cases h
    exact absurd (b5 _ _ this e) (by rw [h]; intro z; cases z)
  have hg:∀ {x:Addr} {H':Hp} {fs:List (Str × V)},BtO m H H' -> H' m=some (.ins CM dx fs) -> H' x=none -> H x=none:=fun {x H' fs} b e h=>by
   cases e2:H x with
   | none=>rfl
   | some u =>
    have:x ≠ m:=fun z=>by rw [z,e] at h; cases h
    exact absurd (b _ _ this e2) (by rw [h]; intro z; cases z)
  have gm:gl ≠ m:=aM egl ho12c (by intro z; cases z)
  have fm:fl ≠ m:=aM efl ho13c (by intro z; cases z)
  have sm:sl ≠ m:=aM esl ho14c (by intro z; cases z)
  refine q bd d l yl sd gl fl sl H15 b15 ho15 (hn _ nbd) (hn _ nd) (hn _ nl) ?_ (u15 _ _ gm (ssl _ _ (u14 _ _ gm (sfl _ _ (u13 _ _ gm egl))))) (u15 _ _ fm (ssl _ _ (u14 _ _ fm efl))) (u15 _ _ sm esl) (hg b12 ho12 ngl) (hg b13 ho13 nfl) (hg b14 ho14 nsl)
  exact aU.bt up ho5c (fun z=>by rw [z,ho5] at nbd; cases nbd) hT
end
end K41
namespace K41
open PySem L2
abbrev kY:Stmt:=top 13
abbrev mR:Stmt:=top 14
abbrev uo:Stmt:=top 22
abbrev kZ:Stmt:=top 25
structure Blt (mg:Str -> Option Value):Prop where
 len:mg "len"=none
 list:mg "list"=none
 tuple:mg "tuple"=none
 sorted:mg "sorted"=none
theorem gK:bootBuiltins "isinstance"=some (.builtin "isinstance"):=by decide +kernel
theorem bStr:bootBuiltins "str"=some (.type "str"):=by decide +kernel
theorem rj:bootBuiltins "all"=some (.builtin "all"):=by decide +kernel
structure Bl2 (mg:Str -> Option Value):Prop where
 isi:mg "isinstance"=none
 str:mg "str"=none
 all:mg "all"=none
 any:mg "any"=none
 zip:mg "zip"=none
 set:mg "set"=none
 abc:∃ t,mg "SMALL_LETTERS"=some (.str ABC t)
 sev:∃ t,mg "MOST_SPEAKING"=some (.int 7 t)
 fou:∃ t,mg "MOST_LEARNERS"=some (.int 4 t)
theorem bAny:bootBuiltins "any"=some (.builtin "any"):=by decide +kernel
theorem at2 {α:Type} {a b c:α} {r:List α}:atI (a :: b :: c :: r) 2=some c:=bN (j:=2) rfl
def nmB:V -> Bool
 | .str x=>(decide (1 <= x.length) && decide (x.length <= 8)) && x.cps.toList.all okc
 | _=>false
theorem nmB_nm {x:Str} (h:nmB (.str x)=true):Nm x:=by
 have h:((decide (1 <= x.length) && decide (x.length <= 8)) && x.cps.toList.all okc)=true:=h
 simp only [Bool.and_eq_true,decide_eq_true_iff] at h
 exact ⟨h.1.1,h.1.2,List.all_eq_true.mp h.2⟩
theorem i7 {x:Str} (h:Nm x):nmB (.str x)=true:=by
 show ((decide (1 <= x.length) && decide (x.length <= 8)) && x.cps.toList.all okc)=true
 simp only [Bool.and_eq_true,decide_eq_true_iff]
 exact ⟨⟨h.one,h.eight⟩,List.all_eq_true.mpr h.ok⟩
theorem nmB_mid {x:Str} (h1:1 <= x.length) (h2:x.length <= 8):nmB (.str x)=x.cps.toList.all okc:=by
 show ((decide (1 <= x.length) && decide (x.length <= 8)) && x.cps.toList.all okc)=_
 rw [decide_eq_true h1,decide_eq_true h2]
 rfl
theorem rn {x:Str} (h:¬ 1 <= x.length):nmB (.str x)=false:=by
 show ((decide (1 <= x.length) && decide (x.length <= 8)) && x.cps.toList.all okc)=_
 rw [decide_eq_false h]
 rfl
theorem uq {x:Str} (h:¬ x.length <= 8):nmB (.str x)=false:=by
 show ((decide (1 <= x.length) && decide (x.length <= 8)) && x.cps.toList.all okc)=_
 rw [decide_eq_false h,Bool.and_false]
 rfl
def Im (H:Hp) (x:V):Prop:=Th1 H x /\ ∀ z,x=.str z -> z.length <= 100
theorem Im.same {H H':Hp} {x:V} (e:ar H H') (h:Im H x):Im H' x:=⟨h.1.same e,h.2⟩
theorem Im.str {H:Hp} {x:Str} (h:x.length <= 100):Im H (.str x):=⟨.inl rfl,fun z e=>by cases e; exact h⟩
theorem Im.nm {H:Hp} {x:Str} (h:Nm x):Im H (.str x):=Im.str (by have:=h.eight; lia)
theorem i8:∀ {xs:List V},xs.all nmB=true -> ∃ zs:List Str,xs=zs.map V.str /\ ∀ z ∈ zs,Nm z
 | [],_=>⟨[],rfl,by simp⟩
 | x :: r,h=>by
  rw [List.all_cons,Bool.and_eq_true] at h
  obtain ⟨zs,rfl,hz⟩:=i8 h.2
  cases x with
  | str z=>exact ⟨z :: zs,rfl,fun y hy=>by
    rcases List.mem_cons.mp hy with rfl | hy
    ·exact nmB_nm h.1
    ·exact hz y hy⟩
  | _=>exact absurd h.1 (by simp [nmB])
def txs:List V -> List Str
 | []=>[]
 | .str z :: r=>z :: txs r
 | _ :: r=>txs r
theorem fE:∀ zs:List Str,txs (zs.map V.str)=zs
 | []=>rfl
 | z :: r=>by show z :: txs (r.map V.str)=_; rw [fE r]
def adj:List Str -> Bool
 | a :: b :: r=>decide (a.cps.toList < b.cps.toList) && adj (b :: r)
 | _=>true
theorem pX:∀ zs:List Str,(((zs.zip (zs.drop 1)).map fun p=>decide (p.1.cps.toList < p.2.cps.toList)).all id)=adj zs
 | []=>rfl
 | [a]=>rfl
 | a :: b :: r=>by
  have ih:=pX (b :: r)
  show ((decide (a.cps.toList < b.cps.toList)) && ((((b :: r).zip ((b :: r).drop 1)).map fun p=>decide (p.1.cps.toList < p.2.cps.toList)).all id))=_
  rw [ih]
  rfl
theorem fo {K:PySem.W.Frag} {H:Hp} {x:V} {k:String} (h:Kd H x k) (hk:k ≠ "tuple"):PySem.W.kitOne K (.type k) (.type "tuple")=some false:=by
 cases h with
 | non=>exact kF rfl (Kd.non (H:=H))
 | bl b=>exact kF rfl (Kd.bl (H:=H) b)
 | int i=>exact kF rfl (Kd.int (H:=H) i)
 | str z=>exact kF rfl (Kd.str (H:=H) z)
 | lst h=>exact sZ
 | tup h=>exact absurd rfl hk
theorem Kd.same {H H':Hp} {x:V} {k:String} (e:ar H H') (h:Kd H x k):Kd H' x k:=by
 cases h with
 | non=>exact .non
 | bl b=>exact .bl b
 | int i=>exact .int i
 | str z=>exact .str z
 | lst h =>
  rcases h with h | ⟨o,h⟩
  ·exact .lst (.inl (e _ _ h))
  ·exact .lst (.inr ⟨o,e _ _ h⟩)
 | tup h =>
  rcases h with h | ⟨o,h⟩
  ·exact .tup (.inl (e _ _ h))
  ·exact .tup (.inr ⟨o,e _ _ h⟩)
inductive ie (H:Hp):V -> Option (List V) -> Prop
 | no {x:V} {k:String}:Kd H x k -> k ≠ "tuple" -> ie H x none
 | tup {a:Addr} {xs:List V}:H a=some (.tup xs) -> xs.length <= 60 -> (∀ x ∈ xs,Im H x) -> ie H (.ref a) (some xs)
theorem ie.same {H H':Hp} {x:V} {o:Option (List V)} (e:ar H H') (h:ie H x o):ie H' x o:=by
 cases h with
 | no h hk=>exact .no (Kd.same e h) hk
 | tup h hl hi=>exact .tup (e _ _ h) hl fun x hx=>(hi x hx).same e
abbrev Tr:=Option (Option (List V) × Option (List V) × Option (List V))
inductive mS (H:Hp):V -> Tr -> Prop
 | no {x:V} {k:String}:Kd H x k -> k ≠ "tuple" -> mS H x none
 | odd {a:Addr} {ps:List V}:H a=some (.tup ps) -> ps.length <= 60 -> ps.length ≠ 3 -> mS H (.ref a) none
 | tri {a:Addr} {p0 p1 p2:V} {o0 o1 o2:Option (List V)}:H a=some (.tup [p0,p1,p2]) -> ie H p0 o0 -> ie H p1 o1 -> ie H p2 o2 -> mS H (.ref a) (some (o0,o1,o2))
theorem mS.same {H H':Hp} {x:V} {o:Tr} (e:ar H H') (h:mS H x o):mS H' x o:=by
 cases h with
 | no h hk=>exact .no (Kd.same e h) hk
 | odd h hl hi=>exact .odd (e _ _ h) hl hi
 | tri h h0 h1 h2=>exact .tri (e _ _ h) (h0.same e) (h1.same e) (h2.same e)
def bM:Option (List V) -> Bool
 | some xs=>xs.all nmB && adj (txs xs)
 | none=>false
def rq:Option (List V) -> List Str
 | some xs=>txs xs
 | none=>[]
def com (vs cs ls:List Str):Bool:=ls.any fun x=>decide (x ∈ (if cs=[] then vs else cs))
def mT (vs cs ls:List Str):Bool:=(((decide (1 <= vs.length) && decide (vs.length <= 7)) && decide (cs.length <= 7)) && decide (ls.length <= 4)) && !com vs cs ls
def bnB:Tr -> Bool
 | some (a,b,c)=>((bM a && bM b) && bM c) && mT (rq a) (rq b) (rq c)
 | none=>false
theorem i9 {H:Hp} {p:V} {o:Option (List V)} (h:ie H p o) (hr:bM o=true):∃ (a:Addr) (zs:List Str),p=.ref a /\ H a=some (.tup (zs.map V.str)) /\ o=some (zs.map V.str) /\ zs.length <= 60 /\ (∀ z ∈ zs,Nm z) /\ adj zs=true:=by
 cases h with
 | no h hk=>cases hr
 | @tup a xs h hl hi =>
  have hr:(xs.all nmB && adj (txs xs))=true:=hr
  rw [Bool.and_eq_true] at hr
  obtain ⟨zs,rfl,hz⟩:=i8 hr.1
  have h2:=hr.2
  rw [fE] at h2
  rw [List.length_map] at hl
  exact ⟨a,zs,rfl,h,rfl,hl,hz,h2⟩
def rA:Sp:=fun us H Q _=>∃ x:V,us=[x] /\ Im H x /\ ∀ H',ar H H' -> Q (.bl (nmB x)) H'
def oN:Sp:=fun us H Q _=>∃ (x:V) (o:Option (List V)),us=[x] /\ ie H x o /\ ∀ H',ar H H' -> Q (.bl (bM o)) H'
def ja:Sp:=fun us H Q _=>∃ (b v c l:Addr) (cs:List Str),us=[.ref b] /\ H b=some (.tup [.ref v,.ref c,.ref l]) /\ H c=some (.tup (cs.map V.str)) /\ Q (.bl (decide (0 < cs.length))) H
def ur:Sp:=fun us H Q _=>∃ (x:V) (o:Tr),us=[x] /\ mS H x o /\ ∀ H',ar H H' -> Q (.bl (bnB o)) H'
theorem cut1 (zs:List Str):cj (zs.map V.str) (some 1) none=(zs.drop 1).map V.str:=by
 unfold cj
 rw [List.length_map,HT.eB,show HT.sIx zs.length 0 (some 1)=min 1 zs.length from HT.df _ _ 1,List.map_drop,<- List.map_drop,<- List.map_drop]
 by_cases h:1 <= zs.length
 ·rw [Nat.min_eq_left h,List.take_of_length_le (by rw [List.length_map,List.length_drop]; lia)]
 ·rw [Nat.min_eq_right (by lia),List.drop_of_length_le (Nat.le_refl _),List.drop_of_length_le (by lia)]
  simp
theorem all_okc (xs:List Nat):(xs.map okc).all id=xs.all okc:=by rw [List.all_map]; rfl
theorem bls_okc (xs:List Nat):xs.map (fun c=>V.bl (okc c))=(xs.map okc).map V.bl:=by rw [List.map_map]; rfl
theorem bls_nm (xs:List V):xs.map (fun c=>V.bl (nmB c))=(xs.map nmB).map V.bl:=by rw [List.map_map]; rfl
theorem all_nm (xs:List V):(xs.map nmB).all id=xs.all nmB:=by rw [List.all_map]; rfl
theorem len_pos (n:Nat):decide ((0:Int) < (n:Int))=decide (0 < n):=by
 rw [Bool.eq_iff_iff,decide_eq_true_iff,decide_eq_true_iff]
 lia
def ltV:V -> V -> Bool
 | .str a,.str b=>decide (a.cps.toList < b.cps.toList)
 | _,_=>false
theorem zip_lt (zs ys:List Str):((zs.map V.str).zip (ys.map V.str)).map (fun p=>V.bl (ltV p.1 p.2))=((zs.zip ys).map fun p=>decide (p.1.cps.toList < p.2.cps.toList)).map V.bl:=by
 rw [List.zip_map,List.map_map,List.map_map]
 rfl
section
variable {P:Program} {w:World} {K:PySem.W.Frag} {mg:Str -> Option Value} {base:Heap}
theorem scPName:ax ["thing"] ["thing"] (am kY):=fsc (by decide +kernel)
theorem ndSign:((["thing"]:List Str) ++ (["sign"]:List Str)).Nodup:=by decide +kernel
theorem uu {f:Addr} {fd:FuncData} (F:Fun K "is_name" "is_name" kY f fd) (B:Blt mg) (T:Bl2 mg):aP P w K mg base CX0 1 f fd ["thing"] rA:=by
 refine F.ok scPName (fun vs H Q E h=>?_) (fun cdv A outer s H vs Q E hr h=>?_)
 ·obtain ⟨v,rfl,_⟩:=h
  rfl
 ·obtain ⟨v,rfl,hI,q⟩:=h
  obtain ⟨tA,hA⟩:=T.abc
  refine ⟨_,ae (aS (PW.pt (cN (dD (cY (aA cg (by rfl) T.isi gK (ad (pv 0) (ad (cG (v:=.ty "str") (by rfl) T.str bStr rfl) ag))))) <|
    cN (aD dY (aA gg (by rfl) B.len PySem.boot_len (ad (pv 0) ag)) af (aF _)) <|
    cZ (aD dL (aA gg (by rfl) B.len PySem.boot_len (ad (pv 0) ag)) af (aF _)))) (aj (ay dU)) aH) <|
   aj <| ay <| aA (dS rfl) (by rfl) T.all rj (ad (fb ["thing"] ["thing"] ["sign"] (am kY) rfl rfl rfl (by decide +kernel) rfl rfl (by decide +kernel) (by decide +kernel) (by decide +kernel) (by decide +kernel)
    (pi_str (pv 0)) (fun _ _ _ _ _=>au (i:=1) ndSign rfl (Or.inl rfl)) (fun _ _ _ _ _=>cr)
    (fun _ _ _ _ _=>bC qz (pv 1) (eI (v:=.str ABC) (by rfl) hA ⟨tA,rfl⟩) (by rfl))) ag),?_⟩
  dsimp only [bj,Cx.nox]
  obtain ⟨k,hk⟩:=hI.1.kd
  refine ah fun K_ hK_=>?_
  refine ⟨_,rfl,ex4 _ _ _ _ ⟨rfl,hk,kit_str hk,_,rfl,?_⟩⟩
  cases v with
  | str x =>
   have hx:=hI.2 x rfl
   have hz:x.length <= sizeLine:=Nat.le_of_lt (bA (by lia))
   refine aV ?_
   refine ⟨_,rfl,x,rfl,hz,_,_,rfl,rfl,_,rfl,bE (fun z=>?_) (fun z1=>?_)⟩
   ·have z:=of_decide_eq_true z
    rw [rn (by lia)] at q
    exact bz (q H (ar.refl H))
   have z1:¬ (((x.length:Nat):Int) < 1):=fun y=>z1 (decide_eq_true y)
   refine ⟨_,rfl,x,rfl,hz,_,_,rfl,rfl,_,rfl,bE (fun z=>?_) (fun z2=>?_)⟩
   ·have z:=of_decide_eq_true z
    rw [uq (by lia)] at q
    exact q H (ar.refl H)
   have z2:¬ ((8:Int) < ((x.length:Nat):Int)):=fun y=>z2 (decide_eq_true y)
   rw [nmB_mid (by lia) (by lia)] at q
   refine hK_ _ _ ?_
   refine ⟨_,rfl,x,rfl,?_⟩
   refine lcT (fun c=>V.bl (okc c)) rfl (show x.length <= 1000 by lia) (fun D c ys post hD hp=>?_) (fun D hD=>?_)
   ·exact ⟨_,rfl,_,_,rfl,rfl,hp⟩
   ·rw [bls_okc]
    refine ⟨D,_,rfl,SqL.of ai,?_⟩
    rw [all_okc]
    exact q _ (ar.new hD)
  | _=>exact bz (bz (q H (ar.refl H)))
theorem scRise:ax ["thing"] ["thing"] (am mR):=fsc (by decide +kernel)
theorem ndPart:((["thing"]:List Str) ++ (["part"]:List Str)).Nodup:=by decide +kernel
theorem ndTwo:((["thing"]:List Str) ++ (["name","following"]:List Str)).Nodup:=by decide +kernel
theorem ok_rise {f:Addr} {fd:FuncData} (F:Fun K "is_rising_names" "is_rising_names" mR f fd) (B:Blt mg) (T:Bl2 mg) (Fn:aR P w K mg base 1 "is_name" ["thing"] rA):aP P w K mg base CX0 2 f fd ["thing"] oN:=by
 refine F.ok scRise (fun vs H Q E h=>?_) (fun cdv A outer s H vs Q E hr h=>?_)
 ·obtain ⟨t,xs,rfl,_⟩:=h
  rfl
 ·obtain ⟨x,o,rfl,hP,q⟩:=h
  refine ⟨_,ae (aS (PW.pt (cN (dD (cY (aA cg (by rfl) T.isi gK (ad (pv 0) (ad (cG (v:=.ty "tuple") (by rfl) B.tuple ca rfl) ag))))) <|
    cZ (dD (cY (aA (dS rfl) (by rfl) T.all rj (ad (fb ["thing"] ["thing"] ["part"] (am mR) rfl rfl rfl (by decide +kernel) rfl rfl (by decide +kernel) (by decide +kernel) (by decide +kernel) (by decide +kernel)
     (fS (pv 0)) (fun _ _ _ _ _=>au (i:=1) ndPart rfl (Or.inl rfl)) (fun _ _ _ _ _=>cr) (fun _ _ _ _ _=>aC (X:=cxC _ _ _ _ _ _ _ _ _) Fn hr (ad (pv 1) ag))) ag)))))) (aj (ay dU)) aH) <|
   aj <| ay <| aA (dS rfl) (by rfl) T.all rj (ad (fb ["thing"] ["thing"] ["name","following"] (am mR) rfl rfl rfl (by decide +kernel) rfl rfl (by decide +kernel) (by decide +kernel) (by decide +kernel) (by decide +kernel)
     (pR (by rfl) T.zip (ad (pv 0) (ad (bO cT (pv 0) (bP af) cx) ag)))
     (fun _ _ _ _ _=>pQ (n:=2) rfl (az (au (i:=1) ndTwo rfl (Or.inl rfl)) (az (au (i:=2) ndTwo rfl (Or.inl rfl)) bV))) (fun _ _ _ _ _=>cr)
     (fun _ _ _ _ _=>bC qy (pv 1) (pv 2) (by rfl))) ag),?_⟩
  dsimp only [bj,Cx.nox]
  cases hP with
  | no hk ne=>exact ⟨_,rfl,ex4 _ _ _ false ⟨rfl,hk,fo hk ne,_,rfl,bz (bz (q H (ar.refl H)))⟩⟩
  | @tup t xs ht hl hi =>
   refine ah fun K_ hK_=>?_
   refine ⟨_,rfl,_,_,"tuple",true,rfl,Kd.tup (.inl ht),aZ,_,rfl,aV ?_⟩
   refine ⟨_,rfl,t,rfl,⟨_,SqT.of ht⟩,?_⟩
   refine tz (fun x=>V.bl (nmB x)) rfl ht (by lia) (fun D x ys H1 post hD hx sm hDD hpost=>?_) (fun D H1 hD sm eD=>?_)
   ·exact ⟨_,rfl,x,rfl,(hi x hx).same sm,fun H' s'=>hpost H' s'⟩
   rw [bls_nm] at eD
   refine ⟨D,_,rfl,SqL.of eD,?_⟩
   rw [all_nm]
   cases hn:xs.all nmB with
   | false =>
    rw [show bM (some xs)=false by show (xs.all nmB && adj (txs xs))=false; rw [hn]; rfl] at q
    exact ⟨_,rfl,bz (q _ sm)⟩
   | true =>
    obtain ⟨zs,rfl,hz⟩:=i8 hn
    rw [show bM (some (zs.map V.str))=adj zs by show ((zs.map V.str).all nmB && adj (txs (zs.map V.str)))=adj zs; rw [hn,fE]; rfl] at q
    refine ⟨_,rfl,aV ?_⟩
    refine hK_ _ _ ?_
    refine ⟨_,rfl,_,rfl,_,rfl,t,_,rfl,sm _ _ ht,fun p H2 s2 ep=>?_⟩
    rw [cut1] at ep
    refine (ex4 t p _ _ ⟨rfl,SqT.of (s2 _ _ (sm _ _ ht)),SqT.of ep,?_⟩)
    refine lcZU (fun x y=>V.bl (ltV x y)) (s2 _ _ (sm _ _ ht)) ep (by lia) (fun p' x y Hx R hp' hR=>?_) (fun i x y Hx post hx hy sx hpost=>?_) (fun D2 H3 hD2 s3 e3=>?_)
    ·exact ⟨p',_,rfl,SqT.of hp',rfl,x,[y],rfl,y,[],rfl,rfl,hR⟩
    ·obtain ⟨a,_,rfl⟩:=List.mem_map.mp (List.mem_of_getElem? hx)
     obtain ⟨b,_,rfl⟩:=List.mem_map.mp (List.mem_of_getElem? hy)
     refine ⟨_,rfl,_,rfl,_,_,rfl,rfl,?_⟩
     exact hpost _ (ar.refl _)
    ·rw [zip_lt] at e3
     refine ⟨D2,_,rfl,SqL.of e3,?_⟩
     rw [pX]
     exact q _ ((sm.trans s2).trans s3)
theorem uv:ax ["bench"] ["bench"] (am kZ):=fsc (by decide +kernel)
theorem rB {f:Addr} {fd:FuncData} (F:Fun K "is_joined" "is_joined" kZ f fd) (hlen:mg "len"=none):aP P w K mg base CX0 1 f fd ["bench"] ja:=by
 refine F.ok uv (fun us H Q E h=>?_) (fun cdv A outer s H us Q E hr h=>?_)
 ·obtain ⟨b,v,c,l,cs,rfl,_⟩:=h
  rfl
 ·obtain ⟨b,v,c,l,cs,rfl,hb,hc,q⟩:=h
  refine ⟨_,aj <| ay <| bC dL (aA aK (by rfl) hlen PySem.boot_len (ad (aq ao (pv 0) af (fun _ _=>rfl)) ag)) af (aF _),?_⟩
  dsimp only [bj,Cx.nox]
  refine ⟨_,rfl,ex4 b _ _ _ ⟨rfl,rfl,SqT.of hb,at1,c,_,rfl,.inr (SqT.of hc),_,_,rfl,rfl,?_⟩⟩
  rw [List.length_map]
  show Q (.bl (decide ((0:Int) < (cs.length:Int)))) H
  rw [len_pos]
  exact q
end
theorem bn_not3 {a b c:Option (List V)} (h:((bM a && bM b) && bM c)=false):bnB (some (a,b,c))=false:=by
 show (((bM a && bM b) && bM c) && mT (rq a) (rq b) (rq c))=false
 rw [h]
 rfl
theorem bn_fit {vs cs ls:List Str} (h:((bM (some (vs.map V.str)) && bM (some (cs.map V.str))) && bM (some (ls.map V.str)))=true):bnB (some (some (vs.map V.str),some (cs.map V.str),some (ls.map V.str)))=mT vs cs ls:=by
 show (((bM (some (vs.map V.str)) && bM (some (cs.map V.str))) && bM (some (ls.map V.str))) && mT (txs (vs.map V.str)) (txs (cs.map V.str)) (txs (ls.map V.str)))=_
 rw [h,fE,fE,fE]
 rfl
def ptO (H:Hp):V -> Option (List V)
 | .ref a=>match H a with
  | some (.tup xs)=>some xs
  | _=>none
 | _=>none
theorem ie.eq {H:Hp} {x:V} {o:Option (List V)} (h:ie H x o):ptO H x=o:=by
 cases h with
 | no h hk=>cases h with
  | non=>rfl
  | bl b=>rfl
  | int i=>rfl
  | str z=>rfl
  | lst h=>rcases h with h | ⟨_,h⟩ <;> simp [ptO,h]
  | tup h=>exact absurd rfl hk
 | tup h hl hi=>simp [ptO,h]
theorem pY {vs cs ls:List Str} (h1:1 <= vs.length) (h2:vs.length <= 7) (h3:cs.length <= 7) (h4:ls.length <= 4):mT vs cs ls=!com vs cs ls:=by
 unfold mT
 rw [decide_eq_true h1,decide_eq_true h2,decide_eq_true h3,decide_eq_true h4]
 rfl
theorem jb {vs cs ls:List Str} (h:vs.length < 1 \/ 7 < vs.length \/ 7 < cs.length \/ 4 < ls.length):mT vs cs ls=false:=by
 unfold mT
 rcases h with h | h | h | h
 ·rw [decide_eq_false (by lia)]; rfl
 ·rw [decide_eq_false (show ¬ vs.length <= 7 by lia),Bool.and_false]; rfl
 ·rw [decide_eq_false (show ¬ cs.length <= 7 by lia),Bool.and_false]; rfl
 ·rw [decide_eq_false (show ¬ ls.length <= 4 by lia),Bool.and_false]; rfl
theorem uw (ls vs:List Str):(ls.map V.str).map (fun x=>V.bl (inV x (vs.map V.str)))=(ls.map fun x=>decide (x ∈ vs)).map V.bl:=by
 rw [List.map_map,List.map_map]
 refine List.map_congr_left fun z _=>?_
 show V.bl (inV (.str z) (vs.map V.str))=V.bl (decide (z ∈ vs))
 rw [inV_str]
theorem pZ (ls vs:List Str):(ls.map fun x=>decide (x ∈ vs)).any id=ls.any fun x=>decide (x ∈ vs):=by rw [List.any_map]; rfl
section
variable {P:Program} {w:World} {K:PySem.W.Frag} {mg:Str -> Option Value} {base:Heap}
abbrev oO:List Str:=["thing","speaking_then"]
theorem scIsB:ax oO ["thing"] (am uo):=fsc (by decide +kernel)
theorem ndIsB1:(oO ++ (["part"]:List Str)).Nodup:=by decide +kernel
theorem ndIsB2:(oO ++ (["name"]:List Str)).Nodup:=by decide +kernel
theorem ok_isB {f:Addr} {fd:FuncData} (F:Fun K "is_bench" "is_bench" uo f fd) (B:Blt mg) (T:Bl2 mg) (Fr:aR P w K mg base 2 "is_rising_names" ["thing"] oN) (Fj:aR P w K mg base 1 "is_joined" ["bench"] ja):aP P w K mg base CX0 3 f fd ["thing"] ur:=by
 refine F.ok scIsB (fun us H Q E h=>?_) (fun cdv A outer s H us Q E hr h=>?_)
 ·obtain ⟨x,o,rfl,_⟩:=h
  rfl
 ·obtain ⟨x,o,rfl,hB,q⟩:=h
  obtain ⟨t7,h7⟩:=T.sev
  obtain ⟨t4,h4⟩:=T.fou
  have nd:=scIsB.nd
  have r1:bi 1 _:=hr.mono (by decide)
  refine ⟨_,ae (aS (PW.pt (cN (dD (cY (aA cg (by rfl) T.isi gK (ad (pv 0) (ad (cG (v:=.ty "tuple") (by rfl) B.tuple ca rfl) ag))))) <|
    cN (aD gb (aA aK (by rfl) B.len PySem.boot_len (ad (pv 0) ag)) af (aF _)) <|
    cZ (dD (cY (aA (dS rfl) (by rfl) T.all rj (ad (fb oO oO ["part"] (am uo) rfl rfl rfl (by decide +kernel) rfl rfl (by decide +kernel) (by decide +kernel) (by decide +kernel) (by decide +kernel)
     (fS (pv 0)) (fun _ _ _ _ _=>au (i:=2) ndIsB1 rfl (Or.inl rfl)) (fun _ _ _ _ _=>cr) (fun _ _ _ _ _=>aC (X:=cxC _ _ _ _ _ _ _ _ _) Fr hr (ad (pv 2) ag))) ag)))))) (aj (ay dU)) aH) <|
   ae (aS (PW.pt (cN (aD dY (aA aK (by rfl) B.len PySem.boot_len (ad (aq ao (pv 0) af (fun _ _=>rfl)) ag)) af (aF _)) <|
    cN (aD dL (aA aK (by rfl) B.len PySem.boot_len (ad (aq ao (pv 0) af (fun _ _=>rfl)) ag)) (eI (v:=.int 7) (by rfl) h7 ⟨t7,rfl⟩) (aF _)) <|
    cZ (aD dL (aA aK (by rfl) B.len PySem.boot_len (ad (aq ao (pv 0) af (fun _ _=>rfl)) ag)) (eI (v:=.int 7) (by rfl) h7 ⟨t7,rfl⟩) (aF _)))) (aj (ay dU)) aH) <|
   ae (aB (i:=1) nd rfl (Or.inr rfl) (l7 (cY (aC Fj r1 (ad (pv 0) ag))) (aq ao (pv 0) af (fun _ _=>rfl)) (aq ao (pv 0) af (fun _ _=>rfl)))) <|
   aj <| ay <| cK (bC pE (aA aK (by rfl) B.len PySem.boot_len (ad (aq ao (pv 0) af (fun _ _=>rfl)) ag)) (eI (v:=.int 4) (by rfl) h4 ⟨t4,rfl⟩) (aF _))
    (dE (sC (aA (qQ rfl) (by rfl) T.any bAny (ad (fb oO oO ["name"] (am uo) rfl rfl rfl (by decide +kernel) rfl rfl (by decide +kernel) (by decide +kernel) (by decide +kernel) (by decide +kernel)
     (fS (aq ao (pv 0) af (fun _ _=>rfl))) (fun _ _ _ _ _=>au (i:=2) ndIsB2 rfl (Or.inl rfl)) (fun _ _ _ _ _=>cr) (fun _ _ _ _ _=>bC on (pv 2) (pv 1) (by rfl))) ag)))),?_⟩
  dsimp only [bj,Cx.nox]
  cases hB with
  | no hk ne=>exact ⟨_,rfl,ex4 _ _ _ false ⟨rfl,hk,fo hk ne,_,rfl,bz (bz (q H (ar.refl H)))⟩⟩
  | @odd b ps hb hl n3 =>
   refine ah fun K_ hK_=>?_
   refine ⟨_,rfl,_,_,"tuple",true,rfl,Kd.tup (.inl hb),aZ,_,rfl,aV ?_⟩
   refine ⟨_,rfl,b,_,rfl,.inr (SqT.of hb),rfl,_,rfl,?_⟩
   rw [show (!decide (V.int ((ps.length:Nat):Int)=V.int 3))=true by rw [decide_eq_false (fun e=>by injection e with e; lia)]; rfl]
   exact bz (bz (q H (ar.refl H)))
  | @tri b p0 p1 p2 o0 o1 o2 hb hp0 hp1 hp2 =>
   refine ah fun K_ hK_=>?_
   refine ⟨_,rfl,_,_,"tuple",true,rfl,Kd.tup (.inl hb),aZ,_,rfl,aV ?_⟩
   refine ⟨_,rfl,b,_,rfl,.inr (SqT.of hb),rfl,_,rfl,mB rfl ?_⟩
   refine ⟨_,rfl,b,rfl,⟨_,SqT.of hb⟩,?_⟩
   refine tz (fun x=>V.bl (bM (ptO H x))) rfl hb (by show 3 <= 1000; decide) (fun D x ys H1 post hD hx sm hDD hpost=>?_) (fun D H1 hD sm eD=>?_)
   ·simp only [List.mem_cons,List.not_mem_nil,or_false] at hx
    rcases hx with rfl | rfl | rfl
    ·rw [hp0.eq] at hpost
     exact ⟨_,rfl,_,o0,rfl,hp0.same sm,fun H' s'=>hpost H' s'⟩
    ·rw [hp1.eq] at hpost
     exact ⟨_,rfl,_,o1,rfl,hp1.same sm,fun H' s'=>hpost H' s'⟩
    ·rw [hp2.eq] at hpost
     exact ⟨_,rfl,_,o2,rfl,hp2.same sm,fun H' s'=>hpost H' s'⟩
   have e3:[p0,p1,p2].map (fun x=>V.bl (bM (ptO H x)))=[bM o0,bM o1,bM o2].map V.bl:=by
    show [V.bl (bM (ptO H p0)),V.bl (bM (ptO H p1)),V.bl (bM (ptO H p2))]=_
    rw [hp0.eq,hp1.eq,hp2.eq]
    rfl
   rw [e3] at eD
   refine ⟨D,_,rfl,SqL.of eD,?_⟩
   rw [show [bM o0,bM o1,bM o2].all id=((bM o0 && bM o1) && bM o2) by simp [Bool.and_assoc]]
   cases h3:((bM o0 && bM o1) && bM o2) with
   | false =>
    rw [bn_not3 h3] at q
    exact ⟨_,rfl,bz (q _ sm)⟩
   | true =>
    have hh:=h3
    rw [Bool.and_eq_true,Bool.and_eq_true] at hh
    obtain ⟨v,vs,rfl,hv,rfl,vl,nv,av⟩:=i9 hp0 hh.1.1
    obtain ⟨c,cs,rfl,hc,rfl,cl,nc,ac⟩:=i9 hp1 hh.1.2
    obtain ⟨l,ls,rfl,hl,rfl,ll,nl,al⟩:=i9 hp2 hh.2
    rw [bn_fit h3] at q
    refine ⟨_,rfl,aV ?_⟩
    refine hK_ _ _ (ah fun K_ hK_=>?_)
    refine ⟨_,rfl,ex4 b _ _ _ ⟨rfl,rfl,SqT.of (sm _ _ hb),at0,v,_,rfl,.inr (SqT.of (sm _ _ hv)),_,_,rfl,rfl,_,rfl,bE (fun z=>?_) (fun z1=>?_)⟩⟩
    ·have z:=of_decide_eq_true z
     rw [List.length_map] at z
     rw [jb (.inl (by lia))] at q
     exact bz (q _ sm)
    have z1:¬ (((vs.length:Nat):Int) < 1):=fun y=>z1 (decide_eq_true (by rw [List.length_map]; exact y))
    refine ⟨_,rfl,ex4 b _ _ _ ⟨rfl,rfl,SqT.of (sm _ _ hb),at0,v,_,rfl,.inr (SqT.of (sm _ _ hv)),_,_,rfl,rfl,_,rfl,bE (fun z=>?_) (fun z2=>?_)⟩⟩
    ·have z:=of_decide_eq_true z
     rw [List.length_map] at z
     rw [jb (.inr (.inl (by lia)))] at q
     exact bz (q _ sm)
    have z2:¬ ((7:Int) < ((vs.length:Nat):Int)):=fun y=>z2 (decide_eq_true (by rw [List.length_map]; exact y))
    refine ⟨_,rfl,ex4 b _ _ _ ⟨rfl,rfl,SqT.of (sm _ _ hb),at1,c,_,rfl,.inr (SqT.of (sm _ _ hc)),_,_,rfl,rfl,_,rfl,bE (fun z=>?_) (fun z3=>?_)⟩⟩
    ·have z:=of_decide_eq_true z
     rw [List.length_map] at z
     rw [jb (.inr (.inr (.inl (by lia))))] at q
     exact q _ sm
    have z3:¬ ((7:Int) < ((cs.length:Nat):Int)):=fun y=>z3 (decide_eq_true (by rw [List.length_map]; exact y))
    refine hK_ _ _ (ah fun K_ hK_=>?_)
    refine ⟨_,rfl,ex5 b v c l cs ⟨rfl,sm _ _ hb,sm _ _ hc,_,rfl,?_⟩⟩
    by_cases hcs:cs=[]
    ·have hsp:com vs cs ls=ls.any fun x=>decide (x ∈ vs):=by unfold com; rw [if_pos hcs]
     rw [decide_eq_false (show ¬ 0 < cs.length by rw [hcs]; simp)]
     refine aV ?_
     refine ⟨_,rfl,ex4 b _ _ _ ⟨rfl,rfl,SqT.of (sm _ _ hb),at0,?_⟩⟩
     refine hK_ _ _ ?_
     refine ⟨_,rfl,ex4 b _ _ _ ⟨rfl,rfl,SqT.of (sm _ _ hb),at2,l,_,rfl,.inr (SqT.of (sm _ _ hl)),_,_,rfl,rfl,?_⟩⟩
     refine ⟨_,rfl,bE (fun z4=>?_) (fun z=>?_)⟩
     ·have z4:=of_decide_eq_true z4
      rw [List.length_map] at z4
      rw [pY (by lia) (by lia) (by lia) (by lia),hsp] at q
      refine ⟨_,rfl,ex4 b _ _ _ ⟨rfl,rfl,SqT.of (sm _ _ hb),at2,l,rfl,⟨_,SqT.of (sm _ _ hl)⟩,?_⟩⟩
      refine tz (fun x=>V.bl (inV x (vs.map V.str))) rfl (sm _ _ hl) (by rw [List.length_map]; lia) (fun D2 x us H2 post hD2 hx s2 hDD2 hpost=>?_) (fun D2 H2 hD2 s2 e2=>?_)
      ·obtain ⟨z,hz,rfl⟩:=List.mem_map.mp hx
       refine ⟨_,rfl,_,rfl,v,_,rfl,.inr (SqT.of (s2 _ _ (sm _ _ hv))),rfl,jY vs,?_⟩
       exact hpost _ (ar.refl _)
      ·rw [uw] at e2
       refine ⟨D2,_,rfl,SqL.of e2,?_⟩
       rw [pZ]
       exact ⟨_,rfl,q _ (sm.trans s2)⟩
     ·have z4:¬ (((ls.length:Nat):Int) <= 4):=fun y=>z (decide_eq_true (by rw [List.length_map]; exact y))
      rw [jb (.inr (.inr (.inr (by lia))))] at q
      exact q _ sm
    ·have hsp:com vs cs ls=ls.any fun x=>decide (x ∈ cs):=by unfold com; rw [if_neg hcs]
     rw [decide_eq_true (show 0 < cs.length from List.length_pos_iff.mpr hcs)]
     refine bz ⟨_,rfl,ex4 b _ _ _ ⟨rfl,rfl,SqT.of (sm _ _ hb),at1,?_⟩⟩
     refine hK_ _ _ ?_
     refine ⟨_,rfl,ex4 b _ _ _ ⟨rfl,rfl,SqT.of (sm _ _ hb),at2,l,_,rfl,.inr (SqT.of (sm _ _ hl)),_,_,rfl,rfl,?_⟩⟩
     refine ⟨_,rfl,bE (fun z4=>?_) (fun z=>?_)⟩
     ·have z4:=of_decide_eq_true z4
      rw [List.length_map] at z4
      rw [pY (by lia) (by lia) (by lia) (by lia),hsp] at q
      refine ⟨_,rfl,ex4 b _ _ _ ⟨rfl,rfl,SqT.of (sm _ _ hb),at2,l,rfl,⟨_,SqT.of (sm _ _ hl)⟩,?_⟩⟩
      refine tz (fun x=>V.bl (inV x (cs.map V.str))) rfl (sm _ _ hl) (by rw [List.length_map]; lia) (fun D2 x us H2 post hD2 hx s2 hDD2 hpost=>?_) (fun D2 H2 hD2 s2 e2=>?_)
      ·obtain ⟨z,hz,rfl⟩:=List.mem_map.mp hx
       refine ⟨_,rfl,_,rfl,c,_,rfl,.inr (SqT.of (s2 _ _ (sm _ _ hc))),rfl,jY cs,?_⟩
       exact hpost _ (ar.refl _)
      ·rw [uw] at e2
       refine ⟨D2,_,rfl,SqL.of e2,?_⟩
       rw [pZ]
       exact ⟨_,rfl,q _ (sm.trans s2)⟩
     ·have z4:¬ (((ls.length:Nat):Int) <= 4):=fun y=>z (decide_eq_true (by rw [List.length_map]; exact y))
      rw [jb (.inr (.inr (.inr (by lia))))] at q
      exact q _ sm
end
abbrev oP:Stmt:=top 11
abbrev ux:Stmt:=top 12
abbrev uy:Stmt:=top 15
abbrev oQ:Stmt:=top 16
abbrev sAsk:Stmt:=top 17
abbrev oR:Stmt:=top 71
abbrev k9:Stmt:=top 72
structure Bl3 (mg:Str -> Option Value):Prop where
 int:mg "int"=none
 bool:mg "bool"=none
 abs:mg "abs"=none
theorem bInt:bootBuiltins "int"=some (.type "int"):=by decide +kernel
theorem bBool:bootBuiltins "bool"=some (.type "bool"):=by decide +kernel
theorem at3 {α:Type} {a b c d:α} {r:List α}:atI (a :: b :: c :: d :: r) 3=some d:=bN (j:=3) rfl
def gL:V -> Bool
 | .int _=>true
 | _=>false
def fO (l:Int):V -> Bool
 | .int i=>decide (l <= i)
 | _=>false
def Nb (x:V):Prop:=∀ i,x=.int i -> -(10 ^ 60) < i /\ i < 10 ^ 60
inductive WAt (H:Hp):V -> Option (List V) -> Prop
 | no {x:V} {k:String}:Kd H x k -> k ≠ "tuple" -> WAt H x none
 | tup {a:Addr} {xs:List V}:H a=some (.tup xs) -> xs.length <= 60 -> (∀ x ∈ xs,Im H x /\ Nb x) -> WAt H (.ref a) (some xs)
theorem WAt.same {H H':Hp} {x:V} {o:Option (List V)} (e:ar H H') (h:WAt H x o):WAt H' x o:=by
 cases h with
 | no h hk=>exact .no (Kd.same e h) hk
 | tup h hl hi=>exact .tup (e _ _ h) hl fun x hx=>⟨(hi x hx).1.same e,(hi x hx).2⟩
def wkB:Option (List V) -> Bool
 | some [k,n]=>nmB n && decide (k=.str "drop")
 | some [k,n,z]=>nmB n && ((decide (k=.str "put") || decide (k=.str "add")) && gL z)
 | _=>false
inductive DdV (H:Hp):V -> Bool -> Prop
 | no {x:V} {k:String}:Kd H x k -> k ≠ "tuple" -> DdV H x false
 | nil {a:Addr}:H a=some (.tup []) -> DdV H (.ref a) false
 | first {a:Addr} {r:List V}:H a=some (.tup (.str "first" :: r)) -> r.length <= 60 -> DdV H (.ref a) (decide (r.length=0))
 | ask4 {a:Addr} {x1 x2 x3:V} {o:Option (List V)}:H a=some (.tup [.str "ask",x1,x2,x3]) -> Im H x1 -> Im H x2 -> WAt H x3 o -> DdV H (.ref a) (nmB x1 && (fO 1 x2 && wkB o))
 | askn {a:Addr} {r:List V}:H a=some (.tup (.str "ask" :: r)) -> r.length <= 60 -> r.length ≠ 3 -> DdV H (.ref a) false
 | bench2 {a:Addr} {x1:V} {o:Tr}:H a=some (.tup [.str "bench",x1]) -> mS H x1 o -> DdV H (.ref a) (bnB o)
 | benchn {a:Addr} {r:List V}:H a=some (.tup (.str "bench" :: r)) -> r.length <= 60 -> r.length ≠ 1 -> DdV H (.ref a) false
 | odd {a:Addr} {k:V} {r:List V}:H a=some (.tup (k :: r)) -> r.length <= 60 -> Th1 H k -> k ≠ .str "first" -> k ≠ .str "ask" -> k ≠ .str "bench" -> DdV H (.ref a) false
theorem DdV.same {H H':Hp} {x:V} {v:Bool} (e:ar H H') (h:DdV H x v):DdV H' x v:=by
 cases h with
 | no h hk=>exact .no (Kd.same e h) hk
 | nil h=>exact .nil (e _ _ h)
 | first h hl=>exact .first (e _ _ h) hl
 | ask4 h h1 h2 h3=>exact .ask4 (e _ _ h) (h1.same e) (h2.same e) (h3.same e)
 | askn h hl hn=>exact .askn (e _ _ h) hl hn
 | bench2 h h1=>exact .bench2 (e _ _ h) (h1.same e)
 | benchn h hl hn=>exact .benchn (e _ _ h) hl hn
 | odd h hl h1 h2 h3 h4=>exact .odd (e _ _ h) hl (h1.same e) h2 h3 h4
inductive EnV (H:Hp):V -> Bool -> Prop
 | no {x:V} {k:String}:Kd H x k -> k ≠ "tuple" -> EnV H x false
 | len {a:Addr} {xs:List V}:H a=some (.tup xs) -> xs.length <= 60 -> xs.length ≠ 2 -> EnV H (.ref a) false
 | two {a:Addr} {t d:V} {v:Bool}:H a=some (.tup [t,d]) -> Im H t -> DdV H d v -> EnV H (.ref a) (fO 1 t && v)
theorem EnV.same {H H':Hp} {x:V} {v:Bool} (e:ar H H') (h:EnV H x v):EnV H' x v:=by
 cases h with
 | no h hk=>exact .no (Kd.same e h) hk
 | len h hl hn=>exact .len (e _ _ h) hl hn
 | two h h1 h2=>exact .two (e _ _ h) (h1.same e) (h2.same e)
def iz:Sp:=fun us H Q _=>∃ x:V,us=[x] /\ Im H x /\ Q (.bl (gL x)) H
def jc:Sp:=fun us H Q _=>∃ (x:V) (l:Int),us=[x,.int l] /\ Im H x /\ Q (.bl (fO l x)) H
def oS:Sp:=fun us H Q _=>∃ x:V,us=[x] /\ Im H x /\ Nb x /\ Q (.bl (gL x)) H
def ld:Sp:=fun us H Q _=>∃ (x:V) (o:Option (List V)),us=[x] /\ WAt H x o /\ ∀ H',ar H H' -> Q (.bl (wkB o)) H'
def uz:Sp:=fun us H Q _=>∃ (x1 x2 x3:V) (o:Option (List V)),us=[x1,x2,x3] /\ Im H x1 /\ Im H x2 /\ WAt H x3 o /\ ∀ H',ar H H' -> Q (.bl (nmB x1 && (fO 1 x2 && wkB o))) H'
def lf:Sp:=fun us H Q _=>∃ (x:V) (v:Bool),us=[x] /\ DdV H x v /\ ∀ H',ar H H' -> Q (.bl v) H'
def jd:Sp:=fun us H Q _=>∃ (x:V) (v:Bool),us=[x] /\ EnV H x v /\ ∀ H',ar H H' -> Q (.bl v) H'
theorem uA {xs:List V} (h:xs.length < 2):wkB (some xs)=false:=by
 match xs,h with
 | [],_=>rfl
 | [_],_=>rfl
theorem rC {k n:V} {r:List V} (h:nmB n=false):wkB (some (k :: n :: r))=false:=by
 match r with
 | []=>show (nmB n && _)=false; rw [h]; rfl
 | [z]=>show (nmB n && _)=false; rw [h]; rfl
 | _ :: _ :: _=>rfl
theorem wk_drop {n:V} {r:List V} (h:nmB n=true):wkB (some (.str "drop" :: n :: r))=decide (r.length=0):=by
 match r with
 | []=>show (nmB n && decide (V.str "drop"=.str "drop"))=_; rw [h,decide_eq_true rfl]; rfl
 | [z] =>
  show (nmB n && ((decide (V.str "drop"=.str "put") || decide (V.str "drop"=.str "add")) && gL z))=_
  rw [show decide (V.str "drop"=.str "put")=false by decide +kernel,show decide (V.str "drop"=.str "add")=false by decide +kernel,h]
  rfl
 | _ :: _ :: _=>rfl
theorem wk_else {k n:V} {r:List V} (h:nmB n=true) (hk:¬ k=.str "drop"):wkB (some (k :: n :: r))=((decide (k=.str "put") || decide (k=.str "add")) && (decide (r.length=1) && gL (r.getD 0 .non))):=by
 match r with
 | []=>show (nmB n && decide (k=.str "drop"))=_; rw [decide_eq_false hk,Bool.and_false]; simp
 | [z] =>
  show (nmB n && ((decide (k=.str "put") || decide (k=.str "add")) && gL z))=_
  rw [h]
  rfl
 | _ :: _ :: r=>show false=_; simp
theorem rD (xs:List V) (n:Nat):decide (V.int ((xs.length:Nat):Int)=V.int (n:Int))=decide (xs.length=n):=by
 rw [Bool.eq_iff_iff,decide_eq_true_iff,decide_eq_true_iff,V.int.injEq]
 lia
section
variable {P:Program} {w:World} {K:PySem.W.Frag} {mg:Str -> Option Value} {base:Heap}
theorem scWhole:ax ["thing"] ["thing"] (am oP):=fsc (by decide +kernel)
theorem uB {f:Addr} {fd:FuncData} (F:Fun K "is_whole" "is_whole" oP f fd) (T:Bl2 mg) (U:Bl3 mg):aP P w K mg base CX0 1 f fd ["thing"] iz:=by
 refine F.ok scWhole (fun vs H Q E h=>?_) (fun cdv A outer s H vs Q E hr h=>?_)
 ·obtain ⟨x,rfl,_⟩:=h
  rfl
 ·obtain ⟨x,rfl,hI,q⟩:=h
  refine ⟨_,aj <| ay <| cK (aA cg (by rfl) T.isi gK (ad (pv 0) (ad (cG (v:=.ty "int") (by rfl) U.int bInt rfl) ag))) (dE (sC (aA cg (by rfl) T.isi gK (ad (pv 0) (ad (cG (v:=.ty "bool") (by rfl) U.bool bBool rfl) ag))))),?_⟩
  obtain ⟨k,hk⟩:=hI.1.kd
  refine ⟨_,rfl,ex4 _ _ _ _ ⟨rfl,hk,kit_int hk,_,rfl,?_⟩⟩
  have rest:sY x=true -> ∃ k b,Kd H x k /\ PySem.W.kitOne K (.type k) (.type "bool")=some b /\ b=isBlV x:=fun _=>⟨k,_,hk,om hk,rfl⟩
  cases x with
  | int i=>exact bz ⟨_,rfl,ex4 _ _ _ _ ⟨rfl,hk,om hk,_,rfl,q⟩⟩
  | bl b=>exact bz ⟨_,rfl,ex4 _ _ _ _ ⟨rfl,hk,om hk,_,rfl,q⟩⟩
  | _=>exact aV q
theorem scFrom:ax ["thing","least"] ["thing","least"] (am ux):=fsc (by decide +kernel)
theorem ok_from {f:Addr} {fd:FuncData} (F:Fun K "is_whole_from" "is_whole_from" ux f fd) (Fw:aR P w K mg base 1 "is_whole" ["thing"] iz):aP P w K mg base CX0 2 f fd ["thing","least"] jc:=by
 refine F.ok scFrom (fun vs H Q E h=>?_) (fun cdv A outer s H vs Q E hr h=>?_)
 ·obtain ⟨x,l,rfl,_⟩:=h
  rfl
 ·obtain ⟨x,l,rfl,hI,q⟩:=h
  refine ⟨_,aj <| ay <| cK (aC Fw hr (ad (pv 0) ag)) (dE (bC jJ (pv 0) (pv 1) (aF _))),?_⟩
  refine ⟨_,rfl,x,rfl,hI,_,rfl,?_⟩
  cases x with
  | int i=>exact bz ⟨_,rfl,_,rfl,_,_,rfl,rfl,q⟩
  | _=>exact aV q
theorem scWNum:ax ["thing"] ["thing"] (am uy):=fsc (by decide +kernel)
theorem ok_wnum {f:Addr} {fd:FuncData} (F:Fun K "is_work_number" "is_work_number" uy f fd) (U:Bl3 mg) (Fw:aR P w K mg base 1 "is_whole" ["thing"] iz):aP P w K mg base CX0 2 f fd ["thing"] oS:=by
 refine F.ok scWNum (fun vs H Q E h=>?_) (fun cdv A outer s H vs Q E hr h=>?_)
 ·obtain ⟨x,rfl,_⟩:=h
  rfl
 ·obtain ⟨x,rfl,hI,hb,q⟩:=h
  refine ⟨_,aj <| ay <| cK (aC Fw hr (ad (pv 0) ag)) (dE (bC dY (aA sI (by rfl) U.abs bAbs (ad (pv 0) ag)) (aE iL af af) (aF _))),?_⟩
  refine ⟨_,rfl,x,rfl,hI,_,rfl,?_⟩
  cases x with
  | int i =>
   refine bz ⟨_,rfl,i,rfl,_,_,rfl,rfl,⟨by decide,by decide,by decide⟩,_,_,rfl,rfl,?_⟩
   obtain ⟨h1,h2⟩:=hb i rfl
   have this:decide ((if i < 0 then -i else i) < (10:Int) ^ 60)=true:=by
    refine decide_eq_true ?_
    split <;> lia
   show Q (.bl (decide ((if i < 0 then -i else i) < (10:Int) ^ 60))) H
   rw [this]
   exact q
  | _=>exact aV q
theorem scPWork:ax ["thing"] ["thing"] (am oQ):=fsc (by decide +kernel)
theorem uC {f:Addr} {fd:FuncData} (F:Fun K "is_work" "is_work" oQ f fd) (B:Blt mg) (T:Bl2 mg) (Fn:aR P w K mg base 1 "is_name" ["thing"] rA) (Fw:aR P w K mg base 2 "is_work_number" ["thing"] oS):aP P w K mg base CX0 3 f fd ["thing"] ld:=by
 refine F.ok scPWork (fun vs H Q E h=>?_) (fun cdv A outer s H vs Q E hr h=>?_)
 ·obtain ⟨x,o,rfl,_⟩:=h
  rfl
 ·obtain ⟨x,o,rfl,hW,q⟩:=h
  have hu:=gX hr
  have r1:bi 1 _:=hr.mono (by decide)
  refine ⟨_,ae (aS (PW.pt (cN (dD (cY (aA cg (by rfl) T.isi gK (ad (pv 0) (ad (cG (v:=.ty "tuple") (by rfl) B.tuple ca rfl) ag))))) <|
    cN (aD dY (aA aK (by rfl) B.len PySem.boot_len (ad (pv 0) ag)) af (aF _)) <|
    cZ (dD (cY (aC Fn r1 (ad (aq ao (pv 0) af (fun _ _=>rfl)) ag)))))) (aj (ay dU)) aH) <|
   ae (aS (aD (iu hu) (aq ao (pv 0) af (fun _ _=>rfl)) aN (aF _)) (aj (ay (bC bW (aA aK (by rfl) B.len PySem.boot_len (ad (pv 0) ag)) af (aF _)))) aH) <|
   aj <| ay <| cK (bC (op_inTS hu) (aq ao (pv 0) af (fun _ _=>rfl)) (aQ (ad aN (ad aN ag))) (by rfl)) <|
    cK (bC bW (aA aK (by rfl) B.len PySem.boot_len (ad (pv 0) ag)) af (aF _)) <|
    dE (aC Fw hr (ad (aq ao (pv 0) af (fun _ _=>rfl)) ag)),?_⟩
  cases hW with
  | no hk ne=>exact ⟨_,rfl,ex4 _ _ _ false ⟨rfl,hk,fo hk ne,_,rfl,bz (bz (q H (ar.refl H)))⟩⟩
  | @tup t xs ht hl hi =>
   refine ⟨_,rfl,_,_,"tuple",true,rfl,Kd.tup (.inl ht),aZ,_,rfl,aV ?_⟩
   refine ⟨_,rfl,t,_,rfl,.inr (SqT.of ht),_,_,rfl,rfl,_,rfl,bE (fun z=>?_) (fun z=>?_)⟩
   ·have z:=of_decide_eq_true z
    rw [uA (by lia)] at q
    exact bz (q H (ar.refl H))
   have z:¬ (((xs.length:Nat):Int) < 2):=fun y=>z (decide_eq_true y)
   obtain ⟨k,n,r,rfl⟩:∃ k n r,xs=k :: n :: r:=by
    match xs,z with
    | [],z=>exact absurd (show ((0:Nat):Int) < 2 by decide) z
    | [_],z=>exact absurd (show ((1:Nat):Int) < 2 by decide) z
    | k :: n :: r,_=>exact ⟨k,n,r,rfl⟩
   have hk:=hi k (by simp)
   have hn:=hi n (by simp)
   refine ⟨_,rfl,ex4 t _ _ _ ⟨rfl,rfl,SqT.of ht,at1,n,rfl,hn.1,fun H1 s1=>⟨_,rfl,?_⟩⟩⟩
   have ht1:=s1 _ _ ht
   cases en:nmB n with
   | false =>
    rw [rC en] at q
    exact bz (q H1 s1)
   | true =>
    refine aV ?_
    refine ⟨_,rfl,ex4 t _ _ _ ⟨rfl,rfl,SqT.of ht1,at0,_,rfl,hk.1.1.same s1,_,rfl,?_⟩⟩
    by_cases hd:k=.str "drop"
    ·subst hd
     rw [decide_eq_true rfl,wk_drop en] at *
     refine bz ⟨_,rfl,t,_,rfl,.inr (SqT.of ht1),rfl,?_⟩
     rw [show decide (V.int (((V.str "drop" :: n :: r).length:Nat):Int)=V.int 2)=decide (r.length=0) by rw [show (2:Int)=((2:Nat):Int) from rfl,rD]; simp]
     exact q H1 s1
    ·rw [decide_eq_false hd]
     rw [wk_else en hd] at q
     refine aV ⟨_,rfl,ex4 t _ _ _ ⟨rfl,rfl,SqT.of ht1,at0,(by show 2 <= sizeLine; decide),fun p H2 _ s2 ep=>?_⟩⟩
     refine ⟨p,["put","add"],rfl,SqT.of ep,(hk.1.1.same s1).same s2,_,rfl,?_⟩
     have e2:([("put":Str),"add"].any fun z=>decide (k=.str z))=(decide (k=.str "put") || decide (k=.str "add")):=by simp
     rw [e2]
     have s12:=s1.trans s2
     cases ek:(decide (k=.str "put") || decide (k=.str "add")) with
     | false =>
      rw [ek] at q
      exact aV (q H2 s12)
     | true =>
      rw [ek] at q
      refine bz ⟨_,rfl,t,_,rfl,.inr (SqT.of (s2 _ _ ht1)),rfl,?_⟩
      rw [show decide (V.int (((k :: n :: r).length:Nat):Int)=V.int 3)=decide (r.length=1) by rw [show (3:Int)=((3:Nat):Int) from rfl,rD]; simp]
      refine ⟨_,rfl,?_⟩
      by_cases hr1:r.length=1
      ·rw [decide_eq_true hr1] at q ⊢
       obtain ⟨z',rfl⟩:∃ z',r=[z']:=by
        match r,hr1 with
        | [z'],_=>exact ⟨z',rfl⟩
       have hz:=hi z' (by simp)
       refine bz ⟨_,rfl,ex4 t _ _ _ ⟨rfl,rfl,SqT.of (s2 _ _ ht1),at2,z',rfl,hz.1.same s12,hz.2,?_⟩⟩
       exact q H2 s12
      ·rw [decide_eq_false hr1] at q ⊢
       exact aV (q H2 s12)
theorem scAsk:ax ["asker","number","work"] ["asker","number","work"] (am sAsk):=fsc (by decide +kernel)
theorem ok_ask {f:Addr} {fd:FuncData} (F:Fun K "is_ask" "is_ask" sAsk f fd) (Fn:aR P w K mg base 1 "is_name" ["thing"] rA) (Ff:aR P w K mg base 2 "is_whole_from" ["thing","least"] jc) (Fw:aR P w K mg base 3 "is_work" ["thing"] ld):aP P w K mg base CX0 4 f fd ["asker","number","work"] uz:=by
 refine F.ok scAsk (fun vs H Q E h=>?_) (fun cdv A outer s H vs Q E hr h=>?_)
 ·obtain ⟨x1,x2,x3,o,rfl,_⟩:=h
  rfl
 ·obtain ⟨x1,x2,x3,o,rfl,h1,h2,h3,q⟩:=h
  have r1:bi 1 _:=hr.mono (by decide)
  have r2:bi 2 _:=hr.mono (by decide)
  refine ⟨_,aj <| ay <| cK (aC Fn r1 (ad (pv 0) ag)) (cK (aC Ff r2 (ad (pv 1) (ad af ag))) (dE (aC Fw hr (ad (pv 2) ag)))),?_⟩
  refine ⟨_,rfl,x1,rfl,h1,fun H1 s1=>⟨_,rfl,?_⟩⟩
  cases e1:nmB x1 with
  | false =>
   rw [e1] at q
   exact aV (q H1 s1)
  | true =>
   rw [e1] at q
   refine bz ⟨_,rfl,x2,1,rfl,h2.same s1,_,rfl,?_⟩
   cases e2:fO 1 x2 with
   | false =>
    rw [e2] at q
    exact aV (q H1 s1)
   | true =>
    rw [e2] at q
    exact bz ⟨_,rfl,x3,o,rfl,h3.same s1,fun H2 s2=>q H2 (s1.trans s2)⟩
theorem scPDeed:ax ["thing"] ["thing"] (am oR):=fsc (by decide +kernel)
theorem uD {f:Addr} {fd:FuncData} (F:Fun K "is_deed" "is_deed" oR f fd) (B:Blt mg) (T:Bl2 mg) (Fa:aR P w K mg base 4 "is_ask" ["asker","number","work"] uz) (Fb:aR P w K mg base 3 "is_bench" ["thing"] ur):aP P w K mg base CX0 5 f fd ["thing"] lf:=by
 refine F.ok scPDeed (fun vs H Q E h=>?_) (fun cdv A outer s H vs Q E hr h=>?_)
 ·obtain ⟨x,v,rfl,_⟩:=h
  rfl
 ·obtain ⟨x,v,rfl,hV,q⟩:=h
  have hu:=gX hr
  have r3:bi 3 _:=hr.mono (by decide)
  refine ⟨_,ae (aS (PW.pt (cN (dD (cY (aA cg (by rfl) T.isi gK (ad (pv 0) (ad (cG (v:=.ty "tuple") (by rfl) B.tuple ca rfl) ag))))) <|
    cZ (aD bW (aA aK (by rfl) B.len PySem.boot_len (ad (pv 0) ag)) af (aF _)))) (aj (ay dU)) aH) <|
   ae (aS (aD (iu hu) (aq ao (pv 0) af (fun _ _=>rfl)) aN (aF _)) (aj (ay (bC bW (aA aK (by rfl) B.len PySem.boot_len (ad (pv 0) ag)) af (aF _)))) aH) <|
   ae (aS (aD (iu hu) (aq ao (pv 0) af (fun _ _=>rfl)) aN (aF _)) (aj (ay (cK (bC bW (aA aK (by rfl) B.len PySem.boot_len (ad (pv 0) ag)) af (aF _)) (dE (aC Fa hr (ad (aq ao (pv 0) af (fun _ _=>rfl)) (ad (aq ao (pv 0) af (fun _ _=>rfl)) (ad (aq ao (pv 0) af (fun _ _=>rfl)) ag)))))))) aH) <|
   aj <| ay <| cK (bC (iu hu) (aq ao (pv 0) af (fun _ _=>rfl)) aN (aF _)) <|
    cK (bC bW (aA aK (by rfl) B.len PySem.boot_len (ad (pv 0) ag)) af (aF _)) <|
    dE (aC Fb r3 (ad (aq ao (pv 0) af (fun _ _=>rfl)) ag)),?_⟩
  have l0:∀ (k:V) (r:List V),decide (V.int (((k :: r).length:Nat):Int)=V.int 0)=false:=fun k r=>by
   rw [show (0:Int)=((0:Nat):Int) from rfl,rD]
   simp
  have ln:∀ (k:V) (r:List V) (n:Nat),decide (V.int (((k :: r).length:Nat):Int)=V.int (((n + 1:Nat)):Int))=decide (r.length=n):=fun k r n=>by
   rw [rD]
   simp
  cases hV with
  | no hk ne=>exact ⟨_,rfl,ex4 _ _ _ false ⟨rfl,hk,fo hk ne,_,rfl,bz (bz (q H (ar.refl H)))⟩⟩
  | @nil t ht =>
   refine ⟨_,rfl,_,_,"tuple",true,rfl,Kd.tup (.inl ht),aZ,_,rfl,aV ?_⟩
   exact ⟨_,rfl,t,_,rfl,.inr (SqT.of ht),rfl,_,rfl,bz (q H (ar.refl H))⟩
  | @first t r ht hl =>
   refine ⟨_,rfl,_,_,"tuple",true,rfl,Kd.tup (.inl ht),aZ,_,rfl,aV ?_⟩
   refine ⟨_,rfl,t,_,rfl,.inr (SqT.of ht),rfl,_,rfl,?_⟩
   rw [l0]
   refine aV ⟨_,rfl,ex4 t _ _ _ ⟨rfl,rfl,SqT.of ht,at0,_,rfl,.inl rfl,_,rfl,?_⟩⟩
   rw [decide_eq_true rfl]
   refine bz ⟨_,rfl,t,_,rfl,.inr (SqT.of ht),rfl,?_⟩
   rw [show decide (V.int (((V.str "first" :: r).length:Nat):Int)=V.int 1)=decide (r.length=0) from ln _ r 0]
   exact q H (ar.refl H)
  | @ask4 t x1 x2 x3 o ht h1 h2 h3 =>
   refine ⟨_,rfl,_,_,"tuple",true,rfl,Kd.tup (.inl ht),aZ,_,rfl,aV ?_⟩
   refine ⟨_,rfl,t,_,rfl,.inr (SqT.of ht),rfl,_,rfl,?_⟩
   rw [l0]
   refine aV ⟨_,rfl,ex4 t _ _ _ ⟨rfl,rfl,SqT.of ht,at0,_,rfl,.inl rfl,_,rfl,?_⟩⟩
   rw [show decide (V.str "ask"=V.str "first")=false by decide +kernel]
   refine aV ⟨_,rfl,ex4 t _ _ _ ⟨rfl,rfl,SqT.of ht,at0,_,rfl,.inl rfl,_,rfl,?_⟩⟩
   rw [decide_eq_true rfl]
   refine bz ⟨_,rfl,t,_,rfl,.inr (SqT.of ht),rfl,_,rfl,?_⟩
   rw [show decide (V.int ((([V.str "ask",x1,x2,x3]:List V).length:Nat):Int)=V.int 4)=true from decide_eq_true rfl]
   refine bz ⟨_,rfl,ex4 t _ _ _ ⟨rfl,rfl,SqT.of ht,at1,_,rfl,ex4 t _ _ _ ⟨rfl,rfl,SqT.of ht,at2,_,rfl,ex4 t _ _ _ ⟨rfl,rfl,SqT.of ht,at3,x1,x2,x3,o,rfl,h1,h2,h3,fun H' s'=>q H' s'⟩⟩⟩⟩
  | @askn t r ht hl hn =>
   refine ⟨_,rfl,_,_,"tuple",true,rfl,Kd.tup (.inl ht),aZ,_,rfl,aV ?_⟩
   refine ⟨_,rfl,t,_,rfl,.inr (SqT.of ht),rfl,_,rfl,?_⟩
   rw [l0]
   refine aV ⟨_,rfl,ex4 t _ _ _ ⟨rfl,rfl,SqT.of ht,at0,_,rfl,.inl rfl,_,rfl,?_⟩⟩
   rw [show decide (V.str "ask"=V.str "first")=false by decide +kernel]
   refine aV ⟨_,rfl,ex4 t _ _ _ ⟨rfl,rfl,SqT.of ht,at0,_,rfl,.inl rfl,_,rfl,?_⟩⟩
   rw [decide_eq_true rfl]
   refine bz ⟨_,rfl,t,_,rfl,.inr (SqT.of ht),rfl,_,rfl,?_⟩
   rw [show decide (V.int (((V.str "ask" :: r).length:Nat):Int)=V.int 4)=decide (r.length=3) from ln _ r 3,decide_eq_false hn]
   exact aV (q H (ar.refl H))
  | @bench2 t x1 o ht h1 =>
   refine ⟨_,rfl,_,_,"tuple",true,rfl,Kd.tup (.inl ht),aZ,_,rfl,aV ?_⟩
   refine ⟨_,rfl,t,_,rfl,.inr (SqT.of ht),rfl,_,rfl,?_⟩
   rw [l0]
   refine aV ⟨_,rfl,ex4 t _ _ _ ⟨rfl,rfl,SqT.of ht,at0,_,rfl,.inl rfl,_,rfl,?_⟩⟩
   rw [show decide (V.str "bench"=V.str "first")=false by decide +kernel]
   refine aV ⟨_,rfl,ex4 t _ _ _ ⟨rfl,rfl,SqT.of ht,at0,_,rfl,.inl rfl,_,rfl,?_⟩⟩
   rw [show decide (V.str "bench"=V.str "ask")=false by decide +kernel]
   refine aV ⟨_,rfl,ex4 t _ _ _ ⟨rfl,rfl,SqT.of ht,at0,_,rfl,.inl rfl,_,rfl,?_⟩⟩
   rw [decide_eq_true rfl]
   refine bz ⟨_,rfl,t,_,rfl,.inr (SqT.of ht),rfl,_,rfl,?_⟩
   rw [show decide (V.int ((([V.str "bench",x1]:List V).length:Nat):Int)=V.int 2)=true from decide_eq_true rfl]
   exact bz ⟨_,rfl,ex4 t _ _ _ ⟨rfl,rfl,SqT.of ht,at1,x1,o,rfl,h1,fun H' s'=>q H' s'⟩⟩
  | @benchn t r ht hl hn =>
   refine ⟨_,rfl,_,_,"tuple",true,rfl,Kd.tup (.inl ht),aZ,_,rfl,aV ?_⟩
   refine ⟨_,rfl,t,_,rfl,.inr (SqT.of ht),rfl,_,rfl,?_⟩
   rw [l0]
   refine aV ⟨_,rfl,ex4 t _ _ _ ⟨rfl,rfl,SqT.of ht,at0,_,rfl,.inl rfl,_,rfl,?_⟩⟩
   rw [show decide (V.str "bench"=V.str "first")=false by decide +kernel]
   refine aV ⟨_,rfl,ex4 t _ _ _ ⟨rfl,rfl,SqT.of ht,at0,_,rfl,.inl rfl,_,rfl,?_⟩⟩
   rw [show decide (V.str "bench"=V.str "ask")=false by decide +kernel]
   refine aV ⟨_,rfl,ex4 t _ _ _ ⟨rfl,rfl,SqT.of ht,at0,_,rfl,.inl rfl,_,rfl,?_⟩⟩
   rw [decide_eq_true rfl]
   refine bz ⟨_,rfl,t,_,rfl,.inr (SqT.of ht),rfl,_,rfl,?_⟩
   rw [show decide (V.int (((V.str "bench" :: r).length:Nat):Int)=V.int 2)=decide (r.length=1) from ln _ r 1,decide_eq_false hn]
   exact aV (q H (ar.refl H))
  | @odd t k r ht hl hk n1 n2 n3 =>
   refine ⟨_,rfl,_,_,"tuple",true,rfl,Kd.tup (.inl ht),aZ,_,rfl,aV ?_⟩
   refine ⟨_,rfl,t,_,rfl,.inr (SqT.of ht),rfl,_,rfl,?_⟩
   rw [l0]
   refine aV ⟨_,rfl,ex4 t _ _ _ ⟨rfl,rfl,SqT.of ht,at0,_,rfl,hk,_,rfl,?_⟩⟩
   rw [decide_eq_false n1]
   refine aV ⟨_,rfl,ex4 t _ _ _ ⟨rfl,rfl,SqT.of ht,at0,_,rfl,hk,_,rfl,?_⟩⟩
   rw [decide_eq_false n2]
   refine aV ⟨_,rfl,ex4 t _ _ _ ⟨rfl,rfl,SqT.of ht,at0,_,rfl,hk,_,rfl,?_⟩⟩
   rw [decide_eq_false n3]
   exact aV (q H (ar.refl H))
theorem uE:ax ["thing"] ["thing"] (am k9):=fsc (by decide +kernel)
theorem rE {f:Addr} {fd:FuncData} (F:Fun K "is_entry" "is_entry" k9 f fd) (B:Blt mg) (T:Bl2 mg) (Ff:aR P w K mg base 2 "is_whole_from" ["thing","least"] jc) (Fd:aR P w K mg base 5 "is_deed" ["thing"] lf):aP P w K mg base CX0 6 f fd ["thing"] jd:=by
 refine F.ok uE (fun vs H Q E h=>?_) (fun cdv A outer s H vs Q E hr h=>?_)
 ·obtain ⟨x,v,rfl,_⟩:=h
  rfl
 ·obtain ⟨x,v,rfl,hV,q⟩:=h
  have r2:bi 2 _:=hr.mono (by decide)
  refine ⟨_,aj <| ay <| cK (aA cg (by rfl) T.isi gK (ad (pv 0) (ad (cG (v:=.ty "tuple") (by rfl) B.tuple ca rfl) ag))) <|
    cK (bC bW (aA aK (by rfl) B.len PySem.boot_len (ad (pv 0) ag)) af (aF _)) <|
    cK (aC Ff r2 (ad (aq ao (pv 0) af (fun _ _=>rfl)) (ad af ag))) <|
    dE (aC Fd hr (ad (aq ao (pv 0) af (fun _ _=>rfl)) ag)),?_⟩
  cases hV with
  | no hk ne=>exact ⟨_,rfl,ex4 _ _ _ false ⟨rfl,hk,fo hk ne,_,rfl,aV (q H (ar.refl H))⟩⟩
  | @len a xs ha hl hn =>
   refine ⟨_,rfl,_,_,"tuple",true,rfl,Kd.tup (.inl ha),aZ,_,rfl,bz ?_⟩
   refine ⟨_,rfl,a,_,rfl,.inr (SqT.of ha),rfl,_,rfl,?_⟩
   rw [show decide (V.int ((xs.length:Nat):Int)=V.int 2)=false by rw [show (2:Int)=((2:Nat):Int) from rfl,rD]; exact decide_eq_false hn]
   exact aV (q H (ar.refl H))
  | @two a t d v ha ht hd =>
   refine ⟨_,rfl,_,_,"tuple",true,rfl,Kd.tup (.inl ha),aZ,_,rfl,bz ?_⟩
   refine ⟨_,rfl,a,_,rfl,.inr (SqT.of ha),rfl,_,rfl,?_⟩
   rw [show decide (V.int ((([t,d]:List V).length:Nat):Int)=V.int 2)=true from decide_eq_true rfl]
   refine bz ⟨_,rfl,ex4 a _ _ _ ⟨rfl,rfl,SqT.of ha,at0,t,1,rfl,ht,_,rfl,?_⟩⟩
   cases e1:fO 1 t with
   | false =>
    rw [e1] at q
    exact aV (q H (ar.refl H))
   | true =>
    rw [e1] at q
    exact bz ⟨_,rfl,ex4 a _ _ _ ⟨rfl,rfl,SqT.of ha,at1,d,v,rfl,hd,fun H' s'=>q H' s'⟩⟩
end
abbrev p4:Stmt:=top 85
abbrev sLet:Stmt:=top 86
abbrev sChk:Stmt:=top 87
def KT (K:PySem.W.Frag) (t:Addr) (ss:List Str):Prop:=∃ (o:Obj) (its:Array Value) (n:Nat),K.lookup t=some o /\ o.cls=.type "tuple" /\ o.data=.seq its n /\ its.size <= sizeLine /\ bh (ss.map V.str) its.toList
theorem KT.sq {K:PySem.W.Frag} {t:Addr} {ss:List Str} {H:Hp} (h:KT K t ss):SqT K H t (ss.map V.str):=.inr h
abbrev table:List (Str × List Str):=[("look",["whole","whole"]),("saw",["truth","whole"]),("vote",["whole","whole"]),("gave",["truth"]),("rows",["whole","whole","entries","whole","whole"]),("took",["truth","whole","whole"]),("piece",["whole","whole","whole","whole","text","whole"]),("got",["whole","whole","whole"])]
structure uF (w:World) (K:PySem.W.Frag) (mg:Str -> Option Value):Prop where
 head:∃ hP,mg "HEAD"=some (.ref hP) /\ KT K hP ["name","name","whole"]
 parts:∃ dP kvs,mg "PARTS"=some (.ref dP) /\ tH w K dP kvs /\ ∀ kd ss,(kd,ss) ∈ table -> ∃ t,gZ kvs kd=some t /\ KT K t ss
inductive Pok (H:Hp):Str -> V -> Prop
 | name {x:Str}:Nm x -> Pok H "name" (.str x)
 | truth (b:Bool):Pok H "truth" (.bl b)
 | text {x:Str}:x.length <= 100 -> Pok H "text" (.str x)
 | entries {a:Addr} {xs:List V}:H a=some (.tup xs) -> xs.length <= 60 -> (∀ y ∈ xs,EnV H y true) -> Pok H "entries" (.ref a)
 | whole {i:Int}:0 <= i -> Pok H "whole" (.int i)
theorem Pok.same {H H':Hp} {s:Str} {x:V} (e:ar H H') (h:Pok H s x):Pok H' s x:=by
 cases h with
 | name h=>exact .name h
 | truth b=>exact .truth b
 | text h=>exact .text h
 | entries h hl hi=>exact .entries (e _ _ h) hl fun y hy=>(hi y hy).same e
 | whole h=>exact .whole h
structure fN (H:Hp) (t:Addr):Prop where
 ex:∃ (kd:Str) (ss:List Str) (ps:List V),(kd,ss) ∈ table /\ H t=some (.tup (.str kd :: ps)) /\ ps.length=ss.length + 3 /\ (∀ (i:Nat) (s:Str) (p:V),([("name":Str),"name","whole"] ++ ss)[i]?=some s -> ps[i]?=some p -> Pok H s p) /\
  (kd="piece" -> ∃ a b:Int,ps[5]?=some (.int a) /\ ps[6]?=some (.int b) /\ a < b)
theorem fN.same {H H':Hp} {t:Addr} (e:ar H H') (h:fN H t):fN H' t:=by
 obtain ⟨kd,ss,ps,h1,h2,h3,h4,h5⟩:=h.ex
 exact ⟨kd,ss,ps,h1,e _ _ h2,h3,fun i s p hs hp=>(h4 i s p hs hp).same e,h5⟩
def oT:Sp:=fun us H Q _=>∃ (s:Str) (x:V),us=[.str s,x] /\ Pok H s x /\ ∀ H',ar H H' -> Q (.bl true) H'
def uG:Sp:=fun us H Q _=>(∃ t:Addr,us=[.ref t] /\ fN H t /\ ∀ H',ar H H' -> Q (.bl true) H') \/ ∃ (a:Addr) (xs:List V),us=[.ref a] /\ H a=some (.lst xs) /\ Q (.bl false) H
def p6 (CL:Addr):Sp:=fun us H Q E=>(∃ t:Addr,us=[.ref t] /\ fN H t /\ ∀ H',ar H H' -> Q .non H') \/ ∃ (a:Addr) (xs:List V),us=[.ref a] /\ H a=some (.lst xs) /\ E (.ref CL) none H
theorem p7 {α:Type} (xs:List α):(xs.map fun _=>V.bl true)=(xs.map fun _=>true).map V.bl:=by rw [List.map_map]; rfl
theorem p8 {α:Type} (xs:List α):(xs.map fun _=>true).all id=true:=by rw [List.all_map]; exact List.all_eq_true.mpr fun _ _=>rfl
theorem cutV1 (x:V) (ps:List V):cj (x :: ps) (some 1) none=ps:=by
 unfold cj
 rw [HT.eB,show HT.sIx (x :: ps).length 0 (some 1)=min 1 (x :: ps).length from HT.df _ _ 1,List.length_cons,Nat.min_eq_left (by lia),List.drop_one,List.tail_cons]
 exact List.take_of_length_le (by lia)
section
variable {P:Program} {w:World} {K:PySem.W.Frag} {mg:Str -> Option Value} {base:Heap}
theorem scPart:ax ["sort","thing"] ["sort","thing"] (am p4):=fsc (by decide +kernel)
theorem ndPE:((["sort","thing"]:List Str) ++ (["entry"]:List Str)).Nodup:=by decide +kernel
theorem ok_part {f:Addr} {fd:FuncData} (F:Fun K "is_part" "is_part" p4 f fd) (B:Blt mg) (T:Bl2 mg) (U:Bl3 mg) (Fn:aR P w K mg base 1 "is_name" ["thing"] rA) (Ff:aR P w K mg base 2 "is_whole_from" ["thing","least"] jc) (Fe:aR P w K mg base 6 "is_entry" ["thing"] jd):aP P w K mg base CX0 7 f fd ["sort","thing"] oT:=by
 refine F.ok scPart (fun vs H Q E h=>?_) (fun cdv A outer s H vs Q E hr h=>?_)
 ·obtain ⟨s,x,rfl,_⟩:=h
  rfl
 ·obtain ⟨s,x,rfl,hP,q⟩:=h
  have r1:bi 1 _:=hr.mono (by decide)
  have r2:bi 2 _:=hr.mono (by decide)
  refine ⟨_,ae (aS (aD bW (pv 0) aN (aF _)) (aj (ay (aC Fn r1 (ad (pv 1) ag)))) aH) <|
   ae (aS (aD bW (pv 0) aN (aF _)) (aj (ay (aA cg (by rfl) T.isi gK (ad (pv 1) (ad (cG (v:=.ty "bool") (by rfl) U.bool bBool rfl) ag))))) aH) <|
   ae (aS (aD bW (pv 0) aN (aF _)) (aj (ay (aA cg (by rfl) T.isi gK (ad (pv 1) (ad (cG (v:=.ty "str") (by rfl) T.str bStr rfl) ag))))) aH) <|
   ae (aS (aD bW (pv 0) aN (aF _)) (aj (ay (cK (aA cg (by rfl) T.isi gK (ad (pv 1) (ad (cG (v:=.ty "tuple") (by rfl) B.tuple ca rfl) ag))) (dE (aA (dS rfl) (by rfl) T.all rj (ad (fb ["sort","thing"] ["sort","thing"] ["entry"] (am p4) rfl rfl rfl (by decide +kernel) rfl rfl (by decide +kernel) (by decide +kernel) (by decide +kernel) (by decide +kernel)
     (fS (pv 1)) (fun _ _ _ _ _=>au (i:=2) ndPE rfl (Or.inl rfl)) (fun _ _ _ _ _=>cr) (fun _ _ _ _ _=>aC (X:=cxC _ _ _ _ _ _ _ _ _) Fe hr (ad (pv 2) ag))) ag)))))) aH) <|
   aj (ay (aC Ff r2 (ad (pv 1) (ad af ag)))),?_⟩
  dsimp only [bj,Cx.nox]
  cases hP with
  | @name x hx =>
   refine ⟨_,rfl,rfl,_,rfl,?_⟩
   rw [decide_eq_true rfl]
   refine bz ⟨_,rfl,_,rfl,Im.nm hx,fun H' s'=>?_⟩
   rw [i7 hx]
   exact q H' s'
  | truth b =>
   refine ⟨_,rfl,rfl,_,rfl,?_⟩
   rw [show decide (V.str "truth"=V.str "name")=false by decide +kernel]
   refine aV ⟨_,rfl,rfl,_,rfl,?_⟩
   rw [decide_eq_true rfl]
   exact bz ⟨_,rfl,ex4 _ _ _ true ⟨rfl,Kd.bl b,aZ,q H (ar.refl H)⟩⟩
  | @text x hx =>
   refine ⟨_,rfl,rfl,_,rfl,?_⟩
   rw [show decide (V.str "text"=V.str "name")=false by decide +kernel]
   refine aV ⟨_,rfl,rfl,_,rfl,?_⟩
   rw [show decide (V.str "text"=V.str "truth")=false by decide +kernel]
   refine aV ⟨_,rfl,rfl,_,rfl,?_⟩
   rw [decide_eq_true rfl]
   exact bz ⟨_,rfl,ex4 _ _ _ true ⟨rfl,Kd.str x,aZ,q H (ar.refl H)⟩⟩
  | @entries a xs ha hl hi =>
   refine ⟨_,rfl,rfl,_,rfl,?_⟩
   rw [show decide (V.str "entries"=V.str "name")=false by decide +kernel]
   refine aV ⟨_,rfl,rfl,_,rfl,?_⟩
   rw [show decide (V.str "entries"=V.str "truth")=false by decide +kernel]
   refine aV ⟨_,rfl,rfl,_,rfl,?_⟩
   rw [show decide (V.str "entries"=V.str "text")=false by decide +kernel]
   refine aV ⟨_,rfl,rfl,_,rfl,?_⟩
   rw [decide_eq_true rfl]
   refine bz ⟨_,rfl,ex4 _ _ _ true ⟨rfl,Kd.tup (.inl ha),aZ,_,rfl,bz ?_⟩⟩
   refine ⟨_,rfl,a,rfl,⟨_,SqT.of ha⟩,?_⟩
   refine tz (fun _=>V.bl true) rfl ha (by lia) (fun D x ys H1 post hD hx sm hDD hpost=>?_) (fun D H1 hD sm eD=>?_)
   ·exact ⟨_,rfl,x,true,rfl,(hi x hx).same sm,fun H' s'=>hpost H' s'⟩
   rw [p7] at eD
   refine ⟨D,_,rfl,SqL.of eD,?_⟩
   rw [p8]
   exact q _ sm
  | @whole i hi =>
   refine ⟨_,rfl,rfl,_,rfl,?_⟩
   rw [show decide (V.str "whole"=V.str "name")=false by decide +kernel]
   refine aV ⟨_,rfl,rfl,_,rfl,?_⟩
   rw [show decide (V.str "whole"=V.str "truth")=false by decide +kernel]
   refine aV ⟨_,rfl,rfl,_,rfl,?_⟩
   rw [show decide (V.str "whole"=V.str "text")=false by decide +kernel]
   refine aV ⟨_,rfl,rfl,_,rfl,?_⟩
   rw [show decide (V.str "whole"=V.str "entries")=false by decide +kernel]
   refine aV ⟨_,rfl,_,0,rfl,⟨.inl rfl,fun z e=>by cases e⟩,?_⟩
   rw [show fO 0 (.int i)=true from decide_eq_true hi]
   exact q H (ar.refl H)
abbrev nLet:List Str:=["thing","sorts"]
theorem scLet:ax nLet ["thing"] (am sLet):=fsc (by decide +kernel)
theorem ndLet:(nLet ++ (["sort","part"]:List Str)).Nodup:=by decide +kernel
theorem at6 {α:Type} {xs:List α} {a:α} {x:α} (h:xs[5]?=some a):atI (x :: xs) 6=some a:=bN (j:=6) (by simpa using h)
theorem at7 {α:Type} {xs:List α} {a:α} {x:α} (h:xs[6]?=some a):atI (x :: xs) 7=some a:=bN (j:=7) (by simpa using h)
theorem ok_let {f:Addr} {fd:FuncData} (F:Fun K "is_letter" "is_letter" sLet f fd) (B:Blt mg) (T:Bl2 mg) (G:uF w K mg) (Fp:aR P w K mg base 7 "is_part" ["sort","thing"] oT):aP P w K mg base CX0 8 f fd ["thing"] uG:=by
 refine F.ok scLet (fun vs H Q E h=>?_) (fun cdv A outer s H vs Q E hr h=>?_)
 ·rcases h with ⟨t,rfl,_⟩ | ⟨a,xs,rfl,_⟩ <;> rfl
 ·obtain ⟨hP,mH,kH⟩:=G.head
  obtain ⟨dP,kvs,mP,kP,tab⟩:=G.parts
  have nd:=scLet.nd
  have hs16:sizeLine=16777216:=sizeLine_eq
  refine ⟨_,ae (aS (PW.pt (cN (dD (cY (aA cg (by rfl) T.isi gK (ad (pv 0) (ad (cG (v:=.ty "tuple") (by rfl) B.tuple ca rfl) ag))))) <|
    cN (aD bW (aA aK (by rfl) B.len PySem.boot_len (ad (pv 0) ag)) af (aF _)) <|
    cN (dD (cY (aA cg (by rfl) T.isi gK (ad (aq ao (pv 0) af (fun _ _=>rfl)) (ad (cG (v:=.ty "str") (by rfl) T.str bStr rfl) ag))))) <|
    cZ (aD qR (aq ao (pv 0) af (fun _ _=>rfl)) (eI (v:=.ref dP) (by rfl) mP rfl) (by rfl)))) (aj (ay dU)) aH) <|
   ae (aB (i:=1) nd rfl (Or.inl rfl) (aE pJ (eI (v:=.ref hP) (by rfl) mH rfl) (tJ (eI (v:=.ref dP) (by rfl) mP rfl) (aq ao (pv 0) af (fun _ _=>rfl)) (fun _ _=>rfl)))) <|
   ae (aS (PW.pt (cN (aD gb (aA aK (by rfl) B.len PySem.boot_len (ad (pv 0) ag)) (aE aX (aA aK (by rfl) B.len PySem.boot_len (ad (pv 1) ag)) af) (aF _)) <|
    cZ (dD (cY (aA (dS rfl) (by rfl) T.all rj (ad (fb nLet nLet ["sort","part"] (am sLet) rfl rfl rfl (by decide +kernel) rfl rfl (by decide +kernel) (by decide +kernel) (by decide +kernel) (by decide +kernel)
     (pR (by rfl) T.zip (ad (pv 1) (ad (bO cT (pv 0) (bP af) cx) ag)))
     (fun _ _ _ _ _=>pQ (n:=2) rfl (az (au (i:=2) ndLet rfl (Or.inl rfl)) (az (au (i:=3) ndLet rfl (Or.inl rfl)) bV))) (fun _ _ _ _ _=>cr)
     (fun _ _ _ _ _=>aC (X:=cxC _ _ _ _ _ _ _ _ _) Fp hr (ad (pv 2) (ad (pv 3) ag)))) ag)))))) (aj (ay dU)) aH) <|
   aj (ay (pe_or (bC gb (aq ao (pv 0) af (fun _ _=>rfl)) aN (aF _)) (dE (bC dY (aq ao (pv 0) af (fun _ _=>rfl)) (aq ao (pv 0) af (fun _ _=>rfl)) (aF _))))),?_⟩
  dsimp only [bj,Cx.nox]
  rcases h with ⟨t,rfl,hL,q⟩ | ⟨a,xs,rfl,ha,q⟩
  ·obtain ⟨kd,ss,ps,hm,ht,hl,hi,hp⟩:=hL.ex
   obtain ⟨tt,hg,kt⟩:=tab kd ss hm
   have hss:ss.length <= 6:=by
    simp only [table,List.mem_cons,List.not_mem_nil,or_false,Prod.mk.injEq] at hm
    rcases hm with ⟨_,rfl⟩ | ⟨_,rfl⟩ | ⟨_,rfl⟩ | ⟨_,rfl⟩ | ⟨_,rfl⟩ | ⟨_,rfl⟩ | ⟨_,rfl⟩ | ⟨_,rfl⟩ <;> decide
   refine ⟨_,rfl,ex4 _ _ "tuple" true ⟨rfl,Kd.tup (.inl ht),aZ,_,rfl,aV ?_⟩⟩
   refine ⟨_,rfl,t,_,rfl,.inr (SqT.of ht),rfl,_,rfl,?_⟩
   rw [show decide (V.int (((V.str kd :: ps).length:Nat):Int)=V.int 0)=false by rw [show (0:Int)=((0:Nat):Int) from rfl,rD]; simp]
   refine aV ⟨_,rfl,ex4 t _ _ _ ⟨rfl,rfl,SqT.of ht,at0,_,_,_,true,rfl,Kd.str kd,aZ,_,rfl,aV ?_⟩⟩
   refine ⟨_,rfl,ex4 t _ _ _ ⟨rfl,rfl,SqT.of ht,at0,dP,kd,kvs,rfl,rfl,kP,_,rfl,?_⟩⟩
   rw [hg]
   refine aV ?_
   refine ⟨_,rfl,ex4 t _ _ _ ⟨rfl,rfl,SqT.of ht,at0,dP,kd,kvs,tt,rfl,rfl,kP,hg,?_⟩⟩
   have ne:ss ≠ []:=by
    simp only [table,List.mem_cons,List.not_mem_nil,or_false,Prod.mk.injEq] at hm
    rcases hm with ⟨_,rfl⟩ | ⟨_,rfl⟩ | ⟨_,rfl⟩ | ⟨_,rfl⟩ | ⟨_,rfl⟩ | ⟨_,rfl⟩ | ⟨_,rfl⟩ | ⟨_,rfl⟩ <;> exact List.cons_ne_nil _ _
   refine ⟨hP,ex3 tt _ _ ⟨rfl,rfl,kH.sq,kt.sq,List.cons_ne_nil _ _,(by rw [List.length_map,List.length_map]; show 3 + ss.length <= _; lia),fun e=>absurd (List.map_eq_nil_iff.mp e) ne,fun _ p hp2=>?_⟩⟩
   rw [<- List.map_append]
   have s1:ar H _:=c9 (o:=.tup (([("name":Str),"name","whole"] ++ ss).map V.str)) hp2
   have e1:(upd H p (.tup (([("name":Str),"name","whole"] ++ ss).map V.str))) p=_:=ai
   generalize upd H p (.tup (([("name":Str),"name","whole"] ++ ss).map V.str))=H1 at s1 e1 ⊢
   refine ⟨_,rfl,t,_,rfl,.inr (SqT.of (s1 _ _ ht)),_,rfl,p,_,rfl,.inr (SqT.of e1),_,_,rfl,rfl,rfl,_,rfl,?_⟩
   rw [show (!decide (V.int (((V.str kd :: ps).length:Nat):Int)=V.int (((([("name":Str),"name","whole"] ++ ss).map V.str).length:Nat) + 1)))=false by
    rw [List.length_map,List.length_append,List.length_cons,hl,decide_eq_true (by simp; lia)]; rfl]
   refine aV ⟨_,rfl,_,rfl,_,rfl,t,_,rfl,s1 _ _ ht,fun p2 H2 s2 ep=>?_⟩
   rw [cutV1] at ep
   refine (ex4 p p2 _ _ ⟨rfl,SqT.of (s2 _ _ e1),SqT.of ep,?_⟩)
   refine lcZU (fun _ _=>V.bl true) (s2 _ _ e1) ep (by rw [List.length_map,List.length_append]; show 3 + ss.length <= 1000; lia) (fun p' x y Hx R hp' hR=>?_) (fun i x y Hx post hx hy sx hpost=>?_) (fun D2 H3 hD2 s3 e3=>?_)
   ·exact ⟨p',_,rfl,SqT.of hp',rfl,x,[y],rfl,y,[],rfl,rfl,hR⟩
   ·rw [List.getElem?_map] at hx
    obtain ⟨sx',hx1,rfl⟩:=Option.map_eq_some_iff.mp hx
    exact ⟨_,rfl,_,rfl,sx',y,rfl,(hi i sx' y hx1 hy).same ((s1.trans s2).trans sx),fun H' s'=>hpost H' s'⟩
   rw [p7] at e3
   refine ⟨D2,_,rfl,SqL.of e3,?_⟩
   rw [p8]
   have s13:=(s1.trans s2).trans s3
   refine ⟨_,rfl,aV ?_⟩
   refine ⟨_,rfl,ex4 t _ _ _ ⟨rfl,rfl,SqT.of (s13 _ _ ht),at0,rfl,_,rfl,?_⟩⟩
   by_cases hk:kd="piece"
   ·obtain ⟨a,b,ha,hb,hab⟩:=hp hk
    rw [decide_eq_true (show V.str kd=V.str "piece" by rw [hk])]
    refine aV ⟨_,rfl,ex4 t _ _ _ ⟨rfl,rfl,SqT.of (s13 _ _ ht),at6 ha,_,rfl,ex4 t _ _ _ ⟨rfl,rfl,SqT.of (s13 _ _ ht),at7 hb,_,_,rfl,rfl,?_⟩⟩⟩
    show Q (.bl (decide (a < b))) H3
    rw [decide_eq_true hab]
    exact q _ s13
   ·rw [decide_eq_false (show ¬ V.str kd=V.str "piece" from fun e=>hk (by injection e))]
    exact bz (q _ s13)
  ·exact ⟨_,rfl,ex4 _ _ _ false ⟨rfl,Kd.lst (.inl ha),sZ,_,rfl,bz (bz q)⟩⟩
theorem scChk:ax ["thing"] ["thing"] (am sChk):=fsc (by decide +kernel)
theorem ok_chk {f CL:Addr} {fd:FuncData} (F:Fun K "check_letter" "check_letter" sChk f fd) (XL:ExcC K mg "NoLetter" CL) (Fl:aR P w K mg base 8 "is_letter" ["thing"] uG):aP P w K mg base (CXR P w base) 9 f fd ["thing"] (p6 CL):=by
 refine F.okR scChk (fun us H Q E h=>?_) (fun cdv A outer s H us Q E hr h=>?_)
 ·rcases h with ⟨t,rfl,_⟩ | ⟨a,xs,rfl,_⟩ <;> rfl
 ·refine ⟨_,aj (aS (dD (cY (aC Fl hr (ad (pv 0) ag)))) (aj (tF passN rfl XL (by rfl) (ad aN ag))) aH),?_⟩
  rcases h with ⟨t,rfl,hL,q⟩ | ⟨a,xs,rfl,ha,q⟩
  ·exact ⟨_,rfl,.inl ⟨t,rfl,hL,fun H' s'=>⟨_,rfl,aV (q H' s')⟩⟩⟩
  ·exact ⟨_,rfl,.inr ⟨a,xs,rfl,ha,_,rfl,bz ⟨(by show 1 <= sizeLine; decide),q⟩⟩⟩
end
open K41T (Kvs Las Wk aU ci cu cm dv aO bp Eqv cb cv gJ)
abbrev oU:Stmt:=aT (top 109) 0
abbrev lg:Stmt:=aT (top 109) 1
abbrev sUp:Stmt:=aT (top 109) 2
abbrev qa:Stmt:=aT (top 109) 6
abbrev lh:Stmt:=aT (top 109) 7
abbrev iA:Stmt:=aT (top 109) 9
abbrev oV:Stmt:=aT (top 109) 13
abbrev li:Stmt:=aT (top 109) 14
abbrev lj:Stmt:=aT (top 109) 17
abbrev gM:Stmt:=aT (top 96) 2
abbrev oW:Stmt:=aT (top 89) 6
abbrev flH (nm:Str) (wa sz:Int) (m:Addr):List (Str × V):=aL "mind" (.ref m) (aL "size" (.int sz) (aL "wait" (.int wa) (aL "name" (.str nm) [])))
theorem flH_n {nm:Str} {wa sz:Int} {m:Addr}:(flH nm wa sz m).lookup ("name":Str)=some (.str nm):=by kernel_rfl
theorem flH_w {nm:Str} {wa sz:Int} {m:Addr}:(flH nm wa sz m).lookup ("wait":Str)=some (.int wa):=by kernel_rfl
theorem flH_s {nm:Str} {wa sz:Int} {m:Addr}:(flH nm wa sz m).lookup ("size":Str)=some (.int sz):=by kernel_rfl
theorem gu {nm:Str} {wa sz:Int} {m:Addr}:(flH nm wa sz m).lookup ("mind":Str)=some (.ref m):=by kernel_rfl
theorem flH_put {nm:Str} {wa sz:Int} {m m2:Addr}:aL "mind" (.ref m2) (flH nm wa sz m)=flH nm wa sz m2:=by kernel_rfl
theorem flH_len {nm:Str} {wa sz:Int} {m:Addr}:(flH nm wa sz m).length=4:=by kernel_rfl
abbrev flG (nm:Str) (wa sz:Int) (wr rl bd:Addr) (ro kn:V) (qu:Int) (yl sd:Addr) (se:V) (gl fl sl:Addr):List (Str × V):=aL "shown" (.ref sl) (aL "found" (.ref fl) (aL "given" (.ref gl) (aL "seat" se (aL "sheets" (.ref sd) (aL "yes" (.ref yl) (aL "quiet" (.int qu) (aL "known" kn (aL "role" ro (aL "board" (.ref bd) (aL "records" (.ref rl) (aL "kept" (.ref wr) (aL "size" (.int sz) (aL "wait" (.int wa) (aL "name" (.str nm) []))))))))))))))
section
variable {nm:Str} {wa sz qu:Int} {ro kn se:V} {wr rl bd yl sd gl fl sl:Addr}
theorem uH:(flG nm wa sz wr rl bd ro kn qu yl sd se gl fl sl).lookup ("name":Str)=some (.str nm):=by kernel_rfl
theorem eF:(flG nm wa sz wr rl bd ro kn qu yl sd se gl fl sl).lookup ("kept":Str)=some (.ref wr):=by kernel_rfl
theorem flG_b:(flG nm wa sz wr rl bd ro kn qu yl sd se gl fl sl).lookup ("board":Str)=some (.ref bd):=by kernel_rfl
theorem flG_r:(flG nm wa sz wr rl bd ro kn qu yl sd se gl fl sl).lookup ("role":Str)=some (ro):=by kernel_rfl
theorem flG_c:(flG nm wa sz wr rl bd ro kn qu yl sd se gl fl sl).lookup ("known":Str)=some (kn):=by kernel_rfl
theorem flG_rl:(flG nm wa sz wr rl bd ro kn qu yl sd se gl fl sl).lookup ("records":Str)=some (.ref rl):=by kernel_rfl
theorem da:(flG nm wa sz wr rl bd ro kn qu yl sd se gl fl sl).lookup ("settled":Str)=none:=by kernel_rfl
theorem je:(flG nm wa sz wr rl bd ro kn qu yl sd se gl fl sl).lookup ("row":Str)=none:=by kernel_rfl
theorem ig:(flG nm wa sz wr rl bd ro kn qu yl sd se gl fl sl).lookup ("is_chair":Str)=none:=by kernel_rfl
theorem fP:(flG nm wa sz wr rl bd ro kn qu yl sd se gl fl sl).lookup ("follow":Str)=none:=by kernel_rfl
theorem jf:(flG nm wa sz wr rl bd ro kn qu yl sd se gl fl sl).lookup ("rise_to":Str)=none:=by kernel_rfl
theorem jG:(flG nm wa sz wr rl bd ro kn qu yl sd se gl fl sl).lookup ("record":Str)=none:=by kernel_rfl
theorem gO:(flG nm wa sz wr rl bd ro kn qu yl sd se gl fl sl).lookup ("settle_to":Str)=none:=by kernel_rfl
theorem mU:(flG nm wa sz wr rl bd ro kn qu yl sd se gl fl sl).lookup ("term":Str)=none:=by kernel_rfl
theorem lp:(flG nm wa sz wr rl bd ro kn qu yl sd se gl fl sl).lookup ("stand":Str)=none:=by kernel_rfl
theorem flG_pr {x:V}:aL "role" x (flG nm wa sz wr rl bd ro kn qu yl sd se gl fl sl)=flG nm wa sz wr rl bd x kn qu yl sd se gl fl sl:=by kernel_rfl
theorem flG_pc {x:V}:aL "known" x (flG nm wa sz wr rl bd ro kn qu yl sd se gl fl sl)=flG nm wa sz wr rl bd ro x qu yl sd se gl fl sl:=by kernel_rfl
theorem flG_pse {x:V}:aL "seat" x (flG nm wa sz wr rl bd ro kn qu yl sd se gl fl sl)=flG nm wa sz wr rl bd ro kn qu yl sd x gl fl sl:=by kernel_rfl
theorem flG_pq {x:Int}:aL "quiet" (.int x) (flG nm wa sz wr rl bd ro kn qu yl sd se gl fl sl)=flG nm wa sz wr rl bd ro kn x yl sd se gl fl sl:=by kernel_rfl
theorem iB:(flG nm wa sz wr rl bd ro kn qu yl sd se gl fl sl).length=15:=by kernel_rfl
end
section
variable {t s:Int} {v:V} {kr:Addr}
theorem jg:(flW t v s kr).lookup ("rise_to":Str)=none:=by kernel_rfl
theorem gQ:(flW t v s kr).lookup ("settle_to":Str)=none:=by kernel_rfl
theorem ii:(flW t v s kr).lookup ("keep_row":Str)=none:=by kernel_rfl
theorem flW_pt {x:Int}:aL "term" (.int x) (flW t v s kr)=flW x v s kr:=by kernel_rfl
theorem flW_pv {x:V}:aL "vote" x (flW t v s kr)=flW t x s kr:=by kernel_rfl
theorem flW_ps {x:Int}:aL "settled_place" (.int x) (flW t v s kr)=flW t v x kr:=by kernel_rfl
theorem flW_pk {x:Addr}:aL "kept_row" (.ref x) (flW t v s kr)=flW t v s x:=by kernel_rfl
theorem iC:(flW t v s kr).length=4:=by kernel_rfl
end
section
variable {st en:Addr}
theorem jH:(flR st en).lookup ("filled":Str)=none:=by kernel_rfl
theorem jh:(flR st en).lookup ("between":Str)=none:=by kernel_rfl
theorem hJ:(flR st en).lookup ("term":Str)=none:=by kernel_rfl
end
section
variable {nm:Str} {wa sz:Int} {m:Addr}
theorem gw:(flH nm wa sz m).lookup ("heard":Str)=none:=by kernel_rfl
theorem dO:(flH nm wa sz m).lookup ("chair_letter":Str)=none:=by kernel_rfl
theorem mV:(flH nm wa sz m).lookup ("term":Str)=none:=by kernel_rfl
theorem mW:(flH nm wa sz m).lookup ("kept":Str)=none:=by kernel_rfl
end
theorem uI {d l:Addr}:(K41T.cW d l).lookup ("name":Str)=none:=by unfold K41T.cW; kernel_rfl
theorem uJ {d l:Addr}:(K41T.cW d l).lookup ("term":Str)=none:=by unfold K41T.cW; kernel_rfl
theorem mX {t:Int} {v:V} {s:Int} {kr:Addr}:(flW t v s kr).lookup ("told":Str)=none:=by kernel_rfl
theorem hU {d l:Addr}:(K41T.cW d l).lookup ("told":Str)=none:=by unfold K41T.cW; kernel_rfl
theorem mY {d l:Addr}:(K41T.cW d l).lookup ("twin":Str)=none:=by unfold K41T.cW; kernel_rfl
structure ClH (K:PySem.W.Frag) (mg:Str -> Option Value) (C:Addr):Prop where
 cl:Cls K C
 n0:bx K C "name"
 n1:bx K C "wait"
 n2:bx K C "size"
 n3:bx K C "mind"
 mgC:mg "House"=some (.ref C)
theorem fq {H:Hp} {a b C C' dx dx':Addr} {fs fs':List (Str × V)} (k:Str) (ha:H a=some (.ins C dx fs)) (hb:H b=some (.ins C' dx' fs')) (h:fs.lookup k ≠ fs'.lookup k):a ≠ b:=fun z=>by
 subst z
 rw [ha] at hb
 have:=(HO.ins.inj (Option.some.inj hb)).2.2
 exact h (by rw [this])
theorem hZ {fs fs':List (Str × V)} {k:Str} {v:V} (h:fs.lookup k=some v) (h':fs'.lookup k=none):fs.lookup k ≠ fs'.lookup k:=by
 rw [h,h']
 intro z
 cases z
structure TkZ (H H':Hp):Prop where
 t:Tk H H'
 z:∀ a o y,H a=some (.frz o y) -> H' a=some (.frz o y)
theorem TkZ.of {H H':Hp} (s:ar H H'):TkZ H H':=⟨Tk.of s,fun a o y e=>s _ _ e⟩
theorem TkZ.refl (H:Hp):TkZ H H:=⟨Tk.refl H,fun _ _ _ e=>e⟩
theorem TkZ.trans {H H1 H2:Hp} (a:TkZ H H1) (b:TkZ H1 H2):TkZ H H2:=⟨a.t.trans b.t,fun x o y e=>b.z _ _ _ (a.z _ _ _ e)⟩
theorem TkZ.bt {H H':Hp} {x:Addr} {u:HO} (e:BtO x H H') (hx:H x=some u) (n1:∀ xs,u ≠ .tup xs) (n2:∀ o y,u ≠ .frz o y):TkZ H H':=⟨fun a xs h=>e _ _ (aM h hx (fun z=>n1 xs z.symm)) h,fun a o y h=>e _ _ (aM h hx (fun z=>n2 o y z.symm)) h⟩
theorem TkZ.ins {H H':Hp} {x C dx:Addr} {fs:List (Str × V)} (e:BtO x H H') (hx:H x=some (.ins C dx fs)):TkZ H H':=TkZ.bt e hx (fun _ z=>by cases z) (fun _ _ z=>by cases z)
theorem TkZ.lst {H H':Hp} {x:Addr} {fs:List V} (e:BtO x H H') (hx:H x=some (.lst fs)):TkZ H H':=TkZ.bt e hx (fun _ z=>by cases z) (fun _ _ z=>by cases z)
section
variable {K:PySem.W.Frag} {H H':Hp}
theorem lq {x:Addr} {ys:List V} (k:TkZ H H') (h:SqT K H x ys):SqT K H' x ys:=by
 rcases h with h | h
 ·refine .inl ?_
  rcases h with h | ⟨u,h⟩
  ·exact .inl (k.t _ _ h)
  ·exact .inr ⟨u,k.z _ _ _ h⟩
 ·exact .inr h
theorem dH.tkz {st:Addr} {pl tm:Int} {b:Addr} {hk:List (Key × V)} {hq:List (Str × Int × V)} (e:TkZ H H') (h:dH K H st pl tm b hk hq):dH K H' st pl tm b hk hq:=by
 obtain ⟨hh,aa,o,ps,as,h1,h2,h3,h4,h5,h6,h7,h8,h9⟩:=h
 refine ⟨hh,aa,o,ps,as,e.t _ _ h1,e.z _ _ _ h2,h3,h4,fun j kv q=>?_,lq e h6,h7,h8,fun j kv q=>?_⟩
 ·obtain ⟨b,b1,b2⟩:=h5 j kv q
  exact ⟨b,b1,lq e b2⟩
 ·obtain ⟨b,b1,b2⟩:=h9 j kv q
  exact ⟨b,b1,lq e b2⟩
theorem aU.keepT {CT T d l:Addr} {kvs:Kvs} {las:Las} (kT:∀ u,H T=some u -> H' T=some u) (kd:∀ u,H d=some u -> H' d=some u) (kl:∀ u,H l=some u -> H' l=some u) (k:TkZ H H') (h:aU K CT H T d l kvs las):aU K CT H' T d l kvs las:=by
 obtain ⟨⟨dx,h1⟩,h2,⟨lk,h3,h4⟩,h5⟩:=h
 exact ⟨⟨dx,kT _ h1⟩,kd _ h2,⟨lk,kl _ h3,h4.mono fun t xs q=>lq k q⟩,h5⟩
theorem aU.neD {CT T d l x C dx:Addr} {fs:List (Str × V)} {kvs:Kvs} {las:Las} (h:aU K CT H T d l kvs las) (hx:H x=some (.ins C dx fs)):d ≠ x /\ l ≠ x:=by
 obtain ⟨⟨dx,h1⟩,h2,⟨lk,h3,h4⟩,h5⟩:=h
 exact ⟨aM h2 hx (by intro z; cases z),aM h3 hx (by intro z; cases z)⟩
theorem aU.neL {CT T d l x:Addr} {fs:List V} {kvs:Kvs} {las:Las} (h:aU K CT H T d l kvs las) (hx:H x=some (.lst fs)):T ≠ x /\ d ≠ x /\ l ≠ x:=by
 obtain ⟨⟨dx,h1⟩,h2,⟨lk,h3,h4⟩,h5⟩:=h
 exact ⟨aM h1 hx (by intro z; cases z),aM h2 hx (by intro z; cases z),aM h3 hx (by intro z; cases z)⟩
theorem WrG.keep {CW CR wr:Addr} {t:Int} {v:V} {s:Int} {kr st en:Addr} {pl tm:Int} {b:Addr} {hk:List (Key × V)} {hq:List (Str × Int × V)} {es:List Addr} {xs:List En} (kw:∀ u,H wr=some u -> H' wr=some u) (kk:∀ u,H kr=some u -> H' kr=some u) (k:TkZ H H') (h:WrG K CW CR H wr t v s kr st en pl tm b hk hq es xs):WrG K CW CR H' wr t v s kr st en pl tm b hk hq es xs:=by
 obtain ⟨⟨dx,h1⟩,dy,h2⟩:=id h.wo
 exact ⟨⟨⟨dx,kw _ h1⟩,dy,kk _ h2⟩,h.so.tkz k,k.t _ _ h.ho,bq k.t h.eo,h.el,h.ps,h.ok,h.kl,h.ll⟩
end
structure Cs where
 H:Addr
 M:Addr
 T:Addr
 W:Addr
 R:Addr
structure Gs where
 ho:Addr
 m:Addr
 wr:Addr
 bd:Addr
 d:Addr
 l:Addr
 rl:Addr
 kr:Addr
 st:Addr
 en:Addr
 b:Addr
 yl:Addr
 sd:Addr
 gl:Addr
 fl:Addr
 sl:Addr
 nm:Str
 wa:Int
 sz:Int
 t:Int
 v:V
 s:Int
 pl:Int
 tm:Int
 qu:Int
 kn:V
 hk:List (Key × V)
 hq:List (Str × Int × V)
 es:List Addr
 xs:List En
 n:Nat
abbrev Gs.flm (g:Gs):List (Str × V):=flG g.nm g.wa g.sz g.wr g.rl g.bd (.str "plain") g.kn g.qu g.yl g.sd .non g.gl g.fl g.sl
abbrev Gs.tab (g:Gs):Kvs × Las:=dI g.hk g.hq g.xs (g.s - g.pl).toNat
structure Gv (H:Hp) (gl fl sl rl:Addr):Prop where
 eg:H gl=some (.lst [])
 ef:H fl=some (.lst [])
 es:H sl=some (.lst [])
 ng:gl ≠ rl
 nf:fl ≠ rl
 ns:sl ≠ rl
theorem Gv.same {H H':Hp} {gl fl sl rl:Addr} (e:ar H H') (h:Gv H gl fl sl rl):Gv H' gl fl sl rl:=⟨e _ _ h.eg,e _ _ h.ef,e _ _ h.es,h.ng,h.nf,h.ns⟩
theorem Gv.ins {H H':Hp} {gl fl sl rl:Addr} {x C dx:Addr} {fs:List (Str × V)} (e:BtO x H H') (hx:H x=some (.ins C dx fs)) (h:Gv H gl fl sl rl):Gv H' gl fl sl rl:=⟨e _ _ (aM h.eg hx (by intro z; cases z)) h.eg,e _ _ (aM h.ef hx (by intro z; cases z)) h.ef,e _ _ (aM h.es hx (by intro z; cases z)) h.es,h.ng,h.nf,h.ns⟩
theorem Gv.recd {H H':Hp} {gl fl sl rl:Addr} (e:BtO rl H H') (h:Gv H gl fl sl rl):Gv H' gl fl sl rl:=⟨e _ _ h.ng h.eg,e _ _ h.nf h.ef,e _ _ h.ns h.es,h.ng,h.nf,h.ns⟩
structure bB (K:PySem.W.Frag) (c:Cs) (H:Hp) (g:Gs):Prop where
 ob:∃ dx,H g.m=some (.ins c.M dx g.flm)
 wg:WrG K c.W c.R H g.wr g.t g.v g.s g.kr g.st g.en g.pl g.tm g.b g.hk g.hq g.es g.xs
 tb:aU K c.T H g.bd g.d g.l g.tab.1 g.tab.2
 rc:∃ rs:List V,H g.rl=some (.lst rs) /\ rs.length <= g.n
 gv:Gv H g.gl g.fl g.sl g.rl
def Fr (g:Gs) (H H':Hp):Prop:=∀ x u,x ≠ g.m -> x ≠ g.wr -> x ≠ g.rl -> x ≠ g.d -> x ≠ g.l -> H x=some u -> H' x=some u
theorem Fr.of {g:Gs} {H H':Hp} (s:ar H H'):Fr g H H':=fun _ _ _ _ _ _ _ e=>s _ _ e
theorem Fr.trans {g:Gs} {H H1 H2:Hp} (a:Fr g H H1) (b:Fr g H1 H2):Fr g H H2:=fun x u n1 n2 n3 n4 n5 e=>b x u n1 n2 n3 n4 n5 (a x u n1 n2 n3 n4 n5 e)
structure Own (H0:Hp) (g:Gs):Prop where
 ho:H0 g.ho=none
 m:H0 g.m=none
 wr:H0 g.wr=none
 rl:H0 g.rl=none
 d:H0 g.d=none
 l:H0 g.l=none
structure bK (K:PySem.W.Frag) (c:Cs) (H0 H:Hp) (g:Gs):Prop where
 hb:∃ dx,H g.ho=some (.ins c.H dx (flH g.nm g.wa g.sz g.m))
 mo:bB K c H g
 ow:Own H0 g
 sm:ar H0 H
section
variable {K:PySem.W.Frag} {c:Cs} {H0 H H':Hp} {g:Gs}
theorem bB.same (e:ar H H') (h:bB K c H g):bB K c H' g:=by
 obtain ⟨dx,h1⟩:=h.ob
 obtain ⟨rs,h2,h3⟩:=h.rc
 exact ⟨⟨dx,e _ _ h1⟩,h.wg.same e,aU.same e h.tb,⟨rs,e _ _ h2,h3⟩,h.gv.same e⟩
theorem bK.same (e:ar H H') (h:bK K c H0 H g):bK K c H0 H' g:=by
 obtain ⟨dx,h1⟩:=h.hb
 exact ⟨⟨dx,e _ _ h1⟩,h.mo.same e,h.ow,h.sm.trans e⟩
structure Ne (g:Gs):Prop where
 wm:g.wr ≠ g.m
 km:g.kr ≠ g.m
 bm:g.bd ≠ g.m
 kw:g.kr ≠ g.wr
 bw:g.bd ≠ g.wr
 dm:g.d ≠ g.m
 lm:g.l ≠ g.m
 dw:g.d ≠ g.wr
 lw:g.l ≠ g.wr
 rm:g.rl ≠ g.m
 rw':g.rl ≠ g.wr
 kr:g.kr ≠ g.rl
 br:g.bd ≠ g.rl
 dr:g.d ≠ g.rl
 lr:g.l ≠ g.rl
theorem bB.ne (h:bB K c H g):Ne g:=by
 obtain ⟨dx,h1⟩:=h.ob
 obtain ⟨rs,h2,h3⟩:=h.rc
 obtain ⟨⟨dw,h4⟩,dk,h5⟩:=id h.wg.wo
 obtain ⟨dt,h6⟩:=h.tb.ob
 have a1:=aU.neD h.tb h1
 have a2:=aU.neD h.tb h4
 have a3:=aU.neL h.tb h2
 exact ⟨fq "term" h4 h1 (hZ fk mU),fq "stand" h5 h1 (hZ ul lp),(fq "name" h1 h6 (hZ uH uI)).symm,(fq "term" h4 h5 (hZ fk hJ)).symm,(fq "term" h4 h6 (hZ fk uJ)).symm,a1.1,a1.2,a2.1,a2.2,
  aM h2 h1 (by intro z; cases z),aM h2 h4 (by intro z; cases z),aM h5 h2 (by intro z; cases z),a3.1,a3.2.1,a3.2.2⟩
theorem Fr.tkz (h:bB K c H g) (f:Fr g H H'):TkZ H H':=by
 obtain ⟨dx,h1⟩:=h.ob
 obtain ⟨rs,h2,h3⟩:=h.rc
 obtain ⟨⟨dw,h4⟩,dk,h5⟩:=id h.wg.wo
 obtain ⟨⟨dx,h6⟩,h7,⟨lk,h8,h9⟩,h10⟩:=h.tb
 exact ⟨fun a xs e=>f _ _ (aM e h1 (by intro z; cases z)) (aM e h4 (by intro z; cases z)) (aM e h2 (by intro z; cases z)) (aM e h7 (by intro z; cases z)) (aM e h8 (by intro z; cases z)) e,
  fun a o y e=>f _ _ (aM e h1 (by intro z; cases z)) (aM e h4 (by intro z; cases z)) (aM e h2 (by intro z; cases z)) (aM e h7 (by intro z; cases z)) (aM e h8 (by intro z; cases z)) e⟩
theorem bK.neH (h:bK K c H0 H g):g.ho ≠ g.m /\ g.ho ≠ g.wr /\ g.ho ≠ g.rl /\ g.ho ≠ g.d /\ g.ho ≠ g.l:=by
 obtain ⟨dh,h0⟩:=h.hb
 obtain ⟨dx,h1⟩:=h.mo.ob
 obtain ⟨rs,h2,h3⟩:=h.mo.rc
 obtain ⟨⟨dw,h4⟩,dk,h5⟩:=id h.mo.wg.wo
 obtain ⟨⟨dx,h6⟩,h7,⟨lk,h8,h9⟩,h10⟩:=h.mo.tb
 exact ⟨(fq "kept" h1 h0 (hZ eF mW)).symm,(fq "term" h4 h0 (hZ fk mV)).symm,aM h0 h2 (by intro z; cases z),aM h0 h7 (by intro z; cases z),aM h0 h8 (by intro z; cases z)⟩
theorem bK.next {g':Gs} (h:bK K c H0 H g) (f:Fr g H H') (m:bB K c H' g') (e1:g'.ho=g.ho) (e2:g'.nm=g.nm) (e3:g'.wa=g.wa) (e4:g'.sz=g.sz) (e5:g'.m=g.m) (e6:g'.wr=g.wr) (e7:g'.rl=g.rl) (e8:g'.d=g.d) (e9:g'.l=g.l):bK K c H0 H' g':=by
 obtain ⟨dh,h0⟩:=h.hb
 obtain ⟨n1,n2,n3,n4,n5⟩:=h.neH
 refine ⟨⟨dh,?_⟩,m,⟨by rw [e1]; exact h.ow.ho,by rw [e5]; exact h.ow.m,by rw [e6]; exact h.ow.wr,by rw [e7]; exact h.ow.rl,by rw [e8]; exact h.ow.d,by rw [e9]; exact h.ow.l⟩,fun x u e=>?_⟩
 ·rw [e1,e2,e3,e4,e5]
  exact f _ _ n1 n2 n3 n4 n5 h0
 ·exact f _ _ (ak e h.ow.m) (ak e h.ow.wr) (ak e h.ow.rl) (ak e h.ow.d) (ak e h.ow.l) (h.sm _ _ e)
end
structure StE (K:PySem.W.Frag) (H:Hp) (s:Int) (st en:Addr) (pl tm:Int) (b:Addr) (hk:List (Key × V)) (hq:List (Str × Int × V)) (es:List Addr) (xs:List En):Prop where
 so:dH K H st pl tm b hk hq
 ho:H en=some (.tup (es.map V.ref))
 eo:Paired (EnO H) es xs
 el:es.length <= 60
 ps:pl <= s
 ok:ci (aO hk) (bp hq)
 kl:(aO hk).length <= 300
 ll:(bp hq).length <= 300
theorem StE.same {K:PySem.W.Frag} {H H':Hp} {s:Int} {st en:Addr} {pl tm:Int} {b:Addr} {hk:List (Key × V)} {hq:List (Str × Int × V)} {es:List Addr} {xs:List En} (e:ar H H') (h:StE K H s st en pl tm b hk hq es xs):StE K H' s st en pl tm b hk hq es xs:=⟨h.so.same e,e _ _ h.ho,bq (Tk.of e) h.eo,h.el,h.ps,h.ok,h.kl,h.ll⟩
theorem StE.bt {K:PySem.W.Frag} {H H':Hp} {s:Int} {st en x C dx:Addr} {fs:List (Str × V)} {pl tm:Int} {b:Addr} {hk:List (Key × V)} {hq:List (Str × Int × V)} {es:List Addr} {xs:List En} (e:BtO x H H') (hx:H x=some (.ins C dx fs)) (h:StE K H s st en pl tm b hk hq es xs):StE K H' s st en pl tm b hk hq es xs:=⟨h.so.bt e hx,Tk.bt e hx _ _ h.ho,bq (Tk.bt e hx) h.eo,h.el,h.ps,h.ok,h.kl,h.ll⟩
def spHI (K:PySem.W.Frag) (CH:Addr):Sp:=fun us H Q _=>∃ (ho dx b:Addr) (nm:Str) (wa sz:Int),us=[.ref ho,.str nm,.int wa,.int sz,.ref b] /\ H ho=some (.ins CH dx []) /\ ∀ (m:Addr) (H':Hp),BtO ho H H' -> H' ho=some (.ins CH dx (flH nm wa sz m)) -> Q .non H'
def spUp (K:PySem.W.Frag) (c:Cs):Sp:=fun us H Q _=>∃ (H0:Hp) (ho dx m0 wt st en b:Addr) (nm:Str) (wa sz t s pl tm:Int) (v:V) (hk:List (Key × V)) (hq:List (Str × Int × V)) (es:List Addr) (xs:List En),us=[.ref ho,.ref wt] /\ H ho=some (.ins c.H dx (flH nm wa sz m0)) /\ H wt=some (.tup [.int t,v,.int s,.ref st,.ref en]) /\ StE K H s st en pl tm b hk hq es xs /\ ar H0 H /\ H0 ho=none /\
 ∀ (m wr bd d l rl kr yl sd gl fl sl:Addr) (H':Hp),BtO ho H H' -> bK K c H0 H' { ho:=ho,m:=m,wr:=wr,bd:=bd,d:=d,l:=l,rl:=rl,kr:=kr,st:=st,en:=en,b:=b,yl:=yl,sd:=sd,gl:=gl,fl:=fl,sl:=sl,nm:=nm,wa:=wa,sz:=sz,t:=t,v:=v,s:=s,pl:=pl,tm:=tm,qu:=0,kn:=.non,hk:=hk,hq:=hq,es:=es,xs:=xs,n:=0 } -> Q .non H'
def spHo (K:PySem.W.Frag) (c:Cs) (R:Hp -> Gs -> VK -> Prop):Sp:=fun us H Q _=>∃ (H0:Hp) (g:Gs),us=[.ref g.ho] /\ bK K c H0 H g /\ R H g Q
def ji (K:PySem.W.Frag) (c:Cs):Sp:=spHo K c fun H g Q=>∀ (p:Addr) (H':Hp),ar H H' -> H' p=some (.tup [.int g.t,g.v,.int g.s,.ref g.st,.ref g.en]) -> Q (.ref p) H'
def lu (K:PySem.W.Frag) (c:Cs):Sp:=spHo K c fun H g Q=>Q (.str "plain") H
def jj (K:PySem.W.Frag) (c:Cs):Sp:=spHo K c fun H g Q=>Q g.kn H
def lv (K:PySem.W.Frag) (CT:Addr):Sp:=fun us H Q _=>∃ (T d l:Addr) (kvs:Kvs) (las:Las),us=[.ref T] /\ aU K CT H T d l kvs las /\ ci kvs las /\ kvs.length < 64 /\ las.length < 64 /\
 ∀ (T2 d2 l2:Addr) (kvs2:Kvs) (las2:Las) (H':Hp),ar H H' -> aU K CT H' T2 d2 l2 kvs2 las2 -> ci kvs2 las2 -> Eqv kvs2 las2 kvs las -> kvs2.length < 64 -> las2.length < 64 -> Q (.ref T2) H'
def jk (K:PySem.W.Frag) (c:Cs):Sp:=spHo K c fun H g Q=>ci g.tab.1 g.tab.2 /\ g.tab.1.length < 64 /\ g.tab.2.length < 64 /\
 ∀ (T2 d2 l2:Addr) (kvs2:Kvs) (las2:Las) (H':Hp),ar H H' -> aU K c.T H' T2 d2 l2 kvs2 las2 -> ci kvs2 las2 -> Eqv kvs2 las2 g.tab.1 g.tab.2 -> kvs2.length < 64 -> las2.length < 64 -> Q (.ref T2) H'
def jl (K:PySem.W.Frag) (c:Cs):Sp:=fun us H Q _=>∃ g:Gs,us=[.ref g.m] /\ bB K c H g /\ Q (.int g.s) H
section
variable {P:Program} {w:World} {K:PySem.W.Frag} {mg:Str -> Option Value} {base:Heap} {CH CM CT CW CR:Addr}
abbrev nHI:List Str:=["self","name","wait","size","bench"]
theorem scHI:ax nHI nHI (am oU):=fsc (by decide +kernel)
theorem ok_hi {f:Addr} {fd:FuncData} (F:Fun K "__init__" "House.__init__" oU f fd) (T:ClH K mg CH) (TM:ClM K mg CM) (Mm:fK P w K mg base CM 6 ["self","name","wait","size","kept","records"] (spMI K CM CT CW CR)) (Fw:aR P w K mg base 5 "first_written" ["bench"] (spFW CW CR)):aP P w K mg base CX0 8 f fd nHI (spHI K CH):=by
 refine F.ok scHI (fun vs H Q E h=>?_) (fun cdv A outer s H vs Q E hr h=>?_)
 ·obtain ⟨ho,dx,b,nm,wa,sz,rfl,_⟩:=h
  rfl
 ·obtain ⟨ho,dx,b,nm,wa,sz,rfl,hH,q⟩:=h
  have r5:bi 5 _:=hr.mono (by decide)
  refine ⟨_,ae (bg (pv 0) (pv 1) rfl) <| ae (bg (pv 0) (pv 2) rfl) <| ae (bg (pv 0) (pv 3) rfl) <|
   aj (bg (pv 0) (cP Mm hr TM.mgC (ad (pv 1) (ad (pv 2) (ad (pv 3) (ad (aC Fw r5 (ad (pv 4) ag)) (ad (cy ag) ag)))))) rfl),?_⟩
  dsimp only [bj,Cx.nox]
  refine ah fun K_ hK_=>?_
  refine ⟨_,rfl,_,rfl,ho,CH,dx,[],rfl,hH,T.cl,T.n0,(by show 0 < 1000; decide),?_⟩
  refine hK_ _ _ (ah fun K_ hK_=>?_)
  refine ⟨_,rfl,_,rfl,ho,ex3 CH dx _ ⟨rfl,ai,T.cl,T.n1,(by show 1 < 1000; decide),?_⟩⟩
  refine hK_ _ _ (ah fun K_ hK_=>?_)
  refine ⟨_,rfl,_,rfl,ho,ex3 CH dx _ ⟨rfl,ai,T.cl,T.n2,(by show 2 < 1000; decide),?_⟩⟩
  have b3:BtO ho H (upd (upd (upd H ho (.ins CH dx (aL "name" (.str nm) []))) ho (.ins CH dx (aL "wait" (.int wa) (aL "name" (.str nm) [])))) ho (.ins CH dx (aL "size" (.int sz) (aL "wait" (.int wa) (aL "name" (.str nm) []))))):=BtO.upd.trans (BtO.upd.trans BtO.upd)
  have e3:upd (upd (upd H ho (.ins CH dx (aL "name" (.str nm) []))) ho (.ins CH dx (aL "wait" (.int wa) (aL "name" (.str nm) [])))) ho (.ins CH dx (aL "size" (.int sz) (aL "wait" (.int wa) (aL "name" (.str nm) [])))) ho=some (.ins CH dx (aL "size" (.int sz) (aL "wait" (.int wa) (aL "name" (.str nm) [])))):=ai
  refine hK_ _ _ ?_
  generalize upd (upd (upd H ho (.ins CH dx (aL "name" (.str nm) []))) ho (.ins CH dx (aL "wait" (.int wa) (aL "name" (.str nm) [])))) ho (.ins CH dx (aL "size" (.int sz) (aL "wait" (.int wa) (aL "name" (.str nm) []))))=H3 at b3 e3 ⊢
  refine ⟨_,rfl,_,rfl,_,rfl,_,rfl,b,rfl,fun o kr st en e1 e2 o1 o2 H4 s4 w4 g1 g2 d1 g3 d2 g4=>⟨Nat.zero_le _,fun rl H5 n5 s5 e5=>?_⟩⟩
  intro m dm nm' nd ndm
  have nm2:upd H5 dm (.own m) m=none:=by rw [aw ndm.symm]; exact nm'
  have s6:ar H5 (upd (upd H5 dm (.own m)) m (.ins CM dm [])):=(ar.new nd).trans (ar.new nm2)
  have s46:=s5.trans s6
  refine ⟨m,dm,o,rl,kr,st,en,b,nm,wa,sz,0,0,0,0,.non,[],[],[],[],rfl,ai,⟨w4.same s46,⟨e1,e2,o1,[],[],s46 _ _ g1,s46 _ _ g2,d1,rfl,fun j kv h=>(nomatch h),.inl (.inr ⟨o2,s46 _ _ g3⟩),rfl,Nat.zero_le _,fun j kv h=>(nomatch h)⟩,s46 _ _ g4,.nil,Nat.zero_le _,Int.le_refl _,ci.empty,Nat.zero_le _,Nat.zero_le _⟩,fun bd d l yl sd gl fl sl H7 b7 e7 _ _ _ _ _ _ _ _ _ _=>⟨rfl,?_⟩⟩
  have mh:m ≠ ho:=(ak (s5 _ _ (s4 _ _ e3)) nm').symm
  have eh:H7 ho=some (.ins CH dx (aL "size" (.int sz) (aL "wait" (.int wa) (aL "name" (.str nm) [])))):=b7 _ _ mh.symm (s46 _ _ (s4 _ _ e3))
  refine ⟨_,rfl,ho,ex3 CH dx _ ⟨rfl,eh,T.cl,T.n3,(by show 3 < 1000; decide),q m _ (fun c u n e=>?_) ai⟩⟩
  rw [aw n]
  have e':=s4 _ _ (b3 _ _ n e)
  exact b7 _ _ (ak (s5 _ _ e') nm') (s46 _ _ e')
theorem scUp:ax ["self","written"] ["self","written"] (am sUp):=fsc (by decide +kernel)
theorem ok_up {f:Addr} {fd:FuncData} (F:Fun K "comes_up" "House.comes_up" sUp f fd) (T:ClH K mg CH) (TM:ClM K mg CM) (TW:ClW K mg CW) (Mm:fK P w K mg base CM 6 ["self","name","wait","size","kept","records"] (spMI K CM CT CW CR)) (Mw:fK P w K mg base CW 3 ["self","parts"] (iy K CW CR)):aP P w K mg base CX0 8 f fd ["self","written"] (spUp K ⟨CH,CM,CT,CW,CR⟩):=by
 refine F.ok scUp (fun vs H Q E h=>?_) (fun cdv A outer s H vs Q E hr h=>?_)
 ·obtain ⟨H0,ho,dx,m0,wt,st,en,b,nm,wa,sz,t,s,pl,tm,v,hk,hq,es,xs,rfl,_⟩:=h
  rfl
 ·obtain ⟨H0,ho,dx,m0,wt,st,en,b,nm,wa,sz,t,s,pl,tm,v,hk,hq,es,xs,rfl,hH,hw,G,s0,n0,q⟩:=h
  have r4:bi 4 _:=hr.mono (by decide)
  refine ⟨_,aj (bg (pv 0) (cP Mm hr TM.mgC (ad (aG (pv 0) rfl) (ad (aG (pv 0) rfl) (ad (aG (pv 0) rfl) (ad (cP Mw r4 TW.mgC (ad (pv 1) ag)) (ad (cy ag) ag)))))) rfl),?_⟩
  dsimp only [bj,Cx.nox]
  refine ⟨_,rfl,ho,ex4 CH dx _ _ ⟨rfl,hH,T.cl,T.n0,flH_n,_,rfl,ho,ex4 CH dx _ _ ⟨rfl,hH,T.cl,T.n1,flH_w,_,rfl,ho,ex4 CH dx _ _ ⟨rfl,hH,T.cl,T.n2,flH_s,_,rfl,?_⟩⟩⟩⟩
  intro o dw no nd ndo
  have no':upd H dw (.own o) o=none:=by rw [aw ndo.symm]; exact no
  have s1:ar H (upd (upd H dw (.own o)) o (.ins CW dw [])):=(ar.new nd).trans (ar.new no')
  refine (ex9 o dw wt st en t s v _ ⟨rfl,ai,SqT.of (s1 _ _ hw),SqT.of (s1 _ _ G.ho),fun kr H2 nk b2 w2=>⟨rfl,Nat.zero_le _,fun rl H3 n3 s3 e3=>?_⟩⟩)
  have s02:ar H H2:=fun c u e=>b2 _ _ (ak e no) (s1 _ _ e)
  have s03:=s02.trans s3
  intro m dm nm' nd' ndm
  have nm2:upd H3 dm (.own m) m=none:=by rw [aw ndm.symm]; exact nm'
  have s6:ar H3 (upd (upd H3 dm (.own m)) m (.ins CM dm [])):=(ar.new nd').trans (ar.new nm2)
  have G6:=(G.same s03).same s6
  refine ⟨m,dm,o,rl,kr,st,en,b,nm,wa,sz,ex9 t s pl tm v hk hq es xs ⟨rfl,ai,⟨(w2.same s3).same s6,G6.so,G6.ho,G6.eo,G6.el,G6.ps,G6.ok,G6.kl,G6.ll⟩,fun bd d l yl sd gl fl sl H7 b7 e7 _ nd7 nl7 hT eg ef es' ng nf ns=>⟨rfl,?_⟩⟩⟩
  have mh:m ≠ ho:=(ak (s03 _ _ hH) nm').symm
  have eh:H7 ho=some (.ins CH dx (flH nm wa sz m0)):=b7 _ _ mh.symm (s6 _ _ (s03 _ _ hH))
  refine ⟨_,rfl,ho,ex3 CH dx _ ⟨rfl,eh,T.cl,T.n3,(by rw [flH_len]; decide),?_⟩⟩
  rw [flH_put]
  have bb:BtO ho H7 (upd H7 ho (.ins CH dx (flH nm wa sz m))):=BtO.upd
  have W7:WrG K CW CR H7 o t v s kr st en pl tm b hk hq es xs:=by
   have hm0:upd (upd H3 dm (.own m)) m (.ins CM dm []) m=some (.ins CM dm []):=ai
   exact WrG.bt b7 hm0 ⟨(w2.same s3).same s6,G6.so,G6.ho,G6.eo,G6.el,G6.ps,G6.ok,G6.kl,G6.ll⟩
  have nho:H o=none:=no
  have W8:WrG K CW CR (upd H7 ho (.ins CH dx (flH nm wa sz m))) o t v s kr st en pl tm b hk hq es xs:=by
   obtain ⟨⟨dx1,y1⟩,dy1,y2⟩:=id W7.wo
   have n1:o ≠ ho:=(ak hH no).symm
   have n2:kr ≠ ho:=fun z=>by
    rw [z,s1 _ _ hH] at nk
    cases nk
   exact ⟨⟨⟨dx1,bb _ _ n1 y1⟩,dy1,bb _ _ n2 y2⟩,W7.so.bt bb eh,Tk.bt bb eh _ _ W7.ho,bq (Tk.bt bb eh) W7.eo,W7.el,W7.ps,W7.ok,W7.kl,W7.ll⟩
  have nbd:bd ≠ ho:=fun z=>by
   obtain ⟨⟨dz,y⟩,_⟩:=hT
   rw [z,eh] at y
   have:=(HO.ins.inj (Option.some.inj y)).2.2
   have h0:("name":Str) ∉ [("held":Str),"lasts"]:=by decide +kernel
   have h1:=congrArg (fun l=>List.lookup ("name":Str) l) this
   simp only [flH_n] at h1
   have h2:(K41T.cW d l).lookup ("name":Str)=none:=by unfold K41T.cW; kernel_rfl
   rw [h2] at h1
   cases h1
  have s06:ar H0 (upd (upd H3 dm (.own m)) m (.ins CM dm [])):=s0.trans (s03.trans s6)
  have e8:H7 rl=some (.lst []):=b7 _ _ (ak e3 nm') (s6 _ _ e3)
  have s08:ar H0 (upd H7 ho (.ins CH dx (flH nm wa sz m))):=fun x u e=>by
   rw [aw (ak e n0)]
   have e':=s0.trans s03 _ _ e
   exact b7 _ _ (ak e' nm') (s6 _ _ e')
  refine q m o bd d l rl kr yl sd gl fl sl _ (fun c u n e=>?_) ⟨⟨dx,ai⟩,⟨⟨dm,by rw [aw mh]; exact e7⟩,W8,aU.bt bb eh nbd hT,⟨[],by rw [aw (aM e8 eh (by intro z; cases z))]; exact e8,Nat.zero_le _⟩,Gv.ins bb eh ⟨eg,ef,es',(ak (s6 _ _ e3) ng).symm,(ak (s6 _ _ e3) nf).symm,(ak (s6 _ _ e3) ns).symm⟩⟩,⟨n0,(s0.trans s03).free nm',s0.free no,(s0.trans s02).free n3,s06.free nd7,s06.free nl7⟩,s08⟩
  rw [aw n]
  have e':=s03 _ _ e
  exact b7 _ _ (ak e' nm') (s6 _ _ e')
theorem uK:ax ["self"] ["self"] (am lg):=fsc (by decide +kernel)
theorem rF {f:Addr} {fd:FuncData} (F:Fun K "writes" "House.writes" lg f fd) (T:ClH K mg CH) (TM:ClM K mg CM) (TW:ClW K mg CW) (Mt:bu P w K mg base CW 1 "told" ["self"] (kW K CW CR)):aP P w K mg base CX0 2 f fd ["self"] (ji K ⟨CH,CM,CT,CW,CR⟩):=by
 refine F.ok uK (fun vs H Q E h=>?_) (fun cdv A outer s H vs Q E hr h=>?_)
 ·obtain ⟨H0,g,rfl,_⟩:=h
  rfl
 ·obtain ⟨H0,g,rfl,G,q⟩:=h
  refine ⟨_,aj <| ay <| bF Mt TW.cl hr (aG (aG (pv 0) rfl) rfl),?_⟩
  dsimp only [bj,Cx.nox]
  obtain ⟨dx,h1⟩:=G.hb
  obtain ⟨dy,h2⟩:=G.mo.ob
  obtain ⟨⟨dz,h3⟩,_⟩:=id G.mo.wg.wo
  exact ⟨_,rfl,ex5 g.ho CH dx _ _ ⟨rfl,h1,T.cl,T.n3,gu,ex5 g.m CM dy _ _ ⟨rfl,h2,TM.cl,TM.n3,eF,ex3 g.wr dz _ ⟨rfl,h3,mX,ex7 g.wr g.kr g.st g.en g.t g.s g.v ⟨rfl,G.mo.wg.wo,q⟩⟩⟩⟩⟩
theorem scHPart:ax ["self"] ["self"] (am oV):=fsc (by decide +kernel)
theorem uL {f:Addr} {fd:FuncData} (F:Fun K "part" "House.part" oV f fd) (T:ClH K mg CH) (TM:ClM K mg CM):aP P w K mg base CX0 1 f fd ["self"] (lu K ⟨CH,CM,CT,CW,CR⟩):=by
 refine F.ok scHPart (fun vs H Q E h=>?_) (fun cdv A outer s H vs Q E hr h=>?_)
 ·obtain ⟨H0,g,rfl,_⟩:=h
  rfl
 ·obtain ⟨H0,g,rfl,G,q⟩:=h
  refine ⟨_,aj <| ay <| aG (aG (pv 0) rfl) rfl,?_⟩
  dsimp only [bj,Cx.nox]
  obtain ⟨dx,h1⟩:=G.hb
  obtain ⟨dy,h2⟩:=G.mo.ob
  exact ⟨_,rfl,ex5 g.ho CH dx _ _ ⟨rfl,h1,T.cl,T.n3,gu,ex5 g.m CM dy _ _ ⟨rfl,h2,TM.cl,TM.n6,flG_r,q⟩⟩⟩
theorem uM:ax ["self"] ["self"] (am li):=fsc (by decide +kernel)
theorem rG {f:Addr} {fd:FuncData} (F:Fun K "chair_known" "House.chair_known" li f fd) (T:ClH K mg CH) (TM:ClM K mg CM):aP P w K mg base CX0 1 f fd ["self"] (jj K ⟨CH,CM,CT,CW,CR⟩):=by
 refine F.ok uM (fun vs H Q E h=>?_) (fun cdv A outer s H vs Q E hr h=>?_)
 ·obtain ⟨H0,g,rfl,_⟩:=h
  rfl
 ·obtain ⟨H0,g,rfl,G,q⟩:=h
  refine ⟨_,aj <| ay <| aG (aG (pv 0) rfl) rfl,?_⟩
  dsimp only [bj,Cx.nox]
  obtain ⟨dx,h1⟩:=G.hb
  obtain ⟨dy,h2⟩:=G.mo.ob
  exact ⟨_,rfl,ex5 g.ho CH dx _ _ ⟨rfl,h1,T.cl,T.n3,gu,ex5 g.m CM dy _ _ ⟨rfl,h2,TM.cl,TM.n7,flG_c,q⟩⟩⟩
theorem qb:ax ["self","told"] ["self"] (am oW):=fsc (by decide +kernel)
theorem uN {f:Addr} {fd:FuncData} (F:Fun K "twin" "Table.twin" oW f fd) (TT:K41T.Cl K mg CT) (Mo:bu P w K mg base CT 1 "told" ["self"] (K41T.kR K CT)) (Mt:fK P w K mg base CT 1 ["self","held","asked"] (K41T.fj K CT)):aP P w K mg base CX0 3 f fd ["self"] (lv K CT):=by
 refine F.ok qb (fun vs H Q E h=>?_) (fun cdv A outer s H vs Q E hr h=>?_)
 ·obtain ⟨T,d,l,kvs,las,rfl,_⟩:=h
  rfl
 ·obtain ⟨T,d,l,kvs,las,rfl,hT,hok,k64,l64,q⟩:=h
  have nd:=qb.nd
  have r1:bi 1 _:=hr.mono (by decide)
  refine ⟨_,ae (aB (i:=1) nd rfl (Or.inl rfl) (bF Mo TT.cl r1 (pv 0))) <| aj <| ay <| cP Mt hr TT.mgC (ad (aq ao (pv 1) af (fun _ _=>rfl)) (ad (aq ao (pv 1) af (fun _ _=>rfl)) ag)),?_⟩
  dsimp only [bj,Cx.nox]
  obtain ⟨dx,hob⟩:=hT.ob
  refine ah fun K_ hK_=>?_
  refine ⟨_,rfl,ex3 T dx _ ⟨rfl,hob,hU,ex5 T d l kvs las ⟨rfl,hT,hok,k64,l64,fun p ps qs H1 s1 hp ht=>?_⟩⟩⟩
  obtain ⟨ph,pa,oh,oa,hs,as,g1,g2,g3,g4,g5,g6,g7,g8⟩:=hp
  obtain ⟨m1,m2,m3,m4⟩:=ht.made hok
  refine hK_ _ _ ?_
  refine ⟨_,rfl,ex4 p _ _ _ ⟨rfl,rfl,SqT.of g1,at0,_,rfl,ex4 p _ _ _ ⟨rfl,rfl,SqT.of g1,at1,?_⟩⟩⟩
  intro T2 dT nT ndT ndTT
  have nT':upd H1 dT (.own T2) T2=none:=by rw [aw ndTT.symm]; exact nT
  have s2:ar H1 (upd (upd H1 dT (.own T2)) T2 (.ins CT dT [])):=(ar.new ndT).trans (ar.new nT')
  have ql:qs.length <= 900:=by
   obtain ⟨_,tt,t1,t2,t3⟩:=ht
   have h1:qs.length=tt.length:=by rw [t3]; unfold K41T.gI; rw [List.length_map]
   have h2:=t1.length_eq
   unfold KM.cD at h2
   rw [List.length_map] at h2
   lia
  refine ⟨T2,dT,ph,pa,oh,hs,as,gJ ps,qs,rfl,ai,s2 _ _ g2,g3,by rw [List.length_map]; exact g5,fun j kv e=>?_,.inl (.inr ⟨oa,s2 _ _ g4⟩),g6,ql,fun j kv e=>?_,fun d2 l2 H3 n2 n3 hT3 b3=>⟨rfl,?_⟩⟩
  ·rw [List.getElem?_map] at e
   cases e2:ps[j]? with
   | none=>rw [e2] at e; cases e
   | some kv0 =>
    rw [e2] at e
    cases e
    obtain ⟨b,b1,b2⟩:=g7 j kv0 e2
    exact ⟨b,b1,SqT.of (s2 _ _ b2)⟩
  ·obtain ⟨b,b1,b2⟩:=g8 j kv e
   exact ⟨b,b1,SqT.of (s2 _ _ b2)⟩
  ·exact q T2 d2 l2 _ _ H3 (s1.trans fun c u e=>b3 _ _ (s2 _ _ e) (ak e nT)) hT3 m2 m1 (by lia) (by lia)
theorem uO:ax ["self"] ["self"] (am lj):=fsc (by decide +kernel)
theorem rH {f:Addr} {fd:FuncData} (F:Fun K "table" "House.table" lj f fd) (T:ClH K mg CH) (TM:ClM K mg CM) (TT:K41T.Cl K mg CT) (Mt:bu P w K mg base CT 3 "twin" ["self"] (lv K CT)):aP P w K mg base CX0 4 f fd ["self"] (jk K ⟨CH,CM,CT,CW,CR⟩):=by
 refine F.ok uO (fun vs H Q E h=>?_) (fun cdv A outer s H vs Q E hr h=>?_)
 ·obtain ⟨H0,g,rfl,_⟩:=h
  rfl
 ·obtain ⟨H0,g,rfl,G,o1,o2,o3,q⟩:=h
  refine ⟨_,aj <| ay <| bF Mt TT.cl hr (aG (aG (pv 0) rfl) rfl),?_⟩
  dsimp only [bj,Cx.nox]
  obtain ⟨dx,h1⟩:=G.hb
  obtain ⟨dy,h2⟩:=G.mo.ob
  obtain ⟨dz,h3⟩:=G.mo.tb.ob
  exact ⟨_,rfl,ex5 g.ho CH dx _ _ ⟨rfl,h1,T.cl,T.n3,gu,ex5 g.m CM dy _ _ ⟨rfl,h2,TM.cl,TM.n5,flG_b,ex3 g.bd dz _ ⟨rfl,h3,mY,ex5 g.bd g.d g.l _ _ ⟨rfl,G.mo.tb,o1,o2,o3,q⟩⟩⟩⟩⟩
theorem scMSet:ax ["self"] ["self"] (am gM):=fsc (by decide +kernel)
theorem ok_mset {f:Addr} {fd:FuncData} (F:Fun K "settled" "Mind.settled" gM f fd) (TM:ClM K mg CM) (TW:ClW K mg CW):aP P w K mg base CX0 1 f fd ["self"] (jl K ⟨CH,CM,CT,CW,CR⟩):=by
 refine F.ok scMSet (fun vs H Q E h=>?_) (fun cdv A outer s H vs Q E hr h=>?_)
 ·obtain ⟨g,rfl,_⟩:=h
  rfl
 ·obtain ⟨g,rfl,G,q⟩:=h
  refine ⟨_,aj <| ay <| aG (aG (pv 0) rfl) rfl,?_⟩
  dsimp only [bj,Cx.nox]
  obtain ⟨dy,h2⟩:=G.ob
  obtain ⟨⟨dz,h3⟩,_⟩:=id G.wg.wo
  exact ⟨_,rfl,ex5 g.m CM dy _ _ ⟨rfl,h2,TM.cl,TM.n3,eF,ex5 g.wr CW dz _ _ ⟨rfl,h3,TW.cl,TW.nS,flW_s,q⟩⟩⟩
end
end K41
namespace K41
open PySem L2
abbrev uP:Stmt:=top 112
def oX:Sp:=fun us H Q _=>∃ c:Int,us=[.int c] /\ ∀ z:Int,Q (.int z) H
def Dig:List Int -> List Int -> Prop:=Paired fun d z=>0 <= d /\ d < z
def jm:Sp:=fun us H Q _=>∃ (c:Int) (sa:Addr) (zs:List Int),us=[.int c,.ref sa] /\ H sa=some (.lst (zs.map V.int)) /\ (∀ z ∈ zs,0 < z /\ z < 2 ^ 250) /\ zs.length <= 60 /\ ∀ (p:Addr) (ds:List Int) (H':Hp),ar H H' -> H p=none -> H' p=some (.lst (ds.map V.int)) -> Dig ds zs -> Q (.ref p) H'
theorem rJ {tc:TT} {t u:TS} {D:ib} {σ:St} {H:Hp} (h:∀ A B:Hp -> Prop,(∀ H1,t D σ H1 -> A H1) -> (∀ H1,u D σ H1 -> B H1) -> tc σ H fun b H1=>if b=true then A H1 else B H1):tIfS tc t u D σ H:=h _ _ (fun _ h=>h) fun _ h=>h
section
variable {P:Program} {w:World} {K:PySem.W.Frag} {mg:Str -> Option Value} {base:Heap}
abbrev nRich:List Str:=["_law_cell","_law_number","_law_found","_law_k"]
theorem uQ:ax nRich ["_law_cell"] (am uP):=fsc (by decide +kernel)
theorem ok_rich {f:Addr} {fd:FuncData} (F:Fun K "_law_rich" "_law_rich" uP f fd) (hrange:mg "range"=none):aP P w K mg base CX0 1 f fd ["_law_cell"] oX:=by
 refine F.ok uQ (fun vs H Q E h=>?_) (fun cdv A outer s H vs Q E hr h=>?_)
 ·obtain ⟨c,rfl,_⟩:=h
  rfl
 ·obtain ⟨c,rfl,q⟩:=h
  have nd:=uQ.nd
  refine ⟨_,ae (aB (i:=1) nd rfl (Or.inl rfl) (aE cB (aE aX (aE dc (aE cB (pv 0) af) af) af) af)) <|
   ae (aB (i:=1) nd rfl (Or.inl rfl) (aE cB (aE aX (aE dc (pv 1) (pv 1)) af) af)) <|
   ae (aB (i:=2) nd rfl (Or.inl rfl) af) <|
   ae (dX PassesOwn.never rfl (db (by rfl) hrange (ad af ag)) (au (i:=3) nd rfl (Or.inl rfl)) <|
    ae (aB (i:=1) nd rfl (Or.inl rfl) (aE cB (aE aX (aE aX (aE dc (pv 1) (pv 1)) (aE dc af (pv 1))) (pv 3)) af)) <|
    aj (aB (i:=2) nd rfl (Or.inl rfl) (aE aX (aE dc (pv 2) af) (pv 1)))) <|
   aj (ay (pv 2)),?_⟩
  refine ⟨_,rfl,_,_,rfl,rfl,(show (0:Int) < 2147483629 by decide),_,_,rfl,rfl,.inr ⟨by decide,by decide⟩,_,_,rfl,rfl,_,_,rfl,rfl,(show (0:Int) < 2147483647 by decide),?_⟩
  have a0:=Int.emod_nonneg (c % 2147483629 * 48271 + 11) (show (2147483647:Int) ≠ 0 by decide)
  have a1:=Int.emod_lt_of_pos (c % 2147483629 * 48271 + 11) (show (0:Int) < 2147483647 by decide)
  refine ⟨_,rfl,_,rfl,_,_,rfl,rfl,.inl ⟨by lia,by lia⟩,_,_,rfl,rfl,_,_,rfl,rfl,(show (0:Int) < 2147483629 by decide),?_⟩
  refine ⟨10,rfl,by decide,by decide,ft (lo:=0) (n:=10) (fun i σ Hx=>Hx=H /\ ∃ (n z:Int) (v:Option V),σ=[some (V.int c),some (V.int n),some (V.int z),v] /\ 0 <= n /\ n < 2147483629) ⟨rfl,_,0,none,rfl,Int.emod_nonneg _ (by decide),Int.emod_lt_of_pos _ (by decide)⟩ ?_ ?_⟩
  ·rintro i σ Hx hi ⟨rfl,n,z,v,rfl,h0,h1⟩
   refine ⟨_,rfl,_,rfl,_,_,rfl,rfl,.inl ⟨by lia,by lia⟩,_,rfl,_,_,rfl,rfl,.inl ⟨by decide,by decide⟩,_,_,rfl,rfl,_,rfl,_,_,rfl,rfl,_,_,rfl,rfl,(show (0:Int) < 2147483629 by decide),?_⟩
   refine ⟨_,rfl,_,_,rfl,rfl,.inr ⟨by decide,by decide⟩,_,rfl,_,_,rfl,rfl,rfl,ex3 _ _ _ ⟨rfl,Int.emod_nonneg _ (by decide),Int.emod_lt_of_pos _ (by decide)⟩⟩
  ·rintro σ Hx ⟨rfl,n,z,v,rfl,h0,h1⟩
   exact ⟨_,rfl,q z⟩
abbrev nDig:List Str:=["_law_cell","_law_sizes","_law_number","_law_more","_law_found","_law_size"]
theorem scDig:ax nDig ["_law_cell","_law_sizes"] (am kI):=fsc (by decide +kernel)
theorem ok_dig {f:Addr} {fd:FuncData} (F:Fun K "_law_digits" "_law_digits" kI f fd) (Fr:aR P w K mg base 1 "_law_rich" ["_law_cell"] oX):aP P w K mg base CX0 2 f fd ["_law_cell","_law_sizes"] jm:=by
 refine F.ok scDig (fun vs H Q E h=>?_) (fun cdv A outer s H vs Q E hr h=>?_)
 ·obtain ⟨c,sa,zs,rfl,_⟩:=h
  rfl
 ·obtain ⟨c,sa,zs,rfl,hsa,hz,hl,q⟩:=h
  have nd:=scDig.nd
  have hs16:sizeLine=16777216:=sizeLine_eq
  refine ⟨_,ae (aB (i:=2) nd rfl (Or.inl rfl) (aE pB (pv 0) af)) <|
   ae (aB (i:=3) nd rfl (Or.inl rfl) (aC Fr hr (ad (pv 0) ag))) <|
   ae (aB (i:=4) nd rfl (Or.inl rfl) (cy ag)) <|
   ae (dX PassesOwn.never rfl (eJ (pv 1)) (au (i:=5) nd rfl (Or.inl rfl)) <|
    aj (aS (PW.pt (cN (aD bW (aE cB (pv 0) af) af (aF _)) (cZ (aD fw (pv 2) (aQ (ad af (ad (md iM af) ag))) (by rfl)))))
     (ae (bJ (jS PySem.F.plainAttrs_list PySem.F.slot_list_append PySem.F.type_list_append fA (pv 4) (ad (aE cB (pv 3) (pv 5)) ag))) <| aj (aB (i:=3) nd rfl (Or.inl rfl) (aE mG (pv 3) (pv 5))))
     (ae (bJ (jS PySem.F.plainAttrs_list PySem.F.slot_list_append PySem.F.type_list_append fA (pv 4) (ad (aE cB (pv 2) (pv 5)) ag))) <| aj (aB (i:=2) nd rfl (Or.inl rfl) (aE mG (pv 2) (pv 5)))))) <|
   aj (ay (pv 4)),?_⟩
  refine ⟨_,rfl,_,_,rfl,rfl,⟨by decide,by decide⟩,?_⟩
  refine ⟨_,rfl,c,rfl,fun m0=>⟨Nat.zero_le _,fun p H1 np s1 e1=>?_⟩⟩
  refine ⟨_,rfl,sa,rfl,⟨_,SqL.of (s1 _ _ hsa)⟩,l8 (K:=K) (xs:=zs.map V.int) (fun i σ Hx=>∃ (n m:Int) (v:Option V) (ds:List Int),σ=[some (V.int c),some (V.ref sa),some (V.int n),some (V.int m),some (V.ref p),v] /\ Hx p=some (.lst (ds.map V.int)) /\ Dig ds (zs.take i) /\ ar H Hx) ⟨_,m0,none,[],rfl,e1,.nil,s1⟩ ?_ ?_ ?_⟩
  ·rintro i σ Hx hi ⟨n,m,v,ds,rfl,h1,h2,h3⟩
   exact SqL.of (h3 _ _ hsa)
  ·rintro i x σ Hx hx ⟨n,m,v,ds,rfl,h1,h2,h3⟩
   rw [List.getElem?_map] at hx
   cases he:zs[i]? with
   | none=>rw [he] at hx; cases hx
   | some z =>
    rw [he] at hx
    cases hx
    have hzz:=hz z (List.mem_of_getElem? he)
    have hil:i < zs.length:=(List.getElem?_eq_some_iff.mp he).1
    have dl:ds.length <= 60:=by
     have:=Paired.length h2
     rw [List.length_take] at this
     lia
    have snoc:∀ d:Int,0 <= d -> d < z -> Dig (ds ++ [d]) (zs.take (i + 1)):=fun d d0 d1=>by
     rw [List.take_add_one,he]
     exact PySem.Paired.snoc h2 ⟨d0,d1⟩
    refine rJ fun A B hA hB=>?_
    have one:∀ Hy,ar Hx Hy -> A Hy:=fun Hy sy=>hA Hy (by
     refine ⟨_,rfl,.inl ⟨rfl,_,SqL.of (sy _ _ h1)⟩,_,rfl,_,rfl,_,_,rfl,rfl,hzz.1,p,_,_,rfl,rfl,sy _ _ h1,by rw [List.length_map]; lia,fun H2 k2 e2=>?_⟩
     refine ⟨_,rfl,_,rfl,_,_,rfl,rfl,hzz,?_⟩
     exact ⟨_,_,_,ds ++ [m % z],rfl,by rw [e2,List.map_append]; rfl,snoc _ (Int.emod_nonneg _ (by lia)) (Int.emod_lt_of_pos _ hzz.1),fun b u e=>k2 _ _ (ak e np) (sy _ _ (h3 _ _ e))⟩)
    refine ⟨_,rfl,_,_,rfl,rfl,(show (0:Int) < 2 by decide),rfl,_,rfl,bE (fun _=>bz (one Hx (ar.refl _))) (fun _=>?_)⟩
    refine ⟨_,rfl,_,rfl,(show 2 <= sizeLine by lia),fun t2 H2 n2 s2 e2=>⟨t2,_,rfl,.inr (SqT.of e2),rfl,rfl,_,rfl,bE (fun _=>one H2 s2) (fun _=>hB H2 ?_)⟩⟩
    refine ⟨_,rfl,.inl ⟨rfl,_,SqL.of (s2 _ _ h1)⟩,_,rfl,_,rfl,_,_,rfl,rfl,hzz.1,p,_,_,rfl,rfl,s2 _ _ h1,by rw [List.length_map]; lia,fun H3 k3 e3=>?_⟩
    refine ⟨_,rfl,_,rfl,_,_,rfl,rfl,hzz,?_⟩
    exact ⟨_,_,_,ds ++ [n % z],rfl,by rw [e3,List.map_append]; rfl,snoc _ (Int.emod_nonneg _ (by lia)) (Int.emod_lt_of_pos _ hzz.1),fun b u e=>k3 _ _ (ak e np) (s2 _ _ (h3 _ _ e))⟩
  ·rintro σ Hx ⟨n,m,v,ds,rfl,h1,h2,h3⟩
   rw [List.length_map,List.take_of_length_le (Nat.le_refl _)] at h2
   exact ⟨_,rfl,q p ds Hx h3 np h1 h2⟩
end
open K41T (Kvs Las Wk aU ci cu cm dv aO bp)
abbrev uR:Stmt:=top 114
abbrev uS:Stmt:=top 115
theorem qc:bootBuiltins "int"=some (.type "int"):=by decide +kernel
abbrev zsD:List Int:=[3,5,3,6,2 * 10 ^ 57]
def GoodW:Wk -> Prop
 | .put k z=>Nm k /\ -(10 ^ 60) < z /\ z < 10 ^ 60
 | .add k z=>Nm k /\ -(10 ^ 60) < z /\ z < 10 ^ 60
 | .drop k=>Nm k
def eT:Dd -> Prop
 | none=>True
 | some (x,n,wk)=>Nm x /\ 1 <= n /\ GoodW wk
def jn:Sp:=fun us H Q _=>∃ (d:Addr) (ds:List Int),us=[.ref d] /\ H d=some (.lst (ds.map V.int)) /\ Dig ds zsD /\ ∀ (p:Addr) (x:Str) (n:Int) (wk:Wk) (H':Hp),ar H H' -> DdO H' p (some (x,n,wk)) -> eT (some (x,n,wk)) -> Q (.ref p) H'
theorem nm_a:Nm "a":=⟨by decide +kernel,by decide +kernel,by decide +kernel⟩
theorem dig5 {ds:List Int} (h:Dig ds zsD):∃ a b c d e:Int,ds=[a,b,c,d,e] /\ (0 <= a /\ a < 3) /\ (0 <= b /\ b < 5) /\ (0 <= c /\ c < 3) /\ (0 <= d /\ d < 6) /\ (0 <= e /\ e < 2 * 10 ^ 57):=by
 cases h with
 | cons h1 t=>cases t with
  | cons h2 t=>cases t with
   | cons h3 t=>cases t with
    | cons h4 t=>cases t with
     | cons h5 t=>cases t with
      | nil=>exact (ex5 _ _ _ _ _ ⟨rfl,h1,h2,h3,h4,h5⟩)
theorem pick3 {x y z:Str} {i:Int} (h0:0 <= i) (h1:i < 3) (n1:Nm x) (n2:Nm y) (n3:Nm z):∃ u,atI [V.str x,V.str y,V.str z] i=some (.str u) /\ Nm u:=by
 obtain ⟨v,hv,hm⟩:=oB (xs:=[V.str x,V.str y,V.str z]) h0 (by show i < 3; exact h1)
 simp only [List.mem_cons,List.not_mem_nil,or_false] at hm
 rcases hm with rfl | rfl | rfl
 ·exact ⟨_,hv,n1⟩
 ·exact ⟨_,hv,n2⟩
 ·exact ⟨_,hv,n3⟩
theorem nm_bS:Nm "b":=⟨by decide +kernel,by decide +kernel,by decide +kernel⟩
theorem uT:Nm "zed":=⟨by decide +kernel,by decide +kernel,by decide +kernel⟩
theorem nm_kS:Nm "k":=⟨by decide +kernel,by decide +kernel,by decide +kernel⟩
theorem nm_kk:Nm "kk":=⟨by decide +kernel,by decide +kernel,by decide +kernel⟩
theorem nm_zz:Nm "zz":=⟨by decide +kernel,by decide +kernel,by decide +kernel⟩
theorem at2J (x y:Int) (b:Bool):∃ z,atI [V.int x,.int y] (if b=true then (1:Int) else 0)=some (.int z) /\ (z=x \/ z=y):=by
 cases b
 ·exact ⟨x,at0,.inl rfl⟩
 ·exact ⟨y,at1,.inr rfl⟩
section
variable {P:Program} {w:World} {K:PySem.W.Frag} {mg:Str -> Option Value} {base:Heap}
abbrev nDeed:List Str:=["_law_d","_law_who","_law_turn","_law_key","_law_way","_law_much","_law_work","_law_number"]
theorem uU:ax nDeed ["_law_d"] (am uR):=fsc (by decide +kernel)
theorem ok_deed {f:Addr} {fd:FuncData} (F:Fun K "_law_deed" "_law_deed" uR f fd) (hint:mg "int"=none):aP P w K mg base CX0 1 f fd ["_law_d"] jn:=by
 refine F.ok uU (fun vs H Q E h=>?_) (fun cdv A outer s H vs Q E hr h=>?_)
 ·obtain ⟨d,ds,rfl,_⟩:=h
  rfl
 ·obtain ⟨d,ds,rfl,hd,hD,q⟩:=h
  have nd:=uU.nd
  have hs16:sizeLine=16777216:=sizeLine_eq
  obtain ⟨a,b,c,e,g,rfl,⟨a0,a1⟩,⟨b0,b1⟩,⟨c0,c1⟩,⟨e0,e1⟩,g0,g1⟩:=dig5 hD
  refine ⟨_,ae (dW (pv 0) (pg_lst (n:=5) rfl (az (au (i:=1) nd rfl (Or.inl rfl)) (az (au (i:=2) nd rfl (Or.inl rfl)) (az (au (i:=3) nd rfl (Or.inl rfl)) (az (au (i:=4) nd rfl (Or.inl rfl)) (az (au (i:=5) nd rfl (Or.inl rfl)) bV))))))) <|
   ae (aB (i:=6) nd rfl (Or.inl rfl) (cH (dG (oA (aq aW (dQ (dG (dG (dG bI)))) (pv 3) (fun _ _=>rfl)) bI)))) <|
   ae (aS (aD dL (pv 4) af (aF _))
    (ae (aB (i:=7) nd rfl (Or.inl rfl) (aq aW (dQ (gq (aE bR (aE cB (pv 5) af) af) (gq (aE bR (pv 5) (aE iL af af)) bI))) (bc fu (by rfl) hint qc (ad (bC dL (pv 4) af (aF _)) ag)) (fun _ _=>rfl))) <|
     aj (aB (i:=6) nd rfl (Or.inl rfl) (cH (oA (aq aW (dQ (dG (dG bI))) (aE cB (pv 4) af) (fun _ _=>rfl)) (oA (aq aW (dQ (dG (dG (dG bI)))) (pv 3) (fun _ _=>rfl)) (eE (pv 7) bI)))))) aH) <|
   aj (ay (cH (dG (oA (aq aW (dQ (dG (dG (dG bI)))) (pv 1) (fun _ _=>rfl)) (gq (aE aX af (pv 2)) (eE (pv 6) bI)))))),?_⟩
  dsimp only [bj,Cx.nox]
  refine ⟨_,rfl,d,_,rfl,SqL.of hd,rfl,_,_,rfl,_,_,rfl,_,_,rfl,_,_,rfl,_,_,rfl,rfl,?_⟩
  obtain ⟨k,hk,hkn⟩:=pick3 (x:="k") (y:="kk") (z:="zz") c0 c1 nm_kS nm_kk nm_zz
  obtain ⟨x,hx,hxn⟩:=pick3 (x:="a") (y:="b") (z:="zed") a0 a1 nm_a nm_bS uT
  refine ⟨(show 3 <= sizeLine by lia),fun l1 H1 n1 s1 e1'=>⟨_,rfl,ex4 l1 _ _ _ ⟨rfl,rfl,SqL.of e1',hk,(show 2 <= sizeLine by lia),fun t1 H2 n2 s2 e2=>?_⟩⟩⟩
  refine ⟨_,rfl,_,_,rfl,rfl,_,rfl,bE (fun _=>?_) (fun _=>?_)⟩
  ·refine ⟨_,rfl,_,_,rfl,rfl,(show (0:Int) < 7 by decide),_,_,rfl,rfl,_,rfl,_,_,rfl,rfl,⟨by decide,by decide,by decide⟩,_,_,rfl,rfl,(show 2 <= sizeLine by lia),fun l2 H3 n3 s3 e3=>?_⟩
   refine ⟨_,rfl,_,_,rfl,rfl,.inr ⟨_,rfl,?_⟩⟩
   obtain ⟨z,hz,hzc⟩:=at2J (g % 7 - 3) (g - 10 ^ 57) (decide ((3:Int) < e))
   have hzb:-(10 ^ 60) < z /\ z < 10 ^ 60:=by
    have y0:=Int.emod_nonneg g (show (7:Int) ≠ 0 by decide)
    have y1:=Int.emod_lt_of_pos g (show (0:Int) < 7 by decide)
    rcases hzc with rfl | rfl <;> lia
   refine (ex4 l2 _ _ _ ⟨rfl,rfl,SqL.of e3,hz,?_⟩)
   refine ⟨(show 2 <= sizeLine by lia),fun l3 H4 n4 s4 e4=>⟨_,rfl,_,_,rfl,rfl,(show (0:Int) < 2 by decide),?_⟩⟩
   have m0:=Int.emod_nonneg e (show (2:Int) ≠ 0 by decide)
   have m1:=Int.emod_lt_of_pos e (show (0:Int) < 2 by decide)
   have hw:∃ wd:Str,atI [V.str (Str.ofString "put"),V.str (Str.ofString "add")] (e % 2)=some (.str wd) /\ (wd="put" \/ wd="add"):=by
    obtain ⟨v,hv,hm⟩:=oB (xs:=[V.str (Str.ofString "put"),V.str (Str.ofString "add")]) m0 (by show e % 2 < 2; exact m1)
    simp only [List.mem_cons,List.not_mem_nil,or_false] at hm
    rcases hm with rfl | rfl
    ·exact ⟨_,hv,.inl rfl⟩
    ·exact ⟨_,hv,.inr rfl⟩
   obtain ⟨wd,hwd,hor⟩:=hw
   refine (ex4 l3 _ _ _ ⟨rfl,rfl,SqL.of e4,hwd,(show 3 <= sizeLine by lia),fun l4 H5 n5 s5 e5=>⟨_,rfl,ex4 l4 _ _ _ ⟨rfl,rfl,SqL.of e5,hk,_,rfl,(show 3 <= sizeLine by lia),fun t2 H6 n6 s6 e6=>?_⟩⟩⟩)
   refine ⟨(show 3 <= sizeLine by lia),fun l5 H7 n7 s7 e7=>⟨_,rfl,ex4 l5 _ _ _ ⟨rfl,rfl,SqL.of e7,hx,_,rfl,_,_,rfl,rfl,_,rfl,(show 4 <= sizeLine by lia),fun p H8 n8 s8 e8=>?_⟩⟩⟩
   have sA:=s1.trans (s2.trans (s3.trans (s4.trans (s5.trans (s6.trans (s7.trans s8))))))
   rcases hor with rfl | rfl
   ·exact q p x (1 + b) (.put k z) H8 sA ⟨by lia,t2,e8,s8 _ _ (s7 _ _ e6)⟩ ⟨hxn,by lia,hkn,hzb⟩
   ·exact q p x (1 + b) (.add k z) H8 sA ⟨by lia,t2,e8,s8 _ _ (s7 _ _ e6)⟩ ⟨hxn,by lia,hkn,hzb⟩
  ·refine ⟨(show 3 <= sizeLine by lia),fun l5 H7 n7 s7 e7=>⟨_,rfl,ex4 l5 _ _ _ ⟨rfl,rfl,SqL.of e7,hx,_,rfl,_,_,rfl,rfl,_,rfl,(show 4 <= sizeLine by lia),fun p H8 n8 s8 e8=>?_⟩⟩⟩
   exact q p x (1 + b) (.drop k) H8 (s1.trans (s2.trans (s7.trans s8))) ⟨by lia,t1,e8,s8 _ _ (s7 _ _ e2)⟩ ⟨hxn,by lia,hkn⟩
end
def uV (t:Int) (xs:List En):Prop:=(∀ e ∈ xs,t <= e.1 /\ eT e.2) /\ ∃ hi,(∀ e ∈ xs,e.1 <= hi) /\ (xs ≠ [] -> xs.getLast?.map (·.1)=some hi)
def lx (K:PySem.W.Frag):Sp:=fun us H Q _=>∃ (a:Addr) (ns:List Int) (st many last term:Int),us=[.ref a,.int st,.int many,.int last,.int term] /\ SqL K H a (ns.map V.int) /\ 0 <= st /\ 0 <= many /\ many <= 30 /\ 1 <= term /\
 ∀ (p:Addr) (es:List Addr) (xs:List En) (H':Hp),ar H H' -> H p=none -> H' p=some (.lst (es.map V.ref)) -> Paired (EnO H') es xs -> (es.length:Int)=many -> (∀ e ∈ xs,1 <= e.1) -> uV term xs -> Q (.ref p) H'
section
variable {P:Program} {w:World} {K:PySem.W.Frag} {mg:Str -> Option Value} {base:Heap}
abbrev qd:List Str:=["_law_script","_law_start","_law_many","_law_last","_law_term"]
abbrev nEnts:List Str:=["_law_script","_law_start","_law_many","_law_last","_law_term","_law_found","_law_k","_law_d","_law_deed_here"]
theorem uW:ax nEnts qd (am uS):=fsc (by decide +kernel)
theorem cutL2 (x y:V) (ys:List V):cj (x :: y :: ys) (some 2) none=ys:=by
 unfold cj
 rw [HT.eB,show HT.sIx (x :: y :: ys).length 0 (some 2)=min 2 (x :: y :: ys).length from HT.df _ _ 2,List.length_cons,List.length_cons,Nat.min_eq_left (by lia)]
 show List.take _ ys=ys
 exact List.take_of_length_le (by lia)
theorem dig2 {ds:List Int} {a b:Int} {zs:List Int} (h:Dig ds (a :: b :: zs)):∃ d0 d1 rest,ds=d0 :: d1 :: rest /\ (0 <= d0 /\ d0 < a) /\ (0 <= d1 /\ d1 < b) /\ Dig rest zs:=by
 cases h with
 | cons h1 t=>cases t with
  | cons h2 t=>exact (ex3 _ _ _ ⟨rfl,h1,h2,t⟩)
theorem zs7_ok:∀ z ∈ (4 :: 3 :: zsD:List Int),0 < z /\ z < 2 ^ 250:=by decide +kernel
theorem b01 (b:Bool):-(2 ^ 64) < (if b=true then (1:Int) else 0) /\ (if b=true then (1:Int) else 0) < 2 ^ 64:=by cases b <;> decide
theorem ok_ents {f:Addr} {fd:FuncData} (F:Fun K "_law_entries" "_law_entries" uS f fd) (hint:mg "int"=none) (hrange:mg "range"=none) (Fc:aR P w K mg base 1 "_law_cell_at" ["_law_script","_law_k"] (gH K)) (Fd:aR P w K mg base 2 "_law_digits" ["_law_cell","_law_sizes"] jm) (Fe:aR P w K mg base 1 "_law_deed" ["_law_d"] jn):aP P w K mg base CX0 3 f fd qd (lx K):=by
 refine F.ok uW (fun vs H Q E h=>?_) (fun cdv A outer s H vs Q E hr h=>?_)
 ·obtain ⟨a,ns,st,many,last,term,rfl,_⟩:=h
  rfl
 ·obtain ⟨a,ns,st,many,last,term,rfl,hS,st0,m0,m30,t1,q⟩:=h
  have nd:=uW.nd
  obtain ⟨t0,ht0⟩:∃ t0:Int,t0=term:=⟨_,rfl⟩
  have r1:bi 1 _:=hr.mono (by decide)
  have hs16:sizeLine=16777216:=sizeLine_eq
  refine ⟨_,ae (aB (i:=5) nd rfl (Or.inl rfl) (cy ag)) <|
   ae (dX PassesOwn.never rfl (db (by rfl) hrange (ad (pv 2) ag)) (au (i:=6) nd rfl (Or.inl rfl)) <|
    ae (aB (i:=7) nd rfl (Or.inl rfl) (fC Fd hr (aC Fc r1 (ad (pv 0) (ad (aE aX (pv 1) (pv 6)) ag))) (cA (cA (cA (cA (cA (cA (gq (aE dc af (aE iL af af)) bI))))))))) <|
    ae (aB (i:=4) nd rfl (Or.inl rfl) (aE aX (pv 4) (aE dc (bc fu (by rfl) hint qc (ad (bC bW (aq aW (pv 7) af (fun _ _=>rfl)) af (aF _)) ag)) (aE aX af (aq aW (pv 7) af (fun _ _=>rfl)))))) <|
    ae (aB (i:=8) nd rfl (Or.inl rfl) (aQ (ad aN ag))) <|
    ae (aS (aD bW (pv 4) (pv 3) (aF _)) (aj (aB (i:=8) nd rfl (Or.inl rfl) (aC Fe r1 (ad (bO gf (pv 7) (bP af) cx) ag)))) aH) <|
    ae (bJ (jS PySem.F.plainAttrs_list PySem.F.slot_list_append PySem.F.type_list_append fA (pv 5) (ad (aQ (ad (pv 4) (ad (pv 8) ag))) ag))) <|
    aj (aB (i:=3) nd rfl (Or.inl rfl) (pv 4))) <|
   aj (ay (pv 5)),?_⟩
  dsimp only [bj,Cx.nox]
  refine ⟨Nat.zero_le _,fun p H1 np s1 e1=>?_⟩
  refine ⟨_,rfl,many,rfl,by lia,by lia,ft (lo:=0) (n:=many.toNat) (fun i σ Hx=>∃ (last term:Int) (v6 v7 v8:Option V) (es:List Addr) (xs:List En),σ=[some (V.ref a),some (V.int st),some (V.int many),some (V.int last),some (V.int term),some (V.ref p),v6,v7,v8] /\ 1 <= term /\ Hx p=some (.lst (es.map V.ref)) /\ Paired (EnO Hx) es xs /\ es.length=i /\ (∀ e ∈ xs,1 <= e.1) /\ ar H Hx /\ t0 <= term /\ (∀ e ∈ xs,(t0 <= e.1 /\ eT e.2) /\ e.1 <= term) /\ (xs ≠ [] -> xs.getLast?.map (·.1)=some term))
   ⟨last,term,none,none,none,[],[],rfl,t1,e1,.nil,rfl,fun e h=>(nomatch h),s1,Int.le_of_eq ht0,fun e h=>(nomatch h),fun z=>absurd rfl z⟩ ?_ ?_⟩
  ·rintro i σ Hx hi ⟨last,term,v6,v7,v8,es,xs,rfl,t1,h1,h2,h3,h4,h5,u1,u2,u3⟩
   refine ⟨_,rfl,_,rfl,_,rfl,_,_,rfl,rfl,ex3 a ns _ ⟨rfl,h5.seq hS,by lia,fun z=>?_⟩⟩
   refine ⟨_,_,rfl,rfl,⟨by decide,by decide,by decide⟩,_,_,rfl,rfl,.inl ⟨by decide,by decide⟩,(show 7 <= sizeLine by lia),fun la H2 n2 s2 e2=>?_⟩
   refine ⟨z,la,4 :: 3 :: zsD,rfl,e2,zs7_ok,(by decide),fun pd ds H3 s3 n3 e3 hD=>?_⟩
   obtain ⟨d0,d1,rest,rfl,q0,q1,hD⟩:=dig2 hD
   focus
     have s23:=s2.trans s3
     have hp3:H3 p=some (.lst (es.map V.ref)):=s23 _ _ h1
     refine ⟨_,rfl,_,rfl,ex4 pd _ _ _ ⟨rfl,rfl,SqL.of e3,at0,rfl,.inr ⟨_,rfl,?_⟩⟩⟩
     refine ⟨_,rfl,ex4 pd _ _ _ ⟨rfl,rfl,SqL.of e3,at1,_,_,rfl,rfl,_,_,rfl,rfl,.inl (b01 _),_,_,rfl,rfl,?_⟩⟩
     have tt:1 <= term + (if decide (V.int d0=V.int 3)=true then (1:Int) else 0) * (1 + d1):=by
      by_cases hh:decide (V.int d0=V.int 3)=true
      ·rw [if_pos hh]; lia
      ·rw [if_neg hh]; lia
     obtain ⟨term2,hT2⟩:∃ T2:Int,T2=term + (if decide (V.int d0=V.int 3)=true then (1:Int) else 0) * (1 + d1):=⟨_,rfl⟩
     have tu:term <= term2:=by
      rw [hT2]
      by_cases hh:decide (V.int d0=V.int 3)=true
      ·rw [if_pos hh]; lia
      ·rw [if_neg hh]; lia
     rw [<- hT2] at tt
     have fin:∀ dd:Dd,eT dd -> t0 <= term2 /\ (∀ e ∈ xs ++ [(term2,dd)],(t0 <= e.1 /\ eT e.2) /\ e.1 <= term2) /\ (xs ++ [(term2,dd)] ≠ [] -> (xs ++ [(term2,dd)]).getLast?.map (·.1)=some term2):=fun dd hd=>by
      refine ⟨by lia,fun e he=>?_,fun _=>by simp⟩
      rcases List.mem_append.mp he with h | h
      ·have:=u2 e h
       exact ⟨this.1,by lia⟩
      ·rw [List.mem_singleton.mp h]
       exact ⟨⟨by show t0 <= term2; lia,hd⟩,Int.le_refl _⟩
     refine ⟨(show 1 <= sizeLine by lia),fun t4 H4 n4 s4 e4=>?_⟩
     have hpx:∀ (dA:Addr) (dd:Dd) (Hy:Hp),ar H3 Hy -> DdO Hy dA dd -> ∀ (c:Addr) (Hz Hw:Hp),ar Hy Hz -> Hz c=some (.tup [.int term2,.ref dA]) -> (∀ b o,b ≠ p -> Hz b=some o -> Hw b=some o) -> Hw p=some (.lst (es.map V.ref ++ [.ref c])) -> Hw p=some (.lst ((es ++ [c]).map V.ref)) /\ Paired (EnO Hw) (es ++ [c]) (xs ++ [(term2,dd)]) /\ (es ++ [c]).length=i + 1 /\ (∀ e ∈ xs ++ [(term2,dd)],1 <= e.1) /\ ar H Hw:=by
      intro dA dd Hy sy hd c Hz Hw sz hc kw ew
      have hpz:Hz p=some (.lst (es.map V.ref)):=sz _ _ (sy _ _ hp3)
      have tkw:Tk Hz Hw:=fun b ys e=>kw _ _ (aM e hpz (by intro z; cases z)) e
      have tk:Tk Hx Hw:=(Tk.of (s23.trans (sy.trans sz))).trans tkw
      refine ⟨by rw [ew,List.map_append]; rfl,PySem.Paired.snoc (bq tk h2) ⟨dA,tkw _ _ hc,(hd.tk (Tk.of sz)).tk tkw⟩,by rw [List.length_append,h3]; rfl,fun e he=>?_,fun b o e=>?_⟩
      ·rcases List.mem_append.mp he with h | h
       ·exact h4 e h
       ·rw [List.mem_singleton.mp h]; exact tt
      ·exact kw _ _ (ak e np) (sz _ _ (sy _ _ (s23 _ _ (h5 _ _ e))))
     refine ⟨_,rfl,_,rfl,rfl,_,rfl,bE (fun _=>?_) (fun _=>?_)⟩
     ·refine ⟨_,rfl,_,rfl,pd,_,rfl,SqL.of (s4 _ _ e3),?_⟩
      intro ps nps
      have s5:=ar.new (o:=.lst (cj (((d0 :: d1 :: rest):List Int).map V.int) (some 2) none)) nps
      have e5:upd H4 ps (.lst (cj (((d0 :: d1 :: rest):List Int).map V.int) (some 2) none)) ps=some (.lst (rest.map V.int)):=by
       rw [ai]
       congr 2
       exact cutL2 _ _ _
      refine ⟨ps,rest,rfl,e5,hD,fun pq x n wk H6 s6 hdd hgd=>?_⟩
      have s46:ar H3 H6:=s4.trans (s5.trans s6)
      refine ⟨_,rfl,.inl ⟨rfl,_,SqL.of (s46 _ _ hp3)⟩,_,rfl,_,rfl,(show 2 <= sizeLine by lia),fun c H7 n7 s7 e7=>(ex3 p _ _ ⟨rfl,rfl,s7 _ _ (s46 _ _ hp3),by rw [List.length_map]; lia,fun H8 k8 e8=>?_⟩)⟩
      obtain ⟨g1,g2,g3,g4,g5⟩:=hpx pq (some (x,n,wk)) H6 s46 hdd c H7 H8 s7 (by rw [hT2]; exact e7) k8 e8
      exact ⟨_,rfl,_,_,_,_,_,es ++ [c],xs ++ [(term2,some (x,n,wk))],rfl,(by rw [hT2] at tt; exact tt),g1,g2,g3,g4,g5,(by have:=fin _ hgd; rw [hT2] at this ⊢; exact this)⟩
     ·refine ⟨_,rfl,.inl ⟨rfl,_,SqL.of (s4 _ _ hp3)⟩,_,rfl,_,rfl,(show 2 <= sizeLine by lia),fun c H6 n6 s6 e6=>(ex3 p _ _ ⟨rfl,rfl,s6 _ _ (s4 _ _ hp3),by rw [List.length_map]; lia,fun H7 k7 e7=>?_⟩)⟩
      obtain ⟨g1,g2,g3,g4,g5⟩:=hpx t4 none H4 s4 e4 c H6 H7 s6 (by rw [hT2]; exact e6) k7 e7
      exact ⟨_,rfl,_,_,_,_,_,es ++ [c],xs ++ [(term2,none)],rfl,(by rw [hT2] at tt; exact tt),g1,g2,g3,g4,g5,(by have:=fin none trivial; rw [hT2] at this ⊢; exact this)⟩
  ·rintro σ Hx ⟨last,term',v6,v7,v8,es,xs,rfl,t1,h1,h2,h3,h4,h5,u1,u2,u3⟩
   subst ht0
   exact ⟨_,rfl,q p es xs Hx h5 np h1 h2 (by lia) h4 ⟨fun e he=>(u2 e he).1,term',fun e he=>(u2 e he).2,u3⟩⟩
end
end K41
namespace K41
open PySem L2
open K41T (Kvs Las Wk aU ci cu cm dv aO bp LR lastN lastA num)
abbrev oY:Stmt:=top 116
structure ly (K:PySem.W.Frag) (H:Hp) (d l:Addr) (s:Kvs × Las):Prop where
 hd:H d=some (.dK s.1)
 hl:∃ lk,H l=some (.dK lk) /\ LR K H lk s.2
 ne:d ≠ l
theorem ly.same {K:PySem.W.Frag} {H H':Hp} {d l:Addr} {s:Kvs × Las} (e:ar H H') (h:ly K H d l s):ly K H' d l s:=by
 obtain ⟨h2,⟨lk,h3,h4⟩,h5⟩:=h
 exact ⟨e _ _ h2,⟨lk,e _ _ h3,K41T.LR.mono h4 fun t xs q=>cJ e q⟩,h5⟩
def lz (K:PySem.W.Frag):Sp:=fun us H Q _=>∃ (d l dd:Addr) (s:Kvs × Las) (x:Dd),us=[.ref d,.ref l,.ref dd] /\ ly K H d l s /\ ci s.1 s.2 /\ s.1.length <= 400 /\ s.2.length <= 400 /\ DdO H dd x /\ ∀ H',cu d l H H' -> ly K H' d l (dB s (0,x)) -> Q .non H'
theorem ndd1:(!decide (V.str (Str.ofString "first")=V.str (Str.ofString "ask")))=true:=by decide +kernel
theorem dDP:decide (V.str (Str.ofString "drop")=V.str (Str.ofString "put"))=false:=by decide +kernel
theorem dAP:decide (V.str (Str.ofString "add")=V.str (Str.ofString "put"))=false:=by decide +kernel
theorem dAD:decide (V.str (Str.ofString "add")=V.str (Str.ofString "drop"))=false:=by decide +kernel
section
variable {P:Program} {w:World} {K:PySem.W.Frag} {mg:Str -> Option Value} {base:Heap}
abbrev nDoesL:List Str:=["_law_held","_law_asked","_law_deed_here","_law_word","_law_key","_law_old","_law_answer"]
theorem qe:ax nDoesL ["_law_held","_law_asked","_law_deed_here"] (am oY):=fsc (by decide +kernel)
theorem uX {f:Addr} {fd:FuncData} (F:Fun K "_law_does" "_law_does" oY f fd):aP P w K mg base CX0 1 f fd ["_law_held","_law_asked","_law_deed_here"] (lz K):=by
 refine F.ok qe (fun vs H Q E h=>?_) (fun cdv A outer s H vs Q E hr h=>?_)
 ·obtain ⟨d,l,dd,s,x,rfl,_⟩:=h
  rfl
 ·obtain ⟨d,l,dd,s,x,rfl,hT,hok,k4,l4,hdd,q⟩:=h
  have nd:=qe.nd
  have hu:_ + 1 < cLine:=Nat.lt_of_le_of_lt (Nat.add_le_add_left (show 1 <= 64 by decide) _) hr.units
  have hs16:sizeLine=16777216:=sizeLine_eq
  refine ⟨_,ae (aS (PW.pt (cN (aD gb (aq ao (pv 2) af (fun _ _=>rfl)) aN (aF _)) (cZ (aD pE (aq ao (pv 2) af (fun _ _=>rfl)) (aq ao (mx hu (pv 1) (aq ao (pv 2) af (fun _ _=>rfl)) (aQ (ad af (ad cn ag))) ⟨rfl,rfl,rfl,rfl⟩) af (fun _ _=>rfl)) (aF _))))) (aj ps_retN) aH) <|
   ae (dW (bO cT (aq ao (pv 2) af (fun _ _=>rfl)) cx (bP af)) (cL (n:=2) rfl (az (au (i:=3) nd rfl (Or.inl rfl)) (az (au (i:=4) nd rfl (Or.inl rfl)) bV)))) <|
   ae (aB (i:=5) nd rfl (Or.inl rfl) (mw hu (pv 0) (pv 4) ⟨rfl,rfl,rfl,rfl⟩)) <|
   ae (aB (i:=6) nd rfl (Or.inl rfl) (pv 5)) <|
   ae (aS (aD bW (pv 3) aN (aF _)) (aj (d9 hu (pv 0) (pv 4) (aq ao (aq ao (pv 2) af (fun _ _=>rfl)) af (fun _ _=>rfl)) rfl))
    (aj (aS (aD bW (pv 3) aN (aF _)) (aj (bJ (my (pv 0) (pv 4) cn ⟨rfl,rfl,rfl,rfl⟩)))
     (ae (d9 hu (pv 0) (pv 4) (aE aX (aq ao (aq ao (pv 2) af (fun _ _=>rfl)) af (fun _ _=>rfl)) (l7 (iI (kq (pv 5))) af (pv 5))) rfl) <|
      aj (aB (i:=6) nd rfl (Or.inl rfl) (de hu (pv 0) (pv 4) (fun _ _=>rfl))))))) <|
   aj (d9 hu (pv 1) (aq ao (pv 2) af (fun _ _=>rfl)) (aQ (ad (aq ao (pv 2) af (fun _ _=>rfl)) (ad (pv 6) ag))) rfl),?_⟩
  dsimp only [bj,Cx.nox]
  cases x with
  | none =>
   have hdd:H dd=some (.tup [.str "first"]):=hdd
   refine ⟨_,rfl,ex4 dd _ _ _ ⟨rfl,rfl,SqT.of hdd,at0,rfl,_,rfl,?_⟩⟩
   rw [ndd1]
   exact bz (bz (q H (cu.of (ar.refl _)) hT))
  | some qq =>
   obtain ⟨x,n,wk⟩:=qq
   obtain ⟨n1,t,h1,h2⟩:=hdd
   obtain ⟨lk,hl,lr⟩:=hT.hl
   refine ⟨_,rfl,ex4 dd _ _ _ ⟨rfl,rfl,SqT.of h1,at0,rfl,_,rfl,?_⟩⟩
   rw [decide_eq_true rfl]
   refine aV ⟨_,rfl,ex4 dd _ _ _ ⟨rfl,rfl,SqT.of h1,d8,_,rfl,l,rfl,.inl ⟨lk,.inl hl⟩,_,rfl,ex4 dd _ _ _ ⟨rfl,rfl,SqT.of h1,at1,(show 2 <= sizeLine by lia),fun tp H1 np s1 e1=>?_⟩⟩⟩
   have hlast:∃ t0 ys,((bG lk (Sum.inr x:Key)).getD (.ref tp))=.ref t0 /\ SqT K H1 t0 (.int (lastN s.2 x) :: ys):=by
    unfold K41T.lastN
    rcases K41T.LR.val lr (Sum.inr x) with ⟨a1,a2⟩ | ⟨t0,q0,a1,a2,a3⟩
    ·rw [a1,a2]
     exact ⟨tp,[.non],rfl,SqT.of e1⟩
    ·rw [a1,a2]
     exact ⟨t0,[q0.2],rfl,cJ s1 a3⟩
   obtain ⟨t0,ys,ht0,hq0⟩:=hlast
   refine ⟨_,(show cM H1 l (kV (Sum.inr x:Key)) _ from cM.k (s1 _ _ hl)),?_⟩
   rw [ht0]
   refine ⟨t0,_,_,_,rfl,rfl,hq0,at0,_,_,rfl,rfl,_,rfl,bE (fun z=>?_) (fun z=>?_)⟩
   ·have z:=of_decide_eq_true z
    refine q H1 (cu.of s1) ?_
    have:dB s (0,some (x,n,wk))=s:=by
     unfold dB
     show (cm s.1 s.2 x n wk,dv s.1 s.2 x n wk)=s
     unfold cm dv
     by_cases hh:n < lastN s.2 x
     ·rw [if_pos hh,if_pos hh]
     ·rw [if_neg hh,if_neg hh,if_pos (by lia),if_pos (by lia)]
    rw [this]
    exact hT.same s1
   ·have z:¬ n <= lastN s.2 x:=fun h=>z (decide_eq_true h)
    have hst:dB s (0,some (x,n,wk))=(wk.to s.1,K41T.fU s.2 (Sum.inr x) (n,wk.ans s.1)):=by
     unfold dB
     show (cm s.1 s.2 x n wk,dv s.1 s.2 x n wk)=_
     unfold cm dv
     rw [if_neg (by lia),if_neg (by lia),if_neg (by lia),if_neg (by lia)]
    rw [hst] at q
    have hd2':H1 d=some (.dK s.1):=s1 _ _ hT.hd
    refine ⟨_,rfl,ex4 dd _ _ _ ⟨rfl,rfl,SqT.of (s1 _ _ h1),ei,_,rfl,t,_,rfl,s1 _ _ h2,fun ps H2 s2 e2=>?_⟩⟩
    have s02:=s1.trans s2
    have hd2:H2 d=some (.dK s.1):=s02 _ _ hT.hd
    have hl2:H2 l=some (.dK lk):=s02 _ _ hl
    have fin:∀ (Hb:Hp),(∀ c u,c ≠ d -> H2 c=some u -> Hb c=some u) -> Hb d=some (.dK (wk.to s.1)) -> ∀ (tq:Addr) (H3:Hp),ar Hb H3 -> H3 tq=some (.tup [.int n,wk.ans s.1]) -> fI H3 l (kV (Sum.inr x:Key)) (.ref tq) (upd H3 l (.dK (bX lk (Sum.inr x) (.ref tq)))) /\ Q .non (upd H3 l (.dK (bX lk (Sum.inr x) (.ref tq)))):=by
     intro Hb kb eb tq H3 s3 e3
     have hl3:H3 l=some (.dK lk):=s3 _ _ (kb _ _ hT.ne.symm hl2)
     have ll:lk.length=s.2.length:=K41T.LR.len lr
     refine ⟨fI.k (k:=Sum.inr x) hl3 (bA (by lia)),q _ (fun c u e n1' n2'=>?_) ⟨?_,⟨_,ai,?_⟩,hT.ne⟩⟩
     ·rw [aw n2']
      exact s3 _ _ (kb _ _ n1' (s02 _ _ e))
     ·rw [aw hT.ne]
      exact s3 _ _ eb
     ·have hsq:∀ t' xs,SqT K H t' xs -> SqT K (upd H3 l (.dK (bX lk (Sum.inr x) (.ref tq)))) t' xs:=fun t' xs hh=>by
       rcases hh with (hh | ⟨o',hh⟩) | hh
       ·refine .inl (.inl ?_)
        rw [aw (aM hh hl (by intro z; cases z))]
        exact s3 _ _ (kb _ _ (aM hh hT.hd (by intro z; cases z)) (s02 _ _ hh))
       ·refine .inl (.inr ⟨o',?_⟩)
        rw [aw (aM hh hl (by intro z; cases z))]
        exact s3 _ _ (kb _ _ (aM hh hT.hd (by intro z; cases z)) (s02 _ _ hh))
       ·exact .inr hh
      refine K41T.LR.put (K41T.LR.mono lr hsq) _ (SqT.of ?_)
      rw [aw (aM e3 hl3 (by intro z; cases z))]
      exact e3
    have hdd2:=s02 _ _ h1
    have ht2:=s02 _ _ h2
    have up:∀ m:Kvs,∀ c u,c ≠ d -> H2 c=some u -> upd H2 d (.dK m) c=some u:=fun m c u n e=>by rw [aw n]; exact e
    have isd:IsD H2 d:=.inl ⟨s.1,.inl hd2⟩
    cases wk with
    | put k v =>
     have e2:H2 ps=some (.tup [.str "put",.str k]):=e2
     refine ⟨ps,_,rfl,SqT.of e2,rfl,_,_,rfl,_,_,rfl,rfl,?_⟩
     refine ⟨_,rfl,d,rfl,isd,_,rfl,_,(show cM H2 d (kV (Sum.inr k:Key)) _ from cM.k hd2),?_⟩
     refine ⟨_,rfl,?_⟩
     refine ⟨_,rfl,rfl,_,rfl,?_⟩
     rw [decide_eq_true rfl]
     refine bz ⟨_,rfl,ex4 dd _ _ _ ⟨rfl,rfl,SqT.of hdd2,ei,t,_,_,_,rfl,rfl,SqT.of ht2,d8,_,rfl,_,rfl,d,_,rfl,(show fI H2 d (kV (Sum.inr k:Key)) _ _ from fI.k hd2 (bA (by lia))),?_⟩⟩
     have hdd3:=up (bX s.1 (Sum.inr k) (.int v)) _ _ (aM hdd2 hd2 (by intro z; cases z)) hdd2
     refine ⟨_,rfl,ex4 dd _ _ _ ⟨rfl,rfl,SqT.of hdd3,d8,_,rfl,(show 2 <= sizeLine by lia),fun tq H3 nq s3 e3=>?_⟩⟩
     obtain ⟨f1,f2⟩:=fin _ (up (bX s.1 (Sum.inr k) (.int v))) ai tq H3 s3 e3
     exact ⟨_,rfl,_,rfl,ex4 dd _ _ _ ⟨rfl,rfl,SqT.of (s3 _ _ hdd3),at1,l,_,rfl,f1,f2⟩⟩
    | drop k =>
     have e2:H2 ps=some (.tup [.str "drop",.str k]):=e2
     refine ⟨ps,_,rfl,SqT.of e2,rfl,_,_,rfl,_,_,rfl,rfl,?_⟩
     refine ⟨_,rfl,d,rfl,isd,_,rfl,_,(show cM H2 d (kV (Sum.inr k:Key)) _ from cM.k hd2),?_⟩
     refine ⟨_,rfl,?_⟩
     refine ⟨_,rfl,rfl,_,rfl,?_⟩
     rw [dDP]
     refine aV ⟨_,rfl,rfl,_,rfl,?_⟩
     rw [decide_eq_true rfl]
     refine bz ⟨_,rfl,d,rfl,isd,_,rfl,s.1,Sum.inr k,hd2,rfl,fun v e=>?_,fun e=>?_⟩
     ·have hdd3:=up (di s.1 (Sum.inr k)) _ _ (aM hdd2 hd2 (by intro z; cases z)) hdd2
      refine ⟨_,rfl,ex4 dd _ _ _ ⟨rfl,rfl,SqT.of hdd3,d8,_,rfl,(show 2 <= sizeLine by lia),fun tq H3 nq s3 e3=>?_⟩⟩
      obtain ⟨f1,f2⟩:=fin _ (up (di s.1 (Sum.inr k))) ai tq H3 s3 e3
      exact ⟨_,rfl,_,rfl,ex4 dd _ _ _ ⟨rfl,rfl,SqT.of (s3 _ _ hdd3),at1,l,_,rfl,f1,f2⟩⟩
     ·refine ⟨_,rfl,ex4 dd _ _ _ ⟨rfl,rfl,SqT.of hdd2,d8,_,rfl,(show 2 <= sizeLine by lia),fun tq H3 nq s3 e3=>?_⟩⟩
      have e5:Wk.to s.1 (.drop k)=s.1:=iU (mC e)
      obtain ⟨f1,f2⟩:=fin H2 (fun _ _ _ h=>h) (by rw [e5]; exact hd2) tq H3 s3 e3
      exact ⟨_,rfl,_,rfl,ex4 dd _ _ _ ⟨rfl,rfl,SqT.of (s3 _ _ hdd2),at1,l,_,rfl,f1,f2⟩⟩
    | add k v =>
     have e2:H2 ps=some (.tup [.str "add",.str k]):=e2
     refine ⟨ps,_,rfl,SqT.of e2,rfl,_,_,rfl,_,_,rfl,rfl,?_⟩
     refine ⟨_,rfl,d,rfl,isd,_,rfl,_,(show cM H2 d (kV (Sum.inr k:Key)) _ from cM.k hd2),?_⟩
     refine ⟨_,rfl,?_⟩
     refine ⟨_,rfl,rfl,_,rfl,?_⟩
     rw [dAP]
     refine aV ⟨_,rfl,rfl,_,rfl,?_⟩
     rw [dAD]
     refine aV ⟨_,rfl,ex4 dd _ _ _ ⟨rfl,rfl,SqT.of hdd2,ei,t,_,_,_,rfl,rfl,SqT.of ht2,d8,_,rfl,?_⟩⟩
     have go:∀ z:Int,v + z=num s.1 k + v -> ∀ (R:V -> Hp -> Prop),R (.int (num s.1 k + v)) H2 -> R (.int (v + z)) H2:=fun z e R h=>by rw [e]; exact h
     have hval:∀ o:Option V,bG s.1 (Sum.inr k:Key)=o -> (o=none /\ num s.1 k=0) \/ ∃ i:Int,o=some (.int i) /\ num s.1 k=i:=fun o e=>by
      unfold K41T.num
      rw [e]
      cases o with
      | none=>exact .inl ⟨rfl,rfl⟩
      | some u =>
       obtain ⟨i,rfl⟩:=hok.ik _ _ e
       exact .inr ⟨i,rfl,rfl⟩
     have rest:∀ z:Int,num s.1 k + v=v + z -> fI H2 d (kV (Sum.inr k:Key)) (.int (v + z)) (upd H2 d (.dK (bX s.1 (Sum.inr k) (.int (num s.1 k + v))))):=fun z e=>by
      rw [<- e]
      exact fI.k hd2 (bA (by lia))
     have hdd3:=up (bX s.1 (Sum.inr k) (.int (num s.1 k + v))) _ _ (aM hdd2 hd2 (by intro z; cases z)) hdd2
     have hget:cM (upd H2 d (.dK (bX s.1 (Sum.inr k) (.int (num s.1 k + v))))) d (kV (Sum.inr k:Key)) (some (.int (num s.1 k + v))):=by
      have:=cM.k (H:=upd H2 d (.dK (bX s.1 (Sum.inr k) (.int (num s.1 k + v))))) (k:=(Sum.inr k:Key)) ai
      rw [gc,if_pos rfl] at this
      exact this
     rcases hval _ rfl with ⟨o1,o2⟩ | ⟨i,o1,o2⟩
     ·rw [o1]
      refine ⟨_,rfl,bE (fun _=>⟨_,_,rfl,rfl,_,rfl,_,rfl,d,_,rfl,rest 0 (by lia),?_⟩) (fun z=>absurd (decide_eq_true rfl) z)⟩
      refine ⟨_,rfl,_,rfl,d,_,rfl,hget,?_⟩
      refine ⟨_,rfl,ex4 dd _ _ _ ⟨rfl,rfl,SqT.of hdd3,d8,_,rfl,(show 2 <= sizeLine by lia),fun tq H3 nq s3 e3=>?_⟩⟩
      obtain ⟨f1,f2⟩:=fin _ (up _) ai tq H3 s3 e3
      exact ⟨_,rfl,_,rfl,ex4 dd _ _ _ ⟨rfl,rfl,SqT.of (s3 _ _ hdd3),at1,l,_,rfl,f1,f2⟩⟩
     ·rw [o1]
      refine ⟨_,rfl,bE (fun z=>absurd (of_decide_eq_true z) (by intro h; cases h)) (fun _=>⟨_,rfl,_,_,rfl,rfl,_,rfl,_,rfl,d,_,rfl,rest i (by lia),?_⟩)⟩
      refine ⟨_,rfl,_,rfl,d,_,rfl,hget,?_⟩
      refine ⟨_,rfl,ex4 dd _ _ _ ⟨rfl,rfl,SqT.of hdd3,d8,_,rfl,(show 2 <= sizeLine by lia),fun tq H3 nq s3 e3=>?_⟩⟩
      obtain ⟨f1,f2⟩:=fin _ (up _) ai tq H3 s3 e3
      exact ⟨_,rfl,_,rfl,ex4 dd _ _ _ ⟨rfl,rfl,SqT.of (s3 _ _ hdd3),at1,l,_,rfl,f1,f2⟩⟩
end
end K41
namespace K41
open PySem L2 KM
open K41T (Kvs Las Wk aU ci cu cm dv aO bp LR lastN lastA num cb cv i3 gI kS cX)
abbrev gx:Stmt:=top 117
theorem eO {X:Cx} {scope:Scope} {cl:List (Str × Addr)} {N2 ys:List Str} {C:Addr} {s:Shared} {H:Hp} {fp:List Addr}:IxR (cxC X scope cl N2 ys C s H fp) (rIxT X.K):=ao
def jo (K:PySem.W.Frag):Sp:=fun us H Q _=>∃ (d l:Addr) (s:Kvs × Las),us=[.ref d,.ref l] /\ ly K H d l s /\ ci s.1 s.2 /\ s.1.length < 64 /\ s.2.length < 64 /\ ∀ (p:Addr) (ps:List (Str × V)) (qs:List (Str × Int × V)) (H':Hp),ar H H' -> cb H' p ps qs -> cv s.1 s.2 ps qs -> Q (.ref p) H'
section
variable {P:Program} {w:World} {K:PySem.W.Frag} {mg:Str -> Option Value} {base:Heap}
abbrev oZ:List Str:=["_law_held","_law_asked","_law_rows_here"]
theorem scTab:ax oZ ["_law_held","_law_asked"] (am gx):=fsc (by decide +kernel)
theorem ndLK:(oZ ++ (["_law_key"]:List Str)).Nodup:=by decide +kernel
theorem ndLA:(oZ ++ (["_law_asker"]:List Str)).Nodup:=by decide +kernel
theorem rK {f:Addr} {fd:FuncData} (F:Fun K "_law_table" "_law_table" gx f fd) (B:K41T.Blt mg):aP P w K mg base CX0 1 f fd ["_law_held","_law_asked"] (jo K):=by
 refine F.ok scTab (fun vs H Q E h=>?_) (fun cdv A outer s H vs Q E hr h=>?_)
 ·obtain ⟨d,l,s,rfl,_⟩:=h
  rfl
 ·obtain ⟨d,l,⟨kvs,las⟩,rfl,hT,ok,hk64,hl64,q⟩:=h
  have hu:_ + 1 < cLine:=Nat.lt_of_le_of_lt (Nat.add_le_add_left (show 1 <= 64 by decide) _) hr.units
  have nd:=scTab.nd
  obtain ⟨hd,⟨lk,hl,lr⟩,hne⟩:=id hT
  refine ⟨_,ae (ir (i:=2) nd rfl (Or.inl rfl) oZ oZ ["_law_asker"] (am gx) rfl rfl rfl (by decide +kernel) rfl rfl (by decide +kernel) (by decide +kernel) (by decide +kernel) (by decide +kernel)
    (eJ (aA (eM rfl) (by rfl) B.sorted K41T.ix (ad (pv 1) ag))) (fun _ _ _ _ _=>au (i:=3) ndLA rfl (Or.inl rfl)) (fun _ _ _ _ _=>cr)
    (fun _ _ _ _ _=>dF (ad (pv 3) (ad (aq eO (de hu (pv 1) (pv 3) (fun _ _=>rfl)) af (fun _ _=>rfl)) (ad (aq eO (de hu (pv 1) (pv 3) (fun _ _=>rfl)) af (fun _ _=>rfl)) ag)))) (by with_unfolding_all rfl)) <|
   aj <| ay <| dF <| ad (bc fz (by rfl) B.tuple K41T.ca (ad (fb oZ oZ ["_law_key"] (am gx) rfl rfl rfl (by decide +kernel) rfl rfl (by decide +kernel) (by decide +kernel) (by decide +kernel) (by decide +kernel)
    (eJ (aA (eM rfl) (by rfl) B.sorted K41T.ix (ad (pv 0) ag))) (fun _ _ _ _ _=>au (i:=3) ndLK rfl (Or.inl rfl)) (fun _ _ _ _ _=>cr)
    (fun _ _ _ _ _=>dF (ad (pv 3) (ad (de hu (pv 0) (pv 3) (fun _ _=>rfl)) ag)))) ag)) <| ad (bc fz (by rfl) B.tuple K41T.ca (ad (pv 2) ag)) ag,?_⟩
  dsimp only [bj,Cx.nox]
  have kk:=ok.gk.keys
  have hlk:lk.map (·.1)=(cD las).map Sum.inr:=by rw [<- ok.gl.keys]; exact lr.keys
  refine ah fun K_ hK_=>?_
  refine ⟨_,rfl,l,lk,cD las,rfl,hl,hlk,(by rw [lr.len]; exact hl64),fun p2 tt hp2 pm2 pw2=>?_⟩
  refine ⟨p2,rfl,⟨_,SqL.of ai⟩,?_⟩
  have s4:ar H (upd H p2 (.lst (tt.map V.str))):=.new hp2
  have htl:tt.length < 64:=by rw [pm2.length_eq]; unfold cD; rw [List.length_map]; exact hl64
  refine kQ (ss:=tt) (fun x=>[.str x,.int (lastN las x),lastA las x]) ?_ ?_ ?_ ?_ ?_
  ·rfl
  ·exact SqL.of ai
  ·lia
  ·intro x H' post hx sm hpost
   have s1':=s4.trans sm
   have hm:(cX las (Sum.inr x)).isSome=true:=cw.mp (ok.gl.mem.mp (pm2.mem_iff.mp hx))
   rcases lr.val (Sum.inr x) with ⟨_,e2⟩ | ⟨tx,q',e1,e2,e3⟩
   ·rw [e2] at hm; cases hm
   ·have hN:lastN las x=q'.1:=by unfold K41T.lastN; rw [e2]
    have hA:lastA las x=q'.2:=by unfold K41T.lastA; rw [e2]
    have hg:cM H' l (.str x) (some (.ref tx)):=by
     have:=cM.k (H:=H') (k:=(Sum.inr x:Key)) (s1' _ _ hl)
     rw [e1] at this
     exact this
    refine ⟨_,rfl,_,rfl,_,rfl,l,_,rfl,hg,tx,_,_,_,rfl,rfl,cJ s1' e3,rfl,?_⟩
    refine ⟨_,rfl,_,rfl,l,_,rfl,hg,tx,_,_,_,rfl,rfl,cJ s1' e3,rfl,(by show 3 <= sizeLine; decide),fun t ht=>?_⟩
    have:=hpost t ht
    rw [hN,hA] at this
    exact this
  intro D2 cs H4 hD2' s5 hD4 hcl hcs
  have s04:=s4.trans s5
  refine hK_ _ _ ?_
  refine ⟨_,rfl,d,kvs,cD kvs,rfl,s04 _ _ hd,kk,hk64,fun p1 ss hp1 pm1 pw1=>?_⟩
  refine ⟨p1,rfl,⟨_,SqL.of ai⟩,?_⟩
  have s1:ar H4 (upd H4 p1 (.lst (ss.map V.str))):=.new hp1
  have hsl:ss.length < 64:=by rw [pm1.length_eq]; unfold cD; rw [List.length_map]; exact hk64
  refine kQ (ss:=ss) (fun x=>[.str x,(bG kvs (Sum.inr x)).getD .non]) ?_ ?_ ?_ ?_ ?_
  ·rfl
  ·exact SqL.of ai
  ·lia
  ·intro x H' post hx sm hpost
   have s1':=s04.trans (s1.trans sm)
   obtain ⟨v,hv⟩:∃ v,bG kvs (Sum.inr x)=some v:=Option.isSome_iff_exists.mp (cw.mp (ok.gk.mem.mp (pm1.mem_iff.mp hx)))
   refine ⟨_,rfl,_,rfl,_,rfl,d,v,rfl,?_,(by show 2 <= sizeLine; decide),fun t ht=>?_⟩
   ·have:=cM.k (H:=H') (k:=(Sum.inr x:Key)) (s1' _ _ hd)
    rw [hv] at this
    exact this
   ·have:=hpost t ht
    rw [hv] at this
    exact this
  intro D bs H2 hD s2 hD2 hbl hbs
  refine ⟨D,_,rfl,SqL.of hD2,fun ph oh hph hoh=>?_⟩
  have s42:ar H4 (upd H2 ph (.frz oh (.tup (bs.map V.ref)))):=s1.trans (s2.trans (.new hph))
  have sph:ar H2 (upd H2 ph (.frz oh (.tup (bs.map V.ref)))):=.new hph
  have hph3:upd H2 ph (.frz oh (.tup (bs.map V.ref))) ph=some (.frz oh (.tup (bs.map V.ref))):=ai
  generalize upd H2 ph (.frz oh (.tup (bs.map V.ref)))=H3 at s42 sph hph3
  refine ⟨_,rfl,D2,_,rfl,SqL.of (s42 _ _ hD4),fun pa oa hpa hoa=>?_⟩
  refine ⟨(by show 2 <= sizeLine; decide),fun p hp=>?_⟩
  have s35:ar H3 (upd (upd H3 pa (.frz oa (.tup (cs.map V.ref)))) p (.tup [V.ref ph,V.ref pa])):=(ar.new hpa).trans (.new hp)
  refine q p (i3 kvs ss) (gI las tt) _ (s04.trans (s42.trans s35)) (kS ai (s35 _ _ hph3) hoh ((ar.new hp) _ _ ai) hbl hcl (fun j x hx=>?_) (fun j x hx=>?_)) ⟨⟨ss,pm1,pw1,rfl⟩,tt,pm2,pw2,rfl⟩
  ·obtain ⟨b,b1,b2⟩:=hbs j x hx
   exact ⟨b,b1,s35 _ _ (sph _ _ b2)⟩
  ·obtain ⟨b,b1,b2⟩:=hcs j x hx
   exact ⟨b,b1,s35 _ _ (s42 _ _ b2)⟩
end
end K41
namespace K41
open PySem L2 KM
open K41T (Kvs Las Wk aU ci cu cm dv aO bp LR lastN lastA num cb cv i3 gI cX fU)
abbrev o6:Stmt:=top 118
def iD (K:PySem.W.Frag):Sp:=fun us H Q _=>∃ (st el b:Addr) (sp pl tm:Int) (hk:List (Key × V)) (hq:List (Str × Int × V)) (es:List Addr) (xs:List En),us=[.ref st,.ref el,.int sp] /\ dH K H st pl tm b hk hq /\ H el=some (.lst (es.map V.ref)) /\ Paired (EnO H) es xs /\ pl <= sp /\ ci (aO hk) (bp hq) /\ (aO hk).length + es.length < 64 /\ (bp hq).length + es.length < 64 /\
 ∀ (p:Addr) (ps:List (Str × V)) (qs:List (Str × Int × V)) (H':Hp),ar H H' -> cb H' p ps qs -> cv (dI hk hq xs (sp - pl).toNat).1 (dI hk hq xs (sp - pl).toNat).2 ps qs -> Q (.ref p) H'
section
variable {P:Program} {w:World} {K:PySem.W.Frag} {mg:Str -> Option Value} {base:Heap}
abbrev nDoneL:List Str:=["_law_stand","_law_entries_here","_law_settled","_law_held","_law_asked","_law_asker","_law_number","_law_answer","_law_term","_law_deed_here"]
theorem qf:ax nDoneL ["_law_stand","_law_entries_here","_law_settled"] (am o6):=fsc (by decide +kernel)
theorem uY {f:Addr} {fd:FuncData} (F:Fun K "_law_done" "_law_done" o6 f fd) (B:K41T.Blt mg) (Fd:aR P w K mg base 1 "_law_does" ["_law_held","_law_asked","_law_deed_here"] (lz K)) (Ft:aR P w K mg base 1 "_law_table" ["_law_held","_law_asked"] (jo K)):aP P w K mg base CX0 2 f fd ["_law_stand","_law_entries_here","_law_settled"] (iD K):=by
 refine F.ok qf (fun vs H Q E h=>?_) (fun cdv A outer s H vs Q E hr h=>?_)
 ·obtain ⟨st,el,b,sp,pl,tm,hk,hq,es,xs,rfl,_⟩:=h
  rfl
 ·obtain ⟨st,el,b,sp,pl,tm,hk,hq,es,xs,rfl,S0,hel,hes,hps,ok,k64,l64,q⟩:=h
  have nd:=qf.nd
  have hu:_ + 1 < cLine:=Nat.lt_of_le_of_lt (Nat.add_le_add_left (show 1 <= 64 by decide) _) hr.units
  have hs16:sizeLine=16777216:=sizeLine_eq
  refine ⟨_,ae (aB (i:=3) nd rfl (Or.inl rfl) (bc (jX rfl) (by rfl) B.dict K41T.bDict (ad (aq ao (pv 0) af (fun _ _=>rfl)) ag))) <|
   ae (aB (i:=4) nd rfl (Or.inl rfl) iQ) <|
   ae (dX PassesOwn.never rfl (fS (aq ao (pv 0) af (fun _ _=>rfl))) (cL (n:=3) rfl (az (au (i:=5) nd rfl (Or.inl rfl)) (az (au (i:=6) nd rfl (Or.inl rfl)) (az (au (i:=7) nd rfl (Or.inl rfl)) bV))))
    (aj (d9 hu (pv 4) (pv 5) (dF (ad (pv 6) (ad (pv 7) ag))) rfl))) <|
   ae (dX PassesOwn.never rfl (eJ (bO gf (pv 1) cx (bP (aE bR (pv 2) (aq ao (pv 0) af (fun _ _=>rfl)))))) (cL (n:=2) rfl (az (au (i:=8) nd rfl (Or.inl rfl)) (az (au (i:=9) nd rfl (Or.inl rfl)) bV)))
    (aj (bJ (aC Fd hr (ad (pv 3) (ad (pv 4) (ad (pv 9) ag))))))) <|
   aj (ay (aC Ft hr (ad (pv 3) (ad (pv 4) ag)))),?_⟩
  dsimp only [bj,Cx.nox]
  obtain ⟨hh,aa,o,ps,as,h1,h2,h3,h4,h5,h6,h7,h8,h9⟩:=id S0
  refine ah fun K_ hK_=>?_
  refine ⟨_,rfl,ex4 st _ _ _ ⟨rfl,rfl,SqT.of h1,ei,hh,o,ps,hk,rfl,h2,h3,h4,h5,fun d hd=>?_⟩⟩
  have s1:=ar.new (o:=.dK (aO hk)) hd
  have ed:upd H d (.dK (aO hk)) d=some (.dK (aO hk)):=ai
  unfold K41T.aO at s1 ed
  refine hK_ _ _ (ah fun K_ hK_=>?_)
  generalize upd H d (.dK (List.foldl (fun m kv=>bX m kv.1 kv.2) [] hk))=H1 at s1 ed ⊢
  have ed:H1 d=some (.dK (aO hk)):=ed
  intro l hl
  have s2:=ar.new (o:=.dK []) hl
  have el2:upd H1 l (.dK []) l=some (.dK []):=ai
  refine hK_ _ _ (ah fun K_ hK_=>?_)
  generalize upd H1 l (.dK [])=H2 at s2 el2 ⊢
  have s02:=s1.trans s2
  have ndl:d ≠ l:=ak ed hl
  have nlH:H l=none:=s1.none hl
  have ed2:=s2 _ _ ed
  refine ⟨_,rfl,st,_,_,_,rfl,rfl,SqT.of (s02 _ _ h1),kX,aa,rfl,⟨as,cJ s02 h6⟩,ky (K:=K) (a:=aa) (xs:=as) (fun i σ H4=>∃ (u v w':Option V),σ=[some (.ref st),some (.ref el),some (.int sp),some (.ref d),some (.ref l),u,v,w',none,none] /\ ar H H4 /\ ly K H4 d l (aO hk,(hq.take i).foldl (fun m q=>fU m (Sum.inr q.1) q.2) []))
   ⟨none,none,none,rfl,s02,ed2,⟨[],el2,.nil⟩,ndl⟩ (fun i σ H4 _ ⟨_,_,_,_,bt,_⟩=>cJ bt h6) ?_ ?_⟩
  ·rintro i y σ H4 hy ⟨u,v,w',rfl,bt,S⟩
   have hi:i < as.length:=(List.getElem?_eq_some_iff.mp hy).1
   obtain ⟨q',hq'⟩:∃ q',hq[i]?=some q':=⟨_,List.getElem?_eq_getElem (by lia)⟩
   obtain ⟨b',hb,hbt⟩:=h9 i q' hq'
   rw [hb] at hy
   cases hy
   have et:hq.take (i + 1)=hq.take i ++ [q']:=by rw [List.take_add_one,hq']; rfl
   obtain ⟨hd4,⟨lk,hl4,lr⟩,_⟩:=id S
   refine ⟨b',_,rfl,cJ bt hbt,rfl,_,_,rfl,_,_,rfl,_,_,rfl,rfl,?_⟩
   refine ⟨_,rfl,_,rfl,(by show 2 <= sizeLine; decide),fun t ht=>?_⟩
   have s5:=ar.new (o:=.tup [V.int q'.2.1,q'.2.2]) ht
   have hl':=s5 _ _ hl4
   have hlen:lk.length < sizeLine:=by
    have h2:=K41T.j8 (hq.take i) []
    rw [<- lr.len,List.length_take] at h2
    exact bA (by simp at h2; lia)
   refine ⟨_,rfl,_,rfl,l,_,rfl,(show fI _ l (kV (Sum.inr q'.1:Key)) _ _ from fI.k hl' hlen),?_⟩
   refine (ex3 _ _ _ ⟨rfl,fun c o' e=>?_,?_,⟨bX lk (Sum.inr q'.1) (.ref t),ai,?_⟩,ndl⟩)
   ·rw [aw (ak e nlH)]
    exact s5 _ _ (bt _ _ e)
   ·rw [aw ndl]; exact s5 _ _ hd4
   ·show LR K _ _ ((hq.take (i + 1)).foldl _ [])
    rw [et,List.foldl_append]
    exact K41T.LR.put (lr.mono fun t' xs e=>(K41T.SqT.same s5 e).upd hl') (Sum.inr q'.1) (SqT.upd (SqT.of ai) hl')
  ·rintro σ H4 ⟨u,v,w',rfl,bt,S⟩
   refine hK_ _ _ (ah fun K_ hK_=>?_)
   rw [h7,List.take_length] at S
   have S:ly K H4 d l (aO hk,bp hq):=S
   obtain ⟨n,hn⟩:=Int.eq_ofNat_of_zero_le (show 0 <= sp - pl by lia)
   refine ⟨_,rfl,_,rfl,_,rfl,ex4 st _ _ _ ⟨rfl,rfl,SqT.of (bt _ _ h1),at0,_,_,rfl,rfl,_,rfl,el,_,rfl,SqL.of (bt _ _ hel),?_⟩⟩
   intro psl npsl
   have s5:=ar.new (o:=.lst (cj (es.map V.ref) none (some (sp - pl)))) npsl
   have e5:upd H4 psl (.lst (cj (es.map V.ref) none (some (sp - pl)))) psl=some (.lst ((es.take n).map V.ref)):=by
    rw [ai,hn,i6,List.map_take]
   have S5:=S.same s5
   generalize upd H4 psl (.lst (cj (es.map V.ref) none (some (sp - pl))))=H5 at s5 e5 S5 ⊢
   have s05:=bt.trans s5
   have hel2:es.length=xs.length:=Paired.length hes
   have npd:psl ≠ d:=(ak S.hd npsl).symm
   have npl:psl ≠ l:=by
    obtain ⟨lk,q1,_⟩:=S.hl
    exact (ak q1 npsl).symm
   refine ⟨psl,rfl,⟨_,SqL.of e5⟩,l8 (K:=K) (xs:=(es.take n).map V.ref) (fun i σ Hx=>∃ (v8 v9:Option V),σ=[some (.ref st),some (.ref el),some (.int sp),some (.ref d),some (.ref l),u,v,w',v8,v9] /\ ar H Hx /\ Hx psl=some (.lst ((es.take n).map V.ref)) /\ ly K Hx d l (eV (aO hk,bp hq) (xs.take i))) ⟨none,none,rfl,s05,e5,S5⟩ ?_ ?_ ?_⟩
   ·rintro i σ Hx hi ⟨v8,v9,rfl,g1,g2,g3⟩
    exact SqL.of g2
   ·rintro i y σ Hx hy ⟨v8,v9,rfl,g1,g2,g3⟩
    rw [List.getElem?_map] at hy
    cases he:(es.take n)[i]? with
    | none=>rw [he] at hy; cases hy
    | some a =>
     rw [he] at hy
     cases hy
     have hil:i < (es.take n).length:=(List.getElem?_eq_some_iff.mp he).1
     rw [List.length_take] at hil
     have hie:i < es.length:=by lia
     have hix:i < xs.length:=by lia
     have ha:a=es[i]:=by
      rw [List.getElem?_take,if_pos (by lia),List.getElem?_eq_getElem hie] at he
      exact (Option.some.inj he).symm
     have hE:EnO Hx a xs[i]:=by
      have:=Paired.zip hes (es[i],xs[i]) (List.mem_iff_getElem.mpr ⟨i,by rw [List.length_zip]; lia,List.getElem_zip⟩)
      rw [ha]
      exact EnO.tk (Tk.of g1) this
     have hrun:=ka (aO hk,bp hq) (List.getElem?_eq_getElem hix)
     have rl:=dZ (xs.take i) (aO hk,bp hq)
     have tl:(xs.take i).length <= i:=by rw [List.length_take]; lia
     have rok:=eP (s:=(aO hk,bp hq)) ok (xs.take i)
     generalize xs[i]=e at hE hrun
     obtain ⟨tm2,dd⟩:=e
     obtain ⟨dA,hA1,hA2⟩:=hE
     refine ⟨a,_,rfl,SqT.of hA1,rfl,_,_,rfl,_,_,rfl,rfl,?_⟩
     refine ⟨_,rfl,_,rfl,_,rfl,ex5 d l dA _ dd ⟨rfl,g3,rok,?_,?_,hA2,fun H6 b6 T6=>?_⟩⟩
     ·have:=rl.1
      show _ <= 400
      simp only at this
      lia
     ·have:=rl.2
      show _ <= 400
      simp only at this
      lia
     ·refine ⟨_,_,rfl,fun c u e=>b6 _ _ (g1 _ _ e) (ak e hd) (ak e nlH),b6 _ _ g2 npd npl,?_⟩
      rw [hrun]
      exact T6
   ·rintro σ Hx ⟨v8,v9,rfl,g1,g2,g3⟩
    refine hK_ _ _ ?_
    rw [List.length_map,List.length_take] at g3
    have hcut:xs.take (min n es.length)=xs.take n:=by
     by_cases hc:n <= es.length
     ·rw [Nat.min_eq_left hc]
     ·rw [Nat.min_eq_right (by lia),List.take_of_length_le (by lia),List.take_of_length_le (by lia)]
    rw [hcut] at g3
    have rl:=dZ (xs.take n) (aO hk,bp hq)
    have tl:(xs.take n).length <= es.length:=by rw [List.length_take]; lia
    have rok:=eP (s:=(aO hk,bp hq)) ok (xs.take n)
    have hnn:(sp - pl).toNat=n:=by lia
    refine ⟨_,rfl,_,rfl,ex3 d l _ ⟨rfl,g3,rok,?_,?_,fun p ps2 qs2 H6 s6 hp ht=>q p ps2 qs2 H6 (g1.trans s6) hp ?_⟩⟩
    ·have:=rl.1
     show _ < 64
     simp only at this
     lia
    ·have:=rl.2
     show _ < 64
     simp only at this
     lia
    ·unfold dI
     rw [hnn]
     exact ht
end
end K41
namespace K41
open PySem L2
open K41T (Kvs Las Wk aU ci cu cm dv aO bp)
abbrev lA:Stmt:=top 119
def jq:Sp:=fun us H Q _=>∃ (v le:Int),us=[.int v,.int le] /\ 0 <= v /\ 0 <= le /\ ∀ (b:Addr) (H':Hp),ar H H' -> Q (.ref b) H'
theorem mod2 (v:Int):v % 2=1 \/ v % 2=0:=by lia
section
variable {P:Program} {w:World} {K:PySem.W.Frag} {mg:Str -> Option Value} {base:Heap}
theorem mZ:ax ["_law_voters","_law_learners","_law_some"] ["_law_voters","_law_learners"] (am lA):=fsc (by decide +kernel)
theorem rL {f:Addr} {fd:FuncData} (F:Fun K "_law_bench" "_law_bench" lA f fd):aP P w K mg base CX0 1 f fd ["_law_voters","_law_learners"] jq:=by
 refine F.ok mZ (fun vs H Q E h=>?_) (fun cdv A outer s H vs Q E hr h=>?_)
 ·obtain ⟨v,le,rfl,_⟩:=h
  rfl
 ·obtain ⟨v,le,rfl,v0,l0,q⟩:=h
  have nd:=mZ.nd
  have hs16:sizeLine=16777216:=sizeLine_eq
  refine ⟨_,ae (aB (i:=2) nd rfl (Or.inl rfl) (aE iw (aE iw (aQ (ad aN (ad aN (ad aN ag)))) (aE pU (aQ (ad aN ag)) (aE cB (pv 0) af))) (aE pU (aQ (ad aN ag)) (aE cB (aE pB (pv 0) af) af)))) <|
   aj (ay (aQ (ad (pv 2) (ad (aQ ag) (ad (bO cT (aQ (ad aN (ad aN ag))) cx (bP (pv 1))) ag))))),?_⟩
  refine ⟨(show 3 <= sizeLine by lia),fun t1 H1 n1 s1 e1=>⟨(show 1 <= sizeLine by lia),fun t2 H2 n2 s2 e2=>⟨_,rfl,_,_,rfl,rfl,(show (0:Int) < 2 by decide),t2,_,_,rfl,rfl,e2,?_⟩⟩⟩
  rcases mod2 v with h | h
  ·refine .inl ⟨h,t1,t2,_,_,rfl,rfl,s2 _ _ e1,e2,(show 3 + 1 <= sizeLine by lia),fun t4 H4 s4 e4=>?_⟩
   refine ⟨(show 1 <= sizeLine by lia),fun t5 H5 n5 s5 e5=>⟨_,rfl,_,_,rfl,rfl,⟨by decide,by decide⟩,_,_,rfl,rfl,(show (0:Int) < 2 by decide),t5,_,_,rfl,rfl,e5,?_⟩⟩
   rcases mod2 (v / 2) with h2 | h2
   ·refine .inl ⟨h2,t4,t5,_,_,rfl,rfl,s5 _ _ e4,e5,(show 4 + 1 <= sizeLine by lia),fun t6 H6 s6 e6=>?_⟩
    exact ⟨_,rfl,Nat.zero_le _,fun t8 H8 n8 s8 e8=>⟨(show 2 <= sizeLine by lia),fun t9 H9 n9 s9 e9=>⟨_,rfl,_,rfl,t9,_,rfl,e9,fun c H10 s10 e10=>⟨(show 3 <= sizeLine by lia),fun b H11 n11 s11 e11=>q b H11 (((s1.trans (s2.trans s4)).trans (s5.trans s6)).trans (s8.trans (s9.trans (s10.trans s11))))⟩⟩⟩⟩
   ·refine .inr ⟨h2,fun p2 H7 n7 s7 e7=>⟨t4,p2,_,_,rfl,rfl,s7 _ _ (s5 _ _ e4),e7,(show 4 + 0 <= sizeLine by lia),fun t6 H6 s6 e6=>?_⟩⟩
    exact ⟨_,rfl,Nat.zero_le _,fun t8 H8 n8 s8 e8=>⟨(show 2 <= sizeLine by lia),fun t9 H9 n9 s9 e9=>⟨_,rfl,_,rfl,t9,_,rfl,e9,fun c H10 s10 e10=>⟨(show 3 <= sizeLine by lia),fun b H11 n11 s11 e11=>q b H11 (((s1.trans (s2.trans s4)).trans (s5.trans (s7.trans s6))).trans (s8.trans (s9.trans (s10.trans s11))))⟩⟩⟩⟩
  ·refine .inr ⟨h,fun p H3 n3 s3 e3=>⟨t1,p,_,_,rfl,rfl,s3 _ _ (s2 _ _ e1),e3,(show 3 + 0 <= sizeLine by lia),fun t4 H4 s4 e4=>?_⟩⟩
   refine ⟨(show 1 <= sizeLine by lia),fun t5 H5 n5 s5 e5=>⟨_,rfl,_,_,rfl,rfl,⟨by decide,by decide⟩,_,_,rfl,rfl,(show (0:Int) < 2 by decide),t5,_,_,rfl,rfl,e5,?_⟩⟩
   rcases mod2 (v / 2) with h2 | h2
   ·refine .inl ⟨h2,t4,t5,_,_,rfl,rfl,s5 _ _ e4,e5,(show 3 + 1 <= sizeLine by lia),fun t6 H6 s6 e6=>?_⟩
    exact ⟨_,rfl,Nat.zero_le _,fun t8 H8 n8 s8 e8=>⟨(show 2 <= sizeLine by lia),fun t9 H9 n9 s9 e9=>⟨_,rfl,_,rfl,t9,_,rfl,e9,fun c H10 s10 e10=>⟨(show 3 <= sizeLine by lia),fun b H11 n11 s11 e11=>q b H11 (((s1.trans (s2.trans (s3.trans s4))).trans (s5.trans s6)).trans (s8.trans (s9.trans (s10.trans s11))))⟩⟩⟩⟩
   ·refine .inr ⟨h2,fun p2 H7 n7 s7 e7=>⟨t4,p2,_,_,rfl,rfl,s7 _ _ (s5 _ _ e4),e7,(show 3 + 0 <= sizeLine by lia),fun t6 H6 s6 e6=>?_⟩⟩
    exact ⟨_,rfl,Nat.zero_le _,fun t8 H8 n8 s8 e8=>⟨(show 2 <= sizeLine by lia),fun t9 H9 n9 s9 e9=>⟨_,rfl,_,rfl,t9,_,rfl,e9,fun c H10 s10 e10=>⟨(show 3 <= sizeLine by lia),fun b H11 n11 s11 e11=>q b H11 (((s1.trans (s2.trans (s3.trans s4))).trans (s5.trans (s7.trans s6))).trans (s8.trans (s9.trans (s10.trans s11))))⟩⟩⟩⟩
end
end K41
namespace K41
open PySem L2
open K41T (Kvs Las Wk aU ci cu cm dv aO bp gJ cb cv)
abbrev sWr:Stmt:=top 120
theorem at5' {α:Type} {a b c d e f:α} {r:List α}:atI (a :: b :: c :: d :: e :: f :: r) 5=some f:=bN (j:=5) rfl
theorem at6' {α:Type} {a b c d e f g:α} {r:List α}:atI (a :: b :: c :: d :: e :: f :: g :: r) 6=some g:=bN (j:=6) rfl
theorem at7' {α:Type} {a b c d e f g h:α} {r:List α}:atI (a :: b :: c :: d :: e :: f :: g :: h :: r) 7=some h:=bN (j:=7) rfl
theorem kg:bootBuiltins "max"=some (.builtin "max"):=by decide +kernel
theorem uZ {X:Cx} {scope:Scope} {cl:List (Str × Addr)} {N2 ys:List Str} {C:Addr} {s:Shared} {H:Hp} {fp:List Addr}:SlR (cxC X scope cl N2 ys C s H fp) (rSlL X.K):=gf
theorem cutNN {ys:List V} {a n:Nat} (ha:a <= ys.length):cj ys (some (a:Int)) (some ((a + n:Nat):Int))=(ys.drop a).take n:=by
 unfold cj
 rw [HT.df,HT.df,Nat.min_eq_left ha]
 by_cases h:a + n <= ys.length
 ·rw [Nat.min_eq_left h,Nat.add_sub_cancel_left]
 ·rw [Nat.min_eq_right (by lia),List.take_of_length_le (by rw [List.length_drop]; exact Nat.le_refl _),List.take_of_length_le (by rw [List.length_drop]; lia)]
abbrev zs8:List Int:=[4,3,9,9,3,31,3,6]
theorem dig8 {ds:List Int} (h:Dig ds zs8):∃ a b c d e f g k:Int,ds=[a,b,c,d,e,f,g,k] /\ (0 <= a /\ a < 4) /\ (0 <= b /\ b < 3) /\ (0 <= c /\ c < 9) /\ (0 <= d /\ d < 9) /\ (0 <= e /\ e < 3) /\ (0 <= f /\ f < 31) /\ (0 <= g /\ g < 3) /\ (0 <= k /\ k < 6):=by
 cases h with
 | cons h1 t=>cases t with
  | cons h2 t=>cases t with
   | cons h3 t=>cases t with
    | cons h4 t=>cases t with
     | cons h5 t=>cases t with
      | cons h6 t=>cases t with
       | cons h7 t=>cases t with
        | cons h8 t=>cases t with
         | nil=>exact (ex8 _ _ _ _ _ _ _ _ ⟨rfl,h1,h2,h3,h4,h5,h6,h7,h8⟩)
theorem Paired.drop' {α β:Type} {R:α -> β -> Prop} {as:List α} {bs:List β} (h:Paired R as bs) (n:Nat):Paired R (as.drop n) (bs.drop n):=by
 induction h generalizing n with
 | nil=>rw [List.drop_nil,List.drop_nil]; exact .nil
 | cons r t ih =>
  cases n with
  | zero=>exact .cons r t
  | succ k=>exact ih k
abbrev va:List Int:=(List.replicate 3 zsD).flatten
theorem cut5:∀ k:Nat,k < 3 -> ((va.drop (5 * k)).take 5:List Int)=zsD
 | 0,_=>by decide +kernel
 | 1,_=>by decide +kernel
 | 2,_=>by decide +kernel
 | n + 3,h=>by lia
theorem zs8_ok:∀ z ∈ zs8,0 < z /\ z < 2 ^ 250:=by decide +kernel
theorem zs15_ok:∀ z ∈ va,0 < z /\ z < 2 ^ 250:=by decide +kernel
theorem vb:va.length=15:=by decide +kernel
def spWr (K:PySem.W.Frag):Sp:=fun us H Q _=>∃ (a:Addr) (ns:List Int),us=[.ref a] /\ SqL K H a (ns.map V.int) /\
 ∀ (wt st en b:Addr) (t s pl tm:Int) (v:V) (hk:List (Key × V)) (hq:List (Str × Int × V)) (es:List Addr) (xs:List En) (H':Hp),ar H H' -> H' wt=some (.tup [.int t,v,.int s,.ref st,.ref en]) -> StE K H' s st en pl tm b hk hq es xs -> 0 <= t -> smV v=true -> es.length <= 8 -> (aO hk).length <= 3 -> (bp hq).length <= 3 -> (0 <= pl /\ pl <= 3) -> 0 <= tm -> (∀ e ∈ xs,1 <= e.1) -> s <= pl + es.length -> uV (if tm > 1 then tm else 1) xs -> (0 < pl -> 1 <= tm) -> Q (.ref wt) H'
section
variable {P:Program} {w:World} {K:PySem.W.Frag} {mg:Str -> Option Value} {base:Heap}
abbrev nWr:List Str:=["_law_script","_law_d","_law_bench_here","_law_ahead","_law_some","_law_held","_law_asked","_law_term","_law_stand","_law_entries_here","_law_vote"]
theorem scWr:ax nWr ["_law_script"] (am sWr):=fsc (by decide +kernel)
theorem ndWr:(nWr ++ (["_law_k"]:List Str)).Nodup:=by decide +kernel
theorem ok_wr {f:Addr} {fd:FuncData} (F:Fun K "_law_written" "_law_written" sWr f fd) (hint:mg "int"=none) (hrange:mg "range"=none) (hmax:mg "max"=none) (htuple:mg "tuple"=none) (Fc:aR P w K mg base 1 "_law_cell_at" ["_law_script","_law_k"] (gH K)) (Fd:aR P w K mg base 2 "_law_digits" ["_law_cell","_law_sizes"] jm) (Fe:aR P w K mg base 1 "_law_deed" ["_law_d"] jn)
  (Fb:aR P w K mg base 1 "_law_bench" ["_law_voters","_law_learners"] jq) (Fo:aR P w K mg base 2 "_law_done" ["_law_stand","_law_entries_here","_law_settled"] (iD K)) (Fn:aR P w K mg base 3 "_law_entries" qd (lx K)):aP P w K mg base CX0 4 f fd ["_law_script"] (spWr K):=by
 refine F.ok scWr (fun vs H Q E h=>?_) (fun cdv A outer s H vs Q E hr h=>?_)
 ·obtain ⟨a,ns,rfl,_⟩:=h
  rfl
 ·obtain ⟨a,ns,rfl,hS,q⟩:=h
  have nd:=scWr.nd
  have r1:bi 1 _:=hr.mono (by decide)
  have r2:bi 2 _:=hr.mono (by decide)
  have hu:_ + 1 < cLine:=Nat.lt_of_le_of_lt (Nat.add_le_add_left (show 1 <= 64 by decide) _) hr.units
  have hs16:sizeLine=16777216:=sizeLine_eq
  refine ⟨_,ae (aB (i:=1) nd rfl (Or.inl rfl) (fC Fd r2 (aC Fc r1 (ad (pv 0) (ad af ag))) (cA (cA (cA (cA (cA (cA (cA (cA bI)))))))))) <|
   ae (aB (i:=2) nd rfl (Or.inl rfl) (aC Fb r1 (ad (aq aW (pv 1) af (fun _ _=>rfl)) (ad (aq aW (pv 1) af (fun _ _=>rfl)) ag)))) <|
   ae (aB (i:=3) nd rfl (Or.inr rfl) (qW Fd r2 (aC Fc r1 (ad (pv 0) (ad af ag))) (aE op_rep (dQ (cA (cA (cA (cA (gq (aE dc af (aE iL af af)) bI)))))) af))) <|
   ae (ir (i:=4) nd rfl (Or.inl rfl) nWr nWr ["_law_k"] (am sWr) rfl rfl rfl (by decide +kernel) rfl rfl (by decide +kernel) (by decide +kernel) (by decide +kernel) (by decide +kernel)
    (db (by rfl) hrange (ad (aq aW (pv 1) af (fun _ _=>rfl)) ag)) (fun _ _ _ _ _=>au (i:=11) ndWr rfl (Or.inl rfl)) (fun _ _ _ _ _=>cr)
    (fun _ _ _ _ _=>aQ (ad af (ad (aC Fe r1 (ad (bO uZ (pv 3) (bP (aE dc af (pv 11))) (bP (aE aX (aE dc af (pv 11)) af))) ag)) ag))) (by with_unfolding_all rfl)) <|
   ae (dW (aC Fo r2 (ad (aQ (ad af (ad af (ad (pv 2) (ad iq (ad iq ag)))))) (ad (pv 4) (ad (aq aW (pv 1) af (fun _ _=>rfl)) ag)))) (cL (n:=2) rfl (az (au (i:=5) nd rfl (Or.inl rfl)) (az (au (i:=6) nd rfl (Or.inl rfl)) bV)))) <|
   ae (aB (i:=7) nd rfl (Or.inl rfl) (aE dc (bc fu (by rfl) hint qc (ad (bC dL (aq aW (pv 1) af (fun _ _=>rfl)) af (aF _)) ag)) (aE aX af (aq aW (pv 1) af (fun _ _=>rfl))))) <|
   ae (aB (i:=8) nd rfl (Or.inl rfl) (cH (oA (aq aW (pv 1) af (fun _ _=>rfl)) (eE (pv 7) (eE (pv 2) (eE (pv 5) (eE (pv 6) bI))))))) <|
   ae (aB (i:=9) nd rfl (Or.inl rfl) (aC Fn hr (ad (pv 0) (ad af (ad (aq aW (pv 1) af (fun _ _=>rfl)) (ad (pv 7) (ad (aA (eA rfl) (by rfl) hmax kg (ad af (ad (pv 7) ag))) ag))))))) <|
   ae (cz (aS (aD (sT hu) (pv 9) (cy ag) (aF _)) (aj (aB (i:=7) nd rfl (Or.inl rfl) (aq ao (aq aW (pv 9) (md iM af) (fun _ _=>rfl)) af (fun _ _=>rfl)))) aH)) <|
   ae (aB (i:=10) nd rfl (Or.inl rfl) (aq aW (dQ (wa_n (dG (dG (dG (dG (dG bI))))))) (aq aW (pv 1) af (fun _ _=>rfl)) (fun _ _=>rfl))) <|
   aj (ay (cH (gq (aE aX (pv 7) (aq aW (pv 1) af (fun _ _=>rfl))) (eE (pv 10) (gq (aE aX (aq aW (pv 1) af (fun _ _=>rfl)) (aE cB (aq aW (pv 1) af (fun _ _=>rfl)) (aE aX (aq aW (pv 1) af (fun _ _=>rfl)) af))) (eE (pv 8) (wa_c (bc dn (by rfl) htuple ca (ad (pv 9) ag)) bI))))))),?_⟩
  dsimp only [bj,Cx.nox]
  refine ah fun K_ hK_=>?_
  refine ⟨_,rfl,a,ns,0,rfl,hS,by decide,fun z0=>⟨(show 8 <= sizeLine by lia),fun la H1 n1 s1 e1=>(ex3 z0 la zs8 ⟨rfl,e1,zs8_ok,by decide,fun pd ds H2 s2 n2 e2 hD=>?_⟩)⟩⟩
  obtain ⟨d0,d1,d2,d3,d4,d5,d6,d7,rfl,⟨a0,a1⟩,⟨b0,b1⟩,⟨c0,c1⟩,⟨g0,g1⟩,⟨i0,i1⟩,⟨j0,j1⟩,⟨k0,k1⟩,m0,m1⟩:=dig8 hD
  have s02:=s1.trans s2
  refine hK_ _ _ (ah fun K_ hK_=>?_)
  refine ⟨_,rfl,ex4 pd _ _ _ ⟨rfl,rfl,SqL.of e2,at5',_,rfl,ex4 pd _ _ _ ⟨rfl,rfl,SqL.of e2,at6',d5,d6,rfl,j0,k0,fun b H3 s3=>?_⟩⟩⟩
  have s03:=s02.trans s3
  refine hK_ _ _ (ah fun K_ hK_=>?_)
  refine ⟨_,rfl,a,ns,1,rfl,s03.seq hS,by decide,fun z1=>⟨_,_,rfl,rfl,⟨by decide,by decide,by decide⟩,_,_,rfl,rfl,.inl ⟨by decide,by decide⟩,(show 5 <= sizeLine by lia),fun lb H4 n4 s4 e4=>?_⟩⟩
  refine ⟨lb,3,_,rfl,rfl,e4,by decide,by decide,(show 5 * 3 <= sizeLine by lia),fun lc nc=>?_⟩
  have s5:=ar.new (o:=.lst (List.replicate (3:Int).toNat [V.int 3,.int 5,.int 3,.int 6,.int (2 * 10 ^ 57)]).flatten) nc
  have e5:upd H4 lc (.lst (List.replicate (3:Int).toNat [V.int 3,.int 5,.int 3,.int 6,.int (2 * 10 ^ 57)]).flatten) lc=some (.lst (va.map V.int)):=ai
  refine (ex3 z1 lc va ⟨rfl,e5,zs15_ok,(by decide +kernel),fun pa as H6 s6 n6 e6 hA=>?_⟩)
  have s46:=s4.trans (s5.trans s6)
  have s06:=s03.trans s46
  have pd6:H6 pd=some (.lst ([d0,d1,d2,d3,d4,d5,d6,d7].map V.int)):=s46 _ _ (s3 _ _ e2)
  have asl:as.length=15:=by rw [Paired.length hA]; exact vb
  refine hK_ _ _ (ah fun K_ hK_=>?_)
  refine ⟨_,rfl,ex4 pd _ _ _ ⟨rfl,rfl,SqL.of pd6,at0,d0,rfl,by lia,by lia,?_⟩⟩
  refine lcJ (n:=d0.toNat) (fun i=>.int (0 + (i:Int))) (fun D i ys Hx=>H6 D=none /\ ar H6 Hx /\ Hx D=some (.lst ys) /\ ∃ (bs:List Addr) (xs:List En),ys=bs.map V.ref /\ bs.length=i /\ Paired (EnO Hx) bs xs) rfl ?_ ?_ ?_ ?_ ?_ ?_
  ·rintro D i ys Hx hi _
   exact hi
  ·rintro D i ys Hx y Hy hi _ ⟨rfl,rfl⟩
   exact ⟨rfl,rfl⟩
  ·rintro D ys Hx _
   exact Nat.le_refl _
  ·intro D hD
   exact ⟨hD,.new hD,ai,[],[],rfl,rfl,.nil⟩
  ·rintro D i ys Hx post hi ⟨h1,h2,h3,bs,xs,rfl,hbl,hbs⟩ hp
   have hi3:i < 3:=by lia
   have pax:Hx pa=some (.lst (as.map V.int)):=h2 _ _ e6
   refine ⟨_,rfl,_,rfl,_,_,rfl,rfl,.inl ⟨by decide,by decide⟩,_,rfl,_,rfl,_,_,rfl,rfl,.inl ⟨by decide,by decide⟩,_,_,rfl,rfl,_,rfl,pa,_,rfl,SqL.of pax,?_⟩
   intro pq npq
   have sq:=ar.new (o:=.lst (cj (as.map V.int) (some (5 * (0 + (i:Int)))) (some (5 * (0 + (i:Int)) + 5)))) npq
   have eq':upd Hx pq (.lst (cj (as.map V.int) (some (5 * (0 + (i:Int)))) (some (5 * (0 + (i:Int)) + 5)))) pq=some (.lst (((as.drop (5 * i)).take 5).map V.int)):=by
    rw [ai,show (5 * (0 + (i:Int)))=((5 * i:Nat):Int) by lia,show (((5 * i:Nat):Int) + 5)=((5 * i + 5:Nat):Int) by lia,cutNN (by rw [List.length_map]; lia),List.map_take,List.map_drop]
   have hdg:Dig ((as.drop (5 * i)).take 5) zsD:=by
    have:=Paired.take' (Paired.drop' hA (5 * i)) 5
    rw [cut5 i hi3] at this
    exact this
   refine ⟨pq,_,rfl,eq',hdg,fun dA x n wk H7 s7 hdd _=>⟨(show 2 <= sizeLine by lia),fun c H8 n8 s8 e8=>?_⟩⟩
   have sx8:=sq.trans (s7.trans s8)
   have hD8:H8 D=some (.lst (bs.map V.ref)):=sx8 _ _ h3
   refine hp (.ref c) H8 hD8 (by rw [List.length_map]; exact bA (by lia)) ⟨h1,fun b o e=>?_,ai,bs ++ [c],xs ++ [(1,some (x,n,wk))],by rw [List.map_append]; rfl,by rw [List.length_append,hbl]; rfl,?_⟩
   ·rw [aw (ak e h1)]
    exact sx8 _ _ (h2 _ _ e)
   ·have tk:Tk H8 (upd H8 D (.lst (bs.map V.ref ++ [.ref c]))):=fun b ys e=>by rw [aw (aM e hD8 (by intro z; cases z))]; exact e
    exact PySem.Paired.snoc (bq ((Tk.of sx8).trans tk) hbs) ⟨dA,tk _ _ e8,(hdd.tk (Tk.of s8)).tk tk⟩
  rintro D ys H7 ⟨h1,s7,h3,bs,xs0,rfl,hbl,hbs⟩
  have s07:=s06.trans s7
  refine hK_ _ _ (ah fun K_ hK_=>?_)
  refine ⟨_,rfl,?_⟩
  intro e1' n1'
  have t1:=ar.new (o:=.frz { cls:=.type "tuple",data:=.seq #[] } (.tup [])) n1'
  intro e2' n2'
  have t2:=ar.new (o:=.frz { cls:=.type "tuple",data:=.seq #[] } (.tup [])) n2'
  refine ⟨(show 5 <= sizeLine by lia),fun st0 H8 n8 s8 e8=>?_⟩
  have s78:ar H7 H8:=(t1.trans t2).trans s8
  have pd8:=s78 _ _ (s7 _ _ pd6)
  refine ⟨_,rfl,_,rfl,ex4 pd _ _ _ ⟨rfl,rfl,SqL.of pd8,at0,st0,D,b,d0,0,0,[],[],bs,xs0,rfl,⟨e1',e2',_,[],[],e8,s8 _ _ (t2 _ _ ai),rfl,rfl,fun j kv h=>(nomatch h),.inl (.inr ⟨_,s8 _ _ ai⟩),rfl,Nat.zero_le _,fun j kv h=>(nomatch h)⟩,s78 _ _ h3,bq (Tk.of s78) hbs,a0,ci.empty,(by show 0 + bs.length < 64; lia),(by show 0 + bs.length < 64; lia),fun p ps qs H9 s9 hp ht=>?_⟩⟩
  obtain ⟨ph,pa',oh,oa,hs,as',g1',g2,g3,g4,g5,g6,g7,g8⟩:=id hp
  refine ⟨p,_,rfl,SqT.of g1',rfl,_,_,rfl,_,_,rfl,rfl,?_⟩
  have rok:=eP (s:=(aO [],bp [])) ci.empty (xs0.take (d0 - 0).toNat)
  have rl:=dZ (xs0.take (d0 - 0).toNat) (aO [],bp [])
  obtain ⟨m1',m2',m3',m4'⟩:=ht.made rok
  have s89:=s78.trans s9
  have pd9:H9 pd=some (.lst ([d0,d1,d2,d3,d4,d5,d6,d7].map V.int)):=s9 _ _ pd8
  refine hK_ _ _ (ah fun K_ hK_=>?_)
  refine ⟨_,rfl,ex4 pd _ _ _ ⟨rfl,rfl,SqL.of pd9,at0,_,_,rfl,rfl,.inr ⟨_,rfl,?_⟩⟩⟩
  refine ⟨_,rfl,ex4 pd _ _ _ ⟨rfl,rfl,SqL.of pd9,at1,_,_,rfl,rfl,_,_,rfl,rfl,.inl (b01 _),?_⟩⟩
  obtain ⟨tm,hT2⟩:∃ T2:Int,T2=(if decide ((0:Int) < d0)=true then (1:Int) else 0) * (1 + d1):=⟨_,rfl⟩
  have tm0:0 <= tm:=by
   rw [hT2]
   by_cases hh:decide ((0:Int) < d0)=true
   ·rw [if_pos hh]; lia
   ·rw [if_neg hh]; lia
  refine hK_ _ _ (ah fun K_ hK_=>?_)
  refine ⟨_,rfl,ex4 pd _ _ _ ⟨rfl,rfl,SqL.of pd9,at0,_,rfl,_,rfl,_,rfl,_,rfl,(show 5 <= sizeLine by lia),fun st H10 n10 s10 e10=>?_⟩⟩
  have e10:H10 st=some (.tup [.int d0,.int tm,.ref b,.ref ph,.ref pa']):=by rw [hT2]; exact e10
  have s010:=s07.trans (s89.trans s10)
  have pd10:=s10 _ _ pd9
  refine hK_ _ _ (ah fun K_ hK_=>?_)
  refine ⟨_,rfl,_,rfl,ex4 pd _ _ _ ⟨rfl,rfl,SqL.of pd10,d8,_,rfl,_,rfl,_,_,rfl,a,ns,5,d2,_,_,rfl,s010.seq hS,by decide,c0,by lia,?_,fun p9 es xs H11 s11 n11 e11 hes hel hts hBr=>?_⟩⟩
  ·split <;> lia
  have pd11:=s11 _ _ pd10
  have hB:uV (if tm > 1 then tm else 1) xs:=by rw [hT2]; exact hBr
  have tm1:0 < d0 -> 1 <= tm:=fun z=>by rw [hT2,if_pos (decide_eq_true z)]; lia
  have hxl:es.length=xs.length:=Paired.length hes
  refine hK_ _ _ (ah fun K_ hK_=>?_)
  refine ⟨fun σ' H'=>∃ tw:Int,σ'=[some (.ref a),some (.ref pd),some (.ref b),some (.ref pa),some (.ref D),some (.ref ph),some (.ref pa'),some (.int tw),some (.ref st),some (.ref p9),none] /\ 0 <= tw /\ ar H11 H',?_,?_⟩
  ·refine ⟨_,rfl,Nat.zero_le _,fun l0 H12 n12 s12 e12=>⟨p9,l0,_,rfl,rfl,SqL.of (s12 _ _ e11),SqL.of e12,_,rfl,bE (fun z=>?_) (fun z=>⟨_,rfl,by rw [hT2] at tm0; exact tm0,s12⟩)⟩⟩
   have hne:0 < es.length:=by
    cases es with
    | nil=>cases z
    | cons _ _=>exact Nat.succ_pos _
   have hli:es.length - 1 < es.length:=by lia
   have hlx:es.length - 1 < xs.length:=by lia
   obtain ⟨dA,hA1,_⟩:EnO H12 es[es.length - 1] xs[es.length - 1]:=EnO.tk (Tk.of s12) (Paired.zip hes (es[es.length - 1],xs[es.length - 1]) (List.mem_iff_getElem.mpr ⟨es.length - 1,by rw [List.length_zip]; lia,List.getElem_zip⟩))
   have htw:=hts xs[es.length - 1] (List.getElem_mem _)
   have hat:atI (es.map V.ref) (-1)=some (.ref es[es.length - 1]):=by
    have hh:es.map V.ref=(es.take (es.length - 1)).map V.ref ++ [.ref es[es.length - 1]]:=by
     rw [show [V.ref es[es.length - 1]]=[es[es.length - 1]].map V.ref from rfl,<- List.map_append]
     congr 1
     have:=List.take_append_drop (es.length - 1) es
     rw [List.drop_eq_getElem_cons hli,show es.length - 1 + 1=es.length by lia,List.drop_length] at this
     exact this.symm
    rw [hh]
    exact eZ _ _
   exact ⟨_,rfl,_,rfl,p9,_,_,_,rfl,rfl,SqL.of (s12 _ _ e11),hat,_,_,_,_,rfl,rfl,SqT.of hA1,at0,_,rfl,by lia,s12⟩
  rintro σ' H12 ⟨tw,rfl,tw0,s12⟩
  have pd12:=s12 _ _ pd11
  obtain ⟨v,hv,hvm⟩:=oB (xs:=[V.non,.str (Str.ofString "a"),.str (Str.ofString "b"),.str (Str.ofString "c"),.str (Str.ofString "d"),.str (Str.ofString "e")]) m0 (by show d7 < 6; exact m1)
  have hsv:smV v=true:=by
   simp only [List.mem_cons,List.not_mem_nil,or_false] at hvm
   rcases hvm with rfl | rfl | rfl | rfl | rfl | rfl <;> rfl
  refine hK_ _ _ (ah fun K_ hK_=>?_)
  refine ⟨(show 6 <= sizeLine by lia),fun l1 H14 n14 s14 e14=>⟨_,rfl,ex4 pd _ _ _ ⟨rfl,rfl,SqL.of (s14 _ _ pd12),at7',l1,_,_,_,rfl,rfl,SqL.of e14,hv,?_⟩⟩⟩
  have pd14:=s14 _ _ pd12
  refine hK_ _ _ ?_
  refine ⟨_,rfl,_,rfl,ex4 pd _ _ _ ⟨rfl,rfl,SqL.of pd14,kX,_,_,rfl,rfl,_,rfl,_,rfl,ex4 pd _ _ _ ⟨rfl,rfl,SqL.of pd14,at0,_,rfl,ex4 pd _ _ _ ⟨rfl,rfl,SqL.of pd14,ei,_,rfl,ex4 pd _ _ _ ⟨rfl,rfl,SqL.of pd14,d8,_,_,rfl,rfl,_,_,rfl,rfl,(show (0:Int) < d2 + 1 by lia),_,_,rfl,rfl,_,rfl,_,rfl,p9,_,rfl,SqL.of (s14 _ _ (s12 _ _ e11)),fun en H15 n15 s15 e15=>⟨(show 5 <= sizeLine by lia),fun wt H16 n16 s16 e16=>?_⟩⟩⟩⟩⟩⟩
  have sE:ar H11 H16:=s12.trans (s14.trans (s15.trans s16))
  have s9E:ar H9 H16:=s10.trans (s11.trans sE)
  have ql:qs.length <= 900:=by
   obtain ⟨_,tt,t1',t2',t3'⟩:=ht
   have h1:qs.length=tt.length:=by rw [t3']; unfold K41T.gI; rw [List.length_map]
   have h2:=t1'.length_eq
   unfold KM.cD at h2
   rw [List.length_map] at h2
   have:=rl.2
   have h4:(xs0.take (d0 - 0).toNat).length <= 3:=by rw [List.length_take]; lia
   have h5:(eV (aO [],bp []) (xs0.take (d0 - 0).toNat)).2.length <= 3:=by
    have h6:(bp []:Las).length=0:=rfl
    show _ <= _
    simp only at this
    lia
   have h7:tt.length=(dI [] [] xs0 (d0 - 0).toNat).2.length:=h2
   unfold dI at h7
   lia
  have lim:(aO (gJ ps)).length <= 3 /\ (bp qs).length <= 3:=by
   have h4:(xs0.take (d0 - 0).toNat).length <= 3:=by rw [List.length_take]; lia
   have h6:(bp []:Las).length=0:=rfl
   have h7:(aO []:Kvs).length=0:=rfl
   have r1':=rl.1
   have r2':=rl.2
   simp only at r1' r2'
   exact ⟨by lia,by lia⟩
  have m6:=Int.emod_nonneg d3 (show d2 + 1 ≠ 0 by lia)
  refine q wt st en b _ _ d0 tm v (gJ ps) qs es xs H16 (s010.trans (s11.trans sE)) e16 ⟨⟨ph,pa',oh,hs,as',sE _ _ (s11 _ _ e10),s9E _ _ g2,g3,by rw [List.length_map]; exact g5,fun j kv e=>?_,.inl (.inr ⟨oa,s9E _ _ g4⟩),g6,ql,fun j kv e=>?_⟩,s16 _ _ e15,bq (Tk.of sE) hes,by lia,by lia,m2',by lia,by lia⟩ (by lia) hsv (by lia) lim.1 lim.2 ⟨a0,by lia⟩ tm0 hts (by have m7:=Int.emod_lt_of_pos d3 (show 0 < d2 + 1 by lia); lia) hB tm1
  ·rw [List.getElem?_map] at e
   cases e2:ps[j]? with
   | none=>rw [e2] at e; cases e
   | some kv0 =>
    rw [e2] at e
    cases e
    obtain ⟨b',b1',b2'⟩:=g7 j kv0 e2
    exact ⟨b',b1',SqT.of (s9E _ _ b2')⟩
  ·obtain ⟨b',b1',b2'⟩:=g8 j kv e
   exact ⟨b',b1',SqT.of (s9E _ _ b2')⟩
end
end K41
namespace K41B
open PySem L2
open K41 (top at0 at1 d8 ca ClR)
abbrev j6:Stmt:=aT (top 73) 0
abbrev o7:Stmt:=aT (top 73) 1
abbrev lB:Stmt:=aT (top 73) 3
abbrev o8:Stmt:=aT (top 73) 4
abbrev j9:Stmt:=aT (top 73) 5
abbrev lC:Stmt:=aT (top 73) 12
def cW (st en:Addr):List (Str × V):=K41.flR st en
theorem dJ (st en:Addr):(cW st en).lookup ("stand":Str)=some (.ref st):=by unfold cW; kernel_rfl
theorem jr (st en:Addr):(cW st en).lookup ("entries":Str)=some (.ref en):=by unfold cW; kernel_rfl
structure eG (C:Addr) (H:Hp) (r st en:Addr) (pl tm:Int) (sv:List V) (es:List Addr) (tms:List Int):Prop where
 obj:∃ dx,H r=some (.ins C dx (cW st en))
 st:H st=some (.tup (.int pl :: .int tm :: sv))
 en:H en=some (.tup (es.map V.ref))
 len:es.length=tms.length
 ent:∀ (i:Nat) (e:Addr) (t:Int),es[i]?=some e -> tms[i]?=some t -> ∃ d,H e=some (.tup [.int t,.ref d])
 few:es.length <= 700
theorem eG.same {C:Addr} {H H':Hp} {r st en:Addr} {pl tm:Int} {sv:List V} {es:List Addr} {tms:List Int} (e:ar H H') (h:eG C H r st en pl tm sv es tms):eG C H' r st en pl tm sv es tms:=by
 obtain ⟨⟨dx,h1⟩,h2,h3,h4,h5,h6⟩:=h
 refine ⟨⟨dx,e _ _ h1⟩,e _ _ h2,e _ _ h3,h4,fun i a t ha ht=>?_,h6⟩
 obtain ⟨d,hd⟩:=h5 i a t ha ht
 exact ⟨d,e _ _ hd⟩
def ba (pl tm:Int) (tms:List Int) (p:Int):V:=if p=pl then .int tm else if p < pl \/ pl + tms.length < p then .non else .int (tms.getD (p - pl - 1).toNat 0)
theorem m5 (pl tm:Int) (tms:List Int) {k:Nat} (h:k <= tms.length):ba pl tm tms (pl + k)=.int ((tm :: tms).getD k 0):=by
 unfold ba
 cases k with
 | zero=>rw [if_pos (by simp)]; rfl
 | succ k =>
  rw [if_neg (by lia),if_neg (by lia)]
  have e:(pl + ((k + 1:Nat):Int) - pl - 1).toNat=k:=by lia
  rw [e]
  rfl
theorem bZ (pl tm:Int) (tms:List Int) {p:Int} (h:p < pl \/ pl + tms.length < p):ba pl tm tms p=.non:=by
 unfold ba
 rw [if_neg (by lia),if_pos h]
def fj (C:Addr):Sp:=fun us H Q _=>∃ (r dx st en:Addr) (ys:List V),us=[.ref r,.ref st,.ref en] /\ H r=some (.ins C dx []) /\ H en=some (.tup ys) /\
 ∀ H',(∀ b o,b ≠ r -> H b=some o -> H' b=some o) -> H' r=some (.ins C dx (cW st en)) -> Q .non H'
def lD (C:Addr):Sp:=fun us H Q _=>∃ (r st en:Addr) (pl tm:Int) (sv:List V) (es:List Addr) (tms:List Int),us=[.ref r] /\ eG C H r st en pl tm sv es tms /\ Q (.int (pl + tms.length)) H
def js (C:Addr):Sp:=fun us H Q _=>∃ (r st en:Addr) (pl tm:Int) (sv:List V) (es:List Addr) (tms:List Int) (p:Int),us=[.ref r,.int p] /\ eG C H r st en pl tm sv es tms /\ Q (ba pl tm tms p) H
def lE (C:Addr):Sp:=fun us H Q _=>∃ (r st en:Addr) (pl tm:Int) (sv:List V) (es:List Addr) (tms:List Int) (k:Nat) (e:Addr),us=[.ref r,.int (pl + 1 + k)] /\ eG C H r st en pl tm sv es tms /\ es[k]?=some e /\ Q (.ref e) H
def fV (C:Addr):Sp:=fun us H Q _=>∃ (r st en:Addr) (pl tm:Int) (sv:List V) (es:List Addr) (tms:List Int) (k:Nat),us=[.ref r,.int (pl + k)] /\ eG C H r st en pl tm sv es tms /\
 ∀ t H',ar H H' -> H' t=some (.tup ((es.take k).map V.ref)) -> Q (.ref t) H'
theorem jt (es:List Addr) (k:Nat):cj (es.map V.ref) (some (k:Int)) none=(es.drop k).map V.ref:=by
 unfold cj
 rw [List.length_map,HT.eB,HT.df,<- List.map_drop,<- List.map_take]
 by_cases h:k <= es.length
 ·rw [Nat.min_eq_left h,List.take_of_length_le (by rw [List.length_drop]; lia)]
 ·rw [Nat.min_eq_right (by lia),List.drop_of_length_le (Nat.le_refl _),List.drop_of_length_le (by lia)]
  simp
theorem cut_to (es:List Addr) (k:Nat):cj (es.map V.ref) none (some (k:Int))=(es.take k).map V.ref:=by
 unfold cj
 rw [List.length_map,HT.eB,HT.df,List.drop_zero,Nat.sub_zero,<- List.map_take]
 by_cases h:k <= es.length
 ·rw [Nat.min_eq_left h]
 ·rw [Nat.min_eq_right (by lia),List.take_of_length_le (Nat.le_refl _),List.take_of_length_le (by lia)]
section
variable {P:Program} {w:World} {K:PySem.W.Frag} {mg:Str -> Option Value} {base:Heap}
theorem kM:ax ["self","stand","entries"] ["self","stand","entries"] (am j6):=fsc (by decide +kernel)
theorem kN {f C:Addr} {fd:FuncData} (F:Fun K "__init__" "Row.__init__" j6 f fd) (T:ClR K mg C) (htuple:mg "tuple"=none):aP P w K mg base CX0 1 f fd ["self","stand","entries"] (fj C):=by
 refine F.ok kM (fun vs H Q E h=>?_) (fun cdv A outer s H vs Q E hr h=>?_)
 ·obtain ⟨r,dx,st,en,ys,rfl,_⟩:=h
  rfl
 ·obtain ⟨r,dx,st,en,ys,rfl,hR,he,q⟩:=h
  refine ⟨_,ae (bg (pv 0) (pv 1) rfl) (aj (bg (pv 0) (bc gF (by rfl) htuple ca (ad (pv 2) ag)) rfl)),?_⟩
  dsimp only [bj,Cx.nox]
  refine ah fun K_ hK_=>?_
  refine ⟨_,rfl,_,rfl,r,C,dx,[],rfl,hR,T.cl,T.nS,(by show 0 < 1000; decide),?_⟩
  have ner:en ≠ r:=aM he hR (by intro z; cases z)
  refine hK_ _ _ ?_
  refine ⟨_,rfl,en,ys,rfl,SqT.of (by rw [aw ner]; exact he),_,rfl,ex4 r C dx _ ⟨rfl,ai,T.cl,T.nE,(by show 1 < 1000; decide),?_⟩⟩
  exact q _ (fun b o hb e=>by rw [aw hb,aw hb]; exact e) ai
theorem scLastP:ax ["self"] ["self"] (am o7):=fsc (by decide +kernel)
theorem vc {f C:Addr} {fd:FuncData} (F:Fun K "last_place" "Row.last_place" o7 f fd) (T:ClR K mg C) (hlen:mg "len"=none):aP P w K mg base CX0 1 f fd ["self"] (lD C):=by
 refine F.ok scLastP (fun vs H Q E h=>?_) (fun cdv A outer s H vs Q E hr h=>?_)
 ·obtain ⟨r,st,en,pl,tm,sv,es,tms,rfl,_⟩:=h
  rfl
 ·obtain ⟨r,st,en,pl,tm,sv,es,tms,rfl,⟨⟨dx,h1⟩,h2,h3,h4,h5,h6⟩,q⟩:=h
  refine ⟨_,aj <| ay <| aE aX (aq ao (aG (pv 0) rfl) af (fun _ _=>rfl)) (aA aK (by rfl) hlen PySem.boot_len (ad (aG (pv 0) rfl) ag)),?_⟩
  dsimp only [bj,Cx.nox]
  refine ⟨_,rfl,ex5 r C dx _ _ ⟨rfl,h1,T.cl,T.nS,dJ _ _,st,ex3 _ _ _ ⟨rfl,rfl,SqT.of h2,at0,_,rfl,ex5 r C dx _ _ ⟨rfl,h1,T.cl,T.nE,jr _ _,en,_,rfl,.inr (SqT.of h3),_,_,rfl,rfl,?_⟩⟩⟩⟩
  rw [List.length_map,h4]
  exact q
theorem scEntAt:ax ["self","place"] ["self","place"] (am o8):=fsc (by decide +kernel)
theorem vd {f C:Addr} {fd:FuncData} (F:Fun K "entry_at" "Row.entry_at" o8 f fd) (T:ClR K mg C):aP P w K mg base CX0 1 f fd ["self","place"] (lE C):=by
 refine F.ok scEntAt (fun vs H Q E h=>?_) (fun cdv A outer s H vs Q E hr h=>?_)
 ·obtain ⟨r,st,en,pl,tm,sv,es,tms,k,e,rfl,_⟩:=h
  rfl
 ·obtain ⟨r,st,en,pl,tm,sv,es,tms,k,e,rfl,⟨⟨dx,h1⟩,h2,h3,h4,h5,h6⟩,hk,q⟩:=h
  refine ⟨_,aj <| ay <| aq ao (aG (pv 0) rfl) (aE bR (aE bR (pv 1) (aq ao (aG (pv 0) rfl) af (fun _ _=>rfl))) af) (fun _ _=>rfl),?_⟩
  dsimp only [bj,Cx.nox]
  refine ⟨_,rfl,ex5 r C dx _ _ ⟨rfl,h1,T.cl,T.nE,jr _ _,_,rfl,_,rfl,ex5 r C dx _ _ ⟨rfl,h1,T.cl,T.nS,dJ _ _,st,_,_,_,rfl,rfl,SqT.of h2,at0,_,_,rfl,rfl,_,_,rfl,rfl,ex4 en _ _ _ ⟨rfl,rfl,SqT.of h3,?_,q⟩⟩⟩⟩
  have e2:pl + 1 + (k:Int) - pl - 1=(k:Int):=by lia
  rw [e2]
  exact bN (by rw [List.getElem?_map,hk]; rfl)
theorem oK:ax ["self","place"] ["self","place"] (am j9):=fsc (by decide +kernel)
theorem ok_upTo {f C:Addr} {fd:FuncData} (F:Fun K "up_to" "Row.up_to" j9 f fd) (T:ClR K mg C):aP P w K mg base CX0 1 f fd ["self","place"] (fV C):=by
 refine F.ok oK (fun vs H Q E h=>?_) (fun cdv A outer s H vs Q E hr h=>?_)
 ·obtain ⟨r,st,en,pl,tm,sv,es,tms,k,rfl,_⟩:=h
  rfl
 ·obtain ⟨r,st,en,pl,tm,sv,es,tms,k,rfl,⟨⟨dx,h1⟩,h2,h3,h4,h5,h6⟩,q⟩:=h
  refine ⟨_,aj <| ay <| bO cT (aG (pv 0) rfl) cx (bP (aE bR (pv 1) (aq ao (aG (pv 0) rfl) af (fun _ _=>rfl)))),?_⟩
  dsimp only [bj,Cx.nox]
  refine ⟨_,rfl,ex5 r C dx _ _ ⟨rfl,h1,T.cl,T.nE,jr _ _,_,rfl,_,rfl,ex5 r C dx _ _ ⟨rfl,h1,T.cl,T.nS,dJ _ _,st,_,_,_,rfl,rfl,SqT.of h2,at0,_,_,rfl,rfl,_,rfl,en,_,rfl,h3,fun t H' s' e'=>q t H' s' ?_⟩⟩⟩
  have e2:pl + (k:Int) - pl=(k:Int):=by lia
  rw [e2,cut_to] at e'
  exact e'
theorem ve:ax ["self","place"] ["self","place"] (am lB):=fsc (by decide +kernel)
theorem rM {f C:Addr} {fd:FuncData} (F:Fun K "term_at" "Row.term_at" lB f fd) (T:ClR K mg C) (Ml:bu P w K mg base C 1 "last_place" ["self"] (lD C)) (Me:bu P w K mg base C 1 "entry_at" ["self","place"] (lE C)):aP P w K mg base CX0 2 f fd ["self","place"] (js C):=by
 refine F.ok ve (fun vs H Q E h=>?_) (fun cdv A outer s H vs Q E hr h=>?_)
 ·obtain ⟨r,st,en,pl,tm,sv,es,tms,p,rfl,_⟩:=h
  rfl
 ·obtain ⟨r,st,en,pl,tm,sv,es,tms,p,rfl,hR,q⟩:=h
  obtain ⟨⟨dx,h1⟩,h2,h3,h4,h5,h6⟩:=id hR
  refine ⟨_,ae (aS (aD bW (pv 1) (aq ao (aG (pv 0) rfl) af (fun _ _=>rfl)) (aF _)) (aj (ay (aq ao (aG (pv 0) rfl) af (fun _ _=>rfl)))) aH) <|
   ae (aS (PW.pt (cN (aD dY (pv 1) (aq ao (aG (pv 0) rfl) af (fun _ _=>rfl)) (aF _)) (cZ (aD dL (pv 1) (bF Ml T.cl hr (pv 0)) (aF _))))) (aj (ay cn)) aH) <|
   aj <| ay <| aq ao (bv Me T.cl hr (pv 0) (ad (pv 1) ag)) af (fun _ _=>rfl),?_⟩
  dsimp only [bj,Cx.nox]
  refine ah fun K_ hK_=>?_
  refine ⟨_,rfl,_,rfl,ex5 r C dx _ _ ⟨rfl,h1,T.cl,T.nS,dJ _ _,st,ex3 _ _ _ ⟨rfl,rfl,SqT.of h2,at0,rfl,_,rfl,?_⟩⟩⟩
  by_cases hp:p=pl
  ·have e:ba pl tm tms p=.int tm:=by unfold ba; rw [if_pos hp]
   rw [e] at q
   refine bE (fun _=>?_) (fun z=>absurd (decide_eq_true (by rw [hp])) z)
   exact ⟨_,rfl,ex5 r C dx _ _ ⟨rfl,h1,T.cl,T.nS,dJ _ _,st,ex3 _ _ _ ⟨rfl,rfl,SqT.of h2,at1,q⟩⟩⟩
  ·refine bE (fun z=>absurd (of_decide_eq_true z) (by intro y; cases y; exact hp rfl)) (fun _=>?_)
   refine hK_ _ _ (ah fun K_ hK_=>?_)
   refine ⟨_,rfl,_,rfl,ex5 r C dx _ _ ⟨rfl,h1,T.cl,T.nS,dJ _ _,st,_,_,_,rfl,rfl,SqT.of h2,at0,_,_,rfl,rfl,_,rfl,?_⟩⟩
   refine bE (fun z=>bz ?_) (fun z1=>?_)
   ·have z:=of_decide_eq_true z
    rw [bZ pl tm tms (.inl z)] at q
    exact q
   ·have z1:¬ p < pl:=fun y=>z1 (decide_eq_true y)
    refine ⟨_,rfl,_,rfl,ex3 r dx _ ⟨rfl,h1,rfl,ex8 r st en pl tm sv es tms ⟨rfl,hR,_,_,rfl,rfl,_,rfl,?_⟩⟩⟩
    refine bE (fun z=>?_) (fun z2=>?_)
    ·have z:=of_decide_eq_true z
     rw [bZ pl tm tms (.inr z)] at q
     exact q
    ·have z2:¬ pl + (tms.length:Int) < p:=fun y=>z2 (decide_eq_true y)
     obtain ⟨k,hk⟩:∃ k:Nat,p=pl + 1 + k:=⟨(p - pl - 1).toNat,by lia⟩
     subst hk
     have hk:k < tms.length:=by lia
     have hke:k < es.length:=by lia
     obtain ⟨d,hd⟩:=h5 k es[k] tms[k] (List.getElem?_eq_getElem hke) (List.getElem?_eq_getElem hk)
     refine hK_ _ _ ?_
     refine ⟨_,rfl,ex3 r dx _ ⟨rfl,h1,rfl,_,rfl,r,st,en,pl,tm,sv,es,tms,k,es[k],rfl,hR,List.getElem?_eq_getElem hke,es[k],ex3 _ _ _ ⟨rfl,rfl,SqT.of hd,at0,?_⟩⟩⟩
     have e:=m5 pl tm tms (k:=k + 1) (by lia)
     rw [show pl + ((k + 1:Nat):Int)=pl + 1 + (k:Int) by lia] at e
     rw [e] at q
     have e2:(tm :: tms).getD (k + 1) 0=tms[k]:=by
      rw [List.getD_cons_succ,List.getD_eq_getElem?_getD,List.getElem?_eq_getElem hk]; rfl
     rw [e2] at q
     exact q
end
def cp:List Int -> List Int -> Nat
 | a :: as,b :: bs=>if a=b then cp as bs + 1 else 0
 | _,_=>0
theorem lF (T:List Int):cp T []=0:=by cases T <;> rfl
theorem gy (M:List Int):cp [] M=0:=by cases M <;> rfl
theorem qg:∀ (T M:List Int),cp T M <= M.length
 | [],M=>by rw [gy]; exact Nat.zero_le _
 | a :: T,[]=>by rw [lF]; exact Nat.zero_le _
 | a :: T,b :: M=>by
  unfold cp
  split
  ·have:=qg T M
   rw [List.length_cons]; lia
  ·exact Nat.zero_le _
theorem lG:∀ (T M:List Int),cp T M <= T.length
 | [],M=>by rw [gy]; exact Nat.zero_le _
 | a :: T,[]=>by rw [lF]; exact Nat.zero_le _
 | a :: T,b :: M=>by
  unfold cp
  split
  ·have:=lG T M
   rw [List.length_cons]; lia
  ·exact Nat.zero_le _
theorem iE:∀ {T M:List Int} {i:Nat} {t:Int},i <= cp T M -> M[i]?=some t -> T[i]?=some t -> i + 1 <= cp T M
 | [],M,i,t,_,_,h=>by simp at h
 | a :: T,[],i,t,_,h,_=>by simp at h
 | a :: T,b :: M,0,t,_,h1,h2=>by
  simp only [List.getElem?_cons_zero,Option.some.injEq] at h1 h2
  subst h1 h2
  unfold cp
  rw [if_pos rfl]; lia
 | a :: T,b :: M,i + 1,t,h,h1,h2=>by
  simp only [List.getElem?_cons_succ] at h1 h2
  unfold cp at h ⊢
  split at h
  ·rename_i hab
   have:=iE (T:=T) (M:=M) (i:=i) (by lia) h1 h2
   rw [if_pos hab]
   lia
  ·lia
theorem cp_at:∀ {T M:List Int} {i:Nat},i < cp T M -> T[i]?=M[i]?
 | [],M,i,h=>by rw [gy] at h; lia
 | a :: T,[],i,h=>by rw [lF] at h; lia
 | a :: T,b :: M,0,h=>by
  unfold cp at h
  split at h
  ·rename_i hab; rw [hab]; rfl
  ·lia
 | a :: T,b :: M,i + 1,h=>by
  unfold cp at h
  split at h
  ·simp only [List.getElem?_cons_succ]
   exact cp_at (by lia)
  ·lia
theorem iF {T M:List Int} {i:Nat} {t:Int} (h:i <= cp T M) (h1:M[i]?=some t) (h2:T[i]? ≠ some t):cp T M=i:=by
 refine Nat.le_antisymm (Nat.le_of_not_lt fun hlt=>h2 ?_) h
 rw [cp_at hlt]; exact h1
def bn {α:Type} (T M:List Int) (k:Nat) (es ms:List α):List α:=if cp (T.drop k) M=M.length then es else es.take (k + cp (T.drop k) M) ++ ms.drop (cp (T.drop k) M)
def Ms (H:Hp) (m:Addr) (ms:List Addr) (mt:List Int):Prop:=H m=some (.tup (ms.map V.ref)) /\ ms.length=mt.length /\ ∀ (i:Nat) (e:Addr) (t:Int),ms[i]?=some e -> mt[i]?=some t -> ∃ d,H e=some (.tup [.int t,.ref d])
theorem ent_cat {H:Hp} {es ms:List Addr} {ts ut:List Int} (hl:es.length=ts.length) (h1:∀ (i:Nat) (e:Addr) (t:Int),es[i]?=some e -> ts[i]?=some t -> ∃ d,H e=some (.tup [.int t,.ref d]))
  (h2:∀ (i:Nat) (e:Addr) (t:Int),ms[i]?=some e -> ut[i]?=some t -> ∃ d,H e=some (.tup [.int t,.ref d])):∀ (i:Nat) (e:Addr) (t:Int),(es ++ ms)[i]?=some e -> (ts ++ ut)[i]?=some t -> ∃ d,H e=some (.tup [.int t,.ref d]):=by
 intro i e t he ht
 by_cases hi:i < es.length
 ·rw [List.getElem?_append_left hi] at he
  rw [List.getElem?_append_left (by lia)] at ht
  exact h1 i e t he ht
 ·rw [List.getElem?_append_right (by lia)] at he
  rw [List.getElem?_append_right (by lia),<- hl] at ht
  exact h2 _ e t he ht
theorem vf {H:Hp} {es:List Addr} {ts:List Int} (k:Nat) (h1:∀ (i:Nat) (e:Addr) (t:Int),es[i]?=some e -> ts[i]?=some t -> ∃ d,H e=some (.tup [.int t,.ref d])):∀ (i:Nat) (e:Addr) (t:Int),(es.take k)[i]?=some e -> (ts.take k)[i]?=some t -> ∃ d,H e=some (.tup [.int t,.ref d]):=by
 intro i e t he ht
 rw [List.getElem?_take] at he ht
 split at he
 ·rename_i hi
  rw [if_pos hi] at ht
  exact h1 i e t he ht
 ·cases he
theorem vg {H:Hp} {es:List Addr} {ts:List Int} (k:Nat) (h1:∀ (i:Nat) (e:Addr) (t:Int),es[i]?=some e -> ts[i]?=some t -> ∃ d,H e=some (.tup [.int t,.ref d])):∀ (i:Nat) (e:Addr) (t:Int),(es.drop k)[i]?=some e -> (ts.drop k)[i]?=some t -> ∃ d,H e=some (.tup [.int t,.ref d]):=by
 intro i e t he ht
 rw [List.getElem?_drop] at he ht
 exact h1 _ e t he ht
def ju (C:Addr):Sp:=fun us H Q _=>∃ (r st en m:Addr) (p th pl tm:Int) (sv:List V) (es:List Addr) (tms:List Int) (k sk:Nat) (ms:List Addr) (mt:List Int),us=[.ref r,.int p,.int th,.ref m] /\ eG C H r st en pl tm sv es tms /\ Ms H m ms mt /\ p + sk=pl + k /\ (sk=0 \/ k=0) /\ es.length + ms.length <= 700 /\
 (pl <= p -> ba pl tm tms p ≠ .int th -> Q .non H) /\
 ((pl <= p -> ba pl tm tms p=.int th) -> ∀ (r' en':Addr) (H':Hp),ar H H' -> eG C H' r' st en' pl tm sv (bn tms (mt.drop sk) k es (ms.drop sk)) (bn tms (mt.drop sk) k tms (mt.drop sk)) -> Q (.ref r') H')
theorem rN (pl tm:Int) (tms:List Int) (k:Nat) (t:Int) (hk:k <= tms.length):(ba pl tm tms (pl + k + 1)=.int t) ↔ tms[k]?=some t:=by
 by_cases h:k < tms.length
 ·have e:=m5 pl tm tms (k:=k + 1) (by lia)
  rw [show pl + ((k + 1:Nat):Int)=pl + (k:Int) + 1 by lia] at e
  rw [e,List.getD_cons_succ,List.getD_eq_getElem?_getD,List.getElem?_eq_getElem h]
  constructor
  ·intro z
   have:(some tms[k]).getD 0=t:=by injection z
   rw [<- this]; rfl
  ·intro z
   have:tms[k]=t:=Option.some.inj z
   rw [this]; rfl
 ·rw [bZ pl tm tms (.inr (by lia)),List.getElem?_eq_none (by lia)]
  constructor
  ·intro z; cases z
  ·intro z; cases z
theorem gR (pl tm:Int) (tms:List Int) (p t:Int):scal (ba pl tm tms p) (.int t)=true:=by
 unfold ba
 split
 ·rfl
 ·split <;> rfl
section
variable {P:Program} {w:World} {K:PySem.W.Frag} {mg:Str -> Option Value} {base:Heap}
abbrev nFilled:List Str:=["self","before","there","entries","place","entry"]
abbrev qh:List Str:=["self","before","there","entries"]
theorem m8:ax nFilled qh (am lC):=fsc (by decide +kernel)
theorem rO {f C:Addr} {fd:FuncData} (F:Fun K "filled" "Row.filled" lC f fd) (T:ClR K mg C) (henum:mg "enumerate"=none) (htup:mg "tuple"=none) (Mi:fK P w K mg base C 1 ["self","stand","entries"] (fj C)) (Mt:bu P w K mg base C 2 "term_at" ["self","place"] (js C)) (Mu:bu P w K mg base C 1 "up_to" ["self","place"] (fV C)) :
  aP P w K mg base CX0 3 f fd qh (ju C):=by
 refine F.ok m8 (fun vs H Q E h=>?_) (fun cdv A outer s H vs Q E hr h=>?_)
 ·obtain ⟨r,st,en,m,p0,th,pl,tm,sv,es,tms,k,sk,ms,mt,rfl,_⟩:=h
  rfl
 ·obtain ⟨r,st,en,m,p0,th,pl,tm,sv,es,tms,k,sk,ms,mt,rfl,hR,hM,hps,hsk,h700,qN,q⟩:=h
  obtain ⟨⟨dx,h1⟩,h2,h3,h4,h5,h6⟩:=id hR
  obtain ⟨m1,m2,m3⟩:=id hM
  have nd:=m8.nd
  have r1:bi 1 _:=hr.mono (by decide)
  have hs16:sizeLine=16777216:=sizeLine_eq
  refine ⟨_,ae (cz (aS (PW.pt (iJ (aD jJ (pv 1) (aq ao (aG (pv 0) rfl) af (fun _ _=>rfl)) (aF _)) (fZ (aD gb (bv Mt T.cl hr (pv 0) (ad (pv 1) ag)) (pv 2) (aF _))))) (aj (ay cn)) aH)) <|
   ae (dX PassesOwn.never rfl (tO (by rfl) henum (ad (pv 3) ag) (pk_cons (aE aX (pv 1) af) pk_nil)) (cL (n:=2) rfl (az (au (i:=4) nd rfl (Or.inl rfl)) (az (au (i:=5) nd rfl (Or.inl rfl)) bV)))
    (aj (aS (PW.pt (iJ (aD dL (pv 4) (aq ao (aG (pv 0) rfl) af (fun _ _=>rfl)) (aF _)) (fZ (aD gb (bv Mt T.cl hr (pv 0) (ad (pv 4) ag)) (aq ao (pv 5) af (fun _ _=>rfl)) (aF _)))))
     (aj (ay (cP Mi hr T.mgC (ad (aG (pv 0) rfl) (ad (aE iw (bv Mu T.cl r1 (pv 0) (ad (aE bR (pv 4) af) ag)) (bc gF (by rfl) htup ca (ad (bO cT (pv 3) (bP (aE bR (aE bR (pv 4) (pv 1)) af)) cx) ag))) ag))))) aH))) <|
   aj (ay (cP Mi hr T.mgC (ad (aG (pv 0) rfl) (ad (aG (pv 0) rfl) ag)))),?_⟩
  dsimp only [bj,Cx.nox]
  have main:(pl <= p0 -> ba pl tm tms p0=.int th) -> k <= tms.length:=fun hz=>by
   rcases hsk with h | h
   ·by_cases hk:k <= tms.length
    ·exact hk
    ·have:=hz (by lia)
     rw [bZ pl tm tms (.inr (by lia))] at this
     cases this
   ·lia
  refine ah fun K_ hK_=>?_
  refine ⟨fun σ' H'=>σ'=[some (.ref r),some (.int p0),some (.int th),some (.ref m),none,none] /\ H'=H /\ (pl <= p0 -> ba pl tm tms p0=.int th),?_,?_⟩
  ·refine ⟨_,rfl,_,rfl,ex5 r C dx _ _ ⟨rfl,h1,T.cl,T.nS,dJ _ _,st,_,_,_,rfl,rfl,SqT.of h2,at0,_,_,rfl,rfl,_,rfl,?_⟩⟩
   by_cases hgo:¬ (pl <= p0 -> ba pl tm tms p0=.int th)
   ·have h1':pl <= p0:=Classical.byContradiction fun z=>hgo fun y=>absurd y z
    have h2':ba pl tm tms p0 ≠ .int th:=fun z=>hgo fun _=>z
    refine bE (fun _=>?_) (fun z=>absurd (decide_eq_true h1') z)
    refine ⟨_,rfl,ex3 r dx _ ⟨rfl,h1,rfl,_,rfl,ex9 r st en pl tm sv es tms _ ⟨rfl,hR,_,rfl,gR pl tm tms _ th,_,rfl,?_⟩⟩⟩
    exact bE (fun _=>qN h1' h2') (fun z=>absurd (by rw [decide_eq_false h2']; rfl) z)
   ·have hgo:=Classical.not_not.mp hgo
    refine bE (fun z=>?_) (fun _=>aV ⟨rfl,rfl,hgo⟩)
    have z:=of_decide_eq_true z
    have hte:=hgo z
    refine ⟨_,rfl,ex3 r dx _ ⟨rfl,h1,rfl,_,rfl,ex9 r st en pl tm sv es tms _ ⟨rfl,hR,_,rfl,?_⟩⟩⟩
    rw [hte]
    exact ⟨rfl,_,rfl,mB rfl ⟨rfl,rfl,fun _=>rfl⟩⟩
  rintro σ' H0 ⟨rfl,rfl,hgo⟩
  have hk:=main hgo
  have q:=q hgo
  refine hK_ _ _ (ah fun K_ hK_=>?_)
  refine ⟨_,rfl,_,rfl,_,_,rfl,rfl,ex3 m _ _ ⟨rfl,rfl,SqT.of m1,jZ (K:=K) (xs:=ms.map V.ref) (fun i σ Hx=>∃ (v4 v5:Option V),σ=[some (V.ref r),some (V.int p0),some (V.int th),some (V.ref m),v4,v5] /\ ar H0 Hx /\ i <= sk + cp (tms.drop k) (mt.drop sk)) ⟨none,none,rfl,ar.refl H0,Nat.zero_le _⟩ ?_ ?_ ?_⟩⟩
  ·rintro i σ Hx ⟨v4,v5,rfl,sx,_⟩
   exact SqT.of (sx _ _ m1)
  ·rintro i x p σ Hx hx hp ⟨v4,v5,rfl,sx,hi⟩
   rw [List.getElem?_map] at hx
   cases he:ms[i]? with
   | none=>rw [he] at hx; cases hx
   | some e =>
    rw [he] at hx
    cases hx
    have hil:i < ms.length:=(List.getElem?_eq_some_iff.mp he).1
    have hit:i < mt.length:=by lia
    have ht:=List.getElem?_eq_getElem hit
    obtain ⟨d,hd⟩:=m3 i e _ he ht
    generalize mt[i]=t at ht hd
    have s1:=ar.new (o:=.tup [.int (p0 + 1 + (i:Int)),.ref e]) hp
    have e1:upd Hx p (.tup [.int (p0 + 1 + (i:Int)),.ref e]) p=some (.tup [.int (p0 + 1 + (i:Int)),.ref e]):=ai
    refine ⟨p,_,rfl,SqT.of e1,rfl,_,_,rfl,_,_,rfl,rfl,?_⟩
    generalize upd Hx p (.tup [.int (p0 + 1 + (i:Int)),.ref e])=H2 at s1 e1 ⊢
    have sH:=sx.trans s1
    refine ⟨_,rfl,_,rfl,ex5 r C dx _ _ ⟨rfl,sH _ _ h1,T.cl,T.nS,dJ _ _,st,_,_,_,rfl,rfl,SqT.of (sH _ _ h2),at0,_,_,rfl,rfl,_,rfl,?_⟩⟩
    by_cases his:i < sk
    ·refine bE (fun z=>absurd (of_decide_eq_true z) (by lia)) (fun _=>?_)
     exact aV ⟨_,_,rfl,sH,by lia⟩
    refine bE (fun _=>?_) (fun z=>absurd (decide_eq_true (show pl < p0 + 1 + (i:Int) by lia)) z)
    refine ⟨_,rfl,ex3 r dx _ ⟨rfl,sH _ _ h1,rfl,_,rfl,ex9 r st en pl tm sv es tms _ ⟨rfl,hR.same sH,_,rfl,ex4 e _ _ _ ⟨rfl,rfl,SqT.of (sH _ _ hd),at0,?_⟩⟩⟩⟩
    have hci:=lG (tms.drop k) (mt.drop sk)
    rw [List.length_drop] at hci
    have hki:k + (i - sk) <= tms.length:=by lia
    have key:=rN pl tm tms (k + (i - sk)) t hki
    rw [show pl + ((k + (i - sk):Nat):Int) + 1=p0 + 1 + (i:Int) by lia] at key
    have hTd:(tms.drop k)[i - sk]?=tms[k + (i - sk)]?:=List.getElem?_drop ..
    have hMd:(mt.drop sk)[i - sk]?=some t:=by rw [List.getElem?_drop,show sk + (i - sk)=i by lia]; exact ht
    refine ⟨gR pl tm tms _ t,_,rfl,?_⟩
    by_cases hc:ba pl tm tms (p0 + 1 + (i:Int))=.int t
    ·have hmore:=iE (i:=i - sk) (by lia) hMd (hTd.trans (key.mp hc))
     rw [hc]
     exact mB rfl ⟨_,_,rfl,sH,by lia⟩
    ·have hstop:cp (tms.drop k) (mt.drop sk)=i - sk:=iF (by lia) hMd (by rw [hTd]; exact fun z=>hc (key.mpr z))
     have hdd:(mt.drop sk).length=mt.length - sk:=List.length_drop ..
     have hfe:bn tms (mt.drop sk) k es (ms.drop sk)=es.take (k + (i - sk)) ++ ms.drop i:=by unfold bn; rw [hstop,if_neg (by lia),List.drop_drop,show sk + (i - sk)=i by lia]
     have hft:bn tms (mt.drop sk) k tms (mt.drop sk)=tms.take (k + (i - sk)) ++ mt.drop i:=by unfold bn; rw [hstop,if_neg (by lia),List.drop_drop,show sk + (i - sk)=i by lia]
     rw [hfe,hft] at q
     refine bE (fun _=>?_) (fun z=>absurd (by rw [decide_eq_false hc]; rfl) z)
     refine ⟨_,rfl,ex5 r C dx _ _ ⟨rfl,sH _ _ h1,T.cl,T.nS,dJ _ _,_,rfl,ex3 r dx _ ⟨rfl,sH _ _ h1,rfl,_,rfl,_,_,rfl,rfl,r,st,en,pl,tm,sv,es,tms,k + (i - sk),?_,hR.same sH,fun t1 H3 s3 e3=>?_⟩⟩⟩
     ·show [V.ref r,V.int (p0 + 1 + (i:Int) - 1)]=[V.ref r,V.int (pl + ((k + (i - sk):Nat):Int))]
      rw [show p0 + 1 + (i:Int) - 1=pl + ((k + (i - sk):Nat):Int) by lia]
     refine ⟨_,rfl,_,rfl,_,rfl,_,_,rfl,rfl,_,_,rfl,rfl,_,rfl,m,_,rfl,s3 _ _ (sH _ _ m1),fun t2 H4 s4 e4=>?_⟩
     rw [show p0 + 1 + (i:Int) - p0 - 1=(i:Int) by lia,jt] at e4
     refine ⟨t2,_,rfl,SqT.of e4,?_⟩
     have hdl:(ms.drop i).length <= ms.length:=by rw [List.length_drop]; lia
     have htl:(es.take (k + (i - sk))).length <= es.length:=by rw [List.length_take]; lia
     refine (ex4 t1 t2 _ _ ⟨rfl,rfl,s4 _ _ e3,e4,by simp only [List.length_map]; lia,fun t3 H5 s5 e5=>?_⟩)
     rw [<- List.map_append] at e5
     have sH5:=((sH.trans s3).trans s4).trans s5
     intro r9 dx9 nr9 ndx9 nex9
     have nr9':upd H5 dx9 (.own r9) r9=none:=by rw [aw nex9.symm]; exact nr9
     have s9:ar H5 (upd (upd H5 dx9 (.own r9)) r9 (.ins C dx9 [])):=(ar.new ndx9).trans (ar.new nr9')
     refine ⟨r9,dx9,st,t3,_,rfl,ai,s9 _ _ e5,fun H6 k6 e6=>⟨rfl,?_⟩⟩
     have sm:ar H5 H6:=fun b o h=>k6 b o (ak h nr9) (s9 b o h)
     have s06:=sH5.trans sm
     refine q r9 t3 H6 s06 ⟨⟨dx9,e6⟩,s06 _ _ h2,sm _ _ e5,?_,?_,?_⟩
     ·rw [List.length_append,List.length_append,List.length_take,List.length_take,List.length_drop,List.length_drop,h4,m2]
     ·refine ent_cat (by rw [List.length_take,List.length_take,h4]) (vf _ fun i e t he ht=>?_) (vg _ fun i e t he ht=>?_)
      ·obtain ⟨d,hd⟩:=h5 i e t he ht
       exact ⟨d,s06 _ _ hd⟩
      ·obtain ⟨d,hd⟩:=m3 i e t he ht
       exact ⟨d,s06 _ _ hd⟩
     ·rw [List.length_append]; lia
  ·rintro σ Hx ⟨v4,v5,rfl,sx,hi⟩
   rw [List.length_map] at hi
   have hdd:(mt.drop sk).length=mt.length - sk:=List.length_drop ..
   have hce:cp (tms.drop k) (mt.drop sk)=(mt.drop sk).length:=Nat.le_antisymm (qg _ _) (by lia)
   have hfe:bn tms (mt.drop sk) k es (ms.drop sk)=es:=by unfold bn; rw [if_pos hce]
   have hft:bn tms (mt.drop sk) k tms (mt.drop sk)=tms:=by unfold bn; rw [if_pos hce]
   rw [hfe,hft] at q
   refine hK_ _ _ ?_
   refine ⟨_,rfl,ex5 r C dx _ _ ⟨rfl,sx _ _ h1,T.cl,T.nS,dJ _ _,_,rfl,ex5 r C dx _ _ ⟨rfl,sx _ _ h1,T.cl,T.nE,jr _ _,?_⟩⟩⟩
   intro r9 dx9 nr9 ndx9 nex9
   have nr9':upd Hx dx9 (.own r9) r9=none:=by rw [aw nex9.symm]; exact nr9
   have s9:ar Hx (upd (upd Hx dx9 (.own r9)) r9 (.ins C dx9 [])):=(ar.new ndx9).trans (ar.new nr9')
   refine (ex5 r9 dx9 st en _ ⟨rfl,ai,s9 _ _ (sx _ _ h3),fun H6 k6 e6=>⟨rfl,?_⟩⟩)
   have sm:ar Hx H6:=fun b o h=>k6 b o (ak h nr9) (s9 b o h)
   have s06:=sx.trans sm
   exact q r9 en H6 s06 ⟨⟨dx9,e6⟩,s06 _ _ h2,s06 _ _ h3,h4,fun i e t he ht=>by
    obtain ⟨d,hd⟩:=h5 i e t he ht
    exact ⟨d,s06 _ _ hd⟩,h6⟩
end
end K41B
namespace K41
open PySem L2
open K41T (Kvs Las Wk aU ci cu cm dv aO bp Eqv cb cv gJ)
abbrev o9:Stmt:=aT (top 91) 2
abbrev vh:Stmt:=aT (top 91) 4
abbrev pb:Stmt:=aT (top 91) 5
abbrev vi:Stmt:=aT (top 96) 1
abbrev lH:Stmt:=aT (top 96) 3
abbrev jv:Stmt:=aT (top 96) 4
abbrev pe:Stmt:=aT (top 96) 5
abbrev vj:Stmt:=aT (top 96) 6
abbrev lI:Stmt:=aT (top 96) 8
abbrev pf:Stmt:=aT (top 73) 7
def lJ (CW:Addr):Sp:=fun us H Q _=>∃ (o dx kr:Addr) (t s t2:Int) (v:V),us=[.ref o,.int t2] /\ H o=some (.ins CW dx (flW t v s kr)) /\ ∀ H',BtO o H H' -> H' o=some (.ins CW dx (flW t2 .non s kr)) -> Q .non H'
def pi (CW:Addr):Sp:=fun us H Q _=>∃ (o dx kr:Addr) (t s s2:Int) (v:V),us=[.ref o,.int s2] /\ H o=some (.ins CW dx (flW t v s kr)) /\ ∀ H',BtO o H H' -> H' o=some (.ins CW dx (flW t v s2 kr)) -> Q .non H'
def lK (CW:Addr):Sp:=fun us H Q _=>∃ (o dx kr kr2:Addr) (t s:Int) (v:V),us=[.ref o,.ref kr2] /\ H o=some (.ins CW dx (flW t v s kr)) /\ ∀ H',BtO o H H' -> H' o=some (.ins CW dx (flW t v s kr2)) -> Q .non H'
def lL (K:PySem.W.Frag) (c:Cs):Sp:=fun us H Q _=>∃ g:Gs,us=[.ref g.m] /\ bB K c H g /\ Q (.ref g.kr) H
def jw (K:PySem.W.Frag) (c:Cs):Sp:=fun us H Q _=>∃ g:Gs,us=[.ref g.m] /\ bB K c H g /\ Q (.bl false) H
def fF (K:PySem.W.Frag) (c:Cs):Sp:=fun us H Q _=>∃ (g:Gs) (x:V),us=[.ref g.m,x] /\ bB K c H g /\ ∀ H',bB K c H' { g with kn:=x } -> BtO g.m H H' -> Q .non H'
def lM (K:PySem.W.Frag) (c:Cs):Sp:=fun us H Q _=>∃ (g:Gs) (t:Int),us=[.ref g.m,.int t] /\ bB K c H g /\ ∀ H',bB K c H' { g with t:=t,v:=.non,kn:=.non } -> Fr g H H' -> Q .non H'
def pj (K:PySem.W.Frag) (c:Cs):Sp:=fun us H Q _=>∃ (g:Gs) (x:V),us=[.ref g.m,x] /\ bB K c H g /\ g.n <= 900 /\ ∀ H',bB K c H' { g with n:=g.n + 1 } -> Fr g H H' -> Q .non H'
section
variable {K:PySem.W.Frag} {c:Cs} {H H':Hp} {g:Gs}
theorem BtO.frM (e:BtO g.m H H'):Fr g H H':=fun x u n _ _ _ _ h=>e _ _ n h
theorem BtO.frW (e:BtO g.wr H H'):Fr g H H':=fun x u _ n _ _ _ h=>e _ _ n h
theorem BtO.frR (e:BtO g.rl H H'):Fr g H H':=fun x u _ _ n _ _ h=>e _ _ n h
theorem bB.setM {dx:Addr} {kn:V} {qu:Int} (h:bB K c H g) (e:BtO g.m H H') (hm:H' g.m=some (.ins c.M dx ({ g with kn:=kn,qu:=qu }:Gs).flm)):bB K c H' { g with kn:=kn,qu:=qu }:=by
 obtain ⟨dy,h1⟩:=h.ob
 obtain ⟨rs,h2,h3⟩:=h.rc
 have N:=h.ne
 have k:=TkZ.ins e h1
 exact ⟨⟨dx,hm⟩,h.wg.keep (fun u q=>e _ _ N.wm q) (fun u q=>e _ _ N.km q) k,aU.keepT (fun u q=>e _ _ N.bm q) (fun u q=>e _ _ N.dm q) (fun u q=>e _ _ N.lm q) k h.tb,⟨rs,e _ _ N.rm h2,h3⟩,h.gv.ins e h1⟩
theorem bB.setW {dx:Addr} {t:Int} {v:V} (h:bB K c H g) (e:BtO g.wr H H') (hw:H' g.wr=some (.ins c.W dx (flW t v g.s g.kr))):bB K c H' { g with t:=t,v:=v }:=by
 obtain ⟨dy,h1⟩:=h.ob
 obtain ⟨rs,h2,h3⟩:=h.rc
 obtain ⟨⟨dw,h4⟩,dk,h5⟩:=id h.wg.wo
 have N:=h.ne
 have k:=TkZ.ins e h4
 exact ⟨⟨dy,e _ _ N.wm.symm h1⟩,⟨⟨⟨dx,hw⟩,dk,e _ _ N.kw h5⟩,h.wg.so.tkz k,k.t _ _ h.wg.ho,bq k.t h.wg.eo,h.wg.el,h.wg.ps,h.wg.ok,h.wg.kl,h.wg.ll⟩,aU.keepT (fun u q=>e _ _ N.bw q) (fun u q=>e _ _ N.dw q) (fun u q=>e _ _ N.lw q) k h.tb,⟨rs,e _ _ N.rw' h2,h3⟩,h.gv.ins e h4⟩
theorem bB.setR {rs:List V} {n:Nat} (h:bB K c H g) (e:BtO g.rl H H') (hr:H' g.rl=some (.lst rs)) (hl:rs.length <= n):bB K c H' { g with n:=n }:=by
 obtain ⟨dy,h1⟩:=h.ob
 obtain ⟨rs0,h2,h3⟩:=h.rc
 have N:=h.ne
 have k:=TkZ.lst e h2
 exact ⟨⟨dy,e _ _ N.rm.symm h1⟩,h.wg.keep (fun u q=>e _ _ N.rw'.symm q) (fun u q=>e _ _ N.kr q) k,aU.keepT (fun u q=>e _ _ N.br q) (fun u q=>e _ _ N.dr q) (fun u q=>e _ _ N.lr q) k h.tb,⟨rs,hr,hl⟩,h.gv.recd e⟩
end
section
variable {P:Program} {w:World} {K:PySem.W.Frag} {mg:Str -> Option Value} {base:Heap} {CH CM CT CW CR:Addr}
theorem scWRise:ax ["self","term"] ["self","term"] (am o9):=fsc (by decide +kernel)
theorem vk {f:Addr} {fd:FuncData} (F:Fun K "rise_to" "Written.rise_to" o9 f fd) (T:ClW K mg CW):aP P w K mg base CX0 1 f fd ["self","term"] (lJ CW):=by
 refine F.ok scWRise (fun vs H Q E h=>?_) (fun cdv A outer s H vs Q E hr h=>?_)
 ·obtain ⟨o,dx,kr,t,s,t2,v,rfl,_⟩:=h
  rfl
 ·obtain ⟨o,dx,kr,t,s,t2,v,rfl,hO,q⟩:=h
  refine ⟨_,ae (bg (pv 0) (pv 1) rfl) <| aj (bg (pv 0) cn rfl),?_⟩
  dsimp only [bj,Cx.nox]
  refine ⟨_,rfl,_,rfl,ex4 o CW dx _ ⟨rfl,hO,T.cl,T.nT,(by rw [iC]; decide),?_⟩⟩
  rw [flW_pt]
  refine ⟨_,rfl,ex4 o CW dx _ ⟨rfl,ai,T.cl,T.nV,(by rw [iC]; decide),?_⟩⟩
  rw [flW_pv]
  exact q _ (BtO.upd.trans BtO.upd) ai
theorem scWSet:ax ["self","place"] ["self","place"] (am vh):=fsc (by decide +kernel)
theorem ok_wset {f:Addr} {fd:FuncData} (F:Fun K "settle_to" "Written.settle_to" vh f fd) (T:ClW K mg CW):aP P w K mg base CX0 1 f fd ["self","place"] (pi CW):=by
 refine F.ok scWSet (fun vs H Q E h=>?_) (fun cdv A outer s H vs Q E hr h=>?_)
 ·obtain ⟨o,dx,kr,t,s,t2,v,rfl,_⟩:=h
  rfl
 ·obtain ⟨o,dx,kr,t,s,t2,v,rfl,hO,q⟩:=h
  refine ⟨_,aj (bg (pv 0) (pv 1) rfl),?_⟩
  dsimp only [bj,Cx.nox]
  refine ⟨_,rfl,_,rfl,ex4 o CW dx _ ⟨rfl,hO,T.cl,T.nS,(by rw [iC]; decide),?_⟩⟩
  rw [flW_ps]
  exact q _ BtO.upd ai
theorem scWKeep:ax ["self","row"] ["self","row"] (am pb):=fsc (by decide +kernel)
theorem vm {f:Addr} {fd:FuncData} (F:Fun K "keep_row" "Written.keep_row" pb f fd) (T:ClW K mg CW):aP P w K mg base CX0 1 f fd ["self","row"] (lK CW):=by
 refine F.ok scWKeep (fun vs H Q E h=>?_) (fun cdv A outer s H vs Q E hr h=>?_)
 ·obtain ⟨o,dx,kr,kr2,t,s,v,rfl,_⟩:=h
  rfl
 ·obtain ⟨o,dx,kr,kr2,t,s,v,rfl,hO,q⟩:=h
  refine ⟨_,aj (bg (pv 0) (pv 1) rfl),?_⟩
  dsimp only [bj,Cx.nox]
  refine ⟨_,rfl,_,rfl,ex4 o CW dx _ ⟨rfl,hO,T.cl,T.nK,(by rw [iC]; decide),?_⟩⟩
  rw [flW_pk]
  exact q _ BtO.upd ai
theorem scMRow:ax ["self"] ["self"] (am vi):=fsc (by decide +kernel)
theorem ok_mrow {f:Addr} {fd:FuncData} (F:Fun K "row" "Mind.row" vi f fd) (TM:ClM K mg CM) (TW:ClW K mg CW):aP P w K mg base CX0 1 f fd ["self"] (lL K ⟨CH,CM,CT,CW,CR⟩):=by
 refine F.ok scMRow (fun vs H Q E h=>?_) (fun cdv A outer s H vs Q E hr h=>?_)
 ·obtain ⟨g,rfl,_⟩:=h
  rfl
 ·obtain ⟨g,rfl,G,q⟩:=h
  refine ⟨_,aj <| ay <| aG (aG (pv 0) rfl) rfl,?_⟩
  dsimp only [bj,Cx.nox]
  obtain ⟨dy,h2⟩:=G.ob
  obtain ⟨⟨dz,h3⟩,_⟩:=id G.wg.wo
  exact ⟨_,rfl,ex5 g.m CM dy _ _ ⟨rfl,h2,TM.cl,TM.n3,eF,ex5 g.wr CW dz _ _ ⟨rfl,h3,TW.cl,TW.nK,flW_k,q⟩⟩⟩
theorem vn:ax ["self"] ["self"] (am lH):=fsc (by decide +kernel)
theorem rP {f:Addr} {fd:FuncData} (F:Fun K "is_chair" "Mind.is_chair" lH f fd) (TM:ClM K mg CM):aP P w K mg base CX0 1 f fd ["self"] (jw K ⟨CH,CM,CT,CW,CR⟩):=by
 refine F.ok vn (fun vs H Q E h=>?_) (fun cdv A outer s H vs Q E hr h=>?_)
 ·obtain ⟨g,rfl,_⟩:=h
  rfl
 ·obtain ⟨g,rfl,G,q⟩:=h
  refine ⟨_,aj <| ay <| bC bW (aG (pv 0) rfl) aN (aF _),?_⟩
  dsimp only [bj,Cx.nox]
  obtain ⟨dy,h2⟩:=G.ob
  refine ⟨_,rfl,ex5 g.m CM dy _ _ ⟨rfl,h2,TM.cl,TM.n6,flG_r,rfl,?_⟩⟩
  rw [show decide (V.str (Str.ofString "plain")=V.str (Str.ofString "chair"))=false by decide +kernel]
  exact q
theorem rQ:ax ["self","chair"] ["self","chair"] (am jv):=fsc (by decide +kernel)
theorem pk {f:Addr} {fd:FuncData} (F:Fun K "follow" "Mind.follow" jv f fd) (TM:ClM K mg CM):aP P w K mg base CX0 1 f fd ["self","chair"] (fF K ⟨CH,CM,CT,CW,CR⟩):=by
 refine F.ok rQ (fun vs H Q E h=>?_) (fun cdv A outer s H vs Q E hr h=>?_)
 ·obtain ⟨g,x,rfl,_⟩:=h
  rfl
 ·obtain ⟨g,x,rfl,G,q⟩:=h
  refine ⟨_,ae (bg (pv 0) aN rfl) <| ae (bg (pv 0) (pv 1) rfl) <| aj (bg (pv 0) cn rfl),?_⟩
  dsimp only [bj,Cx.nox]
  obtain ⟨dy,h2⟩:=G.ob
  refine ⟨_,rfl,ex4 g.m CM dy _ ⟨rfl,h2,TM.cl,TM.n6,(by rw [iB]; decide),?_⟩⟩
  rw [flG_pr]
  refine ⟨_,rfl,_,rfl,ex4 g.m CM dy _ ⟨rfl,ai,TM.cl,TM.n7,(by rw [iB]; decide),?_⟩⟩
  rw [flG_pc]
  refine ⟨_,rfl,ex4 g.m CM dy _ ⟨rfl,ai,TM.cl,TM.n11,(by rw [iB]; decide),?_⟩⟩
  rw [flG_pse]
  have b3:=(BtO.upd (o:=g.m) (H:=H) (u:=.ins CM dy (flG g.nm g.wa g.sz g.wr g.rl g.bd (.str (Str.ofString "plain")) g.kn g.qu g.yl g.sd .non g.gl g.fl g.sl))).trans ((BtO.upd (u:=.ins CM dy (flG g.nm g.wa g.sz g.wr g.rl g.bd (.str (Str.ofString "plain")) x g.qu g.yl g.sd .non g.gl g.fl g.sl))).trans (BtO.upd (u:=.ins CM dy (flG g.nm g.wa g.sz g.wr g.rl g.bd (.str (Str.ofString "plain")) x g.qu g.yl g.sd .non g.gl g.fl g.sl))))
  exact q _ (G.setM (dx:=dy) (kn:=x) (qu:=g.qu) b3 ai) b3
theorem scMRise:ax ["self","term"] ["self","term"] (am pe):=fsc (by decide +kernel)
theorem vo {f:Addr} {fd:FuncData} (F:Fun K "rise_to" "Mind.rise_to" pe f fd) (TM:ClM K mg CM) (TW:ClW K mg CW) (Mr:bu P w K mg base CW 1 "rise_to" ["self","term"] (lJ CW)) (Mf:bu P w K mg base CM 1 "follow" ["self","chair"] (fF K ⟨CH,CM,CT,CW,CR⟩)):aP P w K mg base CX0 2 f fd ["self","term"] (lM K ⟨CH,CM,CT,CW,CR⟩):=by
 refine F.ok scMRise (fun vs H Q E h=>?_) (fun cdv A outer s H vs Q E hr h=>?_)
 ·obtain ⟨g,t,rfl,_⟩:=h
  rfl
 ·obtain ⟨g,t,rfl,G,q⟩:=h
  refine ⟨_,ae (bJ (bv Mr TW.cl hr (aG (pv 0) rfl) (ad (pv 1) ag))) <| aj (bJ (bv Mf TM.cl hr (pv 0) (ad cn ag))),?_⟩
  dsimp only [bj,Cx.nox]
  obtain ⟨dy,h2⟩:=G.ob
  obtain ⟨⟨dz,h3⟩,_⟩:=id G.wg.wo
  refine ⟨_,rfl,ex5 g.m CM dy _ _ ⟨rfl,h2,TM.cl,TM.n3,eF,ex3 g.wr dz _ ⟨rfl,h3,jg,_,rfl,ex7 g.wr dz g.kr g.t g.s t g.v ⟨rfl,h3,fun H1 b1 e1=>?_⟩⟩⟩⟩
  have G1:bB K ⟨CH,CM,CT,CW,CR⟩ H1 { g with t:=t,v:=.non }:=G.setW b1 e1
  obtain ⟨dy1,h21⟩:=G1.ob
  refine ⟨_,rfl,ex3 g.m dy1 _ ⟨rfl,h21,fP,{ g with t:=t,v:=.non },.non,rfl,G1,fun H2 G2 b2=>?_⟩⟩
  exact q H2 G2 ((BtO.frW b1).trans (BtO.frM b2))
theorem scMRec:ax ["self","thing"] ["self","thing"] (am vj):=fsc (by decide +kernel)
theorem ok_mrec {f:Addr} {fd:FuncData} (F:Fun K "record" "Mind.record" vj f fd) (TM:ClM K mg CM):aP P w K mg base CX0 1 f fd ["self","thing"] (pj K ⟨CH,CM,CT,CW,CR⟩):=by
 refine F.ok scMRec (fun vs H Q E h=>?_) (fun cdv A outer s H vs Q E hr h=>?_)
 ·obtain ⟨g,x,rfl,_⟩:=h
  rfl
 ·obtain ⟨g,x,rfl,G,hn,q⟩:=h
  refine ⟨_,aj (bJ (jS PySem.F.plainAttrs_list PySem.F.slot_list_append PySem.F.type_list_append fA (aG (pv 0) rfl) (ad (pv 1) ag))),?_⟩
  dsimp only [bj,Cx.nox]
  obtain ⟨dy,h2⟩:=G.ob
  obtain ⟨rs,h3,h4⟩:=G.rc
  refine ⟨_,rfl,ex5 g.m CM dy _ _ ⟨rfl,h2,TM.cl,TM.n4,flG_rl,.inl ⟨rfl,_,SqL.of h3⟩,_,rfl,ex3 g.rl rs x ⟨rfl,rfl,h3,by lia,fun H1 k1 e1=>?_⟩⟩⟩
  have b1:BtO g.rl H H1:=fun b u n e=>k1 b u n e
  exact q H1 (G.setR b1 e1 (by rw [List.length_append]; show rs.length + 1 <= _; lia)) (BtO.frR b1)
end
open K41B (eG ba bn Ms)
abbrev lN:Stmt:=top 75
abbrev vp:Stmt:=top 77
abbrev jx:Stmt:=top 78
theorem Paired.dropS {α β:Type} {R:α -> β -> Prop} {as:List α} {bs:List β} (h:Paired R as bs) (n:Nat):Paired R (as.drop n) (bs.drop n):=by
 induction h generalizing n with
 | nil=>rw [List.drop_nil,List.drop_nil]; exact .nil
 | cons r h ih =>
  cases n with
  | zero=>exact .cons r h
  | succ k=>exact ih k
theorem Paired.catS {α β:Type} {R:α -> β -> Prop} {as cs:List α} {bs ds:List β} (h:Paired R as bs) (h2:Paired R cs ds):Paired R (as ++ cs) (bs ++ ds):=by
 induction h with
 | nil=>exact h2
 | cons r _ ih=>exact .cons r ih
theorem Paired.fill {α β:Type} {R:α -> β -> Prop} {as ms:List α} {bs ns:List β} (T M:List Int) (k:Nat) (h:Paired R as bs) (h2:Paired R ms ns):Paired R (bn T M k as ms) (bn T M k bs ns):=by
 unfold bn
 split
 ·exact h
 ·exact Paired.catS (Paired.take' h _) (Paired.dropS h2 _)
abbrev aJ (xs:List En):List Int:=xs.map (·.1)
theorem jy {H:Hp} {es:List Addr} {xs:List En} (h:Paired (EnO H) es xs):∀ (i:Nat) (e:Addr) (t:Int),es[i]?=some e -> (aJ xs)[i]?=some t -> ∃ d,H e=some (.tup [.int t,.ref d]):=by
 induction h with
 | nil=>intro i e t he; simp at he
 | cons r _ ih =>
  intro i e t he ht
  cases i with
  | zero =>
   cases he; cases ht
   obtain ⟨d,h1,_⟩:=r
   exact ⟨d,h1⟩
  | succ i=>exact ih i e t he ht
section
variable {K:PySem.W.Frag} {c:Cs} {H H':Hp} {g:Gs}
theorem bB.row (h:bB K c H g):∃ hh aa,eG c.R H g.kr g.st g.en g.pl g.tm [.ref g.b,.ref hh,.ref aa] g.es (aJ g.xs):=by
 obtain ⟨⟨dw,h4⟩,dk,h5⟩:=id h.wg.wo
 obtain ⟨hh,aa,o,ps,as,h1,_⟩:=h.wg.so
 have el:=h.wg.el
 exact ⟨hh,aa,⟨dk,h5⟩,h1,h.wg.ho,by rw [List.length_map]; exact Paired.length h.wg.eo,jy h.wg.eo,by lia⟩
theorem bB.setK {dx dk kr2 en2:Addr} {es2:List Addr} {xs2:List En} (h:bB K c H g) (e:BtO g.wr H H') (hw:H' g.wr=some (.ins c.W dx (flW g.t g.v g.s kr2))) (hr:H kr2=some (.ins c.R dk (flR g.st en2))) (he:H en2=some (.tup (es2.map V.ref))) (hp:Paired (EnO H) es2 xs2) (hl:es2.length <= 60) (ht:xs2.take (g.s - g.pl).toNat=g.xs.take (g.s - g.pl).toNat):bB K c H' { g with kr:=kr2,en:=en2,es:=es2,xs:=xs2 }:=by
 obtain ⟨dy,h1⟩:=h.ob
 obtain ⟨rs,h2,h3⟩:=h.rc
 obtain ⟨⟨dw,h4⟩,dk0,h5⟩:=id h.wg.wo
 have N:=h.ne
 have k:=TkZ.ins e h4
 have nk:kr2 ≠ g.wr:=(fq "term" h4 hr (hZ fk hJ)).symm
 refine ⟨⟨dy,e _ _ N.wm.symm h1⟩,⟨⟨⟨dx,hw⟩,dk,e _ _ nk hr⟩,h.wg.so.tkz k,k.t _ _ he,bq k.t hp,hl,h.wg.ps,h.wg.ok,h.wg.kl,h.wg.ll⟩,?_,⟨rs,e _ _ N.rw' h2,h3⟩,h.gv.ins e h4⟩
 have:=aU.keepT (fun u q=>e _ _ N.bw q) (fun u q=>e _ _ N.dw q) (fun u q=>e _ _ N.lw q) k h.tb
 show aU K c.T H' g.bd g.d g.l (dI g.hk g.hq xs2 (g.s - g.pl).toNat).1 (dI g.hk g.hq xs2 (g.s - g.pl).toNat).2
 unfold dI
 rw [ht]
 exact this
theorem rR (hk:List (Key × V)) (hq:List (Str × Int × V)) (xs:List En) (i j:Nat) (h:i <= j):dI hk hq xs j=eV (dI hk hq xs i) ((xs.drop i).take (j - i)):=by
 unfold dI eV
 rw [<- List.foldl_append]
 have:xs.take j=xs.take i ++ (xs.drop i).take (j - i):=by
  obtain ⟨k,rfl⟩:=Nat.le.dest h
  rw [show i + k - i=k by lia,List.take_add]
 rw [this]
end
def pp (C:Addr):Sp:=fun us H Q _=>∃ (r st en:Addr) (pl tm:Int) (sv:List V) (es:List Addr) (tms:List Int) (i j:Nat),us=[.ref r,.int (pl + i),.int (pl + j)] /\ eG C H r st en pl tm sv es tms /\ i <= j /\ j <= es.length /\ ∀ t H',ar H H' -> H' t=some (.tup (((es.drop i).take (j - i)).map V.ref)) -> Q (.ref t) H'
theorem qi (es:List Addr) (i j:Nat) (h1:i <= j) (h2:j <= es.length):cj (es.map V.ref) (some (i:Int)) (some (j:Int))=((es.drop i).take (j - i)).map V.ref:=by
 unfold cj
 rw [List.length_map,HT.df,HT.df,<- List.map_drop,<- List.map_take,Nat.min_eq_left (by lia),Nat.min_eq_left (by lia)]
def jz (K:PySem.W.Frag) (c:Cs):Sp:=fun us H Q _=>∃ (g:Gs) (s2:Int),us=[.ref g.m,.int s2] /\ bB K c H g /\ g.s <= s2 /\ s2 <= g.pl + g.es.length /\ ∀ (r:Addr) (H':Hp),bB K c H' { g with s:=s2 } -> Fr g H H' -> Q (.ref r) H'
def dC (H:Hp) (p:Addr) (nm fr:Str) (t:Int) (y:Bool) (pc bt:Int):Prop:=∃ q,H p=some (.tup [.ref q]) /\ H q=some (.tup [.str "took",.str nm,.str fr,.int t,.bl y,.int pc,.int bt])
def kh (H:Hp) (lt:Addr) (fr to:Str) (lm be th:Int) (me:Addr) (up bt:Int):Prop:=H lt=some (.tup [.str "rows",.str fr,.str to,.int lm,.int be,.int th,.ref me,.int up,.int bt])
def pw (K:PySem.W.Frag) (c:Cs):Sp:=fun us H Q _=>∃ (g:Gs) (lt me:Addr) (fr to:Str) (lm be th up bt pc:Int) (y:Bool),us=[.ref g.m,.ref lt,.bl y,.int pc] /\ bB K c H g /\ kh H lt fr to lm be th me up bt /\ ∀ p H',ar H H' -> dC H' p g.nm fr g.t y pc bt -> Q (.ref p) H'
def gS (K:PySem.W.Frag) (c:Cs):Sp:=fun us H Q _=>∃ (g:Gs) (lt me:Addr) (fr to:Str) (lm be th up bt:Int),us=[.ref g.m,.ref lt] /\ bB K c H g /\ kh H lt fr to lm be th me up bt /\ ∀ H',bB K c H' { g with kn:=.str fr,qu:=0 } -> BtO g.m H H' -> Q .non H'
def gz (s up pc:Int):Int:=if s < (if pc < up then pc else up) then (if pc < up then pc else up) else s
def lO (K:PySem.W.Frag) (c:Cs):Sp:=fun us H Q _=>∃ (g:Gs) (lt me:Addr) (fr to:Str) (be th up bt:Int) (ms:List Addr) (ys:List En) (k sk:Nat),us=[.ref g.m,.ref lt] /\ bB K c H g /\ kh H lt fr to g.t be th me up bt /\ H me=some (.tup (ms.map V.ref)) /\ Paired (EnO H) ms ys /\ be + sk=g.pl + k /\ (sk=0 \/ k=0) /\ g.es.length + ms.length <= 60 /\ g.n <= 900 /\
 (g.pl <= be -> ba g.pl g.tm (aJ g.xs) be ≠ .int th -> ∀ p H',bB K c H' { g with kn:=.str fr,qu:=0 } -> Fr g H H' -> dC H' p g.nm fr g.t false g.s bt -> Q (.ref p) H') /\
 ((g.pl <= be -> ba g.pl g.tm (aJ g.xs) be=.int th) -> (bn (aJ g.xs) ((aJ ys).drop sk) k g.xs (ys.drop sk)).take (g.s - g.pl).toNat=g.xs.take (g.s - g.pl).toNat /\
  ∀ p kr2 en2 H',bB K c H' { g with kn:=.str fr,qu:=0,kr:=kr2,en:=en2,es:=bn (aJ g.xs) ((aJ ys).drop sk) k g.es (ms.drop sk),xs:=bn (aJ g.xs) ((aJ ys).drop sk) k g.xs (ys.drop sk),n:=g.n + 1,s:=gz g.s up (be + ms.length) } -> Fr g H H' -> dC H' p g.nm fr g.t true (be + ms.length) bt -> Q (.ref p) H')
theorem bMinS:bootBuiltins "min"=some (.builtin "min"):=by decide +kernel
theorem atm1 {α:Type} {a b c d e f g h i:α}:atI [a,b,c,d,e,f,g,h,i] (-1)=some i:=eZ [a,b,c,d,e,f,g,h] i
theorem at5S {α:Type} {a b c d e f:α} {r:List α}:atI (a :: b :: c :: d :: e :: f :: r) 5=some f:=bN (j:=5) rfl
theorem at6S {α:Type} {a b c d e f g:α} {r:List α}:atI (a :: b :: c :: d :: e :: f :: g :: r) 6=some g:=bN (j:=6) rfl
theorem at7S {α:Type} {a b c d e f g h:α} {r:List α}:atI (a :: b :: c :: d :: e :: f :: g :: h :: r) 7=some h:=bN (j:=7) rfl
theorem rS {α:Type} {T M:List Int} {k:Nat} {es ms:List α} (h1:es.length=T.length) (h2:ms.length=M.length) (hk:k <= T.length):k + M.length <= (bn T M k es ms).length /\ (bn T M k es ms).length <= es.length + ms.length:=by
 have c1:=K41B.qg (T.drop k) M
 have c2:=K41B.lG (T.drop k) M
 rw [List.length_drop] at c2
 unfold bn
 split
 ·lia
 ·rw [List.length_append,List.length_take,List.length_drop]; lia
section
variable {P:Program} {w:World} {K:PySem.W.Frag} {mg:Str -> Option Value} {base:Heap} {CH CM CT CW CR:Addr}
theorem scRBetw:ax ["self","before","place"] ["self","before","place"] (am pf):=fsc (by decide +kernel)
theorem vq {f:Addr} {fd:FuncData} (F:Fun K "between" "Row.between" pf f fd) (T:ClR K mg CR):aP P w K mg base CX0 1 f fd ["self","before","place"] (pp CR):=by
 refine F.ok scRBetw (fun vs H Q E h=>?_) (fun cdv A outer s H vs Q E hr h=>?_)
 ·obtain ⟨r,st,en,pl,tm,sv,es,tms,i,j,rfl,_⟩:=h
  rfl
 ·obtain ⟨r,st,en,pl,tm,sv,es,tms,i,j,rfl,⟨⟨dx,h1⟩,h2,h3,h4,h5,h6⟩,hij,hj,q⟩:=h
  refine ⟨_,aj <| ay <| bO cT (aG (pv 0) rfl) (bP (aE bR (pv 1) (aq ao (aG (pv 0) rfl) af (fun _ _=>rfl)))) (bP (aE bR (pv 2) (aq ao (aG (pv 0) rfl) af (fun _ _=>rfl)))),?_⟩
  dsimp only [bj,Cx.nox]
  refine ⟨_,rfl,ex5 r CR dx _ _ ⟨rfl,h1,T.cl,T.nE,K41B.jr _ _,_,rfl,_,rfl,ex5 r CR dx _ _ ⟨rfl,h1,T.cl,T.nS,K41B.dJ _ _,st,_,_,_,rfl,rfl,SqT.of h2,at0,_,_,rfl,rfl,_,rfl,_,rfl,_,rfl,ex5 r CR dx _ _ ⟨rfl,h1,T.cl,T.nS,K41B.dJ _ _,st,_,_,_,rfl,rfl,SqT.of h2,at0,_,_,rfl,rfl,_,rfl,en,_,rfl,h3,fun t H' s' e'=>q t H' s' ?_⟩⟩⟩⟩
  rw [show pl + (i:Int) - pl=(i:Int) by lia,show pl + (j:Int) - pl=(j:Int) by lia,qi _ _ _ hij hj] at e'
  exact e'
theorem m9:ax ["self","place","entries"] ["self","place"] (am lI):=fsc (by decide +kernel)
theorem rT {f:Addr} {fd:FuncData} (F:Fun K "settle_to" "Mind.settle_to" lI f fd) (TM:ClM K mg CM) (TW:ClW K mg CW) (TR:ClR K mg CR) (Mr:bu P w K mg base CM 1 "row" ["self"] (lL K ⟨CH,CM,CT,CW,CR⟩)) (Ms:bu P w K mg base CM 1 "settled" ["self"] (jl K ⟨CH,CM,CT,CW,CR⟩)) (Mb:bu P w K mg base CR 1 "between" ["self","before","place"] (pp CR)) (Mw:bu P w K mg base CW 1 "settle_to" ["self","place"] (pi CW)) (Fa:aR P w K mg base 4 "asks_done" ["table","entries"] (spAD K CT)):aP P w K mg base CX0 5 f fd ["self","place"] (jz K ⟨CH,CM,CT,CW,CR⟩):=by
 refine F.ok m9 (fun vs H Q E h=>?_) (fun cdv A outer s H vs Q E hr h=>?_)
 ·obtain ⟨g,s2,rfl,_⟩:=h
  rfl
 ·obtain ⟨g,s2,rfl,G,hs,hl,q⟩:=h
  have nd:=m9.nd
  have r1:bi 1 _:=hr.mono (by decide)
  refine ⟨_,ae (aB (i:=2) nd rfl (Or.inl rfl) (bv Mb TR.cl r1 (bF Mr TM.cl r1 (pv 0)) (ad (bF Ms TM.cl r1 (pv 0)) (ad (pv 1) ag)))) <|
   ae (bJ (bv Mw TW.cl r1 (aG (pv 0) rfl) (ad (pv 1) ag))) <|
   aj <| ay <| aC Fa hr (ad (aG (pv 0) rfl) (ad (pv 2) ag)),?_⟩
  dsimp only [bj,Cx.nox]
  obtain ⟨dy,h2⟩:=G.ob
  obtain ⟨⟨dz,h3⟩,dk,h5⟩:=id G.wg.wo
  obtain ⟨hh,aa,R⟩:=G.row
  have ps:=G.wg.ps
  have hxl:g.es.length=g.xs.length:=Paired.length G.wg.eo
  obtain ⟨i,hi⟩:=Int.eq_ofNat_of_zero_le (show 0 <= g.s - g.pl by lia)
  obtain ⟨j,hj⟩:=Int.eq_ofNat_of_zero_le (show 0 <= s2 - g.pl by lia)
  have hij:i <= j:=by lia
  refine ah fun K_ hK_=>?_
  refine ⟨_,rfl,ex3 g.m dy _ ⟨rfl,h2,je,g,rfl,G,ex3 g.kr dk _ ⟨rfl,h5,jh,_,rfl,ex3 g.m dy _ ⟨rfl,h2,da,g,rfl,G,_,rfl,g.kr,g.st,g.en,g.pl,g.tm,_,g.es,aJ g.xs,i,j,?_,R,hij,by lia,fun t H1 s1 e1=>?_⟩⟩⟩⟩
  ·show [V.ref g.kr,V.int g.s,V.int s2]=[V.ref g.kr,V.int (g.pl + (i:Int)),V.int (g.pl + (j:Int))]
   rw [show g.pl + (i:Int)=g.s by lia,show g.pl + (j:Int)=s2 by lia]
  have G1:=G.same s1
  refine hK_ _ _ (ah fun K_ hK_=>?_)
  refine ⟨_,rfl,ex5 g.m CM dy _ _ ⟨rfl,s1 _ _ h2,TM.cl,TM.n3,eF,ex3 g.wr dz _ ⟨rfl,s1 _ _ h3,gQ,_,rfl,g.wr,dz,g.kr,g.t,g.s,s2,g.v,rfl,s1 _ _ h3,fun H2 b2 e2=>?_⟩⟩⟩
  have N:=G.ne
  have k2:=TkZ.ins b2 (s1 _ _ h3)
  have m2:H2 g.m=some (.ins CM dy g.flm):=b2 _ _ N.wm.symm (s1 _ _ h2)
  have T2:=aU.keepT (fun u q=>b2 _ _ N.bw q) (fun u q=>b2 _ _ N.dw q) (fun u q=>b2 _ _ N.lw q) k2 G1.tb
  have hel:=G.wg.el
  have hkl:=G.wg.kl
  have hll:=G.wg.ll
  have rl:=dZ (g.xs.take (g.s - g.pl).toNat) (aO g.hk,bp g.hq)
  have tl:(g.xs.take (g.s - g.pl).toNat).length <= 60:=by rw [List.length_take]; lia
  have t2l:((g.es.drop i).take (j - i)).length <= 400:=by rw [List.length_take,List.length_drop]; lia
  have okT:=eP (s:=(aO g.hk,bp g.hq)) G.wg.ok (g.xs.take (g.s - g.pl).toNat)
  have r1':=rl.1
  have r2':=rl.2
  simp only at r1' r2'
  have et:H2 t=some (.tup (((g.es.drop i).take (j - i)).map V.ref)):=k2.t _ _ e1
  have ep:Paired (EnO H2) ((g.es.drop i).take (j - i)) ((g.xs.drop i).take (j - i)):=Paired.take' (Paired.dropS (bq k2.t G1.wg.eo) _) _
  refine hK_ _ _ ?_
  refine ⟨_,rfl,ex5 g.m CM dy _ _ ⟨rfl,m2,TM.cl,TM.n5,flG_b,_,rfl,g.bd,g.d,g.l,t,g.tab,(g.es.drop i).take (j - i),(g.xs.drop i).take (j - i),rfl,T2,okT,(by unfold Gs.tab dI; lia),(by unfold Gs.tab dI; lia),et,ep,t2l,fun r H3 T3 b3=>?_⟩⟩
  have N1:g.m ≠ g.d /\ g.m ≠ g.l /\ g.wr ≠ g.d /\ g.wr ≠ g.l:=⟨N.dm.symm,N.lm.symm,N.dw.symm,N.lw.symm⟩
  obtain ⟨rs,hr2,hr3⟩:=G1.rc
  obtain ⟨⟨dx6,h6⟩,h7,⟨lk,h8,h9⟩,h10⟩:=id T2
  have k3:TkZ H2 H3:=⟨fun a xs e=>b3 _ _ e (aM e h7 (by intro z; cases z)) (aM e h8 (by intro z; cases z)),fun a o y e=>b3 _ _ e (aM e h7 (by intro z; cases z)) (aM e h8 (by intro z; cases z))⟩
  have k23:=k2.trans k3
  have hrk:H2 g.kr=some (.ins CR dk (flR g.st g.en)):=b2 _ _ N.kw (s1 _ _ h5)
  have gv2:=G1.gv.ins b2 (s1 _ _ h3)
  have gv3:Gv H3 g.gl g.fl g.sl g.rl:=⟨b3 _ _ gv2.eg (aM gv2.eg h7 (by intro z; cases z)) (aM gv2.eg h8 (by intro z; cases z)),b3 _ _ gv2.ef (aM gv2.ef h7 (by intro z; cases z)) (aM gv2.ef h8 (by intro z; cases z)),b3 _ _ gv2.es (aM gv2.es h7 (by intro z; cases z)) (aM gv2.es h8 (by intro z; cases z)),gv2.ng,gv2.nf,gv2.ns⟩
  refine q r H3 ⟨⟨dy,b3 _ _ m2 N1.1 N1.2.1⟩,⟨⟨⟨dz,b3 _ _ e2 N1.2.2.1 N1.2.2.2⟩,dk,b3 _ _ hrk (aM hrk h7 (by intro z; cases z)) (aM hrk h8 (by intro z; cases z))⟩,G1.wg.so.tkz k23,k23.t _ _ G1.wg.ho,bq k23.t G1.wg.eo,hel,show g.pl <= s2 by lia,G.wg.ok,hkl,hll⟩,?_,⟨rs,b3 _ _ (b2 _ _ N.rw' hr2) N.dr.symm N.lr.symm,hr3⟩,gv3⟩ (fun x u n1 n2 n3 n4 n5 e=>b3 _ _ (b2 _ _ n2 (s1 _ _ e)) n4 n5)
  show aU K CT H3 g.bd g.d g.l (dI g.hk g.hq g.xs (s2 - g.pl).toNat).1 (dI g.hk g.hq g.xs (s2 - g.pl).toNat).2
  rw [rR g.hk g.hq g.xs (g.s - g.pl).toNat (s2 - g.pl).toNat (by lia),show (g.s - g.pl).toNat=i by lia,show (s2 - g.pl).toNat=j by lia]
  rw [show g.tab=dI g.hk g.hq g.xs i by unfold Gs.tab; rw [show (g.s - g.pl).toNat=i by lia]] at T3
  exact T3
theorem scTook:ax ["mind","letter","yes","place"] ["mind","letter","yes","place"] (am vp):=fsc (by decide +kernel)
theorem ok_took {f:Addr} {fd:FuncData} (F:Fun K "took" "took" vp f fd) (TM:ClM K mg CM) (TW:ClW K mg CW):aP P w K mg base CX0 1 f fd ["mind","letter","yes","place"] (pw K ⟨CH,CM,CT,CW,CR⟩):=by
 refine F.ok scTook (fun vs H Q E h=>?_) (fun cdv A outer s H vs Q E hr h=>?_)
 ·obtain ⟨g,lt,me,fr,to,lm,be,th,up,bt,pc,y,rfl,_⟩:=h
  rfl
 ·obtain ⟨g,lt,me,fr,to,lm,be,th,up,bt,pc,y,rfl,G,L,q⟩:=h
  have hs16:sizeLine=16777216:=sizeLine_eq
  have L:H lt=some (.tup [.str "rows",.str fr,.str to,.int lm,.int be,.int th,.ref me,.int up,.int bt]):=L
  refine ⟨_,aj <| ay <| aQ (ad (aQ (ad aN (ad (aG (pv 0) rfl) (ad (aq ao (pv 1) af (fun _ _=>rfl)) (ad (aG (aG (pv 0) rfl) rfl) (ad (pv 2) (ad (pv 3) (ad (aq ao (pv 1) (md iM af) (fun _ _=>rfl)) ag)))))))) ag),?_⟩
  dsimp only [bj,Cx.nox]
  obtain ⟨dy,h2⟩:=G.ob
  obtain ⟨⟨dz,h3⟩,_⟩:=id G.wg.wo
  refine ⟨_,rfl,ex5 g.m CM dy _ _ ⟨rfl,h2,TM.cl,TM.n0,uH,_,rfl,ex4 lt _ _ _ ⟨rfl,rfl,SqT.of L,at1,_,rfl,ex5 g.m CM dy _ _ ⟨rfl,h2,TM.cl,TM.n3,eF,ex5 g.wr CW dz _ _ ⟨rfl,h3,TW.cl,TW.nT,fk,_,rfl,_,rfl,_,rfl,_,rfl,ex4 lt _ _ _ ⟨rfl,rfl,SqT.of L,atm1,(show 7 <= sizeLine by lia),fun p2 H2 n2 s2 e2=>⟨(show 1 <= sizeLine by lia),fun p H3 n3 s3 e3=>?_⟩⟩⟩⟩⟩⟩⟩
  exact q p H3 (s2.trans s3) ⟨p2,e3,s3 _ _ e2⟩
theorem rV:ax ["mind","letter"] ["mind","letter"] (am jx):=fsc (by decide +kernel)
theorem px {f:Addr} {fd:FuncData} (F:Fun K "follow_sender" "follow_sender" jx f fd) (TM:ClM K mg CM) (Mf:bu P w K mg base CM 1 "follow" ["self","chair"] (fF K ⟨CH,CM,CT,CW,CR⟩)):aP P w K mg base CX0 2 f fd ["mind","letter"] (gS K ⟨CH,CM,CT,CW,CR⟩):=by
 refine F.ok rV (fun vs H Q E h=>?_) (fun cdv A outer s H vs Q E hr h=>?_)
 ·obtain ⟨g,lt,me,fr,to,lm,be,th,up,bt,rfl,_⟩:=h
  rfl
 ·obtain ⟨g,lt,me,fr,to,lm,be,th,up,bt,rfl,G,L,q⟩:=h
  have L:H lt=some (.tup [.str "rows",.str fr,.str to,.int lm,.int be,.int th,.ref me,.int up,.int bt]):=L
  refine ⟨_,ae (bJ (bv Mf TM.cl hr (pv 0) (ad (aq ao (pv 1) af (fun _ _=>rfl)) ag))) <| aj (bg (pv 0) af rfl),?_⟩
  dsimp only [bj,Cx.nox]
  obtain ⟨dy,h2⟩:=G.ob
  refine ah fun K_ hK_=>?_
  refine ⟨_,rfl,ex3 g.m dy _ ⟨rfl,h2,fP,_,rfl,ex4 lt _ _ _ ⟨rfl,rfl,SqT.of L,at1,g,.str fr,rfl,G,fun H1 G1 b1=>?_⟩⟩⟩
  obtain ⟨dy1,h21⟩:=G1.ob
  refine hK_ _ _ ?_
  refine ⟨_,rfl,ex4 g.m CM dy1 _ ⟨rfl,h21,TM.cl,TM.n8,(by rw [iB]; decide),?_⟩⟩
  rw [flG_pq]
  have b2:BtO g.m H1 (upd H1 g.m (.ins CM dy1 (flG g.nm g.wa g.sz g.wr g.rl g.bd (.str "plain") (.str fr) 0 g.yl g.sd .non g.gl g.fl g.sl))):=BtO.upd
  exact q _ (G1.setM (dx:=dy1) (kn:=.str fr) (qu:=0) b2 ai) (b1.trans b2)
end
section
variable {P:Program} {w:World} {K:PySem.W.Frag} {mg:Str -> Option Value} {base:Heap} {CH CM CT CW CR:Addr}
abbrev nRH:List Str:=["mind","letter","before","entries","row","place","settled"]
theorem lP:ax nRH ["mind","letter"] (am lN):=fsc (by decide +kernel)
theorem vt {f:Addr} {fd:FuncData} (F:Fun K "rows_heard" "rows_heard" lN f fd) (hlen:mg "len"=none) (hmin:mg "min"=none) (TM:ClM K mg CM) (TW:ClW K mg CW) (TR:ClR K mg CR) (Mc:bu P w K mg base CM 1 "is_chair" ["self"] (jw K ⟨CH,CM,CT,CW,CR⟩)) (Ff:aR P w K mg base 2 "follow_sender" ["mind","letter"] (gS K ⟨CH,CM,CT,CW,CR⟩))
  (Mro:bu P w K mg base CM 1 "row" ["self"] (lL K ⟨CH,CM,CT,CW,CR⟩)) (Mfi:bu P w K mg base CR 3 "filled" ["self","before","there","entries"] (K41B.ju CR)) (Ft:aR P w K mg base 1 "took" ["mind","letter","yes","place"] (pw K ⟨CH,CM,CT,CW,CR⟩)) (Mse:bu P w K mg base CM 1 "settled" ["self"] (jl K ⟨CH,CM,CT,CW,CR⟩))
  (Mk:bu P w K mg base CW 1 "keep_row" ["self","row"] (lK CW)) (Mre:bu P w K mg base CM 1 "record" ["self","thing"] (pj K ⟨CH,CM,CT,CW,CR⟩)) (Mst:bu P w K mg base CM 5 "settle_to" ["self","place"] (jz K ⟨CH,CM,CT,CW,CR⟩)):aP P w K mg base CX0 6 f fd ["mind","letter"] (lO K ⟨CH,CM,CT,CW,CR⟩):=by
 refine F.ok lP (fun vs H Q E h=>?_) (fun cdv A outer s H vs Q E hr h=>?_)
 ·obtain ⟨g,lt,me,fr,to,be,th,up,bt,ms,ys,k,sk,rfl,_⟩:=h
  rfl
 ·obtain ⟨g,lt,me,fr,to,be,th,up,bt,ms,ys,k,sk,rfl,G,L,hme,hpa,hks,hk0,h60,hn,qN,qY⟩:=h
  have nd:=lP.nd
  have hs16:sizeLine=16777216:=sizeLine_eq
  have r1:bi 1 _:=hr.mono (by decide)
  have r2:bi 2 _:=hr.mono (by decide)
  have r3:bi 3 _:=hr.mono (by decide)
  have r5:bi 5 _:=hr.mono (by decide)
  have L:H lt=some (.tup [.str "rows",.str fr,.str to,.int g.t,.int be,.int th,.ref me,.int up,.int bt]):=L
  refine ⟨_,ae (aS (aD dY (aq ao (pv 1) af (fun _ _=>rfl)) (aG (aG (pv 0) rfl) rfl) (aF _)) bY aH) <|
   ae (aS (cY (bF Mc TM.cl r1 (pv 0))) bY aH) <|
   ae (bJ (aC Ff r2 (ad (pv 0) (ad (pv 1) ag)))) <|
   ae (aB (i:=2) nd rfl (Or.inl rfl) (aq ao (pv 1) af (fun _ _=>rfl))) <|
   ae (aB (i:=3) nd rfl (Or.inl rfl) (aq ao (pv 1) af (fun _ _=>rfl))) <|
   ae (aB (i:=4) nd rfl (Or.inl rfl) (bv Mfi TR.cl r3 (bF Mro TM.cl r1 (pv 0)) (ad (pv 2) (ad (aq ao (pv 1) af (fun _ _=>rfl)) (ad (pv 3) ag))))) <|
   ae (aS (iI (kq (pv 4))) (aj (ay (aC Ft r1 (ad (pv 0) (ad (pv 1) (ad dU (ad (bF Mse TM.cl r1 (pv 0)) ag))))))) aH) <|
   ae (bJ (bv Mk TW.cl r1 (aG (pv 0) rfl) (ad (pv 4) ag))) <|
   ae (bJ (bv Mre TM.cl r1 (pv 0) (ad (aQ (ad aN (ad (aq ao (pv 1) af (fun _ _=>rfl)) (ad (aq ao (pv 1) af (fun _ _=>rfl)) (ad (pv 2) (ad (aq ao (pv 1) af (fun _ _=>rfl)) (ad (pv 3) ag))))))) ag))) <|
   ae (aB (i:=5) nd rfl (Or.inl rfl) (aE aX (pv 2) (aA aK (by rfl) hlen PySem.boot_len (ad (pv 3) ag)))) <|
   ae (aB (i:=6) nd rfl (Or.inl rfl) (aA (jK rfl) (by rfl) hmin bMinS (ad (aq ao (pv 1) af (fun _ _=>rfl)) (ad (pv 5) ag)))) <|
   ae (aS (aD dL (pv 6) (bF Mse TM.cl r1 (pv 0)) (aF _)) (aj (bJ (bv Mst TM.cl r5 (pv 0) (ad (pv 6) ag)))) aH) <|
   aj (ay (aC Ft r1 (ad (pv 0) (ad (pv 1) (ad dU (ad (pv 5) ag)))))),?_⟩
  dsimp only [bj,Cx.nox]
  obtain ⟨dy,h2⟩:=G.ob
  obtain ⟨⟨dz,h3⟩,dk,h5⟩:=id G.wg.wo
  refine ah fun K_ hK_=>?_
  refine ⟨_,rfl,ex4 lt _ _ _ ⟨rfl,rfl,SqT.of L,ei,_,rfl,ex5 g.m CM dy _ _ ⟨rfl,h2,TM.cl,TM.n3,eF,ex5 g.wr CW dz _ _ ⟨rfl,h3,TW.cl,TW.nT,fk,_,_,rfl,rfl,_,rfl,?_⟩⟩⟩⟩
  rw [decide_eq_false (Int.lt_irrefl _)]
  refine aV ?_
  refine hK_ _ _ (ah fun K_ hK_=>?_)
  refine ⟨_,rfl,ex3 g.m dy _ ⟨rfl,h2,ig,g,rfl,G,_,rfl,aV ?_⟩⟩
  refine hK_ _ _ (ah fun K_ hK_=>?_)
  refine ⟨_,rfl,_,rfl,ex10 g lt me fr to g.t be th up bt ⟨rfl,G,L,fun H1 G1 b1=>?_⟩⟩
  have k1:=TkZ.ins b1 h2
  have L1:=k1.t _ _ L
  have f1:Fr g H H1:=BtO.frM b1
  have hxl:g.es.length=g.xs.length:=Paired.length G.wg.eo
  have hyl:ms.length=ys.length:=Paired.length hpa
  refine hK_ _ _ (ah fun K_ hK_=>?_)
  refine ⟨_,rfl,ex4 lt _ _ _ ⟨rfl,rfl,SqT.of L1,kX,?_⟩⟩
  refine hK_ _ _ (ah fun K_ hK_=>?_)
  refine ⟨_,rfl,ex4 lt _ _ _ ⟨rfl,rfl,SqT.of L1,at6S,?_⟩⟩
  obtain ⟨dy1,h21⟩:=G1.ob
  obtain ⟨⟨dz1,h31⟩,dk1,h51⟩:=id G1.wg.wo
  obtain ⟨hh,aa,R⟩:=G1.row
  have hme1:=k1.t _ _ hme
  have hpa1:=bq k1.t hpa
  refine hK_ _ _ (ah fun K_ hK_=>?_)
  refine ⟨_,rfl,ex3 g.m dy1 _ ⟨rfl,h21,je,{ g with kn:=.str fr,qu:=0 },rfl,G1,ex3 g.kr dk1 _ ⟨rfl,h51,jH,_,rfl,_,rfl,ex4 lt _ _ _ ⟨rfl,rfl,SqT.of L1,at5S,_,rfl,g.kr,g.st,g.en,me,be,th,g.pl,g.tm,_,g.es,aJ g.xs,k,sk,ms,aJ ys,rfl,R,⟨hme1,by rw [List.length_map]; exact hyl,jy hpa1⟩,hks,hk0,by lia,?_,?_⟩⟩⟩⟩
  ·intro hle hne
   refine hK_ _ _ (ah fun K_ hK_=>?_)
   refine ⟨_,rfl,_,rfl,bE (fun _=>?_) (fun z=>absurd (decide_eq_true rfl) z)⟩
   refine ⟨_,rfl,_,rfl,_,rfl,ex3 g.m dy1 _ ⟨rfl,h21,da,{ g with kn:=.str fr,qu:=0 },rfl,G1,{ g with kn:=.str fr,qu:=0 },tL lt me fr to g.t be th up bt g.s false ⟨rfl,G1,L1,fun p H2 s2 t2=>?_⟩⟩⟩
   exact qN hle hne p H2 (G1.same s2) (f1.trans (Fr.of s2)) t2
  ·intro hgo r' en' H2 s2 R2
   obtain ⟨hpre,qY⟩:=qY hgo
   have hkl:k <= g.xs.length:=by
    rcases hk0 with h | h
    ·by_cases hk:k <= g.xs.length
     ·exact hk
     ·have:=hgo (by lia)
      rw [K41B.bZ _ _ _ (.inr (by rw [List.length_map]; lia))] at this
      cases this
    ·lia
   have hes:(bn (aJ g.xs) ((aJ ys).drop sk) k g.es (ms.drop sk)).length <= g.es.length + (ms.drop sk).length /\ k + (ms.drop sk).length <= (bn (aJ g.xs) ((aJ ys).drop sk) k g.es (ms.drop sk)).length:=by
    have e1:(ms.drop sk).length=((aJ ys).drop sk).length:=by rw [List.length_drop,List.length_drop,List.length_map,hyl]
    have:=rS (T:=aJ g.xs) (M:=(aJ ys).drop sk) (k:=k) (es:=g.es) (ms:=ms.drop sk) (by rw [List.length_map]; exact hxl) e1 (by rw [List.length_map]; exact hkl)
    exact ⟨this.2,by rw [e1]; exact this.1⟩
   have hdl:(ms.drop sk).length=ms.length - sk:=List.length_drop ..
   refine hK_ _ _ (ah fun K_ hK_=>?_)
   generalize hE:bn (aJ g.xs) ((aJ ys).drop sk) k g.es (ms.drop sk)=es2 at R2 hes qY
   have hP:Paired (EnO H2) es2 (bn (aJ g.xs) ((aJ ys).drop sk) k g.xs (ys.drop sk)):=by
    rw [<- hE]
    exact Paired.fill _ _ _ (bq (Tk.of s2) G1.wg.eo) (Paired.dropS (bq (Tk.of s2) hpa1) _)
   have hxe:es2.length=(bn (aJ g.xs) ((aJ ys).drop sk) k g.xs (ys.drop sk)).length:=Paired.length hP
   generalize bn (aJ g.xs) ((aJ ys).drop sk) k g.xs (ys.drop sk)=xs2 at hpre hP qY hxe
   obtain ⟨⟨dr,hr2⟩,_,he2,_⟩:=R2
   have G2:=G1.same s2
   obtain ⟨dy2,h22⟩:=G2.ob
   obtain ⟨⟨dz2,h32⟩,dk2,h52⟩:=id G2.wg.wo
   refine ⟨_,rfl,_,rfl,bE (fun z=>absurd (of_decide_eq_true z) (by intro z; cases z)) (fun _=>?_)⟩
   refine hK_ _ _ (ah fun K_ hK_=>?_)
   refine ⟨_,rfl,ex5 g.m CM dy2 _ _ ⟨rfl,h22,TM.cl,TM.n3,eF,ex3 g.wr dz2 _ ⟨rfl,h32,ii,_,rfl,ex7 g.wr dz2 g.kr r' g.t g.s g.v ⟨rfl,h32,fun H3 b3 e3=>?_⟩⟩⟩⟩
   have G3:bB K ⟨CH,CM,CT,CW,CR⟩ H3 { g with kn:=.str fr,qu:=0,kr:=r',en:=en',es:=es2,xs:=xs2 }:=G2.setK b3 e3 hr2 he2 hP (by lia) hpre
   have k3:TkZ H2 H3:=TkZ.ins b3 h32
   have L3:=k3.t _ _ (s2 _ _ L1)
   have hme3:=k3.t _ _ (s2 _ _ hme1)
   have f3:Fr g H H3:=f1.trans ((Fr.of s2).trans (BtO.frW b3))
   obtain ⟨dy3,h23⟩:=G3.ob
   refine hK_ _ _ (ah fun K_ hK_=>?_)
   refine ⟨_,rfl,ex3 g.m dy3 _ ⟨rfl,h23,jG,_,rfl,ex4 lt _ _ _ ⟨rfl,rfl,SqT.of L3,ei,_,rfl,ex4 lt _ _ _ ⟨rfl,rfl,SqT.of L3,at1,_,rfl,_,rfl,ex4 lt _ _ _ ⟨rfl,rfl,SqT.of L3,at5S,_,rfl,(show 6 <= sizeLine by lia),fun pr H4 n4 s4 e4=>?_⟩⟩⟩⟩⟩
   refine ⟨{ g with kn:=.str fr,qu:=0,kr:=r',en:=en',es:=es2,xs:=xs2 },.ref pr,rfl,G3.same s4,hn,fun H5 G5 f5=>?_⟩
   have f5':Fr g H4 H5:=f5
   have k5:TkZ H4 H5:=f5.tkz (G3.same s4)
   have L5:=k5.t _ _ (s4 _ _ L3)
   have hme5:=k5.t _ _ (s4 _ _ hme3)
   have f05:Fr g H H5:=f3.trans ((Fr.of s4).trans f5')
   refine hK_ _ _ (ah fun K_ hK_=>?_)
   refine ⟨_,rfl,_,rfl,me,_,rfl,.inr (SqT.of hme5),_,_,rfl,rfl,?_⟩
   refine hK_ _ _ (ah fun K_ hK_=>?_)
   rw [List.length_map]
   refine ⟨_,rfl,ex4 lt _ _ _ ⟨rfl,rfl,SqT.of L5,at7S,_,rfl,_,_,rfl,?_⟩⟩
   obtain ⟨dy5,h25⟩:=G5.ob
   refine hK_ _ _ (ah fun K_ hK_=>?_)
   refine ⟨_,rfl,_,rfl,ex3 g.m dy5 _ ⟨rfl,h25,da,{ g with kn:=.str fr,qu:=0,kr:=r',en:=en',es:=es2,xs:=xs2,n:=g.n + 1 },rfl,G5,_,_,rfl,rfl,_,rfl,bE (fun hs=>?_) (fun hs=>?_)⟩⟩
   ·have hs:=of_decide_eq_true hs
    have hs':g.s < (if be + (ms.length:Int) < up then be + (ms.length:Int) else up):=hs
    have hge:=G.wg.ps
    have hle2:(if be + (ms.length:Int) < up then be + (ms.length:Int) else up) <= be + ms.length:=by split <;> lia
    have eS:gz g.s up (be + ms.length)=(if be + (ms.length:Int) < up then be + (ms.length:Int) else up):=if_pos hs'
    refine ⟨_,rfl,ex3 g.m dy5 _ ⟨rfl,h25,gO,_,rfl,{ g with kn:=.str fr,qu:=0,kr:=r',en:=en',es:=es2,xs:=xs2,n:=g.n + 1 },_,rfl,G5,show g.s <= _ from Int.le_of_lt hs',?_,fun r6 H6 G6 f6=>?_⟩⟩
    ·show (if be + (ms.length:Int) < up then be + (ms.length:Int) else up) <= g.pl + (es2.length:Int)
     lia
    have f6':Fr g H5 H6:=f6
    have k6:TkZ H5 H6:=f6.tkz G5
    refine hK_ _ _ ?_
    refine ⟨_,rfl,_,rfl,_,rfl,{ g with kn:=.str fr,qu:=0,kr:=r',en:=en',es:=es2,xs:=xs2,n:=g.n + 1,s:=(if be + (ms.length:Int) < up then be + (ms.length:Int) else up) },lt,me,fr,to,g.t,be,th,up,bt,be + ms.length,true,rfl,G6,k6.t _ _ L5,fun p H7 s7 t7=>?_⟩
    refine qY p r' en' H7 ?_ (f05.trans (f6'.trans (Fr.of s7))) t7
    rw [eS]
    exact G6.same s7
   ·have hs':¬ g.s < (if be + (ms.length:Int) < up then be + (ms.length:Int) else up):=fun z=>hs (decide_eq_true z)
    have eS:gz g.s up (be + ms.length)=g.s:=if_neg hs'
    refine hK_ _ _ ?_
    refine ⟨_,rfl,_,rfl,_,rfl,{ g with kn:=.str fr,qu:=0,kr:=r',en:=en',es:=es2,xs:=xs2,n:=g.n + 1 },lt,me,fr,to,g.t,be,th,up,bt,be + ms.length,true,rfl,G5,L5,fun p H7 s7 t7=>?_⟩
    refine qY p r' en' H7 ?_ (f05.trans (Fr.of s7)) t7
    rw [eS]
    exact G5.same s7
end
end K41
namespace L2
open PySem
end L2
namespace K41
open PySem L2
open K41T (Kvs Las Wk aU ci cu cm dv aO bp Eqv cb cv gJ)
open K41B (eG ba bn Ms)
def gUp (g:Gs) (lm:Int):Gs:=if g.t < lm then { g with t:=lm,v:=.non,kn:=.non } else g
structure ni (H:Hp) (g:Gs) (lt me:Addr) (fr to:Str) (lm be th up bt:Int) (ms:List Addr) (ys:List En) (k sk:Nat):Prop where
 l:kh H lt fr to lm be th me up bt
 e:H me=some (.tup (ms.map V.ref))
 p:Paired (EnO H) ms ys
 ks:be + sk=g.pl + k
 k0:sk=0 \/ k=0
 el:g.es.length + ms.length <= 60
 n:g.n <= 900
def nj (g:Gs) (fr:Str) (be th up:Int) (ms:List Addr) (ys:List En) (k sk:Nat) (R:Gs -> Bool -> Int -> Prop):Prop :=
 (g.pl <= be -> ba g.pl g.tm (aJ g.xs) be ≠ .int th -> R { g with kn:=.str fr,qu:=0 } false g.s) /\
 ((g.pl <= be -> ba g.pl g.tm (aJ g.xs) be=.int th) -> (bn (aJ g.xs) ((aJ ys).drop sk) k g.xs (ys.drop sk)).take (g.s - g.pl).toNat=g.xs.take (g.s - g.pl).toNat /\
  ∀ kr2 en2,R { g with kn:=.str fr,qu:=0,kr:=kr2,en:=en2,es:=bn (aJ g.xs) ((aJ ys).drop sk) k g.es (ms.drop sk),xs:=bn (aJ g.xs) ((aJ ys).drop sk) k g.xs (ys.drop sk),n:=g.n + 1,s:=gz g.s up (be + ms.length) } true (be + ms.length))
def lQ (K:PySem.W.Frag) (c:Cs):Sp:=fun us H Q _=>∃ (H0:Hp) (g:Gs) (lt me:Addr) (fr to:Str) (be th up bt:Int) (ms:List Addr) (ys:List En) (k sk:Nat),us=[.ref g.ho,.ref lt] /\ bK K c H0 H g /\ ni H g lt me fr to g.t be th up bt ms ys k sk /\ nj g fr be th up ms ys k sk fun g' y pc=>∀ p H',bK K c H0 H' g' -> TkZ H H' -> dC H' p g.nm fr g.t y pc bt -> Q (.ref p) H'
def fG (K:PySem.W.Frag) (c:Cs) (ok:Hp -> Addr -> Prop):Sp:=fun us H Q _=>∃ (H0:Hp) (g:Gs) (lt me:Addr) (fr to:Str) (lm be th up bt:Int) (ms:List Addr) (ys:List En) (k sk:Nat),us=[.ref g.ho,.ref lt] /\ bK K c H0 H g /\ g.t <= lm /\ ni H g lt me fr to lm be th up bt ms ys k sk /\ ok H lt /\ nj (gUp g lm) fr be th up ms ys k sk fun g' y pc=>∀ p H',bK K c H0 H' g' -> TkZ H H' -> dC H' p g.nm fr lm y pc bt -> Q (.ref p) H'
theorem ni.tkz {H H':Hp} {g:Gs} {lt me:Addr} {fr to:Str} {lm be th up bt:Int} {ms:List Addr} {ys:List En} {k sk:Nat} (z:TkZ H H') (h:ni H g lt me fr to lm be th up bt ms ys k sk):ni H' g lt me fr to lm be th up bt ms ys k sk:=⟨z.t _ _ h.l,z.t _ _ h.e,bq z.t h.p,h.ks,h.k0,h.el,h.n⟩
section
variable {P:Program} {w:World} {K:PySem.W.Frag} {mg:Str -> Option Value} {base:Heap} {CH CM CT CW CR:Addr}
theorem nu:ax ["self","letter"] ["self","letter"] (am iA):=fsc (by decide +kernel)
theorem rW {f:Addr} {fd:FuncData} (F:Fun K "chair_letter" "House.chair_letter" iA f fd) (T:ClH K mg CH) (Fr:aR P w K mg base 6 "rows_heard" ["mind","letter"] (lO K ⟨CH,CM,CT,CW,CR⟩)):aP P w K mg base CX0 7 f fd ["self","letter"] (lQ K ⟨CH,CM,CT,CW,CR⟩):=by
 refine F.ok nu (fun vs H Q E h=>?_) (fun cdv A outer s H vs Q E hr h=>?_)
 ·obtain ⟨H0,g,lt,me,fr,to,be,th,up,bt,ms,ys,k,sk,rfl,_⟩:=h
  rfl
 ·obtain ⟨H0,g,lt,me,fr,to,be,th,up,bt,ms,ys,k,sk,rfl,G,L,hq⟩:=h
  refine ⟨_,ae (aS (aD bW (aq ao (pv 1) af (fun _ _=>rfl)) aN (aF _)) (aj (ay (aC Fr hr (ad (aG (pv 0) rfl) (ad (pv 1) ag))))) aH) bY,?_⟩
  obtain ⟨dx,h1⟩:=G.hb
  have l1:H lt=some (.tup [.str "rows",.str fr,.str to,.int g.t,.int be,.int th,.ref me,.int up,.int bt]):=L.l
  refine ⟨_,rfl,ex4 lt _ _ _ ⟨rfl,rfl,SqT.of l1,at0,rfl,_,rfl,?_⟩⟩
  rw [decide_eq_true rfl]
  exact bz ⟨_,rfl,g.ho,CH,dx,_,_,rfl,h1,T.cl,T.n3,gu,_,rfl,g,lt,me,fr,to,be,th,up,bt,ms,ys,k,sk,rfl,G.mo,L.l,L.e,L.p,L.ks,L.k0,L.el,L.n,
   fun a b p H' m f t=>hq.1 a b p H' (G.next f m rfl rfl rfl rfl rfl rfl rfl rfl rfl) (f.tkz G.mo) t,fun a=>⟨(hq.2 a).1,fun p kr2 en2 H' m f t=>(hq.2 a).2 kr2 en2 p H' (G.next f m rfl rfl rfl rfl rfl rfl rfl rfl rfl) (f.tkz G.mo) t⟩⟩
theorem qj:ax ["self","letter"] ["self","letter"] (am lh):=fsc (by decide +kernel)
theorem gUp_t {g:Gs} {lm:Int} (h:g.t <= lm):(gUp g lm).t=lm:=by
 unfold gUp
 split
 ·rfl
 ·lia
theorem rX {f:Addr} {fd:FuncData} (F:Fun K "heard" "House.heard" lh f fd) (T:ClH K mg CH) (TM:ClM K mg CM) (TW:ClW K mg CW) (Mr:bu P w K mg base CM 2 "rise_to" ["self","term"] (lM K ⟨CH,CM,CT,CW,CR⟩)) (Mc:bu P w K mg base CH 7 "chair_letter" ["self","letter"] (lQ K ⟨CH,CM,CT,CW,CR⟩)):aP P w K mg base CX0 8 f fd ["self","letter"] (fG K ⟨CH,CM,CT,CW,CR⟩ fun _ _=>True):=by
 refine F.ok qj (fun vs H Q E h=>?_) (fun cdv A outer s H vs Q E hr h=>?_)
 ·obtain ⟨H0,g,lt,me,fr,to,lm,be,th,up,bt,ms,ys,k,sk,rfl,_⟩:=h
  rfl
 ·obtain ⟨H0,g,lt,me,fr,to,lm,be,th,up,bt,ms,ys,k,sk,rfl,G,hlm,L,_,q⟩:=h
  have hs16:sizeLine=16777216:=sizeLine_eq
  have r2:bi 2 _:=hr.mono (by decide)
  refine ⟨_,ae (aS (aD bW (aq ao (pv 1) af (fun _ _=>rfl)) aN (aF _)) bY aH) <|
   ae (cz (aS (aD dL (aq ao (pv 1) af (fun _ _=>rfl)) (aG (aG (aG (pv 0) rfl) rfl) rfl) (aF _)) (aj (bJ (bv Mr TM.cl r2 (aG (pv 0) rfl) (ad (aq ao (pv 1) af (fun _ _=>rfl)) ag)))) aH)) <|
   ae (aS (aD fw (aq ao (pv 1) af (fun _ _=>rfl)) (aQ (ad aN (ad aN (ad aN ag)))) (by rfl)) bY aH) <|
   aj (ay (bv Mc T.cl hr (pv 0) (ad (pv 1) ag))),?_⟩
  obtain ⟨dx,h1⟩:=G.hb
  obtain ⟨dy,h2⟩:=G.mo.ob
  obtain ⟨⟨dz,h3⟩,_⟩:=id G.mo.wg.wo
  have l1:H lt=some (.tup [.str "rows",.str fr,.str to,.int lm,.int be,.int th,.ref me,.int up,.int bt]):=L.l
  refine ⟨_,rfl,ex4 lt _ _ _ ⟨rfl,rfl,SqT.of l1,at0,rfl,_,rfl,?_⟩⟩
  rw [show decide (V.str (Str.ofString "rows")=V.str (Str.ofString "look"))=false by decide +kernel]
  refine aV ⟨fun σ' H'=>σ'=[some (.ref g.ho),some (.ref lt)] /\ bK K ⟨CH,CM,CT,CW,CR⟩ H0 H' (gUp g lm) /\ TkZ H H',?_,?_⟩
  ·refine ⟨_,rfl,ex4 lt _ _ _ ⟨rfl,rfl,SqT.of l1,ei,_,rfl,ex5 g.ho CH dx _ _ ⟨rfl,h1,T.cl,T.n3,gu,ex5 g.m CM dy _ _ ⟨rfl,h2,TM.cl,TM.n3,eF,ex5 g.wr CW dz _ _ ⟨rfl,h3,TW.cl,TW.nT,fk,_,_,rfl,rfl,_,rfl,bE (fun hlt=>?_) (fun hlt=>?_)⟩⟩⟩⟩⟩
   ·have hlt:=of_decide_eq_true hlt
    refine ⟨_,rfl,g.ho,CH,dx,_,_,rfl,h1,T.cl,T.n3,gu,g.m,dy,_,rfl,h2,jf,_,rfl,ex4 lt _ _ _ ⟨rfl,rfl,SqT.of l1,ei,g,lm,rfl,G.mo,fun H1 G1 f1=>⟨rfl,?_,f1.tkz G.mo⟩⟩⟩
    unfold gUp
    rw [if_pos hlt]
    exact G.next f1 G1 rfl rfl rfl rfl rfl rfl rfl rfl rfl
   ·have hlt:¬ g.t < lm:=fun z=>hlt (decide_eq_true z)
    refine ⟨rfl,?_,TkZ.refl H⟩
    unfold gUp
    rw [if_neg hlt]
    exact G
  ·rintro σ' H1 ⟨rfl,G1,k1⟩
   have l11:=k1.t _ _ l1
   have eho:(gUp g lm).ho=g.ho:=by unfold gUp; split <;> rfl
   have epl:(gUp g lm).pl=g.pl:=by unfold gUp; split <;> rfl
   have ees:(gUp g lm).es=g.es:=by unfold gUp; split <;> rfl
   have en:(gUp g lm).n=g.n:=by unfold gUp; split <;> rfl
   have enm:(gUp g lm).nm=g.nm:=by unfold gUp; split <;> rfl
   have et:=gUp_t hlm
   obtain ⟨dx1,h11⟩:=G1.hb
   rw [eho] at h11
   refine ⟨_,rfl,ex4 lt _ _ _ ⟨rfl,rfl,SqT.of l11,at0,(show 3 <= sizeLine by lia),fun p1 H2 n1 s1 e1=>⟨p1,_,rfl,.inr (SqT.of e1),rfl,rfl,_,rfl,?_⟩⟩⟩
   rw [show inV (.str (Str.ofString "rows")) [.str (Str.ofString "saw"),.str (Str.ofString "vote"),.str (Str.ofString "gave")]=false by decide +kernel]
   have k2:=k1.trans (TkZ.of s1)
   have L2:=L.tkz k2
   refine aV ⟨_,rfl,ex3 g.ho dx1 _ ⟨rfl,s1 _ _ h11,dO,_,rfl,H0,gUp g lm,lt,me,fr,to,be,th,up,bt,ms,ys,k,sk,(by show [V.ref g.ho,V.ref lt]=[V.ref (gUp g lm).ho,V.ref lt]; rw [eho]),G1.same s1,⟨by rw [et]; exact L2.l,L2.e,L2.p,by rw [epl]; exact L2.ks,L2.k0,by rw [ees]; exact L2.el,by rw [en]; exact L2.n⟩,fun a b p H' g' z t=>?_,fun a=>⟨(q.2 a).1,fun kr2 en2 p H' g' z t=>?_⟩⟩⟩
   ·rw [enm,et] at t
    exact q.1 a b p H' g' (k2.trans z) t
   ·rw [enm,et] at t
    exact (q.2 a).2 kr2 en2 p H' g' (k2.trans z) t
theorem vv:ax ["self","letter"] ["self","letter"] (am qa):=fsc (by decide +kernel)
theorem vw {CL f:Addr} {fd:FuncData} (F:Fun K "hear" "House.hear" qa f fd) (T:ClH K mg CH) (Fc:pS P w K mg base 9 "check_letter" ["thing"] (p6 CL)) (Mh:bu P w K mg base CH 8 "heard" ["self","letter"] (fG K ⟨CH,CM,CT,CW,CR⟩ fun _ _=>True)):aP P w K mg base CX0 10 f fd ["self","letter"] (fG K ⟨CH,CM,CT,CW,CR⟩ fN):=by
 refine F.ok vv (fun vs H Q E h=>?_) (fun cdv A outer s H vs Q E hr h=>?_)
 ·obtain ⟨H0,g,lt,me,fr,to,lm,be,th,up,bt,ms,ys,k,sk,rfl,_⟩:=h
  rfl
 ·obtain ⟨H0,g,lt,me,fr,to,lm,be,th,up,bt,ms,ys,k,sk,rfl,G,hlm,L,hok,q⟩:=h
  have r8:bi 8 _:=hr.mono (by decide)
  refine ⟨_,ae (bJ (mF Fc hr tG (ad (pv 1) ag))) <| aj (ay (bv Mh T.cl r8 (pv 0) (ad (pv 1) ag))),?_⟩
  refine ⟨_,rfl,.inl ⟨lt,rfl,hok,fun H1 s1=>?_⟩⟩
  obtain ⟨dx,h1⟩:=G.hb
  exact ⟨_,rfl,ex3 g.ho dx _ ⟨rfl,s1 _ _ h1,gw,_,rfl,H0,g,lt,me,fr,to,lm,be,th,up,bt,ms,ys,k,sk,rfl,G.same s1,hlm,L.tkz (TkZ.of s1),trivial,fun a b p H' g' z t=>q.1 a b p H' g' ((TkZ.of s1).trans z) t,fun a=>⟨(q.2 a).1,fun kr2 en2 p H' g' z t=>(q.2 a).2 kr2 en2 p H' g' ((TkZ.of s1).trans z) t⟩⟩⟩
end
end K41
namespace L2
open PySem
def vx (s1 s2:Sp):Sp:=fun us H Q E=>s1 us H Q E \/ s2 us H Q E
theorem aP.or {P:Program} {w:World} {K:PySem.W.Frag} {mg:Str -> Option Value} {base:Heap} {CX:CXT} {n:Nat} {f:Addr} {fd:FuncData} {ps:List Str} {s1 s2:Sp} (a:aP P w K mg base CX n f fd ps s1) (b:aP P w K mg base CX n f fd ps s2):aP P w K mg base CX n f fd ps (vx s1 s2) :=
 ⟨fun vs H Q E h=>h.elim (a.len vs H Q E) (b.len vs H Q E),fun A outer s H args us vs Q E hr he hb hv h=>h.elim (a.run A outer s H args us vs Q E hr he hb hv) (b.run A outer s H args us vs Q E hr he hb hv)⟩
end L2
namespace K41
open PySem L2
abbrev vy:Stmt:=top 76
def gT (K:PySem.W.Frag) (c:Cs):Sp:=fun us H Q _=>∃ (g:Gs) (lt me:Addr) (fr to:Str) (lm be th up bt:Int),us=[.ref g.m,.ref lt] /\ bB K c H g /\ kh H lt fr to lm be th me up bt /\ lm < g.t /\ ∀ p H',ar H H' -> dC H' p g.nm fr g.t false g.s 0 -> Q (.ref p) H'
def dR (K:PySem.W.Frag) (c:Cs) (ok:Hp -> Addr -> Prop):Sp:=fun us H Q _=>∃ (H0:Hp) (g:Gs) (lt me:Addr) (fr to:Str) (lm be th up bt:Int),us=[.ref g.ho,.ref lt] /\ bK K c H0 H g /\ kh H lt fr to lm be th me up bt /\ lm < g.t /\ ok H lt /\ ∀ p H',ar H H' -> dC H' p g.nm fr g.t false g.s 0 -> Q (.ref p) H'
section
variable {P:Program} {w:World} {K:PySem.W.Frag} {mg:Str -> Option Value} {base:Heap} {CH CM CT CW CR:Addr}
theorem scLate:ax ["mind","letter"] ["mind","letter"] (am vy):=fsc (by decide +kernel)
theorem ok_late {f:Addr} {fd:FuncData} (F:Fun K "late" "late" vy f fd) (TM:ClM K mg CM) (TW:ClW K mg CW) (Ms:bu P w K mg base CM 1 "settled" ["self"] (jl K ⟨CH,CM,CT,CW,CR⟩)):aP P w K mg base CX0 2 f fd ["mind","letter"] (gT K ⟨CH,CM,CT,CW,CR⟩):=by
 refine F.ok scLate (fun vs H Q E h=>?_) (fun cdv A outer s H vs Q E hr h=>?_)
 ·obtain ⟨g,lt,me,fr,to,lm,be,th,up,bt,rfl,_⟩:=h
  rfl
 ·obtain ⟨g,lt,me,fr,to,lm,be,th,up,bt,rfl,G,L,_,q⟩:=h
  have hs16:sizeLine=16777216:=sizeLine_eq
  have L:H lt=some (.tup [.str "rows",.str fr,.str to,.int lm,.int be,.int th,.ref me,.int up,.int bt]):=L
  refine ⟨_,aj <| ay <| aQ (ad (aQ (ad aN (ad (aG (pv 0) rfl) (ad (aq ao (pv 1) af (fun _ _=>rfl)) (ad (aG (aG (pv 0) rfl) rfl) (ad dU (ad (bF Ms TM.cl hr (pv 0)) (ad af ag)))))))) ag),?_⟩
  obtain ⟨dy,h2⟩:=G.ob
  obtain ⟨⟨dz,h3⟩,_⟩:=id G.wg.wo
  refine ⟨_,rfl,ex5 g.m CM dy _ _ ⟨rfl,h2,TM.cl,TM.n0,uH,_,rfl,ex4 lt _ _ _ ⟨rfl,rfl,SqT.of L,at1,_,rfl,ex5 g.m CM dy _ _ ⟨rfl,h2,TM.cl,TM.n3,eF,ex5 g.wr CW dz _ _ ⟨rfl,h3,TW.cl,TW.nT,fk,_,rfl,ex3 g.m dy _ ⟨rfl,h2,da,g,rfl,G,(show 7 <= sizeLine by lia),fun p2 H2 n2 s2 e2=>⟨(show 1 <= sizeLine by lia),fun p H3 n3 s3 e3=>?_⟩⟩⟩⟩⟩⟩⟩
  exact q p H3 (s2.trans s3) ⟨p2,e3,s3 _ _ e2⟩
theorem vz {f:Addr} {fd:FuncData} (F:Fun K "rows_heard" "rows_heard" lN f fd) (TM:ClM K mg CM) (TW:ClW K mg CW) (Fl:aR P w K mg base 2 "late" ["mind","letter"] (gT K ⟨CH,CM,CT,CW,CR⟩)):aP P w K mg base CX0 3 f fd ["mind","letter"] (gT K ⟨CH,CM,CT,CW,CR⟩):=by
 refine F.ok lP (fun vs H Q E h=>?_) (fun cdv A outer s H vs Q E hr h=>?_)
 ·obtain ⟨g,lt,me,fr,to,lm,be,th,up,bt,rfl,_⟩:=h
  rfl
 ·obtain ⟨g,lt,me,fr,to,lm,be,th,up,bt,rfl,G,L0,hlt,q⟩:=h
  have L:H lt=some (.tup [.str "rows",.str fr,.str to,.int lm,.int be,.int th,.ref me,.int up,.int bt]):=L0
  refine ⟨_,ae (aS (aD dY (aq ao (pv 1) af (fun _ _=>rfl)) (aG (aG (pv 0) rfl) rfl) (aF _)) (aj (ay (aC Fl hr (ad (pv 0) (ad (pv 1) ag))))) aH) bY,?_⟩
  obtain ⟨dy,h2⟩:=G.ob
  obtain ⟨⟨dz,h3⟩,_⟩:=id G.wg.wo
  refine ⟨_,rfl,ex4 lt _ _ _ ⟨rfl,rfl,SqT.of L,ei,_,rfl,ex5 g.m CM dy _ _ ⟨rfl,h2,TM.cl,TM.n3,eF,ex5 g.wr CW dz _ _ ⟨rfl,h3,TW.cl,TW.nT,fk,_,_,rfl,rfl,_,rfl,?_⟩⟩⟩⟩
  rw [decide_eq_true hlt]
  exact bz ⟨_,rfl,_,rfl,ex10 g lt me fr to lm be th up bt ⟨rfl,G,L0,hlt,q⟩⟩
theorem rY {f:Addr} {fd:FuncData} (F:Fun K "chair_letter" "House.chair_letter" iA f fd) (T:ClH K mg CH) (Fr:aR P w K mg base 3 "rows_heard" ["mind","letter"] (gT K ⟨CH,CM,CT,CW,CR⟩)):aP P w K mg base CX0 4 f fd ["self","letter"] (dR K ⟨CH,CM,CT,CW,CR⟩ fun _ _=>True):=by
 refine F.ok nu (fun vs H Q E h=>?_) (fun cdv A outer s H vs Q E hr h=>?_)
 ·obtain ⟨H0,g,lt,me,fr,to,lm,be,th,up,bt,rfl,_⟩:=h
  rfl
 ·obtain ⟨H0,g,lt,me,fr,to,lm,be,th,up,bt,rfl,G,L,hlt,_,q⟩:=h
  have l1:H lt=some (.tup [.str "rows",.str fr,.str to,.int lm,.int be,.int th,.ref me,.int up,.int bt]):=L
  refine ⟨_,ae (aS (aD bW (aq ao (pv 1) af (fun _ _=>rfl)) aN (aF _)) (aj (ay (aC Fr hr (ad (aG (pv 0) rfl) (ad (pv 1) ag))))) aH) bY,?_⟩
  obtain ⟨dx,h1⟩:=G.hb
  refine ⟨_,rfl,ex4 lt _ _ _ ⟨rfl,rfl,SqT.of l1,at0,rfl,_,rfl,?_⟩⟩
  rw [decide_eq_true rfl]
  exact bz ⟨_,rfl,ex5 g.ho CH dx _ _ ⟨rfl,h1,T.cl,T.n3,gu,_,rfl,ex10 g lt me fr to lm be th up bt ⟨rfl,G.mo,L,hlt,q⟩⟩⟩
theorem rZ {f:Addr} {fd:FuncData} (F:Fun K "heard" "House.heard" lh f fd) (T:ClH K mg CH) (TM:ClM K mg CM) (TW:ClW K mg CW) (Mc:bu P w K mg base CH 4 "chair_letter" ["self","letter"] (dR K ⟨CH,CM,CT,CW,CR⟩ fun _ _=>True)):aP P w K mg base CX0 5 f fd ["self","letter"] (dR K ⟨CH,CM,CT,CW,CR⟩ fun _ _=>True):=by
 refine F.ok qj (fun vs H Q E h=>?_) (fun cdv A outer s H vs Q E hr h=>?_)
 ·obtain ⟨H0,g,lt,me,fr,to,lm,be,th,up,bt,rfl,_⟩:=h
  rfl
 ·obtain ⟨H0,g,lt,me,fr,to,lm,be,th,up,bt,rfl,G,L,hlt,_,q⟩:=h
  have l1:H lt=some (.tup [.str "rows",.str fr,.str to,.int lm,.int be,.int th,.ref me,.int up,.int bt]):=L
  have hs16:sizeLine=16777216:=sizeLine_eq
  refine ⟨_,ae (aS (aD bW (aq ao (pv 1) af (fun _ _=>rfl)) aN (aF _)) bY aH) <|
   ae (aS (aD dL (aq ao (pv 1) af (fun _ _=>rfl)) (aG (aG (aG (pv 0) rfl) rfl) rfl) (aF _)) bY aH) <|
   ae (aS (aD fw (aq ao (pv 1) af (fun _ _=>rfl)) (aQ (ad aN (ad aN (ad aN ag)))) (by rfl)) bY aH) <|
   aj (ay (bv Mc T.cl hr (pv 0) (ad (pv 1) ag))),?_⟩
  obtain ⟨dx,h1⟩:=G.hb
  obtain ⟨dy,h2⟩:=G.mo.ob
  obtain ⟨⟨dz,h3⟩,_⟩:=id G.mo.wg.wo
  refine ⟨_,rfl,ex4 lt _ _ _ ⟨rfl,rfl,SqT.of l1,at0,rfl,_,rfl,?_⟩⟩
  rw [show decide (V.str (Str.ofString "rows")=V.str (Str.ofString "look"))=false by decide +kernel]
  refine aV ⟨_,rfl,ex4 lt _ _ _ ⟨rfl,rfl,SqT.of l1,ei,_,rfl,ex5 g.ho CH dx _ _ ⟨rfl,h1,T.cl,T.n3,gu,ex5 g.m CM dy _ _ ⟨rfl,h2,TM.cl,TM.n3,eF,ex5 g.wr CW dz _ _ ⟨rfl,h3,TW.cl,TW.nT,fk,_,_,rfl,rfl,_,rfl,?_⟩⟩⟩⟩⟩
  rw [decide_eq_false (show ¬ (g.t < lm) by lia)]
  refine aV ⟨_,rfl,ex4 lt _ _ _ ⟨rfl,rfl,SqT.of l1,at0,(show 3 <= sizeLine by lia),fun p1 H1 n1 s1 e1=>⟨p1,_,rfl,.inr (SqT.of e1),rfl,rfl,_,rfl,?_⟩⟩⟩
  rw [show inV (.str (Str.ofString "rows")) [.str (Str.ofString "saw"),.str (Str.ofString "vote"),.str (Str.ofString "gave")]=false by decide +kernel]
  exact aV ⟨_,rfl,ex3 g.ho dx _ ⟨rfl,s1 _ _ h1,dO,_,rfl,tL H0 g lt me fr to lm be th up bt ⟨rfl,G.same s1,s1 _ _ l1,hlt,trivial,fun p H' s'=>q p H' (s1.trans s')⟩⟩⟩
theorem vA {CL f:Addr} {fd:FuncData} (F:Fun K "hear" "House.hear" qa f fd) (T:ClH K mg CH) (Fc:pS P w K mg base 9 "check_letter" ["thing"] (p6 CL)) (Mh:bu P w K mg base CH 5 "heard" ["self","letter"] (dR K ⟨CH,CM,CT,CW,CR⟩ fun _ _=>True)):aP P w K mg base CX0 10 f fd ["self","letter"] (dR K ⟨CH,CM,CT,CW,CR⟩ fN):=by
 refine F.ok vv (fun vs H Q E h=>?_) (fun cdv A outer s H vs Q E hr h=>?_)
 ·obtain ⟨H0,g,lt,me,fr,to,lm,be,th,up,bt,rfl,_⟩:=h
  rfl
 ·obtain ⟨H0,g,lt,me,fr,to,lm,be,th,up,bt,rfl,G,L,hlt,hok,q⟩:=h
  have l1:H lt=some (.tup [.str "rows",.str fr,.str to,.int lm,.int be,.int th,.ref me,.int up,.int bt]):=L
  have r5:bi 5 _:=hr.mono (by decide)
  refine ⟨_,ae (bJ (mF Fc hr tG (ad (pv 1) ag))) <| aj (ay (bv Mh T.cl r5 (pv 0) (ad (pv 1) ag))),?_⟩
  refine ⟨_,rfl,.inl ⟨lt,rfl,hok,fun H1 s1=>?_⟩⟩
  obtain ⟨dx,h1⟩:=G.hb
  exact ⟨_,rfl,ex3 g.ho dx _ ⟨rfl,s1 _ _ h1,gw,_,rfl,tL H0 g lt me fr to lm be th up bt ⟨rfl,G.same s1,s1 _ _ l1,hlt,trivial,fun p H' s'=>q p H' (s1.trans s')⟩⟩⟩
end
open K41T (Kvs Las Wk aU ci cu cm dv aO bp)
abbrev sCR:Stmt:=top 121
theorem pz:bootBuiltins "list"=some (.type "list"):=by decide +kernel
theorem vB {α:Type} {a b:α} {l:List α}:atI (a :: b :: l) (-1)=atI (b :: l) (-1):=by
 rcases List.eq_nil_or_concat (b :: l) with h | ⟨L,x,h⟩
 ·cases h
 ·rw [List.concat_eq_append] at h
  rw [h]
  exact (eZ (a :: L) x).trans (eZ L x).symm
theorem qk {H:Hp} {es:List Addr} {xs:List En} (h:Paired (EnO H) es xs):es ≠ [] -> ∃ e d hi,atI (es.map V.ref) (-1)=some (.ref e) /\ H e=some (.tup [.int hi,.ref d]) /\ xs.getLast?.map (·.1)=some hi:=by
 induction h with
 | nil=>intro z; exact absurd rfl z
 | cons r t ih =>
  intro _
  obtain ⟨d,h1,_⟩:=r
  cases t with
  | nil=>exact ⟨_,d,_,eZ [] _,h1,rfl⟩
  | cons r2 t2 =>
   obtain ⟨e,d2,hi,g1,g2,g3⟩:=ih (by intro z; cases z)
   refine ⟨e,d2,hi,?_,g2,?_⟩
   ·show atI (V.ref _ :: V.ref _ :: List.map V.ref _) (-1)=_
    rw [vB]; exact g1
   ·rw [List.getLast?_cons_cons]; exact g3
structure fW (xs:List En) (pl tm t s:Int) (C:List En) (keep:Nat) (own fi:Int):Prop where
 k1:(s - pl).toNat <= keep
 k2:keep <= xs.length
 pre:C.take keep=xs.take keep
 gt:∀ e ∈ C.drop keep,tm < e.1 /\ ∀ x ∈ xs,x.1 < e.1
 good:∀ e ∈ C,1 <= e.1 /\ eT e.2
 ot:t <= own
 f1:pl + keep < fi
 f2:fi <= pl + C.length
 len:C.length <= xs.length + 6
 eb:uV (if tm > 1 then tm else 1) C
def spCR (K:PySem.W.Frag):Sp:=fun us H Q _=>∃ (a wt st en b:Addr) (ns:List Int) (sa t s pl tm:Int) (v:V) (hk:List (Key × V)) (hq:List (Str × Int × V)) (es:List Addr) (xs:List En),us=[.ref a,.ref wt,.int sa] /\ SqL K H a (ns.map V.int) /\ 0 <= sa /\ H wt=some (.tup [.int t,v,.int s,.ref st,.ref en]) /\ StE K H s st en pl tm b hk hq es xs /\ 0 <= tm /\ es.length <= 14 /\ s <= pl + es.length /\ uV (if tm > 1 then tm else 1) xs /\
 ∀ (p rw:Addr) (cs:List Addr) (C:List En) (keep:Nat) (own fi:Int) (H':Hp),ar H H' -> H' p=some (.tup [.ref rw,.int own,.int fi]) -> H' rw=some (.lst (cs.map V.ref)) -> H rw=none -> Paired (EnO H') cs C -> cs.take keep=es.take keep -> fW xs pl tm t s C keep own fi -> Q (.ref p) H'
abbrev zsR:List Int:=[9,4,2,3]
theorem zsR_ok:∀ z ∈ zsR,0 < z /\ z < 2 ^ 250:=by decide +kernel
theorem zsD_ok:∀ z ∈ zsD,0 < z /\ z < 2 ^ 250:=by decide +kernel
theorem dig4R {ds:List Int} (h:Dig ds zsR):∃ a b c d:Int,ds=[a,b,c,d] /\ (0 <= a /\ a < 9) /\ (0 <= b /\ b < 4) /\ (0 <= c /\ c < 2) /\ (0 <= d /\ d < 3):=by
 cases h with
 | cons h1 t=>cases t with
  | cons h2 t=>cases t with
   | cons h3 t=>cases t with
    | cons h4 t=>cases t with
     | nil=>exact (ex4 _ _ _ _ ⟨rfl,h1,h2,h3,h4⟩)
section
variable {P:Program} {w:World} {K:PySem.W.Frag} {mg:Str -> Option Value} {base:Heap}
abbrev nCR:List Str:=["_law_script","_law_written_here","_law_start","_law_term","_law_vote","_law_settled","_law_stand","_law_entries_here","_law_d","_law_keep","_law_row","_law_high","_law_tail","_law_own","_law_first","_law_k","_law_more"]
abbrev pCR:List Str:=["_law_script","_law_written_here","_law_start"]
theorem scCR:ax nCR pCR (am sCR):=fsc (by decide +kernel)
theorem ok_cr {f:Addr} {fd:FuncData} (F:Fun K "_law_chair_row" "_law_chair_row" sCR f fd) (hlen:mg "len"=none) (hlist:mg "list"=none) (hmax:mg "max"=none) (hrange:mg "range"=none) (Fc:aR P w K mg base 1 "_law_cell_at" ["_law_script","_law_k"] (gH K)) (Fd:aR P w K mg base 2 "_law_digits" ["_law_cell","_law_sizes"] jm) (Fe:aR P w K mg base 1 "_law_deed" ["_law_d"] jn) (Fn:aR P w K mg base 3 "_law_entries" qd (lx K)):aP P w K mg base CX0 4 f fd pCR (spCR K):=by
 refine F.ok scCR (fun vs H Q E h=>?_) (fun cdv A outer s H vs Q E hr h=>?_)
 ·obtain ⟨a,wt,st,en,b,ns,sa,t,s,pl,tm,v,hk,hq,es,xs,rfl,_⟩:=h
  rfl
 ·obtain ⟨a,wt,st,en,b,ns,sa,t,s,pl,tm,v,hk,hq,es,xs,rfl,hS,sa0,hw,G,tm0,es8,hsl,hB,q⟩:=h
  have nd:=scCR.nd
  have r1:bi 1 _:=hr.mono (by decide)
  have r2:bi 2 _:=hr.mono (by decide)
  have hu:_ + 1 < cLine:=Nat.lt_of_le_of_lt (Nat.add_le_add_left (show 1 <= 64 by decide) _) hr.units
  have hs16:sizeLine=16777216:=sizeLine_eq
  refine ⟨_,ae (dW (pv 1) (cL (n:=5) rfl (az (au (i:=3) nd rfl (Or.inl rfl)) (az (au (i:=4) nd rfl (Or.inl rfl)) (az (au (i:=5) nd rfl (Or.inl rfl)) (az (au (i:=6) nd rfl (Or.inl rfl)) (az (au (i:=7) nd rfl (Or.inl rfl)) bV))))))) <|
   ae (aB (i:=8) nd rfl (Or.inl rfl) (fC Fd r2 (aC Fc r1 (ad (pv 0) (ad (pv 2) ag))) (cA (cA (cA (cA bI)))))) <|
   ae (aB (i:=9) nd rfl (Or.inl rfl) (aE aX (aE bR (pv 5) (aq ao (pv 6) af (fun _ _=>rfl))) (aE cB (aq aW (pv 8) af (fun _ _=>rfl)) (aE aX (aE bR (aE aX (aA aK (by rfl) hlen PySem.boot_len (ad (pv 7) ag)) (aq ao (pv 6) af (fun _ _=>rfl))) (pv 5)) af)))) <|
   ae (aB (i:=10) nd rfl (Or.inl rfl) (bc eN (by rfl) hlist pz (ad (bO cT (pv 7) cx (bP (pv 9))) ag))) <|
   ae (aB (i:=11) nd rfl (Or.inl rfl) (aq ao (pv 6) af (fun _ _=>rfl))) <|
   ae (cz (aS (aD (op_neT0 hu) (pv 7) (aQ ag) (aF _)) (aj (aB (i:=11) nd rfl (Or.inl rfl) (aq ao (aq ao (pv 7) (md iM af) (fun _ _=>rfl)) af (fun _ _=>rfl)))) aH)) <|
   ae (aB (i:=12) nd rfl (Or.inl rfl) (aC Fn hr (ad (pv 0) (ad (aE aX (pv 2) af) (ad (aq aW (pv 8) af (fun _ _=>rfl)) (ad (pv 11) (ad (aE aX (pv 11) af) ag))))))) <|
   ae (cz (aS (aD (sT hu) (pv 12) (cy ag) (aF _)) (aj (aB (i:=11) nd rfl (Or.inl rfl) (aq ao (aq aW (pv 12) (md iM af) (fun _ _=>rfl)) af (fun _ _=>rfl)))) aH)) <|
   ae (aB (i:=13) nd rfl (Or.inl rfl) (aA (eA rfl) (by rfl) hmax kg (ad (aE aX (pv 3) (aq aW (pv 8) af (fun _ _=>rfl))) (ad (aE aX (pv 11) af) ag)))) <|
   ae (aB (i:=10) nd rfl (Or.inl rfl) (aE gh (aE gh (pv 10) (pv 12)) (dQ (wa_t (cH (eE (pv 13) (wa_t (cH (dG bI)) bI))) bI)))) <|
   ae (aB (i:=14) nd rfl (Or.inl rfl) (aE aX (aq ao (pv 6) af (fun _ _=>rfl)) (aA aK (by rfl) hlen PySem.boot_len (ad (pv 10) ag)))) <|
   ae (dX PassesOwn.never rfl (db (by rfl) hrange (ad (aq aW (pv 8) af (fun _ _=>rfl)) ag)) (au (i:=15) nd rfl (Or.inl rfl)) <|
    ae (aB (i:=16) nd rfl (Or.inl rfl) (fC Fd r2 (aC Fc r1 (ad (pv 0) (ad (aE aX (aE aX (pv 2) af) (pv 15)) ag))) (cA (cA (cA (cA (gq (aE dc af (aE iL af af)) bI))))))) <|
    aj (bJ (jS PySem.F.plainAttrs_list PySem.F.slot_list_append PySem.F.type_list_append fA (pv 10) (ad (cH (eE (pv 13) (wa_c (aC Fe r1 (ad (pv 16) ag)) bI))) ag)))) <|
   aj (ay (cH (eE (pv 10) (eE (pv 13) (eE (pv 14) bI))))),?_⟩
  dsimp only [bj,Cx.nox]
  obtain ⟨hh,aa,oo,pps,pas,hst,_⟩:=id G.so
  have hen:=G.ho
  have hps:=G.ps
  have hxl:es.length=xs.length:=Paired.length G.eo
  refine ah fun K_ hK_=>?_
  refine ⟨_,rfl,wt,_,rfl,SqT.of hw,rfl,_,_,rfl,_,_,rfl,_,_,rfl,_,_,rfl,_,_,rfl,rfl,?_⟩
  refine hK_ _ _ (ah fun K_ hK_=>?_)
  refine ⟨_,rfl,_,rfl,ex3 a ns _ ⟨rfl,hS,sa0,fun z=>⟨(show 4 <= sizeLine by lia),fun la H1 n1 s1 e1=>(ex3 z la zsR ⟨rfl,e1,zsR_ok,(by decide),fun pd ds H2 s2 n2 e2 hD=>?_⟩)⟩⟩⟩
  obtain ⟨d0,d1,d2,d3,rfl,⟨a0,a1⟩,⟨b0,b1⟩,⟨c0,c1⟩,g0,g1⟩:=dig4R hD
  have s02:=s1.trans s2
  refine hK_ _ _ (ah fun K_ hK_=>?_)
  refine ⟨_,rfl,_,rfl,ex4 st _ _ _ ⟨rfl,rfl,SqT.of (s02 _ _ hst),at0,_,_,rfl,rfl,_,rfl,ex4 pd _ _ _ ⟨rfl,rfl,SqL.of e2,at0,_,rfl,en,_,rfl,.inr (SqT.of (s02 _ _ hen)),_,rfl,ex4 st _ _ _ ⟨rfl,rfl,SqT.of (s02 _ _ hst),at0,_,_,rfl,rfl,_,rfl,_,_,rfl,rfl,_,_,rfl,rfl,_,_,rfl,rfl,?_,_,_,rfl,rfl,?_⟩⟩⟩⟩
  ·rw [List.length_map]; lia
  have kb0:=Int.emod_nonneg d0 (show ((es.map V.ref).length:Int) + pl - s + 1 ≠ 0 by rw [List.length_map]; lia)
  have kb1:=Int.emod_lt_of_pos d0 (show 0 < ((es.map V.ref).length:Int) + pl - s + 1 by rw [List.length_map]; lia)
  obtain ⟨keep,hkp⟩:=Int.eq_ofNat_of_zero_le (show 0 <= s - pl + d0 % (((es.map V.ref).length:Int) + pl - s + 1) by lia)
  refine hK_ _ _ (ah fun K_ hK_=>?_)
  dsimp only
  rw [hkp]
  have kp1:(s - pl).toNat <= keep:=by lia
  have kp2:keep <= es.length:=by rw [List.length_map] at kb1 hkp; lia
  clear hkp kb0 kb1
  refine ⟨_,rfl,_,rfl,_,rfl,en,_,rfl,s02 _ _ hen,fun c3 H3 s3 e3=>?_⟩
  rw [i6,<- List.map_take] at e3
  refine ⟨c3,_,rfl,.inr (SqT.of e3),fun rw0 H4 n4 s4 e4=>?_⟩
  have s04:=s02.trans (s3.trans s4)
  have pd4:=(s3.trans s4) _ _ e2
  refine hK_ _ _ (ah fun K_ hK_=>?_)
  refine ⟨_,rfl,ex4 st _ _ _ ⟨rfl,rfl,SqT.of (s04 _ _ hst),at1,?_⟩⟩
  obtain ⟨hBg,hi,hBh,hBl⟩:=id hB
  have htm:∀ e ∈ xs,tm <= e.1:=fun e he=>by
   have:=(hBg e he).1
   split at this <;> lia
  refine hK_ _ _ (ah fun K_ hK_=>?_)
  refine ⟨fun σ' H'=>∃ hg:Int,σ'=[some (.ref a),some (.ref wt),some (.int sa),some (.int t),some v,some (.int s),some (.ref st),some (.ref en),some (.ref pd),some (.int (keep:Int)),some (.ref rw0),some (.int hg),none,none,none,none,none] /\ ar H4 H' /\ tm <= hg /\ ∀ x ∈ xs,x.1 <= hg,?_,?_⟩
  ·refine ⟨_,rfl,Nat.zero_le _,fun c5 H5 n5 s5 e5=>(ex3 en c5 _ ⟨rfl,rfl,SqT.of (s5 _ _ (s04 _ _ hen)),SqT.of e5,_,rfl,bE (fun hz=>?_) (fun hz=>?_)⟩)⟩
   ·have hne:es ≠ []:=fun z=>by rw [z] at hz; cases hz
    obtain ⟨e,d,hl,l1,l2,l3⟩:=qk (bq (Tk.of (s04.trans s5)) G.eo) hne
    have hxn:xs ≠ []:=fun z=>by rw [z] at hxl; exact hne (List.length_eq_zero_iff.mp hxl)
    have hlh:hl=hi:=by
     have:=hBl hxn
     rw [l3] at this
     exact Option.some.inj this
    refine ⟨_,rfl,_,rfl,ex4 en _ _ _ ⟨rfl,rfl,SqT.of (s5 _ _ (s04 _ _ hen)),l1,e,_,_,_,rfl,rfl,SqT.of l2,at0,hl,rfl,s5,?_,fun x hx=>by rw [hlh]; exact hBh x hx⟩⟩
    rw [hlh]
    obtain ⟨x,r,rfl⟩:∃ x r,xs=x :: r:=by
     cases xs with
     | nil=>exact absurd rfl hxn
     | cons x r=>exact ⟨x,r,rfl⟩
    have h1:=htm x (List.mem_cons_self ..)
    have h2:=hBh x (List.mem_cons_self ..)
    lia
   ·have hxn:xs=[]:=by
     have:es=[]:=by
      cases es with
      | nil=>rfl
      | cons e r=>exact absurd rfl hz
     rw [this] at hxl
     exact List.length_eq_zero_iff.mp hxl.symm
    exact ⟨tm,rfl,s5,Int.le_refl _,fun x hx=>by rw [hxn] at hx; cases hx⟩
  rintro σ' H5 ⟨hg,rfl,s5,hg1,hg2⟩
  have s05:=s04.trans s5
  have pd5:=s5 _ _ pd4
  refine hK_ _ _ (ah fun K_ hK_=>?_)
  refine ⟨_,rfl,_,rfl,_,_,rfl,rfl,_,rfl,ex4 pd _ _ _ ⟨rfl,rfl,SqL.of pd5,at1,_,rfl,_,rfl,_,_,rfl,rfl,a,ns,sa + 1,d1,hg,hg + 1,rfl,s05.seq hS,by lia,b0,by lia,by lia,fun tl et xt H6 s6 n6 e6 het hetl het1 hetB=>?_⟩⟩
  have s06:=s05.trans s6
  obtain ⟨hTg,hi2,hTh,hTl⟩:=id hetB
  have hxtl:et.length=xt.length:=Paired.length het
  refine hK_ _ _ (ah fun K_ hK_=>?_)
  refine ⟨fun σ' H'=>∃ hg':Int,σ'=[some (.ref a),some (.ref wt),some (.int sa),some (.int t),some v,some (.int s),some (.ref st),some (.ref en),some (.ref pd),some (.int (keep:Int)),some (.ref rw0),some (.int hg'),some (.ref tl),none,none,none,none] /\ ar H6 H' /\ hg <= hg' /\ ∀ x ∈ xt,x.1 <= hg',?_,?_⟩
  ·refine ⟨_,rfl,Nat.zero_le _,fun c7 H7 n7 s7 e7=>(ex3 tl c7 _ ⟨rfl,rfl,SqL.of (s7 _ _ e6),SqL.of e7,_,rfl,bE (fun hz=>?_) (fun hz=>?_)⟩)⟩
   ·have hne:et ≠ []:=fun z=>by rw [z] at hz; cases hz
    obtain ⟨e,d,hl,l1,l2,l3⟩:=qk (bq (Tk.of s7) het) hne
    have hxn:xt ≠ []:=fun z=>by rw [z] at hxtl; exact hne (List.length_eq_zero_iff.mp hxtl)
    have hlh':hl=hi2:=by
     have:=hTl hxn
     rw [l3] at this
     exact Option.some.inj this
    refine ⟨_,rfl,_,rfl,ex4 tl _ _ _ ⟨rfl,rfl,SqL.of (s7 _ _ e6),l1,e,_,_,_,rfl,rfl,SqT.of l2,at0,hl,rfl,s7,?_,fun x hx=>by rw [hlh']; exact hTh x hx⟩⟩
    rw [hlh']
    obtain ⟨x,r,rfl⟩:∃ x r,xt=x :: r:=by
     cases xt with
     | nil=>exact absurd rfl hxn
     | cons x r=>exact ⟨x,r,rfl⟩
    have h1:=(hTg x (List.mem_cons_self ..)).1
    have h2:=hTh x (List.mem_cons_self ..)
    lia
   ·have het0:et=[]:=by
     cases et with
     | nil=>rfl
     | cons e r=>exact absurd rfl hz
    have hxt0:xt=[]:=by
     rw [het0] at hxtl
     exact List.length_eq_zero_iff.mp hxtl.symm
    exact ⟨hg,rfl,s7,Int.le_refl _,fun x hx=>by rw [hxt0] at hx; cases hx⟩
  rintro σ' H7 ⟨hg',rfl,s7,hgg,hxg⟩
  have s07:=s06.trans s7
  have pd7:=s7 _ _ (s6 _ _ pd5)
  refine hK_ _ _ (ah fun K_ hK_=>?_)
  refine ⟨_,rfl,_,rfl,ex4 pd _ _ _ ⟨rfl,rfl,SqL.of pd7,d8,_,_,rfl,rfl,_,rfl,_,_,rfl,rfl,_,_,rfl,?_⟩⟩
  have own1:t <= (if hg' + 1 > t + d2 then hg' + 1 else t + d2) /\ hg' < (if hg' + 1 > t + d2 then hg' + 1 else t + d2):=by split <;> lia
  refine hK_ _ _ (ah fun K_ hK_=>?_)
  generalize (if hg' + 1 > t + d2 then hg' + 1 else t + d2)=own at own1
  obtain ⟨ow1,ow2⟩:=own1
  have rw7:H7 rw0=some (.lst ((es.take keep).map V.ref)):=s7 _ _ (s6 _ _ (s5 _ _ e4))
  have tkl:(es.take keep).length=keep:=by rw [List.length_take]; lia
  refine ⟨_,rfl,_,rfl,ex4 rw0 tl _ _ ⟨rfl,rfl,rw7,s7 _ _ e6,(by rw [List.length_map,List.length_map,tkl]; lia),fun rw1 H8 n8 s8 e8=>?_⟩⟩
  refine ⟨_,rfl,(show 1 <= sizeLine by lia),fun f0 H9 n9 s9 e9=>⟨(show 2 <= sizeLine by lia),fun f1 H10 n10 s10 e10=>⟨(show 1 <= sizeLine by lia),fun l2 H11 n11 s11 e11=>?_⟩⟩⟩
  refine (ex4 rw1 l2 _ _ ⟨rfl,rfl,s11 _ _ (s10 _ _ (s9 _ _ e8)),e11,(by rw [List.length_append,List.length_map,List.length_map,tkl]; show keep + et.length + 1 <= _; lia),fun rw H12 n12 s12 e12=>?_⟩)
  have e12:H12 rw=some (.lst ((es.take keep ++ et ++ [f1]).map V.ref)):=by rw [e12,List.map_append,List.map_append]; rfl
  have s7B:=s8.trans (s9.trans (s10.trans (s11.trans s12)))
  have s0B:=s07.trans s7B
  have pdB:=s7B _ _ pd7
  have rwH:H rw=none:=(s07.trans (s8.trans (s9.trans (s10.trans s11)))).free n12
  refine hK_ _ _ (ah fun K_ hK_=>?_)
  refine ⟨_,rfl,ex4 st _ _ _ ⟨rfl,rfl,SqT.of (s0B _ _ hst),at0,_,rfl,rw,_,rfl,.inl (SqL.of e12),_,_,rfl,rfl,?_⟩⟩
  refine hK_ _ _ (ah fun K_ hK_=>?_)
  rw [List.length_map]
  have hP0:Paired (EnO H12) (es.take keep ++ et ++ [f1]) (xs.take keep ++ xt ++ [(own,none)]):=Paired.catS (Paired.catS (Paired.take' (bq (Tk.of s0B) G.eo) _) (bq (Tk.of (s7.trans s7B)) het)) (.cons ⟨f0,(s11.trans s12) _ _ e10,(s10.trans (s11.trans s12)) _ _ e9⟩ .nil)
  have hL0:(es.take keep ++ et ++ [f1]).length=keep + et.length + 1:=by rw [List.length_append,List.length_append,tkl]; rfl
  rw [hL0]
  refine ⟨_,rfl,ex4 pd _ _ _ ⟨rfl,rfl,SqL.of pdB,ei,d3,rfl,by lia,by lia,ft (lo:=0) (n:=d3.toNat) (fun i σ Hx=>∃ (v15 v16:Option V) (cs:List Addr) (C:List En),σ=[some (.ref a),some (.ref wt),some (.int sa),some (.int t),some v,some (.int s),some (.ref st),some (.ref en),some (.ref pd),some (.int (keep:Int)),some (.ref rw),some (.int hg'),some (.ref tl),some (.int own),some (.int (pl + ((keep + et.length + 1:Nat):Int))),v15,v16] /\ Hx rw=some (.lst ((es.take keep ++ et ++ [f1] ++ cs).map V.ref)) /\ Paired (EnO Hx) cs C /\ cs.length=i /\ (∀ e ∈ C,e.1=own /\ eT e.2) /\ ar H Hx /\ Tk H12 Hx) ⟨none,none,[],[],rfl,by rw [List.append_nil]; exact e12,.nil,rfl,fun e h=>(nomatch h),s0B,Tk.refl _⟩ ?_ ?_⟩⟩
  ·rintro i σ Hx hi ⟨v15,v16,cs,C,rfl,h1,h2,h3,h4,h5,h6⟩
   refine ⟨_,rfl,_,rfl,_,_,rfl,rfl,_,rfl,_,_,rfl,rfl,ex3 a ns _ ⟨rfl,h5.seq hS,by lia,fun z=>?_⟩⟩
   refine ⟨_,_,rfl,rfl,⟨by decide,by decide,by decide⟩,_,_,rfl,rfl,.inl ⟨by decide,by decide⟩,(show 5 <= sizeLine by lia),fun la2 Ha na sa' ea=>(ex3 z la2 zsD ⟨rfl,ea,zsD_ok,(by decide),fun pm ds Hb sb nb eb hD2=>?_⟩)⟩
   have sxb:=sa'.trans sb
   refine ⟨_,rfl,.inl ⟨rfl,_,SqL.of (sxb _ _ h1)⟩,_,rfl,_,rfl,pm,ds,rfl,eb,hD2,fun pq x n wk Hc sc hdd hgd=>⟨(show 2 <= sizeLine by lia),fun c Hd nd' sd ed=>?_⟩⟩
   have sxd:=sxb.trans (sc.trans sd)
   have hl20:(es.take keep ++ et ++ [f1] ++ cs).length <= 1000:=by rw [List.length_append,hL0]; lia
   refine (ex3 rw _ _ ⟨rfl,rfl,sxd _ _ h1,by rw [List.length_map]; exact hl20,fun He ke ee=>?_⟩)
   have hrwd:=sxd _ _ h1
   have tke:Tk Hd He:=fun b ys e=>ke _ _ (aM e hrwd (by intro z; cases z)) e
   have tkx:Tk Hx He:=(Tk.of sxd).trans tke
   refine ⟨_,_,cs ++ [c],C ++ [(own,some (x,n,wk))],rfl,?_,PySem.Paired.snoc (bq tkx h2) ⟨pq,tke _ _ ed,(hdd.tk (Tk.of sd)).tk tke⟩,by rw [List.length_append,h3]; rfl,fun e he=>?_,fun b o e=>ke _ _ (ak e rwH) (sxd _ _ (h5 _ _ e)),h6.trans tkx⟩
   ·rw [ee,<- List.append_assoc,List.map_append (l₂:=[c])]; rfl
   ·rcases List.mem_append.mp he with h | h
    ·exact h4 e h
    ·rw [List.mem_singleton.mp h]; exact ⟨rfl,hgd⟩
  ·rintro σ Hx ⟨v15,v16,cs,C,rfl,h1,h2,h3,h4,h5,h6⟩
   refine hK_ _ _ ?_
   refine ⟨_,rfl,_,rfl,_,rfl,(show 3 <= sizeLine by lia),fun p Hz nz sz ez=>?_⟩
   have hCl:cs.length=C.length:=Paired.length h2
   have hxk:(xs.take keep).length=keep:=by rw [List.length_take]; lia
   refine q p rw _ (xs.take keep ++ xt ++ [(own,none)] ++ C) keep own _ Hz (h5.trans sz) ez (sz _ _ h1) rwH (Paired.catS (bq (h6.trans (Tk.of sz)) hP0) (bq (Tk.of sz) h2)) ?_ ⟨kp1,by lia,?_,fun e he=>?_,fun e he=>?_,ow1,by lia,?_,?_,fun e he=>?_,own,fun e he=>?_,fun _=>?_⟩
   ·rw [List.append_assoc,List.append_assoc,List.take_append_of_le_length (by lia),List.take_of_length_le (by lia)]
   ·rw [List.append_assoc,List.append_assoc,List.take_append_of_le_length (by lia),List.take_of_length_le (by lia)]
   ·rw [List.append_assoc,List.append_assoc,List.drop_append_of_le_length (by lia),List.drop_of_length_le (by lia),List.nil_append] at he
    have key:hg < e.1:=by
     rcases List.mem_append.mp he with h | h
     ·have:=(hTg e h).1; lia
     ·rcases List.mem_append.mp h with h | h
      ·rw [List.mem_singleton.mp h]; show hg < own; lia
      ·rw [(h4 e h).1]; lia
    exact ⟨by lia,fun x hx=>by have:=hg2 x hx; lia⟩
   ·rcases List.mem_append.mp he with h | h
    ·rcases List.mem_append.mp h with h | h
     ·rcases List.mem_append.mp h with h | h
      ·have:=hBg e (List.mem_of_mem_take h)
       exact ⟨by have:=this.1; split at this <;> lia,this.2⟩
      ·exact ⟨het1 e h,(hTg e h).2⟩
     ·rw [List.mem_singleton.mp h]; exact ⟨by show 1 <= own; lia,trivial⟩
    ·exact ⟨by rw [(h4 e h).1]; lia,(h4 e h).2⟩
   ·simp only [List.length_append,List.length_cons,List.length_nil,hxk]; lia
   ·simp only [List.length_append,List.length_cons,List.length_nil,hxk]; lia
   ·have hT1:(if tm > 1 then tm else 1) <= hg + 1:=by split <;> lia
    rcases List.mem_append.mp he with h | h
    ·rcases List.mem_append.mp h with h | h
     ·rcases List.mem_append.mp h with h | h
      ·exact hBg e (List.mem_of_mem_take h)
      ·have:=hTg e h
       exact ⟨by lia,this.2⟩
     ·rw [List.mem_singleton.mp h]; exact ⟨by show _ <= own; lia,trivial⟩
    ·exact ⟨by rw [(h4 e h).1]; lia,(h4 e h).2⟩
   ·rcases List.mem_append.mp he with h | h
    ·rcases List.mem_append.mp h with h | h
     ·rcases List.mem_append.mp h with h | h
      ·have:=hg2 e (List.mem_of_mem_take h)
       lia
      ·have:=hxg e h
       lia
     ·rw [List.mem_singleton.mp h]; exact Int.le_refl _
    ·rw [(h4 e h).1]; exact Int.le_refl _
   ·cases hC:C.getLast? with
    | none =>
     rw [List.getLast?_eq_none_iff.mp hC,List.append_nil,List.getLast?_concat]
     rfl
    | some e =>
     rw [List.getLast?_append,hC]
     show some e.1=some own
     rw [(h4 e (List.mem_of_getLast? hC)).1]
end
end K41
namespace K41
open PySem L2
open K41B (ba)
abbrev sTA:Stmt:=top 122
def r0 (L:Hp -> Addr -> List V -> Prop):Sp:=fun us H Q _=>∃ (st el b hh aa:Addr) (pl tm p:Int) (es:List Addr) (xs:List En),us=[.ref st,.ref el,.int p] /\ H st=some (.tup [.int pl,.int tm,.ref b,.ref hh,.ref aa]) /\ L H el (es.map V.ref) /\ Paired (EnO H) es xs /\ Q (ba pl tm (aJ xs) p) H
def asL (H:Hp) (a:Addr) (xs:List V):Prop:=H a=some (.lst xs)
def asT (H:Hp) (a:Addr) (xs:List V):Prop:=H a=some (.tup xs)
theorem lR {H:Hp} {es:List Addr} {xs:List En} (h:Paired (EnO H) es xs) {pl tm p:Int} (h1:pl < p) (h2:p <= pl + es.length):∃ e d tt,atI (es.map V.ref) (p - pl - 1)=some (.ref e) /\ H e=some (.tup [.int tt,.ref d]) /\ ba pl tm (aJ xs) p=.int tt:=by
 obtain ⟨k,hk⟩:=Int.eq_ofNat_of_zero_le (show 0 <= p - pl - 1 by lia)
 have hl:es.length=xs.length:=Paired.length h
 have hke:k < es.length:=by lia
 have hkx:k < xs.length:=by lia
 have ht:(aJ xs)[k]?=some xs[k].1:=by rw [List.getElem?_map,List.getElem?_eq_getElem hkx]; rfl
 obtain ⟨d,hd⟩:=jy h k es[k] xs[k].1 (List.getElem?_eq_getElem hke) ht
 refine ⟨es[k],d,xs[k].1,by rw [hk]; exact bN (by rw [List.getElem?_map,List.getElem?_eq_getElem hke]; rfl),hd,?_⟩
 unfold ba
 rw [if_neg (by lia),if_neg (by rw [List.length_map]; lia),hk,Int.toNat_natCast,List.getD_eq_getElem?_getD,ht]
 rfl
section
variable {P:Program} {w:World} {K:PySem.W.Frag} {mg:Str -> Option Value} {base:Heap}
abbrev nTA:List Str:=["_law_stand","_law_entries_here","_law_place"]
theorem scTA:ax nTA nTA (am sTA):=fsc (by decide +kernel)
theorem ok_taL {f:Addr} {fd:FuncData} (F:Fun K "_law_term_at" "_law_term_at" sTA f fd) (hlen:mg "len"=none):aP P w K mg base CX0 1 f fd nTA (r0 asL):=by
 refine F.ok scTA (fun vs H Q E h=>?_) (fun cdv A outer s H vs Q E hr h=>?_)
 ·obtain ⟨st,el,b,hh,aa,pl,tm,p,es,xs,rfl,_⟩:=h
  rfl
 ·obtain ⟨st,el,b,hh,aa,pl,tm,p,es,xs,rfl,hst,hel,hP,q⟩:=h
  refine ⟨_,ae (aS (aD bW (pv 2) (aq ao (pv 0) af (fun _ _=>rfl)) (aF _)) (aj (ay (aq ao (pv 0) af (fun _ _=>rfl)))) aH) <|
   ae (aS (mf dY pE (aq ao (pv 0) af (fun _ _=>rfl)) (pv 2) (aE aX (aq ao (pv 0) af (fun _ _=>rfl)) (aA aK (by rfl) hlen PySem.boot_len (ad (pv 1) ag)))) (aj (ay (aq ao (aq aW (pv 1) (aE bR (aE bR (pv 2) (aq ao (pv 0) af (fun _ _=>rfl))) af) (fun _ _=>rfl)) af (fun _ _=>rfl)))) aH) <|
   aj (ay cn),?_⟩
  dsimp only [bj,Cx.nox]
  have hx:SqL K H el (es.map V.ref):=SqL.of hel
  refine ⟨_,rfl,_,rfl,ex4 st _ _ _ ⟨rfl,rfl,SqT.of hst,at0,rfl,_,rfl,bE (fun hz=>?_) (fun hz=>?_)⟩⟩
  ·have hz:V.int p=V.int pl:=of_decide_eq_true hz
   have hz:p=pl:=by injection hz
   refine ⟨_,rfl,ex4 st _ _ _ ⟨rfl,rfl,SqT.of hst,at1,?_⟩⟩
   unfold ba at q
   rw [if_pos hz] at q
   exact q
  have hz:¬ p=pl:=fun z=>hz (decide_eq_true (by rw [z]))
  refine ⟨_,rfl,ex4 st _ _ _ ⟨rfl,rfl,SqT.of hst,at0,_,rfl,_,_,rfl,rfl,_,rfl,bE (fun h1=>?_) (fun h1=>?_)⟩⟩
  ·have h1:=of_decide_eq_true h1
   refine ⟨_,rfl,ex4 st _ _ _ ⟨rfl,rfl,SqT.of hst,at0,_,rfl,el,_,rfl,.inl hx,_,_,rfl,rfl,_,_,rfl,rfl,_,rfl,bE (fun h2=>?_) (fun h2=>?_)⟩⟩
   ·have h2:=of_decide_eq_true h2
    rw [List.length_map] at h2
    obtain ⟨e,d,tt,l1,l2,l3⟩:=lR (tm:=tm) hP h1 h2
    rw [l3] at q
    exact ⟨_,rfl,_,rfl,_,rfl,ex4 st _ _ _ ⟨rfl,rfl,SqT.of hst,at0,_,_,rfl,rfl,_,_,rfl,rfl,ex4 el _ _ _ ⟨rfl,rfl,hx,l1,e,_,_,_,rfl,rfl,SqT.of l2,at0,q⟩⟩⟩
   ·have h2:¬ p <= pl + (es.length:Int):=fun z=>h2 (decide_eq_true (by rw [List.length_map]; exact z))
    rw [K41B.bZ _ _ _ (.inr (by rw [List.length_map,<- Paired.length hP]; lia))] at q
    exact q
  ·have h1:¬ pl < p:=fun z=>h1 (decide_eq_true z)
   rw [K41B.bZ _ _ _ (.inl (by lia))] at q
   exact ⟨_,rfl,aV q⟩
theorem ok_taT {f:Addr} {fd:FuncData} (F:Fun K "_law_term_at" "_law_term_at" sTA f fd) (hlen:mg "len"=none):aP P w K mg base CX0 1 f fd nTA (r0 asT):=by
 refine F.ok scTA (fun vs H Q E h=>?_) (fun cdv A outer s H vs Q E hr h=>?_)
 ·obtain ⟨st,el,b,hh,aa,pl,tm,p,es,xs,rfl,_⟩:=h
  rfl
 ·obtain ⟨st,el,b,hh,aa,pl,tm,p,es,xs,rfl,hst,hel,hP,q⟩:=h
  refine ⟨_,ae (aS (aD bW (pv 2) (aq ao (pv 0) af (fun _ _=>rfl)) (aF _)) (aj (ay (aq ao (pv 0) af (fun _ _=>rfl)))) aH) <|
   ae (aS (mf dY pE (aq ao (pv 0) af (fun _ _=>rfl)) (pv 2) (aE aX (aq ao (pv 0) af (fun _ _=>rfl)) (aA aK (by rfl) hlen PySem.boot_len (ad (pv 1) ag)))) (aj (ay (aq ao (aq ao (pv 1) (aE bR (aE bR (pv 2) (aq ao (pv 0) af (fun _ _=>rfl))) af) (fun _ _=>rfl)) af (fun _ _=>rfl)))) aH) <|
   aj (ay cn),?_⟩
  dsimp only [bj,Cx.nox]
  have hx:SqT K H el (es.map V.ref):=SqT.of hel
  refine ⟨_,rfl,_,rfl,ex4 st _ _ _ ⟨rfl,rfl,SqT.of hst,at0,rfl,_,rfl,bE (fun hz=>?_) (fun hz=>?_)⟩⟩
  ·have hz:V.int p=V.int pl:=of_decide_eq_true hz
   have hz:p=pl:=by injection hz
   refine ⟨_,rfl,ex4 st _ _ _ ⟨rfl,rfl,SqT.of hst,at1,?_⟩⟩
   unfold ba at q
   rw [if_pos hz] at q
   exact q
  have hz:¬ p=pl:=fun z=>hz (decide_eq_true (by rw [z]))
  refine ⟨_,rfl,ex4 st _ _ _ ⟨rfl,rfl,SqT.of hst,at0,_,rfl,_,_,rfl,rfl,_,rfl,bE (fun h1=>?_) (fun h1=>?_)⟩⟩
  ·have h1:=of_decide_eq_true h1
   refine ⟨_,rfl,ex4 st _ _ _ ⟨rfl,rfl,SqT.of hst,at0,_,rfl,el,_,rfl,.inr hx,_,_,rfl,rfl,_,_,rfl,rfl,_,rfl,bE (fun h2=>?_) (fun h2=>?_)⟩⟩
   ·have h2:=of_decide_eq_true h2
    rw [List.length_map] at h2
    obtain ⟨e,d,tt,l1,l2,l3⟩:=lR (tm:=tm) hP h1 h2
    rw [l3] at q
    exact ⟨_,rfl,_,rfl,_,rfl,ex4 st _ _ _ ⟨rfl,rfl,SqT.of hst,at0,_,_,rfl,rfl,_,_,rfl,rfl,ex4 el _ _ _ ⟨rfl,rfl,hx,l1,e,_,_,_,rfl,rfl,SqT.of l2,at0,q⟩⟩⟩
   ·have h2:¬ p <= pl + (es.length:Int):=fun z=>h2 (decide_eq_true (by rw [List.length_map]; exact z))
    rw [K41B.bZ _ _ _ (.inr (by rw [List.length_map,<- Paired.length hP]; lia))] at q
    exact q
  ·have h1:¬ pl < p:=fun z=>h1 (decide_eq_true z)
   rw [K41B.bZ _ _ _ (.inl (by lia))] at q
   exact ⟨_,rfl,aV q⟩
end
open K41T (Wk)
abbrev sRw:Stmt:=top 123
theorem nm_b:Nm "b":=nm_bS
theorem jA {H:Hp} (z:Int):Im H (.int z):=⟨.inl rfl,fun z e=>by cases e⟩
theorem vC {H:Hp} {t e:Addr} {n1 n2:Str} {a b c g h:Int} {xs:List V} (ht:H t=some (.tup [.str "rows",.str n1,.str n2,.int a,.int b,.int c,.ref e,.int g,.int h])) (m1:Nm n1) (m2:Nm n2) (a0:0 <= a) (b0:0 <= b) (c0:0 <= c) (g0:0 <= g) (h0:0 <= h) (he:H e=some (.tup xs)) (hl:xs.length <= 60) (hx:∀ y ∈ xs,EnV H y true):fN H t:=by
 refine ⟨"rows",["whole","whole","entries","whole","whole"],_,by decide +kernel,ht,rfl,fun i s p hs hp=>?_,fun z=>absurd z (by decide +kernel)⟩
 match i,hs,hp with
 | 0,hs,hp=>cases hs; cases hp; exact .name m1
 | 1,hs,hp=>cases hs; cases hp; exact .name m2
 | 2,hs,hp=>cases hs; cases hp; exact .whole a0
 | 3,hs,hp=>cases hs; cases hp; exact .whole b0
 | 4,hs,hp=>cases hs; cases hp; exact .whole c0
 | 5,hs,hp=>cases hs; cases hp; exact .entries he hl hx
 | 6,hs,hp=>cases hs; cases hp; exact .whole g0
 | 7,hs,hp=>cases hs; cases hp; exact .whole h0
 | i + 8,hs,_=>cases hs
theorem vD {H:Hp} {c d:Addr} {h:Int} (hc:H c=some (.tup [.int h,.ref d])) (hd:H d=some (.tup [.str "first"])) (h1:1 <= h):EnV H (.ref c) true:=by
 have hdd:=DdV.first (r:=[]) hd (by decide)
 have:=EnV.two hc (jA h) hdd
 rw [show fO 1 (.int h)=true from decide_eq_true h1] at this
 exact this
theorem good_w {H:Hp} {t:Addr} {wk:Wk} (ht:H t=some (.tup wk.vs)) (g:GoodW wk):WAt H (.ref t) (some wk.vs) /\ wkB (some wk.vs)=true:=by
 cases wk with
 | put k z =>
  obtain ⟨g1,g2,g3⟩:=g
  refine ⟨.tup ht (by show 3 <= 60; decide) fun v hv=>?_,?_⟩
  ·simp only [K41T.Wk.vs,List.mem_cons,List.not_mem_nil,or_false] at hv
   rcases hv with rfl | rfl | rfl
   ·exact ⟨Im.str (by decide +kernel),fun i e=>by cases e⟩
   ·exact ⟨Im.nm g1,fun i e=>by cases e⟩
   ·exact ⟨jA z,fun i e=>by cases e; exact ⟨g2,g3⟩⟩
  ·show (nmB (.str k) && ((decide (V.str (Str.ofString "put")=.str "put") || _) && true))=true
   rw [i7 g1,decide_eq_true rfl]
   rfl
 | add k z =>
  obtain ⟨g1,g2,g3⟩:=g
  refine ⟨.tup ht (by show 3 <= 60; decide) fun v hv=>?_,?_⟩
  ·simp only [K41T.Wk.vs,List.mem_cons,List.not_mem_nil,or_false] at hv
   rcases hv with rfl | rfl | rfl
   ·exact ⟨Im.str (by decide +kernel),fun i e=>by cases e⟩
   ·exact ⟨Im.nm g1,fun i e=>by cases e⟩
   ·exact ⟨jA z,fun i e=>by cases e; exact ⟨g2,g3⟩⟩
  ·show (nmB (.str k) && ((decide (V.str (Str.ofString "add")=.str "put") || decide (V.str (Str.ofString "add")=.str "add")) && true))=true
   rw [i7 g1,decide_eq_true (show V.str (Str.ofString "add")=.str "add" from rfl),Bool.or_true]
   rfl
 | drop k =>
  refine ⟨.tup ht (by show 2 <= 60; decide) fun v hv=>?_,?_⟩
  ·simp only [K41T.Wk.vs,List.mem_cons,List.not_mem_nil,or_false] at hv
   rcases hv with rfl | rfl
   ·exact ⟨Im.str (by decide +kernel),fun i e=>by cases e⟩
   ·exact ⟨Im.nm g,fun i e=>by cases e⟩
  ·show (nmB (.str k) && decide (V.str (Str.ofString "drop")=.str "drop"))=true
   rw [i7 g,decide_eq_true rfl]
   rfl
theorem good_en {H:Hp} {c:Addr} {e:En} (h:EnO H c e) (h1:1 <= e.1) (g:eT e.2):EnV H (.ref c) true:=by
 obtain ⟨tt,dd⟩:=e
 obtain ⟨d,hc,hd⟩:=h
 cases dd with
 | none=>exact vD hc hd h1
 | some q =>
  obtain ⟨x,n,wk⟩:=q
  obtain ⟨n1,t,hd1,hd2⟩:=hd
  obtain ⟨g1,g2,g3⟩:=g
  obtain ⟨w1,w2⟩:=good_w hd2 g3
  have hdd:=DdV.ask4 hd1 (Im.nm g1) (jA n) w1
  have:=EnV.two hc (jA tt) hdd
  rw [show fO 1 (.int tt)=true from decide_eq_true h1,show fO 1 (.int n)=true from decide_eq_true g2,i7 g1,w2] at this
  exact this
abbrev oldD:Dd:=some ("zed",1,.drop "zz")
structure fQ (pl tm:Int) (C:List En) (own fi be th:Int) (up bt:Int) (ys:List En) (k sk e2:Nat):Prop where
 ks:be + sk=pl + k
 k0:sk=0 \/ k=0
 b0:0 <= be
 e1:k <= e2
 e3:fi <= pl + e2
 e4:e2 <= C.length
 yd:ys.drop sk=(C.drop k).take (e2 - k)
 yl:ys.length=sk + (e2 - k)
 t0:0 <= th
 bt0:0 <= bt
 th:pl <= be -> ba pl tm (aJ C) be=.int th
 u0:0 <= up
 u1:up <= pl + C.length
 gd:∀ e ∈ ys,1 <= e.1 /\ eT e.2
theorem ens_en {H:Hp} {ms:List Addr} {ys:List En} (h:Paired (EnO H) ms ys) (hg:∀ e ∈ ys,1 <= e.1 /\ eT e.2):∀ y ∈ ms.map V.ref,EnV H y true:=by
 induction h with
 | nil=>intro y hy; cases hy
 | cons r _ ih =>
  intro y hy
  rcases List.mem_cons.mp hy with rfl | hy
  ·have:=hg _ (List.mem_cons_self ..)
   exact good_en r this.1 this.2
  ·exact ih (fun e he=>hg e (List.mem_cons_of_mem _ he)) y hy
theorem fQ.let {pl tm:Int} {C:List En} {own fi be th up bt:Int} {ys:List En} {k sk e2:Nat} {H:Hp} {lt me:Addr} {nm:Str} {ms:List Addr} (h:fQ pl tm C own fi be th up bt ys k sk e2) (hl:H lt=some (.tup [.str "rows",.str nm,.str "b",.int own,.int be,.int th,.ref me,.int up,.int bt])) (hn:Nm nm) (ho:0 <= own) (hm:H me=some (.tup (ms.map V.ref))) (h60:ms.length <= 60) (hP:Paired (EnO H) ms ys):fN H lt :=
 vC hl hn nm_b ho h.b0 h.t0 h.u0 h.bt0 hm (by rw [List.length_map]; exact h60) (ens_en hP h.gd)
abbrev zsW:List Int:=[30,9,30,9]
theorem zsW_ok:∀ z ∈ zsW,0 < z /\ z < 2 ^ 250:=by decide +kernel
theorem dig4W {ds:List Int} (h:Dig ds zsW):∃ a b c d:Int,ds=[a,b,c,d] /\ (0 <= a /\ a < 30) /\ (0 <= b /\ b < 9) /\ (0 <= c /\ c < 30) /\ (0 <= d /\ d < 9):=by
 cases h with
 | cons h1 t=>cases t with
  | cons h2 t=>cases t with
   | cons h3 t=>cases t with
    | cons h4 t=>cases t with
     | nil=>exact (ex4 _ _ _ _ ⟨rfl,h1,h2,h3,h4⟩)
def spRw (K:PySem.W.Frag):Sp:=fun us H Q _=>∃ (c st b hh aa ch rw:Addr) (nm:Str) (z pl tm own fi:Int) (cs:List Addr) (C:List En),us=[.int z,.ref st,.ref ch,.str nm] /\ Nm nm /\ H st=some (.tup [.int pl,.int tm,.ref b,.ref hh,.ref aa]) /\ H ch=some (.tup [.ref rw,.int own,.int fi]) /\ H rw=some (.lst (cs.map V.ref)) /\ Paired (EnO H) cs C /\ (∀ e ∈ C,1 <= e.1 /\ eT e.2) /\ 0 <= pl /\ pl <= 3 /\ 0 <= tm /\ (0 < pl -> 1 <= tm) /\ 0 <= own /\ pl <= fi /\ fi <= pl + C.length /\ C.length <= 20 /\
 ∀ (lt me:Addr) (be th up bt:Int) (ms:List Addr) (ys:List En) (k sk e2:Nat) (H':Hp),ar H H' -> H' lt=some (.tup [.str "rows",.str nm,.str "b",.int own,.int be,.int th,.ref me,.int up,.int bt]) -> H' me=some (.tup (ms.map V.ref)) -> Paired (EnO H') ms ys -> ms.drop sk=(cs.drop k).take (e2 - k) -> fQ pl tm C own fi be th up bt ys k sk e2 -> Q (.ref lt) H'
theorem vE {H:Hp} {d t:Addr} {tm:Int} (hd:H d=some (.tup [.str "ask",.str "zed",.int 1,.ref t])) (ht:H t=some (.tup [.str "drop",.str "zz"])):∀ (bs:List Addr),(∀ y ∈ bs,H y=some (.tup [.int tm,.ref d])) -> Paired (EnO H) bs (List.replicate bs.length (tm,oldD))
 | [],_=>.nil
 | y :: r,h=>.cons ⟨d,h y (List.mem_cons_self ..),by decide,t,hd,ht⟩ (vE hd ht r fun z hz=>h z (List.mem_cons_of_mem _ hz))
section
variable {P:Program} {w:World} {K:PySem.W.Frag} {mg:Str -> Option Value} {base:Heap}
abbrev nRw:List Str:=["_law_cell","_law_stand","_law_chair","_law_name","_law_row","_law_term","_law_first","_law_d","_law_end","_law_before","_law_old","_law_entries_here","_law_there","_law_settled"]
abbrev pRw:List Str:=["_law_cell","_law_stand","_law_chair","_law_name"]
theorem scRw:ax nRw pRw (am sRw):=fsc (by decide +kernel)
theorem ndRw:(nRw ++ (["_law_k"]:List Str)).Nodup:=by decide +kernel
theorem ok_rw {f:Addr} {fd:FuncData} (F:Fun K "_law_rows" "_law_rows" sRw f fd) (hlen:mg "len"=none) (hmax:mg "max"=none) (hrange:mg "range"=none) (hint:mg "int"=none) (htuple:mg "tuple"=none) (Fd:aR P w K mg base 2 "_law_digits" ["_law_cell","_law_sizes"] jm) (Ft:aR P w K mg base 1 "_law_term_at" nTA (r0 asL)):aP P w K mg base CX0 3 f fd pRw (spRw K):=by
 refine F.ok scRw (fun vs H Q E h=>?_) (fun cdv A outer s H vs Q E hr h=>?_)
 ·obtain ⟨c,st,b,hh,aa,ch,rw,nm,z,pl,tm,own,fi,cs,C,rfl,_⟩:=h
  rfl
 ·obtain ⟨c,st,b,hh,aa,ch,rw,nm,z,pl,tm,own,fi,cs,C,rfl,hnm,hst,hch,hrw,hP,hG,pl0,pl3,tm0,tm1,ow0,fi1,fi2,cl,q⟩:=h
  have nd:=scRw.nd
  have r1:bi 1 _:=hr.mono (by decide)
  have hs16:sizeLine=16777216:=sizeLine_eq
  have hCl:cs.length=C.length:=Paired.length hP
  refine ⟨_,ae (dW (pv 2) (cL (n:=3) rfl (az (au (i:=4) nd rfl (Or.inl rfl)) (az (au (i:=5) nd rfl (Or.inl rfl)) (az (au (i:=6) nd rfl (Or.inl rfl)) bV))))) <|
   ae (aB (i:=7) nd rfl (Or.inl rfl) (j3 Fd hr (pv 0) (cA (cA (cA (cA bI)))))) <|
   ae (aB (i:=8) nd rfl (Or.inl rfl) (aE aX (pv 6) (aE cB (aq aW (pv 7) af (fun _ _=>rfl)) (aE aX (aE bR (aE aX (aq ao (pv 1) af (fun _ _=>rfl)) (aA aK (by rfl) hlen PySem.boot_len (ad (pv 4) ag))) (pv 6)) af)))) <|
   ae (aB (i:=9) nd rfl (Or.inl rfl) (aE cB (aq aW (pv 7) af (fun _ _=>rfl)) (aE aX (pv 8) af))) <|
   ae (aB (i:=10) nd rfl (Or.inr rfl) (cH (dG (dG (cA (wa_t (cH (dG (dG bI))) bI)))))) <|
   ae (ir (i:=11) nd rfl (Or.inl rfl) nRw nRw ["_law_k"] (am sRw) rfl rfl rfl (by decide +kernel) rfl rfl (by decide +kernel) (by decide +kernel) (by decide +kernel) (by decide +kernel)
    (db (by rfl) hrange (ad (aA (eA rfl) (by rfl) hmax kg (ad af (ad (aE bR (aq ao (pv 1) af (fun _ _=>rfl)) (pv 9)) ag))) ag)) (fun _ _ _ _ _=>au (i:=14) ndRw rfl (Or.inl rfl)) (fun _ _ _ _ _=>cr)
    (fun _ _ _ _ _=>aQ (ad (aq eO (pv 1) af (fun _ _=>rfl)) (ad (pv 10) ag))) (by with_unfolding_all rfl)) <|
   ae (aB (i:=11) nd rfl (Or.inl rfl) (aE gh (pv 11) (bO gf (pv 4) (bP (aA (eA rfl) (by rfl) hmax kg (ad af (ad (aE bR (pv 9) (aq ao (pv 1) af (fun _ _=>rfl))) ag)))) (bP (aE bR (pv 8) (aq ao (pv 1) af (fun _ _=>rfl))))))) <|
   ae (aB (i:=12) nd rfl (Or.inl rfl) (aC Ft r1 (ad (pv 1) (ad (pv 4) (ad (pv 9) ag))))) <|
   ae (cz (aS (iI (kq (pv 12))) (aj (aB (i:=12) nd rfl (Or.inl rfl) (aE dc (aq ao (pv 1) af (fun _ _=>rfl)) (bc fu (by rfl) hint qc (ad (bC dL (pv 9) af (aF _)) ag))))) aH)) <|
   ae (aB (i:=13) nd rfl (Or.inl rfl) (aE cB (aq aW (pv 7) af (fun _ _=>rfl)) (aE aX (pv 8) af))) <|
   aj (ay (cH (dG (eE (pv 3) (dG (eE (pv 5) (eE (pv 9) (eE (pv 12) (wa_c (bc dn (by rfl) htuple ca (ad (pv 11) ag)) (eE (pv 13) (oA (aq aW (pv 7) af (fun _ _=>rfl)) bI))))))))))),?_⟩
  dsimp only [bj,Cx.nox]
  refine ah fun K_ hK_=>?_
  refine ⟨_,rfl,ch,_,rfl,SqT.of hch,rfl,_,_,rfl,_,_,rfl,_,_,rfl,rfl,?_⟩
  refine hK_ _ _ (ah fun K_ hK_=>?_)
  refine ⟨_,rfl,(show 4 <= sizeLine by lia),fun la H1 n1 s1 e1=>(ex3 z la zsW ⟨rfl,e1,zsW_ok,(by decide),fun pd ds H2 s2 n2 e2 hD=>?_⟩)⟩
  obtain ⟨d0,d1,d2,d3,rfl,⟨a0,a1⟩,⟨b0,b1⟩,⟨c0,c1⟩,g0,g1⟩:=dig4W hD
  have s02:=s1.trans s2
  refine hK_ _ _ (ah fun K_ hK_=>?_)
  refine ⟨_,rfl,_,rfl,ex4 pd _ _ _ ⟨rfl,rfl,SqL.of e2,at1,_,rfl,ex4 st _ _ _ ⟨rfl,rfl,SqT.of (s02 _ _ hst),at0,_,rfl,rw,_,rfl,.inl (SqL.of (s02 _ _ hrw)),_,_,rfl,rfl,_,rfl,_,_,rfl,rfl,_,_,rfl,rfl,_,_,rfl,rfl,?_,_,_,rfl,rfl,?_⟩⟩⟩
  ·rw [List.length_map]; lia
  refine hK_ _ _ (ah fun K_ hK_=>?_)
  dsimp only
  rw [List.length_map]
  have eb0:=Int.emod_nonneg d1 (show pl + (cs.length:Int) - fi + 1 ≠ 0 by lia)
  have eb1:=Int.emod_lt_of_pos d1 (show 0 < pl + (cs.length:Int) - fi + 1 by lia)
  obtain ⟨ed,hed⟩:∃ ed:Int,ed=fi + d1 % (pl + (cs.length:Int) - fi + 1):=⟨_,rfl⟩
  rw [<- hed]
  have ed1:fi <= ed:=by lia
  have ed2:ed <= pl + cs.length:=by lia
  clear hed eb0 eb1
  refine ⟨_,rfl,ex4 pd _ _ _ ⟨rfl,rfl,SqL.of e2,at0,_,rfl,_,_,rfl,rfl,_,_,rfl,rfl,(show 0 < ed + 1 by lia),?_⟩⟩
  have bb0:=Int.emod_nonneg d0 (show ed + 1 ≠ 0 by lia)
  have bb1:=Int.emod_lt_of_pos d0 (show 0 < ed + 1 by lia)
  refine hK_ _ _ (ah fun K_ hK_=>?_)
  dsimp only
  generalize d0 % (ed + 1)=be at bb0 bb1 ⊢
  refine ⟨(show 2 <= sizeLine by lia),fun t3 H3 n3 s3 e3=>⟨(show 4 <= sizeLine by lia),fun od H4 n4 s4 e4=>?_⟩⟩
  have s04:=s02.trans (s3.trans s4)
  obtain ⟨sk,hsk⟩:∃ sk:Nat,sk=(pl - be).toNat:=⟨_,rfl⟩
  obtain ⟨k,hk⟩:∃ k:Nat,k=(be - pl).toNat:=⟨_,rfl⟩
  have hmx:(if pl - be > 0 then pl - be else 0)=(sk:Int):=by split <;> lia
  refine hK_ _ _ (ah fun K_ hK_=>?_)
  refine ⟨_,rfl,ex4 st _ _ _ ⟨rfl,rfl,SqT.of (s04 _ _ hst),at0,_,rfl,_,_,rfl,rfl,_,_,rfl,_,rfl,?_,?_,?_⟩⟩
  ·rw [hmx]; lia
  ·rw [hmx]; lia
  rw [hmx,Int.toNat_natCast]
  refine lcJ (n:=sk) (fun i=>.int (0 + (i:Int))) (fun D i ys Hx=>H4 D=none /\ ar H4 Hx /\ Hx D=some (.lst ys) /\ ∃ bs:List Addr,ys=bs.map V.ref /\ bs.length=i /\ ∀ y ∈ bs,Hx y=some (.tup [.int tm,.ref od])) rfl ?_ ?_ ?_ ?_ ?_ ?_
  ·rintro D i ys Hx hi _
   exact hi
  ·rintro D i ys Hx y Hy hi _ ⟨rfl,rfl⟩
   exact ⟨rfl,rfl⟩
  ·rintro D ys Hx _
   exact Nat.le_refl _
  ·intro D hD
   exact ⟨hD,.new hD,ai,[],rfl,rfl,fun y h=>(nomatch h)⟩
  ·rintro D i ys Hx post hi ⟨h1,h2,h3,bs,rfl,hbl,hbs⟩ hp
   refine ⟨_,rfl,ex4 st _ _ _ ⟨rfl,rfl,SqT.of (h2 _ _ (s04 _ _ hst)),at1,_,rfl,(show 2 <= sizeLine by lia),fun c' H6 n6 s6 e6=>?_⟩⟩
   have hD8:H6 D=some (.lst (bs.map V.ref)):=s6 _ _ h3
   have tk:Tk H6 (upd H6 D (.lst (bs.map V.ref ++ [.ref c']))):=fun b ys e=>by rw [aw (aM e hD8 (by intro z; cases z))]; exact e
   refine hp (.ref c') H6 hD8 (by rw [List.length_map]; exact bA (by lia)) ⟨h1,fun b o e=>?_,ai,bs ++ [c'],by rw [List.map_append]; rfl,by rw [List.length_append,hbl]; rfl,fun y hy=>?_⟩
   ·rw [aw (ak e h1)]
    exact s6 _ _ (h2 _ _ e)
   ·rcases List.mem_append.mp hy with h | h
    ·exact tk _ _ (s6 _ _ (hbs y h))
    ·rw [List.mem_singleton.mp h]; exact tk _ _ e6
  rintro D ys H5 ⟨hD5,s5,e5,bs,rfl,hbl,hbs⟩
  have s05:=s04.trans s5
  have pd5:=(s3.trans (s4.trans s5)) _ _ e2
  have hmk:(if be - pl > 0 then be - pl else 0)=(k:Int):=by split <;> lia
  obtain ⟨e2',he2⟩:∃ n:Nat,n=(ed - pl).toNat:=⟨_,rfl⟩
  refine hK_ _ _ (ah fun K_ hK_=>?_)
  refine ⟨_,rfl,_,rfl,_,rfl,_,rfl,ex4 st _ _ _ ⟨rfl,rfl,SqT.of (s05 _ _ hst),at0,_,_,rfl,rfl,_,_,rfl,_,rfl,_,rfl,_,rfl,ex4 st _ _ _ ⟨rfl,rfl,SqT.of (s05 _ _ hst),at0,_,_,rfl,rfl,_,rfl,rw,_,rfl,SqL.of (s05 _ _ hrw),?_⟩⟩⟩
  dsimp only
  rw [hmk,show ed - pl=((e2':Nat):Int) by lia]
  intro c6 n6
  have hke:k <= e2':=by lia
  have hec:e2' <= cs.length:=by lia
  have s6:=ar.new (o:=.lst (cj (cs.map V.ref) (some (k:Int)) (some (e2':Int)))) n6
  have e6:upd H5 c6 (.lst (cj (cs.map V.ref) (some (k:Int)) (some (e2':Int)))) c6=some (.lst (((cs.drop k).take (e2' - k)).map V.ref)):=by
   rw [ai,qi _ _ _ hke hec]
  have d6:=s6 _ _ e5
  generalize upd H5 c6 (.lst (cj (cs.map V.ref) (some (k:Int)) (some (e2':Int))))=H6 at s6 e6 d6
  have cl6:((cs.drop k).take (e2' - k)).length=e2' - k:=by rw [List.length_take,List.length_drop]; lia
  refine (ex4 D c6 _ _ ⟨rfl,rfl,d6,e6,(by rw [List.length_map,List.length_map,cl6]; lia),fun ml H7 n7 s7 e7=>?_⟩)
  refine hK_ _ _ (ah fun K_ hK_=>?_)
  rw [<- List.map_append] at e7
  have s57:=s6.trans s7
  have s07:=s05.trans s57
  refine ⟨_,rfl,_,rfl,_,rfl,st,rw,b,hh,aa,pl,tm,be,cs,C,rfl,s07 _ _ hst,s07 _ _ hrw,bq (Tk.of s07) hP,?_⟩
  have pd7:=s57 _ _ pd5
  have hthe:(pl <= be -> ∃ th,0 <= th /\ ba pl tm (aJ C) be=.int th) /\ (¬ pl <= be -> ba pl tm (aJ C) be=.non):=by
   refine ⟨fun h=>?_,fun h=>K41B.bZ _ _ _ (.inl (by lia))⟩
   by_cases hz:be=pl
   ·exact ⟨tm,tm0,by unfold ba; rw [if_pos hz]⟩
   ·obtain ⟨e,d,tt,l1,l2,l3⟩:=lR (tm:=tm) hP (show pl < be by lia) (by lia)
    refine ⟨tt,?_,l3⟩
    unfold ba at l3
    rw [if_neg hz,if_neg (by rw [List.length_map]; lia)] at l3
    have hlt:(be - pl - 1).toNat < C.length:=by lia
    rw [List.getD_eq_getElem?_getD,List.getElem?_map,List.getElem?_eq_getElem hlt] at l3
    have l4:C[(be - pl - 1).toNat].1=tt:=by injection l3
    have:=(hG _ (List.getElem_mem hlt)).1
    lia
  refine hK_ _ _ (ah fun K_ hK_=>?_)
  refine ⟨fun σ' H'=>∃ th:Int,σ'=[some (.int z),some (.ref st),some (.ref ch),some (.str nm),some (.ref rw),some (.int own),some (.int fi),some (.ref pd),some (.int ed),some (.int be),some (.ref od),some (.ref ml),some (.int th),none] /\ H'=H7 /\ 0 <= th /\ (pl <= be -> ba pl tm (aJ C) be=.int th),?_,?_⟩
  ·by_cases hb:pl <= be
   ·obtain ⟨th,th0,hth⟩:=hthe.1 hb
    rw [hth]
    exact ⟨_,rfl,_,rfl,bE (fun z=>absurd (of_decide_eq_true z) (by intro z; cases z)) (fun _=>⟨th,rfl,rfl,th0,fun _=>rfl⟩)⟩
   ·rw [hthe.2 hb]
    refine ⟨_,rfl,_,rfl,bE (fun _=>?_) (fun z=>absurd (decide_eq_true rfl) z)⟩
    refine ⟨_,rfl,ex4 st _ _ _ ⟨rfl,rfl,SqT.of (s07 _ _ hst),at1,_,rfl,_,_,rfl,rfl,.inr ⟨_,rfl,?_⟩⟩⟩
    refine ⟨_,_,rfl,rfl,.inr (b01 _),_,rfl,rfl,?_,fun z=>absurd z hb⟩
    by_cases hz:decide ((0:Int) < be)=true
    ·rw [if_pos hz]; lia
    ·rw [if_neg hz]; lia
  rintro σ' H8 ⟨th,rfl,rfl,th0,hth⟩
  clear hthe
  have m2:=Int.emod_nonneg d2 (show ed + 1 ≠ 0 by lia)
  have m3:=Int.emod_lt_of_pos d2 (show 0 < ed + 1 by lia)
  refine hK_ _ _ (ah fun K_ hK_=>?_)
  refine ⟨_,rfl,ex4 pd _ _ _ ⟨rfl,rfl,SqL.of pd7,d8,_,rfl,_,_,rfl,rfl,_,_,rfl,rfl,(show 0 < ed + 1 by lia),?_⟩⟩
  refine hK_ _ _ ?_
  dsimp only
  generalize d2 % (ed + 1)=up at m2 m3 ⊢
  refine ⟨_,rfl,_,rfl,_,rfl,_,rfl,_,rfl,ml,_,rfl,SqL.of e7,fun me H10 n10 s10 e10=>⟨_,rfl,_,rfl,ex4 pd _ _ _ ⟨rfl,rfl,SqL.of (s10 _ _ pd7),ei,(show 9 <= sizeLine by lia),fun lt H11 n11 s11 e11=>?_⟩⟩⟩
  have sE:=s10.trans s11
  have s0E:=s07.trans sE
  have s5E:=s57.trans sE
  have hodE:H11 od=some (.tup [.str "ask",.str "zed",.int 1,.ref t3]):=s5E _ _ (s5 _ _ e4)
  have ht3E:H11 t3=some (.tup [.str "drop",.str "zz"]):=s5E _ _ (s5 _ _ (s4 _ _ e3))
  have hPo:Paired (EnO H11) bs (List.replicate bs.length (tm,oldD)):=vE hodE ht3E bs fun y hy=>s5E _ _ (hbs y hy)
  have hPc:Paired (EnO H11) ((cs.drop k).take (e2' - k)) ((C.drop k).take (e2' - k)):=Paired.take' (Paired.dropS (bq (Tk.of s0E) hP) _) _
  have hPa:Paired (EnO H11) (bs ++ (cs.drop k).take (e2' - k)) (List.replicate bs.length (tm,oldD) ++ (C.drop k).take (e2' - k)):=Paired.catS hPo hPc
  have hgd:∀ e ∈ List.replicate bs.length ((tm,oldD):En) ++ (C.drop k).take (e2' - k),1 <= e.1 /\ eT e.2:=fun e he=>by
   rcases List.mem_append.mp he with h | h
   ·obtain ⟨h1,h2⟩:=List.mem_replicate.mp h
    rw [h2]
    exact ⟨tm1 (by lia),uT,by decide,nm_zz⟩
   ·exact hG e (List.mem_of_mem_drop (List.mem_of_mem_take h))
  refine q lt me be th up d3 _ _ k sk e2' H11 s0E e11 (s11 _ _ e10) hPa ?_ ⟨by lia,by lia,bb0,hke,by lia,by lia,?_,?_,th0,g0,hth,m2,by lia,hgd⟩
  ·rw [List.drop_append_of_le_length (by lia),List.drop_of_length_le (by lia),List.nil_append]
  ·rw [List.drop_append_of_le_length (by rw [List.length_replicate]; lia),List.drop_of_length_le (by rw [List.length_replicate]; lia),List.nil_append]
  ·rw [List.length_append,List.length_replicate,List.length_take,List.length_drop]; lia
end
end K41
namespace K41
open PySem L2
open K41B (ba bn cp)
abbrev sHd:Stmt:=top 124
def spHd (K:PySem.W.Frag):Sp:=fun us H Q _=>∃ (wt lt st en b hh aa me:Addr) (nm:Str) (t s pl tm lm be th up bt:Int) (v:V) (es ms:List Addr) (xs ys:List En) (k sk:Nat),us=[.ref wt,.ref lt] /\ H wt=some (.tup [.int t,v,.int s,.ref st,.ref en]) /\ H st=some (.tup [.int pl,.int tm,.ref b,.ref hh,.ref aa]) /\ H en=some (.tup (es.map V.ref)) /\ Paired (EnO H) es xs /\ H lt=some (.tup [.str "rows",.str nm,.str "b",.int lm,.int be,.int th,.ref me,.int up,.int bt]) /\ H me=some (.tup (ms.map V.ref)) /\ Paired (EnO H) ms ys /\ t <= lm /\ be + sk=pl + k /\ (sk=0 \/ k=0) /\ es.length <= 60 /\ ms.length <= 60 /\
 (pl <= be -> ba pl tm (aJ xs) be ≠ .int th -> ∀ (p w2 du:Addr) (H':Hp),ar H H' -> H' p=some (.tup [.ref w2,.ref du]) -> H' w2=some (.tup [.int lm,(if t < lm then .non else v),.int s,.ref st,.ref en]) -> dC H' du "b" nm lm false s bt -> Q (.ref p) H') /\
 ((pl <= be -> ba pl tm (aJ xs) be=.int th) -> ∀ (p w2 du en2:Addr) (H':Hp),ar H H' -> H' p=some (.tup [.ref w2,.ref du]) -> H' w2=some (.tup [.int lm,(if t < lm then .non else v),.int (gz s up (be + ms.length)),.ref st,.ref en2]) -> H' en2=some (.tup ((bn (aJ xs) ((aJ ys).drop sk) k es (ms.drop sk)).map V.ref)) -> dC H' du "b" nm lm true (be + ms.length) bt -> Q (.ref p) H')
section
variable {P:Program} {w:World} {K:PySem.W.Frag} {mg:Str -> Option Value} {base:Heap}
abbrev nHd:List Str:=["_law_state","_law_letter","_law_term","_law_vote","_law_settled","_law_stand","_law_entries_here","_law_kind","_law_name","_law_to","_law_here","_law_before","_law_there","_law_more","_law_upto","_law_beat","_law_found","_law_k","_law_entry","_law_at","_law_place"]
theorem scHd:ax nHd ["_law_state","_law_letter"] (am sHd):=fsc (by decide +kernel)
theorem ok_hd {f:Addr} {fd:FuncData} (F:Fun K "_law_heard" "_law_heard" sHd f fd) (hlen:mg "len"=none) (hlist:mg "list"=none) (hmax:mg "max"=none) (hmin:mg "min"=none) (henum:mg "enumerate"=none) (htuple:mg "tuple"=none) (Ft:aR P w K mg base 1 "_law_term_at" nTA (r0 asT)):aP P w K mg base CX0 2 f fd ["_law_state","_law_letter"] (spHd K):=by
 refine F.ok scHd (fun vs H Q E h=>?_) (fun cdv A outer s' H vs Q E hr h=>?_)
 ·obtain ⟨wt,lt,st,en,b,hh,aa,me,nm,t,s,pl,tm,lm,be,th,up,bt,v,es,ms,xs,ys,k,sk,rfl,_⟩:=h
  rfl
 ·obtain ⟨wt,lt,st,en,b,hh,aa,me,nm,t,s,pl,tm,lm,be,th,up,bt,v,es,ms,xs,ys,k,sk,rfl,hw,hst,hen,hP,hlt,hme,hPm,htl,hks,hk0,e60,m60,qN,qY⟩:=h
  have nd:=scHd.nd
  have hs16:sizeLine=16777216:=sizeLine_eq
  have hxl:es.length=xs.length:=Paired.length hP
  have hyl:ms.length=ys.length:=Paired.length hPm
  refine ⟨_,ae (cz (dW (pv 0) (cL (n:=5) rfl (az (au (i:=2) nd rfl (Or.inl rfl)) (az (au (i:=3) nd rfl (Or.inl rfl)) (az (au (i:=4) nd rfl (Or.inl rfl)) (az (au (i:=5) nd rfl (Or.inl rfl)) (az (au (i:=6) nd rfl (Or.inl rfl)) bV)))))))) <|
   ae (cz (dW (pv 1) (cL (n:=9) rfl (az (au (i:=7) nd rfl (Or.inl rfl)) (az (au (i:=8) nd rfl (Or.inl rfl)) (az (au (i:=9) nd rfl (Or.inl rfl)) (az (au (i:=10) nd rfl (Or.inl rfl)) (az (au (i:=11) nd rfl (Or.inl rfl)) (az (au (i:=12) nd rfl (Or.inl rfl)) (az (au (i:=13) nd rfl (Or.inl rfl)) (az (au (i:=14) nd rfl (Or.inl rfl)) (az (au (i:=15) nd rfl (Or.inl rfl)) bV)))))))))))) <|
   ae (aS (aD dY (pv 10) (pv 2) (aF _)) bY aH) <|
   ae (cz (aS (aD dL (pv 10) (pv 2) (aF _)) (aj (aB (i:=3) nd rfl (Or.inl rfl) cn)) aH)) <|
   ae (cz (aS (PW.pt (iJ (aD jJ (pv 11) (aq ao (pv 5) af (fun _ _=>rfl)) (aF _)) (fZ (aD gb (aC Ft hr (ad (pv 5) (ad (pv 6) (ad (pv 11) ag)))) (pv 12) (aF _))))) (aj (ay (aQ (ad (aQ (ad (pv 10) (ad (pv 3) (ad (pv 4) (ad (pv 5) (ad (pv 6) ag)))))) (ad (aQ (ad (aQ (ad aN (ad aN (ad (pv 8) (ad (pv 10) (ad dU (ad (pv 4) (ad (pv 15) ag)))))))) ag)) ag))))) aH)) <|
   ae (aB (i:=16) nd rfl (Or.inl rfl) (bc eN (by rfl) hlist pz (ad (pv 6) ag))) <|
   ae (cz (dX PassesOwn.never rfl (tP (by rfl) henum (ad (pv 13) ag)) (cL (n:=2) rfl (az (au (i:=17) nd rfl (Or.inl rfl)) (az (au (i:=18) nd rfl (Or.inl rfl)) bV))) <|
    ae (aB (i:=19) nd rfl (Or.inl rfl) (aE bR (aE aX (pv 11) (pv 17)) (aq ao (pv 5) af (fun _ _=>rfl)))) <|
    aj (aS (PW.pt (iJ (aD jJ (pv 19) af (aF _)) (fZ (PW.pt (cN (aD jJ (pv 19) (aA aK (by rfl) hlen PySem.boot_len (ad (pv 16) ag)) (aF _)) (cZ (aD gb (aq ao (aq aW (pv 16) (pv 19) (fun _ _=>rfl)) af (fun _ _=>rfl)) (aq ao (pv 18) af (fun _ _=>rfl)) (aF _)))))))) (ae (aB (i:=16) nd rfl (Or.inl rfl) (aE gh (bO gf (pv 16) cx (bP (pv 19))) (bc eN (by rfl) hlist pz (ad (bO cT (pv 13) (bP (pv 17)) cx) ag)))) (aj sD)) aH))) <|
   ae (aB (i:=20) nd rfl (Or.inl rfl) (aE aX (pv 11) (aA aK (by rfl) hlen PySem.boot_len (ad (pv 13) ag)))) <|
   ae (aB (i:=4) nd rfl (Or.inl rfl) (aA (eA rfl) (by rfl) hmax kg (ad (pv 4) (ad (aA (jK rfl) (by rfl) hmin bMinS (ad (pv 14) (ad (pv 20) ag))) ag)))) <|
   aj (ay (aQ (ad (aQ (ad (pv 10) (ad (pv 3) (ad (pv 4) (ad (pv 5) (ad (bc dn (by rfl) htuple ca (ad (pv 16) ag)) ag)))))) (ad (aQ (ad (aQ (ad aN (ad aN (ad (pv 8) (ad (pv 10) (ad dU (ad (pv 20) (ad (pv 15) ag)))))))) ag)) ag)))),?_⟩
  dsimp only [bj,Cx.nox]
  refine ah fun K_ hK_=>?_
  refine ⟨fun σ' H'=>σ'=[some (.ref wt),some (.ref lt),some (.int t),some v,some (.int s),some (.ref st),some (.ref en),none,none,none,none,none,none,none,none,none,none,none,none,none,none] /\ H'=H,⟨_,rfl,wt,_,rfl,SqT.of hw,rfl,_,_,rfl,_,_,rfl,_,_,rfl,_,_,rfl,_,_,rfl,rfl,rfl,rfl⟩,?_⟩
  rintro σ' H1 ⟨rfl,rfl⟩
  refine hK_ _ _ (ah fun K_ hK_=>?_)
  refine ⟨fun σ' H'=>σ'=[some (.ref wt),some (.ref lt),some (.int t),some v,some (.int s),some (.ref st),some (.ref en),some (.str "rows"),some (.str nm),some (.str "b"),some (.int lm),some (.int be),some (.int th),some (.ref me),some (.int up),some (.int bt),none,none,none,none,none] /\ H'=H1,⟨_,rfl,lt,_,rfl,SqT.of hlt,rfl,_,_,rfl,_,_,rfl,_,_,rfl,_,_,rfl,_,_,rfl,_,_,rfl,_,_,rfl,_,_,rfl,_,_,rfl,rfl,rfl,rfl⟩,?_⟩
  rintro σ' H1 ⟨rfl,rfl⟩
  refine hK_ _ _ (ah fun K_ hK_=>?_)
  refine ⟨_,rfl,_,rfl,_,_,rfl,rfl,_,rfl,?_⟩
  rw [decide_eq_false (show ¬ lm < t by lia)]
  refine aV ?_
  refine hK_ _ _ (ah fun K_ hK_=>?_)
  refine ⟨fun σ' H'=>σ'=[some (.ref wt),some (.ref lt),some (.int t),some (if t < lm then .non else v),some (.int s),some (.ref st),some (.ref en),some (.str "rows"),some (.str nm),some (.str "b"),some (.int lm),some (.int be),some (.int th),some (.ref me),some (.int up),some (.int bt),none,none,none,none,none] /\ H'=H1,?_,?_⟩
  ·refine ⟨_,rfl,_,rfl,_,_,rfl,rfl,_,rfl,bE (fun hz=>?_) (fun hz=>?_)⟩
   ·rw [if_pos (of_decide_eq_true hz)]
    exact ⟨rfl,rfl⟩
   ·rw [if_neg (fun z=>hz (decide_eq_true z))]
    exact ⟨rfl,rfl⟩
  rintro σ' H2 ⟨rfl,rfl⟩
  refine hK_ _ _ (ah fun K_ hK_=>?_)
  generalize (if t < lm then V.non else v)=v' at qN qY
  refine ⟨fun σ' H'=>σ'=[some (.ref wt),some (.ref lt),some (.int t),some v',some (.int s),some (.ref st),some (.ref en),some (.str "rows"),some (.str nm),some (.str "b"),some (.int lm),some (.int be),some (.int th),some (.ref me),some (.int up),some (.int bt),none,none,none,none,none] /\ H'=H2 /\ (pl <= be -> ba pl tm (aJ xs) be=.int th),?_,?_⟩
  ·refine ⟨_,rfl,_,rfl,ex4 st _ _ _ ⟨rfl,rfl,SqT.of hst,at0,_,_,rfl,rfl,_,rfl,?_⟩⟩
   by_cases hgo:¬ (pl <= be -> ba pl tm (aJ xs) be=.int th)
   ·have h1':pl <= be:=Classical.byContradiction fun z=>hgo fun y=>absurd y z
    have h2':ba pl tm (aJ xs) be ≠ .int th:=fun z=>hgo fun _=>z
    refine bE (fun _=>?_) (fun z=>absurd (decide_eq_true h1') z)
    refine ⟨_,rfl,_,rfl,_,rfl,st,ex9 en b hh aa pl tm be es xs ⟨rfl,hst,hen,hP,_,rfl,K41B.gR pl tm _ _ th,_,rfl,bE (fun _=>?_) (fun z=>absurd (by rw [decide_eq_false h2']; rfl) z)⟩⟩
    refine ⟨_,rfl,_,rfl,_,rfl,_,rfl,_,rfl,(show 5 <= sizeLine by lia),fun w2 H2 n2 s2 e2=>⟨_,rfl,_,rfl,_,rfl,_,rfl,(show 7 <= sizeLine by lia),fun dq H3 n3 s3 e3=>⟨(show 1 <= sizeLine by lia),fun du H4 n4 s4 e4=>⟨(show 2 <= sizeLine by lia),fun p H5 n5 s5 e5=>?_⟩⟩⟩⟩
    exact qN h1' h2' p w2 du H5 (s2.trans (s3.trans (s4.trans s5))) e5 (s5 _ _ (s4 _ _ (s3 _ _ e2))) ⟨dq,s5 _ _ e4,s5 _ _ (s4 _ _ e3)⟩
   ·have hgo:=Classical.not_not.mp hgo
    refine bE (fun hz=>?_) (fun _=>aV ⟨rfl,rfl,hgo⟩)
    have hz:=of_decide_eq_true hz
    refine ⟨_,rfl,_,rfl,_,rfl,st,ex9 en b hh aa pl tm be es xs ⟨rfl,hst,hen,hP,_,rfl,?_⟩⟩
    have hgz:=hgo hz
    rw [hgz]
    exact ⟨rfl,_,rfl,mB rfl ⟨rfl,rfl,fun _=>rfl⟩⟩
  rintro σ' H3 ⟨rfl,rfl,hgo⟩
  have qY:=qY hgo
  have hkl:k <= xs.length:=by
   rcases hk0 with h | h
   ·by_cases hk:k <= xs.length
    ·exact hk
    ·have:=hgo (by lia)
     rw [K41B.bZ _ _ _ (.inr (by rw [List.length_map]; lia))] at this
     cases this
   ·lia
  clear hgo qN
  refine hK_ _ _ (ah fun K_ hK_=>?_)
  refine ⟨_,rfl,en,_,rfl,.inr (SqT.of hen),fun l0 H4 n4 s4 e4=>?_⟩
  refine hK_ _ _ (ah fun K_ hK_=>?_)
  refine ⟨fun σ' H'=>∃ (fl:Addr) (v17 v18 v19:Option V),σ'=[some (.ref wt),some (.ref lt),some (.int t),some v',some (.int s),some (.ref st),some (.ref en),some (.str "rows"),some (.str nm),some (.str "b"),some (.int lm),some (.int be),some (.int th),some (.ref me),some (.int up),some (.int bt),some (.ref fl),v17,v18,v19,none] /\ ar H4 H' /\ H' fl=some (.lst ((bn (aJ xs) ((aJ ys).drop sk) k es (ms.drop sk)).map V.ref)),?_,?_⟩
  ·refine ⟨_,rfl,me,_,rfl,SqT.of (s4 _ _ hme),jZ (K:=K) (xs:=ms.map V.ref) (fun i σ Hx=>∃ (v17 v18 v19:Option V),σ=[some (.ref wt),some (.ref lt),some (.int t),some v',some (.int s),some (.ref st),some (.ref en),some (.str "rows"),some (.str nm),some (.str "b"),some (.int lm),some (.int be),some (.int th),some (.ref me),some (.int up),some (.int bt),some (.ref l0),v17,v18,v19,none] /\ ar H4 Hx /\ i <= sk + cp ((aJ xs).drop k) ((aJ ys).drop sk)) (ex3 none none none ⟨rfl,ar.refl _,Nat.zero_le _⟩) ?_ ?_ ?_⟩
   ·rintro i σ Hx ⟨v17,v18,v19,rfl,sx,_⟩
    exact SqT.of (sx _ _ (s4 _ _ hme))
   ·rintro i x p σ Hx hx hp ⟨v17,v18,v19,rfl,sx,hi⟩
    rw [List.getElem?_map] at hx
    cases he:ms[i]? with
    | none=>rw [he] at hx; cases hx
    | some e =>
     rw [he] at hx
     cases hx
     have hil:i < ms.length:=(List.getElem?_eq_some_iff.mp he).1
     have hiy:i < ys.length:=by lia
     have ht:(aJ ys)[i]?=some ys[i].1:=by rw [List.getElem?_map,List.getElem?_eq_getElem hiy]; rfl
     have s1:=ar.new (o:=.tup [.int (0 + (i:Int)),.ref e]) hp
     have e1:upd Hx p (.tup [.int (0 + (i:Int)),.ref e]) p=some (.tup [.int (0 + (i:Int)),.ref e]):=ai
     refine ⟨p,_,rfl,SqT.of e1,rfl,_,_,rfl,_,_,rfl,rfl,?_⟩
     refine ah fun K_ hK_=>?_
     generalize upd Hx p (.tup [.int (0 + (i:Int)),.ref e])=H2 at s1 e1 ⊢
     have sH:=sx.trans s1
     have sA:=s4.trans sH
     obtain ⟨d,hd⟩:=jy (bq (Tk.of sA) hPm) i e _ he ht
     generalize ys[i].1=tt at ht hd
     refine ⟨_,rfl,_,rfl,_,_,rfl,rfl,_,rfl,ex4 st _ _ _ ⟨rfl,rfl,SqT.of (sA _ _ hst),at0,_,_,rfl,rfl,?_⟩⟩
     refine hK_ _ _ ?_
     refine ⟨_,rfl,_,_,rfl,rfl,_,rfl,?_⟩
     have hci:=K41B.lG ((aJ xs).drop k) ((aJ ys).drop sk)
     rw [List.length_drop,List.length_map] at hci
     by_cases his:i < sk
     ·refine bE (fun z=>absurd (of_decide_eq_true z) (by lia)) (fun _=>?_)
      exact aV (ex3 _ _ _ ⟨rfl,sH,by lia⟩)
     refine bE (fun _=>?_) (fun z=>absurd (decide_eq_true (show (0:Int) <= be + (0 + (i:Int)) - pl by lia)) z)
     refine ⟨_,rfl,_,rfl,l0,_,rfl,.inl (SqL.of (sH _ _ e4)),_,_,rfl,rfl,_,rfl,?_⟩
     have hTd:((aJ xs).drop k)[i - sk]?=(aJ xs)[k + (i - sk)]?:=List.getElem?_drop ..
     have hMd:((aJ ys).drop sk)[i - sk]?=some tt:=by rw [List.getElem?_drop,show sk + (i - sk)=i by lia]; exact ht
     by_cases hge:es.length <= k + (i - sk)
     ·refine bE (fun _=>?_) (fun z=>absurd (decide_eq_true (by rw [List.length_map]; lia)) z)
      have hstop:cp ((aJ xs).drop k) ((aJ ys).drop sk)=i - sk:=K41B.iF (by lia) hMd (by rw [hTd,List.getElem?_eq_none (by rw [List.length_map]; lia)]; intro z; cases z)
      have hdd:((aJ ys).drop sk).length=ys.length - sk:=by rw [List.length_drop,List.length_map]
      have hfe:bn (aJ xs) ((aJ ys).drop sk) k es (ms.drop sk)=es.take (k + (i - sk)) ++ ms.drop i:=by unfold bn; rw [hstop,if_neg (by lia),List.drop_drop,show sk + (i - sk)=i by lia]
      refine bz ?_
      refine ah fun K_ hK_=>?_
      refine ⟨_,rfl,_,rfl,_,rfl,l0,_,rfl,SqL.of (sH _ _ e4),?_⟩
      intro c7 n7
      have s7:=ar.new (o:=.lst (cj (es.map V.ref) none (some (be + (0 + (i:Int)) - pl)))) n7
      have e7:upd H2 c7 (.lst (cj (es.map V.ref) none (some (be + (0 + (i:Int)) - pl)))) c7=some (.lst ((es.take (k + (i - sk))).map V.ref)):=by
       rw [ai,show be + (0 + (i:Int)) - pl=((k + (i - sk):Nat):Int) by lia,i6,List.map_take]
      generalize upd H2 c7 (.lst (cj (es.map V.ref) none (some (be + (0 + (i:Int)) - pl))))=H7 at s7 e7 ⊢
      refine ⟨_,rfl,_,rfl,_,rfl,me,_,rfl,(sH.trans s7) _ _ (s4 _ _ hme),fun c8 H8 s8 e8=>?_⟩
      rw [show (0:Int) + (i:Int)=((i:Nat):Int) by lia,K41B.jt] at e8
      refine ⟨c8,_,rfl,.inr (SqT.of e8),fun l9 H9 n9 s9 e9=>?_⟩
      have hdl:(ms.drop i).length <= ms.length:=by rw [List.length_drop]; lia
      have htl2:(es.take (k + (i - sk))).length <= es.length:=by rw [List.length_take]; lia
      refine (ex4 c7 l9 _ _ ⟨rfl,rfl,s9 _ _ (s8 _ _ e7),e9,(by rw [List.length_map,List.length_map]; lia),fun l10 H10 n10 s10 e10=>?_⟩)
      refine hK_ _ _ ?_
      refine (ex4 l10 _ _ _ ⟨rfl,sH.trans (s7.trans (s8.trans (s9.trans s10))),?_⟩)
      rw [hfe,List.map_append]
      exact e10
     ·refine bE (fun z=>absurd (of_decide_eq_true z) (by rw [List.length_map]; lia)) (fun _=>?_)
      have hka:k + (i - sk) < es.length:=by lia
      have hkx:k + (i - sk) < xs.length:=by lia
      have htx:(aJ xs)[k + (i - sk)]?=some xs[k + (i - sk)].1:=by rw [List.getElem?_map,List.getElem?_eq_getElem hkx]; rfl
      obtain ⟨d',hd'⟩:=jy (bq (Tk.of sA) hP) (k + (i - sk)) es[k + (i - sk)] _ (List.getElem?_eq_getElem hka) htx
      have hat:atI (es.map V.ref) (be + (0 + (i:Int)) - pl)=some (.ref es[k + (i - sk)]):=by
       rw [show be + (0 + (i:Int)) - pl=((k + (i - sk):Nat):Int) by lia]
       exact bN (by rw [List.getElem?_map,List.getElem?_eq_getElem hka]; rfl)
      generalize xs[k + (i - sk)].1=tx at htx hd'
      generalize es[k + (i - sk)]=ex at hat hd'
      refine ⟨_,rfl,_,rfl,ex4 l0 _ _ _ ⟨rfl,rfl,SqL.of (sH _ _ e4),hat,ex,ex3 _ _ _ ⟨rfl,rfl,SqT.of hd',at0,_,rfl,ex4 e _ _ _ ⟨rfl,rfl,SqT.of hd,at0,rfl,_,rfl,?_⟩⟩⟩⟩
      by_cases hc:tx=tt
      ·have hmore:=K41B.iE (T:=(aJ xs).drop k) (M:=(aJ ys).drop sk) (i:=i - sk) (by lia) hMd (by rw [hTd,htx,hc])
       refine mB (by rw [hc]) ?_
       exact (ex3 _ _ _ ⟨rfl,sH,by lia⟩)
      ·have hstop:cp ((aJ xs).drop k) ((aJ ys).drop sk)=i - sk:=K41B.iF (by lia) hMd (by rw [hTd,htx]; intro z; exact hc (Option.some.inj z))
       have hdd:((aJ ys).drop sk).length=ys.length - sk:=by rw [List.length_drop,List.length_map]
       have hfe:bn (aJ xs) ((aJ ys).drop sk) k es (ms.drop sk)=es.take (k + (i - sk)) ++ ms.drop i:=by unfold bn; rw [hstop,if_neg (by lia),List.drop_drop,show sk + (i - sk)=i by lia]
       refine bE (fun _=>?_) (fun z=>absurd (by rw [decide_eq_false (fun z=>hc (by injection z))]; rfl) z)
       refine ah fun K_ hK_=>?_
       refine ⟨_,rfl,_,rfl,_,rfl,l0,_,rfl,SqL.of (sH _ _ e4),?_⟩
       intro c7 n7
       have s7:=ar.new (o:=.lst (cj (es.map V.ref) none (some (be + (0 + (i:Int)) - pl)))) n7
       have e7:upd H2 c7 (.lst (cj (es.map V.ref) none (some (be + (0 + (i:Int)) - pl)))) c7=some (.lst ((es.take (k + (i - sk))).map V.ref)):=by
        rw [ai,show be + (0 + (i:Int)) - pl=((k + (i - sk):Nat):Int) by lia,i6,List.map_take]
       generalize upd H2 c7 (.lst (cj (es.map V.ref) none (some (be + (0 + (i:Int)) - pl))))=H7 at s7 e7 ⊢
       refine ⟨_,rfl,_,rfl,_,rfl,me,_,rfl,(sH.trans s7) _ _ (s4 _ _ hme),fun c8 H8 s8 e8=>?_⟩
       rw [show (0:Int) + (i:Int)=((i:Nat):Int) by lia,K41B.jt] at e8
       refine ⟨c8,_,rfl,.inr (SqT.of e8),fun l9 H9 n9 s9 e9=>?_⟩
       have hdl:(ms.drop i).length <= ms.length:=by rw [List.length_drop]; lia
       have htl2:(es.take (k + (i - sk))).length <= es.length:=by rw [List.length_take]; lia
       refine (ex4 c7 l9 _ _ ⟨rfl,rfl,s9 _ _ (s8 _ _ e7),e9,(by rw [List.length_map,List.length_map]; lia),fun l10 H10 n10 s10 e10=>?_⟩)
       refine hK_ _ _ ?_
       refine (ex4 l10 _ _ _ ⟨rfl,sH.trans (s7.trans (s8.trans (s9.trans s10))),?_⟩)
       rw [hfe,List.map_append]
       exact e10
   ·rintro σ Hx ⟨v17,v18,v19,rfl,sx,hi⟩
    rw [List.length_map] at hi
    have hdd:((aJ ys).drop sk).length=ys.length - sk:=by rw [List.length_drop,List.length_map]
    have hce:cp ((aJ xs).drop k) ((aJ ys).drop sk)=((aJ ys).drop sk).length:=Nat.le_antisymm (K41B.qg _ _) (by lia)
    have hfe:bn (aJ xs) ((aJ ys).drop sk) k es (ms.drop sk)=es:=by unfold bn; rw [if_pos hce]
    refine (ex4 l0 _ _ _ ⟨rfl,sx,?_⟩)
    rw [hfe]
    exact sx _ _ e4
  rintro σ' H5 ⟨fl,v17,v18,v19,rfl,s5,e5⟩
  have s05:=s4.trans s5
  refine hK_ _ _ (ah fun K_ hK_=>?_)
  refine ⟨_,rfl,_,rfl,me,_,rfl,.inr (SqT.of (s05 _ _ hme)),_,_,rfl,rfl,?_⟩
  refine hK_ _ _ (ah fun K_ hK_=>?_)
  dsimp only
  rw [List.length_map]
  refine ⟨_,rfl,_,rfl,_,rfl,_,_,rfl,_,_,rfl,?_⟩
  refine hK_ _ _ ?_
  refine ⟨_,rfl,_,rfl,_,rfl,_,rfl,_,rfl,fl,_,rfl,SqL.of e5,fun en2 H6 n6 s6 e6=>⟨(show 5 <= sizeLine by lia),fun w2 H7 n7 s7 e7=>⟨_,rfl,_,rfl,_,rfl,_,rfl,(show 7 <= sizeLine by lia),fun dq H8 n8 s8 e8=>⟨(show 1 <= sizeLine by lia),fun du H9 n9 s9 e9=>⟨(show 2 <= sizeLine by lia),fun p H10 n10 s10 e10=>?_⟩⟩⟩⟩⟩
  have s710:=s8.trans (s9.trans s10)
  exact qY p w2 du en2 H10 (s05.trans (s6.trans (s7.trans s710))) e10 (s710 _ _ e7) (s710 _ _ (s7 _ _ e6)) ⟨dq,s10 _ _ e9,s10 _ _ (s9 _ _ e8)⟩
end
theorem qm:∀ (A:List Int) (m n:Nat),m <= A.length -> n <= A.length -> cp (A.take m) (A.take n)=min m n
 | [],m,n,h1,h2=>by
  have e1:m=0:=Nat.le_zero.mp h1
  subst e1
  rw [List.take_zero,K41B.gy,Nat.zero_min]
 | a :: A,0,n,_,_=>by rw [List.take_zero,K41B.gy,Nat.zero_min]
 | a :: A,m + 1,0,_,_=>by rw [List.take_zero,K41B.lF,Nat.min_zero]
 | a :: A,m + 1,n + 1,h1,h2=>by
  rw [List.take_succ_cons,List.take_succ_cons]
  unfold cp
  rw [if_pos rfl,qm A m n (Nat.le_of_succ_le_succ h1) (Nat.le_of_succ_le_succ h2)]
  lia
theorem ny {α:Type} (A:List α) {j k e:Nat} (h1:k <= j) (h2:j <= e):A.take j ++ ((A.drop k).take (e - k)).drop (j - k)=A.take e:=by
 rw [List.drop_take,List.drop_drop,show k + (j - k)=j by lia,show e - k - (j - k)=e - j by lia]
 obtain ⟨d,rfl⟩:=Nat.le.dest h2
 rw [show j + d - j=d by lia,List.take_add]
theorem vF {α:Type} {C:List α} {g:α -> Int} {k e e2:Nat} (hk:k <= e) (hk2:k <= e2) (he:e <= C.length) (he2:e2 <= C.length) {β:Type} (cs:List β) (hc:cs.length=C.length):bn ((C.take e).map g) (((C.drop k).take (e2 - k)).map g) k (cs.take e) ((cs.drop k).take (e2 - k))=cs.take (max e e2):=by
 have hT:((C.take e).map g).drop k=(((C.map g).drop k)).take (e - k):=by rw [List.map_take,List.drop_take]
 have hM:((C.drop k).take (e2 - k)).map g=((C.map g).drop k).take (e2 - k):=by rw [List.map_take,List.map_drop]
 have hl:((C.map g).drop k).length=C.length - k:=by rw [List.length_drop,List.length_map]
 have hcp:cp (((C.take e).map g).drop k) (((C.drop k).take (e2 - k)).map g)=min (e - k) (e2 - k):=by rw [hT,hM]; exact qm _ _ _ (by lia) (by lia)
 have hMl:(((C.drop k).take (e2 - k)).map g).length=e2 - k:=by rw [List.length_map,List.length_take,List.length_drop]; lia
 unfold bn
 rw [hcp,hMl]
 by_cases h:e2 <= e
 ·rw [if_pos (by lia),show max e e2=e by lia]
 ·rw [if_neg (by lia),show k + min (e - k) (e2 - k)=e by lia,show min (e - k) (e2 - k)=e - k by lia,show max e e2=e2 by lia,List.take_take,Nat.min_self,ny cs hk (by lia)]
theorem vG {α:Type} {xs C:List α} {g:α -> Int} {k keep e2:Nat} (hk:k <= keep) (hkx:keep <= xs.length) (hke:keep < e2) (he2:e2 <= C.length) (hpre:C.take keep=xs.take keep) (hgt:∀ e ∈ C.drop keep,∀ x ∈ xs,g x < g e) {β:Type} (es cs:List β) (hel:es.length=xs.length) (hcl:cs.length=C.length) (hpe:cs.take keep=es.take keep):bn (xs.map g) (((C.drop k).take (e2 - k)).map g) k es ((cs.drop k).take (e2 - k))=cs.take e2:=by
 have hMl:(((C.drop k).take (e2 - k)).map g).length=e2 - k:=by rw [List.length_map,List.length_take,List.length_drop]; lia
 have hkC:keep < C.length:=by lia
 have hcp:cp ((xs.map g).drop k) (((C.drop k).take (e2 - k)).map g)=keep - k:=by
  refine K41B.iF (t:=g C[keep]) ?_ ?_ ?_
  ·
   have key:∀ j,j <= keep - k -> j <= cp ((xs.map g).drop k) (((C.drop k).take (e2 - k)).map g):=by
    intro j
    induction j with
    | zero=>intro _; exact Nat.zero_le _
    | succ j ih =>
     intro hj
     have hjk:k + j < keep:=by lia
     have hx:k + j < xs.length:=by lia
     have hC:k + j < C.length:=by lia
     have hcx:C[k + j]=xs[k + j]:=by
      have h1:(C.take keep)[k + j]?=some C[k + j]:=by rw [List.getElem?_take,if_pos hjk,List.getElem?_eq_getElem hC]
      have h2:(xs.take keep)[k + j]?=some xs[k + j]:=by rw [List.getElem?_take,if_pos hjk,List.getElem?_eq_getElem hx]
      rw [hpre,h2] at h1
      exact (Option.some.inj h1).symm
     refine K41B.iE (t:=g xs[k + j]) (ih (by lia)) ?_ ?_
     ·rw [List.getElem?_map,List.getElem?_take,if_pos (by lia),List.getElem?_drop,List.getElem?_eq_getElem hC,hcx]; rfl
     ·rw [List.getElem?_drop,List.getElem?_map,List.getElem?_eq_getElem hx]; rfl
   exact key _ (Nat.le_refl _)
  ·rw [List.getElem?_map,List.getElem?_take,if_pos (by lia),List.getElem?_drop,show k + (keep - k)=keep by lia,List.getElem?_eq_getElem hkC]; rfl
  ·rw [List.getElem?_drop,show k + (keep - k)=keep by lia,List.getElem?_map]
   by_cases hx:keep < xs.length
   ·rw [List.getElem?_eq_getElem hx]
    intro z
    have z:g xs[keep]=g C[keep]:=Option.some.inj z
    have hm:C[keep] ∈ C.drop keep:=by
     rw [List.drop_eq_getElem_cons hkC]
     exact List.mem_cons_self ..
    have:=hgt _ hm xs[keep] (List.getElem_mem hx)
    lia
   ·rw [List.getElem?_eq_none (by lia)]
    intro z; cases z
 unfold bn
 rw [hcp,hMl,if_neg (by lia),show k + (keep - k)=keep by lia,<- hpe,ny cs hk (by lia)]
theorem term_C {pl tm be th:Int} {C:List En} {k e:Nat} (hk:be=pl + k) (h:ba pl tm (aJ (C.take e)) be=.int th):k <= e:=by
 by_cases z:k <= e
 ·exact z
 ·rw [K41B.bZ _ _ _ (.inr (by rw [List.length_map,List.length_take]; lia))] at h
  cases h
theorem term_0 {pl tm be th:Int} {xs C:List En} {k keep:Nat} (hk:be=pl + k) (hkC:k <= C.length) (h:ba pl tm (aJ xs) be=.int th) (hC:ba pl tm (aJ C) be=.int th) (hgt:∀ e ∈ C.drop keep,tm < e.1 /\ ∀ x ∈ xs,x.1 < e.1):k <= keep:=by
 by_cases z:k <= keep
 ·exact z
 exfalso
 have hk1:k - 1 < C.length:=by lia
 have hm:C[k - 1] ∈ C.drop keep:=by
  have:(C.drop keep)[k - 1 - keep]?=some C[k - 1]:=by rw [List.getElem?_drop,show keep + (k - 1 - keep)=k - 1 by lia,List.getElem?_eq_getElem hk1]
  exact List.mem_of_getElem? this
 have hcv:th=C[k - 1].1:=by
  unfold ba at hC
  rw [if_neg (by lia),if_neg (by rw [List.length_map]; lia),show (be - pl - 1).toNat=k - 1 by lia,List.getD_eq_getElem?_getD,List.getElem?_map,List.getElem?_eq_getElem hk1] at hC
  have:C[k - 1].1=th:=by injection hC
  exact this.symm
 unfold ba at h
 rw [if_neg (by lia)] at h
 split at h
 ·cases h
 ·rename_i hr
  rw [List.length_map] at hr
  have hx:k - 1 < xs.length:=by lia
  rw [show (be - pl - 1).toNat=k - 1 by lia,List.getD_eq_getElem?_getD,List.getElem?_map,List.getElem?_eq_getElem hx] at h
  have h:xs[k - 1].1=th:=by injection h
  have:=(hgt _ hm).2 xs[k - 1] (List.getElem_mem hx)
  lia
open K41T (Kvs Las aO bp aU)
structure fX (xs:List En) (pl tm:Int) (C:List En) (keep:Nat) (fi:Int):Prop where
 k2:keep <= xs.length
 pre:C.take keep=xs.take keep
 gt:∀ e ∈ C.drop keep,tm < e.1 /\ ∀ x ∈ xs,x.1 < e.1
 f1:pl + keep < fi
 f2:fi <= pl + C.length
theorem fW.s {xs:List En} {pl tm t s:Int} {C:List En} {keep:Nat} {own fi:Int} (h:fW xs pl tm t s C keep own fi):fX xs pl tm C keep fi:=⟨h.k2,h.pre,h.gt,h.f1,h.f2⟩
def fY (es0:List Addr) (xs0:List En) (cs:List Addr) (C:List En) (keep:Nat) (es:List Addr) (xs:List En) (n:Nat):Prop:=(es=es0 /\ xs=xs0 /\ n <= keep) \/ ∃ e,e <= C.length /\ es=cs.take e /\ xs=C.take e /\ n <= e
theorem fY.step {es0 cs es ms:List Addr} {xs0 C xs ys:List En} {pl tm own fi be th up bt:Int} {keep k sk e2 n:Nat} (hR:fX xs0 pl tm C keep fi) (hF:fQ pl tm C own fi be th up bt ys k sk e2) (hpe:cs.take keep=es0.take keep) (h0:es0.length=xs0.length) (hC:cs.length=C.length) (hms:ms.drop sk=(cs.drop k).take (e2 - k)) (hP:fY es0 xs0 cs C keep es xs n) (hgo:pl <= be -> ba pl tm (aJ xs) be=.int th) :
  ∃ e',e' <= C.length /\ e2 <= e' /\ bn (aJ xs) ((aJ ys).drop sk) k es (ms.drop sk)=cs.take e' /\ bn (aJ xs) ((aJ ys).drop sk) k xs (ys.drop sk)=C.take e' /\ n <= e' /\ (C.take e').take n=xs.take n /\ (cs.take e').take n=es.take n:=by
 have hys:(aJ ys).drop sk=aJ ((C.drop k).take (e2 - k)):=by rw [<- hF.yd]; exact (List.map_drop ..).symm
 rw [hys,hms,hF.yd]
 have f1:=hR.f1
 have e1:=hF.e1
 have e3:=hF.e3
 have e4:=hF.e4
 have ks:=hF.ks
 have hbe:sk=0 -> be=pl + k:=fun z=>by lia
 rcases hP with ⟨rfl,rfl,hn⟩ | ⟨e,g2,rfl,rfl,hn⟩
 ·have hk:k <= keep:=by
   rcases hF.k0 with z | z
   ·have hb:=hbe z
    exact term_0 hb (by lia) (hgo (by lia)) (hF.th (by lia)) hR.gt
   ·lia
  refine ⟨e2,e4,Nat.le_refl _,?_,?_,by lia,?_,?_⟩
  ·exact vG (g:=fun x:En=>x.1) hk hR.k2 (by lia) e4 hR.pre (fun e he x hx=>(hR.gt e he).2 x hx) _ _ h0 hC hpe
  ·exact vG (g:=fun x:En=>x.1) hk hR.k2 (by lia) e4 hR.pre (fun e he x hx=>(hR.gt e he).2 x hx) _ _ rfl rfl hR.pre
  ·have h1:(C.take e2).take n=(C.take keep).take n:=by rw [List.take_take,List.take_take,Nat.min_eq_left (by lia),Nat.min_eq_left hn]
   rw [h1,hR.pre,List.take_take,Nat.min_eq_left hn]
  ·have h1:(cs.take e2).take n=(cs.take keep).take n:=by rw [List.take_take,List.take_take,Nat.min_eq_left (by lia),Nat.min_eq_left hn]
   rw [h1,hpe,List.take_take,Nat.min_eq_left hn]
 ·have hk:k <= e:=by
   rcases hF.k0 with z | z
   ·exact term_C (hbe z) (hgo (by have:=hbe z; lia))
   ·lia
  refine ⟨max e e2,by lia,by lia,?_,?_,by lia,?_,?_⟩
  ·exact vF (g:=fun x:En=>x.1) hk e1 g2 e4 cs hC
  ·exact vF (g:=fun x:En=>x.1) hk e1 g2 e4 C rfl
  ·rw [List.take_take,List.take_take,Nat.min_eq_left (by lia),Nat.min_eq_left hn]
  ·rw [List.take_take,List.take_take,Nat.min_eq_left (by lia),Nat.min_eq_left hn]
theorem fY.next {es0 cs1 cs2 es:List Addr} {xs0 C1 C2 xs:List En} {pl tm t1 s1 own1 fi1 t2 up2 own2 fi2:Int} {keep1 keep2 n:Nat} (h1:fW xs0 pl tm t1 s1 C1 keep1 own1 fi1) (h2:fW C1 pl tm t2 up2 C2 keep2 own2 fi2) (p1:cs1.take keep1=es0.take keep1) (p2:cs2.take keep2=cs1.take keep2) (l0:es0.length=xs0.length) (l1:cs1.length=C1.length) (hn:n <= (up2 - pl).toNat) (hP:fY es0 xs0 cs1 C1 keep1 es xs n) :
  ∃ (esB:List Addr) (xsB:List En) (kp:Nat),fX xsB pl tm C2 kp fi2 /\ cs2.take kp=esB.take kp /\ esB.length=xsB.length /\ esB.length <= max es0.length cs1.length /\ fY esB xsB cs2 C2 kp es xs n:=by
 have k1:=h2.k1
 have k2:=h2.k2
 have f1:=h2.f1
 have f2:=h2.f2
 have g1:=h1.f1
 have g2:=h1.f2
 have mono:∀ (a b c:List En) (m q:Nat),m <= q -> a.take q=b.take q -> a.take m=b.take m:=fun a b c m q h e=>by
  have:=congrArg (List.take m) e
  rwa [List.take_take,List.take_take,Nat.min_eq_left h] at this
 have monoA:∀ (a b:List Addr) (m q:Nat),m <= q -> a.take q=b.take q -> a.take m=b.take m:=fun a b m q h e=>by
  have:=congrArg (List.take m) e
  rwa [List.take_take,List.take_take,Nat.min_eq_left h] at this
 rcases hP with ⟨rfl,rfl,hk⟩ | ⟨e,he,rfl,rfl,hk⟩
 ·refine ⟨es,xs,min keep1 keep2,⟨?_,?_,fun e he=>?_,by lia,f2⟩,?_,l0,by lia,.inl ⟨rfl,rfl,by lia⟩⟩
  ·have:=h1.k2; lia
  ·rw [mono C2 C1 C1 _ keep2 (by lia) h2.pre,mono C1 xs xs _ keep1 (by lia) h1.pre]
  ·
   have hz:keep1 < C1.length:=by lia
   have hy:=h1.gt C1[keep1] (List.mem_drop_iff_getElem.mpr ⟨0,by lia,rfl⟩)
   have hin:C1[keep1] ∈ C1:=List.getElem_mem hz
   obtain ⟨i,hi,rfl⟩:=List.mem_drop_iff_getElem.mp he
   by_cases hlt:min keep1 keep2 + i < keep2
   ·have hlt1:min keep1 keep2 + i < C1.length:=by lia
    have e1:C2[min keep1 keep2 + i]?=C1[min keep1 keep2 + i]?:=by
     have:=congrArg (fun l:List En=>l[min keep1 keep2 + i]?) h2.pre
     simpa only [List.getElem?_take_of_lt hlt] using this
    rw [List.getElem?_eq_getElem (by lia),List.getElem?_eq_getElem hlt1] at e1
    rw [Option.some.inj e1]
    exact h1.gt _ (List.mem_drop_iff_getElem.mpr ⟨min keep1 keep2 + i - keep1,by lia,by congr 1; lia⟩)
   ·have:=h2.gt C2[min keep1 keep2 + i] (List.mem_drop_iff_getElem.mpr ⟨min keep1 keep2 + i - keep2,by lia,by congr 1; lia⟩)
    refine ⟨this.1,fun x hx=>?_⟩
    have a1:=hy.2 x hx
    have a2:=this.2 _ hin
    lia
  ·rw [monoA cs2 cs1 _ keep2 (by lia) p2,monoA cs1 es _ keep1 (by lia) p1]
 ·by_cases hle:e <= keep2
  ·exact ⟨cs1,C1,keep2,h2.s,p2,l1,by lia,.inr ⟨e,by lia,(monoA _ _ _ _ hle p2).symm,(mono _ _ C1 _ _ hle h2.pre).symm,hk⟩⟩
  ·refine ⟨cs1.take e,C1.take e,keep2,⟨?_,?_,fun x hx=>⟨(h2.gt x hx).1,fun y hy=>(h2.gt x hx).2 y (List.mem_of_mem_take hy)⟩,f1,f2⟩,?_,?_,by rw [List.length_take]; lia,.inl ⟨rfl,rfl,by lia⟩⟩
   ·rw [List.length_take]; lia
   ·rw [List.take_take,Nat.min_eq_left (by lia)]; exact h2.pre
   ·rw [List.take_take,Nat.min_eq_left (by lia)]; exact p2
   ·rw [List.length_take,List.length_take,l1]
def Out (g:Gs) (be th up:Int) (ms:List Addr) (ys:List En) (k sk:Nat) (y:Bool) (pc s2:Int) (es2:List Addr) (xs2:List En):Prop :=
 (g.pl <= be /\ ba g.pl g.tm (aJ g.xs) be ≠ .int th /\ y=false /\ pc=g.s /\ s2=g.s /\ es2=g.es /\ xs2=g.xs) \/
 ((g.pl <= be -> ba g.pl g.tm (aJ g.xs) be=.int th) /\ y=true /\ pc=be + ms.length /\ s2=gz g.s up (be + ms.length) /\ es2=bn (aJ g.xs) ((aJ ys).drop sk) k g.es (ms.drop sk) /\ xs2=bn (aJ g.xs) ((aJ ys).drop sk) k g.xs (ys.drop sk) /\ xs2.take (g.s - g.pl).toNat=g.xs.take (g.s - g.pl).toNat)
theorem nj.of {g:Gs} {fr:Str} {be th up:Int} {ms:List Addr} {ys:List En} {k sk:Nat} {R:Gs -> Bool -> Int -> Prop} {y:Bool} {pc s2:Int} {es2:List Addr} {xs2:List En} (A:Out g be th up ms ys k sk y pc s2 es2 xs2) (h:∀ kr2 en2 n2,n2 <= g.n + 1 -> R { g with kn:=.str fr,qu:=0,kr:=kr2,en:=en2,es:=es2,xs:=xs2,n:=n2,s:=s2 } y pc):nj g fr be th up ms ys k sk R:=by
 rcases A with ⟨a1,a2,rfl,rfl,rfl,rfl,rfl⟩ | ⟨a1,rfl,rfl,rfl,rfl,rfl,a2⟩
 ·exact ⟨fun _ _=>h g.kr g.en g.n (Nat.le_succ _),fun z=>absurd (z a1) a2⟩
 ·exact ⟨fun z1 z2=>absurd (a1 z1) z2,fun _=>⟨a2,fun kr2 en2=>h kr2 en2 (g.n + 1) (Nat.le_refl _)⟩⟩
theorem Out.rowP {g:Gs} {be th up bt:Int} {ms:List Addr} {ys:List En} {k sk e2:Nat} {y:Bool} {pc s2:Int} {es2:List Addr} {xs2:List En} {es0 cs:List Addr} {xs0 C:List En} {own fi:Int} {keep:Nat} (A:Out g be th up ms ys k sk y pc s2 es2 xs2) (hR:fX xs0 g.pl g.tm C keep fi) (hF:fQ g.pl g.tm C own fi be th up bt ys k sk e2) (hpe:cs.take keep=es0.take keep) (h0:es0.length=xs0.length) (hC:cs.length=C.length) (hms:ms.drop sk=(cs.drop k).take (e2 - k)) (hml:ms.length=ys.length) (hps:g.pl <= g.s) (hP:fY es0 xs0 cs C keep g.es g.xs (g.s - g.pl).toNat):fY es0 xs0 cs C keep es2 xs2 (s2 - g.pl).toNat /\ g.s <= s2 /\ es2.take (g.s - g.pl).toNat=g.es.take (g.s - g.pl).toNat /\ (s2 <= g.s \/ s2 <= up):=by
 rcases A with ⟨a1,a2,rfl,rfl,rfl,rfl,rfl⟩ | ⟨a1,rfl,rfl,rfl,rfl,rfl,a2⟩
 ·exact ⟨hP,Int.le_refl _,rfl,.inl (Int.le_refl _)⟩
 ·obtain ⟨e',q2,q3,q4,q5,q6,q7,q8⟩:=fY.step hR hF hpe h0 hC hms hP a1
  rw [q4,q5]
  have yl:=hF.yl
  have ks:=hF.ks
  have e1:=hF.e1
  refine ⟨.inr ⟨e',q2,rfl,rfl,?_⟩,?_,q8,?_⟩
  ·unfold gz
   split
   ·split <;> lia
   ·lia
  ·unfold gz
   split <;> lia
  ·unfold gz
   split
   ·split <;> lia
   ·lia
theorem out_of (g:Gs) (be th up bt:Int) (ms:List Addr) (ys:List En) (k sk e2:Nat) {es0 cs:List Addr} {xs0 C:List En} {own fi:Int} {keep:Nat} (hR:fX xs0 g.pl g.tm C keep fi) (hF:fQ g.pl g.tm C own fi be th up bt ys k sk e2) (hpe:cs.take keep=es0.take keep) (h0:es0.length=xs0.length) (hC:cs.length=C.length) (hms:ms.drop sk=(cs.drop k).take (e2 - k)) (hP:fY es0 xs0 cs C keep g.es g.xs (g.s - g.pl).toNat) :
  ∃ y pc s2 es2 xs2,Out g be th up ms ys k sk y pc s2 es2 xs2:=by
 by_cases hgo:g.pl <= be -> ba g.pl g.tm (aJ g.xs) be=.int th
 ·obtain ⟨e',q2,q3,q4,q5,q6,q7,q8⟩:=fY.step hR hF hpe h0 hC hms hP hgo
  refine ⟨_,_,_,_,_,.inr ⟨hgo,rfl,rfl,rfl,rfl,rfl,?_⟩⟩
  rw [q5]; exact q7
 ·have h1':g.pl <= be:=Classical.byContradiction fun z=>hgo fun y=>absurd y z
  have h2':ba g.pl g.tm (aJ g.xs) be ≠ .int th:=fun z=>hgo fun _=>z
  exact ⟨_,_,_,_,_,.inl ⟨h1',h2',rfl,rfl,rfl,rfl,rfl⟩⟩
noncomputable def jB (g:Gs) (H:Hp):Hp:=fun x=>by
 classical exact if x=g.ho \/ x=g.m \/ x=g.wr \/ x=g.rl \/ x=g.d \/ x=g.l then none else H x
theorem vH (g:Gs) (H:Hp):Own (jB g H) g:=by
 unfold jB
 exact ⟨if_pos (.inl rfl),if_pos (.inr (.inl rfl)),if_pos (.inr (.inr (.inl rfl))),if_pos (.inr (.inr (.inr (.inl rfl)))),if_pos (.inr (.inr (.inr (.inr (.inl rfl))))),if_pos (.inr (.inr (.inr (.inr (.inr rfl)))))⟩
theorem qo {g:Gs} {H:Hp} {x:Addr} (n1:x ≠ g.ho) (n2:x ≠ g.m) (n3:x ≠ g.wr) (n4:x ≠ g.rl) (n5:x ≠ g.d) (n6:x ≠ g.l):jB g H x=H x:=by
 unfold jB
 exact if_neg (by
  rintro (h | h | h | h | h | h)
  ·exact n1 h
  ·exact n2 h
  ·exact n3 h
  ·exact n4 h
  ·exact n5 h
  ·exact n6 h)
theorem bK.off {K:PySem.W.Frag} {c:Cs} {H0 H:Hp} {g:Gs} (h:bK K c H0 H g):bK K c (jB g H) H g /\ ar H0 (jB g H):=by
 refine ⟨⟨h.hb,h.mo,vH g H,fun x u e=>?_⟩,fun x u e=>?_⟩
 ·unfold jB at e
  split at e
  ·cases e
  ·exact e
 ·rw [qo (ak e h.ow.ho) (ak e h.ow.m) (ak e h.ow.wr) (ak e h.ow.rl) (ak e h.ow.d) (ak e h.ow.l)]
  exact h.sm _ _ e
end K41
namespace L2
open PySem
theorem sg {t1 t2 t3 u:TS} {D:ib} {σ:St} {H:Hp} (h:∀ K:St -> Hp -> Prop,(∀ σ' H',u D σ' H' -> K σ' H') -> nB t1 (nB t2 t3) { D with nx:=K } σ H):nB t1 (nB t2 (nB t3 u)) D σ H:=h (fun σ' H'=>u D σ' H') fun _ _ h=>h
end L2
namespace K41
open PySem L2
open K41B (ba bn cp)
abbrev sGo:Stmt:=top 125
theorem gA {K:PySem.W.Frag} {H:Hp} {a b:Addr} {xs:List V} (ha:SqT K H a xs) (hb:SqT K H b xs) (h:∀ v ∈ xs,smV v=true):Alk K 1 H (.ref a) (.ref b):=.inr ⟨a,b,xs,xs,rfl,rfl,ha,hb,rfl,fun i x y h1 h2=>by
 rw [h1] at h2
 cases h2
 exact Alk.sm (h x (List.mem_of_getElem? h1))⟩
theorem nA {K:PySem.W.Frag} {H:Hp} {p q:Addr} {nm fr:Str} {t pc bt:Int} {y:Bool} (h:dC H p nm fr t y pc bt) (h':dC H q nm fr t y pc bt):tK K H p q:=by
 obtain ⟨a,a1,a2⟩:=h
 obtain ⟨b,b1,b2⟩:=h'
 refine ⟨1,_,_,by decide,SqT.of a1,SqT.of b1,rfl,fun j x y hx hy=>?_⟩
 match j,hx,hy with
 | 0,hx,hy =>
  cases hx; cases hy
  exact gA (SqT.of a2) (SqT.of b2) fun z hz=>by
   simp only [List.mem_cons,List.not_mem_nil,or_false] at hz
   rcases hz with rfl | rfl | rfl | rfl | rfl | rfl | rfl <;> rfl
 | j + 1,hx,_=>cases hx
theorem dC.tk {H H':Hp} {p:Addr} {nm fr:Str} {t pc bt:Int} {y:Bool} (k:Tk H H') (h:dC H p nm fr t y pc bt):dC H' p nm fr t y pc bt:=by
 obtain ⟨a,a1,a2⟩:=h
 exact ⟨a,k _ _ a1,k _ _ a2⟩
theorem gUp_eq (g:Gs) (lm:Int) (h:g.t <= lm) (hk:g.t=lm -> g.kn=g.kn):gUp g lm={ g with t:=lm,v:=(if g.t < lm then .non else g.v),kn:=(if g.t < lm then .non else g.kn) }:=by
 unfold gUp
 by_cases z:g.t < lm
 ·rw [if_pos z,if_pos z,if_pos z]
 ·rw [if_neg z,if_neg z,if_neg z]
  have:g.t=lm:=by lia
  rw [<- this]
theorem ki {nm:Str} {wa sz:Int} {m:Addr}:(flH nm wa sz m).lookup ("writes":Str)=none:=by kernel_rfl
theorem kj {nm:Str} {wa sz:Int} {m:Addr}:(flH nm wa sz m).lookup ("chair_known":Str)=none:=by kernel_rfl
theorem ia {nm:Str} {wa sz:Int} {m:Addr}:(flH nm wa sz m).lookup ("hear":Str)=none:=by kernel_rfl
theorem vI {K:PySem.W.Frag} {H:Hp} {p w st en en':Addr} {t s:Int} {v:V} {es:List Addr} (e1:H p=some (.tup [.int t,v,.int s,.ref st,.ref en])) (e2:H w=some (.tup [.int t,v,.int s,.ref st,.ref en'])) (h1:H en=some (.tup (es.map V.ref))) (h2:H en'=some (.tup (es.map V.ref))) (hv:smV v=true):tK K H p w:=by
 refine ⟨1,_,_,by decide,SqT.of e1,SqT.of e2,rfl,fun j x y hx hy=>?_⟩
 match j,hx,hy with
 | 0,hx,hy=>cases hx; cases hy; exact Alk.sm rfl
 | 1,hx,hy=>cases hx; cases hy; exact Alk.sm hv
 | 2,hx,hy=>cases hx; cases hy; exact Alk.sm rfl
 | 3,hx,hy=>cases hx; cases hy; exact Alk.sm rfl
 | 4,hx,hy =>
  cases hx; cases hy
  exact gA (SqT.of h1) (SqT.of h2) fun z hz=>by
   obtain ⟨y,_,rfl⟩:=List.mem_map.mp hz
   rfl
 | j + 5,hx,_=>cases hx
def vJ (K:PySem.W.Frag):Sp:=fun us H Q _=>∃ (wt lt st en me:Addr) (nm:Str) (t s lm be th up bt:Int) (v:V),us=[.ref wt,.ref lt] /\ H wt=some (.tup [.int t,v,.int s,.ref st,.ref en]) /\ H lt=some (.tup [.str "rows",.str nm,.str "b",.int lm,.int be,.int th,.ref me,.int up,.int bt]) /\ lm < t /\ ∀ (p du:Addr) (H':Hp),ar H H' -> H' p=some (.tup [.ref wt,.ref du]) -> dC H' du "b" nm t false s 0 -> Q (.ref p) H'
abbrev gN (g:Gs) (own:Int) (fr:Str) (s2:Int) (es2:List Addr) (xs2:List En) (kr2 en2:Addr) (n2:Nat):Gs:={ g with t:=own,v:=(if g.t < own then .non else g.v),kn:=.str fr,qu:=0,kr:=kr2,en:=en2,es:=es2,xs:=xs2,n:=n2,s:=s2 }
def spGo (K:PySem.W.Frag) (c:Cs):Sp:=fun us H Q _=>∃ (H0:Hp) (g:Gs) (wt en3 lt me hh aa:Addr) (fr:Str) (lm be th up bt:Int) (ms:List Addr) (ys:List En) (k sk:Nat),us=[.ref g.ho,.ref wt,.ref lt,g.kn] /\ bK K c H0 H g /\ g.nm="b" /\ smV g.v=true /\ (g.kn=.non \/ ∃ x:Str,g.kn=.str x) /\ H wt=some (.tup [.int g.t,g.v,.int g.s,.ref g.st,.ref en3]) /\ H g.st=some (.tup [.int g.pl,.int g.tm,.ref g.b,.ref hh,.ref aa]) /\ H en3=some (.tup (g.es.map V.ref)) /\ H lt=some (.tup [.str "rows",.str fr,.str "b",.int lm,.int be,.int th,.ref me,.int up,.int bt]) /\ H me=some (.tup (ms.map V.ref)) /\ Paired (EnO H) ms ys /\ fN H lt /\ be + sk=g.pl + k /\ (sk=0 \/ k=0) /\ g.es.length <= 20 /\ ms.length <= 30 /\ g.n <= 900 /\
 (lm < g.t -> ∀ p H',ar H H' -> H' p=some (.tup [.ref wt,g.kn]) -> Q (.ref p) H') /\
 (g.t <= lm -> ∃ y pc s2 es2 xs2,Out g be th up ms ys k sk y pc s2 es2 xs2 /\ g.s <= s2 /\ es2.take (g.s - g.pl).toNat=g.es.take (g.s - g.pl).toNat /\
  ∀ p w2 en4 kr2 en2 n2 H',n2 <= g.n + 1 -> bK K c H0 H' (gN g lm fr s2 es2 xs2 kr2 en2 n2) -> TkZ H H' -> H' w2=some (.tup [.int lm,(if g.t < lm then .non else g.v),.int s2,.ref g.st,.ref en4]) -> H' en4=some (.tup (es2.map V.ref)) -> H' p=some (.tup [.ref w2,.str fr]) -> Q (.ref p) H')
section
variable {P:Program} {w:World} {K:PySem.W.Frag} {mg:Str -> Option Value} {base:Heap} {CH CM CT CW CR:Addr}
theorem ok_hdL {f:Addr} {fd:FuncData} (F:Fun K "_law_heard" "_law_heard" sHd f fd):aP P w K mg base CX0 2 f fd ["_law_state","_law_letter"] (vJ K):=by
 refine F.ok scHd (fun vs H Q E h=>?_) (fun cdv A outer s' H vs Q E hr h=>?_)
 ·obtain ⟨wt,lt,st,en,me,nm,t,s,lm,be,th,up,bt,v,rfl,_⟩:=h
  rfl
 ·obtain ⟨wt,lt,st,en,me,nm,t,s,lm,be,th,up,bt,v,rfl,hw,hlt,hl,q⟩:=h
  have nd:=scHd.nd
  have hs16:sizeLine=16777216:=sizeLine_eq
  refine ⟨_,ae (cz (dW (pv 0) (cL (n:=5) rfl (az (au (i:=2) nd rfl (Or.inl rfl)) (az (au (i:=3) nd rfl (Or.inl rfl)) (az (au (i:=4) nd rfl (Or.inl rfl)) (az (au (i:=5) nd rfl (Or.inl rfl)) (az (au (i:=6) nd rfl (Or.inl rfl)) bV)))))))) <|
   ae (cz (dW (pv 1) (cL (n:=9) rfl (az (au (i:=7) nd rfl (Or.inl rfl)) (az (au (i:=8) nd rfl (Or.inl rfl)) (az (au (i:=9) nd rfl (Or.inl rfl)) (az (au (i:=10) nd rfl (Or.inl rfl)) (az (au (i:=11) nd rfl (Or.inl rfl)) (az (au (i:=12) nd rfl (Or.inl rfl)) (az (au (i:=13) nd rfl (Or.inl rfl)) (az (au (i:=14) nd rfl (Or.inl rfl)) (az (au (i:=15) nd rfl (Or.inl rfl)) bV)))))))))))) <|
   ae (aS (aD dY (pv 10) (pv 2) (aF _)) (aj (ay (aQ (ad (pv 0) (ad (aQ (ad (aQ (ad aN (ad aN (ad (pv 8) (ad (pv 2) (ad dU (ad (pv 4) (ad af ag)))))))) ag)) ag))))) aH) bY,?_⟩
  dsimp only [bj,Cx.nox]
  refine ⟨fun σ' H'=>σ'=[some (.ref wt),some (.ref lt),some (.int t),some v,some (.int s),some (.ref st),some (.ref en),none,none,none,none,none,none,none,none,none,none,none,none,none,none] /\ H'=H,⟨_,rfl,wt,_,rfl,SqT.of hw,rfl,_,_,rfl,_,_,rfl,_,_,rfl,_,_,rfl,_,_,rfl,rfl,rfl,rfl⟩,?_⟩
  rintro σ' H1 ⟨rfl,rfl⟩
  refine ⟨fun σ' H'=>σ'=[some (.ref wt),some (.ref lt),some (.int t),some v,some (.int s),some (.ref st),some (.ref en),some (.str "rows"),some (.str nm),some (.str "b"),some (.int lm),some (.int be),some (.int th),some (.ref me),some (.int up),some (.int bt),none,none,none,none,none] /\ H'=H1,⟨_,rfl,lt,_,rfl,SqT.of hlt,rfl,_,_,rfl,_,_,rfl,_,_,rfl,_,_,rfl,_,_,rfl,_,_,rfl,_,_,rfl,_,_,rfl,_,_,rfl,rfl,rfl,rfl⟩,?_⟩
  rintro σ' H1 ⟨rfl,rfl⟩
  refine ⟨_,rfl,_,rfl,_,_,rfl,rfl,_,rfl,?_⟩
  rw [decide_eq_true hl]
  refine bz ⟨_,rfl,_,rfl,_,rfl,_,rfl,(show 7 <= sizeLine by lia),fun dq H3 n3 s3 e3=>⟨(show 1 <= sizeLine by lia),fun du H4 n4 s4 e4=>⟨(show 2 <= sizeLine by lia),fun p H5 n5 s5 e5=>?_⟩⟩⟩
  exact q p du H5 (s3.trans (s4.trans s5)) e5 ⟨dq,s5 _ _ e4,s5 _ _ (s4 _ _ e3)⟩
abbrev pGo:List Str:=["_law_house","_law_state","_law_letter","_law_known"]
abbrev nGo:List Str:=["_law_house","_law_state","_law_letter","_law_known","_law_more","_law_due","_law_held"]
theorem scGo:ax nGo pGo (am sGo):=fsc (by decide +kernel)
theorem ok_go {f:Addr} {fd:FuncData} (F:Fun K "_law_goes" "_law_goes" sGo f fd) (TH:ClH K mg CH) (Fhd:aR P w K mg base 2 "_law_heard" ["_law_state","_law_letter"] (vx (spHd K) (vJ K))) (Mr:bu P w K mg base CH 10 "hear" ["self","letter"] (vx (fG K ⟨CH,CM,CT,CW,CR⟩ fN) (dR K ⟨CH,CM,CT,CW,CR⟩ fN))) (Mw:bu P w K mg base CH 2 "writes" ["self"] (ji K ⟨CH,CM,CT,CW,CR⟩)) (Mk:bu P w K mg base CH 1 "chair_known" ["self"] (jj K ⟨CH,CM,CT,CW,CR⟩)):aP P w K mg base CX0 11 f fd pGo (spGo K ⟨CH,CM,CT,CW,CR⟩):=by
 refine F.ok scGo (fun us H Q E h=>?_) (fun cdv A outer s H us Q E hr h=>?_)
 ·obtain ⟨H0,g,wt,en3,lt,me,hh,aa,fr,lm,be,th,up,bt,ms,ys,k,sk,rfl,_⟩:=h
  rfl
 ·obtain ⟨H0,g,wt,en3,lt,me,hh,aa,fr,lm,be,th,up,bt,ms,ys,k,sk,rfl,G,hnm,hgv,hkn,hw,hst,hen,hlt,hme,hPm,hlet,hks,hk0,hel,hml,hn9,qL,qN⟩:=h
  have nd:=scGo.nd
  have r1:bi 1 _:=hr.mono (by decide)
  have r2:bi 2 _:=hr.mono (by decide)
  have hu64:=hr.units
  have hu:_ + 1 < cLine:=Nat.lt_of_le_of_lt (Nat.add_le_add_left (show 1 <= 64 by decide) _) hr.units
  have hs16:sizeLine=16777216:=sizeLine_eq
  refine ⟨_,ae (dW (aC Fhd r2 (ad (pv 1) (ad (pv 2) ag))) (cL (n:=2) rfl (az (au (i:=4) nd rfl (Or.inl rfl)) (az (au (i:=5) nd rfl (Or.inl rfl)) bV)))) <|
   ae (aS (aD jJ (aq ao (pv 2) af (fun _ _=>rfl)) (aq ao (pv 1) af (fun _ _=>rfl)) (aF _)) (aj (aB (i:=3) nd rfl (Or.inl rfl) (aq ao (pv 2) af (fun _ _=>rfl)))) aH) <|
   ae (aS (PW.pt (cN (aD (pT hu64) (bv Mr TH.cl hr (pv 0) (ad (pv 2) ag)) (pv 5) (aF _)) (cN (aD (pT hu64) (bF Mw TH.cl r2 (pv 0)) (pv 4) (aF _)) (cZ (aD gb (bF Mk TH.cl r1 (pv 0)) (pv 3) (aF _)))))) (aj (ay cn)) aH) <|
   ae (aB (i:=6) nd rfl (Or.inl rfl) (aE bR (aq ao (pv 1) af (fun _ _=>rfl)) (aq ao (aq ao (pv 1) af (fun _ _=>rfl)) af (fun _ _=>rfl)))) <|
   ae (aS (PW.pt (cN (aD (op_neSm hu) (bO cT (aq ao (pv 4) af (fun _ _=>rfl)) cx (bP (pv 6))) (bO cT (aq ao (pv 1) af (fun _ _=>rfl)) cx (bP (pv 6))) (aF _)) (cZ (aD dY (aq ao (pv 4) af (fun _ _=>rfl)) (aq ao (pv 1) af (fun _ _=>rfl)) (aF _))))) (aj (ay cn)) aH) <|
   aj (ay (aQ (ad (pv 4) (ad (pv 3) ag)))),?_⟩
  dsimp only [bj,Cx.nox]
  refine sg fun K3 hK3=>?_
  have tail:∀ (w2 du en4:Addr) (t2 s2:Int) (v2 kn2:V) (es2:List Addr) (He:Hp),He w2=some (.tup [.int t2,v2,.int s2,.ref g.st,.ref en4]) -> He en4=some (.tup (es2.map V.ref)) -> g.s <= s2 -> es2.take (g.s - g.pl).toNat=g.es.take (g.s - g.pl).toNat -> He wt=some (.tup [.int g.t,g.v,.int g.s,.ref g.st,.ref en3]) -> He g.st=some (.tup [.int g.pl,.int g.tm,.ref g.b,.ref hh,.ref aa]) -> He en3=some (.tup (g.es.map V.ref)) -> (∀ p Hz,ar He Hz -> Hz p=some (.tup [.ref w2,kn2]) -> Q (.ref p) Hz) -> K3 [some (.ref g.ho),some (.ref wt),some (.ref lt),some kn2,some (.ref w2),some (.ref du),none] He:=by
   intro w2 du en4 t2 s2 v2 kn2 es2 He e1 e2 e3 e4 e5 e6 e7 q
   refine hK3 _ _ ?_
   refine ah fun K4 hK4=>?_
   refine ⟨_,rfl,ex4 wt _ _ _ ⟨rfl,rfl,SqT.of e5,d8,_,rfl,ex4 wt _ _ _ ⟨rfl,rfl,SqT.of e5,ei,g.st,_,_,_,rfl,rfl,SqT.of e6,at0,_,_,rfl,rfl,hK4 _ _ ?_⟩⟩⟩
   have hps:=G.mo.wg.ps
   dsimp only
   rw [show g.s - g.pl=(((g.s - g.pl).toNat:Nat):Int) by lia]
   refine ah fun K5 hK5=>?_
   refine ⟨_,rfl,w2,ex3 _ _ _ ⟨rfl,rfl,SqT.of e1,kX,_,rfl,_,rfl,en4,_,rfl,e2,fun c5 H5 s5 z5=>?_⟩⟩
   rw [i6,<- List.map_take,e4] at z5
   refine ⟨_,rfl,ex4 wt _ _ _ ⟨rfl,rfl,SqT.of (s5 _ _ e5),kX,_,rfl,_,rfl,en3,_,rfl,s5 _ _ e7,fun c6 H6 s6 z6=>?_⟩⟩
   rw [i6,<- List.map_take] at z6
   refine (ex3 c5 c6 _ ⟨rfl,rfl,SqT.of (s6 _ _ z5),SqT.of z6,fun z hz=>?_,_,rfl,aV ?_⟩)
   ·obtain ⟨y,_,rfl⟩:=List.mem_map.mp hz
    rfl
   have s56:=s5.trans s6
   refine ⟨_,rfl,ex4 w2 _ _ _ ⟨rfl,rfl,SqT.of (s56 _ _ e1),d8,_,rfl,ex4 wt _ _ _ ⟨rfl,rfl,SqT.of (s56 _ _ e5),d8,_,_,rfl,rfl,_,rfl,?_⟩⟩⟩
   rw [decide_eq_false (show ¬ s2 < g.s by lia)]
   refine aV (hK5 _ _ ?_)
   refine ⟨_,rfl,_,rfl,(show 2 <= sizeLine by lia),fun p H7 n7 s7 e8=>?_⟩
   exact q p H7 (s56.trans s7) e8
  clear hK3
  obtain ⟨dx,hob⟩:=G.hb
  by_cases hl:lm < g.t
  ·have qL:=qL hl
   clear qN
   refine ⟨_,rfl,_,rfl,.inr (ex14 wt lt g.st en3 me fr g.t g.s lm be th up bt g.v ⟨rfl,hw,hlt,hl,fun p du H1 s1 ep hto=>?_⟩)⟩
   refine ⟨p,_,rfl,SqT.of ep,rfl,_,_,rfl,_,_,rfl,rfl,?_⟩
   refine ⟨_,rfl,ex4 lt _ _ _ ⟨rfl,rfl,SqT.of (s1 _ _ hlt),ei,_,rfl,ex4 wt _ _ _ ⟨rfl,rfl,SqT.of (s1 _ _ hw),at0,_,_,rfl,rfl,_,rfl,?_⟩⟩⟩
   rw [decide_eq_false (show ¬ g.t <= lm by lia)]
   have G1:=G.same s1
   refine aV ⟨_,rfl,ex3 g.ho dx _ ⟨rfl,s1 _ _ hob,ia,_,rfl,.inr (tL H0 g lt me fr "b" lm be th up bt ⟨rfl,G1,s1 _ _ hlt,hl,hlet.same s1,fun p2 He se te=>?_⟩)⟩⟩
   rw [hnm] at te
   refine ⟨_,rfl,p2,du,rfl,rfl,nA te (hto.tk (Tk.of se)),_,rfl,aV ?_⟩
   have s1e:=s1.trans se
   refine ⟨_,rfl,ex3 g.ho dx _ ⟨rfl,s1e _ _ hob,ki,H0,g,rfl,G.same s1e,fun p3 Hf sf ef=>⟨_,rfl,p3,wt,rfl,rfl,vI ef (sf _ _ (s1e _ _ hw)) (sf _ _ (s1e _ _ G.mo.wg.ho)) (sf _ _ (s1e _ _ hen)) hgv,_,rfl,aV ?_⟩⟩⟩
   have s1f:=s1e.trans sf
   refine ⟨_,rfl,ex3 g.ho dx _ ⟨rfl,s1f _ _ hob,kj,H0,g,rfl,G.same s1f,_,rfl,(by rcases hkn with z | ⟨x,z⟩ <;> rw [z] <;> rfl),_,rfl,?_⟩⟩
   rw [decide_eq_true rfl]
   exact aV (tail wt du en3 g.t g.s g.v g.kn g.es Hf (s1f _ _ hw) (s1f _ _ hen) (Int.le_refl _) rfl (s1f _ _ hw) (s1f _ _ hst) (s1f _ _ hen) fun p Hz sz ez=>qL p Hz (s1f.trans sz) ez)
  ·have htl:g.t <= lm:=by lia
   obtain ⟨y,pc,s2,es2,xs2,hO,hs2,htk,qN⟩:=qN htl
   clear qL
   refine ah fun K1 hK1=>?_
   have step:∀ (w2 du en4:Addr) (H1:Hp),ar H H1 -> H1 w2=some (.tup [.int lm,(if g.t < lm then .non else g.v),.int s2,.ref g.st,.ref en4]) -> H1 en4=some (.tup (es2.map V.ref)) -> dC H1 du "b" fr lm y pc bt -> K1 [some (.ref g.ho),some (.ref wt),some (.ref lt),some g.kn,some (.ref w2),some (.ref du),none] H1:=by
    intro w2 du en4 H1 s1 ew2 een hto
    refine hK1 _ _ ?_
    refine ah fun K2 hK2=>?_
    refine ⟨_,rfl,ex4 lt _ _ _ ⟨rfl,rfl,SqT.of (s1 _ _ hlt),ei,_,rfl,ex4 wt _ _ _ ⟨rfl,rfl,SqT.of (s1 _ _ hw),at0,_,_,rfl,rfl,_,rfl,?_⟩⟩⟩
    rw [decide_eq_true htl]
    refine bz ⟨_,rfl,ex4 lt _ _ _ ⟨rfl,rfl,SqT.of (s1 _ _ hlt),at1,hK2 _ _ ?_⟩⟩
    have G1:=G.same s1
    have eU:=gUp_eq g lm htl (fun _=>rfl)
    refine ⟨_,rfl,ex3 g.ho dx _ ⟨rfl,s1 _ _ hob,ia,_,rfl,.inl ⟨H0,g,lt,me,fr,"b",lm,be,th,up,bt,ms,ys,k,sk,rfl,G1,htl,⟨s1 _ _ hlt,s1 _ _ hme,bq (Tk.of s1) hPm,hks,hk0,by lia,hn9⟩,hlet.same s1,?_⟩⟩⟩
    rw [eU]
    refine nj.of (y:=y) (pc:=pc) (s2:=s2) (es2:=es2) (xs2:=xs2) hO fun kr2 en2 n2 hn2 p He Ge ke te=>?_
    have hn2:n2 <= g.n + 1:=hn2
    have Ge:bK K ⟨CH,CM,CT,CW,CR⟩ H0 He (gN g lm fr s2 es2 xs2 kr2 en2 n2):=Ge
    have te:dC He p g.nm fr lm y pc bt:=te
    rw [hnm] at te
    refine ⟨_,rfl,p,du,rfl,rfl,nA te (hto.tk ke.t),_,rfl,aV ?_⟩
    have hvs:smV (if g.t < lm then V.non else g.v)=true:=by
     split
     ·rfl
     ·exact hgv
    obtain ⟨dxe,hobe⟩:=Ge.hb
    refine ⟨_,rfl,ex3 g.ho dxe _ ⟨rfl,hobe,ki,H0,gN g lm fr s2 es2 xs2 kr2 en2 n2,rfl,Ge,fun p3 Hf sf ef=>⟨_,rfl,p3,w2,rfl,rfl,vI ef (sf _ _ (ke.t _ _ ew2)) (sf _ _ Ge.mo.wg.ho) (sf _ _ (ke.t _ _ een)) hvs,_,rfl,aV ?_⟩⟩⟩
    have Gf:=Ge.same sf
    refine ⟨_,rfl,ex3 g.ho dxe _ ⟨rfl,sf _ _ hobe,kj,H0,gN g lm fr s2 es2 xs2 kr2 en2 n2,rfl,Gf,_,rfl,rfl,_,rfl,?_⟩⟩
    rw [decide_eq_true rfl]
    have kf:TkZ H Hf:=(TkZ.of s1).trans (ke.trans (TkZ.of sf))
    exact aV (tail w2 du en4 lm s2 _ (.str fr) es2 Hf (sf _ _ (ke.t _ _ ew2)) (sf _ _ (ke.t _ _ een)) hs2 htk (kf.t _ _ hw) (kf.t _ _ hst) (kf.t _ _ hen) fun p Hz sz ez=>qN p w2 en4 kr2 en2 n2 Hz hn2 (Gf.same sz) (kf.trans (TkZ.of sz)) (sz _ _ (sf _ _ (ke.t _ _ ew2))) (sz _ _ (sf _ _ (ke.t _ _ een))) ez)
   refine ⟨_,rfl,_,rfl,.inl ⟨wt,lt,g.st,en3,g.b,hh,aa,me,fr,g.t,g.s,g.pl,g.tm,lm,be,th,up,bt,g.v,g.es,ms,g.xs,ys,k,sk,rfl,hw,hst,hen,G.mo.wg.eo,hlt,hme,hPm,htl,hks,hk0,by lia,by lia,fun hle hne p w2 du H1 s1 ep e2' hto=>?_,fun hgo p w2 du en2 H1 s1 ep e2' e3' hto=>?_⟩⟩
   ·rcases hO with ⟨_,_,rfl,rfl,rfl,rfl,rfl⟩ | ⟨hgo,_⟩
    ·exact ⟨p,_,rfl,SqT.of ep,rfl,_,_,rfl,_,_,rfl,rfl,step w2 du en3 H1 s1 e2' (s1 _ _ hen) hto⟩
    ·exact absurd (hgo hle) hne
   ·rcases hO with ⟨hle,hne,_⟩ | ⟨_,rfl,rfl,rfl,rfl,rfl,_⟩
    ·exact absurd (hgo hle) hne
    ·exact ⟨p,_,rfl,SqT.of ep,rfl,_,_,rfl,_,_,rfl,rfl,step w2 du en2 H1 s1 e2' e3' hto⟩
end
structure Two (es:List Addr) (xs:List En) (pl tm t s:Int) (cs1:List Addr) (C1:List En) (k1:Nat) (own1 fi1 up2:Int) (cs2:List Addr) (C2:List En) (k2:Nat) (own2 fi2:Int):Prop where
 r1:fW xs pl tm t s C1 k1 own1 fi1
 r2:fW C1 pl tm (own1 + 1) up2 C2 k2 own2 fi2
 p1:cs1.take k1=es.take k1
 p2:cs2.take k2=cs1.take k2
 l0:es.length=xs.length
 l1:cs1.length=C1.length
 l2:cs2.length=C2.length
 e8:es.length <= 8
def Ph (es:List Addr) (xs:List En) (pl tm:Int) (cs1:List Addr) (C1:List En) (k1:Nat) (own1 up2:Int) (cs2:List Addr) (C2:List En) (own2 fi2:Int) (g:Gs):Prop :=
 (g.pl=pl /\ g.tm=tm) /\ ((g.t <= own1 /\ g.s <= up2 /\ fY es xs cs1 C1 k1 g.es g.xs (g.s - pl).toNat) \/ (g.t=own2 /\ ∃ esB xsB kp,esB.length <= 20 /\ fX xsB pl tm C2 kp fi2 /\ cs2.take kp=esB.take kp /\ esB.length=xsB.length /\ fY esB xsB cs2 C2 kp g.es g.xs (g.s - pl).toNat))
def Of2 (pl tm:Int) (cs1:List Addr) (C1:List En) (own1 fi1 up2:Int) (cs2:List Addr) (C2:List En) (own2 fi2:Int) (lm be th up bt:Int) (ms:List Addr) (ys:List En) (k sk:Nat):Prop :=
 ∃ e2,(lm=own1 /\ up <= up2 /\ fQ pl tm C1 own1 fi1 be th up bt ys k sk e2 /\ ms.drop sk=(cs1.drop k).take (e2 - k)) \/ (lm=own2 /\ fQ pl tm C2 own2 fi2 be th up bt ys k sk e2 /\ ms.drop sk=(cs2.drop k).take (e2 - k))
section
variable {es:List Addr} {xs:List En} {pl tm t s:Int} {cs1:List Addr} {C1:List En} {k1:Nat} {own1 fi1 up2:Int} {cs2:List Addr} {C2:List En} {k2:Nat} {own2 fi2:Int} {g:Gs}
theorem Two.len (D:Two es xs pl tm t s cs1 C1 k1 own1 fi1 up2 cs2 C2 k2 own2 fi2):cs1.length <= 14 /\ cs2.length <= 20:=by
 have h1:=D.r1.len
 have h2:=D.r2.len
 have h3:=D.l0
 have h4:=D.l1
 have h5:=D.l2
 have h6:=D.e8
 lia
theorem Ph.len (D:Two es xs pl tm t s cs1 C1 k1 own1 fi1 up2 cs2 C2 k2 own2 fi2) (h:Ph es xs pl tm cs1 C1 k1 own1 up2 cs2 C2 own2 fi2 g):g.es.length <= 20:=by
 have hl:=D.len
 have h8:=D.e8
 rcases h.2 with ⟨_,_,h⟩ | ⟨_,esB,xsB,kp,hB,_,_,_,h⟩
 ·rcases h with ⟨h,_⟩ | ⟨e,_,h,_⟩
  ·rw [h]; lia
  ·rw [h,List.length_take]; lia
 ·rcases h with ⟨h,_⟩ | ⟨e,_,h,_⟩
  ·rw [h]; lia
  ·rw [h,List.length_take]; lia
theorem Of2.len {lm be th up bt:Int} {ms:List Addr} {ys:List En} {k sk:Nat} (D:Two es xs pl tm t s cs1 C1 k1 own1 fi1 up2 cs2 C2 k2 own2 fi2) (p3:pl <= 3) (h:Of2 pl tm cs1 C1 own1 fi1 up2 cs2 C2 own2 fi2 lm be th up bt ms ys k sk):be + sk=pl + k /\ (sk=0 \/ k=0) /\ ys.length <= 30:=by
 have hl:=D.len
 have a1:=D.l1
 have a2:=D.l2
 obtain ⟨e2,⟨_,_,h,_⟩ | ⟨_,h,_⟩⟩:=h
 ·refine ⟨h.ks,h.k0,?_⟩
  have b1:=h.yl
  have b2:=h.e4
  have b3:=h.ks
  have b4:=h.b0
  rcases h.k0 with b5 | b5 <;> lia
 ·refine ⟨h.ks,h.k0,?_⟩
  have b1:=h.yl
  have b2:=h.e4
  have b3:=h.ks
  have b4:=h.b0
  rcases h.k0 with b5 | b5 <;> lia
theorem Ph.step {lm be th up bt:Int} {ms:List Addr} {ys:List En} {k sk:Nat} (D:Two es xs pl tm t s cs1 C1 k1 own1 fi1 up2 cs2 C2 k2 own2 fi2) (hg:Ph es xs pl tm cs1 C1 k1 own1 up2 cs2 C2 own2 fi2 g) (hl:Of2 pl tm cs1 C1 own1 fi1 up2 cs2 C2 own2 fi2 lm be th up bt ms ys k sk) (hml:ms.length=ys.length) (hps:g.pl <= g.s) (htl:g.t <= lm) :
  ∃ y pc s2 es2 xs2,Out g be th up ms ys k sk y pc s2 es2 xs2 /\ g.s <= s2 /\ es2.take (g.s - g.pl).toNat=g.es.take (g.s - g.pl).toNat /\ ∀ fr kr2 en2 n2,Ph es xs pl tm cs1 C1 k1 own1 up2 cs2 C2 own2 fi2 (gN g lm fr s2 es2 xs2 kr2 en2 n2):=by
 obtain ⟨⟨q1,q2⟩,hg⟩:=hg
 have hk:=D.r1.k1
 have key:∀ {es0 cs:List Addr} {xs0 C:List En} {keep e2:Nat} {own fi:Int},fX xs0 pl tm C keep fi -> fQ pl tm C own fi be th up bt ys k sk e2 -> cs.take keep=es0.take keep -> es0.length=xs0.length -> cs.length=C.length -> ms.drop sk=(cs.drop k).take (e2 - k) -> fY es0 xs0 cs C keep g.es g.xs (g.s - pl).toNat -> ∃ y pc s2 es2 xs2,Out g be th up ms ys k sk y pc s2 es2 xs2 /\ fY es0 xs0 cs C keep es2 xs2 (s2 - pl).toNat /\ g.s <= s2 /\ es2.take (g.s - g.pl).toNat=g.es.take (g.s - g.pl).toNat /\ (s2 <= g.s \/ s2 <= up):=by
  intro es0 cs xs0 C keep e2 own fi hR hF hpe h0 hC hms hP
  rw [<- q1,<- q2] at hR hF
  rw [<- q1] at hP
  obtain ⟨y,pc,s2,es2,xs2,hO⟩:=out_of g be th up bt ms ys k sk e2 hR hF hpe h0 hC hms hP
  obtain ⟨a1,a2,a3,a4⟩:=hO.rowP hR hF hpe h0 hC hms hml hps hP
  exact ⟨y,pc,s2,es2,xs2,hO,by rw [<- q1]; exact a1,a2,a3,a4⟩
 obtain ⟨e2,⟨rfl,hu,hF,hms⟩ | ⟨rfl,hF,hms⟩⟩:=hl
 ·rcases hg with ⟨h1,h2,hP⟩ | ⟨h1,_⟩
  ·obtain ⟨y,pc,s2,es2,xs2,hO,a1,a2,a3,a4⟩:=key D.r1.s hF D.p1 D.l0 D.l1 hms hP
   exact ⟨y,pc,s2,es2,xs2,hO,a2,a3,fun fr kr2 en2 n2=>⟨⟨q1,q2⟩,.inl ⟨Int.le_refl _,by show s2 <= up2; lia,a1⟩⟩⟩
  ·exact absurd D.r2.ot (by lia)
 ·rcases hg with ⟨h1,h2,hP⟩ | ⟨h1,esB,xsB,kp,hB,hS,hpe,h0,hP⟩
  ·obtain ⟨esB,xsB,kp,hS,hpe,h0,hB',hP⟩:=fY.next D.r1 D.r2 D.p1 D.p2 D.l0 D.l1 (show (g.s - pl).toNat <= (up2 - pl).toNat by lia) hP
   obtain ⟨y,pc,s2,es2,xs2,hO,a1,a2,a3,a4⟩:=key hS hF hpe h0 D.l2 hms hP
   have hl:=D.len
   have h8:=D.e8
   exact ⟨y,pc,s2,es2,xs2,hO,a2,a3,fun fr kr2 en2 n2=>⟨⟨q1,q2⟩,.inr ⟨rfl,esB,xsB,kp,by lia,hS,hpe,h0,a1⟩⟩⟩
  ·obtain ⟨y,pc,s2,es2,xs2,hO,a1,a2,a3,a4⟩:=key hS hF hpe h0 D.l2 hms hP
   exact ⟨y,pc,s2,es2,xs2,hO,a2,a3,fun fr kr2 en2 n2=>⟨⟨q1,q2⟩,.inr ⟨rfl,esB,xsB,kp,hB,hS,hpe,h0,a1⟩⟩⟩
end
end K41
namespace K41
open PySem L2
open K41T (Kvs Las Wk aU ci cu cm dv aO bp gJ cb cv Eqv)
open K41B (ba bn)
abbrev jC:Stmt:=top 126
def qp (K:PySem.W.Frag):Sp:=fun vs H Q _=>∃ (a:Addr) (ns:List Int),vs=[.ref a] /\ SqL K H a (ns.map V.int) /\ ns.length <= 63 /\ ∀ H',Q (.bl true) H'
theorem vK {K:PySem.W.Frag} {H:Hp} {p p':Addr} {ps:List (Str × V)} {qs:List (Str × Int × V)} (h:cb H p ps qs) (h':cb H p' ps qs) (f1:∀ p ∈ ps,smV p.2=true) (f2:∀ q ∈ qs,smV q.2.2=true):tK K H p p':=by
 obtain ⟨ph,pa,oh,oa,hs,as,a1,a2,a3,a4,a5,a6,a7,a8⟩:=h
 obtain ⟨ph',pa',oh',oa',hs',as',b1,b2,b3,b4,b5,b6,b7,b8⟩:=h'
 refine ⟨2,_,_,by decide,SqT.of a1,SqT.of b1,rfl,fun i x y hx hy=>?_⟩
 match i,hx,hy with
 | 0,hx,hy =>
  cases hx; cases hy
  refine .inr ⟨ph,ph',hs,hs',rfl,rfl,.inl (.inr ⟨oh,a2⟩),.inl (.inr ⟨oh',b2⟩),by lia,fun j u v hu hv=>?_⟩
  have hj:j < ps.length:=by have:=(List.getElem?_eq_some_iff.mp hu).1; lia
  obtain ⟨c,c1,c2⟩:=a7 j _ (List.getElem?_eq_getElem hj)
  obtain ⟨d,d1,d2⟩:=b7 j _ (List.getElem?_eq_getElem hj)
  rw [c1] at hu
  rw [d1] at hv
  cases hu; cases hv
  exact gA (SqT.of c2) (SqT.of d2) fun z hz=>by
   simp only [List.mem_cons,List.not_mem_nil,or_false] at hz
   rcases hz with rfl | rfl
   ·rfl
   ·exact f1 _ (List.getElem_mem hj)
 | 1,hx,hy =>
  cases hx; cases hy
  refine .inr (ex4 pa pa' as as' ⟨rfl,rfl,.inl (.inr ⟨oa,a4⟩),.inl (.inr ⟨oa',b4⟩),by lia,fun j u v hu hv=>?_⟩)
  have hj:j < qs.length:=by have:=(List.getElem?_eq_some_iff.mp hu).1; lia
  obtain ⟨c,c1,c2⟩:=a8 j _ (List.getElem?_eq_getElem hj)
  obtain ⟨d,d1,d2⟩:=b8 j _ (List.getElem?_eq_getElem hj)
  rw [c1] at hu
  rw [d1] at hv
  cases hu; cases hv
  exact gA (SqT.of c2) (SqT.of d2) fun z hz=>by
   simp only [List.mem_cons,List.not_mem_nil,or_false] at hz
   rcases hz with rfl | rfl | rfl
   ·rfl
   ·rfl
   ·exact f2 _ (List.getElem_mem hj)
 | i + 2,hx,_=>cases hx
theorem sm_ni {v:V} (h:v=.non \/ ∃ i:Int,v=.int i):smV v=true:=by
 rcases h with rfl | ⟨i,rfl⟩ <;> rfl
theorem bList1:bootBuiltins "list"=some (.type "list"):=by decide +kernel
theorem cb.same {H H':Hp} {p:Addr} {ps:List (Str × V)} {qs:List (Str × Int × V)} (e:ar H H') (h:cb H p ps qs):cb H' p ps qs:=K41T.cb.keepN h fun b o q _=>e _ _ q
theorem sh {nm:Str} {wa sz:Int} {m:Addr}:(flH nm wa sz m).lookup ("comes_up":Str)=none:=by kernel_rfl
theorem si {nm:Str} {wa sz:Int} {m:Addr}:(flH nm wa sz m).lookup ("part":Str)=none:=by kernel_rfl
theorem sj {nm:Str} {wa sz:Int} {m:Addr}:(flH nm wa sz m).lookup ("table":Str)=none:=by kernel_rfl
structure Blj (mg:Str -> Option Value):Prop where
 range:mg "range"=none
 max:mg "max"=none
 list:mg "list"=none
 tuple:mg "tuple"=none
def LtC (pl tm:Int) (cs:List Addr) (C:List En) (own fi:Int) (nm:Str) (H:Hp) (lt:Addr) (up:Int):Prop:=∃ (me:Addr) (be th bt:Int) (ms:List Addr) (ys:List En) (k sk e2:Nat),H lt=some (.tup [.str "rows",.str nm,.str "b",.int own,.int be,.int th,.ref me,.int up,.int bt]) /\ H me=some (.tup (ms.map V.ref)) /\ Paired (EnO H) ms ys /\ ms.drop sk=(cs.drop k).take (e2 - k) /\ fQ pl tm C own fi be th up bt ys k sk e2
theorem LtC.tk {pl tm:Int} {cs:List Addr} {C:List En} {own fi:Int} {nm:Str} {H H':Hp} {lt:Addr} {up:Int} (e:Tk H H') (h:LtC pl tm cs C own fi nm H lt up):LtC pl tm cs C own fi nm H' lt up:=by
 obtain ⟨me,be,th,bt,ms,ys,k,sk,e2,h1,h2,h3,h4⟩:=h
 exact ⟨me,be,th,bt,ms,ys,k,sk,e2,e _ _ h1,e _ _ h2,bq e h3,h4⟩
abbrev zsV:List Int:=[30,9,30,9,4]
theorem zsV_ok:∀ z ∈ zsV,0 < z /\ z < 2 ^ 250:=by decide +kernel
theorem dig5V {ds:List Int} (h:Dig ds zsV):∃ a b c d e:Int,ds=[a,b,c,d,e]:=by
 cases h with
 | cons h1 t=>cases t with
  | cons h2 t=>cases t with
   | cons h3 t=>cases t with
    | cons h4 t=>cases t with
     | cons h5 t=>cases t with
      | nil=>exact ⟨_,_,_,_,_,rfl⟩
theorem nm_c:Nm "c":=⟨by decide +kernel,by decide +kernel,by decide +kernel⟩
theorem vL {pl tm:Int} {cs:List Addr} {C:List En} {own fi:Int} {nm:Str} {H H':Hp} (e:Tk H H') {lts:List Addr} {ups:List Int} (h:Paired (LtC pl tm cs C own fi nm H) lts ups):Paired (LtC pl tm cs C own fi nm H') lts ups:=by
 induction h with
 | nil=>exact .nil
 | cons r _ ih=>exact .cons (r.tk e) ih
theorem bK.off_new {K:PySem.W.Frag} {c:Cs} {H0 Ha Hb:Hp} {g:Gs} {x:Addr} {u:HO} (h:bK K c H0 Ha g) (n:Ha x=none) (e:Hb x=some u):jB g Hb x=some u:=by
 obtain ⟨z1,y1⟩:=h.hb
 obtain ⟨z2,y2⟩:=h.mo.ob
 obtain ⟨⟨z3,y3⟩,_⟩:=id h.mo.wg.wo
 obtain ⟨z4,y4,_⟩:=h.mo.rc
 obtain ⟨_,y5,⟨z6,y6,_⟩,_⟩:=id h.mo.tb
 rw [qo (ak y1 n).symm (ak y2 n).symm (ak y3 n).symm (ak y4 n).symm (ak y5 n).symm (ak y6 n).symm]
 exact e
theorem ints_of {ys:List V} {ups:List Int} (hl:ys.length=ups.length) (h:∀ (i:Nat) (y:V),ys[i]?=some y -> ∃ u,ups[i]?=some u /\ y=V.int u):ys=ups.map V.int:=by
 refine List.ext_getElem? fun i=>?_
 rw [List.getElem?_map]
 cases hy:ys[i]? with
 | none =>
  rw [List.getElem?_eq_none (by rw [<- hl]; exact List.getElem?_eq_none_iff.mp hy)]
  rfl
 | some y =>
  obtain ⟨u,h1,rfl⟩:=h i y hy
  rw [h1]
  rfl
theorem lS {α β:Type} {R:α -> β -> Prop} {as:List α} {bs:List β} (h:Paired R as bs) {i:Nat} (hi:i < as.length):∃ (hb:i < bs.length),R as[i] bs[i]:=by
 induction h generalizing i with
 | nil=>exact absurd hi (Nat.not_lt_zero _)
 | cons r _ ih =>
  cases i with
  | zero=>exact ⟨Nat.succ_pos _,r⟩
  | succ i =>
   obtain ⟨hb,hr⟩:=ih (Nat.lt_of_succ_lt_succ hi)
   exact ⟨Nat.succ_lt_succ hb,hr⟩
section
variable {P:Program} {w:World} {K:PySem.W.Frag} {mg:Str -> Option Value} {base:Heap} {CH CM CT CW CR:Addr}
abbrev nLaw:List Str:=["_law_script","_law_state","_law_house","_law_stand","_law_first","_law_sent","_law_upto","_law_held","_law_second","_law_known","_law_k","_law_letter","_law_cell","_law_step"]
abbrev nLawK:List Str:=["_law_script","_law_state","_law_house","_law_stand","_law_first","_law_sent","_law_upto","_law_held","_law_second","_law_known","","_law_letter","_law_cell","_law_step"]
abbrev nLawL:List Str:=["_law_script","_law_state","_law_house","_law_stand","_law_first","_law_sent","_law_upto","_law_held","_law_second","_law_known","_law_k","","_law_cell","_law_step"]
theorem scLaw:ax nLaw ["_law_script"] (am jC):=fsc (by decide +kernel)
theorem ndLawK:(nLawK ++ (["_law_k"]:List Str)).Nodup:=by decide +kernel
theorem ndLawL:(nLawL ++ (["_law_letter"]:List Str)).Nodup:=by decide +kernel
theorem ok_law {f:Addr} {fd:FuncData} (F:Fun K "law" "law" jC f fd) (B:Blj mg) (TH:ClH K mg CH) (TT:K41T.Cl K mg CT) (Fc:aR P w K mg base 1 "_law_cell_at" ["_law_script","_law_k"] (gH K)) (Fw:aR P w K mg base 4 "_law_written" ["_law_script"] (spWr K)) (Fcr:aR P w K mg base 4 "_law_chair_row" pCR (spCR K)) (Frw:aR P w K mg base 3 "_law_rows" pRw (spRw K)) (Fd:aR P w K mg base 2 "_law_digits" ["_law_cell","_law_sizes"] jm) (Fgo:aR P w K mg base 11 "_law_goes" pGo (spGo K ⟨CH,CM,CT,CW,CR⟩)) (Fo:aR P w K mg base 2 "_law_done" ["_law_stand","_law_entries_here","_law_settled"] (iD K))
  (Mh:fK P w K mg base CH 8 nHI (spHI K CH)) (Mu:bu P w K mg base CH 8 "comes_up" ["self","written"] (spUp K ⟨CH,CM,CT,CW,CR⟩)) (Mp:bu P w K mg base CH 1 "part" ["self"] (lu K ⟨CH,CM,CT,CW,CR⟩)) (Mt:bu P w K mg base CH 4 "table" ["self"] (jk K ⟨CH,CM,CT,CW,CR⟩)) (Mo:bu P w K mg base CT 1 "told" ["self"] (K41T.kR K CT)):aP P w K mg base CX0 12 f fd ["_law_script"] (qp K):=by
 refine F.ok scLaw (fun us H Q E h=>?_) (fun cdv A outer s H us Q E hr h=>?_)
 ·obtain ⟨a,ns,rfl,_⟩:=h
  rfl
 ·obtain ⟨a,ns,rfl,hS,hl63,q⟩:=h
  have nd:=scLaw.nd
  have r1:bi 1 _:=hr.mono (by decide)
  have r2:bi 2 _:=hr.mono (by decide)
  have r3:bi 3 _:=hr.mono (by decide)
  have r4:bi 4 _:=hr.mono (by decide)
  have r8:bi 8 _:=hr.mono (by decide)
  have r9:bi 9 _:=hr.mono (by decide)
  have hu64:=hr.units
  have hs16:sizeLine=16777216:=sizeLine_eq
  refine ⟨_,ae (aB (i:=1) nd rfl (Or.inl rfl) (aC Fw r4 (ad (pv 0) ag))) <|
   ae (aB (i:=2) nd rfl (Or.inl rfl) (cP Mh r9 TH.mgC (ad aN (ad af (ad af (ad (aq ao (aq ao (pv 1) af (fun _ _=>rfl)) af (fun _ _=>rfl)) ag)))))) <|
   ae (bJ (bv Mu TH.cl r8 (pv 2) (ad (pv 1) ag))) <|
   ae (aB (i:=3) nd rfl (Or.inr rfl) (aq ao (pv 1) af (fun _ _=>rfl))) <|
   ae (aB (i:=4) nd rfl (Or.inr rfl) (aC Fcr r4 (ad (pv 0) (ad (pv 1) (ad af ag))))) <|
   ae (ir (i:=5) nd rfl (Or.inl rfl) nLaw nLawK ["_law_k"] (am jC) rfl rfl rfl (by decide +kernel) rfl rfl (by decide +kernel) (by decide +kernel) (by decide +kernel) (by decide +kernel)
    (db (by rfl) B.range (ad af ag)) (fun _ _ _ _ _=>au (i:=14) ndLawK rfl (Or.inl rfl)) (fun _ _ _ _ _=>cr)
    (fun _ _ _ _ _=>aC Frw r3 (ad (aC Fc r1 (ad (pv 0) (ad (aE aX af (pv 14)) ag))) (ad (pv 3) (ad (pv 4) (ad aN ag))))) (by with_unfolding_all rfl)) <|
   ae (aB (i:=6) nd rfl (Or.inl rfl) (aA (qJ rfl) (by rfl) B.max kg (ad (aE gh (dQ (oA (aq ao (pv 1) af (fun _ _=>rfl)) bI)) (fb nLaw nLawL ["_law_letter"] (am jC) rfl rfl rfl (by decide +kernel) rfl rfl (by decide +kernel) (by decide +kernel) (by decide +kernel) (by decide +kernel)
    (eJ (pv 5)) (fun _ _ _ _ _=>au (i:=14) ndLawL rfl (Or.inl rfl)) (fun _ _ _ _ _=>cr) (fun _ _ _ _ _=>aq eO (pv 14) af (fun _ _=>rfl)))) ag))) <|
   ae (aB (i:=7) nd rfl (Or.inl rfl) (cH (gq (aE aX (aq ao (pv 4) af (fun _ _=>rfl)) af) (wa_n (eE (pv 6) (eE (pv 3) (wa_c (bc dn (by rfl) B.tuple ca (ad (aq ao (pv 4) af (fun _ _=>rfl)) ag)) bI))))))) <|
   ae (aB (i:=8) nd rfl (Or.inl rfl) (aC Fcr r4 (ad (pv 0) (ad (pv 7) (ad af ag))))) <|
   ae (aB (i:=9) nd rfl (Or.inl rfl) cn) <|
   ae (dX PassesOwn.never rfl (db (by rfl) B.range (ad af ag)) (au (i:=10) nd rfl (Or.inl rfl)) <|
    ae (aB (i:=11) nd rfl (Or.inl rfl) (aq aW (pv 5) (aE cB (pv 10) af) (fun _ _=>rfl))) <|
    ae (aB (i:=12) nd rfl (Or.inl rfl) (aC Fc r1 (ad (pv 0) (ad (aE aX af (pv 10)) ag)))) <|
    ae (cz (aS (PW.pt (iJ (aD dL (pv 10) af (aF _)) (fZ (aD dL (aq aW (j3 Fd r2 (pv 12) (cA (cA (cA (cA (cA bI)))))) af (fun _ _=>rfl)) af (aF _))))) (aj (aB (i:=11) nd rfl (Or.inl rfl) (aC Frw r3 (ad (pv 12) (ad (pv 3) (ad (pv 8) (ad aN ag))))))) aH)) <|
    ae (aB (i:=13) nd rfl (Or.inl rfl) (aC Fgo hr (ad (pv 2) (ad (pv 1) (ad (pv 11) (ad (pv 9) ag)))))) <|
    ae (aS (iI (kq (pv 13))) (aj (ay dU)) aH) <|
    aj (dW (pv 13) (cL (n:=2) rfl (az (au (i:=1) nd rfl (Or.inl rfl)) (az (au (i:=9) nd rfl (Or.inl rfl)) bV))))) <|
   aj (ay (cK (bC bW (bF Mp TH.cl r1 (pv 2)) aN (aF _)) (dE (bC (op_eqAk hu64) (bF Mo TT.cl r1 (bF Mt TH.cl r4 (pv 2))) (aC Fo r2 (ad (pv 3) (ad (bc eN (by rfl) B.list bList1 (ad (aq ao (pv 1) af (fun _ _=>rfl)) ag)) (ad (aq ao (pv 1) af (fun _ _=>rfl)) ag)))) (aF _))))),?_⟩
  dsimp only [bj,Cx.nox]
  refine ah fun K_ hK_=>?_
  refine ⟨_,rfl,a,ns,rfl,hS,fun wt st en b t sp pl tm v hk hq es xs H1 s1 ew G t0 hv el kl ll p0 m0 hx1 hsl hB tm1=>?_⟩
  obtain ⟨hh,aa,oo,pps,pas,hst,_⟩:=id G.so
  refine hK_ _ _ (ah fun K_ hK_=>?_)
  refine ⟨_,rfl,ex4 wt _ _ _ ⟨rfl,rfl,SqT.of ew,ei,st,ex3 _ _ _ ⟨rfl,rfl,SqT.of hst,d8,?_⟩⟩⟩
  intro ho dx no ndx ndo
  have no':upd H1 dx (.own ho) ho=none:=by rw [aw ndo.symm]; exact no
  have s5:ar H1 (upd (upd H1 dx (.own ho)) ho (.ins CH dx [])):=(ar.new ndx).trans (ar.new no')
  refine ⟨ho,ex5 dx b "b" 3 20 ⟨rfl,ai,fun m H6 b6 e6=>⟨rfl,?_⟩⟩⟩
  have s46:ar H1 H6:=fun c u e=>b6 _ _ (ak e no) (s5 _ _ e)
  refine hK_ _ _ (ah fun K_ hK_=>?_)
  refine ⟨_,rfl,ho,dx,_,rfl,e6,sh,_,rfl,H1,ho,dx,m,wt,st,en,b,"b",3,20,t,sp,ex7 pl tm v hk hq es xs ⟨rfl,e6,s46 _ _ ew,G.same s46,s46,no,fun m2 wr bd d l rl kr yl sd gl fl sl H7 b7 HO=>?_⟩⟩
  have w7:H7 wt=some (.tup [.int t,v,.int sp,.ref st,.ref en]):=Tk.bt b7 e6 _ _ (s46 _ _ ew)
  have G7:=(G.same s46).bt b7 e6
  have hS1:=s1.seq hS
  obtain ⟨g0,hg0⟩:∃ g0:Gs,g0={ ho:=ho,m:=m2,wr:=wr,bd:=bd,d:=d,l:=l,rl:=rl,kr:=kr,st:=st,en:=en,b:=b,yl:=yl,sd:=sd,gl:=gl,fl:=fl,sl:=sl,nm:="b",wa:=3,sz:=20,t:=t,v:=v,s:=sp,pl:=pl,tm:=tm,qu:=0,kn:=.non,hk:=hk,hq:=hq,es:=es,xs:=xs,n:=0 }:=⟨_,rfl⟩
  have HO:bK K ⟨CH,CM,CT,CW,CR⟩ H1 H7 g0:=by rw [hg0]; exact HO
  obtain ⟨pl0,pl3⟩:=p0
  have hes:es.length=xs.length:=Paired.length G7.eo
  have hst7:H7 st=some (.tup [.int pl,.int tm,.ref b,.ref hh,.ref aa]):=Tk.bt b7 e6 _ _ (s46 _ _ hst)
  clear b7 b6 s46 s5 no' e6 ndx ndo
  refine hK_ _ _ (ah fun K_ hK_=>?_)
  refine ⟨_,rfl,ex4 wt _ _ _ ⟨rfl,rfl,SqT.of w7,ei,?_⟩⟩
  refine hK_ _ _ (ah fun K_ hK_=>?_)
  refine ⟨_,rfl,_,rfl,a,wt,st,en,b,ns,20,t,sp,ex7 pl tm v hk hq es xs ⟨rfl,HO.sm.seq hS1,by decide,w7,G7,m0,by lia,hsl,hB,fun ch rw cs C keep own fi H8 s8 ech erw nrw hPC hcs hR=>?_⟩⟩
  have hCl:cs.length=C.length:=Paired.length hPC
  have hRl:=hR.len
  have st8:=s8 _ _ hst7
  have own0:0 <= own:=by have:=hR.ot; lia
  refine hK_ _ _ (ah fun K_ hK_=>?_)
  refine ⟨3,rfl,by decide,by decide,?_⟩
  refine lcJ (n:=3) (fun i=>.int (0 + (i:Int))) (fun D i ys Hx=>H8 D=none /\ ar H8 Hx /\ Hx D=some (.lst ys) /\ ∃ (lts:List Addr) (ups:List Int),ys=lts.map V.ref /\ lts.length=i /\ Paired (LtC pl tm cs C own fi "a" Hx) lts ups) rfl ?_ ?_ ?_ ?_ ?_ ?_
  ·rintro D i ys Hx hi _
   exact hi
  ·rintro D i ys Hx y Hy hi _ ⟨rfl,rfl⟩
   exact ⟨rfl,rfl⟩
  ·rintro D ys Hx _
   exact Nat.le_refl _
  ·intro D hD
   exact ⟨hD,.new hD,ai,[],[],rfl,rfl,.nil⟩
  ·rintro D i ys Hx post hi ⟨h1,h2,h3,lts,ups,rfl,hll,hlp⟩ hp
   have s0x:=s8.trans h2
   refine ⟨_,rfl,_,rfl,_,_,rfl,rfl,ex3 a ns _ ⟨rfl,(HO.same s0x).sm.seq hS1,by lia,fun z=>?_⟩⟩
   refine ⟨_,rfl,_,rfl,st,st,ex13 b hh aa ch rw "a" z pl tm own fi cs C ⟨rfl,nm_a,h2 _ _ st8,h2 _ _ ech,h2 _ _ erw,bq (Tk.of h2) hPC,hR.good,pl0,pl3,m0,tm1,own0,by have:=hR.f1; lia,hR.f2,by lia,fun lt me be th up bt ms ys k sk e2 Ha sa elt eme hPm hms hF=>?_⟩⟩
   have hDa:Ha D=some (.lst (lts.map V.ref)):=sa _ _ h3
   have tk:Tk Ha (upd Ha D (.lst (lts.map V.ref ++ [.ref lt]))):=fun b ys e=>by rw [aw (aM e hDa (by intro z; cases z))]; exact e
   refine hp (.ref lt) Ha hDa (by rw [List.length_map]; exact bA (by lia)) ⟨h1,fun b o e=>?_,ai,lts ++ [lt],ups ++ [up],by rw [List.map_append]; rfl,by rw [List.length_append,hll]; rfl,PySem.Paired.snoc (vL ((Tk.of sa).trans tk) hlp) (LtC.tk tk ⟨me,be,th,bt,ms,ys,k,sk,e2,elt,eme,hPm,hms,hF⟩)⟩
   rw [aw (ak e h1)]
   exact sa _ _ (h2 _ _ e)
  rintro D ys H9 ⟨nD,s9,e9,lts,ups,rfl,hll,hlp⟩
  have s79:=s8.trans s9
  refine hK_ _ _ (ah fun K_ hK_=>?_)
  refine ⟨_,rfl,ex4 wt _ _ _ ⟨rfl,rfl,SqT.of (s79 _ _ w7),d8,(show 1 <= sizeLine by lia),fun l0 H10 n10 s10 e10=>?_⟩⟩
  refine ⟨_,rfl,D,rfl,⟨_,SqL.of (s10 _ _ e9)⟩,?_⟩
  have hlu:lts.length=ups.length:=Paired.length hlp
  refine lcL0 (fun i y=>∃ u,ups[i]?=some u /\ y=.int u) rfl (SqL.of (s10 _ _ e9)) (by rw [List.length_map]; lia) ?_ ?_
  ·intro D2 i x ys post hx nD2 hp
   rw [List.getElem?_map] at hx
   cases hi:lts[i]? with
   | none=>rw [hi] at hx; cases hx
   | some lt =>
    rw [hi] at hx
    cases hx
    obtain ⟨hil,hie⟩:=List.getElem?_eq_some_iff.mp hi
    obtain ⟨hib,hr'⟩:=lS hlp hil
    obtain ⟨me,be,th,bt,ms,ys',k,sk,e2,elt,_⟩:=hr'
    rw [hie] at elt
    have elt':upd H10 D2 (.lst ys) lt=some (.tup [.str "rows",.str "a",.str "b",.int own,.int be,.int th,.ref me,.int ups[i],.int bt]):=by
     rw [aw (ak (s10 _ _ elt) nD2)]
     exact s10 _ _ elt
    exact ⟨_,rfl,ex4 lt _ _ _ ⟨rfl,rfl,SqT.of elt',at7S,hp _ ⟨_,List.getElem?_eq_getElem hib,rfl⟩⟩⟩
  intro D2 ys nD2 hyl hyi
  have hye:ys=ups.map V.int:=ints_of (by rw [hyl,List.length_map]; exact hlu) hyi
  have s11:=ar.new (o:=.lst ys) nD2
  have e11:upd H10 D2 (.lst ys) D2=some (.lst ys):=ai
  generalize upd H10 D2 (.lst ys)=H11 at s11 e11 ⊢
  refine (ex4 l0 D2 _ _ ⟨rfl,rfl,s11 _ _ e10,e11,(by rw [hyl,List.length_map]; show 1 + lts.length <= sizeLine; lia),fun l3 H12 n12 s12 e12=>?_⟩)
  have e12:H12 l3=some (.lst ((sp :: ups).map V.int)):=by rw [e12,hye]; rfl
  refine ⟨l3,sp :: ups,rfl,SqL.of e12,Nat.succ_pos _,fun M hM hMx=>?_⟩
  have hM0:sp <= M:=hMx _ (List.mem_cons_self ..)
  have hMu:∀ u ∈ ups,u <= M:=fun u hu=>hMx _ (List.mem_cons_of_mem _ hu)
  have hk1:=hR.k1
  have hf1:=hR.f1
  have hf2:=hR.f2
  have hps:=G7.ps
  have hM1:M <= pl + cs.length:=by
   rcases List.mem_cons.mp hM with rfl | hu
   ·lia
   ·obtain ⟨i,hi,rfl⟩:=List.getElem_of_mem hu
    obtain ⟨hib,hr'⟩:=lS hlp (show i < lts.length by lia)
    obtain ⟨me,be,th,bt,ms,ys',k,sk,e2,_,_,_,_,hF⟩:=hr'
    have:=hF.u1
    lia
  have s712:=s79.trans (s10.trans (s11.trans s12))
  have ch12:=(s9.trans (s10.trans (s11.trans s12))) _ _ ech
  have rw12:=(s9.trans (s10.trans (s11.trans s12))) _ _ erw
  refine hK_ _ _ (ah fun K_ hK_=>?_)
  refine ⟨_,rfl,ex4 ch _ _ _ ⟨rfl,rfl,SqT.of ch12,at1,_,_,rfl,rfl,_,rfl,_,rfl,_,rfl,ex4 ch _ _ _ ⟨rfl,rfl,SqT.of ch12,at0,rw,_,rfl,SqL.of rw12,fun me0 H13 n13 s13 e13=>⟨(show 5 <= sizeLine by lia),fun hd H14 n14 s14 e14=>?_⟩⟩⟩⟩
  have s714:=s712.trans (s13.trans s14)
  have s814:=s9.trans (s10.trans (s11.trans (s12.trans (s13.trans s14))))
  have G14:=G7.same s714
  refine hK_ _ _ (ah fun K_ hK_=>?_)
  refine ⟨_,rfl,_,rfl,a,hd,st,me0,b,ns,27,own + 1,ex8 M pl tm .non hk hq cs C ⟨rfl,(HO.same s714).sm.seq hS1,by decide,e14,⟨G14.so,s14 _ _ e13,bq (Tk.of s814) hPC,by lia,by lia,G14.ok,G14.kl,G14.ll⟩,m0,by lia,hM1,hR.eb,fun ch2 rw2 cs2 C2 keep2 own2 fi2 H15 s15 ech2 erw2 nrw2 hPC2 hcs2 hR2=>?_⟩⟩
  have hCl2:cs2.length=C2.length:=Paired.length hPC2
  have DD:Two es xs pl tm t sp cs C keep own fi M cs2 C2 keep2 own2 fi2:=⟨hR,hR2,hcs,hcs2,hes,hCl,hCl2,el⟩
  have s715:=s714.trans s15
  have HO15:=HO.same s715
  obtain ⟨HOf,S0⟩:=HO15.off
  have hSf:=S0.seq hS1
  have hrf:jB g0 H15 rw2=some (.lst (cs2.map V.ref)):=(HO.same s714).off_new nrw2 erw2
  have hDf:jB g0 H15 D=some (.lst (lts.map V.ref)):=(HO.same s8).off_new nD ((s10.trans (s11.trans (s12.trans (s13.trans (s14.trans s15))))) _ _ e9)
  have st15:=s715 _ _ hst7
  have hlp15:=vL (Tk.of (s10.trans (s11.trans (s12.trans (s13.trans (s14.trans s15)))))) hlp
  have en15:H15 en=some (.tup (es.map V.ref)):=s715 _ _ G7.ho
  have w15:=s715 _ _ w7
  have hPC15:=hPC2
  have own20:0 <= own2:=by have:=hR2.ot; lia
  have h20:=DD.len
  generalize jB g0 H15=H0f at HOf hSf hrf hDf
  refine hK_ _ _ (ah fun K_ hK_=>?_)
  refine hK_ _ _ ?_
  refine ⟨8,rfl,by decide,by decide,ft (lo:=0) (n:=8) (fun i σ Hx=>∃ (g:Gs) (wt2 en3:Addr) (v10 v11 v12 v13:Option V),σ=[some (.ref a),some (.ref wt2),some (.ref g.ho),some (.ref st),some (.ref ch),some (.ref D),some (.int M),some (.ref hd),some (.ref ch2),some g.kn,v10,v11,v12,v13] /\ bK K ⟨CH,CM,CT,CW,CR⟩ H0f Hx g /\ TkZ H15 Hx /\ Hx wt2=some (.tup [.int g.t,g.v,.int g.s,.ref g.st,.ref en3]) /\ Hx en3=some (.tup (g.es.map V.ref)) /\ smV g.v=true /\ (g.kn=.non \/ ∃ x:Str,g.kn=.str x) /\ Ph es xs pl tm cs C keep own M cs2 C2 own2 fi2 g /\ (g.st=st /\ g.nm="b" /\ g.hk=hk /\ g.hq=hq /\ g.b=b) /\ g.n <= i) ⟨g0,wt,en,none,none,none,none,?_,HOf,TkZ.refl _,?_,?_,?_,?_,?_,?_,?_⟩ ?_ ?_⟩
  ·rw [hg0]; rfl
  ·rw [hg0]; exact w15
  ·rw [hg0]; exact en15
  ·rw [hg0]; exact hv
  ·rw [hg0]; exact .inl rfl
  ·rw [hg0]; exact ⟨⟨rfl,rfl⟩,.inl ⟨hR.ot,hM0,.inl ⟨rfl,rfl,hk1⟩⟩⟩
  ·rw [hg0]; exact ⟨rfl,rfl,rfl,rfl,rfl⟩
  ·rw [hg0]; exact Nat.le_refl _
  ·rintro i σ Hx hi ⟨g,wt2,en3,v10,v11,v12,v13,rfl,Gx,kx,wx,ex,gv,gkn,gP,⟨q3,q4,q5,q6,q7⟩,gn⟩
   have stx:Hx st=some (.tup [.int pl,.int tm,.ref b,.ref hh,.ref aa]):=kx.t _ _ st15
   have ch2x:=kx.t _ _ ech2
   have hi3:i % 3 < lts.length:=by lia
   obtain ⟨hib,hlt0⟩:=lS hlp15 hi3
   have hlt0:=LtC.tk kx.t hlt0
   have hu0:=hMu _ (List.getElem_mem hib)
   have hat:atI (lts.map V.ref) ((0 + (i:Int)) % 3)=some (V.ref lts[i % 3]):=by
    rw [show (0 + (i:Int)) % 3=((i % 3:Nat):Int) by lia]
    exact bN (by rw [List.getElem?_map,List.getElem?_eq_getElem hi3]; rfl)
   generalize lts[i % 3]=lt0 at hlt0 hat
   generalize ups[i % 3]=up0 at hlt0 hu0
   refine ah fun K_ hK_=>?_
   refine ⟨_,rfl,_,rfl,_,_,rfl,rfl,(show (0:Int) < 3 by decide),ex4 D _ _ _ ⟨rfl,rfl,SqL.of (Gx.sm _ _ hDf),hat,?_⟩⟩
   refine hK_ _ _ (ah fun K_ hK_=>?_)
   refine ⟨_,rfl,_,rfl,_,_,rfl,rfl,ex3 a ns _ ⟨rfl,Gx.sm.seq hSf,by lia,fun z=>?_⟩⟩
   refine hK_ _ _ (ah fun K_ hK_=>?_)
   refine ⟨fun σ' H'=>∃ (lt me:Addr) (fr:Str) (lm be th up bt:Int) (ms:List Addr) (ys:List En) (k sk:Nat),σ'=[some (.ref a),some (.ref wt2),some (.ref g.ho),some (.ref st),some (.ref ch),some (.ref D),some (.int M),some (.ref hd),some (.ref ch2),some g.kn,some (.int (0 + (i:Int))),some (.ref lt),some (.int z),v13] /\ ar Hx H' /\ H' lt=some (.tup [.str "rows",.str fr,.str "b",.int lm,.int be,.int th,.ref me,.int up,.int bt]) /\ H' me=some (.tup (ms.map V.ref)) /\ Paired (EnO H') ms ys /\ fN H' lt /\ ms.length <= 30 /\ ms.length=ys.length /\ Of2 pl tm cs C own fi M cs2 C2 own2 fi2 lm be th up bt ms ys k sk,?_,?_⟩
   ·have old:∀ H',ar Hx H' -> ∃ (lt me:Addr) (fr:Str) (lm be th up bt:Int) (ms:List Addr) (ys:List En) (k sk:Nat),[some (V.ref a),some (.ref wt2),some (.ref g.ho),some (.ref st),some (.ref ch),some (.ref D),some (.int M),some (.ref hd),some (.ref ch2),some g.kn,some (.int (0 + (i:Int))),some (.ref lt0),some (.int z),v13]=[some (V.ref a),some (.ref wt2),some (.ref g.ho),some (.ref st),some (.ref ch),some (.ref D),some (.int M),some (.ref hd),some (.ref ch2),some g.kn,some (.int (0 + (i:Int))),some (.ref lt),some (.int z),v13] /\ ar Hx H' /\ H' lt=some (.tup [.str "rows",.str fr,.str "b",.int lm,.int be,.int th,.ref me,.int up,.int bt]) /\ H' me=some (.tup (ms.map V.ref)) /\ Paired (EnO H') ms ys /\ fN H' lt /\ ms.length <= 30 /\ ms.length=ys.length /\ Of2 pl tm cs C own fi M cs2 C2 own2 fi2 lm be th up bt ms ys k sk:=fun H' s'=>by
     obtain ⟨me,be,th,bt,ms,ys,k,sk,e2,h1,h2,h3,h4,h5⟩:=LtC.tk (Tk.of s') hlt0
     have o2:Of2 pl tm cs C own fi M cs2 C2 own2 fi2 own be th up0 bt ms ys k sk:=⟨e2,.inl ⟨rfl,hu0,h5,h4⟩⟩
     have hml:ms.length=ys.length:=Paired.length h3
     have ol:=(o2.len DD pl3).2.2
     exact ⟨lt0,me,"a",own,be,th,up0,bt,ms,ys,k,sk,rfl,s',h1,h2,h3,h5.let h1 nm_a own0 h2 (by lia) h3,by lia,hml,o2⟩
    refine ⟨_,rfl,_,_,rfl,rfl,_,rfl,bE (fun _=>?_) (fun _=>aV (old Hx (ar.refl _)))⟩
    refine ⟨_,rfl,(show 5 <= sizeLine by lia),fun la Ha na sa ea=>(ex3 z la zsV ⟨rfl,ea,zsV_ok,(by decide),fun pd ds Hb sb nb eb hD=>?_⟩)⟩
    obtain ⟨d0,d1,d2,d3,d4,rfl⟩:=dig5V hD
    have sab:=sa.trans sb
    refine (ex4 pd _ _ _ ⟨rfl,rfl,SqL.of eb,kX,_,_,rfl,rfl,_,rfl,bE (fun _=>?_) (fun _=>old Hb sab)⟩)
    refine ⟨_,rfl,_,rfl,_,rfl,st,st,ex13 b hh aa ch2 rw2 "c" z pl tm own2 fi2 cs2 C2 ⟨rfl,nm_c,sab _ _ stx,sab _ _ ch2x,sab _ _ (Gx.sm _ _ hrf),bq (kx.t.trans (Tk.of sab)) hPC2,hR2.good,pl0,pl3,m0,tm1,own20,by have:=hR2.f1; lia,hR2.f2,by lia,fun lt me be th up bt ms ys k sk e2 Hc sc elt eme hPm hms hF=>?_⟩⟩
    have o2:Of2 pl tm cs C own fi M cs2 C2 own2 fi2 own2 be th up bt ms ys k sk:=⟨e2,.inr ⟨rfl,hF,hms⟩⟩
    have hml:ms.length=ys.length:=Paired.length hPm
    have ol:=(o2.len DD pl3).2.2
    exact ⟨lt,me,"c",own2,be,th,up,bt,ms,ys,k,sk,rfl,sab.trans sc,elt,eme,hPm,hF.let elt nm_c own20 eme (by lia) hPm,by lia,hml,o2⟩
   rintro σ' H1' ⟨lt,me,fr,lm,be,th,up,bt,ms,ys,k,sk,rfl,s1',elt,eme,hPm,hlet,m30,hml,o2⟩
   refine hK_ _ _ (ah fun K_ hK_=>?_)
   have fin:∀ (g2:Gs) (w2 en4 p:Addr) (H':Hp),g2.ho=g.ho -> bK K ⟨CH,CM,CT,CW,CR⟩ H0f H' g2 -> TkZ Hx H' -> H' p=some (.tup [.ref w2,g2.kn]) -> H' w2=some (.tup [.int g2.t,g2.v,.int g2.s,.ref g2.st,.ref en4]) -> H' en4=some (.tup (g2.es.map V.ref)) -> smV g2.v=true -> (g2.kn=.non \/ ∃ x:Str,g2.kn=.str x) -> Ph es xs pl tm cs C keep own M cs2 C2 own2 fi2 g2 -> (g2.st=st /\ g2.nm="b" /\ g2.hk=hk /\ g2.hq=hq /\ g2.b=b) -> g2.n <= i + 1 -> K_ [some (.ref a),some (.ref wt2),some (.ref g.ho),some (.ref st),some (.ref ch),some (.ref D),some (.int M),some (.ref hd),some (.ref ch2),some g.kn,some (.int (0 + (i:Int))),some (.ref lt),some (.int z),some (.ref p)] H':=by
    intro g2 w2 en4 p H' e0 G2 k2 ep ew een v2 kn2 P2 c2 n2
    refine hK_ _ _ ?_
    refine ⟨_,rfl,_,rfl,bE (fun z=>absurd (of_decide_eq_true z) (by intro z; cases z)) (fun _=>?_)⟩
    refine ⟨_,rfl,p,_,rfl,SqT.of ep,rfl,_,_,rfl,_,_,rfl,rfl,?_⟩
    exact ⟨g2,w2,en4,_,_,_,_,by rw [e0]; rfl,G2,kx.trans k2,ew,een,v2,kn2,P2,c2,n2⟩
   have G1:=Gx.same s1'
   obtain ⟨ol1,ol2,ol3⟩:=o2.len DD pl3
   have hgl:=gP.len DD
   obtain ⟨⟨q1,q2⟩,_⟩:=id gP
   refine ⟨_,rfl,_,rfl,_,rfl,_,rfl,H0f,g,wt2,en3,lt,me,hh,aa,fr,lm,be,th,up,bt,ms,ys,k,sk,rfl,G1,q4,gv,gkn,s1' _ _ wx,by rw [q3,q1,q2,q7]; exact s1' _ _ stx,s1' _ _ ex,elt,eme,hPm,hlet,by rw [q1]; exact ol1,ol2,hgl,m30,by lia,fun hl p H' s' ep=>?_,fun htl=>?_⟩
   ·have sz:=s1'.trans s'
    exact fin g wt2 en3 p H' rfl (Gx.same sz) (TkZ.of sz) ep (sz _ _ wx) (sz _ _ ex) gv gkn gP ⟨q3,q4,q5,q6,q7⟩ (by lia)
   ·obtain ⟨y,pc,s2,es2,xs2,hO,hs2,htk,hPh⟩:=gP.step DD o2 hml Gx.mo.wg.ps htl
    refine ⟨y,pc,s2,es2,xs2,hO,hs2,htk,fun p w2 en4 kr2 en2 n2 H' hn2 G2 k2 ew een ep=>?_⟩
    refine fin (gN g lm fr s2 es2 xs2 kr2 en2 n2) w2 en4 p H' rfl G2 ((TkZ.of s1').trans k2) ep ew een ?_ (.inr ⟨fr,rfl⟩) (hPh fr kr2 en2 n2) ⟨q3,q4,q5,q6,q7⟩ (show n2 <= i + 1 by lia)
    show smV (if g.t < lm then V.non else g.v)=true
    split
    ·rfl
    ·exact gv
  ·rintro σ Hx ⟨g,wt2,en3,v10,v11,v12,v13,rfl,Gx,kx,wx,ex,gv,gkn,gP,⟨q3,q4,q5,q6,q7⟩,gn⟩
   obtain ⟨dxh,hob⟩:=Gx.hb
   refine ⟨_,rfl,ex3 g.ho dxh _ ⟨rfl,hob,si,H0f,g,rfl,Gx,rfl,_,rfl,?_⟩⟩
   rw [decide_eq_true rfl]
   refine bz ?_
   have W:=Gx.mo.wg
   have gel:=gP.len DD
   have kl':(aO g.hk).length <= 3:=by rw [q5]; exact kl
   have ll':(bp g.hq).length <= 3:=by rw [q6]; exact ll
   have okT:=eP (s:=(aO g.hk,bp g.hq)) W.ok (g.xs.take (g.s - g.pl).toNat)
   have rl:=dZ (g.xs.take (g.s - g.pl).toNat) (aO g.hk,bp g.hq)
   have hxl:g.es.length=g.xs.length:=Paired.length W.eo
   have tl:(g.xs.take (g.s - g.pl).toNat).length <= 20:=by rw [List.length_take]; lia
   have r1':=rl.1
   have r2':=rl.2
   simp only at r1' r2'
   refine ⟨_,rfl,ex3 g.ho dxh _ ⟨rfl,hob,sj,H0f,g,rfl,Gx,okT,(by show (dI g.hk g.hq g.xs (g.s - g.pl).toNat).1.length < 64; unfold dI; lia),(by show (dI g.hk g.hq g.xs (g.s - g.pl).toNat).2.length < 64; unfold dI; lia),fun T2 d2 l2 kvs2 las2 Hy sy hT2 ok2 eqv k2 l2'=>?_⟩⟩
   obtain ⟨dxt,hobt⟩:=hT2.ob
   refine (ex3 T2 dxt _ ⟨rfl,hobt,hU,ex5 T2 d2 l2 kvs2 las2 ⟨rfl,hT2,ok2,k2,l2',fun p ps qs Hz sz hp ht=>?_⟩⟩)
   have syz:=sy.trans sz
   have wz:=syz _ _ wx
   have Wz:=W.same syz
   refine ⟨_,rfl,_,rfl,ex4 wt2 _ _ _ ⟨rfl,rfl,SqT.of wz,kX,en3,_,rfl,.inr (SqT.of (syz _ _ ex)),fun le Hw nw sw ew'=>?_⟩⟩
   have Ww:=Wz.same sw
   refine ⟨_,rfl,ex4 wt2 _ _ _ ⟨rfl,rfl,SqT.of (sw _ _ wz),d8,g.st,le,g.b,g.s,g.pl,g.tm,g.hk,g.hq,g.es,g.xs,(by show [V.ref st,V.ref le,V.int g.s]=[V.ref g.st,V.ref le,V.int g.s]; rw [q3]),Ww.so,ew',Ww.eo,Ww.ps,Ww.ok,by lia,by lia,fun p' ps' qs' Hv sv hp' ht'=>?_⟩⟩
   obtain ⟨z1,z2⟩:=K41T.cv.one ok2 okT eqv ht ht'
   subst z1 z2
   obtain ⟨f1,f2⟩:=K41T.cv.flat ok2 ht
   exact ⟨p,p',rfl,rfl,vK (cb.same (sw.trans sv) hp) hp' (fun x hx=>sm_ni (f1 x hx)) (fun x hx=>sm_ni (f2 x hx)),q _⟩
end
end K41
namespace L2
open PySem PySem.W
def bQ (m:Nat) (K:Params -> Frag):Params -> Frag:=fun P=>(K P).filter fun p=>m.testBit p.1
def lT (m:Nat) (as:List Nat):List Nat:=as.filter fun a=>m.testBit a
theorem vs_ns {m:Nat} {K:Params -> Frag} {P:Params} {a:Addr} {x:Str} {v:Option (Option Value)} (h:nsIn (K P) a x=v) (e:nsIn (bQ m K P) a x=nsIn (K P) a x):nsIn (bQ m K P) a x=v:=e.trans h
theorem lU {m:Nat} {K:Params -> Frag} {P:Params} {a:Value} {x:Str} {v:Option (Option Value)} (h:findIn (K P) a x=v) (e:findIn (bQ m K P) a x=findIn (K P) a x):findIn (bQ m K P) a x=v:=e.trans h
theorem vs_isFn {m:Nat} {K:Params -> Frag} {P:Params} {a:Value} {v:Bool} (h:isFn (K P) a=v) (e:isFn (bQ m K P) a=isFn (K P) a):isFn (bQ m K P) a=v:=e.trans h
theorem iG {m:Nat} {K:Params -> Frag} {P:Params} {a:Value} {v:Bool} (h:keepIn (K P) a=v) (e:keepIn (bQ m K P) a=keepIn (K P) a):keepIn (bQ m K P) a=v:=e.trans h
theorem lV {m:Nat} {K:Params -> Frag} {P:Params} {a:Value} {x:Str} {v:Bool} (h:codeIn (K P) a x=v) (e:codeIn (bQ m K P) a x=codeIn (K P) a x):codeIn (bQ m K P) a x=v:=e.trans h
theorem vs_pget {m:Nat} {K:Params -> Frag} {P:Params} {a:Addr} {x:Str} {v:Bool} (h:plainGet (K P) a x=v) (e:plainGet (bQ m K P) a x=plainGet (K P) a x):plainGet (bQ m K P) a x=v:=e.trans h
theorem vM {m:Nat} {K:Params -> Frag} {P:Params} {a:Addr} {v:Bool} (h:hasDictIn (K P) a=v) (e:hasDictIn (bQ m K P) a=hasDictIn (K P) a):hasDictIn (bQ m K P) a=v:=e.trans h
theorem vN {m:Nat} {K:Params -> Frag} {P:Params} {a:Addr} {v:Bool} (h:plainOver (K P) a=v) (e:plainOver (bQ m K P) a=plainOver (K P) a):plainOver (bQ m K P) a=v:=e.trans h
theorem vO {m:Nat} {K:Params -> Frag} {P:Params} {a:Addr} {v:Bool} (h:makesIn (K P) a=v) (e:makesIn (bQ m K P) a=makesIn (K P) a):makesIn (bQ m K P) a=v:=e.trans h
theorem vs_exc {m:Nat} {K:Params -> Frag} {P:Params} {a:Addr} {b:List Value} {x:String} {v:Bool} (h:excIn (K P) a b x=v) (e:excIn (bQ m K P) a b x=excIn (K P) a b x):excIn (bQ m K P) a b x=v:=e.trans h
theorem lW {m:Nat} {K:Params -> Frag} {P:Params} {a:Addr} {v:Option Obj} (h:List.lookup a (K P)=v) (e:List.lookup a (bQ m K P)=List.lookup a (K P)):List.lookup a (bQ m K P)=v:=e.trans h
theorem vP {m:Nat} {K:Params -> Frag} {as:List Nat} (e:∀ P,as=List.map (fun x=>x.fst) (K P)) (P:Params):lT m as=List.map (fun x=>x.fst) (bQ m K P):=by
 unfold lT bQ
 rw [e P,List.filter_map]
 rfl
def sr (m:Nat) (K:Params -> Frag) (as:List Nat) (e:∀ P,as=List.map (fun x=>x.fst) (K P)):Hook:=kHook (bQ m K) (lT m as) (vP e)
def FnF (K:Frag) (x:Str) (st:Stmt):Prop:=∃ f fd,nsIn K mainGlobals x=some (some (.ref f)) /\ Fun K x x st f fd
def MtF (K:Frag) (C:Addr) (x q:Str) (st:Stmt):Prop:=∃ f fd,findIn K (.ref C) x=some (some (.ref f)) /\ isFn K (.ref f)=true /\ Fun K x q st f fd
structure ClF (K:Frag) (C:Addr):Prop where
 pg:plainGet K C Str.empty=true
 hd:hasDictIn K C=true
 po:plainOver K C=true
 sa:findIn K (.ref C) "__setattr__"=some (some (.builtin "object.__setattr__"))
 ma:makesIn K C=true
 kc:keepIn K (.ref C)=true
section
variable {K:Frag} {x q:Str} {st:Stmt} {f:Addr} {oc:Value} {od an:Option Addr} {osl:Array (Option Value)} {kV doc pm cdv ct:Value}
theorem FnF.of (a:nsIn K mainGlobals x=some (some (.ref f))) (l:K.lookup f=some ⟨oc,od,.func (fnOf x x (dg st) (cS st) (am st) .none kV doc pm an cdv ct),osl⟩) (c:codeIn K cdv x=true) (k:keepIn K (.ref f)=true):FnF K x st:=⟨f,_,a,og l c k⟩
theorem MtF.of {C:Addr} (a:findIn K (.ref C) x=some (some (.ref f))) (i:isFn K (.ref f)=true) (l:K.lookup f=some ⟨oc,od,.func (fnOf x q (dg st) (cS st) (am st) .none kV doc pm an cdv ct),osl⟩) (c:codeIn K cdv q=true) (k:keepIn K (.ref f)=true):MtF K C x q st:=⟨f,_,a,i,og l c k⟩
end
section
variable {P:Program} {w:World} {K:Frag} {mg:Str -> Option Value} {base hp:Heap} {x q:Str} {st:Stmt} {C:Addr} {ps:List Str} {k:Nat} {sp:Sp}
theorem FnF.at (h:FnF K x st) (X:K.In hp) (G:hp.Ns mainGlobals mg) (T:∀ f fd,Fun K x x st f fd -> aP P w K mg base CX0 k f fd ps sp)
  (B:∀ (kV doc pm:Value) (an:Option Addr) (cdv ct:Value) (us:List Value),us.length=ps.length -> bindArgs (fnOf x x (dg st) (cS st) (am st) .none kV doc pm an cdv ct) ⟨us,[]⟩=pure (ps.zip us):=by
   intro _ _ _ _ _ _ us hl
   first
    | (obtain ⟨a0,rfl⟩:=len1 hl; rfl)
    | (obtain ⟨a0,a1,rfl⟩:=qS hl; rfl)
    | (obtain ⟨a0,a1,a2,rfl⟩:=len3 hl; rfl)
    | (obtain ⟨a0,a1,a2,a3,rfl⟩:=len4 hl; rfl)
    | (obtain ⟨a0,a1,a2,a3,a4,rfl⟩:=len5 hl; rfl)
    | (obtain ⟨a0,a1,a2,a3,a4,a5,rfl⟩:=len6 hl; rfl)):aR P w K mg base k x ps sp:=by
 obtain ⟨f,fd,a,F⟩:=h
 exact ⟨f,fd,T f fd F,mg_of X G a,F.kp,F.binds B⟩
theorem MtF.at (h:MtF K C x q st) (T:∀ f fd,Fun K x q st f fd -> aP P w K mg base CX0 k f fd ps sp)
  (B:∀ (kV doc pm:Value) (an:Option Addr) (cdv ct:Value) (us:List Value),us.length=ps.length -> bindArgs (fnOf x q (dg st) (cS st) (am st) .none kV doc pm an cdv ct) ⟨us,[]⟩=pure (ps.zip us):=by
   intro _ _ _ _ _ _ us hl
   first
    | (obtain ⟨a0,rfl⟩:=len1 hl; rfl)
    | (obtain ⟨a0,a1,rfl⟩:=qS hl; rfl)
    | (obtain ⟨a0,a1,a2,rfl⟩:=len3 hl; rfl)
    | (obtain ⟨a0,a1,a2,a3,rfl⟩:=len4 hl; rfl)
    | (obtain ⟨a0,a1,a2,a3,a4,rfl⟩:=len5 hl; rfl)
    | (obtain ⟨a0,a1,a2,a3,a4,a5,rfl⟩:=len6 hl; rfl)):bu P w K mg base C k x ps sp:=by
 obtain ⟨f,fd,a,i,F⟩:=h
 exact ⟨f,fd,T f fd F,F.binds B,a,i,F.kp⟩
end
end L2
namespace K41
open PySem L2
theorem aI {x y:Str} {t:Addr} {r:List (Str × Addr)}:gZ ((x,t) :: r) y=if x=y then some t else gZ r y:=by
 unfold gZ
 rw [List.find?_cons]
 by_cases h:x=y
 ·rw [decide_eq_true h,if_pos h]; rfl
 ·rw [decide_eq_false h,if_neg h]
open PySem.W in
theorem all_mk {l:OpenLaw} {w:World} {K:Frag} {h:Heap} {mg:Str -> Option Value} {fa:Addr} (X:K.In h) (G:h.Ns mainGlobals mg) (hfa:mg "law"=some (.ref fa))
  {CR:Addr} (aCR:nsIn K mainGlobals "Row"=some (some (.ref CR)))
  {CT:Addr} (aCT:nsIn K mainGlobals "Table"=some (some (.ref CT)))
  {CW:Addr} (aCW:nsIn K mainGlobals "Written"=some (some (.ref CW)))
  {CM:Addr} (aCM:nsIn K mainGlobals "Mind"=some (some (.ref CM)))
  {CH:Addr} (aCH:nsIn K mainGlobals "House"=some (some (.ref CH)))
  (hwhole:FnF K "is_whole" oP)
  (hfrom:FnF K "is_whole_from" ux)
  (hpname:FnF K "is_name" kY)
  (hrise:FnF K "is_rising_names" mR)
  (hwnum:FnF K "is_work_number" uy)
  (hpwork:FnF K "is_work" oQ)
  (hask:FnF K "is_ask" sAsk)
  (hisb:FnF K "is_bench" uo)
  (hjoined:FnF K "is_joined" kZ)
  (hpdeed:FnF K "is_deed" oR)
  (hpentry:FnF K "is_entry" k9)
  (hpart:FnF K "is_part" p4)
  (hlet:FnF K "is_letter" sLet)
  (hchk:FnF K "check_letter" sChk)
  (hfs:FnF K "first_stand" sFS)
  (hfw:FnF K "first_written" sFW)
  (had:FnF K "asks_done" sAD)
  (htf:FnF K "table_from" sTF)
  (hrowsh:FnF K "rows_heard" lN)
  (htookf:FnF K "took" vp)
  (hlatef:FnF K "late" vy)
  (hfols:FnF K "follow_sender" jx)
  (hcell:FnF K "_law_cell_at" tX)
  (hrich:FnF K "_law_rich" uP)
  (hdig:FnF K "_law_digits" kI)
  (hdeedl:FnF K "_law_deed" uR)
  (hents:FnF K "_law_entries" uS)
  (hdoesl:FnF K "_law_does" oY)
  (htabl:FnF K "_law_table" gx)
  (hdonel:FnF K "_law_done" o6)
  (hbenchl:FnF K "_law_bench" lA)
  (hwr:FnF K "_law_written" sWr)
  (hcrl:FnF K "_law_chair_row" sCR)
  (htal:FnF K "_law_term_at" sTA)
  (hrwl:FnF K "_law_rows" sRw)
  (hhdl:FnF K "_law_heard" sHd)
  (hgol:FnF K "_law_goes" sGo)
  {flaw:Addr} {odlaw anlaw:Option Addr} {sllaw:Array (Option Value)} {oclaw kVlaw dclaw pmlaw cdlaw ctlaw:Value} (alaw:nsIn K mainGlobals "law"=some (some (.ref flaw))) (llaw:K.lookup flaw=some ⟨oclaw,odlaw,.func (fnOf "law" "law" (dg jC) (cS jC) (am jC) .none kVlaw dclaw pmlaw anlaw cdlaw ctlaw),sllaw⟩) (claw:codeIn K cdlaw "law"=true) (klaw:keepIn K (.ref flaw)=true)
  (hrinit:MtF K CR "__init__" "Row.__init__" oH)
  (hupto:MtF K CR "up_to" "Row.up_to" j9)
  (hrlast:MtF K CR "last_place" "Row.last_place" K41B.o7)
  (hrterm:MtF K CR "term_at" "Row.term_at" K41B.lB)
  (hrent:MtF K CR "entry_at" "Row.entry_at" K41B.o8)
  (hrbetw:MtF K CR "between" "Row.between" pf)
  (hrfill:MtF K CR "filled" "Row.filled" K41B.lC)
  (uCR:ClF K CR) (nCR_stand:findIn K (.ref CR) "stand"=some none) (nCR_entries:findIn K (.ref CR) "entries"=some none)
  (htinit:MtF K CT "__init__" "Table.__init__" K41T.j6)
  (htdoes:MtF K CT "does" "Table.does" K41T.tY)
  (htdone:MtF K CT "work_done" "Table.work_done" K41T.tZ)
  (htholds:MtF K CT "holds" "Table.holds" K41T.oC)
  (htlast:MtF K CT "last_of" "Table.last_of" K41T.ua)
  (httold:MtF K CT "told" "Table.told" K41T.mQ)
  (httwin:MtF K CT "twin" "Table.twin" oW)
  (uCT:ClF K CT) (nCT_held:findIn K (.ref CT) "held"=some none) (nCT_lasts:findIn K (.ref CT) "lasts"=some none)
  (hwinit:MtF K CW "__init__" "Written.__init__" oI)
  (hwtold:MtF K CW "told" "Written.told" oJ)
  (hwrise:MtF K CW "rise_to" "Written.rise_to" o9)
  (hwset:MtF K CW "settle_to" "Written.settle_to" vh)
  (hwkeep:MtF K CW "keep_row" "Written.keep_row" pb)
  (uCW:ClF K CW) (nCW_term:findIn K (.ref CW) "term"=some none) (nCW_vote:findIn K (.ref CW) "vote"=some none) (nCW_settled_place:findIn K (.ref CW) "settled_place"=some none) (nCW_kept_row:findIn K (.ref CW) "kept_row"=some none)
  (hminit:MtF K CM "__init__" "Mind.__init__" oM)
  (hmset:MtF K CM "settled" "Mind.settled" gM)
  (hmrow:MtF K CM "row" "Mind.row" vi)
  (hmchair:MtF K CM "is_chair" "Mind.is_chair" lH)
  (hmfollow:MtF K CM "follow" "Mind.follow" jv)
  (hmrise:MtF K CM "rise_to" "Mind.rise_to" pe)
  (hmrec:MtF K CM "record" "Mind.record" vj)
  (hmsetto:MtF K CM "settle_to" "Mind.settle_to" lI)
  (uCM:ClF K CM) (nCM_name:findIn K (.ref CM) "name"=some none) (nCM_wait:findIn K (.ref CM) "wait"=some none) (nCM_size:findIn K (.ref CM) "size"=some none) (nCM_kept:findIn K (.ref CM) "kept"=some none) (nCM_records:findIn K (.ref CM) "records"=some none) (nCM_board:findIn K (.ref CM) "board"=some none) (nCM_role:findIn K (.ref CM) "role"=some none) (nCM_known:findIn K (.ref CM) "known"=some none) (nCM_quiet:findIn K (.ref CM) "quiet"=some none) (nCM_yes:findIn K (.ref CM) "yes"=some none) (nCM_sheets:findIn K (.ref CM) "sheets"=some none) (nCM_seat:findIn K (.ref CM) "seat"=some none) (nCM_given:findIn K (.ref CM) "given"=some none) (nCM_found:findIn K (.ref CM) "found"=some none) (nCM_shown:findIn K (.ref CM) "shown"=some none)
  (hhinit:MtF K CH "__init__" "House.__init__" oU)
  (hhwrites:MtF K CH "writes" "House.writes" lg)
  (hhup:MtF K CH "comes_up" "House.comes_up" sUp)
  (hhhear:MtF K CH "hear" "House.hear" qa)
  (hhheard:MtF K CH "heard" "House.heard" lh)
  (hhchl:MtF K CH "chair_letter" "House.chair_letter" iA)
  (hhpart:MtF K CH "part" "House.part" oV)
  (hhknown:MtF K CH "chair_known" "House.chair_known" li)
  (hhtable:MtF K CH "table" "House.table" lj)
  (uCH:ClF K CH) (nCH_name:findIn K (.ref CH) "name"=some none) (nCH_wait:findIn K (.ref CH) "wait"=some none) (nCH_size:findIn K (.ref CH) "size"=some none) (nCH_mind:findIn K (.ref CH) "mind"=some none)
  {tabc:Tok} (gabc:nsIn K mainGlobals "SMALL_LETTERS"=some (some (.str ABC tabc))) {tsev:Tok} (gsev:nsIn K mainGlobals "MOST_SPEAKING"=some (some (.int 7 tsev))) {tfou:Tok} (gfou:nsIn K mainGlobals "MOST_LEARNERS"=some (some (.int 4 tfou))) (zenumerate:nsIn K mainGlobals "enumerate"=some none) (zlen:nsIn K mainGlobals "len"=some none) (zrange:nsIn K mainGlobals "range"=some none) (zmin:nsIn K mainGlobals "min"=some none) (zmax:nsIn K mainGlobals "max"=some none) (zlist:nsIn K mainGlobals "list"=some none) (ztuple:nsIn K mainGlobals "tuple"=some none) (zsorted:nsIn K mainGlobals "sorted"=some none) (zisinstance:nsIn K mainGlobals "isinstance"=some none) (zstr:nsIn K mainGlobals "str"=some none) (zall:nsIn K mainGlobals "all"=some none) (zany:nsIn K mainGlobals "any"=some none) (zzip:nsIn K mainGlobals "zip"=some none) (zset:nsIn K mainGlobals "set"=some none) (zint:nsIn K mainGlobals "int"=some none) (zabs:nsIn K mainGlobals "abs"=some none) (zdict:nsIn K mainGlobals "dict"=some none) (zbool:nsIn K mainGlobals "bool"=some none) {CL:Addr} (aCL:nsIn K mainGlobals "NoLetter"=some (some (.ref CL))) (xCL:excIn K CL bmV "ValueError.__new__"=true) {hP:Addr} (aHP:nsIn K mainGlobals "HEAD"=some (some (.ref hP))) {kHP0 kHP1 kHP2:Tok} {odHP:Option Addr} {slHP:Array (Option Value)} {nHP:Nat} (lHP:K.lookup hP=some ⟨.type "tuple",odHP,.seq #[.str "name" kHP0,.str "name" kHP1,.str "whole" kHP2] nHP,slHP⟩) {dP:Addr} (aDP:nsIn K mainGlobals "PARTS"=some (some (.ref dP))) {t0 t1 t2 t3 t4 t5 t6 t7:Addr} {kk0 kk1 kk2 kk3 kk4 kk5 kk6 kk7:Tok} {epP:Nat} (lDP:K.lookup dP=some { cls:=.type "dict",dict:=none,data:=.dict #[{ hash:=PyData.keyHash w.params "look",key:=.str "look" kk0,val:=.ref t0 },{ hash:=PyData.keyHash w.params "saw",key:=.str "saw" kk1,val:=.ref t1 },{ hash:=PyData.keyHash w.params "vote",key:=.str "vote" kk2,val:=.ref t2 },{ hash:=PyData.keyHash w.params "gave",key:=.str "gave" kk3,val:=.ref t3 },{ hash:=PyData.keyHash w.params "rows",key:=.str "rows" kk4,val:=.ref t4 },{ hash:=PyData.keyHash w.params "took",key:=.str "took" kk5,val:=.ref t5 },{ hash:=PyData.keyHash w.params "piece",key:=.str "piece" kk6,val:=.ref t6 },{ hash:=PyData.keyHash w.params "got",key:=.str "got" kk7,val:=.ref t7 }] epP,slots:=#[] }) (sDP:(dP == sysModules)=false) {kt00 kt01:Tok} {odt0:Option Addr} {slt0:Array (Option Value)} {nt0:Nat} (lt0:K.lookup t0=some ⟨.type "tuple",odt0,.seq #[.str "whole" kt00,.str "whole" kt01] nt0,slt0⟩) {kt10 kt11:Tok} {odt1:Option Addr} {slt1:Array (Option Value)} {nt1:Nat} (lt1:K.lookup t1=some ⟨.type "tuple",odt1,.seq #[.str "truth" kt10,.str "whole" kt11] nt1,slt1⟩) {kt20 kt21:Tok} {odt2:Option Addr} {slt2:Array (Option Value)} {nt2:Nat} (lt2:K.lookup t2=some ⟨.type "tuple",odt2,.seq #[.str "whole" kt20,.str "whole" kt21] nt2,slt2⟩) {kt30:Tok} {odt3:Option Addr} {slt3:Array (Option Value)} {nt3:Nat} (lt3:K.lookup t3=some ⟨.type "tuple",odt3,.seq #[.str "truth" kt30] nt3,slt3⟩) {kt40 kt41 kt42 kt43 kt44:Tok} {odt4:Option Addr} {slt4:Array (Option Value)} {nt4:Nat} (lt4:K.lookup t4=some ⟨.type "tuple",odt4,.seq #[.str "whole" kt40,.str "whole" kt41,.str "entries" kt42,.str "whole" kt43,.str "whole" kt44] nt4,slt4⟩) {kt50 kt51 kt52:Tok} {odt5:Option Addr} {slt5:Array (Option Value)} {nt5:Nat} (lt5:K.lookup t5=some ⟨.type "tuple",odt5,.seq #[.str "truth" kt50,.str "whole" kt51,.str "whole" kt52] nt5,slt5⟩) {kt60 kt61 kt62 kt63 kt64 kt65:Tok} {odt6:Option Addr} {slt6:Array (Option Value)} {nt6:Nat} (lt6:K.lookup t6=some ⟨.type "tuple",odt6,.seq #[.str "whole" kt60,.str "whole" kt61,.str "whole" kt62,.str "whole" kt63,.str "text" kt64,.str "whole" kt65] nt6,slt6⟩) {kt70 kt71 kt72:Tok} {odt7:Option Addr} {slt7:Array (Option Value)} {nt7:Nat} (lt7:K.lookup t7=some ⟨.type "tuple",odt7,.seq #[.str "whole" kt70,.str "whole" kt71,.str "whole" kt72] nt7,slt7⟩) :
  ∃ fd:FuncData,(∀ (s:Shared) (v:Value),BindsTo s fd ⟨[v],[]⟩ [("_law_script",v)]) /\ ∀ base:Heap,K.In base -> base.Ns mainGlobals mg -> aP l.prog w K mg base CX0 12 fa fd ["_law_script"] (qp K):=by
 have e:=hfa.symm.trans (mg_of X G alaw)
 cases e
 have nenumerate:=mg_none_of X G zenumerate
 have nlen:=mg_none_of X G zlen
 have nrange:=mg_none_of X G zrange
 have nmin:=mg_none_of X G zmin
 have nmax:=mg_none_of X G zmax
 have nlist:=mg_none_of X G zlist
 have ntuple:=mg_none_of X G ztuple
 have nsorted:=mg_none_of X G zsorted
 have nisinstance:=mg_none_of X G zisinstance
 have nstr:=mg_none_of X G zstr
 have nall:=mg_none_of X G zall
 have nany:=mg_none_of X G zany
 have nzip:=mg_none_of X G zzip
 have nset:=mg_none_of X G zset
 have nint:=mg_none_of X G zint
 have nabs:=mg_none_of X G zabs
 have ndict:=mg_none_of X G zdict
 have nbool:=mg_none_of X G zbool
 have mabc:=mg_of X G gabc
 have msev:=mg_of X G gsev
 have mfou:=mg_of X G gfou
 have B:Blt mg:={ len:=nlen,list:=nlist,tuple:=ntuple,sorted:=nsorted }
 have T:Bl2 mg:={ isi:=nisinstance,str:=nstr,all:=nall,any:=nany,zip:=nzip,set:=nset,abc:=⟨_,mabc⟩,sev:=⟨_,msev⟩,fou:=⟨_,mfou⟩ }
 have U:Bl3 mg:={ int:=nint,bool:=nbool,abs:=nabs }
 have M:Blm mg:={ len:=nlen,range:=nrange,int:=nint }
 have TB:K41T.Blt mg:=⟨ntuple,ndict,nsorted⟩
 have BJ:Blj mg:={ range:=nrange,max:=nmax,list:=nlist,tuple:=ntuple }
 have TR:ClR K mg CR:=⟨⟨uCR.pg,uCR.hd,uCR.po,uCR.sa⟩,nCR_stand,nCR_entries,mg_of X G aCR⟩
 have TT:K41T.Cl K mg CT:=⟨⟨uCT.pg,uCT.hd,uCT.po,uCT.sa⟩,nCT_held,nCT_lasts,mg_of X G aCT⟩
 have TW:ClW K mg CW:=⟨⟨uCW.pg,uCW.hd,uCW.po,uCW.sa⟩,nCW_term,nCW_vote,nCW_settled_place,nCW_kept_row,mg_of X G aCW⟩
 have TM:ClM K mg CM:=⟨⟨uCM.pg,uCM.hd,uCM.po,uCM.sa⟩,nCM_name,nCM_wait,nCM_size,nCM_kept,nCM_records,nCM_board,nCM_role,nCM_known,nCM_quiet,nCM_yes,nCM_sheets,nCM_seat,nCM_given,nCM_found,nCM_shown,mg_of X G aCM⟩
 have TH:ClH K mg CH:=⟨⟨uCH.pg,uCH.hd,uCH.po,uCH.sa⟩,nCH_name,nCH_wait,nCH_size,nCH_mind,mg_of X G aCH⟩
 have XL:ExcC K mg "NoLetter" CL:=⟨mg_of X G aCL,xCL⟩
 have GP:uF w K mg:=by
  refine ⟨⟨hP,mg_of X G aHP,⟨_,_,_,lHP,rfl,rfl,(by show 3 <= sizeLine; rw [sizeLine_eq]; decide),.cons ⟨_,rfl⟩ (.cons ⟨_,rfl⟩ (.cons ⟨_,rfl⟩ (.nil)))⟩⟩,dP,([("look",t0),("saw",t1),("vote",t2),("gave",t3),("rows",t4),("took",t5),("piece",t6),("got",t7)]:List (Str × Addr)),mg_of X G aDP,⟨⟨_,epP,lDP,.cons (.cons (.cons (.cons (.cons (.cons (.cons (.cons (.nil))))))))⟩,sDP,(by show (["look","saw","vote","gave","rows","took","piece","got"]:List Str).Nodup; decide +kernel)⟩,fun kd ss hm=>?_⟩
  simp only [table,List.mem_cons,List.not_mem_nil,or_false,Prod.mk.injEq] at hm
  rcases hm with ⟨rfl,rfl⟩ | ⟨rfl,rfl⟩ | ⟨rfl,rfl⟩ | ⟨rfl,rfl⟩ | ⟨rfl,rfl⟩ | ⟨rfl,rfl⟩ | ⟨rfl,rfl⟩ | ⟨rfl,rfl⟩
  ·exact ⟨t0,by rw [aI,if_pos rfl],⟨_,_,_,lt0,rfl,rfl,(by show 2 <= sizeLine; rw [sizeLine_eq]; decide),.cons ⟨_,rfl⟩ (.cons ⟨_,rfl⟩ (.nil))⟩⟩
  ·exact ⟨t1,by rw [aI,if_neg (by decide +kernel),aI,if_pos rfl],⟨_,_,_,lt1,rfl,rfl,(by show 2 <= sizeLine; rw [sizeLine_eq]; decide),.cons ⟨_,rfl⟩ (.cons ⟨_,rfl⟩ (.nil))⟩⟩
  ·exact ⟨t2,by rw [aI,if_neg (by decide +kernel),aI,if_neg (by decide +kernel),aI,if_pos rfl],⟨_,_,_,lt2,rfl,rfl,(by show 2 <= sizeLine; rw [sizeLine_eq]; decide),.cons ⟨_,rfl⟩ (.cons ⟨_,rfl⟩ (.nil))⟩⟩
  ·exact ⟨t3,by rw [aI,if_neg (by decide +kernel),aI,if_neg (by decide +kernel),aI,if_neg (by decide +kernel),aI,if_pos rfl],⟨_,_,_,lt3,rfl,rfl,(by show 1 <= sizeLine; rw [sizeLine_eq]; decide),.cons ⟨_,rfl⟩ (.nil)⟩⟩
  ·exact ⟨t4,by rw [aI,if_neg (by decide +kernel),aI,if_neg (by decide +kernel),aI,if_neg (by decide +kernel),aI,if_neg (by decide +kernel),aI,if_pos rfl],⟨_,_,_,lt4,rfl,rfl,(by show 5 <= sizeLine; rw [sizeLine_eq]; decide),.cons ⟨_,rfl⟩ (.cons ⟨_,rfl⟩ (.cons ⟨_,rfl⟩ (.cons ⟨_,rfl⟩ (.cons ⟨_,rfl⟩ (.nil)))))⟩⟩
  ·exact ⟨t5,by rw [aI,if_neg (by decide +kernel),aI,if_neg (by decide +kernel),aI,if_neg (by decide +kernel),aI,if_neg (by decide +kernel),aI,if_neg (by decide +kernel),aI,if_pos rfl],⟨_,_,_,lt5,rfl,rfl,(by show 3 <= sizeLine; rw [sizeLine_eq]; decide),.cons ⟨_,rfl⟩ (.cons ⟨_,rfl⟩ (.cons ⟨_,rfl⟩ (.nil)))⟩⟩
  ·exact ⟨t6,by rw [aI,if_neg (by decide +kernel),aI,if_neg (by decide +kernel),aI,if_neg (by decide +kernel),aI,if_neg (by decide +kernel),aI,if_neg (by decide +kernel),aI,if_neg (by decide +kernel),aI,if_pos rfl],⟨_,_,_,lt6,rfl,rfl,(by show 6 <= sizeLine; rw [sizeLine_eq]; decide),.cons ⟨_,rfl⟩ (.cons ⟨_,rfl⟩ (.cons ⟨_,rfl⟩ (.cons ⟨_,rfl⟩ (.cons ⟨_,rfl⟩ (.cons ⟨_,rfl⟩ (.nil))))))⟩⟩
  ·exact ⟨t7,by rw [aI,if_neg (by decide +kernel),aI,if_neg (by decide +kernel),aI,if_neg (by decide +kernel),aI,if_neg (by decide +kernel),aI,if_neg (by decide +kernel),aI,if_neg (by decide +kernel),aI,if_neg (by decide +kernel),aI,if_pos rfl],⟨_,_,_,lt7,rfl,rfl,(by show 3 <= sizeLine; rw [sizeLine_eq]; decide),.cons ⟨_,rfl⟩ (.cons ⟨_,rfl⟩ (.cons ⟨_,rfl⟩ (.nil)))⟩⟩
 obtain ⟨fchk,_,achk,Fchk⟩:=hchk
 have bchk:=Fchk.binds (ps:=["thing"]) fun _ _ _ _ _ _ us hl=>by obtain ⟨a0,rfl⟩:=len1 hl; rfl
 have Flaw:=og (st:=jC) llaw claw klaw
 obtain ⟨frinit,_,arinit,irinit,Frinit⟩:=hrinit
 have brinit:=Frinit.binds (ps:=["self","stand","entries"]) fun _ _ _ _ _ _ us hl=>by obtain ⟨a0,a1,a2,rfl⟩:=len3 hl; rfl
 obtain ⟨ftinit,_,atinit,itinit,Ftinit⟩:=htinit
 have btinit:=Ftinit.binds (ps:=["self","held","asked"]) fun _ _ _ _ _ _ us hl=>by obtain ⟨a0,a1,a2,rfl⟩:=len3 hl; rfl
 obtain ⟨ftdone,_,atdone,itdone,Ftdone⟩:=htdone
 have btdone:=Ftdone.binds (ps:=["self","work"]) fun _ _ _ _ _ _ us hl=>by obtain ⟨a0,a1,rfl⟩:=qS hl; rfl
 obtain ⟨ftholds,_,atholds,itholds,Ftholds⟩:=htholds
 have btholds:=Ftholds.binds (ps:=["self","key"]) fun _ _ _ _ _ _ us hl=>by obtain ⟨a0,a1,rfl⟩:=qS hl; rfl
 obtain ⟨ftlast,_,atlast,itlast,Ftlast⟩:=htlast
 have btlast:=Ftlast.binds (ps:=["self","asker"]) fun _ _ _ _ _ _ us hl=>by obtain ⟨a0,a1,rfl⟩:=qS hl; rfl
 obtain ⟨fwinit,_,awinit,iwinit,Fwinit⟩:=hwinit
 have bwinit:=Fwinit.binds (ps:=["self","parts"]) fun _ _ _ _ _ _ us hl=>by obtain ⟨a0,a1,rfl⟩:=qS hl; rfl
 obtain ⟨fminit,_,aminit,iminit,Fminit⟩:=hminit
 have bminit:=Fminit.binds (ps:=["self","name","wait","size","kept","records"]) fun _ _ _ _ _ _ us hl=>by obtain ⟨a0,a1,a2,a3,a4,a5,rfl⟩:=len6 hl; rfl
 obtain ⟨fhinit,_,ahinit,ihinit,Fhinit⟩:=hhinit
 have bhinit:=Fhinit.binds (ps:=["self","name","wait","size","bench"]) fun _ _ _ _ _ _ us hl=>by obtain ⟨a0,a1,a2,a3,a4,rfl⟩:=len5 hl; rfl
 refine ⟨fnOf "law" "law" (dg jC) (cS jC) (am jC) .none kVlaw dclaw pmlaw anlaw cdlaw ctlaw,fun s v=>.of_eq rfl,fun base _ _=>?_⟩
 have Awhole:aR l.prog w K mg base 1 "is_whole" ["thing"] iz:=hwhole.at X G fun _ _ F=>uB F T U
 have Afrom:aR l.prog w K mg base 2 "is_whole_from" ["thing","least"] jc:=hfrom.at X G fun _ _ F=>ok_from F Awhole
 have Apname:aR l.prog w K mg base 1 "is_name" ["thing"] rA:=hpname.at X G fun _ _ F=>uu F B T
 have Arise:aR l.prog w K mg base 2 "is_rising_names" ["thing"] oN:=hrise.at X G fun _ _ F=>ok_rise F B T Apname
 have Awnum:aR l.prog w K mg base 2 "is_work_number" ["thing"] oS:=hwnum.at X G fun _ _ F=>ok_wnum F U Awhole
 have Apwork:aR l.prog w K mg base 3 "is_work" ["thing"] ld:=hpwork.at X G fun _ _ F=>uC F B T Apname Awnum
 have Aask:aR l.prog w K mg base 4 "is_ask" ["asker","number","work"] uz:=hask.at X G fun _ _ F=>ok_ask F Apname Afrom Apwork
 have Ajoined:aR l.prog w K mg base 1 "is_joined" ["bench"] ja:=hjoined.at X G fun _ _ F=>rB F nlen
 have Aisb:aR l.prog w K mg base 3 "is_bench" ["thing"] ur:=hisb.at X G fun _ _ F=>ok_isB F B T Arise Ajoined
 have Apdeed:aR l.prog w K mg base 5 "is_deed" ["thing"] lf:=hpdeed.at X G fun _ _ F=>uD F B T Aask Aisb
 have Apentry:aR l.prog w K mg base 6 "is_entry" ["thing"] jd:=hpentry.at X G fun _ _ F=>rE F B T Afrom Apdeed
 have Apart:aR l.prog w K mg base 7 "is_part" ["sort","thing"] oT:=hpart.at X G fun _ _ F=>ok_part F B T U Apname Afrom Apentry
 have Alet:aR l.prog w K mg base 8 "is_letter" ["thing"] uG:=hlet.at X G fun _ _ F=>ok_let F B T GP Apart
 have Achk:pS l.prog w K mg base 9 "check_letter" ["thing"] (p6 CL):=⟨_,_,ok_chk Fchk XL Alet,mg_of X G achk,Fchk.kp,bchk⟩
 have Mrinit:fK l.prog w K mg base CR 1 ["self","stand","entries"] (kU K CR):=⟨_,_,ug Frinit TR ntuple,brinit,⟨uCR.ma,arinit,irinit,uCR.kc⟩⟩
 have Mupto:bu l.prog w K mg base CR 1 "up_to" ["self","place"] (fV K CR):=hupto.at fun _ _ F=>ok_upto F TR
 have Mwinit:fK l.prog w K mg base CW 3 ["self","parts"] (iy K CW CR):=⟨_,_,uh Fwinit TW TR Mrinit,bwinit,⟨uCW.ma,awinit,iwinit,uCW.kc⟩⟩
 have Mwtold:bu l.prog w K mg base CW 1 "told" ["self"] (kW K CW CR):=hwtold.at fun _ _ F=>ui F TW TR
 have Afs:aR l.prog w K mg base 1 "first_stand" ["bench"] spFS:=hfs.at X G fun _ _ F=>ok_fs F
 have Afw:aR l.prog w K mg base 5 "first_written" ["bench"] (spFW CW CR):=hfw.at X G fun _ _ F=>ok_fw F TW Afs Mwinit
 have Mtinit:fK l.prog w K mg base CT 1 ["self","held","asked"] (K41T.fj K CT):=⟨_,_,K41T.kN Ftinit TT TB,btinit,⟨uCT.ma,atinit,itinit,uCT.kc⟩⟩
 have Gh:aP l.prog w K mg base CX0 1 ftholds _ ["self","key"] (K41T.kL K CT):=K41T.uc Ftholds TT
 have Gl:aP l.prog w K mg base CX0 1 ftlast _ ["self","asker"] (K41T.oE K CT):=K41T.ok_last Ftlast TT
 have Gd:aP l.prog w K mg base CX0 2 ftdone _ ["self","work"] (K41T.oF K CT):=K41T.ok_done Ftdone TT Gh btholds ⟨atholds,itholds,Ftholds.kp⟩
 have Mtdoes:bu l.prog w K mg base CT 3 "does" ["self","asker","number","work"] (K41T.oG K CT):=htdoes.at fun _ _ F=>K41T.ok_does F TT Gl btlast ⟨atlast,itlast,Ftlast.kp⟩ Gd btdone ⟨atdone,itdone,Ftdone.kp⟩
 have Mttold:bu l.prog w K mg base CT 1 "told" ["self"] (K41T.kR K CT):=httold.at fun _ _ F=>K41T.ok_told F TT TB
 have Mttwin:bu l.prog w K mg base CT 3 "twin" ["self"] (lv K CT):=httwin.at fun _ _ F=>uN F TT Mttold Mtinit
 have Aad:aR l.prog w K mg base 4 "asks_done" ["table","entries"] (spAD K CT):=had.at X G fun _ _ F=>ok_ad F TT ntuple Mtdoes
 have Atf:aR l.prog w K mg base 5 "table_from" ["kept"] (spTF K CT CW CR):=htf.at X G fun _ _ F=>ok_tf F TW TR TT Mtinit Aad Mupto
 have Mminit:fK l.prog w K mg base CM 6 ["self","name","wait","size","kept","records"] (spMI K CM CT CW CR):=⟨_,_,ok_mi Fminit TM Atf,bminit,⟨uCM.ma,aminit,iminit,uCM.kc⟩⟩
 have Mmset:bu l.prog w K mg base CM 1 "settled" ["self"] (jl K ⟨CH,CM,CT,CW,CR⟩):=hmset.at fun _ _ F=>ok_mset F TM TW
 have Mhinit:fK l.prog w K mg base CH 8 ["self","name","wait","size","bench"] (spHI K CH):=⟨_,_,ok_hi Fhinit TH TM Mminit Afw,bhinit,⟨uCH.ma,ahinit,ihinit,uCH.kc⟩⟩
 have Mhup:bu l.prog w K mg base CH 8 "comes_up" ["self","written"] (spUp K ⟨CH,CM,CT,CW,CR⟩):=hhup.at fun _ _ F=>ok_up F TH TM TW Mminit Mwinit
 have Mhwrites:bu l.prog w K mg base CH 2 "writes" ["self"] (ji K ⟨CH,CM,CT,CW,CR⟩):=hhwrites.at fun _ _ F=>rF F TH TM TW Mwtold
 have Mhpart:bu l.prog w K mg base CH 1 "part" ["self"] (lu K ⟨CH,CM,CT,CW,CR⟩):=hhpart.at fun _ _ F=>uL F TH TM
 have Mhknown:bu l.prog w K mg base CH 1 "chair_known" ["self"] (jj K ⟨CH,CM,CT,CW,CR⟩):=hhknown.at fun _ _ F=>rG F TH TM
 have Mhtable:bu l.prog w K mg base CH 4 "table" ["self"] (jk K ⟨CH,CM,CT,CW,CR⟩):=hhtable.at fun _ _ F=>rH F TH TM TT Mttwin
 have Mwrise:bu l.prog w K mg base CW 1 "rise_to" ["self","term"] (lJ CW):=hwrise.at fun _ _ F=>vk F TW
 have Mwset:bu l.prog w K mg base CW 1 "settle_to" ["self","place"] (pi CW):=hwset.at fun _ _ F=>ok_wset F TW
 have Mwkeep:bu l.prog w K mg base CW 1 "keep_row" ["self","row"] (lK CW):=hwkeep.at fun _ _ F=>vm F TW
 have Mmrow:bu l.prog w K mg base CM 1 "row" ["self"] (lL K ⟨CH,CM,CT,CW,CR⟩):=hmrow.at fun _ _ F=>ok_mrow F TM TW
 have Mmchair:bu l.prog w K mg base CM 1 "is_chair" ["self"] (jw K ⟨CH,CM,CT,CW,CR⟩):=hmchair.at fun _ _ F=>rP F TM
 have Mmfollow:bu l.prog w K mg base CM 1 "follow" ["self","chair"] (fF K ⟨CH,CM,CT,CW,CR⟩):=hmfollow.at fun _ _ F=>pk F TM
 have Mmrise:bu l.prog w K mg base CM 2 "rise_to" ["self","term"] (lM K ⟨CH,CM,CT,CW,CR⟩):=hmrise.at fun _ _ F=>vo F TM TW Mwrise Mmfollow
 have Mmrec:bu l.prog w K mg base CM 1 "record" ["self","thing"] (pj K ⟨CH,CM,CT,CW,CR⟩):=hmrec.at fun _ _ F=>ok_mrec F TM
 have MrinitB:fK l.prog w K mg base CR 1 ["self","stand","entries"] (K41B.fj CR):=⟨_,_,K41B.kN Frinit TR ntuple,brinit,⟨uCR.ma,arinit,irinit,uCR.kc⟩⟩
 have MuptoB:bu l.prog w K mg base CR 1 "up_to" ["self","place"] (K41B.fV CR):=hupto.at fun _ _ F=>K41B.ok_upTo F TR
 have Mrlast:bu l.prog w K mg base CR 1 "last_place" ["self"] (K41B.lD CR):=hrlast.at fun _ _ F=>K41B.vc F TR nlen
 have Mrent:bu l.prog w K mg base CR 1 "entry_at" ["self","place"] (K41B.lE CR):=hrent.at fun _ _ F=>K41B.vd F TR
 have Mrterm:bu l.prog w K mg base CR 2 "term_at" ["self","place"] (K41B.js CR):=hrterm.at fun _ _ F=>K41B.rM F TR Mrlast Mrent
 have Mrfill:bu l.prog w K mg base CR 3 "filled" ["self","before","there","entries"] (K41B.ju CR):=hrfill.at fun _ _ F=>K41B.rO F TR nenumerate ntuple MrinitB Mrterm MuptoB
 have Mrbetw:bu l.prog w K mg base CR 1 "between" ["self","before","place"] (pp CR):=hrbetw.at fun _ _ F=>vq F TR
 have Mmsetto:bu l.prog w K mg base CM 5 "settle_to" ["self","place"] (jz K ⟨CH,CM,CT,CW,CR⟩):=hmsetto.at fun _ _ F=>rT F TM TW TR Mmrow Mmset Mrbetw Mwset Aad
 have Atookf:aR l.prog w K mg base 1 "took" ["mind","letter","yes","place"] (pw K ⟨CH,CM,CT,CW,CR⟩):=htookf.at X G fun _ _ F=>ok_took F TM TW
 have Afols:aR l.prog w K mg base 2 "follow_sender" ["mind","letter"] (gS K ⟨CH,CM,CT,CW,CR⟩):=hfols.at X G fun _ _ F=>px F TM Mmfollow
 have Arowsh:aR l.prog w K mg base 6 "rows_heard" ["mind","letter"] (lO K ⟨CH,CM,CT,CW,CR⟩):=hrowsh.at X G fun _ _ F=>vt F nlen nmin TM TW TR Mmchair Afols Mmrow Mrfill Atookf Mmset Mwkeep Mmrec Mmsetto
 have Alatef:aR l.prog w K mg base 2 "late" ["mind","letter"] (gT K ⟨CH,CM,CT,CW,CR⟩):=hlatef.at X G fun _ _ F=>ok_late F TM TW Mmset
 have ArowshL:aR l.prog w K mg base 3 "rows_heard" ["mind","letter"] (gT K ⟨CH,CM,CT,CW,CR⟩):=hrowsh.at X G fun _ _ F=>vz F TM TW Alatef
 have MhchlL:bu l.prog w K mg base CH 4 "chair_letter" ["self","letter"] (dR K ⟨CH,CM,CT,CW,CR⟩ fun _ _=>True):=hhchl.at fun _ _ F=>rY F TH ArowshL
 have MhheardL:bu l.prog w K mg base CH 5 "heard" ["self","letter"] (dR K ⟨CH,CM,CT,CW,CR⟩ fun _ _=>True):=hhheard.at fun _ _ F=>rZ F TH TM TW MhchlL
 have Mhchl:bu l.prog w K mg base CH 7 "chair_letter" ["self","letter"] (lQ K ⟨CH,CM,CT,CW,CR⟩):=hhchl.at fun _ _ F=>rW F TH Arowsh
 have Mhheard:bu l.prog w K mg base CH 8 "heard" ["self","letter"] (fG K ⟨CH,CM,CT,CW,CR⟩ fun _ _=>True):=hhheard.at fun _ _ F=>rX F TH TM TW Mmrise Mhchl
 have Mhhear:bu l.prog w K mg base CH 10 "hear" ["self","letter"] (vx (fG K ⟨CH,CM,CT,CW,CR⟩ fN) (dR K ⟨CH,CM,CT,CW,CR⟩ fN)):=hhhear.at fun _ _ F=>(vw F TH Achk Mhheard).or (vA F TH Achk MhheardL)
 have Acell:aR l.prog w K mg base 1 "_law_cell_at" ["_law_script","_law_k"] (gH K):=hcell.at X G fun _ _ F=>ok_cell F M
 have Arich:aR l.prog w K mg base 1 "_law_rich" ["_law_cell"] oX:=hrich.at X G fun _ _ F=>ok_rich F nrange
 have Adig:aR l.prog w K mg base 2 "_law_digits" ["_law_cell","_law_sizes"] jm:=hdig.at X G fun _ _ F=>ok_dig F Arich
 have Adeedl:aR l.prog w K mg base 1 "_law_deed" ["_law_d"] jn:=hdeedl.at X G fun _ _ F=>ok_deed F nint
 have Aents:aR l.prog w K mg base 3 "_law_entries" ["_law_script","_law_start","_law_many","_law_last","_law_term"] (lx K):=hents.at X G fun _ _ F=>ok_ents F nint nrange Acell Adig Adeedl
 have Adoesl:aR l.prog w K mg base 1 "_law_does" ["_law_held","_law_asked","_law_deed_here"] (lz K):=hdoesl.at X G fun _ _ F=>uX F
 have Atabl:aR l.prog w K mg base 1 "_law_table" ["_law_held","_law_asked"] (jo K):=htabl.at X G fun _ _ F=>rK F TB
 have Adonel:aR l.prog w K mg base 2 "_law_done" ["_law_stand","_law_entries_here","_law_settled"] (iD K):=hdonel.at X G fun _ _ F=>uY F TB Adoesl Atabl
 have Abenchl:aR l.prog w K mg base 1 "_law_bench" ["_law_voters","_law_learners"] jq:=hbenchl.at X G fun _ _ F=>rL F
 have Awr:aR l.prog w K mg base 4 "_law_written" ["_law_script"] (spWr K):=hwr.at X G fun _ _ F=>ok_wr F nint nrange nmax ntuple Acell Adig Adeedl Abenchl Adonel Aents
 have Acrl:aR l.prog w K mg base 4 "_law_chair_row" ["_law_script","_law_written_here","_law_start"] (spCR K):=hcrl.at X G fun _ _ F=>ok_cr F nlen nlist nmax nrange Acell Adig Adeedl Aents
 have Atal:aR l.prog w K mg base 1 "_law_term_at" ["_law_stand","_law_entries_here","_law_place"] (r0 asL):=htal.at X G fun _ _ F=>ok_taL F nlen
 have AtalT:aR l.prog w K mg base 1 "_law_term_at" ["_law_stand","_law_entries_here","_law_place"] (r0 asT):=htal.at X G fun _ _ F=>ok_taT F nlen
 have Arwl:aR l.prog w K mg base 3 "_law_rows" ["_law_cell","_law_stand","_law_chair","_law_name"] (spRw K):=hrwl.at X G fun _ _ F=>ok_rw F nlen nmax nrange nint ntuple Adig Atal
 have Ahdl:aR l.prog w K mg base 2 "_law_heard" ["_law_state","_law_letter"] (vx (spHd K) (vJ K)):=hhdl.at X G fun _ _ F=>(ok_hd F nlen nlist nmax nmin nenumerate ntuple AtalT).or (ok_hdL F)
 have Agol:aR l.prog w K mg base 11 "_law_goes" ["_law_house","_law_state","_law_letter","_law_known"] (spGo K ⟨CH,CM,CT,CW,CR⟩):=hgol.at X G fun _ _ F=>ok_go F TH Ahdl Mhhear Mhwrites Mhknown
 exact ok_law Flaw BJ TH TT Acell Awr Acrl Arwl Adig Agol Adonel Mhinit Mhup Mhpart Mhtable Mttold
theorem walk {l:PySem.W.OpenLaw} {q:Program} {loose:List Str} {XP:(Str -> Option Value) -> Heap -> Prop} {YP:World -> Heap -> Prop} {d:DefRec} {K:Params -> PySem.W.Frag} (hn:l.most=some 63) (hdf:d.params.defaults=[])
  (hY:∀ (w:World) (h:Heap),YP w h -> (K w.params).In h)
  (F:∀ (w:World) (mg:Str -> Option Value) (fa:Addr) (h:Heap),(K w.params).In h -> h.Ns mainGlobals mg -> mg d.name=some (.ref fa) ->
   ∃ fd:FuncData,(∀ (s:Shared) (u:Value),BindsTo s fd ⟨[u],[]⟩ [("_law_script",u)]) /\ ∀ base:Heap,(K w.params).In base -> base.Ns mainGlobals mg -> aP l.prog w (K w.params) mg base CX0 12 fa fd ["_law_script"] (qp (K w.params))) :
  PySem.W.WalkO q loose XP YP l.row.toRowW d [] (fun f vs=>PySem.call f vs) :=
 L2.walk_of (n:=63) (k:=12) (x:="_law_script") (CX:=fun _=>CX0) (sp:=fun w=>qp (K w.params)) hn (by decide) hdf ⟨rfl,by decide,by decide⟩ hY F (fun _ _ a ns hl _ hS=>⟨a,ns,rfl,hS,hl,fun _=>rfl⟩) fun _ _ _ _ _ z=>z
end K41
local macro_rules
 | `(command| #check_failure $x:num) => do
  let p := (`PySem.Challenge).str "cw_chainhouse_k41_whole_two_chairs_holds"
  let mut c : Array (Lean.TSyntax `command) := #[]
  for n in [x.getNat:x.getNat+250] do
   for k in (if n < 1690 then ["o"] else ["o", "tree", "sts", "heap"]) do c := c.push (← `(command| def $(Lean.mkIdent ((`PySem.W.Fast).str s!"tw{(p.str s!"{k}_{n}").hash}")) : Nat := 0))
  return Lean.mkNullNode c
#check_failure 0
#check_failure 250
#check_failure 500
#check_failure 750
#check_failure 1000
#check_failure 1250
#check_failure 1500
def PySem.W.Fast.tw16066117684401631993 : Nat := 0
def PySem.W.Fast.tw9960412563626469911 : Nat := 0
def PySem.W.Fast.tw5105948221751215327 : Nat := 0
def PySem.W.Fast.tw8121829030134756629 : Nat := 0
def PySem.W.Fast.tw6436172976784240362 : Nat := 0
def PySem.W.Fast.tw2406807586215491833 : Nat := 0
def PySem.W.Fast.tw1587136013949689853 : Nat := 0
def PySem.W.Fast.tw418345090017386837 : Nat := 0
def PySem.W.Fast.tw3281774065679887892 : Nat := 0
def PySem.W.Fast.tw8988177201262578608 : Nat := 0
def PySem.W.Fast.tw17213214966258558063 : Nat := 0
def PySem.W.Fast.tw4487517182006857241 : Nat := 0
def PySem.W.Fast.tw14239632516825371079 : Nat := 0
def PySem.W.Fast.tw6948838512385938320 : Nat := 0
def PySem.W.Fast.tw15401802812543285587 : Nat := 0
def PySem.W.Fast.tw7740875269889514062 : Nat := 0
def PySem.W.Fast.tw13458676769237892956 : Nat := 0
def PySem.W.Fast.tw10434557632545536271 : Nat := 0
def PySem.W.Fast.tw17635858965336205269 : Nat := 0
def PySem.W.Fast.tw17910034134026882518 : Nat := 0
def PySem.W.Fast.tw12116804440685990282 : Nat := 0
def PySem.W.Fast.tw526166632711334898 : Nat := 0
def PySem.W.Fast.tw4269949724260083572 : Nat := 0
def PySem.W.Fast.tw6591552410239844574 : Nat := 0
def PySem.W.Fast.tw15666497955452883450 : Nat := 0
def PySem.W.Fast.tw8289017947324963766 : Nat := 0
def PySem.W.Fast.tw9070473645005965243 : Nat := 0
def PySem.W.Fast.tw10228876580765120281 : Nat := 0
def PySem.W.Fast.tw8344823766088791645 : Nat := 0
def PySem.W.Fast.tw1463025040113141656 : Nat := 0
def PySem.W.Fast.tw14093836999531661727 : Nat := 0
def PySem.W.Fast.tw14483161339312964433 : Nat := 0
def PySem.W.Fast.tw11223915574011226910 : Nat := 0
def PySem.W.Fast.tw12504730828761840978 : Nat := 0
def PySem.W.Fast.tw10028177718333765619 : Nat := 0
def PySem.W.Fast.tw14387439659808744669 : Nat := 0
def PySem.W.Fast.tw8932436785183776903 : Nat := 0
def PySem.W.Fast.tw12293825993243049565 : Nat := 0
def PySem.W.Fast.tw11602455370639265466 : Nat := 0
def PySem.W.Fast.tw13802688560208007239 : Nat := 0
def PySem.W.Fast.tw2094523418192342133 : Nat := 0
def PySem.W.Fast.tw15526888234591427547 : Nat := 0
def PySem.W.Fast.tw13321322660923575280 : Nat := 0
def PySem.W.Fast.tw8260932056393521528 : Nat := 0
def PySem.W.Fast.tw1841453184947509570 : Nat := 0
def PySem.W.Fast.tw18311999396403959949 : Nat := 0
def PySem.W.Fast.tw15924090192479176710 : Nat := 0
def PySem.W.Fast.tw16036448431304965081 : Nat := 0
def PySem.W.Fast.tw3820328035758788420 : Nat := 0
def PySem.W.Fast.tw11292399358799787211 : Nat := 0
def PySem.W.Fast.tw3160663007754339479 : Nat := 0
def PySem.W.Fast.tw354449380676811192 : Nat := 0
def PySem.W.Fast.tw17173829919475729046 : Nat := 0
def PySem.W.Fast.tw17250209186971214564 : Nat := 0
def PySem.W.Fast.tw11411909078835994174 : Nat := 0
def PySem.W.Fast.tw18070637940150926738 : Nat := 0
def L2.selMask : Nat := 2612960490586942159488633945687700868379786647173738686053910193204018399742028940711556244104588271120662359878726152620323680570033928579242048972203781613179393575336983240612717734312831383512509344386015847885144734122722352263405222368215428097742345994478027741922139366804129671484206845686806955085356942604301850506300020246178845992398266440584736703496455221477031109540914826915420380435226690375330562061
local macro_rules
 | `(tactic| o_head ($f:term $a:term $b:term $c:term)) => `(tactic| o_head (L2.sr L2.selMask $a $b $c))
open PySem PySem.W PyProof.Rows
set_option maxRecDepth 100000 in
set_option maxHeartbeats 0 in
theorem PySem.Challenge.cw_chainhouse_k41_whole_two_chairs_holds : PySem.Challenge.rw_chainhouse_k41_whole_two_chairs.Holds := by
 w_on; o_law; k_head; (case hw => w_witness2)
 k_fill
 refine K41.walk (l := PySem.Challenge.rw_chainhouse_k41_whole_two_chairs) rfl rfl (fun w h Y => PySem.W.kIn_of Y) ?F
 case F =>
  intro w mg fa h KX G hmg
  refine' K41.all_mk KX G hmg ?_ ?_ ?_ ?_ ?_ ?_ ?_ ?_ ?_ ?_ ?_ ?_ ?_ ?_ ?_ ?_ ?_ ?_ ?_ ?_ ?_ ?_ ?_ ?_ ?_ ?_ ?_ ?_ ?_ ?_ ?_ ?_ ?_ ?_ ?_ ?_ ?_ ?_ ?_ ?_ ?_ ?_ ?_ ?_ ?_ ?_ ?_ ?_ ?_ ?_ ?_ ?_ ?_ ?_ ?_ ?_ ?_ ?_ ?_ ?_ ?_ ?_ ?_ ?_ ?_ ?_ ?_ ?_ ?_ ?_ ?_ ?_ ?_ ?_ ?_ ?_ ?_ ?_ ?_ ?_ ?_ ?_ ?_ ?_ ?_ ?_ ?_ ?_ ?_ ?_ ?_ ?_ ?_ ?_ ?_ ?_ ?_ ?_ ?_ ?_ ?_ ?_ ?_ ?_ ?_ ?_ ?_ ?_ ?_ ?_ ?_ ?_ ?_ ?_ ?_ ?_ ?_ ?_ ?_ ?_ ?_ ?_ ?_ ?_ ?_ ?_ ?_ ?_ ?_ ?_ ?_ ?_ ?_ ?_ ?_ ?_ ?_ ?_ ?_ ?_ ?_ ?_ ?_ ?_ ?_ ?_ ?_ ?_ ?_ ?_
  all_goals first
   | (refine' L2.FnF.of ?a ?l ?c ?k; (case a => exact L2.vs_ns (by k_is) (by kernel_rfl)); (case l => exact L2.lW (by k_is) (by kernel_rfl)); (case c => exact L2.lV (by k_is) (by kernel_rfl)); (case k => exact L2.iG (by k_is) (by kernel_rfl)))
   | (refine' L2.MtF.of ?a ?i ?l ?c ?k; (case a => exact L2.lU (by k_is) (by kernel_rfl)); (case i => exact L2.vs_isFn (by k_is) (by kernel_rfl)); (case l => exact L2.lW (by k_is) (by kernel_rfl)); (case c => exact L2.lV (by k_is) (by kernel_rfl)); (case k => exact L2.iG (by k_is) (by kernel_rfl)))
   | exact ⟨L2.vs_pget (by k_is) (by kernel_rfl), L2.vM (by k_is) (by kernel_rfl), L2.vN (by k_is) (by kernel_rfl), L2.lU (by k_is) (by kernel_rfl), L2.vO (by k_is) (by kernel_rfl), L2.iG (by k_is) (by kernel_rfl)⟩
   | exact L2.vs_ns (by k_is) (by kernel_rfl)
   | exact L2.lU (by k_is) (by kernel_rfl)
   | exact L2.lW (by k_is) (by kernel_rfl)
   | exact L2.vs_exc (by unfold L2.bmV; k_exc) (by kernel_rfl)
   | exact L2.lV (by k_is) (by kernel_rfl)
   | exact L2.iG (by k_is) (by kernel_rfl)
   | rfl
   | skip
