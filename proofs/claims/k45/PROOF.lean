import PyProof.Rows.All
import Wide.All
import KE.KDictList
import KE.KDictOf
import KE.KDictSum
import KE.KIsAll
import KE.KItem
import KE.KRevIter
import Open.Row
import Open.Boot
import Open.Fast
import Open.FastLooks
import Open.FastRun
import Open.FastT9
import Open.FastTabs
import Open.Head
import Open.Line
import Open.Pieces
import Open.Recs
import Open.Seg
import Open.Strs
import Open.Tree
import OpenK.KCall
import OpenK.KCls
import OpenK.KDescr
import OpenK.KGet
import OpenK.KLine
import OpenK.KMake
import OpenK.KMore
import OpenK.KOwn
import OpenK.KRaise
import OpenK.KWalk
import OpenK.Peek
import Wide.FinOn
import Lean
import PyProof.EqAt
import PyProof.EqKinds
import PyProof.TupleCall
import PyProof.Rows.Range3
import PyProof.WalksEnum
import PyProof.EnumMake
import PyProof.Rows.EnumRows
import PyProof.Rows.SetFrom
import PyProof.CollectStr
import PyProof.ZipIter
import PyProof.ExcAttrAll.ValueError
import PyProof.P3Eq
import PyProof.NeKinds
import PyProof.Draws
import PyProof.LongRange
import PyProof.Rows.FStr
import PyProof.StrCalls2
import PyProof.StrLawsTight
import PyProof.Rows.StrItems
import PyProof.Rows.ReprOcc
import PyProof.Rows.DictTally
import PyProof.DictWalks
import PyProof.AutoSeq1
import PySem.Challenge.RW_chainhouse_k45_turns_till_it_looks
set_option Elab.async false
set_option linter.all false
set_option maxRecDepth 100000
set_option maxHeartbeats 8000000
noncomputable section
open PySem.W (Frag)
open List (length_map getElem?_eq_getElem length_take size_toArray getElem?_map length_append length_drop not_mem_nil take_of_length_le getD_eq_getElem?_getD length_cons mem_of_getElem? mem_append)
open PySem.Heap (get?_push_of_some get?_push_size lt_size)
namespace L2
open PySem PySem.Spec PyProof.Rows
abbrev Key:=Sum Int Str
noncomputable def im:Key->Value->Bool
 | .inl k,v=>Value.isInt k v
 | .inr x,v=>Value.isStrOf x v
noncomputable def keyH(w:World):Key->Int
 | .inl k=>hashInt k
 | .inr x=>hashStr w x
theorem bF:∀{k:Key}{v:Value},im k v=true->(∃i t,k=Sum.inl i/\v=Value.int i t)\/(∃x t,k=Sum.inr x/\v=Value.str x t)
 | .inl i,v,h=>by
  obtain⟨t,e⟩:=Value.isInt_shape (k:=i) (v:=v) h;exact .inl ⟨i,t,rfl,e⟩
 | .inr x,v,h=>by
  obtain⟨t,e⟩:=Value.isStrOf_shape (x:=x) (v:=v) h;exact .inr ⟨x,t,rfl,e⟩
theorem rA(i:Int)(t:Tok):im (.inl i) (.int i t)=true:=by simp[im,Value.isInt]
theorem rB(x:Str)(t:Tok):im (.inr x) (.str x t)=true:=by simp[im,Value.isStrOf]
theorem key_ll(a b:Int):decide ((Sum.inl a:Key)=Sum.inl b)=(a == b):=by
 by_cases e:a=b
 ·subst e;simp
 ·have h:¬(Sum.inl a:Key)=Sum.inl b:=fun q=>e (Sum.inl.inj q);rw[decide_eq_false h];exact(beq_eq_false_iff_ne.mpr e).symm
theorem key_rr(a b:Str):decide ((Sum.inr a:Key)=Sum.inr b)=decide (a=b):=by
 by_cases e:a=b
 ·subst e;simp
 ·have h:¬(Sum.inr a:Key)=Sum.inr b:=fun q=>e (Sum.inr.inj q);rw[decide_eq_false h,decide_eq_false e]
theorem key_lr(a:Int)(b:Str):decide ((Sum.inl a:Key)=Sum.inr b)=false:=decide_eq_false (fun q=>nomatch q)
theorem key_rl(a:Str)(b:Int):decide ((Sum.inr a:Key)=Sum.inl b)=false:=decide_eq_false (fun q=>nomatch q)
noncomputable def aV(prog:Program)(w:World):PySem.KeyKind prog w Key where
 is:=im
 hash:=keyH w
 inj:=fun v a b ha hb=>by
  rcases bF ha with ⟨i,t,rfl,rfl⟩ | ⟨x,t,rfl,rfl⟩
  ·rcases bF hb with ⟨j,u,rfl,e⟩ | ⟨y,u,rfl,e⟩
   ·injection e with e1 _;rw[e1]
   ·exact nomatch e
  ·rcases bF hb with ⟨j,u,rfl,e⟩ | ⟨y,u,rfl,e⟩
   ·exact nomatch e
   ·injection e with e1 _;rw[e1]
 byValue:=fun k v h=>by
  rcases bF h with ⟨i,t,rfl,rfl⟩ | ⟨x,t,rfl,rfl⟩ <;> rfl
 pyHash:=fun hv h=>by
  rcases bF hv with ⟨i,t,rfl,rfl⟩ | ⟨x,t,rfl,rfl⟩
  ·exact wpAny_pyHash_int h
  ·exact wpAny_pyHash_str h
 eqBool:=fun hu hv h=>by
  rcases bF hu with ⟨i,t,rfl,rfl⟩ | ⟨x,t,rfl,rfl⟩
  ·rcases bF hv with ⟨j,u,rfl,rfl⟩ | ⟨y,u,rfl,rfl⟩
   ·rw[key_ll]at h;exact wpAny_eqBool_int h
   ·rw[key_lr]at h;exact SeqAt.EqAt.int_str i t y u _ _ _ _ h
  ·rcases bF hv with ⟨j,u,rfl,rfl⟩ | ⟨y,u,rfl,rfl⟩
   ·rw[key_rl]at h;exact SeqAt.EqAt.str_int x t j u _ _ _ _ h
   ·rw[key_rr]at h;exact wpAny_eqBool_str h
 «strs»:=fun k x t v h=>by
  rcases bF h with ⟨i,u,rfl,e⟩ | ⟨y,u,rfl,e⟩
  ·exact nomatch e
  ·injection e with e1 _;subst e1;cases v <;> rfl
theorem mT(prog:Program)(w:World)(i:Int)(t:Tok):(aV prog w).is (.inl i) (.int i t)=true:=rA i t
theorem mU(prog:Program)(w:World)(x:Str)(t:Tok):(aV prog w).is (.inr x) (.str x t)=true:=rB x t
inductive V where
 | non | bl (b:Bool) | int (i:Int) | str (x:Str) | byt (b:Array UInt8) | flt (b:UInt64) | ref (a:Addr) | ty (n:String)
 deriving DecidableEq
noncomputable def aT:V->Value->Prop
 | .non,u=>u=Value.none
 | .bl b,u=>u=Value.bool b
 | .int i,u=>∃t,u=Value.int i t
 | .str x,u=>∃t,u=Value.str x t
 | .byt b,u=>∃t,u=Value.bytes b t
 | .flt b,u=>∃t,u=Value.float b t
 | .ref a,u=>u=Value.ref a
 | .ty n,u=>u=Value.type n
abbrev aY:List V->List Value->Prop:=Paired aT
theorem aY.length{xs:List V}{us:List Value}(r:aY xs us):xs.length=us.length:=Paired.length r
theorem aY.get:∀{xs:List V}{us:List Value}{i:Nat}{x:V},aY xs us->xs[i]?=some x->∃u,us[i]?=some u/\aT x u
 | _,_,_,_,.nil,e=>by simp at e
 | _,_,0,_,.cons r _,e=>by simp at e;subst e;exact⟨_,rfl,r⟩
 | _,_,i + 1,x,.cons _ t,e=>by
  obtain⟨u,h1,h2⟩:=aY.get (i:=i) (x:=x) t (by simpa using e)
  exact⟨u,by simpa using h1,h2⟩
theorem aY.set{x:V}{u:Value}(r:aT x u):∀{xs:List V}{us:List Value}(i:Nat),aY xs us->aY (xs.set i x) (us.set i u)
 | _,_,_,.nil=>.nil
 | _,_,0,.cons _ t=>.cons r t
 | _,_,i + 1,.cons q t=>.cons q (aY.set r i t)
theorem aY.append:∀{xs ys:List V}{us ws:List Value},aY xs us->aY ys ws->aY (xs ++ ys) (us ++ ws)
 | _,_,_,_,.nil,s=>s
 | _,_,_,_,.cons r t,s=>.cons r (aY.append t s)
theorem aY.take:∀{xs:List V}{us:List Value}(n:Nat),aY xs us->aY (xs.take n) (us.take n)
 | _,_,0,_=>.nil
 | _,_,_ + 1,.nil=>.nil
 | _,_,n + 1,.cons r t=>.cons r (aY.take n t)
theorem aY.drop:∀{xs:List V}{us:List Value}(n:Nat),aY xs us->aY (xs.drop n) (us.drop n)
 | _,_,0,r=>r
 | _,_,_ + 1,.nil=>.nil
 | _,_,n + 1,.cons _ t=>aY.drop n t
noncomputable def dY:Option V->Option Value->Prop
 | some v,some u=>aT v u
 | none,none=>True
 | _,_=>False
def KV{κ:Type}:List (κ × V)->List (κ × Value)->Prop:=Paired fun(p:κ × V)(q:κ × Value)=>p.1=q.1/\aT p.2 q.2
def kV:Key->V
 | .inl i=>.int i
 | .inr x=>.str x
inductive HO where
 | lst (xs:List V)
 | tup (xs:List V)
 | dK (kvs:List (Key × V)) | dT (kvs:List (List Key × V))
 | set (S:Int->Bool) (n:Nat)
 | ins (C dx:Addr) (fs:List (Str × V))
 | own (x:Addr)
 | xd (fs:List (Str × V))
 | met (f x:Addr)
 | rng (lo hi:Int)
 | frz (o:Obj) (u:HO)
 | tbl (ps:Array Value)
 | ext (φ:Heap->Prop)
abbrev Hp:=Addr->Option HO
noncomputable def upd(H:Hp)(a:Addr)(o:HO):Hp:=fun b=>if b=a then some o else H b
theorem af{H:Hp}{a:Addr}{o:HO}:upd H a o a=some o:=by unfold upd;rw[if_pos rfl]
theorem au{H:Hp}{a b:Addr}{o:HO}(h:b ≠ a):upd H a o b=H b:=by unfold upd;rw[if_neg h]
theorem gC{H:Hp}{a:Addr}{o u:HO}:upd (upd H a o) a u=upd H a u:=by
 funext b;unfold upd;split <;> rfl
theorem ax{H:Hp}{a b:Addr}{o u:HO}(h:H a=some o)(h':H b=some u)(d:o ≠ u):a ≠ b:=by
 intro e;subst e;rw[h]at h';exact d (Option.some.inj h')
theorem ak{H:Hp}{a b:Addr}{o:HO}(h:H a=some o)(h':H b=none):a ≠ b:=by
 intro e;subst e;rw[h]at h';cases h'
section
variable(P:Program)(w:World)
noncomputable def bT(H:Hp)(h:Heap)(a:Addr):HO->Prop
 | .lst xs=>xs.length <= sizeLine/\∃(its:List Value)(n:Nat),aY xs its/\h.get? a=some { cls:=.type "list",data:=.seq its.toArray n }
 | .tup xs=>xs.length <= sizeLine/\∃its:List Value,aY xs its/\IsTup h a its.toArray
 | .dK kvs=>kvs.length <= sizeLine/\(a == sysModules)=false/\∃vs,KV kvs vs/\h.DictOf (aV P w) a vs
 | .dT kvs=>kvs.length <= sizeLine/\(a == sysModules)=false/\∃xs:List (List Key × Addr × Value),
   Paired (fun(p:List Key × V)(q:List Key × Addr × Value)=>p.1=q.1/\H q.2.1=some (.tup (p.1.map kV))/\aT p.2 q.2.2) kvs xs /\
   ∃o es ep,h.get? a=some o/\o.ExactDict/\o.data=.dict es ep/\es.toList=xs.map (entryOfKey (tupleKind (aV P w)))/\(xs.map (·.1)).Nodup
 | .set S n=>h.SetOf (intKind P w) a S n
 | .ins C dx fs=>H dx=some (.own a)/\fs.length <= 1000/\dx ≠ a/\h.get? a=some (PySem.W.instObj C dx) /\
   ∃mA,h.Ns1 dx mA/\(∀f,dY (fs.lookup f) (mA f))/\PySem.Within mA (fs.map (·.1))
 | .own _=>∃o,h.get? a=some o
 | .xd fs=>∃mA,h.Ns1 a mA/\∀f,dY (fs.lookup f) (mA f)
 | .rng lo hi=>∃t u v,h.get? a=some { cls:=.type "range",data:=.fields #[.int lo t,.int hi u,.int 1 v] }
 | .frz o u=>h.get? a=some o/\bT H h a u
 | .tbl ps=>h.get? a=some { cls:=.none,data:=.fields ps }
 | .met f x=>h.get? a=some (PySem.W.methodObj (.ref f) (.ref x))
 | .ext φ=>φ h/\(∃o,h.get? a=some o)/\∀h1 h2:Heap,φ h1->(∀o,h1.get? a=some o->h2.get? a=some o)->φ h2
def HOk(H:Hp)(h:Heap):Prop:=∀a o,H a=some o->bT P w H h a o
end
section
variable{P:Program}{w:World}{H H':Hp}{h h':Heap}{a:Addr}{o:HO}
theorem bT.lt(x:bT P w H h a o):a < h.objs.size:=by
 cases o with
 | lst xs=>obtain⟨_,_,_,_,e⟩:=x;exact lt_size e
 | tup xs=>obtain⟨_,_,_,p⟩:=x;exact p.lt
 | dK kvs=>obtain⟨_,_,_,_,o,_,_,e,_⟩:=x;exact lt_size e
 | dT kvs=>obtain⟨_,_,_,_,o,_,_,e,_⟩:=x;exact lt_size e
 | set S n=>obtain⟨o,_,_,_,e,_⟩:=x;exact lt_size e
 | ins C dx fs=>obtain⟨_,_,_,e,_⟩:=x;exact lt_size e
 | own y=>obtain⟨_,e⟩:=x;exact lt_size e
 | xd fs=>obtain⟨_,⟨_,_,_,e,_⟩,_⟩:=x;exact lt_size e
 | rng lo hi=>obtain⟨_,_,_,e⟩:=x;exact lt_size e
 | frz ob u=>obtain⟨e,_⟩:=x;exact lt_size e
 | tbl ps=>exact lt_size (show h.get? a=some _ from x)
 | met f y=>exact lt_size (show h.get? a=some _ from x)
 | ext φ=>obtain⟨_,⟨_,e⟩,_⟩:=x;exact lt_size e
theorem Paired.mapP{α β:Type}{F G:α->β->Prop}:∀{l₁:List α}{l₂:List β},Paired F l₁ l₂->(∀a b,F a b->G a b)->Paired G l₁ l₂
 | _,_,.nil,_=>.nil
 | _,_,.cons r t,f=>.cons (f _ _ r) (Paired.mapP t f)
theorem Paired.imp'{α β:Type}{F G:α->β->Prop}(f:∀a b,F a b->G a b){l₁:List α}{l₂:List β}(r:Paired F l₁ l₂):Paired G l₁ l₂:=Paired.mapP r f
theorem bT.stay(x:bT P w H h a o)(k:∀b u,(b=a\/H b=some (.own a))->h.get? b=some u->h'.get? b=some u)
  (ho:∀b,H b=some (.own a)->H' b=some (.own a))(ht:∀b xs,H b=some (.tup xs)->H' b=some (.tup xs)):bT P w H' h' a o:=by
 induction o with
 | lst xs=>obtain⟨z,its,n,r,e⟩:=x;exact⟨z,its,n,r,k _ _ (.inl rfl) e⟩
 | tup xs=>obtain⟨z,its,r,ob,e,c⟩:=x;exact⟨z,its,r,ob,k _ _ (.inl rfl) e,c⟩
 | dK kvs=>obtain⟨z,y,vs,r,ob,es,ep,e,c⟩:=x;exact⟨z,y,vs,r,ob,es,ep,k _ _ (.inl rfl) e,c⟩
 | dT kvs =>
  obtain⟨z,y,xs,r,ob,es,ep,e,c⟩:=x;exact⟨z,y,xs,Paired.mapP r fun p q z=>⟨z.1,ht _ _ z.2.1,z.2.2⟩,ob,es,ep,k _ _ (.inl rfl) e,c⟩
 | set S n=>obtain⟨ob,es,ep,t,e,c⟩:=x;exact⟨ob,es,ep,t,k _ _ (.inl rfl) e,c⟩
 | ins C dx fs =>
  obtain⟨d,z,ne,e,mA,⟨od,es,ep,e2,c⟩,r⟩:=x;exact⟨ho _ d,z,ne,k _ _ (.inl rfl) e,mA,⟨od,es,ep,k _ _ (.inr d) e2,c⟩,r⟩
 | own y=>obtain⟨ob,e⟩:=x;exact⟨ob,k _ _ (.inl rfl) e⟩
 | xd fs=>obtain⟨mA,⟨od,es,ep,e,c⟩,r⟩:=x;exact⟨mA,⟨od,es,ep,k _ _ (.inl rfl) e,c⟩,r⟩
 | rng lo hi=>obtain⟨t,u,v,e⟩:=x;exact⟨t,u,v,k _ _ (.inl rfl) e⟩
 | frz ob u ih=>obtain⟨e,q⟩:=x;exact⟨k _ _ (.inl rfl) e,ih q⟩
 | tbl ps =>
  have e:h.get? a=some { cls:=.none,data:=.fields ps }:=x;show h'.get? a=some { cls:=.none,data:=.fields ps };exact k a _ (.inl rfl) e
 | met f y =>
  have e:h.get? a=some (PySem.W.methodObj (.ref f) (.ref y)):=x;show h'.get? a=some (PySem.W.methodObj (.ref f) (.ref y));exact k a _ (.inl rfl) e
 | ext φ=>obtain⟨p,⟨o,e⟩,st⟩:=x;exact⟨st _ _ p fun o q=>k _ _ (.inl rfl) q,⟨o,k _ _ (.inl rfl) e⟩,st⟩
theorem HOk.lt(x:HOk P w H h)(e:H a=some o):a < h.objs.size:=(x a o e).lt
theorem HOk.fresh(x:HOk P w H h)(e:h.objs.size <= a):H a=none:=by
 cases q:H a with
 | none=>rfl
 | some u=>exact absurd (Nat.lt_of_lt_of_le (x.lt q) e) (Nat.lt_irrefl _)
theorem HOk.kept(x:HOk P w H h)(k:∀b u,h.get? b=some u->h'.get? b=some u):HOk P w H h':=fun a o e =>
 (x a o e).stay (fun b u _ q=>k b u q) (fun _ q=>q) fun _ _ q=>q
theorem HOk.laid(x:HOk P w H h)(k:∀b u,h.get? b=some u->h'.get? b=some u)(hp:h.objs.size <= a)(new:bT P w (upd H a o) h' a o):HOk P w (upd H a o) h':=fun b u e=>by
 have hn:=x.fresh hp;by_cases hb:b=a
 ·subst hb;rw[af]at e;cases e;exact new
 ·rw[au hb]at e;exact(x b u e).stay (fun c v _ q=>k c v q) (fun c q=>by rw[au (ak q hn)];exact q) fun c xs q=>by rw[au (ak q hn)];exact q
end
def Rd(H:Hp)(a:Addr)(u:HO):Prop:=H a=some u\/∃o,H a=some (.frz o u)
theorem Rd.ok{P:Program}{w:World}{H:Hp}{h:Heap}{a:Addr}{u:HO}(r:Rd H a u)(x:HOk P w H h):bT P w H h a u:=by
 rcases r with r | ⟨o,r⟩
 ·exact x a u r
 ·obtain⟨_,q⟩:=x a _ r;exact q
noncomputable def Mut:Option HO->Prop
 | some (.lst _)=>True
 | some (.dK _)=>True
 | some (.dT _)=>True
 | some (.set _ _)=>True
 | some (.ins _ _ _)=>True
 | some (.ext _)=>True
 | _=>False
section
variable{P:Program}{w:World}{H:Hp}{h h':Heap}{x e:Addr}{o':HO}
theorem HOk.write(ok:HOk P w H h)(mu:Mut (H x))(he:e=x\/H e=some (.own x))(k:∀b u,b ≠ e->h.get? b=some u->h'.get? b=some u)(heo:∃u,h'.get? e=some u)
  (new:bT P w (upd H x o') h' x o'):HOk P w (upd H x o') h':=fun b u q=>by
 have nown:∀c y,H c=some (.own y)->c ≠ x:=fun c y r z=>by subst z;rw[r]at mu;exact mu
 have ntup:∀c xs,H c=some (.tup xs)->c ≠ x:=fun c xs r z=>by subst z;rw[r]at mu;exact mu
 by_cases hb:b=x
 ·subst hb;rw[af]at q;cases q;exact new
 ·rw[au hb]at q;by_cases hbe:b=e
  ·have q':H b=some (.own x):=by
    rcases he with z | z
    ·exact absurd (hbe.trans z) hb
    ·rw[hbe];exact z
   rw[q]at q';cases q';obtain⟨v,hv⟩:=heo;exact⟨v,by rw[hbe];exact hv⟩
  ·refine(ok b u q).stay (fun c v hc r=>k c v ?_ r) (fun c r=>by rw[au (nown c b r)];exact r) fun c xs r=>by rw[au (ntup c xs r)];exact r
   rcases hc with rfl | hc
   ·exact hbe
   ·rintro rfl;rcases he with z | z
    ·exact nown c b hc z
    ·rw[hc]at z;cases z;exact hb rfl
end
structure Un(fs ex:List Addr)(H H':Hp)(h h':Heap):Prop where
 keep:∀b o,h.get? b=some o->H b=none->b ∉ fs->b ∉ ex->h'.get? b=some o
 slot:∀b o,h.get? b=some o->H b=none->b ∈ fs->b ∉ ex->∃sl,h'.get? b=some { o with slots:=sl }
 free:∀b o,h.get? b=some o->H b=none->b ∉ ex->H' b=none
 there:∀b o,h.get? b=some o->b ∉ ex->∃o',h'.get? b=some o'
 tups:∀b xs,H b=some (.tup xs)->H' b=some (.tup xs)
 frzs:∀b o u,H b=some (.frz o u)->H' b=some (.frz o u)
 tbls:∀b ps,H b=some (.tbl ps)->∃more,H' b=some (.tbl (ps ++ more))
section
variable{fs fs' ex ex':List Addr}{H H1 H2:Hp}{h h1 h2 h':Heap}{a x e:Addr}{o:HO}
theorem Un.any(u:Un fs ex H H1 h h1){b:Addr}{ob:Obj}(q:h.get? b=some ob)(n:H b=none)(hx:b ∉ ex):∃sl,h1.get? b=some { ob with slots:=sl }:=by
 by_cases hb:b ∈ fs
 ·exact u.slot b ob q n hb hx
 ·exact⟨ob.slots,u.keep b ob q n hb hx⟩
theorem Un.trans(a:Un fs ex H H1 h h1)(b:Un fs ex H1 H2 h1 h2):Un fs ex H H2 h h2 where
 keep:=fun c ob q n hc hx=>b.keep c ob (a.keep c ob q n hc hx) (a.free c ob q n hx) hc hx
 slot:=fun c ob q n hc hx=>by
  obtain⟨sl,e1⟩:=a.slot c ob q n hc hx;obtain⟨sl',e2⟩:=b.slot c _ e1 (a.free c ob q n hx) hc hx;exact⟨sl',e2⟩
 free:=fun c ob q n hx=>by
  obtain⟨o',e1⟩:=a.there c ob q hx;exact b.free c o' e1 (a.free c ob q n hx) hx
 there:=fun c ob q hx=>by
  obtain⟨o',e1⟩:=a.there c ob q hx;exact b.there c o' e1 hx
 tups:=fun c xs q=>b.tups c xs (a.tups c xs q)
 frzs:=fun c ob xs q=>b.frzs c ob xs (a.frzs c ob xs q)
 tbls:=fun c ps q=>by
  obtain⟨m1,e1⟩:=a.tbls c ps q;obtain⟨m2,e2⟩:=b.tbls c _ e1;exact⟨m1 ++ m2,by rw[e2,Array.append_assoc]⟩
theorem Un.kept(k:∀b u,h.get? b=some u->h'.get? b=some u):Un fs ex H H h h' :=
 ⟨fun b ob q _ _ _=>k b ob q,fun b ob q _ _ _=>⟨ob.slots,k b ob q⟩,fun _ _ _ n _=>n,fun b ob q _=>⟨ob,k b ob q⟩,fun _ _ q=>q,fun _ _ _ q=>q,fun _ ps q=>⟨#[],by rw[q];simp⟩⟩
theorem Un.refl:Un fs ex H H h h:=Un.kept fun _ _ q=>q
theorem Un.laid(k:∀b u,h.get? b=some u->h'.get? b=some u)(hp:h.objs.size <= a)(hn:H a=none):Un fs ex H (upd H a o) h h' where
 keep:=fun b u q _ _ _=>k b u q
 slot:=fun b u q _ _ _=>⟨u.slots,k b u q⟩
 free:=fun b u q n _=>by rw[au (Nat.ne_of_lt (Nat.lt_of_lt_of_le (lt_size q) hp))];exact n
 there:=fun b u q _=>⟨u,k b u q⟩
 tups:=fun b xs q=>by rw[au (ak q hn)];exact q
 frzs:=fun b u xs q=>by rw[au (ak q hn)];exact q
 tbls:=fun b ps q=>⟨#[],by rw[au (ak q hn),q];simp⟩
theorem Un.write(mu:Mut (H x))(he:e=x\/H e=some (.own x))(k:∀b u,b ≠ e->h.get? b=some u->h'.get? b=some u)(heo:∃u,h'.get? e=some u):Un fs ex H (upd H x o) h h':=by
 have hx:∀b,H b=none->b ≠ x:=fun b n z=>by subst z;rw[n]at mu;exact mu
 have hb:∀b,H b=none->b ≠ e:=fun b n z=>by
  subst z;rcases he with r | r
  ·exact hx b n r
  ·rw[n]at r;cases r
 have hm:∀b u,H b=some u->¬Mut (some u)->b ≠ x:=fun b u q nm z=>by subst z;rw[q]at mu;exact nm mu
 refine⟨fun b u q n _ _=>k b u (hb b n) q,fun b u q n _ _=>⟨u.slots,k b u (hb b n) q⟩,fun b u q n _=>by rw[au (hx b n)];exact n,fun b u q _=>?_,
  fun b xs q=>by rw[au (hm b _ q fun z=>z)];exact q,fun b u xs q=>by rw[au (hm b _ q fun z=>z)];exact q,fun b ps q=>⟨#[],by rw[au (hm b _ q fun z=>z),q];simp⟩⟩
 by_cases hbe:b=e
 ·subst hbe;exact heo
 ·exact⟨u,k b u hbe q⟩
end
noncomputable def trk(h:Heap)(H:Hp):List Addr:=(List.range h.objs.size).filter fun a=>(H a).isSome
def kS(h:Heap)(H:Hp):Heap:=PySem.W.hideAll h (trk h H)
theorem rF(h:Heap)(H:Hp):(kS h H).objs.size=h.objs.size:=PySem.W.hideAll_size _ _
theorem tO{h:Heap}{H:Hp}{b:Addr}{o:Obj}(e:h.get? b=some o)(n:H b=none):(kS h H).get? b=some o :=
 PySem.W.hideAll_get _ e fun hm=>by
  have q:(H b).isSome=true:=(List.mem_filter.mp hm).2;rw[n]at q;simp at q
theorem of_hidT{h:Heap}{H:Hp}{b:Addr}{o:Obj}(e:(kS h H).get? b=some o):h.get? b=some o/\H b=none:=by
 have e':h.get? b=some o:=PySem.W.of_hideAll (trk h H) e;refine⟨e',?_⟩;cases q:H b with
 | none=>rfl
 | some x =>
  have hm:b ∈ trk h H:=List.mem_filter.mpr ⟨List.mem_range.mpr (lt_size e'),by simp[q]⟩
  have z:(kS h H).get? b=none:=PySem.W.hideAll_none (trk h H) hm;rw[z]at e;cases e
structure Mod(K:Frag)(mg:Str->Option Value)(base:Heap):Prop where
 kin:K.In base
 glob:base.Ns mainGlobals mg
 blt:∃mb,base.Ns builtinsNs mb/\∀x:Str,x ≠ "__name__" ->mb x=bootBuiltins x
 nolimit:base.NoLimit
structure Cx where
 prog:Program
 w:World
 K:Frag
 mg:Str->Option Value
 base:Heap
 A:Around
 N:List Str
 s₀:Shared
 H₀:Hp
 env:Env
 outer:List Env
 stack:List Env
 ex:List Addr
 fn:Str->Bool
 calm:Bool
 pn:List (Addr × Obj)
 xe:Value->Shared->Prop
def frs(l:List Env):List Addr:=l.filterMap (·.frame)
abbrev Cx.fs(X:Cx):List Addr:=frs X.outer
def Vis(sc:Scope)(x:Str):Prop:=sc.names.lookup x=some .local\/sc.names.lookup x=some .cell\/sc.names.lookup x=some .free
def Loc(sc:Scope)(x:Str):Prop:=sc.names.lookup x=some .local\/sc.names.lookup x=some .cell
def Look(env:Env)(h:Heap)(m:Str->Option Value)(x:Str)(u:Value):Prop :=
 (env.kindOf x=some .local/\m x=some u)\/((env.kindOf x=some .cell\/env.kindOf x=some .free)/\∃c,env.cells.lookup x=some c/\h.IsCell c (some u))
structure Cx.Ok(X:Cx):Prop where
 mod:Mod X.K X.mg X.base
 kind:X.env.scope.kind=.function
 glob:X.env.globals=mainGlobals
 blt:X.env.builtins=builtinsNs
 above:X.s₀.heap.objs.size <= X.env.locals
 inj:∀x y c,X.env.cells.lookup x=some c->X.env.cells.lookup y=some c->x=y
 has:∀x,(X.env.kindOf x=some .cell\/X.env.kindOf x=some .free)->∃c,X.env.cells.lookup x=some c
 cab:∀x c,X.fn x=true->X.env.cells.lookup x=some c->X.s₀.heap.objs.size <= c
 hd:X.calm=true->X.A.handled=none
 frames:X.A.frames=some X.stack
 stk:X.stack=X.outer\/(X.stack=X.env :: X.outer/\X.env.frame=some X.env.locals)
 exf:∀b ∈ X.ex,b ≠ X.env.locals/\∀x c,X.env.cells.lookup x=some c->c ≠ b
 bs:∀b o,X.base.get? b=some o->X.s₀.heap.get? b=some o/\X.H₀ b=none
 bsz:X.base.objs.size <= X.s₀.heap.objs.size
 noex:∀b o,X.base.get? b=some o->b ∉ X.ex
 exfs:∀b ∈ X.ex,b ∉ X.fs
 funs:X.s₀.heap.FunFrames X.base X.outer
 frf:∀b ∈ X.fs,X.H₀ b=none
structure Inv(X:Cx)(pins:List (Addr × Obj))(σ:List (Option V))(H:Hp)(s:Shared):Prop where
 ok:X.Ok
 os:s.os=X.s₀.os
 bare:AllBare s.gens
 base:Un X.fs X.ex X.H₀ H X.s₀.heap s.heap
 loc:∃m,s.heap.Ns X.env.locals m/\∀(i:Nat)(x:Str)(v:V),X.N[i]?=some x->σ[i]?=some (some v)->Vis X.env.scope x->∃u,aT v u/\Look X.env s.heap m x u
 cell:∀x c,X.env.cells.lookup x=some c->∃v,s.heap.IsCell c v
 free:H X.env.locals=none
 freeC:∀x c,X.env.cells.lookup x=some c->H c=none
 pin:∀p ∈ X.pn ++ pins,s.heap.get? p.1=some p.2/\H p.1=none/\p.1 ≠ X.env.locals/\p.1 ∉ X.fs/\∀v,p.2.data ≠ .cell v
 hok:HOk X.prog X.w H s.heap
 len:σ.length=X.N.length
section
variable{X:Cx}{pins:List (Addr × Obj)}{σ:List (Option V)}{H H':Hp}{s:Shared}{h':Heap}
theorem Cx.Ok.nofr(ok:X.Ok){b:Addr}{o:Obj}(e:X.base.get? b=some o):b ∉ X.fs:=fun hb=>by
 have:=(ok.funs.mem hb).1;rw[e]at this;cases this
theorem Inv.bs(I:Inv X pins σ H s):∀b o,X.base.get? b=some o->s.heap.get? b=some o/\H b=none:=fun b o e =>
 ⟨I.base.keep b o (I.ok.bs b o e).1 (I.ok.bs b o e).2 (I.ok.nofr e) (I.ok.noex b o e),I.base.free b o (I.ok.bs b o e).1 (I.ok.bs b o e).2 (I.ok.noex b o e)⟩
theorem Inv.bk(I:Inv X pins σ H s):∀b o,X.base.get? b=some o->s.heap.get? b=some o:=fun b o e=>(I.bs b o e).1
theorem Inv.mod(I:Inv X pins σ H s):Mod X.K X.mg X.base:=I.ok.mod
theorem Inv.kIn(I:Inv X pins σ H s):X.K.In s.heap:=I.ok.mod.kin.keeps I.bk
theorem Inv.fr(I:Inv X pins σ H s):∃m,Fr X.base X.env.locals s.heap m :=
 let ⟨m,hn,_⟩:=I.loc
 ⟨m,hn,I.bk,Nat.le_trans I.ok.bsz I.ok.above⟩
theorem Inv.lt(I:Inv X pins σ H s):X.env.locals < s.heap.objs.size:=let ⟨_,hn,_⟩:=I.loc;hn.lt
theorem Inv.sz(I:Inv X pins σ H s):X.s₀.heap.objs.size <= s.heap.objs.size:=Nat.le_trans I.ok.above (Nat.le_of_lt I.lt)
theorem Inv.nofs(I:Inv X pins σ H s){a:Addr}(h:s.heap.objs.size <= a):a ∉ X.fs:=fun hb=>by
 obtain⟨_,o,ho,_⟩:=I.ok.funs.mem hb;exact absurd (Nat.lt_of_lt_of_le (lt_size ho) (Nat.le_trans I.sz h)) (Nat.lt_irrefl _)
theorem Inv.cne(I:Inv X pins σ H s):∀x c,X.env.cells.lookup x=some c->c ≠ X.env.locals:=fun x c e z=>by
 obtain⟨v,o,ho,hd⟩:=I.cell x c e;obtain⟨m,⟨o',es,ep,ho',hd',_⟩,_⟩:=I.loc;rw[z,ho']at ho;cases ho;rw[hd']at hd;cases hd
theorem Inv.funs(I:Inv X pins σ H s):s.heap.FunFrames X.base X.outer:=by
 have all:∀(l:List Env),(∀b ∈ frs l,b ∈ X.fs)->X.s₀.heap.FunFrames X.base l->s.heap.FunFrames X.base l:=by
  intro l;induction l with
  | nil=>intro _ _;trivial
  | cons env r ih =>
   intro hs hl;obtain⟨hk,⟨L,o,hf,hn,ho,hd⟩,hr⟩:=hl;have hL:L ∈ X.fs:=hs L (by unfold frs;rw[List.filterMap_cons,hf];exact List.mem_cons_self)
   obtain⟨sl,e⟩:=I.base.slot L o ho (I.ok.frf L hL) hL fun z=>I.ok.exfs L z hL;exact⟨hk,⟨L,_,hf,hn,e,hd⟩,ih (fun b hb=>hs b (by unfold frs;rw[List.filterMap_cons,hf];exact List.mem_cons_of_mem _ hb)) hr⟩
 exact all X.outer (fun _ hb=>hb) I.ok.funs
theorem Inv.stack(I:Inv X pins σ H s):s.heap.FunFrames X.base X.stack:=by
 rcases I.ok.stk with e | ⟨e,hf⟩
 ·rw[e];exact I.funs
 ·rw[e];obtain⟨m,hn,_⟩:=I.loc;refine .cons (by rw[I.ok.kind];decide) hf hn ?_ I.funs
  exact Heap.get?_none_of_le (Nat.le_trans I.ok.bsz I.ok.above)
theorem Inv.stkSub(I:Inv X pins σ H s):∀b ∈ frs X.stack,b ∈ X.env.locals :: X.fs:=fun b hb=>by
 rcases I.ok.stk with e | ⟨e,hf⟩
 ·rw[e]at hb;exact List.mem_cons_of_mem _ hb
 ·rw[e]at hb;unfold frs at hb;rw[List.filterMap_cons,hf]at hb;exact hb
theorem Inv.stkFree(I:Inv X pins σ H s):∀b ∈ frs X.stack,H b=none:=fun b hb=>by
 rcases List.mem_cons.mp (I.stkSub b hb) with e | hb
 ·rw[e];exact I.free
 ·obtain⟨_,o,ho,_⟩:=I.ok.funs.mem hb;exact I.base.free b o ho (I.ok.frf b hb) fun z=>I.ok.exfs b z hb
theorem Inv.step{g':Array GenState}{t':Nat}{d':Drawn}{ch:List Addr}(I:Inv X pins σ H s)
  (hch:∀b ∈ ch,(b ∈ X.ex\/X.s₀.heap.objs.size <= b)/\b ≠ X.env.locals/\(∀x c,X.env.cells.lookup x=some c->c ≠ b)/\∀p ∈ X.pn ++ pins,p.1 ≠ b)
  (keep:∀b o,b ≠ X.env.locals->b ∉ X.fs->b ∉ ch->s.heap.get? b=some o->H b=none->h'.get? b=some o)
  (slot:∀b o,b ≠ X.env.locals->b ∈ X.fs->b ∉ ch->s.heap.get? b=some o->H b=none->∃sl,h'.get? b=some { o with slots:=sl })(free:∀b o,b ∉ ch->s.heap.get? b=some o->H b=none->H' b=none)
  (there:∀b o,b ∉ ch->s.heap.get? b=some o->∃o',h'.get? b=some o')
  (tups:∀b xs,H b=some (.tup xs)->H' b=some (.tup xs))(frzs:∀b o u,H b=some (.frz o u)->H' b=some (.frz o u))(tbls:∀b ps,H b=some (.tbl ps)->∃more,H' b=some (.tbl (ps ++ more)))
  (ns:∀m,s.heap.Ns X.env.locals m->h'.Ns X.env.locals m)(hok:HOk X.prog X.w H' h')(hg:AllBare g') :
  Inv X pins σ H' { s with heap:=h',gens:=g',drawn:=d',toks:=t' }:=by
 have neL:∀b o,X.s₀.heap.get? b=some o->b ≠ X.env.locals:=fun b o e=>Nat.ne_of_lt (Nat.lt_of_lt_of_le (lt_size e) I.ok.above);have neC:∀b o,X.s₀.heap.get? b=some o->b ∉ X.ex->b ∉ ch:=fun b o e hx hb=>by
  rcases (hch b hb).1 with z | z
  ·exact hx z
  ·exact absurd (Nat.lt_of_lt_of_le (lt_size e) z) (Nat.lt_irrefl _)
 have cellK:∀x c,X.env.cells.lookup x=some c->∀v,s.heap.IsCell c v->h'.IsCell c v:=fun x c e v ⟨o,ho,hd⟩=>by
  have nch:c ∉ ch:=fun z=>(hch c z).2.2.1 x c e rfl;by_cases hc:c ∈ X.fs
  ·obtain⟨sl,q⟩:=slot c o (I.cne x c e) hc nch ho (I.freeC x c e);exact⟨_,q,hd⟩
  ·exact⟨o,keep c o (I.cne x c e) hc nch ho (I.freeC x c e),hd⟩
 refine⟨I.ok,I.os,hg,⟨fun b o e n hb hx=>?_,fun b o e n hb hx=>?_,fun b o e n hx=>?_,fun b o e hx=>?_,fun b xs e=>tups b xs (I.base.tups b xs e),fun b o xs e=>frzs b o xs (I.base.frzs b o xs e),fun b ps e=>?_⟩,?_,fun x c e=>?_,?_,fun x c e=>?_,fun p hp=>?_,hok,I.len⟩
 ·exact keep b o (neL b o e) hb (neC b o e hx) (I.base.keep b o e n hb hx) (I.base.free b o e n hx)
 ·obtain⟨sl,e1⟩:=I.base.slot b o e n hb hx;obtain⟨sl',e2⟩:=slot b _ (neL b o e) hb (neC b o e hx) e1 (I.base.free b o e n hx);exact⟨sl',e2⟩
 ·obtain⟨o',e1⟩:=I.base.there b o e hx;exact free b o' (neC b o e hx) e1 (I.base.free b o e n hx)
 ·obtain⟨o',e1⟩:=I.base.there b o e hx;exact there b o' (neC b o e hx) e1
 ·obtain⟨m1,e1⟩:=I.base.tbls b ps e;obtain⟨m2,e2⟩:=tbls b _ e1;exact⟨m1 ++ m2,by rw[e2,Array.append_assoc]⟩
 ·obtain⟨m,hn,hl⟩:=I.loc;refine⟨m,ns m hn,fun i x v e1 e2 e3=>?_⟩;obtain⟨u,r,l⟩:=hl i x v e1 e2 e3;refine⟨u,r,?_⟩;rcases l with l | ⟨k,c,e,z⟩
  ·exact .inl l
  ·exact .inr ⟨k,c,e,cellK x c e _ z⟩
 ·obtain⟨v,z⟩:=I.cell x c e;exact⟨v,cellK x c e v z⟩
 ·obtain⟨m,⟨o,_,_,ho,_⟩,_⟩:=I.loc;exact free _ o (fun z=>(hch _ z).2.1 rfl) ho I.free
 ·obtain⟨v,o,ho,hd⟩:=I.cell x c e;exact free c o (fun z=>(hch c z).2.2.1 x c e rfl) ho (I.freeC x c e)
 ·obtain⟨e,n,ne,nf,d⟩:=I.pin p hp;have nch:p.1 ∉ ch:=fun z=>(hch p.1 z).2.2.2 p hp rfl;exact⟨keep p.1 p.2 ne nf nch e n,free p.1 p.2 nch e n,ne,nf,d⟩
theorem Inv.un{t':Nat}(I:Inv X pins σ H s)(u:Un X.fs [] H H' s.heap h')(hok:HOk X.prog X.w H' h'):Inv X pins σ H' { s with heap:=h',toks:=t' }:=by
 obtain⟨m,⟨o,es,ep,ho,r⟩,_⟩:=id I.loc;obtain⟨sl,hL⟩:=u.any ho I.free (by simp)
 exact I.step (g':=s.gens) (d':=s.drawn) (ch:=[]) (fun _ z=>nomatch z) (fun b o _ hb _ e n=>u.keep b o e n hb (by simp)) (fun b o _ hb _ e n=>u.slot b o e n hb (by simp)) (fun b o _ e n=>u.free b o e n (by simp)) (fun b o _ e=>u.there b o e (by simp)) u.tups u.frzs u.tbls (fun m' hm=>by
  obtain⟨o',es',ep',ho',r'⟩:=hm;rw[ho]at ho';cases ho';exact⟨_,es',ep',hL,r'⟩) hok I.bare
theorem Inv.call{g':Array GenState}{t':Nat}{d':Drawn}{ch:List Addr}(I:Inv X pins σ H s)(u:Un (frs X.stack) ch H H' s.heap h')(hok:HOk X.prog X.w H' h')(hg:AllBare g')
  (hch:∀b ∈ ch,(b ∈ X.ex\/X.s₀.heap.objs.size <= b)/\b ≠ X.env.locals/\(∀x c,X.env.cells.lookup x=some c->c ≠ b)/\∀p ∈ X.pn ++ pins,p.1 ≠ b) :
  Inv X pins σ H' { s with heap:=h',gens:=g',drawn:=d',toks:=t' }:=by
 obtain⟨m,⟨o,es,ep,ho,r⟩,_⟩:=id I.loc;obtain⟨sl,hL⟩:=u.any ho I.free fun z=>(hch _ z).2.1 rfl;exact I.step (ch:=ch) hch (fun b o hL hb hc e n=>u.keep b o e n (fun z=>(List.mem_cons.mp (I.stkSub b z)).elim hL hb) hc) (fun b o _ _ hc e n=>u.any e n hc) (fun b o hc e n=>u.free b o e n hc) (fun b o hc e=>u.there b o e hc) u.tups u.frzs u.tbls (fun m' hm=>by
  obtain⟨o',es',ep',ho',r'⟩:=hm;rw[ho]at ho';cases ho';exact⟨_,es',ep',hL,r'⟩) hok hg
theorem Inv.turned{t':Nat}{it:Addr}(I:Inv X pins σ H s)(k:∀b o,b ≠ it->s.heap.get? b=some o->h'.get? b=some o)(hn:H it=none)(hL:it ≠ X.env.locals)
  (h1:it ∈ X.ex\/X.s₀.heap.objs.size <= it)(h2:∀x c,X.env.cells.lookup x=some c->c ≠ it)(h3:∀p ∈ X.pn ++ pins,p.1 ≠ it):Inv X pins σ H { s with heap:=h',toks:=t' }:=by
 have nit:∀b u,H b=some u->b ≠ it:=fun b u e z=>by rw[z,hn]at e;cases e
 refine I.step (g':=s.gens) (d':=s.drawn) (ch:=[it]) (fun b hb=>?_) (fun b o _ _ hc e _=>k b o (fun z=>hc (by simp[z])) e) (fun b o _ _ hc e _=>⟨o.slots,k b o (fun z=>hc (by simp[z])) e⟩) (fun _ _ _ _ n=>n)
  (fun b o hc e=>⟨o,k b o (fun z=>hc (by simp[z])) e⟩) (fun _ _ e=>e) (fun _ _ _ e=>e) (fun b ps e=>⟨#[],by rw[e];simp⟩) (fun m hm=>?_) (fun b u e=>?_) I.bare
 ·have e:b=it:=by simpa using hb
  subst e;exact⟨h1,hL,h2,h3⟩
 ·obtain⟨o,es,ep,ho,r⟩:=hm;exact⟨o,es,ep,k _ o (Ne.symm hL) ho,r⟩
 ·refine(I.hok b u e).stay (fun c v hc q=>k c v ?_ q) (fun _ q=>q) fun _ _ q=>q;rcases hc with z | z
  ·rw[z];exact nit b u e
  ·exact nit c _ z
theorem Inv.tok(I:Inv X pins σ H s)(t:Nat):Inv X pins σ H { s with toks:=t }:=I.un (h':=s.heap) (t':=t) Un.refl I.hok
theorem Inv.kept{t':Nat}(I:Inv X pins σ H s)(k:∀b u,s.heap.get? b=some u->h'.get? b=some u):Inv X pins σ H { s with heap:=h',toks:=t' }:=I.un (Un.kept k) (I.hok.kept k)
theorem Inv.laid{a:Addr}{o:HO}{t':Nat}(I:Inv X pins σ H s)(k:∀b u,s.heap.get? b=some u->h'.get? b=some u)(hp:s.heap.objs.size <= a)(new:bT X.prog X.w (upd H a o) h' a o) :
  Inv X pins σ (upd H a o) { s with heap:=h',toks:=t' }:=I.un (Un.laid k hp (I.hok.fresh hp)) (I.hok.laid k hp new)
theorem Inv.write{x e:Addr}{o:HO}{t':Nat}(I:Inv X pins σ H s)(mu:Mut (H x))(he:e=x\/H e=some (.own x))(k:∀b u,b ≠ e->s.heap.get? b=some u->h'.get? b=some u)(heo:∃u,h'.get? e=some u)
  (new:bT X.prog X.w (upd H x o) h' x o):Inv X pins σ (upd H x o) { s with heap:=h',toks:=t' }:=I.un (Un.write mu he k heo) (I.hok.write mu he k heo new)
theorem Inv.weak{σ':List (Option V)}(I:Inv X pins σ H s)(hl:σ'.length=σ.length)(w:∀(i:Nat) v,σ'[i]?=some (some v)->σ[i]?=some (some v)):Inv X pins σ' H s :=
 ⟨I.ok,I.os,I.bare,I.base,let ⟨m,hn,hl'⟩:=I.loc;⟨m,hn,fun i x v e1 e2 e3=>hl' i x v e1 (w i v e2) e3⟩,I.cell,I.free,I.freeC,I.pin,I.hok,hl.trans I.len⟩
theorem Inv.pins_of{pins':List (Addr × Obj)}(I:Inv X pins σ H s)(h:∀p ∈ pins',s.heap.get? p.1=some p.2/\H p.1=none/\p.1 ≠ X.env.locals/\p.1 ∉ X.fs/\∀v,p.2.data ≠ .cell v):Inv X pins' σ H s :=
 ⟨I.ok,I.os,I.bare,I.base,I.loc,I.cell,I.free,I.freeC,fun p hp=>(mem_append.mp hp).elim (fun z=>I.pin p (List.mem_append_left _ z)) (h p),I.hok,I.len⟩
theorem mV{N:List Str}(hN:N.Nodup){i j:Nat}{x:Str}(a:N[i]?=some x)(b:N[j]?=some x):i=j:=by
 obtain⟨h1,e1⟩:=List.getElem?_eq_some_iff.mp a;obtain⟨h2,e2⟩:=List.getElem?_eq_some_iff.mp b;exact(List.getElem_inj hN).mp (e1.trans e2.symm)
theorem j6{M:Model}{A:Around}{E:Value->Shared->Prop}{i:Nat}{x:Str}{v:V}{u:Value}{Q:Unit->Shared->Prop}(I:Inv X pins σ H s)(hN:X.N.Nodup)(hi:X.N[i]?=some x)(hx:Loc X.env.scope x)(r:aT v u)
  (h:∀s',Inv X pins (σ.set i (some v)) H s'->(∃a,Heap.SameBut a s.heap s'.heap/\(a=X.env.locals\/X.env.cells.lookup x=some a))->Q () s')(hf:X.fn x=true\/X.env.scope.names.lookup x=some .local:=by first | exact .inl rfl | exact .inr rfl | assumption):wpAny M A (storeName X.env x u) Q E s:=by
 obtain⟨m,hn,hl⟩:=id I.loc;have hcls:(X.env.scope.kind == .class || (X.env.scope.kind == .module && X.env.locals != X.env.globals))=false:=by rw[I.ok.kind];rfl
 have hiσ:i < σ.length:=by rw[I.len];exact(List.getElem?_eq_some_iff.mp hi).1
 have cne:=I.cne;have tracked:∀{a:Addr}{h':Heap},(∃o,s.heap.get? a=some o/\H a=none)->Heap.SameBut a s.heap h'->HOk X.prog X.w H h':=fun {a h'} ha hs b ob e=>by
  obtain⟨_,_,hfree⟩:=ha;refine(I.hok b ob e).stay (fun c w' hc q=>(hs.2 c ?_).trans q) (fun _ q=>q) fun _ _ q=>q;rintro rfl;rcases hc with rfl | hc
  ·rw[hfree]at e;cases e
  ·rw[hfree]at hc;cases hc
 rcases hx with hk | hk
 ·refine wpAny_storeName_local hk hn (fun h' hn' hs=>?_) hcls;obtain⟨oL,_,_,hoL,_⟩:=id hn;refine h _ ⟨I.ok,I.os,I.bare,⟨fun b o e n hb hx=>?_,fun b o e n hb hx=>?_,I.base.free,fun b o e hx=>?_,I.base.tups,I.base.frzs,I.base.tbls⟩,⟨_,hn',fun j y v' e1 e2 e3=>?_⟩,fun y c e=>?_,I.free,I.freeC,fun p hp=>?_,tracked ⟨oL,hoL,I.free⟩ hs,by simpa using I.len⟩ ⟨_,hs,.inl rfl⟩
  ·exact(hs.2 b (Nat.ne_of_lt (Nat.lt_of_lt_of_le (lt_size e) I.ok.above))).trans (I.base.keep b o e n hb hx)
  ·obtain⟨sl,e1⟩:=I.base.slot b o e n hb hx;exact⟨sl,(hs.2 b (Nat.ne_of_lt (Nat.lt_of_lt_of_le (lt_size e) I.ok.above))).trans e1⟩
  ·obtain⟨o',e1⟩:=I.base.there b o e hx;exact⟨o',(hs.2 b (Nat.ne_of_lt (Nat.lt_of_lt_of_le (lt_size e) I.ok.above))).trans e1⟩
  ·by_cases hj:j=i
   ·subst hj;rw[hi]at e1;cases e1;rw[List.getElem?_set_self hiσ]at e2;cases e2;exact⟨u,r,.inl ⟨hk,by simp⟩⟩
   ·rw[List.getElem?_set_ne (Ne.symm hj)]at e2;obtain⟨u',r',q⟩:=hl j y v' e1 e2 e3;refine⟨u',r',?_⟩;rcases q with ⟨k,e⟩ | ⟨k,c,e,z⟩
    ·refine .inl ⟨k,?_⟩;have:y ≠ x:=fun e=>hj (mV hN e1 (e ▸ hi));simp[this,e]
    ·exact .inr ⟨k,c,e,z.sameBut hs (cne y c e)⟩
  ·obtain⟨w',z⟩:=I.cell y c e;exact⟨w',z.sameBut hs (cne y c e)⟩
  ·obtain⟨e,n,ne,nf,d⟩:=I.pin p hp;exact⟨(hs.2 p.1 ne).trans e,n,ne,nf,d⟩
 ·have hfn:X.fn x=true:=by
   rcases hf with z | z
   ·exact z
   ·rw[z]at hk;cases hk
  obtain⟨c,hc⟩:=I.ok.has x (.inl hk);obtain⟨w',z⟩:=I.cell x c hc;refine wpAny_storeName_cell I.ok.kind hk hc z (fun h' hc' hs=>?_);obtain⟨oc,hoc,hocd⟩:=id z;refine h { s with heap:=h' } ⟨I.ok,I.os,I.bare,⟨fun b o e n hb hx=>?_,fun b o e n hb hx=>?_,I.base.free,fun b o e hx=>?_,I.base.tups,I.base.frzs,I.base.tbls⟩,⟨m,hn.sameBut hs (Ne.symm (cne x c hc)),fun j y v' e1 e2 e3=>?_⟩,fun y c' e=>?_,I.free,I.freeC,fun p hp=>?_,tracked ⟨oc,hoc,I.freeC x c hc⟩ hs,by simpa using I.len⟩ ⟨c,hs,.inr hc⟩
  ·exact(hs.2 b (Nat.ne_of_lt (Nat.lt_of_lt_of_le (lt_size e) (I.ok.cab x c hfn hc)))).trans (I.base.keep b o e n hb hx)
  ·obtain⟨sl,e1⟩:=I.base.slot b o e n hb hx;exact⟨sl,(hs.2 b (Nat.ne_of_lt (Nat.lt_of_lt_of_le (lt_size e) (I.ok.cab x c hfn hc)))).trans e1⟩
  ·obtain⟨o',e1⟩:=I.base.there b o e hx;exact⟨o',(hs.2 b (Nat.ne_of_lt (Nat.lt_of_lt_of_le (lt_size e) (I.ok.cab x c hfn hc)))).trans e1⟩
  ·by_cases hj:j=i
   ·subst hj;rw[hi]at e1;cases e1;rw[List.getElem?_set_self hiσ]at e2;cases e2;exact⟨u,r,.inr ⟨.inl hk,c,hc,hc'⟩⟩
   ·rw[List.getElem?_set_ne (Ne.symm hj)]at e2;obtain⟨u',r',q⟩:=hl j y v' e1 e2 e3;refine⟨u',r',?_⟩;rcases q with q | ⟨k,c',e,z'⟩
    ·exact .inl q
    ·refine .inr ⟨k,c',e,z'.sameBut hs ?_⟩;rintro rfl;exact hj (mV hN e1 (I.ok.inj _ _ _ e hc ▸ hi))
  ·by_cases hcc:c'=c
   ·subst hcc;exact⟨_,hc'⟩
   ·obtain⟨w2,z2⟩:=I.cell y c' e;exact⟨w2,z2.sameBut hs hcc⟩
  ·obtain⟨e,n,ne,nf,d⟩:=I.pin p hp;refine⟨(hs.2 p.1 ?_).trans e,n,ne,nf,d⟩;intro q;rw[q,hoc]at e;have q':oc=p.2:=Option.some.inj e;exact d w' (by rw[<- q'];exact hocd)
theorem mW{M:Model}{A:Around}{E:Value->Shared->Prop}{i:Nat}{x:Str}{v:V}{u:Value}{Q:Unit->Shared->Prop}(I:Inv X pins σ H s)(hN:X.N.Nodup)(hi:X.N[i]?=some x)(hx:Loc X.env.scope x)(r:aT v u)
  (h:∀s',Inv X pins (σ.set i (some v)) H s'->Q () s')(hf:X.fn x=true\/X.env.scope.names.lookup x=some .local:=by first | exact .inl rfl | exact .inr rfl | assumption):wpAny M A (storeName X.env x u) Q E s :=
 j6 I hN hi hx r (fun s' I' _=>h s' I') hf
theorem Inv.call'{s':Shared}{ch:List Addr}(I:Inv X pins σ H s)(ho:s'.os=s.os)(u:Un (frs X.stack) ch H H' s.heap s'.heap)(hok:HOk X.prog X.w H' s'.heap)(hg:AllBare s'.gens)
  (hch:∀b ∈ ch,(b ∈ X.ex\/X.s₀.heap.objs.size <= b)/\b ≠ X.env.locals/\(∀x c,X.env.cells.lookup x=some c->c ≠ b)/\∀p ∈ X.pn ++ pins,p.1 ≠ b):Inv X pins σ H' s':=by
 obtain⟨h',g',d',t',o'⟩:=s';have e:o'=s.os:=ho;subst e;exact I.call (g':=g') (t':=t') (d':=d') u hok hg hch
end
abbrev XK:=Value->Option Addr->Hp->Prop
abbrev St:=List (Option V)
abbrev VK:=V->Hp->Prop
abbrev TE:=St->Hp->VK->Prop
abbrev TT:=St->Hp->(Bool->Hp->Prop)->Prop
abbrev TA:=St->Hp->(List V->Hp->Prop)->Prop
structure gT where
 nx:St->Hp->Prop
 rt:VK
 bk:St->Hp->Prop:=fun _ _=>False
 ct:St->Hp->Prop:=fun _ _=>False
abbrev TS:=gT->St->Hp->Prop
def EP(X:Cx)(pins:List (Addr × Obj))(σ:St)(Q:VK)(u:Value)(s':Shared):Prop:=∃v H',Inv X pins σ H' s'/\aT v u/\Q v H'
def TP(X:Cx)(pins:List (Addr × Obj))(σ:St)(Q:Bool->Hp->Prop)(b:Bool)(s':Shared):Prop:=∃H',Inv X pins σ H' s'/\Q b H'
def AP(X:Cx)(pins:List (Addr × Obj))(σ:St)(Q:List V->Hp->Prop)(us:List Value)(s':Shared):Prop:=∃vs H',Inv X pins σ H' s'/\aY vs us/\Q vs H'
def SP(X:Cx)(pins:List (Addr × Obj))(D:gT)(f:Flow)(s':Shared):Prop :=
 match f with
 | .next=>∃σ' H',Inv X pins σ' H' s'/\D.nx σ' H'
 | .brk=>∃σ' H',Inv X pins σ' H' s'/\D.bk σ' H'
 | .cont=>∃σ' H',Inv X pins σ' H' s'/\D.ct σ' H'
 | .ret u=>∃v σ' H',Inv X pins σ' H' s'/\aT v u/\D.rt v H'
def PE(X:Cx)(e:Expr)(t:TE):Prop :=
 ∀(pins:List (Addr × Obj)) (s:Shared) (σ:St) (H:Hp) (Q:VK),Inv X pins σ H s->t σ H Q->wpAny (model X.prog X.w) X.A (eval e X.env) (EP X pins σ Q) X.xe s
def PT(X:Cx)(e:Expr)(t:TT):Prop :=
 ∀(pins:List (Addr × Obj)) (s:Shared) (σ:St) (H:Hp) (Q:Bool->Hp->Prop),Inv X pins σ H s->t σ H Q->wpAny (model X.prog X.w) X.A (isTrue e X.env (eval e X.env)) (TP X pins σ Q) X.xe s
def PW(X:Cx)(e:Expr)(t:TT):Prop :=
 ∀(whole:Sem Value) (pins:List (Addr × Obj)) (s:Shared) (σ:St) (H:Hp) (Q:Bool->Hp->Prop),Inv X pins σ H s->t σ H Q->wpAny (model X.prog X.w) X.A (isTrue e X.env whole) (TP X pins σ Q) X.xe s
theorem PW.pt{X:Cx}{e:Expr}{t:TT}(h:PW X e t):PT X e t:=h _
def PA(X:Cx)(es:List Expr)(t:TA):Prop :=
 ∀(pos:Pos) (pins:List (Addr × Obj)) (s:Shared) (σ:St) (H:Hp) (Q:List V->Hp->Prop),Inv X pins σ H s->t σ H Q->wpAny (model X.prog X.w) X.A (spliced (backTo pos (starEach es X.env))) (AP X pins σ Q) X.xe s
def PS(X:Cx)(st:Stmt)(t:TS):Prop :=
 ∀(pins:List (Addr × Obj)) (s:Shared) (σ:St) (H:Hp) (D:gT),Inv X pins σ H s->t D σ H->wpAny (model X.prog X.w) X.A (exec st X.env) (SP X pins D) X.xe s
def PSs(X:Cx)(st:List Stmt)(t:TS):Prop :=
 ∀(pins:List (Addr × Obj)) (s:Shared) (σ:St) (H:Hp) (D:gT),Inv X pins σ H s->t D σ H->wpAny (model X.prog X.w) X.A (execs st X.env) (SP X pins D) X.xe s
theorem thn{α:Type}{t:Sem α}{Q Q':α->Shared->Prop}{M:Model}{A:Around}{E:Value->Shared->Prop}{s:Shared}(h:wpAny M A t Q E s)(hQ:∀a s,Q a s->Q' a s):wpAny M A t Q' E s:=wpAny_mono h hQ fun _ _ x=>x
section
variable{X:Cx}
def rH(i:Nat):TE:=fun σ H Q=>∃v,σ[i]?=some (some v)/\Q v H
def tC(v:V):TE:=fun _ H Q=>Q v H
theorem pe_var {i:Nat} {x:Str} {pos:Pos} (hN:X.N[i]?=some x) (hv:Vis X.env.scope x) (hd:(x == ("__debug__":Str))=false:=by decide) (hcd:(x == ("__classdict__":Str))=false:=by decide):PE X (.Name x pos) (rH i):=by
 intro pins s σ H Q I h;obtain⟨v,e,h⟩:=h;obtain⟨m,hn,hl⟩:=I.loc;obtain⟨u,r,l⟩:=hl i x v hN e hv;have fin:EP X pins σ Q u s:=⟨v,H,I,r,h⟩;rcases l with ⟨hk,hm⟩ | ⟨hk,c,hc,hcell⟩
 ·exact wpAny_Name (wpAny_loadName_local I.ok.kind hk hn hm fin) hd
 ·rcases hk with hk | hk
  ·exact wpAny_Name (wpAny_loadName_cell I.ok.kind hk hc hcell fin) hd
  ·exact wpAny_Name (wpAny_loadName_free I.ok.kind hk hc hcell fin hcd) hd
theorem ag{i j pos}:PE X (.Constant (.int i) j pos) (tC (.int i)):=fun _ _ _ H _ I h=>wpAny_Constant_int ⟨.int i,H,I.tok _,⟨_,rfl⟩,h⟩
theorem qD{b j pos}:PE X (.Constant (.bool b) j pos) (tC (.bl b)):=fun _ _ _ H _ I h=>Constant_bool ⟨.bl b,H,I,rfl,h⟩
theorem cj{j pos}:PE X (.Constant .none j pos) (tC .non):=fun _ _ _ H _ I h=>Constant_none ⟨.non,H,I,rfl,h⟩
theorem aq{x j pos}:PE X (.Constant (.str x) j pos) (tC (.str x)):=fun _ _ _ H _ I h=>Calls.Constant_str ⟨.str x,H,I.tok _,⟨_,rfl⟩,h⟩
def Gl(X:Cx)(x:Str):Prop:=X.env.kindOf x=some .globalImplicit
theorem qE{E:Value->Shared->Prop}{pins:List (Addr × Obj)}{s:Shared}{σ:St}{H:Hp}{x:Str}{u:Value}{pos:Pos}{Q:Value->Shared->Prop}(I:Inv X pins σ H s)(hg:Gl X x)(hm:X.mg x=some u)(h:Q u s)
  (hd:(x == ("__debug__":Str))=false:=by decide):wpAny (model X.prog X.w) X.A (eval (.Name x pos) X.env) Q E s :=
 Calls.Name_function_global I.ok.kind hg (Calls.loadGlobal_global (by rw[I.ok.glob];exact I.mod.glob.keeps I.bk) hm h) hd
theorem dB{E:Value->Shared->Prop}{pins:List (Addr × Obj)}{s:Shared}{σ:St}{H:Hp}{x:Str}{u:Value}{pos:Pos}{Q:Value->Shared->Prop}(I:Inv X pins σ H s)(hg:Gl X x)(hm:X.mg x=none)(hv:bootBuiltins x=some u)(h:Q u s)
  (hn:x ≠ "__name__":=by decide) (hd:(x == ("__debug__":Str))=false:=by decide):wpAny (model X.prog X.w) X.A (eval (.Name x pos) X.env) Q E s:=by
 obtain⟨mb,h1,h2⟩:=I.mod.blt;exact Calls.Name_function_global I.ok.kind hg (Calls.loadGlobal_builtin (by rw[I.ok.glob];exact I.mod.glob.keeps I.bk) hm (by rw[I.ok.blt];exact h1.keeps I.bk) ((h2 x hn).trans hv) h) hd
theorem pe_bltn {x:Str} {v:V} {u:Value} {pos:Pos} (hg:Gl X x) (hm:X.mg x=none) (hv:bootBuiltins x=some u) (r:aT v u) (hn:x ≠ "__name__":=by decide) (hd:(x == ("__debug__":Str))=false:=by decide):PE X (.Name x pos) (tC v) :=
 fun _ _ _ H _ I h=>dB I hg hm hv ⟨v,H,I,r,h⟩ hn hd
variable{a b:Expr}{ta tb:TE}{pos:Pos}
def PC(X:Cx)(op:CmpOp)(a b:Expr)(t:TE):Prop :=
 ∀(pins:List (Addr × Obj)) (s:Shared) (σ:St) (H:Hp) (Q:VK),Inv X pins σ H s->t σ H Q ->
  wpAny (model X.prog X.w) X.A (eval a X.env) (fun v s₁=>wpAny (model X.prog X.w) X.A (eval b X.env) (fun u s₂=>wpAny (model X.prog X.w) X.A (compareOp op v u) (EP X pins σ Q) X.xe s₂) X.xe s₁) X.xe s
noncomputable def tB(t:TE):TT:=fun σ H Q=>t σ H fun x H1=>∃c,x=.bl c/\Q c H1
theorem tP{op:CmpOp}{t:TE}(h:PC X op a b t)(h1:behindInMarks op b=false:=by first | exact nobehind _ (by decide) (by decide) | rfl):PT X (.Compare a [op] [b] pos) (tB t):=by
 intro pins s σ H Q I hw;refine wpAny_isTrue_Compare1 (thn (h pins s σ H _ I hw) fun v s1 h1=>thn h1 fun u s2 h2=>thn h2 fun c s3 ⟨x,H1,I1,r1,q1⟩=>?_) h1;obtain⟨d,rfl,q⟩:=q1;cases r1;exact wpAny_truthy_bool ⟨H1,I1,q⟩
theorem cb{e:Expr}{t:TE}(h:PE X e t)(he:∀whole,isTrue e X.env whole=(do let v <- whole;standAt e.pos;holding [v] (truthy v)):=by intro _;rfl):PT X e (tB t):=by
 intro pins s σ H Q I hw;refine isTrue_plain (thn (h pins s σ H _ I hw) fun v s1 ⟨x,H1,I1,r1,q1⟩=>?_) (he _);obtain⟨d,rfl,q⟩:=q1;cases r1;exact wpAny_truthy_bool ⟨H1,I1,q⟩
variable{tA tB':TT}{rest:List Expr}
noncomputable def tAnd(t u:TT):TT:=fun σ H Q=>t σ H fun c H1=>if c=true then u σ H1 Q else Q false H1
noncomputable def tOr(t u:TT):TT:=fun σ H Q=>t σ H fun c H1=>if c=true then Q true H1 else u σ H1 Q
def tNot(t:TT):TT:=fun σ H Q=>t σ H fun c H1=>Q (!c) H1
theorem iJ(ha:PT X a tA):PW X (.BoolOp .And [a] pos) tA:=by
 intro wh pins s σ H Q I h;refine isTrue_and (thn (ha pins s σ H Q I h) fun c s1 e=>?_);cases c with
 | true=>exact isTrue_and_nil e
 | false=>exact e
theorem gU(ha:PT X a tA):PW X (.BoolOp .Or [a] pos) tA:=by
 intro wh pins s σ H Q I h;refine isTrue_or (thn (ha pins s σ H Q I h) fun c s1 e=>?_);cases c with
 | false=>exact isTrue_or_nil e
 | true=>exact e
theorem kU(ha:PT X a tA)(hb:PW X (.BoolOp .And (b :: rest) pos) tB'):PW X (.BoolOp .And (a :: b :: rest) pos) (tAnd tA tB'):=by
 intro wh pins s σ H Q I h;refine isTrue_and (thn (ha pins s σ H _ I h) fun c s1 ⟨H1,I1,q1⟩=>?_);cases c with
 | true=>exact hb wh pins s1 σ H1 Q I1 q1
 | false=>exact⟨H1,I1,q1⟩
theorem io(ha:PT X a tA)(hb:PW X (.BoolOp .Or (b :: rest) pos) tB'):PW X (.BoolOp .Or (a :: b :: rest) pos) (tOr tA tB'):=by
 intro wh pins s σ H Q I h;refine isTrue_or (thn (ha pins s σ H _ I h) fun c s1 ⟨H1,I1,q1⟩=>?_);cases c with
 | true=>exact⟨H1,I1,q1⟩
 | false=>exact hb wh pins s1 σ H1 Q I1 q1
theorem eX(ha:PT X a tA):PT X (.UnaryOp .Not a pos) (tNot tA):=by
 intro pins s σ H Q I h;exact isTrue_not (ha pins s σ H (fun c H1=>Q (!c) H1) I h)
def tAndV(ta tb:TE):TE:=fun σ H Q=>ta σ H fun x H1=>∃c,x=.bl c/\if c=true then tb σ H1 Q else Q (.bl false) H1
def tOrV(ta tb:TE):TE:=fun σ H Q=>ta σ H fun x H1=>∃c,x=.bl c/\if c=true then Q (.bl true) H1 else tb σ H1 Q
theorem tQ{op}{t:TE}(h:PE X a t):PE X (.BoolOp op [a] pos) t:=fun pins s σ H Q I hw=>BoolOp_one (h pins s σ H Q I hw)
theorem pe_and(ha:PE X a ta)(hb:PE X (.BoolOp .And (b :: rest) pos) tb):PE X (.BoolOp .And (a :: b :: rest) pos) (tAndV ta tb):=by
 intro pins s σ H Q I h;refine BoolOp_and (thn (ha pins s σ H _ I h) fun v s1 ⟨x,H1,I1,r1,q1⟩=>?_);obtain⟨c,rfl,q1⟩:=q1;cases r1;refine wpAny_truthy_bool ?_;cases c with
 | true=>exact hb pins s1 σ H1 Q I1 q1
 | false=>exact⟨.bl false,H1,I1,rfl,q1⟩
theorem pe_or(ha:PE X a ta)(hb:PE X (.BoolOp .Or (b :: rest) pos) tb):PE X (.BoolOp .Or (a :: b :: rest) pos) (tOrV ta tb):=by
 intro pins s σ H Q I h;refine BoolOp_or (thn (ha pins s σ H _ I h) fun v s1 ⟨x,H1,I1,r1,q1⟩=>?_);obtain⟨c,rfl,q1⟩:=q1;cases r1;refine wpAny_truthy_bool ?_;cases c with
 | false=>exact hb pins s1 σ H1 Q I1 q1
 | true=>exact⟨.bl true,H1,I1,rfl,q1⟩
def tIf(t:TT)(ta tb:TE):TE:=fun σ H Q=>t σ H fun c H1=>if c=true then ta σ H1 Q else tb σ H1 Q
theorem tR{c:Expr}(hc:PT X c tA)(ha:PE X a ta)(hb:PE X b tb):PE X (.IfExp c a b pos) (tIf tA ta tb):=by
 intro pins s σ H Q I h;refine wpAny_IfExp (thn (hc pins s σ H _ I h) fun d s1 ⟨H1,I1,q1⟩=>?_);cases d with
 | true=>exact ha pins s1 σ H1 Q I1 q1
 | false=>exact hb pins s1 σ H1 Q I1 q1
end
def SqL(K:Frag)(H:Hp)(a:Addr)(xs:List V):Prop :=
 Rd H a (.lst xs) \/
  ∃(o:Obj)(its:Array Value)(n:Nat),K.lookup a=some o/\o.cls=.type "list" /\o.dict=none/\o.data=.seq its n/\its.size <= sizeLine/\aY xs its.toList
def SqT(K:Frag)(H:Hp)(a:Addr)(xs:List V):Prop :=
 Rd H a (.tup xs) \/
  ∃(o:Obj)(its:Array Value)(n:Nat),K.lookup a=some o/\o.cls=.type "tuple" /\o.data=.seq its n/\its.size <= sizeLine/\aY xs its.toList
noncomputable def absV:Value->Option V
 | .none=>some .non
 | .bool b=>some (.bl b)
 | .int i _=>some (.int i)
 | .str x _=>some (.str x)
 | .bytes b _=>some (.byt b)
 | .float b _=>some (.flt b)
 | .ref a=>some (.ref a)
 | .type n=>some (.ty n)
 | _=>none
theorem aT.abs{x:V}{u:Value}(r:aT x u):absV u=some x:=by
 cases x with
 | non=>cases r;rfl
 | bl _=>cases r;rfl
 | int _=>obtain⟨t,rfl⟩:=r;rfl
 | str _=>obtain⟨t,rfl⟩:=r;rfl
 | byt _=>obtain⟨t,rfl⟩:=r;rfl
 | flt _=>obtain⟨t,rfl⟩:=r;rfl
 | ref _=>cases r;rfl
 | ty _=>cases r;rfl
theorem aT.inj{x y:V}{u:Value}(r:aT x u)(q:aT y u):x=y:=Option.some.inj (r.abs.symm.trans q.abs)
theorem aY.inj:∀{xs ys:List V}{us:List Value},aY xs us->aY ys us->xs=ys
 | _,_,_,.nil,.nil=>rfl
 | _,_,_,.cons r t,.cons r' t'=>by rw[r.inj r',aY.inj t t']
section
variable{X:Cx}{pins:List (Addr × Obj)}{σ:St}{H:Hp}{s:Shared}{a:Addr}{xs ys:List V}
theorem SqL.of{K:Frag}(h:H a=some (.lst xs)):SqL K H a xs:=.inl (.inl h)
theorem SqT.of{K:Frag}(h:H a=some (.tup xs)):SqT K H a xs:=.inl (.inl h)
theorem Inv.list(I:Inv X pins σ H s)(h:SqL X.K H a xs):∃its:List Value,aY xs its/\PlainL s.heap a its.toArray/\xs.length <= sizeLine:=by
 rcases h with h | ⟨o,its,n,hk,hc,hd,hs,hz,r⟩
 ·obtain⟨z,its,n,r,e⟩:=h.ok I.hok;exact⟨its,r,⟨_,n,e,rfl,rfl,rfl⟩,z⟩
 ·refine⟨its.toList,r,⟨o,n,I.kIn a o hk,hc,hd,by simpa using hs⟩,?_⟩
  have e:=r.length;simp only[Array.length_toList]at e;lia
theorem Inv.tuple(I:Inv X pins σ H s)(h:SqT X.K H a xs):∃its:List Value,aY xs its/\IsTup s.heap a its.toArray/\xs.length <= sizeLine:=by
 rcases h with h | ⟨o,its,n,hk,hc,hs,hz,r⟩
 ·obtain⟨z,its,r,p⟩:=h.ok I.hok;exact⟨its,r,p,z⟩
 ·refine⟨its.toList,r,⟨o,I.kIn a o hk,hc,n,by simpa using hs⟩,?_⟩
  have e:=r.length;simp only[Array.length_toList]at e;lia
theorem Inv.list_inj(I:Inv X pins σ H s)(h:SqL X.K H a xs)(h':SqL X.K H a ys):xs=ys:=by
 obtain⟨its,r,⟨o,n,e,_,_,d⟩,_⟩:=I.list h;obtain⟨its',r',⟨o',n',e',_,_,d'⟩,_⟩:=I.list h';rw[e]at e';cases e';rw[d]at d';injection d' with d1 _;have:its=its':=by simpa using congrArg Array.toList d1
 subst this;exact r.inj r'
theorem Inv.tuple_inj(I:Inv X pins σ H s)(h:SqT X.K H a xs)(h':SqT X.K H a ys):xs=ys:=by
 obtain⟨its,r,⟨o,e,_,n,d⟩,_⟩:=I.tuple h;obtain⟨its',r',⟨o',e',_,n',d'⟩,_⟩:=I.tuple h';rw[e]at e';cases e';rw[d]at d';injection d' with d1 _;have:its=its':=by simpa using congrArg Array.toList d1
 subst this;exact r.inj r'
end
noncomputable abbrev Cx.wish(X:Cx)(E:Value->Shared->Prop):Cx:={ X with xe:=E }
abbrev Cx.nox(X:Cx):Cx:=X.wish fun _ _=>False
theorem Cx.Ok.wish{X:Cx}(ok:X.Ok)(E:Value->Shared->Prop):(X.wish E).Ok :=
 ⟨ok.mod,ok.kind,ok.glob,ok.blt,ok.above,ok.inj,ok.has,ok.cab,ok.hd,ok.frames,ok.stk,ok.exf,ok.bs,ok.bsz,ok.noex,ok.exfs,ok.funs,ok.frf⟩
theorem Cx.Ok.unwish{X:Cx}{E:Value->Shared->Prop}(ok:(X.wish E).Ok):X.Ok :=
 ⟨ok.mod,ok.kind,ok.glob,ok.blt,ok.above,ok.inj,ok.has,ok.cab,ok.hd,ok.frames,ok.stk,ok.exf,ok.bs,ok.bsz,ok.noex,ok.exfs,ok.funs,ok.frf⟩
section
variable{X:Cx}{pins:List (Addr × Obj)}{σ:St}{H:Hp}{s:Shared}{E:Value->Shared->Prop}
theorem Inv.wish(I:Inv X pins σ H s)(E:Value->Shared->Prop):Inv (X.wish E) pins σ H s:=⟨I.ok.wish E,I.os,I.bare,I.base,I.loc,I.cell,I.free,I.freeC,I.pin,I.hok,I.len⟩
theorem Inv.unwish(I:Inv (X.wish E) pins σ H s):Inv X pins σ H s:=⟨I.ok.unwish,I.os,I.bare,I.base,I.loc,I.cell,I.free,I.freeC,I.pin,I.hok,I.len⟩
theorem SP.unwish{D:gT}{f:Flow}{s':Shared}(h:SP (X.wish E) pins D f s'):SP X pins D f s':=by
 cases f with
 | next=>obtain⟨σ',H',I,q⟩:=h;exact⟨σ',H',I.unwish,q⟩
 | brk=>obtain⟨σ',H',I,q⟩:=h;exact⟨σ',H',I.unwish,q⟩
 | cont=>obtain⟨σ',H',I,q⟩:=h;exact⟨σ',H',I.unwish,q⟩
 | ret u=>obtain⟨v,σ',H',I,r,q⟩:=h;exact⟨v,σ',H',I.unwish,r,q⟩
theorem PSs.nox{st:List Stmt}{t:TS}(h:PSs X.nox st t):PSs X st t:=fun pins s σ H D I hw =>
 wpAny_mono (h pins s σ H D (I.wish _) hw) (fun _ _ q=>q.unwish) fun _ _ z=>False.elim z
end
section
variable{X:Cx}{st:Stmt}{rest:List Stmt}{t u:TS}{e:Expr}{te:TE}{pos:Pos}
def tNext:TS:=fun D σ H=>D.nx σ H
def tSeq(t u:TS):TS:=fun D σ H=>t { D with nx:=u D } σ H
theorem aF:PSs X [] tNext:=fun _ _ σ H _ I h=>wpAny_execs_nil ⟨σ,H,I,h⟩
theorem ac(h1:PS X st t)(h2:PSs X rest u):PSs X (st :: rest) (tSeq t u):=by
 intro pins s σ H D I h;refine wpAny_execs_cons (thn (h1 pins s σ H { D with nx:=u D } I h) fun f s1 q=>?_);cases f with
 | next =>
  obtain⟨σ',H',I',q⟩:=q;exact h2 pins s1 σ' H' D I' q
 | ret v=>exact q
 | brk=>exact q
 | cont=>exact q
theorem ai(h1:PS X st t):PSs X [st] t:=by
 intro pins s σ H D I h;refine wpAny_execs_cons (thn (h1 pins s σ H D I h) fun f s1 q=>?_);cases f with
 | next=>exact wpAny_execs_nil q
 | ret v=>exact q
 | brk=>exact q
 | cont=>exact q
def tBreak:TS:=fun D σ H=>D.bk σ H
theorem tS:PS X (.Break pos) tBreak:=fun _ _ σ H _ I h=>wpAny_Break ⟨σ,H,I,h⟩
theorem Inv.quiet{pins:List (Addr × Obj)}{σ:St}{H:Hp}{s:Shared}(I:Inv X pins σ H s):interactive X.env=false:=by simp[interactive,I.ok.kind]
def tDrop(te:TE):TS:=fun D σ H=>te σ H fun _ H1=>D.nx σ H1
theorem aZ(he:PE X e te)(hs:swapsWith e none pos.line X.env=pure false:=by rfl):PS X (.Expr e pos) (tDrop te):=by
 intro pins s σ H D I h;exact wpAny_Expr_any (thn (he pins s σ H _ I h) fun v s1 ⟨x,H1,I1,r1,q1⟩=>⟨σ,H1,I1,q1⟩) I.quiet hs
def tRet(te:TE):TS:=fun D σ H=>te σ H D.rt
theorem av(he:PE X e te):PS X (.Return (some e) pos) (tRet te):=by
 intro pins s σ H D I h;exact wpAny_Return_some (thn (he pins s σ H _ I h) fun v s1 ⟨x,H1,I1,r1,q1⟩=>⟨x,σ,H1,I1,r1,q1⟩)
def tIfS(c:TT)(t u:TS):TS:=fun D σ H=>c σ H fun b H1=>if b=true then t D σ H1 else u D σ H1
theorem bc{c:Expr}{a b:List Stmt}{tc:TT}(hc:PT X c tc)(ha:PSs X a t)(hb:PSs X b u):PS X (.If c a b pos) (tIfS tc t u):=by
 intro pins s σ H D I h;refine wpAny_If (thn (hc pins s σ H _ I h) fun d s1 ⟨H1,I1,q1⟩=>?_);cases d with
 | true=>exact ha pins s1 σ H1 D I1 q1
 | false=>exact hb pins s1 σ H1 D I1 q1
def tNever:TS:=fun _ _ _=>False
theorem bA{sts:List Stmt}:PSs X sts tNever:=fun _ _ _ _ _ _ h=>h.elim
end
abbrev TG:=V->St->Hp->(St->Hp->Prop)->Prop
abbrev TGs:=List V->St->Hp->(St->Hp->Prop)->Prop
def PG(X:Cx)(target:Expr)(t:TG):Prop :=
 ∀(pins:List (Addr × Obj)) (s:Shared) (σ:St) (H:Hp) (v:V) (u:Value) (Q:St->Hp->Prop),Inv X pins σ H s->aT v u->t v σ H Q ->
  wpAny (model X.prog X.w) X.A (assign target X.env u) (fun _ s'=>∃σ' H',Inv X pins σ' H' s'/\Q σ' H') X.xe s
def PGs(X:Cx)(ts:List Expr)(t:TGs):Prop :=
 ∀(pins:List (Addr × Obj)) (s:Shared) (σ:St) (H:Hp) (vs:List V) (us:List Value) (Q:St->Hp->Prop),Inv X pins σ H s->aY vs us->t vs σ H Q ->
  wpAny (model X.prog X.w) X.A (assignInOrder ((assignEach ts X.env).map (·.2)) us) (fun _ s'=>∃σ' H',Inv X pins σ' H' s'/\Q σ' H') X.xe s
abbrev TSet:=V->V->V->Hp->(Hp->Prop)->Prop
def PSet(X:Cx)(t:TSet):Prop :=
 ∀(pins:List (Addr × Obj)) (s:Shared) (σ:St) (H:Hp) (o i v:V) (ov iv u:Value) (Q:Hp->Prop),Inv X pins σ H s->aT o ov->aT i iv->aT v u->t o i v H Q ->
  wpAny (model X.prog X.w) X.A (setItem ov iv u) (fun _ s'=>∃H',Inv X pins σ H' s'/\Q H') X.xe s
section
variable{X:Cx}{pos:Pos}
def cG(i:Nat):TG:=fun v σ H Q=>Q (σ.set i (some v)) H
theorem aO{i:Nat}{x:Str}(hN:X.N.Nodup)(hi:X.N[i]?=some x)(hx:Loc X.env.scope x)(hf:X.fn x=true\/X.env.scope.names.lookup x=some .local:=by first | exact .inl rfl | exact .inr rfl | assumption):PG X (.Name x pos) (cG i):=by
 intro pins s σ H v u Q I r h;exact wpAny_assign_Name (mW I hN hi hx r (fun s' I'=>⟨_,H,I',h⟩) hf)
def gNil:TGs:=fun vs σ H Q=>vs=[]/\Q σ H
noncomputable def gCons(t:TG)(u:TGs):TGs:=fun vs σ H Q=>∃v r,vs=v :: r/\t v σ H fun σ' H'=>u r σ' H' Q
theorem fK:PGs X [] gNil:=by
 intro pins s σ H vs us Q I r h;obtain⟨e,h⟩:=h;subst e;cases r;exact assignInOrder_nil ⟨σ,H,I,h⟩
theorem bO{e:Expr}{es:List Expr}{t:TG}{u:TGs}(h1:PG X e t)(h2:PGs X es u)
  (hs:(assignEach (e :: es) X.env).map (·.2)=assign e X.env :: (assignEach es X.env).map (·.2):=by rfl):PGs X (e :: es) (gCons t u):=by
 intro pins s σ H vs us Q I r h;obtain⟨v,vr,e1,h⟩:=h;subst e1;cases r with
 | cons r rr =>
  rw[hs];refine assignInOrder_cons (thn (h1 pins s σ H _ _ _ I r h) fun _ s1 ⟨σ1,H1,I1,q1⟩=>?_);exact h2 pins s1 σ1 H1 _ _ Q I1 rr q1
noncomputable def gTup(K:Frag)(n:Nat)(t:TGs):TG:=fun v σ H Q=>∃a xs,v=.ref a/\SqT K H a xs/\xs.length=n/\t xs σ H Q
theorem gW{es:List Expr}{k:Nat}{t:TGs}{n:Nat}(hc:X.calm=true)(h:PGs X es t)
  (hn:(assignEach es X.env).length=n:=by rfl)(hst:(assignEach es X.env).findIdx? (·.1)=none:=by rfl):PG X (.Tuple es k pos) (gTup X.K n t):=by
 intro pins s σ H v u Q I r hw;obtain⟨a,xs,e1,hq,hl,hw⟩:=hw;subst e1;cases r;obtain⟨its,rv,ht,hz⟩:=I.tuple hq;refine assign_Tuple_tuple (I.ok.hd hc) ht (by simp[hn,<- hl,rv.length]) hst fun h' hx=>?_
 have I1:Inv X pins σ H { s with heap:=h' }:=I.kept (t':=s.toks) fun b o e=>hx b o (Nat.ne_of_lt (lt_size e)) e;exact h pins _ σ H xs _ Q I1 (by simpa using rv) hw
noncomputable def gSub(to ti:TE)(t:TSet):TG:=fun v σ H Q=>to σ H fun o H1=>ti σ H1 fun i H2=>t o i v H2 fun H3=>Q σ H3
theorem pg_sub{o i:Expr}{to ti:TE}{t:TSet}(ho:PE X o to)(hi:PE X i ti)(hs:PSet X t)
  (ha:∀v,assign (.Subscript o i pos) X.env v=(do
   let ov <- holding [v] (eval o X.env)
   let iv <- holding [v,ov] (eval i X.env)
   standAt pos
   holding [v,ov,iv] (setItem ov iv v)
   release [v,ov,iv] []):=by intro _;rfl):PG X (.Subscript o i pos) (gSub to ti t):=by
 intro pins s σ H v u Q I r h;rw[ha];refine wpAny_bind (wpAny_holding (thn (ho pins s σ H _ I h) fun ov s1 ⟨x,H1,I1,r1,q1⟩=>?_));refine wpAny_bind (wpAny_holding (thn (hi pins s1 σ H1 _ I1 q1) fun iv s2 ⟨y,H2,I2,r2,q2⟩=>?_));refine wpAny_bind (wpAny_standAt (wpAny_bind (wpAny_holding (thn (hs pins s2 σ H2 x y v ov iv u _ I2 r1 r2 r q2) fun _ s3 ⟨H3,I3,q3⟩=>?_))));exact wpAny_release ⟨σ,H3,I3,q3⟩
def tAsg(te:TE)(g:TG):TS:=fun D σ H=>te σ H fun x H1=>g x σ H1 D.nx
theorem kW{tg e:Expr}{te:TE}{g:TG}(he:PE X e te)(hg:PG X tg g)(hs:swapsWithSole [tg] e pos.line X.env=pure false:=by rfl)(hw:swappedStores [tg] e X.env=pure none:=by rfl)
  (h1:(assignEach [tg] X.env).map (·.2)=[assign tg X.env]:=by rfl):PS X (.Assign [tg] e pos) (tAsg te g):=by
 intro pins s σ H D I h;refine wpAny_Assign_stores (thn (he pins s σ H _ I h) fun v s1 ⟨x,H1,I1,r1,q1⟩=>?_) hs hw;rw[h1];exact thn (hg pins s1 σ H1 x v _ I1 r1 q1) fun _ s2 q=>q
theorem aB{i:Nat}{x:Str}{e:Expr}{te:TE}{pos':Pos}(hN:X.N.Nodup)(hi:X.N[i]?=some x)(hx:Loc X.env.scope x)(he:PE X e te)(hs:swapsWith e (some (.Name x pos')) pos.line X.env=pure false:=by rfl)(hf:X.fn x=true\/X.env.scope.names.lookup x=some .local:=by first | exact .inl rfl | exact .inr rfl | assumption) :
  PS X (.Assign [.Name x pos'] e pos) (tAsg te (cG i)):=by
 intro pins s σ H D I h;refine wpAny_Assign_Name (thn (he pins s σ H _ I h) fun v s1 ⟨y,H1,I1,r1,q1⟩=>?_) hs;exact mW I1 hN hi hx r1 (fun s2 I2=>⟨_,H1,I2,q1⟩) hf
end
section
variable{X:Cx}{pos:Pos}
end
structure It where
 go:Nat->Hp->Prop
 yld:Nat->Hp->V->Hp->Prop
 stop:Nat->Hp->Prop
def jX(X:Cx)(pins:List (Addr × Obj))(H:Hp)(b:Addr):Prop :=
 H b=none/\b ≠ X.env.locals/\b ∉ X.fs/\(b ∈ X.ex\/X.s₀.heap.objs.size <= b)/\(∀x c,X.env.cells.lookup x=some c->c ≠ b)/\∀p ∈ X.pn ++ pins,p.1 ≠ b
theorem Inv.fpOk{X:Cx}{pins:List (Addr × Obj)}{σ:St}{H H':Hp}{s:Shared}{b:Addr}(I:Inv X pins σ H s)(hb:s.heap.objs.size <= b)(hn:H' b=none):jX X pins H' b:=by
 refine⟨hn,Nat.ne_of_gt (Nat.lt_of_lt_of_le I.lt hb),I.nofs hb,.inr (Nat.le_trans I.sz hb),fun x c e z=>?_,fun p hp z=>?_⟩
 ·obtain⟨v,q⟩:=I.cell x c e;exact absurd (Nat.lt_of_lt_of_le q.lt (by rw[z];exact hb)) (Nat.lt_irrefl _)
 ·exact absurd (Nat.lt_of_lt_of_le (lt_size (I.pin p hp).1) (by rw[z];exact hb)) (Nat.lt_irrefl _)
structure kX(P:Program)(w:World)(K:Frag)(tg:Expr)(J:It)(fp:List Addr)(it:Addr)(tn:Nat->Heap->Prop):Prop where
 mem:it ∈ fp
 obj:∀i h,tn i h->∀b ∈ fp,∃o,h.get? b=some o/\∀v,o.data ≠ .cell v
 keep:∀i h h',tn i h->(∀b ∈ fp,∀o,h.get? b=some o->h'.get? b=some o)->tn i h'
 item:∀(X:Cx),X.prog=P->X.w=w->X.K=K->X.calm=true->∀(i:Nat) (pins:List (Addr × Obj)) (s:Shared) (σ:St) (H:Hp) (E:Value->Shared->Prop),Inv X pins σ H s->(∀b ∈ fp,jX X pins H b)->tn i s.heap->J.go i H ->
  wpAny (model P w) X.A (pyNext (.ref it)) (fun r s1=>∃u,r=some u /\
   wpAny (model P w) X.A (letOwnedTupleGo tg (.ref it) u) (fun _ s2=>∃x H',Inv X pins σ H' s2/\aT x u/\J.yld i H x H'/\tn (i + 1) s2.heap/\∀b ∈ fp,H' b=none) E s1) E s
 done:∀(X:Cx),X.prog=P->X.w=w->X.K=K->X.calm=true->∀(i:Nat) (pins:List (Addr × Obj)) (s:Shared) (σ:St) (H:Hp) (E:Value->Shared->Prop),Inv X pins σ H s->(∀b ∈ fp,jX X pins H b)->tn i s.heap->J.stop i H ->
  wpAny (model P w) X.A (pyNext (.ref it)) (fun r s1=>r=none/\Inv X pins σ H s1) E s
 self:∀(A:Around)(i:Nat)(s:Shared)(Q:Value->Shared->Prop)(E:Value->Shared->Prop),tn i s.heap->Q (.ref it) s->wpAny (model P w) A (pyIter (.ref it)) Q E s
abbrev TI:=St->Hp->(It->Hp->Prop)->Prop
def PIE(X:Cx)(pins:List (Addr × Obj))(σ:St)(tg:Expr)(R:It->Hp->Prop)(itv:Value)(s2:Shared):Prop :=
 ∃(it:Addr)(fp:List Addr)(tn:Nat->Heap->Prop)(J:It)(H':Hp),itv=.ref it/\Inv X pins σ H' s2/\kX X.prog X.w X.K tg J fp it tn/\tn 0 s2.heap/\(∀b ∈ fp,jX X pins H' b)/\R J H'
def PI(X:Cx)(tg iter:Expr)(wi:TI):Prop :=
 ∀(pins:List (Addr × Obj)) (s:Shared) (σ:St) (H:Hp) (R:It->Hp->Prop),Inv X pins σ H s->wi σ H R ->
  wpAny (model X.prog X.w) X.A (eval iter X.env) (fun v s1=>wpAny (model X.prog X.w) X.A (pyIter v) (PIE X pins σ tg R) X.xe s1) X.xe s
theorem ip{M:Model}{A:Around}{E:Value->Shared->Prop}{s:Shared}{tg:Expr}{it:Addr}{u:Value}{o:Obj}{n:String}{vs:Array Value}{Q:Unit->Shared->Prop}(ho:s.heap.get? it=some o)(hc:o.cls=.type n)(hd:o.data=.fields vs)
  (hn:["enumerate","zip","dict_itemiterator","dict_reverseitemiterator","odict_iterator","itertools.zip_longest","itertools.pairwise"].contains n=false) (hQ:Q () s):wpAny M A (letOwnedTupleGo tg (.ref it) u) Q E s:=by
 unfold letOwnedTupleGo;cases tg <;> first
  | exact wpAny_pure hQ
  | (cases u <;> first
    | exact wpAny_pure hQ
    | (refine wpAny_bind (wpAny_load ho ?_)
       rw[hc,hd];show wpAny M A (if (["enumerate","zip","dict_itemiterator","dict_reverseitemiterator","odict_iterator","itertools.zip_longest","itertools.pairwise"].contains n && vs[0]? == some (rawInt _))=true then _ else _) Q E s
       rw[if_neg (by intro h;rw[hn,Bool.false_and]at h;cases h)]
       exact wpAny_pure hQ))
noncomputable def Itl(K:Frag)(a:Addr):It :=
 ⟨fun i H=>∃xs x,SqL K H a xs/\xs[i]?=some x,fun i H x H'=>H'=H/\∀xs,SqL K H a xs->xs[i]?=some x,fun i H=>∃xs,SqL K H a xs/\xs.length <= i⟩
noncomputable def Itt(K:Frag)(a:Addr):It :=
 ⟨fun i H=>∃xs x,SqT K H a xs/\xs[i]?=some x,fun i H x H'=>H'=H/\∀xs,SqT K H a xs->xs[i]?=some x,fun i H=>∃xs,SqT K H a xs/\xs.length <= i⟩
noncomputable def Itr(lo:Int)(n:Nat):It:=⟨fun i _=>i < n,fun i H x H'=>H'=H/\x=.int (lo + i),fun i _=>n <= i⟩
theorem rJ{P:Program}{w:World}{K:Frag}{tg:Expr}(a it:Addr):kX P w K tg (Itl K a) [it] it (fun i h=>h.IsListIter it a i) where
 mem:=by simp
 obj:=fun i h st b hb=>by
  have e:b=it:=by simpa using hb
  subst e;obtain⟨o,e,c,d⟩:=st;exact⟨o,e,fun v z=>by rw[d]at z;cases z⟩
 keep:=fun i h h' st k=>st.at fun o e=>k it (by simp) o e
 item:=by
  intro X hP hw hK hc i pins s σ H E I hf st hg;subst hP hw hK;obtain⟨xs,x,hq,hx⟩:=hg;obtain⟨its,rv,p,hz⟩:=I.list hq;obtain⟨u,hu,ru⟩:=rv.get hx;obtain⟨f0,f1,f2,f3,f4,f5⟩:=hf it (by simp)
  refine wpAny_pyNext_list_item st p.isList (x:=u) (by simpa using hu) fun h' st' sb=>?_
  have I1:Inv X pins σ H { s with heap:=h' }:=I.turned (t':=s.toks) (fun b o hb e=>(sb.2 b hb).trans e) f0 f1 f3 f4 f5;obtain⟨o,e,c,d⟩:=id st';exact⟨u,rfl,ip (s:={ s with heap:=h' }) e c d (by decide) ⟨x,H,I1,ru,⟨rfl,fun ys hy=>by rw[I.list_inj hy hq];exact hx⟩,st',fun b hb=>(hf b hb).1⟩⟩
 done:=by
  intro X hP hw hK hc i pins s σ H E I hf st hg;subst hP hw hK;obtain⟨xs,hq,hx⟩:=hg;obtain⟨its,rv,p,hz⟩:=I.list hq;obtain⟨f0,f1,f2,f3,f4,f5⟩:=hf it (by simp)
  have hl:=rv.length;exact wpAny_pyNext_list_end (I.ok.hd hc) st p.isList (by simp;lia) fun h' eb=>⟨rfl,I.turned (t':=s.toks) (fun b o hb e=>eb b o hb e) f0 f1 f3 f4 f5⟩
 self:=fun _ _ _ _ _ st h=>wpAny_pyIter_listiter st h
theorem oM{P:Program}{w:World}{K:Frag}{tg:Expr}(a it:Addr):kX P w K tg (Itt K a) [it] it (fun i h=>h.IsTupleIter it a i) where
 mem:=by simp
 obj:=fun i h st b hb=>by
  have e:b=it:=by simpa using hb
  subst e;obtain⟨o,e,c,d⟩:=st;exact⟨o,e,fun v z=>by rw[d]at z;cases z⟩
 keep:=fun i h h' st k=>st.at fun o e=>k it (by simp) o e
 item:=by
  intro X hP hw hK hc i pins s σ H E I hf st hg;subst hP hw hK;obtain⟨xs,x,hq,hx⟩:=hg;obtain⟨its,rv,p,hz⟩:=I.tuple hq;obtain⟨u,hu,ru⟩:=rv.get hx;obtain⟨f0,f1,f2,f3,f4,f5⟩:=hf it (by simp)
  refine wpAny_pyNext_tuple_item st (show s.heap.IsTuple a its.toArray from p) (x:=u) (by simpa using hu) fun h' st' sb=>?_
  have I1:Inv X pins σ H { s with heap:=h' }:=I.turned (t':=s.toks) (fun b o hb e=>(sb.2 b hb).trans e) f0 f1 f3 f4 f5;obtain⟨o,e,c,d⟩:=id st';exact⟨u,rfl,ip (s:={ s with heap:=h' }) e c d (by decide) ⟨x,H,I1,ru,⟨rfl,fun ys hy=>by rw[I.tuple_inj hy hq];exact hx⟩,st',fun b hb=>(hf b hb).1⟩⟩
 done:=by
  intro X hP hw hK hc i pins s σ H E I hf st hg;subst hP hw hK;obtain⟨xs,hq,hx⟩:=hg;obtain⟨its,rv,p,hz⟩:=I.tuple hq;obtain⟨f0,f1,f2,f3,f4,f5⟩:=hf it (by simp)
  have hl:=rv.length;exact wpAny_pyNext_tuple_end (I.ok.hd hc) st (show s.heap.IsTuple a its.toArray from p) (by simp;lia) fun h' eb=>⟨rfl,I.turned (t':=s.toks) (fun b o hb e=>eb b o hb e) f0 f1 f3 f4 f5⟩
 self:=fun _ _ _ _ _ st h=>wpAny_pyIter_tupleiter st h
theorem oN{P:Program}{w:World}{K:Frag}{tg:Expr}(it:Addr)(lo:Int)(n:Nat):kX P w K tg (Itr lo n) [it] it (fun i h=>IsRangeIter h it (lo + (i:Nat) * 1) ((n:Int) - (i:Nat)) 1) where
 mem:=by simp
 obj:=fun i h st b hb=>by
  have e:b=it:=by simpa using hb
  subst e;exact⟨_,st,fun v z=>by
   have z':Data.fields _=Data.cell v:=z;cases z'⟩
 keep:=fun i h h' st k=>k it (by simp) _ st
 item:=by
  intro X hP hw hK hc i pins s σ H E I hf st hg;subst hP hw hK;obtain⟨f0,f1,f2,f3,f4,f5⟩:=hf it (by simp)
  have W:=Walks.range (prog:=X.prog) (w:=X.w) (I.ok.hd hc) it lo 1 n;refine W.item i s _ _ hg st fun v h' tk hv st' kk=>?_;obtain⟨t,rfl⟩:=hv;have I1:Inv X pins σ H { s with heap:=h',toks:=tk }:=I.turned (fun b o hb e=>kk b o (by simpa using hb) e) f0 f1 f3 f4 f5
  refine⟨_,rfl,ip (s:={ s with heap:=h',toks:=tk }) (n:="range_iterator") st' rfl rfl (by decide) ⟨.int (lo + i),H,I1,⟨t,?_⟩,⟨rfl,rfl⟩,st',fun b hb=>(hf b hb).1⟩⟩
  rw[Int.mul_one]
 done:=by
  intro X hP hw hK hc i pins s σ H E I hf st hg;subst hP hw hK;obtain⟨f0,f1,f2,f3,f4,f5⟩:=hf it (by simp)
  exact wpAny_pyNext_range_end (I.ok.hd hc) st (by have:n <= i:=hg;lia) fun h' eb=>⟨rfl,I.turned (t':=s.toks) (fun b o hb e=>eb b o hb e) f0 f1 f3 f4 f5⟩
 self:=fun _ _ _ _ _ st h=>wpAny_pyIter_rangeiter st h
section
variable{X:Cx}{tg:Expr}
noncomputable def iList(K:Frag)(tl:TE):TI:=fun σ H R=>tl σ H fun x H1=>∃a,x=.ref a/\(∃xs,SqL K H1 a xs)/\R (Itl K a) H1
noncomputable def iTup(K:Frag)(tl:TE):TI:=fun σ H R=>tl σ H fun x H1=>∃a,x=.ref a/\(∃xs,SqT K H1 a xs)/\R (Itt K a) H1
theorem ej{l:Expr}{tl:TE}(hl:PE X l tl):PI X tg l (iList X.K tl):=by
 intro pins s σ H R I h;refine thn (hl pins s σ H _ I h) fun v s1 ⟨x,H1,I1,r1,q1⟩=>?_;obtain⟨a,e,⟨xs,hq⟩,q⟩:=q1;subst e;cases r1;obtain⟨its,rv,p,hz⟩:=I1.list hq;refine wpAny_pyIter_list p.isList ?_;refine⟨s1.heap.objs.size,[s1.heap.objs.size],_,_,H1,rfl,I1.kept (t':=s1.toks) fun b o e=>get?_push_of_some _ e,rJ a _,⟨_,get?_push_size _ rfl,rfl,rfl⟩,fun b hb=>?_,q⟩
 have e:b=s1.heap.objs.size:=by simpa using hb
 subst e;exact I1.fpOk (Nat.le_refl _) (I1.hok.fresh (Nat.le_refl _))
theorem dQ{l:Expr}{tl:TE}(hl:PE X l tl):PI X tg l (iTup X.K tl):=by
 intro pins s σ H R I h;refine thn (hl pins s σ H _ I h) fun v s1 ⟨x,H1,I1,r1,q1⟩=>?_;obtain⟨a,e,⟨xs,hq⟩,q⟩:=q1;subst e;cases r1;obtain⟨its,rv,p,hz⟩:=I1.tuple hq;refine wpAny_pyIter_tuple (show s1.heap.IsTuple a its.toArray from p) ?_;refine⟨s1.heap.objs.size,[s1.heap.objs.size],_,_,H1,rfl,I1.kept (t':=s1.toks) fun b o e=>get?_push_of_some _ e,oM a _,⟨_,get?_push_size _ rfl,rfl,rfl⟩,fun b hb=>?_,q⟩
 have e:b=s1.heap.objs.size:=by simpa using hb
 subst e;exact I1.fpOk (Nat.le_refl _) (I1.hok.fresh (Nat.le_refl _))
theorem tT{pins:List (Addr × Obj)}{σ:St}{H:Hp}{s:Shared}{R:It->Hp->Prop}{E:Value->Shared->Prop}{lo hi:Int}{t u v:Tok}{tk:Nat}(I:Inv X pins σ H s)(h1:-(2 ^ 62) <= lo)(h2:lo < 2 ^ 62)(h3:-(2 ^ 62) <= hi)(h4:hi < 2 ^ 62)
  (q:R (Itr lo (hi - lo).toNat) H):wpAny (model X.prog X.w) X.A (pyIter (.ref s.heap.objs.size)) (PIE X pins σ tg R) E { s with heap:=s.heap.push { cls:=.type "range",data:=.fields #[.int lo t,.int hi u,.int 1 v] },toks:=tk }:=by
 refine wpAny_pyIter_range (IsRange.new ..) (small_one h1 h2 h3 h4) ?_;have I1:Inv X pins σ H { s with heap:=s.heap.push { cls:=.type "range",data:=.fields #[.int lo t,.int hi u,.int 1 v] },toks:=tk }:=I.kept fun b o e=>get?_push_of_some _ e;refine⟨(s.heap.push { cls:=.type "range",data:=.fields #[.int lo t,.int hi u,.int 1 v] }).objs.size,[(s.heap.push { cls:=.type "range",data:=.fields #[.int lo t,.int hi u,.int 1 v] }).objs.size],_,_,H,rfl,
  I1.kept (t':=tk) fun b o e=>get?_push_of_some _ e,oN _ lo (hi - lo).toNat,?_,fun b hb=>?_,q⟩
 ·have e1:lo + ((0:Nat):Int) * 1=lo:=by simp
  have e2:(((hi - lo).toNat:Nat):Int) - ((0:Nat):Int)=Builtin.Range.rangeSize lo hi 1:=by rw[rangeSize_one];split <;> lia
  show IsRangeIter _ _ (lo + ((0:Nat):Int) * 1) ((((hi - lo).toNat:Nat):Int) - ((0:Nat):Int)) 1;rw[e1,e2];exact get?_push_size _ rfl
 ·have e:b=(s.heap.push { cls:=.type "range",data:=.fields #[.int lo t,.int hi u,.int 1 v] }).objs.size:=by simpa using hb
  subst e;exact I1.fpOk (Nat.le_refl _) (I1.hok.fresh (Nat.le_refl _))
noncomputable def iRng1(ta:TA):TI:=fun σ H R=>ta σ H fun vs H1=>∃j:Int,vs=[.int j]/\-(2 ^ 62) <= j/\j < 2 ^ 62/\R (Itr 0 j.toNat) H1
theorem cV {a:Expr} {ta:TA} {p pos:Pos} (hg:Gl X "range") (hm:X.mg "range"=none) (ha:PA X [a] ta) (hs:starEach [a] X.env=[(false,eval a X.env)]:=by rfl):PI X tg (.Call (.Name "range" p) [a] [] pos) (iRng1 ta):=by
 intro pins s σ H R I h;refine Call_ (dB I hg hm boot_range (PyProof.Rows.callWith_type1 (thn (ha pos pins s σ H _ I h) fun us s1 ⟨vs,H1,I1,r1,q1⟩=>?_) hs rfl));obtain⟨j,e,q1,q2,q⟩:=q1;subst e;cases r1 with
 | cons r rr =>
  cases rr;obtain⟨t,rfl⟩:=r;exact call_range_1 (tT I1 (by lia) (by lia) q1 q2 (by simpa using q))
def tFor(wi:TI)(g:TG)(tb:TS):TS:=fun D σ H=>wi σ H fun J H1=>∃W:Nat->Nat->St->Hp->Prop,(∃m,W 0 m σ H1)/\∀i m σ H,W i m σ H ->
 (J.stop i H/\D.nx σ H)\/(J.go i H/\∃N:St->Hp->Prop,(∀σ' H',N σ' H'->∃m',m' < m/\W (i + 1) m' σ' H')/\∀x H',J.yld i H x H'->g x σ H' fun σ2 H2=>tb { D with nx:=N,ct:=N,bk:=D.nx } σ2 H2)
noncomputable def i0(fp:List Addr)(h:Heap):List (Addr × Obj):=fp.filterMap fun b=>(h.get? b).map fun o=>(b,o)
theorem eu{fp:List Addr}{h:Heap}{b:Addr}{o:Obj}(hb:b ∈ fp)(e:h.get? b=some o):(b,o) ∈ i0 fp h:=List.mem_filterMap.mpr ⟨b,hb,by rw[e];rfl⟩
theorem rK{fp:List Addr}{h:Heap}{p:Addr × Obj}(hp:p ∈ i0 fp h):p.1 ∈ fp/\h.get? p.1=some p.2:=by
 obtain⟨b,hb,e⟩:=List.mem_filterMap.mp hp;cases q:h.get? b with
 | none=>rw[q]at e;cases e
 | some o =>
  rw[q]at e;have e':(b,o)=p:=Option.some.inj e;subst e';exact⟨hb,q⟩
theorem Inv.pinned{pins:List (Addr × Obj)}{σ:St}{H:Hp}{s:Shared}{fp:List Addr}(I:Inv X pins σ H s)(hf:∀b ∈ fp,jX X pins H b)(ho:∀b ∈ fp,∃o,s.heap.get? b=some o/\∀v,o.data ≠ .cell v):Inv X (pins ++ i0 fp s.heap) σ H s :=
 I.pins_of fun p hp=>(mem_append.mp hp).elim (fun z=>I.pin p (List.mem_append_right _ z)) fun z=>by
  obtain⟨hb,e⟩:=rK z;obtain⟨f0,f1,f2,_⟩:=hf p.1 hb;obtain⟨o,e',d⟩:=ho p.1 hb;rw[e]at e';cases e';exact⟨e,f0,f1,f2,d⟩
theorem Inv.unpinned{pins pl:List (Addr × Obj)}{σ:St}{H:Hp}{s:Shared}(I:Inv X (pins ++ pl) σ H s):Inv X pins σ H s:=I.pins_of fun p hp=>I.pin p (List.mem_append_right _ (List.mem_append_left _ hp))
theorem cD{iter:Expr}{body:List Stmt}{wi:TI}{g:TG}{tb:TS}{pos:Pos}(hp:PassesOwn (model X.prog X.w) X.A X.env X.xe)(hc:X.calm=true)(hi:PI X tg iter wi)(hg:PG X tg g)(hb:PSs X body tb)
  (hs:∀x,foldedSetIterable iter X.env x=pure x:=by intro _;rfl):PS X (.For tg iter body [] pos) (tFor wi g tb):=by
 intro pins s σ H D I h;refine wpAny_For (thn (hi pins s σ H _ I h) fun v s1 h1=>thn h1 fun itv s2 h2=>?_) hs;obtain⟨it,fp,tn,J,H2,e,I2,T,st2,f2,W,⟨m0,w0⟩,turn⟩:=h2;subst e;have stat:∀{H':Hp},(∀b ∈ fp,H' b=none)->∀b ∈ fp,jX X pins H' b:=fun hn b hb=>⟨hn b hb,(f2 b hb).2⟩;refine codeAny_forLoop_any (fun n s'=>∃i σ' H',Inv X pins σ' H' s'/\tn i s'.heap/\(∀b ∈ fp,H' b=none)/\W i n σ' H') ?_ m0 ⟨0,σ,H2,I2,st2,fun b hb=>(f2 b hb).1,w0⟩;rintro n s3 ⟨i,σ3,H3,I3,st3,fr3,w3⟩;rcases turn i n σ3 H3 w3 with ⟨stop,qn⟩ | ⟨go,N,hN,step⟩
 ·refine wpAny_passesOwn hp (thn (T.done X rfl rfl rfl hc i pins s3 σ3 H3 X.xe I3 (stat fr3) st3 stop) fun r s4 ⟨hr,I4⟩=>?_);subst hr;exact wpAny_execs_nil ⟨σ3,H3,I4,qn⟩
 ·refine wpAny_passesOwn hp (thn (T.item X rfl rfl rfl hc i pins s3 σ3 H3 X.xe I3 (stat fr3) st3 go) fun r s4 ⟨u,hr,h4⟩=>?_);subst hr;refine wpAny_passesOwn hp (thn h4 fun _ s5 ⟨x,H5,I5,r5,y5,st5,fr5⟩=>?_);have I5':=I5.pinned (stat fr5) (T.obj _ _ st5);refine wpAny_passesOwn hp (thn (hg _ s5 σ3 H5 x u _ I5' r5 (step x H5 y5)) fun _ s6 ⟨σ6,H6,I6,q6⟩=>?_);refine wpAny_passesOwn hp (thn (hb _ s6 σ6 H6 _ I6 q6) fun f s7 q7=>?_);have again:∀{σ7:St}{H7:Hp},Inv X (pins ++ i0 fp s5.heap) σ7 H7 s7->N σ7 H7->∃m,m < n/\∃i σ' H',Inv X pins σ' H' s7/\tn i s7.heap/\(∀b ∈ fp,H' b=none)/\W i m σ' H':=fun {σ7 H7} I7 n7=>by
   obtain⟨m',hm,w7⟩:=hN σ7 H7 n7;refine⟨m',hm,i + 1,σ7,H7,I7.unpinned,T.keep _ _ _ st5 fun b hb o e=>(I7.pin (b,o) (List.mem_append_right _ (List.mem_append_right _ (eu hb e)))).1,fun b hb=>?_,w7⟩;obtain⟨o,e,d⟩:=T.obj _ _ st5 b hb;exact(I7.pin (b,o) (List.mem_append_right _ (List.mem_append_right _ (eu hb e)))).2.1
  cases f with
  | next=>obtain⟨σ7,H7,I7,n7⟩:=q7;exact again I7 n7
  | cont=>obtain⟨σ7,H7,I7,n7⟩:=q7;exact again I7 n7
  | brk=>obtain⟨σ7,H7,I7,q7⟩:=q7;exact⟨σ7,H7,I7.unpinned,q7⟩
  | ret v=>obtain⟨x7,σ7,H7,I7,r7,q7⟩:=q7;exact⟨x7,σ7,H7,I7.unpinned,r7,q7⟩
end
theorem mX{K:Frag}{a:Addr}{xs:List V}{g:TG}{tb:TS}{D:gT}{σ:St}{H:Hp}(Pv:Nat->St->Hp->Prop)(h0:Pv 0 σ H)(hl:∀i σ H,i <= xs.length->Pv i σ H->SqL K H a xs)
  (hs:∀i x σ H,xs[i]?=some x->Pv i σ H->g x σ H fun σ2 H2=>tb { D with nx:=Pv (i + 1),ct:=Pv (i + 1),bk:=D.nx } σ2 H2)(hd:∀σ H,Pv xs.length σ H->D.nx σ H) :
  ∃W:Nat->Nat->St->Hp->Prop,(∃m,W 0 m σ H)/\∀i m σ H,W i m σ H ->
   ((Itl K a).stop i H/\D.nx σ H)\/((Itl K a).go i H/\∃N:St->Hp->Prop,(∀σ' H',N σ' H'->∃m',m' < m/\W (i + 1) m' σ' H')/\∀x H',(Itl K a).yld i H x H'->g x σ H' fun σ2 H2=>tb { D with nx:=N,ct:=N,bk:=D.nx } σ2 H2):=by
 refine⟨fun i m σ H=>m=xs.length - i/\i <= xs.length/\Pv i σ H,⟨xs.length,by simp,Nat.zero_le _,h0⟩,?_⟩
 rintro i m σ H ⟨rfl,hi,p⟩;have q:=hl i σ H hi p;by_cases hlt:i < xs.length
 ·refine .inr ⟨⟨xs,xs[i],q,by simp[hlt]⟩,Pv (i + 1),fun σ' H' p'=>⟨xs.length - (i + 1),by lia,rfl,hlt,p'⟩,fun x H' y=>?_⟩
  obtain⟨e,y⟩:=y;subst e;exact hs i x σ _ (y xs q) p
 ·have e:i=xs.length:=by lia
  subst e;exact .inl ⟨⟨xs,q,Nat.le_refl _⟩,hd σ H p⟩
theorem fM{K:Frag}{a:Addr}{xs:List V}{g:TG}{tb:TS}{D:gT}{σ:St}{H:Hp}(Pv:Nat->St->Hp->Prop)(h0:Pv 0 σ H)(hl:∀i σ H,i <= xs.length->Pv i σ H->SqT K H a xs)
  (hs:∀i x σ H,xs[i]?=some x->Pv i σ H->g x σ H fun σ2 H2=>tb { D with nx:=Pv (i + 1),ct:=Pv (i + 1),bk:=D.nx } σ2 H2)(hd:∀σ H,Pv xs.length σ H->D.nx σ H) :
  ∃W:Nat->Nat->St->Hp->Prop,(∃m,W 0 m σ H)/\∀i m σ H,W i m σ H ->
   ((Itt K a).stop i H/\D.nx σ H)\/((Itt K a).go i H/\∃N:St->Hp->Prop,(∀σ' H',N σ' H'->∃m',m' < m/\W (i + 1) m' σ' H')/\∀x H',(Itt K a).yld i H x H'->g x σ H' fun σ2 H2=>tb { D with nx:=N,ct:=N,bk:=D.nx } σ2 H2):=by
 refine⟨fun i m σ H=>m=xs.length - i/\i <= xs.length/\Pv i σ H,⟨xs.length,by simp,Nat.zero_le _,h0⟩,?_⟩
 rintro i m σ H ⟨rfl,hi,p⟩;have q:=hl i σ H hi p;by_cases hlt:i < xs.length
 ·refine .inr ⟨⟨xs,xs[i],q,by simp[hlt]⟩,Pv (i + 1),fun σ' H' p'=>⟨xs.length - (i + 1),by lia,rfl,hlt,p'⟩,fun x H' y=>?_⟩
  obtain⟨e,y⟩:=y;subst e;exact hs i x σ _ (y xs q) p
 ·have e:i=xs.length:=by lia
  subst e;exact .inl ⟨⟨xs,q,Nat.le_refl _⟩,hd σ H p⟩
theorem fN{lo:Int}{n:Nat}{g:TG}{tb:TS}{D:gT}{σ:St}{H:Hp}(Pv:Nat->St->Hp->Prop)(h0:Pv 0 σ H)
  (hs:∀i σ H,i < n->Pv i σ H->g (.int (lo + i)) σ H fun σ2 H2=>tb { D with nx:=Pv (i + 1),ct:=Pv (i + 1),bk:=D.nx } σ2 H2)(hd:∀σ H,Pv n σ H->D.nx σ H) :
  ∃W:Nat->Nat->St->Hp->Prop,(∃m,W 0 m σ H)/\∀i m σ H,W i m σ H ->
   ((Itr lo n).stop i H/\D.nx σ H)\/((Itr lo n).go i H/\∃N:St->Hp->Prop,(∀σ' H',N σ' H'->∃m',m' < m/\W (i + 1) m' σ' H')/\∀x H',(Itr lo n).yld i H x H'->g x σ H' fun σ2 H2=>tb { D with nx:=N,ct:=N,bk:=D.nx } σ2 H2):=by
 refine⟨fun i m σ H=>m=n - i/\i <= n/\Pv i σ H,⟨n,by simp,Nat.zero_le _,h0⟩,?_⟩
 rintro i m σ H ⟨rfl,hi,p⟩;by_cases hlt:i < n
 ·refine .inr ⟨hlt,Pv (i + 1),fun σ' H' p'=>⟨n - (i + 1),by lia,rfl,hlt,p'⟩,fun x H' y=>?_⟩
  obtain⟨e,y⟩:=y;subst e y;exact hs i σ _ hlt p
 ·have e:i=n:=by lia
  subst e;exact .inl ⟨Nat.le_refl _,hd σ H p⟩
abbrev R2:=V->V->Hp->VK->Prop
def OpR(X:Cx)(f:Value->Value->Sem Value)(r:R2):Prop :=
 ∀(pins:List (Addr × Obj)) (s:Shared) (σ:St) (H:Hp) (x y:V) (v u:Value) (Q:VK),Inv X pins σ H s->aT x v->aT y u->r x y H Q ->
  wpAny (model X.prog X.w) X.A (f v u) (EP X pins σ Q) X.xe s
def UnR(X:Cx)(f:Value->Sem Value)(r:V->Hp->VK->Prop):Prop :=
 ∀(pins:List (Addr × Obj)) (s:Shared) (σ:St) (H:Hp) (x:V) (v:Value) (Q:VK),Inv X pins σ H s->aT x v->r x H Q ->
  wpAny (model X.prog X.w) X.A (f v) (EP X pins σ Q) X.xe s
def eO(X:Cx)(f:Value)(r:List V->Hp->VK->Prop):Prop :=
 ∀(pins:List (Addr × Obj)) (s:Shared) (σ:St) (H:Hp) (xs:List V) (us:List Value) (Q:VK),Inv X pins σ H s->aY xs us->r xs H Q ->
  wpAny (model X.prog X.w) X.A (call f us) (EP X pins σ Q) X.xe s
def TruR(X:Cx)(r:V->Hp->(Bool->Hp->Prop)->Prop):Prop :=
 ∀(pins:List (Addr × Obj)) (s:Shared) (σ:St) (H:Hp) (x:V) (v:Value) (Q:Bool->Hp->Prop),Inv X pins σ H s->aT x v->r x H Q ->
  wpAny (model X.prog X.w) X.A (truthy v) (TP X pins σ Q) X.xe s
def tOp(r:R2)(ta tb:TE):TE:=fun σ H Q=>ta σ H fun x H1=>tb σ H1 fun y H2=>r x y H2 Q
def tUn(r:V->Hp->VK->Prop)(ta:TE):TE:=fun σ H Q=>ta σ H fun x H1=>r x H1 Q
noncomputable def rI(C:Int->Int->Prop)(g:Int->Int->V):R2:=fun x y H Q=>∃i j,x=.int i/\y=.int j/\C i j/\Q (g i j) H
noncomputable def rI0(g:Int->Int->V):R2:=fun x y H Q=>∃i j,x=.int i/\y=.int j/\Q (g i j) H
def rU(g:Int->V):V->Hp->VK->Prop:=fun x H Q=>∃i,x=.int i/\Q (g i) H
section
variable{X:Cx}{a b c:Expr}{ta tb tc:TE}{pos:Pos}
theorem binT(ha:PE X a ta)(hb:PE X b tb){pins:List (Addr × Obj)}{s:Shared}{σ:St}{H:Hp}{R:V->V->Hp->Prop}(I:Inv X pins σ H s)
  (h:ta σ H fun x H1=>tb σ H1 fun y H2=>R x y H2){Q:Value->Shared->Prop}{f:Value->Value->Sem Value}
  (hf:∀v u s2 x y H2,Inv X pins σ H2 s2->aT x v->aT y u->R x y H2->wpAny (model X.prog X.w) X.A (f v u) Q X.xe s2) :
  wpAny (model X.prog X.w) X.A (eval a X.env) (fun v s₁=>wpAny (model X.prog X.w) X.A (eval b X.env) (fun u s₂=>wpAny (model X.prog X.w) X.A (f v u) Q X.xe s₂) X.xe s₁) X.xe s:=by
 refine thn (ha pins s σ H _ I h) fun v s1 ⟨x,H1,I1,r1,q1⟩=>?_;refine thn (hb pins s1 σ H1 _ I1 q1) fun u s2 ⟨y,H2,I2,r2,q2⟩=>?_;exact hf v u s2 x y H2 I2 r1 r2 q2
theorem aL{op:Operator}{r:R2}(ho:OpR X (binaryOp op) r)(ha:PE X a ta)(hb:PE X b tb):PE X (.BinOp a op b pos) (tOp r ta tb):=by
 intro pins s σ H Q I h;exact wpAny_BinOp (binT ha hb I h fun v u s2 x y H2 I2 rx ry q=>ho pins s2 σ H2 x y v u Q I2 rx ry q)
theorem tU{op:UnaryOp}{r:V->Hp->VK->Prop}(ho:UnR X (unaryOp op) r)(ha:PE X a ta):PE X (.UnaryOp op a pos) (tUn r ta):=by
 intro pins s σ H Q I h;exact UnaryOp_ (thn (ha pins s σ H _ I h) fun v s1 ⟨x,H1,I1,r1,q1⟩=>ho pins s1 σ H1 x v Q I1 r1 q1)
theorem opI{f:Value->Value->Sem Value}{C:Int->Int->Prop}{g:Int->Int->Int}
  (rule:∀(i j:Int)(t u:Tok)(s:Shared)(Q:Value->Shared->Prop)(E:Value->Shared->Prop),C i j->Q (.int (g i j) s.toks) { s with toks:=s.toks + 1 }->wpAny (model X.prog X.w) X.A (f (.int i t) (.int j u)) Q E s) :
  OpR X f (rI C fun i j=>.int (g i j)):=by
 intro pins s σ H x y v u Q I rx ry h;obtain⟨i,j,rfl,rfl,hc,q⟩:=h;obtain⟨t,rfl⟩:=rx;obtain⟨t',rfl⟩:=ry;exact rule i j t t' s _ _ hc ⟨.int (g i j),H,I.tok _,⟨_,rfl⟩,q⟩
theorem opI0{f:Value->Value->Sem Value}{g:Int->Int->Int}
  (rule:∀(i j:Int)(t u:Tok)(s:Shared)(Q:Value->Shared->Prop)(E:Value->Shared->Prop),Q (.int (g i j) s.toks) { s with toks:=s.toks + 1 }->wpAny (model X.prog X.w) X.A (f (.int i t) (.int j u)) Q E s) :
  OpR X f (rI0 fun i j=>.int (g i j)):=by
 intro pins s σ H x y v u Q I rx ry h;obtain⟨i,j,rfl,rfl,q⟩:=h;obtain⟨t,rfl⟩:=rx;obtain⟨t',rfl⟩:=ry;exact rule i j t t' s _ _ ⟨.int (g i j),H,I.tok _,⟨_,rfl⟩,q⟩
theorem opB0{f:Value->Value->Sem Value}{g:Int->Int->Bool}
  (rule:∀(i j:Int)(t u:Tok)(s:Shared)(Q:Value->Shared->Prop)(E:Value->Shared->Prop),Q (.bool (g i j)) s->wpAny (model X.prog X.w) X.A (f (.int i t) (.int j u)) Q E s) :
  OpR X f (rI0 fun i j=>.bl (g i j)):=by
 intro pins s σ H x y v u Q I rx ry h;obtain⟨i,j,rfl,rfl,q⟩:=h;obtain⟨t,rfl⟩:=rx;obtain⟨t',rfl⟩:=ry;exact rule i j t t' s _ _ ⟨.bl (g i j),H,I,rfl,q⟩
def CDiv(i j:Int):Prop:=0 < j/\j < 1073741824
def CPow(i j:Int):Prop:=0 <= j/\j <= 1000000/\i.natAbs < 2 ^ 64
def CMul(i j:Int):Prop:=(-(2 ^ 64) < i/\i < 2 ^ 64)\/(-(2 ^ 64) < j/\j < 2 ^ 64)
theorem CMul.ok{i j:Int}(h:CMul i j):IntMulOk i j:=by
 rcases h with ⟨h1,h2⟩ | ⟨h1,h2⟩
 ·exact .of_left (intBits_le_64 h1 h2)
 ·exact .of_right (intBits_le_64 h1 h2)
theorem bu:OpR X (binaryOp .Add) (rI0 fun i j=>.int (i + j)):=opI0 fun _ _ _ _ _ _ _ q=>add_int q
theorem dR:OpR X (binaryOp .Sub) (rI0 fun i j=>.int (i - j)):=opI0 fun _ _ _ _ _ _ _ q=>sub_int q
theorem c7:OpR X (binaryOp .Mult) (rI CMul fun i j=>.int (i * j)):=opI fun _ _ _ _ _ _ _ hc q=>mul_int q hc.ok
theorem op_fdiv:OpR X (binaryOp .FloorDiv) (rI CDiv fun i j=>.int (i / j)):=opI fun i j _ _ _ _ _ hc q=>by
 have h1:(0:Int) < j:=hc.1;have h2:j < 1073741824:=hc.2;exact floordiv_int (by lia) (by rw[Int.fdiv_eq_ediv_of_nonneg i (by lia)];exact q) (.inl (PyProof.noPylong_small (by lia)))
theorem gb:OpR X (binaryOp .Mod) (rI (fun _ j=>0 < j) fun i j=>.int (i % j)):=opI fun i j _ _ _ _ _ hc q=>by
 have h1:(0:Int) < j:=hc;exact mod_int' (by lia) (by rw[Int.fmod_eq_emod_of_nonneg i (by lia)];exact q)
theorem op_pow:OpR X (binaryOp .Pow) (rI CPow fun i j=>.int (i ^ j.toNat)):=opI fun _ _ _ _ _ _ _ hc q=>pow_int_small hc.1 hc.2.1 hc.2.2 q
theorem unI{f:Value->Sem Value}{g:Int->Int}
  (rule:∀(i:Int)(t:Tok)(s:Shared)(Q:Value->Shared->Prop)(E:Value->Shared->Prop),Q (.int (g i) s.toks) { s with toks:=s.toks + 1 }->wpAny (model X.prog X.w) X.A (f (.int i t)) Q E s) :
  UnR X f (rU fun i=>.int (g i)):=by
 intro pins s σ H x v Q I rx h;obtain⟨i,rfl,q⟩:=h;obtain⟨t,rfl⟩:=rx;exact rule i t s _ _ ⟨.int (g i),H,I.tok _,⟨_,rfl⟩,q⟩
theorem oO:UnR X (unaryOp .USub) (rU fun i=>.int (-i)):=unI fun _ _ _ _ _ q=>neg_int q
end
noncomputable def scal:V->V->Bool
 | .non,.non=>true | .non,.int _=>true | .int _,.non=>true | .non,.bl _=>true | .bl _,.non=>true | .non,.str _=>true | .str _,.non=>true
 | .int _,.int _=>true | .bl _,.bl _=>true | .str _,.str _=>true | .byt _,.byt _=>true
 | .int _,.str _=>true | .str _,.int _=>true | .bl _,.str _=>true | .str _,.bl _=>true
 | _,_=>false
noncomputable def rEq:R2:=fun x y H Q=>scal x y=true/\Q (.bl (decide (x=y))) H
noncomputable def rNe:R2:=fun x y H Q=>scal x y=true/\Q (.bl (!decide (x=y))) H
theorem qF{i j:Int}:decide (V.int i=V.int j)=(i == j):=by
 rw[Bool.eq_iff_iff];simp
theorem tV{i j:Bool}:decide (V.bl i=V.bl j)=(i == j):=by
 rw[Bool.eq_iff_iff];simp
theorem qG{i j:Str}:decide (V.str i=V.str j)=(i == j):=by
 rw[Bool.eq_iff_iff];simp
theorem qH{i j:Array UInt8}:decide (V.byt i=V.byt j)=(i.toList == j.toList):=by
 rw[Bool.eq_iff_iff];cases i;cases j;simp
section
variable{X:Cx}{a b c:Expr}{ta tb tc:TE}{pos:Pos}
theorem bf{pins:List (Addr × Obj)}{σ:St}{H:Hp}{s:Shared}{Q:VK}{k k':Bool}(I:Inv X pins σ H s)(q:Q (.bl k) H)(e:k=k'):EP X pins σ Q (.bool k') s:=by
 subst e;exact⟨.bl k,H,I,rfl,q⟩
theorem cw:OpR X (compareOp .Eq) rEq:=by
 intro pins s σ H x y v u Q I rx ry h;obtain⟨hs,q⟩:=h;cases x with
 | non =>
  cases rx;cases y with
  | non=>cases ry;exact PySem.EqNone.eq_none_none (bf I q (by simp))
  | bl j=>cases ry;exact PySem.EqNone.eq_none_bool (bf I q (by simp))
  | int j=>obtain⟨t',rfl⟩:=ry;exact PySem.EqNone.eq_none_int (bf I q (by simp))
  | str j=>obtain⟨t',rfl⟩:=ry;exact PySem.EqNone.eq_none_str (bf I q (by simp))
  | _=>exact absurd (show false=true from hs) Bool.false_ne_true
 | bl i =>
  cases rx;cases y with
  | non=>cases ry;exact PySem.EqNone.eq_bool_none (bf I q (by simp))
  | bl j=>cases ry;exact eq_bool (bf I q tV)
  | str j=>obtain⟨t',rfl⟩:=ry;exact PySem.EqMixed.eq_bool_str (bf I q (by simp))
  | _=>exact absurd (show false=true from hs) Bool.false_ne_true
 | int i =>
  obtain⟨t,rfl⟩:=rx;cases y with
  | non=>cases ry;exact PySem.EqNone.eq_int_none (bf I q (by simp))
  | int j=>obtain⟨t',rfl⟩:=ry;exact eq_int (bf I q qF)
  | str j=>obtain⟨t',rfl⟩:=ry;exact PySem.EqMixed.eq_int_str (bf I q (by simp))
  | _=>exact absurd (show false=true from hs) Bool.false_ne_true
 | str i =>
  obtain⟨t,rfl⟩:=rx;cases y with
  | non=>cases ry;exact PySem.EqNone.eq_str_none (bf I q (by simp))
  | bl j=>cases ry;exact PySem.EqMixed.eq_str_bool (bf I q (by simp))
  | int j=>obtain⟨t',rfl⟩:=ry;exact PySem.EqMixed.eq_str_int (bf I q (by simp))
  | str j=>obtain⟨t',rfl⟩:=ry;exact eq_str (bf I q qG)
  | _=>exact absurd (show false=true from hs) Bool.false_ne_true
 | byt i =>
  obtain⟨t,rfl⟩:=rx;cases y with
  | byt j=>obtain⟨t',rfl⟩:=ry;exact PySem.W.eq_bytes (bf I q qH)
  | _=>exact absurd (show false=true from hs) Bool.false_ne_true
 | _=>cases y <;> exact absurd (show false=true from hs) Bool.false_ne_true
theorem i3:OpR X (compareOp .NotEq) rNe:=by
 intro pins s σ H x y v u Q I rx ry h;obtain⟨hs,q⟩:=h;cases x with
 | non =>
  cases rx;cases y with
  | non=>cases ry;exact PySem.EqNone.ne_none_none (bf I q (by simp))
  | bl j=>cases ry;exact PySem.EqNone.ne_none_bool (bf I q (by simp))
  | int j=>obtain⟨t',rfl⟩:=ry;exact PySem.EqNone.ne_none_int (bf I q (by simp))
  | str j=>obtain⟨t',rfl⟩:=ry;exact PySem.EqNone.ne_none_str (bf I q (by simp))
  | _=>exact absurd (show false=true from hs) Bool.false_ne_true
 | bl i =>
  cases rx;cases y with
  | non=>cases ry;exact PySem.EqNone.ne_bool_none (bf I q (by simp))
  | bl j=>cases ry;exact ne_bool (bf I q (congrArg not tV))
  | str j=>obtain⟨t',rfl⟩:=ry;exact PySem.EqMixed.ne_bool_str (bf I q (by simp))
  | _=>exact absurd (show false=true from hs) Bool.false_ne_true
 | int i =>
  obtain⟨t,rfl⟩:=rx;cases y with
  | non=>cases ry;exact PySem.EqNone.ne_int_none (bf I q (by simp))
  | int j=>obtain⟨t',rfl⟩:=ry;exact ne_int (bf I q (congrArg not qF))
  | str j=>obtain⟨t',rfl⟩:=ry;exact PySem.EqMixed.ne_int_str (bf I q (by simp))
  | _=>exact absurd (show false=true from hs) Bool.false_ne_true
 | str i =>
  obtain⟨t,rfl⟩:=rx;cases y with
  | non=>cases ry;exact PySem.EqNone.ne_str_none (bf I q (by simp))
  | bl j=>cases ry;exact PySem.EqMixed.ne_str_bool (bf I q (by simp))
  | int j=>obtain⟨t',rfl⟩:=ry;exact PySem.EqMixed.ne_str_int (bf I q (by simp))
  | str j=>obtain⟨t',rfl⟩:=ry;exact ne_str (bf I q (congrArg not qG))
  | _=>exact absurd (show false=true from hs) Bool.false_ne_true
 | byt i =>
  obtain⟨t,rfl⟩:=rx;cases y with
  | byt j=>obtain⟨t',rfl⟩:=ry;exact PySem.W.ne_bytes (bf I q (congrArg not qH))
  | _=>exact absurd (show false=true from hs) Bool.false_ne_true
 | _=>cases y <;> exact absurd (show false=true from hs) Bool.false_ne_true
theorem j7:OpR X (compareOp .Lt) (rI0 fun i j=>.bl (decide (i < j))):=opB0 fun _ _ _ _ _ _ _ q=>lt_int q
theorem tW:OpR X (compareOp .LtE) (rI0 fun i j=>.bl (decide (i <= j))):=opB0 fun _ _ _ _ _ _ _ q=>le_int q
theorem mY:OpR X (compareOp .Gt) (rI0 fun i j=>.bl (decide (j < i))):=opB0 fun _ _ _ _ _ _ _ q=>gt_int q
theorem op_ge:OpR X (compareOp .GtE) (rI0 fun i j=>.bl (decide (j <= i))):=opB0 fun _ _ _ _ _ _ _ q=>ge_int q
theorem tX:OpR X (compareOp .Is) (fun x y H Q=>y=.non/\Q (.bl (decide (x=.non))) H):=by
 intro pins s σ H x y v u Q I rx ry h;obtain⟨rfl,q⟩:=h;cases ry;refine is_none_gen (bf I q ?_);cases x <;> first
  | (cases rx;rfl)
  | (obtain⟨t,rfl⟩:=rx;rfl)
theorem aN(b:Expr){op:CmpOp}(h:op ≠ .In:=by decide)(h2:op ≠ .NotIn:=by decide):behindInMarks op b=false:=by
 have e1:(op == CmpOp.In)=false:=by cases op <;> first | rfl | exact absurd rfl h
 have e2:(op == CmpOp.NotIn)=false:=by cases op <;> first | rfl | exact absurd rfl h2
 cases b <;> simp[behindInMarks,e1,e2]
theorem cB{op:CmpOp}{r:R2}(ho:OpR X (compareOp op) r)(ha:PE X a ta)(hb:PE X b tb)(hm:behindInMarks op b=false):PE X (.Compare a [op] [b] pos) (tOp r ta tb):=by
 intro pins s σ H Q I h;exact wpAny_Compare1 (binT ha hb I h fun v u s2 x y H2 I2 rx ry q=>ho pins s2 σ H2 x y v u Q I2 rx ry q) hm
noncomputable def tTest(t:TE):TT:=fun σ H Q=>t σ H fun x H'=>∃k,x=.bl k/\Q k H'
theorem aG{op:CmpOp}{r:R2}(ho:OpR X (compareOp op) r)(ha:PE X a ta)(hb:PE X b tb)(hm:behindInMarks op b=false):PT X (.Compare a [op] [b] pos) (tTest (tOp r ta tb)):=by
 intro pins s σ H Q I h;refine wpAny_isTrue_Compare1 (thn (ha pins s σ H _ I h) fun v s1 ⟨x,H1,I1,r1,q1⟩=>thn (hb pins s1 σ H1 _ I1 q1) fun u s2 ⟨y,H2,I2,r2,q2⟩ =>
  thn (ho pins s2 σ H2 x y v u _ I2 r1 r2 q2) fun c s3 ⟨z,H3,I3,r3,k,e,q3⟩=>?_) hm
 subst e;cases r3;exact wpAny_truthy_bool ⟨H3,I3,q3⟩
def TruV(K:Frag)(x:V)(H:Hp)(k:Bool):Prop :=
 match x with
 | .non=>k=false
 | .bl b=>k=b
 | .int i=>k=(i != 0)
 | .str y=>y.length <= sizeLine/\k=((y.length:Int) != 0)
 | .byt y=>y.size <= sizeLine/\k=((y.size:Int) != 0)
 | .ref p=>(∃xs,SqL K H p xs/\k=!xs.isEmpty)\/(∃xs,SqT K H p xs/\k=!xs.isEmpty)\/∃kvs,H p=some (.dK kvs)/\k=!kvs.isEmpty
 | _=>False
theorem oP{κ:Type}{kvs:List (κ × V)}{vs:List (κ × Value)}(r:KV kvs vs):(!vs.isEmpty)=!kvs.isEmpty:=by
 cases r <;> rfl
theorem i4{xs:List V}{its:List Value}(r:aY xs its):(!its.toArray.isEmpty)=!xs.isEmpty:=by
 cases r <;> simp
theorem gX:(sizeLine:Nat) < 2 ^ 63:=by rw[sizeLine_eq];decide
theorem tru_ok:TruR X (fun x H Q=>∃k,TruV X.K x H k/\Q k H):=by
 intro pins s σ H x v Q I rx h;obtain⟨k,e,q⟩:=h;have hl:=gX;have hs:sizeLine=16777216:=sizeLine_eq;cases x with
 | non =>
  cases rx;have e':k=false:=e;subst e';exact truthy_none ⟨H,I,q⟩
 | bl b =>
  cases rx;have e':k=b:=e;subst e';exact wpAny_truthy_bool ⟨H,I,q⟩
 | int i =>
  obtain⟨t,rfl⟩:=rx;have e':k=(i != 0):=e;subst e';exact PySem.P.truthy_int ⟨H,I,q⟩
 | str y =>
  obtain⟨t,rfl⟩:=rx;obtain⟨hy,e'⟩:y.length <= sizeLine/\k=((y.length:Int) != 0):=e;subst e';exact PySem.P.truthy_str (by lia) ⟨H,I.tok _,q⟩
 | byt y =>
  obtain⟨t,rfl⟩:=rx;obtain⟨hy,e'⟩:y.size <= sizeLine/\k=((y.size:Int) != 0):=e;subst e';exact PySem.W.truthy_bytes (by lia) ⟨H,I.tok _,q⟩
 | ref p =>
  cases rx;have e':(∃xs,SqL X.K H p xs/\k=!xs.isEmpty)\/(∃xs,SqT X.K H p xs/\k=!xs.isEmpty)\/∃kvs,H p=some (.dK kvs)/\k=!kvs.isEmpty:=e;rcases e' with ⟨xs,hx,e'⟩ | ⟨xs,hx,e'⟩ | ⟨kvs,hx,e'⟩
  ·subst e';obtain⟨its,r,pl,hz⟩:=I.list hx;have hlen:=r.length;exact wpAny_truthy_list pl.isList (by simp only[size_toArray];lia) ⟨H,I.tok _,by rw[i4 r];exact q⟩
  ·subst e';obtain⟨its,r,pl,hz⟩:=I.tuple hx;have hlen:=r.length;exact truthy_tuple pl (by simp only[size_toArray];lia) ⟨H,I.tok _,by rw[i4 r];exact q⟩
  ·subst e';obtain⟨hz,hS,vs,r,m⟩:kvs.length <= sizeLine/\(p == sysModules)=false/\∃vs,KV kvs vs/\s.heap.DictOf (aV X.prog X.w) p vs:=I.hok p _ hx;have hlen:kvs.length=vs.length:=Paired.length r;exact wpAny_truthy_dict hS m (by lia) ⟨H,I.tok _,by rw[oP r];exact q⟩
 | _=>exact(show False from e).elim
theorem qI{x:V}{us:List Value}(r:aY [x] us):∃u,us=[u]/\aT x u:=by
 cases r with
 | cons r1 r2=>cases r2;exact⟨_,rfl,r1⟩
theorem tY{x y:V}{us:List Value}(r:aY [x,y] us):∃u w',us=[u,w']/\aT x u/\aT y w':=by
 cases r with
 | cons r1 r2 =>
  cases r2 with
  | cons r3 r4=>cases r4;exact⟨_,_,rfl,r1,r3⟩
theorem rL (hc:X.calm=true):eO X (.builtin "max") (fun xs H Q=>∃i j,xs=[.int i,.int j]/\Q (.int (if j > i then j else i)) H):=by
 intro pins s σ H xs us Q I r h;obtain⟨i,j,rfl,q⟩:=h;obtain⟨u,w',rfl,⟨t,rfl⟩,⟨t',rfl⟩⟩:=tY r;refine max_two_ints (I.ok.hd hc) fun h' tk k=>⟨_,H,I.kept k,?_,q⟩;by_cases hj:j > i
 ·rw[if_pos hj,if_pos hj];exact⟨_,rfl⟩
 ·rw[if_neg hj,if_neg hj];exact⟨_,rfl⟩
theorem gY:eO X (.type "int") (fun xs H Q=>(∃i,xs=[.int i]/\Q (.int i) H)\/∃k,xs=[.bl k]/\Q (.int (if k then 1 else 0)) H):=by
 intro pins s σ H xs us Q I r h;rcases h with ⟨i,rfl,q⟩ | ⟨k,rfl,q⟩
 ·obtain⟨u,rfl,t,rfl⟩:=qI r;exact call_int_int ⟨.int i,H,I,⟨_,rfl⟩,q⟩
 ·obtain⟨u,rfl,r1⟩:=qI r;cases r1;exact call_int_bool ⟨.int (if k then 1 else 0),H,I.tok _,⟨_,rfl⟩,q⟩
end
structure oQ(h:Heap)(x dx C:Addr)(mA:Str->Option Value):Prop where
 obj:h.get? x=some (PySem.W.instObj C dx)
 ns:h.Ns1 dx mA
 ne:dx ≠ x
theorem rM{h:Heap}{dx:Addr}{mA:Str->Option Value}(n:h.Ns1 dx mA):∃od,h.get? dx=some od/\∀name,PySem.W.lookIn name od=some (mA name):=by
 obtain⟨o,es,ep,ho,hd,hk,_,hm⟩:=n;refine⟨o,ho,fun name=>?_⟩;have e:=hm name;unfold nsFind findBy at e;rw[<- Array.find?_toList]at e;unfold PySem.W.lookIn;rw[hd];dsimp only;split
 ·rename_i y q;rw[q]at e;exact congrArg some e
 ·rename_i q;rw[q]at e;have a:es.toList.any (·.refKey)=false:=by
   rw[List.any_eq_false];intro y hy;obtain⟨z,t,hkey⟩:=hk y (Array.mem_toList_iff.mp hy);simp[DictEntry.refKey,hkey]
  have a':¬es.toList.any (·.refKey)=true:=by rw[a];exact Bool.false_ne_true
  rw[if_neg a'];exact congrArg some e
theorem oQ.look{h:Heap}{x dx C:Addr}{mA:Str->Option Value}(I:oQ h x dx C mA):∃od,PySem.W.InstAt h x (PySem.W.instObj C dx) C (some od)/\∀name,PySem.W.lookIn name od=some (mA name) :=
 let ⟨od,ho,hl⟩:=rM I.ns
 ⟨od,⟨I.obj,rfl,rfl,ho⟩,hl⟩
section
variable{prog:Program}{w:World}{A:Around}{E:Value->Shared->Prop}{s:Shared}{K:Frag}{x dx C f:Addr}{mA:Str->Option Value}{name:Str}{v:Value}
theorem get_map{expr:Bool}{Q:Value->Shared->Prop}(X:K.In s.heap)(I:oQ s.heap x dx C mA)(hg:PySem.W.plainGet K C name=true)(hh:PySem.W.hasDictIn K C=true)
  (ha:PySem.W.findIn K (.ref C) name=some none)(hv:mA name=some v)(hv':PySem.W.handedIn v=true)(h:Q v { s with toks:=s.toks + 1 }) :
  wpAny (model prog w) A (getAttr (.ref x) name expr) Q E s:=by
 obtain⟨od,J,hl⟩:=I.look;exact PySem.W.get_value X J (PySem.W.plainGet_of hg).1 (PySem.W.findObj_own hh ha rfl (by rw[hl,hv])) hv' h
theorem tZ{pl:Sem Bool}{Q:Value × List Value->Shared->Prop}(X:K.In s.heap)(I:oQ s.heap x dx C mA)(hg:PySem.W.plainGet K C name=true)
  (hf:PySem.W.findIn K (.ref C) name=some (some (.ref f)))(ht:PySem.W.isFn K (.ref f)=true)(hv:mA name=none)(h:Q (.ref f,[.ref x]) s) :
  wpAny (model prog w) A (getMethod (.ref x) name pl) Q E s:=by
 obtain⟨od,J,hl⟩:=I.look;exact PySem.W.method_fn X J (PySem.W.plainGet_of hg).1 (PySem.W.plainGet_of hg).2 hf (beq_iff_eq.mp ht) (by show (PySem.W.lookIn name od).map (·.isSome)=some false;rw[hl,hv];rfl) h
theorem set_map{ns:List Str}{Q:Unit->Shared->Prop}(X:K.In s.heap)(I:oQ s.heap x dx C mA)
  (hs:PySem.W.findIn K (.ref C) "__setattr__"=some (some (.builtin "object.__setattr__"))) (hp:PySem.W.plainOver K C=true) (ht:PySem.W.takerIn K C name=some none) (hh:PySem.W.hasDictIn K C=true)
  (hw:PySem.Within mA ns) (hsz:ns.length <= sizeLine)
  (h:∀h',oQ h' x dx C (fun y=>if y=name then some v else mA y)->Heap.SameBut dx s.heap h'->Q () { s with heap:=h',toks:=s.toks + 2 }) :
  wpAny (model prog w) A (setAttr (.ref x) name v) Q E s:=by
 obtain⟨od,J,hl⟩:=I.look;refine PySem.W.set_plain X J hs (PySem.W.osa_open (s:={ s with toks:=s.toks + 1 }) (r:=none) X J hp ht fun b=>?_);obtain⟨cd,hc,hd'⟩:=PySem.W.any_some hh;have hx:s.heap.get? x=some ⟨.ref C,some dx,.plain,#[]⟩:=I.obj;refine wpAny_bind (wpAny_pure (wpAny_bind (wpAny_bind (wpAny_loadPart hx (wpAny_bind (PySem.W.Looks.here (s:={ s with toks:=s.toks + 1 }) (PySem.W.looks_clsIn X hc) ?_))))));rw[hd'];refine wpAny_pure (a:=some dx) (wpAny_bind (wpAny_pure (wpAny_bind ?_)));refine wpAny_nsSet1 (s:={ s with toks:=s.toks + 1 }) I.ns fun h' hn2 hs2=>?_;obtain⟨oD,esD,epD,hoD,hdD,hcD⟩:=hn2.count (PySem.Within.cons name v hw);refine wpAny_bind (wpAny_lookBehind hoD (by rw[hdD];exact pastItsLine_dict (Nat.le_trans hcD (by rw[length_cons];lia))) ?_)
 exact wpAny_pure (h _ ⟨(hs2.2 _ (Ne.symm I.ne)).trans I.obj,hn2,I.ne⟩ hs2)
theorem t7{R:Result->Shared->Prop}{vs:List Value}{kw:List (Str × Value)}(X:K.In s.heap)(hm:PySem.W.makesIn K C=true)
  (hi:PySem.W.findIn K (.ref C) "__init__"=some (some (.ref f))) (hf:PySem.W.typeIn K (.ref f)=some (.type "function"))
  (h:codeAny (model prog w) (A.under (.builtin "type.__call__" ⟨.ref C :: vs,kw⟩)) (.call (.ref f) ⟨.ref (s.heap.objs.size + 1) :: vs,kw⟩) (PySem.W.InitBack (s.heap.objs.size + 1) R)
   { s with heap:=(s.heap.push PySem.W.emptyDict).push (PySem.W.instObj C s.heap.objs.size) }) :
  codeAny (model prog w) A (.call (.ref C) ⟨vs,kw⟩) R s:=by
 obtain⟨hh,g,d,t,os⟩:=s;exact PySem.W.make_core (PySem.W.makes_of X hm) (PySem.W.looks_findIn X hi) (fun self=>PySem.W.bind_fn X self hf) (.inl rfl) h
end
noncomputable def ay(f:Str)(v:V):List (Str × V)->List (Str × V)
 | []=>[(f,v)]
 | (g,x) :: r=>if g=f then (g,v) :: r else (g,x) :: ay f v r
theorem ck(f g:Str)(v:V):∀fs:List (Str × V),(ay f v fs).lookup g=if g=f then some v else fs.lookup g
 | []=>by
  show List.lookup g [(f,v)]=_;by_cases h:g=f
  ·have hb:(g == f)=true:=beq_iff_eq.mpr h;simp only[List.lookup,hb,if_pos h]
  ·have hb:(g == f)=false:=beq_eq_false_iff_ne.mpr h;simp only[List.lookup,hb,if_neg h]
 | (k,x) :: r=>by
  have ih:=ck f g v r;rw[show ay f v ((k,x) :: r)=(if k=f then (k,v) :: r else (k,x) :: ay f v r) from rfl]
  by_cases hk:k=f
  ·rw[if_pos hk];by_cases h:g=k
   ·have hb:(g == k)=true:=beq_iff_eq.mpr h;simp only[List.lookup,hb,if_pos (h.trans hk)]
   ·have hb:(g == k)=false:=beq_eq_false_iff_ne.mpr h;simp only[List.lookup,hb,if_neg (fun e:g=f=>h (e.trans hk.symm))]
  ·rw[if_neg hk];by_cases h:g=k
   ·have hb:(g == k)=true:=beq_iff_eq.mpr h;simp only[List.lookup,hb,if_neg (fun e:g=f=>hk (h.symm.trans e))]
   ·have hb:(g == k)=false:=beq_eq_false_iff_ne.mpr h;simp only[List.lookup,hb];exact ih
theorem gZ(f:Str)(v:V):∀fs:List (Str × V),f ∈ (ay f v fs).map (·.1)/\∀g,g ∈ fs.map (·.1)->g ∈ (ay f v fs).map (·.1)
 | []=>⟨by simp[ay],fun g h=>by simp at h⟩
 | (k,x) :: r=>by
  obtain⟨i1,i2⟩:=gZ f v r;rw[show ay f v ((k,x) :: r)=(if k=f then (k,v) :: r else (k,x) :: ay f v r) from rfl]
  by_cases hk:k=f
  ·rw[if_pos hk];subst hk;exact⟨by simp,fun g h=>by simpa using h⟩
  ·rw[if_neg hk];refine⟨?_,fun g h=>?_⟩
   ·rw[List.map_cons];exact List.mem_cons_of_mem _ i1
   ·rw[List.map_cons]at h ⊢;rcases List.mem_cons.mp h with e | e
    ·exact List.mem_cons.mpr (.inl e)
    ·exact List.mem_cons_of_mem _ (i2 g e)
theorem iq(f:Str)(v:V):∀fs:List (Str × V),(ay f v fs).length <= fs.length + 1
 | []=>by simp[ay]
 | (k,x) :: r=>by
  have ih:=iq f v r;rw[show ay f v ((k,x) :: r)=(if k=f then (k,v) :: r else (k,x) :: ay f v r) from rfl]
  by_cases hk:k=f
  ·rw[if_pos hk,length_cons,length_cons];lia
  ·rw[if_neg hk,length_cons,length_cons];lia
theorem dY.some_of{v:V}{o:Option Value}(r:dY (some v) o):∃u,o=some u/\aT v u:=by
 cases o with
 | none=>exact(show False from r).elim
 | some u=>exact⟨u,rfl,r⟩
theorem dY.none_of{o:Option Value}(r:dY none o):o=none:=by
 cases o with
 | none=>rfl
 | some u=>exact(show False from r).elim
theorem rN{v:V}{u:Value}(r:aT v u):PySem.W.handedIn u=true:=by
 cases v with
 | non=>cases (show u=Value.none from r);rfl
 | bl b=>cases (show u=Value.bool b from r);rfl
 | int i=>obtain⟨t,e⟩:=(show ∃t,u=Value.int i t from r);cases e;rfl
 | str x=>obtain⟨t,e⟩:=(show ∃t,u=Value.str x t from r);cases e;rfl
 | byt b=>obtain⟨t,e⟩:=(show ∃t,u=Value.bytes b t from r);cases e;rfl
 | flt b=>obtain⟨t,e⟩:=(show ∃t,u=Value.float b t from r);cases e;rfl
 | ref a=>cases (show u=Value.ref a from r);rfl
 | ty n=>cases (show u=Value.type n from r);rfl
section
variable{P:Program}{w:World}{H H':Hp}{h h':Heap}{a C dx:Addr}{fs fs':List (Str × V)}
theorem kY(hok:HOk P w H h)(e:H a=some (.ins C dx fs)):∃mA,oQ h a dx C mA/\(∀f,dY (fs.lookup f) (mA f))/\PySem.Within mA (fs.map (·.1))/\fs.length <= 1000/\H dx=some (.own a):=by
 obtain⟨d,z,ne,ob,mA,n,r,q⟩:=(show bT P w H h a (.ins C dx fs) from hok a _ e);exact⟨mA,⟨ob,n,ne⟩,r,q,z,d⟩
end
structure Cls(K:Frag)(C:Addr):Prop where
 pg:PySem.W.plainGet K C Str.empty=true
 hd:PySem.W.hasDictIn K C=true
 po:PySem.W.plainOver K C=true
 sa:PySem.W.findIn K (.ref C) "__setattr__"=some (some (.builtin "object.__setattr__"))
theorem Cls.get{K:Frag}{C:Addr}(c:Cls K C)(f:Str):PySem.W.plainGet K C f=true:=c.pg
def aU(K:Frag)(C:Addr)(f:Str):Prop:=PySem.W.findIn K (.ref C) f=some none
theorem aU.taker{K:Frag}{C:Addr}{f:Str}(n:aU K C f):PySem.W.takerIn K C f=some none:=by
 unfold PySem.W.takerIn;rw[show PySem.W.findIn K (.ref C) f=some none from n];rfl
structure oR(K:Frag)(C:Addr)(m:Str)(f:Addr):Prop where
 at_:PySem.W.findIn K (.ref C) m=some (some (.ref f))
 fn:PySem.W.isFn K (.ref f)=true
 kp:PySem.W.keepIn K (.ref f)=true
section
variable{X:Cx}{pins:List (Addr × Obj)}{σ:St}{H:Hp}{s:Shared}{a C dx:Addr}{fs:List (Str × V)}{f:Str}{v:V}{A:Around}{E:Value->Shared->Prop}
theorem i5{b:Bool}{Q:Value->Shared->Prop}(I:Inv X pins σ H s)(e:H a=some (.ins C dx fs))(c:Cls X.K C)(n:aU X.K C f)(l:fs.lookup f=some v)
  (h:∀u s',Inv X pins σ H s'->aT v u->Q u s'):wpAny (model X.prog X.w) A (getAttr (.ref a) f b) Q E s:=by
 obtain⟨mA,O,r,_,_,_⟩:=kY I.hok e;obtain⟨u,hu,ru⟩:=dY.some_of (v:=v) (o:=mA f) (by rw[<- l];exact r f)
 exact get_map I.kIn O (c.get f) c.hd n hu (rN ru) (h u _ (I.tok _) ru)
theorem i6{m:Str}{g:Addr}{pl:Sem Bool}{Q:Value × List Value->Shared->Prop}(I:Inv X pins σ H s)(e:H a=some (.ins C dx fs))(c:Cls X.K C)(k:oR X.K C m g)(l:fs.lookup m=none)
  (h:Q (.ref g,[.ref a]) s):wpAny (model X.prog X.w) A (getMethod (.ref a) m pl) Q E s:=by
 obtain⟨mA,O,r,_,_,_⟩:=kY I.hok e;have hn:mA m=none:=dY.none_of (by rw[<- l];exact r m)
 exact tZ I.kIn O (c.get m) k.at_ k.fn hn h
theorem i7{y:V}{u:Value}{Q:Unit->Shared->Prop}(I:Inv X pins σ H s)(e:H a=some (.ins C dx fs))(c:Cls X.K C)(n:aU X.K C f)(hl:fs.length < 1000)(ry:aT y u)
  (h:∀s',Inv X pins σ (upd H a (.ins C dx (ay f y fs))) s'->Q () s'):wpAny (model X.prog X.w) A (setAttr (.ref a) f u) Q E s:=by
 obtain⟨mA,O,r,wi,_,ho⟩:=kY I.hok e;have hz:(fs.map (·.1)).length <= sizeLine:=by rw[length_map,sizeLine_eq];lia
 refine set_map I.kIn O c.sa c.po n.taker c.hd wi hz fun h' O' sb=>h _ ?_;have hd:∃o,h'.get? dx=some o:=let ⟨o,_,_,e',_⟩:=O'.ns;⟨o,e'⟩;refine I.write (x:=a) (e:=dx) (by rw[e];exact True.intro) (.inr ho) (fun b q hb z=>(sb.2 b hb).trans z) hd ?_
 refine⟨by rw[au O.ne];exact ho,?_,O.ne,O'.obj,_,O'.ns,fun g=>?_,fun g hg=>?_⟩
 ·have:=iq f y fs;lia
 ·show dY ((ay f y fs).lookup g) (if g=f then some u else mA g)
  rw[ck];by_cases q:g=f
  ·rw[if_pos q,if_pos q];exact ry
  ·rw[if_neg q,if_neg q];exact r g
 ·by_cases q:g=f
  ·rw[q];exact(gZ f y fs).1
  ·refine(gZ f y fs).2 g (wi g fun z=>hg ?_);show (if g=f then some u else mA g)=none
   rw[if_neg q];exact z
theorem Inv.made(I:Inv X pins σ H s):Inv X pins σ (upd (upd H s.heap.objs.size (.own (s.heap.objs.size + 1))) (s.heap.objs.size + 1) (.ins C s.heap.objs.size []))
  { s with heap:=(s.heap.push PySem.W.emptyDict).push (PySem.W.instObj C s.heap.objs.size) }:=by
 have e1:(s.heap.push PySem.W.emptyDict).get? s.heap.objs.size=some PySem.W.emptyDict:=get?_push_size s.heap rfl;have e2:((s.heap.push PySem.W.emptyDict).push (PySem.W.instObj C s.heap.objs.size)).get? (s.heap.objs.size + 1)=some (PySem.W.instObj C s.heap.objs.size):=by
  have:=get?_push_size (s.heap.push PySem.W.emptyDict) (o:=PySem.W.instObj C s.heap.objs.size) rfl
  rwa [Heap.size_push]at this
 have e3:(s.heap.push PySem.W.emptyDict).Ns s.heap.objs.size (fun _=>none):=⟨PySem.W.emptyDict,#[],_,e1,rfl,(fun e he=>absurd he (by simp)),fun _=>rfl⟩
 have I1:=I.laid (a:=s.heap.objs.size) (o:=.own (s.heap.objs.size + 1)) (h':=s.heap.push PySem.W.emptyDict) (t':=s.toks) (fun b u q=>get?_push_of_some _ q) (Nat.le_refl _) ⟨_,e1⟩;refine I1.laid (a:=s.heap.objs.size + 1) (o:=.ins C s.heap.objs.size []) (t':=s.toks) (fun b u q=>get?_push_of_some _ q) (Nat.le_of_eq (Heap.size_push _ _)) ?_
 have ne:s.heap.objs.size ≠ s.heap.objs.size + 1:=Nat.ne_of_lt (Nat.lt_succ_self _);refine⟨by rw[au ne,af],Nat.zero_le _,ne,e2,fun _=>none,(Heap.Ns1.of_empty e3).at fun o q=>get?_push_of_some _ q,fun _=>True.intro,fun y hy=>absurd rfl hy⟩
theorem attr_of{prog:Program}{w:World}{env:Env}{e:Expr}{f:Str}{pos:Pos}{s:Shared}{Q:Value->Shared->Prop}(hb:attributeBase e f env (eval e env)=eval e env)
  (h:wpAny (model prog w) A (eval e env) (fun o s₁=>wpAny (model prog w) A (getAttr o f true) Q E s₁) E s):wpAny (model prog w) A (eval (.Attribute e f pos) env) Q E s :=
 Attribute_any_ h (by rw[arm_eval_Attribute,hb])
end
def tFld(K:Frag)(ta:TE)(f:Str):TE:=fun σ H Q=>ta σ H fun x H1=>∃a C dx fs v,x=.ref a/\H1 a=some (.ins C dx fs)/\Cls K C/\aU K C f/\fs.lookup f=some v/\Q v H1
def sFld(K:Frag)(ta tv:TE)(f:Str):TS:=fun D σ H=>tv σ H fun y H1=>ta σ H1 fun x H2=>∃a C dx fs,x=.ref a/\H2 a=some (.ins C dx fs)/\Cls K C/\aU K C f/\fs.length < 1000 /\
 D.nx σ (upd H2 a (.ins C dx (ay f y fs)))
def InOp(X:Cx)(op:Operator)(rd:V->V->Hp->VK->Prop):Prop :=
 ∀(pins:List (Addr × Obj)) (s:Shared) (σ:St) (H:Hp) (x y:V) (u v:Value) (Q:VK),Inv X pins σ H s->aT x u->aT y v->rd x y H Q->wpAny (model X.prog X.w) X.A (inplaceOp op u v) (EP X pins σ Q) X.xe s
def sFldAug(K:Frag)(ta tv:TE)(rd:V->V->Hp->VK->Prop)(f:Str):TS:=fun D σ H=>ta σ H fun x H1=>∃a C dx fs v,x=.ref a/\H1 a=some (.ins C dx fs)/\Cls K C/\aU K C f/\fs.lookup f=some v /\
 tv σ H1 fun y H2=>rd v y H2 fun z H3=>∃dx' fs',H3 a=some (.ins C dx' fs')/\fs'.length < 1000/\D.nx σ (upd H3 a (.ins C dx' (ay f z fs')))
section
variable{X:Cx}{o e value:Expr}{f:Str}{pos pos' tpos:Pos}{ta tv:TE}
theorem am(he:PE X e ta)(hb:attributeBase e f X.env (eval e X.env)=eval e X.env):PE X (.Attribute e f pos) (tFld X.K ta f):=by
 intro pins s σ H Q I h;refine attr_of hb (thn (he pins s σ H _ I h) fun u s1 ⟨x,H1,I1,rx,a,C,dx,fs,v,ex,ea,c,n,l,q⟩=>?_);subst ex;obtain rfl:u=Value.ref a:=rx;exact i5 I1 ea c n l fun u' s2 I2 ru=>⟨v,H1,I2,ru,q⟩
theorem aM(ha:PE X o ta)(hv:PE X value tv)(hs:swapsWith value (some (.Attribute o f pos')) pos.line X.env=pure false):PS X (.Assign [.Attribute o f pos'] value pos) (sFld X.K ta tv f):=by
 intro pins s σ H D I h;refine plainObj_wpAny_Assign_Attribute (thn (hv pins s σ H _ I h) fun u s1 ⟨y,H1,I1,ry,q⟩=>thn (ha pins s1 σ H1 _ I1 q) fun ov s2 ⟨x,H2,I2,rx,a,C,dx,fs,ex,ea,c,n,l,q2⟩=>?_) hs;subst ex;obtain rfl:ov=Value.ref a:=rx;exact i7 I2 ea c n l ry fun s3 I3=>⟨σ,_,I3,q2⟩
theorem rO{op:Operator}{rd:V->V->Hp->VK->Prop}(ha:PE X o ta)(hv:PE X value tv)(hop:InOp X op rd):PS X (.AugAssign (.Attribute o f tpos) op value pos) (sFldAug X.K ta tv rd f):=by
 intro pins s σ H D I h;refine wpAny_AugAssign_AttributeAny (thn (ha pins s σ H _ I h) fun ov s1 ⟨x,H1,I1,rx,a,C,dx,fs,v,ex,ea,c,n,l,q⟩=>?_);subst ex;obtain rfl:ov=Value.ref a:=rx;refine i5 I1 ea c n l fun u s2 I2 ru=>thn (hv pins s2 σ H1 _ I2 q) fun w3 s3 ⟨y,H2,I3,ry,q3⟩=>thn (hop pins s3 σ H2 v y u w3 _ I3 ru ry q3) fun w4 s4 ⟨z,H3,I4,rz,dx',fs',ea',l',q4⟩=>?_;exact i7 I4 ea' c n l' rz fun s5 I5=>⟨σ,_,I5,q4⟩
def rAdd:V->V->Hp->VK->Prop:=fun x y H Q=>∃i j,x=.int i/\y=.int j/\Q (.int (i + j)) H
theorem in_add:InOp X .Add rAdd:=by
 rintro pins s σ H x y u v Q I rx ry ⟨i,j,rfl,rfl,q⟩;obtain⟨t,rfl⟩:=(show ∃t,u=Value.int i t from rx);obtain⟨t',rfl⟩:=(show ∃t',v=Value.int j t' from ry);exact PyProof.Rows.iadd_int ⟨.int (i + j),H,I.tok _,⟨_,rfl⟩,q⟩
end
section
variable{X:Cx}{pins:List (Addr × Obj)}{σ:St}{H:Hp}{s:Shared}{A:Around}{E:Value->Shared->Prop}{Q:Value->Shared->Prop}{c:Value}{b:Bool}
end
structure aP(k:Nat)(A:Around):Prop where
 hd:A.handled=none
 dp:A.depth + 3 * k + 5 < recursionLimit
 un:A.units + 16 * k + 200 < cLine
theorem aP.mono{j k:Nat}{A:Around}(r:aP k A)(h:j <= k):aP j A:=⟨r.hd,by have:=r.dp;lia,by have:=r.un;lia⟩
theorem aP.deeper{k:Nat}{A:Around}(r:aP (k + 1) A)(env:Env):aP k (A.deeper env) :=
 ⟨r.hd,by have:=r.dp;show A.depth + 1 + 3 * k + 5 < _;lia,by have:=r.un;show A.units + 3 + 16 * k + 200 < _;lia⟩
theorem oS {A:Around} {C:Addr} {us:List Value} {kw:List (Str × Value)}:(A.under (.builtin "type.__call__" ⟨.ref C :: us,kw⟩)).depth=A.depth + 1:=by
 first | rfl | simp[Around.under,Code.weight,Code.isCreation,Code.isGuard,Code.isCaller,Code.frames,Code.isFrame,guardIds]
theorem oU {A:Around} {C:Addr} {us:List Value} {kw:List (Str × Value)}:(A.under (.builtin "type.__call__" ⟨.ref C :: us,kw⟩)).units=A.units + 1:=by
 first | rfl | simp[Around.under,Code.cUnits,Code.frames,Code.isFrame]
theorem aP.make {k:Nat} {A:Around} (r:aP (k + 1) A) (C:Addr) (us:List Value) (kw:List (Str × Value)):aP k (A.under (.builtin "type.__call__" ⟨.ref C :: us,kw⟩)) :=
 ⟨r.hd,by have:=r.dp;rw[oS];lia,by have:=r.un;rw[oU];lia⟩
theorem aP.depth{k:Nat}{A:Around}(r:aP k A):A.depth < recursionLimit:=by have:=r.dp;lia
theorem aP.units{k:Nat}{A:Around}(r:aP k A):A.units + 64 < cLine:=by have:=r.un;lia
def tNil:TA:=fun _ H Q=>Q [] H
def tCons(ta:TE)(tr:TA):TA:=fun σ H Q=>ta σ H fun x H1=>tr σ H1 fun xs H2=>Q (x :: xs) H2
section
variable{X:Cx}{e:Expr}{es:List Expr}{te:TE}{t:TA}{pos:Pos}
theorem ad:PA X [] tNil:=fun _ _ _ _ H Q I h=>Calls.spliced_nil ⟨[],H,I,.nil,h⟩
theorem ab(ha:PE X e te)(hr:PA X es t)(hs:starEach (e :: es) X.env=(false,eval e X.env) :: starEach es X.env:=by rfl):PA X (e :: es) (tCons te t):=by
 intro pos pins s σ H Q I h;rw[hs];show wpAny _ _ (spliced ((false,eval e X.env) :: backTo pos (starEach es X.env))) _ _ s;refine Calls.spliced_cons (thn (ha pins s σ H _ I h) fun u s1 ⟨x,H1,I1,r1,q1⟩=>?_);exact thn (hr pos pins s1 σ H1 _ I1 q1) fun us s2 ⟨xs,H2,I2,r2,q2⟩=>⟨x :: xs,H2,I2,.cons r1 r2,q2⟩
def tTup(t:TA):TE:=fun σ H Q=>t σ H fun xs H1=>xs.length <= sizeLine/\∀p,H1 p=none->Q (.ref p) (upd H1 p (.tup xs))
theorem i8{x1}(h:PA X es t):PE X (.Tuple es x1 pos) (tTup t):=by
 intro pins s σ H Q I hq;refine wpAny_Tuple_spliced (thn (h pos pins s σ H _ I hq) fun us s1 ⟨xs,H1,I1,r,z,q⟩=>⟨by rw[<- r.length];exact z,?_⟩)
 have hf:H1 s1.heap.objs.size=none:=I1.hok.fresh (Nat.le_refl _);refine⟨.ref s1.heap.objs.size,upd H1 s1.heap.objs.size (.tup xs),I1.laid (t':=s1.toks) (fun b u e=>get?_push_of_some _ e) (Nat.le_refl _) ?_,rfl,q _ hf⟩
 exact⟨z,us,r,⟨_,get?_push_size _ rfl,rfl,_,rfl⟩⟩
end
abbrev Sp:=List V->Hp->VK->XK->Prop
abbrev CXT:=List Env->Hp->Shared->XK->Value->Shared->Prop
structure oV(P:Program)(w:World)(K:Frag)(mg:Str->Option Value)(base:Heap)(A:Around)(outer:List Env)(s:Shared)(H:Hp):Prop where
 frames:A.frames=some outer
 mod:Mod K mg base
 bs:∀b o,base.get? b=some o->s.heap.get? b=some o/\H b=none
 bsz:base.objs.size <= s.heap.objs.size
 funs:s.heap.FunFrames base outer
 frf:∀b ∈ frs outer,H b=none
 hok:HOk P w H s.heap
 bare:AllBare s.gens
def CE(outer:List Env)(P:Program)(w:World)(H:Hp)(s:Shared)(Q:VK)(u:Value)(s':Shared):Prop :=
 ∃v H',s'.os=s.os/\AllBare s'.gens/\Un (frs outer) [] H H' s.heap s'.heap/\HOk P w H' s'.heap/\aT v u/\Q v H'
def CR(CX:CXT)(outer:List Env)(P:Program)(w:World)(H:Hp)(s:Shared)(Q:VK)(E:XK)(r:Result)(s':Shared):Prop :=
 match r with
 | .ok (.ret u)=>CE outer P w H s Q u s'
 | .ok _=>False
 | .error e=>CX outer H s E e s'
structure aI(P:Program)(w:World)(K:Frag)(mg:Str->Option Value)(base:Heap)(CX:CXT)(k:Nat)(f:Addr)(fd:FuncData)(ps:List Str)(sp:Sp):Prop where
 len:∀vs H Q E,sp vs H Q E->vs.length=ps.length
 run:∀(A:Around)(outer:List Env)(s:Shared)(H:Hp)(args:Args)(us:List Value)(vs:List V)(Q:VK)(E:XK),aP k A->oV P w K mg base A outer s H->BindsTo s fd args (ps.zip us)->aY vs us->sp vs H Q E ->
  codeAny (model P w) A (.call (.ref f) args) (CR CX outer P w H s Q E) s
theorem oV.make{P:Program}{w:World}{K:Frag}{mg:Str->Option Value}{base:Heap}{A:Around}{outer:List Env}{s:Shared}{H:Hp}(e:oV P w K mg base A outer s H)(C:Addr)(us:List Value)(kw:List (Str × Value)) :
  oV P w K mg base (A.under (.builtin "type.__call__" ⟨.ref C :: us,kw⟩)) outer s H:=⟨by first | exact e.frames | (simpa[Around.under,Code.envs,Code.isFrame,pushEnvs] using e.frames),e.mod,e.bs,e.bsz,e.funs,e.frf,e.hok,e.bare⟩
section
variable{X:Cx}{pins:List (Addr × Obj)}{σ:St}{H:Hp}{s s':Shared}
theorem Inv.env0(I:Inv X pins σ H s):oV X.prog X.w X.K X.mg X.base X.A X.stack s H :=
 ⟨I.ok.frames,I.ok.mod,I.bs,Nat.le_trans I.ok.bsz I.sz,I.stack,I.stkFree,I.hok,I.bare⟩
theorem Inv.after{Q:VK}{u:Value}(I:Inv X pins σ H s)(h:CE X.stack X.prog X.w H s Q u s'):EP X pins σ Q u s':=by
 obtain⟨v,H',os,bare,un,hok,r,q⟩:=h;obtain⟨hh,g,d,t,os'⟩:=s';obtain rfl:os'=s.os:=os;exact⟨v,H',I.call (h':=hh) (g':=g) (d':=d) (t':=t) (ch:=[]) un hok bare (fun b z=>absurd z (by simp)),r,q⟩
end
def tCall(sp:Sp)(dvs:List V)(E:XK)(t:TA):TE:=fun σ H Q=>t σ H fun vs H1=>sp (vs ++ dvs) H1 Q E
def qJ(C:Addr)(m:Str)(sp:Sp)(dvs:List V)(E:XK)(ta:TE)(t:TA):TE:=fun σ H Q=>ta σ H fun x H1=>∃a dx fs,x=.ref a/\H1 a=some (.ins C dx fs)/\fs.lookup m=none /\
 t σ H1 fun vs H2=>sp (x :: (vs ++ dvs)) H2 Q E
def tMake(C:Addr)(sp:Sp)(dvs:List V)(E:XK)(t:TA):TE:=fun σ H Q=>t σ H fun vs H1=>∀x dx,H1 x=none->H1 dx=none->dx ≠ x ->
 sp (.ref x :: (vs ++ dvs)) (upd (upd H1 dx (.own x)) x (.ins C dx [])) (fun v H2=>v=.non/\Q (.ref x) H2) E
def dD(K:Frag)(fd:FuncData)(ps:List Str)(ds:List Value):Prop :=
 ∀(s:Shared)(us:List Value),K.In s.heap->(us ++ ds).length=ps.length->BindsTo s fd ⟨us,[]⟩ (ps.zip (us ++ ds))
theorem dD.all{K:Frag}{fd:FuncData}{ps:List Str}(h:∀us:List Value,us.length=ps.length->bindArgs fd ⟨us,[]⟩=pure (ps.zip us)):dD K fd ps []:=fun s us _ hl=>by
 rw[List.append_nil]at hl ⊢;exact .of_eq (h us hl)
def gc(CX:CXT)(X:Cx)(E:XK):Prop:=∀(pins:List (Addr × Obj)) (σ:St) (H:Hp) (s:Shared) (e:Value) (s':Shared),Inv X pins σ H s->CX X.stack H s E e s'->X.xe e s'
section
variable{X:Cx}{CX:CXT}{k:Nat}{f C:Addr}{fd:FuncData}{ps:List Str}{sp:Sp}{dvs:List V}{ds:List Value}{E:XK}{x m:Str}{p pos apos:Pos}{e o:Expr}{es:List Expr}{ta:TE}{t:TA}
theorem oW{pins:List (Addr × Obj)}{σ:St}{H:Hp}{s:Shared}{Q:VK}{us:List Value}{vs:List V}(F:aI X.prog X.w X.K X.mg X.base CX k f fd ps sp)(hr:aP k X.A)(hb:dD X.K fd ps ds)(hd:aY dvs ds)(hx:gc CX X E)
  (I:Inv X pins σ H s)(r:aY vs us)(h:sp (vs ++ dvs) H Q E):wpAny (model X.prog X.w) X.A (call (.ref f) us) (EP X pins σ Q) X.xe s:=by
 have r2:aY (vs ++ dvs) (us ++ ds):=r.append hd;have hl:(us ++ ds).length=ps.length:=by rw[<- r2.length];exact F.len _ _ _ _ h
 refine wpAny_call (codeAny_mono (F.run X.A X.stack s H ⟨us,[]⟩ (us ++ ds) (vs ++ dvs) Q E hr I.env0 (hb s us I.kIn hl) r2 h) fun r s' hq=>?_);cases r with
 | error e=>exact hx pins σ H s e s' I hq
 | ok fl =>
  cases fl with
  | ret u=>exact I.after hq
  | next=>exact False.elim hq
  | brk=>exact False.elim hq
  | cont=>exact False.elim hq
theorem pe_call(F:aI X.prog X.w X.K X.mg X.base CX k f fd ps sp)(hr:aP k X.A)(hg:Gl X x)(hm:X.mg x=some (.ref f))(hk:PySem.W.keepIn X.K (.ref f)=true)(hb:dD X.K fd ps ds)(hd:aY dvs ds)(hx:gc CX X E)
  (ha:PA X (e :: es) t) (hdb:(x == ("__debug__":Str))=false:=by decide) (he:starEach (e :: es) X.env=(false,eval e X.env) :: starEach es X.env:=by rfl) (hpl:(backTo pos (starEach es X.env)).any (·.1)=false:=by rfl) :
  PE X (.Call (.Name x p) (e :: es) [] pos) (tCall sp dvs E t):=by
 intro pins s σ H Q I h;refine wpAny_Call_Name_kw (qE I hg hm ?_ hdb);refine PySem.W.callWith_K (h₀:=X.base) I.ok.mod.kin hk (thn (ha pos pins s σ H _ I h) fun us s1 ⟨vs,H1,I1,r,q⟩=>⟨I1.kIn,?_⟩) he hpl;exact oW F hr hb hd hx I1 r q
theorem iK{pl:Sem Bool}(he:PE X o ta)(c:Cls X.K C)(hm:oR X.K C m f)(F:aI X.prog X.w X.K X.mg X.base CX k f fd ps sp)(hr:aP k X.A)(hb:dD X.K fd ps ds)(hd:aY dvs ds)(hx:gc CX X E)(ha:PA X (e :: es) t)
  (hst:starEach (e :: es) X.env=(false,eval e X.env) :: starEach es X.env:=by rfl)(hpl:(backTo pos (starEach es X.env)).any (·.1)=false:=by rfl)
  (ht:eval (.Call (.Attribute o m apos) (e :: es) [] pos) X.env=(do
   let ov <- eval o X.env
   standAt apos.atName
   let (f,first) <- holding [ov] (getMethod ov m pl)
   callWith pos f first (backTo pos (starEach (e :: es) X.env)) (backToKw pos (keywordEach [] X.env))):=by rfl) :
  PE X (.Call (.Attribute o m apos) (e :: es) [] pos) (qJ C m sp dvs E ta t):=by
 intro pins s σ H Q I h;refine PySem.W.methodCall_KW (pl:=pl) (thn (he pins s σ H _ I h) fun u s1 ⟨x,H1,I1,rx,a,dx,fs,ex,ea,l,q⟩=>?_) ht;subst ex;obtain rfl:u=Value.ref a:=rx;refine i6 I1 ea c hm l ?_;refine PySem.W.callWith_K (first:=[.ref a]) (h₀:=X.base) I.ok.mod.kin hm.kp (thn (ha pos pins s1 σ H1 _ I1 q) fun us s2 ⟨vs,H2,I2,r,q2⟩=>⟨I2.kIn,?_⟩) hst hpl
 exact oW (us:=.ref a :: us) (vs:=.ref a :: vs) F hr hb hd hx I2 (.cons rfl r) q2
theorem t8{pl:Sem Bool}(he:PE X o ta)(c:Cls X.K C)(hm:oR X.K C m f)(F:aI X.prog X.w X.K X.mg X.base CX k f fd ps sp)(hr:aP k X.A)(hb:dD X.K fd ps ds)(hd:aY dvs ds)(hx:gc CX X E)
  (ht:eval (.Call (.Attribute o m apos) [] [] pos) X.env=(do
   let ov <- eval o X.env
   standAt apos.atName
   let (f,first) <- holding [ov] (getMethod ov m pl)
   callWith pos f first (backTo pos (starEach [] X.env)) (backToKw pos (keywordEach [] X.env))):=by rfl) :
  PE X (.Call (.Attribute o m apos) [] [] pos) (qJ C m sp dvs E ta tNil):=by
 intro pins s σ H Q I h;refine PySem.W.methodCall_KW (pl:=pl) (thn (he pins s σ H _ I h) fun u s1 ⟨x,H1,I1,rx,a,dx,fs,ex,ea,l,q⟩=>?_) ht;subst ex;obtain rfl:u=Value.ref a:=rx;refine i6 I1 ea c hm l ?_;exact PySem.W.callWith_K0 (first:=[.ref a]) I1.kIn hm.kp (oW (us:=[.ref a]) (vs:=[.ref a]) F hr hb hd hx I1 (.cons rfl .nil) q)
structure Mk(K:Frag)(C f:Addr):Prop where
 makes:PySem.W.makesIn K C=true
 init:PySem.W.findIn K (.ref C) "__init__"=some (some (.ref f))
 fn:PySem.W.isFn K (.ref f)=true
 kp:PySem.W.keepIn K (.ref C)=true
theorem t9{pins:List (Addr × Obj)}{σ:St}{H:Hp}{s:Shared}{Q:VK}{us:List Value}{vs:List V}(M:Mk X.K C f)(F:aI X.prog X.w X.K X.mg X.base CX k f fd ps sp)(hr:aP (k + 1) X.A)(hb:dD X.K fd ps ds)(hd:aY dvs ds)
  (hx:gc CX X E)(I:Inv X pins σ H s)(r:aY vs us)
  (h:∀x dx,H x=none->H dx=none->dx ≠ x->sp (.ref x :: (vs ++ dvs)) (upd (upd H dx (.own x)) x (.ins C dx [])) (fun v H2=>v=.non/\Q (.ref x) H2) E) :
  wpAny (model X.prog X.w) X.A (call (.ref C) us) (EP X pins σ Q) X.xe s:=by
 have hq:=h (s.heap.objs.size + 1) s.heap.objs.size (I.hok.fresh (Nat.le_succ _)) (I.hok.fresh (Nat.le_refl _)) (Nat.ne_of_lt (Nat.lt_succ_self _));have I2:=Inv.made (C:=C) I;have r2:aY (V.ref (s.heap.objs.size + 1) :: (vs ++ dvs)) (Value.ref (s.heap.objs.size + 1) :: (us ++ ds)):=.cons rfl (r.append hd);have hl:(Value.ref (s.heap.objs.size + 1) :: us ++ ds).length=ps.length:=by
  have e:=r2.length;rw[F.len _ _ _ _ hq]at e;exact e.symm
 refine wpAny_call (t7 (f:=f) I.kIn M.makes M.init (beq_iff_eq.mp M.fn) (codeAny_mono (F.run _ X.stack _ _ ⟨Value.ref (s.heap.objs.size + 1) :: us,[]⟩ (Value.ref (s.heap.objs.size + 1) :: (us ++ ds)) _ _ E (hr.make C us [])
  (I2.env0.make C us []) (hb _ (Value.ref (s.heap.objs.size + 1) :: us) I2.kIn hl) r2 hq) fun r s' hq'=>?_))
 cases r with
 | error e=>exact hx pins σ _ _ e s' I2 hq'
 | ok fl =>
  cases fl with
  | ret u =>
   obtain⟨v,H',I3,rv,ev,q3⟩:=I2.after hq';subst ev;exact⟨rv,⟨V.ref (s.heap.objs.size + 1),H',I3,rfl,q3⟩⟩
  | next=>exact False.elim hq'
  | brk=>exact False.elim hq'
  | cont=>exact False.elim hq'
theorem pe_make(M:Mk X.K C f)(F:aI X.prog X.w X.K X.mg X.base CX k f fd ps sp)(hr:aP (k + 1) X.A)(hg:Gl X x)(hm:X.mg x=some (.ref C))(hb:dD X.K fd ps ds)(hd:aY dvs ds)(hx:gc CX X E)
  (ha:PA X (e :: es) t) (hdb:(x == ("__debug__":Str))=false:=by decide) (he:starEach (e :: es) X.env=(false,eval e X.env) :: starEach es X.env:=by rfl) (hpl:(backTo pos (starEach es X.env)).any (·.1)=false:=by rfl) :
  PE X (.Call (.Name x p) (e :: es) [] pos) (tMake C sp dvs E t):=by
 intro pins s σ H Q I h;refine wpAny_Call_Name_kw (qE I hg hm ?_ hdb);refine PySem.W.callWith_K (h₀:=X.base) I.ok.mod.kin M.kp (thn (ha pos pins s σ H _ I h) fun us s1 ⟨vs,H1,I1,r,q⟩=>⟨I1.kIn,?_⟩) he hpl;exact t9 M F hr hb hd hx I1 r q
end
section
variable{X:Cx}{CX:CXT}{k:Nat}{f C:Addr}{fd:FuncData}{ps ks:List Str}{sp:Sp}{E:XK}{x m:Str}{p pos apos kpos:Pos}{e o:Expr}{es:List Expr}{kws:List Keyword}{te ta:TE}{t tk:TA}{nm:Option Str}
variable{g:List Value->List Value->List Value}{gV:List V->List V->List V}
end
structure ao(N P:List Str)(sc:Scope):Prop where
 kind:sc.kind=.function
 co:sc.isCoroutine=false
 gen:sc.isGenerator=false
 nd:N.Nodup
 pre:N.take P.length=P
 par:∀x ∈ P,sc.names.lookup x=some .local\/sc.names.lookup x=some .cell
 nofree:∀y ∈ sc.names,y.2 ≠ .free
theorem fsc{N P:List Str}{sc:Scope}(h:sc.kind=.function/\sc.isCoroutine=false/\sc.isGenerator=false/\N.Nodup/\N.take P.length=P/\(∀x ∈ P,sc.names.lookup x=some .local\/sc.names.lookup x=some .cell)/\∀y ∈ sc.names,y.2 ≠ .free):ao N P sc:=⟨h.1,h.2.1,h.2.2.1,h.2.2.2.1,h.2.2.2.2.1,h.2.2.2.2.2.1,h.2.2.2.2.2.2⟩
theorem j8{kindOf:Str->Option NameKind}{x:Str}:∀{binds:List (Str × Value)} {m:Str->Option Value},(∀v,(x,v) ∉ binds)->bindL kindOf binds m x=m x
 | [],_,_=>rfl
 | (n,v) :: r,m,h=>by
  unfold bindL;rw[j8 fun w hw=>h w (List.mem_cons_of_mem _ hw)];split
  ·have:x ≠ n:=by rintro rfl;exact h v List.mem_cons_self
   simp[this]
  ·rfl
theorem j9{kindOf:Str->Option NameKind}{x:Str}:∀{binds:List (Str × Value)} {m:Str->Option Value},(∀v,(x,v) ∉ binds)->bindC kindOf binds m x=m x
 | [],_,_=>rfl
 | (n,v) :: r,m,h=>by
  unfold bindC;rw[j9 fun w hw=>h w (List.mem_cons_of_mem _ hw)];split
  ·rfl
  ·have:x ≠ n:=by rintro rfl;exact h v List.mem_cons_self
   simp[this]
theorem ka{kindOf:Str->Option NameKind}{x:Str}{v:Value}:∀{P:List Str}{vs:List Value}{i:Nat}{m:Str->Option Value},P.Nodup->P[i]?=some x->vs[i]?=some v->kindOf x=some .local ->
  bindL kindOf (P.zip vs) m x=some v
 | [],_,_,_,_,h,_,_=>by simp at h
 | _ :: _,[],_,_,_,_,h,_=>by simp at h
 | p :: P,w :: vs,0,m,nd,h1,h2,hk=>by
  simp at h1 h2;subst h1;subst h2
  show bindL kindOf ((p,w) :: P.zip vs) m p=_;unfold bindL;rw[j8 fun v hv=>(List.nodup_cons.mp nd).1 (List.of_mem_zip hv).1,if_pos hk];simp
 | p :: P,w :: vs,i + 1,m,nd,h1,h2,hk=>by
  show bindL kindOf ((p,w) :: P.zip vs) m x=_;unfold bindL;exact ka (i:=i) (List.nodup_cons.mp nd).2 (by simpa using h1) (by simpa using h2) hk
theorem kb{kindOf:Str->Option NameKind}{x:Str}{v:Value}:∀{P:List Str}{vs:List Value}{i:Nat}{m:Str->Option Value},P.Nodup->P[i]?=some x->vs[i]?=some v->kindOf x ≠ some .local ->
  bindC kindOf (P.zip vs) m x=some v
 | [],_,_,_,_,h,_,_=>by simp at h
 | _ :: _,[],_,_,_,_,h,_=>by simp at h
 | p :: P,w :: vs,0,m,nd,h1,h2,hk=>by
  simp at h1 h2;subst h1;subst h2
  show bindC kindOf ((p,w) :: P.zip vs) m p=_;unfold bindC;rw[j9 fun v hv=>(List.nodup_cons.mp nd).1 (List.of_mem_zip hv).1,if_neg hk];simp
 | p :: P,w :: vs,i + 1,m,nd,h1,h2,hk=>by
  show bindC kindOf ((p,w) :: P.zip vs) m x=_;unfold bindC;exact kb (i:=i) (List.nodup_cons.mp nd).2 (by simpa using h1) (by simpa using h2) hk
noncomputable def fX(N:List Str)(vs:List V):St:=vs.map some ++ List.replicate (N.length - vs.length) none
noncomputable def aW(CX:CXT)(P:Program)(w:World)(K:Frag)(mg:Str->Option Value)(base:Heap)(N:List Str)(qual:Str)(scope:Scope)(f:Addr)(cd:Value)(A:Around)(outer:List Env)(s:Shared)(H:Hp)(E:XK):Cx where
 prog:=P
 w:=w
 K:=K
 mg:=mg
 base:=base
 A:=A.deeper (envOfC qual scope s.heap.objs.size f cd)
 N:=N
 s₀:=s
 H₀:=H
 env:=envOfC qual scope s.heap.objs.size f cd
 outer:=outer
 stack:=envOfC qual scope s.heap.objs.size f cd :: outer
 ex:=[]
 calm:=true
 fn:=fun _=>true
 pn:=[]
 xe:=fun e s'=>wpAny (model P w) (A.deeper (envOfC qual scope s.heap.objs.size f cd)) (leaving (envOfC qual scope s.heap.objs.size f cd) e) (fun _ s''=>CX outer H s E e s'') (fun e' s''=>CX outer H s E e' s'') s'
theorem mZ{sc:Scope}{n:Nat}{x:Str}(h:sc.names.lookup x=some .cell):∃c,(cellsFrom n sc.names []).lookup x=some c:=by
 have q:=PySem.W.cellsFrom_some sc.names n [] (.inl h);exact Option.isSome_iff_exists.mp q
theorem rP{CX:CXT}{P:Program}{w:World}{K:Frag}{mg:Str->Option Value}{base:Heap}{N ps:List Str}{qual:Str}{scope:Scope}{f:Addr}{cd:Value}{A:Around}{outer:List Env}{s s1:Shared}{H:Hp}{E:XK}{us:List Value}{vs:List V}
  (S:ao N ps scope)(hd:A.handled=none)(e0:oV P w K mg base A outer s H)(hl:vs.length=ps.length)(r:aY vs us)
  (x:InCallC s s.heap.objs.size (bindL (envOfC qual scope s.heap.objs.size f cd).kindOf (ps.zip us) fun _=>none) (cellsFrom (s.heap.objs.size + 1) scope.names []) (bindC (envOfC qual scope s.heap.objs.size f cd).kindOf (ps.zip us) fun _=>none) s1) :
  Inv (aW CX P w K mg base N qual scope f cd A outer s H E) [] (fX N vs) H s1:=by
 have hpl:ps.length <= N.length:=by have:=congrArg List.length S.pre;rw[length_take]at this;lia
 obtain⟨h1,tk,rfl,hk⟩:=x.done;have noA:∀b:Addr,b ∉ (aW CX P w K mg base N qual scope f cd A outer s H E).ex:=fun b z=>absurd (show b ∈ ([]:List Addr) from z) (by simp)
 refine⟨⟨e0.mod,S.kind,rfl,rfl,Nat.le_refl _,fun y z c h1 h2=>?_,fun y hy=>?_,fun y c _ h=>?_,fun _=>hd,Around.frames_deeper e0.frames,.inr ⟨rfl,rfl⟩,fun b z=>absurd z (noA b),e0.bs,e0.bsz,fun b _ _=>noA b,fun b z=>absurd z (noA b),e0.funs,e0.frf⟩,
  rfl,e0.bare,Un.kept hk,⟨_,x.toInCall.ns,fun i y v h1 h2 h3=>?_⟩,fun y c h=>⟨_,x.cell y c h⟩,e0.hok.fresh (Nat.le_refl _),fun y c h=>?_,fun p hp=>absurd (show p ∈ ([]:List (Addr × Obj)) from hp) (by simp),e0.hok.kept hk,?_⟩
 ·exact name_of_addr x.apart (PySem.mem_of_lookup h1) (PySem.mem_of_lookup h2)
 ·have hy:scope.names.lookup y=some .cell\/scope.names.lookup y=some .free:=hy;rcases hy with hy | hy
  ·exact mZ hy
  ·exact absurd rfl (S.nofree _ (PySem.mem_of_lookup hy))
 ·exact Nat.le_of_lt (x.above y c (PySem.mem_of_lookup h))
 ·have hi:i < vs.length:=by
   unfold fX at h2;by_cases hi:i < vs.length
   ·exact hi
   ·rw[List.getElem?_append_right (by simpa using hi)]at h2
    rw[List.getElem?_replicate]at h2;split at h2 <;> cases h2
  have ha:vs[i]?=some v:=by
   unfold fX at h2;rw[List.getElem?_append_left (by simpa using hi),getElem?_map]at h2
   cases e:vs[i]? with
   | none=>rw[e]at h2;cases h2
   | some a=>rw[e]at h2;cases h2;rfl
  obtain⟨u,hu,rv⟩:=r.get ha;have hp:ps[i]?=some y:=by
   rw[<- S.pre,List.getElem?_take_of_lt (by lia)];exact h1
  have ndP:ps.Nodup:=by rw[<- S.pre];exact S.nd.sublist (List.take_sublist _ _)
  refine⟨u,rv,?_⟩;rcases S.par y (mem_of_getElem? hp) with k | k
  ·exact .inl ⟨k,ka ndP hp hu k⟩
  ·obtain⟨c,e⟩:=mZ (n:=s.heap.objs.size + 1) k;refine .inr ⟨.inl k,c,e,?_⟩;have q:=x.cell y c e;rw[kb ndP hp hu (by show scope.names.lookup y ≠ _;rw[k];decide)]at q
   exact q
 ·exact e0.hok.fresh (Nat.le_of_lt (x.above y c (PySem.mem_of_lookup h)))
 ·unfold fX;show _=N.length;rw[length_append,length_map,List.length_replicate];lia
theorem fn_of{CX:CXT}{P:Program}{w:World}{K:Frag}{mg:Str->Option Value}{base:Heap}{k:Nat}{f:Addr}{name qual:Str}{params:Arguments}{body:List Stmt}{scope:Scope}{dV kV doc pm cdv ct oc:Value}{an od:Option Addr}
  {osl:Array (Option Value)}{N ps:List Str}{sp:Sp}(lk:K.lookup f=some ⟨oc,od,.func (PySem.W.fnOf name qual params body scope dV kV doc pm an cdv ct),osl⟩)(hcd:PySem.W.codeIn K cdv qual=true)(S:ao N ps scope)
  (len:∀vs H Q E,sp vs H Q E->vs.length=ps.length)
  (hbody:∀(A:Around)(outer:List Env)(s:Shared)(H:Hp)(vs:List V)(Q:VK)(E:XK),aP k (A.deeper (envOfC qual scope s.heap.objs.size f cdv))->sp vs H Q E ->
   ∃t,PSs (aW CX P w K mg base N qual scope f cdv A outer s H E) body t/\t { nx:=fun _ H'=>Q .non H',rt:=Q } (fX N vs) H) :
  aI P w K mg base CX (k + 1) f (PySem.W.fnOf name qual params body scope dV kV doc pm an cdv ct) ps sp:=by
 refine⟨len,fun A outer s H args us vs Q E hr e0 hb r hsp=>?_⟩;have hl:=len _ _ _ _ hsp;have KX:K.In s.heap:=e0.mod.kin.keeps fun b o e=>(e0.bs b o e).1;have lim:s.heap.NoLimit:=e0.mod.nolimit.keeps fun b o e=>(e0.bs b o e).1;have hkind:∀y ∈ ps.zip us,scope.names.lookup y.1=some .local\/(scope.names.lookup y.1=some .cell/\((cellsFrom (s.heap.objs.size + 1) scope.names []).lookup y.1).isSome=true):=fun⟨n,v⟩ hy=>by
  rcases S.par n (List.of_mem_zip hy).1 with q | q
  ·exact .inl q
  ·exact .inr ⟨q,PySem.W.cellsFrom_some _ _ _ (.inl q)⟩
 refine codeAny_call_function hr.depth (KX _ _ lk) rfl S.co S.gen rfl (PySem.W.codeRec_of KX hcd) (hb _ _ _ _ ?_);refine wpAny_newFunctionEnv_cells S.kind hkind fun env he s1 x=>?_;subst he;refine⟨lim.keeps x.toInCall.keep,codeAny_func ?_⟩;obtain⟨t,ht,hq⟩:=hbody A outer s H vs Q E (hr.deeper _) hsp;have I:Inv (aW CX P w K mg base N qual scope f cdv A outer s H E) [] (fX N vs) H s1:=rP S hr.hd e0 hl r x;refine wpAny_mono (ht [] s1 (fX N vs) H _ I hq) (fun fl s' hs=>?_) fun e s' hs=>hs;have fin:∀{σ':St}{H':Hp}{v:V}{u:Value},Inv (aW CX P w K mg base N qual scope f cdv A outer s H E) [] σ' H' s'->aT v u->Q v H'->CE outer P w H s Q u s' :=
  fun {σ' H' v u} J rv q=>⟨v,H',J.os,J.bare,J.base,J.hok,rv,q⟩
 cases fl with
 | ret u =>
  obtain⟨v,σ',H',J,rv,q⟩:=hs;exact fin J rv q
 | next =>
  obtain⟨σ',H',J,q⟩:=hs;exact fin (v:=V.non) (u:=Value.none) J rfl q
 | brk =>
  obtain⟨_,_,_,q⟩:=hs;exact False.elim q
 | cont =>
  obtain⟨_,_,_,q⟩:=hs;exact False.elim q
section
variable{X:Cx}{x:Str}{p pos:Pos}{e:Expr}{es:List Expr}{t:TA}{id T:String}{r:List V->Hp->VK->Prop}
def tCB(r:List V->Hp->VK->Prop)(t:TA):TE:=fun σ H Q=>t σ H fun vs H1=>r vs H1 Q
theorem bq (hc:eO X (.builtin id) r) (hg:Gl X x) (hm:X.mg x=none) (hv:bootBuiltins x=some (.builtin id)) (ha:PA X (e :: es) t) (hn:x ≠ "__name__":=by decide) (hdb:(x == ("__debug__":Str))=false:=by decide)
  (he:starEach (e :: es) X.env=(false,eval e X.env) :: starEach es X.env:=by rfl) (hpl:(backTo pos (starEach es X.env)).any (·.1)=false:=by rfl):PE X (.Call (.Name x p) (e :: es) [] pos) (tCB r t):=by
 intro pins s σ H Q I h;refine wpAny_Call_Name_kw (dB I hg hm hv ?_ hn hdb);exact PyProof.Rows.callWith_builtin1 (thn (ha pos pins s σ H _ I h) fun us s1 ⟨vs,H1,I1,r1,q1⟩=>hc pins s1 σ H1 vs us Q I1 r1 q1) he hpl
theorem be (hc:eO X (.type T) r) (hg:Gl X x) (hm:X.mg x=none) (hv:bootBuiltins x=some (.type T)) (ha:PA X (e :: es) t) (hn:x ≠ "__name__":=by decide) (hdb:(x == ("__debug__":Str))=false:=by decide)
  (he:starEach (e :: es) X.env=(false,eval e X.env) :: starEach es X.env:=by rfl) (hpl:(backTo pos (starEach es X.env)).any (·.1)=false:=by rfl):PE X (.Call (.Name x p) (e :: es) [] pos) (tCB r t):=by
 intro pins s σ H Q I h;refine wpAny_Call_Name_kw (dB I hg hm hv ?_ hn hdb);exact PyProof.Rows.callWith_type1 (thn (ha pos pins s σ H _ I h) fun us s1 ⟨vs,H1,I1,r1,q1⟩=>hc pins s1 σ H1 vs us Q I1 r1 q1) he hpl
end
section
variable{κ:Type} [DecidableEq κ]
noncomputable def bp(kvs:List (κ × V))(k:κ):Option V:=(kvs.find? fun kv=>decide (kv.1=k)).map (·.2)
noncomputable def bz(kvs:List (κ × V))(k:κ)(v:V):List (κ × V) :=
 if (kvs.any fun kv=>decide (kv.1=k))=true then kvs.map (fun kv=>if kv.1=k then (kv.1,v) else kv) else kvs ++ [(k,v)]
noncomputable def dE(kvs:List (κ × V))(k:κ):List (κ × V):=kvs.filter fun kv=>decide (kv.1 ≠ k)
theorem bY{p:κ × V}{r:List (κ × V)}{k:κ}(e:p.1=k):bp (p :: r) k=some p.2:=by simp[bp,List.find?_cons,e]
theorem bP{p:κ × V}{r:List (κ × V)}{k:κ}(e:¬p.1=k):bp (p :: r) k=bp r k:=by simp[bp,List.find?_cons,e]
theorem dF(k:κ):∀kvs:List (κ × V),(kvs.any fun kv=>decide (kv.1=k))=(bp kvs k).isSome
 | []=>rfl
 | p :: r=>by
  rw[List.any_cons];by_cases e:p.1=k
  ·simp only[bY e,decide_eq_true e,Bool.true_or,Option.isSome_some]
  ·rw[bP e,decide_eq_false e,Bool.false_or];exact dF k r
theorem m5(k j:κ)(y:V):∀kvs:List (κ × V),bp (kvs.map fun kv=>if kv.1=k then (kv.1,y) else kv) j=(bp kvs j).map fun x=>if j=k then y else x
 | []=>rfl
 | p :: r=>by
  have ih:=m5 k j y r;rw[List.map_cons];by_cases h:p.1=k
  ·rw[if_pos h];by_cases e:p.1=j
   ·rw[bY (p:=(p.1,y)) e,bY e,Option.map_some,if_pos (e.symm.trans h)]
   ·rw[bP (p:=(p.1,y)) e,bP e,ih]
  ·rw[if_neg h];by_cases e:p.1=j
   ·rw[bY (p:=p) e,bY e,Option.map_some,if_neg (fun z=>h (e.trans z))]
   ·rw[bP (p:=p) e,bP e,ih]
theorem ke(k j:κ)(y:V):∀kvs:List (κ × V),bp kvs k=none->bp (kvs ++ [(k,y)]) j=if j=k then some y else bp kvs j
 | [],_=>by
  by_cases e:k=j
  ·rw[if_pos e.symm];exact bY (p:=(k,y)) e
  ·rw[if_neg (fun z=>e z.symm)];exact bP (p:=(k,y)) e
 | p :: r,hn=>by
  rw[List.cons_append];have hk:¬p.1=k:=fun z=>by rw[bY z]at hn;cases hn
  rw[bP hk]at hn;have ih:=ke k j y r hn;by_cases e:p.1=j
  ·rw[bY e,bY e,if_neg (fun z=>hk (e.trans z))]
  ·rw[bP e,bP e,ih]
theorem i9(kvs:List (κ × V))(k j:κ)(y:V):bp (bz kvs k y) j=if j=k then some y else bp kvs j:=by
 unfold bz;by_cases a:(kvs.any fun kv=>decide (kv.1=k))=true
 ·rw[if_pos a,m5];rw[dF]at a;by_cases e:j=k
  ·obtain⟨x,hx⟩:=Option.isSome_iff_exists.mp a;rw[if_pos e,e,hx,Option.map_some,if_pos rfl]
  ·rw[if_neg e];cases bp kvs j with
   | none=>rfl
   | some x=>rw[Option.map_some,if_neg e]
 ·rw[if_neg a];refine ke k j y kvs ?_;rw[dF]at a;cases q:bp kvs k with
  | none=>rfl
  | some x=>rw[q]at a;exact(a rfl).elim
theorem cH(kvs:List (κ × V))(k:κ)(v:V):(bz kvs k v).length <= kvs.length + 1:=by
 unfold bz;split
 ·rw[length_map];lia
 ·rw[length_append,length_cons,List.length_nil];lia
theorem ua{kvs:List (κ × V)}{k:κ}(v:V)(h:bp kvs k=none):bz kvs k v=kvs ++ [(k,v)]:=by
 unfold bz;rw[dF,h];exact if_neg (by decide)
theorem dY.isSome_eq{o:Option V}{u:Option Value}(r:dY o u):o.isSome=u.isSome:=by
 cases o with
 | none=>cases u with
  | none=>rfl
  | some _=>exact(show False from r).elim
 | some _=>cases u with
  | none=>exact(show False from r).elim
  | some _=>rfl
theorem dY.getD{o:Option V}{u:Option Value}{d:V}{d':Value}(r:dY o u)(rd:aT d d'):aT (o.getD d) (u.getD d'):=by
 cases o with
 | none=>cases u with
  | none=>exact rd
  | some _=>exact(show False from r).elim
 | some _=>cases u with
  | none=>exact(show False from r).elim
  | some _=>exact r
theorem KV.val{kvs:List (κ × V)}{vs:List (κ × Value)}(r:KV kvs vs)(k:κ):dY (bp kvs k) (valueAt vs k):=by
 unfold KV at r;induction r with
 | nil=>exact True.intro
 | @cons p q ps qs h t ih =>
  obtain⟨h1,h2⟩:=h;by_cases e:p.1=k
  ·have e':q.1=k:=h1.symm.trans e;have b:valueAt (q :: qs) k=some q.2:=by simp[valueAt,List.find?_cons,e']
   rw[bY e,b];exact h2
  ·have e':¬q.1=k:=fun z=>e (h1.trans z);have b:valueAt (q :: qs) k=valueAt qs k:=by simp[valueAt,List.find?_cons,e']
   rw[bP e,b];exact ih
theorem KV.any{kvs:List (κ × V)}{vs:List (κ × Value)}(r:KV kvs vs)(k:κ):(kvs.any fun kv=>decide (kv.1=k))=vs.any fun kv=>decide (kv.1=k):=by
 unfold KV at r;induction r with
 | nil=>rfl
 | cons h t ih=>rw[List.any_cons,List.any_cons,ih,h.1]
theorem KV.repl{kvs:List (κ × V)}{vs:List (κ × Value)}(r:KV kvs vs)(k:κ){y:V}{u:Value}(ry:aT y u) :
  KV (kvs.map fun kv=>if kv.1=k then (kv.1,y) else kv) (vs.map fun kv=>if kv.1=k then (kv.1,u) else kv):=by
 unfold KV at r ⊢;induction r with
 | nil=>exact .nil
 | @cons p q ps qs h t ih =>
  rw[List.map_cons,List.map_cons];refine .cons ?_ ih;obtain⟨h1,h2⟩:=h;by_cases e:p.1=k
  ·rw[if_pos e,if_pos (h1.symm.trans e)];exact⟨h1,ry⟩
  ·rw[if_neg e,if_neg (fun z=>e (h1.trans z))];exact⟨h1,h2⟩
theorem KV.put{kvs:List (κ × V)}{vs:List (κ × Value)}(r:KV kvs vs)(k:κ){y:V}{u:Value}(ry:aT y u):KV (bz kvs k y) (stored vs k u):=by
 unfold bz stored;rw[r.any k];by_cases e:(vs.any fun kv=>decide (kv.1=k))=true
 ·rw[if_pos e,if_pos e];exact r.repl k ry
 ·rw[if_neg e,if_neg e];exact Paired.snoc r ⟨rfl,ry⟩
theorem KV.drop{kvs:List (κ × V)}{vs:List (κ × Value)}(r:KV kvs vs)(k:κ):KV (dE kvs k) (without vs k):=by
 unfold KV at r ⊢;unfold dE without;induction r with
 | nil=>exact .nil
 | @cons p q ps qs h t ih =>
  obtain⟨h1,h2⟩:=h;rw[List.filter_cons,List.filter_cons];by_cases e:p.1=k
  ·have a:¬decide (p.1 ≠ k)=true:=by simp[e]
   have b:¬decide (q.1 ≠ k)=true:=by simp[h1.symm.trans e]
   rw[if_neg a,if_neg b];exact ih
  ·have e':¬q.1=k:=fun z=>e (h1.trans z);have a:decide (p.1 ≠ k)=true:=by simp[e]
   have b:decide (q.1 ≠ k)=true:=by simp[e']
   rw[if_pos a,if_pos b];exact .cons ⟨h1,h2⟩ ih
theorem KV.length{kvs:List (κ × V)}{vs:List (κ × Value)}(r:KV kvs vs):kvs.length=vs.length:=Paired.length r
theorem ub(kvs:List (κ × V))(k:κ):(dE kvs k).length <= kvs.length:=List.length_filter_le _ _
end
theorem eZ{P:Program}{w:World}{k:Key}{u:Value}(r:aT (kV k) u):(aV P w).is k u=true:=by
 cases k with
 | inl i=>obtain⟨t,e⟩:=(show ∃t,u=Value.int i t from r);subst e;exact mT P w i t
 | inr x=>obtain⟨t,e⟩:=(show ∃t,u=Value.str x t from r);subst e;exact mU P w x t
theorem kg{P:Program}{w:World}:∀{ks:List Key}{us:List Value},aY (ks.map kV) us->ItemsAre (aV P w) ks us
 | [],_,r=>by rw[List.map_nil]at r;cases r;exact .nil
 | k :: ks,_,r=>by
  rw[List.map_cons]at r;cases r with
  | cons h t=>exact .cons (eZ h) (kg t)
abbrev KT(H:Hp):List (List Key × V)->List (List Key × Addr × Value)->Prop:=Paired fun p q=>p.1=q.1/\H q.2.1=some (.tup (p.1.map kV))/\aT p.2 q.2.2
theorem KT.val{H:Hp}{kvs:List (List Key × V)}{xs:List (List Key × Addr × Value)}(r:KT H kvs xs)(k:List Key):dY (bp kvs k) ((atKey xs k).map (·.2)):=by
 induction r with
 | nil=>exact True.intro
 | @cons p q ps qs h t ih =>
  obtain⟨h1,_,h2⟩:=h;by_cases e:p.1=k
  ·have e':q.1=k:=h1.symm.trans e;have b:atKey (q :: qs) k=some q.2:=by simp[atKey,List.find?_cons,e']
   rw[bY e,b];exact h2
  ·have e':¬q.1=k:=fun z=>e (h1.trans z);have b:atKey (q :: qs) k=atKey qs k:=by simp[atKey,List.find?_cons,e']
   rw[bP e,b];exact ih
theorem KT.repl{H:Hp}{kvs:List (List Key × V)}{xs:List (List Key × Addr × Value)}(r:KT H kvs xs)(k:List Key){y:V}{u:Value}(ry:aT y u) :
  KT H (kvs.map fun kv=>if kv.1=k then (kv.1,y) else kv) (xs.map (putAt k u)):=by
 induction r with
 | nil=>exact .nil
 | @cons p q ps qs h t ih =>
  rw[List.map_cons,List.map_cons];refine .cons ?_ ih;obtain⟨h1,h2,h3⟩:=h;unfold putAt;by_cases e:p.1=k
  ·rw[if_pos e,if_pos (h1.symm.trans e)];exact⟨h1,h2,ry⟩
  ·rw[if_neg e,if_neg (fun z=>e (h1.trans z))];exact⟨h1,h2,h3⟩
theorem KT.put{H:Hp}{kvs:List (List Key × V)}{xs:List (List Key × Addr × Value)}(r:KT H kvs xs)(k:List Key){b:Addr}{y:V}{u:Value}(hb:H b=some (.tup (k.map kV)))(ry:aT y u) :
  KT H (bz kvs k y) (storedH xs k b u):=by
 have e:(kvs.any fun kv=>decide (kv.1=k))=(atKey xs k).isSome:=by
  rw[dF,(r.val k).isSome_eq,Option.isSome_map]
 unfold bz storedH;rw[e];by_cases q:(atKey xs k).isSome=true
 ·rw[if_pos q,if_pos q];exact r.repl k ry
 ·rw[if_neg q,if_neg q];exact Paired.snoc r ⟨rfl,hb,ry⟩
theorem KT.keeps{H H':Hp}{kvs:List (List Key × V)}{xs:List (List Key × Addr × Value)}(r:KT H kvs xs)(ht:∀b ys,H b=some (.tup ys)->H' b=some (.tup ys)):KT H' kvs xs :=
 Paired.mapP r fun _ _ z=>⟨z.1,ht _ _ z.2.1,z.2.2⟩
section
variable{P:Program}{w:World}{H:Hp}{h:Heap}{a:Addr}
theorem rd_of{u:HO}(ok:HOk P w H h)(e:Rd H a u):bT P w H h a u:=e.ok ok
theorem fc{kvs:List (Key × V)}(ok:HOk P w H h)(e:Rd H a (.dK kvs)):kvs.length <= sizeLine/\(a == sysModules)=false/\∃vs,KV kvs vs/\h.DictOf (aV P w) a vs :=
 show bT P w H h a (.dK kvs) from rd_of ok e
theorem kh{kvs:List (Key × V)}(ok:HOk P w H h)(e:H a=some (.dK kvs)):kvs.length <= sizeLine/\(a == sysModules)=false/\∃vs,KV kvs vs/\h.DictOf (aV P w) a vs:=fc ok (.inl e)
theorem ge{ks:List Key}(ok:HOk P w H h)(e:H a=some (.tup (ks.map kV))):(tupleKind (aV P w)).is h ks a:=by
 obtain⟨_,its,r,o,h1,h2,n,h3⟩:=(show bT P w H h a (.tup (ks.map kV)) from ok a _ e);exact⟨o,its.toArray,n,h1,h2,h3,by simpa using kg r⟩
theorem ir{kvs:List (List Key × V)}(ok:HOk P w H h)(e:Rd H a (.dT kvs)):kvs.length <= sizeLine/\(a == sysModules)=false /\
  ∃xs,KT H kvs xs/\h.DictOfH (tupleKind (aV P w)) a xs:=by
 obtain⟨z,y,xs,r,o,es,ep,h1,h2,h3,h4,h5⟩:=(show bT P w H h a (.dT kvs) from rd_of ok e);refine⟨z,y,xs,r,o,es,ep,h1,h2,h3,h4,fun x hx=>?_,h5⟩;have all:∀{l:List (List Key × V)} {m:List (List Key × Addr × Value)},KT H l m->∀x ∈ m,(tupleKind (aV P w)).is h x.1 x.2.1:=by
  intro l m q;induction q with
  | nil=>intro x hx;exact nomatch hx
  | @cons p q ps qs hq t ih =>
   intro x hx;rcases List.mem_cons.mp hx with e | hx
   ·subst e;exact ge ok (by rw[<- hq.1];exact hq.2.1)
   ·exact ih x hx
 exact all r x hx
theorem dt_of{kvs:List (List Key × V)}(ok:HOk P w H h)(e:H a=some (.dT kvs)):kvs.length <= sizeLine/\(a == sysModules)=false /\
  ∃xs,KT H kvs xs/\h.DictOfH (tupleKind (aV P w)) a xs:=ir ok (.inl e)
end
def dZ(H:Hp)(a:Addr)(y:V)(r:Option V):Prop :=
 (∃kvs k,Rd H a (.dK kvs)/\y=kV k/\r=bp kvs k)\/∃kvs k b,Rd H a (.dT kvs)/\y=.ref b/\H b=some (.tup (k.map kV))/\r=bp kvs k
def cL(H:Hp)(a:Addr)(y v:V)(H':Hp):Prop :=
 (∃kvs k,H a=some (.dK kvs)/\y=kV k/\kvs.length < sizeLine/\H'=upd H a (.dK (bz kvs k v))) \/
 ∃kvs k b,H a=some (.dT kvs)/\y=.ref b/\H b=some (.tup (k.map kV))/\kvs.length < sizeLine/\H'=upd H a (.dT (bz kvs k v))
theorem dZ.k{H:Hp}{a:Addr}{kvs:List (Key × V)}{k:Key}(e:H a=some (.dK kvs)):dZ H a (kV k) (bp kvs k):=.inl ⟨kvs,k,.inl e,rfl,rfl⟩
theorem cL.k{H:Hp}{a:Addr}{kvs:List (Key × V)}{k:Key}{v:V}(e:H a=some (.dK kvs))(hl:kvs.length < sizeLine):cL H a (kV k) v (upd H a (.dK (bz kvs k v))):=.inl ⟨kvs,k,e,rfl,hl,rfl⟩
section
variable{X:Cx}{pins:List (Addr × Obj)}{σ:St}{H:Hp}{s:Shared}{a:Addr}{y v:V}{u r:Value}{o:Option V}{A:Around}{E:Value->Shared->Prop}
theorem Inv.big(I:Inv X pins σ H s):sysModules < s.heap.objs.size:=by
 have h:mainGlobals < s.heap.objs.size:=(I.mod.glob.keeps I.bk).lt;exact Nat.lt_trans (by decide) h
theorem rQ{Q:Value->Shared->Prop}(hu:A.units + 1 < cLine)(I:Inv X pins σ H s)(g:dZ H a y (some v))(ry:aT y u)(h:∀w' s',Inv X pins σ H s'->aT v w'->Q w' s') :
  wpAny (model X.prog X.w) A (getItem (.ref a) u) Q E s:=by
 rcases g with ⟨kvs,k,e,ey,l⟩ | ⟨kvs,k,b,e,ey,eb,l⟩
 ·subst ey;obtain⟨z,hd,vs,rel,dd⟩:=fc I.hok e;obtain⟨w',hw,rw'⟩:=dY.some_of (v:=v) (o:=valueAt vs k) (by rw[l];exact rel.val k)
  exact wpAny_getItem_of (eZ ry) dd.mapOf hw (h w' _ (I.tok _) rw')
 ·subst ey;cases (show u=Value.ref b from ry);obtain⟨z,hd,xs,rel,dd⟩:=ir I.hok e;obtain⟨w',hw,rw'⟩:=dY.some_of (v:=v) (o:=(atKey xs k).map (·.2)) (by rw[l];exact rel.val k)
  obtain⟨p,hp,hp2⟩:=Option.map_eq_some_iff.mp hw;refine wpAny_getItem_heap (tupleKind_room_in1 hu) (ge I.hok eb) dd hp ?_;rw[hp2];exact h w' _ (I.tok _) rw'
theorem d_in{Q:Value->Shared->Prop}(hu:A.units + 1 < cLine)(I:Inv X pins σ H s)(g:dZ H a y o)(ry:aT y u)(h:∀s',Inv X pins σ H s'->Q (.bool o.isSome) s') :
  wpAny (model X.prog X.w) A (compareOp .In u (.ref a)) Q E s:=by
 rcases g with ⟨kvs,k,e,ey,l⟩ | ⟨kvs,k,b,e,ey,eb,l⟩
 ·subst ey;obtain⟨z,hd,vs,rel,dd⟩:=fc I.hok e;refine wpAny_in_of (eZ ry) hd dd.mapOf ?_;rw[<- (rel.val k).isSome_eq,<- l];exact h _ (I.tok _)
 ·subst ey;cases (show u=Value.ref b from ry);obtain⟨z,hd,xs,rel,dd⟩:=ir I.hok e;refine wpAny_in_heap (tupleKind_room_in1 hu) (ge I.hok eb) hd dd ?_;have q:=(rel.val k).isSome_eq;rw[Option.isSome_map]at q;rw[<- q,<- l];exact h _ (I.tok _)
theorem d_notIn{Q:Value->Shared->Prop}(hu:A.units + 1 < cLine)(I:Inv X pins σ H s)(g:dZ H a y o)(ry:aT y u)(h:∀s',Inv X pins σ H s'->Q (.bool (!o.isSome)) s') :
  wpAny (model X.prog X.w) A (compareOp .NotIn u (.ref a)) Q E s:=by
 rcases g with ⟨kvs,k,e,ey,l⟩ | ⟨kvs,k,b,e,ey,eb,l⟩
 ·subst ey;obtain⟨z,hd,vs,rel,dd⟩:=fc I.hok e;refine wpAny_notIn_of (eZ ry) hd dd.mapOf ?_;rw[<- (rel.val k).isSome_eq,<- l];exact h _ (I.tok _)
 ·subst ey;cases (show u=Value.ref b from ry);obtain⟨z,hd,xs,rel,dd⟩:=ir I.hok e;refine wpAny_notIn_heap (tupleKind_room_in1 hu) (ge I.hok eb) hd dd ?_;have q:=(rel.val k).isSome_eq;rw[Option.isSome_map]at q;rw[<- q,<- l];exact h _ (I.tok _)
theorem gD{h':Heap}{t':Nat}{ob:HO}(I:Inv X pins σ H s)(mu:Mut (H a))(hs:Heap.SameBut a s.heap h')(he:∃q,h'.get? a=some q)(new:bT X.prog X.w (upd H a ob) h' a ob) :
  Inv X pins σ (upd H a ob) { s with heap:=h',toks:=t' } :=
 I.write (x:=a) (e:=a) mu (.inl rfl) (fun b q hb z=>(hs.2 b hb).trans z) he new
theorem kZ{P:Program}{w:World}{H':Hp}{h':Heap}{kvs:List (Key × V)}{vs:List (Key × Value)}(z:kvs.length <= sizeLine)(hd:(a == sysModules)=false)(rel:KV kvs vs)(dd:h'.DictOf (aV P w) a vs) :
  bT P w H' h' a (.dK kvs):=⟨z,hd,vs,rel,dd⟩
theorem rR{H':Hp}{Q:Unit->Shared->Prop}(hu:A.units + 1 < cLine)(I:Inv X pins σ H s)(g:cL H a y v H')(ry:aT y u)(rv:aT v r)(h:∀s',Inv X pins σ H' s'->Q () s') :
  wpAny (model X.prog X.w) A (setItem (.ref a) u r) Q E s:=by
 rcases g with ⟨kvs,k,e,ey,l,eH⟩ | ⟨kvs,k,b,e,ey,eb,l,eH⟩
 ·subst ey eH;obtain⟨z,hd,vs,rel,dd⟩:=kh I.hok e;have hz:vs.length <= sizeLine:=by rw[<- rel.length];exact z
  have hl:(bz kvs k v).length <= sizeLine:=by have:=cH kvs k v;lia
  refine wpAny_setItem_pairs (hsz:=hz) (eZ ry) dd fun h' dd' hs=>h _ ?_;have he:∃q,h'.get? a=some q:=let ⟨q,_,_,hq,_⟩:=dd';⟨q,hq⟩;exact gD I (by rw[e];exact True.intro) hs he (kZ hl hd (rel.put k rv) dd')
 ·subst ey eH;cases (show u=Value.ref b from ry);obtain⟨z,hd,xs,rel,dd⟩:=dt_of I.hok e;have hz:xs.length <= sizeLine:=by rw[<- Paired.length rel];exact z
  have hl:(bz kvs k v).length <= sizeLine:=by have:=cH kvs k v;lia
  refine wpAny_setItem_heap (hsz:=hz) (tupleKind_room_in1 hu) (ge I.hok eb) dd fun h' dd' hs=>h _ ?_;obtain⟨q,es,ep,hq,h2,h3,h4,_,h5⟩:=dd';refine gD I (by rw[e];exact True.intro) hs ⟨q,hq⟩ ⟨hl,hd,_,(rel.put k eb rv).keeps fun c ys ec=>?_,q,es,ep,hq,h2,h3,h4,h5⟩
  rw[au (ax ec e (fun z=>nomatch z))];exact ec
end
section
variable{X:Cx}{pins:List (Addr × Obj)}{σ:St}{H:Hp}{s:Shared}{a:Addr}{kvs:List (Key × V)}{k:Key}{u:Value}{A:Around}{E:Value->Shared->Prop}
theorem d_pop{v:V}{more:List Value}{Q:Value->Shared->Prop}(I:Inv X pins σ H s)(e:H a=some (.dK kvs))(ry:aT (kV k) u)(l:bp kvs k=some v)(hm:more=[]\/∃x,more=[x])
  (h:∀w' s',Inv X pins σ (upd H a (.dK (dE kvs k))) s'->aT v w'->Q w' s'):wpAny (model X.prog X.w) A (call (.builtin "dict.pop") (.ref a :: u :: more)) Q E s:=by
 obtain⟨z,hd,vs,rel,dd⟩:=kh I.hok e;obtain⟨w',hw,rw'⟩:=dY.some_of (v:=v) (o:=valueAt vs k) (by rw[<- l];exact rel.val k)
 have hp:(keyPart u).isSome=true:=by
  cases k with
  | inl i=>obtain⟨t,q⟩:=(show ∃t,u=Value.int i t from ry);subst q;rfl
  | inr x=>obtain⟨t,q⟩:=(show ∃t,u=Value.str x t from ry);subst q;rfl
 have ha:argsOk "dict.pop" ⟨.ref a :: u :: more,[]⟩:=by
  rcases hm with q | ⟨x,q⟩
  ·subst q;exact PySem.F.args_dict_pop_2 _ _
  ·subst q;exact PySem.F.args_dict_pop_3 _ _ _
 refine call_meetsIn PySem.F.slot_dict_pop dd.typeIs PySem.F.entry_dict_pop ha (meets_dict_pop_there (aV X.prog X.w) a (eZ ry) more hm hp)
  ⟨vs,w',dd,by rw[<- rel.length];exact z,hw,fun h' dd' hs=>h w' _ ?_ rw'⟩
 have he:∃q,h'.get? a=some q:=let ⟨q,_,_,hq,_⟩:=dd';⟨q,hq⟩;exact gD I (by rw[e];exact True.intro) hs he (kZ (Nat.le_trans (ub kvs k) z) hd (rel.drop k) dd')
theorem d_popD{r:Value}{Q:Value->Shared->Prop}(I:Inv X pins σ H s)(e:H a=some (.dK kvs))(ry:aT (kV k) u)(l:bp kvs k=none)(h:∀s',Inv X pins σ H s'->Q r s') :
  wpAny (model X.prog X.w) A (call (.builtin "dict.pop") [.ref a,u,r]) Q E s:=by
 obtain⟨z,hd,vs,rel,dd⟩:=kh I.hok e;have hn:valueAt vs k=none:=dY.none_of (by rw[<- l];exact rel.val k)
 have hp:(keyPart u).isSome=true:=by
  cases k with
  | inl i=>obtain⟨t,q⟩:=(show ∃t,u=Value.int i t from ry);subst q;rfl
  | inr x=>obtain⟨t,q⟩:=(show ∃t,u=Value.str x t from ry);subst q;rfl
 exact call_meetsIn PySem.F.slot_dict_pop dd.typeIs PySem.F.entry_dict_pop (PySem.F.args_dict_pop_3 _ _ _) (meets_dict_pop_default (aV X.prog X.w) a (eZ ry) hd hp r) ⟨vs,dd,hn,h _ (I.tok _)⟩
end
def NoSl(i:Expr):Prop:=∀ov iv,subscripted i false ov iv=operate [ov,iv] (getItem ov iv)
theorem subD_of{prog:Program}{w:World}{A:Around}{E:Value->Shared->Prop}{s:Shared}{env:Env}{value slice:Expr}{pos:Pos}{T id:String}{Q:Value->Shared->Prop}
  (hl:typeLookup (.type T) "__getitem__"=pure (some (.builtin id))) (hs:NoSl slice)
  (h:wpAny (model prog w) A (eval value env) (fun o s₁=>wpAny (model prog w) A (eval slice env) (fun i s₂=>s₂.TypeIs o T/\wpAny (model prog w) A (getItem o i) Q E s₂) E s₁) E s) :
  wpAny (model prog w) A (eval (.Subscript value slice pos) env) Q E s:=by
 refine Subscript_ (wpAny_mono h (fun o s₁ h₁=>wpAny_mono h₁ (fun i s₂ h₂=>?_) fun _ _ x=>x) fun _ _ x=>x);obtain⟨hT,h₂⟩:=h₂;unfold subscriptTail;refine wpAny_bind ?_;rw[getitemInPython_of_ne hT.not_modules];refine wpAny_bind (wpAny_specialOf hT hl ?_);have fin:wpAny (model prog w) A (subscripted slice false o i) (fun r s₃=>wpAny (model prog w) A (letTemporaryGo value o r >>= fun _=>pure r) Q E s₃) E s₂:=by
  rw[hs o i];exact wpAny_operating (wpAny_mono h₂ (fun r s₃ h₃=>wpAny_bind (wpAny_letTemporaryGo (wpAny_pure h₃))) fun _ _ x=>x)
 first
  | exact wpAny_pure (wpAny_bind fin)
  | exact wpAny_bind (wpAny_pure (wpAny_bind fin))
  | exact wpAny_bind fin
theorem m6 {X:Cx} {pins:List (Addr × Obj)} {σ:St} {H:Hp} {s:Shared} {a:Addr} {y:V} {o:Option V} (I:Inv X pins σ H s) (g:dZ H a y o):s.TypeIs (.ref a) "dict":=by
 rcases g with ⟨kvs,k,e,_,_⟩ | ⟨kvs,k,b,e,_,_,_⟩
 ·obtain⟨_,_,vs,_,dd⟩:=fc I.hok e;exact dd.typeIs
 ·obtain⟨_,_,xs,_,dd⟩:=ir I.hok e;exact dd.typeIs
def tDGet(td ty:TE):TE:=fun σ H Q=>td σ H fun x H1=>ty σ H1 fun y H2=>∃a v,x=.ref a/\dZ H2 a y (some v)/\Q v H2
def tDIn(ty td:TE):TE:=fun σ H Q=>ty σ H fun y H1=>td σ H1 fun x H2=>∃a o,x=.ref a/\dZ H2 a y o/\Q (.bl o.isSome) H2
def tDNotIn(ty td:TE):TE:=fun σ H Q=>ty σ H fun y H1=>td σ H1 fun x H2=>∃a o,x=.ref a/\dZ H2 a y o/\Q (.bl (!o.isSome)) H2
def sDPut(td ty tv:TE):TS:=fun D σ H=>tv σ H fun v H1=>td σ H1 fun x H2=>ty σ H2 fun y H3=>∃a H4,x=.ref a/\cL H3 a y v H4/\D.nx σ H4
section
variable{X:Cx}{o i e value:Expr}{pos pos' tpos:Pos}{td ty tv:TE}
theorem aA(hu:X.A.units + 1 < cLine)(ho:PE X o td)(hi:PE X i ty)(hs:NoSl i):PE X (.Subscript o i pos) (tDGet td ty):=by
 intro pins s σ H Q I h;refine subD_of PySem.F.slot_dict_getitem.lookup hs (thn (ho pins s σ H _ I h) fun u s1 ⟨x,H1,I1,rx,q1⟩=>thn (hi pins s1 σ H1 _ I1 q1) fun iv s2 ⟨y,H2,I2,ry,a,v,ex,g,q2⟩=>?_);subst ex;obtain rfl:u=Value.ref a:=rx;exact⟨m6 I2 g,rQ hu I2 g ry fun w' s3 I3 rw'=>⟨v,H2,I3,rw',q2⟩⟩
theorem pc_din(hu:X.A.units + 1 < cLine)(hi:PE X i ty)(ho:PE X o td):PC X .In i o (tDIn ty td):=by
 intro pins s σ H Q I h;refine thn (hi pins s σ H _ I h) fun iv s1 ⟨y,H1,I1,ry,q1⟩=>thn (ho pins s1 σ H1 _ I1 q1) fun u s2 ⟨x,H2,I2,rx,a,ov,ex,g,q2⟩=>?_;subst ex;obtain rfl:u=Value.ref a:=rx;exact d_in hu I2 g ry fun s3 I3=>⟨.bl ov.isSome,H2,I3,rfl,q2⟩
theorem rS(hu:X.A.units + 1 < cLine)(hi:PE X i ty)(ho:PE X o td):PC X .NotIn i o (tDNotIn ty td):=by
 intro pins s σ H Q I h;refine thn (hi pins s σ H _ I h) fun iv s1 ⟨y,H1,I1,ry,q1⟩=>thn (ho pins s1 σ H1 _ I1 q1) fun u s2 ⟨x,H2,I2,rx,a,ov,ex,g,q2⟩=>?_;subst ex;obtain rfl:u=Value.ref a:=rx;exact d_notIn hu I2 g ry fun s3 I3=>⟨.bl (!ov.isSome),H2,I3,rfl,q2⟩
theorem br(hu:X.A.units + 1 < cLine)(ho:PE X o td)(hi:PE X i ty)(hv:PE X value tv)(hs:swapsWith value (some (.Subscript o i pos')) pos.line X.env=pure false) :
  PS X (.Assign [.Subscript o i pos'] value pos) (sDPut td ty tv):=by
 intro pins s σ H D I h;refine wpAny_Assign_Subscript (thn (hv pins s σ H _ I h) fun r s1 ⟨v,H1,I1,rv,q1⟩=>thn (ho pins s1 σ H1 _ I1 q1) fun u s2 ⟨x,H2,I2,rx,q2⟩=>thn (hi pins s2 σ H2 _ I2 q2) fun iv s3 ⟨y,H3,I3,ry,a,H4,ex,g,q3⟩=>?_) hs;subst ex;obtain rfl:u=Value.ref a:=rx;exact rR hu I3 g ry rv fun s4 I4=>⟨σ,H4,I4,q3⟩
end
theorem ja {P:Program} {w:World} {H:Hp} (h:Heap) (hb:sysModules < h.objs.size):bT P w H (h.push { cls:=.type "dict",data:=.dict #[] }) h.objs.size (.dK []) :=
 ⟨Nat.zero_le _,beq_eq_false_iff_ne.mpr (Ne.symm (Nat.ne_of_lt hb)),[],.nil,Heap.DictOf.new h⟩
def tDNewK:TE:=fun _ H Q=>∀p,H p=none->Q (.ref p) (upd H p (.dK []))
section
variable{X:Cx}{pos:Pos}
theorem gE:PE X (.Dict [] [] pos) tDNewK:=fun pins s σ H Q I h =>
 wpAny_Dict_empty ⟨.ref s.heap.objs.size,_,I.laid (a:=s.heap.objs.size) (o:=.dK []) (t':=s.toks) (fun _ _ q=>get?_push_of_some _ q) (Nat.le_refl _) (ja s.heap I.big),rfl,h _ (I.hok.fresh (Nat.le_refl _))⟩
end
noncomputable def oX:List (TE × TE)->St->Hp->(List (V × V)->Hp->Prop)->Prop
 | [],_,H,Q=>Q [] H
 | (tk,tv) :: r,σ,H,Q=>tk σ H fun x H1=>tv σ H1 fun y H2=>oX r σ H2 fun ps H3=>Q ((x,y) :: ps) H3
abbrev VV:List (V × V)->List (Value × Value)->Prop:=Paired fun p q=>aT p.1 q.1/\aT p.2 q.2
def PPs(X:Cx)(pos:Pos)(keys:List (Option Expr))(values:List Expr)(trs:List (TE × TE)):Prop :=
 ∀(pins:List (Addr × Obj)) (s:Shared) (σ:St) (H:Hp) (Q:List (V × V)->Hp->Prop),Inv X pins σ H s->oX trs σ H Q ->
  wpAny (model X.prog X.w) X.A (evalPairs (pairTrees keys values X.env pos)) (fun vs s'=>∃ps H',Inv X pins σ H' s'/\VV ps vs/\Q ps H') X.xe s
theorem pps_nil{X:Cx}{pos:Pos}:PPs X pos [] [] []:=fun pins s σ H Q I h=>pairTrees_nil_walk ⟨[],H,I,.nil,h⟩
theorem fe{X:Cx}{pos:Pos}{k v:Expr}{ks:List (Option Expr)}{vs:List Expr}{tk tv:TE}{trs:List (TE × TE)}(hk:PE X k tk)(hv:PE X v tv)(hr:PPs X pos ks vs trs) :
  PPs X pos (some k :: ks) (v :: vs) ((tk,tv) :: trs):=fun pins s σ H Q I h =>
 pairTrees_cons_walk (thn (hk pins s σ H _ I h) fun u s1 ⟨x,H1,I1,rx,q1⟩=>thn (hv pins s1 σ H1 _ I1 q1) fun w2 s2 ⟨y,H2,I2,ry,q2⟩ =>
  thn (hr pins s2 σ H2 _ I2 q2) fun ws s3 ⟨ps,H3,I3,rel,q3⟩=>⟨(x,y) :: ps,H3,I3,.cons ⟨rx,ry⟩ rel,q3⟩)
noncomputable def g8(kvs more:List (Key × V)):List (Key × V):=more.foldl (fun acc kv=>bz acc kv.1 kv.2) kvs
theorem KV.merge:∀{more:List (Key × V)} {rs:List (Key × Value)} {kvs:List (Key × V)} {vs:List (Key × Value)},KV more rs->KV kvs vs->KV (g8 kvs more) (merged vs rs):=by
 intro more rs kvs vs r;unfold KV at r;induction r generalizing kvs vs with
 | nil=>intro q;exact q
 | @cons p q ps qs h t ih =>
  intro r0;have e:KV (bz kvs p.1 p.2) (stored vs q.1 q.2):=by
   have:=r0.put p.1 h.2;rw[<- h.1];exact this
  exact ih e
theorem fY:∀(more kvs:List (Key × V)),(g8 kvs more).length <= kvs.length + more.length
 | [],kvs=>by show kvs.length <= kvs.length + 0;lia
 | p :: r,kvs=>by
  have h1:=fY r (bz kvs p.1 p.2);have h2:=cH kvs p.1 p.2;show (g8 (bz kvs p.1 p.2) r).length <= _;rw[length_cons];lia
theorem jb{P:Program}{w:World}:∀{kvs:List (Key × V)} {ws:List (Value × Value)},VV (kvs.map fun kv=>(kV kv.1,kv.2)) ws->∃rs,Carries (aV P w) ws rs/\KV kvs rs
 | [],_,r=>by rw[List.map_nil]at r;cases r;exact⟨[],True.intro,.nil⟩
 | p :: kvs,_,r=>by
  rw[List.map_cons]at r;cases r with
  | @cons a b as bs h t =>
   obtain⟨rs,c,q⟩:=jb (P:=P) (w:=w) t;obtain⟨b1,b2⟩:=b;exact⟨(p.1,b2) :: rs,⟨eZ h.1,rfl,c⟩,.cons ⟨rfl,h.2⟩ q⟩
def tDisp(trs:List (TE × TE)):TE:=fun σ H Q=>∀p,H p=none->oX trs σ (upd H p (.dK [])) fun ps H2=>H2 p=some (.dK [])/\∃kvs:List (Key × V),ps=kvs.map (fun kv=>(kV kv.1,kv.2))/\kvs.length <= 15/\Q (.ref p) (upd H2 p (.dK (g8 [] kvs)))
theorem pe_disp{X:Cx}{pos:Pos}{keys:List (Option Expr)}{values:List Expr}{trs:List (TE × TE)}(h:PPs X pos keys values trs)(hall:keys.all (·.isSome)=true)(hl:keys.length=values.length)(h0:keys ≠ [])
  (h15:keys.length <= 15):PE X (.Dict keys values pos) (tDisp trs):=by
 intro pins s σ H Q I q;have hn:=I.hok.fresh (Nat.le_refl s.heap.objs.size);have I1:=I.laid (a:=s.heap.objs.size) (o:=.dK []) (h':=s.heap.push { cls:=.type "dict",data:=.dict #[] }) (t':=s.toks) (fun _ _ q=>get?_push_of_some _ q) (Nat.le_refl _) (ja s.heap I.big);refine wpAny_Dict_walk (knd:=aV X.prog X.w) hall hl h0 h15 (thn (h pins _ σ _ _ I1 (q _ hn)) fun ws s2 ⟨ps,H2,I2,rel,e,kvs,ep,lk,q2⟩=>?_);subst ep;obtain⟨rs,c,rk⟩:=jb (P:=X.prog) (w:=X.w) rel;obtain⟨z,hd,vs0,r0,dd⟩:=kh I2.hok e;cases r0;refine⟨rs,c,dd,fun h' dd' hs=>⟨.ref s.heap.objs.size,_,?_,rfl,q2⟩⟩;have hz:(g8 [] kvs).length <= sizeLine:=by
  have h1:=fY kvs [];rw[List.length_nil]at h1;rw[sizeLine_eq];lia
 have he:∃q,h'.get? s.heap.objs.size=some q:=let ⟨q,_,_,hq,_⟩:=dd';⟨q,hq⟩;exact gD I2 (by rw[e];exact True.intro) hs he (kZ hz hd (rk.merge .nil) dd')
structure M1(X:Cx)(o:Expr)(m:Str)(apos:Pos)(e:Expr)(cpos:Pos):Prop where
 base:attributeBase o m X.env (eval o X.env)=eval o X.env
 few:((backTo cpos (starEach [e] X.env)).all (fun x=>!x.1) && (backToKw cpos (keywordEach [] X.env)).all (fun x=>x.1.isSome)
  && decide (([e]:List Expr).length + ([]:List Keyword).length + (if ([]:List Keyword).isEmpty then 0 else 1) < 30))=true
 line:(apos.endLine == cpos.line)=true
 trees:backTo cpos (starEach [e] X.env)=[(false,eval e X.env)]
structure M2(X:Cx)(o:Expr)(m:Str)(apos:Pos)(e f:Expr)(cpos:Pos):Prop where
 base:attributeBase o m X.env (eval o X.env)=eval o X.env
 few:((backTo cpos (starEach [e,f] X.env)).all (fun x=>!x.1) && (backToKw cpos (keywordEach [] X.env)).all (fun x=>x.1.isSome)
  && decide (([e,f]:List Expr).length + ([]:List Keyword).length + (if ([]:List Keyword).isEmpty then 0 else 1) < 30))=true
 line:(apos.endLine == cpos.line)=true
 trees:backTo cpos (starEach [e,f] X.env)=[(false,eval e X.env),(false,eval f X.env)]
def IsD(H:Hp)(a:Addr):Prop:=(∃kvs,Rd H a (.dK kvs))\/∃kvs,Rd H a (.dT kvs)
theorem oY{X:Cx}{pins:List (Addr × Obj)}{σ:St}{H:Hp}{s:Shared}{a:Addr}(I:Inv X pins σ H s)(d:IsD H a) :
  s.TypeIs (.ref a) "dict" /\(∀b,Value.ref a=.ref b->∃ob,s.heap.get? b=some ob/\ob.dict=none)/\(a == sysModules)=false:=by
 rcases d with ⟨kvs,e⟩ | ⟨kvs,e⟩
 ·obtain⟨_,hd,vs,_,dd⟩:=fc I.hok e;refine⟨dd.typeIs,fun b q=>?_,hd⟩;cases q;obtain⟨ob,_,_,h1,h2,_⟩:=dd;exact⟨ob,h1,h2.2.1⟩
 ·obtain⟨_,hd,xs,_,dd⟩:=ir I.hok e;refine⟨dd.typeIs,fun b q=>?_,hd⟩;cases q;obtain⟨ob,_,_,h1,h2,_⟩:=dd;exact⟨ob,h1,h2.2.1⟩
section
variable{X:Cx}{pins:List (Addr × Obj)}{σ:St}{H:Hp}{s:Shared}{a:Addr}{y d:V}{u r:Value}{o:Option V}{A:Around}{E:Value->Shared->Prop}
theorem d_get1{Q:Value->Shared->Prop}(hu:A.units + 1 < cLine)(I:Inv X pins σ H s)(g:dZ H a y o)(ry:aT y u)(h:∀w' s',Inv X pins σ H s'->aT (o.getD .non) w'->Q w' s') :
  wpAny (model X.prog X.w) A (call (.builtin "dict.get") [.ref a,u]) Q E s:=by
 rcases g with ⟨kvs,k,e,ey,l⟩ | ⟨kvs,k,b,e,ey,eb,l⟩
 ·subst ey;obtain⟨z,hd,vs,rel,dd⟩:=fc I.hok e;refine call_meetsIn PySem.F.slot_dict_get dd.typeIs PySem.F.entry_dict_get (PySem.F.args_dict_get_2 _ _) (meets_dict_get (aV X.prog X.w) a (eZ ry) hd) ⟨_,dd.mapOf,h _ _ (I.tok _) ?_⟩;rw[l];exact(rel.val k).getD rfl
 ·subst ey;cases (show u=Value.ref b from ry);obtain⟨z,hd,xs,rel,dd⟩:=ir I.hok e;refine call_meetsIn PySem.F.slot_dict_get dd.typeIs PySem.F.entry_dict_get (PySem.F.args_dict_get_2 _ _) (meetsH_dict_get (tupleKind (aV X.prog X.w)) a b hd) ⟨tupleKind_room_in1 hu,k,xs,ge I.hok eb,dd,h _ _ (I.tok _) ?_⟩;rw[l];exact(rel.val k).getD rfl
theorem d_get2{Q:Value->Shared->Prop}(hu:A.units + 1 < cLine)(I:Inv X pins σ H s)(g:dZ H a y o)(ry:aT y u)(rd:aT d r)(h:∀w' s',Inv X pins σ H s'->aT (o.getD d) w'->Q w' s') :
  wpAny (model X.prog X.w) A (call (.builtin "dict.get") [.ref a,u,r]) Q E s:=by
 rcases g with ⟨kvs,k,e,ey,l⟩ | ⟨kvs,k,b,e,ey,eb,l⟩
 ·subst ey;obtain⟨z,hd,vs,rel,dd⟩:=fc I.hok e;refine call_meetsIn PySem.F.slot_dict_get dd.typeIs PySem.F.entry_dict_get (PySem.F.args_dict_get_3 _ _ _) (meets_dict_get_default (aV X.prog X.w) a (eZ ry) hd r) ⟨_,dd.mapOf,h _ _ (I.tok _) ?_⟩;rw[l];exact(rel.val k).getD rd
 ·subst ey;cases (show u=Value.ref b from ry);obtain⟨z,hd,xs,rel,dd⟩:=ir I.hok e;refine call_meetsIn PySem.F.slot_dict_get dd.typeIs PySem.F.entry_dict_get (PySem.F.args_dict_get_3 _ _ _) (meetsH_dict_get_default (tupleKind (aV X.prog X.w)) a b hd r) ⟨tupleKind_room_in1 hu,k,xs,ge I.hok eb,dd,h _ _ (I.tok _) ?_⟩;rw[l];exact(rel.val k).getD rd
end
def tDGet1(td ty:TE):TE:=fun σ H Q=>td σ H fun x H1=>∃a,x=.ref a/\IsD H1 a/\ty σ H1 fun y H2=>∃o,dZ H2 a y o/\Q (o.getD .non) H2
def tDGet2(td ty tx:TE):TE:=fun σ H Q=>td σ H fun x H1=>∃a,x=.ref a/\IsD H1 a/\ty σ H1 fun y H2=>tx σ H2 fun z H3=>∃o,dZ H3 a y o/\Q (o.getD z) H3
def tDPop2(td ty tx:TE):TE:=fun σ H Q=>td σ H fun x H1=>∃a,x=.ref a/\IsD H1 a/\ty σ H1 fun y H2=>tx σ H2 fun z H3=>∃kvs k,H3 a=some (.dK kvs)/\y=kV k /\
 (∀v,bp kvs k=some v->Q v (upd H3 a (.dK (dE kvs k))))/\(bp kvs k=none->Q z H3)
section
variable{X:Cx}{o e f:Expr}{apos cpos:Pos}{td ty tx:TE}
theorem uc (hu:X.A.units + 1 < cLine) (ho:PE X o td) (he:PE X e ty) (m:M1 X o "get" apos e cpos):PE X (.Call (.Attribute o "get" apos) [e] [] cpos) (tDGet1 td ty):=by
 intro pins s σ H Q I h;refine wpAny_Call_method m.base m.few m.line PySem.F.plainAttrs_dict PySem.F.slot_dict_get PySem.F.type_dict_get (thn (ho pins s σ H _ I h) fun u s1 ⟨x,H1,I1,rx,a,ex,d,q1⟩=>?_);subst ex;obtain rfl:u=Value.ref a:=rx;obtain⟨t1,t2,_⟩:=oY I1 d;refine⟨t1,t2,?_⟩;rw[m.trees];refine Calls.callWith_builtin rfl (Calls.evalArgs_plain (Calls.spliced_cons (thn (he pins s1 σ H1 _ I1 q1) fun iv s2 ⟨y,H2,I2,ry,ov,g,q2⟩=>Calls.spliced_nil ?_)));exact d_get1 hu I2 g ry fun w' s3 I3 rw'=>⟨_,H2,I3,rw',q2⟩
theorem ud (hu:X.A.units + 1 < cLine) (ho:PE X o td) (he:PE X e ty) (hf:PE X f tx) (m:M2 X o "get" apos e f cpos):PE X (.Call (.Attribute o "get" apos) [e,f] [] cpos) (tDGet2 td ty tx):=by
 intro pins s σ H Q I h;refine wpAny_Call_method m.base m.few m.line PySem.F.plainAttrs_dict PySem.F.slot_dict_get PySem.F.type_dict_get (thn (ho pins s σ H _ I h) fun u s1 ⟨x,H1,I1,rx,a,ex,d,q1⟩=>?_);subst ex;obtain rfl:u=Value.ref a:=rx;obtain⟨t1,t2,_⟩:=oY I1 d;refine⟨t1,t2,?_⟩;rw[m.trees];refine Calls.callWith_builtin rfl (Calls.evalArgs_plain (Calls.spliced_cons (thn (he pins s1 σ H1 _ I1 q1) fun iv s2 ⟨y,H2,I2,ry,q2⟩ =>
  Calls.spliced_cons (thn (hf pins s2 σ H2 _ I2 q2) fun fv s3 ⟨z,H3,I3,rz,ov,g,q3⟩=>Calls.spliced_nil ?_))))
 exact d_get2 hu I3 g ry rz fun w' s4 I4 rw'=>⟨_,H3,I4,rw',q3⟩
theorem ue (ho:PE X o td) (he:PE X e ty) (hf:PE X f tx) (m:M2 X o "pop" apos e f cpos):PE X (.Call (.Attribute o "pop" apos) [e,f] [] cpos) (tDPop2 td ty tx):=by
 intro pins s σ H Q I h;refine wpAny_Call_method m.base m.few m.line PySem.F.plainAttrs_dict PySem.F.slot_dict_pop PySem.F.type_dict_pop (thn (ho pins s σ H _ I h) fun u s1 ⟨x,H1,I1,rx,a,ex,d,q1⟩=>?_);subst ex;obtain rfl:u=Value.ref a:=rx;obtain⟨t1,t2,_⟩:=oY I1 d;refine⟨t1,t2,?_⟩;rw[m.trees];refine Calls.callWith_builtin rfl (Calls.evalArgs_plain (Calls.spliced_cons (thn (he pins s1 σ H1 _ I1 q1) fun iv s2 ⟨y,H2,I2,ry,q2⟩ =>
  Calls.spliced_cons (thn (hf pins s2 σ H2 _ I2 q2) fun fv s3 ⟨z,H3,I3,rz,kvs,k,ea,ey,q3,q4⟩=>Calls.spliced_nil ?_))))
 subst ey;cases l:bp kvs k with
 | some v=>exact d_pop I3 ea ry l (.inr ⟨fv,rfl⟩) fun w' s4 I4 rw'=>⟨v,_,I4,rw',q3 v l⟩
 | none=>exact d_popD I3 ea ry l fun s4 I4=>⟨z,H3,I4,rz,q4 l⟩
end
section
variable{X:Cx}{pins:List (Addr × Obj)}{σ:St}{H:Hp}{s:Shared}{a:Addr}{kvs:List (Key × V)}{A:Around}{E:Value->Shared->Prop}
end
section
variable{X:Cx}{pins:List (Addr × Obj)}{σ:St}{H:Hp}{s:Shared}{a:Addr}{y:V}{u:Value}{A:Around}{E:Value->Shared->Prop}
end
end L2
namespace HT
open PySem PyProof.Rows
section
open PySem.SeqAt
open PySem.AutoSeq1 (wpAny_loadPart')
open PySem.MeetsSeq PySem.MeetsSeq2 PySem.MeetsSeq3
end
section
variable{prog:Program}{w:World}{A:Around}{E:Value->Shared->Prop}{s:Shared}
theorem cat_tup{t b:Addr}{vs ws:List Value}{Q:Value->Shared->Prop}(ht:IsTup s.heap t vs.toArray)(hb:IsTup s.heap b ws.toArray)(hv:vs ≠ [])
  (h1:ws=[]->Q (.ref t) s) (h2:ws ≠ []->Q (.ref s.heap.objs.size) { s with heap:=s.heap.push { cls:=.type "tuple",data:=.seq (vs ++ ws).toArray } })
  (hsz:vs.length + ws.length <= sizeLine):wpAny (model prog w) A (binaryOp .Add (.ref t) (.ref b)) Q E s:=by
 obtain⟨⟨cls,dd,data,sl⟩,ho,hc,n,hd⟩:=id ht;obtain⟨⟨cls2,dd2,data2,sl2⟩,ho2,hc2,n2,hd2⟩:=id hb;simp only at hc hd hc2 hd2;subst hc hd hc2 hd2;have e:vs.toArray ++ ws.toArray=(vs ++ ws).toArray:=by simp
 by_cases hw:ws=[]
 ·exact concat_meets ⟨_,ho,rfl⟩ ⟨_,ho2,rfl⟩ noFill_tuple_add seq_tuple_add PySem.F.slot_tuple_add PySem.F.entry_tuple_add (PySem.F.args_tuple_add_2 _ _)
   (tuple_addW1 t b vs.toArray ws.toArray n n2 dd dd2 sl sl2 (by simpa using hv) (by simp[hw])) ⟨ho,ho2,h1 hw⟩
 ·refine concat_meets ⟨_,ho,rfl⟩ ⟨_,ho2,rfl⟩ noFill_tuple_add seq_tuple_add PySem.F.slot_tuple_add PySem.F.entry_tuple_add (PySem.F.args_tuple_add_2 _ _)
   (tuple_addW2 t b vs.toArray ws.toArray n n2 dd dd2 sl sl2 (by simpa using hv) (by simpa using hw) (by rw[size_toArray,size_toArray];exact hsz)) ⟨ho,ho2,?_⟩
  rw[e];exact h2 hw
noncomputable def sIx(n d:Nat):Option Int->Nat
 | none=>d
 | some v=>if v < 0 then (v + (n:Int)).toNat else min v.toNat n
theorem jc(n d:Nat):sIx n d none=d:=rfl
theorem gF(n d k:Nat):sIx n d (some (k:Int))=min k n:=by
 show (if (k:Int) < 0 then ((k:Int) + (n:Int)).toNat else min (k:Int).toNat n)=min k n
 rw[if_neg (by lia),Int.toNat_natCast]
theorem sIx_le(n d:Nat)(hd:d <= n)(o:Option Int):sIx n d o <= n:=by
 cases o with
 | none=>exact hd
 | some v =>
  show (if v < 0 then (v + (n:Int)).toNat else min v.toNat n) <= n
  by_cases hv:v < 0
  ·rw[if_pos hv];lia
  ·rw[if_neg hv];exact Nat.min_le_right _ _
theorem qK(v:Int)(n d:Nat):(if v < 0 then max (v + (n:Int)) 0 else min v (n:Int))=((sIx n d (some v):Nat):Int):=by
 show (if v < 0 then max (v + (n:Int)) 0 else min v (n:Int))=(((if v < 0 then (v + (n:Int)).toNat else min v.toNat n):Nat):Int)
 by_cases hv:v < 0
 ·simp only[if_pos hv];lia
 ·simp only[if_neg hv];lia
theorem oZ(lo hi:Option Int)(n:Nat):Builtin.Slice.sliceAdjust lo hi 1 (n:Int)=(((sIx n 0 lo:Nat):Int),((sIx n n hi:Nat):Int)):=by
 have h1:¬((1:Int) < 0):=by lia
 unfold Builtin.Slice.sliceAdjust;simp only[h1,if_false];refine Prod.ext ?_ ?_
 ·cases lo with
  | none=>rfl
  | some v=>exact qK v n 0
 ·cases hi with
  | none=>rfl
  | some v=>exact qK v n n
theorem o0(i j:Nat):Builtin.Slice.slicePlaces (i:Int) (j:Int) 1=j - i:=by
 unfold Builtin.Slice.slicePlaces;have h1:(1:Int) > 0:=by lia
 simp only[h1,if_true,Int.ediv_one];split <;> lia
theorem jd{v:Value}{o:Option Int}{Q:Option Int->Shared->Prop}(p:IsPart v o)(h:Q o s):wpAny (model prog w) A (Builtin.Slice.slicePartIndex v) Q E s:=by
 cases p with
 | none=>exact slicePart_none h
 | int i t=>exact slicePart_int h
theorem d4{sl:Addr}{vl vu:Value}{lo hi:Option Int}{n:Nat}{Q:Int × Int × Nat->Shared->Prop}(hs:s.heap.IsSliceOf sl vl vu .none)(pl:IsPart vl lo)(pu:IsPart vu hi)
  (h:Q (((sIx n 0 lo:Nat):Int),1,sIx n n hi - sIx n 0 lo) s):wpAny (model prog w) A (Builtin.Slice.sliceApplied (.ref sl) (pure (n:Int))) Q E s:=by
 obtain⟨os,hos,hcs,hds⟩:=id hs;unfold Builtin.Slice.sliceApplied Builtin.Slice.sliceFields;refine wpAny_bind (wpAny_bind (wpAny_field hos hds (x:=vl) rfl (wpAny_bind (wpAny_field hos hds (x:=vu) rfl (wpAny_bind (wpAny_field hos hds (x:=.none) rfl (wpAny_pure ?_)))))));refine wpAny_bind (slicePart_none ?_);show wpAny _ _ (if ((1:Int) == 0)=true then _ else _) _ _ s
 rw[if_neg (by decide)]
 refine wpAny_bind (jd pl (wpAny_bind (jd pu (wpAny_bind (wpAny_pure ?_)))));show wpAny _ _ (match Builtin.Slice.sliceAdjust lo hi 1 (n:Int) with | (lo,hi)=>pure (lo,(1:Int),Builtin.Slice.slicePlaces lo hi 1)) _ _ s
 rw[oZ lo hi n];show wpAny _ _ (pure (((sIx n 0 lo:Nat):Int),(1:Int),Builtin.Slice.slicePlaces ((sIx n 0 lo:Nat):Int) ((sIx n n hi:Nat):Int) 1)) _ _ s;rw[o0];exact wpAny_pure h
theorem uf(xs:Array Value)(i k:Nat):((List.range k).filterMap fun(m:Nat)=>xs[((i:Int) + (m:Int) * 1).toNat]?).toArray=((xs.toList.drop i).take k).toArray:=by
 have e:(fun(m:Nat)=>xs[((i:Int) + (m:Int) * 1).toNat]?)=fun m=>xs[i + m]?:=by
  funext m
  have:((i:Int) + (m:Int) * 1).toNat=i + m:=by lia
  rw[this]
 rw[e];have:=pick_run xs i k;rw[List.filterMap_map]at this;have e2:((fun x=>xs[x]?) ∘ fun x=>i + x)=fun m=>xs[i + m]?:=rfl;rw[e2]at this;rw[this]
theorem gG{t sl:Addr}{items:Array Value}{vl vu:Value}{lo hi:Option Int}{Q:Value->Shared->Prop}(ht:IsTup s.heap t items)(hs:s.heap.IsSliceOf sl vl vu .none)(pl:IsPart vl lo)(pu:IsPart vu hi)
  (hw:¬(sIx items.size 0 lo=0/\sIx items.size items.size hi=items.size))
  (h:Q (.ref s.heap.objs.size) { s with heap:=s.heap.push { cls:=.type "tuple",data:=.seq ((items.toList.drop (sIx items.size 0 lo)).take (sIx items.size items.size hi - sIx items.size 0 lo)).toArray } })
  (hsz:items.size <= sizeLine):wpAny (model prog w) A (getItem (.ref t) (.ref sl)) Q E s:=by
 have htake:sizeOk (.seq ((items.toList.drop (sIx items.size 0 lo)).take (sIx items.size items.size hi - sIx items.size 0 lo)).toArray):=by
  show ((items.toList.drop (sIx items.size 0 lo)).take (sIx items.size items.size hi - sIx items.size 0 lo)).toArray.size <= sizeLine;rw[size_toArray,length_take,length_drop,Array.length_toList];lia
 have hj:sIx items.size items.size hi <= items.size:=sIx_le _ _ (Nat.le_refl _) hi;obtain⟨os,hos,hcs,hds⟩:=id hs;have hTs:s.TypeIs (.ref sl) "slice":=⟨os,hos,hcs⟩;unfold getItem
 try with_reducible refine wpAny_holding ?_
 first | refine wpAny_bind (wpAny_pure ?_) | skip
 refine wpAny_bind (wpAny_sequenceKey ht.typeIs (by decide) ?_)
 refine wpAny_bind (wpAny_callSpecial?_slot (name:=Str.ofString "__getitem__") ht.typeIs PyProof.Rows.slot_tuple_getitem
  (wpAny_call_entry PyProof.Rows.slot_tuple_getitem ht.typeIs entry_tuple_getitem ?_ (args_tuple_getitem _ _)))
 show wpAny _ _ (Builtin.Tuple.tupleItemsOf (.ref t) >>= _) _ _ s;refine wpAny_bind (tupleItemsOf_ ht ?_);refine wpAny_bind (wpAny_typeOf hTs ?_);rw[if_pos (by decide)]
 refine wpAny_bind (d4 hs pl pu ?_);have hno:¬((((sIx items.size 0 lo:Nat):Int) == 0 && (1:Int) == 1 && (sIx items.size items.size hi - sIx items.size 0 lo) == items.size)=true):=by
  intro q;rw[Bool.and_eq_true,Bool.and_eq_true]at q;have q1:((sIx items.size 0 lo:Nat):Int)=0:=eq_of_beq q.1.1;have q2:sIx items.size items.size hi - sIx items.size 0 lo=items.size:=eq_of_beq q.2;exact hw ⟨by lia,by lia⟩
 show wpAny _ _ (if (((sIx items.size 0 lo:Nat):Int) == 0 && (1:Int) == 1 && (sIx items.size items.size hi - sIx items.size 0 lo) == items.size)=true then _ else _) _ _ s
 rw[if_neg hno,uf]
 first
  | exact wpAny_bind (m:=Builtin.Tuple.tupleExact _) (wpAny_newObj_type (wpAny_pure ⟨_,rfl,wpAny_pure h⟩) htake)
  | exact wpAny_bind (m:=Builtin.Tuple.tupleExact _) (wpAny_newObj_type (wpAny_bind (wpAny_pure (wpAny_pure ⟨_,rfl,wpAny_pure h⟩))) htake)
  | exact wpAny_bind (wpAny_bind (m:=Builtin.Tuple.tupleExact _) (wpAny_newObj_type (wpAny_pure (wpAny_pure ⟨_,rfl,wpAny_pure h⟩)) htake))
  | exact wpAny_bind (wpAny_bind (m:=Builtin.Tuple.tupleExact _) (wpAny_newObj_type (wpAny_pure ⟨_,rfl,wpAny_pure h⟩) htake))
end
end HT
namespace L2
open PySem PySem.Spec PyProof.Rows
abbrev TO:=St->Hp->(Option Int->Hp->Prop)->Prop
def PO(X:Cx)(e:Option Expr)(t:TO):Prop :=
 ∀(pins:List (Addr × Obj)) (s:Shared) (σ:St) (H:Hp) (Q:Option Int->Hp->Prop),Inv X pins σ H s->t σ H Q ->
  wpAny (model X.prog X.w) X.A (evalPart e X.env) (fun u s'=>∃o H',Inv X pins σ H' s'/\IsPart u o/\Q o H') X.xe s
def tNoPart:TO:=fun _ H Q=>Q none H
noncomputable def tPart(t:TE):TO:=fun σ H Q=>t σ H fun x H1=>∃i,x=.int i/\Q (some i) H1
theorem o4{ns:List Int}:∀{us:List Value},aY (ns.map V.int) us->IntsAre us ns:=by
 induction ns with
 | nil=>intro us r;rw[List.map_nil]at r;cases r;exact .nil
 | cons n ns ih =>
  intro us r;rw[List.map_cons]at r;cases r with
  | cons r1 r2 =>
   obtain⟨t,e⟩:=r1;subst e;exact .cons n t (ih r2)
section
variable{X:Cx}{e:Expr}{te:TE}{lo hi:Option Expr}{tl th:TO}{pos p2:Pos}
theorem cC:PO X none tNoPart:=by
 intro pins s σ H Q I h;rw[evalPart_none];exact wpAny_pure ⟨none,H,I,.none,h⟩
theorem bW(h:PE X e te):PO X (some e) (tPart te):=by
 intro pins s σ H Q I hw;rw[evalPart_some];refine thn (h pins s σ H _ I hw) fun u s1 ⟨x,H1,I1,r1,q1⟩=>?_;obtain⟨i,rfl,q⟩:=q1;obtain⟨t,rfl⟩:=r1;exact⟨some i,H1,I1,.int i t,q⟩
def SlR(X:Cx)(r:V->Option Int->Option Int->Hp->VK->Prop):Prop :=
 ∀(pins:List (Addr × Obj)) (s:Shared) (σ:St) (H:Hp) (x:V) (v vl vu:Value) (lo hi:Option Int) (sl:Addr) (Q:VK),Inv X pins σ H s->aT x v->s.heap.IsSliceOf sl vl vu .none->IsPart vl lo->IsPart vu hi->r x lo hi H Q ->
  ∃T id,typeLookup (.type T) "__getitem__"=pure (some (.builtin id))/\s.TypeIs v T/\wpAny (model X.prog X.w) X.A (getItem v (.ref sl)) (EP X pins σ Q) X.xe s
def tSl(r:V->Option Int->Option Int->Hp->VK->Prop)(te:TE)(tl th:TO):TE:=fun σ H Q=>te σ H fun x H1=>tl σ H1 fun l H2=>th σ H2 fun u H3=>r x l u H3 Q
theorem bU{r:V->Option Int->Option Int->Hp->VK->Prop}(hr:SlR X r)(he:PE X e te)(hl:PO X lo tl)(hu:PO X hi th):PE X (.Subscript e (.Slice lo hi none p2) pos) (tSl r te tl th):=by
 intro pins s σ H Q I h;refine Subscript_ (thn (he pins s σ H _ I h) fun v s1 ⟨x,H1,I1,r1,q1⟩=>?_);refine wpAny_Slice (thn (hl pins s1 σ H1 _ I1 q1) fun vl s2 ⟨l,H2,I2,pl,q2⟩=>thn (hu pins s2 σ H2 _ I2 q2) fun vu s3 ⟨u,H3,I3,pu,q3⟩=>?_);rw[evalPart_none];refine wpAny_pure ?_;have I4:Inv X pins σ H3 { s3 with heap:=s3.heap.push { cls:=.type "slice",data:=.fields #[vl,vu,.none] } }:=I3.kept (t':=s3.toks) fun b ob q=>get?_push_of_some _ q;obtain⟨T,id,hT,ht,hg⟩:=hr pins { s3 with heap:=s3.heap.push { cls:=.type "slice",data:=.fields #[vl,vu,.none] } } σ H3 x v vl vu l u s3.heap.objs.size Q I4 r1 (Heap.IsSliceOf.new ..) pl pu q3;show wpAny (model X.prog X.w) X.A (subscriptTail e (.Slice lo hi none p2) v (.ref s3.heap.objs.size)) (EP X pins σ Q) X.xe { s3 with heap:=s3.heap.push { cls:=.type "slice",data:=.fields #[vl,vu,.none] } };exact tail_any (ops:=[.ref s3.heap.objs.size,v]) ht hT hg (by with_unfolding_all rfl)
noncomputable def c6(xs:List V)(lo hi:Option Int):List V:=(xs.drop (HT.sIx xs.length 0 lo)).take (HT.sIx xs.length xs.length hi - HT.sIx xs.length 0 lo)
theorem ff(xs:List V)(lo hi:Option Int):(c6 xs lo hi).length <= xs.length:=by
 unfold c6;rw[length_take,length_drop];lia
def rSlT(K:Frag):V->Option Int->Option Int->Hp->VK->Prop:=fun x lo hi H Q=>∃a xs,x=.ref a/\SqT K H a xs /\
 ¬(HT.sIx xs.length 0 lo=0/\HT.sIx xs.length xs.length hi=xs.length)/\∀p,H p=none->Q (.ref p) (upd H p (.tup (c6 xs lo hi)))
theorem sl_tup:SlR X (rSlT X.K):=by
 intro pins s σ H x v vl vu lo hi sl Q I rx hs pl pu h;obtain⟨a,xs,rfl,hx,hw,q⟩:=h;cases rx;obtain⟨its,r,ht,hz⟩:=I.tuple hx;have hlen:its.toArray.size=xs.length:=by rw[size_toArray];exact r.length.symm
 refine⟨"tuple",_,PyProof.Rows.slot_tuple_getitem.lookup,ht.typeIs,?_⟩;refine HT.gG ht hs pl pu (by rw[hlen];exact hw) ?_ (by rw[hlen];exact hz)
 rw[hlen];refine⟨.ref s.heap.objs.size,_,I.laid (t':=s.toks) (o:=.tup (c6 xs lo hi)) (fun b ob q=>get?_push_of_some _ q) (Nat.le_refl _) ?_,rfl,q _ (I.hok.fresh (Nat.le_refl _))⟩
 exact⟨Nat.le_trans (ff xs lo hi) hz,_,(r.drop (HT.sIx xs.length 0 lo)).take (HT.sIx xs.length xs.length hi - HT.sIx xs.length 0 lo),IsTup.new _ _⟩
noncomputable def rCatT(K:Frag):R2:=fun x y H Q=>∃a b xs ys,x=.ref a/\y=.ref b/\SqT K H a xs/\SqT K H b ys/\xs ≠ []/\xs.length + ys.length <= sizeLine /\
 (ys=[]->Q (.ref a) H)/\(ys ≠ []->∀p,H p=none->Q (.ref p) (upd H p (.tup (xs ++ ys))))
theorem aY.nil_iff{xs:List V}{us:List Value}(r:aY xs us):us=[] ↔ xs=[]:=by
 cases r with
 | nil=>simp
 | cons _ _=>simp
theorem op_catT:OpR X (binaryOp .Add) (rCatT X.K):=by
 intro pins s σ H x y v u Q I rx ry h;obtain⟨a,b,xs,ys,rfl,rfl,ha,hb,hx,hz,q1,q2⟩:=h;cases rx;cases ry;obtain⟨its,r1,p1,_⟩:=I.tuple ha;obtain⟨its2,r2,p2,_⟩:=I.tuple hb;refine HT.cat_tup p1 p2 (fun z=>hx (r1.nil_iff.mp z)) (fun z=>⟨.ref a,H,I,rfl,q1 (r2.nil_iff.mp z)⟩) (fun z=>?_) (by rw[<- r1.length,<- r2.length];exact hz)
 refine⟨.ref s.heap.objs.size,_,I.laid (t':=s.toks) (o:=.tup (xs ++ ys)) (fun b ob q=>get?_push_of_some _ q) (Nat.le_refl _) ?_,rfl,q2 (fun w=>z (r2.nil_iff.mpr w)) _ (I.hok.fresh (Nat.le_refl _))⟩
 exact⟨by rw[length_append];exact hz,_,r1.append r2,IsTup.new _ _⟩
end
noncomputable def ixN(n:Nat)(i:Int):Option Nat:=if 0 <= i then (if i < n then some i.toNat else none) else if -(n:Int) <= i then some (i + n).toNat else none
noncomputable def atI{α:Type}(xs:List α)(i:Int):Option α:=(ixN xs.length i).bind fun j=>xs[j]?
theorem qL{n:Nat}{i:Int}{j:Nat}(h:ixN n i=some j):seqIndex? i n=some j/\j < n/\-(n:Int) <= i/\i < n:=by
 unfold ixN at h;by_cases h0:0 <= i
 ·rw[if_pos h0]at h;by_cases h1:i < n
  ·rw[if_pos h1]at h;have e:i.toNat=j:=Option.some.inj h;exact⟨by rw[seqIndex_of h0 h1,e],by lia,by lia,h1⟩
  ·rw[if_neg h1]at h;cases h
 ·rw[if_neg h0]at h;by_cases h1:-(n:Int) <= i
  ·rw[if_pos h1]at h;have e:(i + n).toNat=j:=Option.some.inj h;exact⟨by rw[seqIndex_neg (by lia) h1,e],by lia,h1,by lia⟩
  ·rw[if_neg h1]at h;cases h
theorem k8{α:Type}{xs:List α}{i:Int}{v:α}(h:atI xs i=some v):∃j,seqIndex? i xs.length=some j/\xs[j]?=some v/\j < xs.length/\-(xs.length:Int) <= i/\i < xs.length:=by
 unfold atI at h;cases e:ixN xs.length i with
 | none=>rw[e]at h;cases h
 | some j =>
  rw[e]at h;obtain⟨h1,h2,h3,h4⟩:=qL e;exact⟨j,h1,h,h2,h3,h4⟩
theorem cX{α:Type}{xs:List α}{j:Nat}{v:α}(h:xs[j]?=some v):atI xs (j:Int)=some v:=by
 have hj:j < xs.length:=(List.getElem?_eq_some_iff.mp h).1;have e:ixN xs.length (j:Int)=some j:=by
  unfold ixN;rw[if_pos (by lia),if_pos (by lia)];simp
 unfold atI;rw[e];exact h
theorem ug{α:Type}(xs:List α)(v:α):atI (xs ++ [v]) (-1)=some v:=by
 have hl:(xs ++ [v]).length=xs.length + 1:=by simp
 have e:ixN (xs ++ [v]).length (-1)=some xs.length:=by
  unfold ixN;rw[hl,if_neg (by decide),if_pos (by lia)]
  congr 1
  lia
 unfold atI;rw[e];show (xs ++ [v])[xs.length]?=some v;simp
def qM(b:Expr):Prop:=∀o i,subscripted b false o i=operate [o,i] (getItem o i)
def IxR(X:Cx)(r:R2):Prop :=
 ∀(value slice:Expr) (pins:List (Addr × Obj)) (s:Shared) (σ:St) (H:Hp) (x y:V) (v u:Value) (Q:VK),Inv X pins σ H s->aT x v->aT y u->r x y H Q ->
  subscripted slice false v u=operate [v,u] (getItem v u)->wpAny (model X.prog X.w) X.A (subscriptTail value slice v u) (EP X pins σ Q) X.xe s
def MtR(X:Cx)(id:String)(r:V->List V->Hp->VK->Prop):Prop :=
 ∀(pins:List (Addr × Obj)) (s:Shared) (σ:St) (H:Hp) (x:V) (xs:List V) (v:Value) (us:List Value) (Q:VK),Inv X pins σ H s->aT x v->aY xs us->r x xs H Q ->
  wpAny (model X.prog X.w) X.A (call (.builtin id) (v :: us)) (EP X pins σ Q) X.xe s
section
variable{X:Cx}{a b:Expr}{ta tb:TE}{pos:Pos}
theorem aE{r:R2}(hr:IxR X r)(ha:PE X a ta)(hb:PE X b tb)(hs:qM b):PE X (.Subscript a b pos) (tOp r ta tb):=by
 intro pins s σ H Q I h;exact Subscript_ (binT ha hb I h fun v u s2 x y H2 I2 rx ry q=>hr a b pins s2 σ H2 x y v u Q I2 rx ry q (hs _ _))
noncomputable def rIxL(K:Frag):R2:=fun x y H Q=>∃p xs i v,x=.ref p/\y=.int i/\SqL K H p xs/\atI xs i=some v/\Q v H
noncomputable def rIxT(K:Frag):R2:=fun x y H Q=>∃p xs i v,x=.ref p/\y=.int i/\SqT K H p xs/\atI xs i=some v/\Q v H
noncomputable def rIxS:R2:=fun x y H Q=>∃z i c,x=.str z/\y=.int i/\z.length <= sizeLine/\atI z.cps.toList i=some c/\Q (.str ⟨#[c]⟩) H
theorem cY:IxR X (rIxL X.K):=by
 intro value slice pins s σ H x y v u Q I rx ry h hs;obtain⟨p,xs,i,z,rfl,rfl,hq,he,q⟩:=h;cases rx;obtain⟨t,rfl⟩:=ry;obtain⟨its,r,pl,hz⟩:=I.list hq;obtain⟨j,h1,h2,h3,h4,h5⟩:=k8 he;obtain⟨w,ew,rw'⟩:=r.get h2;have hl:=r.length;have hn:=gX;have fin:EP X pins σ Q w s:=⟨z,H,I,rw',q⟩;by_cases h0:0 <= i
 ·have hj:i.toNat=j:=by
   rw[seqIndex_of h0 h5]at h1;exact Option.some.inj h1
  exact item_listR pl.isList h0 (by lia) (by rw[hj];simpa using ew) fin hs
 ·have hj:(i + (its.toArray.size:Int)).toNat=j:=by
   rw[seqIndex_neg (by lia) h4]at h1
   rw[size_toArray,<- hl];exact Option.some.inj h1
  exact subscriptTail_builtinR (x:=w) pl.isList.typeIs slot_list_getitem.lookup
   (wpAny_getItem_list_neg (Q:=fun r s'=>r=w/\EP X pins σ Q r s') pl.isList (by lia) (by rw[size_toArray] <;> lia) (by lia) (by rw[hj];simpa using ew) ⟨rfl,fin⟩) hs
theorem az:IxR X (rIxT X.K):=by
 intro value slice pins s σ H x y v u Q I rx ry h hs;obtain⟨p,xs,i,z,rfl,rfl,hq,he,q⟩:=h;cases rx;obtain⟨t,rfl⟩:=ry;obtain⟨its,r,pl,hz⟩:=I.tuple hq;obtain⟨j,h1,h2,h3,h4,h5⟩:=k8 he;obtain⟨w,ew,rw'⟩:=r.get h2;have hl:=r.length;have hn:=gX;have fin:EP X pins σ Q w s:=⟨z,H,I,rw',q⟩;exact subscriptTail_builtinR (x:=w) pl.typeIs slot_tuple_getitem.lookup
  (getItem_tuple (j:=j) (Q:=fun r s'=>r=w/\EP X pins σ Q r s') pl (by lia) (by lia) (by rw[size_toArray,<- hl];exact h1) (by simpa using ew) ⟨rfl,fin⟩) hs
theorem uh:IxR X rIxS:=by
 intro value slice pins s σ H x y v u Q I rx ry h hs;obtain⟨z,i,c,rfl,rfl,hz,he,q⟩:=h;obtain⟨t,rfl⟩:=rx;obtain⟨t',rfl⟩:=ry;obtain⟨j,h1,h2,h3,h4,h5⟩:=k8 he;have hl:z.cps.toList.length=z.length:=by simp[Str.length]
 rw[hl]at h1 h4 h5;have hn:=gX;exact tail_any (typeIs_str s z t) slot_str_getitem.lookup (getItem_str (c:=c) (by
  have e1:decide (i < -(2 ^ 63:Int))=false:=decide_eq_false (by lia)
  have e2:decide (i ≥ 2 ^ 63)=false:=decide_eq_false (by lia)
  rw[e1,e2,Bool.or_false]) (by rw[h1];simpa using h2) ⟨.str ⟨#[c]⟩,H,I.tok _,⟨_,rfl⟩,q⟩) hs
theorem o5 (its:List Value) (n j:Nat) (u:Value):Obj.mapSeq (·.setIfInBounds j u) { cls:=.type "list",data:=.seq its.toArray n }={ cls:=.type "list",data:=.seq (its.set j u).toArray n }:=by
 simp[Obj.mapSeq]
theorem Inv.lst{pins:List (Addr × Obj)}{σ:St}{H:Hp}{s:Shared}{p:Addr}{xs:List V}(I:Inv X pins σ H s)(h:H p=some (.lst xs)) :
  ∃(its:List Value)(n:Nat),aY xs its/\s.heap.get? p=some { cls:=.type "list",data:=.seq its.toArray n }/\xs.length <= sizeLine:=by
 obtain⟨z,its,n,r,e⟩:=I.hok p _ h;exact⟨its,n,r,e,z⟩
theorem Inv.lstUpd{pins:List (Addr × Obj)}{σ:St}{H:Hp}{s:Shared}{p:Addr}{xs ys:List V}{its its':List Value}{n n':Nat}{f:Obj->Obj}(I:Inv X pins σ H s)(h:H p=some (.lst xs))
  (ho:s.heap.get? p=some { cls:=.type "list",data:=.seq its.toArray n }) (hf:f { cls:=.type "list",data:=.seq its.toArray n }={ cls:=.type "list",data:=.seq its'.toArray n' }) (r:aY ys its') (hz:ys.length <= sizeLine) (t:Nat) :
  Inv X pins σ (upd H p (.lst ys)) { s with heap:=s.heap.update p f,toks:=t }:=by
 have e:(s.heap.update p f).get? p=some { cls:=.type "list",data:=.seq its'.toArray n' }:=by
  rw[Heap.get?_update_self f ho (by rw[hf] <;> rfl),hf]
 refine I.write (x:=p) (e:=p) (by rw[h];trivial) (.inl rfl) (fun b u hb q=>(Heap.get?_update_other _ _ (Ne.symm hb)).trans q) ⟨_,e⟩ ?_
 exact⟨hz,its',n',r,e⟩
def rSetL:V->V->V->Hp->(Hp->Prop)->Prop:=fun o i v H Q=>∃p xs k j,o=.ref p/\i=.int k/\H p=some (.lst xs)/\ixN xs.length k=some j/\Q (upd H p (.lst (xs.set j v)))
theorem ui:PSet X rSetL:=by
 intro pins s σ H o i v ov iv u Q I ro ri rv h;obtain⟨p,xs,k,j,rfl,rfl,hp,hj,q⟩:=h;cases ro;obtain⟨t,rfl⟩:=ri;obtain⟨its,n,r,ho,hz⟩:=I.lst hp;obtain⟨h1,h2,h3,h4⟩:=qL hj;have hl:=r.length;have hn:=gX;have I':Inv X pins σ (upd H p (.lst (xs.set j v))) { s with heap:=s.heap.update p (Obj.mapSeq (·.setIfInBounds j u)) } :=
  I.lstUpd hp ho (o5 its n j u) (r.set rv j) (by rw[List.length_set];exact hz) s.toks
 by_cases h0:0 <= k
 ·have hk:k.toNat=j:=by
   rw[seqIndex_of h0 h4]at h1;exact Option.some.inj h1
  exact PySem.W.ki_setAt ho h0 (by lia) (by rw[size_toArray,<- hl];exact h4) (by rw[hk];exact⟨_,I',q⟩)
 ·have hk:(k + (its.toArray.size:Int)).toNat=j:=by
   rw[seqIndex_neg (by lia) h3]at h1
   rw[size_toArray,<- hl];exact Option.some.inj h1
  exact PySem.W.ki_setBack ho (by lia) (by rw[size_toArray,<- hl];exact h3) (by lia) (by rw[hk];exact⟨_,I',q⟩)
theorem lb(lo hi:Option Int)(n:Nat):(sliceBounds lo hi none n).1=((HT.sIx n 0 lo:Nat):Int)/\(sliceBounds lo hi none n).2.1=((HT.sIx n n hi:Nat):Int)/\(sliceBounds lo hi none n).2.2=1:=by
 refine⟨?_,?_,rfl⟩
 ·cases lo with
  | none=>simp[sliceBounds,HT.sIx]
  | some i =>
   simp only[sliceBounds,HT.sIx,Option.getD_none,show (1:Int) > 0 by decide,if_true]
   by_cases h:i < 0
   ·simp only[h,if_true] <;> lia
   ·simp only[h,if_false] <;> lia
 ·cases hi with
  | none=>simp[sliceBounds,HT.sIx]
  | some i =>
   simp only[sliceBounds,HT.sIx,Option.getD_none,show (1:Int) > 0 by decide,if_true]
   by_cases h:i < 0
   ·simp only[h,if_true] <;> lia
   ·simp only[h,if_false] <;> lia
theorem jY(its:List Value)(lo hi:Option Int):slicePick its.toArray lo hi none=((its.drop (HT.sIx its.length 0 lo)).take (HT.sIx its.length its.length hi - HT.sIx its.length 0 lo)).toArray:=by
 obtain⟨h1,h2,h3⟩:=lb lo hi its.toArray.size;unfold slicePick;rw[h1,h2,h3];simp only[sliceRange_one,pick_run,size_toArray] <;> rfl
def rSlL(K:Frag):V->Option Int->Option Int->Hp->VK->Prop:=fun x lo hi H Q=>∃a xs,x=.ref a/\SqL K H a xs/\∀p,H p=none->Q (.ref p) (upd H p (.lst (c6 xs lo hi)))
theorem ld:SlR X (rSlL X.K):=by
 intro pins s σ H x v vl vu lo hi sl Q I rx hs pl pu h;obtain⟨a,xs,rfl,hx,q⟩:=h;cases rx;obtain⟨its,r,ht,hz⟩:=I.list hx;have hlen:=r.length;refine⟨"list",_,slot_list_getitem.lookup,ht.isList.typeIs,?_⟩;refine wpAny_getItem_list_slice ht.isList hs pl pu .none (by simp) ?_ (by rw[size_toArray] <;> lia)
 rw[jY,<- hlen];refine⟨.ref s.heap.objs.size,_,I.laid (t':=s.toks) (o:=.lst (c6 xs lo hi)) (fun b ob q=>get?_push_of_some _ q) (Nat.le_refl _) ?_,rfl,q _ (I.hok.fresh (Nat.le_refl _))⟩
 exact⟨Nat.le_trans (ff xs lo hi) hz,_,0,(r.drop (HT.sIx xs.length 0 lo)).take (HT.sIx xs.length xs.length hi - HT.sIx xs.length 0 lo),get?_push_size _ rfl⟩
noncomputable def dM:V->Bool
 | .non=>true
 | .bl _=>true
 | .int _=>true
 | .str _=>true
 | _=>false
noncomputable def eqV:V->V->Bool
 | .non,.non=>true
 | .bl a,.bl b=>a == b
 | .bl a,.int b=>(if a then 1 else 0) == b
 | .int a,.bl b=>a == (if b then 1 else 0)
 | .int a,.int b=>a == b
 | .str a,.str b=>a == b
 | _,_=>false
theorem uj{A:Around}{s:Shared}{y x:V}{u v:Value}(ry:aT y u)(rx:aT x v)(fy:dM y=true)(fx:dM x=true):SeqAt.EqAt A s u v (eqV y x):=by
 cases y with
 | non =>
  cases ry;cases x with
  | non=>cases rx;exact SeqAt.EqAt.same _
  | bl b=>cases rx;exact SeqAt.EqAt.none_bool b
  | int b=>obtain⟨t,rfl⟩:=rx;exact SeqAt.EqAt.none_int b t
  | str b=>obtain⟨t,rfl⟩:=rx;exact SeqAt.EqAt.none_str b t
  | _=>exact absurd (show false=true from fx) Bool.false_ne_true
 | bl a =>
  cases ry;cases x with
  | non=>cases rx;exact SeqAt.EqAt.bool_none a
  | bl b=>cases rx;exact SeqAt.EqAt.bool_bool a b
  | int b=>obtain⟨t,rfl⟩:=rx;exact SeqAt.EqAt.bool_int a b t
  | str b=>obtain⟨t,rfl⟩:=rx;exact SeqAt.EqAt.bool_str a b t
  | _=>exact absurd (show false=true from fx) Bool.false_ne_true
 | int a =>
  obtain⟨t',rfl⟩:=ry;cases x with
  | non=>cases rx;exact SeqAt.EqAt.int_none a t'
  | bl b=>cases rx;exact SeqAt.EqAt.int_bool a t' b
  | int b=>obtain⟨t,rfl⟩:=rx;exact SeqAt.EqAt.int_int a t' b t
  | str b=>obtain⟨t,rfl⟩:=rx;exact SeqAt.EqAt.int_str a t' b t
  | _=>exact absurd (show false=true from fx) Bool.false_ne_true
 | str a =>
  obtain⟨t',rfl⟩:=ry;cases x with
  | non=>cases rx;exact SeqAt.EqAt.str_none a t'
  | bl b=>cases rx;exact SeqAt.EqAt.str_bool a t' b
  | int b=>obtain⟨t,rfl⟩:=rx;exact SeqAt.EqAt.str_int a t' b t
  | str b=>obtain⟨t,rfl⟩:=rx;exact SeqAt.EqAt.str_str a t' b t
  | _=>exact absurd (show false=true from fx) Bool.false_ne_true
 | _=>exact absurd (show false=true from fy) Bool.false_ne_true
noncomputable def eqU(x:V)(u:Value):Bool:=match u with
 | .none=>eqV .non x
 | .bool b=>eqV (.bl b) x
 | .int i _=>eqV (.int i) x
 | .str z _=>eqV (.str z) x
 | _=>false
theorem uk{x y:V}{u:Value}(r:aT y u)(f:dM y=true):eqU x u=eqV y x:=by
 cases y with
 | non=>cases r;rfl
 | bl b=>cases r;rfl
 | int i=>obtain⟨t,rfl⟩:=r;rfl
 | str z=>obtain⟨t,rfl⟩:=r;rfl
 | _=>exact absurd (show false=true from f) Bool.false_ne_true
theorem gH{x:V}:∀{xs:List V}{us:List Value},aY xs us->xs.all dM=true->us.any (eqU x)=xs.any fun y=>eqV y x
 | _,_,.nil,_=>rfl
 | y :: xs,u :: us,.cons r t,f=>by
  rw[List.all_cons,Bool.and_eq_true]at f;rw[List.any_cons,List.any_cons,uk r f.1,gH t f.2]
theorem fg{A:Around}{s:Shared}{x:V}{v:Value}(rx:aT x v)(fx:dM x=true):∀{xs:List V}{us:List Value},aY xs us->xs.all dM=true->∀u ∈ us,SeqAt.EqAt A s u v (eqU x u)
 | _,_,.nil,_=>fun u hu=>by cases hu
 | y :: xs,u :: us,.cons r t,f=>fun u' hu=>by
  rw[List.all_cons,Bool.and_eq_true]at f;rcases List.mem_cons.mp hu with rfl | hu
  ·rw[uk r f.1];exact uj r rx f.1 fx
  ·exact fg rx fx t f.2 u' hu
def inV(x:V)(xs:List V):Bool:=xs.any fun y=>eqV y x
noncomputable def rIn(K:Frag)(neg:Bool):R2:=fun x y H Q=>∃p xs,y=.ref p/\(SqL K H p xs\/SqT K H p xs)/\dM x=true/\xs.all dM=true/\Q (.bl (if neg then !inV x xs else inV x xs)) H
theorem g9:OpR X (compareOp .In) (rIn X.K false):=by
 intro pins s σ H x y v u Q I rx ry h;obtain⟨p,xs,rfl,hq,fx,fs,q⟩:=h;cases ry;rcases hq with hq | hq
 ·obtain⟨its,r,pl,hz⟩:=I.list hq;refine SeqAt.in_listAt (eqU x) pl.isList (fun w hw=>fg rx fx r fs w (by simpa using hw)) ⟨.bl _,H,I,rfl,?_⟩
  rw[show its.toArray.any (eqU x)=its.any (eqU x) by simp,gH r fs]
  exact q
 ·obtain⟨its,r,pl,hz⟩:=I.tuple hq;refine SeqAt.in_tupleAt (eqU x) pl (fun w hw=>fg rx fx r fs w (by simpa using hw)) ⟨.bl _,H,I,rfl,?_⟩
  rw[show its.toArray.any (eqU x)=its.any (eqU x) by simp,gH r fs]
  exact q
theorem di:OpR X (compareOp .NotIn) (rIn X.K true):=by
 intro pins s σ H x y v u Q I rx ry h;obtain⟨p,xs,rfl,hq,fx,fs,q⟩:=h;cases ry;rcases hq with hq | hq
 ·obtain⟨its,r,pl,hz⟩:=I.list hq;refine SeqAt.notIn_listAt (eqU x) pl.isList (fun w hw=>fg rx fx r fs w (by simpa using hw)) ⟨.bl _,H,I,rfl,?_⟩
  rw[show its.toArray.any (eqU x)=its.any (eqU x) by simp,gH r fs]
  exact q
 ·obtain⟨its,r,pl,hz⟩:=I.tuple hq;refine SeqAt.notIn_tupleAt (eqU x) pl (fun w hw=>fg rx fx r fs w (by simpa using hw)) ⟨.bl _,H,I,rfl,?_⟩
  rw[show its.toArray.any (eqU x)=its.any (eqU x) by simp,gH r fs]
  exact q
theorem a9:eO X (.builtin "len") (fun xs H Q=>∃p ys,xs=[.ref p]/\(SqL X.K H p ys\/SqT X.K H p ys)/\Q (.int ys.length) H):=by
 intro pins s σ H xs us Q I r h;obtain⟨p,ys,rfl,hq,q⟩:=h;obtain⟨u,rfl,rx⟩:=qI r;cases rx;have hn:=gX;rcases hq with hq | hq
 ·obtain⟨its,r',pl,hz⟩:=I.list hq;have hlen:=r'.length;exact Calls.call_len_list pl.isList (by simp only[size_toArray] <;> lia) ⟨.int ys.length,H,I.tok _,⟨s.toks + 1,by rw[size_toArray,hlen]⟩,q⟩
 ·obtain⟨its,r',pl,hz⟩:=I.tuple hq;have hlen:=r'.length;exact len_tuple pl (by simp only[size_toArray] <;> lia) ⟨.int ys.length,H,I.tok _,⟨s.toks + 1,by rw[size_toArray,hlen]⟩,q⟩
theorem jZ:eO X (.type "tuple") (fun xs H Q=>∃p ys,xs=[.ref p]/\((SqL X.K H p ys/\∀l,H l=none->Q (.ref l) (upd H l (.tup ys)))\/(SqT X.K H p ys/\Q (.ref p) H))):=by
 intro pins s σ H xs us Q I r h;obtain⟨p,ys,rfl,h⟩:=h;obtain⟨u,rfl,rx⟩:=qI r;cases rx;rcases h with ⟨hq,q⟩ | ⟨hq,q⟩
 ·obtain⟨its,r',pl,hz⟩:=I.list hq;have hlen:=r'.length;refine call_tuple_list pl.isList (fun h' kp=>?_) (by simp only[size_toArray] <;> lia)
  have I1:Inv X pins σ H { s with heap:=h' }:=I.kept (t':=s.toks) kp;have I2:Inv X pins σ (upd H h'.objs.size (.tup ys)) { s with heap:=h'.push { cls:=.type "tuple",data:=.seq its.toArray } } :=
   I1.laid (t':=s.toks) (fun b o e=>get?_push_of_some _ e) (Nat.le_refl _) (show bT X.prog X.w _ _ _ (.tup ys) from⟨hz,its,r',IsTup.new _ _⟩)
  exact⟨.ref h'.objs.size,_,I2,rfl,q _ (I1.hok.fresh (Nat.le_refl _))⟩
 ·obtain⟨its,r',pl,hz⟩:=I.tuple hq;exact call_tuple_same pl ⟨.ref p,H,I,rfl,q⟩
def tyV(K:Frag)(T:String)(x:V)(H:Hp):Prop:=match x with
 | .str _=>T="str"
 | .int _=>T="int"
 | .ref p=>(T="list" /\∃xs,SqL K H p xs)\/(T="tuple" /\∃o,K.lookup p=some o/\o.cls=.type "tuple" /\o.dict=none) \/
   (T="dict" /\((∃kvs,H p=some (.dK kvs))\/∃kvs,H p=some (.dT kvs)))\/(T="set" /\∃S n,H p=some (.set S n))
 | _=>False
theorem tyV_is{pins:List (Addr × Obj)}{σ:St}{H:Hp}{s:Shared}{T:String}{x:V}{v:Value}(I:Inv X pins σ H s)(r:aT x v)(ty:tyV X.K T x H) :
  s.TypeIs v T/\∀a,v=.ref a->∃ob,s.heap.get? a=some ob/\ob.dict=none:=by
 cases x with
 | str z =>
  obtain⟨t,rfl⟩:=r;cases (show T="str" from ty);exact⟨typeIs_str s z t,fun _ e=>nomatch e⟩
 | int i =>
  obtain⟨t,rfl⟩:=r;cases (show T="int" from ty);exact⟨typeIs_int s i t,fun _ e=>nomatch e⟩
 | ref p =>
  cases r;rcases ty with ⟨rfl,xs,hq⟩ | ⟨rfl,o,hk,hc,hd⟩ | ⟨rfl,hk⟩ | ⟨rfl,S,n,hk⟩
  ·obtain⟨its,_,pl,_⟩:=I.list hq;refine⟨pl.isList.typeIs,fun a e=>?_⟩;cases e;obtain⟨o,n,e,c,hd,_⟩:=pl;exact⟨o,e,hd⟩
  ·refine⟨⟨o,I.kIn p o hk,hc⟩,fun a e=>?_⟩;cases e;exact⟨o,I.kIn _ o hk,hd⟩
  ·have z:∃o,s.heap.get? p=some o/\o.ExactDict:=by
    rcases hk with ⟨kvs,hk⟩ | ⟨kvs,hk⟩
    ·obtain⟨_,_,_,_,o,_,_,e,ex,_⟩:=I.hok p _ hk;exact⟨o,e,ex⟩
    ·obtain⟨_,_,_,_,o,_,_,e,ex,_⟩:=I.hok p _ hk;exact⟨o,e,ex⟩
   obtain⟨o,e,ex⟩:=z;refine⟨⟨o,e,ex.1⟩,fun a e2=>?_⟩;cases e2;exact⟨o,e,ex.2.1⟩
  ·obtain⟨o,_,_,_,e,ex,_⟩:=I.hok p _ hk;refine⟨⟨o,e,ex.1⟩,fun a e2=>?_⟩;cases e2;exact⟨o,e,ex.2.1⟩
 | _=>exact False.elim ty
def tBM(K:Frag)(T:String)(r:V->List V->Hp->VK->Prop)(to:TE)(t:TA):TE:=fun σ H Q=>to σ H fun x H1=>tyV K T x H1/\t σ H1 fun xs H2=>r x xs H2 Q
variable{o e:Expr}{es:List Expr}{to:TE}{t:TA}{name:Str}{apos cpos:Pos}{T id:String}{r:V->List V->Hp->VK->Prop}
theorem fZ (pa:PlainAttrs T) (slot:Slot T name id) (hty:typeOf (.builtin id)=pure (.type "method_descriptor")) (hm:MtR X id r) (ho:PE X o to) (ha:PA X (e :: es) t)
  (hbase:attributeBase o name X.env (eval o X.env)=eval o X.env:=by rfl)
  (hfew:((backTo cpos (starEach (e :: es) X.env)).all (fun x=>!x.1) && (backToKw cpos (keywordEach [] X.env)).all (fun x=>x.1.isSome)
   && decide ((e :: es).length + ([]:List Keyword).length + (if ([]:List Keyword).isEmpty then 0 else 1) < 30))=true:=by rfl)
  (hline:(apos.endLine == cpos.line)=true:=by rfl) (hs:starEach (e :: es) X.env=(false,eval e X.env) :: starEach es X.env:=by rfl) (hplain:(backTo cpos (starEach es X.env)).any (·.1)=false:=by rfl) :
  PE X (.Call (.Attribute o name apos) (e :: es) [] cpos) (tBM X.K T r to t):=by
 intro pins s σ H Q I h;refine wpAny_Call_method_late hbase hfew hline rfl (thn (ho pins s σ H _ I h) fun v s1 ⟨x,H1,I1,r1,ty,q1⟩=>?_);obtain⟨h1,h2⟩:=tyV_is I1 r1 ty;refine⟨T,id,pa,slot,hty,h1,h2,?_⟩;have hA:=ha cpos pins s1 σ H1 _ I1 q1;rw[hs]at hA ⊢;refine Calls.callWith_builtin (by show (false || (backTo cpos (starEach es X.env)).any (·.1))=false;rw[hplain] <;> rfl) (Calls.evalArgs_plain ?_)
 exact thn hA fun us s2 ⟨vs,H2,I2,r2,q2⟩=>hm pins s2 σ H2 x vs v us Q I2 r1 r2 q2
end
def MtM(X:Cx)(id:String)(r:V->List V->Hp->VK->Prop):Prop :=
 ∀(pins:List (Addr × Obj)) (s:Shared) (σ:St) (H:Hp) (x:V) (xs:List V) (v:Value) (us:List Value) (Q:VK),Inv X pins σ H s->aT x v->aY xs us->r x xs H Q ->
  wpAny (model X.prog X.w) X.A (call (.builtin id) (v :: us)) (EP X pins σ Q) X.xe s
theorem aY.one:∀{x:V}{us:List Value},aY [x] us->∃u,us=[u]/\aT x u
 | _,_,.cons r .nil=>⟨_,rfl,r⟩
section
variable{X:Cx}{pins:List (Addr × Obj)}{σ:St}{H:Hp}{s:Shared}{l b:Addr}{xs ys zs:List V}
theorem Inv.lset{its its':List Value}{n:Nat}{f:Array Value->Array Value}{t':Nat}(I:Inv X pins σ H s)(hH:H l=some (.lst xs))
  (e:s.heap.get? l=some { cls:=.type "list",data:=.seq its.toArray n }) (hf:f its.toArray=its'.toArray) (hv:aY ys its') (hz:ys.length <= sizeLine) :
  Inv X pins σ (upd H l (.lst ys)) { s with heap:=s.heap.update l (Obj.mapSeq f),toks:=t' }:=by
 have q:=PySem.IsL.update e f;rw[hf]at q;refine I.write (x:=l) (e:=l) (by rw[hH];exact trivial) (.inl rfl) (fun b' u hb hu=>(Heap.get?_update_other s.heap (Obj.mapSeq f) (Ne.symm hb)).trans hu) ⟨_,q⟩ ?_
 exact⟨hz,its',_,hv,q⟩
theorem Inv.lnew{its:List Value}{t':Nat}(I:Inv X pins σ H s)(hv:aY ys its)(hz:ys.length <= sizeLine) :
  Inv X pins σ (upd H s.heap.objs.size (.lst ys)) { s with heap:=s.heap.push { cls:=.type "list",data:=.seq its.toArray },toks:=t' } :=
 I.laid (fun _ _ q=>get?_push_of_some _ q) (Nat.le_refl _) ⟨hz,its,0,hv,get?_push_size _ rfl⟩
theorem Inv.fresh(I:Inv X pins σ H s):H s.heap.objs.size=none:=I.hok.fresh (Nat.le_refl _)
theorem Inv.lstM (I:Inv X pins σ H s) (hH:H l=some (.lst xs)):xs.length <= sizeLine/\∃(its:List Value)(n:Nat),aY xs its/\xs.length=its.length/\s.heap.get? l=some { cls:=.type "list",data:=.seq its.toArray n }:=by
 obtain⟨z,its,n,r,e⟩:=I.hok l _ hH;exact⟨z,its,n,r,r.length,e⟩
theorem um{n:Nat}(h:n <= sizeLine):Builtin.List.listTooLong n=false:=by
 unfold Builtin.List.listTooLong;exact decide_eq_false (by lia)
end
section
variable{X:Cx}
def rAppend:V->List V->Hp->VK->Prop:=fun x vs H Q=>∃l xs y,x=.ref l/\vs=[y]/\H l=some (.lst xs)/\xs.length < sizeLine/\Q .non (upd H l (.lst (xs ++ [y])))
theorem kj:MtM X "list.append" rAppend:=by
 intro pins s σ H x vs v us Q I rx rv h;obtain⟨l,xs,y,rfl,rfl,hH,hz,q⟩:=h;cases rx;obtain⟨u,rfl,ru⟩:=rv.one;obtain⟨z,its,n,r,hl,e⟩:=I.lstM hH;refine call_meets F.slot_list_append ⟨_,e,rfl⟩ F.entry_list_append (F.args_list_append_2 _ _) (PySem.list_append l its.toArray n u (by rw[size_toArray];lia)) ⟨e,?_⟩
 refine⟨.non,_,I.lset (its':=its ++ [u]) hH e (by simp) (r.append (.cons ru .nil)) ?_,rfl,q⟩
 rw[length_append,List.length_singleton];lia
noncomputable def rCat:R2:=fun x y H Q=>∃l b xs zs,x=.ref l/\y=.ref b/\H l=some (.lst xs)/\H b=some (.lst zs)/\xs.length + zs.length <= sizeLine/\∀p,H p=none->Q (.ref p) (upd H p (.lst (xs ++ zs)))
theorem op_cat:OpR X (binaryOp .Add) rCat:=by
 intro pins s σ H x y v u Q I rx ry h;obtain⟨l,b,xs,zs,rfl,rfl,hH,hB,hz,q⟩:=h;cases rx;cases ry;obtain⟨z,its,n,r,hl,e⟩:=I.lstM hH;obtain⟨z2,its2,n2,r2,hl2,e2⟩:=I.lstM hB;refine PySem.P.add_list e e2 ?_ (by rw[size_toArray,size_toArray];lia)
 have ea:its.toArray ++ its2.toArray=(its ++ its2).toArray:=by simp
 rw[ea];exact⟨.ref _,_,I.lnew (t':=s.toks) (r.append r2) (by rw[length_append];lia),rfl,q _ I.fresh⟩
end
section
variable{prog:Program}{w:World}{A:Around}{E:Value->Shared->Prop}{s:Shared}
end
section
variable{X:Cx}
end
end L2
namespace Att
open PySem PySem.W PySem.Calls PyProof.Rows
theorem iA{P:Params}{h:Heap}:∀(ns:List Int)(vs:List Value),WellAll P h vs (ns.map WData.int)->IntsAre vs ns:=by
 intro ns;induction ns with
 | nil =>
  intro vs w;rw[List.map_nil]at w;cases w;exact .nil
 | cons n ns ih =>
  intro vs w;rw[List.map_cons]at w;cases w with
  | cons a b =>
   cases a;exact .cons _ _ (ih _ b)
theorem rT{l:OpenLaw}{n:Nat}(hn:l.most=some n){P:Params}{h:Heap}{args:List WData}{vals:List Value}
  (hpre:l.row.toRowW.claim.pre args=true)(hwl:WellAll P h vals args) :
  ∃a vs ns,vals=[Value.ref a]/\args=[WData.list (ns.map WData.int)]/\h.get? a=some { cls:=.type "list",data:=.seq vs.toArray }/\IntsAre vs ns/\ns.length <= n:=by
 have hsh:WShape.hasAll [] args [.list .int]=true:=(pre_splitW hpre).1;have hc:l.pre.holds [] { args:=args }=true:=(pre_splitW hpre).2;obtain⟨d,r,rfl,h1,h2⟩:=hasAllW_cons hsh;obtain rfl:=hasAllW_nil h2;obtain⟨xs,rfl,h3⟩:=hasW_list h1;obtain⟨ns,rfl⟩:=items_int h3;have hlen:ns.length <= n:=by
  unfold OpenLaw.pre at hc;have h4:(WTm.not (.lt (.lit (.int (n:Int))) (.len (.arg 0)))).holds [] { args:=[.list (ns.map .int)] }=true:=by
   have h4:=(holds_andW hc).1;rw[hn]at h4;exact h4
  have h5:=condW_of h4 (w_not (w_lt w_lit (w_len_list (w_arg rfl))));rw[length_map]at h5;refine Nat.le_of_not_lt fun q=>?_;have q':(n:Int) < ((ns.length:Nat):Int):=by lia
  first
   | (rw[decide_eq_true q']at h5;exact absurd h5 (by decide))
   | (simp at h5;lia)
 cases hwl with
 | cons w1 w2 =>
  cases w2;cases w1 with
  | list ho hall=>exact⟨_,_,ns,rfl,rfl,ho,iA ns _ hall,hlen⟩
theorem rV(l:OpenLaw)(args:List WData):l.row.toRowW.claim.post args (.bool true) args=true :=
 postW_of (r:=l.row.toRowW) (X:=(true == true))
  (show WShape.has [] (.bool true) .bool=true by first | rfl | decide | simp[WShape.has,WShape.arms,WShape.armsAll])
  (show (WTm.eq .res (.lit (.bool true))).value [] { args:=args,res:=some (.bool true),after:=args }=some (.bool (true == true)) from w_eq_bool (w_res rfl) w_lit) rfl
theorem m7{l:OpenLaw}{n:Nat}{q:Program}{loose:List Str}{XP:(Str->Option Value)->Heap->Prop}{YP:World->Heap->Prop}{d:DefRec}
  (hn:l.most=some n)(hdf:d.params.defaults=[])
  (call:∀(w:World)(s₀ s₁:Shared)(mg mb:Str->Option Value)(fa:Addr)(o:Obj)(pm cd doc:Value)(a:Addr)(vs:List Value)(ns:List Int),
   Ground q loose [] XP w s₀ mg mb s₁.heap->YP w s₁.heap ->
   s₁.heap.get? fa=some o->o.data=.func (docDef d.name d.params d.body d.scope pm cd doc)->s₁.heap.CodeRec cd d.name->mg d.name=some (.ref fa) ->
   s₁.heap.get? a=some { cls:=.type "list",data:=.seq vs.toArray }->IntsAre vs ns->ns.length <= n->s₁.gens=#[] ->
   codeAny (model l.prog w) callerA (.call (.ref fa) ⟨[.ref a],[]⟩) (fun r s'=>r=.ok (.ret (.bool true))/\OldK s₁.heap s'.heap/\s'.os=s₁.os/\AllBare s'.gens) s₁) :
  WalkO q loose XP YP l.row.toRowW d [] (fun f vs=>PySem.call f vs):=by
 intro w s₀ s₁ mg mb G Y fa o pm cd doc dV kV ho hd hcd hD hmg hg args vals as hpre hlay hrd hwl hlo;obtain rfl:dV=.none:=Dflts.none hD hdf;obtain rfl:kV=.none:=Dflts.noKw hD;obtain⟨a,vs,ns,rfl,rfl,hobj,hints,hlen⟩:=rT hn hpre hwl;refine enter_call (codeAny_mono (call w s₀ s₁ mg mb fa o pm cd doc a vs ns G Y ho (fd_plain hd) hcd hmg hobj hints hlen hg) fun r s' hq=>?_);obtain⟨rfl,h2,h3,h4⟩:=hq;exact⟨.inl ⟨.bool true,.bool true,[],rfl,fun _=>rfl,.bool true,rV l _,fun _=>⟨List.Pairwise.nil,fun _ hm=>(nomatch hm)⟩⟩,h2,h3,h4⟩
section
variable{prog:Program}{w:World}{A:Around}{E:Value->Shared->Prop}{s:Shared}{K:Frag}
end
end Att
namespace L2
open PySem PySem.Spec PyProof.Rows
theorem kq:∀{vs:List Value}{ns:List Int},IntsAre vs ns->aY (ns.map V.int) vs
 | _,_,.nil=>.nil
 | _,_,.cons n t h=>.cons ⟨t,rfl⟩ (kq h)
def Only(H:Hp):Prop:=∀b,H b=none\/∃o xs,H b=some (.frz o (.lst xs))
theorem uo{P:Program}{w:World}{K:Frag}{mg mb:Str->Option Value}{CX:CXT}{k:Nat}{fa a:Addr}{fd:FuncData}{x:Str}{sp:Sp}{s₁:Shared}{vs:List Value}{ns:List Int}
  (KX:K.In s₁.heap) (hns:s₁.heap.Ns mainGlobals mg) (hb:s₁.heap.Ns builtinsNs mb) (hbb:∀x:Str,x ≠ "__name__" ->mb x=bootBuiltins x) (hlim:s₁.heap.NoLimit) (hg:s₁.gens=#[])
  (ha:s₁.heap.get? a=some { cls:=.type "list",data:=.seq vs.toArray }) (hi:IntsAre vs ns) (hl:ns.length <= sizeLine) (hr:aP k callerA)
  (F:∀base:Heap,K.In base->base.Ns mainGlobals mg->aI P w K mg base CX k fa fd [x] sp) (hbind:∀(s:Shared)(u:Value),BindsTo s fd ⟨[u],[]⟩ [(x,u)])
  (hsp:∀H:Hp,Only H->SqL K H a (ns.map V.int)->sp [.ref a] H (fun v _=>v=.bl true) fun _ _ _=>False)
  (hCX:∀H e s',CX [] H s₁ (fun _ _ _=>False) e s'->False) :
  codeAny (model P w) callerA (.call (.ref fa) ⟨[.ref a],[]⟩) (fun r s'=>r=.ok (.ret (.bool true))/\OldK s₁.heap s'.heap/\s'.os=s₁.os/\AllBare s'.gens) s₁:=by
 have rv:=kq hi;have lenV:=hi.length;have core:∀H:Hp,Only H->SqL K H a (ns.map V.int)->HOk P w H s₁.heap->(∀b,H b ≠ none->b=a)->(H a ≠ none->K.lookup a=none) ->
   codeAny (model P w) callerA (.call (.ref fa) ⟨[.ref a],[]⟩) (fun r s'=>r=.ok (.ret (.bool true))/\OldK s₁.heap s'.heap/\s'.os=s₁.os/\AllBare s'.gens) s₁:=by
  intro H hO hS hok hA hK;have base_of:∀{b:Addr}{o:Obj},s₁.heap.get? b=some o->H b=none->(kS s₁.heap H).get? b=some o:=fun e n=>tO e n;have noA:∀{b:Addr}{o:Obj}{es:Array DictEntry}{ep:Nat},s₁.heap.get? b=some o->o.data=.dict es ep->H b=none:=fun {b o es ep} e d=>by
   cases q:H b with
   | none=>rfl
   | some u =>
    have e':b=a:=hA b (by rw[q];simp)
    subst e';rw[ha]at e;cases e;have d':Data.seq vs.toArray _=Data.dict es ep:=d;cases d'
  have nsK:∀{b:Addr}{m:Str->Option Value},s₁.heap.Ns b m->(kS s₁.heap H).Ns b m:=fun {b m} ⟨o,es,ep,e,d,r⟩=>⟨o,es,ep,base_of e (noA e d),d,r⟩;have hKb:K.In (kS s₁.heap H):=fun b o e=>base_of (KX b o e) (by
   cases q:H b with
   | none=>rfl
   | some u =>
    have e':b=a:=hA b (by rw[q];simp)
    subst e';rw[hK (by rw[q];simp)]at e;cases e)
  have hM:Mod K mg (kS s₁.heap H):=⟨hKb,nsK hns,⟨mb,nsK hb,hbb⟩,let ⟨mc,h1,h2⟩:=hlim;⟨mc,nsK h1,h2⟩⟩;have e0:oV P w K mg (kS s₁.heap H) callerA [] s₁ H:=⟨rfl,hM,fun b o e=>of_hidT e,Nat.le_of_eq (rF _ _),trivial,fun b hb=>absurd (show b ∈ ([]:List Addr) from hb) (by simp),hok,.of_eq hg⟩
  refine codeAny_mono ((F _ hKb (nsK hns)).run callerA [] s₁ H ⟨[.ref a],[]⟩ [.ref a] [.ref a] _ _ hr e0 (hbind s₁ (.ref a)) (.cons rfl .nil) (hsp H hO hS)) fun r s' h=>?_;cases r with
  | error e=>exact(hCX H e s' h).elim
  | ok fl =>
   cases fl with
   | next=>exact False.elim h
   | brk=>exact False.elim h
   | cont=>exact False.elim h
   | ret u =>
    obtain⟨v,H',os,bare,un,hok',r',q⟩:=h;have q':v=.bl true:=q;subst q';obtain rfl:u=Value.bool true:=r';refine⟨rfl,OldK.of_keep fun b o e=>?_,os,bare⟩;cases q:H b with
    | none=>exact un.keep b o e q (by intro z;exact absurd (show b ∈ ([]:List Addr) from z) (by simp)) (by simp)
    | some u =>
     rcases hO b with z | ⟨ob,xs,z⟩
     ·rw[q]at z;cases z
     ·have z2:=un.frzs b ob _ z;obtain⟨e1,_⟩:=hok b _ z;obtain⟨e2,_⟩:=hok' b _ z2;rw[e]at e1;cases e1;exact e2
 cases hk:K.lookup a with
 | some o =>
  have e:=KX a o hk;rw[ha]at e;cases e;refine core (fun _=>none) (fun _=>.inl rfl) (.inr ⟨_,vs.toArray,_,hk,rfl,rfl,rfl,by rw[size_toArray,lenV];exact hl,by simpa using rv⟩) (fun b u z=>by have z':(none:Option HO)=some u:=z;cases z') (fun b z=>absurd rfl z) fun z=>absurd rfl z
 | none =>
  refine core (fun b=>if b=a then some (.frz { cls:=.type "list",data:=.seq vs.toArray } (.lst (ns.map V.int))) else none) (fun b=>?_) (.inl (.inr ⟨{ cls:=.type "list",data:=.seq vs.toArray },if_pos rfl⟩)) (fun b u z=>?_) (fun b z=>?_) fun _=>hk
  ·by_cases hb:b=a
   ·exact .inr ⟨_,_,if_pos hb⟩
   ·exact .inl (if_neg hb)
  ·by_cases hb:b=a
   ·have z':=(if_pos hb).symm.trans z;cases z';subst hb;exact⟨ha,by rw[length_map];exact hl,vs,_,rv,ha⟩
   ·have z':=(if_neg hb).symm.trans z;cases z'
  ·by_cases hb:b=a
   ·exact hb
   ·exact absurd (if_neg hb) z
theorem walk_of{l:PySem.W.OpenLaw}{n k:Nat}{q:Program}{loose:List Str}{XP:(Str->Option Value)->Heap->Prop}{YP:World->Heap->Prop}{d:DefRec}{K:Params->Frag}{CX:World->CXT}{sp:World->Sp}{x:Str}
  (hn:l.most=some n)(hn2:n <= sizeLine)(hdf:d.params.defaults=[])(hr:aP k callerA)
  (hY:∀(w:World)(h:Heap),YP w h->(K w.params).In h)
  (F:∀(w:World)(mg:Str->Option Value)(fa:Addr)(h:Heap),(K w.params).In h->h.Ns mainGlobals mg->mg d.name=some (.ref fa) ->
   ∃fd:FuncData,(∀(s:Shared)(u:Value),BindsTo s fd ⟨[u],[]⟩ [(x,u)]) /\
    ∀base:Heap,(K w.params).In base->base.Ns mainGlobals mg->aI l.prog w (K w.params) mg base (CX w) k fa fd [x] (sp w))
  (hsp:∀(w:World)(H:Hp)(a:Addr)(ns:List Int),ns.length <= n->Only H->SqL (K w.params) H a (ns.map V.int)->sp w [.ref a] H (fun v _=>v=.bl true) fun _ _ _=>False)
  (hCX:∀(w:World)(H:Hp)(s:Shared)(e:Value)(s':Shared),CX w [] H s (fun _ _ _=>False) e s'->False) :
  PySem.W.WalkO q loose XP YP l.row.toRowW d [] (fun f vs=>PySem.call f vs):=by
 refine Att.m7 hn hdf fun w s₀ s₁ mg mb fa o pm cd doc a vs ns G Y ho hd hcd hmg hobj hints hlen hg=>?_;have KX:=hY w _ Y;obtain⟨fd,hb,hF⟩:=F w mg fa _ KX G.T.g hmg;exact uo KX G.T.g G.T.b G.T.builtins G.T.nolimit hg hobj hints (Nat.le_trans hlen hn2) hr hF hb (fun H hO hS=>hsp w H a ns hlen hO hS) fun H e s'=>hCX w H s₁ e s'
noncomputable def aC(s:Stmt)(j:Nat):Stmt:=match s with
 | .ClassDef _ _ _ body _ _ _ _ _ _ _=>body.getD j (.Pass ⟨0,0,0,0⟩)
 | _=>.Pass ⟨0,0,0,0⟩
noncomputable def cZ(s:Stmt):Arguments:=match s with
 | .FunctionDef _ a _ _ _ _ _ _ _ _=>a
 | _=>{ posonlyargs:=[],args:=[],vararg:=none,kwonlyargs:=[],kw_defaults:=[],kwarg:=none,defaults:=[] }
noncomputable def cM(s:Stmt):List Stmt:=match s with
 | .FunctionDef _ _ b _ _ _ _ _ _ _=>b
 | _=>[]
noncomputable def ah(s:Stmt):Scope:=match s with
 | .FunctionDef _ _ _ _ _ _ sc _ _ _=>sc
 | _=>{ kind:=.function,names:=[],isGenerator:=false,isCoroutine:=false }
abbrev CX0:CXT:=fun _ _ _ _ _ _=>False
abbrev E0:XK:=fun _ _ _=>False
theorem je{X:Cx}:gc CX0 X E0:=fun _ _ _ _ _ _ _ h=>h.elim
structure Fun(K:Frag)(x qual:Str)(st:Stmt)(f:Addr)(fd:FuncData):Prop where
 ex:∃(oc:Value)(od:Option Addr)(kV doc pm:Value)(an:Option Addr)(cdv ct:Value) (osl:Array (Option Value)),
  fd=PySem.W.fnOf x qual (cZ st) (cM st) (ah st) .none kV doc pm an cdv ct/\K.lookup f=some ⟨oc,od,.func fd,osl⟩/\PySem.W.codeIn K cdv qual=true
 kp:PySem.W.keepIn K (.ref f)=true
section
variable{P:Program}{w:World}{K:Frag}{mg:Str->Option Value}{base:Heap}
theorem Fun.ok{x qual:Str}{st:Stmt}{f:Addr}{fd:FuncData}{N ps:List Str}{k:Nat}{sp:Sp}(F:Fun K x qual st f fd)(S:ao N ps (ah st))(len:∀vs H Q E,sp vs H Q E->vs.length=ps.length)
  (hbody:∀(cdv:Value)(A:Around)(outer:List Env)(s:Shared)(H:Hp)(vs:List V)(Q:VK)(E:XK),aP k (A.deeper (envOfC qual (ah st) s.heap.objs.size f cdv))->sp vs H Q E ->
   ∃t,PSs (aW CX0 P w K mg base N qual (ah st) f cdv A outer s H E).nox (cM st) t/\t { nx:=fun _ H'=>Q .non H',rt:=Q } (fX N vs) H):aI P w K mg base CX0 (k + 1) f fd ps sp:=by
 obtain⟨oc,od,kV,doc,pm,an,cdv,ct,osl,rfl,lk,hcd⟩:=F.ex;refine fn_of lk hcd S len fun A outer s H vs Q E hr hsp=>?_;obtain⟨t,h,q⟩:=hbody cdv A outer s H vs Q E hr hsp;exact⟨t,h.nox,q⟩
theorem Fun.binds{x qual:Str}{st:Stmt}{f:Addr}{fd:FuncData}{ps:List Str}(F:Fun K x qual st f fd)
  (h:∀(kV doc pm:Value)(an:Option Addr)(cdv ct:Value)(us:List Value),us.length=ps.length->bindArgs (PySem.W.fnOf x qual (cZ st) (cM st) (ah st) .none kV doc pm an cdv ct) ⟨us,[]⟩=pure (ps.zip us)):dD K fd ps []:=by
 obtain⟨oc,od,kV,doc,pm,an,cdv,ct,osl,rfl,lk,hcd⟩:=F.ex;exact .all (h kV doc pm an cdv ct)
theorem o6{x qual:Str}{st:Stmt}{f:Addr}{oc:Value}{od an:Option Addr}{osl:Array (Option Value)}{kV doc pm cdv ct:Value}(l:K.lookup f=some ⟨oc,od,.func (PySem.W.fnOf x qual (cZ st) (cM st) (ah st) .none kV doc pm an cdv ct),osl⟩)
  (c:PySem.W.codeIn K cdv qual=true)(k:PySem.W.keepIn K (.ref f)=true):Fun K x qual st f (PySem.W.fnOf x qual (cZ st) (cM st) (ah st) .none kV doc pm an cdv ct):=⟨⟨oc,od,kV,doc,pm,an,cdv,ct,osl,rfl,l,c⟩,k⟩
end
theorem cU{A:Around}{k:Nat}(hr:aP k A):A.units + 1 < cLine:=Nat.lt_of_le_of_lt (Nat.add_le_add_left (by decide:1 <= 64) _) hr.units
theorem bJ{n:Nat}(h:n <= 1000):n < sizeLine:=Nat.lt_of_le_of_lt h (by decide)
section
variable{X:Cx}
theorem pv (i:Nat) {x:Str} {pos:Pos} (hN:X.N[i]?=some x:=by rfl) (hv:Vis X.env.scope x:=by first | exact Or.inl rfl | exact Or.inr (Or.inl rfl) | exact Or.inr (Or.inr rfl)) (hd:(x == ("__debug__":Str))=false:=by decide)
  (hcd:(x == ("__classdict__":Str))=false:=by decide):PE X (.Name x pos) (rH i):=pe_var hN hv hd hcd
end
theorem bI{A B:Prop}(h:B):if false=true then A else B:=by
 rw[if_neg Bool.false_ne_true];exact h
theorem cm{A B:Prop}(h:A):if true=true then A else B:=by
 rw[if_pos rfl];exact h
theorem dl{c A B:Prop} [Decidable c](h1:c->A)(h2:¬c->B):if c then A else B:=by
 by_cases h:c
 ·rw[if_pos h];exact h1 h
 ·rw[if_neg h];exact h2 h
def ar(H H':Hp):Prop:=∀b o,H b=some o->H' b=some o
theorem ar.refl(H:Hp):ar H H:=fun _ _ h=>h
theorem ar.trans{H H1 H2:Hp}(a:ar H H1)(b:ar H1 H2):ar H H2:=fun c o h=>b c o (a c o h)
theorem ar.free{H H':Hp}(e:ar H H'){l:Addr}(h:H' l=Option.none):H l=Option.none:=by
 cases q:H l with
 | none=>rfl
 | some o =>
  rw[e l o q]at h;cases h
theorem ar.seq{K:Frag}{H H':Hp}{a:Addr}{xs:List V}(e:ar H H')(h:SqL K H a xs):SqL K H' a xs:=by
 rcases h with (h | ⟨o,h⟩) | h
 ·exact .inl (.inl (e _ _ h))
 ·exact .inl (.inr ⟨o,e _ _ h⟩)
 ·exact .inr h
section
variable{κ:Type} [DecidableEq κ]
theorem m8{kvs:List (κ × V)}{k:κ}(h:bp kvs k=none):¬k ∈ kvs.map (·.1):=by
 intro m;obtain⟨p,hp,e⟩:=List.mem_map.mp m;have q:(kvs.any fun kv=>decide (kv.1=k))=true:=List.any_eq_true.mpr ⟨p,hp,decide_eq_true e⟩;rw[dF,h]at q;exact absurd q (by simp)
theorem valV_in{kvs:List (κ × V)}{k:κ}{v:V}(h:bp kvs k=some v):k ∈ kvs.map (·.1):=by
 have q:(kvs.any fun kv=>decide (kv.1=k))=true:=by
  rw[dF,h]
  all_goals rfl
 obtain⟨p,hp,e⟩:=List.any_eq_true.mp q;exact List.mem_map.mpr ⟨p,hp,of_decide_eq_true e⟩
theorem qN:∀{l:List κ}{k:κ},l.Nodup->¬k ∈ l->(l ++ [k]).Nodup
 | [],k,_,_=>by simp
 | a :: r,k,h,hk=>by
  obtain⟨h1,h2⟩:=List.nodup_cons.mp h;show (a :: (r ++ [k])).Nodup;refine List.nodup_cons.mpr ⟨fun m=>?_,qN h2 fun m=>hk (List.mem_cons.mpr (Or.inr m))⟩;rcases mem_append.mp m with q | q
  ·exact h1 q
  ·exact hk (List.mem_cons.mpr (Or.inl (List.mem_singleton.mp q).symm))
theorem kt{p:κ × V}{r:List (κ × V)}{k:κ}(e:p.1=k):dE (p :: r) k=dE r k:=by
 unfold dE;rw[List.filter_cons,if_neg (by simp[e])]
theorem hG{p:κ × V}{r:List (κ × V)}{k:κ}(e:¬p.1=k):dE (p :: r) k=p :: dE r k:=by
 unfold dE;rw[List.filter_cons,if_pos (by simp[e])]
theorem m9:∀{kvs:List (κ × V)} {k:κ},¬k ∈ kvs.map (·.1)->dE kvs k=kvs
 | [],_,_=>rfl
 | p :: r,k,h=>by
  have h':¬k ∈ r.map (·.1):=fun m=>by
   obtain⟨q,hq,e⟩:=List.mem_map.mp m;exact h (List.mem_map.mpr ⟨q,List.mem_cons.mpr (Or.inr hq),e⟩)
  rw[hG fun e=>h (List.mem_map.mpr ⟨p,List.mem_cons.mpr (Or.inl rfl),e⟩),m9 h']
end
theorem gf{env:Env}:∀(l:List (Str × NameKind)) (acc:List (Str × Addr)),(∀x ∈ l,x.2=NameKind.free->∃c,env.cells.lookup x.1=some c)->(∀x c,acc.lookup x=some c->env.cells.lookup x=some c) ->
  ∃cl:List (Str × Addr),(forIn l acc (fun(p:Str × NameKind) (cs:List (Str × Addr))=>if (p.2 == NameKind.free)=true then (do let c <- cellOf env p.1;pure (ForInStep.yield ((p.1,c) :: cs))) else pure (ForInStep.yield cs)):Sem (List (Str × Addr)))=pure cl /\
   (∀x c,cl.lookup x=some c->env.cells.lookup x=some c)/\(∀x,(x,NameKind.free) ∈ l->∃c,cl.lookup x=some c)/\∀x c,acc.lookup x=some c->∃c',cl.lookup x=some c'
 | [],acc,_,ha=>⟨acc,rfl,ha,fun _ z=>(nomatch z),fun x c e=>⟨c,e⟩⟩
 | (n,k) :: r,acc,h,ha=>by
  by_cases hk:k=NameKind.free
  ·subst hk;obtain⟨c,hc⟩:=h (n,NameKind.free) List.mem_cons_self rfl;obtain⟨cl,e1,e2,e3,e4⟩:=gf r ((n,c) :: acc) (fun x hx=>h x (List.mem_cons_of_mem _ hx)) (fun x c' e=>by
    by_cases hx:x=n
    ·subst hx;simp only[List.lookup_cons,beq_self_eq_true]at e;cases e;exact hc
    ·have hb:(x == n)=false:=by simpa using hx
     simp only[List.lookup_cons,hb]at e;exact ha x c' e)
   have hn:∃c',cl.lookup n=some c':=e4 n c (by simp only[List.lookup_cons,beq_self_eq_true])
   refine⟨cl,?_,e2,fun x hx=>?_,fun x c' e=>?_⟩
   ·have hcell:cellOf env n=pure c:=by unfold cellOf;rw[hc]
    rw[List.forIn_cons];show ((if (NameKind.free == NameKind.free)=true then (do let c <- cellOf env n;pure (ForInStep.yield ((n,c) :: acc))) else pure (ForInStep.yield acc)) >>= _)=pure cl
    rw[if_pos (by decide),hcell,pure_bind,pure_bind]
    exact e1
   ·rcases List.mem_cons.mp hx with q | q
    ·cases q;exact hn
    ·exact e3 x q
   ·by_cases hx:x=n
    ·subst hx;exact hn
    ·refine e4 x c' ?_;have hb:(x == n)=false:=by simpa using hx
     simp only[List.lookup_cons,hb];exact e
  ·obtain⟨cl,e1,e2,e3,e4⟩:=gf r acc (fun x hx=>h x (List.mem_cons_of_mem _ hx)) ha;refine⟨cl,?_,e2,fun x hx=>?_,e4⟩
   ·have hb:(k == NameKind.free)=false:=by simpa using hk
    rw[List.forIn_cons];show ((if (k == NameKind.free)=true then (do let c <- cellOf env n;pure (ForInStep.yield ((n,c) :: acc))) else pure (ForInStep.yield acc)) >>= _)=pure cl
    rw[hb,if_neg (by decide),pure_bind]
    exact e1
   ·rcases List.mem_cons.mp hx with q | q
    ·cases q;exact absurd rfl hk
    ·exact e3 x q
theorem o7{scope:Scope}{env:Env}(h:∀x ∈ scope.names,x.2=NameKind.free->∃c,env.cells.lookup x.1=some c) :
  ∃cl:List (Str × Addr),closureFor scope env=pure cl/\(∀x c,cl.lookup x=some c->env.cells.lookup x=some c)/\∀x,(x,NameKind.free) ∈ scope.names->∃c,cl.lookup x=some c:=by
 obtain⟨cl,e1,e2,e3,_⟩:=gf scope.names [] h (fun x c e=>by simp at e)
 refine⟨cl,?_,e2,e3⟩;unfold closureFor;show (forIn scope.names [] _ >>= fun cs=>pure cs)=pure cl;have e1':(forIn scope.names ([]:List (Str × Addr)) (fun(x:Str × NameKind) (cs:List (Str × Addr))=>if (x.2 == NameKind.free)=true then (do let c <- cellOf env x.1;pure (ForInStep.yield ((x.1,c) :: cs))) else pure (ForInStep.yield cs)):Sem (List (Str × Addr)))=pure cl:=e1
 have e5:∀(m:Sem (List (Str × Addr))),m=pure cl->(m >>= fun cs=>pure cs)=pure cl:=fun m e=>by rw[e,pure_bind]
 exact e5 _ e1'
noncomputable def cxC(X:Cx)(scope:Scope)(cl:List (Str × Addr))(N2 ys:List Str)(C:Addr)(s:Shared)(H:Hp)(fp:List Addr):Cx :=
 { prog:=X.prog,w:=X.w,K:=X.K,mg:=X.mg,base:=X.base,A:=X.A,N:=N2 ++ ys,s₀:=s,H₀:=H,env:=compEnvC scope cl C X.env,outer:=X.stack,stack:=X.stack,ex:=fp,fn:=fun _=>false,calm:=X.calm,pn:=[],xe:=fun _ _=>False }
def PTs(X:Cx)(ifs:List Expr)(t:TT):Prop :=
 ∀(pins:List (Addr × Obj)) (s:Shared) (σ:St) (H:Hp) (Q:Bool->Hp->Prop),Inv X pins σ H s->t σ H Q ->
  wpAny (model X.prog X.w) X.A (forIn ifs true fun c r=>if r=true then do let ok <- isTrue c X.env (eval c X.env);pure (ForInStep.yield ok) else pure (ForInStep.yield r)) (TP X pins σ Q) X.xe s
def uq:TT:=fun _ H Q=>Q true H
theorem eB{X:Cx}:PTs X [] uq:=fun _ _ _ H _ I h=>wpAny_tests_nil ⟨H,I,h⟩
theorem eF{X:Cx}{c:Expr}{t:TT}(h:PT X c t):PTs X [c] t:=fun pins s σ H Q I q=>wpAny_tests_one (h pins s σ H Q I q)
theorem nc{prog:Program}{w:World}{A:Around}{R:Result->Shared->Prop}{s:Shared}{elt target iter:Expr}{ifs:List Expr}{scope:Scope}{pos:Pos}{it acc:Value}{env:Env}(I:Nat->Shared->Prop)
  (turn:∀n s,I n s->wpAny (model prog w) A (pyNext it) (fun r s₁=>match r with
   | none=>R (.ok .next) s₁
   | some v=>wpAny (model prog w) A (letOwnedTupleGo target it v) (fun _ s₁'=>wpAny (model prog w) A (assign target env v) (fun _ s₂ =>
     wpAny (model prog w) A (forIn ifs true fun c r=>if r=true then do let ok <- isTrue c env (eval c env);pure (ForInStep.yield ok) else pure (ForInStep.yield r)) (fun ok s₃ =>
      if ok=true then wpAny (model prog w) A (eval elt env) (fun x s₄ =>
       wpAny (model prog w) A (call (.builtin "list.append") [acc,x]) (fun _ s₅=>∃m,m < n/\I m s₅) (notedBy (model prog w) A env fun e s'=>R (.error e) s') s₄) (notedBy (model prog w) A env fun e s'=>R (.error e) s') s₃
      else ∃m,m < n/\I m s₃) (notedBy (model prog w) A env fun e s'=>R (.error e) s') s₂) (notedBy (model prog w) A env fun e s'=>R (.error e) s') s₁') (notedBy (model prog w) A env fun e s'=>R (.error e) s') s₁) (notedBy (model prog w) A env fun e s'=>R (.error e) s') s)
  (n:Nat) (h:I n s) :
  codeAny (model prog w) A (.compLoop (.ListComp elt [⟨target,iter,ifs,0⟩] scope pos) 0 it acc env) R s:=by
 refine codeAny_loop rfl I (fun n s hI=>?_) n h;show wpAny _ A ((compTurn (.ListComp elt [⟨target,iter,ifs,0⟩] scope pos) 0 it acc env).onRaise (fun x=>do noteFrame x env;theTreesLotGoes x)) _ _ s
 refine wpAny_noted ?_;rw[compTurn_list];refine wpAny_bind (wpAny_standAt (wpAny_bind (wpAny_mono (turn n s hI) (fun r s₁ h₁=>?_) fun _ _ h'=>h')));cases r with
 | none=>exact wpAny_pure h₁
 | some v =>
  refine wpAny_bind (wpAny_mono h₁ (fun _ s₁' h₁'=>?_) fun _ _ h'=>h');refine wpAny_bind (wpAny_mono h₁' (fun _ s₂ h₂=>wpAny_bind (wpAny_mono h₂ (fun ok s₃ h₃=>?_) fun _ _ h'=>h')) fun _ _ h'=>h');cases ok with
  | false=>exact wpAny_pure ⟨rfl,h₃⟩
  | true =>
   exact wpAny_bind (wpAny_bind (wpAny_mono h₃ (fun x s₄ h₄=>wpAny_bind (wpAny_mono h₄ (fun _ s₅ h₅=>wpAny_pure (wpAny_pure ⟨rfl,h₅⟩)) fun _ _ h'=>h')) fun _ _ h'=>h'))
def LCT(k:Nat)(g:TG)(tt:TT)(te:TE)(σ:St)(Q:VK)(J:It)(H1:Hp):Prop:=∀D,H1 D=none->∃W:Nat->Nat->List V->Hp->Prop,(∃m,W 0 m [] (upd H1 D (.lst [])))/\∀i m ys H,W i m ys H ->
 (J.stop i H/\Q (.ref D) H)\/(J.go i H/\∀x H',J.yld i H x H'->g x (σ ++ List.replicate k none) H' fun σ2 H2=>(∃τ:St,σ2=σ ++ τ/\τ.length=k) /\
  tt σ2 H2 fun b H3=>if b=true then te σ2 H3 fun y H4=>H4 D=some (.lst ys)/\ys.length < sizeLine/\∃m',m' < m/\W (i + 1) m' (ys ++ [y]) (upd H4 D (.lst (ys ++ [y]))) else ∃m',m' < m/\W (i + 1) m' ys H3)
def tLC(k:Nat)(wi:TI)(g:TG)(tt:TT)(te:TE):TE:=fun σ H Q=>wi σ H (LCT k g tt te σ Q)
theorem bQ{env:Env}:∀{names:List (Str × NameKind)} {x:Str} {k:NameKind},(names.map fun(n,k)=>if (k == NameKind.free && env.scope.kind == .function && env.kindOf n == some .cell) then (n,NameKind.cell) else (n,k)).lookup x=some k ->
  (names.lookup x=some k)\/(names.lookup x=some .free/\k=.cell)
 | [],_,_,h=>by simp at h
 | (n,k0) :: r,x,k,h=>by
  have ih:=@bQ env r x k;have h:List.lookup x ((if (k0 == NameKind.free && env.scope.kind == .function && env.kindOf n == some .cell)=true then (n,NameKind.cell) else (n,k0)) :: r.map fun(n,k)=>if (k == NameKind.free && env.scope.kind == .function && env.kindOf n == some .cell) then (n,NameKind.cell) else (n,k))=some k:=h
  cases hx:x == n with
  | true =>
   by_cases hc:(k0 == NameKind.free && env.scope.kind == .function && env.kindOf n == some .cell)=true
   ·rw[if_pos hc]at h;simp only[List.lookup_cons,hx]at h;cases h;have hf:k0=.free:=by
     have:=hc;simp only[Bool.and_eq_true,beq_iff_eq]at this;exact this.1.1
    right
    simp only[List.lookup_cons,hx,hf,and_self]
   ·rw[if_neg hc]at h;simp only[List.lookup_cons,hx]at h;cases h;left
    simp only[List.lookup_cons,hx]
  | false =>
   have h':List.lookup x (r.map fun(n,k)=>if (k == NameKind.free && env.scope.kind == .function && env.kindOf n == some .cell) then (n,NameKind.cell) else (n,k))=some k:=by
    by_cases hc:(k0 == NameKind.free && env.scope.kind == .function && env.kindOf n == some .cell)=true
    ·rw[if_pos hc]at h;simp only[List.lookup_cons,hx]at h;exact h
    ·rw[if_neg hc]at h;simp only[List.lookup_cons,hx]at h;exact h
   rcases ih h' with q | q
   ·left;simp only[List.lookup_cons,hx];exact q
   ·right;simp only[List.lookup_cons,hx];exact q
theorem lcJ{J:It}{n k:Nat}{σ:St}{H1:Hp}{te:TE}{Q:VK}(xv:Nat->V)(Pv:Addr->Nat->List V->Hp->Prop)(hk:σ.length=k)
  (hgo:∀D i ys H,i < n->Pv D i ys H->J.go i H)(hyld:∀D i ys H x H',i < n->Pv D i ys H->J.yld i H x H'->H'=H/\x=xv i)(hstop:∀D ys H,Pv D n ys H->J.stop n H)
  (h0:∀D,H1 D=none->Pv D 0 [] (upd H1 D (.lst [])))
  (turn:∀D i ys H (post:VK),i < n->Pv D i ys H->(∀y H4,H4 D=some (.lst ys)->ys.length < sizeLine->Pv D (i + 1) (ys ++ [y]) (upd H4 D (.lst (ys ++ [y])))->post y H4)->te (σ ++ [some (xv i)]) H post)
  (fin:∀D ys H,Pv D n ys H->Q (.ref D) H) :
  LCT 1 (cG k) uq te σ Q J H1:=by
 intro D hD;refine⟨fun i m ys H=>m=n - i/\i <= n/\Pv D i ys H,⟨n,by simp,Nat.zero_le _,h0 D hD⟩,?_⟩
 rintro i m ys H ⟨rfl,hi,p⟩;by_cases hlt:i < n
 ·refine .inr ⟨hgo D i ys H hlt p,fun x H' y=>?_⟩;obtain⟨rfl,rfl⟩:=hyld D i ys H x H' hlt p y;have e:(σ ++ List.replicate 1 (none:Option V)).set k (some (xv i))=σ ++ [some (xv i)]:=by
   subst hk;simp[List.set_append]
  unfold cG;rw[e];unfold uq;refine⟨⟨_,rfl,rfl⟩,?_⟩;refine cm ?_;exact turn D i ys H' _ hlt p fun y H4 h1 h2 h3=>⟨h1,h2,n - (i + 1),by omega,rfl,hlt,h3⟩
 ·have e:i=n:=by omega
  subst e;exact .inl ⟨hstop D ys H p,fin D ys H p⟩
end L2
namespace L2
open PySem PySem.Spec PyProof.Rows PySem.Builtin PySem.Builtin.Str
section
variable{X:Cx}
theorem nh{K:Frag}{T:String}:PySem.W.kitOne K (.type T) (.type T)=some true:=by
 unfold PySem.W.kitOne;rw[if_pos (by simp)]
theorem gg:∀{ys:List Str}{us:List Value},aY (ys.map V.str) us->StrsAre us ys
 | [],us,r=>by
  cases r;exact .nil
 | y :: ys,us,r=>by
  have r:aY (V.str y :: ys.map V.str) us:=r;cases r with
  | cons h t =>
   obtain⟨tk,rfl⟩:=h;exact .cons _ _ (gg t)
def rJoin(K:Frag):V->List V->Hp->VK->Prop:=fun x vs H Q=>∃z p ys,x=.str z/\vs=[.ref p]/\SqL K H p (ys.map V.str)/\(ys.map (·.length)).sum + ys.length * z.length <= 16777216/\Q (.str (Txt.join z ys)) H
theorem mt_join:MtR X "str.join" (rJoin X.K):=by
 intro pins s σ H x vs v us Q I rx rv h;obtain⟨z,p,ys,rfl,rfl,hS,hz,q⟩:=h;obtain⟨t,rfl⟩:=rx;obtain⟨u,rfl,ru⟩:=rv.one;cases ru;obtain⟨its,r,hp,_⟩:=I.list hS;exact join_list hp.isList (by simpa using gg r) hz fun t' k=>⟨.str _,H,I.tok _,⟨_,rfl⟩,q⟩
def tTup0:TE:=fun _ H Q=>∀p,H p=none->Q (.ref p) (upd H p (.frz { cls:=.type "tuple",data:=.seq #[] } (.tup [])))
theorem iL{x1:Nat}{pos:Pos}:PE X (.Tuple [] x1 pos) tTup0:=by
 intro pins s σ H Q I hq;refine wpAny_Tuple_spliced (thn (ad (X:=X) pos pins s σ H (fun xs H1=>xs=[]/\H1=H) I ⟨rfl,rfl⟩) fun us s1 ⟨xs,H1,I1,r,e1,e2⟩=>?_);subst e1 e2;cases r;refine⟨Nat.zero_le _,?_⟩;have hf:H1 s1.heap.objs.size=none:=I1.hok.fresh (Nat.le_refl _);refine⟨.ref s1.heap.objs.size,upd H1 s1.heap.objs.size _,I1.laid (t':=s1.toks) (fun b u e=>get?_push_of_some _ e) (Nat.le_refl _) ?_,rfl,hq _ hf⟩
 exact⟨get?_push_size _ rfl,Nat.zero_le _,[],.nil,⟨_,get?_push_size _ rfl,rfl,_,rfl⟩⟩
end
set_option maxRecDepth 8000 in
theorem fV{prog:Program}{w:World}{A:Around}{E:Value->Shared->Prop}{s:Shared}{a:Addr}{o:Obj}{xs:Array Value}{k:Nat}{name:Str}{Q:Option Value->Shared->Prop}
  (hx:s.heap.get? a=some o) (hc:o.cls=.type "tuple") (hdat:o.data=.seq xs k) (hd:o.dict=none) (hmiss:typeLookup (.type "tuple") name=pure none) (hname:(["__module__","__name__","__qualname__","__doc__","__annotations__"]:List Str).contains name=false) (hA:A.handled=none)
  (h:∀h' tk,(∀b o,s.heap.get? b=some o->h'.get? b=some o)->Q none { s with heap:=h',toks:=tk }) (hsz:name.length + 100 <= sizeLine:=by size_fits) :
  wpAny (model prog w) A (getAttr? (.ref a) name) Q E s:=by
 obtain⟨c,dct,dat,sl⟩:=o;simp only at hc hdat hd;subst hc hdat hd;obtain⟨hp,g,d,tk,os⟩:=s;have hT:∀tk',(⟨hp,g,d,tk',os⟩:Shared).TypeIs (.ref a) "tuple":=fun _=>⟨_,hx,rfl⟩;have f1:=sub_AttributeError;have f3:=F.slot_tuple_getattribute.lookup;have f4:=F.slot_tuple_getattribute.bind (.ref a);have f5:=am_tuple_getattr_none;unfold getAttr? getAttrBy? getAttrBy
 repeat (any_goals (first | assumption | exact hT _ | ((with_reducible show wpAny _ _ (call (Value.builtin "tuple.__getattribute__") _ _) _ _ _);refine call_meets F.slot_tuple_getattribute (hT _) am_entry_tuple_getattribute (F.args_tuple_getattribute_2 _ _) (meets_getattribute_miss_tuple a xs k sl name _ hmiss hname hsz) ⟨hx,hA,fun h' tk' e hx'=>?_⟩) | wp_step))
 obtain⟨t',u',he⟩:=hx'.there;show wpAny _ _ (getattributeRaised _ _ _ _ _ _ _) _ _ _;unfold getattributeRaised
 repeat (any_goals (first | assumption | wp_step))
 exact h _ _ (fun b o q=>hx'.of.keeps b o q)
end L2
namespace L2
open PySem PySem.Spec PyProof.Rows
theorem upd_id{H:Hp}{a:Addr}{o:HO}(h:H a=some o):upd H a o=H:=by
 funext b
 unfold upd;split
 ·rename_i e;subst e;exact h.symm
 ·rfl
theorem SqT.upd{K:Frag}{H:Hp}{d b:Addr}{m:List (Key × V)}{o:HO}{xs:List V}(h:SqT K H b xs)(e:H d=some (.dK m)):SqT K (L2.upd H d o) b xs:=by
 rcases h with (h | ⟨o',h⟩) | h
 ·exact .inl (.inl (by rw[au (ax h e (by intro z;cases z))];exact h))
 ·exact .inl (.inr ⟨o',by rw[au (ax h e (by intro z;cases z))];exact h⟩)
 ·exact .inr h
theorem eP:entryFor table "dict.update.loop"=some Builtin.«dict.update.loop»:=entryFor_of_tree (by kernel_rfl)
theorem rY{X:Cx}{pins:List (Addr × Obj)}{σ:St}{A:Around}{E:Value->Shared->Prop}{a d it:Addr}{ps:List V}{Q:Shared->Prop}(hA:A.handled=none) :
  ∀(kvs:List (Key × V)) (i:Nat) (s:Shared) (H:Hp) (m:List (Key × V)),Inv X pins σ H s->SqT X.K H a ps->jX X pins H it->s.heap.IsTupleIter it a i->H d=some (.dK m)->m.length + kvs.length <= sizeLine ->
   (∀j kv,kvs[j]?=some kv->∃b,ps[i + j]?=some (.ref b)/\SqT X.K H b [kV kv.1,kv.2])->ps.length=i + kvs.length ->
   (∀s',Inv X pins σ (upd H d (.dK (kvs.foldl (fun m kv=>bz m kv.1 kv.2) m))) s'->Q s') ->
   codeAny (model X.prog X.w) A (.builtin "dict.update.loop" ⟨[.ref d,.ref it,.int i 0,.none],[]⟩) (wants (fun r s₂=>r=.none/\Q s₂) E) s:=by
 intro kvs;induction kvs with
 | nil =>
  intro i s H m I ha hf hit hd hm hp hl hQ;obtain⟨its,rv,p,hz⟩:=I.tuple ha;obtain⟨f0,f1,f2,f3,f4,f5⟩:=hf;have hlen:=rv.length;refine codeAny_builtin eP ?_;unfold Builtin.«dict.update.loop»;refine wpAny_bind (wpAny_pyNext_tuple_end (by first | exact hA | (simpa[Around.under] using hA)) hit (show s.heap.IsTuple a its.toArray from p) (by simp at hl ⊢;omega) fun h' eb=>?_)
  show wpAny _ _ (Builtin.Dict.addKeywords d [] >>= fun _=>ret Value.none) _ _ _;refine wpAny_bind (wpAny_pure (wpAny_pure ⟨rfl,hQ _ ?_⟩));show Inv X pins σ (upd H d (.dK m)) _;rw[upd_id hd];exact I.turned (t':=s.toks) (fun b o hb e=>eb b o hb e) f0 f1 f3 f4 f5
 | cons kv rest ih =>
  intro i s H m I ha hf hit hd hm hp hl hQ;obtain⟨its,rv,p,hz⟩:=I.tuple ha;obtain⟨b,hb,hbt⟩:=hp 0 kv rfl;obtain⟨u,hu,ru⟩:=rv.get (show ps[i]?=some (.ref b) from hb);cases ru;have hf':=hf;obtain⟨f0,f1,f2,f3,f4,f5⟩:=hf;refine codeAny_builtin eP ?_;unfold Builtin.«dict.update.loop»;refine wpAny_bind (wpAny_pyNext_tuple_item hit (show s.heap.IsTuple a its.toArray from p) (x:=.ref b) (by simpa using hu) fun h' st' sb=>?_)
  have I1:Inv X pins σ H { s with heap:=h' }:=I.turned (t':=s.toks) (fun b o hb e=>(sb.2 b hb).trans e) f0 f1 f3 f4 f5;obtain⟨pr,rp,pt,_⟩:=I1.tuple hbt;obtain⟨ku,vu,epr,rk,rvv⟩:∃ku vu,pr=[ku,vu]/\aT (kV kv.1) ku/\aT kv.2 vu:=by
   obtain⟨u1,u2,e1,r1,r2⟩:=tY rp;exact⟨u1,u2,e1,r1,r2⟩
  subst epr;obtain⟨ob,ho,hc,n,hdt⟩:=id pt;show wpAny _ _ (holding [Value.ref b] _ >>= _) _ _ _;refine wpAny_bind (wpAny_holding ?_);refine wpAny_bind (wpAny_tryCatch ?_);unfold Builtin.Dict.pairItems;refine wpAny_bind (wpAny_typeOf (show ({ s with heap:=h' }:Shared).TypeIs (.ref b) "tuple" from⟨ob,ho,hc⟩) ?_);rw[if_pos (by decide)]
  refine wpAny_bind (wpAny_seqItems ho hdt (wpAny_pure ?_));show wpAny _ _ (holding [ku,vu] (dictSet d ku vu)) _ _ _;refine wpAny_holding ?_;obtain⟨z,hdd,vs,rel,dd⟩:=kh I1.hok hd;have hz2:vs.length <= sizeLine:=by rw[<- rel.length];exact z
  simp only[length_cons]at hm hl;have hl2:(bz m kv.1 kv.2).length <= m.length + 1:=cH m kv.1 kv.2;refine wpAny_dictSet_pairs (hsz:=hz2) (eZ rk) dd fun h2 dd' hs=>?_;have he:∃q,h2.get? d=some q:=let ⟨q,_,_,hq,_⟩:=dd';⟨q,hq⟩;have I2:Inv X pins σ (upd H d (.dK (bz m kv.1 kv.2))) { heap:=h2,gens:=s.gens,drawn:=s.drawn,toks:=s.toks + 1,os:=s.os }:=gD (s:={ s with heap:=h' }) (t':=s.toks + 1) I1 (by rw[hd];exact True.intro) hs he (kZ (by omega) hdd (rel.put kv.1 rvv) dd')
  have nit:it ≠ d:=by
   rintro rfl;rw[hd]at f0;cases f0
  refine wpAny_pure ⟨Code.quiet_builtin _ (by decide +kernel),?_⟩
  have:=ih (i + 1) { heap:=h2,gens:=s.gens,drawn:=s.drawn,toks:=s.toks + 1,os:=s.os } (upd H d (.dK (bz m kv.1 kv.2))) (bz m kv.1 kv.2) I2 (ha.upd hd) ⟨by rw[au nit];exact f0,f1,f2,f3,f4,f5⟩
   (st'.at fun o e=>(hs.2 it nit).trans e) af (by omega) (fun j kv' e=>by
    obtain⟨b',h1,h2⟩:=hp (j + 1) kv' (by simpa using e)
    exact⟨b',by rw[show i + 1 + j=i + (j + 1) by omega];exact h1,h2.upd hd⟩) (by omega) (fun s' I'=>hQ s' (by rw[gC]at I';exact I'))
  exact this
def rDictOf(K:Frag):List V->Hp->VK->Prop:=fun xs H Q=>∃(a:Addr)(o:Obj)(ps:List V) (kvs:List (Key × V)),xs=[.ref a]/\H a=some (.frz o (.tup ps))/\o.dict=none/\ps.length=kvs.length/\(∀(j:Nat)(kv:Key × V),kvs[j]?=some kv->∃b,ps[j]?=some (.ref b)/\SqT K H b [kV kv.1,kv.2]) /\
 ∀d,H d=none->Q (.ref d) (upd H d (.dK (kvs.foldl (fun m kv=>bz m kv.1 kv.2) [])))
theorem SqT.new{K:Frag}{H:Hp}{d b:Addr}{o:HO}{xs:List V}(h:SqT K H b xs)(e:H d=none):SqT K (L2.upd H d o) b xs:=by
 rcases h with (h | ⟨o',h⟩) | h
 ·exact .inl (.inl (by rw[au (ak h e)];exact h))
 ·exact .inl (.inr ⟨o',by rw[au (ak h e)];exact h⟩)
 ·exact .inr h
theorem rZ {X:Cx} (hc:X.calm=true):eO X (.type "dict") (rDictOf X.K):=by
 intro pins s σ H xs us Q I rv h;obtain⟨a,o,ps,kvs,rfl,ha,hod,hlen,hp,q⟩:=h;obtain⟨u,rfl,ru⟩:=rv.one;cases ru;have haT:SqT X.K H a ps:=.inl (.inr ⟨o,ha⟩);obtain⟨hao,hz,its,rvs,p⟩:=(show bT X.prog X.w H s.heap a (.frz o (.tup ps)) from I.hok a _ ha);obtain⟨o',ho',hcl,n,hdt⟩:=id p;rw[hao]at ho';cases ho';have fd:H s.heap.objs.size=none:=I.hok.fresh (Nat.le_refl _);have I1:Inv X pins σ (upd H s.heap.objs.size (.dK [])) { s with heap:=s.heap.push { cls:=.type "dict",data:=.dict #[] } }:=I.laid (t':=s.toks) (fun _ _ q=>get?_push_of_some _ q) (Nat.le_refl _) (ja s.heap I.big);refine callType_codes (Q₁:=fun obj s₁=>obj=.ref s.heap.objs.size/\s₁={ s with heap:=s.heap.push { cls:=.type "dict",data:=.dict #[] } }) F.kt_called_dict (F.kt_typeCall_dict_1 _) F.entry_dict_init (kt_code_dict_new _ ⟨rfl,rfl⟩) ?_;rintro obj s₁ ⟨rfl,rfl⟩;have hnew:(s.heap.push { cls:=.type "dict",data:=.dict #[] }).DictOf (aV X.prog X.w) s.heap.objs.size []:=Heap.DictOf.new s.heap;refine⟨hnew.typeIs,F.args_dict_init_2 _ _,?_⟩;unfold Builtin.«dict.__init__»;refine wpAny_bind ?_;unfold Builtin.Dict.selfAndRest;refine wpAny_bind (wpAny_notOrdered_dict hnew.typeIs ?_);show wpAny _ _ (pure (s.heap.objs.size,[Value.ref a])) _ _ _;refine wpAny_pure ?_;show wpAny _ _ (Builtin.Dict.updateFrom "dict.__init__" s.heap.objs.size (.ref a) [] .none) _ _ _;unfold Builtin.Dict.updateFrom;have ha1:(s.heap.push { cls:=.type "dict",data:=.dict #[] }).get? a=some o:=get?_push_of_some _ hao;refine wpAny_bind (wpAny_typeOf (show ({ s with heap:=s.heap.push { cls:=.type "dict",data:=.dict #[] } }:Shared).TypeIs (.ref a) "tuple" from⟨o,ha1,hcl⟩) ?_);rw[if_pos (by decide)]
 have hh:X.A.handled=none:=I.ok.hd hc;refine wpAny_bind (fV (A:=X.A.in1.in1) (name:="keys") ha1 hcl hdt hod (am_miss_of_fast (by decide +kernel)) (by decide +kernel) hh fun h' tk keep=>?_)
 have I2:Inv X pins σ (upd H s.heap.objs.size (.dK [])) { s with heap:=h',toks:=tk }:=I1.kept (t':=tk) keep;rw[if_pos (show (none:Option Value).isNone=true from rfl)];refine wpAny_bind (wpAny_rule (wpAny_bind ?_));obtain⟨its2,rv2,p2,_⟩:=I2.tuple (haT.new fd);refine wpAny_pyIter_tuple (show h'.IsTuple a its2.toArray from p2) ?_;have I3:Inv X pins σ (upd H s.heap.objs.size (.dK [])) { s with heap:=h'.push { cls:=.type "tuple_iterator",data:=.fields #[.ref a,.int 0 0] },toks:=tk }:=I2.kept (t':=tk) fun b o e=>get?_push_of_some _ e;refine wpAny_pure ⟨Code.quiet_builtin _ (by decide +kernel),?_⟩
 refine rY (A:=X.A.in1) (E:=X.xe) (Q:=fun s₂=>EP X pins σ Q (Value.ref s.heap.objs.size) s₂) (X:=X) (pins:=pins) (σ:=σ) (a:=a) (ps:=ps) (d:=s.heap.objs.size) (it:=h'.objs.size) hh kvs 0 _ (upd H s.heap.objs.size (.dK [])) [] I3 (haT.new fd)
  (I2.fpOk (Nat.le_refl _) (I2.hok.fresh (Nat.le_refl _))) ⟨_,get?_push_size _ rfl,rfl,rfl⟩ af (by rw[List.length_nil];omega) (fun j kv e=>?_) (by omega) (fun s' I'=>?_)
 ·obtain⟨b,h1,h2⟩:=hp j kv e;exact⟨b,by rw[Nat.zero_add];exact h1,h2.new fd⟩
 ·rw[gC]at I';exact⟨.ref s.heap.objs.size,_,I',rfl,q _ fd⟩
section
variable{X:Cx}
end
theorem lcP{J:It}{n k:Nat}{σ:St}{H1:Hp}{g:TG}{tt:TT}{te:TE}{Q:VK}(xv:Nat->V)(Pv:Addr->Nat->List V->Hp->Prop)
  (hgo:∀D i ys H,i < n->Pv D i ys H->J.go i H)(hyld:∀D i ys H x H',i < n->Pv D i ys H->J.yld i H x H'->H'=H/\x=xv i)(hstop:∀D ys H,Pv D n ys H->J.stop n H)
  (h0:∀D,H1 D=none->Pv D 0 [] (upd H1 D (.lst [])))
  (turn:∀D i ys H (yes:VK) (no:Hp->Prop),i < n->Pv D i ys H->(∀y H4,H4 D=some (.lst ys)->ys.length < sizeLine->Pv D (i + 1) (ys ++ [y]) (upd H4 D (.lst (ys ++ [y])))->yes y H4)->(∀H3,Pv D (i + 1) ys H3->no H3) ->
   g (xv i) (σ ++ List.replicate k none) H fun σ2 H2=>(∃τ:St,σ2=σ ++ τ/\τ.length=k)/\tt σ2 H2 fun b H3=>if b=true then te σ2 H3 yes else no H3)
  (fin:∀D ys H,Pv D n ys H->Q (.ref D) H):LCT k g tt te σ Q J H1:=by
 intro D hD;refine⟨fun i m ys H=>m=n - i/\i <= n/\Pv D i ys H,⟨n,by simp,Nat.zero_le _,h0 D hD⟩,?_⟩
 rintro i m ys H ⟨rfl,hi,p⟩;by_cases hlt:i < n
 ·refine .inr ⟨hgo D i ys H hlt p,fun x H' y=>?_⟩;obtain⟨rfl,rfl⟩:=hyld D i ys H x H' hlt p y;exact turn D i ys H' _ _ hlt p (fun y H4 h1 h2 h3=>⟨h1,h2,n - (i + 1),by omega,rfl,hlt,h3⟩) fun H3 h3=>⟨n - (i + 1),by omega,rfl,hlt,h3⟩
 ·have e:i=n:=by omega
  subst e;exact .inl ⟨hstop D ys H p,fin D ys H p⟩
theorem qO{X:Cx}{elt tg iter:Expr}{ifs:List Expr}{scope:Scope}{pos cpos:Pos}{use:Option (Value->Sem Unit)}{QQ:Value->Shared->Prop}{pins:List (Addr × Obj)}{s:Shared}{σ:St}{H:Hp}{Q:VK}{wi:TI}{g:TG}{tt:TT}{te:TE}
  (N N2 ys:List Str)(sc:Scope)(hc:X.calm=true)(hNe:X.N=N)(hNl:N2.length=N.length)(hsub:∀p ∈ N2.zip N,p.1=p.2\/¬scope.names.lookup p.1=some .free)(hsc:X.env.scope=sc)(hkind:scope.kind=.function)(hcell:∀y ∈ scope.names,y.2 ≠ .cell)(hnames:∀y ∈ scope.names,y.2=.local->scope.names.lookup y.1=some .local)
  (hfr:∀y ∈ scope.names,y.2=.free->sc.names.lookup y.1=some .cell)(hloc:∀y ∈ N2,scope.names.lookup y ≠ some .local)
  (hi:PI X tg iter wi)(hg:∀cl C s H fp,PG (cxC X scope cl N2 ys C s H fp) tg g)(ht:∀cl C s H fp,PTs (cxC X scope cl N2 ys C s H fp) ifs tt)(he:∀cl C s H fp,PE (cxC X scope cl N2 ys C s H fp) elt te)
  (I:Inv X pins σ H s)(h:tLC ys.length wi g tt te σ H Q)
  (fin0:∀(D C:Addr)(H':Hp)(s':Shared),Inv X pins σ H' s'->jX X pins H' C->(∃m,s'.heap.Ns C m)->Q (.ref D) H'->compPost (model X.prog X.w) X.A X.xe use QQ (.ref D) C (.ok .next) s')
  (hs:∀x,foldedSetIterable iter X.env x=pure x:=by intro _;rfl) :
  wpAny (model X.prog X.w) X.A (comprehension (.ListComp elt [⟨tg,iter,ifs,0⟩] scope pos) scope X.env cpos (newList []) false (eval iter X.env) use) QQ X.xe s:=by
 obtain⟨cl,hclos,cl1,cl2⟩:=o7 (scope:=scope) (env:=X.env) (fun x hx hf=>I.ok.has x.1 (.inl (by
  show X.env.scope.names.lookup x.1=_;rw[hsc];exact hfr x hx hf)))
 refine wpAny_comprehension_free (use:=use) rfl hs hclos hkind hnames (thn (hi pins s σ H _ I h) fun v s1 h1=>thn h1 fun itv s2 h2=>?_);obtain⟨it,fp,tn,J,H2,e,I2,T,st2,f2,hD⟩:=h2;subst e;refine wpAny_newObj_type (wpAny_newFunctionEnv hcell (by intro y hy;simp at hy) (fun h₁ hns₁ hsb₁=>?_) hkind)
 have I3:Inv X pins σ (upd H2 s2.heap.objs.size (.lst [])) { s2 with heap:=s2.heap.push { cls:=.type "list",data:=.seq ([]:List Value).toArray },toks:=s2.toks }:=I2.lnew (ys:=[]) (its:=[]) .nil (Nat.zero_le _);have fD:H2 s2.heap.objs.size=none:=I2.hok.fresh (Nat.le_refl _);obtain⟨W,⟨m0,w0⟩,turn⟩:=hD _ fD;have hfp2:∀b ∈ fp,b < s2.heap.objs.size:=fun b hb=>by
  obtain⟨o,e,_⟩:=T.obj 0 s2.heap st2 b hb;exact lt_size e
 dsimp only at hns₁ hsb₁ I3 ⊢;generalize hH2:s2.heap.push { cls:=.type "list",dict:=none,data:=.seq ([]:List Value).toArray }=H3h at hns₁ hsb₁ I3 ⊢;generalize hDd:s2.heap.objs.size=D at *;have hC:H3h.objs.size=D + 1:=by rw[<- hH2,Heap.size_push,hDd]
 generalize hCc:H3h.objs.size=C at *;have hDC:D < C:=by rw[hC];exact Nat.lt_succ_self _
 have hCD:C ≠ D:=Nat.ne_of_gt hDC;have hfpC:∀b ∈ fp,b ≠ C:=fun b hb=>Nat.ne_of_lt (Nat.lt_trans (hfp2 b hb) hDC);have hfpD:∀b ∈ fp,b ≠ D:=fun b hb=>Nat.ne_of_lt (hfp2 b hb);have old2:∀b o,s2.heap.get? b=some o->H3h.get? b=some o:=fun b o e=>by rw[<- hH2];exact get?_push_of_some _ e
 have old:∀b o,H3h.get? b=some o->h₁.get? b=some o:=fun b o e=>hsb₁.extBut b o (Nat.ne_of_lt (by have:=lt_size e;rw[hCc]at this;exact this)) (get?_push_of_some _ e)
 have frH:upd H2 D (.lst []) C=none:=by rw[au hCD];exact I2.hok.fresh (by rw[hDd];exact Nat.le_of_lt hDC)
 have ok':(cxC X scope cl N2 ys C { s2 with heap:=H3h } (upd H2 D (.lst [])) fp).Ok:=by
  refine⟨I.ok.mod,hkind,I.ok.glob,I.ok.blt,?_,?_,?_,?_,I.ok.hd,I.ok.frames,.inl rfl,?_,?_,?_,?_,?_,?_,?_⟩
  ·show H3h.objs.size <= C;exact Nat.le_of_eq hCc
  ·intro x y c h1 h2;exact I.ok.inj x y c (cl1 x c h1) (cl1 y c h2)
  ·intro x hx;have hx:(relabel scope X.env).names.lookup x=some .cell\/(relabel scope X.env).names.lookup x=some .free:=hx;have key:scope.names.lookup x=some .free\/scope.names.lookup x=some .cell:=by
    rcases hx with q | q
    ·rcases bQ q with z | z
     ·exact .inr z
     ·exact .inl z.1
    ·rcases bQ q with z | z
     ·exact .inl z
     ·exact .inl z.1
   rcases key with q | q
   ·exact cl2 x (PySem.mem_of_lookup q)
   ·exact absurd rfl (hcell _ (PySem.mem_of_lookup q))
  ·intro x c z _;exact absurd (show false=true from z) (by decide)
  ·intro b hb;refine⟨fun z=>?_,fun x c e=>?_⟩
   ·exact hfpC b hb z
   ·exact(f2 b hb).2.2.2.2.1 x c (cl1 x c e)
  ·intro b o e;exact⟨I3.bk b o e,(I3.bs b o e).2⟩
  ·exact Nat.le_trans I.ok.bsz I3.sz
  ·intro b o e hb;rcases (f2 b hb).2.2.2.1 with q | q
   ·exact I.ok.noex b o e q
   ·exact absurd (Nat.lt_of_lt_of_le (lt_size e) (Nat.le_trans I.ok.bsz q)) (Nat.lt_irrefl _)
  ·intro b hb hz;rcases List.mem_cons.mp (I.stkSub b hz) with q | q
   ·exact(f2 b hb).2.1 q
   ·exact(f2 b hb).2.2.1 q
  ·exact I3.stack
  ·intro b hb;exact I3.stkFree b hb
 have lenN:N2.length=X.N.length:=by rw[hNl,hNe]
 have lenR:(σ ++ List.replicate ys.length (none:Option V)).length=(N2 ++ ys).length:=by
  rw[length_append,length_append,List.length_replicate,I.len,lenN]
 have I4:Inv (cxC X scope cl N2 ys C { s2 with heap:=H3h } (upd H2 D (.lst [])) fp) [] (σ ++ List.replicate ys.length none) (upd H2 D (.lst [])) { s2 with heap:=h₁,toks:=s2.toks + ([]:List (Str × Value)).length }:=by
  refine⟨ok',rfl,I2.bare,Un.kept old,⟨_,hns₁,?_⟩,?_,frH,?_,?_,I3.hok.kept old,lenR⟩
  ·intro i x v h1 h2 h3;have hi:i < X.N.length:=by
    by_cases hi:i < X.N.length
    ·exact hi
    ·exfalso;rw[List.getElem?_append_right (by rw[I.len];omega),List.getElem?_replicate]at h2
     split at h2 <;> cases h2
   have h1:N2[i]?=some x:=by
    have h1:(N2 ++ ys)[i]?=some x:=h1;rw[List.getElem?_append_left (by rw[lenN];exact hi)]at h1
    exact h1
   have h2:σ[i]?=some (some v):=by
    rw[List.getElem?_append_left (by rw[I.len];exact hi)]at h2
    exact h2
   have h3:Vis (relabel scope X.env) x:=h3;have hx:x ∈ N2:=mem_of_getElem? h1;have hfree:scope.names.lookup x=some .free:=by
    rcases h3 with q | q | q
    ·rcases bQ q with z | z
     ·exact absurd z (hloc x hx)
     ·exact z.1
    ·rcases bQ q with z | z
     ·exact absurd rfl (hcell _ (PySem.mem_of_lookup z))
     ·exact z.1
    ·rcases bQ q with z | z
     ·exact z
     ·exact z.1
   have h1:X.N[i]?=some x:=by
    rw[hNe]at hi ⊢;have h1z:(N2.zip N)[i]?=some (x,N[i]):=by
     rw[List.getElem?_zip_eq_some];exact⟨h1,getElem?_eq_getElem hi⟩
    rcases hsub _ (mem_of_getElem? h1z) with e | e
    ·rw[getElem?_eq_getElem hi];exact congrArg some e.symm
    ·exact absurd hfree e
   have hk:X.env.scope.names.lookup x=some .cell:=by rw[hsc];exact hfr _ (PySem.mem_of_lookup hfree) rfl
   obtain⟨m,hn,hl⟩:=I3.loc;obtain⟨u,r,l⟩:=hl i x v h1 h2 (.inr (.inl hk));refine⟨u,r,.inr ⟨?_,?_⟩⟩
   ·show (relabel scope X.env).names.lookup x=some .cell\/(relabel scope X.env).names.lookup x=some .free;rcases h3 with q | q | q
    ·rcases bQ q with z | z
     ·exact absurd z (hloc x hx)
     ·cases z.2
    ·exact .inl q
    ·exact .inr q
   ·rcases l with ⟨q,_⟩ | ⟨_,c,e,z⟩
    ·have q:X.env.scope.names.lookup x=some .local:=q;rw[hk]at q;cases q
    ·obtain⟨c',e'⟩:=cl2 x (PySem.mem_of_lookup hfree);have:=cl1 x c' e';rw[e]at this;cases this;obtain⟨o,ho,hd⟩:=z;exact⟨c,e',o,old c o ho,hd⟩
  ·intro x c e;obtain⟨v,o,ho,hd⟩:=I3.cell x c (cl1 x c e);exact⟨v,o,old c o ho,hd⟩
  ·intro x c e;exact I3.freeC x c (cl1 x c e)
  ·intro p hp;exact absurd (show p ∈ ([]:List (Addr × Obj)) from hp) (by simp)
 have stat:∀{H':Hp},(∀b ∈ fp,H' b=none)->∀b ∈ fp,jX (cxC X scope cl N2 ys C { s2 with heap:=H3h } (upd H2 D (.lst [])) fp) [] H' b:=fun hn b hb=>by
  refine⟨hn b hb,fun z=>?_,ok'.exfs b hb,.inl hb,fun x c e=>(f2 b hb).2.2.2.2.1 x c (cl1 x c e),fun p hp=>absurd (show p ∈ ([]:List (Addr × Obj)) from hp) (by simp)⟩
  exact hfpC b hb z
 have frD:∀b ∈ fp,upd H2 D (.lst []) b=none:=fun b hb=>by
  rw[au (hfpD b hb)];exact(f2 b hb).1
 have tn4:tn 0 h₁:=T.keep _ _ _ st2 fun b _ o e=>old b o (old2 b o e);have fin:∀{σ':St}{H':Hp}{s':Shared},Inv (cxC X scope cl N2 ys C { s2 with heap:=H3h } (upd H2 D (.lst [])) fp) [] σ' H' s'->Q (.ref D) H' ->
   compPost (model X.prog X.w) X.A X.xe use QQ (.ref D) C (.ok .next) s':=fun {σ' H' s'} I' q=>by
  obtain⟨m,hn,_⟩:=I'.loc;have uab:Un (frs X.stack) fp H2 H' s2.heap s'.heap:=(Un.laid (fs:=frs X.stack) (ex:=fp) (h:=s2.heap) (h':=H3h) (a:=D) (o:=.lst []) old2 (Nat.le_of_eq hDd) fD).trans I'.base;have I'':Inv X pins σ H' s':=I2.call' (ch:=fp) I'.os uab I'.hok I'.bare (fun b hb=>by
   obtain⟨f0,f1,_,f3,f4,f5⟩:=f2 b hb;exact⟨f3,f1,f4,f5⟩)
  exact fin0 D C H' s' I'' (I2.fpOk (by rw[hDd];exact Nat.le_of_lt hDC) I'.free) ⟨m,hn⟩ q
 have loop:codeAny (model X.prog X.w) X.A (.compLoop (.ListComp elt [⟨tg,iter,ifs,0⟩] scope pos) 0 (.ref it) (.ref D) (compEnvC scope cl C X.env)) (compPost (model X.prog X.w) X.A X.xe use QQ (.ref D) C) { s2 with heap:=h₁,toks:=s2.toks + ([]:List (Str × Value)).length }:=by
  refine nc (fun n s'=>∃i zs H',Inv (cxC X scope cl N2 ys C { s2 with heap:=H3h } (upd H2 D (.lst [])) fp) [] (σ ++ List.replicate ys.length none) H' s'/\tn i s'.heap/\(∀b ∈ fp,H' b=none)/\W i n zs H') ?_ m0
   ⟨0,[],_,I4,tn4,frD,w0⟩
  rintro n s3 ⟨i,zs,H3,J3,st3,fr3,w3⟩;rcases turn i n zs H3 w3 with ⟨stop,qn⟩ | ⟨go,step⟩
  ·refine thn (T.done (cxC X scope cl N2 ys C { s2 with heap:=H3h } (upd H2 D (.lst [])) fp) rfl rfl rfl hc i [] s3 _ H3 _ J3 (stat fr3) st3 stop) fun r s4 ⟨hr,J4⟩=>?_;subst hr;exact fin J4 qn
  ·refine thn (T.item (cxC X scope cl N2 ys C { s2 with heap:=H3h } (upd H2 D (.lst [])) fp) rfl rfl rfl hc i [] s3 _ H3 _ J3 (stat fr3) st3 go) fun r s4 ⟨u,hr,h4⟩=>?_;subst hr;refine thn h4 fun _ s5 ⟨x,H5,J5,r5,y5,st5,fr5⟩=>?_;have J5':=J5.pinned (stat fr5) (T.obj _ _ st5);refine wpAny_mono (hg cl C _ _ fp _ s5 _ H5 x u _ J5' r5 (step x H5 y5)) (fun _ s6 ⟨σ6,H6,J6,⟨τ,eτ,lτ⟩,q6⟩=>?_) fun _ _ z=>False.elim z;refine wpAny_mono (ht cl C _ _ fp _ s6 σ6 H6 _ J6 q6) (fun b s7 ⟨H7,J7,q7⟩=>?_) fun _ _ z=>False.elim z;have again:∀{H8:Hp}{s8:Shared}{zs':List V},Inv (cxC X scope cl N2 ys C { s2 with heap:=H3h } (upd H2 D (.lst [])) fp) ([] ++ i0 fp s5.heap) σ6 H8 s8->(∃m',m' < n/\W (i + 1) m' zs' H8) ->
     ∃m,m < n/\∃i zs H',Inv (cxC X scope cl N2 ys C { s2 with heap:=H3h } (upd H2 D (.lst [])) fp) [] (σ ++ List.replicate ys.length none) H' s8/\tn i s8.heap/\(∀b ∈ fp,H' b=none)/\W i m zs H':=fun {H8 s8 zs'} J8 ⟨m',hm,w8⟩=>by
    refine⟨m',hm,i + 1,zs',H8,J8.unpinned.weak (by rw[eτ,length_append,length_append,List.length_replicate,lτ]) (fun j v e=>?_),T.keep _ _ _ st5 fun b hb o e=>(J8.pin (b,o) (List.mem_append_right _ (List.mem_append_right _ (eu hb e)))).1,fun b hb=>?_,w8⟩
    ·rw[eτ];by_cases hj:j < σ.length
     ·rw[List.getElem?_append_left hj]at e ⊢;exact e
     ·exfalso;rw[List.getElem?_append_right (by omega),List.getElem?_replicate]at e
      split at e <;> cases e
    ·obtain⟨o,e,d⟩:=T.obj _ _ st5 b hb;exact(J8.pin (b,o) (List.mem_append_right _ (List.mem_append_right _ (eu hb e)))).2.1
   cases b with
   | false =>
    rw[if_neg (by decide)]at q7 ⊢
    exact again J7 q7
   | true =>
    rw[if_pos rfl]at q7 ⊢;refine wpAny_mono (he cl C _ _ fp _ s7 σ6 H7 _ J7 q7) (fun y s8 ⟨yv,H8,J8,r8,hD8,hz8,w8⟩=>?_) fun _ _ z=>False.elim z;refine wpAny_mono (kj (X:=(cxC X scope cl N2 ys C { s2 with heap:=H3h } (upd H2 D (.lst [])) fp)) _ s8 σ6 H8 (.ref D) [yv] (.ref D) [y] (fun _ H9=>∃m',m' < n/\W (i + 1) m' (zs ++ [yv]) H9) J8 rfl (.cons r8 .nil) ⟨D,zs,yv,rfl,rfl,hD8,hz8,w8⟩) (fun _ s9 ⟨_,H9,J9,_,w9⟩=>?_) fun _ _ z=>False.elim z;exact again J9 w9
 exact codeAny_compStart_list loop (T.self _ 0 _ _ _ tn4 loop)
theorem eQ{X:Cx}{elt tg iter:Expr}{ifs:List Expr}{scope:Scope}{pos:Pos}{wi:TI}{g:TG}{tt:TT}{te:TE}
  (N N2 ys:List Str)(sc:Scope)(hc:X.calm=true)(hNe:X.N=N)(hNl:N2.length=N.length)(hsub:∀p ∈ N2.zip N,p.1=p.2\/¬scope.names.lookup p.1=some .free)(hsc:X.env.scope=sc)(hkind:scope.kind=.function)(hcell:∀y ∈ scope.names,y.2 ≠ .cell)(hnames:∀y ∈ scope.names,y.2=.local->scope.names.lookup y.1=some .local)
  (hfr:∀y ∈ scope.names,y.2=.free->sc.names.lookup y.1=some .cell)(hloc:∀y ∈ N2,scope.names.lookup y ≠ some .local)
  (hi:PI X tg iter wi)(hg:∀cl C s H fp,PG (cxC X scope cl N2 ys C s H fp) tg g)(ht:∀cl C s H fp,PTs (cxC X scope cl N2 ys C s H fp) ifs tt)(he:∀cl C s H fp,PE (cxC X scope cl N2 ys C s H fp) elt te)
  (hs:∀x,foldedSetIterable iter X.env x=pure x:=by intro _;rfl) :
  PE X (.ListComp elt [⟨tg,iter,ifs,0⟩] scope pos) (tLC ys.length wi g tt te):=by
 intro pins s σ H Q I h;rw[eval_ListComp];refine qO (use:=none) N N2 ys sc hc hNe hNl hsub hsc hkind hcell hnames hfr hloc hi hg ht he I h (fun D C H' s' I' cf hns q=>?_) hs;obtain⟨m,hn⟩:=hns;obtain⟨f0,f1,f2,f3,f4,f5⟩:=cf;exact⟨m,hn,fun h' hs'=>⟨.ref D,H',I'.turned (t':=s'.toks) (it:=C) (fun b o hb e=>(hs'.2 b hb).trans e) f0 f1 f3 f4 f5,rfl,q⟩⟩
theorem qP{X:Cx}{elt tg iter:Expr}{ifs:List Expr}{scope:Scope}{pos spos py:Pos}{wi:TI}{g:TG}{tt:TT}{te:TE}{i:Nat}{y:Str}(hN:X.N.Nodup)(hiy:X.N[i]?=some y)(hy:Loc X.env.scope y)
  (N N2 ys:List Str)(sc:Scope)(hc:X.calm=true)(hNe:X.N=N)(hNl:N2.length=N.length)(hsub:∀p ∈ N2.zip N,p.1=p.2\/¬scope.names.lookup p.1=some .free)(hsc:X.env.scope=sc)(hkind:scope.kind=.function)(hcell:∀y ∈ scope.names,y.2 ≠ .cell)(hnames:∀y ∈ scope.names,y.2=.local->scope.names.lookup y.1=some .local)
  (hfr:∀y ∈ scope.names,y.2=.free->sc.names.lookup y.1=some .cell)(hloc:∀y ∈ N2,scope.names.lookup y ≠ some .local)
  (hi:PI X tg iter wi)(hg:∀cl C s H fp,PG (cxC X scope cl N2 ys C s H fp) tg g)(ht:∀cl C s H fp,PTs (cxC X scope cl N2 ys C s H fp) ifs tt)(he:∀cl C s H fp,PE (cxC X scope cl N2 ys C s H fp) elt te)
  (hsw:swapsWith (.ListComp elt [⟨tg,iter,ifs,0⟩] scope pos) (some (.Name y py)) spos.line X.env=pure true)
  (hs:∀x,foldedSetIterable iter X.env x=pure x:=by intro _;rfl)(hf:X.fn y=true\/X.env.scope.names.lookup y=some .local:=by first | exact .inl rfl | exact .inr rfl | assumption) :
  PS X (.Assign [.Name y py] (.ListComp elt [⟨tg,iter,ifs,0⟩] scope pos) spos) (tAsg (tLC ys.length wi g tt te) (cG i)):=by
 intro pins s σ H D I h;rw[exec_Assign_Name_used _ _ _ _ hsw];refine wpAny_bind (wpAny_standAt (wpAny_bind ?_));show wpAny _ X.A (do let _ <- comprehension (.ListComp elt [⟨tg,iter,ifs,0⟩] scope pos) scope X.env _ (newList []) false (eval iter X.env) (some (assign (.Name y py) X.env))) _ _ s
 refine wpAny_bind (wpAny_mono (qO (use:=some (assign (.Name y py) X.env)) (QQ:=fun _ s'=>SP X pins D .next s') N N2 ys sc hc hNe hNl hsub hsc hkind hcell hnames hfr hloc hi hg ht he I h (fun D' C H' s' I' cf hns q=>?_) hs) (fun _ s' hq=>wpAny_pure (wpAny_pure hq)) fun _ _ e=>e);obtain⟨m,hn⟩:=hns;obtain⟨f0,f1,f2,f3,f4,f5⟩:=cf;show wpAny _ X.A (assign (.Name y py) X.env (.ref D')) _ _ s';refine wpAny_assign_Name (j6 I' hN hiy hy (show aT (V.ref D') (Value.ref D') from rfl) (fun s'' I'' hsb=>?_) hf);obtain⟨a,sb,ha⟩:=hsb;have hCa:C ≠ a:=by
  rcases ha with e | e
  ·rw[e];exact f1
  ·exact(f4 y a e).symm
 refine⟨m,hn.sameBut sb hCa,fun h' hs'=>⟨_,H',?_,q⟩⟩;exact I''.turned (t':=s''.toks) (it:=C) (fun b o hb e=>(hs'.2 b hb).trans e) f0 f1 f3 f4 f5
theorem iu:∀{us:List Value}{ss:List Str},us.length=ss.length->(∀(j:Nat)(v:Value),us[j]?=some v->∃x t,ss[j]?=some x/\v=.str x t)->StrsAre us ss
 | [],[],_,_=>.nil
 | [],_ :: _,h,_=>by simp at h
 | _ :: _,[],h,_=>by simp at h
 | u :: us,x :: ss,h,k=>by
  obtain⟨x',t,e1,e2⟩:=k 0 u rfl;cases e1;subst e2;exact .cons _ _ (iu (by simpa using h) fun j v e=>k (j + 1) v (by simpa using e))
theorem hJ{us:List Value}{ss:List Str}(h:StrsAre us ss):aY (ss.map V.str) us:=by
 induction h with
 | nil=>exact .nil
 | cons y t r ih=>exact .cons ⟨t,rfl⟩ ih
def leS(a b:Str):Prop:=ltCps b.cps.toList a.cps.toList=false
theorem dS{vs:List Value}{ss:List Str}(hS:StrsAre vs ss){xs:Array Keyed}(hp:xs.Perm (pairsOf vs))(hs:SortedToK strKind xs (pairsOf vs).size) :
  ∃ss',StrsAre (xs.map (·.2)).toList ss'/\ss'.Perm ss/\ss'.Pairwise leS:=by
 have hl:xs.toList.Perm (vs.zip vs):=by rw[<- pairsOf_toList];exact Array.perm_iff_toList_perm.mp hp
 have hmem:∀p,p ∈ xs.toList->p.1=p.2/\p.1 ∈ vs:=fun p hp'=>mem_zip_self (hl.mem_iff.mp hp');refine⟨xs.toList.map (fun p=>strOf p.1),?_,?_,?_⟩
 ·have e:(xs.map (·.2)).toList=xs.toList.map (·.1):=by
   rw[Array.toList_map];exact List.map_congr_left fun p hp'=>(hmem p hp').1.symm
  rw[e];have h1:=strsAre_map (xs.toList.map (·.1)) (by
   intro v hv;obtain⟨p,hp',rfl⟩:=List.mem_map.mp hv;exact hS.all _ (hmem p hp').2)
  rwa [List.map_map]at h1
 ·have h1:=hl.map (fun p=>strOf p.1);have e2:(vs.zip vs).map (fun p=>strOf p.1)=ss:=by
   have:(vs.zip vs).map (fun p=>strOf p.1)=((vs.zip vs).map Prod.fst).map strOf:=by rw[List.map_map];rfl
   rw[this,List.map_fst_zip (Nat.le_refl _),hS.strs]
  rwa [e2]at h1
 ·rw[List.pairwise_iff_getElem];intro i j hi hj hij;have hi':i < xs.size:=by simpa using hi
  have hj':j < xs.size:=by simpa using hj
  have h1:=hs i j (Nat.le_of_lt hij) (by rw[<- hp.size_eq];exact hj')
  obtain⟨x,t,ex⟩:=hS.all _ (hmem xs[i] (by simp)).2
  obtain⟨y,u,ey⟩:=hS.all _ (hmem xs[j] (by simp)).2
  rw[KK_str hi' (x:=x) (t:=t) (q:=xs[i].2) (Prod.ext ex rfl),KK_str hj' (x:=y) (t:=u) (q:=xs[j].2) (Prod.ext ey rfl)]at h1;change decide (y.cps.toList < x.cps.toList)=false at h1
  unfold leS;simp only[List.getElem_map,Array.getElem_toList];rw[show strOf xs[i].1=x by rw[ex];rfl,show strOf xs[j].1=y by rw[ey];rfl,ltCps_eq]
  exact h1
section
variable{X:Cx}
theorem Inv.turnedL{pins:List (Addr × Obj)}{σ:St}{H:Hp}{s:Shared}{h':Heap}{t':Nat}{ch:List Addr}(I:Inv X pins σ H s)(k:∀b o,b ∉ ch->s.heap.get? b=some o->h'.get? b=some o)
  (hf:∀b ∈ ch,jX X pins H b):Inv X pins σ H { s with heap:=h',toks:=t' }:=by
 have nch:∀b u,H b=some u->b ∉ ch:=fun b u e z=>by rw[(hf b z).1]at e;cases e
 refine I.step (g':=s.gens) (d':=s.drawn) (ch:=ch) (fun b hb=>?_) (fun b o _ _ hc e _=>k b o hc e) (fun b o _ _ hc e _=>⟨o.slots,k b o hc e⟩) (fun b o _ e n=>n)
  (fun b o hc e=>⟨o,k b o hc e⟩) (fun b ys e=>e) (fun b o u e=>e) (fun b ps e=>⟨#[],by rw[e];simp⟩) (fun m hm=>?_) (fun b u e=>?_) I.bare
 ·obtain⟨_,h1,_,h3,h4,h5⟩:=hf b hb;exact⟨h3,h1,h4,h5⟩
 ·obtain⟨o,es,ep,ho,r⟩:=hm;exact⟨o,es,ep,k _ o (fun z=>(hf _ z).2.1 rfl) ho,r⟩
 ·refine(I.hok b u e).stay (fun c v hc q=>k c v ?_ q) (fun c q=>q) fun c ys q=>q;rcases hc with z | z
  ·rw[z];exact nch b u e
  ·exact nch c _ z
end
end L2
namespace KR
open PySem
section
variable{prog:Program}{w:World}{A:Around}{E:Value->Shared->Prop}{s:Shared}
end
end KR
namespace L2
open PySem PySem.Spec PyProof.Rows
section
variable{X:Cx}
theorem gI{e:Expr}{pos:Pos}{s:Shared}{R:List Value->Shared->Prop}(hs:starEach [e] X.env=[(false,eval e X.env)])(h:wpAny (model X.prog X.w) X.A (eval e X.env) (fun u s1=>R [u] s1) X.xe s):wpAny (model X.prog X.w) X.A (spliced (backTo pos (starEach [e] X.env))) R X.xe s:=by
 rw[hs];show wpAny _ _ (spliced ((false,eval e X.env) :: backTo pos [])) _ _ s;exact Calls.spliced_cons (thn h fun u s1 q=>Calls.spliced_nil q)
inductive Kd:Hp->V->String->Prop
 | non {H:Hp}:Kd H .non "NoneType"
 | bl {H:Hp} (b:Bool):Kd H (.bl b) "bool"
 | int {H:Hp} (i:Int):Kd H (.int i) "int"
 | str {H:Hp} (x:Str):Kd H (.str x) "str"
 | lst {H:Hp} {a:Addr} {xs:List V}:Rd H a (.lst xs)->Kd H (.ref a) "list"
 | tup {H:Hp} {a:Addr} {xs:List V}:Rd H a (.tup xs)->Kd H (.ref a) "tuple"
theorem Kd.kit {pins:List (Addr × Obj)} {σ:St} {H:Hp} {s:Shared} {x:V} {u:Value} {k:String} (I:Inv X pins σ H s) (h:Kd H x k) (r:aT x u):∃Y:Heap->Prop,PySem.W.KitX X.K u (.type k) Y/\Y s.heap/\u ≠ Value.builtin "__main__.__loader__#opaque":=by
 cases h with
 | non=>cases r;exact⟨_,PySem.W.kitx_none,trivial,fun z=>nomatch z⟩
 | bl b=>cases r;exact⟨_,PySem.W.kitx_bool,trivial,fun z=>nomatch z⟩
 | int i=>obtain⟨t,rfl⟩:=r;exact⟨_,PySem.W.kitx_int,trivial,fun z=>nomatch z⟩
 | str y=>obtain⟨t,rfl⟩:=r;exact⟨_,PySem.W.kitx_str,trivial,fun z=>nomatch z⟩
 | lst h =>
  cases r;obtain⟨_,its,n,rv,p⟩:=h.ok I.hok;exact⟨_,PySem.W.kitx_list,⟨_,p,rfl⟩,fun z=>nomatch z⟩
 | tup h =>
  cases r;obtain⟨_,its,rv,o,e1,e2,_⟩:=h.ok I.hok;exact⟨_,PySem.W.kitx_tuple,⟨o,e1,e2⟩,fun z=>nomatch z⟩
theorem ur:eO X (.builtin "isinstance") (fun xs H Q=>∃x c k b,xs=[x,.ty c]/\Kd H x k/\PySem.W.kitOne X.K (.type k) (.type c)=some b/\Q (.bl b) H):=by
 intro pins s σ H xs us Q I rv h;obtain⟨x,c,k,b,rfl,hk,e,q⟩:=h;obtain⟨u,u2,rfl,r1,r2⟩:=tY rv;cases r2;obtain⟨Y,kx,hy,ne⟩:=hk.kit I r1;exact PySem.W.kia_one kx I.kIn hy e ne fun tk=>⟨.bl b,H,I.tok tk,rfl,q⟩
end
end L2
namespace HT
open PySem PySem.Spec PyProof.Rows
section
variable{prog:Program}{w:World}{A:Around}{E:Value->Shared->Prop}{s:Shared}
theorem sf{t sl:Addr}{items:Array Value}{vl vu:Value}{lo hi:Option Int}{Q:Value->Shared->Prop}(ht:IsTup s.heap t items)(hs:s.heap.IsSliceOf sl vl vu .none)(pl:IsPart vl lo)(pu:IsPart vu hi)
  (h1:sIx items.size 0 lo=0)(h2:sIx items.size items.size hi=items.size)(h:Q (.ref t) s):wpAny (model prog w) A (getItem (.ref t) (.ref sl)) Q E s:=by
 obtain⟨os,hos,hcs,hds⟩:=id hs;have hTs:s.TypeIs (.ref sl) "slice":=⟨os,hos,hcs⟩;unfold getItem
 try with_reducible refine wpAny_holding ?_
 first | refine wpAny_bind (wpAny_pure ?_) | skip
 refine wpAny_bind (wpAny_sequenceKey ht.typeIs (by decide) ?_)
 refine wpAny_bind (wpAny_callSpecial?_slot (name:=Str.ofString "__getitem__") ht.typeIs PyProof.Rows.slot_tuple_getitem
  (wpAny_call_entry PyProof.Rows.slot_tuple_getitem ht.typeIs entry_tuple_getitem ?_ (args_tuple_getitem _ _)))
 show wpAny _ _ (Builtin.Tuple.tupleItemsOf (.ref t) >>= _) _ _ s;refine wpAny_bind (tupleItemsOf_ ht ?_);refine wpAny_bind (wpAny_typeOf hTs ?_);rw[if_pos (by decide)]
 refine wpAny_bind (d4 hs pl pu ?_);rw[h1,h2];show wpAny _ _ (if (((0:Nat):Int) == 0 && (1:Int) == 1 && (items.size - 0) == items.size)=true then _ else _) _ _ s
 rw[if_pos (by simp)]
 unfold Builtin.Tuple.tupleIsExact;refine wpAny_bind (wpAny_bind (wpAny_typeOf ht.typeIs (wpAny_pure ?_)));rw[if_pos (by decide)]
 exact wpAny_bind (wpAny_rule (wpAny_pure ⟨_,rfl,wpAny_pure h⟩))
theorem ut{t b:Addr}{vs ws:List Value}{Q:Value->Shared->Prop}(ht:IsTup s.heap t vs.toArray)(hb:IsTup s.heap b ws.toArray)(hv:vs=[])(h1:Q (.ref b) s):wpAny (model prog w) A (binaryOp .Add (.ref t) (.ref b)) Q E s:=by
 obtain⟨⟨cls,dd,data,sl⟩,ho,hc,n,hd⟩:=id ht;obtain⟨⟨cls2,dd2,data2,sl2⟩,ho2,hc2,n2,hd2⟩:=id hb;simp only at hc hd hc2 hd2;subst hc hd hc2 hd2;exact concat_meets ⟨_,ho,rfl⟩ ⟨_,ho2,rfl⟩ noFill_tuple_add seq_tuple_add PySem.F.slot_tuple_add PySem.F.entry_tuple_add (PySem.F.args_tuple_add_2 _ _)
  (tuple_addW0 t b vs.toArray ws.toArray n n2 dd dd2 sl sl2 (by simp[hv])) ⟨ho,ho2,h1⟩
end
end HT
namespace L2
open PySem PySem.Spec PyProof.Rows
theorem ca{H:Hp}{a:Addr}{o:HO}(h:H a=none):ar H (upd H a o):=fun b u e=>by rw[au (ak e h)];exact e
section
variable{X:Cx}
theorem cN:SlR X (fun x lo hi H Q=>∃a xs,x=.ref a/\H a=some (.tup xs)/\∀p H',ar H H'->H' p=some (.tup (c6 xs lo hi))->Q (.ref p) H'):=by
 intro pins s σ H x v vl vu lo hi sl Q I rx hs pl pu h;obtain⟨a,xs,rfl,hx,q⟩:=h;by_cases hw:HT.sIx xs.length 0 lo=0/\HT.sIx xs.length xs.length hi=xs.length
 ·cases rx;obtain⟨its,r,ht,hz⟩:=I.tuple (SqT.of (K:=X.K) hx);have hlen:its.toArray.size=xs.length:=by rw[size_toArray];exact r.length.symm
  refine⟨"tuple",_,PyProof.Rows.slot_tuple_getitem.lookup,ht.typeIs,?_⟩;refine HT.sf ht hs pl pu (by rw[hlen];exact hw.1) (by rw[hlen];exact hw.2) ⟨.ref a,H,I,rfl,q a H (ar.refl H) ?_⟩
  rw[hx];unfold c6;rw[hw.1,hw.2];simp
 ·exact sl_tup pins s σ H (.ref a) v vl vu lo hi sl Q I rx hs pl pu ⟨a,xs,rfl,SqT.of hx,hw,fun p hp=>q p _ (ca hp) af⟩
theorem dq:OpR X (binaryOp .Add) (fun x y H Q=>∃a b xs ys,x=.ref a/\y=.ref b/\H a=some (.tup xs)/\H b=some (.tup ys)/\xs.length + ys.length <= sizeLine/\∀p H',ar H H'->H' p=some (.tup (xs ++ ys))->Q (.ref p) H'):=by
 intro pins s σ H x y v u Q I rx ry h;obtain⟨a,b,xs,ys,rfl,rfl,ha,hb,hz,q⟩:=h;by_cases hx:xs=[]
 ·subst hx;cases rx;cases ry;obtain⟨its,r1,p1,_⟩:=I.tuple (SqT.of (K:=X.K) ha);obtain⟨its2,r2,p2,_⟩:=I.tuple (SqT.of (K:=X.K) hb);exact HT.ut p1 p2 (r1.nil_iff.mpr rfl) ⟨.ref b,H,I,rfl,q b H (ar.refl H) hb⟩
 ·exact op_catT pins s σ H _ _ v u Q I rx ry ⟨a,b,xs,ys,rfl,rfl,SqT.of ha,SqT.of hb,hx,hz,fun e=>q a H (ar.refl H) (by rw[ha,e,List.append_nil]),fun _ p hp=>q p _ (ca hp) af⟩
def tLstA(t:TA):TE:=fun σ H Q=>t σ H fun xs H1=>xs.length <= sizeLine/\∀p H2,H1 p=none->ar H1 H2->H2 p=some (.lst xs)->Q (.ref p) H2
def tTupA(t:TA):TE:=fun σ H Q=>t σ H fun xs H1=>xs.length <= sizeLine/\∀p H2,H1 p=none->ar H1 H2->H2 p=some (.tup xs)->Q (.ref p) H2
theorem bg{es:List Expr}{t:TA}{pos:Pos}(h:PA X es t):PE X (.List es pos) (tLstA t):=by
 intro pins s σ H Q I hq;refine wpAny_List_spliced (thn (h pos pins s σ H _ I hq) fun us s1 ⟨xs,H1,I1,r,z,q⟩=>⟨by rw[<- r.length];exact z,?_⟩)
 have hf:H1 s1.heap.objs.size=none:=I1.hok.fresh (Nat.le_refl _);refine⟨.ref s1.heap.objs.size,upd H1 s1.heap.objs.size (.lst xs),I1.laid (t':=s1.toks) (fun b u e=>get?_push_of_some _ e) (Nat.le_refl _) ?_,rfl,q _ _ hf (ca hf) af⟩
 exact⟨z,us,0,r,get?_push_size _ rfl⟩
theorem aH{es:List Expr}{t:TA}{pos:Pos}{x1:Nat}(h:PA X es t):PE X (.Tuple es x1 pos) (tTupA t):=by
 intro pins s σ H Q I hq;refine wpAny_Tuple_spliced (thn (h pos pins s σ H _ I hq) fun us s1 ⟨xs,H1,I1,r,z,q⟩=>⟨by rw[<- r.length];exact z,?_⟩)
 have hf:H1 s1.heap.objs.size=none:=I1.hok.fresh (Nat.le_refl _);refine⟨.ref s1.heap.objs.size,upd H1 s1.heap.objs.size (.tup xs),I1.laid (t':=s1.toks) (fun b u e=>get?_push_of_some _ e) (Nat.le_refl _) ?_,rfl,q _ _ hf (ca hf) af⟩
 exact⟨z,us,r,⟨_,get?_push_size _ rfl,rfl,_,rfl⟩⟩
theorem iM:OpR X (binaryOp .Add) (fun x y H Q=>∃l b xs zs,x=.ref l/\y=.ref b/\H l=some (.lst xs)/\H b=some (.lst zs)/\xs.length + zs.length <= sizeLine/\∀p H2,H p=none->ar H H2->H2 p=some (.lst (xs ++ zs))->Q (.ref p) H2):=by
 intro pins s σ H x y v u Q I rx ry h;obtain⟨l,b,xs,zs,h1,h2,h3,h4,h5,q⟩:=h;exact op_cat pins s σ H x y v u Q I rx ry ⟨l,b,xs,zs,h1,h2,h3,h4,h5,fun p hp=>q p _ hp (ca hp) af⟩
theorem uu{v:V}(h:dM v=true):eqV v v=true:=by
 cases v with
 | non=>rfl
 | bl b=>cases b <;> rfl
 | int i=>show (i == i)=true;exact beq_self_eq_true i
 | str x=>show (x == x)=true;exact beq_self_eq_true x
 | _=>exact absurd h (by simp[dM])
theorem gJ{A:Around}{s:Shared}{v:V}{u1 u2:Value}(h:dM v=true)(r1:aT v u1)(r2:aT v u2):SeqAt.EqAt A s u1 u2 true:=by
 have:=uj (A:=A) (s:=s) r1 r2 h h
 rwa [uu h]at this
end
section
variable{X:Cx}
theorem gi:eO X (.builtin "sorted") (fun xs H Q=>∃(p:Addr)(ss:List Str),xs=[.ref p]/\SqL X.K H p (ss.map V.str)/\ss.length < 64 /\
  ∀(l:Addr)(zs:List Str)(H2:Hp),H l=none->ar H H2->H2 l=some (.lst (zs.map V.str))->zs.Perm ss->zs.Pairwise leS->Q (.ref l) H2):=by
 intro pins s σ H xs us Q I rv h;obtain⟨p,ss,rfl,hp,h64,q⟩:=h;obtain⟨u,rfl,ru⟩:=rv.one;cases ru;obtain⟨its,r,pl,hz⟩:=I.list hp;have hS:StrsAre its ss:=gg r;have hl:its.length=ss.length:=by have:=r.length;rw[length_map]at this;exact this.symm
 refine sortedK strKind_oneLt (vs:=its) pl.isList hS.keysOf (fun v₁ v₂ rest e=>keyKind_strs (by rw[<- e];exact hS)) (by omega) fun st' hp hs=>?_
 obtain⟨ss',h1,h2,h3⟩:=dS hS hp hs;obtain⟨e,he⟩:=sortedAll_at s.heap its ((arrOf st').map (·.2));have hf:H (s.heap.objs.size + 1)=none:=I.hok.fresh (Nat.le_succ _);refine⟨.ref (s.heap.objs.size + 1),_,I.laid (t':=s.toks) (a:=s.heap.objs.size + 1) (o:=.lst (ss'.map V.str)) (fun b o e=>sortedAll_old e) (Nat.le_succ _) ?_,rfl,q _ ss' _ hf (ca hf) af h2 h3⟩;exact⟨by rw[length_map,h2.length_eq];exact Nat.le_of_lt (bJ (by omega)),((arrOf st').map (·.2)).toList,e,hJ h1,by rw[Array.toArray_toList];exact he⟩
theorem bh:eO X (.type "tuple") (fun xs H Q=>∃p ys,xs=[.ref p]/\SqL X.K H p ys/\∀l H2,H l=none->ar H H2->H2 l=some (.tup ys)->Q (.ref l) H2):=by
 intro pins s σ H xs us Q I r h;obtain⟨p,ys,h1,h2,q⟩:=h;exact jZ pins s σ H xs us Q I r ⟨p,ys,h1,.inl ⟨h2,fun l hl=>q l _ hl (ca hl) af⟩⟩
theorem pe_orS{a b:Expr}{ta tb:TE}{pos:Pos}(ha:PE X a ta)(hb:PE X b tb):PE X (.BoolOp .Or [a,b] pos) (fun σ H Q=>ta σ H fun x H1=>∃k,TruV X.K x H1 k/\if k=true then Q x H1 else tb σ H1 Q):=by
 intro pins s σ H Q I h;refine BoolOp_or (thn (ha pins s σ H _ I h) fun v s1 ⟨x,H1,I1,r1,k,hk,q⟩=>?_);refine thn (tru_ok pins s1 σ H1 x v (fun c H2=>c=k/\H2=H1) I1 r1 ⟨k,hk,rfl,rfl⟩) fun c s2 ⟨H2,I2,e1,e2⟩=>?_;subst e1 e2;cases c with
 | true=>exact⟨x,H2,I2,r1,q⟩
 | false=>exact BoolOp_one (hb pins s2 σ H2 Q I2 q)
theorem dN:MtR X "list.append" (fun x vs H Q=>∃(l:Addr)(xs:List V)(y:V),x=.ref l/\vs=[y]/\H l=some (.lst xs)/\xs.length <= 1000/\∀H1,(∀b o,b ≠ l->H b=some o->H1 b=some o)->H1 l=some (.lst (xs ++ [y]))->Q .non H1):=by
 intro pins s σ H x vs v us Q I rx rv h;obtain⟨l,xs,y,h1,h2,hl,hn,q⟩:=h;exact kj pins s σ H x vs v us Q I rx rv ⟨l,xs,y,h1,h2,hl,bJ hn,q _ (fun b o hb e=>by rw[au hb];exact e) af⟩
theorem sg:PSet X (fun o i v H Q=>∃(l:Addr)(xs:List V)(k:Nat),o=.ref l/\i=.int (k:Int)/\H l=some (.lst xs)/\k < xs.length/\∀H1,(∀b o,b ≠ l->H b=some o->H1 b=some o)->H1 l=some (.lst (xs.set k v))->Q H1):=by
 intro pins s σ H o i v ov iv u Q I r1 r2 r3 h;obtain⟨l,xs,k,h1,h2,hl,hk,q⟩:=h;refine ui pins s σ H o i v ov iv u Q I r1 r2 r3 ⟨l,xs,(k:Int),k,h1,h2,hl,?_,q _ (fun b o hb e=>by rw[au hb];exact e) af⟩
 unfold ixN;rw[if_pos (by omega),if_pos (by omega),Int.toNat_natCast]
end
structure aJ(P:Program)(w:World)(K:Frag)(mg:Str->Option Value)(base:Heap)(k:Nat)(x:Str)(ps:List Str)(sp:Sp):Prop where
 ex:∃f fd,aI P w K mg base CX0 k f fd ps sp/\mg x=some (.ref f)/\PySem.W.keepIn K (.ref f)=true/\dD K fd ps []
theorem aj{X:Cx}{k:Nat}{x:Str}{ps:List Str}{sp:Sp}{e:Expr}{es:List Expr}{t:TA}{p pos:Pos}(F:aJ X.prog X.w X.K X.mg X.base k x ps sp)(hr:aP k X.A)(ha:PA X (e :: es) t)(hg:Gl X x:=by rfl)
  (hdb:(x == ("__debug__":Str))=false:=by decide) (he:starEach (e :: es) X.env=(false,eval e X.env) :: starEach es X.env:=by rfl) (hpl:(backTo pos (starEach es X.env)).any (·.1)=false:=by rfl) :
  PE X (.Call (.Name x p) (e :: es) [] pos) (tCall sp [] E0 t):=by
 obtain⟨f,fd,G,m,kp,b⟩:=F.ex;exact pe_call G hr hg m kp b .nil je ha hdb he hpl
theorem ar.new{H:Hp}{a:Addr}{o:HO}(h:H a=none):ar H (upd H a o):=fun b u e=>by rw[au (ak e h)];exact e
theorem ar.none{H H':Hp}(e:ar H H'){a:Addr}(h:H' a=Option.none):H a=Option.none:=e.free h
theorem nj{α:Type} [DecidableEq α]:∀{xs ys:List α},xs.Nodup->(∀x ∈ xs,x ∈ ys)->xs.length <= ys.length
 | [],_,_,_=>Nat.zero_le _
 | x :: xs,ys,hn,h=>by
  have hx:=h x List.mem_cons_self;have hn':=List.nodup_cons.mp hn;have:=nj (xs:=xs) (ys:=ys.erase x) hn'.2 fun y hy=>(List.mem_erase_of_ne (by rintro rfl;exact hn'.1 hy)).mpr (h y (List.mem_cons_of_mem _ hy))
  rw[List.length_erase_of_mem hx]at this;have hpos:0 < ys.length:=List.length_pos_of_mem hx;rw[length_cons];omega
section
variable{X:Cx}
end
noncomputable def Itd(a:Addr)(o:Obj)(kvs:List (Key × V))(ss:List Str):It:=⟨fun i H=>H a=some (.frz o (.dK kvs))/\i < ss.length,fun i H v H'=>H'=H/\∃z,ss[i]?=some z/\v=.str z,fun i H=>H a=some (.frz o (.dK kvs))/\i=ss.length⟩
theorem si{P:Program}{w:World}{K:Frag}{tg:Expr}(a it:Addr)(o:Obj)(kvs:List (Key × V))(vs:List (Key × Value))(ss:List Str)(ep:Nat)(hne:a ≠ it)(hD:∀h:Heap,h.get? a=some o->h.DictAt (aV P w) a vs ep)(hvs:vs.map (·.1)=ss.map Sum.inr) :
  kX P w K tg (Itd a o kvs ss) [it] it (fun i h=>h.IsKeyIter it a i vs.length ep) where
 mem:=by simp
 obj:=fun i h st b hb=>by
  have e:b=it:=by simpa using hb
  subst e;obtain⟨ob,e,c,d⟩:=st;exact⟨ob,e,fun v z=>by rw[d]at z;cases z⟩
 keep:=fun i h h' st k=>st.at fun ob e=>k it (by simp) ob e
 item:=by
  intro X hP hw hK hc i pins s σ H E I hf st hg;subst hP hw hK;obtain⟨ha,hi⟩:=hg;have hl:vs.length=ss.length:=by have:=congrArg List.length hvs;simpa using this
  have hget:s.heap.get? a=some o:=(show bT X.prog X.w H s.heap a (.frz o (.dK kvs)) from I.hok a _ ha).1;refine(Walks.dictKeys (knd:=aV X.prog X.w) (A:=X.A) (I.ok.hd hc) it a hne vs ep).item i s _ _ (by omega) ⟨st,hD _ hget⟩ fun v h' tk hv st' kk=>?_
  obtain⟨k,x,hk,hkv⟩:=hv;have I1:Inv X pins σ H { s with heap:=h',toks:=tk }:=I.turnedL (ch:=[it]) kk (fun b hb=>hf b hb);have key:(ss.map Sum.inr)[i]?=some k:=by rw[<- hvs,getElem?_map,hk];rfl
  rw[getElem?_map,getElem?_eq_getElem hi]at key;have key:Sum.inr ss[i]=k:=Option.some.inj key;subst key;rcases bF (show im (Sum.inr ss[i]) v=true from hkv) with ⟨j,t,e3,_⟩ | ⟨y,t,e3,e4⟩
  ·cases e3
  ·cases e3;subst e4;obtain⟨ob,eo,co,d⟩:=id st'.1;exact⟨_,rfl,ip (s:={ s with heap:=h',toks:=tk }) (n:="dict_keyiterator") eo co d (by decide) ⟨.str ss[i],H,I1,⟨t,rfl⟩,⟨rfl,ss[i],getElem?_eq_getElem hi,rfl⟩,st'.1,fun b hb=>(hf b hb).1⟩⟩
 done:=by
  intro X hP hw hK hc i pins s σ H E I hf st hg;subst hP hw hK;obtain⟨ha,hi⟩:=hg;have hl:vs.length=ss.length:=by have:=congrArg List.length hvs;simpa using this
  have hget:s.heap.get? a=some o:=(show bT X.prog X.w H s.heap a (.frz o (.dK kvs)) from I.hok a _ ha).1;subst hi;rw[<- hl]at st;exact(Walks.dictKeys (knd:=aV X.prog X.w) (A:=X.A) (I.ok.hd hc) it a hne vs ep).done s _ _ ⟨st,hD _ hget⟩ fun h' tk kk=>⟨rfl,I.turnedL (ch:=[it]) kk (fun b hb=>hf b hb)⟩
 self:=fun _ _ _ _ _ st h=>wpAny_pyIter_keyiter st h
section
variable{X:Cx}
theorem lcFD{a:Addr}{o:Obj}{kvs:List (Key × V)}{ss:List Str}{k:Nat}{σ:St}{H1:Hp}{tt:TT}{Q:VK}(t:Str->Bool)(hk:σ.length=k)(hq:H1 a=some (.frz o (.dK kvs)))(hz:ss.length <= 1000)
  (turn:∀D x ys (post:Bool->Hp->Prop),H1 D=none->x ∈ ss->post (t x) (upd H1 D (.lst ys))->tt (σ ++ [some (.str x)]) (upd H1 D (.lst ys)) post)
  (fin:∀D,H1 D=none->Q (.ref D) (upd H1 D (.lst ((ss.filter t).map V.str)))):LCT 1 (cG k) tt (rH k) σ Q (Itd a o kvs ss) H1:=by
 have sq:∀D ys,H1 D=none->upd H1 D (.lst ys) a=some (.frz o (.dK kvs)):=fun D ys h=>by rw[au (ak hq h)];exact hq
 refine lcP (n:=ss.length) (fun i=>.str (ss.getD i ⟨#[]⟩)) (fun D i ys H=>H1 D=none/\ys=((ss.take i).filter t).map V.str/\H=upd H1 D (.lst ys)) ?_ ?_ ?_ ?_ ?_ ?_
 ·rintro D i ys H hi ⟨h1,h2,rfl⟩;exact⟨sq D ys h1,hi⟩
 ·rintro D i ys H x H' hi ⟨h1,h2,rfl⟩ ⟨e,z,hz,rfl⟩;refine⟨e,?_⟩;rw[getD_eq_getElem?_getD,hz];rfl
 ·rintro D ys H ⟨h1,h2,rfl⟩;exact⟨sq D ys h1,rfl⟩
 ·intro D hD;exact⟨hD,by simp,rfl⟩
 ·rintro D i ys H yes no hi ⟨h1,h2,rfl⟩ hp hn;have hx:ss[i]?=some (ss.getD i ⟨#[]⟩):=by rw[getD_eq_getElem?_getD,getElem?_eq_getElem hi];rfl
  generalize ss.getD i ⟨#[]⟩=x at hx ⊢;have e:(σ ++ List.replicate 1 (none:Option V)).set k (some (.str x))=σ ++ [some (.str x)]:=by
   subst hk;simp[List.set_append]
  unfold cG;rw[e];refine⟨⟨_,rfl,rfl⟩,turn D x ys _ h1 (mem_of_getElem? hx) ?_⟩;cases hb:t x with
  | true =>
   refine cm ⟨.str x,by subst hk;simp,hp _ _ af ?_ ⟨h1,?_,by rw[gC]⟩⟩
   ·rw[h2,length_map];have h3:((ss.take i).filter t).length <= (ss.take i).length:=List.length_filter_le _ _;rw[length_take]at h3;exact bJ (by omega)
   ·rw[h2,List.take_add_one,hx];simp[List.filter_append,hb]
  | false =>
   refine bI (hn _ ⟨h1,?_,rfl⟩);rw[h2,List.take_add_one,hx];simp[List.filter_append,hb]
 ·rintro D ys H ⟨h1,h2,rfl⟩;rw[h2,take_of_length_le (Nat.le_refl _)];exact fin D h1
end
theorem j2{X:Cx}{scope:Scope}{cl:List (Str × Addr)}{N2 ys:List Str}{C:Addr}{s:Shared}{H:Hp}{fp:List Addr}:OpR (cxC X scope cl N2 ys C s H fp) (compareOp .NotIn) (rIn X.K true):=di
theorem lcFL{K:Frag}{a:Addr}{xs:List V}{k:Nat}{σ:St}{H1:Hp}{tt:TT}{Q:VK}(t:V->Bool)(hk:σ.length=k)(hq:SqL K H1 a xs)(hz:xs.length <= 1000)
  (turn:∀D x ys (post:Bool->Hp->Prop),H1 D=none->x ∈ xs->post (t x) (upd H1 D (.lst ys))->tt (σ ++ [some x]) (upd H1 D (.lst ys)) post)
  (fin:∀D,H1 D=none->Q (.ref D) (upd H1 D (.lst (xs.filter t)))):LCT 1 (cG k) tt (rH k) σ Q (Itl K a) H1:=by
 have sq:∀D ys,H1 D=none->SqL K (upd H1 D (.lst ys)) a xs:=fun D ys h=>ar.seq (ca h) hq;refine lcP (n:=xs.length) (fun i=>xs.getD i .non) (fun D i ys H=>H1 D=none/\ys=(xs.take i).filter t/\H=upd H1 D (.lst ys)) ?_ ?_ ?_ ?_ ?_ ?_
 ·rintro D i ys H hi ⟨h1,h2,rfl⟩;exact⟨xs,xs[i],sq D ys h1,by simp[hi]⟩
 ·rintro D i ys H x H' hi ⟨h1,h2,rfl⟩ ⟨e,y⟩;refine⟨e,?_⟩;have:=y xs (sq D ys h1);rw[getD_eq_getElem?_getD,this];rfl
 ·rintro D ys H ⟨h1,h2,rfl⟩;exact⟨xs,sq D ys h1,Nat.le_refl _⟩
 ·intro D hD;exact⟨hD,by simp,rfl⟩
 ·rintro D i ys H yes no hi ⟨h1,h2,rfl⟩ hp hn;have hx:xs[i]?=some (xs.getD i .non):=by rw[getD_eq_getElem?_getD,getElem?_eq_getElem hi];rfl
  generalize xs.getD i .non=x at hx ⊢;have e:(σ ++ List.replicate 1 (none:Option V)).set k (some x)=σ ++ [some x]:=by
   subst hk;simp[List.set_append]
  unfold cG;rw[e];refine⟨⟨_,rfl,rfl⟩,turn D x ys _ h1 (mem_of_getElem? hx) ?_⟩;cases hb:t x with
  | true =>
   refine cm ⟨x,by subst hk;simp,hp _ _ af ?_ ⟨h1,?_,by rw[gC]⟩⟩
   ·rw[h2];have h3:((xs.take i).filter t).length <= (xs.take i).length:=List.length_filter_le _ _;rw[length_take]at h3;exact bJ (by omega)
   ·rw[h2,List.take_add_one,hx];simp[List.filter_append,hb]
  | false =>
   refine bI (hn _ ⟨h1,?_,rfl⟩);rw[h2,List.take_add_one,hx];simp[List.filter_append,hb]
 ·rintro D ys H ⟨h1,h2,rfl⟩;rw[h2,take_of_length_le (Nat.le_refl _)];exact fin D h1
theorem eI{x:Str}{zs:List Str}:inV (.str x) (zs.map V.str)=decide (x ∈ zs):=by
 unfold inV;rw[Bool.eq_iff_iff,List.any_eq_true,decide_eq_true_iff];constructor
 ·rintro ⟨y,hy,e⟩;obtain⟨z,hz,rfl⟩:=List.mem_map.mp hy;have e:z=x:=beq_iff_eq.mp (show (z == x)=true from e);exact e ▸ hz
 ·intro h;exact⟨.str x,List.mem_map.mpr ⟨x,h,rfl⟩,show (x == x)=true from beq_self_eq_true x⟩
theorem cv(zs:List Str):(zs.map V.str).all dM=true:=by
 rw[List.all_map];exact List.all_eq_true.mpr fun _ _=>rfl
theorem pe_orSC{X:Cx}{scope:Scope}{cl:List (Str × Addr)}{N2 ys:List Str}{C:Addr}{s:Shared}{H:Hp}{fp:List Addr}{a b:Expr}{ta tb:TE}{pos:Pos}(ha:PE (cxC X scope cl N2 ys C s H fp) a ta)(hb:PE (cxC X scope cl N2 ys C s H fp) b tb) :
  PE (cxC X scope cl N2 ys C s H fp) (.BoolOp .Or [a,b] pos) (fun σ H Q=>ta σ H fun x H1=>∃k,TruV X.K x H1 k/\if k=true then Q x H1 else tb σ H1 Q):=pe_orS ha hb
theorem iw(ds:List Str):∀zs:List Str,(zs.map V.str).filter (fun v=>!inV v (ds.map V.str))=(zs.filter fun x=>!decide (x ∈ ds)).map V.str
 | []=>rfl
 | z :: zs=>by
  rw[List.map_cons,List.filter_cons,List.filter_cons,eI,iw ds zs];cases decide (z ∈ ds) <;> rfl
noncomputable def Its(lo c:Int)(n:Nat):It:=⟨fun i _=>i < n,fun i H x H'=>H'=H/\x=.int (lo + i * c),fun i _=>n <= i⟩
theorem nq{P:Program}{w:World}{K:Frag}{tg:Expr}(it:Addr)(lo c:Int)(n:Nat):kX P w K tg (Its lo c n) [it] it (fun i h=>IsRangeIter h it (lo + (i:Nat) * c) ((n:Int) - (i:Nat)) c) where
 mem:=by simp
 obj:=fun i h st b hb=>by
  have e:b=it:=by simpa using hb
  subst e;exact⟨_,st,fun v z=>by
   have z':Data.fields _=Data.cell v:=z;cases z'⟩
 keep:=fun i h h' st k=>k it (by simp) _ st
 item:=by
  intro X hP hw hK hc i pins s σ H E I hf st hg;subst hP hw hK;obtain⟨f0,f1,f2,f3,f4,f5⟩:=hf it (by simp)
  have W:=Walks.range (prog:=X.prog) (w:=X.w) (I.ok.hd hc) it lo c n;refine W.item i s _ _ hg st fun v h' tk hv st' kk=>?_;obtain⟨t,rfl⟩:=hv;have I1:Inv X pins σ H { s with heap:=h',toks:=tk }:=I.turned (fun b o hb e=>kk b o (by simpa using hb) e) f0 f1 f3 f4 f5
  exact⟨_,rfl,ip (s:={ s with heap:=h',toks:=tk }) (n:="range_iterator") st' rfl rfl (by decide) ⟨.int (lo + i * c),H,I1,⟨t,rfl⟩,⟨rfl,rfl⟩,st',fun b hb=>(hf b hb).1⟩⟩
 done:=by
  intro X hP hw hK hc i pins s σ H E I hf st hg;subst hP hw hK;obtain⟨f0,f1,f2,f3,f4,f5⟩:=hf it (by simp)
  exact wpAny_pyNext_range_end (I.ok.hd hc) st (by have:n <= i:=hg;omega) fun h' eb=>⟨rfl,I.turned (t':=s.toks) (fun b o hb e=>eb b o hb e) f0 f1 f3 f4 f5⟩
 self:=fun _ _ _ _ _ st h=>wpAny_pyIter_rangeiter st h
theorem jf{X:Cx}{scope:Scope}{cl:List (Str × Addr)}{N2 ys:List Str}{C:Addr}{s:Shared}{H:Hp}{fp:List Addr}:OpR (cxC X scope cl N2 ys C s H fp) (compareOp .In) (rIn X.K false):=g9
theorem lcFU{K:Frag}{a:Addr}{xs:List V}{k:Nat}{σ:St}{H1:Hp}{tt:TT}{Q:VK}(t:V->Bool)(hk:σ.length=k)(hq:H1 a=some (.tup xs))(hz:xs.length <= 1000)
  (turn:∀D x ys (post:Bool->Hp->Prop),H1 D=none->x ∈ xs->post (t x) (upd H1 D (.lst ys))->tt (σ ++ [some x]) (upd H1 D (.lst ys)) post)
  (fin:∀D,H1 D=none->Q (.ref D) (upd H1 D (.lst (xs.filter t)))):LCT 1 (cG k) tt (rH k) σ Q (Itt K a) H1:=by
 have sq:∀D ys,H1 D=none->SqT K (upd H1 D (.lst ys)) a xs:=fun D ys h=>SqT.of (ca h _ _ hq);refine lcP (n:=xs.length) (fun i=>xs.getD i .non) (fun D i ys H=>H1 D=none/\ys=(xs.take i).filter t/\H=upd H1 D (.lst ys)) ?_ ?_ ?_ ?_ ?_ ?_
 ·rintro D i ys H hi ⟨h1,h2,rfl⟩;exact⟨xs,xs[i],sq D ys h1,by simp[hi]⟩
 ·rintro D i ys H x H' hi ⟨h1,h2,rfl⟩ ⟨e,y⟩;refine⟨e,?_⟩;have:=y xs (sq D ys h1);rw[getD_eq_getElem?_getD,this];rfl
 ·rintro D ys H ⟨h1,h2,rfl⟩;exact⟨xs,sq D ys h1,Nat.le_refl _⟩
 ·intro D hD;exact⟨hD,by simp,rfl⟩
 ·rintro D i ys H yes no hi ⟨h1,h2,rfl⟩ hp hn;have hx:xs[i]?=some (xs.getD i .non):=by rw[getD_eq_getElem?_getD,getElem?_eq_getElem hi];rfl
  generalize xs.getD i .non=x at hx ⊢;have e:(σ ++ List.replicate 1 (none:Option V)).set k (some x)=σ ++ [some x]:=by
   subst hk;simp[List.set_append]
  unfold cG;rw[e];refine⟨⟨_,rfl,rfl⟩,turn D x ys _ h1 (mem_of_getElem? hx) ?_⟩;cases hb:t x with
  | true =>
   refine cm ⟨x,by subst hk;simp,hp _ _ af ?_ ⟨h1,?_,by rw[gC]⟩⟩
   ·rw[h2];have h3:((xs.take i).filter t).length <= (xs.take i).length:=List.length_filter_le _ _;rw[length_take]at h3;exact bJ (by omega)
   ·rw[h2,List.take_add_one,hx];simp[List.filter_append,hb]
  | false =>
   refine bI (hn _ ⟨h1,?_,rfl⟩);rw[h2,List.take_add_one,hx];simp[List.filter_append,hb]
 ·rintro D ys H ⟨h1,h2,rfl⟩;rw[h2,take_of_length_le (Nat.le_refl _)];exact fin D h1
theorem hU(ds:List Str):∀zs:List Str,(zs.map V.str).filter (fun v=>inV v (ds.map V.str))=(zs.filter fun x=>decide (x ∈ ds)).map V.str
 | []=>rfl
 | z :: zs=>by
  rw[List.map_cons,List.filter_cons,List.filter_cons,eI,hU ds zs];cases decide (z ∈ ds) <;> rfl
section
variable{X:Cx}
end
structure aD(P:Program)(w:World)(K:Frag)(mg:Str->Option Value)(base:Heap)(C:Addr)(k:Nat)(x:Str)(ps:List Str)(sp:Sp):Prop where
 ex:∃f fd,aI P w K mg base CX0 k f fd ps sp/\dD K fd ps []/\oR K C x f
structure dU(P:Program)(w:World)(K:Frag)(mg:Str->Option Value)(base:Heap)(C:Addr)(k:Nat)(ps:List Str)(sp:Sp):Prop where
 ex:∃f fd,aI P w K mg base CX0 k f fd ps sp/\dD K fd ps []/\Mk K C f
section
variable{X:Cx}{k:Nat}{C:Addr}{m x:Str}{ps:List Str}{sp:Sp}{o e:Expr}{es:List Expr}{ta:TE}{t:TA}{p pos apos:Pos}
theorem aQ{pl:Sem Bool}(M:aD X.prog X.w X.K X.mg X.base C k m ps sp)(c:Cls X.K C)(hr:aP k X.A)(he:PE X o ta)(ha:PA X (e :: es) t)
  (hst:starEach (e :: es) X.env=(false,eval e X.env) :: starEach es X.env:=by rfl)(hpl:(backTo pos (starEach es X.env)).any (·.1)=false:=by rfl)
  (ht:eval (.Call (.Attribute o m apos) (e :: es) [] pos) X.env=(do
   let ov <- eval o X.env
   standAt apos.atName
   let (f,first) <- holding [ov] (getMethod ov m pl)
   callWith pos f first (backTo pos (starEach (e :: es) X.env)) (backToKw pos (keywordEach [] X.env))):=by rfl) :
  PE X (.Call (.Attribute o m apos) (e :: es) [] pos) (qJ C m sp [] E0 ta t):=by
 obtain⟨f,fd,G,b,M⟩:=M.ex;exact iK he c M G hr b .nil je ha hst hpl ht
theorem aw{pl:Sem Bool}(M:aD X.prog X.w X.K X.mg X.base C k m ps sp)(c:Cls X.K C)(hr:aP k X.A)(he:PE X o ta)
  (ht:eval (.Call (.Attribute o m apos) [] [] pos) X.env=(do
   let ov <- eval o X.env
   standAt apos.atName
   let (f,first) <- holding [ov] (getMethod ov m pl)
   callWith pos f first (backTo pos (starEach [] X.env)) (backToKw pos (keywordEach [] X.env))):=by rfl) :
  PE X (.Call (.Attribute o m apos) [] [] pos) (qJ C m sp [] E0 ta tNil):=by
 obtain⟨f,fd,G,b,M⟩:=M.ex;exact t8 he c M G hr b .nil je ht
theorem cn (M:dU X.prog X.w X.K X.mg X.base C k ps sp) (hr:aP (k + 1) X.A) (hm:X.mg x=some (.ref C)) (ha:PA X (e :: es) t) (hg:Gl X x:=by rfl) (hdb:(x == ("__debug__":Str))=false:=by decide)
  (he:starEach (e :: es) X.env=(false,eval e X.env) :: starEach es X.env:=by rfl) (hpl:(backTo pos (starEach es X.env)).any (·.1)=false:=by rfl):PE X (.Call (.Name x p) (e :: es) [] pos) (tMake C sp [] E0 t):=by
 obtain⟨f,fd,G,b,M⟩:=M.ex;exact pe_make M G hr hg hm b .nil je ha hdb he hpl
end
def smV:V->Bool
 | .ref _=>true
 | v=>dM v
theorem uv{A:Around}{s:Shared}{v:V}{u1 u2:Value}(h:smV v=true)(r1:aT v u1)(r2:aT v u2):SeqAt.EqAt A s u1 u2 true:=by
 cases v with
 | ref a =>
  cases r1;cases r2;exact SeqAt.EqAt.same _
 | non=>exact gJ (v:=.non) rfl r1 r2
 | bl b=>exact gJ (v:=.bl b) rfl r1 r2
 | int i=>exact gJ (v:=.int i) rfl r1 r2
 | str x=>exact gJ (v:=.str x) rfl r1 r2
 | _=>exact absurd h (by simp[smV,dM])
theorem eqAt_sm{A:Around}{s:Shared}{xs:List V}{its jts:List Value}(hx:∀v ∈ xs,smV v=true)(r1:aY xs its)(r2:aY xs jts)(j:Nat)(h1:j < its.toArray.size)(h2:j < jts.toArray.size):SeqAt.EqAt A s its.toArray[j] jts.toArray[j] true:=by
 have hj1:j < its.length:=by simpa using h1
 have hj2:j < jts.length:=by simpa using h2
 have hj:j < xs.length:=by rw[r1.length];exact hj1
 obtain⟨u1,hu1,ru1⟩:=r1.get (i:=j) (x:=xs[j]) (getElem?_eq_getElem hj);obtain⟨u2,hu2,ru2⟩:=r2.get (i:=j) (x:=xs[j]) (getElem?_eq_getElem hj);have i1:its.toArray[j]=u1:=by
  have:=getElem?_eq_getElem hj1;rw[hu1]at this;simpa using(Option.some.inj this).symm
 have i2:jts.toArray[j]=u2:=by
  have:=getElem?_eq_getElem hj2;rw[hu2]at this;simpa using(Option.some.inj this).symm
 rw[i1,i2];exact uv (hx _ (List.getElem_mem hj)) ru1 ru2
section
variable{X:Cx}
theorem jg(n m:Nat)(h:n=m):((List.range (min n m)).all (fun _=>true) && n == m)=true:=by
 subst h;simp
theorem qQ(hu:X.A.units + 1 < cLine):OpR X (compareOp .NotEq) (fun x y H Q=>∃(a b:Addr)(xs:List V),x=.ref a/\y=.ref b/\SqT X.K H a xs/\SqT X.K H b xs/\(∀v ∈ xs,smV v=true)/\Q (.bl false) H):=by
 intro pins s σ H x y v u Q I rx ry h;obtain⟨a,b,xs,rfl,rfl,ha,hb,hx,q⟩:=h;cases rx;cases ry;obtain⟨its,r1,p1,_⟩:=I.tuple ha;obtain⟨jts,r2,p2,_⟩:=I.tuple hb;have:=SeqAt.RcNeAt.tuples (A:=X.A) (s:=s) (e:=fun _=>true) (show s.heap.IsTuple a its.toArray from p1) (show s.heap.IsTuple b jts.toArray from p2) (Nat.lt_of_succ_lt hu) (eqAt_sm hx r1 r2);rw[size_toArray,size_toArray,jg _ _ (r1.length.symm.trans r2.length)]at this;exact this _ _ _ _ (bf I q rfl)
theorem op_neT0(hu:X.A.units + 1 < cLine):OpR X (compareOp .NotEq) (fun x y H Q=>∃(a b:Addr)(xs:List V),x=.ref a/\y=.ref b/\SqT X.K H a xs/\SqT X.K H b []/\Q (.bl (!xs.isEmpty)) H):=by
 intro pins s σ H x y v u Q I rx ry h;obtain⟨a,b,xs,rfl,rfl,ha,hb,q⟩:=h;cases rx;cases ry;obtain⟨its,r1,p1,_⟩:=I.tuple ha;obtain⟨jts,r2,p2,_⟩:=I.tuple hb;cases r2;have:=SeqAt.RcNeAt.tuples (A:=X.A) (s:=s) (e:=fun _=>true) (show s.heap.IsTuple a its.toArray from p1) (show s.heap.IsTuple b ([]:List Value).toArray from p2) (Nat.lt_of_succ_lt hu) (fun j h1 h2=>absurd h2 (by simp))
 have e:((List.range (min its.toArray.size ([]:List Value).toArray.size)).all (fun _=>true) && its.toArray.size == ([]:List Value).toArray.size)=xs.isEmpty:=by
  have hl:=r1.length;cases xs with
  | nil =>
   cases r1;rfl
  | cons z zs =>
   cases its with
   | nil=>simp at hl
   | cons y ys=>simp
 rw[e]at this;exact this _ _ _ _ (bf I q rfl)
theorem op_eqT0(hu:X.A.units + 1 < cLine):OpR X (compareOp .Eq) (fun x y H Q=>∃(a b:Addr)(xs:List V),x=.ref a/\y=.ref b/\SqT X.K H a xs/\SqT X.K H b []/\Q (.bl xs.isEmpty) H):=by
 intro pins s σ H x y v u Q I rx ry h;obtain⟨a,b,xs,rfl,rfl,ha,hb,q⟩:=h;cases rx;cases ry;obtain⟨its,r1,p1,_⟩:=I.tuple ha;obtain⟨jts,r2,p2,_⟩:=I.tuple hb;cases r2;have:=SeqAt.RcAt.tuples (A:=X.A) (s:=s) (e:=fun _=>true) (show s.heap.IsTuple a its.toArray from p1) (show s.heap.IsTuple b ([]:List Value).toArray from p2) (Nat.lt_of_succ_lt hu) (fun j h1 h2=>absurd h2 (by simp))
 have e:((List.range (min its.toArray.size ([]:List Value).toArray.size)).all (fun _=>true) && its.toArray.size == ([]:List Value).toArray.size)=xs.isEmpty:=by
  have hl:=r1.length;cases xs with
  | nil =>
   cases r1;rfl
  | cons z zs =>
   cases its with
   | nil=>simp at hl
   | cons y ys=>simp
 rw[e]at this;exact this _ _ _ _ (bf I q rfl)
theorem ky:eO X (.type "tuple") (fun xs H Q=>∃p ys,xs=[.ref p]/\SqT X.K H p ys/\Q (.ref p) H):=by
 intro pins s σ H xs us Q I rv h;obtain⟨p,ys,rfl,hp,q⟩:=h;obtain⟨u,rfl,ru⟩:=rv.one;cases ru;obtain⟨its,r,ht,_⟩:=I.tuple hp;exact call_tuple_same (show s.heap.IsTuple p its.toArray from ht) ⟨.ref p,H,I,rfl,q⟩
end
end L2
namespace L2.RV
open PySem PySem.Spec PyProof.Rows
theorem nu:Manifest.owners.lookup (String.ofList ['d','e','s','r','e','v','e','r'].reverse)=some Manifest.sig_reversed:=by kernel_rfl
theorem aX:Slot "reversed" "__next__" "reversed.__next__" :=
 .of (owner:="reversed") (n:="__next__") (by rw[typeLookup_type,builtinLookup_eq_fast];kernel_rfl) (by decide +kernel) (by decide +kernel) (by decide +kernel)
  (by first | exact .inl (by decide +kernel) | exact .inr (by decide +kernel)) (by rw[isSubtype_type];kernel_rfl)
theorem cp:entryFor table "reversed.__next__"=some Builtin.«reversed.__next__»:=entryFor_of_tree (by kernel_rfl)
theorem cI (a:Value):argsOk "reversed.__next__" ⟨[a],[]⟩:=by
 unfold argsOk;rw[signature?_of (id:="reversed.__next__") (n:=['_','_','t','x','e','n','_','_']) (o:=['d','e','s','r','e','v','e','r']) (by kernel_rfl) nu];kernel_rfl
theorem cJ:Slot "reversed" "__iter__" "reversed.__iter__" :=
 .of (owner:="reversed") (n:="__iter__") (by rw[typeLookup_type,builtinLookup_eq_fast];kernel_rfl) (by decide +kernel) (by decide +kernel) (by decide +kernel)
  (by first | exact .inl (by decide +kernel) | exact .inr (by decide +kernel)) (by rw[isSubtype_type];kernel_rfl)
theorem d5 (a:Value):argsOk "reversed.__iter__" ⟨[a],[]⟩:=by
 unfold argsOk;rw[signature?_of (id:="reversed.__iter__") (n:=['_','_','r','e','t','i','_','_']) (o:=['d','e','s','r','e','v','e','r']) (by kernel_rfl) nu];kernel_rfl
theorem dG:entryFor table "reversed.__iter__"=some Builtin.«dict_keyiterator.__iter__» :=
 entryFor_alias (id':="dict_keyiterator.__iter__") (by kernel_rfl) (by first | rfl | decide +kernel | (unfold String.splitOn;simp +decide [String.splitOnAux])) (by decide +kernel) (by kernel_rfl)
theorem no_rev:typeLookup (.type "tuple") "__reversed__"=pure none:=by rw[typeLookup_type,builtinLookup_eq_fast];kernel_rfl
theorem sub_td:isSubtype (.type "tuple") (.type "dict")=pure false:=by rw[isSubtype_type];kernel_rfl
theorem sj:Slot "reversed" "__init__" "object.__init__" :=
 .of (owner:="object") (n:="__init__") (by rw[typeLookup_type,builtinLookup_eq_fast];kernel_rfl) (by decide +kernel) (by decide +kernel) (by decide +kernel)
  (by first | exact .inl (by decide +kernel) | exact .inr (by decide +kernel)) (by rw[isSubtype_type];kernel_rfl)
theorem called:TypeCalled "reversed" "reversed.__new__" "object.__init__" :=
 ⟨by decide +kernel,by decide +kernel,⟨_,_,F.mro_reversed⟩,F.made_reversed,by decide +kernel,by rw[isSubtype_type];kernel_rfl,sj⟩
theorem sk (obj a:Value):argsOk "object.__init__" ⟨[obj,a],[]⟩:=by
 unfold argsOk;rw[signature?_of (id:="object.__init__") (n:=['_','_','t','i','n','i','_','_']) (o:=['t','c','e','j','b','o']) (by kernel_rfl) F.owner_object];kernel_rfl
noncomputable def kA (l:Addr) (i:Int):Obj:={ cls:=.type "reversed",data:=.fields #[.ref l,rawInt i] }
def nv (h:Heap) (a l:Addr) (i:Int):Prop:=∃o,h.get? a=some o/\o.cls=.type "reversed" /\o.data=.fields #[.ref l,rawInt i]
section
variable{prog:Program}{w:World}{A:Around}{E:Value->Shared->Prop}{s:Shared}
theorem nv.typeIs {a l:Addr} {i:Int} (x:nv s.heap a l i):s.TypeIs (.ref a) "reversed":=let ⟨o,ho,hc,_⟩:=x;⟨o,ho,hc⟩
theorem gK{l:Addr}{items:Array Value}{Q₁:Value->Shared->Prop}(hl:IsTup s.heap l items)(hfit:(items.size:Int) < 2 ^ 63)
  (h:∀t',Q₁ (.ref s.heap.objs.size) { s with heap:=s.heap.push (kA l ((items.size:Int) - 1)),toks:=t' }) :
  codeAny (model prog w) A (.call (.builtin "reversed.__new__") ⟨[.type "reversed",.ref l],[]⟩) (wants Q₁ E) s:=by
 refine codeAny_of_tree ?_;show wpAny _ A.in1 (do checkBuiltinCall "reversed.__new__" ⟨[.type "reversed",.ref l],[]⟩;again (.builtin "reversed.__new__" ⟨[.type "reversed",.ref l],[]⟩)) _ _ s
 refine wpAny_bind (wpAny_of_eq (F.newCall_reversed_1 _) (wpAny_pure ⟨plainId_quiet F.plain_reversed_new _,codeAny_builtin F.entry_reversed_new ?_⟩));rw[Around.under_plainId F.plain_reversed_new _];unfold Builtin.«reversed.__new__»;refine wpAny_bind (wpAny_of_eq (newClass_reversed _) ?_)
 try dsimp only
 refine wpAny_bind (wpAny_of_eq (a:=()) (by first | rfl | kernel_rfl) ?_)
 refine wpAny_bind (wpAny_of_eq (a:=()) (by first | rfl | kernel_rfl) ?_)
 try dsimp only
 refine wpAny_bind (wpAny_specialOf hl.typeIs no_rev ?_)
 try dsimp only
 refine wpAny_bind ?_;refine wpAny_mono (Q:=fun b s'=>b=true/\s'=s) (?_:wpAny _ _ (do
   if <- isInstance (Value.ref l) (.type "dict") then return false
   match <- specialOf (Value.ref l) "__getitem__" with
   | none=>return false
   | some (.builtin id) =>
    if ["tuple.__getitem__","str.__getitem__","bytes.__getitem__","bytearray.__getitem__","memoryview.__getitem__","numpy.ndarray.__getitem__","sqlite3.Row.__getitem__"].contains id then return true
    if id == "sqlite3.Blob.__getitem__" then return false
    unsupported "reversed.__new__:is-it-a-sequence"
   | some _=>return true) _ _ s) ?_ (fun _ _ e=>e)
 ·refine wpAny_bind (wpAny_isInstance hl.typeIs sub_td ?_);show wpAny _ _ (specialOf (Value.ref l) "__getitem__" >>= _) _ _ s;refine wpAny_bind (wpAny_specialOf hl.typeIs slot_tuple_getitem.lookup ?_);dsimp only;rw[if_pos (by decide)]
  exact wpAny_pure ⟨rfl,rfl⟩
 ·rintro b s' ⟨rfl,rfl⟩;show wpAny _ _ (call (Value.builtin "len") [Value.ref l] >>= _) _ _ s';refine wpAny_bind (len_tuple hl hfit ?_);refine wpAny_bind (wpAny_of_eq (a:=some (items.size:Int)) rfl ?_);dsimp only;refine wpAny_bind (m:=newObj (.type "reversed") (.fields #[.ref l,rawInt ((items.size:Int) - 1)])) (wpAny_newObj_type (wpAny_pure (h _)))
theorem lf {T newId:String} {args:List Value} {Q Q₁:Value->Shared->Prop} (ft:TypeCalled T newId "object.__init__")
  (hne:(some newId != some "object.__new__")=true) (hct:checkTypeCall T ⟨args,[]⟩=pure ()) (hok:∀obj,argsOk "object.__init__" ⟨obj :: args,[]⟩)
  (hnew:codeAny (model prog w) A.in1 (.call (.builtin newId) ⟨.type T :: args,[]⟩) (wants Q₁ E) s) (hnext:∀obj s₁,Q₁ obj s₁->s₁.TypeIs obj T/\Q obj s₁):wpAny (model prog w) A (call (.type T) args) Q E s:=by
 obtain⟨c,tl,hmro⟩:=ft.mro;have hmade:=ft.made;have hsub:=ft.sub;refine wpAny_call (codeAny_of_tree ?_);show wpAny _ _ (callAny (.type T) _) _ _ _;refine wpAny_pure ⟨Code.quiet_builtin _ (by decide +kernel),codeAny_builtin F.entry_type_call ?_⟩
 rw[Around.under_plain (weight_type_call_type T args []) (units_type_call_type T args [])];have h1:=ft.notType;have h2:=ft.canCreate
 repeat (any_goals (first | assumption | wp_step))
 refine codeAny_mono hnew fun r s₁ hr=>?_;cases r with
 | error e=>exact hr
 | ok fl =>
  cases fl with
  | ret obj =>
   obtain⟨hT,hq⟩:=hnext _ _ hr;have hli:=ft.init.lookup;have hbi:=ft.init.bind obj
   repeat (any_goals (first | assumption | wp_step))
   refine codeAny_mono (codeAny_call_builtin ft.init.plain F.entry_object_init (ft.init.check _ _ _ _ _ _ _ _ hT (hok obj) (object_init_meets ft.init.lookup ft.made hne prog w A.in1 (wants (fun r s₂=>r=.none/\Q obj s₂) E) s₁ ⟨hT,rfl,hq⟩))) fun r₂ s₂ hr₂=>?_;cases r₂ with
   | error e=>exact hr₂
   | ok fl₂ =>
    cases fl₂ with
    | ret r =>
     obtain⟨rfl,hq⟩:=hr₂
     repeat (any_goals (first | assumption | wp_step))
    | _=>exact hr₂.elim
  | _=>exact hr.elim
theorem uw{l:Addr}{items:Array Value}{Q:Value->Shared->Prop}(hl:IsTup s.heap l items)(hfit:(items.size:Int) < 2 ^ 63)
  (h:∀t',Q (.ref s.heap.objs.size) { s with heap:=s.heap.push (kA l ((items.size:Int) - 1)),toks:=t' }):wpAny (model prog w) A (call (.type "reversed") [.ref l]) Q E s:=by
 refine lf (Q₁:=fun obj s₁=>obj=.ref s.heap.objs.size/\∃t',s₁={ s with heap:=s.heap.push (kA l ((items.size:Int) - 1)),toks:=t' }) called (by decide) (F.typeCall_reversed_1 _) (fun obj=>sk obj _) (gK hl hfit fun t'=>⟨rfl,t',rfl⟩) ?_
 rintro obj s₁ ⟨rfl,t',rfl⟩;exact⟨⟨_,get?_push_size _ rfl,rfl⟩,h t'⟩
theorem d6{it l:Addr}{i:Nat}{items:Array Value}{x:Value}{Q:Option Value->Shared->Prop}(hit:nv s.heap it l (i:Int))(hl:IsTup s.heap l items)(hx:items[i]?=some x)(hfit:(items.size:Int) < 2 ^ 63)
  (hQ:∀h' t',nv h' it l ((i:Int) - 1)->Heap.SameBut it s.heap h'->Q (some x) { s with heap:=h',toks:=t' }):wpAny (model prog w) A (pyNext (.ref it)) Q E s:=by
 obtain⟨o,ho,hc,hd⟩:=id hit;unfold pyNext;refine wpAny_bind (wpAny_attempt (wpAny_callSpecial?_slot (name:=Str.ofString "__next__") hit.typeIs aX
  (wpAny_call_entry aX hit.typeIs cp ?_ (cI _))))
 unfold Builtin.«reversed.__next__»;refine wpAny_bind (wpAny_of_eq (a:=(Value.ref it,[])) rfl ?_)
 try dsimp only
 refine wpAny_bind (wpAny_field ho hd (x:=.ref l) rfl ?_);refine wpAny_bind (wpAny_field ho hd (x:=rawInt (i:Int)) rfl ?_);show wpAny _ _ (if (i:Int) < 0 then _ else _) _ _ s
 rw[if_neg (by omega)]
 show wpAny _ _ (specialOf (Value.ref l) "__getitem__" >>= _) _ _ s;refine wpAny_bind (wpAny_specialOf hl.typeIs slot_tuple_getitem.lookup ?_);simp only[Option.isNone_some,Bool.false_eq_true,if_false];refine wpAny_bind (wpAny_mkInt ?_);have hi:=(Array.getElem?_eq_some_iff.mp hx).1;refine wpAny_bind (wpAny_attempt (getItem_tuple (x:=x) (j:=i) hl (by omega) (by omega) ?_ hx ?_))
 ·unfold seqIndex?;simp
  omega
 dsimp only;refine wpAny_bind (wpAny_field ho hd (x:=rawInt (i:Int)) rfl ?_);show wpAny _ _ (setField (Value.ref it) 1 (rawInt ((i:Int) - 1)) >>= _) _ _ _;refine wpAny_bind (wpAny_setField ho hd (by simp) ?_)
 refine wpAny_pure ⟨x,rfl,wpAny_pure (hQ _ _ ?_ (Heap.SameBut.update ..))⟩;exact⟨_,Heap.get?_update_self _ ho (Obj.isFreed_of_fields (Obj.data_mapFields hd _)),(Obj.cls_mapFields ..).trans hc,by
  rw[Obj.data_mapFields hd];simp⟩
theorem fi{it l:Addr}{Q:Option Value->Shared->Prop}(hh:A.handled=none)(hit:nv s.heap it l (-1))
  (hQ:∀h' t',Heap.ExtBut it s.heap h'->Q none { s with heap:=h',toks:=t' }):wpAny (model prog w) A (pyNext (.ref it)) Q E s:=by
 obtain⟨o,ho,hc,hd⟩:=id hit;unfold pyNext;refine wpAny_bind (wpAny_attempt (wpAny_callSpecial?_slot (name:=Str.ofString "__next__") hit.typeIs aX
  (wpAny_call_entry aX hit.typeIs cp ?_ (cI _))))
 unfold Builtin.«reversed.__next__»;refine wpAny_bind (wpAny_of_eq (a:=(Value.ref it,[])) rfl ?_)
 try dsimp only
 refine wpAny_bind (wpAny_field ho hd (x:=.ref l) rfl ?_);refine wpAny_bind (wpAny_field ho hd (x:=rawInt (-1)) rfl ?_);show wpAny _ _ (if (-1:Int) < 0 then _ else _) _ _ s
 rw[if_pos (by decide)]
 refine wpAny_bind (wpAny_rule ?_);refine wpAny_bind (?_:wpAny _ _ (do setField (Value.ref it) 1 (rawInt (-1));setField (Value.ref it) 0 .none) _ _ s)
 refine wpAny_bind (wpAny_setField ho hd (by simp) ?_)
 have ho2:=Heap.get?_update_self _ ho (Obj.isFreed_of_fields (Obj.data_mapFields hd (fun xs=>xs.set! 1 (rawInt (-1)))));have hd2:=Obj.data_mapFields hd (fun xs=>xs.set! 1 (rawInt (-1)));refine wpAny_setField ho2 hd2 (by simp) ?_
 refine wpAny_bind ?_;show wpAny _ _ (newExc (.type "StopIteration") [] >>= _) _ _ _;refine wpAny_bind ?_;simp only[newExc,newTuple];refine wpAny_bind (wpAny_newObj_type ?_ (by size_fits))
 refine wpAny_bind (m:=firstArgMember _ _) (wpAny_of_eq (a:=Value.none) (by first | rfl | (simp only[firstArgMember];rfl)) ?_)
 refine wpAny_newObj_type ?_ (by size_fits)
 simp only[raiseNew];refine wpAny_bind (wpAny_handled ?_)
 first | rw[show A.in1.handled=none from hh] | rw[hh]
 refine wpAny_bind (wpAny_pure (wpAny_throw ?_));refine wpAny_bind (wpAny_isInstance (T:="StopIteration") (b:=true) ⟨_,get?_push_size _ rfl,rfl⟩ isSubtype_stop ?_)
 refine wpAny_pure (hQ _ _ ?_);exact((((Heap.SameBut.update s.heap it (Obj.mapFields fun xs=>xs.set! 1 (rawInt (-1)))).trans (Heap.SameBut.update _ it _)).extBut).push _).push _
theorem du{it l:Addr}{i:Int}{Q:Value->Shared->Prop}(hit:nv s.heap it l i)(h:Q (.ref it) s):wpAny (model prog w) A (pyIter (.ref it)) Q E s:=by
 refine wpAny_pyIter_slot hit.typeIs cJ (wpAny_call_entry cJ hit.typeIs dG ?_ (d5 _));show wpAny _ _ (ret (.ref it)) _ _ s;exact wpAny_pure ⟨_,rfl,"reversed",_,hit.typeIs,aX.lookup,h⟩
end
end L2.RV
namespace L2
open PySem PySem.Spec PyProof.Rows
def TnV(K:Frag)(it a:Addr)(n:Nat)(i:Nat)(h:Heap):Prop:=i <= n/\RV.nv h it a ((n:Int) - 1 - (i:Int))
theorem ux{P:Program}{w:World}{K:Frag}{tg:Expr}(a it:Addr)(n:Nat):kX P w K tg ⟨fun i H=>∃xs x,SqT K H a xs/\xs.length=n/\xs.reverse[i]?=some x,fun i H v H'=>H'=H/\∀xs,SqT K H a xs->xs.reverse[i]?=some v,fun i H=>∃xs,SqT K H a xs/\xs.length=n/\n <= i⟩ [it] it (TnV K it a n) where
 mem:=by simp
 obj:=fun i h st b hb=>by
  have e:b=it:=by simpa using hb
  subst e;obtain⟨_,o,e,c,d⟩:=st;exact⟨o,e,fun v z=>by rw[d]at z;cases z⟩
 keep:=fun i h h' st k=>by
  obtain⟨h1,o,e,c,d⟩:=st;exact⟨h1,o,k it (by simp) o e,c,d⟩
 item:=by
  intro X hP hw hK hc i pins s σ H E I hf st hg;subst hP hw hK;obtain⟨xs,x,hq,hn,hx⟩:=hg;obtain⟨its,rv,p,hz⟩:=I.tuple hq;have hl:=rv.length;have hi:i < n:=by
   have:=(List.getElem?_eq_some_iff.mp hx).1;rw[List.length_reverse]at this;omega
  have hx2:xs[n - 1 - i]?=some x:=by
   rw[List.getElem?_reverse (by omega),hn]at hx
   exact hx
  obtain⟨u,hu,ru⟩:=rv.get hx2;obtain⟨f0,f1,f2,f3,f4,f5⟩:=hf it (by simp)
  obtain⟨_,st⟩:=st;have e:(n:Int) - 1 - (i:Int)=((n - 1 - i:Nat):Int):=by omega
  rw[e]at st;have hs16:sizeLine=16777216:=sizeLine_eq;refine RV.d6 (x:=u) (items:=its.toArray) st p (by simpa using hu) (by rw[size_toArray];omega) fun h' t' st' sb=>?_
  have I1:Inv X pins σ H { s with heap:=h',toks:=t' }:=I.turned (t':=t') (fun b o hb e=>(sb.2 b hb).trans e) f0 f1 f3 f4 f5;obtain⟨o,e1,c,d⟩:=id st';have e2:((n - 1 - i:Nat):Int) - 1=(n:Int) - 1 - ((i + 1:Nat):Int):=by omega
  rw[e2]at st';exact⟨u,rfl,ip (s:={ s with heap:=h',toks:=t' }) e1 c d (by decide) ⟨x,H,I1,ru,⟨rfl,fun ys hy=>by rw[I.tuple_inj hy hq];exact hx⟩,⟨hi,st'⟩,fun b hb=>(hf b hb).1⟩⟩
 done:=by
  intro X hP hw hK hc i pins s σ H E I hf st hg;subst hP hw hK;obtain⟨xs,hq,hn,hx⟩:=hg;obtain⟨f0,f1,f2,f3,f4,f5⟩:=hf it (by simp)
  obtain⟨h1,st⟩:=st;have e:(n:Int) - 1 - (i:Int)=-1:=by omega
  rw[e]at st;exact RV.fi (I.ok.hd hc) st fun h' t' eb=>⟨rfl,I.turned (t':=t') (fun b o hb e=>eb b o hb e) f0 f1 f3 f4 f5⟩
 self:=fun _ _ _ _ _ st h=>RV.du st.2 h
section
variable{X:Cx}{tg:Expr}
noncomputable def Itv2(K:Frag)(a:Addr)(n:Nat):It:=⟨fun i H=>∃xs x,SqT K H a xs/\xs.length=n/\xs.reverse[i]?=some x,fun i H v H'=>H'=H/\∀xs,SqT K H a xs->xs.reverse[i]?=some v,fun i H=>∃xs,SqT K H a xs/\xs.length=n/\n <= i⟩
noncomputable def iRev(K:Frag)(ta:TA):TI:=fun σ H R=>ta σ H fun vs H1=>∃a xs,vs=[.ref a]/\SqT K H1 a xs/\R (Itv2 K a xs.length) H1
theorem pi_revT {e:Expr} {ta:TA} {p pos:Pos} (hg:Gl X "reversed") (hm:X.mg "reversed"=none) (ha:PA X [e] ta) (hs:starEach [e] X.env=[(false,eval e X.env)]:=by rfl):PI X tg (.Call (.Name "reversed" p) [e] [] pos) (iRev X.K ta):=by
 intro pins s σ H R I h;refine Call_ (dB I hg hm boot_reversed (PyProof.Rows.callWith_type1 (thn (ha pos pins s σ H _ I h) fun us s1 ⟨vs,H1,I1,r1,q1⟩=>?_) hs rfl));obtain⟨a,xs,e,hq,q⟩:=q1;subst e;cases r1 with
 | cons r rr =>
  cases rr;cases r;obtain⟨its,rv,ht,hz⟩:=I1.tuple hq;have hl:=rv.length;have hs16:sizeLine=16777216:=sizeLine_eq;refine RV.uw (items:=its.toArray) ht (by rw[size_toArray];omega) fun t'=>?_
  have I2:Inv X pins σ H1 { s1 with heap:=s1.heap.push (RV.kA a ((its.toArray.size:Int) - 1)),toks:=t' }:=I1.kept fun b o e=>get?_push_of_some _ e;have hrv:RV.nv (s1.heap.push (RV.kA a ((its.toArray.size:Int) - 1))) s1.heap.objs.size a ((its.toArray.size:Int) - 1):=⟨_,get?_push_size _ rfl,rfl,rfl⟩;refine RV.du (s:={ s1 with heap:=s1.heap.push (RV.kA a ((its.toArray.size:Int) - 1)),toks:=t' }) hrv ?_;refine⟨s1.heap.objs.size,[s1.heap.objs.size],_,_,H1,rfl,I2,ux a _ xs.length,⟨Nat.zero_le _,?_⟩,fun b hb=>?_,q⟩
  ·rw[size_toArray,<- hl]at hrv;have e:(xs.length:Int) - 1 - ((0:Nat):Int)=(xs.length:Int) - 1:=by omega
   rw[e];rw[size_toArray,<- hl];exact hrv
  ·have e:b=s1.heap.objs.size:=by simpa using hb
   subst e;exact I1.fpOk (Nat.le_refl _) (I1.hok.fresh (Nat.le_refl _))
theorem for_rev{K:Frag}{a:Addr}{xs:List V}{g:TG}{tb:TS}{D:gT}{σ:St}{H:Hp}(Pv:Nat->St->Hp->Prop)(h0:Pv 0 σ H)(hl:∀i σ H,i <= xs.length->Pv i σ H->SqT K H a xs)
  (hs:∀i x σ H,xs.reverse[i]?=some x->Pv i σ H->g x σ H fun σ2 H2=>tb { D with nx:=Pv (i + 1),ct:=Pv (i + 1),bk:=D.nx } σ2 H2)(hd:∀σ H,Pv xs.length σ H->D.nx σ H) :
  ∃W:Nat->Nat->St->Hp->Prop,(∃m,W 0 m σ H)/\∀i m σ H,W i m σ H ->
   ((Itv2 K a xs.length).stop i H/\D.nx σ H)\/((Itv2 K a xs.length).go i H/\∃N:St->Hp->Prop,(∀σ' H',N σ' H'->∃m',m' < m/\W (i + 1) m' σ' H')/\∀x H',(Itv2 K a xs.length).yld i H x H'->g x σ H' fun σ2 H2=>tb { D with nx:=N,ct:=N,bk:=D.nx } σ2 H2):=by
 refine⟨fun i m σ H=>m=xs.length - i/\i <= xs.length/\Pv i σ H,⟨xs.length,by simp,Nat.zero_le _,h0⟩,?_⟩
 rintro i m σ H ⟨rfl,hi,p⟩;have q:=hl i σ H hi p;by_cases hlt:i < xs.length
 ·refine .inr ⟨⟨xs,xs.reverse[i]'(by rw[List.length_reverse];exact hlt),q,rfl,getElem?_eq_getElem _⟩,Pv (i + 1),fun σ' H' p'=>⟨xs.length - (i + 1),by omega,rfl,hlt,p'⟩,fun x H' y=>?_⟩
  obtain⟨e,y⟩:=y;subst e;exact hs i x σ _ (y xs q) p
 ·have e:i=xs.length:=by omega
  subst e;exact .inl ⟨⟨xs,q,rfl,Nat.le_refl _⟩,hd σ H p⟩
end
end L2
namespace L2.ST
open PySem PySem.Spec PyProof.Rows
def txt:Value->Str
 | .str x _=>x
 | _=>Str.empty
def byT (w:World):Bool:=w.params.followText "set-order"
def iB(prog:Program)(w:World)(h:Heap)(a:Addr)(ks:List Str):Prop:=∃(o:Obj) (es:Array (Int × Value)) (ep:Nat) (t:SetTable),h.get? a=some o/\o.ExactSet/\o.data=.set es ep t/\ElemsOf (PySem.strKind prog w) es.toList /\
 t.fits es.size=true/\(es.size=0\/t.plain=false)/\t.led=!byT w/\(es.toList.map fun e=>txt e.2).Perm ks/\ks.Nodup/\ks.length < 1000
theorem ix(t:SetTable)(es:Array (Int × Value))(h:Int)(x:Value):(layNew t es h x).2.1.led=t.led/\(t.plain=false->(layNew t es h x).2.1.plain=false):=by
 unfold layNew;split
 ·dsimp only;unfold SetTable.orStandIn;split
  ·exact⟨rfl,fun h=>h⟩
  ·exact⟨rfl,fun _=>rfl⟩
 ·exact⟨rfl,fun _=>rfl⟩
theorem f8(t:SetTable)(es:Array (Int × Value))(n:Nat):(relayAll t es n).2.1.led=t.led/\(t.plain=false->(relayAll t es n).2.1.plain=false):=by
 unfold relayAll;split
 ·rename_i t' order he;have h2:t'.led=t.led/\t'.plain=t.plain:=by
   unfold SetTable.relaid SetTable.laid at he;cases hc:SetTable.layClean (SetTable.sizeAbove n - 1) (es.map (·.1)) with
   | none=>rw[hc]at he;cases he
   | some ow =>
    rw[hc]at he;have he:=Option.some.inj he;cases he;exact⟨rfl,rfl⟩
  dsimp only;split
  ·exact⟨h2.1,fun h=>h2.2.trans h⟩
  ·exact⟨rfl,fun _=>rfl⟩
 ·exact⟨rfl,fun _=>rfl⟩
theorem uy{prog:Program}{w:World}{x:Str}{v:Value}(h:(PySem.strKind prog w).is x v=true):txt v=x:=by
 obtain⟨t,rfl⟩:=Value.isStrOf_shape h;rfl
theorem uz{prog:Program}{w:World}{es:List (Int × Value)}(hel:ElemsOf (PySem.strKind prog w) es){e:Int × Value}(he:e ∈ es):(PySem.strKind prog w).is (txt e.2) e.2=true:=by
 obtain⟨⟨k,hk,_⟩,_⟩:=hel e he;rw[uy hk];exact hk
section
variable{prog:Program}{w:World}{A:Around}{E:Value->Shared->Prop}{s:Shared}
theorem uA{g:Bool->Sem Unit}(hg:∀(b:Bool)(s₁:Shared)(Q':Unit->Shared->Prop),Q' () s₁->wpAny (model prog w) A (g b) Q' E s₁)
  {a:Addr}{o:Obj}{es es1:Array (Int × Value)}{ep:Nat}{t t2:SetTable}(ho:s.heap.get? a=some o)(hex:o.ExactSet)(hd:o.data=.set es ep t){ks:List Str}
  (hel1:ElemsOf (PySem.strKind prog w) es1.toList)(hf2:t2.fits es1.size=true)(hpl:t2.plain=false)(hled:t2.led=!byT w)(hperm:(es1.toList.map fun e=>txt e.2).Perm ks)(hnd:ks.Nodup)(hks:ks.length < 1000){wasDummy:Bool}{R:Option Bool->Shared->Prop}
  (h:∀h',Heap.SameBut a s.heap h'->iB prog w h' a ks->R (some true) { s with heap:=h' }) :
  wpAny (model prog w) A (do
    storeSet a es1 t2
    if (!wasDummy && t2.tooFull)=true then do
      g (relayAll t2 es1 (SetTable.grown es1.size)).2.2
      storeSet a (relayAll t2 es1 (SetTable.grown es1.size)).1 (relayAll t2 es1 (SetTable.grown es1.size)).2.1
      pure (some true)
     else pure (some true)) R E s:=by
 have hsz1:es1.size=ks.length:=by rw[<- hperm.length_eq,length_map,Array.length_toList]
 have hb1:es1.size < scanBound:=by unfold scanBound;omega
 refine wpAny_bind (wpAny_storeSet_of ho hd ?_ (fits_of_scanBound hb1));obtain⟨ho1,_⟩:=SetOf_store (knd:=PySem.strKind prog w) (S':=fun k=>es1.toList.any fun e=>(PySem.strKind prog w).is k e.2) ho hex hd hel1 (fun k=>by rw[List.any_eq_true]) hb1 hf2
 have hsb1:=Heap.SameBut.update s.heap a (Obj.putSet es1 t2);split
 ·have hp:=relayAll_perm t2 es1 (SetTable.grown es1.size);have hfr:=relayAll_fits t2 es1 (SetTable.grown es1.size);have hkp:=f8 t2 es1 (SetTable.grown es1.size);generalize relayAll t2 es1 (SetTable.grown es1.size)=Rl at hp hfr hkp ⊢;obtain⟨es2,t3,gave2⟩:=Rl;dsimp only at hp hfr hkp ⊢;have hsz:es2.size=es1.size:=by rw[<- Array.length_toList,hp.length_eq,Array.length_toList]
  refine wpAny_bind (hg _ _ _ ?_);refine wpAny_bind (wpAny_storeSet_of ho1 rfl ?_ (fits_of_scanBound (by rw[hsz];exact hb1)))
  obtain⟨ho2,_⟩:=SetOf_store (knd:=PySem.strKind prog w) (S':=fun k=>es2.toList.any fun e=>(PySem.strKind prog w).is k e.2) ho1 hex rfl (hel1.perm hp) (fun k=>by rw[List.any_eq_true]) (by rw[hsz];exact hb1) hfr
  exact wpAny_pure (h _ (hsb1.trans (Heap.SameBut.update _ a _)) ⟨_,es2,_,t3,ho2,hex,rfl,hel1.perm hp,hfr,.inr (hkp.2 hpl),hkp.1.trans hled,(hp.map _).trans hperm,hnd,hks⟩)
 ·exact wpAny_pure (h _ hsb1 ⟨_,es1,_,t2,ho1,hex,rfl,hel1,hf2,.inr hpl,hled,hperm,hnd,hks⟩)
theorem add{a:Addr}{ks:List Str}{x:Str}{tk:Tok}{Q:Bool->Shared->Prop}(hS:iB prog w s.heap a ks)(hl:ks.length < 900)
  (h:∀h' b,Heap.SameBut a s.heap h'->iB prog w h' a (if x ∈ ks then ks else ks ++ [x])->Q b { s with heap:=h' }) :
  wpAny (model prog w) A (setAddHashed a (.str x tk) ((PySem.strKind prog w).hash x)) Q E s:=by
 obtain⟨o,es,ep,t,ho,hex,hd,hel,hf,hpl,hled,hperm,hnd,hks⟩:=hS;have hkey:(PySem.strKind prog w).is x (.str x tk)=true:=PySem.strKind_is prog w x tk;have hsc:(Value.str x tk).scannable=true:=rfl;have hsz:es.size=ks.length:=by rw[<- hperm.length_eq,length_map,Array.length_toList]
 have hb:es.size < scanBound:=by unfold scanBound;omega
 unfold setAddHashed setAddHashedIn;refine wpAny_holding (wpAny_bind (wpAny_setState_of ho hd hf ?_));dsimp only;rw[byScan_of hsc hb hel];simp only[↓reduceIte];unfold setAddByScan;refine wpAny_bind ?_;refine wpAny_bind (wpAny_rule ?_);refine wpAny_bind (wpAny_setScan_of hkey ho hd hf hel ?_);cases hr:List.findIdx? (fun e=>(PySem.strKind prog w).is x e.2) es.toList with
 | some j =>
  dsimp only;obtain⟨hj,hpj,_⟩:=List.findIdx?_eq_some_iff_getElem.mp hr;have hx:x ∈ ks:=hperm.mem_iff.mp (List.mem_map.mpr ⟨es.toList[j],List.getElem_mem hj,uy hpj⟩);refine wpAny_pure (wpAny_pure ?_);have:=h s.heap false (Heap.SameBut.refl a s.heap) (by rw[if_pos hx];exact⟨o,es,ep,t,ho,hex,hd,hel,hf,hpl,hled,hperm,hnd,hks⟩)
  exact this
 | none =>
  dsimp only;have hx:x ∉ ks:=fun hx=>by
   obtain⟨e,he,ex⟩:=List.mem_map.mp (hperm.mem_iff.mpr hx);have h1:=List.findIdx?_eq_none_iff.mp hr e he;have h2:=uz hel he;rw[ex,h1]at h2;cases h2
  rw[if_neg hx]at h;have hp1:=layNew_perm t es ((PySem.strKind prog w).hash x) (.str x tk);have hf1:=layNew_fits t es ((PySem.strKind prog w).hash x) (.str x tk);have hk1:=ix t es ((PySem.strKind prog w).hash x) (.str x tk);generalize layNew t es ((PySem.strKind prog w).hash x) (.str x tk)=L at hp1 hf1 hk1 ⊢;obtain⟨es1,t1,wasDummy,gave⟩:=L;dsimp only at hp1 hf1 hk1 ⊢;rw[Array.toList_push]at hp1;have hel1:ElemsOf (PySem.strKind prog w) es1.toList:=(hel.push hkey hsc).perm hp1;have hperm1:(es1.toList.map fun e=>txt e.2).Perm (ks ++ [x]):=by
   refine(hp1.map _).trans ?_;rw[List.map_append];exact hperm.append_right _
  have hnd1:(ks ++ [x]).Nodup:=List.nodup_append.mpr ⟨hnd,by simp,fun y hy z hz=>by rw[List.mem_singleton.mp hz];exact fun e=>hx (e ▸ hy)⟩
  have hks1:(ks ++ [x]).length < 1000:=by rw[length_append];simp only[length_cons,List.length_nil];omega
  refine wpAny_bind (?_:wpAny (model prog w) A (match gave with | true=>rule "set.scan.the-table-gave-way" | false=>pure ()) _ _ _)
  refine(fun z=>by cases gave <;> first | exact wpAny_pure z | exact wpAny_rule z) ?_
  split
  ·refine wpAny_bind ?_;rw[hashByValue_scannable 8 hsc];refine wpAny_pure ?_;refine uA (t2:={ t1 with plain:=false }) ?_ ho hex hd hel1 (SetTable.fits_plain_off hf1) rfl (hk1.1.trans hled) hperm1 hnd1 hks1 ?_
   ·intro b s₁ Q' hq;cases b <;> first | exact wpAny_pure hq | exact wpAny_rule hq
   ·intro h' hsb hS';exact wpAny_pure (h h' true hsb hS')
  ·rename_i hnp;refine wpAny_bind (wpAny_pure ?_);simp only[↓reduceIte];refine uA ?_ ho hex hd hel1 hf1 (by simpa using hnp) (hk1.1.trans hled) hperm1 hnd1 hks1 ?_
   ·intro b s₁ Q' hq;cases b <;> first | exact wpAny_pure hq | exact wpAny_rule hq
   ·intro h' hsb hS';exact wpAny_pure (h h' true hsb hS')
noncomputable def dd(xs:List Str):List Str:=xs.foldl (fun ks x=>if x ∈ ks then ks else ks ++ [x]) []
theorem eJ{xs:List Str}{i:Nat}{x:Str}(h:xs[i]?=some x):dd (xs.take (i + 1))=if x ∈ dd (xs.take i) then dd (xs.take i) else dd (xs.take i) ++ [x]:=by
 unfold dd;rw[List.take_add_one,h,List.foldl_append];rfl
theorem o8(xs:List Str):∀i,∀x,x ∈ dd (xs.take i) ↔ x ∈ xs.take i:=by
 intro i;induction i with
 | zero=>intro x;exact Iff.rfl
 | succ i ih =>
  intro x;cases hx:xs[i]? with
  | none =>
   rw[List.take_add_one,hx];simpa using ih x
  | some y =>
   rw[eJ hx,List.take_add_one,hx];show _ ↔ x ∈ xs.take i ++ [y];rw[mem_append,List.mem_singleton];by_cases hy:y ∈ dd (xs.take i)
   ·rw[if_pos hy,ih x];exact⟨.inl,fun h=>h.elim id fun e=>by rw[e];exact(ih y).mp hy⟩
   ·rw[if_neg hy,mem_append,List.mem_singleton,ih x]
theorem lh(xs:List Str):∀i,(dd (xs.take i)).length <= i:=by
 intro i;induction i with
 | zero=>exact Nat.le_refl _
 | succ i ih =>
  cases hx:xs[i]? with
  | none =>
   have:xs.take (i + 1)=xs.take i:=by rw[List.take_add_one,hx];simp
   rw[this];omega
  | some y =>
   rw[eJ hx];split
   ·omega
   ·rw[length_append];simp only[length_cons,List.length_nil];omega
end
section
variable{prog:Program}{w:World}{A:Around}{R:Result->Shared->Prop}{I:Addr}{fp wr:List Addr}{G:Array GenState->Array GenState->Prop}{n:Nat}{P:Nat->Value->Prop}{St:Nat->Shared->Prop}
theorem loop(W:WalksS prog w A.in1 I fp wr G n P St)(S:Addr)(hSf:S ∉ fp)(xs:List Str)(hn:xs.length=n)(hval:∀i v,P i v->∃x t,xs[i]?=some x/\v=.str x t)(hb:n < 800) :
  ∀(k i:Nat)(s:Shared),n - i=k->i <= n->St i s->iB prog w s.heap S (dd (xs.take i)) ->
   (∀s',Moved (S :: wr) G s s'->iB prog w s'.heap S (dd xs)->R (.ok (.ret .none)) s')->codeAny (model prog w) A (.builtin "set.update.loop" ⟨[.ref S,.ref I],[]⟩) R s:=by
 have hSw:S ∉ wr:=fun h=>hSf (W.sub _ h);have hsub:∀b ∈ wr,b ∈ S :: wr:=fun b hb=>List.mem_cons_of_mem _ hb;intro k;induction k with
 | zero =>
  intro i s hk hi hst hS hR;have hin:i=n:=by omega
  subst hin;refine codeAny_builtin F.entry_set_update_loop ?_;rw[Around.under_plainId F.plain_set_update_loop _];show wpAny _ A.in1 (pyNext (.ref I) >>= _) _ _ s;refine wpAny_bind (W.done s _ _ hst fun s' hm=>?_);show wpAny _ A.in1 (ret Value.none) _ _ s';rw[take_of_length_le (by omega)]at hS
  obtain⟨o,es,ep,t,ho,rest⟩:=hS;exact wpAny_pure (hR s' (hm.mono hsub) ⟨o,es,ep,t,hm.heap S _ hSw ho,rest⟩)
 | succ k ih =>
  intro i s hk hi hst hS hR;have hlt:i < n:=by omega
  refine codeAny_builtin F.entry_set_update_loop ?_;rw[Around.under_plainId F.plain_set_update_loop _];show wpAny _ A.in1 (pyNext (.ref I) >>= _) _ _ s;refine wpAny_bind (W.item i s _ _ hlt hst fun v s' hP hst' hm=>?_);obtain⟨x,t,ex,rfl⟩:=hval i v hP;have hS':iB prog w s'.heap S (dd (xs.take i)):=by
   obtain⟨o,es,ep,tb,ho,rest⟩:=hS;exact⟨o,es,ep,tb,hm.heap S _ hSw ho,rest⟩
  show wpAny _ A.in1 (holding [Value.str x t] (setAdd S (.str x t)) >>= _) _ _ s';refine wpAny_bind (wpAny_holding ?_);unfold setAdd;refine wpAny_holding ?_;refine wpAny_bind ((PySem.strKind prog w).pyHash (k:=x) (PySem.strKind_is _ _ _ _) ?_);refine add (s:={ s' with toks:=s'.toks + 1 }) hS' (by have:=lh xs i;omega) fun h' b hsb hS2=>?_
  rw[<- eJ ex]at hS2;refine wpAny_pure ⟨plainId_quiet F.plain_set_update_loop _,ih (i + 1) _ (by omega) hlt (W.frame _ s' _ _ hst' (Nat.le_succ _) fun b hb o e=>?_) hS2 fun s'' hm'' hS''=>?_⟩
  ·rw[hsb.2 b (fun h:b=S=>hSf (by rw[<- h];exact hb))];exact e
  ·refine hR s'' (Moved.trans W.gtrans ((hm.mono hsub).then_heap (Nat.le_succ _) fun b o hb e=>?_) hm'') hS'';rw[hsb.2 b (fun h:b=S=>hb (by rw[h];exact List.mem_cons_self))];exact e
end
section
variable{prog:Program}{w:World}{A:Around}{E:Value->Shared->Prop}{s:Shared}
theorem hV (h:Heap) (a:Addr) {led:Bool} (hl:led=!byT w) (hg:h.get? a=some { cls:=.type "set",dict:=none,data:=.set #[] 0 (.fresh 0 0 led) }):iB prog w h a [] :=
 ⟨_,#[],0,_,hg,⟨rfl,rfl,rfl⟩,rfl,fun e he=>by simp at he,by cases led <;> rfl,.inl rfl,hl,List.Perm.refl _,List.nodup_nil,by decide⟩
theorem sub_ts:isSubtype (.type "tuple") (.type "set")=pure false:=by rw[isSubtype_type];kernel_rfl
theorem sub_tf:isSubtype (.type "tuple") (.type "frozenset")=pure false:=by rw[isSubtype_type];kernel_rfl
theorem gK(a:Value){Q₁:Value->Shared->Prop}
  (h:Q₁ (.ref s.heap.objs.size) { s with heap:=s.heap.push { cls:=.type "set",dict:=none,data:=.set #[] 0 (.fresh 0 0 (!byT w)) } }) :
  codeAny (model prog w) A (.call (.builtin "set.__new__") ⟨[.type "set",a],[]⟩) (wants Q₁ E) s:=by
 refine codeAny_of_tree ?_;show wpAny _ A.in1 (do checkBuiltinCall "set.__new__" ⟨[.type "set",a],[]⟩;again (.builtin "set.__new__" ⟨[.type "set",a],[]⟩)) _ _ s
 refine wpAny_bind (wpAny_of_eq (F.newCall_set_1 a) (wpAny_pure ⟨plainId_quiet F.plain_set_new _,codeAny_builtin F.entry_set_new ?_⟩));rw[Around.under_plainId F.plain_set_new _];unfold Builtin.«set.__new__» Builtin.Frozenset.newClass;have hsub:=sub_set_self;obtain⟨hp,g,d,tk,os⟩:=s;dsimp only
 wp_walk
 refine wpAny_askSetting (wpAny_pure ?_);dsimp only;simp only[newObj];refine wpAny_bind (wpAny_alloc (wpAny_pure ?_));exact wpAny_pure h
set_option maxHeartbeats 3200000 in
theorem jh{l:Addr}{items:Array Value}{xs:List Str}{Q:Value->Shared->Prop}(hh:A.handled=none)(hl:IsTup s.heap l items)(hi:StrsAre items.toList xs)(hb:xs.length < 800)
  (h:∀(h':Heap)(tk:Nat),iB prog w h' s.heap.objs.size (dd xs)->(∀b o,b < s.heap.objs.size->s.heap.get? b=some o->h'.get? b=some o)->Q (.ref s.heap.objs.size) { s with heap:=h',toks:=tk }) :
  wpAny (model prog w) A (call (.type "set") [.ref l]) Q E s:=by
 obtain⟨c,tl,hmro⟩:=F.called_set.mro;have hmade:=F.called_set.made;have hsub:=F.called_set.sub;refine wpAny_call (codeAny_of_tree ?_);show wpAny _ _ (callAny (.type "set") _) _ _ _;refine wpAny_pure ⟨Code.quiet_builtin _ (by decide +kernel),codeAny_builtin F.entry_type_call ?_⟩
 rw[Around.under_plain (weight_type_call_type "set" [.ref l] []) rfl];have h1:=F.called_set.notType;have h2:=F.called_set.canCreate;have hct:=F.typeCall_set_1 (.ref l)
 repeat (any_goals (first | assumption | wp_step))
 refine codeAny_mono (gK (.ref l) (E:=E) (Q₁:=fun obj s₁=>obj=.ref s.heap.objs.size/\s₁={ s with heap:=s.heap.push { cls:=.type "set",dict:=none,data:=.set #[] 0 (.fresh 0 0 (!byT w)) } }) ⟨rfl,rfl⟩) fun r s₁ hr=>?_;generalize hled:(!byT w)=led at hr;cases r with
 | error e=>exact hr
 | ok fl =>
  cases fl with
  | ret obj =>
   obtain⟨rfl,rfl⟩:=hr;have hS:(s.heap.push { cls:=.type "set",dict:=none,data:=.set #[] 0 (.fresh 0 0 led) }).get? s.heap.objs.size=some { cls:=.type "set",dict:=none,data:=.set #[] 0 (.fresh 0 0 led) }:=get?_push_size _ rfl;have hT:Shared.TypeIs { s with heap:=s.heap.push { cls:=.type "set",dict:=none,data:=.set #[] 0 (.fresh 0 0 led) } } (.ref s.heap.objs.size) "set":=⟨_,hS,rfl⟩;have hli:=F.called_set.init.lookup;have hbi:=F.called_set.init.bind (.ref s.heap.objs.size)
   repeat (any_goals (first | assumption | wp_step))
   refine codeAny_mono (codeAny_call_builtin (R:=wants (fun r s₂=>r=.none/\∃h' tk,s₂={ s with heap:=h',toks:=tk }/\iB prog w h' s.heap.objs.size (dd xs) /\
     (∀b o,b < s.heap.objs.size->s.heap.get? b=some o->h'.get? b=some o)) E) F.called_set.init.plain F.entry_set_init (check_set_init_1 hT ?_)) fun r₂ s₂ hr₂=>?_
   ·obtain⟨ol,hol,hcl,nl,hdl⟩:=hl;obtain⟨ocls,odict,odata,oslots⟩:=ol;simp only at hcl hdl;subst hcl;subst hdl;have hol':(s.heap.push { cls:=.type "set",dict:=none,data:=.set #[] 0 (.fresh 0 0 led) }).get? l=some { cls:=.type "tuple",dict:=odict,data:=.seq items nl,slots:=oslots }:=get?_push_of_some _ hol;have hsls:=sub_ts;have hslf:=sub_tf;have hne:(Value.type "tuple" == Value.type "dict")=false:=by decide
    have hl1:(s.heap.push { cls:=.type "set",dict:=none,data:=.set #[] 0 (.fresh 0 0 led) }).IsTuple l items:=⟨_,hol',rfl,nl,rfl⟩;unfold Builtin.«set.__init__» noKeywords Builtin.Frozenset.updateFrom;generalize hPI:pyIter=PI
    wp_walk
    subst hPI;refine wpAny_pyIter_tuple hl1 ?_;refine wpAny_bind (wpAny_runValue ?_);have hlS:l < s.heap.objs.size:=lt_size hol;have hh3:A.in1.in1.in1.handled=none:=by simp[hh]
    have hneI:l ≠ (s.heap.push { cls:=.type "set",dict:=none,data:=.set #[] 0 (.fresh 0 0 led) }).objs.size:=by
     rw[Heap.size_push];exact Nat.ne_of_lt (Nat.lt_succ_of_lt hlS)
    have hSf:s.heap.objs.size ∉ [(s.heap.push { cls:=.type "set",dict:=none,data:=.set #[] 0 (.fresh 0 0 led) }).objs.size,l]:=by
     rw[Heap.size_push];simp only[List.mem_cons,List.mem_singleton,not_mem_nil,or_false,not_or];exact⟨Nat.ne_of_lt (Nat.lt_succ_self _),Nat.ne_of_gt hlS⟩
    have hil:xs.length=items.size:=by rw[<- Array.length_toList,StrsAre.length hi]
    have hval:∀(i:Nat)(v:Value),items[i]?=some v->∃x t,xs[i]?=some x/\v=.str x t:=fun i v hv=>by
     have hi2:=(Array.getElem?_eq_some_iff.mp hv).1;have hx:i < xs.length:=by omega
     obtain⟨t,et⟩:=StrsAre.at hi (getElem?_eq_getElem hx);rw[Array.getElem?_toList,hv]at et;exact⟨xs[i],t,getElem?_eq_getElem hx,Option.some.inj et⟩
    refine loop ((Walks.tuple hh3 _ l hneI items).toS) s.heap.objs.size hSf xs hil hval (by omega) (items.size - 0) 0 _ (by omega) (Nat.zero_le _)
     ⟨⟨_,get?_push_size _ rfl,rfl,rfl⟩,(hl1.push _)⟩ ?hS0 ?hR
    case hS0 =>
     exact hV _ _ hled.symm (get?_push_of_some _ hS)
    case hR =>
     intro s' hm hS';obtain⟨h',g',d',tk',os'⟩:=s';have eg:g'=s.gens:=hm.gens;have ed:d'=s.drawn:=hm.drawn;have eo:os'=s.os:=hm.os;subst eg;subst ed;subst eo;show wpAny _ _ _ _ _ _;refine wpAny_pure ?_;show wpAny _ _ (ret Value.none) _ _ _;refine wpAny_pure ⟨rfl,h',tk',rfl,hS',fun b o hb e=>?_⟩;have hb1:b ≠ s.heap.objs.size:=Nat.ne_of_lt hb;have hb2:b ≠ (s.heap.push { cls:=.type "set",dict:=none,data:=.set #[] 0 (.fresh 0 0 led) }).objs.size:=by
      rw[Heap.size_push];exact Nat.ne_of_lt (Nat.lt_succ_of_lt hb)
     exact hm.heap b o (by simp only[List.mem_cons,List.mem_singleton,not_mem_nil,or_false,not_or];exact⟨hb1,hb2⟩) (get?_push_of_some _ (get?_push_of_some _ e))
   ·cases r₂ with
    | error e=>exact hr₂
    | ok fl₂ =>
     cases fl₂ with
     | ret r =>
      obtain⟨rfl,h',tk,rfl,hS',hk'⟩:=hr₂
      repeat (any_goals (first | assumption | wp_step))
      exact h _ _ hS' hk'
     | _=>exact hr₂.elim
  | _=>exact hr.elim
end
theorem gj{α:Type}:∀{ls:List α}{j:Nat}{y:α},ls[j]?=some y->(y :: ls.eraseIdx j).Perm ls
 | [],_,_,h=>by simp at h
 | x :: r,0,y,h=>by
  have h:some x=some y:=h;cases h;exact List.Perm.refl _
 | x :: r,j + 1,y,h=>(List.Perm.swap x y _).trans ((gj (ls:=r) (j:=j) h).cons x)
theorem qR{α:Type}(next:Nat->Nat):∀(fuel k:Nat)(left:List α)(out:Array α),left.length=fuel->(pickOrder.go next fuel k left out).toList.Perm (out.toList ++ left)
 | 0,k,left,out,h=>by
  rw[List.eq_nil_of_length_eq_zero h,List.append_nil];exact List.Perm.refl _
 | fuel + 1,k,left,out,h=>by
  have hm:next k % left.length < left.length:=Nat.mod_lt _ (by omega)
  unfold pickOrder.go;rw[getElem?_eq_getElem hm];dsimp only;refine(qR next fuel (k + 1) _ _ (by rw[List.length_eraseIdx_of_lt hm];omega)).trans ?_
  rw[Array.toList_push,List.append_assoc];exact(gj (getElem?_eq_getElem hm)).append_left _
theorem cW{α:Type}(next:Nat->Nat)(xs:Array α):(pickOrder next xs).toList.Perm xs.toList:=by
 unfold pickOrder;have:=qR next xs.size 0 xs.toList #[] Array.length_toList;simpa using this
section
variable{prog:Program}{w:World}{A:Around}{E:Value->Shared->Prop}{s:Shared}
theorem uB{src:Source}{n:Nat}{Q:Nat->Shared->Prop}(hn:n ≠ 0)(h:∀i d',i < n->Q i { s with drawn:=d' }):wpAny (model prog w) A (choose src n) Q E s:=fun Γ p hΓ=>by
 unfold choose;rw[Sem.wp_choose];exact⟨hn,h _ _ (Nat.mod_lt _ (Nat.pos_of_ne_zero hn))⟩
theorem draw{α:Type}:∀(n:Nat)(xs:List α)(s:Shared){Q:List α->Shared->Prop},xs.length=n->(∀ys d',ys.Perm xs->Q ys { s with drawn:=d' })->wpAny (model prog w) A (drawOrder n xs) Q E s
 | 0,xs,s,Q,hn,h=>by
  rw[List.eq_nil_of_length_eq_zero hn]at h ⊢;exact wpAny_pure (h [] s.drawn (List.Perm.refl _))
 | n + 1,[],s,Q,hn,h=>by simp at hn
 | n + 1,x :: r,s,Q,hn,h=>by
  show wpAny _ _ (choose .order (x :: r).length >>= _) _ _ s;refine wpAny_bind (uB (by simp) fun i d' hi=>?_)
  rw[getElem?_eq_getElem hi];dsimp only;refine wpAny_bind (draw n ((x :: r).eraseIdx i) { s with drawn:=d' } (by rw[List.length_eraseIdx_of_lt hi];omega) fun ys d'' hp=>?_)
  exact wpAny_pure (h _ d'' ((hp.cons _).trans (gj (getElem?_eq_getElem hi))))
end
theorem cJ:Slot "set" "__iter__" "set.__iter__" :=
 .of (owner:="set") (n:="__iter__") (by rw[typeLookup_type,builtinLookup_eq_fast];kernel_rfl) (by decide +kernel) (by decide +kernel) (by decide +kernel)
  (by first | exact .inl (by decide +kernel) | exact .inr (by decide +kernel)) (by rw[isSubtype_type];kernel_rfl)
theorem sr:Manifest.owners.lookup (String.ofList ['t','e','s'].reverse)=some Manifest.sig_set:=by kernel_rfl
theorem d5 (a:Value):argsOk "set.__iter__" ⟨[a],[]⟩:=by
 unfold argsOk;rw[signature?_of (id:="set.__iter__") (n:=['_','_','r','e','t','i','_','_']) (o:=['t','e','s']) (by kernel_rfl) sr];kernel_rfl
theorem dG:entryFor table "set.__iter__"=some Builtin.«frozenset.__iter__» :=
 entryFor_alias (id':="frozenset.__iter__") (by kernel_rfl) (by first | rfl | decide +kernel | (unfold String.splitOn;simp +decide [String.splitOnAux])) (by decide +kernel) (by kernel_rfl)
theorem aX:Slot "set_iterator" "__next__" "set_iterator.__next__" :=
 .of (owner:="set_iterator") (n:="__next__") (by rw[typeLookup_type,builtinLookup_eq_fast];kernel_rfl) (by decide +kernel) (by decide +kernel) (by decide +kernel)
  (by first | exact .inl (by decide +kernel) | exact .inr (by decide +kernel)) (by rw[isSubtype_type];kernel_rfl)
theorem cp:entryFor table "set_iterator.__next__"=some Builtin.«set_iterator.__next__»:=entryFor_of_tree (by kernel_rfl)
theorem nF:Manifest.owners.lookup (String.ofList ['r','o','t','a','r','e','t','i','_','t','e','s'].reverse)=some Manifest.sig_set_iterator:=by kernel_rfl
theorem cI (a:Value):argsOk "set_iterator.__next__" ⟨[a],[]⟩:=by
 unfold argsOk;rw[signature?_of (id:="set_iterator.__next__") (n:=['_','_','t','x','e','n','_','_']) (o:=['r','o','t','a','r','e','t','i','_','t','e','s']) (by kernel_rfl) nF];kernel_rfl
theorem fj:Slot "set_iterator" "__iter__" "set_iterator.__iter__" :=
 .of (owner:="set_iterator") (n:="__iter__") (by rw[typeLookup_type,builtinLookup_eq_fast];kernel_rfl) (by decide +kernel) (by decide +kernel) (by decide +kernel)
  (by first | exact .inl (by decide +kernel) | exact .inr (by decide +kernel)) (by rw[isSubtype_type];kernel_rfl)
theorem ji (a:Value):argsOk "set_iterator.__iter__" ⟨[a],[]⟩:=by
 unfold argsOk;rw[signature?_of (id:="set_iterator.__iter__") (n:=['_','_','r','e','t','i','_','_']) (o:=['r','o','t','a','r','e','t','i','_','t','e','s']) (by kernel_rfl) nF];kernel_rfl
theorem hW:entryFor table "set_iterator.__iter__"=some Builtin.«dict_keyiterator.__iter__» :=
 entryFor_alias (id':="dict_keyiterator.__iter__") (by kernel_rfl) (by first | rfl | decide +kernel | (unfold String.splitOn;simp +decide [String.splitOnAux])) (by decide +kernel) (by kernel_rfl)
inductive Way(w:World)(h:Heap)(a T:Addr)(es:Array (Int × Value))(ep:Nat)(t:SetTable)(ord:List Value):Nat->Value->Prop
 | text (i:Nat):byT w=true->ord=(pickOrder (w.params.setOrder a ep) es).toList.map (·.2)->Way w h a T es ep t ord i (rawInt 0)
 | drawn (i:Nat) (ps:List Nat):byT w=false->t.plain=false->1 < es.size->IsTup h T (ps.map fun(p:Nat)=>rawInt p).toArray->ps.length=es.size->(∀(j p:Nat),ps[j]?=some p->∃e:Int × Value,es[p]?=some e/\ord[j]?=some e.2)->Way w h a T es ep t ord i (.ref T)
 | small (i sl:Nat):byT w=false->es.size <= 1->ord=es.toList.map (·.2)->(i=0->sl=0)->(∀p,0 < i->t.place[0]?=some p->sl=p + 1)->Way w h a T es ep t ord i (rawInt sl)
def cO(prog:Program)(w:World)(I a T:Addr)(o:Obj)(es:Array (Int × Value))(ep:Nat)(t:SetTable)(ord:List Value)(i:Nat)(h:Heap):Prop :=
 h.get? a=some o/\o.data=.set es ep t/\t.fits es.size=true/\t.led=!byT w/\ord.length=es.size/\∃f oI,Way w h a T es ep t ord i f/\h.get? I=some oI/\oI.cls=.type "set_iterator" /\oI.data=.fields #[f,rawInt (i:Int),.ref a,rawInt (es.size:Int),rawInt (ep:Int)]
section
variable{prog:Program}{w:World}{A:Around}{E:Value->Shared->Prop}{s:Shared}
theorem cO.typeIs {I a T:Addr} {o:Obj} {es:Array (Int × Value)} {ep:Nat} {t:SetTable} {ord:List Value} {i:Nat} (h:cO prog w I a T o es ep t ord i s.heap):s.TypeIs (.ref I) "set_iterator":=by
 obtain⟨_,_,_,_,_,f,oI,_,h1,h2,_⟩:=h;exact⟨oI,h1,h2⟩
theorem cE{a:Addr}{o:Obj}{es:Array (Int × Value)}{ep:Nat}{t:SetTable}{Q:Array (Int × Value)->Shared->Prop}(ho:s.heap.get? a=some o)(hd:o.data=.set es ep t)(hf:t.fits es.size=true)(h:Q es s):wpAny (model prog w) A (setEntries a) Q E s:=by
 unfold setEntries;exact wpAny_bind (wpAny_setState_of ho hd hf (wpAny_pure h))
theorem dv{Q:Bool->Shared->Prop}(h:Q (byT w) s):wpAny (model prog w) A setsByText Q E s:=by
 unfold setsByText;exact wpAny_bind (wpAny_askSetting (wpAny_pure h))
theorem kB{a:Addr}{o:Obj}{es:Array (Int × Value)}{ep:Nat}{t:SetTable}{Q:Array (Int × Value)->Shared->Prop}(hb:byT w=true)(ho:s.heap.get? a=some o)(hd:o.data=.set es ep t)(hf:t.fits es.size=true)(h:Q (pickOrder (w.params.setOrder a ep) es) s):wpAny (model prog w) A (setWalk a) Q E s:=by
 unfold setWalk;refine wpAny_bind (wpAny_setState_of ho hd hf ?_);dsimp only;refine wpAny_bind (dv ?_);rw[hb];exact wpAny_bind (wpAny_askSetting (wpAny_pure h))
theorem d7{a:Addr}{o:Obj}{es:Array (Int × Value)}{ep sl i:Nat}{t:SetTable}{Q:Option (Value × Nat)->Shared->Prop}(hb:byT w=true)(ho:s.heap.get? a=some o)(hd:o.data=.set es ep t)(hf:t.fits es.size=true)
  (h:Q (((pickOrder (w.params.setOrder a ep) es)[i]?).map fun e=>(e.2,sl)) s):wpAny (model prog w) A (setNext a sl i ep) Q E s:=by
 unfold setNext;refine wpAny_bind (wpAny_setState_of ho hd hf ?_);dsimp only;refine wpAny_bind (dv ?_);rw[hb];simp only[↓reduceIte,bne_self_eq_false,Bool.false_eq_true];exact wpAny_bind (kB hb ho hd hf (wpAny_pure h))
theorem jj{a:Addr}{o:Obj}{es:Array (Int × Value)}{ep sl i:Nat}{t:SetTable}{Q:Option (Value × Nat)->Shared->Prop}(hb:byT w=false)(hled:t.led=!byT w)(hs:es.size <= 1)(ho:s.heap.get? a=some o)(hd:o.data=.set es ep t)(hf:t.fits es.size=true)
  (h:Q (match es[SetTable.below t.place sl]?,t.place[SetTable.below t.place sl]? with | some (_,x),some j=>some (x,j + 1) | _,_=>none) s):wpAny (model prog w) A (setNext a sl i ep) Q E s:=by
 unfold setNext;refine wpAny_bind (wpAny_setState_of ho hd hf ?_);dsimp only;refine wpAny_bind (dv ?_);rw[hb];simp only[Bool.false_eq_true,↓reduceIte];have z:(!t.plain && decide (es.size > 1))=false:=by rw[decide_eq_false (by omega),Bool.and_false]
 show wpAny _ _ (if (!t.plain && decide (es.size > 1))=true then _ else _) _ _ s
 rw[if_neg (by rw[z];simp)]
 refine wpAny_bind (?_:wpAny _ _ (if (!t.led && !es.isEmpty)=true then unsupported "set:maker-not-led" else pure ()) _ _ s)
 rw[hled,hb,if_neg (by simp)]
 exact wpAny_pure (wpAny_pure h)
theorem kC{t:SetTable}{n:Nat}(hf:t.fits n=true)(hn:n=1):∃p,t.place=#[p]:=by
 have h1:t.place.size=n:=by
  simp only[SetTable.fits,Bool.and_eq_true,beq_iff_eq]at hf;exact hf.1
 obtain⟨l,hl⟩:∃l,t.place=⟨l⟩:=⟨t.place.toList,rfl⟩;rw[hl]at h1
 match l,h1 with
 | [p],_=>exact⟨p,hl⟩
 | [],h=>simp at h;omega
 | _ :: _ :: _,h=>simp at h;omega
theorem nG(p:Nat):SetTable.below #[p] 0=0:=by
 unfold SetTable.below;show SetTable.below.go #[p] 0 1 0 1=0;unfold SetTable.below.go;simp
 unfold SetTable.below.go;rfl
theorem gn(p:Nat):SetTable.below #[p] (p + 1)=1:=by
 unfold SetTable.below;show SetTable.below.go #[p] (p + 1) 1 0 1=1;unfold SetTable.below.go;simp
 unfold SetTable.below.go;rfl
theorem cO.on{I a T:Addr}{o oI:Obj}{es:Array (Int × Value)}{ep:Nat}{t:SetTable}{ord:List Value}{i:Nat}{f':Value}{h h':Heap}(hne:a ≠ I)(ho:h.get? a=some o)(hd:o.data=.set es ep t)(hf:t.fits es.size=true)(hled:t.led=!byT w)(hol:ord.length=es.size)
  (sb:Heap.SameBut I h h') (hw:Way w h' a T es ep t ord (i + 1) f') (hI:h'.get? I=some oI) (hc:oI.cls=.type "set_iterator") (hdI:oI.data=.fields #[f',rawInt ((i:Int) + 1),.ref a,rawInt (es.size:Int),rawInt (ep:Int)]):cO prog w I a T o es ep t ord (i + 1) h' :=
 ⟨(sb.2 a hne).trans ho,hd,hf,hled,hol,f',oI,hw,hI,hc,hdI⟩
theorem d6{I a T:Addr}{o:Obj}{es:Array (Int × Value)}{ep:Nat}{t:SetTable}{ord:List Value}{i:Nat}{Q:Option Value->Shared->Prop}(hI:cO prog w I a T o es ep t ord i s.heap)(hne:a ≠ I)(hlt:i < es.size)
  (hQ:∀v h',ord[i]?=some v->cO prog w I a T o es ep t ord (i + 1) h'->Heap.SameBut I s.heap h'->Q (some v) { s with heap:=h' }):wpAny (model prog w) A (pyNext (.ref I)) Q E s:=by
 have hT:=hI.typeIs;obtain⟨ho,hd,hf,hled,hol,f,oI,hw,hoI,hcI,hdI⟩:=hI;unfold pyNext;refine wpAny_bind (wpAny_attempt (wpAny_callSpecial?_slot (name:=Str.ofString "__next__") hT aX
  (wpAny_call_entry aX hT cp ?_ (cI _))))
 unfold Builtin.«set_iterator.__next__»;refine wpAny_bind (wpAny_of_eq (a:=(Value.ref I,[])) rfl ?_);dsimp only;refine wpAny_bind (wpAny_fieldsOf hoI hdI ?_);show wpAny _ _ (setEntries a >>= _) _ _ s;refine wpAny_bind (cE ho hd hf ?_);rw[if_neg (by simp)]
 cases hw with
 | text hb hord =>
  show wpAny _ _ (setNext a (0:Int).toNat (i:Int).toNat (ep:Int).toNat >>= _) _ _ s;simp only[Int.toNat_natCast];refine wpAny_bind (d7 hb ho hd hf ?_);have hsz:(pickOrder (w.params.setOrder a ep) es).size=es.size:=by
   rw[<- Array.length_toList,(cW _ _).length_eq,Array.length_toList]
  have hi:i < (pickOrder (w.params.setOrder a ep) es).size:=by omega
  rw[Array.getElem?_eq_getElem hi];dsimp only[Option.map];refine wpAny_bind (wpAny_setField hoI hdI (by simp) ?_)
  have ho2:=Heap.get?_update_self _ hoI (Obj.isFreed_of_fields (Obj.data_mapFields hdI (fun xs=>xs.set! 0 (rawInt ((0:Int).toNat:Nat)))));have hd2:=Obj.data_mapFields hdI (fun xs=>xs.set! 0 (rawInt ((0:Int).toNat:Nat)));refine wpAny_bind (wpAny_setField ho2 hd2 (by simp) ?_)
  have sb:=(Heap.SameBut.update s.heap I (Obj.mapFields fun xs=>xs.set! 0 (rawInt ((0:Int).toNat:Nat)))).trans (Heap.SameBut.update _ I (Obj.mapFields fun xs=>xs.set! 1 (rawInt ((i:Int) + 1))));have ho3:=Heap.get?_update_self _ ho2 (Obj.isFreed_of_fields (Obj.data_mapFields hd2 (fun xs=>xs.set! 1 (rawInt ((i:Int) + 1)))));refine wpAny_pure ⟨_,rfl,wpAny_pure (hQ _ _ ?_ (cO.on (f':=rawInt 0) hne ho hd hf hled hol sb (.text (i + 1) hb hord) ho3 ((Obj.cls_mapFields ..).trans ((Obj.cls_mapFields ..).trans hcI)) ?_) sb)⟩
  ·rw[hord,getElem?_map,Array.getElem?_toList,Array.getElem?_eq_getElem hi];rfl
  ·rw[Obj.data_mapFields hd2];simp
 | drawn ps hb hp h1 hT2 hl hall =>
  obtain⟨oT,hoT,hcT,nT,hdT⟩:=id hT2;have hip:i < ps.length:=by omega
  obtain⟨e,he1,he2⟩:=hall i ps[i] (getElem?_eq_getElem hip);show wpAny _ _ (seqItems? (.ref T) >>= _) _ _ s;refine wpAny_bind (wpAny_seqItems hoT hdT ?_);have hat:(ps.map fun(p:Nat)=>rawInt p).toArray[(i:Int).toNat]?=some (rawInt (ps[i]:Nat)):=by
   rw[Int.toNat_natCast,List.getElem?_toArray,getElem?_map,getElem?_eq_getElem hip];rfl
  dsimp only;rw[hat];show wpAny _ _ (setNextDrawn a ((ps[i]:Nat):Int).toNat (ep:Int).toNat >>= _) _ _ s;rw[Int.toNat_natCast,Int.toNat_natCast];refine wpAny_bind ?_;unfold setNextDrawn;refine wpAny_bind (wpAny_setState_of ho hd hf ?_);dsimp only;rw[if_neg (by simp),he1]
  refine wpAny_pure ?_;have hTI:T ≠ I:=fun e=>by
   subst e;rw[hoI]at hoT;cases hoT;rw[hcI]at hcT;exact absurd hcT (by decide)
  refine wpAny_bind (wpAny_setField hoI hdI (by simp) ?_)
  have ho2:=Heap.get?_update_self _ hoI (Obj.isFreed_of_fields (Obj.data_mapFields hdI (fun xs=>xs.set! 1 (rawInt ((i:Int) + 1)))));have sb:=Heap.SameBut.update s.heap I (Obj.mapFields fun xs=>xs.set! 1 (rawInt ((i:Int) + 1)));refine wpAny_pure ⟨_,rfl,wpAny_pure (hQ _ _ he2 (cO.on (f':=.ref T) hne ho hd hf hled hol sb (.drawn (i + 1) ps hb hp h1 ⟨oT,(sb.2 T hTI).trans hoT,hcT,nT,hdT⟩ hl hall) ho2 ((Obj.cls_mapFields ..).trans hcI) ?_) sb)⟩;rw[Obj.data_mapFields hdI];simp
 | small sl hb hs hord h0 h1 =>
  have hi0:i=0:=by omega
  have hes:es.size=1:=by omega
  subst hi0;have hsl:=h0 rfl;subst hsl;obtain⟨p,hp⟩:=kC hf hes;show wpAny _ _ (setNext a ((0:Nat):Int).toNat ((0:Nat):Int).toNat (ep:Int).toNat >>= _) _ _ s;simp only[Int.toNat_natCast];refine wpAny_bind (jj hb hled hs ho hd hf ?_);rw[hp,nG,Array.getElem?_eq_getElem (show 0 < es.size by omega)]
  show wpAny _ _ (setField (Value.ref I) 0 (rawInt ((p + 1:Nat):Int)) >>= _) _ _ s;refine wpAny_bind (wpAny_setField hoI hdI (by simp) ?_)
  have ho2:=Heap.get?_update_self _ hoI (Obj.isFreed_of_fields (Obj.data_mapFields hdI (fun xs=>xs.set! 0 (rawInt ((p + 1:Nat):Int)))));have hd2:=Obj.data_mapFields hdI (fun xs=>xs.set! 0 (rawInt ((p + 1:Nat):Int)));refine wpAny_bind (wpAny_setField ho2 hd2 (by simp) ?_)
  have sb:=(Heap.SameBut.update s.heap I (Obj.mapFields fun xs=>xs.set! 0 (rawInt ((p + 1:Nat):Int)))).trans (Heap.SameBut.update _ I (Obj.mapFields fun xs=>xs.set! 1 (rawInt (((0:Nat):Int) + 1))));have ho3:=Heap.get?_update_self _ ho2 (Obj.isFreed_of_fields (Obj.data_mapFields hd2 (fun xs=>xs.set! 1 (rawInt (((0:Nat):Int) + 1)))));refine wpAny_pure ⟨_,rfl,wpAny_pure (hQ _ _ ?_ (cO.on (f':=rawInt ((p + 1:Nat):Int)) hne ho hd hf hled hol sb (.small 1 (p + 1) hb hs hord (fun h=>by omega) (fun q _ hq=>?_)) ho3 ((Obj.cls_mapFields ..).trans ((Obj.cls_mapFields ..).trans hcI)) ?_) sb)⟩
  ·rw[hord,getElem?_map,Array.getElem?_toList,Array.getElem?_eq_getElem (show 0 < es.size by omega)];rfl
  ·rw[hp]at hq;have:p=q:=by simpa using hq
   omega
  ·rw[Obj.data_mapFields hd2];simp
theorem dH{f:Obj->Obj}{I:Addr}{Q:Option Value->Shared->Prop}{h1:Heap}(hh:A.handled=none)(hx:Heap.ExtBut I s.heap h1)
  (hQ:∀h' t',Heap.ExtBut I s.heap h'->Q none { s with heap:=h',toks:=t' }) :
  wpAny (model prog w) A.in1 (do let e <- newExc (Value.type "StopIteration") [];raiseNew e) (fun(fin:Fin) s'=>∃v,fin=Fin.done (Flow.ret v)/\wpAny (model prog w) A (pure (some v)) Q E s')
   (fun e s'=>wpAny (model prog w) A (do if <- isInstance e (Value.type "StopIteration") then pure none else throw e) Q E s') { s with heap:=h1 }:=by
 refine wpAny_bind ?_;simp only[newExc,newTuple];refine wpAny_bind (wpAny_newObj_type ?_ (by size_fits))
 refine wpAny_bind (m:=firstArgMember _ _) (wpAny_of_eq (a:=Value.none) (by first | rfl | (simp only[firstArgMember];rfl)) ?_)
 refine wpAny_newObj_type ?_ (by size_fits)
 simp only[raiseNew];refine wpAny_bind (wpAny_handled ?_)
 first | rw[show A.in1.handled=none from hh] | rw[hh]
 refine wpAny_bind (wpAny_pure (wpAny_throw ?_));refine wpAny_bind (wpAny_isInstance (T:="StopIteration") (b:=true) ⟨_,get?_push_size _ rfl,rfl⟩ isSubtype_stop ?_)
 exact wpAny_pure (hQ _ _ ((hx.push _).push _))
theorem fi{I a T:Addr}{o:Obj}{es:Array (Int × Value)}{ep:Nat}{t:SetTable}{ord:List Value}{Q:Option Value->Shared->Prop}(hh:A.handled=none)(hI:cO prog w I a T o es ep t ord es.size s.heap)
  (hQ:∀h' t',Heap.ExtBut I s.heap h'->Q none { s with heap:=h',toks:=t' }):wpAny (model prog w) A (pyNext (.ref I)) Q E s:=by
 have hT:=hI.typeIs;obtain⟨ho,hd,hf,hled,hol,f,oI,hw,hoI,hcI,hdI⟩:=hI;unfold pyNext;refine wpAny_bind (wpAny_attempt (wpAny_callSpecial?_slot (name:=Str.ofString "__next__") hT aX
  (wpAny_call_entry aX hT cp ?_ (cI _))))
 unfold Builtin.«set_iterator.__next__»;refine wpAny_bind (wpAny_of_eq (a:=(Value.ref I,[])) rfl ?_);dsimp only;refine wpAny_bind (wpAny_fieldsOf hoI hdI ?_);show wpAny _ _ (setEntries a >>= _) _ _ s;refine wpAny_bind (cE ho hd hf ?_);rw[if_neg (by simp)]
 cases hw with
 | text hb hord =>
  show wpAny _ _ (setNext a (0:Int).toNat (es.size:Int).toNat (ep:Int).toNat >>= _) _ _ s;simp only[Int.toNat_natCast];refine wpAny_bind (d7 hb ho hd hf ?_);have hsz:(pickOrder (w.params.setOrder a ep) es).size=es.size:=by
   rw[<- Array.length_toList,(cW _ _).length_eq,Array.length_toList]
  rw[Array.getElem?_eq_none (by omega)]
  show wpAny _ _ (setField (Value.ref I) 2 Value.none >>= _) _ _ s;refine wpAny_bind (wpAny_setField hoI hdI (by simp) ?_)
  exact dH (s:=s) (f:=id) hh (Heap.SameBut.update s.heap I (Obj.mapFields fun xs=>xs.set! 2 Value.none)).extBut hQ
 | drawn ps hb hp h1 hT2 hl hall =>
  obtain⟨oT,hoT,hcT,nT,hdT⟩:=id hT2;show wpAny _ _ (seqItems? (.ref T) >>= _) _ _ s;refine wpAny_bind (wpAny_seqItems hoT hdT ?_);have hat:(ps.map fun(p:Nat)=>rawInt p).toArray[(es.size:Int).toNat]?=none:=by
   rw[Int.toNat_natCast,List.getElem?_toArray,List.getElem?_eq_none (by rw[length_map];omega)]
  dsimp only;rw[hat];show wpAny _ _ (setField (Value.ref I) 0 (rawInt 0) >>= _) _ _ s;refine wpAny_bind (wpAny_setField hoI hdI (by simp) ?_)
  have ho2:=Heap.get?_update_self _ hoI (Obj.isFreed_of_fields (Obj.data_mapFields hdI (fun xs=>xs.set! 0 (rawInt 0))));have hd2:=Obj.data_mapFields hdI (fun xs=>xs.set! 0 (rawInt 0));refine wpAny_bind (wpAny_setField ho2 hd2 (by simp) ?_)
  exact dH (s:=s) (f:=id) hh ((Heap.SameBut.update s.heap I (Obj.mapFields fun xs=>xs.set! 0 (rawInt 0))).trans (Heap.SameBut.update _ I (Obj.mapFields fun xs=>xs.set! 2 Value.none))).extBut hQ
 | small sl hb hs hord h0 h1 =>
  show wpAny _ _ (setNext a (sl:Int).toNat (es.size:Int).toNat (ep:Int).toNat >>= _) _ _ s;simp only[Int.toNat_natCast];refine wpAny_bind (jj hb hled hs ho hd hf ?_);have hnone:es[SetTable.below t.place sl]?=none:=by
   by_cases hes:es.size=1
   ·obtain⟨p,hp⟩:=kC hf hes;have:=h1 p (by omega) (by rw[hp];rfl)
    rw[hp,this,gn];exact Array.getElem?_eq_none (by omega)
   ·exact Array.getElem?_eq_none (by omega)
  rw[hnone];show wpAny _ _ (setField (Value.ref I) 2 Value.none >>= _) _ _ s;refine wpAny_bind (wpAny_setField hoI hdI (by simp) ?_)
  exact dH (s:=s) (f:=id) hh (Heap.SameBut.update s.heap I (Obj.mapFields fun xs=>xs.set! 2 Value.none)).extBut hQ
theorem du{I a T:Addr}{o:Obj}{es:Array (Int × Value)}{ep:Nat}{t:SetTable}{ord:List Value}{i:Nat}{Q:Value->Shared->Prop}(hI:cO prog w I a T o es ep t ord i s.heap)(h:Q (.ref I) s):wpAny (model prog w) A (pyIter (.ref I)) Q E s:=by
 refine wpAny_pyIter_slot hI.typeIs fj (wpAny_call_entry fj hI.typeIs hW ?_ (ji _));show wpAny _ _ (ret (.ref I)) _ _ s;exact wpAny_pure ⟨_,rfl,"set_iterator",_,hI.typeIs,aX.lookup,h⟩
end
theorem Way.at{w:World}{h h':Heap}{a T:Addr}{es:Array (Int × Value)}{ep:Nat}{t:SetTable}{ord:List Value}{i:Nat}{f:Value}(x:Way w h a T es ep t ord i f)(k:∀o,h.get? T=some o->h'.get? T=some o):Way w h' a T es ep t ord i f:=by
 cases x with
 | text h1 h2=>exact .text _ h1 h2
 | drawn ps h1 h2 h3 h4 h5 h6 =>
  obtain⟨o,e,r⟩:=h4;exact .drawn _ ps h1 h2 h3 ⟨o,k _ e,r⟩ h5 h6
 | small sl h1 h2 h3 h4 h5=>exact .small _ sl h1 h2 h3 h4 h5
theorem nJ{prog:Program}{w:World}{A:Around}(hh:A.handled=none)(I a T:Addr)(hne:a ≠ I)(o:Obj)(es:Array (Int × Value))(ep:Nat)(t:SetTable)(ord:List Value) :
  Walks prog w A I [I,a,T] [I] es.size (fun i v=>ord[i]?=some v) (fun i h=>cO prog w I a T o es ep t ord i h) where
 sub:=fun b hb=>by simp at hb;simp[hb]
 frame:=fun i h h' st hk=>by
  obtain⟨h1,h2,h3,h4,h5,f,oI,h6,h7,h8,h9⟩:=st;exact⟨hk a (by simp) _ h1,h2,h3,h4,h5,f,oI,h6.at fun o e=>hk T (by simp) o e,hk I (by simp) _ h7,h8,h9⟩
 item:=fun i s Q E hi st hQ=>d6 st hne hi fun v h' hv st' sb=>hQ v h' s.toks hv st' fun b o hb e=>(sb.2 b (fun z=>hb (by simp[z]))).trans e
 done:=fun s Q E st hQ=>fi hh st fun h' t' he=>hQ h' t' fun b o hb e=>he b o (fun z=>hb (by simp[z])) e
 self:=fun i s Q E st hQ=>du st hQ
section
variable{prog:Program}{w:World}{A:Around}{E:Value->Shared->Prop}{s:Shared}
theorem jk{a:Addr}{o:Obj}{es:Array (Int × Value)}{ep:Nat}{t:SetTable}{Q:Bool->Shared->Prop}(ho:s.heap.get? a=some o)(hd:o.data=.set es ep t)(hf:t.fits es.size=true)(h:Q (!byT w && (!t.plain && decide (es.size > 1))) s):wpAny (model prog w) A (setDrawn a) Q E s:=by
 unfold setDrawn;refine wpAny_bind (wpAny_setState_of ho hd hf ?_);dsimp only;refine wpAny_bind (dv ?_);exact wpAny_pure h
theorem uC{es:List (Int × Value)}(hel:ElemsOf (PySem.strKind prog w) es):StrsAre (es.map (·.2)) (es.map fun e=>txt e.2):=by
 induction es with
 | nil=>exact .nil
 | cons e r ih =>
  obtain⟨t,ht⟩:=Value.isStrOf_shape (show Value.isStrOf (txt e.2) e.2=true from uz hel (List.mem_cons_self ..));have:=ih fun x hx=>hel x (List.mem_cons_of_mem _ hx);show StrsAre (e.2 :: r.map (·.2)) (txt e.2 :: r.map fun e=>txt e.2);generalize txt e.2=y at ht ⊢;rw[ht];exact .cons _ _ this
theorem kD{vs:List Value}{ws:List Value}(hp:vs.Perm ws):∀{ys:List Str},StrsAre ws ys->∃zs,StrsAre vs zs/\zs.Perm ys:=by
 induction hp with
 | nil=>intro ys h;exact⟨ys,h,List.Perm.refl _⟩
 | cons x _ ih =>
  intro ys h;cases h with
  | cons y t h =>
   obtain⟨zs,h1,h2⟩:=ih h;exact⟨y :: zs,.cons _ _ h1,h2.cons _⟩
 | swap x y l =>
  intro ys h;cases h with
  | cons a t h =>
   cases h with
   | cons b u h=>exact⟨b :: a :: _,.cons _ _ (.cons _ _ h),List.Perm.swap _ _ _⟩
 | trans _ _ ih1 ih2 =>
  intro ys h;obtain⟨zs,h1,h2⟩:=ih2 h;obtain⟨us,h3,h4⟩:=ih1 h1;exact⟨us,h3,h4.trans h2⟩
theorem gp{a:Addr}{ks:List Str}{Q:Value->Shared->Prop}(hS:iB prog w s.heap a ks)
  (h:∀(o:Obj) (es:Array (Int × Value)) (ep:Nat) (t:SetTable) (ord:List Value) (zs:List Str) (I T:Addr) (h':Heap) (d':Drawn),cO prog w I a T o es ep t ord 0 h'->es.size=ks.length->StrsAre ord zs->zs.Perm ks->s.heap.objs.size <= I->(T=a\/s.heap.objs.size <= T)->(∀b o,s.heap.get? b=some o->h'.get? b=some o)->Q (.ref I) { s with heap:=h',drawn:=d' }) :
  wpAny (model prog w) A (pyIter (.ref a)) Q E s:=by
 obtain⟨o,es,ep,t,ho,hex,hd,hel,hf,hpl,hled,hperm,hnd,hks⟩:=hS;have hT:s.TypeIs (.ref a) "set":=⟨o,ho,hex.1⟩;have hsz:es.size=ks.length:=by rw[<- hperm.length_eq,length_map,Array.length_toList]
 have hst:=uC hel;refine wpAny_pyIter_slot hT cJ (wpAny_call_entry cJ hT dG ?_ (d5 _));unfold Builtin.«frozenset.__iter__»;refine wpAny_bind (wpAny_of_eq (a:=a) rfl ?_);refine wpAny_bind (?_:wpAny _ _ (Builtin.Frozenset.sizeOf a) _ _ s);unfold Builtin.Frozenset.sizeOf;refine wpAny_bind (cE ho hd hf (wpAny_pure ?_));refine wpAny_bind (jk ho hd hf ?_);by_cases hdr:(!byT w && (!t.plain && decide (es.size > 1)))=true
 ·rw[hdr];have hb:byT w=false:=by
   rw[Bool.and_eq_true]at hdr;simpa using hdr.1
  have hp:t.plain=false/\1 < es.size:=by
   rw[Bool.and_eq_true,Bool.and_eq_true]at hdr;exact⟨by simpa using hdr.2.1,by simpa using hdr.2.2⟩
  simp only[↓reduceIte];refine wpAny_bind (draw es.size (List.range es.size) s (by rw[List.length_range]) fun ps d' hps=>?_)
  have hpl2:ps.length=es.size:=by rw[hps.length_eq,List.length_range]
  have hlen16:es.size <= sizeLine:=by rw[sizeLine_eq];omega
  refine wpAny_bind (m:=newObj (.type "tuple") (.seq (ps.map fun(i:Nat)=>rawInt i).toArray)) (wpAny_newObj_type ?_ (by show (List.map (fun(i:Nat)=>rawInt i) ps).toArray.size <= sizeLine;rw[size_toArray,length_map];omega))
  have ho1:(s.heap.push { cls:=.type "tuple",data:=.seq (ps.map fun(i:Nat)=>rawInt i).toArray }).get? a=some o:=get?_push_of_some _ ho;refine wpAny_bind (wpAny_setEpoch_of (s:={ s with heap:=s.heap.push { cls:=.type "tuple",data:=.seq (ps.map fun(i:Nat)=>rawInt i).toArray },drawn:=d' }) ho1 hd hf ?_);refine wpAny_bind (m:=newObj (.type "set_iterator") (.fields #[.ref s.heap.objs.size,rawInt 0,.ref a,rawInt (es.size:Int),rawInt (ep:Int)])) (wpAny_newObj_type ?_);have hperm2:(ps.map fun p=>(es.toList.map (·.2)).getD p .none).Perm (es.toList.map (·.2)):=by
   refine(hps.map _).trans ?_;have e:(List.range es.size).map (fun p=>(es.toList.map (·.2)).getD p Value.none)=es.toList.map (·.2):=by
    refine List.ext_getElem (by simp) fun i h1 h2=>?_
    rw[List.getElem_map,List.getElem_range,getD_eq_getElem?_getD,getElem?_eq_getElem h2];rfl
   rw[e]
  obtain⟨zs,hz1,hz2⟩:=kD hperm2 hst;have hi1:=Heap.size_push s.heap { cls:=.type "tuple",data:=.seq (ps.map fun(i:Nat)=>rawInt i).toArray };refine wpAny_pure ⟨_,rfl,"set_iterator",_,⟨_,get?_push_size _ rfl,rfl⟩,aX.lookup,h o es ep t (ps.map fun p=>(es.toList.map (·.2)).getD p .none) zs _ s.heap.objs.size _ d' ⟨get?_push_of_some _ ho1,hd,hf,hled,by rw[length_map];exact hpl2,_,_,.drawn 0 ps hb hp.1 hp.2 ?_ hpl2 (fun j p hj=>?_),get?_push_size _ rfl,rfl,rfl⟩ hsz hz1 (hz2.trans hperm) (by rw[hi1];exact Nat.le_succ _) (.inr (Nat.le_refl _)) fun b o e=>get?_push_of_some _ (get?_push_of_some _ e)⟩
  ·exact⟨_,get?_push_of_some _ (get?_push_size _ rfl),rfl,_,rfl⟩
  ·have hpr:p < es.size:=List.mem_range.mp (hps.mem_iff.mp (mem_of_getElem? hj));refine⟨es[p],Array.getElem?_eq_getElem hpr,?_⟩
   rw[getElem?_map,hj];show some ((es.toList.map (·.2)).getD p .none)=_;rw[getD_eq_getElem?_getD,getElem?_map,Array.getElem?_toList,Array.getElem?_eq_getElem hpr];rfl
 ·rw[Bool.not_eq_true]at hdr;rw[hdr];simp only[Bool.false_eq_true,↓reduceIte];refine wpAny_bind (wpAny_pure ?_);refine wpAny_bind (wpAny_setEpoch_of ho hd hf ?_);refine wpAny_bind (m:=newObj (.type "set_iterator") (.fields #[rawInt 0,rawInt 0,.ref a,rawInt (es.size:Int),rawInt (ep:Int)])) (wpAny_newObj_type ?_);cases hb:byT w with
  | true =>
   have hperm2:((pickOrder (w.params.setOrder a ep) es).toList.map (·.2)).Perm (es.toList.map (·.2)):=(cW _ es).map _;obtain⟨zs,hz1,hz2⟩:=kD hperm2 hst;exact wpAny_pure ⟨_,rfl,"set_iterator",_,⟨_,get?_push_size _ rfl,rfl⟩,aX.lookup,h o es ep t _ zs _ a _ s.drawn ⟨get?_push_of_some _ ho,hd,hf,hled,by rw[hperm2.length_eq,length_map,Array.length_toList],_,_,.text 0 hb rfl,get?_push_size _ rfl,rfl,rfl⟩ hsz hz1 (hz2.trans hperm) (Nat.le_refl _) (.inl rfl) fun b o e=>get?_push_of_some _ e⟩
  | false =>
   have hs1:es.size <= 1:=by
    rw[hb]at hdr;rcases hpl with h0 | h0
    ·omega
    ·rw[h0]at hdr;simpa using hdr
   exact wpAny_pure ⟨_,rfl,"set_iterator",_,⟨_,get?_push_size _ rfl,rfl⟩,aX.lookup,h o es ep t _ _ _ a _ s.drawn ⟨get?_push_of_some _ ho,hd,hf,hled,by rw[length_map,Array.length_toList],_,_,.small 0 0 hb hs1 rfl (fun _=>rfl) (fun p h0=>by omega),get?_push_size _ rfl,rfl,rfl⟩ hsz hst hperm (Nat.le_refl _) (.inl rfl) fun b o e=>get?_push_of_some _ e⟩
theorem qS:typeLookup (.type "set") "__len__"=pure (some (.builtin "set.__len__")):=by rw[typeLookup_type,builtinLookup_eq_fast];kernel_rfl
theorem jm {r:Addr} {Q:Bool->Shared->Prop} (hT:s.TypeIs (.ref r) "set") (h:Q false s):wpAny (model prog w) A (Builtin.List.listLengthHint (.ref r)) Q E s:=by
 unfold Builtin.List.listLengthHint;refine wpAny_bind (wpAny_specialOf hT qS ?_);generalize hid:("set.__len__":String)=id0
 wp_delta
 rw[show splitId id0=some ("set","__len__") from by subst hid;decide +kernel]
 subst hid;refine wpAny_bind (wpAny_isInstance (T:="set") (b:=true) hT (by rw[isSubtype_type];kernel_rfl) ?_)
 refine wpAny_ite_split (fun hab=>absurd hab (by decide)) (fun _=>?_)
 refine wpAny_ite_split (fun _=>?_) (fun hab=>absurd (by decide +kernel) hab)
 refine wpAny_bind (wpAny_typeOf hT ?_);exact wpAny_pure h
theorem fk{a:Addr}{ks:List Str}{R:List Value->Shared->Prop}(hh:A.handled=none)(hS:iB prog w s.heap a ks)
  (h:∀(h':Heap)(tk:Nat)(d':Drawn)(vs:List Value)(zs:List Str),(∀b o,s.heap.get? b=some o->h'.get? b=some o)->StrsAre vs zs->zs.Perm ks->R vs { s with heap:=h',toks:=tk,drawn:=d' }) :
  wpAny (model prog w) A (collect (.ref a)) R E s:=by
 unfold collect;refine wpAny_bind (wpAny_runValue (codeAny_builtin PyProof.Rows.entry_proto_collect' ?_));rw[Around.under_plainId PySem.F.plain_proto_collect _];show wpAny _ A.in1 (newList [] >>= fun l=>again (.builtin "list.__iadd__" ⟨[l,.ref a],[]⟩)) _ _ s;refine wpAny_bind (wpAny_newObj_type ?_);refine wpAny_pure ⟨plainId_quiet PySem.F.plain_list_iadd _,codeAny_builtin PyProof.Rows.entry_list_iadd' ?_⟩;rw[Around.under_plainId PySem.F.plain_list_iadd _];have hL:(s.heap.push { cls:=.type "list",data:=.seq ([]:List Value).toArray }).get? s.heap.objs.size=some { cls:=.type "list",data:=.seq #[] }:=get?_push_size _ rfl;show wpAny _ A.in1 (Builtin.List.listExtendWith (.ref s.heap.objs.size) (.ref a) (.ref s.heap.objs.size)) _ _ _;have hal:a < s.heap.objs.size:=by obtain⟨o,_,_,_,ho,_⟩:=hS;exact lt_size ho
 have hS1:iB prog w (s.heap.push { cls:=.type "list",data:=.seq ([]:List Value).toArray }) a ks:=by
  obtain⟨o,es,ep,t,ho,r⟩:=hS;exact⟨o,es,ep,t,get?_push_of_some _ ho,r⟩
 have hT1:Shared.TypeIs { s with heap:=s.heap.push { cls:=.type "list",data:=.seq ([]:List Value).toArray } } (.ref a) "set":=by
  obtain⟨o,_,_,_,ho,hex,_⟩:=hS1;exact⟨o,ho,hex.1⟩
 unfold Builtin.List.listExtendWith;refine wpAny_bind (wpAny_typeOf (T:="set") hT1 ?_);have h1:Builtin.List.listSameRef (.ref s.heap.objs.size) (.ref a)=false:=by simp[Builtin.List.listSameRef,Nat.ne_of_gt hal]
 have h2:(Value.type "set" == Value.type "list")=false:=by decide
 have h3:(Value.type "set" == Value.type "tuple")=false:=by decide
 simp only[h1,h2,h3,Bool.or_false,Bool.false_eq_true,if_false];refine wpAny_bind (gp hS1 fun o es ep t ord zs I T h' d' hI hsz hst hzp hI1 hT2 hk=>?_);have hsz1:=Heap.size_push s.heap { cls:=.type "list",data:=.seq ([]:List Value).toArray };have hI1:s.heap.objs.size + 1 <= I:=by rw[<- hsz1];exact hI1
 have hT2:T=a\/s.heap.objs.size + 1 <= T:=by rw[<- hsz1];exact hT2
 have hks:ks.length < 1000:=by obtain⟨_,_,_,_,_,_,_,_,_,_,_,_,_,hks⟩:=hS;exact hks
 have hL2:=hk _ _ hL;have hT3:Shared.TypeIs { s with heap:=h',drawn:=d' } (.ref a) "set":=by
  obtain⟨o,ho,hc⟩:=hT1;exact⟨o,hk _ _ ho,hc⟩
 have hne:a ≠ I:=Nat.ne_of_lt (Nat.lt_of_lt_of_le hal (Nat.le_of_succ_le hI1));have hSf:s.heap.objs.size ∉ [I,a,T]:=by
  simp only[List.mem_cons,not_mem_nil,or_false,not_or];exact⟨Nat.ne_of_lt hI1,Nat.ne_of_gt hal,by
   cases hT2 with
   | inl e=>exact e ▸ Nat.ne_of_gt hal
   | inr e=>exact Nat.ne_of_lt e⟩
 refine wpAny_bind (wpAny_holding (jm hT3 ?_));have key:∀(h2:Heap)(c1:Nat),cO prog w I a T o es ep t ord 0 h2->(∀b ob,b ≠ s.heap.objs.size->h'.get? b=some ob->h2.get? b=some ob)->h2.get? s.heap.objs.size=some { cls:=.type "list",data:=.seq #[] c1 } ->
   codeAny (model prog w) A (.builtin "list.extend.loop" ⟨[.ref s.heap.objs.size,.ref I,.ref s.heap.objs.size],[]⟩) (fun(q:Result)(s':Shared)=>∃(h3:Heap)(tk:Nat)(acc:Array Value)(c:Nat),q=.ok (.ret (.ref s.heap.objs.size))/\s'={ s with heap:=h3,toks:=tk,drawn:=d' } /\
    (∀b ob,s.heap.get? b=some ob->h3.get? b=some ob)/\h3.get? s.heap.objs.size=some { cls:=.type "list",dict:=none,data:=.seq acc c,slots:=#[] }/\acc.toList=ord) { s with heap:=h2,drawn:=d' }:=by
  intro h2 c1 hI2 hk2 hL3;refine codeAny_extend_loopS (nJ (prog:=prog) (w:=w) (A:=A.in1) hh I a T hne o es ep t ord).toS (by rw[sizeLine_eq];omega) s.heap.objs.size hSf (.ref s.heap.objs.size) es.size 0 _ #[] c1 rfl (Nat.zero_le _) hI2 hL3 (ItemsOf.nil _) fun s' acc' c' hm hS' hacc=>?_
  obtain⟨h3,g3,d3,tk3,os3⟩:=s';have eg:g3=s.gens:=hm.gens;have ed:d3=d':=hm.drawn;have eo:os3=s.os:=hm.os;subst eg;subst ed;subst eo;refine⟨h3,tk3,acc',c',rfl,rfl,fun b ob e=>?_,hS',?_⟩
  ·have hb:=lt_size e;refine hm.heap b ob ?_ (hk2 b ob (Nat.ne_of_lt hb) (hk b ob (get?_push_of_some _ e)))
   simp only[List.mem_cons,not_mem_nil,or_false,not_or];exact⟨Nat.ne_of_lt hb,Nat.ne_of_lt (Nat.lt_trans hb hI1)⟩
  ·obtain⟨_,_,_,_,hol,_⟩:=hI2;refine List.ext_getElem? fun j=>?_;by_cases hj:j < es.size
   ·have hj2:j < acc'.size:=by rw[hacc.1];exact hj
    have:=hacc.2 j acc'[j] (Array.getElem?_eq_getElem hj2);rw[this,Array.getElem?_toList,Array.getElem?_eq_getElem hj2]
   ·rw[List.getElem?_eq_none (by rw[Array.length_toList,hacc.1];omega),List.getElem?_eq_none (by omega)]
 have fin:∀(q:Result)(s':Shared),(∃(h3:Heap)(tk:Nat)(acc:Array Value)(c:Nat),q=.ok (.ret (.ref s.heap.objs.size))/\s'={ s with heap:=h3,toks:=tk,drawn:=d' } /\
    (∀b ob,s.heap.get? b=some ob->h3.get? b=some ob)/\h3.get? s.heap.objs.size=some { cls:=.type "list",dict:=none,data:=.seq acc c,slots:=#[] }/\acc.toList=ord)->True:=fun _ _ _=>trivial
 refine wpAny_ite_split (fun _=>?_) (fun hn=>absurd (by decide) hn)
 refine wpAny_bind (wpAny_rule ?_);refine wpAny_bind ?_;show wpAny _ _ (updateSeq s.heap.objs.size (·.push .none) >>= fun _=>updateSeq s.heap.objs.size (·.pop)) _ _ _;refine wpAny_bind (wpAny_updateSeq (s:={ s with heap:=h',drawn:=d' }) hL2 rfl ?_);have hL4:=Heap.get?_update_self (Obj.mapSeq (·.push Value.none)) hL2 rfl;refine wpAny_updateSeq (hz:=by seq_fits) hL4 rfl ?_
 have hL5:=Heap.get?_update_self (Obj.mapSeq (·.pop)) hL4 rfl;have oth:∀b ob,b ≠ s.heap.objs.size->h'.get? b=some ob->((h'.update s.heap.objs.size (Obj.mapSeq (·.push Value.none))).update s.heap.objs.size (Obj.mapSeq (·.pop))).get? b=some ob:=fun b ob hb e=>(Heap.get?_update_other _ _ (Ne.symm hb)).trans ((Heap.get?_update_other _ _ (Ne.symm hb)).trans e);refine wpAny_pure ⟨plainId_quiet PySem.F.plain_extend_loop _,codeAny_mono (key _ _ ((nJ (prog:=prog) (w:=w) (A:=A.in1) hh I a T hne o es ep t ord).frame 0 _ _ hI fun b hb ob e=>oth b ob (fun z=>hSf (z ▸ hb)) e) oth hL5) fun q s' x=>?_⟩;obtain⟨h3,tk,acc,c,rfl,rfl,hk3,hL6,hacc⟩:=x;show wpAny _ A (load s.heap.objs.size >>= _) _ _ _;refine wpAny_bind (wpAny_load hL6 ?_);refine wpAny_pure ?_;rw[hacc];exact h h3 tk d' ord zs hk3 hst hzp
end
end L2.ST
namespace L2
open PySem PySem.Spec PyProof.Rows
section
variable{X:Cx}
theorem Inv.drawnAs{pins:List (Addr × Obj)}{σ:St}{H:Hp}{s:Shared}{d:Drawn}(I:Inv X pins σ H s):Inv X pins σ H { s with drawn:=d } :=
 ⟨I.ok,I.os,I.bare,I.base,I.loc,I.cell,I.free,I.freeC,I.pin,I.hok,I.len⟩
theorem kE:∀{xs:List Str}{us:List Value},aY (xs.map V.str) us->StrsAre us xs
 | [],[],_=>.nil
 | x :: xs,[],r=>nomatch r
 | [],u :: us,r=>nomatch r
 | x :: xs,u :: us,.cons h t=>by
  obtain⟨k,rfl⟩:=h;exact .cons x k (kE t)
def tSS(K:Frag)(te:TE):TE:=fun σ H Q=>te σ H fun x H1=>∃(p:Addr)(xs:List Str),x=.ref p/\SqT K H1 p (xs.map V.str)/\xs.length < 64 /\
 ∀(l:Addr)(zs:List Str),H1 l=none->zs.Pairwise leS->zs.Nodup->(∀z,z ∈ zs ↔ z ∈ xs)->Q (.ref l) (upd H1 l (.lst (zs.map V.str)))
theorem gq {e:Expr} {te:TE} {p1 p2 p3 pos:Pos} (hc:X.calm=true) (he:PE X e te) (hg1:Gl X "sorted") (hm1:X.mg "sorted"=none) (hg2:Gl X "set") (hm2:X.mg "set"=none)
  (hs1:starEach [.Call (.Name "set" p2) [e] [] p3] X.env=[(false,eval (.Call (.Name "set" p2) [e] [] p3) X.env)]:=by rfl) (hs2:starEach [e] X.env=[(false,eval e X.env)]:=by rfl) :
  PE X (.Call (.Name "sorted" p1) [.Call (.Name "set" p2) [e] [] p3] [] pos) (tSS X.K te):=by
 intro pins s σ H Q I h;refine Call_ (dB I hg1 hm1 (show bootBuiltins "sorted"=some (.builtin "sorted") by decide +kernel) (PyProof.Rows.callWith_builtin1 (gI hs1 ?_) hs1 rfl))
 refine Call_ (dB I hg2 hm2 (show bootBuiltins "set"=some (.type "set") by decide +kernel) (PyProof.Rows.callWith_type1 (gI hs2 ?_) hs2 rfl))
 refine thn (he pins s σ H _ I h) fun u s1 ⟨x,H1,I1,r1,p,xs,ex,hp,h64,q⟩=>?_;subst ex;cases r1;obtain⟨its,rr,pl,hz⟩:=I1.tuple hp;have hh:X.A.handled=none:=I1.ok.hd hc;refine ST.jh hh pl (by simpa using kE rr) (by omega) fun h1 tk1 hS hk1=>?_
 have I2:Inv X pins σ H1 { s1 with heap:=h1,toks:=tk1 }:=I1.kept (t':=tk1) fun b u e=>hk1 b u (lt_size e) e;refine Calls.call_function_entry kind_sorted plain_sorted entry_sorted (args_sorted1 _) ?_;unfold Builtin.«sorted»;refine wpAny_bind (m:=checkCount "sorted" 1 1 _) (wpAny_pure ?_);refine wpAny_bind (ST.fk (A:=X.A.in1) hh hS fun h' tk d' vs ss hk hSt hpm=>?_);have hnd:(ST.dd xs).Nodup:=by obtain⟨_,_,_,_,_,_,_,_,_,_,_,_,hn,_⟩:=hS;exact hn
 have hmem:∀z,z ∈ ss ↔ z ∈ xs:=fun z=>by
  rw[hpm.mem_iff];have:=ST.o8 xs xs.length z
  rwa [List.take_length]at this
 have hsl:ss.length <= xs.length:=nj ((hpm.nodup_iff).mpr hnd) fun z hz=>(hmem z).mp hz;have hvl:vs.length=ss.length:=StrsAre.length hSt;have I3:Inv X pins σ H1 { s1 with heap:=h',toks:=tk,drawn:=d' }:=(I2.kept (h':=h') (t':=tk) hk).drawnAs;refine wpAny_bind (wpAny_newList ?_ (by rw[hvl,sizeLine_eq];omega))
 have hoL:(h'.push { cls:=.type "list",data:=.seq vs.toArray }).get? h'.objs.size=some (seqObj "list" vs.toArray 0):=get?_push_size _ rfl;refine wpAny_bind (wpAny_holding (wpAny_call_entry slot_list_sort ⟨_,hoL,rfl⟩ entry_list_sort (list_sort_treeK strKind_oneLt hoL hSt.keysOf (fun v₁ v₂ rest e=>keyKind_strs (by rw[<- e];exact hSt)) (by omega) fun st' hp hs=>⟨_,rfl,?_⟩) (args_list_sort _)))
 obtain⟨ss',g1,g2,g3⟩:=dS hSt hp hs;refine wpAny_pure ⟨_,rfl,?_⟩;obtain⟨e,he⟩:=sortedHeap_at (out:=(arrOf st').map (·.2)) hoL;refine⟨.ref h'.objs.size,_,I3.laid (t':=tk) (a:=h'.objs.size) (o:=.lst (ss'.map V.str)) (fun b o e=>?_) (Nat.le_refl _) ?_,rfl,q h'.objs.size ss' (I3.hok.fresh (Nat.le_refl _)) g3 ((g2.nodup_iff).mpr ((hpm.nodup_iff).mpr hnd)) fun z=>by rw[g2.mem_iff];exact hmem z⟩
 ·have hb:=lt_size e;rw[sortedHeap_old (Nat.ne_of_lt hb) (by rw[Heap.size_push];exact Nat.lt_succ_of_lt hb)]
  exact get?_push_of_some _ e
 ·exact⟨by rw[length_map,g2.length_eq,sizeLine_eq];omega,((arrOf st').map (·.2)).toList,e,hJ g1,by rw[Array.toArray_toList];exact he⟩
theorem uD{a b:Str}(h1:leS a b)(h2:leS b a):a=b:=by
 unfold leS at h1 h2;rw[ltCps_eq,decide_eq_false_iff_not]at h1 h2;have:a.cps.toList=b.cps.toList:=List.le_antisymm (List.not_lt.mp h1) (List.not_lt.mp h2);cases a with | mk x=>cases b with | mk y=>exact congrArg Str.mk (Array.toList_inj.mp this)
theorem nM{xs ys:List Str}(h1:xs.Pairwise leS)(h2:ys.Pairwise leS)(n1:xs.Nodup)(n2:ys.Nodup)(h:∀z,z ∈ xs ↔ z ∈ ys):xs=ys :=
 List.Perm.eq_of_pairwise (fun a b _ _=>uD) h1 h2 ((List.perm_ext_iff_of_nodup n1 n2).mpr h)
end
end L2
namespace L2.ZT
open PySem PySem.Spec PyProof.Rows
section
variable{prog:Program}{w:World}{A:Around}{E:Value->Shared->Prop}{s:Shared}
section
variable{z TI TO p r a b:Addr}{us vs:Array Value}{o1 o2:Value}{m n:Nat}
end
end
end L2.ZT
namespace L2
open PySem PySem.Spec PyProof.Rows
section
variable{X:Cx}
end
section
variable{X:Cx}
end
def tJoin(t:TS):TS:=fun D σ H=>∃J:St->Hp->Prop,t { D with nx:=J } σ H/\∀σ' H',J σ' H'->D.nx σ' H'
theorem li{X:Cx}{st:Stmt}{t:TS}(h:PS X st t):PS X st (tJoin t):=by
 intro pins s σ H D I hh;obtain⟨J,h1,h2⟩:=hh;refine thn (h pins s σ H { D with nx:=J } I h1) fun f s1 q=>?_;cases f with
 | next =>
  obtain⟨σ',H',I',q⟩:=q;exact⟨σ',H',I',h2 _ _ q⟩
 | ret v=>exact q
 | brk=>exact q
 | cont=>exact q
section
variable{P:Program}{w:World}{H H' H1 H2:Hp}{h h0 h1 h2 B:Heap}{a:Addr}{o:HO}{fs:List Addr}
end
section
variable{X:Cx}{pins:List (Addr × Obj)}{σ:St}{H H2:Hp}{s s':Shared}
end
section
variable{P:Program}{w:World}{K:Frag}{mg:Str->Option Value}{base:Heap}{N:List Str}{qual:Str}{scope:Scope}{f:Addr}{cd:Value}{A:Around}{outer:List Env}{s:Shared}{H:Hp}{E:XK}
end
noncomputable def bmV:List Value:=[.type "ValueError",.type "Exception",.type "BaseException",.type "object"]
section
variable{X:Cx}{pins pins':List (Addr × Obj)}{xe:Value->Shared->Prop}{σ:St}{H:Hp}{s:Shared}{ea:Addr}
end
section
variable{P:Program}{w:World}{K:Frag}{mg:Str->Option Value}{base:Heap}
end
section
variable{prog:Program}{w:World}{A:Around}{E:Value->Shared->Prop}{h:Heap}{g:Array GenState}{d:Drawn}{t:Nat}{os:OsState}{K:Frag}{x C:Addr}{ox:Obj}
end
section
end
section
variable{X:Cx}
end
section
variable{X:Cx}
structure PAW(X:Cx)(es:List Expr)(t:TA):Prop where
 h:PA X es t
structure PEW(X:Cx)(e:Expr)(t:TE):Prop where
 h:PE X e t
theorem qT:PAW X [] tNil:=⟨ad⟩
theorem cq{e:Expr}{es:List Expr}{te:TE}{t:TA}(he:PE X e te)(ha:PAW X es t)(hs:starEach (e :: es) X.env=(false,eval e X.env) :: starEach es X.env:=by rfl):PAW X (e :: es) (tCons te t):=⟨ab he ha.h hs⟩
theorem nP{es:List Expr}{b:Expr}{t:TA}{tb:TE}{p1 p2:Pos}(ha:PAW X es t)(hb:PE X b tb)(hs:qM b):PEW X (.Subscript (.List es p1) b p2) (tOp (rIxL X.K) (tLstA t) tb):=⟨aE cY (bg ha.h) hb hs⟩
end
section
variable{P:Program}{w:World}{K:Frag}{mg:Str->Option Value}{base:Heap}
end
section
variable{X:Cx}{k:Nat}{C:Addr}{m x:Str}{ps:List Str}{sp:Sp}{o e:Expr}{es:List Expr}{ta:TE}{t:TA}{p pos apos:Pos}{E:XK}
theorem qU{i:Nat}{x:Str}{e:Expr}{te:TE}{pos' pos:Pos}(hN:X.N.Nodup)(hi:X.N[i]?=some x)(hx:Loc X.env.scope x)(he:PEW X e te)(hs:swapsWith e (some (.Name x pos')) pos.line X.env=pure false:=by rfl)(hf:X.fn x=true\/X.env.scope.names.lookup x=some .local:=by first | exact .inl rfl | exact .inr rfl | assumption) :
  PS X (.Assign [.Name x pos'] e pos) (tAsg te (cG i)):=aB hN hi hx he.h hs hf
end
section
variable{X:Cx}
end
end L2
namespace L2.ST
open PySem PySem.Spec PyProof.Rows
section
variable{prog:Program}{w:World}{A:Around}{E:Value->Shared->Prop}{s:Shared}
end
end L2.ST
namespace L2
open PySem PySem.Spec PyProof.Rows
section
variable{X:Cx}
end
mutual
inductive Rds(H:Hp):V->PyData->Prop
 | non:Rds H .non .none
 | bl (b:Bool):Rds H (.bl b) (.bool b)
 | int (i:Int):Rds H (.int i) (.int i)
 | str (x:Str):Rds H (.str x) (.str x)
 | tup {a:Addr} {xs:List V} {ds:List PyData}:H a=some (.tup xs)->RdsAll H xs ds->Rds H (.ref a) (.tuple ds)
 | lst {a:Addr} {xs:List V} {ds:List PyData}:H a=some (.lst xs)->RdsAll H xs ds->Rds H (.ref a) (.list ds)
inductive RdsAll(H:Hp):List V->List PyData->Prop
 | nil:RdsAll H [] []
 | cons {x:V} {xs:List V} {d:PyData} {ds:List PyData}:Rds H x d->RdsAll H xs ds->RdsAll H (x :: xs) (d :: ds)
end
mutual
theorem Rds.same{H H':Hp}(e:ar H H'):∀{x:V}{d:PyData},Rds H x d->Rds H' x d
 | _,_,.non=>.non
 | _,_,.bl b=>.bl b
 | _,_,.int i=>.int i
 | _,_,.str x=>.str x
 | _,_,.tup h r=>.tup (e _ _ h) (r.same e)
 | _,_,.lst h r=>.lst (e _ _ h) (r.same e)
theorem RdsAll.same{H H':Hp}(e:ar H H'):∀{xs:List V}{ds:List PyData},RdsAll H xs ds->RdsAll H' xs ds
 | _,_,.nil=>.nil
 | _,_,.cons r t=>.cons (r.same e) (t.same e)
end
section
variable{X:Cx}
end
section
variable{X:Cx}
end
end L2
namespace L2.ZS
open PySem PySem.Spec PyProof.Rows
section
variable{prog:Program}{w:World}{A:Around}{E:Value->Shared->Prop}{s:Shared}
section
variable{z TI TO p r b:Addr}{zs:Str}{t:Tok}{vs:Array Value}{o1 o2:Value}{m n:Nat}
end
end
end L2.ZS
namespace L2
open PySem PySem.Spec PyProof.Rows
section
variable{X:Cx}
end
theorem su{us:List Value}{ss:List Int}(h:IntsAre us ss):aY (ss.map V.int) us:=by
 induction h with
 | nil=>exact .nil
 | cons y t r ih=>exact .cons ⟨t,rfl⟩ ih
section
variable{X:Cx}
noncomputable def Alk(K:Frag):Nat->Hp->V->V->Prop
 | 0,_,v,w=>smV v=true/\w=v
 | n + 1,H,v,w=>(smV v=true/\w=v)\/∃(a b:Addr)(xs ys:List V),v=.ref a/\w=.ref b/\SqT K H a xs/\SqT K H b ys/\xs.length=ys.length/\∀(i:Nat)(x y:V),xs[i]?=some x->ys[i]?=some y->Alk K n H x y
theorem uE{its jts:List Value}{xs ys:List V}{A:Around}{s:Shared}(r1:aY xs its)(r2:aY ys jts)(hl:xs.length=ys.length)(h:∀(i:Nat)(x y:V)(u1 u2:Value),xs[i]?=some x->ys[i]?=some y->aT x u1->aT y u2->SeqAt.EqAt A s u1 u2 true)(j:Nat)(h1:j < its.toArray.size)(h2:j < jts.toArray.size):SeqAt.EqAt A s its.toArray[j] jts.toArray[j] true:=by
 have e1:=r1.length;have e2:=r2.length;have hj1:j < its.length:=by simpa using h1
 have hj2:j < jts.length:=by simpa using h2
 obtain⟨u1,hu1,ru1⟩:=r1.get (i:=j) (x:=xs[j]'(by omega)) (getElem?_eq_getElem _)
 obtain⟨u2,hu2,ru2⟩:=r2.get (i:=j) (x:=ys[j]'(by omega)) (getElem?_eq_getElem _)
 have i1:its.toArray[j]=u1:=by
  have:=getElem?_eq_getElem hj1;rw[hu1]at this;simpa using(Option.some.inj this).symm
 have i2:jts.toArray[j]=u2:=by
  have:=getElem?_eq_getElem hj2;rw[hu2]at this;simpa using(Option.some.inj this).symm
 rw[i1,i2];exact h j _ _ _ _ (getElem?_eq_getElem (by omega)) (getElem?_eq_getElem (by omega)) ru1 ru2
theorem uF{pins:List (Addr × Obj)}{σ:St}{H:Hp}{s:Shared}(I:Inv X pins σ H s):∀(n:Nat)(A:Around)(x y:V)(u1 u2:Value),A.units + n < cLine->Alk X.K n H x y->aT x u1->aT y u2->SeqAt.EqAt A s u1 u2 true
 | 0,A,x,y,u1,u2,hu,h,r1,r2=>by
  obtain⟨h1,rfl⟩:=h;exact uv h1 r1 r2
 | n + 1,A,x,y,u1,u2,hu,h,r1,r2=>by
  rcases h with ⟨h1,rfl⟩ | ⟨a,b,xs,ys,rfl,rfl,ha,hb,hl,h⟩
  ·exact uv h1 r1 r2
  ·cases r1;cases r2;by_cases hab:a=b
   ·subst hab;exact SeqAt.EqAt.same _
   ·obtain⟨its,q1,p1,_⟩:=I.tuple ha;obtain⟨jts,q2,p2,_⟩:=I.tuple hb;have:=SeqAt.RcAt.tuples (A:=A) (s:=s) (e:=fun _=>true) (show s.heap.IsTuple a its.toArray from p1) (show s.heap.IsTuple b jts.toArray from p2) (by omega) (uE q1 q2 hl fun i x y u1 u2 hx hy ru1 ru2=>uF I n A.in1 x y u1 u2 (by show A.units + 1 + n < cLine;omega) (h i x y hx hy) ru1 ru2)
    rw[size_toArray,size_toArray,jg _ _ (by have e1:=q1.length;have e2:=q2.length;omega)]at this
    exact SeqAt.EqAt.of_refs hab this
def Alks(K:Frag)(H:Hp)(a b:Addr):Prop:=∃(n:Nat)(xs ys:List V),n <= 60/\SqT K H a xs/\SqT K H b ys/\xs.length=ys.length/\∀(i:Nat)(x y:V),xs[i]?=some x->ys[i]?=some y->Alk K n H x y
theorem qV(hu:X.A.units + 64 < cLine):OpR X (compareOp .NotEq) (fun x y H Q=>∃a b:Addr,x=.ref a/\y=.ref b/\Alks X.K H a b/\Q (.bl false) H):=by
 intro pins s σ H x y v u Q I rx ry h;obtain⟨a,b,rfl,rfl,⟨n,xs,ys,hn,ha,hb,hl,h⟩,q⟩:=h;cases rx;cases ry;obtain⟨its,q1,p1,_⟩:=I.tuple ha;obtain⟨jts,q2,p2,_⟩:=I.tuple hb;have:=SeqAt.RcNeAt.tuples (A:=X.A) (s:=s) (e:=fun _=>true) (show s.heap.IsTuple a its.toArray from p1) (show s.heap.IsTuple b jts.toArray from p2) (by omega) (uE q1 q2 hl fun i x y u1 u2 hx hy ru1 ru2=>uF I n X.A.in1 x y u1 u2 (by show X.A.units + 1 + n < cLine;omega) (h i x y hx hy) ru1 ru2)
 rw[size_toArray,size_toArray,jg _ _ (by have e1:=q1.length;have e2:=q2.length;omega)]at this
 exact this _ _ _ _ (bf I q rfl)
end
section
variable{X:Cx}{es:List Expr}{te:TE}{t:TA}
end
section
variable{X:Cx}
end
theorem len1{α:Type}{us:List α}(h:us.length=1):∃a0,us=[a0]:=by
 match us,h with
 | [a0],_=>exact⟨a0,rfl⟩
theorem lj{α:Type}{us:List α}(h:us.length=2):∃a0 a1,us=[a0,a1]:=by
 match us,h with
 | [a0,a1],_=>exact⟨a0,a1,rfl⟩
theorem len3{α:Type}{us:List α}(h:us.length=3):∃a0 a1 a2,us=[a0,a1,a2]:=by
 match us,h with
 | [a0,a1,a2],_=>exact⟨a0,a1,a2,rfl⟩
theorem len4{α:Type}{us:List α}(h:us.length=4):∃a0 a1 a2 a3,us=[a0,a1,a2,a3]:=by
 match us,h with
 | [a0,a1,a2,a3],_=>exact⟨a0,a1,a2,a3,rfl⟩
theorem len5{α:Type}{us:List α}(h:us.length=5):∃a0 a1 a2 a3 a4,us=[a0,a1,a2,a3,a4]:=by
 match us,h with
 | [a0,a1,a2,a3,a4],_=>exact⟨a0,a1,a2,a3,a4,rfl⟩
theorem len6{α:Type}{us:List α}(h:us.length=6):∃a0 a1 a2 a3 a4 a5,us=[a0,a1,a2,a3,a4,a5]:=by
 match us,h with
 | [a0,a1,a2,a3,a4,a5],_=>exact⟨a0,a1,a2,a3,a4,a5,rfl⟩
theorem ex3{A B C:Type}{F:A->B->C->Prop}(a b c)(h:F a b c):∃a b c,F a b c:=⟨a,b,c,h⟩
theorem ex4{A B C D:Type}{F:A->B->C->D->Prop}(a b c d)(h:F a b c d):∃a b c d,F a b c d:=⟨a,b,c,d,h⟩
theorem ex5{A B C D E:Type}{F:A->B->C->D->E->Prop}(a b c d e)(h:F a b c d e):∃a b c d e,F a b c d e:=⟨a,b,c,d,e,h⟩
theorem ex6{A B C D E G:Type}{F:A->B->C->D->E->G->Prop}(a b c d e f)(h:F a b c d e f):∃a b c d e f,F a b c d e f:=⟨a,b,c,d,e,f,h⟩
theorem ex7{A B C D E G H:Type}{F:A->B->C->D->E->G->H->Prop}(a b c d e f g)(h:F a b c d e f g):∃a b c d e f g,F a b c d e f g:=⟨a,b,c,d,e,f,g,h⟩
theorem ex8{A B C D E G H I:Type}{F:A->B->C->D->E->G->H->I->Prop}(a b c d e f g i)(h:F a b c d e f g i):∃a b c d e f g i,F a b c d e f g i:=⟨a,b,c,d,e,f,g,i,h⟩
theorem ex9{A B C D E G H I J:Type}{F:A->B->C->D->E->G->H->I->J->Prop}(a b c d e f g i j)(h:F a b c d e f g i j):∃a b c d e f g i j,F a b c d e f g i j:=⟨a,b,c,d,e,f,g,i,j,h⟩
theorem ae{t u:TS}{D:gT}{σ:St}{H:Hp}(h:∀K:St->Hp->Prop,(∀σ' H',u D σ' H'->K σ' H')->t { D with nx:=K } σ H):tSeq t u D σ H:=h (fun σ' H'=>u D σ' H') fun _ _ h=>h
section
variable{X:Cx}{tg:Expr}
end
section
variable{X:Cx}
end
section
variable{X:Cx}
end
open PySem.SeqAt
end L2
namespace L2
open PySem PySem.Spec PyProof.Rows
end L2
namespace L2
open PySem PySem.Spec PyProof.Rows
theorem Paired.snoc{α β:Type}{R:α->β->Prop}:∀{xs:List α}{ys:List β}{x:α}{y:β},Paired R xs ys->R x y->Paired R (xs ++ [x]) (ys ++ [y])
 | _,_,_,_,.nil,h=>.cons h .nil
 | _,_,_,_,.cons h t,h'=>.cons h (Paired.snoc t h')
theorem Paired.zip{α β:Type}{R:α->β->Prop}:∀{xs:List α}{ys:List β},Paired R xs ys->∀z ∈ xs.zip ys,R z.1 z.2
 | _,_,.nil,z,h=>by simp at h
 | _,_,.cons h t,z,hz=>by
  rcases List.mem_cons.mp hz with rfl | hz
  ·exact h
  ·exact Paired.zip t z hz
theorem Paired.refs{β:Type}{G:Addr->β->Prop}:∀{us:List V}{zs:List β},Paired (fun u z=>∃p,u=.ref p/\G p z) us zs->∃as:List Addr,us=as.map V.ref/\Paired G as zs
 | _,_,.nil=>⟨[],rfl,.nil⟩
 | _,_,.cons ⟨p,e,h⟩ t=>by
  obtain⟨as,rfl,r⟩:=Paired.refs t;exact⟨p :: as,by rw[e];rfl,.cons h r⟩
theorem lcG{K:Frag}{a:Addr}{β:Type}{xs:List β}{k:Nat}{σ:St}{H1:Hp}{tt:TT}{te:TE}{Q:VK}(gv:β->V)(t:β->Bool)(R:Addr->β->V->Hp->Prop)
  (st:∀D x y (H H':Hp),(∀b o,b ≠ D->H b=some o->H' b=some o)->R D x y H->R D x y H')(hk:σ.length=k)(hq:H1 a=some (.lst (xs.map gv)))(hz:xs.length <= 1000)
  (test:∀D x ys H (post:Bool->Hp->Prop),H1 D=none->x ∈ xs->ar H1 H->H D=some (.lst ys)->(∀H',ar H H'->post (t x) H')->tt (σ ++ [some (gv x)]) H post)
  (turn:∀D x ys H (post:VK),H1 D=none->x ∈ xs->t x=true->ar H1 H->H D=some (.lst ys)->(∀y H',ar H H'->R D x y H'->post y H')->te (σ ++ [some (gv x)]) H post)
  (fin:∀D H us,H1 D=none->ar H1 H->H D=some (.lst us)->Paired (fun u x=>R D x u H) us (xs.filter t)->Q (.ref D) H):LCT 1 (cG k) tt te σ Q (Itl K a) H1:=by
 intro D hD;refine⟨fun i m us H=>m=xs.length - i/\i <= xs.length/\ar H1 H/\H D=some (.lst us)/\Paired (fun u x=>R D x u H) us ((xs.take i).filter t),⟨xs.length,by simp,Nat.zero_le _,ar.new hD,af,.nil⟩,?_⟩
 rintro i m us H ⟨rfl,hi,sm,hDD,hP⟩;by_cases hlt:i < xs.length
 ·have hx:(xs.map gv)[i]?=some (gv xs[i]):=by rw[getElem?_map,getElem?_eq_getElem hlt];rfl
  refine .inr ⟨⟨xs.map gv,gv xs[i],SqL.of (sm _ _ hq),hx⟩,fun v H' y=>?_⟩;obtain⟨rfl,y⟩:=y;have hv:=y _ (SqL.of (sm _ _ hq));rw[hx]at hv;cases hv;have hm:xs[i] ∈ xs:=List.getElem_mem hlt;have hu:us.length <= i:=by
   rw[Paired.length hP];refine Nat.le_trans (List.length_filter_le _ _) ?_;rw[length_take];omega
  have e:(σ ++ List.replicate 1 (none:Option V)).set k (some (gv xs[i]))=σ ++ [some (gv xs[i])]:=by
   subst hk;simp[List.set_append]
  unfold cG;rw[e];refine⟨⟨_,rfl,rfl⟩,test D xs[i] us _ _ hD hm sm hDD fun H3 s3=>?_⟩;cases ht:t xs[i] with
  | true =>
   refine cm (turn D xs[i] us _ _ hD hm ht (sm.trans s3) (s3 _ _ hDD) fun y H4 s4 hR=>⟨s4 _ _ (s3 _ _ hDD),bJ (by omega),xs.length - (i + 1),by omega,rfl,hlt,fun c o e=>?_,af,?_⟩)
   ·rw[au (ak e hD)];exact s4 _ _ (s3 _ _ (sm _ _ e))
   ·rw[List.take_add_one,getElem?_eq_getElem hlt,List.filter_append];have ef:((some xs[i]:Option β).toList).filter t=[xs[i]]:=by simp[ht]
    rw[ef];exact Paired.snoc (Paired.imp' (fun u x h=>st D x u _ _ (fun b o hb e=>by rw[au hb];exact s4 _ _ (s3 _ _ e)) h) hP) (st D _ _ _ _ (fun b o hb e=>by rw[au hb];exact e) hR)
  | false =>
   refine bI ⟨xs.length - (i + 1),by omega,rfl,hlt,sm.trans s3,s3 _ _ hDD,?_⟩
   rw[List.take_add_one,getElem?_eq_getElem hlt,List.filter_append];have ef:((some xs[i]:Option β).toList).filter t=[]:=by simp[ht]
   rw[ef,List.append_nil];exact Paired.imp' (fun u x h=>st D x u _ _ (fun b o _ e=>s3 _ _ e) h) hP
 ·have e:i=xs.length:=by omega
  subst e;rw[take_of_length_le (Nat.le_refl _)]at hP;exact .inl ⟨⟨xs.map gv,SqL.of (sm _ _ hq),by rw[length_map];exact Nat.le_refl _⟩,fin D H us hD sm hDD hP⟩
theorem Rd.same{H H':Hp}{a:Addr}{u:HO}(e:ar H H')(h:Rd H a u):Rd H' a u:=by
 rcases h with h | ⟨o,h⟩
 ·exact .inl (e _ _ h)
 ·exact .inr ⟨o,e _ _ h⟩
section
variable{X:Cx}
end
theorem uG{X:Cx}:OpR X (binaryOp .FloorDiv) (rI (fun _ j=>0 < j/\j < 2 ^ 250) fun i j=>.int (i / j)):=opI fun i j _ _ _ _ _ hc q=>by
 have e:i.fdiv j=i / j:=Int.fdiv_eq_ediv_of_nonneg _ (Int.le_of_lt hc.1);refine floordiv_int (by have:=hc.1;omega) (by rw[e];exact q) (.inl (PyProof.noPylong_of_log2 ?_))
 have h1:=hc.1;have h2:=hc.2;have h3:j.natAbs < 2 ^ 250:=by omega
 have h4:j.natAbs ≠ 0:=by omega
 have:=(Nat.log2_lt h4).mpr h3;omega
end L2
namespace L2.EK
open PySem PySem.Spec PyProof.Rows
section
variable{prog:Program}{w:World}{A:Around}{E:Value->Shared->Prop}{s:Shared}
end
end L2.EK
namespace L2
open PySem PySem.Spec PyProof.Rows
section
variable{X:Cx}
end
end L2
namespace L2.EK
open PySem PySem.Spec PyProof.Rows
open AutoSeq1 (wpAny_loadPart')
end L2.EK
namespace L2
open PySem PySem.Spec PyProof.Rows
section
variable{X:Cx}
end
section
variable{X:Cx}
end
end L2
namespace L2
end L2
namespace KM
open PySem PySem.Spec L2
structure iy{α:Type}(l:List (Key × α)):Prop where
 txt:∀p ∈ l,∃x:Str,p.1=Sum.inr x
 nd:(l.map (·.1)).Nodup
noncomputable def o9{α:Type}(l:List (Key × α))(k:Key):Option α:=(l.find? fun kv=>decide (kv.1=k)).map (·.2)
noncomputable def putG{α:Type}(l:List (Key × α))(k:Key)(v:α):List (Key × α):=if (l.any fun kv=>decide (kv.1=k))=true then l.map (fun kv=>if kv.1=k then (kv.1,v) else kv) else l ++ [(k,v)]
section
variable{α:Type}
theorem uH{p:Key × α}{r:List (Key × α)}{k:Key}(e:p.1=k):o9 (p :: r) k=some p.2:=by simp[o9,List.find?_cons,e]
theorem uI{p:Key × α}{r:List (Key × α)}{k:Key}(e:¬p.1=k):o9 (p :: r) k=o9 r k:=by simp[o9,List.find?_cons,e]
theorem jo(k:Key):∀l:List (Key × α),(l.any fun kv=>decide (kv.1=k))=(o9 l k).isSome
 | []=>rfl
 | p :: r=>by
  rw[List.any_cons];by_cases e:p.1=k
  ·simp only[uH e,decide_eq_true e,Bool.true_or,Option.isSome_some]
  ·rw[uI e,decide_eq_false e,Bool.false_or];exact jo k r
theorem uJ{l:List (Key × α)}{k:Key}:k ∈ l.map (·.1) ↔ (o9 l k).isSome=true:=by
 rw[<- jo,List.any_eq_true];constructor
 ·intro m;obtain⟨p,hp,e⟩:=List.mem_map.mp m;exact⟨p,hp,decide_eq_true e⟩
 ·rintro ⟨p,hp,e⟩;exact List.mem_map.mpr ⟨p,hp,of_decide_eq_true e⟩
theorem iy.put{l:List (Key × α)}(h:iy l)(x:Str)(v:α):iy (putG l (Sum.inr x) v):=by
 unfold putG;by_cases a:(l.any fun kv=>decide (kv.1=(Sum.inr x:Key)))=true
 ·rw[if_pos a];have e:(l.map (fun kv=>if kv.1=(Sum.inr x:Key) then (kv.1,v) else kv)).map (·.1)=l.map (·.1):=by
   rw[List.map_map];refine List.map_congr_left fun p _=>?_;show (if p.1=(Sum.inr x:Key) then (p.1,v) else p).1=p.1
   split <;> rfl
  refine⟨fun p hp=>?_,by rw[e];exact h.nd⟩
  have:p.1 ∈ l.map (·.1):=by rw[<- e];exact List.mem_map.mpr ⟨p,hp,rfl⟩
  obtain⟨q,hq,eq⟩:=List.mem_map.mp this;obtain⟨y,ey⟩:=h.txt q hq;exact⟨y,eq.symm.trans ey⟩
 ·rw[if_neg a];refine⟨fun p hp=>?_,?_⟩
  ·rcases mem_append.mp hp with q | q
   ·exact h.txt p q
   ·rw[List.mem_singleton.mp q];exact⟨x,rfl⟩
  ·rw[List.map_append];refine qN h.nd fun m=>a ?_;rw[jo];exact uJ.mp m
theorem iy.drop{l:List (Key × α)}(h:iy l)(k:Key):iy (l.filter fun kv=>decide (kv.1 ≠ k)) :=
 ⟨fun p hp=>h.txt p (List.mem_filter.mp hp).1,h.nd.sublist (List.Sublist.map _ (List.filter_sublist))⟩
end
end KM
namespace K45
open PySem L2
noncomputable def top(i:Nat):Stmt:=PySem.Challenge.pw_chainhouse_k45_turns_till_it_looks.main.body.getD i (.Pass ⟨0,0,0,0⟩)
abbrev uK:Stmt:=top 74
theorem uL:bootBuiltins "int"=some (.type "int"):=by decide +kernel
theorem ce:bootBuiltins "tuple"=some (.type "tuple"):=by decide +kernel
theorem bMax:bootBuiltins "max"=some (.builtin "max"):=by decide +kernel
theorem iN:bootBuiltins "sorted"=some (.builtin "sorted"):=by decide +kernel
abbrev ABC:Str:=Str.ofString "abcdefghijklmnopqrstuvwxyz"
theorem ln:ABC.length=26:=by decide +kernel
theorem uM:ABC.length <= sizeLine:=by rw[ln,sizeLine_eq];decide
theorem at0{α:Type}{a:α}{r:List α}:atI (a :: r) 0=some a:=cX (j:=0) rfl
theorem at1{α:Type}{a b:α}{r:List α}:atI (a :: b :: r) 1=some b:=cX (j:=1) rfl
theorem pb{α:Type}{xs:List α}{i:Int}(h0:0 <= i)(h1:i < xs.length):∃v,atI xs i=some v/\v ∈ xs:=by
 obtain⟨n,rfl⟩:=Int.eq_ofNat_of_zero_le h0;have hn:n < xs.length:=by lia
 exact⟨xs[n],cX (getElem?_eq_getElem hn),List.getElem_mem hn⟩
theorem iO{α β:Type}{f:α->β}{xs:List α}{i:Int}{x:α}(h0:0 <= i)(h:xs[i.toNat]?=some x):atI (xs.map f) i=some (f x):=by
 obtain⟨n,rfl⟩:=Int.eq_ofNat_of_zero_le h0;have h:xs[n]?=some x:=h;exact cX (by rw[getElem?_map,h];rfl)
structure Blm(mg:Str->Option Value):Prop where
 len:mg "len"=none
 range:mg "range"=none
 int:mg "int"=none
def pc(K:Frag):Sp:=fun vs H Q _=>∃(a:Addr)(ns:List Int)(k:Int),vs=[.ref a,.int k]/\SqL K H a (ns.map V.int)/\0 <= k/\∀z:Int,Q (.int z) H
section
variable{P:Program}{w:World}{K:Frag}{mg:Str->Option Value}{base:Heap}
theorem scCell:ao ["_law_script","_law_k"] ["_law_script","_law_k"] (ah uK):=fsc (by decide +kernel)
theorem ok_cell {f:Addr} {fd:FuncData} (F:Fun K "_law_cell_at" "_law_cell_at" uK f fd) (T:Blm mg):aI P w K mg base CX0 1 f fd ["_law_script","_law_k"] (pc K):=by
 refine F.ok scCell (fun vs H Q E h=>?_) (fun cdv A outer s H vs Q E hr h=>?_)
 ·obtain⟨a,ns,k,rfl,_⟩:=h;rfl
 ·obtain⟨a,ns,k,rfl,hS,h0,q⟩:=h;refine⟨_,ac (bc (aG j7 (pv 1) (bq a9 (by rfl) T.len PySem.boot_len (ab (pv 0) ad)) (aN _)) (ai (av (aE cY (pv 0) (pv 1) (fun _ _=>rfl)))) aF)
   (ai (av ag)),?_⟩
  dsimp only[aW,Cx.nox];refine⟨_,rfl,_,rfl,a,_,rfl,.inl hS,_,_,rfl,rfl,_,rfl,?_⟩;refine dl (fun h=>?_) (fun _=>q 0);have h:=of_decide_eq_true h;rw[length_map]at h;have hk:k.toNat < ns.length:=by lia
  exact⟨_,rfl,_,rfl,ex4 a _ k _ ⟨rfl,rfl,hS,iO h0 (getElem?_eq_getElem hk),q _⟩⟩
end
end K45
namespace K45T
open PySem L2 KM
abbrev top:=K45.top
theorem bDict:bootBuiltins "dict"=some (.type "dict"):=by decide +kernel
theorem dne1:¬(V.str "add"=V.str "put"):=by decide +kernel
structure Blt(mg:Str->Option Value):Prop where
 tuple:mg "tuple"=none
 dict:mg "dict"=none
 sorted:mg "sorted"=none
inductive Wk where
 | put (k:Str) (n:Int) | add (k:Str) (n:Int) | drop (k:Str)
noncomputable def Wk.key:Wk->Str
 | .put k _=>k | .add k _=>k | .drop k=>k
noncomputable def Wk.vs:Wk->List V
 | .put k n=>[.str "put",.str k,.int n]
 | .add k n=>[.str "add",.str k,.int n]
 | .drop k=>[.str "drop",.str k]
abbrev Kvs:=List (Key × V)
def jp(kvs:Kvs):Prop:=∀k v,bp kvs k=some v->∃i:Int,v=.int i
noncomputable def num(kvs:Kvs)(k:Str):Int:=match bp kvs (Sum.inr k) with
 | some (.int i)=>i
 | _=>0
noncomputable def Wk.to(kvs:Kvs):Wk->Kvs
 | .put k n=>bz kvs (Sum.inr k) (.int n)
 | .add k n=>bz kvs (Sum.inr k) (.int (num kvs k + n))
 | .drop k=>dE kvs (Sum.inr k)
noncomputable def Wk.ans(kvs:Kvs):Wk->V
 | .put k _=>(bp kvs (Sum.inr k)).getD .non
 | .add k n=>.int (num kvs k + n)
 | .drop k=>(bp kvs (Sum.inr k)).getD .non
theorem sw{kvs:Kvs}{k j:Key}{v:V}(h:bp (dE kvs k) j=some v):bp kvs j=some v:=by
 induction kvs with
 | nil=>exact h
 | cons p r ih =>
  by_cases e:p.1=k
  ·rw[kt e]at h;have h':=ih h;by_cases e2:p.1=j
   ·exfalso;have:k=j:=e.symm.trans e2;subst this;have hk:∀(l:Kvs),bp (dE l k) k=none:=by
     intro l;induction l with
     | nil=>rfl
     | cons q l ihl =>
      by_cases eq:q.1=k
      ·rw[kt eq];exact ihl
      ·rw[hG eq,bP eq];exact ihl
    rw[hk r]at h;cases h
   ·rw[bP e2];exact h'
  ·rw[hG e]at h;by_cases e2:p.1=j
   ·rw[bY e2]at h ⊢;exact h
   ·rw[bP e2]at h ⊢;exact ih h
theorem jp.to{kvs:Kvs}(h:jp kvs)(x:Wk):jp (x.to kvs):=by
 intro k v e;cases x with
 | put a n =>
  rw[show Wk.to kvs (.put a n)=bz kvs (Sum.inr a) (.int n) from rfl,i9]at e;split at e
  ·cases e;exact⟨_,rfl⟩
  ·exact h k v e
 | add a n =>
  rw[show Wk.to kvs (.add a n)=bz kvs (Sum.inr a) (.int (num kvs a + n)) from rfl,i9]at e;split at e
  ·cases e;exact⟨_,rfl⟩
  ·exact h k v e
 | drop a=>exact h k v (sw e)
theorem to_len(kvs:Kvs)(x:Wk):(x.to kvs).length <= kvs.length + 1:=by
 cases x with
 | put a n=>exact cH _ _ _
 | add a n=>exact cH _ _ _
 | drop a=>exact Nat.le_trans (List.length_filter_le _ _) (Nat.le_succ _)
theorem jp.ans{kvs:Kvs}(h:jp kvs)(x:Wk):x.ans kvs=.non\/∃i:Int,x.ans kvs=.int i:=by
 have key:∀a:Str,(bp kvs (Sum.inr a)).getD .non=.non\/∃i:Int,(bp kvs (Sum.inr a)).getD .non=.int i:=fun a=>by
  cases e:bp kvs (Sum.inr a:Key) with
  | none=>exact .inl rfl
  | some v =>
   obtain⟨i,rfl⟩:=h _ _ e;exact .inr ⟨i,rfl⟩
 cases x with
 | put a n=>exact key a
 | add a n=>exact .inr ⟨_,rfl⟩
 | drop a=>exact key a
theorem num_get{kvs:Kvs}(h:jp kvs)(k:Str):(bp kvs (Sum.inr k)).getD (.int 0)=.int (num kvs k):=by
 unfold num;cases e:bp kvs (Sum.inr k:Key) with
 | none=>rfl
 | some v =>
  obtain⟨i,rfl⟩:=h _ _ e;rfl
def But(d:Addr)(H H':Hp):Prop:=∀b o,H b=some o->b ≠ d->H' b=some o
abbrev kF:Stmt:=aC (top 55) 0
abbrev uN:Stmt:=aC (top 55) 1
abbrev uO:Stmt:=aC (top 55) 2
abbrev pd:Stmt:=aC (top 55) 3
abbrev uP:Stmt:=aC (top 55) 4
theorem ne_hl:¬(("held":Str)="lasts"):=by decide +kernel
noncomputable def cT (d l:Addr):List (Str × V):=ay "lasts" (.ref l) (ay "held" (.ref d) [])
theorem hX (d l:Addr):(cT d l).lookup ("held":Str)=some (.ref d):=by
 unfold cT;rw[ck,if_neg ne_hl,ck,if_pos rfl]
theorem jq (d l:Addr):(cT d l).lookup ("lasts":Str)=some (.ref l):=by
 unfold cT;rw[ck,if_pos rfl]
theorem lq (d l:Addr) {m:Str} (h1:¬m="lasts") (h2:¬m="held"):(cT d l).lookup m=none:=by
 unfold cT;rw[ck,if_neg h1,ck,if_neg h2]
 all_goals rfl
abbrev Las:=List (Key × (Int × V))
noncomputable def dW(las:Las)(k:Key):Option (Int × V):=(las.find? fun kv=>decide (kv.1=k)).map (·.2)
noncomputable def iC(las:Las)(k:Key)(q:Int × V):Las:=if (las.any fun kv=>decide (kv.1=k))=true then las.map (fun kv=>if kv.1=k then (kv.1,q) else kv) else las ++ [(k,q)]
theorem cy{p:Key × (Int × V)}{r:Las}{k:Key}(e:p.1=k):dW (p :: r) k=some p.2:=by simp[dW,List.find?_cons,e]
theorem cz{p:Key × (Int × V)}{r:Las}{k:Key}(e:¬p.1=k):dW (p :: r) k=dW r k:=by simp[dW,List.find?_cons,e]
theorem jr(k:Key):∀las:Las,(las.any fun kv=>decide (kv.1=k))=(dW las k).isSome
 | []=>rfl
 | p :: r=>by
  rw[List.any_cons];by_cases e:p.1=k
  ·simp only[cy e,decide_eq_true e,Bool.true_or,Option.isSome_some]
  ·rw[cz e,decide_eq_false e,Bool.false_or];exact jr k r
theorem nQ(k j:Key)(y:Int × V):∀las:Las,dW (las.map fun kv=>if kv.1=k then (kv.1,y) else kv) j=(dW las j).map fun x=>if j=k then y else x
 | []=>rfl
 | p :: r=>by
  have ih:=nQ k j y r;rw[List.map_cons];by_cases h:p.1=k
  ·rw[if_pos h];by_cases e:p.1=j
   ·rw[cy (p:=(p.1,y)) e,cy e,Option.map_some,if_pos (e.symm.trans h)]
   ·rw[cz (p:=(p.1,y)) e,cz e,ih]
  ·rw[if_neg h];by_cases e:p.1=j
   ·rw[cy (p:=p) e,cy e,Option.map_some,if_neg (fun z=>h (e.trans z))]
   ·rw[cz (p:=p) e,cz e,ih]
theorem kG(k j:Key)(y:Int × V):∀las:Las,dW las k=none->dW (las ++ [(k,y)]) j=if j=k then some y else dW las j
 | [],_=>by
  by_cases e:k=j
  ·rw[if_pos e.symm];exact cy (p:=(k,y)) e
  ·rw[if_neg (fun z=>e z.symm)];exact cz (p:=(k,y)) e
 | p :: r,hn=>by
  rw[List.cons_append];have hk:¬p.1=k:=fun z=>by rw[cy z]at hn;cases hn
  rw[cz hk]at hn;have ih:=kG k j y r hn;by_cases e:p.1=j
  ·rw[cy e,cy e,if_neg (fun z=>hk (e.trans z))]
  ·rw[cz e,cz e,ih]
theorem uQ(las:Las)(k j:Key)(y:Int × V):dW (iC las k y) j=if j=k then some y else dW las j:=by
 unfold iC;by_cases a:(las.any fun kv=>decide (kv.1=k))=true
 ·rw[if_pos a,nQ];rw[jr]at a;by_cases e:j=k
  ·obtain⟨x,hx⟩:=Option.isSome_iff_exists.mp a;rw[if_pos e,e,hx,Option.map_some,if_pos rfl]
  ·rw[if_neg e];cases dW las j with
   | none=>rfl
   | some x=>rw[Option.map_some,if_neg e]
 ·rw[if_neg a];refine kG k j y las ?_;rw[jr]at a;cases q:dW las k with
  | none=>rfl
  | some x=>rw[q]at a;exact(a rfl).elim
theorem nU(las:Las)(k:Key)(y:Int × V):(iC las k y).length <= las.length + 1:=by
 unfold iC;split
 ·rw[length_map];lia
 ·rw[length_append];exact Nat.le_refl _
def LRel(K:Frag)(H:Hp)(p:Key × V)(q:Key × (Int × V)):Prop:=p.1=q.1/\∃t,p.2=.ref t/\SqT K H t [.int q.2.1,q.2.2]
abbrev LR(K:Frag)(H:Hp):Kvs->Las->Prop:=Paired (LRel K H)
theorem LR.mono{K:Frag}{H H':Hp}{lk:Kvs}{las:Las}(r:LR K H lk las)(h:∀t xs,SqT K H t xs->SqT K H' t xs):LR K H' lk las :=
 Paired.mapP r fun p q ⟨e,t,e2,s⟩=>⟨e,t,e2,h _ _ s⟩
theorem LR.val{K:Frag}{H:Hp}{lk:Kvs}{las:Las}(r:LR K H lk las)(k:Key):(bp lk k=none/\dW las k=none)\/∃t q,bp lk k=some (.ref t)/\dW las k=some q/\SqT K H t [.int q.1,q.2]:=by
 induction r with
 | nil=>exact .inl ⟨rfl,rfl⟩
 | @cons p q ps qs h t ih =>
  obtain⟨h1,tt,h2,h3⟩:=h;by_cases e:p.1=k
  ·exact .inr ⟨tt,q.2,by rw[bY e,h2],cy (h1.symm.trans e),h3⟩
  ·rw[bP e,cz (fun z=>e (h1.trans z))];exact ih
theorem LR.any{K:Frag}{H:Hp}{lk:Kvs}{las:Las}(r:LR K H lk las)(k:Key):(lk.any fun kv=>decide (kv.1=k))=las.any fun kv=>decide (kv.1=k):=by
 induction r with
 | nil=>rfl
 | cons h t ih=>rw[List.any_cons,List.any_cons,ih,h.1]
theorem LR.put{K:Frag}{H:Hp}{lk:Kvs}{las:Las}(r:LR K H lk las)(k:Key){t:Addr}{n:Int}{a:V}(s:SqT K H t [.int n,a]):LR K H (bz lk k (.ref t)) (iC las k (n,a)):=by
 unfold bz iC;rw[r.any k];by_cases e:(las.any fun kv=>decide (kv.1=k))=true
 ·rw[if_pos e,if_pos e];clear e;induction r with
  | nil=>exact .nil
  | @cons p q ps qs h t ih =>
   rw[List.map_cons,List.map_cons];refine .cons ?_ ih;obtain⟨h1,tt,h2,h3⟩:=h;by_cases e:p.1=k
   ·rw[if_pos e,if_pos (h1.symm.trans e)];exact⟨h1,_,rfl,s⟩
   ·rw[if_neg e,if_neg (fun z=>e (h1.trans z))];exact⟨h1,tt,h2,h3⟩
 ·rw[if_neg e,if_neg e];exact PySem.Paired.snoc r ⟨rfl,_,rfl,s⟩
theorem LR.len{K:Frag}{H:Hp}{lk:Kvs}{las:Las}(r:LR K H lk las):lk.length=las.length:=Paired.length r
theorem SqT.but{K:Frag}{H H':Hp}{d t:Addr}{m:Kvs}{xs:List V}(e:But d H H')(hd:H d=some (.dK m))(h:SqT K H t xs):SqT K H' t xs:=by
 rcases h with (h | ⟨o',h⟩) | h
 ·exact .inl (.inl (e _ _ h (ax h hd (by intro z;cases z))))
 ·exact .inl (.inr ⟨o',e _ _ h (ax h hd (by intro z;cases z))⟩)
 ·exact .inr h
theorem SqT.same{K:Frag}{H H':Hp}{t:Addr}{xs:List V}(e:ar H H')(h:SqT K H t xs):SqT K H' t xs:=by
 rcases h with (h | ⟨o',h⟩) | h
 ·exact .inl (.inl (e _ _ h))
 ·exact .inl (.inr ⟨o',e _ _ h⟩)
 ·exact .inr h
noncomputable def db(las:Las)(x:Str):Int:=match dW las (Sum.inr x) with
 | some q=>q.1
 | none=>0
noncomputable def uR(las:Las)(x:Str):V:=match dW las (Sum.inr x) with
 | some q=>q.2
 | none=>.non
structure aS(K:Frag)(C:Addr)(H:Hp)(T d l:Addr)(kvs:Kvs)(las:Las):Prop where
 ob:∃dx,H T=some (.ins C dx (cT d l))
 hd:H d=some (.dK kvs)
 hl:∃lk,H l=some (.dK lk)/\LR K H lk las
 ne:d ≠ l
structure Cl(K:Frag)(mg:Str->Option Value)(C:Addr):Prop where
 cl:Cls K C
 nH:aU K C "held"
 nL:aU K C "lasts"
 mgC:mg "Table"=some (.ref C)
def lu(K:Frag)(C:Addr):Sp:=fun vs H Q _=>∃(T d l:Addr)(kvs:Kvs)(las:Las)(k:Str),vs=[.ref T,.str k]/\aS K C H T d l kvs las/\Q ((bp kvs (Sum.inr k)).getD .non) H
def pe(K:Frag)(C:Addr):Sp:=fun vs H Q _=>∃(T d l:Addr)(kvs:Kvs)(las:Las)(x:Str),vs=[.ref T,.str x]/\aS K C H T d l kvs las/\Q (.int (db las x)) H
def pf(K:Frag)(C:Addr):Sp:=fun vs H Q _=>∃(T d l t:Addr)(kvs:Kvs)(las:Las)(x:Wk),vs=[.ref T,.ref t]/\aS K C H T d l kvs las/\kvs.length <= 1000/\jp kvs/\SqT K H t x.vs /\
 ∀H',But d H H'->H' d=some (.dK (x.to kvs))->Q (x.ans kvs) H'
noncomputable def sA (las:Las) (x:Str) (n:Int):V:=if n < db las x then .str "old" else if n=db las x then .str "again" else .str "done"
noncomputable def ansR(kvs:Kvs)(las:Las)(x:Str)(n:Int)(wk:Wk):V:=if n < db las x then .non else if n=db las x then uR las x else wk.ans kvs
noncomputable def de(kvs:Kvs)(las:Las)(x:Str)(n:Int)(wk:Wk):Kvs:=if n < db las x then kvs else if n=db las x then kvs else wk.to kvs
noncomputable def fW(kvs:Kvs)(las:Las)(x:Str)(n:Int)(wk:Wk):Las:=if n < db las x then las else if n=db las x then las else iC las (Sum.inr x) (n,wk.ans kvs)
def cF(d l:Addr)(H H':Hp):Prop:=∀b o,H b=some o->b ≠ d->b ≠ l->H' b=some o
def ph(K:Frag)(C:Addr):Sp:=fun vs H Q _=>∃(T d l t:Addr)(kvs:Kvs)(las:Las)(x:Str)(n:Int)(wk:Wk),vs=[.ref T,.str x,.int n,.ref t]/\aS K C H T d l kvs las/\kvs.length <= 1000/\las.length <= 1000/\jp kvs/\1 <= n/\SqT K H t wk.vs /\
 ∀(r:Addr)(H':Hp),H r=none->H' r=some (.tup [sA las x n,ansR kvs las x n wk])->aS K C H' T d l (de kvs las x n wk) (fW kvs las x n wk)->cF d l H H'->Q (.ref r) H'
section
variable{P:Program}{w:World}{K:Frag}{mg:Str->Option Value}{base:Heap}
theorem scHolds:ao ["self","key"] ["self","key"] (ah pd):=fsc (by decide +kernel)
theorem uS {f C:Addr} {fd:FuncData} (F:Fun K "holds" "Table.holds" pd f fd) (T:Cl K mg C):aI P w K mg base CX0 1 f fd ["self","key"] (lu K C):=by
 refine F.ok scHolds (fun vs H Q E h=>?_) (fun cdv A outer s H vs Q E hr h=>?_)
 ·obtain⟨T',d,l,kvs,las,k,rfl,_⟩:=h;rfl
 ·obtain⟨T',d,l,kvs,las,k,rfl,S,q⟩:=h;have hu:=cU hr;obtain⟨⟨dx,h1⟩,hd,hl,hne⟩:=id S;refine⟨_,ai (av (uc hu (am (pv 0) rfl) (pv 1) ⟨rfl,rfl,rfl,rfl⟩)),?_⟩;dsimp only[aW,Cx.nox];exact⟨_,rfl,ex5 T' C dx _ _ ⟨rfl,h1,T.cl,T.nH,hX _ _,d,rfl,.inl ⟨kvs,.inl hd⟩,_,rfl,_,dZ.k (k:=Sum.inr k) hd,q⟩⟩
theorem scLast:ao ["self","asker"] ["self","asker"] (ah uP):=fsc (by decide +kernel)
theorem ok_last {f C:Addr} {fd:FuncData} (F:Fun K "last_of" "Table.last_of" uP f fd) (T:Cl K mg C):aI P w K mg base CX0 1 f fd ["self","asker"] (pe K C):=by
 refine F.ok scLast (fun vs H Q E h=>?_) (fun cdv A outer s H vs Q E hr h=>?_)
 ·obtain⟨T',d,l,kvs,las,k,rfl,_⟩:=h;rfl
 ·obtain⟨T',d,l,kvs,las,x,rfl,S,q⟩:=h;have hu:=cU hr;obtain⟨⟨dx,h1⟩,hd,⟨lk,hl,lr⟩,hne⟩:=id S;refine⟨_,ac (bc (tP (rS hu (pv 1) (am (pv 0) rfl))) (ai (av ag)) aF)
   (ai (av (aE az (aA hu (am (pv 0) rfl) (pv 1) (fun _ _=>rfl)) ag (fun _ _=>rfl)))),?_⟩
  dsimp only[aW,Cx.nox];refine ae fun K_ hK_=>?_;refine⟨_,rfl,_,rfl,ex5 T' C dx _ _ ⟨rfl,h1,T.cl,T.nL,jq _ _,l,_,rfl,dZ.k (k:=Sum.inr x) hl,_,rfl,?_⟩⟩;rcases lr.val (Sum.inr x) with ⟨e1,e2⟩ | ⟨t,q',e1,e2,e3⟩
  ·rw[e1];refine cm ?_;unfold db at q;rw[e2]at q;exact q
  ·rw[e1];refine bI ?_;unfold db at q;refine hK_ _ _ ?_;rw[e2]at q;refine⟨_,rfl,ex5 T' C dx _ _ ⟨rfl,h1,T.cl,T.nL,jq _ _,_,rfl,l,V.ref t,rfl,?_,t,_,_,_,rfl,rfl,e3,rfl,q⟩⟩;have:=dZ.k (H:=H) (a:=l) (k:=Sum.inr x) hl;rw[e1]at this;exact this
abbrev nDone:List Str:=["self","work","key","before"]
theorem uT:ao nDone ["self","work"] (ah uO):=fsc (by decide +kernel)
theorem dne4:¬(V.str "put"=V.str "drop"):=by decide +kernel
theorem dne5:¬(V.str "add"=V.str "drop"):=by decide +kernel
theorem ok_done {f C fH:Addr} {fd fdH:FuncData} (F:Fun K "work_done" "Table.work_done" uO f fd) (T:Cl K mg C) (GH:aI P w K mg base CX0 1 fH fdH ["self","key"] (lu K C)) (bH:dD K fdH ["self","key"] []) (mH:oR K C "holds" fH) :
  aI P w K mg base CX0 2 f fd ["self","work"] (pf K C):=by
 refine F.ok uT (fun vs H Q E h=>?_) (fun cdv A outer s H vs Q E hr h=>?_)
 ·obtain⟨T',d,l,t,kvs,las,x,rfl,_⟩:=h;rfl
 ·obtain⟨T',d,l,t,kvs,las,x,rfl,S,hlen,hI,hT,q⟩:=h;have hu:=cU hr;have nd:=uT.nd;obtain⟨⟨dx,h1⟩,hd,_,hne⟩:=id S;refine⟨_,ac (aB (i:=2) nd rfl (Or.inl rfl) (aE az (pv 1) ag (fun _ _=>rfl)))
   (ac (aB (i:=3) nd rfl (Or.inl rfl) (iK (pv 0) T.cl mH GH hr bH .nil je (ab (pv 2) ad)))
   (ac (bc (aG cw (aE az (pv 1) ag (fun _ _=>rfl)) aq (aN _))
    (ac (aZ (ue (am (pv 0) rfl) (pv 2) cj ⟨rfl,rfl,rfl,rfl⟩)) (ai (av (pv 3)))) aF)
   (ac (bc (aG cw (aE az (pv 1) ag (fun _ _=>rfl)) aq (aN _))
    (ac (br hu (am (pv 0) rfl) (pv 2) (aE az (pv 1) ag (fun _ _=>rfl)) rfl) (ai (av (pv 3)))) aF)
   (ac (br hu (am (pv 0) rfl) (pv 2) (aL bu (ud hu (am (pv 0) rfl) (pv 2) ag ⟨rfl,rfl,rfl,rfl⟩) (aE az (pv 1) ag (fun _ _=>rfl))) rfl)
   (ai (av (aA hu (am (pv 0) rfl) (pv 2) (fun _ _=>rfl)))))))),?_⟩
  dsimp only[aW,Cx.nox];have isd:IsD H d:=.inl ⟨kvs,.inl hd⟩;have but:∀(m:Kvs),But d H (upd H d (.dK m)):=fun m b o e hb=>by rw[au hb];exact e
  have a1:atI x.vs (1:Int)=some (.str x.key):=by cases x <;> rfl
  have nTd:T' ≠ d:=ax h1 hd (by intro z;cases z)
  refine ae fun K_ hK_=>?_;refine⟨_,rfl,ex4 t _ _ _ ⟨rfl,rfl,hT,a1,?_⟩⟩;refine hK_ _ _ (ae fun K_ hK_=>?_);refine⟨_,rfl,ex3 T' dx _ ⟨rfl,h1,lq _ _ (by decide +kernel) (by decide +kernel),_,rfl,T',d,l,kvs,las,x.key,rfl,S,?_⟩⟩
  refine hK_ _ _ (ae fun K_ hK_=>?_);cases x with
  | drop a =>
   refine⟨_,rfl,ex4 t _ _ _ ⟨rfl,rfl,hT,rfl,rfl,_,rfl,?_⟩⟩;refine dl (fun _=>?_) (fun z=>absurd (decide_eq_true rfl) z);refine ae fun K_ hK_=>?_;refine⟨_,rfl,ex5 T' C dx _ _ ⟨rfl,h1,T.cl,T.nH,hX _ _,d,rfl,isd,_,rfl,kvs,Sum.inr a,hd,rfl,fun v e=>?_,fun e=>?_⟩⟩
   ·exact hK_ _ _ ⟨_,rfl,q _ (but _) af⟩
   ·have e3:Wk.to kvs (.drop a)=kvs:=m9 (m8 e);exact hK_ _ _ ⟨_,rfl,q H (fun b o h _=>h) (by rw[e3];exact hd)⟩
  | put a n =>
   refine⟨_,rfl,ex4 t _ _ _ ⟨rfl,rfl,hT,rfl,rfl,_,rfl,?_⟩⟩;refine dl (fun z=>absurd (of_decide_eq_true z) dne4) (fun _=>?_);refine hK_ _ _ (ae fun K_ hK_=>?_);refine⟨_,rfl,ex4 t _ _ _ ⟨rfl,rfl,hT,rfl,rfl,_,rfl,?_⟩⟩;refine dl (fun _=>?_) (fun z=>absurd (decide_eq_true rfl) z);refine ae fun K_ hK_=>?_;refine⟨_,rfl,ex4 t _ _ _ ⟨rfl,rfl,hT,rfl,_,rfl,ex5 T' C dx _ _ ⟨rfl,h1,T.cl,T.nH,hX _ _,_,rfl,d,_,rfl,cL.k (k:=Sum.inr a) hd (bJ hlen),?_⟩⟩⟩;exact hK_ _ _ ⟨_,rfl,q _ (but _) af⟩
  | add a n =>
   refine⟨_,rfl,ex4 t _ _ _ ⟨rfl,rfl,hT,rfl,rfl,_,rfl,?_⟩⟩;refine dl (fun z=>absurd (of_decide_eq_true z) dne5) (fun _=>?_);refine hK_ _ _ (ae fun K_ hK_=>?_);refine⟨_,rfl,ex4 t _ _ _ ⟨rfl,rfl,hT,rfl,rfl,_,rfl,?_⟩⟩;refine dl (fun z=>absurd (of_decide_eq_true z) dne1) (fun _=>?_);refine hK_ _ _ (ae fun K_ hK_=>?_);refine⟨_,rfl,ex5 T' C dx _ _ ⟨rfl,h1,T.cl,T.nH,hX _ _,d,rfl,isd,_,rfl,_,dZ.k (k:=Sum.inr a) hd,_,rfl,ex4 t _ _ _ ⟨rfl,rfl,hT,rfl,?_⟩⟩⟩;refine⟨_,_,num_get hI a,rfl,?_⟩;refine⟨_,rfl,ex5 T' C dx _ _ ⟨rfl,h1,T.cl,T.nH,hX _ _,_,rfl,d,_,rfl,cL.k (k:=Sum.inr a) hd (bJ hlen),?_⟩⟩;have h1':(upd H d (.dK (bz kvs (Sum.inr a) (.int (num kvs a + n))))) T'=some (.ins C dx (cT d l)):=by rw[au nTd];exact h1
   refine hK_ _ _ ?_;refine⟨_,rfl,ex5 T' C dx _ _ ⟨rfl,h1',T.cl,T.nH,hX _ _,_,rfl,d,V.int (num kvs a + n),rfl,?_,q _ (but _) af⟩⟩;have:=dZ.k (H:=upd H d (.dK (bz kvs (Sum.inr a) (.int (num kvs a + n))))) (k:=Sum.inr a) af;rw[i9,if_pos rfl]at this;exact this
noncomputable abbrev nDoes:List Str:=["self","asker","number","work","last","answer"]
theorem uU:ao nDoes ["self","asker","number","work"] (ah uN):=fsc (by decide +kernel)
theorem ok_does {f C fL fD:Addr} {fd fdL fdD:FuncData} (F:Fun K "does" "Table.does" uN f fd) (T:Cl K mg C) (GL:aI P w K mg base CX0 1 fL fdL ["self","asker"] (pe K C)) (bL:dD K fdL ["self","asker"] []) (mL:oR K C "last_of" fL)
  (GD:aI P w K mg base CX0 2 fD fdD ["self","work"] (pf K C)) (bD:dD K fdD ["self","work"] []) (mD:oR K C "work_done" fD) :
  aI P w K mg base CX0 3 f fd ["self","asker","number","work"] (ph K C):=by
 refine F.ok uU (fun vs H Q E h=>?_) (fun cdv A outer s H vs Q E hr h=>?_)
 ·obtain⟨T',d,l,t,kvs,las,x,n,wk,rfl,_⟩:=h;rfl
 ·obtain⟨T',d,l,t,kvs,las,x,n,wk,rfl,S,hlen,hll,hI,hn,hT,q⟩:=h;have hu:=cU hr;have hr1:aP 1 _:=hr.mono (by decide)
  have nd:=uU.nd;obtain⟨⟨dx,h1⟩,hd,⟨lk,hl,lr⟩,hne⟩:=id S;refine⟨_,ac (aB (i:=4) nd rfl (Or.inl rfl) (iK (pv 0) T.cl mL GL hr1 bL .nil je (ab (pv 1) ad)))
   (ac (bc (aG j7 (pv 2) (pv 4) (aN _)) (ai (av (i8 (ab aq (ab cj ad))))) aF)
   (ac (bc (aG cw (pv 2) (pv 4) (aN _)) (ai (av (i8 (ab aq (ab (aE az (aA hu (am (pv 0) rfl) (pv 1) (fun _ _=>rfl)) ag (fun _ _=>rfl)) ad))))) aF)
   (ac (aB (i:=5) nd rfl (Or.inl rfl) (iK (pv 0) T.cl mD GD hr bD .nil je (ab (pv 3) ad)))
   (ac (br hu (am (pv 0) rfl) (pv 1) (i8 (ab (pv 2) (ab (pv 5) ad))) rfl)
   (ai (av (i8 (ab aq (ab (pv 5) ad))))))))),?_⟩
  dsimp only[aW,Cx.nox];have nl1:(cT d l).lookup ("last_of":Str)=none:=lq _ _ (by decide +kernel) (by decide +kernel)
  have nl2:(cT d l).lookup ("work_done":Str)=none:=lq _ _ (by decide +kernel) (by decide +kernel)
  refine ae fun K_ hK_=>?_;refine⟨_,rfl,ex3 T' dx _ ⟨rfl,h1,nl1,_,rfl,ex6 T' d l kvs las x ⟨rfl,S,?_⟩⟩⟩;refine hK_ _ _ (ae fun K_ hK_=>?_);refine⟨_,rfl,_,rfl,_,_,rfl,rfl,_,rfl,?_⟩;have stay:∀(r:Addr)(o:HO),H r=none->aS K C (upd H r o) T' d l kvs las:=fun r o hr' =>
   ⟨⟨dx,(ar.new hr') _ _ h1⟩,(ar.new hr') _ _ hd,⟨lk,(ar.new hr') _ _ hl,lr.mono fun t xs=>SqT.same (.new hr')⟩,hne⟩
  refine dl (fun c1=>?_) (fun c1=>?_)
  ·have c1:n < db las x:=of_decide_eq_true c1;refine⟨(by show 2 <= sizeLine;decide),fun r hr'=>?_⟩
   have:=q r (upd H r (.tup [V.str "old",V.non])) hr';unfold sA ansR de fW at this;rw[if_pos c1,if_pos c1,if_pos c1,if_pos c1]at this;exact this af (stay r _ hr') (fun b o e _ _=>(ar.new hr') b o e)
  ·have c1:¬n < db las x:=fun z=>c1 (decide_eq_true z);refine hK_ _ _ (ae fun K_ hK_=>?_);refine⟨_,rfl,_,rfl,rfl,_,rfl,?_⟩;refine dl (fun c2=>?_) (fun c2=>?_)
   ·have c2:n=db las x:=V.int.inj (of_decide_eq_true c2);rcases lr.val (Sum.inr x) with ⟨e1,e2⟩ | ⟨tt,q',e1,e2,e3⟩
    ·exfalso;unfold db at c2;rw[e2]at c2;dsimp only at c2;lia
    ·have hA:uR las x=q'.2:=by unfold uR;rw[e2]
     refine⟨_,rfl,ex5 T' C dx _ _ ⟨rfl,h1,T.cl,T.nL,jq _ _,_,rfl,l,V.ref tt,rfl,?_,tt,_,_,_,rfl,rfl,e3,rfl,?_⟩⟩
     ·have:=dZ.k (H:=H) (a:=l) (k:=Sum.inr x) hl;rw[e1]at this;exact this
     refine⟨(by show 2 <= sizeLine;decide),fun r hr'=>?_⟩
     have:=q r (upd H r (.tup [V.str "again",q'.2])) hr';unfold sA ansR de fW at this;rw[if_neg c1,if_pos c2,if_neg c1,if_pos c2,if_neg c1,if_pos c2,if_neg c1,if_pos c2,hA]at this;exact this af (stay r _ hr') (fun b o e _ _=>(ar.new hr') b o e)
   ·have c2:¬n=db las x:=fun z=>c2 (decide_eq_true (congrArg V.int z));refine hK_ _ _ (ae fun K_ hK_=>?_);refine⟨_,rfl,ex3 T' dx _ ⟨rfl,h1,nl2,_,rfl,ex7 T' d l t kvs las wk ⟨rfl,S,hlen,hI,hT,fun H1 bt hd1=>?_⟩⟩⟩;have nTd:T' ≠ d:=ax h1 hd (by intro z;cases z)
    have nTl:T' ≠ l:=ax h1 hl (by intro z;cases z)
    have h11:H1 T'=some (.ins C dx (cT d l)):=bt _ _ h1 nTd;have hl1:H1 l=some (.dK lk):=bt _ _ hl hne.symm;have lr1:LR K H1 lk las:=lr.mono fun t xs=>SqT.but bt hd;refine hK_ _ _ (ae fun K_ hK_=>?_);refine⟨_,rfl,_,rfl,(by show 2 <= sizeLine;decide),fun t2 ht2=>?_⟩
    have h12:=(ar.new (o:=.tup [V.int n,wk.ans kvs]) ht2) _ _ h11;have hl2:=(ar.new (o:=.tup [V.int n,wk.ans kvs]) ht2) _ _ hl1;have hd2:=(ar.new (o:=.tup [V.int n,wk.ans kvs]) ht2) _ _ hd1;refine⟨_,rfl,ex5 T' C dx _ _ ⟨rfl,h12,T.cl,T.nL,jq _ _,_,rfl,l,_,rfl,cL.k (k:=Sum.inr x) hl2 (bJ (by rw[lr.len];exact hll)),?_⟩⟩
    refine hK_ _ _ ?_;refine⟨_,rfl,(by show 2 <= sizeLine;decide),fun r hr'=>?_⟩
    have lr2:LR K (upd (upd H1 t2 (.tup [V.int n,wk.ans kvs])) l (.dK (bz lk (Sum.inr x) (.ref t2)))) (bz lk (Sum.inr x) (.ref t2)) (iC las (Sum.inr x) (n,wk.ans kvs)):=by
     refine LR.put (lr1.mono fun t xs e=>(SqT.same (.new ht2) e).upd hl2) (Sum.inr x) (SqT.upd (SqT.of af) hl2)
    have hrH:H r=none:=by
     cases e:H r with
     | none=>rfl
     | some o =>
      exfalso;have ntl:l ≠ r:=by
       rintro rfl;rw[af]at hr';cases hr'
      have ntd:d ≠ r:=by
       rintro rfl;rw[au hne,hd2]at hr';cases hr'
      have:upd (upd H1 t2 (.tup [V.int n,wk.ans kvs])) l (.dK (bz lk (Sum.inr x) (.ref t2))) r=some o:=by
       rw[au ntl.symm];exact(ar.new ht2) _ _ (bt _ _ e ntd.symm)
      rw[this]at hr';cases hr'
    have:=q r (upd (upd (upd H1 t2 (.tup [V.int n,wk.ans kvs])) l (.dK (bz lk (Sum.inr x) (.ref t2)))) r (.tup [V.str "done",wk.ans kvs])) hrH;unfold sA ansR de fW at this;rw[if_neg c1,if_neg c2,if_neg c1,if_neg c2,if_neg c1,if_neg c2,if_neg c1,if_neg c2]at this;refine this af ⟨⟨dx,?_⟩,?_,⟨bz lk (Sum.inr x) (.ref t2),?_,lr2.mono fun t xs=>SqT.same (.new hr')⟩,hne⟩ (fun b o e nb1 nb2=>?_)
    ·exact(ar.new hr') _ _ (by rw[au nTl];exact h12)
    ·exact(ar.new hr') _ _ (by rw[au hne];exact hd2)
    ·exact(ar.new hr') _ _ af
    ·exact(ar.new hr') _ _ (by rw[au nb2];exact(ar.new ht2) _ _ (bt _ _ e nb1))
end
noncomputable def bM(ps:List (Key × V)):Kvs:=ps.foldl (fun m kv=>bz m kv.1 kv.2) []
noncomputable def cK(qs:List (Str × Int × V)):Las:=qs.foldl (fun m q=>iC m (Sum.inr q.1) q.2) []
def gr(K:Frag)(C:Addr):Sp:=fun vs H Q _=>∃(T dx hh aa:Addr)(o:Obj)(ps as:List V) (kvs:List (Key × V)) (qs:List (Str × Int × V)),vs=[.ref T,.ref hh,.ref aa]/\H T=some (.ins C dx [])/\H hh=some (.frz o (.tup ps))/\o.dict=none/\ps.length=kvs.length /\
 (∀(j:Nat)(kv:Key × V),kvs[j]?=some kv->∃b,ps[j]?=some (.ref b)/\SqT K H b [kV kv.1,kv.2])/\SqT K H aa as/\as.length=qs.length/\qs.length <= 900/\(∀(j:Nat)(q:Str × Int × V),qs[j]?=some q->∃b,as[j]?=some (.ref b)/\SqT K H b [.str q.1,.int q.2.1,q.2.2]) /\
 ∀(d l:Addr)(H':Hp),H d=none->H l=none->aS K C H' T d l (bM kvs) (cK qs)->But T H H'->Q .non H'
theorem sC(qs:List (Str × Int × V)):∀m:Las,(qs.foldl (fun m q=>iC m (Sum.inr q.1) q.2) m).length <= m.length + qs.length:=by
 induction qs with
 | nil=>intro m;exact Nat.le_refl _
 | cons q r ih =>
  intro m;have:=ih (iC m (Sum.inr q.1) q.2);have:=nU m (Sum.inr q.1) q.2;simp only[List.foldl_cons,length_cons];lia
section
variable{P:Program}{w:World}{K:Frag}{mg:Str->Option Value}{base:Heap}
noncomputable abbrev nInit:List Str:=["self","held","asked","asker","number","answer"]
theorem lx:ao nInit ["self","held","asked"] (ah kF):=fsc (by decide +kernel)
theorem ly {f C:Addr} {fd:FuncData} (F:Fun K "__init__" "Table.__init__" kF f fd) (T:Cl K mg C) (B:Blt mg):aI P w K mg base CX0 1 f fd ["self","held","asked"] (gr K C):=by
 refine F.ok lx (fun vs H Q E h=>?_) (fun cdv A outer s H vs Q E hr h=>?_)
 ·obtain⟨T',dx,hh,aa,o,ps,as,kvs,qs,rfl,_⟩:=h;rfl
 ·obtain⟨T',dx,hh,aa,o,ps,as,kvs,qs,rfl,hT,hh1,ho,hpl,hps,haa,hal,hq9,has,q⟩:=h;have hu:=cU hr;have nd:=lx.nd;refine⟨_,ac (aM (pv 0) (be (rZ rfl) (by rfl) B.dict bDict (ab (pv 1) ad)) rfl)
   (ac (aM (pv 0) gE rfl)
   (ai (cD PassesOwn.never rfl (dQ (pv 2)) (gW rfl (bO (aO (i:=3) nd rfl (Or.inl rfl)) (bO (aO (i:=4) nd rfl (Or.inl rfl)) (bO (aO (i:=5) nd rfl (Or.inl rfl)) fK))))
    (ai (br hu (am (pv 0) rfl) (pv 3) (i8 (ab (pv 4) (ab (pv 5) ad))) rfl))))),?_⟩
  dsimp only[aW,Cx.nox];refine ae fun K_ hK_=>?_;refine⟨_,rfl,hh,o,ps,kvs,rfl,hh1,ho,hpl,hps,fun d hd=>?_⟩;have hT1:=(ar.new (o:=.dK (bM kvs)) hd) _ _ hT;refine⟨_,rfl,T',C,dx,[],rfl,hT1,T.cl,T.nH,(by show 0 < 1000;decide),?_⟩
  have nTd:T' ≠ d:=ak hT hd;refine hK_ _ _ (ae fun K_ hK_=>?_);intro l hl;have nTl:T' ≠ l:=ak af hl;have hlH:H l=none:=by
   rw[au nTl.symm]at hl;exact(ar.new (o:=.dK (bM kvs)) hd).none hl
  have ndl:d ≠ l:=by
   rintro rfl;rw[au nTl.symm,af]at hl;cases hl
  refine⟨_,rfl,ex4 T' C dx _ ⟨rfl,(by rw[au nTl];exact af),T.cl,T.nL,(by show 1 < 1000;decide),?_⟩⟩
  have fX:∃H3,H3=upd (upd (upd (upd H d (.dK (bM kvs))) T' (.ins C dx (ay "held" (.ref d) []))) l (.dK [])) T' (.ins C dx (cT d l)):=⟨_,rfl⟩;obtain⟨H3,e3⟩:=fX;have b3:But T' H H3:=fun b o' e hb=>by
   rw[e3,au hb,au (ak e hlH),au hb,au (ak e hd)];exact e
  have sqB:∀{H4:Hp}{b:Addr}{xs:List V},But T' H H4->SqT K H b xs->SqT K H4 b xs:=fun bt h=>by
   rcases h with (h | ⟨o',h⟩) | h
   ·exact .inl (.inl (bt _ _ h (ax h hT (by intro z;cases z))))
   ·exact .inl (.inr ⟨o',bt _ _ h (ax h hT (by intro z;cases z))⟩)
   ·exact .inr h
  refine hK_ _ _ ?_;refine⟨_,rfl,aa,rfl,⟨as,?_⟩,fM (K:=K) (a:=aa) (xs:=as) (fun i σ H4=>∃(u v w':Option V),σ=[some (.ref T'),some (.ref hh),some (.ref aa),u,v,w']/\But T' H H4/\aS K C H4 T' d l (bM kvs) ((qs.take i).foldl (fun m q=>iC m (Sum.inr q.1) q.2) []))
   ⟨none,none,none,rfl,?_,?_⟩ (fun i σ H4 _ ⟨_,_,_,_,bt,_⟩=>sqB bt haa) ?_ ?_⟩
  ·have:=sqB b3 haa;rw[e3]at this;exact this
  ·rw[e3]at b3;exact b3
  ·refine⟨⟨dx,af⟩,?_,⟨[],?_,.nil⟩,ndl⟩
   ·rw[au nTd.symm,au ndl,au nTd.symm];exact af
   ·rw[au nTl.symm];exact af
  ·rintro i y σ H4 hy ⟨u,v,w',rfl,bt,S⟩;have hi:i < as.length:=(List.getElem?_eq_some_iff.mp hy).1;obtain⟨q',hq'⟩:∃q',qs[i]?=some q':=⟨_,getElem?_eq_getElem (by lia)⟩
   obtain⟨b,hb,hbt⟩:=has i q' hq';rw[hb]at hy;cases hy;have et:qs.take (i + 1)=qs.take i ++ [q']:=by rw[List.take_add_one,hq'];rfl
   obtain⟨⟨dx',h1⟩,hd4,⟨lk,hl4,lr⟩,_⟩:=id S;refine⟨b,_,rfl,sqB bt hbt,rfl,_,_,rfl,_,_,rfl,_,_,rfl,rfl,?_⟩;refine⟨_,rfl,_,rfl,(by show 2 <= sizeLine;decide),fun t ht=>?_⟩
   have h1':=(ar.new (o:=.tup [V.int q'.2.1,q'.2.2]) ht) _ _ h1;have hl':=(ar.new (o:=.tup [V.int q'.2.1,q'.2.2]) ht) _ _ hl4;have hd':=(ar.new (o:=.tup [V.int q'.2.1,q'.2.2]) ht) _ _ hd4;have hlen:lk.length < sizeLine:=by
    have h2:=sC (qs.take i) [];rw[<- lr.len,length_take]at h2;exact bJ (by simp at h2;lia)
   refine⟨_,rfl,ex5 T' C dx' _ _ ⟨rfl,h1',T.cl,T.nL,jq _ _,_,rfl,l,_,rfl,cL.k (k:=Sum.inr q'.1) hl' hlen,?_⟩⟩;refine(ex3 _ _ _ ⟨rfl,fun c o' e hc=>?_,⟨dx',?_⟩,?_,⟨bz lk (Sum.inr q'.1) (.ref t),af,?_⟩,ndl⟩)
   ·rw[au (ak e hlH)];exact(ar.new ht) _ _ (bt _ _ e hc)
   ·rw[au nTl];exact h1'
   ·rw[au ndl];exact hd'
   ·rw[et,List.foldl_append];exact LR.put (lr.mono fun t' xs e=>(SqT.same (.new ht) e).upd hl') (Sum.inr q'.1) (SqT.upd (SqT.of af) hl')
  ·rintro σ H4 ⟨u,v,w',rfl,bt,S⟩;rw[hal,List.take_length]at S;exact q d l H4 hd hlH S bt
end
structure dr(kvs:Kvs)(las:Las):Prop where
 gk:iy kvs
 gl:iy las
 ik:jp kvs
 fl:∀k q,dW las k=some q->q.2=.non\/∃i:Int,q.2=.int i
theorem dr.step{kvs:Kvs}{las:Las}(h:dr kvs las)(x:Str)(n:Int)(wk:Wk):dr (de kvs las x n wk) (fW kvs las x n wk):=by
 unfold de fW;split
 ·exact h
 ·split
  ·exact h
  ·refine⟨?_,h.gl.put x _,h.ik.to wk,fun k q e=>?_⟩
   ·cases wk with
    | put a n=>exact h.gk.put a _
    | add a n=>exact h.gk.put a _
    | drop a=>exact h.gk.drop _
   ·rw[uQ]at e;split at e
    ·cases e;exact h.ik.ans wk
    ·exact h.fl k q e
theorem dr.empty:dr [] []:=⟨⟨fun p hp=>(by cases hp),List.nodup_nil⟩,⟨fun p hp=>(by cases hp),List.nodup_nil⟩,fun k v e=>(by cases e),fun k q e=>(by cases e)⟩
end K45T
namespace L2
open PySem PySem.Spec PyProof.Rows
theorem gL{X:Cx}{scope:Scope}{cl:List (Str × Addr)}{N2 ys:List Str}{C:Addr}{s:Shared}{H:Hp}{fp:List Addr}{e:Expr}{f:Str}{pos:Pos}{ta:TE}(he:PE (cxC X scope cl N2 ys C s H fp) e ta)
  (hb:attributeBase e f (cxC X scope cl N2 ys C s H fp).env (eval e (cxC X scope cl N2 ys C s H fp).env)=eval e (cxC X scope cl N2 ys C s H fp).env):PE (cxC X scope cl N2 ys C s H fp) (.Attribute e f pos) (tFld X.K ta f):=am he hb
end L2
namespace K45T
open PySem L2 KM
section
variable{P:Program}{w:World}{K:Frag}{mg:Str->Option Value}{base:Heap}
end
end K45T
namespace K45
open PySem L2
abbrev pi:Stmt:=aC (top 53) 0
abbrev kH:Stmt:=aC (top 53) 5
abbrev pk:Stmt:=aC (top 57) 0
abbrev pp:Stmt:=aC (top 57) 1
abbrev sFS:Stmt:=top 27
abbrev sFW:Stmt:=top 58
def BtO(o:Addr)(H H':Hp):Prop:=∀b u,b ≠ o->H b=some u->H' b=some u
theorem BtO.refl(o:Addr)(H:Hp):BtO o H H:=fun _ _ _ e=>e
theorem BtO.of{o:Addr}{H H':Hp}(s:ar H H'):BtO o H H':=fun _ _ _ e=>s _ _ e
theorem BtO.trans{o:Addr}{H H1 H2:Hp}(a:BtO o H H1)(b:BtO o H1 H2):BtO o H H2:=fun c u n e=>b c u n (a c u n e)
theorem BtO.upd{o:Addr}{H:Hp}{u:HO}:BtO o H (L2.upd H o u):=fun b v n e=>by rw[au n];exact e
noncomputable abbrev flR (st en:Addr):List (Str × V):=ay "entries" (.ref en) (ay "stand" (.ref st) [])
noncomputable abbrev flW (t:Int) (v:V) (s:Int) (kr:Addr):List (Str × V):=ay "kept_row" (.ref kr) (ay "settled_place" (.int s) (ay "vote" v (ay "term" (.int t) [])))
structure ClR(K:Frag)(mg:Str->Option Value)(C:Addr):Prop where
 cl:Cls K C
 nS:aU K C "stand"
 nE:aU K C "entries"
 mgC:mg "Row"=some (.ref C)
structure ClW(K:Frag)(mg:Str->Option Value)(C:Addr):Prop where
 cl:Cls K C
 nT:aU K C "term"
 nV:aU K C "vote"
 nS:aU K C "settled_place"
 nK:aU K C "kept_row"
 mgC:mg "Written"=some (.ref C)
def lz(K:Frag)(C:Addr):Sp:=fun us H Q _=>∃(r dx st en:Addr)(ys:List V),us=[.ref r,.ref st,.ref en]/\H r=some (.ins C dx [])/\SqT K H en ys/\∀H',BtO r H H'->H' r=some (.ins C dx (flR st en))->Q .non H'
def RowO(C:Addr)(H:Hp)(r st en:Addr):Prop:=∃dx,H r=some (.ins C dx (flR st en))
def WrO(CW CR:Addr)(H:Hp)(o:Addr)(t:Int)(v:V)(s:Int)(kr st en:Addr):Prop:=(∃dx,H o=some (.ins CW dx (flW t v s kr)))/\RowO CR H kr st en
theorem WrO.same{CW CR:Addr}{H H':Hp}{o:Addr}{t:Int}{v:V}{s:Int}{kr st en:Addr}(e:ar H H')(h:WrO CW CR H o t v s kr st en):WrO CW CR H' o t v s kr st en:=by
 obtain⟨⟨dx,h1⟩,dy,h2⟩:=h;exact⟨⟨dx,e _ _ h1⟩,dy,e _ _ h2⟩
theorem WrO.bto{CW CR:Addr}{H H':Hp}{o:Addr}{t:Int}{v:V}{s:Int}{kr st en x C2 dz:Addr}(hx:H x=some (.ins C2 dz []))(e:BtO x H H')(h:WrO CW CR H o t v s kr st en):WrO CW CR H' o t v s kr st en:=by
 obtain⟨⟨dx,h1⟩,dy,h2⟩:=h;have n1:o ≠ x:=ax h1 hx (by intro z;cases z)
 have n2:kr ≠ x:=ax h2 hx (by intro z;cases z)
 exact⟨⟨dx,e _ _ n1 h1⟩,dy,e _ _ n2 h2⟩
def StO(K:Frag)(H:Hp)(st:Addr)(pl tm:Int)(b hh aa:Addr):Prop:=SqT K H st [.int pl,.int tm,.ref b,.ref hh,.ref aa]
def gt(K:Frag)(C:Addr):Sp:=fun us H Q _=>∃(r st en b hh aa:Addr)(pl tm p:Int)(ys:List V),us=[.ref r,.int p]/\RowO C H r st en/\StO K H st pl tm b hh aa/\H en=some (.tup ys)/\pl <= p/\∀(a:Addr)(H':Hp),ar H H'->H' a=some (.tup (ys.take (p - pl).toNat))->Q (.ref a) H'
def iP(K:Frag)(CW CR:Addr):Sp:=fun us H Q _=>∃(o dx p st en:Addr)(t s:Int)(v:V)(ys:List V),us=[.ref o,.ref p]/\H o=some (.ins CW dx [])/\SqT K H p [.int t,v,.int s,.ref st,.ref en]/\SqT K H en ys/\∀(kr:Addr)(H':Hp),H kr=none->BtO o H H'->WrO CW CR H' o t v s kr st en->Q .non H'
def lA(K:Frag)(CW CR:Addr):Sp:=fun us H Q _=>∃(o kr st en:Addr)(t s:Int)(v:V),us=[.ref o]/\WrO CW CR H o t v s kr st en/\∀(p:Addr)(H':Hp),ar H H'->H' p=some (.tup [.int t,v,.int s,.ref st,.ref en])->Q (.ref p) H'
def spFS:Sp:=fun us H Q _=>∃b:Addr,us=[.ref b]/\∀(st e1 e2:Addr)(o1 o2:Obj)(H':Hp),ar H H'->H' st=some (.tup [.int 0,.int 0,.ref b,.ref e1,.ref e2])->H' e1=some (.frz o1 (.tup []))->o1.dict=none->H' e2=some (.frz o2 (.tup []))->o2.dict=none->Q (.ref st) H'
def spFW(CW CR:Addr):Sp:=fun us H Q _=>∃b:Addr,us=[.ref b]/\∀(o kr st en e1 e2:Addr)(o1 o2:Obj)(H':Hp),ar H H'->WrO CW CR H' o 0 .non 0 kr st en->H' st=some (.tup [.int 0,.int 0,.ref b,.ref e1,.ref e2])->H' e1=some (.frz o1 (.tup []))->o1.dict=none->H' e2=some (.frz o2 (.tup []))->o2.dict=none->H' en=some (.tup [])->Q (.ref o) H'
theorem at3'{α:Type}{a b c d:α}{r:List α}:atI (a :: b :: c :: d :: r) 3=some d:=cX (j:=3) rfl
theorem at4'{α:Type}{a b c d e:α}{r:List α}:atI (a :: b :: c :: d :: e :: r) 4=some e:=cX (j:=4) rfl
theorem uV{α:Type}{a b c:α}{r:List α}:atI (a :: b :: c :: r) 2=some c:=cX (j:=2) rfl
theorem qW(ys:List V)(k:Nat):c6 ys none (some (k:Int))=ys.take k:=by
 unfold c6;rw[HT.jc,HT.gF,List.drop_zero,Nat.sub_zero];by_cases h:k <= ys.length
 ·rw[Nat.min_eq_left h]
 ·rw[Nat.min_eq_right (by lia),take_of_length_le (Nat.le_refl _),take_of_length_le (by lia)]
section
variable{P:Program}{w:World}{K:Frag}{mg:Str->Option Value}{base:Heap}{CR CW:Addr}
theorem scRInit:ao ["self","stand","entries"] ["self","stand","entries"] (ah pi):=fsc (by decide +kernel)
theorem uW {f:Addr} {fd:FuncData} (F:Fun K "__init__" "Row.__init__" pi f fd) (T:ClR K mg CR) (htuple:mg "tuple"=none):aI P w K mg base CX0 1 f fd ["self","stand","entries"] (lz K CR):=by
 refine F.ok scRInit (fun vs H Q E h=>?_) (fun cdv A outer s H vs Q E hr h=>?_)
 ·obtain⟨r,dx,st,en,ys,rfl,_⟩:=h;rfl
 ·obtain⟨r,dx,st,en,ys,rfl,hR,he,q⟩:=h;refine⟨_,ac (aM (pv 0) (pv 1) rfl) (ai (aM (pv 0) (be ky (by rfl) htuple ce (ab (pv 2) ad)) rfl)),?_⟩
  refine ae fun K_ hK_=>?_;refine⟨_,rfl,_,rfl,r,CR,dx,[],rfl,hR,T.cl,T.nS,(by show 0 < 1000;decide),?_⟩
  have he2:SqT K (upd H r (.ins CR dx (ay "stand" (.ref st) []))) en ys:=by
   rcases he with he | he
   ·refine .inl ?_;rcases he with he | ⟨o,he⟩
    ·exact .inl (by rw[au (ax he hR (by intro z;cases z))];exact he)
    ·exact .inr ⟨o,by rw[au (ax he hR (by intro z;cases z))];exact he⟩
   ·exact .inr he
  refine hK_ _ _ ?_;refine⟨_,rfl,en,ys,rfl,he2,_,rfl,ex4 r CR dx _ ⟨rfl,af,T.cl,T.nE,(by show 1 < 1000;decide),?_⟩⟩
  exact q _ (BtO.upd.trans BtO.upd) af
theorem pq:ao ["self","place"] ["self","place"] (ah kH):=fsc (by decide +kernel)
theorem ok_upto {f:Addr} {fd:FuncData} (F:Fun K "up_to" "Row.up_to" kH f fd) (T:ClR K mg CR):aI P w K mg base CX0 1 f fd ["self","place"] (gt K CR):=by
 refine F.ok pq (fun vs H Q E h=>?_) (fun cdv A outer s H vs Q E hr h=>?_)
 ·obtain⟨r,st,en,b,hh,aa,pl,tm,p,ys,rfl,_⟩:=h;rfl
 ·obtain⟨r,st,en,b,hh,aa,pl,tm,p,ys,rfl,⟨dx,hR⟩,hst,he,hp,q⟩:=h;refine⟨_,ai <| av <| bU cN (am (pv 0) rfl) cC (bW (aL dR (pv 1) (aE az (am (pv 0) rfl) ag (fun _ _=>rfl)))),?_⟩;obtain⟨k,hk⟩:=Int.eq_ofNat_of_zero_le (show 0 <= p - pl by lia)
  refine⟨_,rfl,ex5 r CR dx _ _ ⟨rfl,hR,T.cl,T.nE,by kernel_rfl,_,rfl,_,rfl,ex5 r CR dx _ _ ⟨rfl,hR,T.cl,T.nS,by kernel_rfl,st,_,_,_,rfl,rfl,hst,at0,_,_,rfl,rfl,_,rfl,en,ys,rfl,he,fun a H' s' e'=>q a H' s' ?_⟩⟩⟩
  rw[e',hk,qW];rfl
theorem scWInit:ao ["self","parts"] ["self","parts"] (ah pk):=fsc (by decide +kernel)
theorem gM{o x:Addr}{H H':Hp}{ys:List V}{C dx:Addr}{fs:List (Str × V)}(b:BtO o H H')(ho:H o=some (.ins C dx fs))(h:SqT K H x ys):SqT K H' x ys:=by
 rcases h with h | h
 ·refine .inl ?_;rcases h with h | ⟨u,h⟩
  ·exact .inl (b _ _ (ax h ho (by intro z;cases z)) h)
  ·exact .inr ⟨u,b _ _ (ax h ho (by intro z;cases z)) h⟩
 ·exact .inr h
theorem uX {f:Addr} {fd:FuncData} (F:Fun K "__init__" "Written.__init__" pk f fd) (T:ClW K mg CW) (TR:ClR K mg CR) (Mr:dU P w K mg base CR 1 ["self","stand","entries"] (lz K CR)):aI P w K mg base CX0 3 f fd ["self","parts"] (iP K CW CR):=by
 refine F.ok scWInit (fun vs H Q E h=>?_) (fun cdv A outer s H vs Q E hr h=>?_)
 ·obtain⟨o,dx,p,st,en,t,s,v,ys,rfl,_⟩:=h;rfl
 ·obtain⟨o,dx,p,st,en,t,s,v,ys,rfl,hO,hp,he,q⟩:=h;have r2:aP 2 _:=hr.mono (by decide)
  refine⟨_,ac (aM (pv 0) (aE az (pv 1) ag (fun _ _=>rfl)) rfl) <| ac (aM (pv 0) (aE az (pv 1) ag (fun _ _=>rfl)) rfl) <| ac (aM (pv 0) (aE az (pv 1) ag (fun _ _=>rfl)) rfl) <|
   ai (aM (pv 0) (cn Mr r2 TR.mgC (ab (aE az (pv 1) ag (fun _ _=>rfl)) (ab (aE az (pv 1) ag (fun _ _=>rfl)) ad))) rfl),?_⟩
  refine ae fun K_ hK_=>?_;refine⟨_,rfl,ex4 p _ _ _ ⟨rfl,rfl,hp,at0,_,rfl,o,CW,dx,[],rfl,hO,T.cl,T.nT,(by show 0 < 1000;decide),?_⟩⟩
  have b1:BtO o H (upd H o (.ins CW dx (ay "term" (.int t) []))):=BtO.upd;refine hK_ _ _ (ae fun K_ hK_=>?_);refine⟨_,rfl,ex4 p _ _ _ ⟨rfl,rfl,gM b1 hO hp,at1,_,rfl,ex4 o CW dx _ ⟨rfl,af,T.cl,T.nV,(by show 1 < 1000;decide),?_⟩⟩⟩
  have b2:=b1.trans (BtO.upd (u:=.ins CW dx (ay "vote" v (ay "term" (.int t) []))));refine hK_ _ _ (ae fun K_ hK_=>?_);refine⟨_,rfl,ex4 p _ _ _ ⟨rfl,rfl,gM b2 hO hp,uV,_,rfl,ex4 o CW dx _ ⟨rfl,af,T.cl,T.nS,(by show 2 < 1000;decide),?_⟩⟩⟩
  have b3:=b2.trans (BtO.upd (u:=.ins CW dx (ay "settled_place" (.int s) (ay "vote" v (ay "term" (.int t) [])))));have e3:upd (upd (upd H o (.ins CW dx (ay "term" (.int t) []))) o (.ins CW dx (ay "vote" v (ay "term" (.int t) [])))) o (.ins CW dx (ay "settled_place" (.int s) (ay "vote" v (ay "term" (.int t) [])))) o=some (.ins CW dx (ay "settled_place" (.int s) (ay "vote" v (ay "term" (.int t) [])))):=af;generalize upd (upd (upd H o (.ins CW dx (ay "term" (.int t) []))) o (.ins CW dx (ay "vote" v (ay "term" (.int t) [])))) o (.ins CW dx (ay "settled_place" (.int s) (ay "vote" v (ay "term" (.int t) []))))=H3 at b3 e3 ⊢;refine hK_ _ _ ?_;refine⟨_,rfl,ex4 p _ _ _ ⟨rfl,rfl,gM b3 hO hp,at3',_,rfl,ex4 p _ _ _ ⟨rfl,rfl,gM b3 hO hp,at4',?_⟩⟩⟩;intro kr dk nk nd ndk;have nk':upd H3 dk (.own kr) kr=none:=by rw[au ndk.symm];exact nk
  have s4:ar H3 (upd (upd H3 dk (.own kr)) kr (.ins CR dk [])):=(ar.new nd).trans (ar.new nk');refine(ex5 kr dk st en ys ⟨rfl,af,?_,fun H5 b5 e5=>⟨rfl,?_⟩⟩)
  ·have:=gM b3 hO he;rcases this with h | h
   ·refine .inl ?_;rcases h with h | ⟨u,h⟩
    ·exact .inl (s4 _ _ h)
    ·exact .inr ⟨u,s4 _ _ h⟩
   ·exact .inr h
  ·have nko:kr ≠ o:=(ak e3 nk).symm;have e5o:H5 o=some (.ins CW dx (ay "settled_place" (.int s) (ay "vote" v (ay "term" (.int t) [])))):=b5 _ _ nko.symm (s4 _ _ e3);refine⟨_,rfl,ex4 o CW dx _ ⟨rfl,e5o,T.cl,T.nK,(by show 3 < 1000;decide),?_⟩⟩
   have hkr:H kr=none:=by
    cases e:H kr with
    | none=>rfl
    | some u=>exact absurd (b3 _ _ nko e) (by rw[nk];intro z;cases z)
   refine q kr _ hkr (fun c u n e=>?_) ⟨⟨dx,af⟩,dk,by rw[au nko];exact e5⟩
   rw[au n];exact b5 _ _ (ak e hkr) (s4 _ _ (b3 _ _ n e))
theorem scWTold:ao ["self"] ["self"] (ah pp):=fsc (by decide +kernel)
theorem uY {f:Addr} {fd:FuncData} (F:Fun K "told" "Written.told" pp f fd) (T:ClW K mg CW) (TR:ClR K mg CR):aI P w K mg base CX0 1 f fd ["self"] (lA K CW CR):=by
 refine F.ok scWTold (fun vs H Q E h=>?_) (fun cdv A outer s H vs Q E hr h=>?_)
 ·obtain⟨o,kr,st,en,t,s,v,rfl,_⟩:=h;rfl
 ·obtain⟨o,kr,st,en,t,s,v,rfl,⟨⟨dx,h1⟩,dy,h2⟩,q⟩:=h;have hs16:sizeLine=16777216:=sizeLine_eq;refine⟨_,ai <| av <| aH (ab (am (pv 0) rfl) (ab (am (pv 0) rfl) (ab (am (pv 0) rfl) (ab (am (am (pv 0) rfl) rfl) (ab (am (am (pv 0) rfl) rfl) ad))))),?_⟩;refine⟨_,rfl,o,CW,dx,_,_,rfl,h1,T.cl,T.nT,by kernel_rfl,_,rfl,o,CW,dx,_,_,rfl,h1,T.cl,T.nV,by kernel_rfl,_,rfl,o,CW,dx,_,_,rfl,h1,T.cl,T.nS,by kernel_rfl,
   _,rfl,o,CW,dx,_,_,rfl,h1,T.cl,T.nK,by kernel_rfl,kr,CR,dy,_,_,rfl,h2,TR.cl,TR.nS,by kernel_rfl,_,rfl,o,CW,dx,_,_,rfl,h1,T.cl,T.nK,by kernel_rfl,kr,CR,dy,_,_,rfl,h2,TR.cl,TR.nE,by kernel_rfl,(show 5 <= sizeLine by lia),fun p H' np s' e'=>q p H' s' e'⟩
theorem scFS:ao ["bench"] ["bench"] (ah sFS):=fsc (by decide +kernel)
theorem ok_fs {f:Addr} {fd:FuncData} (F:Fun K "first_stand" "first_stand" sFS f fd):aI P w K mg base CX0 1 f fd ["bench"] spFS:=by
 refine F.ok scFS (fun vs H Q E h=>?_) (fun cdv A outer s H vs Q E hr h=>?_)
 ·obtain⟨b,rfl,_⟩:=h;rfl
 ·obtain⟨b,rfl,q⟩:=h;have hs16:sizeLine=16777216:=sizeLine_eq;refine⟨_,ai <| av <| aH (ab ag (ab ag (ab (pv 0) (ab iL (ab iL ad))))),?_⟩;refine⟨_,rfl,fun e1 n1=>?_⟩;intro e2 n2;have s1:=ar.new (o:=.frz { cls:=.type "tuple",data:=.seq #[] } (.tup [])) n1;have s2:=ar.new (o:=.frz { cls:=.type "tuple",data:=.seq #[] } (.tup [])) n2;refine⟨(show 5 <= sizeLine by lia),fun st H' ns s3 e3=>q st e1 e2 _ _ H' ((s1.trans s2).trans s3) e3 (s3 _ _ (s2 _ _ af)) rfl (s3 _ _ af) rfl⟩
theorem scFW:ao ["bench"] ["bench"] (ah sFW):=fsc (by decide +kernel)
theorem ok_fw {f:Addr} {fd:FuncData} (F:Fun K "first_written" "first_written" sFW f fd) (T:ClW K mg CW) (Fs:aJ P w K mg base 1 "first_stand" ["bench"] spFS) (Mw:dU P w K mg base CW 3 ["self","parts"] (iP K CW CR)):aI P w K mg base CX0 5 f fd ["bench"] (spFW CW CR):=by
 refine F.ok scFW (fun vs H Q E h=>?_) (fun cdv A outer s H vs Q E hr h=>?_)
 ·obtain⟨b,rfl,_⟩:=h;rfl
 ·obtain⟨b,rfl,q⟩:=h;have r1:aP 1 _:=hr.mono (by decide)
  have r4:aP 4 _:=hr.mono (by decide)
  have hs16:sizeLine=16777216:=sizeLine_eq;refine⟨_,ai <| av <| cn Mw r4 T.mgC (ab (aH (ab ag (ab cj (ab ag (ab (aj Fs r1 (ab (pv 0) ad)) (ab (aH ad) ad)))))) ad),?_⟩;refine⟨_,rfl,b,rfl,fun st e1 e2 o1 o2 H1 s1 h1 h2 d1 h3 d2=>⟨Nat.zero_le _,fun en H2 n2 s2 h4=>⟨(show 5 <= sizeLine by lia),fun p H3 n3 s3 h5=>?_⟩⟩⟩
  intro o dx no nd ndo;have no':upd H3 dx (.own o) o=none:=by rw[au ndo.symm];exact no
  have s4:ar H3 (upd (upd H3 dx (.own o)) o (.ins CW dx [])):=(ar.new nd).trans (ar.new no');refine⟨o,dx,p,st,en,0,0,.non,[],rfl,af,SqT.of (s4 _ _ h5),SqT.of (s4 _ _ (s3 _ _ h4)),fun kr H5 nk b5 w5=>⟨rfl,?_⟩⟩;have s35:ar H3 H5:=fun c u e=>b5 _ _ (ak e no) (s4 _ _ e);exact q o kr st en e1 e2 o1 o2 H5 (s1.trans (s2.trans (s3.trans s35))) w5 (s35 _ _ (s3 _ _ (s2 _ _ h1))) (s35 _ _ (s3 _ _ (s2 _ _ h2))) d1 (s35 _ _ (s3 _ _ (s2 _ _ h3))) d2 (s35 _ _ (s3 _ _ h4))
end
open K45T (Kvs Las Wk aS dr cF de fW)
abbrev sAD:Stmt:=top 60
abbrev sTF:Stmt:=top 61
structure Bn where
 vs:List Str
 cs:List Str
 ls:List Str
structure BnO(H:Hp)(b:Addr)(x:Bn):Prop where
 at':∃v c l,H b=some (.tup [.ref v,.ref c,.ref l])/\H v=some (.tup (x.vs.map V.str))/\H c=some (.tup (x.cs.map V.str))/\H l=some (.tup (x.ls.map V.str))
 lv:x.vs.length <= 9
 lc:x.cs.length <= 9
 ll:x.ls.length <= 9
inductive Dd where
 | fst
 | ask (x:Str) (n:Int) (wk:Wk)
 | bn (b:Bn)
abbrev En:=Int × Dd
noncomputable def DdO(H:Hp)(d:Addr):Dd->Prop
 | .fst=>H d=some (.tup [.str "first"])
 | .ask x n wk=>1 <= n/\∃t,H d=some (.tup [.str "ask",.str x,.int n,.ref t])/\H t=some (.tup wk.vs)
 | .bn b=>∃a,H d=some (.tup [.str "bench",.ref a])/\BnO H a b
def EnO(H:Hp)(a:Addr)(e:En):Prop:=∃d,H a=some (.tup [.int e.1,.ref d])/\DdO H d e.2
def Tk(H H':Hp):Prop:=∀a xs,H a=some (.tup xs)->H' a=some (.tup xs)
theorem Tk.of{H H':Hp}(s:ar H H'):Tk H H':=fun a xs e=>s _ _ e
theorem Tk.refl(H:Hp):Tk H H:=fun _ _ e=>e
theorem Tk.trans{H H1 H2:Hp}(a:Tk H H1)(b:Tk H1 H2):Tk H H2:=fun c xs e=>b c xs (a c xs e)
theorem Tk.bt{o:Addr}{H H':Hp}{C dx:Addr}{fs:List (Str × V)}(b:BtO o H H')(ho:H o=some (.ins C dx fs)):Tk H H':=fun a xs e=>b _ _ (ax e ho (by intro z;cases z)) e
theorem BnO.tk{H H':Hp}{b:Addr}{x:Bn}(k:Tk H H')(h:BnO H b x):BnO H' b x:=by
 obtain⟨⟨v,c,l,h1,h2,h3,h4⟩,h5,h6,h7⟩:=h;exact⟨⟨v,c,l,k _ _ h1,k _ _ h2,k _ _ h3,k _ _ h4⟩,h5,h6,h7⟩
theorem DdO.tk{H H':Hp}{d:Addr}{x:Dd}(k:Tk H H')(h:DdO H d x):DdO H' d x:=by
 cases x with
 | fst=>exact k _ _ h
 | ask a n wk =>
  obtain⟨h1,t,h2,h3⟩:=h;exact⟨h1,t,k _ _ h2,k _ _ h3⟩
 | bn b =>
  obtain⟨a,h1,h2⟩:=h;exact⟨a,k _ _ h1,h2.tk k⟩
theorem EnO.tk{H H':Hp}{a:Addr}{e:En}(k:Tk H H')(h:EnO H a e):EnO H' a e:=by
 obtain⟨d,h1,h2⟩:=h;exact⟨d,k _ _ h1,h2.tk k⟩
theorem cg{H H':Hp}{es:List Addr}{xs:List En}(k:Tk H H')(h:Paired (EnO H) es xs):Paired (EnO H') es xs:=Paired.imp' (fun _ _ q=>q.tk k) h
noncomputable def eR(s:Kvs × Las)(e:En):Kvs × Las:=match e.2 with
 | .ask x n wk=>(de s.1 s.2 x n wk,fW s.1 s.2 x n wk)
 | _=>s
def c8(s:Kvs × Las)(xs:List En):Kvs × Las:=xs.foldl eR s
theorem uZ{s:Kvs × Las}(h:dr s.1 s.2)(e:En):dr (eR s e).1 (eR s e).2:=by
 unfold eR;cases e.2 with
 | fst=>exact h
 | ask x n wk=>exact h.step _ _ _
 | bn b=>exact h
theorem lB{s:Kvs × Las}(h:dr s.1 s.2):∀xs:List En,dr (c8 s xs).1 (c8 s xs).2
 | []=>h
 | e :: r=>lB (s:=eR s e) (uZ h e) r
theorem sE(kvs:Kvs)(las:Las)(x:Str)(n:Int)(wk:Wk):(de kvs las x n wk).length <= kvs.length + 1:=by
 unfold de;have:=K45T.to_len kvs wk;split
 ·lia
 ·split
  ·lia
  ·exact this
theorem va(kvs:Kvs)(las:Las)(x:Str)(n:Int)(wk:Wk):(fW kvs las x n wk).length <= las.length + 1:=by
 unfold fW;split
 ·lia
 ·split
  ·lia
  ·exact K45T.nU _ _ _
theorem sG(s:Kvs × Las)(e:En):(eR s e).1.length <= s.1.length + 1/\(eR s e).2.length <= s.2.length + 1:=by
 unfold eR;cases e.2 with
 | fst=>exact⟨Nat.le_succ _,Nat.le_succ _⟩
 | ask x n wk=>exact⟨sE _ _ _ _ _,va _ _ _ _ _⟩
 | bn b=>exact⟨Nat.le_succ _,Nat.le_succ _⟩
theorem jt:∀(xs:List En)(s:Kvs × Las),(c8 s xs).1.length <= s.1.length + xs.length/\(c8 s xs).2.length <= s.2.length + xs.length
 | [],s=>⟨Nat.le_refl _,Nat.le_refl _⟩
 | e :: r,s=>by
  have h1:=sG s e;have h2:=jt r (eR s e);show (c8 (eR s e) r).1.length <= _/\(c8 (eR s e) r).2.length <= _;rw[length_cons];lia
theorem sI{xs:List En}{i:Nat}{e:En}(s:Kvs × Las)(h:xs[i]?=some e):c8 s (xs.take (i + 1))=eR (c8 s (xs.take i)) e:=by
 unfold c8;rw[List.take_add_one,h,List.foldl_append];rfl
theorem vb(las:Las)(x:Str)(n:Int):∃wd:Str,K45T.sA las x n=.str wd:=by
 unfold K45T.sA;split
 ·exact⟨_,rfl⟩
 ·split
  ·exact⟨_,rfl⟩
  ·exact⟨_,rfl⟩
def eS(H:Hp)(a:Addr):Prop:=∃(x wd:Str)(n:Int)(y:V),H a=some (.tup [.str x,.int n,.str wd,y])
theorem eS.tk{H H':Hp}{a:Addr}(k:Tk H H')(h:eS H a):eS H' a:=by
 obtain⟨x,wd,n,y,h⟩:=h;exact⟨x,wd,n,y,k _ _ h⟩
def spAD(K:Frag)(CT:Addr):Sp:=fun us H Q _=>∃(T d l en:Addr)(s:Kvs × Las)(es:List Addr)(xs:List En),us=[.ref T,.ref en]/\aS K CT H T d l s.1 s.2/\dr s.1 s.2/\s.1.length <= 400/\s.2.length <= 400/\H en=some (.tup (es.map V.ref))/\Paired (EnO H) es xs/\es.length <= 400 /\
 ∀(r:Addr)(ts:List Addr)(H':Hp),aS K CT H' T d l (c8 s xs).1 (c8 s xs).2->cF d l H H'->H' r=some (.tup (ts.map V.ref))->ts.length <= es.length->(∀a ∈ ts,eS H' a)->Q (.ref r) H'
theorem cF.trans{d l:Addr}{H H1 H2:Hp}(a:cF d l H H1)(b:cF d l H1 H2):cF d l H H2:=fun c u e n1 n2=>b c u (a c u e n1 n2) n1 n2
theorem cF.of{d l:Addr}{H H1:Hp}(s:ar H H1):cF d l H H1:=fun c u e _ _=>s _ _ e
theorem cF.tk{K:Frag}{C T d l:Addr}{H H':Hp}{kvs:Kvs}{las:Las}(t:aS K C H T d l kvs las)(b:cF d l H H'):Tk H H':=fun a xs e=>by
 obtain⟨lk,h2,_⟩:=t.hl;exact b _ _ e (ax e t.hd (by intro z;cases z)) (ax e h2 (by intro z;cases z))
theorem neBA:decide (V.str (Str.ofString "bench")=V.str (Str.ofString "ask"))=false:=by decide +kernel
theorem neFA:decide (V.str (Str.ofString "first")=V.str (Str.ofString "ask"))=false:=by decide +kernel
section
variable{P:Program}{w:World}{K:Frag}{mg:Str->Option Value}{base:Heap}{CT CR CW:Addr}
noncomputable abbrev nAD:List Str:=["table","entries","told","entry","deed"]
theorem scAD:ao nAD ["table","entries"] (ah sAD):=fsc (by decide +kernel)
theorem aS.same{T d l:Addr}{H H':Hp}{kvs:Kvs}{las:Las}(e:ar H H')(h:aS K CT H T d l kvs las):aS K CT H' T d l kvs las:=by
 obtain⟨⟨dx,h1⟩,h2,⟨lk,h3,h4⟩,h5⟩:=h;refine⟨⟨dx,e _ _ h1⟩,e _ _ h2,⟨lk,e _ _ h3,?_⟩,h5⟩;exact Paired.imp' (fun p q hh=>by
  obtain⟨a1,t,a2,a3⟩:=hh;refine⟨a1,t,a2,?_⟩;rcases a3 with h | h
  ·refine .inl ?_;rcases h with h | ⟨u,h⟩
   ·exact .inl (e _ _ h)
   ·exact .inr ⟨u,e _ _ h⟩
  ·exact .inr h) h4
theorem ok_ad {f:Addr} {fd:FuncData} (F:Fun K "asks_done" "asks_done" sAD f fd) (T:K45T.Cl K mg CT) (htuple:mg "tuple"=none) (Md:aD P w K mg base CT 3 "does" ["self","asker","number","work"] (K45T.ph K CT)):aI P w K mg base CX0 4 f fd ["table","entries"] (spAD K CT):=by
 refine F.ok scAD (fun vs H Q E h=>?_) (fun cdv A outer s H vs Q E hr h=>?_)
 ·obtain⟨T',d,l,en,s,es,xs,rfl,_⟩:=h;rfl
 ·obtain⟨T',d,l,en,st,es,xs,rfl,hT,hok,k4,l4,hen,hes,e4,q⟩:=h;have nd:=scAD.nd;have hs16:sizeLine=16777216:=sizeLine_eq;refine⟨_,ac (aB (i:=2) nd rfl (Or.inl rfl) (bg ad)) <|
   ac (cD PassesOwn.never rfl (dQ (pv 1)) (aO (i:=3) nd rfl (Or.inl rfl)) <|
    ac (aB (i:=4) nd rfl (Or.inl rfl) (aE az (pv 3) ag (fun _ _=>rfl))) <|
    ai (bc (aG cw (aE az (pv 4) ag (fun _ _=>rfl)) aq (aN _))
     (ai (aZ (fZ PySem.F.plainAttrs_list PySem.F.slot_list_append PySem.F.type_list_append dN (pv 2) (ab (aL dq (aH (ab (aE az (pv 4) ag (fun _ _=>rfl)) (ab (aE az (pv 4) ag (fun _ _=>rfl)) ad)))
      (aQ Md T.cl hr (pv 0) (ab (aE az (pv 4) ag (fun _ _=>rfl)) (ab (aE az (pv 4) ag (fun _ _=>rfl)) (ab (aE az (pv 4) ag (fun _ _=>rfl)) ad))))) ad)))) aF)) <|
   ai (av (be bh (by rfl) htuple ce (ab (pv 2) ad))),?_⟩
  dsimp only[aW,Cx.nox];have hel:es.length=xs.length:=Paired.length hes;refine ae fun K_ hK_=>?_;refine⟨Nat.zero_le _,fun l0 H1 n1 s1 e1=>?_⟩;refine hK_ _ _ (ae fun K_ hK_=>?_);refine⟨_,rfl,en,rfl,⟨_,SqT.of (s1 _ _ hen)⟩,fM (K:=K) (xs:=es.map V.ref) (fun i σ Hx=>∃(v3 v4:Option V)(rs:List Addr),σ=[some (V.ref T'),some (V.ref en),some (V.ref l0),v3,v4]/\Hx l0=some (.lst (rs.map V.ref))/\(rs.length <= i/\∀a ∈ rs,eS Hx a)/\aS K CT Hx T' d l (c8 st (xs.take i)).1 (c8 st (xs.take i)).2/\cF d l H Hx)
   ⟨none,none,[],rfl,e1,⟨Nat.zero_le _,fun a ha=>(nomatch ha)⟩,aS.same s1 hT,cF.of s1⟩ ?_ ?_ ?_⟩
  ·rintro i σ Hx hi ⟨v3,v4,rs,rfl,h1,h2,h3,h4⟩;exact SqT.of (cF.tk hT h4 _ _ hen)
  ·rintro i x σ Hx hx ⟨v3,v4,rs,rfl,h1,h2,h3,h4⟩;rw[getElem?_map]at hx;cases he:es[i]? with
   | none=>rw[he]at hx;cases hx
   | some a =>
    rw[he]at hx;cases hx;have hil:i < es.length:=(List.getElem?_eq_some_iff.mp he).1;have hix:i < xs.length:=by lia
    have hxe:xs[i]?=some xs[i]:=getElem?_eq_getElem hix;have hE:EnO Hx a xs[i]:=by
     have:=Paired.zip hes (es[i],xs[i]) (List.mem_iff_getElem.mpr ⟨i,by rw[List.length_zip];lia,List.getElem_zip⟩)
     have hh:a=es[i]:=by
      rw[getElem?_eq_getElem hil]at he;exact(Option.some.inj he).symm
     rw[hh];exact EnO.tk (cF.tk hT h4) this
    have hrun:=sI st hxe;have rl:=jt (xs.take i) st;have tl:(xs.take i).length <= i:=by rw[length_take];lia
    have rok:=lB hok (xs.take i);generalize xs[i]=e at hE hrun;obtain⟨tm,dd⟩:=e;obtain⟨dA,hA1,hA2⟩:=hE;refine⟨_,rfl,ex4 a _ _ _ ⟨rfl,rfl,SqT.of hA1,at1,?_⟩⟩;cases dd with
    | bn bb =>
     obtain⟨ba,hA2,_⟩:=hA2;refine⟨_,rfl,ex4 dA _ _ _ ⟨rfl,rfl,SqT.of hA2,at0,rfl,_,rfl,?_⟩⟩;rw[neBA];refine bI ?_;refine(ex3 _ _ rs ⟨rfl,h1,⟨by have:=h2.1;lia,h2.2⟩,?_,h4⟩)
     rw[hrun];exact h3
    | fst =>
     have hA2:Hx dA=some (.tup [.str "first"]):=hA2
     refine⟨_,rfl,ex4 dA _ _ _ ⟨rfl,rfl,SqT.of hA2,at0,rfl,_,rfl,?_⟩⟩;rw[neFA];refine bI ?_;refine(ex3 _ _ rs ⟨rfl,h1,⟨by have:=h2.1;lia,h2.2⟩,?_,h4⟩)
     rw[hrun];exact h3
    | ask x n wk =>
     obtain⟨n1',t,hA2,hA3⟩:=hA2;refine⟨_,rfl,ex4 dA _ _ _ ⟨rfl,rfl,SqT.of hA2,at0,rfl,_,rfl,?_⟩⟩;rw[decide_eq_true rfl];refine cm ?_;refine⟨_,rfl,.inl ⟨rfl,_,SqL.of h1⟩,_,rfl,ex4 dA _ _ _ ⟨rfl,rfl,SqT.of hA2,at1,_,rfl,ex4 dA _ _ _ ⟨rfl,rfl,SqT.of hA2,uV,(show 2 <= sizeLine by lia),fun p2 H2 np s2 e2=>?_⟩⟩⟩
     have hT2:=aS.same s2 h3;obtain⟨dx,hob⟩:=hT2.ob;refine⟨_,rfl,T',dx,_,rfl,hob,by unfold K45T.cT;kernel_rfl,_,rfl,dA,_,_,_,rfl,rfl,SqT.of (s2 _ _ hA2),at1,_,rfl,dA,_,_,_,rfl,rfl,SqT.of (s2 _ _ hA2),uV,_,rfl,dA,_,_,_,rfl,rfl,SqT.of (s2 _ _ hA2),at3',
      T',d,l,t,_,_,x,n,wk,rfl,hT2,by lia,by lia,rok.ik,n1',SqT.of (s2 _ _ hA3),fun r H3 nr er hT3 b3=>?_⟩
     have k3:=cF.tk hT2 b3;have nl0:l0 ≠ d/\l0 ≠ l:=by
      obtain⟨lk,q2,_⟩:=hT.hl;exact⟨(ak hT.hd n1).symm,(ak q2 n1).symm⟩
     refine⟨p2,r,_,_,rfl,rfl,k3 _ _ e2,er,(show 2 + 2 <= sizeLine by lia),fun c H4 s4 e4'=>?_⟩
     have h14:H4 l0=some (.lst (rs.map V.ref)):=s4 _ _ (b3 _ _ (s2 _ _ h1) nl0.1 nl0.2);refine(ex3 l0 _ _ ⟨rfl,rfl,h14,by rw[length_map];have:=h2.1;lia,fun H5 k5 e5=>?_⟩)
     have hT4:=aS.same s4 hT3;have b14:cF d l H H4:=cF.trans h4 (cF.trans (cF.of s2) (cF.trans b3 (cF.of s4)));have k5':∀c u,H c=some u->c ≠ d->c ≠ l->H5 c=some u:=fun c u e n1' n2'=>k5 _ _ (ak e n1) (b14 _ _ e n1' n2');refine⟨_,_,rs ++ [c],rfl,by rw[e5,List.map_append];rfl,⟨by rw[length_append];have:=h2.1;show _ + 1 <= _;lia,fun a ha=>?_⟩,?_,k5'⟩
     ·rcases mem_append.mp ha with ha | ha
      ·exact eS.tk (fun z zs e=>k5 _ _ (ax e h14 (by intro z;cases z)) e) (eS.tk (Tk.of s4) (eS.tk k3 (eS.tk (Tk.of s2) (h2.2 a ha))))
      ·cases List.mem_singleton.mp ha;obtain⟨wd,hw⟩:=vb (c8 st (xs.take i)).2 x n;rw[hw]at e4';exact⟨x,wd,n,_,k5 _ _ (ax e4' h14 (by intro z;cases z)) e4'⟩
     rw[hrun];obtain⟨⟨dy,g1⟩,g2,⟨lk,g3,g4⟩,g5⟩:=hT4;refine⟨⟨dy,k5 _ _ (ax g1 h14 (by intro z;cases z)) g1⟩,k5 _ _ (ax g2 h14 (by intro z;cases z)) g2,⟨lk,k5 _ _ (ax g3 h14 (by intro z;cases z)) g3,?_⟩,g5⟩
     exact Paired.imp' (fun p q hh=>by
      obtain⟨a1,t',a2,a3⟩:=hh;refine⟨a1,t',a2,?_⟩;rcases a3 with h | h
      ·refine .inl ?_;rcases h with h | ⟨u,h⟩
       ·exact .inl (k5 _ _ (ax h h14 (by intro z;cases z)) h)
       ·exact .inr ⟨u,k5 _ _ (ax h h14 (by intro z;cases z)) h⟩
      ·exact .inr h) g4
  ·rintro σ Hx ⟨v3,v4,rs,rfl,h1,h2,h3,h4⟩;rw[length_map,take_of_length_le (by lia)]at h3
   refine hK_ _ _ ?_;refine⟨_,rfl,l0,_,rfl,SqL.of h1,fun r H2 nr s2 e2=>?_⟩;exact q r rs H2 (aS.same s2 h3) (cF.trans h4 (cF.of s2)) e2 (by have:=h2.1;rw[length_map]at this;exact this) (fun a ha=>eS.tk (Tk.of s2) (h2.2 a ha))
end
end K45
namespace K45
open PySem L2
open K45T (Kvs Las Wk aS dr cF de fW bM cK)
abbrev px:Stmt:=aC (top 62) 0
noncomputable abbrev flM (nm:Str) (wa sz:Int) (wr rl bd yl sd gl fl sl:Addr):List (Str × V):=ay "shown" (.ref sl) (ay "found" (.ref fl) (ay "given" (.ref gl) (ay "seat" (.non) (ay "sheets" (.ref sd) (ay "yes" (.ref yl) (ay "quiet" (.int 0) (ay "known" (.non) (ay "role" (.str "plain") (ay "board" (.ref bd) (ay "records" (.ref rl) (ay "kept" (.ref wr) (ay "size" (.int sz) (ay "wait" (.int wa) (ay "name" (.str nm) []))))))))))))))
theorem ju {st en:Addr}:(flR st en).lookup ("stand":Str)=some (.ref st):=by kernel_rfl
theorem dI {t:Int} {v:V} {s:Int} {kr:Addr}:(flW t v s kr).lookup ("term":Str)=some (.int t):=by kernel_rfl
theorem flW_v {t:Int} {v:V} {s:Int} {kr:Addr}:(flW t v s kr).lookup ("vote":Str)=some v:=by kernel_rfl
theorem flW_s {t:Int} {v:V} {s:Int} {kr:Addr}:(flW t v s kr).lookup ("settled_place":Str)=some (.int s):=by kernel_rfl
theorem flW_k {t:Int} {v:V} {s:Int} {kr:Addr}:(flW t v s kr).lookup ("kept_row":Str)=some (.ref kr):=by kernel_rfl
theorem sJ {st en:Addr}:(flR st en).lookup ("up_to":Str)=none:=by kernel_rfl
structure ClM(K:Frag)(mg:Str->Option Value)(C:Addr):Prop where
 cl:Cls K C
 n0:aU K C "name"
 n1:aU K C "wait"
 n2:aU K C "size"
 n3:aU K C "kept"
 n4:aU K C "records"
 n5:aU K C "board"
 n6:aU K C "role"
 n7:aU K C "known"
 n8:aU K C "quiet"
 n9:aU K C "yes"
 n10:aU K C "sheets"
 n11:aU K C "seat"
 n12:aU K C "given"
 n13:aU K C "found"
 n14:aU K C "shown"
 mgC:mg "Mind"=some (.ref C)
def cP(K:Frag)(H:Hp)(st:Addr)(pl tm:Int)(b:Addr)(hk:List (Key × V))(hq:List (Str × Int × V)):Prop:=∃(hh aa:Addr)(o:Obj)(ps as:List V),H st=some (.tup [.int pl,.int tm,.ref b,.ref hh,.ref aa])/\H hh=some (.frz o (.tup ps))/\o.dict=none/\ps.length=hk.length /\
 (∀(j:Nat)(kv:Key × V),hk[j]?=some kv->∃b,ps[j]?=some (.ref b)/\SqT K H b [kV kv.1,kv.2])/\SqT K H aa as/\as.length=hq.length/\hq.length <= 900/\(∀(j:Nat)(q:Str × Int × V),hq[j]?=some q->∃b,as[j]?=some (.ref b)/\SqT K H b [.str q.1,.int q.2.1,q.2.2])
theorem eK{K:Frag}{H H':Hp}{x:Addr}{ys:List V}(e:ar H H')(h:SqT K H x ys):SqT K H' x ys:=by
 rcases h with h | h
 ·refine .inl ?_;rcases h with h | ⟨u,h⟩
  ·exact .inl (e _ _ h)
  ·exact .inr ⟨u,e _ _ h⟩
 ·exact .inr h
theorem cP.same{K:Frag}{H H':Hp}{st:Addr}{pl tm:Int}{b:Addr}{hk:List (Key × V)}{hq:List (Str × Int × V)}(e:ar H H')(h:cP K H st pl tm b hk hq):cP K H' st pl tm b hk hq:=by
 obtain⟨hh,aa,o,ps,as,h1,h2,h3,h4,h5,h6,h7,h8,h9⟩:=h;refine⟨hh,aa,o,ps,as,e _ _ h1,e _ _ h2,h3,h4,fun j kv q=>?_,eK e h6,h7,h8,fun j kv q=>?_⟩
 ·obtain⟨b,b1,b2⟩:=h5 j kv q;exact⟨b,b1,eK e b2⟩
 ·obtain⟨b,b1,b2⟩:=h9 j kv q;exact⟨b,b1,eK e b2⟩
theorem cP.bt{K:Frag}{H H':Hp}{st:Addr}{pl tm:Int}{b x C dx:Addr}{fs:List (Str × V)}{hk:List (Key × V)}{hq:List (Str × Int × V)}(e:BtO x H H')(hx:H x=some (.ins C dx fs))(h:cP K H st pl tm b hk hq):cP K H' st pl tm b hk hq:=by
 obtain⟨hh,aa,o,ps,as,h1,h2,h3,h4,h5,h6,h7,h8,h9⟩:=h;refine⟨hh,aa,o,ps,as,e _ _ (ax h1 hx (by intro z;cases z)) h1,e _ _ (ax h2 hx (by intro z;cases z)) h2,h3,h4,fun j kv q=>?_,gM e hx h6,h7,h8,fun j kv q=>?_⟩
 ·obtain⟨b,b1,b2⟩:=h5 j kv q;exact⟨b,b1,gM e hx b2⟩
 ·obtain⟨b,b1,b2⟩:=h9 j kv q;exact⟨b,b1,gM e hx b2⟩
theorem aS.bt{K:Frag}{CT C x T d l dz:Addr}{H H':Hp}{kvs:Kvs}{las:Las}{fs:List (Str × V)}(e:BtO x H H')(hx:H x=some (.ins C dz fs))(nT:T ≠ x)(h:aS K CT H T d l kvs las):aS K CT H' T d l kvs las:=by
 obtain⟨⟨dx,h1⟩,h2,⟨lk,h3,h4⟩,h5⟩:=h;refine⟨⟨dx,e _ _ nT h1⟩,e _ _ (ax h2 hx (by intro z;cases z)) h2,⟨lk,e _ _ (ax h3 hx (by intro z;cases z)) h3,?_⟩,h5⟩
 exact Paired.imp' (fun p q hh=>by
  obtain⟨a1,t,a2,a3⟩:=hh;exact⟨a1,t,a2,gM e hx a3⟩) h4
theorem Paired.take'{α β:Type}{R:α->β->Prop}{as:List α}{bs:List β}(h:Paired R as bs)(n:Nat):Paired R (as.take n) (bs.take n):=by
 induction h generalizing n with
 | nil=>rw[List.take_nil,List.take_nil];exact .nil
 | cons r _ ih =>
  cases n with
  | zero=>exact .nil
  | succ k=>exact .cons r (ih k)
noncomputable def tabS(hk:List (Key × V))(hq:List (Str × Int × V))(xs:List En)(n:Nat):Kvs × Las:=c8 (bM hk,cK hq) (xs.take n)
structure WrG(K:Frag)(CW CR:Addr)(H:Hp)(wr:Addr)(t:Int)(v:V)(s:Int)(kr st en:Addr)(pl tm:Int)(b:Addr)(hk:List (Key × V))(hq:List (Str × Int × V))(es:List Addr)(xs:List En):Prop where
 wo:WrO CW CR H wr t v s kr st en
 so:cP K H st pl tm b hk hq
 ho:H en=some (.tup (es.map V.ref))
 eo:Paired (EnO H) es xs
 el:es.length <= 60
 ps:pl <= s
 ok:dr (bM hk) (cK hq)
 kl:(bM hk).length <= 300
 ll:(cK hq).length <= 300
theorem WrG.same{K:Frag}{CW CR:Addr}{H H':Hp}{wr:Addr}{t:Int}{v:V}{s:Int}{kr st en:Addr}{pl tm:Int}{b:Addr}{hk:List (Key × V)}{hq:List (Str × Int × V)}{es:List Addr}{xs:List En}(e:ar H H')(h:WrG K CW CR H wr t v s kr st en pl tm b hk hq es xs):WrG K CW CR H' wr t v s kr st en pl tm b hk hq es xs:=⟨h.wo.same e,h.so.same e,e _ _ h.ho,cg (Tk.of e) h.eo,h.el,h.ps,h.ok,h.kl,h.ll⟩
theorem WrG.bt{K:Frag}{CW CR:Addr}{H H':Hp}{wr x C2 dz:Addr}{t:Int}{v:V}{s:Int}{kr st en:Addr}{pl tm:Int}{b:Addr}{hk:List (Key × V)}{hq:List (Str × Int × V)}{es:List Addr}{xs:List En}(e:BtO x H H')(hx:H x=some (.ins C2 dz []))(h:WrG K CW CR H wr t v s kr st en pl tm b hk hq es xs):WrG K CW CR H' wr t v s kr st en pl tm b hk hq es xs:=⟨h.wo.bto hx e,h.so.bt e hx,Tk.bt e hx _ _ h.ho,cg (Tk.bt e hx) h.eo,h.el,h.ps,h.ok,h.kl,h.ll⟩
def spTF(K:Frag)(CT CW CR:Addr):Sp:=fun us H Q _=>∃(wr kr st en b:Addr)(t s pl tm:Int)(v:V) (hk:List (Key × V)) (hq:List (Str × Int × V)) (es:List Addr) (xs:List En),us=[.ref wr]/\WrG K CW CR H wr t v s kr st en pl tm b hk hq es xs /\
 ∀(T d l:Addr)(H':Hp),H T=none->H d=none->H l=none->ar H H'->aS K CT H' T d l (tabS hk hq xs (s - pl).toNat).1 (tabS hk hq xs (s - pl).toNat).2->Q (.ref T) H'
def spMI(K:Frag)(CM CT CW CR:Addr):Sp:=fun us H Q _=>∃(m dx wr rl kr st en b:Addr)(nm:Str)(wa sz t s pl tm:Int)(v:V) (hk:List (Key × V)) (hq:List (Str × Int × V)) (es:List Addr) (xs:List En),us=[.ref m,.str nm,.int wa,.int sz,.ref wr,.ref rl]/\H m=some (.ins CM dx [])/\WrG K CW CR H wr t v s kr st en pl tm b hk hq es xs /\
 ∀(bd d l yl sd gl fl sl:Addr)(H':Hp),BtO m H H'->H' m=some (.ins CM dx (flM nm wa sz wr rl bd yl sd gl fl sl))->H bd=none->H d=none->H l=none->aS K CT H' bd d l (tabS hk hq xs (s - pl).toNat).1 (tabS hk hq xs (s - pl).toNat).2->H' gl=some (.lst [])->H' fl=some (.lst [])->H' sl=some (.lst [])->H gl=none->H fl=none->H sl=none->H' yl=some (.lst [])->H yl=none->[yl,gl,fl,sl].Nodup->Q .non H'
abbrev fm1 (nm:Str):List (Str × V):=ay "name" (.str nm) []
noncomputable abbrev fm2 (nm:Str) (wa:Int):List (Str × V):=ay "wait" (.int wa) (fm1 nm)
noncomputable abbrev fm3 (nm:Str) (wa:Int) (sz:Int):List (Str × V):=ay "size" (.int sz) (fm2 nm wa)
noncomputable abbrev fm4 (nm:Str) (wa:Int) (sz:Int) (wr:Addr):List (Str × V):=ay "kept" (.ref wr) (fm3 nm wa sz)
noncomputable abbrev fm5 (nm:Str) (wa:Int) (sz:Int) (wr:Addr) (rl:Addr):List (Str × V):=ay "records" (.ref rl) (fm4 nm wa sz wr)
noncomputable abbrev fm6 (nm:Str) (wa:Int) (sz:Int) (wr:Addr) (rl:Addr) (bd:Addr):List (Str × V):=ay "board" (.ref bd) (fm5 nm wa sz wr rl)
noncomputable abbrev fm7 (nm:Str) (wa:Int) (sz:Int) (wr:Addr) (rl:Addr) (bd:Addr):List (Str × V):=ay "role" (.str "plain") (fm6 nm wa sz wr rl bd)
noncomputable abbrev fm8 (nm:Str) (wa:Int) (sz:Int) (wr:Addr) (rl:Addr) (bd:Addr):List (Str × V):=ay "known" (.non) (fm7 nm wa sz wr rl bd)
noncomputable abbrev fm9 (nm:Str) (wa:Int) (sz:Int) (wr:Addr) (rl:Addr) (bd:Addr):List (Str × V):=ay "quiet" (.int 0) (fm8 nm wa sz wr rl bd)
noncomputable abbrev sK (nm:Str) (wa:Int) (sz:Int) (wr:Addr) (rl:Addr) (bd:Addr) (yl:Addr):List (Str × V):=ay "yes" (.ref yl) (fm9 nm wa sz wr rl bd)
noncomputable abbrev sL (nm:Str) (wa:Int) (sz:Int) (wr:Addr) (rl:Addr) (bd:Addr) (yl:Addr) (sd:Addr):List (Str × V):=ay "sheets" (.ref sd) (sK nm wa sz wr rl bd yl)
noncomputable abbrev sN (nm:Str) (wa:Int) (sz:Int) (wr:Addr) (rl:Addr) (bd:Addr) (yl:Addr) (sd:Addr):List (Str × V):=ay "seat" (.non) (sL nm wa sz wr rl bd yl sd)
noncomputable abbrev sO (nm:Str) (wa:Int) (sz:Int) (wr:Addr) (rl:Addr) (bd:Addr) (yl:Addr) (sd:Addr) (gl:Addr):List (Str × V):=ay "given" (.ref gl) (sN nm wa sz wr rl bd yl sd)
noncomputable abbrev sP (nm:Str) (wa:Int) (sz:Int) (wr:Addr) (rl:Addr) (bd:Addr) (yl:Addr) (sd:Addr) (gl:Addr) (fl:Addr):List (Str × V):=ay "found" (.ref fl) (sO nm wa sz wr rl bd yl sd gl)
noncomputable abbrev vc (nm:Str) (wa:Int) (sz:Int) (wr:Addr) (rl:Addr) (bd:Addr) (yl:Addr) (sd:Addr) (gl:Addr) (fl:Addr) (sl:Addr):List (Str × V):=ay "shown" (.ref sl) (sP nm wa sz wr rl bd yl sd gl fl)
section
variable{P:Program}{w:World}{K:Frag}{mg:Str->Option Value}{base:Heap}{CT CR CW CM:Addr}
abbrev nTF:List Str:=["kept","row","table"]
theorem scTF:ao nTF ["kept"] (ah sTF):=fsc (by decide +kernel)
theorem ok_tf {f:Addr} {fd:FuncData} (F:Fun K "table_from" "table_from" sTF f fd) (TW:ClW K mg CW) (TR:ClR K mg CR) (TT:K45T.Cl K mg CT) (Mt:dU P w K mg base CT 1 ["self","held","asked"] (K45T.gr K CT)) (Fa:aJ P w K mg base 4 "asks_done" ["table","entries"] (spAD K CT)) (Mu:aD P w K mg base CR 1 "up_to" ["self","place"] (gt K CR)):aI P w K mg base CX0 5 f fd ["kept"] (spTF K CT CW CR):=by
 refine F.ok scTF (fun vs H Q E h=>?_) (fun cdv A outer s H vs Q E hr h=>?_)
 ·obtain⟨wr,kr,st,en,b,t,s,pl,tm,v,hk,hq,es,xs,rfl,_⟩:=h;rfl
 ·obtain⟨wr,kr,st,en,b,t,s,pl,tm,v,hk,hq,es,xs,rfl,G,q⟩:=h;have nd:=scTF.nd;have r1:aP 1 _:=hr.mono (by decide)
  have r2:aP 2 _:=hr.mono (by decide)
  refine⟨_,ac (aB (i:=1) nd rfl (Or.inl rfl) (am (pv 0) rfl)) <|
   ac (aB (i:=2) nd rfl (Or.inl rfl) (cn Mt r2 TT.mgC (ab (aE az (am (pv 1) rfl) ag (fun _ _=>rfl)) (ab (aE az (am (pv 1) rfl) ag (fun _ _=>rfl)) ad)))) <|
   ac (aZ (aj Fa hr (ab (pv 2) (ab (aQ Mu TR.cl r1 (pv 1) (ab (am (pv 0) rfl) ad)) ad)))) <|
   ai (av (pv 2)),?_⟩
  dsimp only[aW,Cx.nox];obtain⟨⟨dx,hw⟩,dy,hr'⟩:=id G.wo;obtain⟨hh,aa,o,ps,as,h1,h2,h3,h4,h5,h6,h7,h8,h9⟩:=id G.so;refine ae fun K_ hK_=>?_;refine⟨_,rfl,ex5 wr CW dx _ _ ⟨rfl,hw,TW.cl,TW.nK,flW_k,?_⟩⟩;refine hK_ _ _ (ae fun K_ hK_=>?_);refine⟨_,rfl,ex5 kr CR dy _ _ ⟨rfl,hr',TR.cl,TR.nS,ju,st,_,_,_,rfl,rfl,SqT.of h1,at3',_,rfl,ex5 kr CR dy _ _ ⟨rfl,hr',TR.cl,TR.nS,ju,st,_,_,_,rfl,rfl,SqT.of h1,at4',?_⟩⟩⟩;intro T dT nT ndT ndTT;have nT':upd H dT (.own T) T=none:=by rw[au ndTT.symm];exact nT
  have s1:ar H (upd (upd H dT (.own T)) T (.ins CT dT [])):=(ar.new ndT).trans (ar.new nT');refine⟨T,dT,hh,aa,o,ps,as,hk,hq,rfl,af,s1 _ _ h2,h3,h4,fun j kv q=>?_,eK s1 h6,h7,h8,fun j kv q=>?_,fun d l H2 nd2 nl2 hT bt=>⟨rfl,?_⟩⟩
  ·obtain⟨b,b1,b2⟩:=h5 j kv q;exact⟨b,b1,eK s1 b2⟩
  ·obtain⟨b,b1,b2⟩:=h9 j kv q;exact⟨b,b1,eK s1 b2⟩
  ·have s2:ar H H2:=fun c u e=>bt _ _ (s1 _ _ e) (ak e nT);have G2:=G.same s2;obtain⟨⟨dx2,hw2⟩,dy2,hr2⟩:=id G2.wo;obtain⟨hh2,aa2,o2,ps2,as2,g1,_⟩:=id G2.so;refine hK_ _ _ (ae fun K_ hK_=>?_);refine⟨_,rfl,_,rfl,ex3 kr dy2 _ ⟨rfl,hr2,sJ,_,rfl,ex5 wr CW dx2 _ _ ⟨rfl,hw2,TW.cl,TW.nS,flW_s,kr,st,en,b,hh2,aa2,pl,tm,s,_,rfl,⟨dy2,hr2⟩,SqT.of g1,G2.ho,G2.ps,fun a H3 s3 e3=>?_⟩⟩⟩;have tl:(es.take (s - pl).toNat).length <= 60:=Nat.le_trans (by rw[length_take];lia) G.el
   refine⟨T,d,l,a,(bM hk,cK hq),es.take (s - pl).toNat,xs.take (s - pl).toNat,rfl,aS.same s3 hT,G.ok,by have:=G.kl;show (bM hk).length <= 400;lia,by have:=G.ll;show (cK hq).length <= 400;lia,by rw[e3,List.map_take],?_,by lia,fun r ts H4 hT4 b4 _ _ _=>?_⟩
   ·exact Paired.take' (cg (Tk.of s3) G2.eo) _
   ·refine hK_ _ _ ?_;refine⟨_,rfl,q T d l H4 nT (s1.none nd2) (s1.none nl2) (fun c u e=>?_) hT4⟩;exact b4 _ _ (s3 _ _ (s2 _ _ e)) (ak e (s1.none nd2)) (ak e (s1.none nl2))
theorem scMI:ao ["self","name","wait","size","kept","records"] ["self","name","wait","size","kept","records"] (ah px):=fsc (by decide +kernel)
theorem ok_mi {f:Addr} {fd:FuncData} (F:Fun K "__init__" "Mind.__init__" px f fd) (T:ClM K mg CM) (Ft:aJ P w K mg base 5 "table_from" ["kept"] (spTF K CT CW CR)):aI P w K mg base CX0 6 f fd ["self","name","wait","size","kept","records"] (spMI K CM CT CW CR):=by
 refine F.ok scMI (fun vs H Q E h=>?_) (fun cdv A outer s H vs Q E hr h=>?_)
 ·obtain⟨m,dx,wr,rl,kr,st,en,b,nm,wa,sz,t,s,pl,tm,v,hk,hq,es,xs,rfl,_⟩:=h;rfl
 ·obtain⟨m,dx,wr,rl,kr,st,en,b,nm,wa,sz,t,s,pl,tm,v,hk,hq,es,xs,rfl,hM,G,q⟩:=h;refine⟨_,ac (aM (pv 0) (pv 1) rfl) <| ac (aM (pv 0) (pv 2) rfl) <| ac (aM (pv 0) (pv 3) rfl) <| ac (aM (pv 0) (pv 4) rfl) <| ac (aM (pv 0) (pv 5) rfl) <| ac (aM (pv 0) (aj Ft hr (ab (pv 4) ad)) rfl) <| ac (aM (pv 0) aq rfl) <| ac (aM (pv 0) cj rfl) <| ac (aM (pv 0) ag rfl) <| ac (aM (pv 0) (bg ad) rfl) <| ac (aM (pv 0) gE rfl) <| ac (aM (pv 0) cj rfl) <| ac (aM (pv 0) (bg ad) rfl) <| ac (aM (pv 0) (bg ad) rfl) <| ai (aM (pv 0) (bg ad) rfl),?_⟩;dsimp only[aW,Cx.nox];have b0:BtO m H H:=BtO.refl _ _;refine ae fun K_ hK_=>?_;refine⟨_,rfl,_,rfl,ex4 m CM dx _ ⟨rfl,hM,T.cl,T.n0,(by show 0 < 1000;decide),?_⟩⟩
  have b1:=b0.trans (BtO.upd (u:=.ins CM dx (fm1 nm)));have u1:BtO m H (upd H m (.ins CM dx (fm1 nm))):=BtO.upd;have ho1:upd H m (.ins CM dx (fm1 nm)) m=some (.ins CM dx (fm1 nm)):=af;refine hK_ _ _ (ae fun K_ hK_=>?_);generalize upd H m (.ins CM dx (fm1 nm))=H1 at b1 u1 ho1 ⊢;refine⟨_,rfl,_,rfl,ex4 m CM dx _ ⟨rfl,ho1,T.cl,T.n1,(by show 1 < 1000;decide),?_⟩⟩
  have b2:=b1.trans (BtO.upd (u:=.ins CM dx (fm2 nm wa)));have u2:BtO m H1 (upd H1 m (.ins CM dx (fm2 nm wa))):=BtO.upd;have ho2:upd H1 m (.ins CM dx (fm2 nm wa)) m=some (.ins CM dx (fm2 nm wa)):=af;refine hK_ _ _ (ae fun K_ hK_=>?_);generalize upd H1 m (.ins CM dx (fm2 nm wa))=H2 at b2 u2 ho2 ⊢;refine⟨_,rfl,_,rfl,ex4 m CM dx _ ⟨rfl,ho2,T.cl,T.n2,(by show 2 < 1000;decide),?_⟩⟩
  have b3:=b2.trans (BtO.upd (u:=.ins CM dx (fm3 nm wa sz)));have u3:BtO m H2 (upd H2 m (.ins CM dx (fm3 nm wa sz))):=BtO.upd;have ho3:upd H2 m (.ins CM dx (fm3 nm wa sz)) m=some (.ins CM dx (fm3 nm wa sz)):=af;refine hK_ _ _ (ae fun K_ hK_=>?_);generalize upd H2 m (.ins CM dx (fm3 nm wa sz))=H3 at b3 u3 ho3 ⊢;refine⟨_,rfl,_,rfl,ex4 m CM dx _ ⟨rfl,ho3,T.cl,T.n3,(by show 3 < 1000;decide),?_⟩⟩
  have b4:=b3.trans (BtO.upd (u:=.ins CM dx (fm4 nm wa sz wr)));have u4:BtO m H3 (upd H3 m (.ins CM dx (fm4 nm wa sz wr))):=BtO.upd;have ho4:upd H3 m (.ins CM dx (fm4 nm wa sz wr)) m=some (.ins CM dx (fm4 nm wa sz wr)):=af;refine hK_ _ _ (ae fun K_ hK_=>?_);generalize upd H3 m (.ins CM dx (fm4 nm wa sz wr))=H4 at b4 u4 ho4 ⊢;refine⟨_,rfl,_,rfl,ex4 m CM dx _ ⟨rfl,ho4,T.cl,T.n4,(by show 4 < 1000;decide),?_⟩⟩
  have b5:=b4.trans (BtO.upd (u:=.ins CM dx (fm5 nm wa sz wr rl)));have u5:BtO m H4 (upd H4 m (.ins CM dx (fm5 nm wa sz wr rl))):=BtO.upd;have ho5:upd H4 m (.ins CM dx (fm5 nm wa sz wr rl)) m=some (.ins CM dx (fm5 nm wa sz wr rl)):=af;refine hK_ _ _ (ae fun K_ hK_=>?_);generalize upd H4 m (.ins CM dx (fm5 nm wa sz wr rl))=H5 at b5 u5 ho5 ⊢;refine⟨_,rfl,wr,kr,st,en,b,t,s,pl,tm,v,hk,hq,es,xs,rfl,G.bt b5 hM,fun bd d l Hc nbd nd nl sc hT=>?_⟩;have ho5c:=sc _ _ ho5;have bc5:=b5.trans (BtO.of sc);refine⟨_,rfl,ex4 m CM dx _ ⟨rfl,ho5c,T.cl,T.n5,(by show 5 < 1000;decide),?_⟩⟩
  have b6:=bc5.trans (BtO.upd (u:=.ins CM dx (fm6 nm wa sz wr rl bd)));have u6:BtO m Hc (upd Hc m (.ins CM dx (fm6 nm wa sz wr rl bd))):=BtO.upd;have ho6:upd Hc m (.ins CM dx (fm6 nm wa sz wr rl bd)) m=some (.ins CM dx (fm6 nm wa sz wr rl bd)):=af;refine hK_ _ _ (ae fun K_ hK_=>?_);generalize upd Hc m (.ins CM dx (fm6 nm wa sz wr rl bd))=H6 at b6 u6 ho6 ⊢;refine⟨_,rfl,ex4 m CM dx _ ⟨rfl,ho6,T.cl,T.n6,(by show 6 < 1000;decide),?_⟩⟩
  have b7:=b6.trans (BtO.upd (u:=.ins CM dx (fm7 nm wa sz wr rl bd)));have u7:BtO m H6 (upd H6 m (.ins CM dx (fm7 nm wa sz wr rl bd))):=BtO.upd;have ho7:upd H6 m (.ins CM dx (fm7 nm wa sz wr rl bd)) m=some (.ins CM dx (fm7 nm wa sz wr rl bd)):=af;refine hK_ _ _ (ae fun K_ hK_=>?_);generalize upd H6 m (.ins CM dx (fm7 nm wa sz wr rl bd))=H7 at b7 u7 ho7 ⊢;refine⟨_,rfl,ex4 m CM dx _ ⟨rfl,ho7,T.cl,T.n7,(by show 7 < 1000;decide),?_⟩⟩
  have b8:=b7.trans (BtO.upd (u:=.ins CM dx (fm8 nm wa sz wr rl bd)));have u8:BtO m H7 (upd H7 m (.ins CM dx (fm8 nm wa sz wr rl bd))):=BtO.upd;have ho8:upd H7 m (.ins CM dx (fm8 nm wa sz wr rl bd)) m=some (.ins CM dx (fm8 nm wa sz wr rl bd)):=af;refine hK_ _ _ (ae fun K_ hK_=>?_);generalize upd H7 m (.ins CM dx (fm8 nm wa sz wr rl bd))=H8 at b8 u8 ho8 ⊢;refine⟨_,rfl,ex4 m CM dx _ ⟨rfl,ho8,T.cl,T.n8,(by show 8 < 1000;decide),?_⟩⟩
  have b9:=b8.trans (BtO.upd (u:=.ins CM dx (fm9 nm wa sz wr rl bd)));have u9:BtO m H8 (upd H8 m (.ins CM dx (fm9 nm wa sz wr rl bd))):=BtO.upd;have ho9:upd H8 m (.ins CM dx (fm9 nm wa sz wr rl bd)) m=some (.ins CM dx (fm9 nm wa sz wr rl bd)):=af;refine hK_ _ _ (ae fun K_ hK_=>?_);generalize upd H8 m (.ins CM dx (fm9 nm wa sz wr rl bd))=H9 at b9 u9 ho9 ⊢;refine⟨Nat.zero_le _,fun yl G9 nyl syl eyl=>?_⟩;have ho9c:=syl _ _ ho9;have bc9:=b9.trans (BtO.of syl);refine⟨_,rfl,ex4 m CM dx _ ⟨rfl,ho9c,T.cl,T.n9,(by show 9 < 1000;decide),?_⟩⟩
  have b10:=bc9.trans (BtO.upd (u:=.ins CM dx (sK nm wa sz wr rl bd yl)));have u10:BtO m G9 (upd G9 m (.ins CM dx (sK nm wa sz wr rl bd yl))):=BtO.upd;have ho10:upd G9 m (.ins CM dx (sK nm wa sz wr rl bd yl)) m=some (.ins CM dx (sK nm wa sz wr rl bd yl)):=af;refine hK_ _ _ (ae fun K_ hK_=>?_);generalize upd G9 m (.ins CM dx (sK nm wa sz wr rl bd yl))=H10 at b10 u10 ho10 ⊢;intro sd nsd;have ssd:=ar.new (o:=.dK []) nsd;have ho10c:=ssd _ _ ho10;have bc10:=b10.trans (BtO.of ssd);generalize upd H10 sd (.dK [])=G10 at ssd ho10c bc10 ⊢;refine⟨_,rfl,ex4 m CM dx _ ⟨rfl,ho10c,T.cl,T.n10,(by show 10 < 1000;decide),?_⟩⟩
  have b11:=bc10.trans (BtO.upd (u:=.ins CM dx (sL nm wa sz wr rl bd yl sd)));have u11:BtO m G10 (upd G10 m (.ins CM dx (sL nm wa sz wr rl bd yl sd))):=BtO.upd;have ho11:upd G10 m (.ins CM dx (sL nm wa sz wr rl bd yl sd)) m=some (.ins CM dx (sL nm wa sz wr rl bd yl sd)):=af;refine hK_ _ _ (ae fun K_ hK_=>?_);generalize upd G10 m (.ins CM dx (sL nm wa sz wr rl bd yl sd))=H11 at b11 u11 ho11 ⊢;refine⟨_,rfl,ex4 m CM dx _ ⟨rfl,ho11,T.cl,T.n11,(by show 11 < 1000;decide),?_⟩⟩
  have b12:=b11.trans (BtO.upd (u:=.ins CM dx (sN nm wa sz wr rl bd yl sd)));have u12:BtO m H11 (upd H11 m (.ins CM dx (sN nm wa sz wr rl bd yl sd))):=BtO.upd;have ho12:upd H11 m (.ins CM dx (sN nm wa sz wr rl bd yl sd)) m=some (.ins CM dx (sN nm wa sz wr rl bd yl sd)):=af;refine hK_ _ _ (ae fun K_ hK_=>?_);generalize upd H11 m (.ins CM dx (sN nm wa sz wr rl bd yl sd))=H12 at b12 u12 ho12 ⊢;refine⟨Nat.zero_le _,fun gl G12 ngl sgl egl=>?_⟩;have ho12c:=sgl _ _ ho12;have bc12:=b12.trans (BtO.of sgl);refine⟨_,rfl,ex4 m CM dx _ ⟨rfl,ho12c,T.cl,T.n12,(by show 12 < 1000;decide),?_⟩⟩
  have b13:=bc12.trans (BtO.upd (u:=.ins CM dx (sO nm wa sz wr rl bd yl sd gl)));have u13:BtO m G12 (upd G12 m (.ins CM dx (sO nm wa sz wr rl bd yl sd gl))):=BtO.upd;have ho13:upd G12 m (.ins CM dx (sO nm wa sz wr rl bd yl sd gl)) m=some (.ins CM dx (sO nm wa sz wr rl bd yl sd gl)):=af;refine hK_ _ _ (ae fun K_ hK_=>?_);generalize upd G12 m (.ins CM dx (sO nm wa sz wr rl bd yl sd gl))=H13 at b13 u13 ho13 ⊢;refine⟨Nat.zero_le _,fun fl G13 nfl sfl efl=>?_⟩;have ho13c:=sfl _ _ ho13;have bc13:=b13.trans (BtO.of sfl);refine⟨_,rfl,ex4 m CM dx _ ⟨rfl,ho13c,T.cl,T.n13,(by show 13 < 1000;decide),?_⟩⟩
  have b14:=bc13.trans (BtO.upd (u:=.ins CM dx (sP nm wa sz wr rl bd yl sd gl fl)));have u14:BtO m G13 (upd G13 m (.ins CM dx (sP nm wa sz wr rl bd yl sd gl fl))):=BtO.upd;have ho14:upd G13 m (.ins CM dx (sP nm wa sz wr rl bd yl sd gl fl)) m=some (.ins CM dx (sP nm wa sz wr rl bd yl sd gl fl)):=af;refine hK_ _ _ ?_;generalize upd G13 m (.ins CM dx (sP nm wa sz wr rl bd yl sd gl fl))=H14 at b14 u14 ho14 ⊢;refine⟨Nat.zero_le _,fun sl G14 nsl ssl esl=>?_⟩;have ho14c:=ssl _ _ ho14;have bc14:=b14.trans (BtO.of ssl);refine⟨_,rfl,ex4 m CM dx _ ⟨rfl,ho14c,T.cl,T.n14,(by show 14 < 1000;decide),?_⟩⟩
  have b15:=bc14.trans (BtO.upd (u:=.ins CM dx (vc nm wa sz wr rl bd yl sd gl fl sl)));have u15:BtO m G14 (upd G14 m (.ins CM dx (vc nm wa sz wr rl bd yl sd gl fl sl))):=BtO.upd;have ho15:upd G14 m (.ins CM dx (vc nm wa sz wr rl bd yl sd gl fl sl)) m=some (.ins CM dx (vc nm wa sz wr rl bd yl sd gl fl sl)):=af;generalize upd G14 m (.ins CM dx (vc nm wa sz wr rl bd yl sd gl fl sl))=H15 at b15 u15 ho15 ⊢;have up:BtO m Hc H15:=(((((((((((((u6.trans u7).trans u8).trans u9).trans (BtO.of syl)).trans u10).trans (BtO.of ssd)).trans u11).trans u12).trans (BtO.of sgl)).trans u13).trans (BtO.of sfl)).trans u14).trans (BtO.of ssl)).trans u15;have hn:∀x,H5 x=none->H x=none:=fun x h=>by
   cases e:H x with
   | none=>rfl
   | some u =>
    have:x ≠ m:=fun z=>by rw[z,ho5]at h;cases h
    exact absurd (b5 _ _ this e) (by rw[h];intro z;cases z)
  have hg:∀{x:Addr}{H':Hp} {fs:List (Str × V)},BtO m H H'->H' m=some (.ins CM dx fs)->H' x=none->H x=none:=fun {x H' fs} b e h=>by
   cases e2:H x with
   | none=>rfl
   | some u =>
    have:x ≠ m:=fun z=>by rw[z,e]at h;cases h
    exact absurd (b _ _ this e2) (by rw[h];intro z;cases z)
  have gm:gl ≠ m:=ax egl ho12c (by intro z;cases z)
  have fm:fl ≠ m:=ax efl ho13c (by intro z;cases z)
  have sm:sl ≠ m:=ax esl ho14c (by intro z;cases z)
  have ym:yl ≠ m:=ax eyl ho9c (by intro z;cases z)
  have y12:H12 yl=some (.lst []):=u12 _ _ ym (u11 _ _ ym (ssd _ _ (u10 _ _ ym eyl)));have y13:H13 yl=some (.lst []):=u13 _ _ ym (sgl _ _ y12);have g13:H13 gl=some (.lst []):=u13 _ _ gm egl;have y14:H14 yl=some (.lst []):=u14 _ _ ym (sfl _ _ y13);have g14:H14 gl=some (.lst []):=u14 _ _ gm (sfl _ _ g13);have f14:H14 fl=some (.lst []):=u14 _ _ fm efl;have ndl:[yl,gl,fl,sl].Nodup:=by
   have a1:=ak y12 ngl;have a2:=ak y13 nfl;have a3:=ak g13 nfl;have a4:=ak y14 nsl;have a5:=ak g14 nsl;have a6:=ak f14 nsl;simp[a1,a2,a3,a4,a5,a6]
  refine q bd d l yl sd gl fl sl H15 b15 ho15 (hn _ nbd) (hn _ nd) (hn _ nl) ?_ (u15 _ _ gm (ssl _ _ (u14 _ _ gm (sfl _ _ (u13 _ _ gm egl))))) (u15 _ _ fm (ssl _ _ (u14 _ _ fm efl))) (u15 _ _ sm esl) (hg b12 ho12 ngl) (hg b13 ho13 nfl) (hg b14 ho14 nsl) (u15 _ _ ym (ssl _ _ y14)) (hg b9 ho9 nyl) ndl;exact aS.bt up ho5c (fun z=>by rw[z,ho5]at nbd;cases nbd) hT
end
abbrev pz:Stmt:=aC (top 72) 0
abbrev lC:Stmt:=aC (top 72) 1
abbrev sUp:Stmt:=aC (top 72) 2
abbrev pA:Stmt:=aC (top 72) 13
abbrev lD:Stmt:=aC (top 72) 14
abbrev hZ:Stmt:=aC (top 62) 2
noncomputable abbrev flH (nm:Str) (wa sz:Int) (m:Addr):List (Str × V):=ay "mind" (.ref m) (ay "size" (.int sz) (ay "wait" (.int wa) (ay "name" (.str nm) [])))
theorem flH_n {nm:Str} {wa sz:Int} {m:Addr}:(flH nm wa sz m).lookup ("name":Str)=some (.str nm):=by kernel_rfl
theorem flH_w {nm:Str} {wa sz:Int} {m:Addr}:(flH nm wa sz m).lookup ("wait":Str)=some (.int wa):=by kernel_rfl
theorem flH_s {nm:Str} {wa sz:Int} {m:Addr}:(flH nm wa sz m).lookup ("size":Str)=some (.int sz):=by kernel_rfl
theorem jv {nm:Str} {wa sz:Int} {m:Addr}:(flH nm wa sz m).lookup ("mind":Str)=some (.ref m):=by kernel_rfl
theorem flH_put {nm:Str} {wa sz:Int} {m m2:Addr}:ay "mind" (.ref m2) (flH nm wa sz m)=flH nm wa sz m2:=by kernel_rfl
theorem flH_len{nm:Str}{wa sz:Int}{m:Addr}:(flH nm wa sz m).length=4:=by kernel_rfl
noncomputable abbrev flG (nm:Str) (wa sz:Int) (wr rl bd:Addr) (ro kn:V) (qu:Int) (yl sd:Addr) (se:V) (gl fl sl:Addr):List (Str × V):=ay "shown" (.ref sl) (ay "found" (.ref fl) (ay "given" (.ref gl) (ay "seat" se (ay "sheets" (.ref sd) (ay "yes" (.ref yl) (ay "quiet" (.int qu) (ay "known" kn (ay "role" ro (ay "board" (.ref bd) (ay "records" (.ref rl) (ay "kept" (.ref wr) (ay "size" (.int sz) (ay "wait" (.int wa) (ay "name" (.str nm) []))))))))))))))
section
variable{nm:Str}{wa sz qu:Int}{ro kn se:V}{wr rl bd yl sd gl fl sl:Addr}
theorem dO:(flG nm wa sz wr rl bd ro kn qu yl sd se gl fl sl).lookup ("name":Str)=some (.str nm):=by kernel_rfl
theorem cQ:(flG nm wa sz wr rl bd ro kn qu yl sd se gl fl sl).lookup ("kept":Str)=some (.ref wr):=by kernel_rfl
theorem flG_b:(flG nm wa sz wr rl bd ro kn qu yl sd se gl fl sl).lookup ("board":Str)=some (.ref bd):=by kernel_rfl
theorem flG_r:(flG nm wa sz wr rl bd ro kn qu yl sd se gl fl sl).lookup ("role":Str)=some (ro):=by kernel_rfl
theorem flG_c:(flG nm wa sz wr rl bd ro kn qu yl sd se gl fl sl).lookup ("known":Str)=some (kn):=by kernel_rfl
theorem flG_q:(flG nm wa sz wr rl bd ro kn qu yl sd se gl fl sl).lookup ("quiet":Str)=some (.int qu):=by kernel_rfl
theorem vd:(flG nm wa sz wr rl bd ro kn qu yl sd se gl fl sl).lookup ("records":Str)=some (.ref rl):=by kernel_rfl
theorem flG_w:(flG nm wa sz wr rl bd ro kn qu yl sd se gl fl sl).lookup ("wait":Str)=some (.int wa):=by kernel_rfl
theorem fo:(flG nm wa sz wr rl bd ro kn qu yl sd se gl fl sl).lookup ("seat":Str)=some (se):=by kernel_rfl
theorem flG_gl:(flG nm wa sz wr rl bd ro kn qu yl sd se gl fl sl).lookup ("given":Str)=some (.ref gl):=by kernel_rfl
theorem ve:(flG nm wa sz wr rl bd ro kn qu yl sd se gl fl sl).lookup ("shown":Str)=some (.ref sl):=by kernel_rfl
theorem vg:(flG nm wa sz wr rl bd ro kn qu yl sd se gl fl sl).lookup ("yes":Str)=some (.ref yl):=by kernel_rfl
theorem bR:(flG nm wa sz wr rl bd ro kn qu yl sd se gl fl sl).lookup ("settled":Str)=none:=by kernel_rfl
theorem bv:(flG nm wa sz wr rl bd ro kn qu yl sd se gl fl sl).lookup ("row":Str)=none:=by kernel_rfl
theorem iD:(flG nm wa sz wr rl bd ro kn qu yl sd se gl fl sl).lookup ("is_chair":Str)=none:=by kernel_rfl
theorem f9:(flG nm wa sz wr rl bd ro kn qu yl sd se gl fl sl).lookup ("follow":Str)=none:=by kernel_rfl
theorem jw:(flG nm wa sz wr rl bd ro kn qu yl sd se gl fl sl).lookup ("rise_to":Str)=none:=by kernel_rfl
theorem ga:(flG nm wa sz wr rl bd ro kn qu yl sd se gl fl sl).lookup ("record":Str)=none:=by kernel_rfl
theorem ia:(flG nm wa sz wr rl bd ro kn qu yl sd se gl fl sl).lookup ("settle_to":Str)=none:=by kernel_rfl
theorem iE:(flG nm wa sz wr rl bd ro kn qu yl sd se gl fl sl).lookup ("vote_for":Str)=none:=by kernel_rfl
theorem nZ:(flG nm wa sz wr rl bd ro kn qu yl sd se gl fl sl).lookup ("term":Str)=none:=by kernel_rfl
theorem lE:(flG nm wa sz wr rl bd ro kn qu yl sd se gl fl sl).lookup ("stand":Str)=none:=by kernel_rfl
theorem pB {x:V}:ay "role" x (flG nm wa sz wr rl bd ro kn qu yl sd se gl fl sl)=flG nm wa sz wr rl bd x kn qu yl sd se gl fl sl:=by kernel_rfl
theorem vh {x:V}:ay "known" x (flG nm wa sz wr rl bd ro kn qu yl sd se gl fl sl)=flG nm wa sz wr rl bd ro x qu yl sd se gl fl sl:=by kernel_rfl
theorem qX {x:V}:ay "seat" x (flG nm wa sz wr rl bd ro kn qu yl sd se gl fl sl)=flG nm wa sz wr rl bd ro kn qu yl sd x gl fl sl:=by kernel_rfl
theorem vi {x:Int}:ay "quiet" (.int x) (flG nm wa sz wr rl bd ro kn qu yl sd se gl fl sl)=flG nm wa sz wr rl bd ro kn x yl sd se gl fl sl:=by kernel_rfl
theorem c4:(flG nm wa sz wr rl bd ro kn qu yl sd se gl fl sl).length=15:=by kernel_rfl
end
section
variable{t s:Int}{v:V}{kr:Addr}
theorem jx:(flW t v s kr).lookup ("rise_to":Str)=none:=by kernel_rfl
theorem ib:(flW t v s kr).lookup ("settle_to":Str)=none:=by kernel_rfl
theorem iF:(flW t v s kr).lookup ("keep_row":Str)=none:=by kernel_rfl
theorem iG:(flW t v s kr).lookup ("vote_for":Str)=none:=by kernel_rfl
theorem flW_pt {x:Int}:ay "term" (.int x) (flW t v s kr)=flW x v s kr:=by kernel_rfl
theorem vj {x:V}:ay "vote" x (flW t v s kr)=flW t x s kr:=by kernel_rfl
theorem flW_ps {x:Int}:ay "settled_place" (.int x) (flW t v s kr)=flW t v x kr:=by kernel_rfl
theorem flW_pk {x:Addr}:ay "kept_row" (.ref x) (flW t v s kr)=flW t v s x:=by kernel_rfl
theorem gN:(flW t v s kr).length=4:=by kernel_rfl
end
section
variable{st en:Addr}
theorem dJ:(flR st en).lookup ("term_at":Str)=none:=by kernel_rfl
theorem bi:(flR st en).lookup ("last_place":Str)=none:=by kernel_rfl
theorem iH:(flR st en).lookup ("entry_at":Str)=none:=by kernel_rfl
theorem fq:(flR st en).lookup ("between":Str)=none:=by kernel_rfl
theorem j3:(flR st en).lookup ("behind":Str)=none:=by kernel_rfl
theorem iz:(flR st en).lookup ("term":Str)=none:=by kernel_rfl
end
section
variable{nm:Str}{wa sz:Int}{m:Addr}
theorem oa:(flH nm wa sz m).lookup ("term":Str)=none:=by kernel_rfl
theorem oe:(flH nm wa sz m).lookup ("kept":Str)=none:=by kernel_rfl
end
theorem vk {d l:Addr}:(K45T.cT d l).lookup ("name":Str)=none:=by unfold K45T.cT;kernel_rfl
theorem vm {d l:Addr}:(K45T.cT d l).lookup ("term":Str)=none:=by unfold K45T.cT;kernel_rfl
theorem og {t:Int} {v:V} {s:Int} {kr:Addr}:(flW t v s kr).lookup ("told":Str)=none:=by kernel_rfl
structure ClH(K:Frag)(mg:Str->Option Value)(C:Addr):Prop where
 cl:Cls K C
 n0:aU K C "name"
 n1:aU K C "wait"
 n2:aU K C "size"
 n3:aU K C "mind"
 mgC:mg "House"=some (.ref C)
theorem bS{H:Hp}{a b C C' dx dx':Addr}{fs fs':List (Str × V)}(k:Str)(ha:H a=some (.ins C dx fs))(hb:H b=some (.ins C' dx' fs'))(h:fs.lookup k ≠ fs'.lookup k):a ≠ b:=fun z=>by
 subst z;rw[ha]at hb;have:=(HO.ins.inj (Option.some.inj hb)).2.2;exact h (by rw[this])
theorem cr{fs fs':List (Str × V)}{k:Str}{v:V}(h:fs.lookup k=some v)(h':fs'.lookup k=none):fs.lookup k ≠ fs'.lookup k:=by
 rw[h,h'];intro z;cases z
structure TkZ(H H':Hp):Prop where
 t:Tk H H'
 z:∀a o y,H a=some (.frz o y)->H' a=some (.frz o y)
theorem TkZ.of{H H':Hp}(s:ar H H'):TkZ H H':=⟨Tk.of s,fun a o y e=>s _ _ e⟩
theorem TkZ.refl(H:Hp):TkZ H H:=⟨Tk.refl H,fun _ _ _ e=>e⟩
theorem TkZ.trans{H H1 H2:Hp}(a:TkZ H H1)(b:TkZ H1 H2):TkZ H H2:=⟨a.t.trans b.t,fun x o y e=>b.z _ _ _ (a.z _ _ _ e)⟩
theorem TkZ.bt{H H':Hp}{x:Addr}{u:HO}(e:BtO x H H')(hx:H x=some u)(n1:∀xs,u ≠ .tup xs)(n2:∀o y,u ≠ .frz o y):TkZ H H':=⟨fun a xs h=>e _ _ (ax h hx (fun z=>n1 xs z.symm)) h,fun a o y h=>e _ _ (ax h hx (fun z=>n2 o y z.symm)) h⟩
theorem TkZ.ins{H H':Hp}{x C dx:Addr}{fs:List (Str × V)}(e:BtO x H H')(hx:H x=some (.ins C dx fs)):TkZ H H':=TkZ.bt e hx (fun _ z=>by cases z) (fun _ _ z=>by cases z)
theorem TkZ.lst{H H':Hp}{x:Addr}{fs:List V}(e:BtO x H H')(hx:H x=some (.lst fs)):TkZ H H':=TkZ.bt e hx (fun _ z=>by cases z) (fun _ _ z=>by cases z)
section
variable{K:Frag}{H H':Hp}
theorem lF{x:Addr}{ys:List V}(k:TkZ H H')(h:SqT K H x ys):SqT K H' x ys:=by
 rcases h with h | h
 ·refine .inl ?_;rcases h with h | ⟨u,h⟩
  ·exact .inl (k.t _ _ h)
  ·exact .inr ⟨u,k.z _ _ _ h⟩
 ·exact .inr h
theorem cP.tkz{st:Addr}{pl tm:Int}{b:Addr}{hk:List (Key × V)}{hq:List (Str × Int × V)}(e:TkZ H H')(h:cP K H st pl tm b hk hq):cP K H' st pl tm b hk hq:=by
 obtain⟨hh,aa,o,ps,as,h1,h2,h3,h4,h5,h6,h7,h8,h9⟩:=h;refine⟨hh,aa,o,ps,as,e.t _ _ h1,e.z _ _ _ h2,h3,h4,fun j kv q=>?_,lF e h6,h7,h8,fun j kv q=>?_⟩
 ·obtain⟨b,b1,b2⟩:=h5 j kv q;exact⟨b,b1,lF e b2⟩
 ·obtain⟨b,b1,b2⟩:=h9 j kv q;exact⟨b,b1,lF e b2⟩
theorem aS.keepT{CT T d l:Addr}{kvs:Kvs}{las:Las}(kT:∀u,H T=some u->H' T=some u)(kd:∀u,H d=some u->H' d=some u)(kl:∀u,H l=some u->H' l=some u)(k:TkZ H H')(h:aS K CT H T d l kvs las):aS K CT H' T d l kvs las:=by
 obtain⟨⟨dx,h1⟩,h2,⟨lk,h3,h4⟩,h5⟩:=h;exact⟨⟨dx,kT _ h1⟩,kd _ h2,⟨lk,kl _ h3,h4.mono fun t xs q=>lF k q⟩,h5⟩
theorem aS.neD{CT T d l x C dx:Addr}{fs:List (Str × V)}{kvs:Kvs}{las:Las}(h:aS K CT H T d l kvs las)(hx:H x=some (.ins C dx fs)):d ≠ x/\l ≠ x:=by
 obtain⟨⟨dx,h1⟩,h2,⟨lk,h3,h4⟩,h5⟩:=h;exact⟨ax h2 hx (by intro z;cases z),ax h3 hx (by intro z;cases z)⟩
theorem aS.neL{CT T d l x:Addr}{fs:List V}{kvs:Kvs}{las:Las}(h:aS K CT H T d l kvs las)(hx:H x=some (.lst fs)):T ≠ x/\d ≠ x/\l ≠ x:=by
 obtain⟨⟨dx,h1⟩,h2,⟨lk,h3,h4⟩,h5⟩:=h;exact⟨ax h1 hx (by intro z;cases z),ax h2 hx (by intro z;cases z),ax h3 hx (by intro z;cases z)⟩
theorem WrG.keep{CW CR wr:Addr}{t:Int}{v:V}{s:Int}{kr st en:Addr}{pl tm:Int}{b:Addr}{hk:List (Key × V)}{hq:List (Str × Int × V)}{es:List Addr}{xs:List En}(kw:∀u,H wr=some u->H' wr=some u)(kk:∀u,H kr=some u->H' kr=some u)(k:TkZ H H')(h:WrG K CW CR H wr t v s kr st en pl tm b hk hq es xs):WrG K CW CR H' wr t v s kr st en pl tm b hk hq es xs:=by
 obtain⟨⟨dx,h1⟩,dy,h2⟩:=id h.wo;exact⟨⟨⟨dx,kw _ h1⟩,dy,kk _ h2⟩,h.so.tkz k,k.t _ _ h.ho,cg k.t h.eo,h.el,h.ps,h.ok,h.kl,h.ll⟩
end
structure Cs where
 H:Addr
 M:Addr
 T:Addr
 W:Addr
 R:Addr
structure Bk where
 t:Kvs × Las
 ok:dr t.1 t.2
 l1:t.1.length <= 300
 l2:t.2.length <= 300
structure Gs where
 ho:Addr
 m:Addr
 wr:Addr
 bd:Addr
 d:Addr
 l:Addr
 rl:Addr
 kr:Addr
 st:Addr
 en:Addr
 b:Addr
 yl:Addr
 sd:Addr
 gl:Addr
 fl:Addr
 sl:Addr
 nm:Str
 wa:Int
 sz:Int
 t:Int
 v:V
 s:Int
 pl:Int
 tm:Int
 qu:Int
 kn:V
 ro:Str
 se:V
 hk:List (Key × V)
 hq:List (Str × Int × V)
 es:List Addr
 xs:List En
 bk:Bk
 B0:Bn
 ys:List Str
 rs:List V
 gs:List V
 fs:List V
 ss:List V
noncomputable abbrev Gs.flm(g:Gs):List (Str × V):=flG g.nm g.wa g.sz g.wr g.rl g.bd (.str g.ro) g.kn g.qu g.yl g.sd g.se g.gl g.fl g.sl
abbrev Gs.flw(g:Gs):List (Str × V):=flW g.t g.v g.s g.kr
noncomputable abbrev Gs.tab(g:Gs):Kvs × Las:=c8 g.bk.t (g.xs.take (g.s - g.pl).toNat)
noncomputable abbrev Gs.own(g:Gs):List Addr:=[g.m,g.wr,g.rl,g.d,g.l,g.gl,g.fl,g.sl,g.yl]
structure Ls(H:Hp)(g:Gs):Prop where
 y:H g.yl=some (.lst (g.ys.map V.str))
 r:H g.rl=some (.lst g.rs)
 g':H g.gl=some (.lst g.gs)
 f:H g.fl=some (.lst g.fs)
 s:H g.sl=some (.lst g.ss)
 nd:[g.yl,g.rl,g.gl,g.fl,g.sl].Nodup
theorem Ls.same{H H':Hp}{g:Gs}(e:ar H H')(h:Ls H g):Ls H' g:=⟨e _ _ h.y,e _ _ h.r,e _ _ h.g',e _ _ h.f,e _ _ h.s,h.nd⟩
theorem Ls.ins{H H':Hp}{g:Gs}{x C dx:Addr}{fs:List (Str × V)}(e:BtO x H H')(hx:H x=some (.ins C dx fs))(h:Ls H g):Ls H' g:=⟨e _ _ (ax h.y hx (by intro z;cases z)) h.y,e _ _ (ax h.r hx (by intro z;cases z)) h.r,e _ _ (ax h.g' hx (by intro z;cases z)) h.g',e _ _ (ax h.f hx (by intro z;cases z)) h.f,e _ _ (ax h.s hx (by intro z;cases z)) h.s,h.nd⟩
theorem Ls.two{H H':Hp}{g:Gs}{d l:Addr}(e:cF d l H H')(h:Ls H g)(hd:∃u,H d=some (.dK u))(hl:∃u,H l=some (.dK u)):Ls H' g:=by
 obtain⟨u1,hd⟩:=hd;obtain⟨u2,hl⟩:=hl;exact⟨e _ _ h.y (ax h.y hd (by intro z;cases z)) (ax h.y hl (by intro z;cases z)),e _ _ h.r (ax h.r hd (by intro z;cases z)) (ax h.r hl (by intro z;cases z)),e _ _ h.g' (ax h.g' hd (by intro z;cases z)) (ax h.g' hl (by intro z;cases z)),e _ _ h.f (ax h.f hd (by intro z;cases z)) (ax h.f hl (by intro z;cases z)),e _ _ h.s (ax h.s hd (by intro z;cases z)) (ax h.s hl (by intro z;cases z)),h.nd⟩
structure aK(K:Frag)(c:Cs)(H:Hp)(g:Gs):Prop where
 ob:∃dx,H g.m=some (.ins c.M dx g.flm)
 wg:WrG K c.W c.R H g.wr g.t g.v g.s g.kr g.st g.en g.pl g.tm g.b g.hk g.hq g.es g.xs
 tb:aS K c.T H g.bd g.d g.l g.tab.1 g.tab.2
 ls:Ls H g
 bo:BnO H g.b g.B0
def Fr(g:Gs)(H H':Hp):Prop:=∀x u,x ∉ g.own->H x=some u->H' x=some u
theorem Fr.of{g:Gs}{H H':Hp}(s:ar H H'):Fr g H H':=fun _ _ _ e=>s _ _ e
theorem Fr.trans{g:Gs}{H H1 H2:Hp}(a:Fr g H H1)(b:Fr g H1 H2):Fr g H H2:=fun x u n e=>b x u n (a x u n e)
theorem Fr.bt{g:Gs}{H H':Hp}{y:Addr}(e:BtO y H H')(hy:y ∈ g.own):Fr g H H':=fun x u n h=>e _ _ (fun z=>n (z ▸ hy)) h
theorem Fr.next{g g':Gs}{H H1 H2:Hp}(a:Fr g H H1)(b:Fr g' H1 H2)(h:∀x ∈ g'.own,x ∈ g.own\/H x=none):Fr g H H2:=fun x u n e=>b x u (fun z=>by
 rcases h x z with h | h
 ·exact n h
 ·rw[h]at e;cases e) (a x u n e)
structure bZ(K:Frag)(c:Cs)(H0 H:Hp)(g:Gs):Prop where
 hb:∃dx,H g.ho=some (.ins c.H dx (flH g.nm g.wa g.sz g.m))
 mo:aK K c H g
 ow:∀x ∈ g.own,H0 x=none
 oh:H0 g.ho=none
 sm:ar H0 H
section
variable{K:Frag}{c:Cs}{H0 H H':Hp}{g:Gs}
theorem aK.same(e:ar H H')(h:aK K c H g):aK K c H' g:=by
 obtain⟨dx,h1⟩:=h.ob;exact⟨⟨dx,e _ _ h1⟩,h.wg.same e,aS.same e h.tb,h.ls.same e,h.bo.tk (Tk.of e)⟩
theorem bZ.same(e:ar H H')(h:bZ K c H0 H g):bZ K c H0 H' g:=by
 obtain⟨dx,h1⟩:=h.hb;exact⟨⟨dx,e _ _ h1⟩,h.mo.same e,h.ow,h.oh,h.sm.trans e⟩
structure Ne(g:Gs):Prop where
 wm:g.wr ≠ g.m
 km:g.kr ≠ g.m
 bm:g.bd ≠ g.m
 kw:g.kr ≠ g.wr
 bw:g.bd ≠ g.wr
 dm:g.d ≠ g.m
 lm:g.l ≠ g.m
 dw:g.d ≠ g.wr
 lw:g.l ≠ g.wr
theorem aK.ne(h:aK K c H g):Ne g:=by
 obtain⟨dx,h1⟩:=h.ob;obtain⟨⟨dw,h4⟩,dk,h5⟩:=id h.wg.wo;obtain⟨dt,h6⟩:=h.tb.ob;have a1:=aS.neD h.tb h1;have a2:=aS.neD h.tb h4;exact⟨bS "term" h4 h1 (cr dI nZ),bS "stand" h5 h1 (cr ju lE),(bS "name" h1 h6 (cr dO vk)).symm,(bS "term" h4 h5 (cr dI iz)).symm,(bS "term" h4 h6 (cr dI vm)).symm,a1.1,a1.2,a2.1,a2.2⟩
theorem aK.tup_own(h:aK K c H g){a:Addr}{u:HO}(e:H a=some u)(hu:(∃xs,u=.tup xs)\/∃o y,u=.frz o y):a ∉ g.own:=by
 obtain⟨dx,h1⟩:=h.ob;obtain⟨⟨dw,h4⟩,dk,h5⟩:=id h.wg.wo;obtain⟨⟨dx,h6⟩,h7,⟨lk,h8,h9⟩,h10⟩:=h.tb;have n:∀{b:Addr}{w:HO},H b=some w->(∀xs,w ≠ .tup xs)->(∀o y,w ≠ .frz o y)->a ≠ b:=fun hb n1 n2=>ax e hb (fun z=>by
  rcases hu with ⟨xs,hu⟩ | ⟨o,y,hu⟩
  ·exact n1 xs (z.symm.trans hu)
  ·exact n2 o y (z.symm.trans hu))
 have L:=h.ls;intro hm;simp only[List.mem_cons,not_mem_nil,or_false]at hm;rcases hm with z | z | z | z | z | z | z | z | z
 ·exact n h1 (fun _ z=>by cases z) (fun _ _ z=>by cases z) z
 ·exact n h4 (fun _ z=>by cases z) (fun _ _ z=>by cases z) z
 ·exact n L.r (fun _ z=>by cases z) (fun _ _ z=>by cases z) z
 ·exact n h7 (fun _ z=>by cases z) (fun _ _ z=>by cases z) z
 ·exact n h8 (fun _ z=>by cases z) (fun _ _ z=>by cases z) z
 ·exact n L.g' (fun _ z=>by cases z) (fun _ _ z=>by cases z) z
 ·exact n L.f (fun _ z=>by cases z) (fun _ _ z=>by cases z) z
 ·exact n L.s (fun _ z=>by cases z) (fun _ _ z=>by cases z) z
 ·exact n L.y (fun _ z=>by cases z) (fun _ _ z=>by cases z) z
theorem Fr.tkz(h:aK K c H g)(f:Fr g H H'):TkZ H H':=⟨fun a xs e=>f _ _ (h.tup_own e (.inl ⟨xs,rfl⟩)) e,fun a o y e=>f _ _ (h.tup_own e (.inr ⟨o,y,rfl⟩)) e⟩
theorem bZ.neH(h:bZ K c H0 H g):g.ho ∉ g.own:=by
 obtain⟨dh,h0⟩:=h.hb;obtain⟨dx,h1⟩:=h.mo.ob;obtain⟨⟨dw,h4⟩,dk,h5⟩:=id h.mo.wg.wo;obtain⟨⟨dx,h6⟩,h7,⟨lk,h8,h9⟩,h10⟩:=h.mo.tb;have L:=h.mo.ls;intro hm;simp only[List.mem_cons,not_mem_nil,or_false]at hm;rcases hm with z | z | z | z | z | z | z | z | z
 ·exact(bS "kept" h1 h0 (cr cQ oe)).symm z
 ·exact(bS "term" h4 h0 (cr dI oa)).symm z
 ·exact ax h0 L.r (by intro z;cases z) z
 ·exact ax h0 h7 (by intro z;cases z) z
 ·exact ax h0 h8 (by intro z;cases z) z
 ·exact ax h0 L.g' (by intro z;cases z) z
 ·exact ax h0 L.f (by intro z;cases z) z
 ·exact ax h0 L.s (by intro z;cases z) z
 ·exact ax h0 L.y (by intro z;cases z) z
theorem bZ.next{g':Gs}(h:bZ K c H0 H g)(f:Fr g H H')(m:aK K c H' g')(e1:g'.ho=g.ho)(e2:g'.nm=g.nm)(e3:g'.wa=g.wa)(e4:g'.sz=g.sz)(e5:g'.m=g.m)(ow:∀x ∈ g'.own,H0 x=none):bZ K c H0 H' g':=by
 obtain⟨dh,h0⟩:=h.hb;refine⟨⟨dh,?_⟩,m,ow,by rw[e1];exact h.oh,fun x u e=>?_⟩
 ·rw[e1,e2,e3,e4,e5];exact f _ _ h.neH h0
 ·exact f _ _ (fun z=>by rw[h.ow x z]at e;cases e) (h.sm _ _ e)
end
structure StE(K:Frag)(H:Hp)(s:Int)(st en:Addr)(pl tm:Int)(b:Addr)(hk:List (Key × V))(hq:List (Str × Int × V))(es:List Addr)(xs:List En):Prop where
 so:cP K H st pl tm b hk hq
 ho:H en=some (.tup (es.map V.ref))
 eo:Paired (EnO H) es xs
 el:es.length <= 60
 ps:pl <= s
 ok:dr (bM hk) (cK hq)
 kl:(bM hk).length <= 300
 ll:(cK hq).length <= 300
theorem StE.same{K:Frag}{H H':Hp}{s:Int}{st en:Addr}{pl tm:Int}{b:Addr}{hk:List (Key × V)}{hq:List (Str × Int × V)}{es:List Addr}{xs:List En}(e:ar H H')(h:StE K H s st en pl tm b hk hq es xs):StE K H' s st en pl tm b hk hq es xs:=⟨h.so.same e,e _ _ h.ho,cg (Tk.of e) h.eo,h.el,h.ps,h.ok,h.kl,h.ll⟩
def spHI(K:Frag)(CH:Addr):Sp:=fun us H Q _=>∃(ho dx b:Addr)(nm:Str)(wa sz:Int),us=[.ref ho,.str nm,.int wa,.int sz,.ref b]/\H ho=some (.ins CH dx [])/\∀(m:Addr)(H':Hp),BtO ho H H'->H' ho=some (.ins CH dx (flH nm wa sz m))->Q .non H'
def spUp(K:Frag)(c:Cs):Sp:=fun us H Q _=>∃(H0:Hp)(ho dx m0 wt st en b:Addr)(nm:Str)(wa sz t s pl tm:Int)(v:V) (hk:List (Key × V)) (hq:List (Str × Int × V)) (es:List Addr) (xs:List En) (B0:Bn),us=[.ref ho,.ref wt]/\H ho=some (.ins c.H dx (flH nm wa sz m0))/\H wt=some (.tup [.int t,v,.int s,.ref st,.ref en])/\StE K H s st en pl tm b hk hq es xs/\BnO H b B0/\ar H0 H/\H0 ho=none /\
 ∀B:Bk,B.t=(bM hk,cK hq)->∀(m wr bd d l rl kr yl sd gl fl sl:Addr)(H':Hp),BtO ho H H'->bZ K c H0 H' { ho:=ho,m:=m,wr:=wr,bd:=bd,d:=d,l:=l,rl:=rl,kr:=kr,st:=st,en:=en,b:=b,yl:=yl,sd:=sd,gl:=gl,fl:=fl,sl:=sl,nm:=nm,wa:=wa,sz:=sz,t:=t,v:=v,s:=s,pl:=pl,tm:=tm,qu:=0,kn:=.non,ro:="plain",se:=.non,hk:=hk,hq:=hq,es:=es,xs:=xs,bk:=B,B0:=B0,ys:=[],rs:=[],gs:=[],fs:=[],ss:=[] }->Q .non H'
def vn(K:Frag)(c:Cs)(R:Hp->Gs->VK->Prop):Sp:=fun us H Q _=>∃(H0:Hp)(g:Gs),us=[.ref g.ho]/\bZ K c H0 H g/\R H g Q
def gO(K:Frag)(c:Cs):Sp:=vn K c fun H g Q=>∀(p:Addr)(H':Hp),ar H H'->H' p=some (.tup [.int g.t,g.v,.int g.s,.ref g.st,.ref g.en])->Q (.ref p) H'
def iQ(K:Frag)(c:Cs):Sp:=vn K c fun H g Q=>Q (.str g.ro) H
def jy(K:Frag)(c:Cs):Sp:=vn K c fun H g Q=>Q g.kn H
def eL(K:Frag)(c:Cs):Sp:=fun us H Q _=>∃g:Gs,us=[.ref g.m]/\aK K c H g/\Q (.int g.s) H
section
variable{P:Program}{w:World}{K:Frag}{mg:Str->Option Value}{base:Heap}{CH CM CT CW CR:Addr}
abbrev nHI:List Str:=["self","name","wait","size","bench"]
theorem scHI:ao nHI nHI (ah pz):=fsc (by decide +kernel)
theorem ok_hi {f:Addr} {fd:FuncData} (F:Fun K "__init__" "House.__init__" pz f fd) (T:ClH K mg CH) (TM:ClM K mg CM) (Mm:dU P w K mg base CM 6 ["self","name","wait","size","kept","records"] (spMI K CM CT CW CR)) (Fw:aJ P w K mg base 5 "first_written" ["bench"] (spFW CW CR)):aI P w K mg base CX0 8 f fd nHI (spHI K CH):=by
 refine F.ok scHI (fun vs H Q E h=>?_) (fun cdv A outer s H vs Q E hr h=>?_)
 ·obtain⟨ho,dx,b,nm,wa,sz,rfl,_⟩:=h;rfl
 ·obtain⟨ho,dx,b,nm,wa,sz,rfl,hH,q⟩:=h;have r5:aP 5 _:=hr.mono (by decide)
  refine⟨_,ac (aM (pv 0) (pv 1) rfl) <| ac (aM (pv 0) (pv 2) rfl) <| ac (aM (pv 0) (pv 3) rfl) <|
   ai (aM (pv 0) (cn Mm hr TM.mgC (ab (pv 1) (ab (pv 2) (ab (pv 3) (ab (aj Fw r5 (ab (pv 4) ad)) (ab (bg ad) ad)))))) rfl),?_⟩
  dsimp only[aW,Cx.nox];refine ae fun K_ hK_=>?_;refine⟨_,rfl,_,rfl,ho,CH,dx,[],rfl,hH,T.cl,T.n0,(by show 0 < 1000;decide),?_⟩
  refine hK_ _ _ (ae fun K_ hK_=>?_);refine⟨_,rfl,_,rfl,ho,CH,dx,_,rfl,af,T.cl,T.n1,(by show 1 < 1000;decide),?_⟩
  refine hK_ _ _ (ae fun K_ hK_=>?_);refine⟨_,rfl,_,rfl,ho,CH,dx,_,rfl,af,T.cl,T.n2,(by show 2 < 1000;decide),?_⟩
  have b3:BtO ho H (upd (upd (upd H ho (.ins CH dx (ay "name" (.str nm) []))) ho (.ins CH dx (ay "wait" (.int wa) (ay "name" (.str nm) [])))) ho (.ins CH dx (ay "size" (.int sz) (ay "wait" (.int wa) (ay "name" (.str nm) []))))):=BtO.upd.trans (BtO.upd.trans BtO.upd);have e3:upd (upd (upd H ho (.ins CH dx (ay "name" (.str nm) []))) ho (.ins CH dx (ay "wait" (.int wa) (ay "name" (.str nm) [])))) ho (.ins CH dx (ay "size" (.int sz) (ay "wait" (.int wa) (ay "name" (.str nm) [])))) ho=some (.ins CH dx (ay "size" (.int sz) (ay "wait" (.int wa) (ay "name" (.str nm) [])))):=af;refine hK_ _ _ ?_;generalize upd (upd (upd H ho (.ins CH dx (ay "name" (.str nm) []))) ho (.ins CH dx (ay "wait" (.int wa) (ay "name" (.str nm) [])))) ho (.ins CH dx (ay "size" (.int sz) (ay "wait" (.int wa) (ay "name" (.str nm) []))))=H3 at b3 e3 ⊢;refine⟨_,rfl,_,rfl,_,rfl,_,rfl,b,rfl,fun o kr st en e1 e2 o1 o2 H4 s4 w4 g1 g2 d1 g3 d2 g4=>⟨Nat.zero_le _,fun rl H5 n5 s5 e5=>?_⟩⟩;intro m dm nm' nd ndm;have nm2:upd H5 dm (.own m) m=none:=by rw[au ndm.symm];exact nm'
  have s6:ar H5 (upd (upd H5 dm (.own m)) m (.ins CM dm [])):=(ar.new nd).trans (ar.new nm2);have s46:=s5.trans s6;refine⟨m,dm,o,rl,kr,st,en,b,nm,wa,sz,0,0,0,0,.non,[],[],[],[],rfl,af,⟨w4.same s46,⟨e1,e2,o1,[],[],s46 _ _ g1,s46 _ _ g2,d1,rfl,fun j kv h=>(nomatch h),.inl (.inr ⟨o2,s46 _ _ g3⟩),rfl,Nat.zero_le _,fun j kv h=>(nomatch h)⟩,s46 _ _ g4,.nil,Nat.zero_le _,Int.le_refl _,dr.empty,Nat.zero_le _,Nat.zero_le _⟩,fun bd d l yl sd gl fl sl H7 b7 e7 _ _ _ _ _ _ _ _ _ _ _ _ _=>⟨rfl,?_⟩⟩;have mh:m ≠ ho:=(ak (s5 _ _ (s4 _ _ e3)) nm').symm;have eh:H7 ho=some (.ins CH dx (ay "size" (.int sz) (ay "wait" (.int wa) (ay "name" (.str nm) [])))):=b7 _ _ mh.symm (s46 _ _ (s4 _ _ e3));refine⟨_,rfl,ho,CH,dx,_,rfl,eh,T.cl,T.n3,(by show 3 < 1000;decide),q m _ (fun c u n e=>?_) af⟩
  rw[au n];have e':=s4 _ _ (b3 _ _ n e);exact b7 _ _ (ak (s5 _ _ e') nm') (s46 _ _ e')
theorem scUp:ao ["self","written"] ["self","written"] (ah sUp):=fsc (by decide +kernel)
theorem ok_up {f:Addr} {fd:FuncData} (F:Fun K "comes_up" "House.comes_up" sUp f fd) (T:ClH K mg CH) (TM:ClM K mg CM) (TW:ClW K mg CW) (Mm:dU P w K mg base CM 6 ["self","name","wait","size","kept","records"] (spMI K CM CT CW CR)) (Mw:dU P w K mg base CW 3 ["self","parts"] (iP K CW CR)):aI P w K mg base CX0 8 f fd ["self","written"] (spUp K ⟨CH,CM,CT,CW,CR⟩):=by
 refine F.ok scUp (fun vs H Q E h=>?_) (fun cdv A outer s H vs Q E hr h=>?_)
 ·obtain⟨H0,ho,dx,m0,wt,st,en,b,nm,wa,sz,t,s,pl,tm,v,hk,hq,es,xs,B0,rfl,_⟩:=h;rfl
 ·obtain⟨H0,ho,dx,m0,wt,st,en,b,nm,wa,sz,t,s,pl,tm,v,hk,hq,es,xs,B0,rfl,hH,hw,G,hB0,s0,n0,q⟩:=h;have r4:aP 4 _:=hr.mono (by decide)
  refine⟨_,ai (aM (pv 0) (cn Mm hr TM.mgC (ab (am (pv 0) rfl) (ab (am (pv 0) rfl) (ab (am (pv 0) rfl) (ab (cn Mw r4 TW.mgC (ab (pv 1) ad)) (ab (bg ad) ad)))))) rfl),?_⟩;dsimp only[aW,Cx.nox];refine⟨_,rfl,ho,CH,dx,_,_,rfl,hH,T.cl,T.n0,flH_n,_,rfl,ho,CH,dx,_,_,rfl,hH,T.cl,T.n1,flH_w,_,rfl,ho,CH,dx,_,_,rfl,hH,T.cl,T.n2,flH_s,_,rfl,?_⟩;intro o dw no nd ndo;have no':upd H dw (.own o) o=none:=by rw[au ndo.symm];exact no
  have s1:ar H (upd (upd H dw (.own o)) o (.ins CW dw [])):=(ar.new nd).trans (ar.new no');refine(ex9 o dw wt st en t s v _ ⟨rfl,af,SqT.of (s1 _ _ hw),SqT.of (s1 _ _ G.ho),fun kr H2 nk b2 w2=>⟨rfl,Nat.zero_le _,fun rl H3 n3 s3 e3=>?_⟩⟩);have s02:ar H H2:=fun c u e=>b2 _ _ (ak e no) (s1 _ _ e);have s03:=s02.trans s3;intro m dm nm' nd' ndm;have nm2:upd H3 dm (.own m) m=none:=by rw[au ndm.symm];exact nm'
  have s6:ar H3 (upd (upd H3 dm (.own m)) m (.ins CM dm [])):=(ar.new nd').trans (ar.new nm2);have G6:=(G.same s03).same s6;refine⟨m,dm,o,rl,kr,st,en,b,nm,wa,sz,t,s,pl,tm,v,hk,hq,es,xs,rfl,af,⟨(w2.same s3).same s6,G6.so,G6.ho,G6.eo,G6.el,G6.ps,G6.ok,G6.kl,G6.ll⟩,fun bd d l yl sd gl fl sl H7 b7 e7 _ nd7 nl7 hT eg ef es' ng nf ns ey ny ndl=>⟨rfl,?_⟩⟩;have mh:m ≠ ho:=(ak (s03 _ _ hH) nm').symm;have eh:H7 ho=some (.ins CH dx (flH nm wa sz m0)):=b7 _ _ mh.symm (s6 _ _ (s03 _ _ hH));refine⟨_,rfl,ho,CH,dx,_,rfl,eh,T.cl,T.n3,(by rw[flH_len];decide),?_⟩
  rw[flH_put];have bb:BtO ho H7 (upd H7 ho (.ins CH dx (flH nm wa sz m))):=BtO.upd;have W7:WrG K CW CR H7 o t v s kr st en pl tm b hk hq es xs:=by
   have hm0:upd (upd H3 dm (.own m)) m (.ins CM dm []) m=some (.ins CM dm []):=af;exact WrG.bt b7 hm0 ⟨(w2.same s3).same s6,G6.so,G6.ho,G6.eo,G6.el,G6.ps,G6.ok,G6.kl,G6.ll⟩
  have nho:H o=none:=no;have W8:WrG K CW CR (upd H7 ho (.ins CH dx (flH nm wa sz m))) o t v s kr st en pl tm b hk hq es xs:=by
   obtain⟨⟨dx1,y1⟩,dy1,y2⟩:=id W7.wo;have n1:o ≠ ho:=(ak hH no).symm;have n2:kr ≠ ho:=fun z=>by
    rw[z,s1 _ _ hH]at nk;cases nk
   exact⟨⟨⟨dx1,bb _ _ n1 y1⟩,dy1,bb _ _ n2 y2⟩,W7.so.bt bb eh,Tk.bt bb eh _ _ W7.ho,cg (Tk.bt bb eh) W7.eo,W7.el,W7.ps,W7.ok,W7.kl,W7.ll⟩
  have nbd:bd ≠ ho:=fun z=>by
   obtain⟨⟨dz,y⟩,_⟩:=hT;rw[z,eh]at y;have:=(HO.ins.inj (Option.some.inj y)).2.2;have h0:("name":Str) ∉ [("held":Str),"lasts"]:=by decide +kernel
   have h1:=congrArg (fun l=>List.lookup ("name":Str) l) this;simp only[flH_n]at h1;have h2:(K45T.cT d l).lookup ("name":Str)=none:=by unfold K45T.cT;kernel_rfl
   rw[h2]at h1;cases h1
  have s06:ar H0 (upd (upd H3 dm (.own m)) m (.ins CM dm [])):=s0.trans (s03.trans s6);have e8:H7 rl=some (.lst []):=b7 _ _ (ak e3 nm') (s6 _ _ e3);have s08:ar H0 (upd H7 ho (.ins CH dx (flH nm wa sz m))):=fun x u e=>by
   rw[au (ak e n0)];have e':=s0.trans s03 _ _ e;exact b7 _ _ (ak e' nm') (s6 _ _ e')
  have r6:=s6 _ _ e3;have yh:yl ≠ ho:=ax ey eh (by intro z;cases z)
  have rh:rl ≠ ho:=ax e8 eh (by intro z;cases z)
  have gh:gl ≠ ho:=ax eg eh (by intro z;cases z)
  have fh:fl ≠ ho:=ax ef eh (by intro z;cases z)
  have sh:sl ≠ ho:=ax es' eh (by intro z;cases z)
  have nd5:[yl,rl,gl,fl,sl].Nodup:=by
   have a1:=ak r6 ng;have a2:=ak r6 nf;have a3:=ak r6 ns;have a4:=(ak r6 ny).symm;have:=ndl;simp only[List.nodup_cons,List.mem_cons,not_mem_nil,or_false,not_or,List.nodup_nil,and_true,not_false_eq_true]at this ⊢;exact⟨⟨a4,this.1.1,this.1.2.1,this.1.2.2⟩,⟨a1,a2,a3⟩,this.2⟩
  refine q ⟨(bM hk,cK hq),W7.ok,W7.kl,W7.ll⟩ rfl m o bd d l rl kr yl sd gl fl sl _ (fun c u n e=>?_) ⟨⟨dx,af⟩,⟨⟨dm,by rw[au mh];exact e7⟩,W8,aS.bt bb eh nbd hT,⟨by rw[au yh];exact ey,by rw[au rh];exact e8,by rw[au gh];exact eg,by rw[au fh];exact ef,by rw[au sh];exact es',nd5⟩,?_⟩,fun x hx=>?_,n0,s08⟩
  rotate_left
  ·have k1:Tk H H7:=fun a xs e=>b7 _ _ (ak (s03 _ _ e) nm') (s6 _ _ (s03 _ _ e));exact hB0.tk (k1.trans (Tk.bt bb eh))
  ·have hx:x=m\/x=o\/x=rl\/x=d\/x=l\/x=gl\/x=fl\/x=sl\/x=yl:=by simpa using hx
   rcases hx with rfl | rfl | rfl | rfl | rfl | rfl | rfl | rfl | rfl
   ·exact(s0.trans s03).free nm'
   ·exact s0.free no
   ·exact(s0.trans s02).free n3
   ·exact s06.free nd7
   ·exact s06.free nl7
   ·exact s06.free ng
   ·exact s06.free nf
   ·exact s06.free ns
   ·exact s06.free ny
  rw[au n];have e':=s03 _ _ e;exact b7 _ _ (ak e' nm') (s6 _ _ e')
theorem vo:ao ["self"] ["self"] (ah lC):=fsc (by decide +kernel)
theorem sQ {f:Addr} {fd:FuncData} (F:Fun K "writes" "House.writes" lC f fd) (T:ClH K mg CH) (TM:ClM K mg CM) (TW:ClW K mg CW) (Mt:aD P w K mg base CW 1 "told" ["self"] (lA K CW CR)):aI P w K mg base CX0 2 f fd ["self"] (gO K ⟨CH,CM,CT,CW,CR⟩):=by
 refine F.ok vo (fun vs H Q E h=>?_) (fun cdv A outer s H vs Q E hr h=>?_)
 ·obtain⟨H0,g,rfl,_⟩:=h;rfl
 ·obtain⟨H0,g,rfl,G,q⟩:=h;refine⟨_,ai <| av <| aw Mt TW.cl hr (am (am (pv 0) rfl) rfl),?_⟩;dsimp only[aW,Cx.nox];obtain⟨dx,h1⟩:=G.hb;obtain⟨dy,h2⟩:=G.mo.ob;obtain⟨⟨dz,h3⟩,_⟩:=id G.mo.wg.wo;exact⟨_,rfl,g.ho,CH,dx,_,_,rfl,h1,T.cl,T.n3,jv,g.m,CM,dy,_,_,rfl,h2,TM.cl,TM.n3,cQ,g.wr,dz,_,rfl,h3,og,g.wr,g.kr,g.st,g.en,g.t,g.s,g.v,rfl,G.mo.wg.wo,q⟩
theorem scHPart:ao ["self"] ["self"] (ah pA):=fsc (by decide +kernel)
theorem vp {f:Addr} {fd:FuncData} (F:Fun K "part" "House.part" pA f fd) (T:ClH K mg CH) (TM:ClM K mg CM):aI P w K mg base CX0 1 f fd ["self"] (iQ K ⟨CH,CM,CT,CW,CR⟩):=by
 refine F.ok scHPart (fun vs H Q E h=>?_) (fun cdv A outer s H vs Q E hr h=>?_)
 ·obtain⟨H0,g,rfl,_⟩:=h;rfl
 ·obtain⟨H0,g,rfl,G,q⟩:=h;refine⟨_,ai <| av <| am (am (pv 0) rfl) rfl,?_⟩;dsimp only[aW,Cx.nox];obtain⟨dx,h1⟩:=G.hb;obtain⟨dy,h2⟩:=G.mo.ob;exact⟨_,rfl,g.ho,CH,dx,_,_,rfl,h1,T.cl,T.n3,jv,g.m,CM,dy,_,_,rfl,h2,TM.cl,TM.n6,flG_r,q⟩
theorem vq:ao ["self"] ["self"] (ah lD):=fsc (by decide +kernel)
theorem sR {f:Addr} {fd:FuncData} (F:Fun K "chair_known" "House.chair_known" lD f fd) (T:ClH K mg CH) (TM:ClM K mg CM):aI P w K mg base CX0 1 f fd ["self"] (jy K ⟨CH,CM,CT,CW,CR⟩):=by
 refine F.ok vq (fun vs H Q E h=>?_) (fun cdv A outer s H vs Q E hr h=>?_)
 ·obtain⟨H0,g,rfl,_⟩:=h;rfl
 ·obtain⟨H0,g,rfl,G,q⟩:=h;refine⟨_,ai <| av <| am (am (pv 0) rfl) rfl,?_⟩;dsimp only[aW,Cx.nox];obtain⟨dx,h1⟩:=G.hb;obtain⟨dy,h2⟩:=G.mo.ob;exact⟨_,rfl,g.ho,CH,dx,_,_,rfl,h1,T.cl,T.n3,jv,g.m,CM,dy,_,_,rfl,h2,TM.cl,TM.n7,flG_c,q⟩
theorem scMSet:ao ["self"] ["self"] (ah hZ):=fsc (by decide +kernel)
theorem ok_mset {f:Addr} {fd:FuncData} (F:Fun K "settled" "Mind.settled" hZ f fd) (TM:ClM K mg CM) (TW:ClW K mg CW):aI P w K mg base CX0 1 f fd ["self"] (eL K ⟨CH,CM,CT,CW,CR⟩):=by
 refine F.ok scMSet (fun vs H Q E h=>?_) (fun cdv A outer s H vs Q E hr h=>?_)
 ·obtain⟨g,rfl,_⟩:=h;rfl
 ·obtain⟨g,rfl,G,q⟩:=h;refine⟨_,ai <| av <| am (am (pv 0) rfl) rfl,?_⟩;dsimp only[aW,Cx.nox];obtain⟨dy,h2⟩:=G.ob;obtain⟨⟨dz,h3⟩,_⟩:=id G.wg.wo;exact⟨_,rfl,g.m,CM,dy,_,_,rfl,h2,TM.cl,TM.n3,cQ,g.wr,CW,dz,_,_,rfl,h3,TW.cl,TW.nS,flW_s,q⟩
end
end K45
namespace K45B
open PySem L2
open K45 (top at0 at1 uV ce ClR)
abbrev kF:Stmt:=aC (top 53) 0
abbrev pC:Stmt:=aC (top 53) 1
abbrev lG:Stmt:=aC (top 53) 3
abbrev pD:Stmt:=aC (top 53) 4
abbrev kH:Stmt:=aC (top 53) 5
abbrev lH:Stmt:=aC (top 53) 6
def cT(st en:Addr):List (Str × V):=K45.flR st en
theorem dX (st en:Addr):(cT st en).lookup ("stand":Str)=some (.ref st):=by unfold cT;kernel_rfl
theorem ic (st en:Addr):(cT st en).lookup ("entries":Str)=some (.ref en):=by unfold cT;kernel_rfl
structure df(C:Addr)(H:Hp)(r st en:Addr)(pl tm:Int)(sv:List V)(es:List Addr)(tms:List Int):Prop where
 obj:∃dx,H r=some (.ins C dx (cT st en))
 st:H st=some (.tup (.int pl :: .int tm :: sv))
 en:H en=some (.tup (es.map V.ref))
 len:es.length=tms.length
 ent:∀(i:Nat)(e:Addr)(t:Int),es[i]?=some e->tms[i]?=some t->∃d,H e=some (.tup [.int t,.ref d])
 few:es.length <= 700
theorem df.same{C:Addr}{H H':Hp}{r st en:Addr}{pl tm:Int}{sv:List V}{es:List Addr}{tms:List Int}(e:ar H H')(h:df C H r st en pl tm sv es tms):df C H' r st en pl tm sv es tms:=by
 obtain⟨⟨dx,h1⟩,h2,h3,h4,h5,h6⟩:=h;refine⟨⟨dx,e _ _ h1⟩,e _ _ h2,e _ _ h3,h4,fun i a t ha ht=>?_,h6⟩;obtain⟨d,hd⟩:=h5 i a t ha ht;exact⟨d,e _ _ hd⟩
noncomputable def eT(pl tm:Int)(tms:List Int)(p:Int):V:=if p=pl then .int tm else if p < pl\/pl + tms.length < p then .non else .int (tms.getD (p - pl - 1).toNat 0)
noncomputable def fu(tm:Int)(tms:List Int):Int:=(tm :: tms).getD tms.length 0
theorem jz(pl tm:Int)(tms:List Int){k:Nat}(h:k <= tms.length):eT pl tm tms (pl + k)=.int ((tm :: tms).getD k 0):=by
 unfold eT;cases k with
 | zero=>rw[if_pos (by simp)];rfl
 | succ k =>
  rw[if_neg (by lia),if_neg (by lia)]
  have e:(pl + ((k + 1:Nat):Int) - pl - 1).toNat=k:=by lia
  rw[e];rfl
theorem pE(pl tm:Int)(tms:List Int):eT pl tm tms (pl + tms.length)=.int (fu tm tms):=jz pl tm tms (Nat.le_refl _)
theorem kI(pl tm:Int)(tms:List Int){p:Int}(h:p < pl\/pl + tms.length < p):eT pl tm tms p=.non:=by
 unfold eT;rw[if_neg (by lia),if_pos h]
def gr(C:Addr):Sp:=fun us H Q _=>∃(r dx st en:Addr)(ys:List V),us=[.ref r,.ref st,.ref en]/\H r=some (.ins C dx [])/\H en=some (.tup ys) /\
 ∀H',(∀b o,b ≠ r->H b=some o->H' b=some o)->H' r=some (.ins C dx (cT st en))->Q .non H'
def cR(C:Addr):Sp:=fun us H Q _=>∃(r st en:Addr)(pl tm:Int)(sv:List V)(es:List Addr)(tms:List Int),us=[.ref r]/\df C H r st en pl tm sv es tms/\Q (.int (pl + tms.length)) H
def fw(C:Addr):Sp:=fun us H Q _=>∃(r st en:Addr)(pl tm:Int)(sv:List V)(es:List Addr)(tms:List Int)(p:Int),us=[.ref r,.int p]/\df C H r st en pl tm sv es tms/\Q (eT pl tm tms p) H
def iR(C:Addr):Sp:=fun us H Q _=>∃(r st en:Addr)(pl tm:Int)(sv:List V)(es:List Addr)(tms:List Int)(k:Nat)(e:Addr),us=[.ref r,.int (pl + 1 + k)]/\df C H r st en pl tm sv es tms/\es[k]?=some e/\Q (.ref e) H
def gt(C:Addr):Sp:=fun us H Q _=>∃(r st en:Addr)(pl tm:Int)(sv:List V)(es:List Addr)(tms:List Int)(k:Nat),us=[.ref r,.int (pl + k)]/\df C H r st en pl tm sv es tms /\
 ∀t H',ar H H'->H' t=some (.tup ((es.take k).map V.ref))->Q (.ref t) H'
def jA(C:Addr):Sp:=fun us H Q _=>∃(r st en:Addr)(pl tm:Int)(sv:List V)(es:List Addr)(tms:List Int)(k:Nat),us=[.ref r,.int (pl + k)]/\df C H r st en pl tm sv es tms /\
 ∀t H',ar H H'->H' t=some (.tup ((es.drop k).map V.ref))->Q (.ref t) H'
theorem vt(es:List Addr)(k:Nat):c6 (es.map V.ref) (some (k:Int)) none=(es.drop k).map V.ref:=by
 unfold c6;rw[length_map,HT.jc,HT.gF,<- List.map_drop,<- List.map_take];by_cases h:k <= es.length
 ·rw[Nat.min_eq_left h,take_of_length_le (by rw[length_drop];lia)]
 ·rw[Nat.min_eq_right (by lia),List.drop_of_length_le (Nat.le_refl _),List.drop_of_length_le (by lia)]
  simp
theorem vx(es:List Addr)(k:Nat):c6 (es.map V.ref) none (some (k:Int))=(es.take k).map V.ref:=by
 unfold c6;rw[length_map,HT.jc,HT.gF,List.drop_zero,Nat.sub_zero,<- List.map_take];by_cases h:k <= es.length
 ·rw[Nat.min_eq_left h]
 ·rw[Nat.min_eq_right (by lia),take_of_length_le (Nat.le_refl _),take_of_length_le (by lia)]
section
variable{P:Program}{w:World}{K:Frag}{mg:Str->Option Value}{base:Heap}
theorem lx:ao ["self","stand","entries"] ["self","stand","entries"] (ah kF):=fsc (by decide +kernel)
theorem ly {f C:Addr} {fd:FuncData} (F:Fun K "__init__" "Row.__init__" kF f fd) (T:ClR K mg C) (htuple:mg "tuple"=none):aI P w K mg base CX0 1 f fd ["self","stand","entries"] (gr C):=by
 refine F.ok lx (fun vs H Q E h=>?_) (fun cdv A outer s H vs Q E hr h=>?_)
 ·obtain⟨r,dx,st,en,ys,rfl,_⟩:=h;rfl
 ·obtain⟨r,dx,st,en,ys,rfl,hR,he,q⟩:=h;refine⟨_,ac (aM (pv 0) (pv 1) rfl) (ai (aM (pv 0) (be ky (by rfl) htuple ce (ab (pv 2) ad)) rfl)),?_⟩
  dsimp only[aW,Cx.nox];refine ae fun K_ hK_=>?_;refine⟨_,rfl,_,rfl,r,C,dx,[],rfl,hR,T.cl,T.nS,(by show 0 < 1000;decide),?_⟩
  have ner:en ≠ r:=ax he hR (by intro z;cases z)
  refine hK_ _ _ ?_;refine⟨_,rfl,en,ys,rfl,SqT.of (by rw[au ner];exact he),_,rfl,ex4 r C dx _ ⟨rfl,af,T.cl,T.nE,(by show 1 < 1000;decide),?_⟩⟩
  exact q _ (fun b o hb e=>by rw[au hb,au hb];exact e) af
theorem scLastP:ao ["self"] ["self"] (ah pC):=fsc (by decide +kernel)
theorem vy {f C:Addr} {fd:FuncData} (F:Fun K "last_place" "Row.last_place" pC f fd) (T:ClR K mg C) (hlen:mg "len"=none):aI P w K mg base CX0 1 f fd ["self"] (cR C):=by
 refine F.ok scLastP (fun vs H Q E h=>?_) (fun cdv A outer s H vs Q E hr h=>?_)
 ·obtain⟨r,st,en,pl,tm,sv,es,tms,rfl,_⟩:=h;rfl
 ·obtain⟨r,st,en,pl,tm,sv,es,tms,rfl,⟨⟨dx,h1⟩,h2,h3,h4,h5,h6⟩,q⟩:=h;refine⟨_,ai <| av <| aL bu (aE az (am (pv 0) rfl) ag (fun _ _=>rfl)) (bq a9 (by rfl) hlen PySem.boot_len (ab (am (pv 0) rfl) ad)),?_⟩
  dsimp only[aW,Cx.nox];refine⟨_,rfl,ex5 r C dx _ _ ⟨rfl,h1,T.cl,T.nS,dX _ _,st,_,_,_,rfl,rfl,SqT.of h2,at0,_,rfl,ex5 r C dx _ _ ⟨rfl,h1,T.cl,T.nE,ic _ _,en,_,rfl,.inr (SqT.of h3),_,_,rfl,rfl,?_⟩⟩⟩;rw[length_map,h4];exact q
theorem scEntAt:ao ["self","place"] ["self","place"] (ah pD):=fsc (by decide +kernel)
theorem vz {f C:Addr} {fd:FuncData} (F:Fun K "entry_at" "Row.entry_at" pD f fd) (T:ClR K mg C):aI P w K mg base CX0 1 f fd ["self","place"] (iR C):=by
 refine F.ok scEntAt (fun vs H Q E h=>?_) (fun cdv A outer s H vs Q E hr h=>?_)
 ·obtain⟨r,st,en,pl,tm,sv,es,tms,k,e,rfl,_⟩:=h;rfl
 ·obtain⟨r,st,en,pl,tm,sv,es,tms,k,e,rfl,⟨⟨dx,h1⟩,h2,h3,h4,h5,h6⟩,hk,q⟩:=h;refine⟨_,ai <| av <| aE az (am (pv 0) rfl) (aL dR (aL dR (pv 1) (aE az (am (pv 0) rfl) ag (fun _ _=>rfl))) ag) (fun _ _=>rfl),?_⟩;dsimp only[aW,Cx.nox];refine⟨_,rfl,ex5 r C dx _ _ ⟨rfl,h1,T.cl,T.nE,ic _ _,_,rfl,_,rfl,ex5 r C dx _ _ ⟨rfl,h1,T.cl,T.nS,dX _ _,st,_,_,_,rfl,rfl,SqT.of h2,at0,_,_,rfl,rfl,_,_,rfl,rfl,ex4 en _ _ _ ⟨rfl,rfl,SqT.of h3,?_,q⟩⟩⟩⟩;have e2:pl + 1 + (k:Int) - pl - 1=(k:Int):=by lia
  rw[e2];exact cX (by rw[getElem?_map,hk];rfl)
theorem pq:ao ["self","place"] ["self","place"] (ah kH):=fsc (by decide +kernel)
theorem ok_upTo {f C:Addr} {fd:FuncData} (F:Fun K "up_to" "Row.up_to" kH f fd) (T:ClR K mg C):aI P w K mg base CX0 1 f fd ["self","place"] (gt C):=by
 refine F.ok pq (fun vs H Q E h=>?_) (fun cdv A outer s H vs Q E hr h=>?_)
 ·obtain⟨r,st,en,pl,tm,sv,es,tms,k,rfl,_⟩:=h;rfl
 ·obtain⟨r,st,en,pl,tm,sv,es,tms,k,rfl,⟨⟨dx,h1⟩,h2,h3,h4,h5,h6⟩,q⟩:=h;refine⟨_,ai <| av <| bU cN (am (pv 0) rfl) cC (bW (aL dR (pv 1) (aE az (am (pv 0) rfl) ag (fun _ _=>rfl)))),?_⟩;dsimp only[aW,Cx.nox];refine⟨_,rfl,ex5 r C dx _ _ ⟨rfl,h1,T.cl,T.nE,ic _ _,_,rfl,_,rfl,ex5 r C dx _ _ ⟨rfl,h1,T.cl,T.nS,dX _ _,st,_,_,_,rfl,rfl,SqT.of h2,at0,_,_,rfl,rfl,_,rfl,en,_,rfl,h3,fun t H' s' e'=>q t H' s' ?_⟩⟩⟩;have e2:pl + (k:Int) - pl=(k:Int):=by lia
  rw[e2,vx]at e';exact e'
theorem vA:ao ["self","place"] ["self","place"] (ah lH):=fsc (by decide +kernel)
theorem sS {f C:Addr} {fd:FuncData} (F:Fun K "behind" "Row.behind" lH f fd) (T:ClR K mg C):aI P w K mg base CX0 1 f fd ["self","place"] (jA C):=by
 refine F.ok vA (fun vs H Q E h=>?_) (fun cdv A outer s H vs Q E hr h=>?_)
 ·obtain⟨r,st,en,pl,tm,sv,es,tms,k,rfl,_⟩:=h;rfl
 ·obtain⟨r,st,en,pl,tm,sv,es,tms,k,rfl,⟨⟨dx,h1⟩,h2,h3,h4,h5,h6⟩,q⟩:=h;refine⟨_,ai <| av <| bU cN (am (pv 0) rfl) (bW (aL dR (pv 1) (aE az (am (pv 0) rfl) ag (fun _ _=>rfl)))) cC,?_⟩;dsimp only[aW,Cx.nox];refine⟨_,rfl,ex5 r C dx _ _ ⟨rfl,h1,T.cl,T.nE,ic _ _,_,rfl,_,rfl,ex5 r C dx _ _ ⟨rfl,h1,T.cl,T.nS,dX _ _,st,_,_,_,rfl,rfl,SqT.of h2,at0,_,_,rfl,rfl,_,rfl,en,_,rfl,h3,fun t H' s' e'=>q t H' s' ?_⟩⟩⟩;have e2:pl + (k:Int) - pl=(k:Int):=by lia
  rw[e2,vt]at e';exact e'
theorem vB:ao ["self","place"] ["self","place"] (ah lG):=fsc (by decide +kernel)
theorem sT {f C:Addr} {fd:FuncData} (F:Fun K "term_at" "Row.term_at" lG f fd) (T:ClR K mg C) (Ml:aD P w K mg base C 1 "last_place" ["self"] (cR C)) (Me:aD P w K mg base C 1 "entry_at" ["self","place"] (iR C)):aI P w K mg base CX0 2 f fd ["self","place"] (fw C):=by
 refine F.ok vB (fun vs H Q E h=>?_) (fun cdv A outer s H vs Q E hr h=>?_)
 ·obtain⟨r,st,en,pl,tm,sv,es,tms,p,rfl,_⟩:=h;rfl
 ·obtain⟨r,st,en,pl,tm,sv,es,tms,p,rfl,hR,q⟩:=h;obtain⟨⟨dx,h1⟩,h2,h3,h4,h5,h6⟩:=id hR;refine⟨_,ac (bc (aG cw (pv 1) (aE az (am (pv 0) rfl) ag (fun _ _=>rfl)) (aN _)) (ai (av (aE az (am (pv 0) rfl) ag (fun _ _=>rfl)))) aF) <|
   ac (bc (PW.pt (io (aG j7 (pv 1) (aE az (am (pv 0) rfl) ag (fun _ _=>rfl)) (aN _)) (gU (aG mY (pv 1) (aw Ml T.cl hr (pv 0)) (aN _))))) (ai (av cj)) aF) <|
   ai <| av <| aE az (aQ Me T.cl hr (pv 0) (ab (pv 1) ad)) ag (fun _ _=>rfl),?_⟩
  dsimp only[aW,Cx.nox];refine ae fun K_ hK_=>?_;refine⟨_,rfl,_,rfl,ex5 r C dx _ _ ⟨rfl,h1,T.cl,T.nS,dX _ _,st,_,_,_,rfl,rfl,SqT.of h2,at0,rfl,_,rfl,?_⟩⟩;by_cases hp:p=pl
  ·have e:eT pl tm tms p=.int tm:=by unfold eT;rw[if_pos hp]
   rw[e]at q;refine dl (fun _=>?_) (fun z=>absurd (decide_eq_true (by rw[hp])) z)
   exact⟨_,rfl,ex5 r C dx _ _ ⟨rfl,h1,T.cl,T.nS,dX _ _,st,_,_,_,rfl,rfl,SqT.of h2,at1,q⟩⟩
  ·refine dl (fun z=>absurd (of_decide_eq_true z) (by intro y;cases y;exact hp rfl)) (fun _=>?_)
   refine hK_ _ _ (ae fun K_ hK_=>?_);refine⟨_,rfl,_,rfl,ex5 r C dx _ _ ⟨rfl,h1,T.cl,T.nS,dX _ _,st,_,_,_,rfl,rfl,SqT.of h2,at0,_,_,rfl,rfl,_,rfl,?_⟩⟩;refine dl (fun z=>cm ?_) (fun z1=>?_)
   ·have z:=of_decide_eq_true z;rw[kI pl tm tms (.inl z)]at q;exact q
   ·have z1:¬p < pl:=fun y=>z1 (decide_eq_true y);refine⟨_,rfl,_,rfl,ex3 r dx _ ⟨rfl,h1,rfl,ex8 r st en pl tm sv es tms ⟨rfl,hR,_,_,rfl,rfl,_,rfl,?_⟩⟩⟩;refine dl (fun z=>?_) (fun z2=>?_)
    ·have z:=of_decide_eq_true z;rw[kI pl tm tms (.inr z)]at q;exact q
    ·have z2:¬pl + (tms.length:Int) < p:=fun y=>z2 (decide_eq_true y);obtain⟨k,hk⟩:∃k:Nat,p=pl + 1 + k:=⟨(p - pl - 1).toNat,by lia⟩
     subst hk;have hk:k < tms.length:=by lia
     have hke:k < es.length:=by lia
     obtain⟨d,hd⟩:=h5 k es[k] tms[k] (getElem?_eq_getElem hke) (getElem?_eq_getElem hk);refine hK_ _ _ ?_;refine⟨_,rfl,ex3 r dx _ ⟨rfl,h1,rfl,_,rfl,r,st,en,pl,tm,sv,es,tms,k,es[k],rfl,hR,getElem?_eq_getElem hke,es[k],_,_,_,rfl,rfl,SqT.of hd,at0,?_⟩⟩
     have e:=jz pl tm tms (k:=k + 1) (by lia)
     rw[show pl + ((k + 1:Nat):Int)=pl + 1 + (k:Int) by lia]at e
     rw[e]at q;have e2:(tm :: tms).getD (k + 1) 0=tms[k]:=by
      rw[List.getD_cons_succ,getD_eq_getElem?_getD,getElem?_eq_getElem hk];rfl
     rw[e2]at q;exact q
end
end K45B
namespace K45
open PySem L2
open K45T (Kvs Las Wk aS dr cF de fW bM cK)
abbrev pF:Stmt:=aC (top 57) 2
abbrev pG:Stmt:=aC (top 57) 3
abbrev vC:Stmt:=aC (top 57) 4
abbrev pH:Stmt:=aC (top 57) 5
abbrev vD:Stmt:=aC (top 62) 1
abbrev lI:Stmt:=aC (top 62) 3
abbrev jB:Stmt:=aC (top 62) 4
abbrev pI:Stmt:=aC (top 62) 5
abbrev vE:Stmt:=aC (top 62) 6
abbrev pJ:Stmt:=aC (top 62) 7
abbrev lJ:Stmt:=aC (top 62) 8
abbrev vF:Stmt:=aC (top 72) 15
abbrev vG:Stmt:=aC (top 72) 21
def lK(CW:Addr):Sp:=fun us H Q _=>∃(o dx kr:Addr)(t s t2:Int)(v:V),us=[.ref o,.int t2]/\H o=some (.ins CW dx (flW t v s kr))/\∀H',BtO o H H'->H' o=some (.ins CW dx (flW t2 .non s kr))->Q .non H'
def lL(CW:Addr):Sp:=fun us H Q _=>∃(o dx kr:Addr)(t s:Int)(v v2:V),us=[.ref o,v2]/\H o=some (.ins CW dx (flW t v s kr))/\∀H',BtO o H H'->H' o=some (.ins CW dx (flW t v2 s kr))->Q .non H'
def pK(CW:Addr):Sp:=fun us H Q _=>∃(o dx kr:Addr)(t s s2:Int)(v:V),us=[.ref o,.int s2]/\H o=some (.ins CW dx (flW t v s kr))/\∀H',BtO o H H'->H' o=some (.ins CW dx (flW t v s2 kr))->Q .non H'
def lM(CW:Addr):Sp:=fun us H Q _=>∃(o dx kr kr2:Addr)(t s:Int)(v:V),us=[.ref o,.ref kr2]/\H o=some (.ins CW dx (flW t v s kr))/\∀H',BtO o H H'->H' o=some (.ins CW dx (flW t v s kr2))->Q .non H'
def cx(K:Frag)(c:Cs):Sp:=fun us H Q _=>∃g:Gs,us=[.ref g.m]/\aK K c H g/\Q (.ref g.kr) H
def jC (K:Frag) (c:Cs):Sp:=fun us H Q _=>∃g:Gs,us=[.ref g.m]/\aK K c H g/\Q (.bl (decide (g.ro="chair"))) H
def fO (K:Frag) (c:Cs):Sp:=fun us H Q _=>∃(g:Gs)(x:V),us=[.ref g.m,x]/\aK K c H g/\∀H',aK K c H' { g with kn:=x,ro:="plain",se:=.non }->BtO g.m H H'->Q .non H'
def lN (K:Frag) (c:Cs):Sp:=fun us H Q _=>∃(g:Gs)(t:Int),us=[.ref g.m,.int t]/\aK K c H g/\∀H',aK K c H' { g with t:=t,v:=.non,kn:=.non,ro:="plain",se:=.non }->Fr g H H'->Q .non H'
def lO(K:Frag)(c:Cs):Sp:=fun us H Q _=>∃(g:Gs)(x:V),us=[.ref g.m,x]/\aK K c H g/\g.rs.length <= 900/\∀H',aK K c H' { g with rs:=g.rs ++ [x] }->BtO g.rl H H'->Q .non H'
def d9 (H:Hp) (a:Addr) (t:Int) (nm:Str) (p l:V):Prop:=H a=some (.tup [.str "vote",.int t,.str nm,p,l])
def lP(K:Frag)(c:Cs):Sp:=fun us H Q _=>∃(g:Gs)(nm:Str)(p l:V),us=[.ref g.m,.str nm,p,l]/\aK K c H g/\g.v=.non/\g.rs.length <= 900/\∀(a:Addr)(H':Hp),aK K c H' { g with v:=.str nm,rs:=g.rs ++ [.ref a] }->Fr g H H'->d9 H' a g.t nm p l->Q .non H'
section
variable{K:Frag}{c:Cs}{H H':Hp}{g:Gs}
theorem aK.setM{dx:Addr}{kn se:V}{qu:Int}{ro:Str}(h:aK K c H g)(e:BtO g.m H H')(hm:H' g.m=some (.ins c.M dx ({ g with kn:=kn,qu:=qu,ro:=ro,se:=se }:Gs).flm)):aK K c H' { g with kn:=kn,qu:=qu,ro:=ro,se:=se }:=by
 obtain⟨dy,h1⟩:=h.ob;have N:=h.ne;have k:=TkZ.ins e h1;have L:=h.ls.ins e h1;exact⟨⟨dx,hm⟩,h.wg.keep (fun u q=>e _ _ N.wm q) (fun u q=>e _ _ N.km q) k,aS.keepT (fun u q=>e _ _ N.bm q) (fun u q=>e _ _ N.dm q) (fun u q=>e _ _ N.lm q) k h.tb,⟨L.y,L.r,L.g',L.f,L.s,L.nd⟩,h.bo.tk k.t⟩
theorem aK.setW{dx:Addr}{t:Int}{v:V}(h:aK K c H g)(e:BtO g.wr H H')(hw:H' g.wr=some (.ins c.W dx (flW t v g.s g.kr))):aK K c H' { g with t:=t,v:=v }:=by
 obtain⟨dy,h1⟩:=h.ob;obtain⟨⟨dw,h4⟩,dk,h5⟩:=id h.wg.wo;have N:=h.ne;have k:=TkZ.ins e h4;have L:=h.ls.ins e h4;exact⟨⟨dy,e _ _ N.wm.symm h1⟩,⟨⟨⟨dx,hw⟩,dk,e _ _ N.kw h5⟩,h.wg.so.tkz k,k.t _ _ h.wg.ho,cg k.t h.wg.eo,h.wg.el,h.wg.ps,h.wg.ok,h.wg.kl,h.wg.ll⟩,aS.keepT (fun u q=>e _ _ N.bw q) (fun u q=>e _ _ N.dw q) (fun u q=>e _ _ N.lw q) k h.tb,⟨L.y,L.r,L.g',L.f,L.s,L.nd⟩,h.bo.tk k.t⟩
theorem aK.beside{x:Addr}{ws:List V}(h:aK K c H g)(hx:H x=some (.lst ws))(e:BtO x H H'):(∃dx,H' g.m=some (.ins c.M dx g.flm))/\WrG K c.W c.R H' g.wr g.t g.v g.s g.kr g.st g.en g.pl g.tm g.b g.hk g.hq g.es g.xs/\aS K c.T H' g.bd g.d g.l g.tab.1 g.tab.2/\BnO H' g.b g.B0:=by
 obtain⟨dy,h1⟩:=h.ob;obtain⟨⟨dw,h4⟩,dk,h5⟩:=id h.wg.wo;have k:=TkZ.lst e hx;have T:=aS.neL h.tb hx;exact⟨⟨dy,e _ _ (ax h1 hx (by intro z;cases z)) h1⟩,h.wg.keep (fun u q=>e _ _ (ax h4 hx (by intro z;cases z)) q) (fun u q=>e _ _ (ax h5 hx (by intro z;cases z)) q) k,aS.keepT (fun u q=>e _ _ T.1 q) (fun u q=>e _ _ T.2.1 q) (fun u q=>e _ _ T.2.2 q) k h.tb,h.bo.tk k.t⟩
theorem aK.lne(h:aK K c H g):(g.yl ≠ g.rl/\g.yl ≠ g.gl/\g.yl ≠ g.fl/\g.yl ≠ g.sl)/\(g.rl ≠ g.gl/\g.rl ≠ g.fl/\g.rl ≠ g.sl)/\(g.gl ≠ g.fl/\g.gl ≠ g.sl)/\g.fl ≠ g.sl:=by
 have:=h.ls.nd;simp only[List.nodup_cons,List.mem_cons,not_mem_nil,or_false,not_or,List.nodup_nil,and_true,not_false_eq_true]at this;exact this
theorem aK.setR{rs:List V}(h:aK K c H g)(e:BtO g.rl H H')(hr:H' g.rl=some (.lst rs)):aK K c H' { g with rs:=rs }:=by
 obtain⟨a,b,d,f⟩:=h.beside h.ls.r e;obtain⟨n1,n2,n3,n4⟩:=h.lne;exact⟨a,b,d,⟨e _ _ n1.1 h.ls.y,hr,e _ _ n2.1.symm h.ls.g',e _ _ n2.2.1.symm h.ls.f,e _ _ n2.2.2.symm h.ls.s,h.ls.nd⟩,f⟩
theorem aK.setS{ss:List V}(h:aK K c H g)(e:BtO g.sl H H')(hr:H' g.sl=some (.lst ss)):aK K c H' { g with ss:=ss }:=by
 obtain⟨a,b,d,f⟩:=h.beside h.ls.s e;obtain⟨n1,n2,n3,n4⟩:=h.lne;exact⟨a,b,d,⟨e _ _ n1.2.2.2 h.ls.y,e _ _ n2.2.2 h.ls.r,e _ _ n3.2 h.ls.g',e _ _ n4 h.ls.f,hr,h.ls.nd⟩,f⟩
theorem aK.setG{gs:List V}(h:aK K c H g)(e:BtO g.gl H H')(hr:H' g.gl=some (.lst gs)):aK K c H' { g with gs:=gs }:=by
 obtain⟨a,b,d,f⟩:=h.beside h.ls.g' e;obtain⟨n1,n2,n3,n4⟩:=h.lne;exact⟨a,b,d,⟨e _ _ n1.2.1 h.ls.y,e _ _ n2.1 h.ls.r,hr,e _ _ n3.1.symm h.ls.f,e _ _ n3.2.symm h.ls.s,h.ls.nd⟩,f⟩
theorem aK.setY{dx yl2:Addr}{ys:List Str}(h:aK K c H g)(e:BtO g.m H H')(hm:H' g.m=some (.ins c.M dx ({ g with yl:=yl2,ys:=ys }:Gs).flm))(hy:H yl2=some (.lst (ys.map V.str)))(nd:[yl2,g.rl,g.gl,g.fl,g.sl].Nodup):aK K c H' { g with yl:=yl2,ys:=ys }:=by
 obtain⟨dy,h1⟩:=h.ob;have N:=h.ne;have k:=TkZ.ins e h1;have L:=h.ls.ins e h1;exact⟨⟨dx,hm⟩,h.wg.keep (fun u q=>e _ _ N.wm q) (fun u q=>e _ _ N.km q) k,aS.keepT (fun u q=>e _ _ N.bm q) (fun u q=>e _ _ N.dm q) (fun u q=>e _ _ N.lm q) k h.tb,⟨e _ _ (ax hy h1 (by intro z;cases z)) hy,L.r,L.g',L.f,L.s,nd⟩,h.bo.tk k.t⟩
theorem jD:g.m ∈ g.own:=by simp
theorem pL:g.wr ∈ g.own:=by simp
theorem vH:g.rl ∈ g.own:=by simp
theorem own_gl:g.gl ∈ g.own:=by simp
theorem vI:g.sl ∈ g.own:=by simp
end
section
variable{P:Program}{w:World}{K:Frag}{mg:Str->Option Value}{base:Heap}{CH CM CT CW CR:Addr}
theorem scWRise:ao ["self","term"] ["self","term"] (ah pF):=fsc (by decide +kernel)
theorem vJ {f:Addr} {fd:FuncData} (F:Fun K "rise_to" "Written.rise_to" pF f fd) (T:ClW K mg CW):aI P w K mg base CX0 1 f fd ["self","term"] (lK CW):=by
 refine F.ok scWRise (fun vs H Q E h=>?_) (fun cdv A outer s H vs Q E hr h=>?_)
 ·obtain⟨o,dx,kr,t,s,t2,v,rfl,_⟩:=h;rfl
 ·obtain⟨o,dx,kr,t,s,t2,v,rfl,hO,q⟩:=h;refine⟨_,ac (aM (pv 0) (pv 1) rfl) <| ai (aM (pv 0) cj rfl),?_⟩;dsimp only[aW,Cx.nox];refine⟨_,rfl,_,rfl,ex4 o CW dx _ ⟨rfl,hO,T.cl,T.nT,(by rw[gN];decide),?_⟩⟩
  rw[flW_pt];refine⟨_,rfl,ex4 o CW dx _ ⟨rfl,af,T.cl,T.nV,(by rw[gN];decide),?_⟩⟩
  rw[vj];exact q _ (BtO.upd.trans BtO.upd) af
theorem scWVote:ao ["self","name"] ["self","name"] (ah pG):=fsc (by decide +kernel)
theorem vK {f:Addr} {fd:FuncData} (F:Fun K "vote_for" "Written.vote_for" pG f fd) (T:ClW K mg CW):aI P w K mg base CX0 1 f fd ["self","name"] (lL CW):=by
 refine F.ok scWVote (fun vs H Q E h=>?_) (fun cdv A outer s H vs Q E hr h=>?_)
 ·obtain⟨o,dx,kr,t,s,v,v2,rfl,_⟩:=h;rfl
 ·obtain⟨o,dx,kr,t,s,v,v2,rfl,hO,q⟩:=h;refine⟨_,ai (aM (pv 0) (pv 1) rfl),?_⟩;dsimp only[aW,Cx.nox];refine⟨_,rfl,_,rfl,ex4 o CW dx _ ⟨rfl,hO,T.cl,T.nV,(by rw[gN];decide),?_⟩⟩
  rw[vj];exact q _ BtO.upd af
theorem scWSet:ao ["self","place"] ["self","place"] (ah vC):=fsc (by decide +kernel)
theorem ok_wset {f:Addr} {fd:FuncData} (F:Fun K "settle_to" "Written.settle_to" vC f fd) (T:ClW K mg CW):aI P w K mg base CX0 1 f fd ["self","place"] (pK CW):=by
 refine F.ok scWSet (fun vs H Q E h=>?_) (fun cdv A outer s H vs Q E hr h=>?_)
 ·obtain⟨o,dx,kr,t,s,t2,v,rfl,_⟩:=h;rfl
 ·obtain⟨o,dx,kr,t,s,t2,v,rfl,hO,q⟩:=h;refine⟨_,ai (aM (pv 0) (pv 1) rfl),?_⟩;dsimp only[aW,Cx.nox];refine⟨_,rfl,_,rfl,ex4 o CW dx _ ⟨rfl,hO,T.cl,T.nS,(by rw[gN];decide),?_⟩⟩
  rw[flW_ps];exact q _ BtO.upd af
theorem scWKeep:ao ["self","row"] ["self","row"] (ah pH):=fsc (by decide +kernel)
theorem vL {f:Addr} {fd:FuncData} (F:Fun K "keep_row" "Written.keep_row" pH f fd) (T:ClW K mg CW):aI P w K mg base CX0 1 f fd ["self","row"] (lM CW):=by
 refine F.ok scWKeep (fun vs H Q E h=>?_) (fun cdv A outer s H vs Q E hr h=>?_)
 ·obtain⟨o,dx,kr,kr2,t,s,v,rfl,_⟩:=h;rfl
 ·obtain⟨o,dx,kr,kr2,t,s,v,rfl,hO,q⟩:=h;refine⟨_,ai (aM (pv 0) (pv 1) rfl),?_⟩;dsimp only[aW,Cx.nox];refine⟨_,rfl,_,rfl,ex4 o CW dx _ ⟨rfl,hO,T.cl,T.nK,(by rw[gN];decide),?_⟩⟩
  rw[flW_pk];exact q _ BtO.upd af
theorem scMRow:ao ["self"] ["self"] (ah vD):=fsc (by decide +kernel)
theorem ok_mrow {f:Addr} {fd:FuncData} (F:Fun K "row" "Mind.row" vD f fd) (TM:ClM K mg CM) (TW:ClW K mg CW):aI P w K mg base CX0 1 f fd ["self"] (cx K ⟨CH,CM,CT,CW,CR⟩):=by
 refine F.ok scMRow (fun vs H Q E h=>?_) (fun cdv A outer s H vs Q E hr h=>?_)
 ·obtain⟨g,rfl,_⟩:=h;rfl
 ·obtain⟨g,rfl,G,q⟩:=h;refine⟨_,ai <| av <| am (am (pv 0) rfl) rfl,?_⟩;dsimp only[aW,Cx.nox];obtain⟨dy,h2⟩:=G.ob;obtain⟨⟨dz,h3⟩,_⟩:=id G.wg.wo;exact⟨_,rfl,g.m,CM,dy,_,_,rfl,h2,TM.cl,TM.n3,cQ,g.wr,CW,dz,_,_,rfl,h3,TW.cl,TW.nK,flW_k,q⟩
theorem pM(x y:Str):decide (V.str x=V.str y)=decide (x=y):=by
 rw[Bool.eq_iff_iff,decide_eq_true_iff,decide_eq_true_iff,V.str.injEq]
theorem vM:ao ["self"] ["self"] (ah lI):=fsc (by decide +kernel)
theorem sU {f:Addr} {fd:FuncData} (F:Fun K "is_chair" "Mind.is_chair" lI f fd) (TM:ClM K mg CM):aI P w K mg base CX0 1 f fd ["self"] (jC K ⟨CH,CM,CT,CW,CR⟩):=by
 refine F.ok vM (fun vs H Q E h=>?_) (fun cdv A outer s H vs Q E hr h=>?_)
 ·obtain⟨g,rfl,_⟩:=h;rfl
 ·obtain⟨g,rfl,G,q⟩:=h;refine⟨_,ai <| av <| cB cw (am (pv 0) rfl) aq (aN _),?_⟩;dsimp only[aW,Cx.nox];obtain⟨dy,h2⟩:=G.ob;refine⟨_,rfl,g.m,CM,dy,_,_,rfl,h2,TM.cl,TM.n6,flG_r,rfl,?_⟩;rw[pM];exact q
theorem sV:ao ["self","chair"] ["self","chair"] (ah jB):=fsc (by decide +kernel)
theorem pN {f:Addr} {fd:FuncData} (F:Fun K "follow" "Mind.follow" jB f fd) (TM:ClM K mg CM):aI P w K mg base CX0 1 f fd ["self","chair"] (fO K ⟨CH,CM,CT,CW,CR⟩):=by
 refine F.ok sV (fun vs H Q E h=>?_) (fun cdv A outer s H vs Q E hr h=>?_)
 ·obtain⟨g,x,rfl,_⟩:=h;rfl
 ·obtain⟨g,x,rfl,G,q⟩:=h;refine⟨_,ac (aM (pv 0) aq rfl) <| ac (aM (pv 0) (pv 1) rfl) <| ai (aM (pv 0) cj rfl),?_⟩;dsimp only[aW,Cx.nox];obtain⟨dy,h2⟩:=G.ob;refine⟨_,rfl,g.m,CM,dy,_,rfl,h2,TM.cl,TM.n6,(by rw[c4];decide),?_⟩
  rw[pB];refine⟨_,rfl,_,rfl,g.m,CM,dy,_,rfl,af,TM.cl,TM.n7,(by rw[c4];decide),?_⟩
  rw[vh];refine⟨_,rfl,g.m,CM,dy,_,rfl,af,TM.cl,TM.n11,(by rw[c4];decide),?_⟩
  rw[qX];have b3:=(BtO.upd (o:=g.m) (H:=H) (u:=.ins CM dy (flG g.nm g.wa g.sz g.wr g.rl g.bd (.str (Str.ofString "plain")) g.kn g.qu g.yl g.sd g.se g.gl g.fl g.sl))).trans ((BtO.upd (u:=.ins CM dy (flG g.nm g.wa g.sz g.wr g.rl g.bd (.str (Str.ofString "plain")) x g.qu g.yl g.sd g.se g.gl g.fl g.sl))).trans (BtO.upd (u:=.ins CM dy (flG g.nm g.wa g.sz g.wr g.rl g.bd (.str (Str.ofString "plain")) x g.qu g.yl g.sd .non g.gl g.fl g.sl))));exact q _ (G.setM (dx:=dy) (kn:=x) (qu:=g.qu) (ro:="plain") (se:=.non) b3 af) b3
theorem scMRise:ao ["self","term"] ["self","term"] (ah pI):=fsc (by decide +kernel)
theorem vN {f:Addr} {fd:FuncData} (F:Fun K "rise_to" "Mind.rise_to" pI f fd) (TM:ClM K mg CM) (TW:ClW K mg CW) (Mr:aD P w K mg base CW 1 "rise_to" ["self","term"] (lK CW)) (Mf:aD P w K mg base CM 1 "follow" ["self","chair"] (fO K ⟨CH,CM,CT,CW,CR⟩)):aI P w K mg base CX0 2 f fd ["self","term"] (lN K ⟨CH,CM,CT,CW,CR⟩):=by
 refine F.ok scMRise (fun vs H Q E h=>?_) (fun cdv A outer s H vs Q E hr h=>?_)
 ·obtain⟨g,t,rfl,_⟩:=h;rfl
 ·obtain⟨g,t,rfl,G,q⟩:=h;refine⟨_,ac (aZ (aQ Mr TW.cl hr (am (pv 0) rfl) (ab (pv 1) ad))) <| ai (aZ (aQ Mf TM.cl hr (pv 0) (ab cj ad))),?_⟩;dsimp only[aW,Cx.nox];obtain⟨dy,h2⟩:=G.ob;obtain⟨⟨dz,h3⟩,_⟩:=id G.wg.wo;refine⟨_,rfl,g.m,CM,dy,_,_,rfl,h2,TM.cl,TM.n3,cQ,g.wr,dz,_,rfl,h3,jx,_,rfl,g.wr,dz,g.kr,g.t,g.s,t,g.v,rfl,h3,fun H1 b1 e1=>?_⟩;have G1:aK K ⟨CH,CM,CT,CW,CR⟩ H1 { g with t:=t,v:=.non }:=G.setW b1 e1;obtain⟨dy1,h21⟩:=G1.ob;refine⟨_,rfl,g.m,dy1,_,rfl,h21,f9,{ g with t:=t,v:=.non },.non,rfl,G1,fun H2 G2 b2=>?_⟩;exact q H2 G2 ((Fr.bt b1 pL).trans (Fr.bt b2 jD))
theorem scMRec:ao ["self","thing"] ["self","thing"] (ah vE):=fsc (by decide +kernel)
theorem ok_mrec {f:Addr} {fd:FuncData} (F:Fun K "record" "Mind.record" vE f fd) (TM:ClM K mg CM):aI P w K mg base CX0 1 f fd ["self","thing"] (lO K ⟨CH,CM,CT,CW,CR⟩):=by
 refine F.ok scMRec (fun vs H Q E h=>?_) (fun cdv A outer s H vs Q E hr h=>?_)
 ·obtain⟨g,x,rfl,_⟩:=h;rfl
 ·obtain⟨g,x,rfl,G,hn,q⟩:=h;refine⟨_,ai (aZ (fZ PySem.F.plainAttrs_list PySem.F.slot_list_append PySem.F.type_list_append dN (am (pv 0) rfl) (ab (pv 1) ad))),?_⟩;dsimp only[aW,Cx.nox];obtain⟨dy,h2⟩:=G.ob;have h3:=G.ls.r;refine⟨_,rfl,g.m,CM,dy,_,_,rfl,h2,TM.cl,TM.n4,vd,.inl ⟨rfl,_,SqL.of h3⟩,_,rfl,g.rl,g.rs,x,rfl,rfl,h3,by lia,fun H1 k1 e1=>?_⟩
  have b1:BtO g.rl H H1:=fun b u n e=>k1 b u n e;exact q H1 (G.setR b1 e1) b1
theorem scMVote:ao ["self","name","place","last"] ["self","name","place","last"] (ah pJ):=fsc (by decide +kernel)
theorem vO {f:Addr} {fd:FuncData} (F:Fun K "vote_for" "Mind.vote_for" pJ f fd) (TM:ClM K mg CM) (TW:ClW K mg CW) (Mv:aD P w K mg base CW 1 "vote_for" ["self","name"] (lL CW)) (Mr:aD P w K mg base CM 1 "record" ["self","thing"] (lO K ⟨CH,CM,CT,CW,CR⟩)):aI P w K mg base CX0 2 f fd ["self","name","place","last"] (lP K ⟨CH,CM,CT,CW,CR⟩):=by
 refine F.ok scMVote (fun vs H Q E h=>?_) (fun cdv A outer s H vs Q E hr h=>?_)
 ·obtain⟨g,nm,p,l,rfl,_⟩:=h;rfl
 ·obtain⟨g,nm,p,l,rfl,G,hv,hn,q⟩:=h;have hs16:sizeLine=16777216:=sizeLine_eq;refine⟨_,ai (bc (aG tX (am (am (pv 0) rfl) rfl) cj (aN _)) (ac (aZ (aQ Mv TW.cl hr (am (pv 0) rfl) (ab (pv 1) ad))) <| ai (aZ (aQ Mr TM.cl hr (pv 0) (ab (aH (ab aq (ab (am (am (pv 0) rfl) rfl) (ab (pv 1) (ab (pv 2) (ab (pv 3) ad)))))) ad)))) aF),?_⟩;dsimp only[aW,Cx.nox];obtain⟨dy,h2⟩:=G.ob;obtain⟨⟨dz,h3⟩,_⟩:=id G.wg.wo;refine⟨_,rfl,g.m,CM,dy,_,_,rfl,h2,TM.cl,TM.n3,cQ,g.wr,CW,dz,_,_,rfl,h3,TW.cl,TW.nV,flW_v,rfl,_,rfl,?_⟩;rw[decide_eq_true hv];refine cm ?_;refine⟨_,rfl,g.m,CM,dy,_,_,rfl,h2,TM.cl,TM.n3,cQ,g.wr,dz,_,rfl,h3,iG,_,rfl,g.wr,dz,g.kr,g.t,g.s,g.v,.str nm,rfl,h3,fun H1 b1 e1=>?_⟩;have G1:aK K ⟨CH,CM,CT,CW,CR⟩ H1 { g with v:=.str nm }:=G.setW b1 e1;obtain⟨dy1,h21⟩:=G1.ob;refine⟨_,rfl,g.m,dy1,_,rfl,h21,ga,_,rfl,g.m,CM,dy1,_,_,rfl,h21,TM.cl,TM.n3,cQ,g.wr,CW,dz,_,_,rfl,e1,TW.cl,TW.nT,dI,_,rfl,_,rfl,_,rfl,(show 5 <= sizeLine by lia),fun a H2 na s2 e2=>?_⟩
  refine⟨{ g with v:=.str nm },.ref a,rfl,G1.same s2,hn,fun H3 G3 b3=>?_⟩;refine q a H3 G3 ((Fr.bt b1 pL).trans ((Fr.of s2).trans (Fr.bt b3 vH))) ?_;exact b3 _ _ (ax e2 (G1.same s2).ls.r (by intro z;cases z)) e2
theorem scHSet:ao ["self"] ["self"] (ah vF):=fsc (by decide +kernel)
def pO(K:Frag)(c:Cs):Sp:=vn K c fun H g Q=>Q (.int g.s) H
theorem ok_hset {f:Addr} {fd:FuncData} (F:Fun K "settled" "House.settled" vF f fd) (T:ClH K mg CH) (TM:ClM K mg CM) (Ms:aD P w K mg base CM 1 "settled" ["self"] (eL K ⟨CH,CM,CT,CW,CR⟩)):aI P w K mg base CX0 2 f fd ["self"] (pO K ⟨CH,CM,CT,CW,CR⟩):=by
 refine F.ok scHSet (fun vs H Q E h=>?_) (fun cdv A outer s H vs Q E hr h=>?_)
 ·obtain⟨H0,g,rfl,_⟩:=h;rfl
 ·obtain⟨H0,g,rfl,G,q⟩:=h;refine⟨_,ai <| av <| aw Ms TM.cl hr (am (pv 0) rfl),?_⟩;dsimp only[aW,Cx.nox];obtain⟨dx,h1⟩:=G.hb;obtain⟨dy,h2⟩:=G.mo.ob;exact⟨_,rfl,g.ho,CH,dx,_,_,rfl,h1,T.cl,T.n3,jv,g.m,dy,_,rfl,h2,bR,g,rfl,G.mo,q⟩
end
end K45
namespace L2.SI
open PySem PySem.Spec PyProof.Rows L2.ST
def num:Value->Int
 | .int x _=>x
 | _=>0
abbrev Up(xs:Array Nat):Prop:=xs.toList.Pairwise (· < ·)
theorem Up.lt{xs:Array Nat}(h:Up xs){i k u v:Nat}(hi:xs[i]?=some u)(hk:xs[k]?=some v)(l:i < k):u < v:=by
 rw[<- Array.getElem?_toList]at hi hk;obtain⟨h1,rfl⟩:=List.getElem?_eq_some_iff.mp hi;obtain⟨h2,rfl⟩:=List.getElem?_eq_some_iff.mp hk;exact List.pairwise_iff_getElem.mp h i k h1 h2 l
def Parts(xs:Array Nat)(j r:Nat):Prop:=r <= xs.size/\(∀k v,k < r->xs[k]?=some v->v < j)/\∀k v,r <= k->xs[k]?=some v->j <= v
theorem jE{xs:Array Nat}{j:Nat}(hu:Up xs):∀fuel lo hi,hi - lo <= fuel->lo <= hi->hi <= xs.size->(∀k v,k < lo->xs[k]?=some v->v < j)->(∀k v,hi <= k->xs[k]?=some v->j <= v)->Parts xs j (SetTable.below.go xs j fuel lo hi)
 | 0,lo,hi,h1,h2,h3,h4,h5=>by
  have e:lo=hi:=by omega
  unfold SetTable.below.go;exact⟨by omega,h4,by rw[e];exact h5⟩
 | fuel + 1,lo,hi,h1,h2,h3,h4,h5=>by
  unfold SetTable.below.go;by_cases hl:lo < hi
  ·rw[if_pos hl];dsimp only;have hm:(lo + hi) / 2 < xs.size:=by omega
   have e:xs.getD ((lo + hi) / 2) j=xs[(lo + hi) / 2]:=by simp[Array.getD,hm]
   have e2:xs[(lo + hi) / 2]?=some xs[(lo + hi) / 2]:=Array.getElem?_eq_getElem hm;rw[e];split
   ·rename_i hlt;refine jE hu fuel _ _ (by omega) (by omega) h3 (fun k v hk hv=>?_) h5
    by_cases hk2:k < (lo + hi) / 2
    ·have:=hu.lt hv e2 hk2;omega
    ·have:k=(lo + hi) / 2:=by omega
     subst this;rw[e2]at hv;cases hv;exact hlt
   ·rename_i hge;refine jE hu fuel _ _ (by omega) (by omega) (by omega) h4 (fun k v hk hv=>?_)
    by_cases hk2:(lo + hi) / 2 < k
    ·have:=hu.lt e2 hv hk2;omega
    ·have:k=(lo + hi) / 2:=by omega
     subst this;rw[e2]at hv;cases hv;omega
  ·rw[if_neg hl];have e:lo=hi:=by omega
   exact⟨by omega,h4,by rw[e];exact h5⟩
theorem fz{xs:Array Nat}(hu:Up xs)(j:Nat):Parts xs j (SetTable.below xs j):=jE hu _ _ _ (by omega) (Nat.zero_le _) (Nat.le_refl _) (fun k v hk=>by omega) (fun k v hk hv=>by
 have:=(Array.getElem?_eq_some_iff.mp hv).1;omega)
theorem pP{xs:Array Nat}(hu:Up xs):SetTable.below xs 0=0:=by
 obtain⟨h1,h2,h3⟩:=fz hu 0;by_cases h:SetTable.below xs 0=0
 ·exact h
 ·have:=h2 0 xs[0] (by omega) (Array.getElem?_eq_getElem (by omega))
  omega
theorem gn{xs:Array Nat}(hu:Up xs){i p:Nat}(hp:xs[i]?=some p):SetTable.below xs (p + 1)=i + 1:=by
 obtain⟨h1,h2,h3⟩:=fz hu (p + 1);have hi:=(Array.getElem?_eq_some_iff.mp hp).1;generalize SetTable.below xs (p + 1)=r at h1 h2 h3;by_cases a:r <= i
 ·have:=h3 i p a hp;omega
 ·by_cases b:i + 1 < r
  ·have e:=Array.getElem?_eq_getElem (xs:=xs) (i:=i + 1) (by omega)
   have q1:=h2 _ _ b e;have q2:=hu.lt hp e (Nat.lt_succ_self _);omega
  ·omega
theorem oi{α:Type}(xs:Array α)(p:Nat)(x:α):(SetTable.insertAt xs p x).toList=xs.toList.take p ++ x :: xs.toList.drop p:=by
 unfold SetTable.insertAt;rw[Array.toList_append,Array.toList_push,Array.toList_extract,Array.toList_extract,List.append_assoc];simp[List.extract_eq_drop_take]
 exact take_of_length_le (by rw[length_drop,Array.length_toList];omega)
theorem sX{xs:Array Nat}(hu:Up xs){j:Nat}(hn:xs[SetTable.below xs j]? ≠ some j):Up (SetTable.insertAt xs (SetTable.below xs j) j):=by
 obtain⟨h1,h2,h3⟩:=fz hu j;show ((SetTable.insertAt xs (SetTable.below xs j) j).toList).Pairwise _;rw[oi];generalize SetTable.below xs j=r at h1 h2 h3 hn;have a1:∀v ∈ xs.toList.take r,v < j:=fun v hv=>by
  obtain⟨k,hk⟩:=List.mem_iff_getElem?.mp hv;rw[List.getElem?_take]at hk;split at hk
  ·exact h2 k v (by assumption) (by rw[<- Array.getElem?_toList];exact hk)
  ·cases hk
 have a2:∀v ∈ xs.toList.drop r,j < v:=fun v hv=>by
  obtain⟨k,hk⟩:=List.mem_iff_getElem?.mp hv;rw[List.getElem?_drop,Array.getElem?_toList]at hk;have:=h3 (r + k) v (by omega) hk
  cases hr:xs[r]? with
  | none =>
   have:=(Array.getElem?_eq_some_iff.mp hk).1;have:=Array.getElem?_eq_none_iff.mp hr;omega
  | some u =>
   have q:=h3 r u (Nat.le_refl _) hr;have ne:u ≠ j:=fun e=>hn (by rw[hr,e])
   by_cases hk0:k=0
   ·subst hk0;rw[Nat.add_zero,hr]at hk;cases hk;omega
   ·have:=hu.lt hr hk (by omega)
    omega
 rw[List.pairwise_append,List.pairwise_cons];exact⟨List.Pairwise.sublist (List.take_sublist _ _) hu,⟨a2,List.Pairwise.sublist (List.drop_sublist _ _) hu⟩,fun a ha b hb=>by
  rcases List.mem_cons.mp hb with rfl | hb
  ·exact a1 a ha
  ·exact Nat.lt_trans (a1 a ha) (a2 b hb)⟩
theorem oj{t:SetTable}{hashAt:Nat->Int}{h:Int}(hd:t.dummies=#[]):∀(fuel:Nat)(p:SetTable.Probe)(j:Nat)(d:Option Nat),p.dummy=none->SetTable.probe.go t hashAt h fuel p=some (.empty j d)->d=none/\t.place[SetTable.below t.place j]? ≠ some j
 | 0,p,j,d,h0,e=>by cases e
 | fuel + 1,p,j,d,h0,e=>by
  unfold SetTable.probe.go at e;have nd:∀j,SetTable.has t.dummies j=false:=fun j=>by rw[hd];unfold SetTable.has;simp
  have ha:(t.advance p).dummy=none:=by
   unfold SetTable.advance;split
   ·exact h0
   ·exact h0
  unfold SetTable.slot at e;dsimp only at e;by_cases hl:(t.place[SetTable.below t.place p.j]? == some p.j)=true
  ·rw[if_pos hl]at e;dsimp only at e;split at e
   ·cases e
   ·exact oj hd fuel _ j d ha e
  ·rw[if_neg hl,nd]at e;rw[if_neg (by decide)]at e
   dsimp only at e;cases e;exact⟨h0,fun z=>hl (by rw[z];simp)⟩
def Pln(t:SetTable):Prop:=t.plain=true->Up t.place/\t.dummies=#[]
theorem pQ(t:SetTable)(es:Array (Int × Value))(h:Int)(x:Value)(hp:Pln t):Pln (layNew t es h x).2.1:=by
 unfold layNew;split
 ·rename_i slot wasDummy hs;dsimp only;unfold SetTable.orStandIn;split
  ·intro z;have z:t.plain=true:=z;obtain⟨hu,hd⟩:=hp z;unfold SetTable.freeSlot at hs;cases hq:t.probe (fun _=>h + 1) h (t.probeStart h) with
   | none=>rw[hq]at hs;cases hs
   | some m =>
    rw[hq]at hs;cases m with
    | candidate j i nx=>cases hs
    | empty j d =>
     obtain⟨e1,e2⟩:=oj hd _ _ j d rfl hq;subst e1;cases hs;refine⟨sX hu e2,?_⟩;show (if SetTable.has t.dummies j then _ else t.dummies)=#[]
     rw[if_neg (by rw[hd];unfold SetTable.has;simp)]
     exact hd
  ·intro z;cases z
 ·intro z;cases z
theorem lQ(t:SetTable)(es:Array (Int × Value))(n:Nat):Pln (relayAll t es n).2.1:=by
 unfold relayAll;split
 ·rename_i t' order he;dsimp only;split
  ·intro _;unfold SetTable.relaid SetTable.laid at he;cases hc:SetTable.layClean (SetTable.sizeAbove n - 1) (es.map (·.1)) with
   | none=>rw[hc]at he;cases he
   | some ow =>
    rw[hc]at he;have he:=Option.some.inj he;cases he;refine⟨?_,rfl⟩;show (List.map (·.1) ((List.range (SetTable.sizeAbove n - 1 + 1)).filterMap fun j=>(ow.getD j none).map (j,·))).Pairwise (· < ·);have e:List.map (·.1) ((List.range (SetTable.sizeAbove n - 1 + 1)).filterMap fun j=>(ow.getD j none).map (j,·))=(List.range (SetTable.sizeAbove n - 1 + 1)).filter fun j=>(ow.getD j none).isSome:=by
     generalize List.range (SetTable.sizeAbove n - 1 + 1)=L;induction L with
     | nil=>rfl
     | cons a r ih =>
      cases ha:ow.getD a none with
      | none=>rw[List.filterMap_cons,ha,List.filter_cons,ha];simpa using ih
      | some v=>rw[List.filterMap_cons,ha,List.filter_cons,ha];simpa using ih
    rw[e];exact List.Pairwise.sublist List.filter_sublist List.pairwise_lt_range
  ·intro z;cases z
 ·intro z;cases z
def eU(prog:Program)(w:World)(h:Heap)(a:Addr)(ks:List Int):Prop:=∃(o:Obj) (es:Array (Int × Value)) (ep:Nat) (t:SetTable),h.get? a=some o/\o.ExactSet/\o.data=.set es ep t/\ElemsOf (PySem.intKind prog w) es.toList /\
 t.fits es.size=true/\Pln t/\t.led=!byT w/\(es.toList.map fun e=>num e.2).Perm ks/\ks.Nodup/\ks.length < 1000
theorem vP{prog:Program}{w:World}{x:Int}{v:Value}(h:(PySem.intKind prog w).is x v=true):num v=x:=by
 obtain⟨t,rfl⟩:=Value.isInt_shape h;rfl
theorem vQ{prog:Program}{w:World}{es:List (Int × Value)}(hel:ElemsOf (PySem.intKind prog w) es){e:Int × Value}(he:e ∈ es):(PySem.intKind prog w).is (num e.2) e.2=true:=by
 obtain⟨⟨k,hk,_⟩,_⟩:=hel e he;rw[vP hk];exact hk
section
variable{prog:Program}{w:World}{A:Around}{E:Value->Shared->Prop}{s:Shared}
theorem uA{g:Bool->Sem Unit}(hg:∀(b:Bool)(s₁:Shared)(Q':Unit->Shared->Prop),Q' () s₁->wpAny (model prog w) A (g b) Q' E s₁)
  {a:Addr}{o:Obj}{es es1:Array (Int × Value)}{ep:Nat}{t t2:SetTable}(ho:s.heap.get? a=some o)(hex:o.ExactSet)(hd:o.data=.set es ep t){ks:List Int}
  (hel1:ElemsOf (PySem.intKind prog w) es1.toList)(hf2:t2.fits es1.size=true)(hpl:Pln t2)(hled:t2.led=!byT w)(hperm:(es1.toList.map fun e=>num e.2).Perm ks)(hnd:ks.Nodup)(hks:ks.length < 1000){wasDummy:Bool}{R:Option Bool->Shared->Prop}
  (h:∀h',Heap.SameBut a s.heap h'->eU prog w h' a ks->R (some true) { s with heap:=h' }) :
  wpAny (model prog w) A (do
    storeSet a es1 t2
    if (!wasDummy && t2.tooFull)=true then do
      g (relayAll t2 es1 (SetTable.grown es1.size)).2.2
      storeSet a (relayAll t2 es1 (SetTable.grown es1.size)).1 (relayAll t2 es1 (SetTable.grown es1.size)).2.1
      pure (some true)
     else pure (some true)) R E s:=by
 have hsz1:es1.size=ks.length:=by rw[<- hperm.length_eq,length_map,Array.length_toList]
 have hb1:es1.size < scanBound:=by unfold scanBound;omega
 refine wpAny_bind (wpAny_storeSet_of ho hd ?_ (fits_of_scanBound hb1));obtain⟨ho1,_⟩:=SetOf_store (knd:=PySem.intKind prog w) (S':=fun k=>es1.toList.any fun e=>(PySem.intKind prog w).is k e.2) ho hex hd hel1 (fun k=>by rw[List.any_eq_true]) hb1 hf2
 have hsb1:=Heap.SameBut.update s.heap a (Obj.putSet es1 t2);split
 ·have hp:=relayAll_perm t2 es1 (SetTable.grown es1.size);have hfr:=relayAll_fits t2 es1 (SetTable.grown es1.size);have hkp:=f8 t2 es1 (SetTable.grown es1.size);have hpn:=lQ t2 es1 (SetTable.grown es1.size);generalize relayAll t2 es1 (SetTable.grown es1.size)=Rl at hp hfr hkp hpn ⊢;obtain⟨es2,t3,gave2⟩:=Rl;dsimp only at hp hfr hkp hpn ⊢;have hsz:es2.size=es1.size:=by rw[<- Array.length_toList,hp.length_eq,Array.length_toList]
  refine wpAny_bind (hg _ _ _ ?_);refine wpAny_bind (wpAny_storeSet_of ho1 rfl ?_ (fits_of_scanBound (by rw[hsz];exact hb1)))
  obtain⟨ho2,_⟩:=SetOf_store (knd:=PySem.intKind prog w) (S':=fun k=>es2.toList.any fun e=>(PySem.intKind prog w).is k e.2) ho1 hex rfl (hel1.perm hp) (fun k=>by rw[List.any_eq_true]) (by rw[hsz];exact hb1) hfr
  exact wpAny_pure (h _ (hsb1.trans (Heap.SameBut.update _ a _)) ⟨_,es2,_,t3,ho2,hex,rfl,hel1.perm hp,hfr,hpn,hkp.1.trans hled,(hp.map _).trans hperm,hnd,hks⟩)
 ·exact wpAny_pure (h _ hsb1 ⟨_,es1,_,t2,ho1,hex,rfl,hel1,hf2,hpl,hled,hperm,hnd,hks⟩)
theorem add{a:Addr}{ks:List Int}{x:Int}{tk:Tok}{Q:Bool->Shared->Prop}(hS:eU prog w s.heap a ks)(hl:ks.length < 900)
  (h:∀h' b,Heap.SameBut a s.heap h'->eU prog w h' a (if x ∈ ks then ks else ks ++ [x])->Q b { s with heap:=h' }) :
  wpAny (model prog w) A (setAddHashed a (.int x tk) ((PySem.intKind prog w).hash x)) Q E s:=by
 obtain⟨o,es,ep,t,ho,hex,hd,hel,hf,hpl,hled,hperm,hnd,hks⟩:=hS;have hkey:(PySem.intKind prog w).is x (.int x tk)=true:=PySem.intKind_is prog w x tk;have hsc:(Value.int x tk).scannable=true:=rfl;have hsz:es.size=ks.length:=by rw[<- hperm.length_eq,length_map,Array.length_toList]
 have hb:es.size < scanBound:=by unfold scanBound;omega
 unfold setAddHashed setAddHashedIn;refine wpAny_holding (wpAny_bind (wpAny_setState_of ho hd hf ?_));dsimp only;rw[byScan_of hsc hb hel];simp only[↓reduceIte];unfold setAddByScan;refine wpAny_bind ?_;refine wpAny_bind (wpAny_rule ?_);refine wpAny_bind (wpAny_setScan_of hkey ho hd hf hel ?_);cases hr:List.findIdx? (fun e=>(PySem.intKind prog w).is x e.2) es.toList with
 | some j =>
  dsimp only;obtain⟨hj,hpj,_⟩:=List.findIdx?_eq_some_iff_getElem.mp hr;have hx:x ∈ ks:=hperm.mem_iff.mp (List.mem_map.mpr ⟨es.toList[j],List.getElem_mem hj,vP hpj⟩);refine wpAny_pure (wpAny_pure ?_);have:=h s.heap false (Heap.SameBut.refl a s.heap) (by rw[if_pos hx];exact⟨o,es,ep,t,ho,hex,hd,hel,hf,hpl,hled,hperm,hnd,hks⟩)
  exact this
 | none =>
  dsimp only;have hx:x ∉ ks:=fun hx=>by
   obtain⟨e,he,ex⟩:=List.mem_map.mp (hperm.mem_iff.mpr hx);have h1:=List.findIdx?_eq_none_iff.mp hr e he;have h2:=vQ hel he;rw[ex,h1]at h2;cases h2
  rw[if_neg hx]at h;have hp1:=layNew_perm t es ((PySem.intKind prog w).hash x) (.int x tk);have hf1:=layNew_fits t es ((PySem.intKind prog w).hash x) (.int x tk);have hk1:=ix t es ((PySem.intKind prog w).hash x) (.int x tk);have hp2:=pQ t es ((PySem.intKind prog w).hash x) (.int x tk) hpl;generalize layNew t es ((PySem.intKind prog w).hash x) (.int x tk)=L at hp1 hf1 hk1 hp2 ⊢;obtain⟨es1,t1,wasDummy,gave⟩:=L;dsimp only at hp1 hf1 hk1 hp2 ⊢;rw[Array.toList_push]at hp1;have hel1:ElemsOf (PySem.intKind prog w) es1.toList:=(hel.push hkey hsc).perm hp1;have hperm1:(es1.toList.map fun e=>num e.2).Perm (ks ++ [x]):=by
   refine(hp1.map _).trans ?_;rw[List.map_append];exact hperm.append_right _
  have hnd1:(ks ++ [x]).Nodup:=List.nodup_append.mpr ⟨hnd,by simp,fun y hy z hz=>by rw[List.mem_singleton.mp hz];exact fun e=>hx (e ▸ hy)⟩
  have hks1:(ks ++ [x]).length < 1000:=by rw[length_append];simp only[length_cons,List.length_nil];omega
  refine wpAny_bind (?_:wpAny (model prog w) A (match gave with | true=>rule "set.scan.the-table-gave-way" | false=>pure ()) _ _ _)
  refine(fun z=>by cases gave <;> first | exact wpAny_pure z | exact wpAny_rule z) ?_
  split
  ·refine wpAny_bind ?_;rw[hashByValue_scannable 8 hsc];refine wpAny_pure ?_;refine uA (t2:=t1) ?_ ho hex hd hel1 hf1 hp2 (hk1.1.trans hled) hperm1 hnd1 hks1 ?_
   ·intro b s₁ Q' hq;cases b <;> first | exact wpAny_pure hq | exact wpAny_rule hq
   ·intro h' hsb hS';exact wpAny_pure (h h' true hsb hS')
  ·refine wpAny_bind (wpAny_pure ?_);simp only[↓reduceIte];refine uA ?_ ho hex hd hel1 hf1 hp2 (hk1.1.trans hled) hperm1 hnd1 hks1 ?_
   ·intro b s₁ Q' hq;cases b <;> first | exact wpAny_pure hq | exact wpAny_rule hq
   ·intro h' hsb hS';exact wpAny_pure (h h' true hsb hS')
noncomputable def dd(xs:List Int):List Int:=xs.foldl (fun ks x=>if x ∈ ks then ks else ks ++ [x]) []
theorem eJ{xs:List Int}{i:Nat}{x:Int}(h:xs[i]?=some x):dd (xs.take (i + 1))=if x ∈ dd (xs.take i) then dd (xs.take i) else dd (xs.take i) ++ [x]:=by
 unfold dd;rw[List.take_add_one,h,List.foldl_append];rfl
theorem o8(xs:List Int):∀i,∀x,x ∈ dd (xs.take i) ↔ x ∈ xs.take i:=by
 intro i;induction i with
 | zero=>intro x;exact Iff.rfl
 | succ i ih =>
  intro x;cases hx:xs[i]? with
  | none =>
   rw[List.take_add_one,hx];simpa using ih x
  | some y =>
   rw[eJ hx,List.take_add_one,hx];show _ ↔ x ∈ xs.take i ++ [y];rw[mem_append,List.mem_singleton];by_cases hy:y ∈ dd (xs.take i)
   ·rw[if_pos hy,ih x];exact⟨.inl,fun h=>h.elim id fun e=>by rw[e];exact(ih y).mp hy⟩
   ·rw[if_neg hy,mem_append,List.mem_singleton,ih x]
theorem lh(xs:List Int):∀i,(dd (xs.take i)).length <= i:=by
 intro i;induction i with
 | zero=>exact Nat.le_refl _
 | succ i ih =>
  cases hx:xs[i]? with
  | none =>
   have:xs.take (i + 1)=xs.take i:=by rw[List.take_add_one,hx];simp
   rw[this];omega
  | some y =>
   rw[eJ hx];split
   ·omega
   ·rw[length_append];simp only[length_cons,List.length_nil];omega
end
section
variable{prog:Program}{w:World}{A:Around}{R:Result->Shared->Prop}{I:Addr}{fp wr:List Addr}{G:Array GenState->Array GenState->Prop}{n:Nat}{P:Nat->Value->Prop}{St:Nat->Shared->Prop}
theorem loop(W:WalksS prog w A.in1 I fp wr G n P St)(S:Addr)(hSf:S ∉ fp)(xs:List Int)(hn:xs.length=n)(hval:∀i v,P i v->∃x t,xs[i]?=some x/\v=.int x t)(hb:n < 800) :
  ∀(k i:Nat)(s:Shared),n - i=k->i <= n->St i s->eU prog w s.heap S (dd (xs.take i)) ->
   (∀s',Moved (S :: wr) G s s'->eU prog w s'.heap S (dd xs)->R (.ok (.ret .none)) s')->codeAny (model prog w) A (.builtin "set.update.loop" ⟨[.ref S,.ref I],[]⟩) R s:=by
 have hSw:S ∉ wr:=fun h=>hSf (W.sub _ h);have hsub:∀b ∈ wr,b ∈ S :: wr:=fun b hb=>List.mem_cons_of_mem _ hb;intro k;induction k with
 | zero =>
  intro i s hk hi hst hS hR;have hin:i=n:=by omega
  subst hin;refine codeAny_builtin F.entry_set_update_loop ?_;rw[Around.under_plainId F.plain_set_update_loop _];show wpAny _ A.in1 (pyNext (.ref I) >>= _) _ _ s;refine wpAny_bind (W.done s _ _ hst fun s' hm=>?_);show wpAny _ A.in1 (ret Value.none) _ _ s';rw[take_of_length_le (by omega)]at hS
  obtain⟨o,es,ep,t,ho,rest⟩:=hS;exact wpAny_pure (hR s' (hm.mono hsub) ⟨o,es,ep,t,hm.heap S _ hSw ho,rest⟩)
 | succ k ih =>
  intro i s hk hi hst hS hR;have hlt:i < n:=by omega
  refine codeAny_builtin F.entry_set_update_loop ?_;rw[Around.under_plainId F.plain_set_update_loop _];show wpAny _ A.in1 (pyNext (.ref I) >>= _) _ _ s;refine wpAny_bind (W.item i s _ _ hlt hst fun v s' hP hst' hm=>?_);obtain⟨x,t,ex,rfl⟩:=hval i v hP;have hS':eU prog w s'.heap S (dd (xs.take i)):=by
   obtain⟨o,es,ep,tb,ho,rest⟩:=hS;exact⟨o,es,ep,tb,hm.heap S _ hSw ho,rest⟩
  show wpAny _ A.in1 (holding [Value.int x t] (setAdd S (.int x t)) >>= _) _ _ s';refine wpAny_bind (wpAny_holding ?_);unfold setAdd;refine wpAny_holding ?_;refine wpAny_bind ((PySem.intKind prog w).pyHash (k:=x) (PySem.intKind_is _ _ _ _) ?_);refine add (s:={ s' with toks:=s'.toks + 1 }) hS' (by have:=lh xs i;omega) fun h' b hsb hS2=>?_
  rw[<- eJ ex]at hS2;refine wpAny_pure ⟨plainId_quiet F.plain_set_update_loop _,ih (i + 1) _ (by omega) hlt (W.frame _ s' _ _ hst' (Nat.le_succ _) fun b hb o e=>?_) hS2 fun s'' hm'' hS''=>?_⟩
  ·rw[hsb.2 b (fun h:b=S=>hSf (by rw[<- h];exact hb))];exact e
  ·refine hR s'' (Moved.trans W.gtrans ((hm.mono hsub).then_heap (Nat.le_succ _) fun b o hb e=>?_) hm'') hS'';rw[hsb.2 b (fun h:b=S=>hb (by rw[h];exact List.mem_cons_self))];exact e
end
section
variable{prog:Program}{w:World}{A:Around}{E:Value->Shared->Prop}{s:Shared}
theorem hV (h:Heap) (a:Addr) {led:Bool} (hl:led=!byT w) (hg:h.get? a=some { cls:=.type "set",dict:=none,data:=.set #[] 0 (.fresh 0 0 led) }):eU prog w h a [] :=
 ⟨_,#[],0,_,hg,⟨rfl,rfl,rfl⟩,rfl,fun e he=>by simp at he,by cases led <;> rfl,fun _=>⟨List.Pairwise.nil,rfl⟩,hl,List.Perm.refl _,List.nodup_nil,by decide⟩
theorem sub_ls:isSubtype (.type "list") (.type "set")=pure false:=by rw[isSubtype_type];kernel_rfl
theorem sub_lf:isSubtype (.type "list") (.type "frozenset")=pure false:=by rw[isSubtype_type];kernel_rfl
set_option maxHeartbeats 3200000 in
theorem jh{l:Addr}{items:Array Value}{xs:List Int}{Q:Value->Shared->Prop}(hh:A.handled=none)(hl:s.heap.IsList l items)(hi:IntsAre items.toList xs)(hb:xs.length < 800)
  (h:∀(h':Heap)(tk:Nat),eU prog w h' s.heap.objs.size (dd xs)->(∀b o,b < s.heap.objs.size->s.heap.get? b=some o->h'.get? b=some o)->Q (.ref s.heap.objs.size) { s with heap:=h',toks:=tk }) :
  wpAny (model prog w) A (call (.type "set") [.ref l]) Q E s:=by
 obtain⟨c,tl,hmro⟩:=F.called_set.mro;have hmade:=F.called_set.made;have hsub:=F.called_set.sub;refine wpAny_call (codeAny_of_tree ?_);show wpAny _ _ (callAny (.type "set") _) _ _ _;refine wpAny_pure ⟨Code.quiet_builtin _ (by decide +kernel),codeAny_builtin F.entry_type_call ?_⟩
 rw[Around.under_plain (weight_type_call_type "set" [.ref l] []) rfl];have h1:=F.called_set.notType;have h2:=F.called_set.canCreate;have hct:=F.typeCall_set_1 (.ref l)
 repeat (any_goals (first | assumption | wp_step))
 refine codeAny_mono (gK (.ref l) (E:=E) (Q₁:=fun obj s₁=>obj=.ref s.heap.objs.size/\s₁={ s with heap:=s.heap.push { cls:=.type "set",dict:=none,data:=.set #[] 0 (.fresh 0 0 (!byT w)) } }) ⟨rfl,rfl⟩) fun r s₁ hr=>?_;generalize hled:(!byT w)=led at hr;cases r with
 | error e=>exact hr
 | ok fl =>
  cases fl with
  | ret obj =>
   obtain⟨rfl,rfl⟩:=hr;have hS:(s.heap.push { cls:=.type "set",dict:=none,data:=.set #[] 0 (.fresh 0 0 led) }).get? s.heap.objs.size=some { cls:=.type "set",dict:=none,data:=.set #[] 0 (.fresh 0 0 led) }:=get?_push_size _ rfl;have hT:Shared.TypeIs { s with heap:=s.heap.push { cls:=.type "set",dict:=none,data:=.set #[] 0 (.fresh 0 0 led) } } (.ref s.heap.objs.size) "set":=⟨_,hS,rfl⟩;have hli:=F.called_set.init.lookup;have hbi:=F.called_set.init.bind (.ref s.heap.objs.size)
   repeat (any_goals (first | assumption | wp_step))
   refine codeAny_mono (codeAny_call_builtin (R:=wants (fun r s₂=>r=.none/\∃h' tk,s₂={ s with heap:=h',toks:=tk }/\eU prog w h' s.heap.objs.size (dd xs) /\
     (∀b o,b < s.heap.objs.size->s.heap.get? b=some o->h'.get? b=some o)) E) F.called_set.init.plain F.entry_set_init (check_set_init_1 hT ?_)) fun r₂ s₂ hr₂=>?_
   ·obtain⟨ol,hol,hcl,nl,hdl⟩:=hl;obtain⟨ocls,odict,odata,oslots⟩:=ol;simp only at hcl hdl;subst hcl;subst hdl;have hol':(s.heap.push { cls:=.type "set",dict:=none,data:=.set #[] 0 (.fresh 0 0 led) }).get? l=some { cls:=.type "list",dict:=odict,data:=.seq items nl,slots:=oslots }:=get?_push_of_some _ hol;have hsls:=sub_ls;have hslf:=sub_lf;have hne:(Value.type "list" == Value.type "dict")=false:=by decide
    have hl1:(s.heap.push { cls:=.type "set",dict:=none,data:=.set #[] 0 (.fresh 0 0 led) }).IsList l items:=⟨_,hol',rfl,nl,rfl⟩;unfold Builtin.«set.__init__» noKeywords Builtin.Frozenset.updateFrom;generalize hPI:pyIter=PI
    wp_walk
    subst hPI;refine wpAny_pyIter_list hl1 ?_;refine wpAny_bind (wpAny_runValue ?_);have hlS:l < s.heap.objs.size:=lt_size hol;have hh3:A.in1.in1.in1.handled=none:=by simp[hh]
    have hneI:l ≠ (s.heap.push { cls:=.type "set",dict:=none,data:=.set #[] 0 (.fresh 0 0 led) }).objs.size:=by
     rw[Heap.size_push];exact Nat.ne_of_lt (Nat.lt_succ_of_lt hlS)
    have hSf:s.heap.objs.size ∉ [(s.heap.push { cls:=.type "set",dict:=none,data:=.set #[] 0 (.fresh 0 0 led) }).objs.size,l]:=by
     rw[Heap.size_push];simp only[List.mem_cons,List.mem_singleton,not_mem_nil,or_false,not_or];exact⟨Nat.ne_of_lt (Nat.lt_succ_self _),Nat.ne_of_gt hlS⟩
    have hil:xs.length=items.size:=by rw[<- Array.length_toList,IntsAre.length hi]
    have hval:∀(i:Nat)(v:Value),items[i]?=some v->∃x t,xs[i]?=some x/\v=.int x t:=fun i v hv=>by
     have hi2:=(Array.getElem?_eq_some_iff.mp hv).1;have hx:i < xs.length:=by omega
     obtain⟨n,t,et,en⟩:=IntsAre.at hi i v (by rw[Array.getElem?_toList];exact hv)
     exact⟨n,t,en,et⟩
    refine loop ((Walks.list hh3 _ l hneI items).toS) s.heap.objs.size hSf xs hil hval (by omega) (items.size - 0) 0 _ (by omega) (Nat.zero_le _)
     ⟨⟨_,get?_push_size _ rfl,rfl,rfl⟩,(hl1.push _)⟩ ?hS0 ?hR
    case hS0 =>
     exact hV _ _ hled.symm (get?_push_of_some _ hS)
    case hR =>
     intro s' hm hS';obtain⟨h',g',d',tk',os'⟩:=s';have eg:g'=s.gens:=hm.gens;have ed:d'=s.drawn:=hm.drawn;have eo:os'=s.os:=hm.os;subst eg;subst ed;subst eo;show wpAny _ _ _ _ _ _;refine wpAny_pure ?_;show wpAny _ _ (ret Value.none) _ _ _;refine wpAny_pure ⟨rfl,h',tk',rfl,hS',fun b o hb e=>?_⟩;have hb1:b ≠ s.heap.objs.size:=Nat.ne_of_lt hb;have hb2:b ≠ (s.heap.push { cls:=.type "set",dict:=none,data:=.set #[] 0 (.fresh 0 0 led) }).objs.size:=by
      rw[Heap.size_push];exact Nat.ne_of_lt (Nat.lt_succ_of_lt hb)
     exact hm.heap b o (by simp only[List.mem_cons,List.mem_singleton,not_mem_nil,or_false,not_or];exact⟨hb1,hb2⟩) (get?_push_of_some _ (get?_push_of_some _ e))
   ·cases r₂ with
    | error e=>exact hr₂
    | ok fl₂ =>
     cases fl₂ with
     | ret r =>
      obtain⟨rfl,h',tk,rfl,hS',hk'⟩:=hr₂
      repeat (any_goals (first | assumption | wp_step))
      exact h _ _ hS' hk'
     | _=>exact hr₂.elim
  | _=>exact hr.elim
end
end L2.SI
namespace L2.SI
open PySem PySem.Spec PyProof.Rows
open L2.ST (byT cW uB draw cJ d5 dG aX cp cI fj ji hW cE dv kB d7 dH jk qS jm)
inductive Way(w:World)(h:Heap)(a T:Addr)(es:Array (Int × Value))(ep:Nat)(t:SetTable)(ord:List Value):Nat->Value->Prop
 | text (i:Nat):byT w=true->ord=(pickOrder (w.params.setOrder a ep) es).toList.map (·.2)->Way w h a T es ep t ord i (rawInt 0)
 | drawn (i:Nat) (ps:List Nat):byT w=false->t.plain=false->1 < es.size->IsTup h T (ps.map fun(p:Nat)=>rawInt p).toArray->ps.length=es.size->(∀(j p:Nat),ps[j]?=some p->∃e:Int × Value,es[p]?=some e/\ord[j]?=some e.2)->Way w h a T es ep t ord i (.ref T)
 | slots (i sl:Nat):byT w=false->(!t.plain && decide (es.size > 1))=false->Up t.place->t.place.size=es.size->ord=es.toList.map (·.2)->SetTable.below t.place sl=i->Way w h a T es ep t ord i (rawInt sl)
def cO(prog:Program)(w:World)(I a T:Addr)(o:Obj)(es:Array (Int × Value))(ep:Nat)(t:SetTable)(ord:List Value)(i:Nat)(h:Heap):Prop :=
 h.get? a=some o/\o.data=.set es ep t/\t.fits es.size=true/\t.led=!byT w/\ord.length=es.size/\∃f oI,Way w h a T es ep t ord i f/\h.get? I=some oI/\oI.cls=.type "set_iterator" /\oI.data=.fields #[f,rawInt (i:Int),.ref a,rawInt (es.size:Int),rawInt (ep:Int)]
section
variable{prog:Program}{w:World}{A:Around}{E:Value->Shared->Prop}{s:Shared}
theorem cO.typeIs {I a T:Addr} {o:Obj} {es:Array (Int × Value)} {ep:Nat} {t:SetTable} {ord:List Value} {i:Nat} (h:cO prog w I a T o es ep t ord i s.heap):s.TypeIs (.ref I) "set_iterator":=by
 obtain⟨_,_,_,_,_,f,oI,_,h1,h2,_⟩:=h;exact⟨oI,h1,h2⟩
theorem jF{a:Addr}{o:Obj}{es:Array (Int × Value)}{ep sl i:Nat}{t:SetTable}{Q:Option (Value × Nat)->Shared->Prop}(hb:byT w=false)(hled:t.led=!byT w)(z:(!t.plain && decide (es.size > 1))=false)(ho:s.heap.get? a=some o)(hd:o.data=.set es ep t)(hf:t.fits es.size=true)
  (h:Q (match es[SetTable.below t.place sl]?,t.place[SetTable.below t.place sl]? with | some (_,x),some j=>some (x,j + 1) | _,_=>none) s):wpAny (model prog w) A (setNext a sl i ep) Q E s:=by
 unfold setNext;refine wpAny_bind (wpAny_setState_of ho hd hf ?_);dsimp only;refine wpAny_bind (dv ?_);rw[hb];simp only[Bool.false_eq_true,↓reduceIte];show wpAny _ _ (if (!t.plain && decide (es.size > 1))=true then _ else _) _ _ s
 rw[if_neg (by rw[z];simp)]
 refine wpAny_bind (?_:wpAny _ _ (if (!t.led && !es.isEmpty)=true then unsupported "set:maker-not-led" else pure ()) _ _ s)
 rw[hled,hb,if_neg (by simp)]
 exact wpAny_pure (wpAny_pure h)
theorem cO.on{I a T:Addr}{o oI:Obj}{es:Array (Int × Value)}{ep:Nat}{t:SetTable}{ord:List Value}{i:Nat}{f':Value}{h h':Heap}(hne:a ≠ I)(ho:h.get? a=some o)(hd:o.data=.set es ep t)(hf:t.fits es.size=true)(hled:t.led=!byT w)(hol:ord.length=es.size)
  (sb:Heap.SameBut I h h') (hw:Way w h' a T es ep t ord (i + 1) f') (hI:h'.get? I=some oI) (hc:oI.cls=.type "set_iterator") (hdI:oI.data=.fields #[f',rawInt ((i:Int) + 1),.ref a,rawInt (es.size:Int),rawInt (ep:Int)]):cO prog w I a T o es ep t ord (i + 1) h' :=
 ⟨(sb.2 a hne).trans ho,hd,hf,hled,hol,f',oI,hw,hI,hc,hdI⟩
theorem d6{I a T:Addr}{o:Obj}{es:Array (Int × Value)}{ep:Nat}{t:SetTable}{ord:List Value}{i:Nat}{Q:Option Value->Shared->Prop}(hI:cO prog w I a T o es ep t ord i s.heap)(hne:a ≠ I)(hlt:i < es.size)
  (hQ:∀v h',ord[i]?=some v->cO prog w I a T o es ep t ord (i + 1) h'->Heap.SameBut I s.heap h'->Q (some v) { s with heap:=h' }):wpAny (model prog w) A (pyNext (.ref I)) Q E s:=by
 have hT:=hI.typeIs;obtain⟨ho,hd,hf,hled,hol,f,oI,hw,hoI,hcI,hdI⟩:=hI;unfold pyNext;refine wpAny_bind (wpAny_attempt (wpAny_callSpecial?_slot (name:=Str.ofString "__next__") hT aX
  (wpAny_call_entry aX hT cp ?_ (cI _))))
 unfold Builtin.«set_iterator.__next__»;refine wpAny_bind (wpAny_of_eq (a:=(Value.ref I,[])) rfl ?_);dsimp only;refine wpAny_bind (wpAny_fieldsOf hoI hdI ?_);show wpAny _ _ (setEntries a >>= _) _ _ s;refine wpAny_bind (cE ho hd hf ?_);rw[if_neg (by simp)]
 cases hw with
 | text hb hord =>
  show wpAny _ _ (setNext a (0:Int).toNat (i:Int).toNat (ep:Int).toNat >>= _) _ _ s;simp only[Int.toNat_natCast];refine wpAny_bind (d7 hb ho hd hf ?_);have hsz:(pickOrder (w.params.setOrder a ep) es).size=es.size:=by
   rw[<- Array.length_toList,(cW _ _).length_eq,Array.length_toList]
  have hi:i < (pickOrder (w.params.setOrder a ep) es).size:=by omega
  rw[Array.getElem?_eq_getElem hi];dsimp only[Option.map];refine wpAny_bind (wpAny_setField hoI hdI (by simp) ?_)
  have ho2:=Heap.get?_update_self _ hoI (Obj.isFreed_of_fields (Obj.data_mapFields hdI (fun xs=>xs.set! 0 (rawInt ((0:Int).toNat:Nat)))));have hd2:=Obj.data_mapFields hdI (fun xs=>xs.set! 0 (rawInt ((0:Int).toNat:Nat)));refine wpAny_bind (wpAny_setField ho2 hd2 (by simp) ?_)
  have sb:=(Heap.SameBut.update s.heap I (Obj.mapFields fun xs=>xs.set! 0 (rawInt ((0:Int).toNat:Nat)))).trans (Heap.SameBut.update _ I (Obj.mapFields fun xs=>xs.set! 1 (rawInt ((i:Int) + 1))));have ho3:=Heap.get?_update_self _ ho2 (Obj.isFreed_of_fields (Obj.data_mapFields hd2 (fun xs=>xs.set! 1 (rawInt ((i:Int) + 1)))));refine wpAny_pure ⟨_,rfl,wpAny_pure (hQ _ _ ?_ (cO.on (f':=rawInt 0) hne ho hd hf hled hol sb (.text (i + 1) hb hord) ho3 ((Obj.cls_mapFields ..).trans ((Obj.cls_mapFields ..).trans hcI)) ?_) sb)⟩
  ·rw[hord,getElem?_map,Array.getElem?_toList,Array.getElem?_eq_getElem hi];rfl
  ·rw[Obj.data_mapFields hd2];simp
 | drawn ps hb hp h1 hT2 hl hall =>
  obtain⟨oT,hoT,hcT,nT,hdT⟩:=id hT2;have hip:i < ps.length:=by omega
  obtain⟨e,he1,he2⟩:=hall i ps[i] (getElem?_eq_getElem hip);show wpAny _ _ (seqItems? (.ref T) >>= _) _ _ s;refine wpAny_bind (wpAny_seqItems hoT hdT ?_);have hat:(ps.map fun(p:Nat)=>rawInt p).toArray[(i:Int).toNat]?=some (rawInt (ps[i]:Nat)):=by
   rw[Int.toNat_natCast,List.getElem?_toArray,getElem?_map,getElem?_eq_getElem hip];rfl
  dsimp only;rw[hat];show wpAny _ _ (setNextDrawn a ((ps[i]:Nat):Int).toNat (ep:Int).toNat >>= _) _ _ s;rw[Int.toNat_natCast,Int.toNat_natCast];refine wpAny_bind ?_;unfold setNextDrawn;refine wpAny_bind (wpAny_setState_of ho hd hf ?_);dsimp only;rw[if_neg (by simp),he1]
  refine wpAny_pure ?_;have hTI:T ≠ I:=fun e=>by
   subst e;rw[hoI]at hoT;cases hoT;rw[hcI]at hcT;exact absurd hcT (by decide)
  refine wpAny_bind (wpAny_setField hoI hdI (by simp) ?_)
  have ho2:=Heap.get?_update_self _ hoI (Obj.isFreed_of_fields (Obj.data_mapFields hdI (fun xs=>xs.set! 1 (rawInt ((i:Int) + 1)))));have sb:=Heap.SameBut.update s.heap I (Obj.mapFields fun xs=>xs.set! 1 (rawInt ((i:Int) + 1)));refine wpAny_pure ⟨_,rfl,wpAny_pure (hQ _ _ he2 (cO.on (f':=.ref T) hne ho hd hf hled hol sb (.drawn (i + 1) ps hb hp h1 ⟨oT,(sb.2 T hTI).trans hoT,hcT,nT,hdT⟩ hl hall) ho2 ((Obj.cls_mapFields ..).trans hcI) ?_) sb)⟩;rw[Obj.data_mapFields hdI];simp
 | slots sl hb hz hup hps hord hbl =>
  have hip:i < t.place.size:=by omega
  have hpp:t.place[i]?=some t.place[i]:=Array.getElem?_eq_getElem hip;generalize t.place[i]=p at hpp;show wpAny _ _ (setNext a (sl:Int).toNat (i:Int).toNat (ep:Int).toNat >>= _) _ _ s;simp only[Int.toNat_natCast];refine wpAny_bind (jF hb hled hz ho hd hf ?_);rw[hbl,hpp,Array.getElem?_eq_getElem hlt];show wpAny _ _ (setField (Value.ref I) 0 (rawInt ((p + 1:Nat):Int)) >>= _) _ _ s;refine wpAny_bind (wpAny_setField hoI hdI (by simp) ?_)
  have ho2:=Heap.get?_update_self _ hoI (Obj.isFreed_of_fields (Obj.data_mapFields hdI (fun xs=>xs.set! 0 (rawInt ((p + 1:Nat):Int)))));have hd2:=Obj.data_mapFields hdI (fun xs=>xs.set! 0 (rawInt ((p + 1:Nat):Int)));refine wpAny_bind (wpAny_setField ho2 hd2 (by simp) ?_)
  have sb:=(Heap.SameBut.update s.heap I (Obj.mapFields fun xs=>xs.set! 0 (rawInt ((p + 1:Nat):Int)))).trans (Heap.SameBut.update _ I (Obj.mapFields fun xs=>xs.set! 1 (rawInt ((i:Int) + 1))));have ho3:=Heap.get?_update_self _ ho2 (Obj.isFreed_of_fields (Obj.data_mapFields hd2 (fun xs=>xs.set! 1 (rawInt ((i:Int) + 1)))));refine wpAny_pure ⟨_,rfl,wpAny_pure (hQ _ _ ?_ (cO.on (f':=rawInt ((p + 1:Nat):Int)) hne ho hd hf hled hol sb (.slots (i + 1) (p + 1) hb hz hup hps hord (gn hup hpp)) ho3 ((Obj.cls_mapFields ..).trans ((Obj.cls_mapFields ..).trans hcI)) ?_) sb)⟩
  ·rw[hord,getElem?_map,Array.getElem?_toList,Array.getElem?_eq_getElem hlt];rfl
  ·rw[Obj.data_mapFields hd2];simp
theorem fi{I a T:Addr}{o:Obj}{es:Array (Int × Value)}{ep:Nat}{t:SetTable}{ord:List Value}{Q:Option Value->Shared->Prop}(hh:A.handled=none)(hI:cO prog w I a T o es ep t ord es.size s.heap)
  (hQ:∀h' t',Heap.ExtBut I s.heap h'->Q none { s with heap:=h',toks:=t' }):wpAny (model prog w) A (pyNext (.ref I)) Q E s:=by
 have hT:=hI.typeIs;obtain⟨ho,hd,hf,hled,hol,f,oI,hw,hoI,hcI,hdI⟩:=hI;unfold pyNext;refine wpAny_bind (wpAny_attempt (wpAny_callSpecial?_slot (name:=Str.ofString "__next__") hT aX
  (wpAny_call_entry aX hT cp ?_ (cI _))))
 unfold Builtin.«set_iterator.__next__»;refine wpAny_bind (wpAny_of_eq (a:=(Value.ref I,[])) rfl ?_);dsimp only;refine wpAny_bind (wpAny_fieldsOf hoI hdI ?_);show wpAny _ _ (setEntries a >>= _) _ _ s;refine wpAny_bind (cE ho hd hf ?_);rw[if_neg (by simp)]
 cases hw with
 | text hb hord =>
  show wpAny _ _ (setNext a (0:Int).toNat (es.size:Int).toNat (ep:Int).toNat >>= _) _ _ s;simp only[Int.toNat_natCast];refine wpAny_bind (d7 hb ho hd hf ?_);have hsz:(pickOrder (w.params.setOrder a ep) es).size=es.size:=by
   rw[<- Array.length_toList,(cW _ _).length_eq,Array.length_toList]
  rw[Array.getElem?_eq_none (by omega)]
  show wpAny _ _ (setField (Value.ref I) 2 Value.none >>= _) _ _ s;refine wpAny_bind (wpAny_setField hoI hdI (by simp) ?_)
  exact dH (s:=s) (f:=id) hh (Heap.SameBut.update s.heap I (Obj.mapFields fun xs=>xs.set! 2 Value.none)).extBut hQ
 | drawn ps hb hp h1 hT2 hl hall =>
  obtain⟨oT,hoT,hcT,nT,hdT⟩:=id hT2;show wpAny _ _ (seqItems? (.ref T) >>= _) _ _ s;refine wpAny_bind (wpAny_seqItems hoT hdT ?_);have hat:(ps.map fun(p:Nat)=>rawInt p).toArray[(es.size:Int).toNat]?=none:=by
   rw[Int.toNat_natCast,List.getElem?_toArray,List.getElem?_eq_none (by rw[length_map];omega)]
  dsimp only;rw[hat];show wpAny _ _ (setField (Value.ref I) 0 (rawInt 0) >>= _) _ _ s;refine wpAny_bind (wpAny_setField hoI hdI (by simp) ?_)
  have ho2:=Heap.get?_update_self _ hoI (Obj.isFreed_of_fields (Obj.data_mapFields hdI (fun xs=>xs.set! 0 (rawInt 0))));have hd2:=Obj.data_mapFields hdI (fun xs=>xs.set! 0 (rawInt 0));refine wpAny_bind (wpAny_setField ho2 hd2 (by simp) ?_)
  exact dH (s:=s) (f:=id) hh ((Heap.SameBut.update s.heap I (Obj.mapFields fun xs=>xs.set! 0 (rawInt 0))).trans (Heap.SameBut.update _ I (Obj.mapFields fun xs=>xs.set! 2 Value.none))).extBut hQ
 | slots sl hb hz hup hps hord hbl =>
  show wpAny _ _ (setNext a (sl:Int).toNat (es.size:Int).toNat (ep:Int).toNat >>= _) _ _ s;simp only[Int.toNat_natCast];refine wpAny_bind (jF hb hled hz ho hd hf ?_);rw[hbl,Array.getElem?_eq_none (Nat.le_refl _)];show wpAny _ _ (setField (Value.ref I) 2 Value.none >>= _) _ _ s;refine wpAny_bind (wpAny_setField hoI hdI (by simp) ?_)
  exact dH (s:=s) (f:=id) hh (Heap.SameBut.update s.heap I (Obj.mapFields fun xs=>xs.set! 2 Value.none)).extBut hQ
theorem du{I a T:Addr}{o:Obj}{es:Array (Int × Value)}{ep:Nat}{t:SetTable}{ord:List Value}{i:Nat}{Q:Value->Shared->Prop}(hI:cO prog w I a T o es ep t ord i s.heap)(h:Q (.ref I) s):wpAny (model prog w) A (pyIter (.ref I)) Q E s:=by
 refine wpAny_pyIter_slot hI.typeIs fj (wpAny_call_entry fj hI.typeIs hW ?_ (ji _));show wpAny _ _ (ret (.ref I)) _ _ s;exact wpAny_pure ⟨_,rfl,"set_iterator",_,hI.typeIs,aX.lookup,h⟩
end
theorem Way.at{w:World}{h h':Heap}{a T:Addr}{es:Array (Int × Value)}{ep:Nat}{t:SetTable}{ord:List Value}{i:Nat}{f:Value}(x:Way w h a T es ep t ord i f)(k:∀o,h.get? T=some o->h'.get? T=some o):Way w h' a T es ep t ord i f:=by
 cases x with
 | text h1 h2=>exact .text _ h1 h2
 | drawn ps h1 h2 h3 h4 h5 h6 =>
  obtain⟨o,e,r⟩:=h4;exact .drawn _ ps h1 h2 h3 ⟨o,k _ e,r⟩ h5 h6
 | slots sl h1 h2 h3 h4 h5 h6=>exact .slots _ sl h1 h2 h3 h4 h5 h6
theorem nJ{prog:Program}{w:World}{A:Around}(hh:A.handled=none)(I a T:Addr)(hne:a ≠ I)(o:Obj)(es:Array (Int × Value))(ep:Nat)(t:SetTable)(ord:List Value) :
  Walks prog w A I [I,a,T] [I] es.size (fun i v=>ord[i]?=some v) (fun i h=>cO prog w I a T o es ep t ord i h) where
 sub:=fun b hb=>by simp at hb;simp[hb]
 frame:=fun i h h' st hk=>by
  obtain⟨h1,h2,h3,h4,h5,f,oI,h6,h7,h8,h9⟩:=st;exact⟨hk a (by simp) _ h1,h2,h3,h4,h5,f,oI,h6.at fun o e=>hk T (by simp) o e,hk I (by simp) _ h7,h8,h9⟩
 item:=fun i s Q E hi st hQ=>d6 st hne hi fun v h' hv st' sb=>hQ v h' s.toks hv st' fun b o hb e=>(sb.2 b (fun z=>hb (by simp[z]))).trans e
 done:=fun s Q E st hQ=>fi hh st fun h' t' he=>hQ h' t' fun b o hb e=>he b o (fun z=>hb (by simp[z])) e
 self:=fun i s Q E st hQ=>du st hQ
section
variable{prog:Program}{w:World}{A:Around}{E:Value->Shared->Prop}{s:Shared}
theorem vR{es:List (Int × Value)}(hel:ElemsOf (PySem.intKind prog w) es):IntsAre (es.map (·.2)) (es.map fun e=>num e.2):=by
 induction es with
 | nil=>exact .nil
 | cons e r ih =>
  obtain⟨t,ht⟩:=Value.isInt_shape (show Value.isInt (num e.2) e.2=true from vQ hel (List.mem_cons_self ..));have:=ih fun x hx=>hel x (List.mem_cons_of_mem _ hx);show IntsAre (e.2 :: r.map (·.2)) (num e.2 :: r.map fun e=>num e.2);generalize num e.2=y at ht ⊢;rw[ht];exact .cons _ _ this
theorem kJ{vs:List Value}{ws:List Value}(hp:vs.Perm ws):∀{ys:List Int},IntsAre ws ys->∃zs,IntsAre vs zs/\zs.Perm ys:=by
 induction hp with
 | nil=>intro ys h;exact⟨ys,h,List.Perm.refl _⟩
 | cons x _ ih =>
  intro ys h;cases h with
  | cons y t h =>
   obtain⟨zs,h1,h2⟩:=ih h;exact⟨y :: zs,.cons _ _ h1,h2.cons _⟩
 | swap x y l =>
  intro ys h;cases h with
  | cons a t h =>
   cases h with
   | cons b u h=>exact⟨b :: a :: _,.cons _ _ (.cons _ _ h),List.Perm.swap _ _ _⟩
 | trans _ _ ih1 ih2 =>
  intro ys h;obtain⟨zs,h1,h2⟩:=ih2 h;obtain⟨us,h3,h4⟩:=ih1 h1;exact⟨us,h3,h4.trans h2⟩
theorem gp{a:Addr}{ks:List Int}{Q:Value->Shared->Prop}(hS:eU prog w s.heap a ks)
  (h:∀(o:Obj) (es:Array (Int × Value)) (ep:Nat) (t:SetTable) (ord:List Value) (zs:List Int) (I T:Addr) (h':Heap) (d':Drawn),cO prog w I a T o es ep t ord 0 h'->es.size=ks.length->IntsAre ord zs->zs.Perm ks->s.heap.objs.size <= I->(T=a\/s.heap.objs.size <= T)->(∀b o,s.heap.get? b=some o->h'.get? b=some o)->Q (.ref I) { s with heap:=h',drawn:=d' }) :
  wpAny (model prog w) A (pyIter (.ref a)) Q E s:=by
 obtain⟨o,es,ep,t,ho,hex,hd,hel,hf,hpl,hled,hperm,hnd,hks⟩:=hS;have hT:s.TypeIs (.ref a) "set":=⟨o,ho,hex.1⟩;have hsz:es.size=ks.length:=by rw[<- hperm.length_eq,length_map,Array.length_toList]
 have hst:=vR hel;refine wpAny_pyIter_slot hT cJ (wpAny_call_entry cJ hT dG ?_ (d5 _));unfold Builtin.«frozenset.__iter__»;refine wpAny_bind (wpAny_of_eq (a:=a) rfl ?_);refine wpAny_bind (?_:wpAny _ _ (Builtin.Frozenset.sizeOf a) _ _ s);unfold Builtin.Frozenset.sizeOf;refine wpAny_bind (cE ho hd hf (wpAny_pure ?_));refine wpAny_bind (jk ho hd hf ?_);by_cases hdr:(!byT w && (!t.plain && decide (es.size > 1)))=true
 ·rw[hdr];have hb:byT w=false:=by
   rw[Bool.and_eq_true]at hdr;simpa using hdr.1
  have hp:t.plain=false/\1 < es.size:=by
   rw[Bool.and_eq_true,Bool.and_eq_true]at hdr;exact⟨by simpa using hdr.2.1,by simpa using hdr.2.2⟩
  simp only[↓reduceIte];refine wpAny_bind (draw es.size (List.range es.size) s (by rw[List.length_range]) fun ps d' hps=>?_)
  have hpl2:ps.length=es.size:=by rw[hps.length_eq,List.length_range]
  have hlen16:es.size <= sizeLine:=by rw[sizeLine_eq];omega
  refine wpAny_bind (m:=newObj (.type "tuple") (.seq (ps.map fun(i:Nat)=>rawInt i).toArray)) (wpAny_newObj_type ?_ (by show (List.map (fun(i:Nat)=>rawInt i) ps).toArray.size <= sizeLine;rw[size_toArray,length_map];omega))
  have ho1:(s.heap.push { cls:=.type "tuple",data:=.seq (ps.map fun(i:Nat)=>rawInt i).toArray }).get? a=some o:=get?_push_of_some _ ho;refine wpAny_bind (wpAny_setEpoch_of (s:={ s with heap:=s.heap.push { cls:=.type "tuple",data:=.seq (ps.map fun(i:Nat)=>rawInt i).toArray },drawn:=d' }) ho1 hd hf ?_);refine wpAny_bind (m:=newObj (.type "set_iterator") (.fields #[.ref s.heap.objs.size,rawInt 0,.ref a,rawInt (es.size:Int),rawInt (ep:Int)])) (wpAny_newObj_type ?_);have hperm2:(ps.map fun p=>(es.toList.map (·.2)).getD p .none).Perm (es.toList.map (·.2)):=by
   refine(hps.map _).trans ?_;have e:(List.range es.size).map (fun p=>(es.toList.map (·.2)).getD p Value.none)=es.toList.map (·.2):=by
    refine List.ext_getElem (by simp) fun i h1 h2=>?_
    rw[List.getElem_map,List.getElem_range,getD_eq_getElem?_getD,getElem?_eq_getElem h2];rfl
   rw[e]
  obtain⟨zs,hz1,hz2⟩:=kJ hperm2 hst;have hi1:=Heap.size_push s.heap { cls:=.type "tuple",data:=.seq (ps.map fun(i:Nat)=>rawInt i).toArray };refine wpAny_pure ⟨_,rfl,"set_iterator",_,⟨_,get?_push_size _ rfl,rfl⟩,aX.lookup,h o es ep t (ps.map fun p=>(es.toList.map (·.2)).getD p .none) zs _ s.heap.objs.size _ d' ⟨get?_push_of_some _ ho1,hd,hf,hled,by rw[length_map];exact hpl2,_,_,.drawn 0 ps hb hp.1 hp.2 ?_ hpl2 (fun j p hj=>?_),get?_push_size _ rfl,rfl,rfl⟩ hsz hz1 (hz2.trans hperm) (by rw[hi1];exact Nat.le_succ _) (.inr (Nat.le_refl _)) fun b o e=>get?_push_of_some _ (get?_push_of_some _ e)⟩
  ·exact⟨_,get?_push_of_some _ (get?_push_size _ rfl),rfl,_,rfl⟩
  ·have hpr:p < es.size:=List.mem_range.mp (hps.mem_iff.mp (mem_of_getElem? hj));refine⟨es[p],Array.getElem?_eq_getElem hpr,?_⟩
   rw[getElem?_map,hj];show some ((es.toList.map (·.2)).getD p .none)=_;rw[getD_eq_getElem?_getD,getElem?_map,Array.getElem?_toList,Array.getElem?_eq_getElem hpr];rfl
 ·rw[Bool.not_eq_true]at hdr;rw[hdr];simp only[Bool.false_eq_true,↓reduceIte];refine wpAny_bind (wpAny_pure ?_);refine wpAny_bind (wpAny_setEpoch_of ho hd hf ?_);refine wpAny_bind (m:=newObj (.type "set_iterator") (.fields #[rawInt 0,rawInt 0,.ref a,rawInt (es.size:Int),rawInt (ep:Int)])) (wpAny_newObj_type ?_);cases hb:byT w with
  | true =>
   have hperm2:((pickOrder (w.params.setOrder a ep) es).toList.map (·.2)).Perm (es.toList.map (·.2)):=(cW _ es).map _;obtain⟨zs,hz1,hz2⟩:=kJ hperm2 hst;exact wpAny_pure ⟨_,rfl,"set_iterator",_,⟨_,get?_push_size _ rfl,rfl⟩,aX.lookup,h o es ep t _ zs _ a _ s.drawn ⟨get?_push_of_some _ ho,hd,hf,hled,by rw[hperm2.length_eq,length_map,Array.length_toList],_,_,.text 0 hb rfl,get?_push_size _ rfl,rfl,rfl⟩ hsz hz1 (hz2.trans hperm) (Nat.le_refl _) (.inl rfl) fun b o e=>get?_push_of_some _ e⟩
  | false =>
   have hz:(!t.plain && decide (es.size > 1))=false:=by
    rw[hb]at hdr;simpa using hdr
   have hps:t.place.size=es.size:=by
    simp only[SetTable.fits,Bool.and_eq_true,beq_iff_eq]at hf;exact hf.1
   have hup:Up t.place:=by
    by_cases hp:t.plain=true
    ·exact(hpl hp).1
    ·have:es.size <= 1:=by simpa[hp] using hz
     show t.place.toList.Pairwise _;have hl:t.place.toList.length <= 1:=by rw[Array.length_toList];omega
     generalize t.place.toList=L at hl
     match L,hl with
     | [],_=>exact List.Pairwise.nil
     | [p],_=>exact List.pairwise_singleton ..
     | _ :: _ :: _,z=>exact absurd z (by rw[length_cons,length_cons];omega)
   exact wpAny_pure ⟨_,rfl,"set_iterator",_,⟨_,get?_push_size _ rfl,rfl⟩,aX.lookup,h o es ep t _ _ _ a _ s.drawn ⟨get?_push_of_some _ ho,hd,hf,hled,by rw[length_map,Array.length_toList],_,_,.slots 0 0 hb hz hup hps rfl (pP hup),get?_push_size _ rfl,rfl,rfl⟩ hsz hst hperm (Nat.le_refl _) (.inl rfl) fun b o e=>get?_push_of_some _ e⟩
theorem fk{a:Addr}{ks:List Int}{R:List Value->Shared->Prop}(hh:A.handled=none)(hS:eU prog w s.heap a ks)
  (h:∀(h':Heap)(tk:Nat)(d':Drawn)(vs:List Value)(zs:List Int),(∀b o,s.heap.get? b=some o->h'.get? b=some o)->IntsAre vs zs->zs.Perm ks->R vs { s with heap:=h',toks:=tk,drawn:=d' }) :
  wpAny (model prog w) A (collect (.ref a)) R E s:=by
 unfold collect;refine wpAny_bind (wpAny_runValue (codeAny_builtin PyProof.Rows.entry_proto_collect' ?_));rw[Around.under_plainId PySem.F.plain_proto_collect _];show wpAny _ A.in1 (newList [] >>= fun l=>again (.builtin "list.__iadd__" ⟨[l,.ref a],[]⟩)) _ _ s;refine wpAny_bind (wpAny_newObj_type ?_);refine wpAny_pure ⟨plainId_quiet PySem.F.plain_list_iadd _,codeAny_builtin PyProof.Rows.entry_list_iadd' ?_⟩;rw[Around.under_plainId PySem.F.plain_list_iadd _];have hL:(s.heap.push { cls:=.type "list",data:=.seq ([]:List Value).toArray }).get? s.heap.objs.size=some { cls:=.type "list",data:=.seq #[] }:=get?_push_size _ rfl;show wpAny _ A.in1 (Builtin.List.listExtendWith (.ref s.heap.objs.size) (.ref a) (.ref s.heap.objs.size)) _ _ _;have hal:a < s.heap.objs.size:=by obtain⟨o,_,_,_,ho,_⟩:=hS;exact lt_size ho
 have hS1:eU prog w (s.heap.push { cls:=.type "list",data:=.seq ([]:List Value).toArray }) a ks:=by
  obtain⟨o,es,ep,t,ho,r⟩:=hS;exact⟨o,es,ep,t,get?_push_of_some _ ho,r⟩
 have hT1:Shared.TypeIs { s with heap:=s.heap.push { cls:=.type "list",data:=.seq ([]:List Value).toArray } } (.ref a) "set":=by
  obtain⟨o,_,_,_,ho,hex,_⟩:=hS1;exact⟨o,ho,hex.1⟩
 unfold Builtin.List.listExtendWith;refine wpAny_bind (wpAny_typeOf (T:="set") hT1 ?_);have h1:Builtin.List.listSameRef (.ref s.heap.objs.size) (.ref a)=false:=by simp[Builtin.List.listSameRef,Nat.ne_of_gt hal]
 have h2:(Value.type "set" == Value.type "list")=false:=by decide
 have h3:(Value.type "set" == Value.type "tuple")=false:=by decide
 simp only[h1,h2,h3,Bool.or_false,Bool.false_eq_true,if_false];refine wpAny_bind (gp hS1 fun o es ep t ord zs I T h' d' hI hsz hst hzp hI1 hT2 hk=>?_);have hsz1:=Heap.size_push s.heap { cls:=.type "list",data:=.seq ([]:List Value).toArray };have hI1:s.heap.objs.size + 1 <= I:=by rw[<- hsz1];exact hI1
 have hT2:T=a\/s.heap.objs.size + 1 <= T:=by rw[<- hsz1];exact hT2
 have hks:ks.length < 1000:=by obtain⟨_,_,_,_,_,_,_,_,_,_,_,_,_,hks⟩:=hS;exact hks
 have hL2:=hk _ _ hL;have hT3:Shared.TypeIs { s with heap:=h',drawn:=d' } (.ref a) "set":=by
  obtain⟨o,ho,hc⟩:=hT1;exact⟨o,hk _ _ ho,hc⟩
 have hne:a ≠ I:=Nat.ne_of_lt (Nat.lt_of_lt_of_le hal (Nat.le_of_succ_le hI1));have hSf:s.heap.objs.size ∉ [I,a,T]:=by
  simp only[List.mem_cons,not_mem_nil,or_false,not_or];exact⟨Nat.ne_of_lt hI1,Nat.ne_of_gt hal,by
   cases hT2 with
   | inl e=>exact e ▸ Nat.ne_of_gt hal
   | inr e=>exact Nat.ne_of_lt e⟩
 refine wpAny_bind (wpAny_holding (jm hT3 ?_));have key:∀(h2:Heap)(c1:Nat),cO prog w I a T o es ep t ord 0 h2->(∀b ob,b ≠ s.heap.objs.size->h'.get? b=some ob->h2.get? b=some ob)->h2.get? s.heap.objs.size=some { cls:=.type "list",data:=.seq #[] c1 } ->
   codeAny (model prog w) A (.builtin "list.extend.loop" ⟨[.ref s.heap.objs.size,.ref I,.ref s.heap.objs.size],[]⟩) (fun(q:Result)(s':Shared)=>∃(h3:Heap)(tk:Nat)(acc:Array Value)(c:Nat),q=.ok (.ret (.ref s.heap.objs.size))/\s'={ s with heap:=h3,toks:=tk,drawn:=d' } /\
    (∀b ob,s.heap.get? b=some ob->h3.get? b=some ob)/\h3.get? s.heap.objs.size=some { cls:=.type "list",dict:=none,data:=.seq acc c,slots:=#[] }/\acc.toList=ord) { s with heap:=h2,drawn:=d' }:=by
  intro h2 c1 hI2 hk2 hL3;refine codeAny_extend_loopS (nJ (prog:=prog) (w:=w) (A:=A.in1) hh I a T hne o es ep t ord).toS (by rw[sizeLine_eq];omega) s.heap.objs.size hSf (.ref s.heap.objs.size) es.size 0 _ #[] c1 rfl (Nat.zero_le _) hI2 hL3 (ItemsOf.nil _) fun s' acc' c' hm hS' hacc=>?_
  obtain⟨h3,g3,d3,tk3,os3⟩:=s';have eg:g3=s.gens:=hm.gens;have ed:d3=d':=hm.drawn;have eo:os3=s.os:=hm.os;subst eg;subst ed;subst eo;refine⟨h3,tk3,acc',c',rfl,rfl,fun b ob e=>?_,hS',?_⟩
  ·have hb:=lt_size e;refine hm.heap b ob ?_ (hk2 b ob (Nat.ne_of_lt hb) (hk b ob (get?_push_of_some _ e)))
   simp only[List.mem_cons,not_mem_nil,or_false,not_or];exact⟨Nat.ne_of_lt hb,Nat.ne_of_lt (Nat.lt_trans hb hI1)⟩
  ·obtain⟨_,_,_,_,hol,_⟩:=hI2;refine List.ext_getElem? fun j=>?_;by_cases hj:j < es.size
   ·have hj2:j < acc'.size:=by rw[hacc.1];exact hj
    have:=hacc.2 j acc'[j] (Array.getElem?_eq_getElem hj2);rw[this,Array.getElem?_toList,Array.getElem?_eq_getElem hj2]
   ·rw[List.getElem?_eq_none (by rw[Array.length_toList,hacc.1];omega),List.getElem?_eq_none (by omega)]
 have fin:∀(q:Result)(s':Shared),(∃(h3:Heap)(tk:Nat)(acc:Array Value)(c:Nat),q=.ok (.ret (.ref s.heap.objs.size))/\s'={ s with heap:=h3,toks:=tk,drawn:=d' } /\
    (∀b ob,s.heap.get? b=some ob->h3.get? b=some ob)/\h3.get? s.heap.objs.size=some { cls:=.type "list",dict:=none,data:=.seq acc c,slots:=#[] }/\acc.toList=ord)->True:=fun _ _ _=>trivial
 refine wpAny_ite_split (fun _=>?_) (fun hn=>absurd (by decide) hn)
 refine wpAny_bind (wpAny_rule ?_);refine wpAny_bind ?_;show wpAny _ _ (updateSeq s.heap.objs.size (·.push .none) >>= fun _=>updateSeq s.heap.objs.size (·.pop)) _ _ _;refine wpAny_bind (wpAny_updateSeq (s:={ s with heap:=h',drawn:=d' }) hL2 rfl ?_);have hL4:=Heap.get?_update_self (Obj.mapSeq (·.push Value.none)) hL2 rfl;refine wpAny_updateSeq (hz:=by seq_fits) hL4 rfl ?_
 have hL5:=Heap.get?_update_self (Obj.mapSeq (·.pop)) hL4 rfl;have oth:∀b ob,b ≠ s.heap.objs.size->h'.get? b=some ob->((h'.update s.heap.objs.size (Obj.mapSeq (·.push Value.none))).update s.heap.objs.size (Obj.mapSeq (·.pop))).get? b=some ob:=fun b ob hb e=>(Heap.get?_update_other _ _ (Ne.symm hb)).trans ((Heap.get?_update_other _ _ (Ne.symm hb)).trans e);refine wpAny_pure ⟨plainId_quiet PySem.F.plain_extend_loop _,codeAny_mono (key _ _ ((nJ (prog:=prog) (w:=w) (A:=A.in1) hh I a T hne o es ep t ord).frame 0 _ _ hI fun b hb ob e=>oth b ob (fun z=>hSf (z ▸ hb)) e) oth hL5) fun q s' x=>?_⟩;obtain⟨h3,tk,acc,c,rfl,rfl,hk3,hL6,hacc⟩:=x;show wpAny _ A (load s.heap.objs.size >>= _) _ _ _;refine wpAny_bind (wpAny_load hL6 ?_);refine wpAny_pure ?_;rw[hacc];exact h h3 tk d' ord zs hk3 hst hzp
end
end L2.SI
namespace L2
open PySem PySem.Spec PyProof.Rows
section
variable{X:Cx}
def tSSI(K:Frag)(te:TE):TE:=fun σ H Q=>te σ H fun x H1=>∃(p:Addr)(xs:List Int),x=.ref p/\SqL K H1 p (xs.map V.int)/\xs.length < 64 /\
 ∀(l:Addr)(zs:List Int)(H2:Hp),H1 l=none->ar H1 H2->H2 l=some (.lst (zs.map V.int))->zs.Pairwise (· <= ·)->zs.Nodup->(∀z,z ∈ zs ↔ z ∈ xs)->Q (.ref l) H2
theorem om {e:Expr} {te:TE} {p1 p2 p3 pos:Pos} (hc:X.calm=true) (he:PE X e te) (hg1:Gl X "sorted") (hm1:X.mg "sorted"=none) (hg2:Gl X "set") (hm2:X.mg "set"=none)
  (hs1:starEach [.Call (.Name "set" p2) [e] [] p3] X.env=[(false,eval (.Call (.Name "set" p2) [e] [] p3) X.env)]:=by rfl) (hs2:starEach [e] X.env=[(false,eval e X.env)]:=by rfl) :
  PE X (.Call (.Name "sorted" p1) [.Call (.Name "set" p2) [e] [] p3] [] pos) (tSSI X.K te):=by
 intro pins s σ H Q I h;refine Call_ (dB I hg1 hm1 (show bootBuiltins "sorted"=some (.builtin "sorted") by decide +kernel) (PyProof.Rows.callWith_builtin1 (gI hs1 ?_) hs1 rfl))
 refine Call_ (dB I hg2 hm2 (show bootBuiltins "set"=some (.type "set") by decide +kernel) (PyProof.Rows.callWith_type1 (gI hs2 ?_) hs2 rfl))
 refine thn (he pins s σ H _ I h) fun u s1 ⟨x,H1,I1,r1,p,xs,ex,hp,h64,q⟩=>?_;subst ex;cases r1;obtain⟨its,rr,pl,hz⟩:=I1.list hp;have hh:X.A.handled=none:=I1.ok.hd hc;refine SI.jh hh pl.isList (by simpa using o4 rr) (by omega) fun h1 tk1 hS hk1=>?_
 have I2:Inv X pins σ H1 { s1 with heap:=h1,toks:=tk1 }:=I1.kept (t':=tk1) fun b u e=>hk1 b u (lt_size e) e;refine Calls.call_function_entry kind_sorted plain_sorted entry_sorted (args_sorted1 _) ?_;unfold Builtin.«sorted»;refine wpAny_bind (m:=checkCount "sorted" 1 1 _) (wpAny_pure ?_);refine wpAny_bind (SI.fk (A:=X.A.in1) hh hS fun h' tk d' vs ss hk hSt hpm=>?_);have hnd:(SI.dd xs).Nodup:=by obtain⟨_,_,_,_,_,_,_,_,_,_,_,_,hn,_⟩:=hS;exact hn
 have hmem:∀z,z ∈ ss ↔ z ∈ xs:=fun z=>by
  rw[hpm.mem_iff];have:=SI.o8 xs xs.length z
  rwa [List.take_length]at this
 have hsl:ss.length <= xs.length:=by
  have:=SI.lh xs xs.length;rw[List.take_length]at this;rw[hpm.length_eq];exact this
 have hvl:vs.length=ss.length:=IntsAre.length hSt;have I3:Inv X pins σ H1 { s1 with heap:=h',toks:=tk,drawn:=d' }:=(I2.kept (h':=h') (t':=tk) hk).drawnAs;refine wpAny_bind (wpAny_newList ?_ (by rw[hvl,sizeLine_eq];omega))
 have hoL:(h'.push { cls:=.type "list",data:=.seq vs.toArray }).get? h'.objs.size=some (seqObj "list" vs.toArray 0):=get?_push_size _ rfl;refine wpAny_bind (wpAny_holding (wpAny_call_entry slot_list_sort ⟨_,hoL,rfl⟩ entry_list_sort (list_sort_tree hoL hSt (by omega) fun out ns' g1 g2 g3=>⟨_,rfl,?_⟩) (args_list_sort _)))
 refine wpAny_pure ⟨_,rfl,?_⟩;obtain⟨e,he⟩:=sortedHeap_at (out:=out) hoL;have hf:H1 h'.objs.size=none:=I3.hok.fresh (Nat.le_refl _);refine⟨.ref h'.objs.size,_,I3.laid (t':=tk) (a:=h'.objs.size) (o:=.lst (ns'.map V.int)) (fun b o e=>?_) (Nat.le_refl _) ?_,rfl,q h'.objs.size ns' _ hf (ca hf) af g3 ((g2.nodup_iff).mpr ((hpm.nodup_iff).mpr hnd)) fun z=>by rw[g2.mem_iff,hmem]⟩
 ·have hb:=lt_size e;rw[sortedHeap_old (Nat.ne_of_lt hb) (by rw[Heap.size_push];exact Nat.lt_succ_of_lt hb)]
  exact get?_push_of_some _ e
 ·exact⟨by rw[length_map,g2.length_eq,sizeLine_eq];omega,out.toList,e,su g1,by rw[Array.toArray_toList];exact he⟩
end
section
variable{X:Cx}{tg:Expr}
noncomputable def vS(K:Frag)(a:Addr)(n:Nat):It:=⟨fun i H=>∃xs x,SqL K H a xs/\xs.length=n/\xs.reverse[i]?=some x,fun i H v H'=>H'=H/\∀xs,SqL K H a xs->xs.reverse[i]?=some v,fun i H=>∃xs,SqL K H a xs/\xs.length=n/\n <= i⟩
theorem sZ{P:Program}{w:World}{K:Frag}{tg:Expr}(a it:Addr)(n:Nat):kX P w K tg (vS K a n) [it] it (fun i h=>i <= n/\h.IsRevIter it a ((n:Int) - 1 - (i:Int))) where
 mem:=by simp
 obj:=fun i h st b hb=>by
  have e:b=it:=by simpa using hb
  subst e;obtain⟨_,o,e,c,d⟩:=st;exact⟨o,e,fun v z=>by rw[d]at z;cases z⟩
 keep:=fun i h h' st k=>by
  obtain⟨h1,o,e,c,d⟩:=st;exact⟨h1,o,k it (by simp) o e,c,d⟩
 item:=by
  intro X hP hw hK hc i pins s σ H E I hf st hg;subst hP hw hK;obtain⟨xs,x,hq,hn,hx⟩:=hg;obtain⟨its,rv,p,hz⟩:=I.list hq;have hl:=rv.length;have hi:i < n:=by
   have:=(List.getElem?_eq_some_iff.mp hx).1;rw[List.length_reverse]at this;omega
  have hx2:xs[n - 1 - i]?=some x:=by
   rw[List.getElem?_reverse (by omega),hn]at hx
   exact hx
  obtain⟨u,hu,ru⟩:=rv.get hx2;obtain⟨f0,f1,f2,f3,f4,f5⟩:=hf it (by simp)
  obtain⟨_,st⟩:=st;have e:(n:Int) - 1 - (i:Int)=((n - 1 - i:Nat):Int):=by omega
  rw[e]at st;refine wpAny_pyNext_rev_item (x:=u) (items:=its.toArray) st p.isList (by simpa using hu) fun h' st' sb=>?_
  have I1:Inv X pins σ H { s with heap:=h',toks:=s.toks }:=I.turned (t':=s.toks) (fun b o hb e=>(sb.2 b hb).trans e) f0 f1 f3 f4 f5;obtain⟨o,e1,c,d⟩:=id st';have e2:((n - 1 - i:Nat):Int) - 1=(n:Int) - 1 - ((i + 1:Nat):Int):=by omega
  rw[e2]at st';exact⟨u,rfl,ip (s:={ s with heap:=h',toks:=s.toks }) e1 c d (by decide) ⟨x,H,I1,ru,⟨rfl,fun ys hy=>by rw[I.list_inj hy hq];exact hx⟩,⟨hi,st'⟩,fun b hb=>(hf b hb).1⟩⟩
 done:=by
  intro X hP hw hK hc i pins s σ H E I hf st hg;subst hP hw hK;obtain⟨xs,hq,hn,hx⟩:=hg;obtain⟨f0,f1,f2,f3,f4,f5⟩:=hf it (by simp)
  obtain⟨h1,st⟩:=st;have e:(n:Int) - 1 - (i:Int)=-1:=by omega
  rw[e]at st;exact wpAny_pyNext_rev_end (I.ok.hd hc) st fun h' eb=>⟨rfl,I.turned (t':=s.toks) (fun b o hb e=>eb b o hb e) f0 f1 f3 f4 f5⟩
 self:=fun _ _ _ _ _ st h=>wpAny_pyIter_revIter st.2 h
noncomputable def iRevL(K:Frag)(te:TE):TI:=fun σ H R=>te σ H fun x H1=>∃a xs,x=.ref a/\SqL K H1 a xs/\R (vS K a xs.length) H1
theorem pi_revL {e:Expr} {te:TE} {p pos:Pos} (hg:Gl X "reversed") (hm:X.mg "reversed"=none) (he:PE X e te) (hs:starEach [e] X.env=[(false,eval e X.env)]:=by rfl):PI X tg (.Call (.Name "reversed" p) [e] [] pos) (iRevL X.K te):=by
 intro pins s σ H R I h;refine Call_ (dB I hg hm boot_reversed (PyProof.Rows.callWith_type1 (gI hs ?_) hs rfl));refine thn (he pins s σ H _ I h) fun u s1 ⟨x,H1,I1,r1,a,xs,ex,hq,q⟩=>?_;subst ex;cases r1;obtain⟨its,rv,ht,hz⟩:=I1.list hq;have hl:=rv.length;refine call_reversed_list (items:=its.toArray) ht.isList ?_;have I2:Inv X pins σ H1 { s1 with heap:=s1.heap.push (revObj a ((its.toArray.size:Int) - 1)),toks:=s1.toks }:=I1.kept fun b o e=>get?_push_of_some _ e;have hrv:(s1.heap.push (revObj a ((its.toArray.size:Int) - 1))).IsRevIter s1.heap.objs.size a ((its.toArray.size:Int) - 1):=⟨_,get?_push_size _ rfl,rfl,rfl⟩;refine wpAny_pyIter_revIter (s:={ s1 with heap:=s1.heap.push (revObj a ((its.toArray.size:Int) - 1)),toks:=s1.toks }) hrv ?_;refine⟨s1.heap.objs.size,[s1.heap.objs.size],_,_,H1,rfl,I2,sZ a _ xs.length,⟨Nat.zero_le _,?_⟩,fun b hb=>?_,q⟩
 ·rw[size_toArray,<- hl]at hrv;have e:(xs.length:Int) - 1 - ((0:Nat):Int)=(xs.length:Int) - 1:=by omega
  rw[e];rw[size_toArray,<- hl];exact hrv
 ·have e:b=s1.heap.objs.size:=by simpa using hb
  subst e;exact I1.fpOk (Nat.le_refl _) (I1.hok.fresh (Nat.le_refl _))
theorem vT{K:Frag}{a:Addr}{xs:List V}{g:TG}{tb:TS}{D:gT}{σ:St}{H:Hp}(Pv:Nat->St->Hp->Prop)(h0:Pv 0 σ H)(hl:∀i σ H,i <= xs.length->Pv i σ H->SqL K H a xs)
  (hs:∀i x σ H,xs.reverse[i]?=some x->Pv i σ H->g x σ H fun σ2 H2=>tb { D with nx:=Pv (i + 1),ct:=Pv (i + 1),bk:=D.nx } σ2 H2)(hd:∀σ H,Pv xs.length σ H->D.nx σ H) :
  ∃W:Nat->Nat->St->Hp->Prop,(∃m,W 0 m σ H)/\∀i m σ H,W i m σ H ->
   ((vS K a xs.length).stop i H/\D.nx σ H)\/((vS K a xs.length).go i H/\∃N:St->Hp->Prop,(∀σ' H',N σ' H'->∃m',m' < m/\W (i + 1) m' σ' H')/\∀x H',(vS K a xs.length).yld i H x H'->g x σ H' fun σ2 H2=>tb { D with nx:=N,ct:=N,bk:=D.nx } σ2 H2):=by
 refine⟨fun i m σ H=>m=xs.length - i/\i <= xs.length/\Pv i σ H,⟨xs.length,by simp,Nat.zero_le _,h0⟩,?_⟩
 rintro i m σ H ⟨rfl,hi,p⟩;have q:=hl i σ H hi p;by_cases hlt:i < xs.length
 ·refine .inr ⟨⟨xs,xs.reverse[i]'(by rw[List.length_reverse];exact hlt),q,rfl,getElem?_eq_getElem _⟩,Pv (i + 1),fun σ' H' p'=>⟨xs.length - (i + 1),by omega,rfl,hlt,p'⟩,fun x H' y=>?_⟩
  obtain⟨e,y⟩:=y;subst e;exact hs i x σ _ (y xs q) p
 ·have e:i=xs.length:=by omega
  subst e;exact .inl ⟨⟨xs,q,rfl,Nat.le_refl _⟩,hd σ H p⟩
theorem pe_frz{e:Expr}{te:TE}(he:PE X e te):PE X e (fun σ H Q=>te σ H fun x H1=>∃(a:Addr) (kvs:List (Key × V)),x=.ref a/\H1 a=some (.dK kvs)/\∀(o:Obj)(H2:Hp),(∀b u,b ≠ a->H1 b=some u->H2 b=some u)->H2 a=some (.frz o (.dK kvs))->Q x H2):=by
 intro pins s σ H Q I h;refine thn (he pins s σ H _ I h) fun v s1 ⟨x,H1,I1,r1,a,kvs,ex,hd,q⟩=>?_;subst ex;cases r1;obtain⟨z,lo,vs,rel,dd⟩:=kh I1.hok hd;obtain⟨o,es,ep,ho,rest⟩:=id dd;have I2:Inv X pins σ (upd H1 a (.frz o (.dK kvs))) { s1 with heap:=s1.heap,toks:=s1.toks }:=I1.write (x:=a) (e:=a) (o:=.frz o (.dK kvs)) (by rw[hd];trivial) (.inl rfl) (fun b u _ e=>e) ⟨o,ho⟩ ⟨ho,z,lo,vs,rel,dd⟩
 exact⟨.ref a,_,I2,rfl,q o _ (fun b u hb e=>by rw[au hb];exact e) af⟩
theorem vU{tg e:Expr}{te:TE}(he:PE X e te):PI X tg e (fun σ H R=>te σ H fun x H1=>∃(a:Addr)(o:Obj) (kvs:List (Key × V)) (ss:List Str),x=.ref a/\H1 a=some (.frz o (.dK kvs))/\kvs.map (·.1)=ss.map Sum.inr/\R (Itd a o kvs ss) H1):=by
 intro pins s σ H R I h;refine thn (he pins s σ H _ I h) fun v s1 ⟨x,H1,I1,r1,a,o,kvs,ss,ex,hd,hks,q⟩=>?_;subst ex;cases r1;obtain⟨z,lo,vs,rel,dd⟩:=fc I1.hok (.inr ⟨o,hd⟩);have hg:s1.heap.get? a=some o:=(show bT X.prog X.w H1 s1.heap a (.frz o (.dK kvs)) from I1.hok a _ hd).1;obtain⟨o',es,ep,ho,rest⟩:=id dd;rw[hg]at ho;cases ho;have hD:∀h:Heap,h.get? a=some o->h.DictAt (aV X.prog X.w) a vs ep:=fun h hg=>⟨o,es,hg,rest⟩;have hvs:vs.map (·.1)=ss.map Sum.inr:=by
  rw[<- hks];have:∀{l:List (Key × V)} {m:List (Key × Value)},KV l m->m.map (·.1)=l.map (·.1):=by
   intro l m r;unfold KV at r;induction r with
   | nil=>rfl
   | cons h t ih=>rw[List.map_cons,List.map_cons,ih,h.1]
  exact this rel
 have hlt:a < s1.heap.objs.size:=lt_size hg;refine wpAny_pyIter_dict lo (hD _ hg) ?_;have nI:H1 s1.heap.objs.size=none:=I1.hok.fresh (Nat.le_refl _);refine⟨s1.heap.objs.size,[s1.heap.objs.size],_,_,H1,rfl,I1.kept (t':=s1.toks) fun b u e=>get?_push_of_some _ e,si a s1.heap.objs.size o kvs vs ss ep (Nat.ne_of_lt hlt) hD hvs,⟨_,get?_push_size _ rfl,rfl,rfl⟩,fun b hb=>?_,q⟩
 have e:b=s1.heap.objs.size:=by simpa using hb
 subst e;exact I1.fpOk (Nat.le_refl _) nI
end
theorem oo {X:Cx} (hc:X.calm=true):eO X (.builtin "sorted") (fun xs H Q=>∃(a:Addr) (kvs:List (Key × V)) (ss:List Str),xs=[.ref a]/\Rd H a (.dK kvs)/\kvs.map (·.1)=ss.map Sum.inr/\kvs.length < 64 /\
  ∀(p:Addr)(ss':List Str)(H2:Hp),H p=none->ar H H2->H2 p=some (.lst (ss'.map V.str))->ss'.Perm ss->ss'.Pairwise leS->Q (.ref p) H2):=by
 intro pins s σ H xs us Q I rv h;obtain⟨a,kvs,ss,rfl,hd,hks,h64,q⟩:=h;obtain⟨u,rfl,ru⟩:=rv.one;cases ru;obtain⟨z,lo,vs,rel,dd⟩:=fc I.hok hd;obtain⟨ep,hat⟩:=dd.dictAt;have hlen:vs.length=kvs.length:=rel.length.symm;have hss:ss.length=kvs.length:=by have:=congrArg List.length hks;simpa using this.symm
 have hh:X.A.handled=none:=I.ok.hd hc;refine Calls.call_function_entry kind_sorted plain_sorted entry_sorted (args_sorted1 _) ?_;unfold Builtin.«sorted»;refine wpAny_bind (m:=checkCount "sorted" 1 1 _) (wpAny_pure ?_);refine wpAny_bind (PySem.W.kdu_collect (A:=X.A.in1) (PySem.W.kdl_dict (knd:=aV X.prog X.w) (kvs:=vs) (ep:=ep) lo) hh hat (by rw[hlen];exact z) fun h' tk acc hk hacc=>?_)
 have hal:acc.toList.length=vs.length:=by rw[Array.length_toList];exact hacc.1
 refine wpAny_bind (wpAny_newList ?_ (by rw[hal,hlen];exact z))
 have hS:StrsAre acc.toList ss:=iu (by omega) fun j v e=>by
  obtain⟨k,x,e1,e2⟩:=hacc.2 j v (by rw[<- Array.getElem?_toList];exact e)
  have hj:j < kvs.length:=by have:=(List.getElem?_eq_some_iff.mp e1).1;omega
  have key:(kvs.map (·.1))[j]?=some k:=by
   have h2:∀{l:List (Key × V)} {m:List (Key × Value)} {j:Nat} {q:Key × Value},KV l m->m[j]?=some q->(l.map (·.1))[j]?=some q.1:=by
    intro l m;intro j q r;unfold KV at r;induction r generalizing j with
    | nil=>intro e;simp at e
    | cons h t ih =>
     intro e;cases j with
     | zero=>simp at e;subst e;simp[h.1]
     | succ j=>simp at e ⊢;have:=ih e;simpa using this
   exact h2 rel e1
  rw[hks,getElem?_map]at key;cases es:ss[j]? with
  | none=>rw[es]at key;cases key
  | some x' =>
   rw[es]at key;cases key;rcases bF (show im (Sum.inr x') v=true from e2) with ⟨i,t,e3,_⟩ | ⟨y,t,e3,e4⟩
   ·cases e3
   ·cases e3;exact⟨x',t,rfl,e4⟩
 have I1:Inv X pins σ H { s with heap:=h',toks:=tk }:=I.kept (t':=tk) hk;have hoL:(h'.push { cls:=.type "list",data:=.seq acc.toList.toArray }).get? h'.objs.size=some (seqObj "list" acc.toList.toArray 0):=get?_push_size _ rfl;refine wpAny_bind (wpAny_holding (wpAny_call_entry slot_list_sort ⟨_,hoL,rfl⟩ entry_list_sort (list_sort_treeK strKind_oneLt hoL hS.keysOf (fun v₁ v₂ rest e=>keyKind_strs (by rw[<- e];exact hS)) (by omega) fun st' hp hs=>⟨_,rfl,?_⟩) (args_list_sort _)))
 obtain⟨ss',h1,h2,h3⟩:=dS hS hp hs;refine wpAny_pure ⟨_,rfl,?_⟩;obtain⟨e,he⟩:=sortedHeap_at (out:=(arrOf st').map (·.2)) hoL;refine⟨.ref h'.objs.size,_,I1.laid (t':=tk) (a:=h'.objs.size) (o:=.lst (ss'.map V.str)) (fun b o e=>?_) (Nat.le_refl _) ?_,rfl,q h'.objs.size ss' _ (I1.hok.fresh (Nat.le_refl _)) (ca (I1.hok.fresh (Nat.le_refl _))) af h2 h3⟩
 ·have hb:=lt_size e;rw[sortedHeap_old (Nat.ne_of_lt hb) (by rw[Heap.size_push];exact Nat.lt_succ_of_lt hb)]
  exact get?_push_of_some _ e
 ·exact⟨by rw[length_map,h2.length_eq,hss];exact z,((arrOf st').map (·.2)).toList,e,hJ h1,by rw[Array.toArray_toList];exact he⟩
noncomputable def Itvl(a:Addr)(o:Obj)(kvs:List (Key × V)):It:=⟨fun i H=>H a=some (.frz o (.dK kvs))/\i < kvs.length,fun i H v H'=>H'=H/\∃k,kvs[i]?=some (k,v),fun i H=>H a=some (.frz o (.dK kvs))/\i=kvs.length⟩
theorem KV.at{l:List (Key × V)}{m:List (Key × Value)}(r:KV l m):∀{j:Nat}{q:Key × Value},m[j]?=some q->∃v,l[j]?=some (q.1,v)/\aT v q.2:=by
 unfold KV at r;induction r with
 | nil=>intro j q e;simp at e
 | cons h t ih =>
  intro j q e;cases j with
  | zero=>simp at e;subst e;exact⟨_,by rw[<- h.1];rfl,h.2⟩
  | succ j =>
   obtain⟨v,h1,h2⟩:=ih (j:=j) (q:=q) (by simpa using e)
   exact⟨v,by simpa using h1,h2⟩
theorem tf{P:Program}{w:World}{K:Frag}{tg:Expr}(a it:Addr)(o:Obj)(kvs:List (Key × V))(vs:List (Key × Value))(ep:Nat)(hne:a ≠ it)(hD:∀h:Heap,h.get? a=some o->h.DictAt (aV P w) a vs ep)(rel:KV kvs vs) :
  kX P w K tg (Itvl a o kvs) [it] it (fun i h=>h.IsValIter it a i vs.length ep) where
 mem:=by simp
 obj:=fun i h st b hb=>by
  have e:b=it:=by simpa using hb
  subst e;obtain⟨ob,e,c,d⟩:=st;exact⟨ob,e,fun v z=>by rw[d]at z;cases z⟩
 keep:=fun i h h' st k=>st.at fun ob e=>k it (by simp) ob e
 item:=by
  intro X hP hw hK hc i pins s σ H E I hf st hg;subst hP hw hK;obtain⟨ha,hi⟩:=hg;have hl:vs.length=kvs.length:=rel.length.symm;have hget:s.heap.get? a=some o:=(show bT X.prog X.w H s.heap a (.frz o (.dK kvs)) from I.hok a _ ha).1;refine(Walks.dictValues (knd:=aV X.prog X.w) (A:=X.A) (I.ok.hd hc) it a hne vs ep).item i s _ _ (by omega) ⟨st,hD _ hget⟩ fun v h' tk hv st' kk=>?_
  obtain⟨k,hk⟩:=hv;obtain⟨x,hx,rx⟩:=KV.at rel hk;have I1:Inv X pins σ H { s with heap:=h',toks:=tk }:=I.turnedL (ch:=[it]) kk (fun b hb=>hf b hb);obtain⟨ob,eo,co,d⟩:=id st'.1;exact⟨_,rfl,ip (s:={ s with heap:=h',toks:=tk }) (n:="dict_valueiterator") eo co d (by decide) ⟨x,H,I1,rx,⟨rfl,k,hx⟩,st'.1,fun b hb=>(hf b hb).1⟩⟩
 done:=by
  intro X hP hw hK hc i pins s σ H E I hf st hg;subst hP hw hK;obtain⟨ha,hi⟩:=hg;have hl:vs.length=kvs.length:=rel.length.symm;have hget:s.heap.get? a=some o:=(show bT X.prog X.w H s.heap a (.frz o (.dK kvs)) from I.hok a _ ha).1;subst hi;rw[<- hl]at st;exact(Walks.dictValues (knd:=aV X.prog X.w) (A:=X.A) (I.ok.hd hc) it a hne vs ep).done s _ _ ⟨st,hD _ hget⟩ fun h' tk kk=>⟨rfl,I.turnedL (ch:=[it]) kk (fun b hb=>hf b hb)⟩
 self:=fun _ _ _ _ _ st h=>wpAny_pyIter_valiter st h
section
variable{X:Cx}
theorem vV {tg e:Expr} {te:TE} {apos cpos:Pos} (he:PE X e te) (hbase:attributeBase e "values" X.env (eval e X.env)=eval e X.env:=by rfl) (hline:(apos.endLine == cpos.line)=true:=by rfl) :
  PI X tg (.Call (.Attribute e "values" apos) [] [] cpos) (fun σ H R=>te σ H fun x H1=>∃(a:Addr)(o:Obj) (kvs:List (Key × V)),x=.ref a/\H1 a=some (.frz o (.dK kvs))/\R (Itvl a o kvs) H1):=by
 intro pins s σ H R I h;refine wpAny_Call_method0_late hbase hline (thn (he pins s σ H _ I h) fun v s1 ⟨x,H1,I1,r1,a,o,kvs,ex,hd,q⟩=>?_);subst ex;cases r1;obtain⟨z,lo,vs,rel,dd⟩:=fc I1.hok (.inr ⟨o,hd⟩);have hg:s1.heap.get? a=some o:=(show bT X.prog X.w H1 s1.heap a (.frz o (.dK kvs)) from I1.hok a _ hd).1;obtain⟨o',es,ep,ho,hex,rest⟩:=id dd;rw[hg]at ho;cases ho;have hD:∀h:Heap,h.get? a=some o->h.DictAt (aV X.prog X.w) a vs ep:=fun h hg=>⟨o,es,hg,hex,rest⟩;refine⟨"dict","dict.values",PySem.F.plainAttrs_dict,PySem.F.slot_dict_values,PySem.F.type_dict_values,⟨o,hg,hex.1⟩,fun b e=>by cases e;exact⟨o,hg,hex.2.1⟩,Calls.callWith_builtin rfl (PySem.evalArgs_none ?_)⟩
 refine call_meetsIn PySem.F.slot_dict_values dd.typeIs PySem.F.entry_dict_values (PySem.F.args_dict_values_1 _) (meets_dict_values (aV X.prog X.w) a lo) ⟨⟨vs,dd⟩,?_⟩;have hlt:a < s1.heap.objs.size:=lt_size hg;have I2:Inv X pins σ H1 { s1 with heap:=s1.heap.push { cls:=.type "dict_values",data:=.fields #[.ref a] },toks:=s1.toks }:=I1.kept fun b u e=>get?_push_of_some _ e;refine wpAny_pyIter_values (s:={ s1 with heap:=s1.heap.push { cls:=.type "dict_values",data:=.fields #[.ref a] },toks:=s1.toks }) ⟨_,get?_push_size _ rfl,rfl,rfl⟩ (hD _ (get?_push_of_some _ hg)) ?_
 generalize hh2:s1.heap.push { cls:=.type "dict_values",data:=.fields #[.ref a] }=h2 at I2 ⊢;have hlt2:a < h2.objs.size:=by rw[<- hh2,Heap.size_push];exact Nat.lt_succ_of_lt hlt
 have nI:H1 h2.objs.size=none:=I2.hok.fresh (Nat.le_refl _);refine⟨h2.objs.size,[h2.objs.size],_,_,H1,rfl,I2.kept (t':=s1.toks) fun b u e=>get?_push_of_some _ e,tf a h2.objs.size o kvs vs ep (Nat.ne_of_lt hlt2) hD rel,⟨_,get?_push_size _ rfl,rfl,rfl⟩,fun b hb=>?_,q⟩
 have e:b=h2.objs.size:=by simpa using hb
 subst e;exact I2.fpOk (Nat.le_refl _) nI
end
theorem oq(a b:Int):Builtin.Range.rangeSize a b (-1)=if b < a then a - b else 0:=by
 unfold Builtin.Range.rangeSize;rw[if_neg (by decide)]
 by_cases h:b < a
 ·rw[if_pos h,if_pos h];show (a - b - 1) / 1 + 1=a - b;rw[Int.ediv_one];omega
 ·rw[if_neg h,if_neg h]
theorem vW{a b:Int}(ha:-(2 ^ 40) <= a)(ha':a < 2 ^ 40)(hb:-(2 ^ 40) <= b)(hb':b < 2 ^ 40):Builtin.Range.small a b (-1)=true:=by
 have h:=oq a b;unfold Builtin.Range.small;generalize Builtin.Range.rangeSize a b (-1)=n at h ⊢;have hn:0 <= n/\n <= 2 ^ 42:=by
  rw[h];split <;> omega
 simp only[Builtin.Range.rangeFitsLong,Bool.and_eq_true,Bool.or_eq_true,decide_eq_true_eq,beq_iff_eq,if_neg (show ¬(-1:Int) > 0 by decide)]
 omega
noncomputable def iRngD(ta:TA):TI:=fun σ H R=>ta σ H fun vs H1=>∃i j:Int,vs=[.int i,.int j,.int (-1)]/\(-(2 ^ 40) <= i/\i < 2 ^ 40/\-(2 ^ 40) <= j/\j < 2 ^ 40)/\R (Its i (-1) (i - j).toNat) H1
theorem tj {X:Cx} {tg:Expr} {a b c:Expr} {ta:TA} {p pos:Pos} (hg:Gl X "range") (hm:X.mg "range"=none) (ha:PA X [a,b,c] ta) (hs:starEach [a,b,c] X.env=(false,eval a X.env) :: starEach [b,c] X.env:=by rfl) (hs2:(backTo pos (starEach [b,c] X.env)).any (·.1)=false:=by rfl) :
  PI X tg (.Call (.Name "range" p) [a,b,c] [] pos) (iRngD ta):=by
 intro pins s σ H R I h;refine Call_ (dB I hg hm boot_range (PyProof.Rows.callWith_type1 (thn (ha pos pins s σ H _ I h) fun us s1 ⟨vs,H1,I1,r1,q1⟩=>?_) hs hs2));obtain⟨lo,hi,e,⟨q1,q2,q3,q4⟩,q⟩:=q1;subst e;cases r1 with
 | cons r rr =>
  cases rr with
  | cons r' rr =>
   cases rr with
   | cons r'' rr =>
    cases rr;obtain⟨t,rfl⟩:=r;obtain⟨t',rfl⟩:=r';obtain⟨t'',rfl⟩:=r'';refine call_range_3 (by omega) ?_ (.inl (PyProof.noPylong_small (by omega)))
    refine wpAny_pyIter_range (IsRange.new ..) (vW q1 q2 q3 q4) ?_;have I2:Inv X pins σ H1 { s1 with heap:=s1.heap.push { cls:=.type "range",data:=.fields #[.int lo t,.int hi t',.int (-1) t''] },toks:=s1.toks }:=I1.kept fun b o e=>get?_push_of_some _ e;refine⟨(s1.heap.push { cls:=.type "range",data:=.fields #[.int lo t,.int hi t',.int (-1) t''] }).objs.size,[(s1.heap.push { cls:=.type "range",data:=.fields #[.int lo t,.int hi t',.int (-1) t''] }).objs.size],_,_,H1,rfl,
     I2.kept (t':=s1.toks) fun b o e=>get?_push_of_some _ e,nq _ lo (-1) (lo - hi).toNat,?_,fun b hb=>?_,q⟩
    ·have e1:lo + ((0:Nat):Int) * (-1)=lo:=by simp
     have e2:(((lo - hi).toNat:Nat):Int) - ((0:Nat):Int)=Builtin.Range.rangeSize lo hi (-1):=by
      rw[oq];split <;> omega
     show IsRangeIter _ _ (lo + ((0:Nat):Int) * (-1)) ((((lo - hi).toNat:Nat):Int) - ((0:Nat):Int)) (-1);rw[e1,e2];exact get?_push_size _ rfl
    ·have e:b=(s1.heap.push { cls:=.type "range",data:=.fields #[.int lo t,.int hi t',.int (-1) t''] }).objs.size:=by simpa using hb
     subst e;exact I2.fpOk (Nat.le_refl _) (I2.hok.fresh (Nat.le_refl _))
theorem for_its{lo c:Int}{n:Nat}{g:TG}{tb:TS}{D:gT}{σ:St}{H:Hp}(Pv:Nat->St->Hp->Prop)(h0:Pv 0 σ H)
  (hs:∀i σ H,i < n->Pv i σ H->g (.int (lo + i * c)) σ H fun σ2 H2=>tb { D with nx:=Pv (i + 1),ct:=Pv (i + 1),bk:=D.nx } σ2 H2)(hd:∀σ H,Pv n σ H->D.nx σ H) :
  ∃W:Nat->Nat->St->Hp->Prop,(∃m,W 0 m σ H)/\∀i m σ H,W i m σ H ->
   ((Its lo c n).stop i H/\D.nx σ H)\/((Its lo c n).go i H/\∃N:St->Hp->Prop,(∀σ' H',N σ' H'->∃m',m' < m/\W (i + 1) m' σ' H')/\∀x H',(Its lo c n).yld i H x H'->g x σ H' fun σ2 H2=>tb { D with nx:=N,ct:=N,bk:=D.nx } σ2 H2):=by
 refine⟨fun i m σ H=>m=n - i/\i <= n/\Pv i σ H,⟨n,by simp,Nat.zero_le _,h0⟩,?_⟩
 rintro i m σ H ⟨rfl,hi,p⟩;by_cases hlt:i < n
 ·refine .inr ⟨hlt,Pv (i + 1),fun σ' H' p'=>⟨n - (i + 1),by omega,rfl,hlt,p'⟩,fun x H' y=>?_⟩
  obtain⟨e,y⟩:=y;subst e y;exact hs i σ _ hlt p
 ·have e:i=n:=by omega
  subst e;exact .inl ⟨Nat.le_refl _,hd σ H p⟩
theorem pe_tupZ{X:Cx}{es:List Expr}{t:TA}{pos:Pos}{x1:Nat}(h:PA X es t):PE X (.Tuple es x1 pos) (fun σ H Q=>t σ H fun xs H1=>xs.length <= sizeLine/\∀(p:Addr)(o:Obj)(H2:Hp),H1 p=none->ar H1 H2->o.dict=none->H2 p=some (.frz o (.tup xs))->Q (.ref p) H2):=by
 intro pins s σ H Q I hq;refine wpAny_Tuple_spliced (thn (h pos pins s σ H _ I hq) fun us s1 ⟨xs,H1,I1,r,z,q⟩=>⟨by rw[<- r.length];exact z,?_⟩)
 have hf:H1 s1.heap.objs.size=none:=I1.hok.fresh (Nat.le_refl _);refine⟨.ref s1.heap.objs.size,upd H1 s1.heap.objs.size (.frz { cls:=.type "tuple",data:=.seq us.toArray } (.tup xs)),I1.laid (t':=s1.toks) (fun b u e=>get?_push_of_some _ e) (Nat.le_refl _) ?_,rfl,q _ _ _ hf (ca hf) rfl af⟩
 exact⟨get?_push_size _ rfl,z,us,r,⟨_,get?_push_size _ rfl,rfl,_,rfl⟩⟩
end L2
namespace K45
open PySem L2
open K45T (Kvs Las Wk aS dr cF de fW bM cK)
open K45B (df eT fu)
abbrev pR:Stmt:=aC (top 53) 2
abbrev pS:Stmt:=aC (top 53) 7
abbrev jG:Stmt:=aC (top 53) 8
abbrev lS:Stmt:=aC (top 53) 9
abbrev lT:Stmt:=aC (top 53) 10
abbrev pT:Stmt:=aC (top 53) 14
theorem eV {st en:Addr}:(flR st en).lookup ("bench_at":Str)=none:=by kernel_rfl
theorem bN {st en:Addr}:(flR st en).lookup ("bench":Str)=none:=by kernel_rfl
theorem gu {st en:Addr}:(flR st en).lookup ("bench_place":Str)=none:=by kernel_rfl
theorem gP {st en:Addr}:(flR st en).lookup ("with_entry":Str)=none:=by kernel_rfl
theorem ee {st en:Addr}:(flR st en).lookup ("last_term":Str)=none:=by kernel_rfl
theorem Paired.catS{α β:Type}{R:α->β->Prop}{as cs:List α}{bs ds:List β}(h:Paired R as bs)(h2:Paired R cs ds):Paired R (as ++ cs) (bs ++ ds):=by
 induction h with
 | nil=>exact h2
 | cons r _ ih=>exact .cons r ih
theorem Paired.dropS{α β:Type}{R:α->β->Prop}{as:List α}{bs:List β}(h:Paired R as bs)(n:Nat):Paired R (as.drop n) (bs.drop n):=by
 induction h generalizing n with
 | nil=>rw[List.drop_nil,List.drop_nil];exact .nil
 | cons r h ih =>
  cases n with
  | zero=>exact .cons r h
  | succ k=>exact ih k
theorem Paired.rev{α β:Type}{R:α->β->Prop}{as:List α}{bs:List β}(h:Paired R as bs):Paired R as.reverse bs.reverse:=by
 induction h with
 | nil=>exact .nil
 | cons r _ ih =>
  rw[List.reverse_cons,List.reverse_cons];exact Paired.catS ih (.cons r .nil)
theorem Paired.get'{α β:Type}{R:α->β->Prop}{as:List α}{bs:List β}{i:Nat}{a:α}(h:Paired R as bs)(hi:as[i]?=some a):∃b,bs[i]?=some b/\R a b:=by
 induction h generalizing i with
 | nil=>simp at hi
 | cons r _ ih =>
  cases i with
  | zero=>cases hi;exact⟨_,rfl,r⟩
  | succ i=>exact ih hi
abbrev ci(xs:List En):List Int:=xs.map (·.1)
noncomputable def bnR(b:Bn):List En->Bn
 | []=>b
 | e :: r=>match e.2 with
  | .bn x=>x
  | _=>bnR b r
def bV(b:Bn)(xs:List En):Bn:=bnR b xs.reverse
theorem fP(b:Bn)(xs:List En)(e:En):bV b (xs ++ [e])=match e.2 with | .bn x=>x | _=>bV b xs:=by
 unfold bV;rw[List.reverse_append];rfl
theorem lU {H:Hp} {a:Addr} {e:En} (h:EnO H a e):∃(d:Addr)(k:Str)(r:List V),H a=some (.tup [.int e.1,.ref d])/\H d=some (.tup (.str k :: r))/\((∃x,e.2=.bn x/\decide (V.str k=V.str (Str.ofString "bench"))=true/\∃b,r=[.ref b]/\BnO H b x)\/((∀x,e.2 ≠ .bn x)/\decide (V.str k=V.str (Str.ofString "bench"))=false)):=by
 obtain⟨t,dd⟩:=e;obtain⟨d,h1,h2⟩:=h;cases dd with
 | fst=>exact⟨d,"first",_,h1,h2,.inr ⟨fun x z=>(by cases z),by decide +kernel⟩⟩
 | ask x n wk =>
  obtain⟨_,t,h3,_⟩:=h2;exact⟨d,"ask",_,h1,h3,.inr ⟨fun x z=>(by cases z),by decide +kernel⟩⟩
 | bn b =>
  obtain⟨a,h3,h4⟩:=h2;exact⟨d,"bench",_,h1,h3,.inl ⟨b,rfl,by decide +kernel,a,rfl,h4⟩⟩
theorem bnR_no{b:Bn}{e:En}{r:List En}(h:∀x,e.2 ≠ .bn x):bnR b (e :: r)=bnR b r:=by
 obtain⟨t,dd⟩:=e;cases dd with
 | fst=>rfl
 | ask x n wk=>rfl
 | bn x=>exact absurd rfl (h x)
theorem bnR_bn{b x:Bn}{e:En}{r:List En}(h:e.2=.bn x):bnR b (e :: r)=x:=by
 obtain⟨t,dd⟩:=e;have h:dd=.bn x:=h;subst h;rfl
structure pU(C:Addr)(H:Hp)(r st en:Addr)(pl tm:Int)(b hh aa:Addr)(es:List Addr)(xs:List En)(B:Bn):Prop where
 ro:df C H r st en pl tm [.ref b,.ref hh,.ref aa] es (ci xs)
 eo:Paired (EnO H) es xs
 bo:BnO H b B
theorem pU.same{C:Addr}{H H':Hp}{r st en:Addr}{pl tm:Int}{b hh aa:Addr}{es:List Addr}{xs:List En}{B:Bn}(e:ar H H')(h:pU C H r st en pl tm b hh aa es xs B):pU C H' r st en pl tm b hh aa es xs B:=⟨h.ro.same e,cg (Tk.of e) h.eo,h.bo.tk (Tk.of e)⟩
def fQ(C:Addr):Sp:=fun us H Q _=>∃(r st en:Addr)(pl tm:Int)(b hh aa:Addr)(es:List Addr)(xs:List En)(B:Bn)(k:Nat),us=[.ref r,.int (pl + k)]/\pU C H r st en pl tm b hh aa es xs B/\∀(a:Addr)(H':Hp),ar H H'->BnO H' a (bV B (xs.take k))->Q (.ref a) H'
def cA(C:Addr):Sp:=fun us H Q _=>∃(r st en:Addr)(pl tm:Int)(b hh aa:Addr)(es:List Addr)(xs:List En)(B:Bn),us=[.ref r]/\pU C H r st en pl tm b hh aa es xs B/\∀(a:Addr)(H':Hp),ar H H'->BnO H' a (bV B xs)->Q (.ref a) H'
def jH(C:Addr):Sp:=fun us H Q _=>∃(r st en:Addr)(pl tm:Int)(b hh aa:Addr)(es:List Addr)(xs:List En)(B:Bn),us=[.ref r]/\pU C H r st en pl tm b hh aa es xs B/\0 <= pl/\pl < 2 ^ 30/\∀p:Int,pl <= p->p <= pl + xs.length->Q (.int p) H
def iS(C:Addr):Sp:=fun us H Q _=>∃(r st en:Addr)(pl tm:Int)(sv:List V)(es:List Addr)(tms:List Int),us=[.ref r]/\df C H r st en pl tm sv es tms/\Q (.int (fu tm tms)) H
def lV(C:Addr):Sp:=fun us H Q _=>∃(r st en:Addr)(pl tm:Int)(sv:List V)(es:List Addr)(tms:List Int)(i j:Nat),us=[.ref r,.int (pl + i),.int (pl + j)]/\df C H r st en pl tm sv es tms/\i <= j/\j <= es.length/\∀t H',ar H H'->H' t=some (.tup (((es.drop i).take (j - i)).map V.ref))->Q (.ref t) H'
def lW(C:Addr):Sp:=fun us H Q _=>∃(r st en:Addr)(pl tm:Int)(sv:List V)(es:List Addr)(tms:List Int)(e:Addr),us=[.ref r,.ref e]/\df C H r st en pl tm sv es tms/\∀(r2 en2:Addr)(H':Hp),ar H H'->H r2=none->RowO C H' r2 st en2->H' en2=some (.tup ((es ++ [e]).map V.ref))->Q (.ref r2) H'
theorem cut_mid(es:List Addr)(i j:Nat)(h1:i <= j)(h2:j <= es.length):c6 (es.map V.ref) (some (i:Int)) (some (j:Int))=((es.drop i).take (j - i)).map V.ref:=by
 unfold c6;rw[length_map,HT.gF,HT.gF,<- List.map_drop,<- List.map_take,Nat.min_eq_left (by lia),Nat.min_eq_left (by lia)]
section
variable{K:Frag}{c:Cs}{H H':Hp}{g:Gs}
theorem ent_of{H:Hp}{es:List Addr}{xs:List En}(h:Paired (EnO H) es xs):∀(i:Nat)(e:Addr)(t:Int),es[i]?=some e->(ci xs)[i]?=some t->∃d,H e=some (.tup [.int t,.ref d]):=by
 induction h with
 | nil=>intro i e t he;simp at he
 | cons r _ ih =>
  intro i e t he ht;cases i with
  | zero =>
   cases he;cases ht;obtain⟨d,h1,_⟩:=r;exact⟨d,h1⟩
  | succ i=>exact ih i e t he ht
theorem aK.row(h:aK K c H g):∃hh aa,pU c.R H g.kr g.st g.en g.pl g.tm g.b hh aa g.es g.xs g.B0:=by
 obtain⟨⟨dw,h4⟩,dk,h5⟩:=id h.wg.wo;obtain⟨hh,aa,o,ps,as,h1,_⟩:=h.wg.so;have el:=h.wg.el;exact⟨hh,aa,⟨⟨dk,h5⟩,h1,h.wg.ho,by rw[length_map];exact Paired.length h.wg.eo,ent_of h.wg.eo,by lia⟩,h.wg.eo,h.bo⟩
theorem aK.setK{dx dk kr2 en2:Addr}{es2:List Addr}{xs2:List En}(h:aK K c H g)(e:BtO g.wr H H')(hw:H' g.wr=some (.ins c.W dx (flW g.t g.v g.s kr2)))(hr:H kr2=some (.ins c.R dk (flR g.st en2)))(he:H en2=some (.tup (es2.map V.ref)))(hp:Paired (EnO H) es2 xs2)(hl:es2.length <= 60)(ht:xs2.take (g.s - g.pl).toNat=g.xs.take (g.s - g.pl).toNat):aK K c H' { g with kr:=kr2,en:=en2,es:=es2,xs:=xs2 }:=by
 obtain⟨dy,h1⟩:=h.ob;obtain⟨⟨dw,h4⟩,dk0,h5⟩:=id h.wg.wo;have N:=h.ne;have k:=TkZ.ins e h4;have L:=h.ls.ins e h4;have nk:kr2 ≠ g.wr:=(bS "term" h4 hr (cr dI iz)).symm;refine⟨⟨dy,e _ _ N.wm.symm h1⟩,⟨⟨⟨dx,hw⟩,dk,e _ _ nk hr⟩,h.wg.so.tkz k,k.t _ _ he,cg k.t hp,hl,h.wg.ps,h.wg.ok,h.wg.kl,h.wg.ll⟩,?_,⟨L.y,L.r,L.g',L.f,L.s,L.nd⟩,h.bo.tk k.t⟩;have:=aS.keepT (fun u q=>e _ _ N.bw q) (fun u q=>e _ _ N.dw q) (fun u q=>e _ _ N.lw q) k h.tb;show aS K c.T H' g.bd g.d g.l (c8 g.bk.t (xs2.take (g.s - g.pl).toNat)).1 (c8 g.bk.t (xs2.take (g.s - g.pl).toNat)).2;rw[ht];exact this
theorem tp(b:Kvs × Las)(xs:List En)(i j:Nat)(h:i <= j):c8 b (xs.take j)=c8 (c8 b (xs.take i)) ((xs.drop i).take (j - i)):=by
 unfold c8;rw[<- List.foldl_append];have:xs.take j=xs.take i ++ (xs.drop i).take (j - i):=by
  obtain⟨k,rfl⟩:=Nat.le.dest h;rw[show i + k - i=k by lia,List.take_add]
 rw[this]
end
def jI(K:Frag)(c:Cs):Sp:=fun us H Q _=>∃(g:Gs)(s2:Int),us=[.ref g.m,.int s2]/\aK K c H g/\g.s <= s2/\s2 <= g.pl + g.es.length/\∀(r:Addr)(ts:List Addr)(H':Hp),aK K c H' { g with s:=s2 }->Fr g H H'->H' r=some (.tup (ts.map V.ref))->ts.length <= 60->(∀a ∈ ts,eS H' a)->Q (.ref r) H'
section
variable{P:Program}{w:World}{K:Frag}{mg:Str->Option Value}{base:Heap}{CH CM CT CW CR:Addr}
theorem kK:ao ["self","place","entry"] ["self","place"] (ah jG):=fsc (by decide +kernel)
theorem pV {f C:Addr} {fd:FuncData} (F:Fun K "bench_at" "Row.bench_at" jG f fd) (T:ClR K mg C) (hrev:mg "reversed"=none) (Mu:aD P w K mg base C 1 "up_to" ["self","place"] (K45B.gt C)):aI P w K mg base CX0 2 f fd ["self","place"] (fQ C):=by
 refine F.ok kK (fun vs H Q E h=>?_) (fun cdv A outer s H vs Q E hr h=>?_)
 ·obtain⟨r,st,en,pl,tm,b,hh,aa,es,xs,B,k,rfl,_⟩:=h;rfl
 ·obtain⟨r,st,en,pl,tm,b,hh,aa,es,xs,B,k,rfl,G,q⟩:=h;have hR:=G.ro;obtain⟨⟨dx,h1⟩,h2,h3,h4,h5,h6⟩:=id hR;have nd:=kK.nd;refine⟨_,ac (cD PassesOwn.never rfl (pi_revT (by rfl) hrev (ab (aQ Mu T.cl hr (pv 0) (ab (pv 1) ad)) ad)) (aO (i:=2) nd rfl (Or.inl rfl))
    (ai (bc (aG cw (aE az (aE az (pv 2) ag (fun _ _=>rfl)) ag (fun _ _=>rfl)) aq (aN _)) (ai (av (aE az (aE az (pv 2) ag (fun _ _=>rfl)) ag (fun _ _=>rfl)))) aF))) <|
   ai <| av <| aE az (am (pv 0) rfl) ag (fun _ _=>rfl),?_⟩
  dsimp only[aW,Cx.nox];refine ae fun K_ hK_=>?_;refine⟨_,rfl,r,dx,_,rfl,h1,rfl,_,rfl,r,st,en,pl,tm,_,es,ci xs,k,rfl,hR,fun t H1 s1 e1=>?_⟩;refine⟨t,_,rfl,SqT.of e1,for_rev (xs:=(es.take k).map V.ref) (fun i σ Hx=>∃(v:Option V),σ=[some (V.ref r),some (.int (pl + (k:Int))),v]/\ar H1 Hx/\bV B (xs.take k)=bnR B ((xs.take k).reverse.drop i)) ⟨none,rfl,ar.refl _,rfl⟩ ?_ ?_ ?_⟩
  ·rintro i σ Hx hi ⟨v,rfl,sx,_⟩;exact SqT.of (sx _ _ e1)
  ·rintro i x σ Hx hx ⟨v,rfl,sx,hb⟩;rw[<- List.map_reverse,getElem?_map]at hx;cases he:(es.take k).reverse[i]? with
   | none=>rw[he]at hx;cases hx
   | some e =>
    rw[he]at hx;cases hx;have sH:=s1.trans sx;obtain⟨y,hy,hE⟩:=Paired.get' (Paired.rev (Paired.take' (cg (Tk.of sH) G.eo) k)) he;have hdr:(xs.take k).reverse.drop i=y :: (xs.take k).reverse.drop (i + 1):=by
     rw[List.drop_eq_getElem_cons (List.getElem?_eq_some_iff.mp hy).1,(List.getElem?_eq_some_iff.mp hy).2]
    obtain⟨d,kd,rr,g1,g2,g3⟩:=lU hE;refine⟨_,rfl,ex4 e _ _ _ ⟨rfl,rfl,SqT.of g1,at1,ex4 d _ _ _ ⟨rfl,rfl,SqT.of g2,at0,rfl,_,rfl,?_⟩⟩⟩;rcases g3 with ⟨x,g3,g4,ba,rfl,g5⟩ | ⟨g3,g4⟩
    ·rw[g4];refine cm ?_;refine⟨_,rfl,ex4 e _ _ _ ⟨rfl,rfl,SqT.of g1,at1,ex4 d _ _ _ ⟨rfl,rfl,SqT.of g2,at1,?_⟩⟩⟩;refine q ba Hx sH ?_;rw[hb,hdr,bnR_bn g3];exact g5
    ·rw[g4];refine bI ⟨_,rfl,sx,?_⟩;rw[hb,hdr,bnR_no g3]
  ·rintro σ Hx ⟨v,rfl,sx,hb⟩;have sH:=s1.trans sx;refine hK_ _ _ ?_;refine⟨_,rfl,ex5 r C dx _ _ ⟨rfl,sH _ _ h1,T.cl,T.nS,ju,ex4 st _ _ _ ⟨rfl,rfl,SqT.of (sH _ _ h2),uV,q b Hx sH ?_⟩⟩⟩;have hlen:((es.take k).map V.ref).length=(xs.take k).length:=by rw[length_map];exact Paired.length (Paired.take' G.eo k)
   rw[hb,hlen,List.drop_of_length_le (by rw[List.length_reverse];exact Nat.le_refl _)]
   exact G.bo.tk (Tk.of sH)
theorem vX:ao ["self"] ["self"] (ah lS):=fsc (by decide +kernel)
theorem tq {f C:Addr} {fd:FuncData} (F:Fun K "bench" "Row.bench" lS f fd) (T:ClR K mg C) (Ml:aD P w K mg base C 1 "last_place" ["self"] (K45B.cR C)) (Mb:aD P w K mg base C 2 "bench_at" ["self","place"] (fQ C)):aI P w K mg base CX0 3 f fd ["self"] (cA C):=by
 refine F.ok vX (fun vs H Q E h=>?_) (fun cdv A outer s H vs Q E hr h=>?_)
 ·obtain⟨r,st,en,pl,tm,b,hh,aa,es,xs,B,rfl,_⟩:=h;rfl
 ·obtain⟨r,st,en,pl,tm,b,hh,aa,es,xs,B,rfl,G,q⟩:=h;obtain⟨⟨dx,h1⟩,_⟩:=id G.ro;have r1:aP 1 _:=hr.mono (by decide)
  refine⟨_,ai <| av <| aQ Mb T.cl hr (pv 0) (ab (aw Ml T.cl r1 (pv 0)) ad),?_⟩;refine⟨_,rfl,r,dx,_,rfl,h1,eV,_,rfl,r,dx,_,rfl,h1,bi,r,st,en,pl,tm,_,es,_,rfl,G.ro,r,st,en,pl,tm,b,hh,aa,es,xs,B,(ci xs).length,rfl,G,fun a H' s' h'=>q a H' s' ?_⟩;rw[length_map,take_of_length_le (Nat.le_refl _)]at h';exact h'
theorem scLastT:ao ["self"] ["self"] (ah pR):=fsc (by decide +kernel)
theorem vY {f C:Addr} {fd:FuncData} (F:Fun K "last_term" "Row.last_term" pR f fd) (T:ClR K mg C) (Ml:aD P w K mg base C 1 "last_place" ["self"] (K45B.cR C)) (Mt:aD P w K mg base C 2 "term_at" ["self","place"] (K45B.fw C)):aI P w K mg base CX0 3 f fd ["self"] (iS C):=by
 refine F.ok scLastT (fun vs H Q E h=>?_) (fun cdv A outer s H vs Q E hr h=>?_)
 ·obtain⟨r,st,en,pl,tm,sv,es,tms,rfl,_⟩:=h;rfl
 ·obtain⟨r,st,en,pl,tm,sv,es,tms,rfl,hR,q⟩:=h;obtain⟨⟨dx,h1⟩,_⟩:=id hR;have r1:aP 1 _:=hr.mono (by decide)
  refine⟨_,ai <| av <| aQ Mt T.cl hr (pv 0) (ab (aw Ml T.cl r1 (pv 0)) ad),?_⟩;refine⟨_,rfl,r,dx,_,rfl,h1,dJ,_,rfl,r,dx,_,rfl,h1,bi,r,st,en,pl,tm,_,es,_,rfl,hR,r,st,en,pl,tm,_,es,tms,_,rfl,hR,?_⟩;rw[K45B.pE];exact q
theorem scRBetw:ao ["self","before","place"] ["self","before","place"] (ah pS):=fsc (by decide +kernel)
theorem vZ {f:Addr} {fd:FuncData} (F:Fun K "between" "Row.between" pS f fd) (T:ClR K mg CR):aI P w K mg base CX0 1 f fd ["self","before","place"] (lV CR):=by
 refine F.ok scRBetw (fun vs H Q E h=>?_) (fun cdv A outer s H vs Q E hr h=>?_)
 ·obtain⟨r,st,en,pl,tm,sv,es,tms,i,j,rfl,_⟩:=h;rfl
 ·obtain⟨r,st,en,pl,tm,sv,es,tms,i,j,rfl,⟨⟨dx,h1⟩,h2,h3,h4,h5,h6⟩,hij,hj,q⟩:=h;refine⟨_,ai <| av <| bU cN (am (pv 0) rfl) (bW (aL dR (pv 1) (aE az (am (pv 0) rfl) ag (fun _ _=>rfl)))) (bW (aL dR (pv 2) (aE az (am (pv 0) rfl) ag (fun _ _=>rfl)))),?_⟩;dsimp only[aW,Cx.nox];refine⟨_,rfl,ex5 r CR dx _ _ ⟨rfl,h1,T.cl,T.nE,K45B.ic _ _,_,rfl,_,rfl,ex5 r CR dx _ _ ⟨rfl,h1,T.cl,T.nS,K45B.dX _ _,st,_,_,_,rfl,rfl,SqT.of h2,at0,_,_,rfl,rfl,_,rfl,_,rfl,_,rfl,ex5 r CR dx _ _ ⟨rfl,h1,T.cl,T.nS,K45B.dX _ _,st,_,_,_,rfl,rfl,SqT.of h2,at0,_,_,rfl,rfl,_,rfl,en,_,rfl,h3,fun t H' s' e'=>q t H' s' ?_⟩⟩⟩⟩;rw[show pl + (i:Int) - pl=(i:Int) by lia,show pl + (j:Int) - pl=(j:Int) by lia,cut_mid _ _ _ hij hj]at e'
  exact e'
theorem ot:ao ["self","place"] ["self"] (ah lT):=fsc (by decide +kernel)
theorem tw {f C:Addr} {fd:FuncData} (F:Fun K "bench_place" "Row.bench_place" lT f fd) (T:ClR K mg C) (hrng:mg "range"=none) (Ml:aD P w K mg base C 1 "last_place" ["self"] (K45B.cR C)) (Me:aD P w K mg base C 1 "entry_at" ["self","place"] (K45B.iR C)):aI P w K mg base CX0 2 f fd ["self"] (jH C):=by
 refine F.ok ot (fun vs H Q E h=>?_) (fun cdv A outer s H vs Q E hr h=>?_)
 ·obtain⟨r,st,en,pl,tm,b,hh,aa,es,xs,B,rfl,_⟩:=h;rfl
 ·obtain⟨r,st,en,pl,tm,b,hh,aa,es,xs,B,rfl,G,p0,p1,q⟩:=h;have nd:=ot.nd;have hR:=G.ro;obtain⟨⟨dx,h1⟩,h2,h3,h4,h5,h6⟩:=id hR;have r1:aP 1 _:=hr.mono (by decide)
  have hel:es.length=xs.length:=Paired.length G.eo;refine⟨_,ac (cD PassesOwn.never rfl (tj (by rfl) hrng (ab (aw Ml T.cl r1 (pv 0)) (ab (aE az (am (pv 0) rfl) ag (fun _ _=>rfl)) (ab (tU oO ag) ad)))) (aO (i:=1) nd rfl (Or.inl rfl))
    (ai (bc (aG cw (aE az (aE az (aQ Me T.cl r1 (pv 0) (ab (pv 1) ad)) ag (fun _ _=>rfl)) ag (fun _ _=>rfl)) aq (aN _)) (ai (av (pv 1))) aF))) <|
   ai <| av <| aE az (am (pv 0) rfl) ag (fun _ _=>rfl),?_⟩
  dsimp only[aW,Cx.nox];refine ae fun K_ hK_=>?_;refine⟨_,rfl,r,dx,_,rfl,h1,bi,r,st,en,pl,tm,_,es,_,rfl,hR,_,rfl,ex5 r C dx _ _ ⟨rfl,h1,T.cl,T.nS,ju,ex4 st _ _ _ ⟨rfl,rfl,SqT.of h2,at0,_,rfl,_,_,rfl,⟨by rw[length_map];lia,by rw[length_map];lia,by lia,by lia⟩,?_⟩⟩⟩
  rw[length_map,show (pl + ((xs.length:Nat):Int) - pl).toNat=xs.length by lia]
  refine for_its (lo:=pl + (xs.length:Int)) (c:=-1) (n:=xs.length) (fun i σ Hx=>∃(v:Option V),σ=[some (V.ref r),v]/\Hx=H) ⟨none,rfl,rfl⟩ ?_ ?_
  ·rintro i σ Hx hi ⟨v,rfl,rfl⟩;have e1:pl + (xs.length:Int) + (i:Int) * (-1)=pl + 1 + ((xs.length - 1 - i:Nat):Int):=by lia
   rw[e1];have hk:xs.length - 1 - i < es.length:=by lia
   obtain⟨y,hy,hE⟩:=Paired.get' G.eo (getElem?_eq_getElem hk);obtain⟨d,kd,rr,g1,g2,g3⟩:=lU hE;refine⟨_,rfl,r,dx,_,rfl,h1,iH,_,rfl,r,st,en,pl,tm,_,es,_,_,_,rfl,hR,getElem?_eq_getElem hk,ex4 _ _ _ _ ⟨rfl,rfl,SqT.of g1,at1,ex4 d _ _ _ ⟨rfl,rfl,SqT.of g2,at0,rfl,_,rfl,?_⟩⟩⟩
   refine dl (fun _=>⟨_,rfl,q _ (by lia) (by lia)⟩) (fun _=>⟨_,rfl,rfl⟩)
  ·rintro σ Hx ⟨v,rfl,rfl⟩;refine hK_ _ _ ?_;exact⟨_,rfl,ex5 r C dx _ _ ⟨rfl,h1,T.cl,T.nS,ju,ex4 st _ _ _ ⟨rfl,rfl,SqT.of h2,at0,q _ (by lia) (by lia)⟩⟩⟩
theorem scWithE:ao ["self","entry"] ["self","entry"] (ah pT):=fsc (by decide +kernel)
theorem v0 {f C:Addr} {fd:FuncData} (F:Fun K "with_entry" "Row.with_entry" pT f fd) (T:ClR K mg C) (Mi:dU P w K mg base C 1 ["self","stand","entries"] (K45B.gr C)):aI P w K mg base CX0 3 f fd ["self","entry"] (lW C):=by
 refine F.ok scWithE (fun vs H Q E h=>?_) (fun cdv A outer s H vs Q E hr h=>?_)
 ·obtain⟨r,st,en,pl,tm,sv,es,tms,e,rfl,_⟩:=h;rfl
 ·obtain⟨r,st,en,pl,tm,sv,es,tms,e,rfl,⟨⟨dx,h1⟩,h2,h3,h4,h5,h6⟩,q⟩:=h;have hs16:sizeLine=16777216:=sizeLine_eq;have r2:aP 2 _:=hr.mono (by decide)
  refine⟨_,ai <| av <| cn Mi r2 T.mgC (ab (am (pv 0) rfl) (ab (aL dq (am (pv 0) rfl) (aH (ab (pv 1) ad))) ad)),?_⟩;dsimp only[aW,Cx.nox];refine⟨_,rfl,ex5 r C dx _ _ ⟨rfl,h1,T.cl,T.nS,K45B.dX _ _,_,rfl,ex5 r C dx _ _ ⟨rfl,h1,T.cl,T.nE,K45B.ic _ _,_,rfl,(show 1 <= sizeLine by lia),fun p1 H1 n1 s1 e1=>?_⟩⟩⟩
  refine⟨en,p1,_,_,rfl,rfl,s1 _ _ h3,e1,by rw[length_map];show _ + 1 <= _;lia,fun p2 H2 s2 e2=>?_⟩
  intro r9 dx9 nr9 ndx9 nex9;have nr9':upd H2 dx9 (.own r9) r9=none:=by rw[au nex9.symm];exact nr9
  have s9:ar H2 (upd (upd H2 dx9 (.own r9)) r9 (.ins C dx9 [])):=(ar.new ndx9).trans (ar.new nr9');refine⟨r9,dx9,st,p2,_,rfl,af,s9 _ _ e2,fun H6 k6 e6=>⟨rfl,?_⟩⟩;have sm:ar H2 H6:=fun b o h=>k6 b o (ak h nr9) (s9 b o h);refine q r9 p2 H6 ((s1.trans s2).trans sm) ((s1.trans s2).free nr9) ⟨dx9,e6⟩ ?_;rw[List.map_append];exact sm _ _ e2
theorem ou:ao ["self","place","entries"] ["self","place"] (ah lJ):=fsc (by decide +kernel)
theorem tz {f:Addr} {fd:FuncData} (F:Fun K "settle_to" "Mind.settle_to" lJ f fd) (TM:ClM K mg CM) (TW:ClW K mg CW) (TR:ClR K mg CR) (Mr:aD P w K mg base CM 1 "row" ["self"] (cx K ⟨CH,CM,CT,CW,CR⟩)) (Ms:aD P w K mg base CM 1 "settled" ["self"] (eL K ⟨CH,CM,CT,CW,CR⟩)) (Mb:aD P w K mg base CR 1 "between" ["self","before","place"] (lV CR)) (Mw:aD P w K mg base CW 1 "settle_to" ["self","place"] (pK CW)) (Fa:aJ P w K mg base 4 "asks_done" ["table","entries"] (spAD K CT)):aI P w K mg base CX0 5 f fd ["self","place"] (jI K ⟨CH,CM,CT,CW,CR⟩):=by
 refine F.ok ou (fun vs H Q E h=>?_) (fun cdv A outer s H vs Q E hr h=>?_)
 ·obtain⟨g,s2,rfl,_⟩:=h;rfl
 ·obtain⟨g,s2,rfl,G,hs,hl,q⟩:=h;have nd:=ou.nd;have r1:aP 1 _:=hr.mono (by decide)
  refine⟨_,ac (aB (i:=2) nd rfl (Or.inl rfl) (aQ Mb TR.cl r1 (aw Mr TM.cl r1 (pv 0)) (ab (aw Ms TM.cl r1 (pv 0)) (ab (pv 1) ad)))) <|
   ac (aZ (aQ Mw TW.cl r1 (am (pv 0) rfl) (ab (pv 1) ad))) <|
   ai <| av <| aj Fa hr (ab (am (pv 0) rfl) (ab (pv 2) ad)),?_⟩
  dsimp only[aW,Cx.nox];obtain⟨dy,h2⟩:=G.ob;obtain⟨⟨dz,h3⟩,dk,h5⟩:=id G.wg.wo;obtain⟨hh,aa,R⟩:=G.row;have ps:=G.wg.ps;have hxl:g.es.length=g.xs.length:=Paired.length G.wg.eo;obtain⟨i,hi⟩:=Int.eq_ofNat_of_zero_le (show 0 <= g.s - g.pl by lia)
  obtain⟨j,hj⟩:=Int.eq_ofNat_of_zero_le (show 0 <= s2 - g.pl by lia)
  have hij:i <= j:=by lia
  refine ae fun K_ hK_=>?_;refine⟨_,rfl,g.m,dy,_,rfl,h2,bv,g,rfl,G,g.kr,dk,_,rfl,h5,fq,_,rfl,g.m,dy,_,rfl,h2,bR,g,rfl,G,_,rfl,g.kr,g.st,g.en,g.pl,g.tm,_,g.es,ci g.xs,i,j,?_,R.ro,hij,by lia,fun t H1 s1 e1=>?_⟩
  ·show [V.ref g.kr,V.int g.s,V.int s2]=[V.ref g.kr,V.int (g.pl + (i:Int)),V.int (g.pl + (j:Int))];rw[show g.pl + (i:Int)=g.s by lia,show g.pl + (j:Int)=s2 by lia]
  have G1:=G.same s1;refine hK_ _ _ (ae fun K_ hK_=>?_);refine⟨_,rfl,g.m,CM,dy,_,_,rfl,s1 _ _ h2,TM.cl,TM.n3,cQ,g.wr,dz,_,rfl,s1 _ _ h3,ib,_,rfl,g.wr,dz,g.kr,g.t,g.s,s2,g.v,rfl,s1 _ _ h3,fun H2 b2 e2=>?_⟩;have N:=G.ne;have k2:=TkZ.ins b2 (s1 _ _ h3);have m2:H2 g.m=some (.ins CM dy g.flm):=b2 _ _ N.wm.symm (s1 _ _ h2);have T2:=aS.keepT (fun u q=>b2 _ _ N.bw q) (fun u q=>b2 _ _ N.dw q) (fun u q=>b2 _ _ N.lw q) k2 G1.tb;have hel:=G.wg.el;have hkl:=g.bk.l1;have hll:=g.bk.l2;have rl:=jt (g.xs.take (g.s - g.pl).toNat) g.bk.t;have tl:(g.xs.take (g.s - g.pl).toNat).length <= 60:=by rw[length_take];lia
  have t2l:((g.es.drop i).take (j - i)).length <= 400:=by rw[length_take,length_drop];lia
  have okT:=lB (s:=g.bk.t) g.bk.ok (g.xs.take (g.s - g.pl).toNat);have r1':=rl.1;have r2':=rl.2;have et:H2 t=some (.tup (((g.es.drop i).take (j - i)).map V.ref)):=k2.t _ _ e1;have ep:Paired (EnO H2) ((g.es.drop i).take (j - i)) ((g.xs.drop i).take (j - i)):=Paired.take' (Paired.dropS (cg k2.t G1.wg.eo) _) _;refine hK_ _ _ ?_;refine⟨_,rfl,g.m,CM,dy,_,_,rfl,m2,TM.cl,TM.n5,flG_b,_,rfl,g.bd,g.d,g.l,t,g.tab,(g.es.drop i).take (j - i),(g.xs.drop i).take (j - i),rfl,T2,okT,(by unfold Gs.tab;lia),(by unfold Gs.tab;lia),et,ep,t2l,fun r ts H3 T3 b3 er tsl told=>?_⟩
  have N1:g.m ≠ g.d/\g.m ≠ g.l/\g.wr ≠ g.d/\g.wr ≠ g.l:=⟨N.dm.symm,N.lm.symm,N.dw.symm,N.lw.symm⟩;obtain⟨⟨dx6,h6⟩,h7,⟨lk,h8,h9⟩,h10⟩:=id T2;have k3:TkZ H2 H3:=⟨fun a xs e=>b3 _ _ e (ax e h7 (by intro z;cases z)) (ax e h8 (by intro z;cases z)),fun a o y e=>b3 _ _ e (ax e h7 (by intro z;cases z)) (ax e h8 (by intro z;cases z))⟩
  have k23:=k2.trans k3;have hrk:H2 g.kr=some (.ins CR dk (flR g.st g.en)):=b2 _ _ N.kw (s1 _ _ h5);have L3:=(G1.ls.ins b2 (s1 _ _ h3)).two b3 ⟨_,h7⟩ ⟨_,h8⟩;refine q r ts H3 ⟨⟨dy,b3 _ _ m2 N1.1 N1.2.1⟩,⟨⟨⟨dz,b3 _ _ e2 N1.2.2.1 N1.2.2.2⟩,dk,b3 _ _ hrk (ax hrk h7 (by intro z;cases z)) (ax hrk h8 (by intro z;cases z))⟩,G1.wg.so.tkz k23,k23.t _ _ G1.wg.ho,cg k23.t G1.wg.eo,hel,show g.pl <= s2 by lia,G.wg.ok,G.wg.kl,G.wg.ll⟩,?_,⟨L3.y,L3.r,L3.g',L3.f,L3.s,L3.nd⟩,G1.bo.tk k23.t⟩ (fun x u n e=>?_) er (by rw[length_take,length_drop]at tsl;lia) told
  rotate_left
  ·simp only[List.mem_cons,not_mem_nil,or_false,not_or]at n;exact b3 _ _ (b2 _ _ n.2.1 (s1 _ _ e)) n.2.2.2.1 n.2.2.2.2.1
  show aS K CT H3 g.bd g.d g.l (c8 g.bk.t (g.xs.take (s2 - g.pl).toNat)).1 (c8 g.bk.t (g.xs.take (s2 - g.pl).toNat)).2;rw[tp g.bk.t g.xs (g.s - g.pl).toNat (s2 - g.pl).toNat (by lia),show (g.s - g.pl).toNat=i by lia,show (s2 - g.pl).toNat=j by lia]
  rw[show g.tab=c8 g.bk.t (g.xs.take i) by unfold Gs.tab;rw[show (g.s - g.pl).toNat=i by lia]]at T3
  exact T3
end
end K45
namespace K45
open PySem L2
abbrev sSpk:Stmt:=top 17
abbrev sMem:Stmt:=top 18
abbrev lX:Stmt:=top 19
abbrev qY:Stmt:=top 20
abbrev wb:Stmt:=top 21
abbrev jJ:Stmt:=top 22
noncomputable def cnt(ps xs:List Str):Nat:=(ps.filter fun p=>decide (p ∈ xs)).length
noncomputable def fB(ps xs:List Str):Bool:=decide (ps.length < 2 * cnt ps xs)
noncomputable def bB(b:Bn)(xs:List Str):Bool:=fB b.vs xs && (decide (b.cs=[]) || fB b.cs xs)
structure Ord(xs zs:List Str):Prop where
 pw:zs.Pairwise leS
 nd:zs.Nodup
 mem:∀z,z ∈ zs ↔ z ∈ xs
theorem Ord.eq{xs zs zs':List Str}(a:Ord xs zs)(b:Ord xs zs'):zs=zs':=nM a.pw b.pw a.nd b.nd fun z=>(a.mem z).trans (b.mem z).symm
def Nms(K:Frag)(H:Hp)(t:Addr)(xs:List Str):Prop:=SqL K H t (xs.map V.str)\/SqT K H t (xs.map V.str)
theorem wc{K:Frag}{H H':Hp}{x:Addr}{ys:List V}(e:ar H H')(h:SqL K H x ys):SqL K H' x ys:=by
 rcases h with h | h
 ·refine .inl ?_;rcases h with h | ⟨u,h⟩
  ·exact .inl (e _ _ h)
  ·exact .inr ⟨u,e _ _ h⟩
 ·exact .inr h
theorem Nms.same{K:Frag}{H H':Hp}{t:Addr}{xs:List Str}(e:ar H H')(h:Nms K H t xs):Nms K H' t xs:=by
 rcases h with h | h
 ·exact .inl (wc e h)
 ·exact .inr (eK e h)
def qZ:Sp:=fun us H Q _=>∃(b:Addr)(B:Bn),us=[.ref b]/\BnO H b B/\∀(t:Addr)(zs:List Str)(H':Hp),ar H H'->H' t=some (.tup (zs.map V.str))->Ord (B.vs ++ B.cs) zs->zs.length <= 18->Q (.ref t) H'
def we:Sp:=fun us H Q _=>∃(b:Addr)(B:Bn),us=[.ref b]/\BnO H b B/\∀(t:Addr)(zs:List Str)(H':Hp),ar H H'->H' t=some (.tup (zs.map V.str))->Ord ((B.vs ++ B.cs) ++ B.ls) zs->zs.length <= 27->Q (.ref t) H'
def ei:Sp:=fun us H Q _=>∃(b:Addr)(B:Bn),us=[.ref b]/\BnO H b B/\Q (.bl (decide (B.cs ≠ []))) H
def pW(K:Frag):Sp:=fun us H Q _=>∃(p t:Addr)(ps xs:List Str),us=[.ref p,.ref t]/\H p=some (.tup (ps.map V.str))/\Nms K H t xs/\ps.length <= 100/\∀H',ar H H'->Q (.bl (fB ps xs)) H'
def lY(K:Frag):Sp:=fun us H Q _=>∃(b t:Addr)(B:Bn)(xs:List Str),us=[.ref b,.ref t]/\BnO H b B/\Nms K H t xs/\∀H',ar H H'->Q (.bl (bB B xs)) H'
abbrev bhd(B:Bn):Bn:=⟨B.cs,[],B.ls⟩
def ie:Sp:=fun us H Q _=>∃(b:Addr)(B:Bn),us=[.ref b]/\BnO H b B/\B.cs ≠ []/\∀(p:Addr)(H':Hp),ar H H'->BnO H' p (bhd B)->Q (.ref p) H'
theorem ndM:((["side","names"]:List Str) ++ (["name"]:List Str)).Nodup:=by decide +kernel
theorem at2{α:Type}{a b c:α}{r:List α}:atI (a :: b :: c :: r) 2=some c:=cX (j:=2) rfl
theorem q0(ps xs:List Str):decide ((ps.length:Int) < 2 * (((ps.filter fun p=>decide (p ∈ xs)).length:Nat):Int))=fB ps xs:=by
 unfold fB cnt;rw[Bool.eq_iff_iff,decide_eq_true_iff,decide_eq_true_iff];lia
theorem kL:∀{zs xs:List Str},zs.Nodup->(∀z ∈ zs,z ∈ xs)->zs.length <= xs.length
 | [],xs,_,_=>Nat.zero_le _
 | z :: r,xs,h,hs=>by
  have hz:=hs z (by simp)
  have h2:=List.nodup_cons.mp h;have ih:=kL (zs:=r) (xs:=xs.erase z) h2.2 fun y hy=>(List.mem_erase_of_ne (fun(e:y=z)=>h2.1 (by rw[<- e];exact hy))).mpr (hs y (by simp[hy]))
  rw[List.length_erase_of_mem hz]at ih;have:=List.length_pos_of_mem hz;rw[length_cons];lia
theorem lZ{xs zs:List Str}(h:Ord xs zs):zs.length <= xs.length:=by
 exact kL h.nd fun z hz=>(h.mem z).mp hz
section
variable{P:Program}{w:World}{K:Frag}{mg:Str->Option Value}{base:Heap}
theorem wf:ao ["bench"] ["bench"] (ah lX):=fsc (by decide +kernel)
theorem tD {f:Addr} {fd:FuncData} (F:Fun K "is_joined" "is_joined" lX f fd) (hlen:mg "len"=none):aI P w K mg base CX0 1 f fd ["bench"] ei:=by
 refine F.ok wf (fun us H Q E h=>?_) (fun cdv A outer s H us Q E hr h=>?_)
 ·obtain⟨b,B,rfl,_⟩:=h;rfl
 ·obtain⟨b,B,rfl,⟨⟨v,c,l,hb,hv,hc,hl⟩,_⟩,q⟩:=h;refine⟨_,ai <| av <| cB mY (bq a9 (by rfl) hlen PySem.boot_len (ab (aE az (pv 0) ag (fun _ _=>rfl)) ad)) ag (aN _),?_⟩
  refine⟨_,rfl,b,_,_,_,rfl,rfl,SqT.of hb,at1,c,_,rfl,.inr (SqT.of hc),_,_,rfl,rfl,?_⟩;rw[length_map];have e:decide ((0:Int) < (B.cs.length:Int))=decide (B.cs ≠ []):=by
   rw[Bool.eq_iff_iff,decide_eq_true_iff,decide_eq_true_iff,<- List.length_pos_iff];lia
  show Q (.bl (decide ((0:Int) < (B.cs.length:Int)))) H;rw[e];exact q
theorem scSpk:ao ["bench"] ["bench"] (ah sSpk):=fsc (by decide +kernel)
theorem ok_spk {f:Addr} {fd:FuncData} (F:Fun K "speakers" "speakers" sSpk f fd) (htup:mg "tuple"=none) (hsor:mg "sorted"=none) (hset:mg "set"=none):aI P w K mg base CX0 1 f fd ["bench"] qZ:=by
 refine F.ok scSpk (fun us H Q E h=>?_) (fun cdv A outer s H us Q E hr h=>?_)
 ·obtain⟨b,B,rfl,_⟩:=h;rfl
 ·obtain⟨b,B,rfl,⟨⟨v,c,l,hb,hv,hc,hl⟩,v9,c9,l9⟩,q⟩:=h;refine⟨_,ai <| av <| be bh (by rfl) htup ce (ab (gq rfl (aL dq (aE az (pv 0) ag (fun _ _=>rfl)) (aE az (pv 0) ag (fun _ _=>rfl))) (by rfl) hsor (by rfl) hset) ad),?_⟩
  refine⟨_,rfl,b,_,_,_,rfl,rfl,SqT.of hb,at0,_,rfl,b,_,_,_,rfl,rfl,SqT.of hb,at1,?_⟩;have hs16:sizeLine=16777216:=sizeLine_eq;refine⟨v,c,_,_,rfl,rfl,hv,hc,by simp only[length_map];lia,fun p H1 s1 ep=>?_⟩
  rw[<- List.map_append]at ep;refine⟨p,B.vs ++ B.cs,rfl,SqT.of ep,by rw[length_append];lia,fun l2 zs n2 hpw hnd hm=>?_⟩
  have s2:=ar.new (o:=.lst (zs.map V.str)) n2;have O:Ord (B.vs ++ B.cs) zs:=⟨hpw,hnd,hm⟩;have ol:=lZ O;rw[length_append]at ol;refine⟨l2,_,rfl,SqL.of af,fun t H3 n3 s3 e3=>q t zs H3 ((s1.trans s2).trans s3) e3 O (by lia)⟩
theorem scMem:ao ["bench"] ["bench"] (ah sMem):=fsc (by decide +kernel)
theorem ok_mem {f:Addr} {fd:FuncData} (F:Fun K "members" "members" sMem f fd) (htup:mg "tuple"=none) (hsor:mg "sorted"=none) (hset:mg "set"=none):aI P w K mg base CX0 1 f fd ["bench"] we:=by
 refine F.ok scMem (fun us H Q E h=>?_) (fun cdv A outer s H us Q E hr h=>?_)
 ·obtain⟨b,B,rfl,_⟩:=h;rfl
 ·obtain⟨b,B,rfl,⟨⟨v,c,l,hb,hv,hc,hl⟩,v9,c9,l9⟩,q⟩:=h;refine⟨_,ai <| av <| be bh (by rfl) htup ce (ab (gq rfl (aL dq (aL dq (aE az (pv 0) ag (fun _ _=>rfl)) (aE az (pv 0) ag (fun _ _=>rfl))) (aE az (pv 0) ag (fun _ _=>rfl))) (by rfl) hsor (by rfl) hset) ad),?_⟩
  refine⟨_,rfl,b,_,_,_,rfl,rfl,SqT.of hb,at0,_,rfl,b,_,_,_,rfl,rfl,SqT.of hb,at1,?_⟩;have hs16:sizeLine=16777216:=sizeLine_eq;refine⟨v,c,_,_,rfl,rfl,hv,hc,by simp only[length_map];lia,fun p H1 s1 ep=>?_⟩
  rw[<- List.map_append]at ep;refine⟨_,rfl,b,_,_,_,rfl,rfl,SqT.of (s1 _ _ hb),at2,p,l,_,_,rfl,rfl,ep,s1 _ _ hl,by simp only[length_map,length_append];lia,fun p2 H2 s2 ep2=>?_⟩
  rw[<- List.map_append]at ep2;refine⟨p2,(B.vs ++ B.cs) ++ B.ls,rfl,SqT.of ep2,by simp only[length_append];lia,fun l2 zs n2 hpw hnd hm=>?_⟩
  have s3:=ar.new (o:=.lst (zs.map V.str)) n2;have O:Ord ((B.vs ++ B.cs) ++ B.ls) zs:=⟨hpw,hnd,hm⟩;have ol:=lZ O;rw[length_append,length_append]at ol;refine⟨l2,_,rfl,SqL.of af,fun t H3 n3 s4 e3=>q t zs H3 (((s1.trans s2).trans s3).trans s4) e3 O (by lia)⟩
theorem scMost:ao ["side","names"] ["side","names"] (ah qY):=fsc (by decide +kernel)
theorem ok_most {f:Addr} {fd:FuncData} (F:Fun K "is_most" "is_most" qY f fd) (hlen:mg "len"=none):aI P w K mg base CX0 1 f fd ["side","names"] (pW K):=by
 refine F.ok scMost (fun us H Q E h=>?_) (fun cdv A outer s H us Q E hr h=>?_)
 ·obtain⟨p,t,ps,xs,rfl,_⟩:=h;rfl
 ·obtain⟨p,t,ps,xs,rfl,hp,ht,hl,q⟩:=h;refine⟨_,ai <| av <| cB mY (aL c7 ag (bq a9 (by rfl) hlen PySem.boot_len (ab
    (eQ ["side","names"] ["side","names"] ["name"] (ah qY) rfl rfl rfl (by decide +kernel) rfl rfl (by decide +kernel) (by decide +kernel) (by decide +kernel) (by decide +kernel)
     (dQ (pv 0)) (fun _ _ _ _ _=>aO (i:=2) ndM rfl (Or.inl rfl)) (fun _ _ _ _ _=>eF (aG jf (pv 2) (pv 1) (by rfl))) (fun _ _ _ _ _=>pv 2)) ad)))
   (bq a9 (by rfl) hlen PySem.boot_len (ab (pv 0) ad)) (aN _),?_⟩
  refine⟨_,rfl,p,rfl,⟨_,SqT.of hp⟩,?_⟩;refine lcFU (fun u=>inV u (xs.map V.str)) rfl hp (by rw[length_map];lia) (fun D x ys post hD hx hpost=>?_) (fun D hD=>?_)
  ·obtain⟨z,hz,rfl⟩:=List.mem_map.mp hx;exact⟨_,rfl,_,rfl,t,_,rfl,ht.same (ar.new hD),rfl,cv xs,_,rfl,hpost⟩
  rw[hU];have s5:=ar.new (o:=.lst ((ps.filter fun x=>decide (x ∈ xs)).map V.str)) hD;have e5:upd H D (.lst ((ps.filter fun x=>decide (x ∈ xs)).map V.str)) D=some (.lst ((ps.filter fun x=>decide (x ∈ xs)).map V.str)):=af;generalize upd H D (.lst ((ps.filter fun x=>decide (x ∈ xs)).map V.str))=H5 at s5 e5 ⊢;refine⟨D,_,rfl,.inl (SqL.of e5),2,_,rfl,rfl,.inl (by decide),_,rfl,p,_,rfl,.inr (SqT.of (s5 _ _ hp)),_,_,rfl,rfl,?_⟩
  rw[length_map,length_map];show Q (.bl (decide ((ps.length:Int) < 2 * (((ps.filter fun p=>decide (p ∈ xs)).length:Nat):Int)))) H5;rw[q0];exact q H5 s5
theorem scHalf:ao ["bench","names"] ["bench","names"] (ah wb):=fsc (by decide +kernel)
theorem ok_half {f:Addr} {fd:FuncData} (F:Fun K "is_half" "is_half" wb f fd) (Fj:aJ P w K mg base 1 "is_joined" ["bench"] ei) (Fm:aJ P w K mg base 1 "is_most" ["side","names"] (pW K)):aI P w K mg base CX0 2 f fd ["bench","names"] (lY K):=by
 refine F.ok scHalf (fun us H Q E h=>?_) (fun cdv A outer s H us Q E hr h=>?_)
 ·obtain⟨b,t,B,xs,rfl,_⟩:=h;rfl
 ·obtain⟨b,t,B,xs,rfl,hB,ht,q⟩:=h;obtain⟨⟨v,c,l,hb,hv,hc,hl⟩,v9,c9,l9⟩:=id hB;refine⟨_,ac (bc (PW.pt (kU (cb (aj Fj hr (ab (pv 0) ad))) (iJ (eX (cb (aj Fm hr (ab (aE az (pv 0) ag (fun _ _=>rfl)) (ab (pv 1) ad)))))))) (ai (av qD)) aF) <|
   ai <| av <| aj Fm hr (ab (aE az (pv 0) ag (fun _ _=>rfl)) (ab (pv 1) ad)),?_⟩
  refine⟨_,rfl,b,B,rfl,hB,_,rfl,?_⟩;by_cases hcs:B.cs=[]
  ·have e:bB B xs=fB B.vs xs:=by
    unfold bB;rw[decide_eq_true hcs,Bool.true_or,Bool.and_true]
   rw[e]at q;rw[decide_eq_false (show ¬B.cs ≠ [] by rw[hcs];simp)]
   refine bI (bI ?_);exact⟨_,rfl,b,_,_,_,rfl,rfl,SqT.of hb,at0,_,rfl,v,t,B.vs,xs,rfl,hv,ht,by lia,q⟩
  ·rw[decide_eq_true hcs];refine cm ?_;refine⟨_,rfl,b,_,_,_,rfl,rfl,SqT.of hb,at1,_,rfl,c,t,B.cs,xs,rfl,hc,ht,by lia,fun H1 s1=>⟨_,rfl,?_⟩⟩
   have e:bB B xs=(fB B.vs xs && fB B.cs xs):=by
    unfold bB;rw[decide_eq_false hcs,Bool.false_or]
   rw[e]at q;cases hh:fB B.cs xs with
   | false =>
    rw[hh,Bool.and_false]at q;exact cm (q H1 s1)
   | true =>
    rw[hh,Bool.and_true]at q;refine bI ?_;exact⟨_,rfl,b,_,_,_,rfl,rfl,SqT.of (s1 _ _ hb),at0,_,rfl,v,t,B.vs,xs,rfl,s1 _ _ hv,ht.same s1,by lia,fun H2 s2=>q H2 (s1.trans s2)⟩
theorem tE:ao ["bench"] ["bench"] (ah jJ):=fsc (by decide +kernel)
theorem pX {f:Addr} {fd:FuncData} (F:Fun K "behind" "behind" jJ f fd) (Fj:aJ P w K mg base 1 "is_joined" ["bench"] ei):aI P w K mg base CX0 2 f fd ["bench"] ie:=by
 refine F.ok tE (fun us H Q E h=>?_) (fun cdv A outer s H us Q E hr h=>?_)
 ·obtain⟨b,B,rfl,_⟩:=h;rfl
 ·obtain⟨b,B,rfl,hB,hcs,q⟩:=h;obtain⟨⟨v,c,l,hb,hv,hc,hl⟩,v9,c9,l9⟩:=id hB;have hs16:sizeLine=16777216:=sizeLine_eq;have r1:aP 1 _:=hr.mono (by decide)
  refine⟨_,ac (bc (eX (cb (aj Fj r1 (ab (pv 0) ad)))) bA aF) <|
   ai <| av <| aH (ab (aE az (pv 0) ag (fun _ _=>rfl)) (ab (aH ad) (ab (aE az (pv 0) ag (fun _ _=>rfl)) ad))),?_⟩
  refine⟨_,rfl,b,B,rfl,hB,_,rfl,?_⟩;rw[decide_eq_true hcs];refine bI ?_;refine⟨_,rfl,b,_,_,_,rfl,rfl,SqT.of hb,at1,Nat.zero_le _,fun p1 H1 n1 s1 e1=>?_⟩;refine⟨_,rfl,b,_,_,_,rfl,rfl,SqT.of (s1 _ _ hb),at2,(show 3 <= sizeLine by lia),fun p2 H2 n2 s2 e2=>?_⟩
  exact q p2 H2 (s1.trans s2) ⟨⟨c,p1,l,e2,s2 _ _ (s1 _ _ hc),s2 _ _ e1,s2 _ _ (s1 _ _ hl)⟩,c9,Nat.zero_le _,l9⟩
end
end K45
namespace L2
open PySem PySem.Spec PyProof.Rows
theorem lcV{a:Addr}{o:Obj}{kvs:List (Key × V)}{k:Nat}{σ:St}{H1:Hp}{te:TE}{Q:VK}(f:V->V)(hk:σ.length=k)(hq:H1 a=some (.frz o (.dK kvs)))(hz:kvs.length <= 1000)
  (turn:∀D x ys H (post:VK),H1 D=none->x ∈ kvs.map (·.2)->ar H1 H->H D=some (.lst ys)->(∀H',ar H H'->post (f x) H')->te (σ ++ [some x]) H post)
  (fin:∀D H,H1 D=none->ar H1 H->H D=some (.lst ((kvs.map (·.2)).map f))->Q (.ref D) H):LCT 1 (cG k) uq te σ Q (Itvl a o kvs) H1:=by
 refine lcJ (n:=kvs.length) (fun i=>(kvs.map (·.2)).getD i .non) (fun D i ys H=>H1 D=none/\ar H1 H/\H D=some (.lst ys)/\ys=((kvs.map (·.2)).take i).map f) hk ?_ ?_ ?_ ?_ ?_ ?_
 ·rintro D i ys H hi ⟨h1,h2,h3,rfl⟩;exact⟨h2 _ _ hq,hi⟩
 ·rintro D i ys H x H' hi ⟨h1,h2,h3,rfl⟩ ⟨e,y,hy⟩;refine⟨e,?_⟩;rw[getD_eq_getElem?_getD,getElem?_map,hy];rfl
 ·rintro D ys H ⟨h1,h2,h3,rfl⟩;exact⟨h2 _ _ hq,rfl⟩
 ·intro D hD;exact⟨hD,ar.new hD,af,rfl⟩
 ·rintro D i ys H post hi ⟨h1,h2,h3,rfl⟩ hp;have hi':i < (kvs.map (·.2)).length:=by rw[length_map];exact hi
  have hx:(kvs.map (·.2)).getD i .non=(kvs.map (·.2))[i]:=by rw[getD_eq_getElem?_getD,getElem?_eq_getElem hi'];rfl
  rw[hx];refine turn D (kvs.map (·.2))[i] _ H post h1 (List.getElem_mem hi') h2 h3 fun H' s'=>hp _ _ (s' _ _ h3) ?_ ⟨h1,fun b o e=>?_,af,?_⟩
  ·rw[length_map,length_take];exact bJ (by omega)
  ·rw[au (ak e h1)];exact s' _ _ (h2 _ _ e)
  ·rw[List.take_add_one,getElem?_eq_getElem hi',List.map_append];rfl
 ·rintro D ys H ⟨h1,h2,h3,rfl⟩;rw[take_of_length_le (by rw[length_map];exact Nat.le_refl _)]at h3
  exact fin D H h1 h2 h3
theorem jK{κ:Type} [DecidableEq κ]{kvs:List (κ × V)}{k:κ}{v:V}(h:bp kvs k=some v):(k,v) ∈ kvs:=by
 unfold bp at h;cases hf:kvs.find? fun kv=>decide (kv.1=k) with
 | none=>rw[hf]at h;cases h
 | some kv =>
  rw[hf]at h;have h1:=List.find?_some hf;have h2:=List.mem_of_find?_eq_some hf;have e1:kv.1=k:=of_decide_eq_true h1;have e2:kv.2=v:=Option.some.inj h;rw[<- e1,<- e2];exact h2
theorem valV_of{κ:Type} [DecidableEq κ]{kvs:List (κ × V)}{k:κ}(h:k ∈ kvs.map (·.1)):∃v,bp kvs k=some v:=by
 cases e:bp kvs k with
 | none=>exact absurd h (m8 e)
 | some v=>exact⟨v,rfl⟩
end L2
namespace K45
open PySem L2
abbrev pY:Stmt:=aC (top 24) 0
abbrev pZ:Stmt:=aC (top 25) 0
abbrev qb:Stmt:=aC (top 25) 1
abbrev l6:Stmt:=aC (top 25) 2
abbrev md:Stmt:=aC (top 25) 4
abbrev qd:Stmt:=aC (top 25) 6
abbrev me:Stmt:=aC (top 25) 7
abbrev gQ:Stmt:=aC (top 25) 8
abbrev qe:Stmt:=aC (top 33) 0
noncomputable abbrev flN (nx he la an:Int):List (Str × V):=ay "answered" (.int an) (ay "lacking" (.int la) (ay "held" (.int he) (ay "next_place" (.int nx) [])))
noncomputable abbrev flB (own:Str) (nd:Addr):List (Str × V):=ay "notes" (.ref nd) (ay "own" (.str own) [])
noncomputable abbrev flS (mo:Addr) (bt:Int) (wl:Addr):List (Str × V):=ay "wanted" (.ref wl) (ay "beat" (.int bt) (ay "noted" (.ref mo) []))
section
variable{nx he la an:Int}
theorem flN_n:(flN nx he la an).lookup ("next_place":Str)=some (.int nx):=by kernel_rfl
theorem oy:(flN nx he la an).lookup ("held":Str)=some (.int he):=by kernel_rfl
end
section
variable{own:Str}{nd:Addr}
theorem dL:(flB own nd).lookup ("own":Str)=some (.str own):=by kernel_rfl
theorem jL:(flB own nd).lookup ("notes":Str)=some (.ref nd):=by kernel_rfl
theorem flB_len:(flB own nd).length=2:=by kernel_rfl
theorem flB_pn {x:Addr}:ay "notes" (.ref x) (flB own nd)=flB own x:=by kernel_rfl
theorem dP:(flB own nd).lookup ("note_bench":Str)=none:=by kernel_rfl
theorem mf:(flB own nd).lookup ("names":Str)=none:=by kernel_rfl
theorem jM:(flB own nd).lookup ("next_of":Str)=none:=by kernel_rfl
theorem iI:(flB own nd).lookup ("with_own":Str)=none:=by kernel_rfl
theorem gw:(flB own nd).lookup ("held_places":Str)=none:=by kernel_rfl
theorem fF:(flB own nd).lookup ("holders":Str)=none:=by kernel_rfl
end
section
variable{mo wl:Addr}{bt:Int}
theorem eW:(flS mo bt wl).lookup ("noted":Str)=some (.ref mo):=by kernel_rfl
theorem flS_b:(flS mo bt wl).lookup ("beat":Str)=some (.int bt):=by kernel_rfl
end
structure ClN(K:Frag)(mg:Str->Option Value)(C:Addr):Prop where
 cl:Cls K C
 nX:aU K C "next_place"
 nH:aU K C "held"
 nL:aU K C "lacking"
 nA:aU K C "answered"
 mgC:mg "Note"=some (.ref C)
structure ClB(K:Frag)(mg:Str->Option Value)(C:Addr):Prop where
 cl:Cls K C
 nO:aU K C "own"
 nN:aU K C "notes"
 mgC:mg "Members"=some (.ref C)
structure ClC(K:Frag)(mg:Str->Option Value)(C:Addr):Prop where
 cl:Cls K C
 nN:aU K C "noted"
 nB:aU K C "beat"
 nW:aU K C "wanted"
 mgC:mg "Chair"=some (.ref C)
structure NsO(CN:Addr)(H:Hp)(lo hi:Int)(kvs:List (Key × V))(ss:List Str):Prop where
 ks:kvs.map (·.1)=ss.map Sum.inr
 vs:∀kv ∈ kvs,∃(n dx:Addr)(nx:Int),kv.2=.ref n/\H n=some (.ins CN dx (flN nx 0 0 0))/\lo < nx/\nx <= hi
 len:ss.length <= 27
theorem NsO.klen{CN:Addr}{H:Hp}{lo hi:Int}{kvs:List (Key × V)}{ss:List Str}(h:NsO CN H lo hi kvs ss):kvs.length=ss.length:=by
 have:=congrArg List.length h.ks;rw[length_map,length_map]at this;exact this
theorem NsO.at{CN:Addr}{H:Hp}{lo hi:Int}{kvs:List (Key × V)}{ss:List Str}(h:NsO CN H lo hi kvs ss){x:Str}(hx:x ∈ ss):∃(n dx:Addr)(nx:Int),bp kvs (Sum.inr x:Key)=some (.ref n)/\H n=some (.ins CN dx (flN nx 0 0 0))/\lo < nx/\nx <= hi:=by
 obtain⟨v,hv⟩:=valV_of (kvs:=kvs) (k:=(Sum.inr x:Key)) (by rw[h.ks];exact List.mem_map.mpr ⟨x,hx,rfl⟩)
 obtain⟨n,dx,nx,e,r⟩:=h.vs _ (jK hv);have e:v=.ref n:=e;exact⟨n,dx,nx,by rw[hv,e],r⟩
theorem NsO.keep{CN:Addr}{H H':Hp}{lo hi:Int}{kvs:List (Key × V)}{ss:List Str}(h:NsO CN H lo hi kvs ss)(k:∀n dx nx,H n=some (.ins CN dx (flN nx 0 0 0))->H' n=some (.ins CN dx (flN nx 0 0 0))):NsO CN H' lo hi kvs ss:=⟨h.ks,fun kv hkv=>by
 obtain⟨n,dx,nx,e,h1,r⟩:=h.vs kv hkv;exact⟨n,dx,nx,e,k _ _ _ h1,r⟩,h.len⟩
theorem NsO.same{CN:Addr}{H H':Hp}{lo hi:Int}{kvs:List (Key × V)}{ss:List Str}(e:ar H H')(h:NsO CN H lo hi kvs ss):NsO CN H' lo hi kvs ss:=h.keep fun _ _ _ q=>e _ _ q
theorem NsO.wide{CN:Addr}{H:Hp}{lo hi hi':Int}{kvs:List (Key × V)}{ss:List Str}(h:NsO CN H lo hi kvs ss)(hh:hi <= hi'):NsO CN H lo hi' kvs ss:=⟨h.ks,fun kv hkv=>by
 obtain⟨n,dx,nx,e,h1,h2,h3⟩:=h.vs kv hkv;exact⟨n,dx,nx,e,h1,h2,by lia⟩,h.len⟩
def mi(C:Addr):Sp:=fun us H Q _=>∃(n dx:Addr)(p:Int),us=[.ref n,.int p]/\H n=some (.ins C dx [])/\∀H',BtO n H H'->H' n=some (.ins C dx (flN p 0 0 0))->Q .non H'
def mj(C:Addr):Sp:=fun us H Q _=>∃(m dx:Addr)(own:Str),us=[.ref m,.str own]/\H m=some (.ins C dx [])/\∀(nd:Addr)(H':Hp),H nd=none->BtO m H H'->H' m=some (.ins C dx (flB own nd))->H' nd=some (.dK [])->Q .non H'
def ml(C:Addr):Sp:=fun us H Q _=>∃(s dx mo:Addr),us=[.ref s,.ref mo]/\H s=some (.ins C dx [])/\∀(wl:Addr)(H':Hp),H wl=none->BtO s H H'->H' s=some (.ins C dx (flS mo 0 wl))->H' wl=some (.lst [])->Q .non H'
def iT(CB CN:Addr):Sp:=fun us H Q _=>∃(mo dx b nd:Addr)(own:Str)(B:Bn)(p lo hi:Int) (kvs:List (Key × V)) (ss:List Str),us=[.ref mo,.ref b,.int p]/\H mo=some (.ins CB dx (flB own nd))/\Rd H nd (.dK kvs)/\NsO CN H lo hi kvs ss/\BnO H b B/\lo < p/\p <= hi /\
 ∀(nd2:Addr)(o:Obj) (kvs2:List (Key × V)) (ss2:List Str) (H':Hp),H nd2=none->BtO mo H H'->H' mo=some (.ins CB dx (flB own nd2))->H' nd2=some (.frz o (.dK kvs2))->NsO CN H' lo hi kvs2 ss2->Q .non H'
structure MbO(CB CN:Addr)(H:Hp)(mo nd:Addr)(o:Obj)(own:Str)(lo hi:Int)(kvs:List (Key × V))(ss:List Str):Prop where
 ob:∃dx,H mo=some (.ins CB dx (flB own nd))
 dc:H nd=some (.frz o (.dK kvs))
 ns:NsO CN H lo hi kvs ss
theorem MbO.same{CB CN:Addr}{H H':Hp}{mo nd:Addr}{o:Obj}{own:Str}{lo hi:Int}{kvs:List (Key × V)}{ss:List Str}(e:ar H H')(h:MbO CB CN H mo nd o own lo hi kvs ss):MbO CB CN H' mo nd o own lo hi kvs ss:=by
 obtain⟨⟨dx,h1⟩,h2,h3⟩:=h;exact⟨⟨dx,e _ _ h1⟩,e _ _ h2,h3.same e⟩
def jN(CB CN:Addr):Sp:=fun us H Q _=>∃(mo nd:Addr)(o:Obj)(own:Str)(lo hi:Int) (kvs:List (Key × V)) (ss:List Str),us=[.ref mo]/\MbO CB CN H mo nd o own lo hi kvs ss/\∀(t:Addr)(zs:List Str)(H':Hp),ar H H'->H' t=some (.tup (zs.map V.str))->zs.Perm ss->Q (.ref t) H'
def jO(CB CN:Addr):Sp:=fun us H Q _=>∃(mo nd:Addr)(o:Obj)(own x:Str)(lo hi:Int) (kvs:List (Key × V)) (ss:List Str),us=[.ref mo,.str x]/\MbO CB CN H mo nd o own lo hi kvs ss/\x ∈ ss/\∀nx:Int,lo < nx->nx <= hi->Q (.int nx) H
def mn(CB CN:Addr):Sp:=fun us H Q _=>∃(mo nd dx p:Addr)(own:Str),us=[.ref mo,.ref p]/\H mo=some (.ins CB dx (flB own nd))/\H p=some (.lst [])/\∀(t:Addr)(H':Hp),ar H H'->H' t=some (.tup [.str own])->Q (.ref t) H'
def mq(CB CN:Addr):Sp:=fun us H Q _=>∃(mo nd:Addr)(o:Obj)(own:Str)(lo hi:Int) (kvs:List (Key × V)) (ss:List Str),us=[.ref mo]/\MbO CB CN H mo nd o own lo hi kvs ss/\∀(t:Addr)(H':Hp),ar H H'->H' t=some (.lst ((List.replicate ss.length (0:Int)).map V.int))->Q (.ref t) H'
def fR(CB CN:Addr):Sp:=fun us H Q _=>∃(mo nd:Addr)(o:Obj)(own:Str)(lo hi p:Int) (kvs:List (Key × V)) (ss:List Str),us=[.ref mo,.int p]/\MbO CB CN H mo nd o own lo hi kvs ss/\0 < p/\∀(t:Addr)(H':Hp),ar H H'->H' t=some (.tup [.str own])->Q (.ref t) H'
theorem q5{H H':Hp}{a:Addr}{u:HO}(e:ar H H')(h:Rd H a u):Rd H' a u:=Rd.same e h
section
variable{P:Program}{w:World}{K:Frag}{mg:Str->Option Value}{base:Heap}{CN CB CC:Addr}
theorem scNInit:ao ["self","next_place"] ["self","next_place"] (ah pY):=fsc (by decide +kernel)
theorem wj {f:Addr} {fd:FuncData} (F:Fun K "__init__" "Note.__init__" pY f fd) (T:ClN K mg CN):aI P w K mg base CX0 1 f fd ["self","next_place"] (mi CN):=by
 refine F.ok scNInit (fun us H Q E h=>?_) (fun cdv A outer s H us Q E hr h=>?_)
 ·obtain⟨n,dx,p,rfl,_⟩:=h;rfl
 ·obtain⟨n,dx,p,rfl,hN,q⟩:=h;refine⟨_,ac (aM (pv 0) (pv 1) rfl) <| ac (aM (pv 0) ag rfl) <| ac (aM (pv 0) ag rfl) <| ai (aM (pv 0) ag rfl),?_⟩;dsimp only[aW,Cx.nox];refine⟨_,rfl,_,rfl,ex4 n CN dx _ ⟨rfl,hN,T.cl,T.nX,(by show 0 < 1000;decide),?_⟩⟩
  refine⟨_,rfl,ex4 n CN dx _ ⟨rfl,af,T.cl,T.nH,(by show 1 < 1000;decide),?_⟩⟩
  refine⟨_,rfl,ex4 n CN dx _ ⟨rfl,af,T.cl,T.nL,(by show 2 < 1000;decide),?_⟩⟩
  refine⟨_,rfl,ex4 n CN dx _ ⟨rfl,af,T.cl,T.nA,(by show 3 < 1000;decide),?_⟩⟩
  exact q _ (BtO.upd.trans (BtO.upd.trans (BtO.upd.trans BtO.upd))) af
theorem scBInit:ao ["self","own"] ["self","own"] (ah pZ):=fsc (by decide +kernel)
theorem wn {f:Addr} {fd:FuncData} (F:Fun K "__init__" "Members.__init__" pZ f fd) (T:ClB K mg CB):aI P w K mg base CX0 1 f fd ["self","own"] (mj CB):=by
 refine F.ok scBInit (fun us H Q E h=>?_) (fun cdv A outer s H us Q E hr h=>?_)
 ·obtain⟨m,dx,own,rfl,_⟩:=h;rfl
 ·obtain⟨m,dx,own,rfl,hM,q⟩:=h;refine⟨_,ac (aM (pv 0) (pv 1) rfl) <| ai (aM (pv 0) gE rfl),?_⟩;dsimp only[aW,Cx.nox];refine⟨_,rfl,_,rfl,ex4 m CB dx _ ⟨rfl,hM,T.cl,T.nO,(by show 0 < 1000;decide),?_⟩⟩
  intro nd nn;have nm:nd ≠ m:=fun z=>by rw[z,af]at nn;cases nn
  have e1:upd (upd H m (.ins CB dx (ay "own" (.str own) []))) nd (.dK []) m=some (.ins CB dx (ay "own" (.str own) [])):=by rw[au nm.symm];exact af
  refine⟨_,rfl,ex4 m CB dx _ ⟨rfl,e1,T.cl,T.nN,(by show 1 < 1000;decide),?_⟩⟩
  have hn:H nd=none:=by rw[au nm]at nn;exact nn
  refine q nd _ hn (fun b u n e=>?_) af ?_
  ·rw[au n,au (ak e hn),au n];exact e
  ·rw[au nm];exact af
theorem scCInit:ao ["self","noted"] ["self","noted"] (ah qe):=fsc (by decide +kernel)
theorem wp {f:Addr} {fd:FuncData} (F:Fun K "__init__" "Chair.__init__" qe f fd) (T:ClC K mg CC):aI P w K mg base CX0 1 f fd ["self","noted"] (ml CC):=by
 refine F.ok scCInit (fun us H Q E h=>?_) (fun cdv A outer s H us Q E hr h=>?_)
 ·obtain⟨m,dx,mo,rfl,_⟩:=h;rfl
 ·obtain⟨m,dx,mo,rfl,hM,q⟩:=h;refine⟨_,ac (aM (pv 0) (pv 1) rfl) <| ac (aM (pv 0) ag rfl) <| ai (aM (pv 0) (bg ad) rfl),?_⟩;dsimp only[aW,Cx.nox];refine⟨_,rfl,_,rfl,ex4 m CC dx _ ⟨rfl,hM,T.cl,T.nN,(by show 0 < 1000;decide),?_⟩⟩
  refine⟨_,rfl,ex4 m CC dx _ ⟨rfl,af,T.cl,T.nB,(by show 1 < 1000;decide),?_⟩⟩
  have b2:BtO m H (upd (upd H m (.ins CC dx (ay "noted" (.ref mo) []))) m (.ins CC dx (ay "beat" (.int 0) (ay "noted" (.ref mo) [])))):=BtO.upd.trans BtO.upd;have e2:upd (upd H m (.ins CC dx (ay "noted" (.ref mo) []))) m (.ins CC dx (ay "beat" (.int 0) (ay "noted" (.ref mo) []))) m=some (.ins CC dx (ay "beat" (.int 0) (ay "noted" (.ref mo) []))):=af;generalize upd (upd H m (.ins CC dx (ay "noted" (.ref mo) []))) m (.ins CC dx (ay "beat" (.int 0) (ay "noted" (.ref mo) [])))=H2 at b2 e2 ⊢;refine⟨Nat.zero_le _,fun wl H3 n3 s3 e3=>?_⟩;have nm:wl ≠ m:=fun z=>by rw[z,e2]at n3;cases n3
  refine⟨_,rfl,ex4 m CC dx _ ⟨rfl,s3 _ _ e2,T.cl,T.nW,(by show 2 < 1000;decide),?_⟩⟩
  have hn:H wl=none:=by
   cases e:H wl with
   | none=>rfl
   | some u=>rw[b2 _ _ nm e]at n3;cases n3
  refine q wl _ hn (fun b u n e=>?_) af (by rw[au nm];exact e3)
  rw[au n];exact s3 _ _ (b2 _ _ n e)
noncomputable abbrev nNB:List Str:=["self","bench","place","notes","name"]
theorem scNB:ao nNB ["self","bench","place"] (ah qb):=fsc (by decide +kernel)
theorem neStr(x y:Str):(!decide (V.str x=V.str y))=!decide (x=y):=by rw[pM]
theorem wq {f:Addr} {fd:FuncData} (F:Fun K "note_bench" "Members.note_bench" qb f fd) (T:ClB K mg CB) (TN:ClN K mg CN) (Fm:aJ P w K mg base 1 "members" ["bench"] we) (Mn:dU P w K mg base CN 1 ["self","next_place"] (mi CN)):aI P w K mg base CX0 3 f fd ["self","bench","place"] (iT CB CN):=by
 refine F.ok scNB (fun us H Q E h=>?_) (fun cdv A outer s H us Q E hr h=>?_)
 ·obtain⟨mo,dx,b,nd,own,B,p,lo,hi,kvs,ss,rfl,_⟩:=h;rfl
 ·obtain⟨mo,dx,b,nd,own,B,p,lo,hi,kvs,ss,rfl,hM,hD,hN,hB,p1,p2,q⟩:=h;have nn:=scNB.nd;have hs16:sizeLine=16777216:=sizeLine_eq;have hu:=cU hr;have r1:aP 1 _:=hr.mono (by decide)
  refine⟨_,ac (aB (i:=3) nn rfl (Or.inl rfl) gE) <|
   ac (cD PassesOwn.never rfl (dQ (aj Fm r1 (ab (pv 1) ad))) (aO (i:=4) nn rfl (Or.inl rfl)) <|
    ai (bc (aG i3 (pv 4) (am (pv 0) rfl) (aN _)) (ai (br hu (pv 3) (pv 4) (tR (tP (pc_din hu (pv 4) (am (pv 0) rfl))) (aA hu (am (pv 0) rfl) (pv 4) (fun _ _=>rfl)) (cn Mn hr TN.mgC (ab (pv 2) ad))) rfl)) aF)) <|
   ai (aM (pv 0) (pe_frz (pv 3)) rfl),?_⟩
  dsimp only[aW,Cx.nox];refine ae fun K_ hK_=>?_;intro nd2 nn2;have s1:=ar.new (o:=.dK []) nn2;have e1:upd H nd2 (.dK []) nd2=some (.dK []):=af;generalize upd H nd2 (.dK [])=H1 at s1 e1 ⊢;refine hK_ _ _ (ae fun K_ hK_=>?_);refine⟨_,rfl,b,B,rfl,hB.tk (Tk.of s1),fun t zs H2 s2 e2 O zl=>?_⟩;have s12:=s1.trans s2;refine⟨t,rfl,⟨_,SqT.of e2⟩,fM (K:=K) (xs:=zs.map V.str) (fun i σ Hx=>∃(v4:Option V) (kv2:List (Key × V)) (ss2:List Str),σ=[some (V.ref mo),some (V.ref b),some (.int p),some (V.ref nd2),v4]/\Hx nd2=some (.dK kv2)/\(∀x ∈ ss2,x ∈ zs.take i)/\ss2.length <= i/\(kv2.map (·.1)=ss2.map Sum.inr)/\(∀kv ∈ kv2,∃(n dx:Addr)(nx:Int),kv.2=.ref n/\Hx n=some (.ins CN dx (flN nx 0 0 0))/\lo < nx/\nx <= hi)/\ar H Hx/\Hx t=some (.tup (zs.map V.str)))
   ⟨none,[],[],rfl,s2 _ _ e1,fun x hx=>(nomatch hx),Nat.zero_le _,rfl,fun kv hkv=>(nomatch hkv),s12,e2⟩ ?_ ?_ ?_⟩
  ·rintro i σ Hx hi ⟨v4,kv2,ss2,rfl,g1,g2,g3,g4,g5,g6,g7⟩;exact SqT.of g7
  ·rintro i x σ Hx hx ⟨v4,kv2,ss2,rfl,g1,g2,g3,g4,g5,g6,g7⟩;rw[getElem?_map]at hx;cases hz:zs[i]? with
   | none=>rw[hz]at hx;cases hx
   | some z =>
    rw[hz]at hx;cases hx;have hil:i < zs.length:=(List.getElem?_eq_some_iff.mp hz).1;have hz':=(List.getElem?_eq_some_iff.mp hz).2;have hnew:z ∉ ss2:=fun hm=>by
     have h1:=g2 z hm;obtain⟨j,hj,e⟩:=List.getElem_of_mem h1;rw[List.getElem_take]at e;rw[length_take]at hj;have hjl:j < zs.length:=by lia
     exact(List.pairwise_iff_getElem.mp O.nd) j i hjl hil (by lia) (by rw[e,hz'])
    have hnone:bp kv2 (Sum.inr z:Key)=none:=by
     cases e:bp kv2 (Sum.inr z:Key) with
     | none=>rfl
     | some v =>
      have:=valV_in e;rw[g4]at this;obtain⟨y,hy,ey⟩:=List.mem_map.mp this;cases ey;exact absurd hy hnew
    have hk2:kv2.length <= i:=by
     have:=congrArg List.length g4;rw[length_map,length_map]at this;lia
    have nk2:Hx nd2=some (.dK kv2):=g1;refine⟨_,rfl,_,rfl,ex5 mo CB dx _ _ ⟨rfl,g6 _ _ hM,T.cl,T.nO,dL,rfl,_,rfl,?_⟩⟩;rw[neStr];have step:∀(v:V)(n dn:Addr)(nx:Int)(Hy:Hp),v=.ref n->ar Hx Hy->Hy n=some (.ins CN dn (flN nx 0 0 0))->lo < nx->nx <= hi->∃(v4:Option V) (kv2':List (Key × V)) (ss2':List Str),[some (V.ref mo),some (V.ref b),some (.int p),some (V.ref nd2),some (V.str z)]=[some (V.ref mo),some (V.ref b),some (.int p),some (V.ref nd2),v4]/\upd Hy nd2 (.dK (bz kv2 (Sum.inr z:Key) v)) nd2=some (.dK kv2')/\(∀x ∈ ss2',x ∈ zs.take (i + 1))/\ss2'.length <= i + 1/\(kv2'.map (·.1)=ss2'.map Sum.inr)/\(∀kv ∈ kv2',∃(n dx:Addr)(nx:Int),kv.2=.ref n/\upd Hy nd2 (.dK (bz kv2 (Sum.inr z:Key) v)) n=some (.ins CN dx (flN nx 0 0 0))/\lo < nx/\nx <= hi)/\ar H (upd Hy nd2 (.dK (bz kv2 (Sum.inr z:Key) v)))/\upd Hy nd2 (.dK (bz kv2 (Sum.inr z:Key) v)) t=some (.tup (zs.map V.str)):=by
     intro v n dn nx Hy ev sy en l1 l2;have hy2:Hy nd2=some (.dK kv2):=sy _ _ g1;rw[ua v hnone];refine⟨some (.str z),kv2 ++ [(Sum.inr z,v)],ss2 ++ [z],rfl,af,fun x hx=>?_,by rw[length_append];show _ + 1 <= _;lia,by rw[List.map_append,List.map_append,g4];rfl,fun kv hkv=>?_,fun c u e=>?_,?_⟩
     ·rw[List.take_add_one,hz];rcases mem_append.mp hx with h | h
      ·exact mem_append.mpr (.inl (g2 x h))
      ·exact mem_append.mpr (.inr (by rw[List.mem_singleton.mp h];simp))
     ·rcases mem_append.mp hkv with h | h
      ·obtain⟨n',d',x',a1,a2,a3⟩:=g5 kv h;have a2':=sy _ _ a2;exact⟨n',d',x',a1,by rw[au (ax a2' hy2 (by intro z;cases z))];exact a2',a3⟩
      ·cases List.mem_singleton.mp h;exact⟨n,dn,nx,ev,by rw[au (ax en hy2 (by intro z;cases z))];exact en,l1,l2⟩
     ·rw[au (ak e nn2)];exact sy _ _ (g6 _ _ e)
     ·have:=sy _ _ g7;rw[au (ax this hy2 (by intro z;cases z))]
      exact this
    by_cases ho:z=own
    ·rw[decide_eq_true ho];refine bI ⟨_,kv2,ss2,rfl,g1,fun x hx=>?_,by lia,g4,g5,g6,g7⟩
     rw[List.take_add_one];exact mem_append.mpr (.inl (g2 x hx))
    ·rw[decide_eq_false ho];refine cm ?_;refine⟨_,rfl,_,rfl,ex5 mo CB dx _ _ ⟨rfl,g6 _ _ hM,T.cl,T.nN,jL,nd,_,rfl,.inl ⟨kvs,Sum.inr z,q5 g6 hD,rfl,rfl⟩,_,rfl,?_⟩⟩;cases hv:bp kvs (Sum.inr z:Key) with
     | some v =>
      obtain⟨n,dn,nx,ev,en,l1,l2⟩:=hN.vs _ (jK hv);have ev:v=.ref n:=ev;refine cm ?_;refine⟨_,rfl,ex5 mo CB dx _ _ ⟨rfl,g6 _ _ hM,T.cl,T.nN,jL,_,rfl,nd,v,rfl,.inl ⟨kvs,Sum.inr z,q5 g6 hD,rfl,hv.symm⟩,?_⟩⟩;exact⟨_,rfl,_,rfl,nd2,_,rfl,cL.k (k:=Sum.inr z) g1 (by lia),step v n dn nx Hx ev (ar.refl _) (g6 _ _ en) l1 l2⟩
     | none =>
      refine bI ?_;refine⟨_,rfl,?_⟩;intro n dn n9 nd9 ne9;have n9':upd Hx dn (.own n) n=none:=by rw[au ne9.symm];exact n9
      have s9:ar Hx (upd (upd Hx dn (.own n)) n (.ins CN dn [])):=(ar.new nd9).trans (ar.new n9');refine⟨n,dn,p,rfl,af,fun H6 k6 e6=>⟨rfl,?_⟩⟩;have sy:ar Hx H6:=fun c u e=>k6 _ _ (ak e n9) (s9 _ _ e);exact⟨_,rfl,_,rfl,nd2,_,rfl,cL.k (k:=Sum.inr z) (sy _ _ g1) (by lia),step (.ref n) n dn p H6 rfl sy e6 p1 p2⟩
  ·rintro σ Hx ⟨v4,kv2,ss2,rfl,g1,g2,g3,g4,g5,g6,g7⟩;rw[length_map]at g3;refine hK_ _ _ ?_;refine⟨_,rfl,nd2,kv2,rfl,g1,fun o H4 k4 e4=>?_⟩;have m4:H4 mo=some (.ins CB dx (flB own nd)):=k4 _ _ (ak hM nn2) (g6 _ _ hM);refine⟨_,rfl,ex4 mo CB dx _ ⟨rfl,m4,T.cl,T.nN,(by rw[flB_len];decide),?_⟩⟩
   rw[flB_pn];have nm:nd2 ≠ mo:=ax e4 m4 (by intro z;cases z)
   refine q nd2 o kv2 ss2 _ nn2 (fun c u n e=>?_) af (by rw[au nm];exact e4) ⟨g4,fun kv hkv=>?_,by lia⟩
   ·rw[au n];exact k4 _ _ (ak e nn2) (g6 _ _ e)
   ·obtain⟨n',d',x',a1,a2,a3⟩:=g5 kv hkv;have a4:=k4 _ _ (ax a2 g1 (by intro z;cases z)) a2
    refine⟨n',d',x',a1,?_,a3⟩;rw[au (bS "held" a4 m4 (cr oy (by kernel_rfl)))]
    exact a4
end
section
variable{P:Program}{w:World}{K:Frag}{mg:Str->Option Value}{base:Heap}{CN CB CC:Addr}
theorem wu:ao ["self"] ["self"] (ah l6):=fsc (by decide +kernel)
theorem tF {f:Addr} {fd:FuncData} (F:Fun K "names" "Members.names" l6 f fd) (T:ClB K mg CB) (htup:mg "tuple"=none) (hsor:mg "sorted"=none):aI P w K mg base CX0 1 f fd ["self"] (jN CB CN):=by
 refine F.ok wu (fun us H Q E h=>?_) (fun cdv A outer s H us Q E hr h=>?_)
 ·obtain⟨mo,nd,o,own,lo,hi,kvs,ss,rfl,_⟩:=h;rfl
 ·obtain⟨mo,nd,o,own,lo,hi,kvs,ss,rfl,⟨⟨dx,h1⟩,h2,h3⟩,q⟩:=h;refine⟨_,ai <| av <| be bh (by rfl) htup ce (ab (bq (oo rfl) (by rfl) hsor iN (ab (am (pv 0) rfl) ad)) ad),?_⟩
  dsimp only[aW,Cx.nox];have hl:=h3.klen;have h27:=h3.len;refine⟨_,rfl,ex5 mo CB dx _ _ ⟨rfl,h1,T.cl,T.nN,jL,nd,kvs,ss,rfl,.inr ⟨o,h2⟩,h3.ks,by lia,fun p zs H2 n2 s2 e2 pm pw=>?_⟩⟩
  exact⟨p,_,rfl,SqL.of e2,fun t H3 n3 s3 e3=>q t zs H3 (s2.trans s3) e3 pm⟩
theorem ww:ao ["self","name"] ["self","name"] (ah md):=fsc (by decide +kernel)
theorem tG {f:Addr} {fd:FuncData} (F:Fun K "next_of" "Members.next_of" md f fd) (T:ClB K mg CB) (TN:ClN K mg CN):aI P w K mg base CX0 1 f fd ["self","name"] (jO CB CN):=by
 refine F.ok ww (fun us H Q E h=>?_) (fun cdv A outer s H us Q E hr h=>?_)
 ·obtain⟨mo,nd,o,own,x,lo,hi,kvs,ss,rfl,_⟩:=h;rfl
 ·obtain⟨mo,nd,o,own,x,lo,hi,kvs,ss,rfl,⟨⟨dx,h1⟩,h2,h3⟩,hx,q⟩:=h;have hu:=cU hr;refine⟨_,ai <| av <| am (aA hu (am (pv 0) rfl) (pv 1) (fun _ _=>rfl)) rfl,?_⟩;dsimp only[aW,Cx.nox];obtain⟨n,dn,nx,hv,hn,l1,l2⟩:=h3.at hx;exact⟨_,rfl,ex5 mo CB dx _ _ ⟨rfl,h1,T.cl,T.nN,jL,_,rfl,nd,_,rfl,.inl ⟨kvs,Sum.inr x,.inr ⟨o,h2⟩,rfl,hv.symm⟩,ex5 n CN dn _ _ ⟨rfl,hn,TN.cl,TN.nX,flN_n,q nx l1 l2⟩⟩⟩
theorem scWithO:ao ["self","names"] ["self","names"] (ah qd):=fsc (by decide +kernel)
theorem wx {f:Addr} {fd:FuncData} (F:Fun K "with_own" "Members.with_own" qd f fd) (T:ClB K mg CB) (htup:mg "tuple"=none) (hsor:mg "sorted"=none):aI P w K mg base CX0 1 f fd ["self","names"] (mn CB CN):=by
 refine F.ok scWithO (fun us H Q E h=>?_) (fun cdv A outer s H us Q E hr h=>?_)
 ·obtain⟨mo,nd,dx,p,own,rfl,_⟩:=h;rfl
 ·obtain⟨mo,nd,dx,p,own,rfl,h1,h2,q⟩:=h;have hs16:sizeLine=16777216:=sizeLine_eq;refine⟨_,ai <| av <| be bh (by rfl) htup ce (ab (bq gi (by rfl) hsor iN (ab (aL iM (pv 1) (bg (ab (am (pv 0) rfl) ad))) ad)) ad),?_⟩
  dsimp only[aW,Cx.nox];refine⟨_,rfl,_,rfl,ex5 mo CB dx _ _ ⟨rfl,h1,T.cl,T.nO,dL,(show 1 <= sizeLine by lia),fun l2 H2 n2 s2 e2=>?_⟩⟩
  refine⟨p,l2,_,_,rfl,rfl,s2 _ _ h2,e2,(show 0 + 1 <= sizeLine by lia),fun l3 H3 n3 s3 e3=>?_⟩
  have e3:H3 l3=some (.lst ([own].map V.str)):=e3;refine⟨l3,[own],rfl,SqL.of e3,(show 1 < 64 by decide),fun l4 zs H4 n4 s4 e4 pm pw=>?_⟩
  rw[List.perm_singleton.mp pm]at e4;exact⟨l4,_,rfl,SqL.of e4,fun t H5 n5 s5 e5=>q t H5 (s2.trans (s3.trans (s4.trans s5))) e5⟩
theorem scHeldP:ao ["self"] ["self"] (ah me):=fsc (by decide +kernel)
theorem ndHP:((["self"]:List Str) ++ (["note"]:List Str)).Nodup:=by decide +kernel
theorem wy {f:Addr} {fd:FuncData} (F:Fun K "held_places" "Members.held_places" me f fd) (T:ClB K mg CB) (TN:ClN K mg CN):aI P w K mg base CX0 1 f fd ["self"] (mq CB CN):=by
 refine F.ok scHeldP (fun us H Q E h=>?_) (fun cdv A outer s H us Q E hr h=>?_)
 ·obtain⟨mo,nd,o,own,lo,hi,kvs,ss,rfl,_⟩:=h;rfl
 ·obtain⟨mo,nd,o,own,lo,hi,kvs,ss,rfl,⟨⟨dx,h1⟩,h2,h3⟩,q⟩:=h;refine⟨_,ai <| av <| eQ ["self"] ["self"] ["note"] (ah me) rfl rfl rfl (by decide +kernel) rfl rfl (by decide +kernel) (by decide +kernel) (by decide +kernel) (by decide +kernel)
   (vV (am (pv 0) rfl)) (fun _ _ _ _ _=>aO (i:=1) ndHP rfl (Or.inl rfl)) (fun _ _ _ _ _=>eB) (fun _ _ _ _ _=>gL (pv 1) rfl),?_⟩
  dsimp only[aW,Cx.nox];have hl:=h3.klen;have h27:=h3.len;refine⟨_,rfl,ex5 mo CB dx _ _ ⟨rfl,h1,T.cl,T.nN,jL,nd,o,kvs,rfl,h2,?_⟩⟩;refine lcV (fun _=>.int 0) rfl h2 (by lia) (fun D x ys H2 post hD hx sm hDD hpost=>?_) (fun D H2 hD sm e2=>?_)
  ·obtain⟨kv,hkv,rfl⟩:=List.mem_map.mp hx;obtain⟨n,dn,nx,e,hn,_⟩:=h3.vs kv hkv;exact⟨_,rfl,ex5 n CN dn _ _ ⟨e,sm _ _ hn,TN.cl,TN.nH,oy,hpost H2 (ar.refl _)⟩⟩
  ·refine q D H2 sm ?_;rw[e2,List.map_replicate,<- hl];congr 2
   rw[List.map_map];exact List.map_eq_replicate_iff.mpr fun _ _=>rfl
theorem tH:ao ["self","place"] ["self","place"] (ah gQ):=fsc (by decide +kernel)
theorem ndHo:((["self","place"]:List Str) ++ (["name"]:List Str)).Nodup:=by decide +kernel
theorem qf {f:Addr} {fd:FuncData} (F:Fun K "holders" "Members.holders" gQ f fd) (T:ClB K mg CB) (TN:ClN K mg CN) (Mw:aD P w K mg base CB 1 "with_own" ["self","names"] (mn CB CN)):aI P w K mg base CX0 2 f fd ["self","place"] (fR CB CN):=by
 refine F.ok tH (fun us H Q E h=>?_) (fun cdv A outer s H us Q E hr h=>?_)
 ·obtain⟨mo,nd,o,own,lo,hi,p,kvs,ss,rfl,_⟩:=h;rfl
 ·obtain⟨mo,nd,o,own,lo,hi,p,kvs,ss,rfl,⟨⟨dx,h1⟩,h2,h3⟩,p0,q⟩:=h;have hu:=cU hr;refine⟨_,ai <| av <| aQ Mw T.cl hr (pv 0) (ab (eQ ["self","place"] ["self","place"] ["name"] (ah gQ) rfl rfl rfl (by decide +kernel) rfl rfl (by decide +kernel) (by decide +kernel) (by decide +kernel) (by decide +kernel)
   (vU (am (pv 0) rfl)) (fun _ _ _ _ _=>aO (i:=2) ndHo rfl (Or.inl rfl)) (fun _ _ _ _ _=>eF (aG op_ge (gL (aA hu (gL (pv 0) rfl) (pv 2) (fun _ _=>rfl)) rfl) (pv 1) (aN _))) (fun _ _ _ _ _=>pv 2)) ad),?_⟩
  dsimp only[aW,Cx.nox];have hl:=h3.klen;have h27:=h3.len;refine⟨_,rfl,mo,dx,_,rfl,h1,iI,_,rfl,ex5 mo CB dx _ _ ⟨rfl,h1,T.cl,T.nN,jL,nd,o,kvs,ss,rfl,h2,h3.ks,?_⟩⟩;refine lcFD (fun _=>false) rfl h2 (by lia) (fun D x ys post hD hx hpost=>?_) (fun D hD=>?_)
  ·obtain⟨n,dn,nx,hv,hn,l1,l2⟩:=h3.at hx;have s2:=ar.new (o:=.lst ys) hD;refine⟨_,rfl,ex5 mo CB dx _ _ ⟨rfl,s2 _ _ h1,T.cl,T.nN,jL,_,rfl,nd,_,rfl,.inl ⟨kvs,Sum.inr x,.inr ⟨o,s2 _ _ h2⟩,rfl,hv.symm⟩,ex5 n CN dn _ _ ⟨rfl,s2 _ _ hn,TN.cl,TN.nH,oy,_,rfl,_,_,rfl,rfl,_,rfl,?_⟩⟩⟩;rw[show decide (p <= (0:Int))=false from decide_eq_false (by lia)]
   exact hpost
  ·have s2:=ar.new (o:=.lst ((ss.filter fun _=>false).map V.str)) hD;refine⟨mo,nd,dx,D,own,rfl,s2 _ _ h1,?_,fun t H' s' e'=>q t H' (s2.trans s') e'⟩;rw[af];simp
end
end K45
namespace L2
open PySem PySem.Spec PyProof.Rows
theorem lcGT{K:Frag}{a:Addr}{β:Type}{xs:List β}{k:Nat}{σ:St}{H1:Hp}{tt:TT}{te:TE}{Q:VK}(gv:β->V)(t:β->Bool)(R:Addr->β->V->Hp->Prop)
  (st:∀D x y (H H':Hp),(∀b o,b ≠ D->H b=some o->H' b=some o)->R D x y H->R D x y H')(hk:σ.length=k)(hq:H1 a=some (.tup (xs.map gv)))(hz:xs.length <= 1000)
  (test:∀D x ys H (post:Bool->Hp->Prop),H1 D=none->x ∈ xs->ar H1 H->H D=some (.lst ys)->(∀H',ar H H'->post (t x) H')->tt (σ ++ [some (gv x)]) H post)
  (turn:∀D x ys H (post:VK),H1 D=none->x ∈ xs->t x=true->ar H1 H->H D=some (.lst ys)->(∀y H',ar H H'->R D x y H'->post y H')->te (σ ++ [some (gv x)]) H post)
  (fin:∀D H us,H1 D=none->ar H1 H->H D=some (.lst us)->Paired (fun u x=>R D x u H) us (xs.filter t)->Q (.ref D) H):LCT 1 (cG k) tt te σ Q (Itt K a) H1:=by
 intro D hD;refine⟨fun i m us H=>m=xs.length - i/\i <= xs.length/\ar H1 H/\H D=some (.lst us)/\Paired (fun u x=>R D x u H) us ((xs.take i).filter t),⟨xs.length,by simp,Nat.zero_le _,ar.new hD,af,.nil⟩,?_⟩
 rintro i m us H ⟨rfl,hi,sm,hDD,hP⟩;by_cases hlt:i < xs.length
 ·have hx:(xs.map gv)[i]?=some (gv xs[i]):=by rw[getElem?_map,getElem?_eq_getElem hlt];rfl
  refine .inr ⟨⟨xs.map gv,gv xs[i],SqT.of (sm _ _ hq),hx⟩,fun v H' y=>?_⟩;obtain⟨rfl,y⟩:=y;have hv:=y _ (SqT.of (sm _ _ hq));rw[hx]at hv;cases hv;have hm:xs[i] ∈ xs:=List.getElem_mem hlt;have hu:us.length <= i:=by
   rw[Paired.length hP];refine Nat.le_trans (List.length_filter_le _ _) ?_;rw[length_take];omega
  have e:(σ ++ List.replicate 1 (none:Option V)).set k (some (gv xs[i]))=σ ++ [some (gv xs[i])]:=by
   subst hk;simp[List.set_append]
  unfold cG;rw[e];refine⟨⟨_,rfl,rfl⟩,test D xs[i] us _ _ hD hm sm hDD fun H3 s3=>?_⟩;cases ht:t xs[i] with
  | true =>
   refine cm (turn D xs[i] us _ _ hD hm ht (sm.trans s3) (s3 _ _ hDD) fun y H4 s4 hR=>⟨s4 _ _ (s3 _ _ hDD),bJ (by omega),xs.length - (i + 1),by omega,rfl,hlt,fun c o e=>?_,af,?_⟩)
   ·rw[au (ak e hD)];exact s4 _ _ (s3 _ _ (sm _ _ e))
   ·rw[List.take_add_one,getElem?_eq_getElem hlt,List.filter_append];have ef:((some xs[i]:Option β).toList).filter t=[xs[i]]:=by simp[ht]
    rw[ef];exact Paired.snoc (Paired.imp' (fun u x h=>st D x u _ _ (fun b o hb e=>by rw[au hb];exact s4 _ _ (s3 _ _ e)) h) hP) (st D _ _ _ _ (fun b o hb e=>by rw[au hb];exact e) hR)
  | false =>
   refine bI ⟨xs.length - (i + 1),by omega,rfl,hlt,sm.trans s3,s3 _ _ hDD,?_⟩
   rw[List.take_add_one,getElem?_eq_getElem hlt,List.filter_append];have ef:((some xs[i]:Option β).toList).filter t=[]:=by simp[ht]
   rw[ef,List.append_nil];exact Paired.imp' (fun u x h=>st D x u _ _ (fun b o _ e=>s3 _ _ e) h) hP
 ·have e:i=xs.length:=by omega
  subst e;rw[take_of_length_le (Nat.le_refl _)]at hP;exact .inl ⟨⟨xs.map gv,SqT.of (sm _ _ hq),by rw[length_map];exact Nat.le_refl _⟩,fin D H us hD sm hDD hP⟩
end L2
namespace K45
open PySem L2
open K45T (Kvs Las Wk aS dr cF de fW bM cK)
open K45B (df eT fu)
abbrev wz:Stmt:=top 35
abbrev wA:Stmt:=top 36
abbrev jP:Stmt:=top 37
abbrev fS:Stmt:=top 39
abbrev sPTS:Stmt:=top 41
structure Cc where
 N:Addr
 B:Addr
 C:Addr
structure Ch where
 se:Addr
 mo:Addr
 nd:Addr
 wl:Addr
 o:Obj
 bt:Int
 kvs:List (Key × V)
 ss:List Str
section
variable{K:Frag}{c:Cs}{H H':Hp}{g g':Gs}
theorem aK.ins_own(h:aK K c H g){x C dx:Addr}{fs:List (Str × V)}{k:Str}{v:V}(e:H x=some (.ins C dx fs))(hk:fs.lookup k=some v)(h1:g.flm.lookup k=none)(h2:g.flw.lookup k=none):x ∉ g.own:=by
 obtain⟨dx,m1⟩:=h.ob;obtain⟨⟨dw,w1⟩,dk,_⟩:=id h.wg.wo;obtain⟨⟨dx,h6⟩,h7,⟨lk,h8,h9⟩,h10⟩:=h.tb;have L:=h.ls;intro hm;simp only[List.mem_cons,not_mem_nil,or_false]at hm;rcases hm with z | z | z | z | z | z | z | z | z
 ·exact bS k e m1 (cr hk h1) z
 ·exact bS k e w1 (cr hk h2) z
 ·exact ax e L.r (by intro z;cases z) z
 ·exact ax e h7 (by intro z;cases z) z
 ·exact ax e h8 (by intro z;cases z) z
 ·exact ax e L.g' (by intro z;cases z) z
 ·exact ax e L.f (by intro z;cases z) z
 ·exact ax e L.s (by intro z;cases z) z
 ·exact ax e L.y (by intro z;cases z) z
end
def FrC(g:Gs)(mo:Addr)(H H':Hp):Prop:=∀x u,x ∉ g.own->x ≠ mo->H x=some u->H' x=some u
theorem Fr.c{g:Gs}{mo:Addr}{H H':Hp}(f:Fr g H H'):FrC g mo H H':=fun x u n _ e=>f x u n e
theorem FrC.trans{g:Gs}{mo:Addr}{H H1 H2:Hp}(a:FrC g mo H H1)(b:FrC g mo H1 H2):FrC g mo H H2:=fun x u n m e=>b x u n m (a x u n m e)
structure cu(K:Frag)(c:Cs)(cc:Cc)(H:Hp)(g:Gs)(q:Ch):Prop where
 mo:aK K c H g
 ro:g.ro="chair"
 se:g.se=.ref q.se
 so:∃dx,H q.se=some (.ins cc.C dx (flS q.mo q.bt q.wl))
 mb:MbO cc.B cc.N H q.mo q.nd q.o g.nm g.pl (g.pl + g.xs.length) q.kvs q.ss
theorem kM (g:Gs):g.flm.lookup ("noted":Str)=none:=by kernel_rfl
theorem kN (g:Gs):g.flw.lookup ("noted":Str)=none:=by kernel_rfl
theorem fT (g:Gs):g.flm.lookup ("own":Str)=none:=by kernel_rfl
theorem fU (g:Gs):g.flw.lookup ("own":Str)=none:=by kernel_rfl
theorem oz (g:Gs):g.flm.lookup ("held":Str)=none:=by kernel_rfl
theorem oA (g:Gs):g.flw.lookup ("held":Str)=none:=by kernel_rfl
section
variable{K:Frag}{c:Cs}{cc:Cc}{H H':Hp}{g g':Gs}{q:Ch}
theorem cu.same(e:ar H H')(h:cu K c cc H g q):cu K c cc H' g q:=by
 obtain⟨dx,h1⟩:=h.so;exact⟨h.mo.same e,h.ro,h.se,⟨dx,e _ _ h1⟩,h.mb.same e⟩
theorem cu.next(h:cu K c cc H g q)(f:Fr g H H')(m:aK K c H' g')(e1:g'.ro=g.ro)(e2:g'.se=g.se)(e3:g'.nm=g.nm)(e4:g'.pl=g.pl)(e5:g.xs.length <= g'.xs.length):cu K c cc H' g' q:=by
 obtain⟨dx,h1⟩:=h.so;obtain⟨⟨dy,h2⟩,h3,h4⟩:=h.mb;refine⟨m,e1.trans h.ro,e2.trans h.se,⟨dx,f _ _ (h.mo.ins_own h1 eW (kM g) (kN g)) h1⟩,⟨⟨dy,?_⟩,f _ _ (h.mo.tup_own h3 (.inr ⟨_,_,rfl⟩)) h3,?_⟩⟩
 ·rw[e3];exact f _ _ (h.mo.ins_own h2 dL (fT g) (fU g)) h2
 ·rw[e4];refine NsO.wide (h4.keep fun n dn nx e=>f _ _ (h.mo.ins_own e oy (oz g) (oA g)) e) ?_;lia
end
def mr(K:Frag)(c:Cs):Sp:=fun us H Q _=>∃(g:Gs)(d:Addr)(dd:Dd),us=[.ref g.m,.ref d]/\aK K c H g/\DdO H d dd/\g.es.length < 60/\g.s <= g.pl + g.xs.length/\g.rs.length <= 900/\∀(kr2 en2 e a:Addr)(H':Hp),aK K c H' { g with kr:=kr2,en:=en2,es:=g.es ++ [e],xs:=g.xs ++ [(g.t,dd)],rs:=g.rs ++ [.ref a] }->Fr g H H'->Q .non H'
def ig(K:Frag)(c:Cs)(cc:Cc):Sp:=fun us H Q _=>∃(g:Gs)(q:Ch)(x:Str),us=[.ref g.m,.str x]/\cu K c cc H g q/\x ∈ q.ss/\∀(p:Addr)(H':Hp),ar H H'->Q (.ref p) H'
def gx(K:Frag)(c:Cs)(cc:Cc):Sp:=fun us H Q _=>∃(g:Gs)(q:Ch),us=[.ref g.m]/\cu K c cc H g q/\∀(p:Addr)(ps:List V)(H':Hp),ar H H'->H' p=some (.tup ps)->ps.length <= 27->Q (.ref p) H'
def qg(K:Frag)(c:Cs)(cc:Cc):Sp:=fun us H Q _=>∃(g:Gs)(q:Ch)(b:Addr)(B:Bn),us=[.ref g.m,.ref b]/\cu K c cc H g q/\BnO H b B/\g.es.length < 60/\g.s <= g.pl + g.xs.length/\g.rs.length <= 900/\∀(kr2 en2 e a:Addr)(q':Ch)(H':Hp),cu K c cc H' { g with kr:=kr2,en:=en2,es:=g.es ++ [e],xs:=g.xs ++ [(g.t,.bn B)],rs:=g.rs ++ [.ref a] } q'->q'.mo=q.mo->FrC g q.mo H H'->Q .non H'
def wB(K:Frag)(c:Cs)(cc:Cc):Sp:=fun us H Q _=>∃(g:Gs)(q:Ch)(xs0:List En)(dd:Dd),us=[.ref g.m]/\cu K c cc H g q/\g.xs=xs0 ++ [(g.t,dd)]/\0 <= g.pl/\g.s < g.pl + g.xs.length/\bB (bV g.B0 g.xs) [g.nm]=true/\∀H':Hp,ar H H'->Q (.int (g.pl + g.xs.length)) H'
section
variable{P:Program}{w:World}{K:Frag}{mg:Str->Option Value}{base:Heap}{CH CM CT CW CR CN CB CC:Addr}
theorem scPutD:ao ["mind","deed"] ["mind","deed"] (ah wz):=fsc (by decide +kernel)
theorem ok_putD {f:Addr} {fd:FuncData} (F:Fun K "put_deed" "put_deed" wz f fd) (TM:ClM K mg CM) (TW:ClW K mg CW) (TR:ClR K mg CR) (Mr:aD P w K mg base CM 1 "row" ["self"] (cx K ⟨CH,CM,CT,CW,CR⟩)) (Me:aD P w K mg base CR 3 "with_entry" ["self","entry"] (lW CR)) (Mk:aD P w K mg base CW 1 "keep_row" ["self","row"] (lM CW)) (Mc:aD P w K mg base CM 1 "record" ["self","thing"] (lO K ⟨CH,CM,CT,CW,CR⟩)):aI P w K mg base CX0 4 f fd ["mind","deed"] (mr K ⟨CH,CM,CT,CW,CR⟩):=by
 refine F.ok scPutD (fun us H Q E h=>?_) (fun cdv A outer s H us Q E hr h=>?_)
 ·obtain⟨g,d,dd,rfl,_⟩:=h;rfl
 ·obtain⟨g,d,dd,rfl,G,hd,el,gs,rl,q⟩:=h;have hs16:sizeLine=16777216:=sizeLine_eq;have r1:aP 1 _:=hr.mono (by decide)
  refine⟨_,ac (aZ (aQ Mk TW.cl r1 (am (pv 0) rfl) (ab (aQ Me TR.cl hr (aw Mr TM.cl r1 (pv 0)) (ab (aH (ab (am (am (pv 0) rfl) rfl) (ab (pv 1) ad))) ad)) ad))) <|
   ai (aZ (aQ Mc TM.cl r1 (pv 0) (ab (aH (ab aq (ab (am (am (pv 0) rfl) rfl) (ab (pv 1) ad)))) ad))),?_⟩
  dsimp only[aW,Cx.nox];obtain⟨dy,h2⟩:=G.ob;obtain⟨⟨dz,h3⟩,dk,h5⟩:=id G.wg.wo;obtain⟨hh,aa,R⟩:=G.row;refine ae fun K_ hK_=>?_;refine⟨_,rfl,g.m,CM,dy,_,_,rfl,h2,TM.cl,TM.n3,cQ,g.wr,dz,_,rfl,h3,iF,_,rfl,g.m,dy,_,rfl,h2,bv,g,rfl,G,g.kr,dk,_,rfl,h5,gP,_,rfl,g.m,CM,dy,_,_,rfl,h2,TM.cl,TM.n3,cQ,g.wr,CW,dz,_,_,rfl,h3,TW.cl,TW.nT,dI,_,rfl,(show 2 <= sizeLine by lia),fun e H1 n1 s1 e1=>?_⟩
  refine⟨g.kr,g.st,g.en,g.pl,g.tm,_,g.es,_,e,rfl,R.ro.same s1,fun r2 en2 H2 s2 n2 hr2 he2=>?_⟩;obtain⟨dk2,hr2⟩:=hr2;have s12:=s1.trans s2;refine⟨g.wr,dz,g.kr,r2,g.t,g.s,g.v,rfl,s12 _ _ h3,fun H3 b3 e3=>?_⟩;have G2:=G.same s12;have hE:EnO H2 e (g.t,dd):=⟨d,s2 _ _ e1,hd.tk (Tk.of s12)⟩;have hps:Paired (EnO H2) (g.es ++ [e]) (g.xs ++ [(g.t,dd)]):=Paired.catS G2.wg.eo (.cons hE .nil);have ps:=G.wg.ps;have G3:=G2.setK (xs2:=g.xs ++ [(g.t,dd)]) b3 e3 hr2 he2 hps (by rw[length_append];show _ + 1 <= 60;lia) (by rw[List.take_append_of_le_length (by lia)])
  obtain⟨dy3,h23⟩:=G3.ob;obtain⟨⟨dz3,h33⟩,_⟩:=id G3.wg.wo;refine hK_ _ _ ?_;refine⟨_,rfl,g.m,dy3,_,rfl,h23,ga,_,rfl,g.m,CM,dy3,_,_,rfl,h23,TM.cl,TM.n3,cQ,g.wr,CW,dz3,_,_,rfl,h33,TW.cl,TW.nT,dI,_,rfl,(show 3 <= sizeLine by lia),fun a H4 n4 s4 e4=>?_⟩
  refine⟨{ g with kr:=r2,en:=en2,es:=g.es ++ [e],xs:=g.xs ++ [(g.t,dd)] },.ref a,rfl,G3.same s4,rl,fun H5 G5 b5=>?_⟩;exact q r2 en2 e a H5 G5 ((Fr.of s12).trans ((Fr.bt b3 pL).trans ((Fr.of s4).trans (Fr.bt b5 vH))))
noncomputable abbrev nFil:List Str:=["mind","name","row","following","before","head"]
theorem scFil:ao nFil ["mind","name"] (ah jP):=fsc (by decide +kernel)
theorem qh {f:Addr} {fd:FuncData} (F:Fun K "filling" "filling" jP f fd) (TM:ClM K mg CM) (TW:ClW K mg CW) (TR:ClR K mg CR) (TB:ClB K mg CB) (TC:ClC K mg CC) (Mr:aD P w K mg base CM 1 "row" ["self"] (cx K ⟨CH,CM,CT,CW,CR⟩)) (Ms:aD P w K mg base CM 1 "settled" ["self"] (eL K ⟨CH,CM,CT,CW,CR⟩)) (Mn:aD P w K mg base CB 1 "next_of" ["self","name"] (jO CB CN)) (Mt:aD P w K mg base CR 2 "term_at" ["self","place"] (K45B.fw CR)) (Mh:aD P w K mg base CR 1 "behind" ["self","place"] (K45B.jA CR)):aI P w K mg base CX0 3 f fd ["mind","name"] (ig K ⟨CH,CM,CT,CW,CR⟩ ⟨CN,CB,CC⟩):=by
 refine F.ok scFil (fun us H Q E h=>?_) (fun cdv A outer s H us Q E hr h=>?_)
 ·obtain⟨g,ch,x,rfl,_⟩:=h;rfl
 ·obtain⟨g,ch,x,rfl,G,hx,q⟩:=h;have nd:=scFil.nd;have hs16:sizeLine=16777216:=sizeLine_eq;have r1:aP 1 _:=hr.mono (by decide)
  refine⟨_,ac (aB (i:=2) nd rfl (Or.inl rfl) (aw Mr TM.cl r1 (pv 0))) <|
   ac (aB (i:=3) nd rfl (Or.inl rfl) (aQ Mn TB.cl r1 (am (am (pv 0) rfl) rfl) (ab (pv 1) ad))) <|
   ac (bc (aG tW (pv 3) (aE az (am (pv 2) rfl) ag (fun _ _=>rfl)) (aN _)) bA aF) <|
   ac (aB (i:=4) nd rfl (Or.inl rfl) (aL dR (pv 3) ag)) <|
   ac (aB (i:=5) nd rfl (Or.inl rfl) (aH (ab aq (ab (am (pv 0) rfl) (ab (pv 1) (ab (am (am (pv 0) rfl) rfl) (ab (pv 4) (ab (aQ Mt TR.cl hr (pv 2) (ab (pv 4) ad)) ad)))))))) <|
   ai <| av <| aL dq (pv 5) (aH (ab (aQ Mh TR.cl r1 (pv 2) (ab (pv 4) ad)) (ab (aw Ms TM.cl r1 (pv 0)) (ab (am (am (pv 0) rfl) rfl) ad)))),?_⟩
  dsimp only[aW,Cx.nox];obtain⟨dy,h2⟩:=G.mo.ob;obtain⟨⟨dz,h3⟩,dk,h5⟩:=id G.mo.wg.wo;obtain⟨hh,aa,R⟩:=G.mo.row;obtain⟨⟨dxr,r0⟩,r1',r2,r3,r4,r5⟩:=id R.ro;obtain⟨ds,h6⟩:=G.so;obtain⟨⟨dm,h7⟩,h8,h9⟩:=id G.mb;have hse:=G.se;refine ae fun K_ hK_=>?_;refine⟨_,rfl,g.m,dy,_,rfl,h2,bv,g,rfl,G.mo,?_⟩;refine hK_ _ _ (ae fun K_ hK_=>?_);refine⟨_,rfl,g.m,CM,dy,_,_,rfl,h2,TM.cl,TM.n11,fo,ch.se,CC,ds,_,_,hse,h6,TC.cl,TC.nN,eW,ch.mo,dm,_,rfl,h7,jM,_,rfl,ch.mo,ch.nd,ch.o,g.nm,x,_,_,ch.kvs,ch.ss,rfl,G.mb,hx,fun nx l1 l2=>?_⟩;refine hK_ _ _ (ae fun K_ hK_=>?_);refine⟨_,rfl,_,rfl,ex5 g.kr CR dk _ _ ⟨rfl,h5,TR.cl,TR.nS,ju,ex4 g.st _ _ _ ⟨rfl,rfl,SqT.of r1',at0,_,_,rfl,rfl,_,rfl,?_⟩⟩⟩;rw[show decide (nx <= g.pl)=false from decide_eq_false (by lia)]
  refine bI ?_;refine hK_ _ _ (ae fun K_ hK_=>?_);refine⟨_,rfl,_,_,rfl,rfl,?_⟩;refine hK_ _ _ (ae fun K_ hK_=>?_);obtain⟨k,hk⟩:=Int.eq_ofNat_of_zero_le (show 0 <= nx - 1 - g.pl by lia)
  have hk':nx - 1=g.pl + (k:Int):=by lia
  refine⟨_,rfl,g.m,CM,dy,_,_,rfl,h2,TM.cl,TM.n0,dO,_,rfl,_,rfl,g.m,CM,dy,_,_,rfl,h2,TM.cl,TM.n3,cQ,g.wr,CW,dz,_,_,rfl,h3,TW.cl,TW.nT,dI,_,rfl,_,rfl,g.kr,dk,_,rfl,h5,dJ,_,rfl,g.kr,g.st,g.en,g.pl,g.tm,_,g.es,_,_,rfl,R.ro,(show 6 <= sizeLine by lia),fun p1 H1 n1 s1 e1=>?_⟩
  refine hK_ _ _ ?_;refine⟨_,rfl,_,rfl,g.kr,dk,_,rfl,s1 _ _ h5,j3,_,rfl,g.kr,g.st,g.en,g.pl,g.tm,_,g.es,_,k,by show [V.ref g.kr,V.int (nx - 1)]=_;rw[hk'],R.ro.same s1,fun t H2 s2 e2=>?_⟩
  have s12:=s1.trans s2;refine⟨_,rfl,g.m,dy,_,rfl,s12 _ _ h2,bR,g,rfl,G.mo.same s12,_,rfl,g.m,CM,dy,_,_,rfl,s12 _ _ h2,TM.cl,TM.n11,fo,ch.se,CC,ds,_,_,hse,s12 _ _ h6,TC.cl,TC.nB,flS_b,(show 3 <= sizeLine by lia),fun p3 H3 n3 s3 e3=>?_⟩
  refine⟨p1,p3,_,_,rfl,rfl,s3 _ _ (s2 _ _ e1),e3,(show 6 + 3 <= sizeLine by lia),fun p4 H4 s4 e4=>?_⟩
  exact q p4 H4 (s12.trans (s3.trans s4))
theorem scFils:ao ["mind"] ["mind"] (ah fS):=fsc (by decide +kernel)
theorem ndFils:((["mind"]:List Str) ++ (["name"]:List Str)).Nodup:=by decide +kernel
theorem oB {f:Addr} {fd:FuncData} (F:Fun K "fillings" "fillings" fS f fd) (htup:mg "tuple"=none) (TM:ClM K mg CM) (TB:ClB K mg CB) (TC:ClC K mg CC) (Mn:aD P w K mg base CB 1 "names" ["self"] (jN CB CN)) (Ff:aJ P w K mg base 3 "filling" ["mind","name"] (ig K ⟨CH,CM,CT,CW,CR⟩ ⟨CN,CB,CC⟩)):aI P w K mg base CX0 4 f fd ["mind"] (gx K ⟨CH,CM,CT,CW,CR⟩ ⟨CN,CB,CC⟩):=by
 refine F.ok scFils (fun us H Q E h=>?_) (fun cdv A outer s H us Q E hr h=>?_)
 ·obtain⟨g,ch,rfl,_⟩:=h;rfl
 ·obtain⟨g,ch,rfl,G,q⟩:=h;have r1:aP 1 _:=hr.mono (by decide)
  refine⟨_,ai <| av <| be bh (by rfl) htup ce (ab (eQ ["mind"] ["mind"] ["name"] (ah fS) rfl rfl rfl (by decide +kernel) rfl rfl (by decide +kernel) (by decide +kernel) (by decide +kernel) (by decide +kernel)
   (dQ (aw Mn TB.cl r1 (am (am (pv 0) rfl) rfl))) (fun _ _ _ _ _=>aO (i:=1) ndFils rfl (Or.inl rfl)) (fun _ _ _ _ _=>eB) (fun _ _ _ _ _=>aj (X:=cxC _ _ _ _ _ _ _ _ _) Ff hr (ab (pv 0) (ab (pv 1) ad)))) ad),?_⟩
  dsimp only[aW,Cx.nox];obtain⟨dy,h2⟩:=G.mo.ob;obtain⟨ds,h6⟩:=G.so;obtain⟨⟨dm,h7⟩,h8,h9⟩:=id G.mb;have hse:=G.se;have h27:=h9.len;refine⟨_,rfl,g.m,CM,dy,_,_,rfl,h2,TM.cl,TM.n11,fo,ch.se,CC,ds,_,_,hse,h6,TC.cl,TC.nN,eW,ch.mo,dm,_,rfl,h7,mf,ch.mo,ch.nd,ch.o,g.nm,_,_,ch.kvs,ch.ss,rfl,G.mb,fun t zs H1 s1 e1 pm=>?_⟩;have zl:=pm.length_eq;refine⟨t,rfl,⟨_,SqT.of e1⟩,?_⟩;refine lcGT (xs:=zs) V.str (fun _=>true) (fun _ _ _ _=>True) (fun _ _ _ _ _ _ _=>trivial) rfl e1 (by lia) (fun D x ys H2 post hD hx sm hDD hp=>hp H2 (ar.refl _)) (fun D x ys H2 post hD hx _ sm hDD hp=>?_) (fun D H2 us hD sm e2 hP=>?_)
  ·exact⟨_,rfl,_,rfl,g,ch,x,rfl,G.same (s1.trans sm),pm.mem_iff.mp hx,fun p H' s'=>hp _ H' s' trivial⟩
  ·have ul:=Paired.length hP;rw[List.filter_eq_self.mpr (fun _ _=>rfl)]at ul;exact⟨D,us,rfl,SqL.of e2,fun p H3 n3 s3 e3=>q p us H3 (s1.trans (sm.trans s3)) e3 (by lia)⟩
theorem scPutB:ao ["mind","bench"] ["mind","bench"] (ah wA):=fsc (by decide +kernel)
theorem ok_putB {f:Addr} {fd:FuncData} (F:Fun K "put_bench" "put_bench" wA f fd) (TM:ClM K mg CM) (TR:ClR K mg CR) (TB:ClB K mg CB) (TC:ClC K mg CC) (Mr:aD P w K mg base CM 1 "row" ["self"] (cx K ⟨CH,CM,CT,CW,CR⟩)) (Ml:aD P w K mg base CR 1 "last_place" ["self"] (K45B.cR CR)) (Fp:aJ P w K mg base 4 "put_deed" ["mind","deed"] (mr K ⟨CH,CM,CT,CW,CR⟩)) (Mb:aD P w K mg base CB 3 "note_bench" ["self","bench","place"] (iT CB CN)):aI P w K mg base CX0 5 f fd ["mind","bench"] (qg K ⟨CH,CM,CT,CW,CR⟩ ⟨CN,CB,CC⟩):=by
 refine F.ok scPutB (fun us H Q E h=>?_) (fun cdv A outer s H us Q E hr h=>?_)
 ·obtain⟨g,ch,b,B,rfl,_⟩:=h;rfl
 ·obtain⟨g,ch,b,B,rfl,G,hB,el,gs,rl,q⟩:=h;have hs16:sizeLine=16777216:=sizeLine_eq;have r1:aP 1 _:=hr.mono (by decide)
  have r3:aP 3 _:=hr.mono (by decide)
  refine⟨_,ac (aZ (aj Fp hr (ab (pv 0) (ab (aH (ab aq (ab (pv 1) ad))) ad)))) <|
   ai (aZ (aQ Mb TB.cl r3 (am (am (pv 0) rfl) rfl) (ab (pv 1) (ab (aw Ml TR.cl r1 (aw Mr TM.cl r1 (pv 0))) ad)))),?_⟩
  dsimp only[aW,Cx.nox];refine ae fun K_ hK_=>?_;refine⟨_,rfl,_,rfl,(show 2 <= sizeLine by lia),fun d H1 n1 s1 e1=>?_⟩
  refine⟨g,d,.bn B,rfl,G.mo.same s1,⟨b,e1,hB.tk (Tk.of s1)⟩,el,gs,rl,fun kr2 en2 e a H2 G2 f2=>?_⟩;have C2:cu K ⟨CH,CM,CT,CW,CR⟩ ⟨CN,CB,CC⟩ H2 _ ch:=(G.same s1).next f2 G2 rfl rfl rfl rfl (by show _ <= (g.xs ++ [(g.t,Dd.bn B)]).length;rw[length_append];lia)
  have hB2:BnO H2 b B:=(hB.tk (Tk.of s1)).tk (Fr.tkz (G.mo.same s1) f2).t;obtain⟨dy,h2⟩:=C2.mo.ob;obtain⟨_,dk,h5⟩:=id C2.mo.wg.wo;obtain⟨hh,aa,R⟩:=C2.mo.row;obtain⟨ds,h6⟩:=C2.so;obtain⟨⟨dm,h7⟩,h8,h9⟩:=id C2.mb;have hse:=C2.se;have ps:=G.mo.wg.ps;refine hK_ _ _ ?_;refine⟨_,rfl,g.m,CM,dy,_,_,rfl,h2,TM.cl,TM.n11,fo,ch.se,CC,ds,_,_,hse,h6,TC.cl,TC.nN,eW,ch.mo,dm,_,rfl,h7,dP,_,rfl,_,rfl,g.m,dy,_,rfl,h2,bv,{ g with kr:=kr2,en:=en2,es:=g.es ++ [e],xs:=g.xs ++ [(g.t,.bn B)],rs:=g.rs ++ [.ref a] },rfl,C2.mo,kr2,dk,_,rfl,h5,bi,kr2,g.st,en2,g.pl,g.tm,_,_,_,rfl,R.ro,?_⟩;have hlen:(ci (g.xs ++ [(g.t,Dd.bn B)])).length=(g.xs ++ [(g.t,Dd.bn B)]).length:=length_map _;refine⟨ch.mo,dm,b,ch.nd,g.nm,B,_,g.pl,g.pl + ((g.xs ++ [(g.t,Dd.bn B)]).length:Int),ch.kvs,ch.ss,rfl,h7,.inr ⟨ch.o,h8⟩,h9,hB2,?_,?_,fun nd2 o kvs2 ss2 H3 n3 b3 e3 e4 N3=>?_⟩
  ·show g.pl < g.pl + ((ci (g.xs ++ [(g.t,Dd.bn B)])).length:Int);rw[hlen,length_append];show _ < _ + ((_ + 1:Nat):Int);lia
  ·show g.pl + ((ci (g.xs ++ [(g.t,Dd.bn B)])).length:Int) <= _;rw[hlen];exact Int.le_refl _
  ·have nmo:ch.mo ∉ Gs.own _:=C2.mo.ins_own h7 dL (fT _) (fU _);have f3:∀x u,x ≠ ch.mo->H2 x=some u->H3 x=some u:=fun x u n e=>b3 _ _ n e;have sM:aK K ⟨CH,CM,CT,CW,CR⟩ H3 { g with kr:=kr2,en:=en2,es:=g.es ++ [e],xs:=g.xs ++ [(g.t,.bn B)],rs:=g.rs ++ [.ref a] }:=by
    have M:=C2.mo;obtain⟨⟨dw,w1⟩,dk',w2⟩:=id M.wg.wo;obtain⟨⟨dt,t1⟩,t2,⟨lk,t3,t4⟩,t5⟩:=id M.tb;have kz:TkZ H2 H3:=TkZ.ins b3 h7;have L:=M.ls.ins b3 h7;exact⟨⟨dy,b3 _ _ (bS "own" h7 h2 (cr dL (fT _))).symm h2⟩,M.wg.keep (fun u q=>b3 _ _ (bS "own" h7 w1 (cr dL (fU _))).symm q) (fun u q=>b3 _ _ (bS "own" h7 w2 (cr dL (by kernel_rfl))).symm q) kz,aS.keepT (fun u q=>b3 _ _ (bS "own" h7 t1 (cr dL (by unfold K45T.cT;kernel_rfl))).symm q) (fun u q=>b3 _ _ (ax t2 h7 (by intro z;cases z)) q) (fun u q=>b3 _ _ (ax t3 h7 (by intro z;cases z)) q) kz M.tb,L,M.bo.tk kz.t⟩
   have hso:H3 ch.se=some (.ins CC ds (flS ch.mo ch.bt ch.wl)):=b3 _ _ (bS "noted" h6 h7 (cr eW (by kernel_rfl))) h6
   refine q kr2 en2 e a { ch with nd:=nd2,o:=o,kvs:=kvs2,ss:=ss2 } H3 ⟨sM,C2.ro,hse,⟨ds,hso⟩,⟨⟨dm,e3⟩,e4,N3⟩⟩ rfl ?_;exact(Fr.of s1).c.trans (f2.c.trans fun x u n m ex=>b3 _ _ m ex)
end
theorem max_rev:∀{zs:List Int}{z:Int},zs.Pairwise (· <= ·)->zs.reverse[0]?=some z->∀y ∈ zs,y <= z:=by
 intro zs z hp hz y hy;rcases List.eq_nil_or_concat zs with rfl | ⟨r,l,rfl⟩
 ·cases hy
 ·rw[List.concat_eq_append]at hp hz hy;rw[List.reverse_append]at hz;have e:l=z:=Option.some.inj hz;subst e;rcases mem_append.mp hy with h | h
  ·exact(List.pairwise_append.mp hp).2.2 y h l (by simp)
  ·rw[List.mem_singleton.mp h];exact Int.le_refl _
theorem jQ(tm:Int)(xs0:List En)(e:En):(tm :: ci (xs0 ++ [e])).getD (xs0 ++ [e]).length 0=e.1:=by
 rw[length_append,show ci (xs0 ++ [e])=ci xs0 ++ [e.1] from List.map_append];show ((tm :: (ci xs0 ++ [e.1])).getD (xs0.length + 1) 0)=e.1;rw[List.getD_cons_succ,getD_eq_getElem?_getD,List.getElem?_append_right (by rw[length_map];exact Nat.le_refl _),length_map,Nat.sub_self]
 rfl
section
variable{P:Program}{w:World}{K:Frag}{mg:Str->Option Value}{base:Heap}{CH CM CT CW CR CN CB CC:Addr}
noncomputable abbrev nPTS:List Str:=["mind","row","bench","place","is_own"]
theorem scPTS:ao nPTS ["mind"] (ah sPTS):=fsc (by decide +kernel)
theorem ok_pts {f:Addr} {fd:FuncData} (F:Fun K "place_to_settle" "place_to_settle" sPTS f fd) (hrev:mg "reversed"=none) (hsor:mg "sorted"=none) (hset:mg "set"=none) (TM:ClM K mg CM) (TW:ClW K mg CW) (TR:ClR K mg CR) (TB:ClB K mg CB) (TC:ClC K mg CC) (Mr:aD P w K mg base CM 1 "row" ["self"] (cx K ⟨CH,CM,CT,CW,CR⟩)) (Ms:aD P w K mg base CM 1 "settled" ["self"] (eL K ⟨CH,CM,CT,CW,CR⟩)) (Mb:aD P w K mg base CR 3 "bench" ["self"] (cA CR)) (Ml:aD P w K mg base CR 1 "last_place" ["self"] (K45B.cR CR)) (Mt:aD P w K mg base CR 2 "term_at" ["self","place"] (K45B.fw CR)) (Mp:aD P w K mg base CB 1 "held_places" ["self"] (mq CB CN)) (Mh:aD P w K mg base CB 2 "holders" ["self","place"] (fR CB CN)) (Fh:aJ P w K mg base 2 "is_half" ["bench","names"] (lY K)):aI P w K mg base CX0 4 f fd ["mind"] (wB K ⟨CH,CM,CT,CW,CR⟩ ⟨CN,CB,CC⟩):=by
 refine F.ok scPTS (fun us H Q E h=>?_) (fun cdv A outer s H us Q E hr h=>?_)
 ·obtain⟨g,ch,xs0,dd,rfl,_⟩:=h;rfl
 ·obtain⟨g,ch,xs0,dd,rfl,G,hxs,p0,hs,hh,q⟩:=h;have nd:=scPTS.nd;have hs16:sizeLine=16777216:=sizeLine_eq;have r1:aP 1 _:=hr.mono (by decide)
  have r2:aP 2 _:=hr.mono (by decide)
  refine⟨_,ac (aB (i:=1) nd rfl (Or.inl rfl) (aw Mr TM.cl r1 (pv 0))) <|
   ac (aB (i:=2) nd rfl (Or.inl rfl) (aw Mb TR.cl hr (pv 1))) <|
   ac (cD PassesOwn.never rfl (pi_revL (by rfl) hrev (om rfl (aL iM (aw Mp TB.cl r1 (am (am (pv 0) rfl) rfl)) (bg (ab (aw Ml TR.cl r1 (pv 1)) ad))) (by rfl) hsor (by rfl) hset)) (aO (i:=3) nd rfl (Or.inl rfl)) <|
    ac (aB (i:=4) nd rfl (Or.inl rfl) (pe_and (cB mY (pv 3) (aw Ms TM.cl r1 (pv 0)) (aN _)) (tQ (cB cw (aQ Mt TR.cl r2 (pv 1) (ab (pv 3) ad)) (am (am (pv 0) rfl) rfl) (aN _))))) <|
    ai (bc (PW.pt (kU (cb (pv 4)) (iJ (cb (aj Fh r2 (ab (pv 2) (ab (aQ Mh TB.cl r2 (am (am (pv 0) rfl) rfl) (ab (pv 3) ad)) ad))))))) (ai (av (pv 3))) aF)) <|
   ai (av cj),?_⟩
  dsimp only[aW,Cx.nox];obtain⟨dy,h2⟩:=G.mo.ob;obtain⟨⟨dz,h3⟩,dk,h5⟩:=id G.mo.wg.wo;obtain⟨hh',aa,R⟩:=G.mo.row;obtain⟨ds,h6⟩:=G.so;obtain⟨⟨dm,h7⟩,h8,h9⟩:=id G.mb;have hse:=G.se;have h27:=h9.len;have xl:1 <= g.xs.length:=by rw[hxs,length_append];show 1 <= _ + 1;lia
  refine ae fun K_ hK_=>?_;refine⟨_,rfl,g.m,dy,_,rfl,h2,bv,g,rfl,G.mo,?_⟩;refine hK_ _ _ (ae fun K_ hK_=>?_);refine⟨_,rfl,g.kr,dk,_,rfl,h5,bN,g.kr,g.st,g.en,g.pl,g.tm,g.b,hh',aa,g.es,g.xs,g.B0,rfl,R,fun ba H1 s1 hB1=>?_⟩;refine hK_ _ _ (ae fun K_ hK_=>?_);refine⟨_,rfl,g.m,CM,dy,_,_,rfl,s1 _ _ h2,TM.cl,TM.n11,fo,ch.se,CC,ds,_,_,hse,s1 _ _ h6,TC.cl,TC.nN,eW,ch.mo,dm,_,rfl,s1 _ _ h7,gw,ch.mo,ch.nd,ch.o,g.nm,_,_,ch.kvs,ch.ss,rfl,G.mb.same s1,fun t H2 s2 e2=>?_⟩;have s12:=s1.trans s2;refine⟨_,rfl,g.kr,dk,_,rfl,s12 _ _ h5,bi,g.kr,g.st,g.en,g.pl,g.tm,_,g.es,_,rfl,R.ro.same s12,(show 1 <= sizeLine by lia),fun l2 H3 n3 s3 e3=>?_⟩
  refine⟨t,l2,_,_,rfl,rfl,s3 _ _ e2,e3,by simp only[length_map,List.length_replicate,length_cons,List.length_nil];lia,fun l3 H4 n4 s4 e4=>?_⟩
  have hlen:(ci g.xs).length=g.xs.length:=length_map _;have e4':H4 l3=some (.lst ((List.replicate ch.ss.length (0:Int) ++ [g.pl + (g.xs.length:Int)]).map V.int)):=by rw[e4,List.map_append,<- hlen];rfl
  refine⟨l3,_,rfl,SqL.of e4',by rw[length_append,List.length_replicate];show _ + 1 < 64;lia,fun l5 zs H5 n5 s5 e5 pw nz mz=>?_⟩
  have s05:=s12.trans (s3.trans (s4.trans s5));have s15:=s2.trans (s3.trans (s4.trans s5));have hlast:g.pl + (g.xs.length:Int) ∈ zs:=(mz _).mpr (mem_append.mpr (.inr (by simp)))
  refine⟨l5,_,rfl,SqL.of e5,vT (K:=K) (xs:=zs.map V.int) (fun i σ Hx=>i=0/\σ=[some (V.ref g.m),some (V.ref g.kr),some (V.ref ba),none,none]/\Hx=H5) ⟨rfl,rfl,rfl⟩ ?_ ?_ ?_⟩
  ·rintro i σ Hx hi ⟨rfl,rfl,rfl⟩;exact SqL.of e5
  ·rintro i x σ Hx hx ⟨rfl,rfl,rfl⟩;rw[<- List.map_reverse,getElem?_map]at hx;cases hz:zs.reverse[0]? with
   | none=>rw[hz]at hx;cases hx
   | some z =>
    rw[hz]at hx;cases hx;have hzm:z ∈ zs:=List.mem_reverse.mp (mem_of_getElem? hz);have hle:=max_rev pw hz _ hlast;have hz':z=g.pl + (g.xs.length:Int):=by
     rcases mem_append.mp ((mz z).mp hzm) with h | h
     ·have:=List.eq_of_mem_replicate h;lia
     ·simpa using h
    subst hz';have G5:=G.same s05;obtain⟨hh2,aa2,R5⟩:=G5.mo.row;refine ae fun K_ hK_=>?_;refine⟨_,rfl,_,rfl,g.m,dy,_,rfl,s05 _ _ h2,bR,g,rfl,G5.mo,_,_,rfl,rfl,?_⟩;refine⟨_,rfl,?_⟩;rw[show decide (g.s < g.pl + (g.xs.length:Int))=true from decide_eq_true hs];refine cm ?_;refine⟨_,rfl,g.kr,dk,_,rfl,s05 _ _ h5,dJ,_,rfl,g.kr,g.st,g.en,g.pl,g.tm,_,g.es,_,_,rfl,R5.ro,?_⟩;rw[K45B.jz g.pl g.tm (ci g.xs) (k:=g.xs.length) (by rw[hlen];exact Nat.le_refl _),hxs,jQ]
    refine⟨_,rfl,g.m,CM,dy,_,_,rfl,s05 _ _ h2,TM.cl,TM.n3,cQ,g.wr,CW,dz,_,_,rfl,s05 _ _ h3,TW.cl,TW.nT,dI,rfl,?_⟩;rw[decide_eq_true rfl];refine hK_ _ _ ?_;refine⟨_,rfl,_,rfl,cm ?_⟩;refine⟨_,rfl,_,rfl,g.m,CM,dy,_,_,rfl,s05 _ _ h2,TM.cl,TM.n11,fo,ch.se,CC,ds,_,_,hse,s05 _ _ h6,TC.cl,TC.nN,eW,ch.mo,dm,_,rfl,s05 _ _ h7,fF,_,rfl,ch.mo,ch.nd,ch.o,g.nm,_,_,_,ch.kvs,ch.ss,rfl,G5.mb,by lia,fun t6 H6 s6 e6=>?_⟩
    refine⟨ba,t6,_,[g.nm],rfl,(hB1.tk (Tk.of s15)).tk (Tk.of s6),.inr (SqT.of e6),fun H7 s7=>⟨_,rfl,?_⟩⟩;rw[hh];refine cm ⟨_,rfl,?_⟩;rw[<- hxs];exact q H7 (s05.trans (s6.trans s7))
  ·rintro σ Hx ⟨hz,_⟩;rw[length_map]at hz;rw[List.length_eq_zero_iff.mp hz]at hlast;cases hlast
end
abbrev sSAS:Stmt:=top 40
abbrev ms:Stmt:=top 42
abbrev sIBS:Stmt:=top 43
abbrev sBF:Stmt:=top 44
structure Nx(H H':Hp)(g g':Gs)(mo:Addr):Prop where
 ho:g'.ho=g.ho
 nm:g'.nm=g.nm
 wa:g'.wa=g.wa
 sz:g'.sz=g.sz
 t:g'.t=g.t
 v:g'.v=g.v
 ow:g'.own=g.own
 rs:∃more,g'.rs=g.rs ++ more
 fr:FrC g mo H H'
theorem Nx.trans{H H1 H2:Hp}{g g1 g2:Gs}{mo:Addr}(a:Nx H H1 g g1 mo)(b:Nx H1 H2 g1 g2 mo):Nx H H2 g g2 mo:=by
 obtain⟨m1,e1⟩:=a.rs;obtain⟨m2,e2⟩:=b.rs;refine⟨b.ho.trans a.ho,b.nm.trans a.nm,b.wa.trans a.wa,b.sz.trans a.sz,b.t.trans a.t,b.v.trans a.v,b.ow.trans a.ow,⟨m1 ++ m2,by rw[e2,e1,List.append_assoc]⟩,fun x u n m e=>?_⟩
 exact b.fr x u (by rw[a.ow];exact n) m (a.fr x u n m e)
def jn(j:Bool):Nat:=if j then 1 else 0
structure Pc(g:Gs)(j:Bool)(k:Nat):Prop where
 p0:0 <= g.pl
 p1:g.pl < 2 ^ 30
 hf:bB (bV g.B0 g.xs) [g.nm]=true
 pj:j=false->(bV g.B0 g.xs).cs=[]
 el:g.es.length + jn j <= 60
 rl:g.rs.length + jn j <= 900
 gl:g.gs.length + 60 * (jn j + k) <= 900
 sl:g.ss.length + jn j + k <= 900
theorem q8{vs:List Str}{nm:Str}(h:fB vs [nm]=true):nm ∈ vs:=by
 have h:=of_decide_eq_true h;unfold cnt at h;have hne:vs.filter (fun p=>decide (p ∈ [nm])) ≠ []:=fun e=>by
  rw[e]at h;simp at h
 obtain⟨y,hy⟩:=List.exists_mem_of_ne_nil _ hne;have:=List.mem_filter.mp hy;have e:=of_decide_eq_true this.2;rw[List.mem_singleton.mp e]at this;exact this.1
def q9(K:Frag)(c:Cs):Sp:=fun us H Q _=>∃g:Gs,us=[.ref g.m]/\aK K c H g/\0 <= g.pl/\g.pl < 2 ^ 30/\g.s=g.pl + g.xs.length/\Q (.bl true) H
def wC(K:Frag)(c:Cs)(cc:Cc)(j:Bool)(n:Nat):Sp:=fun us H Q _=>∃(g:Gs)(q:Ch),us=[.ref g.m]/\cu K c cc H g q/\g.s=g.pl + g.xs.length/\Pc g j 0/\∀(p:Addr)(ps:List V)(g':Gs)(q':Ch)(H':Hp),cu K c cc H' g' q'->q'.mo=q.mo->Nx H H' g g' q.mo->H' p=some (.tup ps)->ps.length <= n->Q (.ref p) H'
def cS(K:Frag)(c:Cs)(cc:Cc)(j:Bool)(n:Nat):Sp:=fun us H Q _=>∃(g:Gs)(q:Ch)(xs0:List En)(dd:Dd),us=[.ref g.m]/\cu K c cc H g q/\g.xs=xs0 ++ [(g.t,dd)]/\g.s < g.pl + g.xs.length/\Pc g j 1/\∀(p:Addr)(ps:List V)(g':Gs)(q':Ch)(H':Hp),cu K c cc H' g' q'->q'.mo=q.mo->Nx H H' g g' q.mo->H' p=some (.tup ps)->ps.length <= n->Q (.ref p) H'
section
variable{P:Program}{w:World}{K:Frag}{mg:Str->Option Value}{base:Heap}{CH CM CT CW CR CN CB CC:Addr}
theorem scIBS:ao ["mind"] ["mind"] (ah sIBS):=fsc (by decide +kernel)
theorem ok_ibs {f:Addr} {fd:FuncData} (F:Fun K "is_bench_settled" "is_bench_settled" sIBS f fd) (TM:ClM K mg CM) (TR:ClR K mg CR) (Mr:aD P w K mg base CM 1 "row" ["self"] (cx K ⟨CH,CM,CT,CW,CR⟩)) (Ms:aD P w K mg base CM 1 "settled" ["self"] (eL K ⟨CH,CM,CT,CW,CR⟩)) (Mb:aD P w K mg base CR 2 "bench_place" ["self"] (jH CR)):aI P w K mg base CX0 3 f fd ["mind"] (q9 K ⟨CH,CM,CT,CW,CR⟩):=by
 refine F.ok scIBS (fun us H Q E h=>?_) (fun cdv A outer s H us Q E hr h=>?_)
 ·obtain⟨g,rfl,_⟩:=h;rfl
 ·obtain⟨g,rfl,G,p0,p1,hs,q⟩:=h;have r1:aP 1 _:=hr.mono (by decide)
  refine⟨_,ai <| av <| cB tW (aw Mb TR.cl hr (aw Mr TM.cl r1 (pv 0))) (aw Ms TM.cl r1 (pv 0)) (aN _),?_⟩;obtain⟨dy,h2⟩:=G.ob;obtain⟨_,dk,h5⟩:=id G.wg.wo;obtain⟨hh',aa,R⟩:=G.row;refine⟨_,rfl,g.m,dy,_,rfl,h2,bv,g,rfl,G,g.kr,dk,_,rfl,h5,gu,g.kr,g.st,g.en,g.pl,g.tm,g.b,hh',aa,g.es,g.xs,g.B0,rfl,R,p0,p1,fun p l1 l2=>?_⟩;refine⟨_,rfl,g.m,dy,_,rfl,h2,bR,g,rfl,G,_,_,rfl,rfl,?_⟩;show Q (.bl (decide (p <= g.s))) H;rw[decide_eq_true (by lia)]
  exact q
theorem scBF:ao ["mind","bench"] ["mind"] (ah sBF):=fsc (by decide +kernel)
theorem ok_bf0 {f:Addr} {fd:FuncData} (F:Fun K "bench_followed" "bench_followed" sBF f fd) (TM:ClM K mg CM) (TR:ClR K mg CR) (Mr:aD P w K mg base CM 1 "row" ["self"] (cx K ⟨CH,CM,CT,CW,CR⟩)) (Mb:aD P w K mg base CR 3 "bench" ["self"] (cA CR)) (Fi:aJ P w K mg base 3 "is_bench_settled" ["mind"] (q9 K ⟨CH,CM,CT,CW,CR⟩)) (Fj:aJ P w K mg base 1 "is_joined" ["bench"] ei):aI P w K mg base CX0 6 f fd ["mind"] (wC K ⟨CH,CM,CT,CW,CR⟩ ⟨CN,CB,CC⟩ false 0):=by
 refine F.ok scBF (fun us H Q E h=>?_) (fun cdv A outer s H us Q E hr h=>?_)
 ·obtain⟨g,ch,rfl,_⟩:=h;rfl
 ·obtain⟨g,ch,rfl,G,hs,hP,q⟩:=h;have nd:=scBF.nd;have hs16:sizeLine=16777216:=sizeLine_eq;have r1:aP 1 _:=hr.mono (by decide)
  have r3:aP 3 _:=hr.mono (by decide)
  refine⟨_,ac (aB (i:=1) nd rfl (Or.inl rfl) (aw Mb TR.cl r3 (aw Mr TM.cl r1 (pv 0)))) <|
   ac (bc (eX (cb (aj Fi r3 (ab (pv 0) ad)))) bA aF) <|
   ac (bc (cb (aj Fj r1 (ab (pv 1) ad))) bA aF) <|
   ac (bc (aG di (am (pv 0) rfl) (aE az (pv 1) ag (fun _ _=>rfl)) (by rfl)) bA aF) <|
   ai (av (aH ad)),?_⟩
  dsimp only[aW,Cx.nox];obtain⟨dy,h2⟩:=G.mo.ob;obtain⟨_,dk,h5⟩:=id G.mo.wg.wo;obtain⟨hh',aa,R⟩:=G.mo.row;refine ae fun K_ hK_=>?_;refine⟨_,rfl,g.m,dy,_,rfl,h2,bv,g,rfl,G.mo,g.kr,dk,_,rfl,h5,bN,g.kr,g.st,g.en,g.pl,g.tm,g.b,hh',aa,g.es,g.xs,g.B0,rfl,R,fun ba H1 s1 hB1=>?_⟩;refine hK_ _ _ (ae fun K_ hK_=>?_);refine⟨_,rfl,g,rfl,G.mo.same s1,hP.p0,hP.p1,hs,_,rfl,bI ?_⟩;refine hK_ _ _ (ae fun K_ hK_=>?_);refine⟨_,rfl,ba,_,rfl,hB1,_,rfl,?_⟩;rw[decide_eq_false (show ¬(bV g.B0 g.xs).cs ≠ [] by rw[hP.pj rfl];simp)]
  refine bI ?_;refine hK_ _ _ (ae fun K_ hK_=>?_);obtain⟨⟨v,c,l,hb,hv,hc,hl⟩,_⟩:=id hB1;have hin:g.nm ∈ (bV g.B0 g.xs).vs:=by
   have:=hP.hf;unfold bB at this;rw[Bool.and_eq_true]at this;exact q8 this.1
  refine⟨_,rfl,g.m,CM,dy,_,_,rfl,s1 _ _ h2,TM.cl,TM.n0,dO,_,rfl,ex4 ba _ _ _ ⟨rfl,rfl,SqT.of hb,at0,v,_,rfl,.inr (SqT.of hv),rfl,cv _,_,rfl,?_⟩⟩;rw[eI,decide_eq_true hin];refine bI ?_;refine hK_ _ _ ?_;refine⟨Nat.zero_le _,fun p H2 n2 s2 e2=>?_⟩;exact q p [] g ch H2 (G.same (s1.trans s2)) rfl ⟨rfl,rfl,rfl,rfl,rfl,rfl,rfl,⟨[],by rw[List.append_nil]⟩,(Fr.of (s1.trans s2)).c⟩ e2 (Nat.zero_le _)
theorem ok_bf1 {f:Addr} {fd:FuncData} {k n:Nat} (hk:5 <= k) (F:Fun K "bench_followed" "bench_followed" sBF f fd) (TM:ClM K mg CM) (TR:ClR K mg CR) (Mr:aD P w K mg base CM 1 "row" ["self"] (cx K ⟨CH,CM,CT,CW,CR⟩)) (Mb:aD P w K mg base CR 3 "bench" ["self"] (cA CR)) (Fi:aJ P w K mg base 3 "is_bench_settled" ["mind"] (q9 K ⟨CH,CM,CT,CW,CR⟩)) (Fj:aJ P w K mg base 1 "is_joined" ["bench"] ei) (Fp:aJ P w K mg base 5 "put_bench" ["mind","bench"] (qg K ⟨CH,CM,CT,CW,CR⟩ ⟨CN,CB,CC⟩)) (Fb:aJ P w K mg base 2 "behind" ["bench"] ie) (Fs:aJ P w K mg base k "sent_and_settled" ["mind"] (cS K ⟨CH,CM,CT,CW,CR⟩ ⟨CN,CB,CC⟩ false n)):aI P w K mg base CX0 (k + 1) f fd ["mind"] (wC K ⟨CH,CM,CT,CW,CR⟩ ⟨CN,CB,CC⟩ true n):=by
 refine F.ok scBF (fun us H Q E h=>?_) (fun cdv A outer s H us Q E hr h=>?_)
 ·obtain⟨g,ch,rfl,_⟩:=h;rfl
 ·obtain⟨g,ch,rfl,G,hs,hP,q⟩:=h;have nd:=scBF.nd;have hs16:sizeLine=16777216:=sizeLine_eq;have r1:aP 1 _:=hr.mono (by lia)
  have r2:aP 2 _:=hr.mono (by lia)
  have r3:aP 3 _:=hr.mono (by lia)
  have r5:aP 5 _:=hr.mono (by lia)
  refine⟨_,ac (aB (i:=1) nd rfl (Or.inl rfl) (aw Mb TR.cl r3 (aw Mr TM.cl r1 (pv 0)))) <|
   ac (bc (eX (cb (aj Fi r3 (ab (pv 0) ad)))) bA aF) <|
   ac (bc (cb (aj Fj r1 (ab (pv 1) ad))) (ac (aZ (aj Fp r5 (ab (pv 0) (ab (aj Fb r2 (ab (pv 1) ad)) ad)))) <| ai (av (aj Fs hr (ab (pv 0) ad)))) aF) <|
   ac (bc (aG di (am (pv 0) rfl) (aE az (pv 1) ag (fun _ _=>rfl)) (by rfl)) bA aF) <|
   ai (av (aH ad)),?_⟩
  dsimp only[aW,Cx.nox];obtain⟨dy,h2⟩:=G.mo.ob;obtain⟨_,dk,h5⟩:=id G.mo.wg.wo;obtain⟨hh',aa,R⟩:=G.mo.row;have hf:=hP.hf;unfold bB at hf;rw[Bool.and_eq_true]at hf;refine ae fun K_ hK_=>?_;refine⟨_,rfl,g.m,dy,_,rfl,h2,bv,g,rfl,G.mo,g.kr,dk,_,rfl,h5,bN,g.kr,g.st,g.en,g.pl,g.tm,g.b,hh',aa,g.es,g.xs,g.B0,rfl,R,fun ba H1 s1 hB1=>?_⟩;refine hK_ _ _ (ae fun K_ hK_=>?_);refine⟨_,rfl,g,rfl,G.mo.same s1,hP.p0,hP.p1,hs,_,rfl,bI ?_⟩;refine hK_ _ _ (ae fun K_ hK_=>?_);refine⟨_,rfl,ba,_,rfl,hB1,_,rfl,?_⟩;by_cases hcs:(bV g.B0 g.xs).cs=[]
  ·rw[decide_eq_false (show ¬(bV g.B0 g.xs).cs ≠ [] by rw[hcs];simp)]
   refine bI ?_;refine hK_ _ _ (ae fun K_ hK_=>?_);obtain⟨⟨v,c,l,hb,hv,hc,hl⟩,_⟩:=id hB1;refine⟨_,rfl,g.m,CM,dy,_,_,rfl,s1 _ _ h2,TM.cl,TM.n0,dO,_,rfl,ex4 ba _ _ _ ⟨rfl,rfl,SqT.of hb,at0,v,_,rfl,.inr (SqT.of hv),rfl,cv _,_,rfl,?_⟩⟩;rw[eI,decide_eq_true (q8 hf.1)];refine bI ?_;refine hK_ _ _ ?_;refine⟨Nat.zero_le _,fun p H2 n2 s2 e2=>?_⟩;exact q p [] g ch H2 (G.same (s1.trans s2)) rfl ⟨rfl,rfl,rfl,rfl,rfl,rfl,rfl,⟨[],by rw[List.append_nil]⟩,(Fr.of (s1.trans s2)).c⟩ e2 (Nat.zero_le _)
  ·rw[decide_eq_true hcs];refine cm ?_;have a1:=hP.el;have a2:=hP.rl;have a3:=hP.gl;have a4:=hP.sl;have j1:jn true=1:=rfl;have j0:jn false=0:=rfl;rw[j1]at a1 a2 a3 a4;refine ae fun K_ hK_=>?_;refine⟨_,rfl,_,rfl,ba,_,rfl,hB1,hcs,fun bb H2 s2 hB2=>?_⟩;have s12:=s1.trans s2;refine⟨g,ch,bb,_,rfl,G.same s12,hB2,by lia,by lia,by lia,fun kr2 en2 e a q2 H3 C3 m3 f3=>?_⟩
   refine hK_ _ _ ?_;have hb2:bV g.B0 (g.xs ++ [(g.t,.bn (bhd (bV g.B0 g.xs)))])=bhd (bV g.B0 g.xs):=fP _ _ _;have hcs2:fB (bV g.B0 g.xs).cs [g.nm]=true:=by
    have:=hf.2;rw[decide_eq_false hcs,Bool.false_or]at this;exact this
   have hh2:bB (bhd (bV g.B0 g.xs)) [g.nm]=true:=by
    unfold bB;show (fB (bV g.B0 g.xs).cs [g.nm] && (decide (([]:List Str)=[]) || _))=true;rw[hcs2,decide_eq_true rfl];rfl
   refine⟨_,rfl,{ g with kr:=kr2,en:=en2,es:=g.es ++ [e],xs:=g.xs ++ [(g.t,.bn (bhd (bV g.B0 g.xs)))],rs:=g.rs ++ [.ref a] },q2,g.xs,_,rfl,C3,rfl,?_,⟨hP.p0,hP.p1,?_,fun _=>?_,?_,?_,?_,?_⟩,fun p ps g' q' H' C' m' N' e' l'=>?_⟩
   ·show g.s < g.pl + ((g.xs ++ [(g.t,Dd.bn (bhd (bV g.B0 g.xs)))]).length:Int);rw[length_append];show _ < _ + ((_ + 1:Nat):Int);lia
   ·show bB (bV g.B0 (g.xs ++ [(g.t,.bn (bhd (bV g.B0 g.xs)))])) [g.nm]=true;rw[hb2];exact hh2
   ·show (bV g.B0 (g.xs ++ [(g.t,.bn (bhd (bV g.B0 g.xs)))])).cs=[];rw[hb2]
   ·show (g.es ++ [e]).length + jn false <= 60;rw[length_append,j0];show _ + 1 + 0 <= 60;lia
   ·show (g.rs ++ [V.ref a]).length + jn false <= 900;rw[length_append,j0];show _ + 1 + 0 <= 900;lia
   ·show g.gs.length + 60 * (jn false + 1) <= 900;rw[j0];lia
   ·show g.ss.length + jn false + 1 <= 900;rw[j0];lia
   ·refine q p ps g' q' H' C' (m'.trans m3) ?_ e' l';have N1:Nx H H3 g { g with kr:=kr2,en:=en2,es:=g.es ++ [e],xs:=g.xs ++ [(g.t,.bn (bhd (bV g.B0 g.xs)))],rs:=g.rs ++ [.ref a] } ch.mo:=⟨rfl,rfl,rfl,rfl,rfl,rfl,rfl,⟨[.ref a],rfl⟩,(Fr.of s12).c.trans f3⟩;rw[m3]at N';exact N1.trans N'
noncomputable abbrev nSet:List Str:=["mind","place","row","entries","holders","asker","number","word","answer"]
theorem scSet:ao nSet ["mind"] (ah ms):=fsc (by decide +kernel)
theorem kO {f:Addr} {fd:FuncData} {k n:Nat} {j:Bool} (hk:5 <= k) (F:Fun K "settle" "settle" ms f fd) (TM:ClM K mg CM) (TW:ClW K mg CW) (TR:ClR K mg CR) (TB:ClB K mg CB) (TC:ClC K mg CC) (Fp:aJ P w K mg base 4 "place_to_settle" ["mind"] (wB K ⟨CH,CM,CT,CW,CR⟩ ⟨CN,CB,CC⟩)) (Mr:aD P w K mg base CM 1 "row" ["self"] (cx K ⟨CH,CM,CT,CW,CR⟩)) (Ms:aD P w K mg base CM 1 "settled" ["self"] (eL K ⟨CH,CM,CT,CW,CR⟩)) (Mw:aD P w K mg base CR 1 "between" ["self","before","place"] (lV CR)) (Mh:aD P w K mg base CB 2 "holders" ["self","place"] (fR CB CN)) (Mb:aD P w K mg base CR 3 "bench" ["self"] (cA CR)) (Mt:aD P w K mg base CM 5 "settle_to" ["self","place"] (jI K ⟨CH,CM,CT,CW,CR⟩)) (Fb:aJ P w K mg base k "bench_followed" ["mind"] (wC K ⟨CH,CM,CT,CW,CR⟩ ⟨CN,CB,CC⟩ j n)):aI P w K mg base CX0 (k + 1) f fd ["mind"] (cS K ⟨CH,CM,CT,CW,CR⟩ ⟨CN,CB,CC⟩ j n):=by
 refine F.ok scSet (fun us H Q E h=>?_) (fun cdv A outer s H us Q E hr h=>?_)
 ·obtain⟨g,ch,xs0,dd,rfl,_⟩:=h;rfl
 ·obtain⟨g,ch,xs0,dd,rfl,G,hxs,hs,hP,q⟩:=h;have nd:=scSet.nd;have hs16:sizeLine=16777216:=sizeLine_eq;have r1:aP 1 _:=hr.mono (by lia)
  have r2:aP 2 _:=hr.mono (by lia)
  have r3:aP 3 _:=hr.mono (by lia)
  have r4:aP 4 _:=hr.mono (by lia)
  have r5:aP 5 _:=hr.mono (by lia)
  refine⟨_,ac (aB (i:=1) nd rfl (Or.inl rfl) (aj Fp r4 (ab (pv 0) ad))) <|
   ac (bc (aG tX (pv 1) cj (aN _)) bA aF) <|
   ac (aB (i:=2) nd rfl (Or.inl rfl) (aw Mr TM.cl r1 (pv 0))) <|
   ac (aB (i:=3) nd rfl (Or.inl rfl) (aQ Mw TR.cl r1 (pv 2) (ab (aw Ms TM.cl r1 (pv 0)) (ab (pv 1) ad)))) <|
   ac (aB (i:=4) nd rfl (Or.inl rfl) (aQ Mh TB.cl r2 (am (am (pv 0) rfl) rfl) (ab (pv 1) ad))) <|
   ac (aZ (fZ PySem.F.plainAttrs_list PySem.F.slot_list_append PySem.F.type_list_append dN (am (pv 0) rfl) (ab (aH (ab aq (ab (am (am (pv 0) rfl) rfl) (ab (am (pv 0) rfl) (ab (pv 1) (ab (pv 3) (ab (aw Mb TR.cl r3 (pv 2)) (ab (pv 4) ad)))))))) ad))) <|
   ac (cD PassesOwn.never rfl (dQ (aQ Mt TM.cl r5 (pv 0) (ab (pv 1) ad))) (gW rfl (bO (aO (i:=5) nd rfl (Or.inl rfl)) (bO (aO (i:=6) nd rfl (Or.inl rfl)) (bO (aO (i:=7) nd rfl (Or.inl rfl)) (bO (aO (i:=8) nd rfl (Or.inl rfl)) fK))))) <|
    ai (bc (aG i3 (pv 7) aq (aN _)) (ai (aZ (fZ PySem.F.plainAttrs_list PySem.F.slot_list_append PySem.F.type_list_append dN (am (pv 0) rfl) (ab (aH (ab (pv 5) (ab (pv 6) (ab (pv 8) ad)))) ad)))) aF)) <|
   ai (av (aj Fb hr (ab (pv 0) ad))),?_⟩
  dsimp only[aW,Cx.nox];obtain⟨dy,h2⟩:=G.mo.ob;obtain⟨⟨dz,h3⟩,dk,h5⟩:=id G.mo.wg.wo;obtain⟨hh',aa,R⟩:=G.mo.row;obtain⟨ds,h6⟩:=G.so;obtain⟨⟨dm,h7⟩,h8,h9⟩:=id G.mb;have hse:=G.se;have a3:=hP.gl;have a4:=hP.sl;have pl0:=hP.p0;have ps:=G.mo.wg.ps;have hxl:g.es.length=g.xs.length:=Paired.length G.mo.wg.eo;obtain⟨i,hi⟩:=Int.eq_ofNat_of_zero_le (show 0 <= g.s - g.pl by lia)
  refine ae fun K_ hK_=>?_;refine⟨_,rfl,g,ch,xs0,dd,rfl,G,hxs,pl0,hs,hP.hf,fun H1 s1=>?_⟩;refine hK_ _ _ (ae fun K_ hK_=>?_);refine⟨_,rfl,rfl,_,rfl,bI ?_⟩;refine hK_ _ _ (ae fun K_ hK_=>?_);refine⟨_,rfl,g.m,dy,_,rfl,s1 _ _ h2,bv,g,rfl,G.mo.same s1,?_⟩;refine hK_ _ _ (ae fun K_ hK_=>?_);refine⟨_,rfl,g.kr,dk,_,rfl,s1 _ _ h5,fq,_,rfl,g.m,dy,_,rfl,s1 _ _ h2,bR,g,rfl,G.mo.same s1,_,rfl,g.kr,g.st,g.en,g.pl,g.tm,_,g.es,ci g.xs,i,g.xs.length,?_,R.ro.same s1,by lia,by lia,fun t2 H2 s2 e2=>?_⟩
  ·show [V.ref g.kr,V.int g.s,V.int (g.pl + (g.xs.length:Int))]=[V.ref g.kr,V.int (g.pl + (i:Int)),V.int (g.pl + (g.xs.length:Int))];rw[show g.pl + (i:Int)=g.s by lia]
  have s12:=s1.trans s2;refine hK_ _ _ (ae fun K_ hK_=>?_);refine⟨_,rfl,g.m,CM,dy,_,_,rfl,s12 _ _ h2,TM.cl,TM.n11,fo,ch.se,CC,ds,_,_,hse,s12 _ _ h6,TC.cl,TC.nN,eW,ch.mo,dm,_,rfl,s12 _ _ h7,fF,_,rfl,ch.mo,ch.nd,ch.o,g.nm,_,_,_,ch.kvs,ch.ss,rfl,G.mb.same s12,by lia,fun t3 H3 s3 e3=>?_⟩
  have s13:=s12.trans s3;refine hK_ _ _ (ae fun K_ hK_=>?_);have G3:=G.same s13;refine⟨_,rfl,g.m,CM,dy,_,_,rfl,s13 _ _ h2,TM.cl,TM.n14,ve,.inl ⟨rfl,_,SqL.of G3.mo.ls.s⟩,_,rfl,g.m,CM,dy,_,_,rfl,s13 _ _ h2,TM.cl,TM.n3,cQ,g.wr,CW,dz,_,_,rfl,s13 _ _ h3,TW.cl,TW.nT,dI,_,rfl,g.m,CM,dy,_,_,rfl,s13 _ _ h2,TM.cl,TM.n0,dO,_,rfl,_,rfl,_,rfl,g.kr,dk,_,rfl,s13 _ _ h5,bN,g.kr,g.st,g.en,g.pl,g.tm,g.b,hh',aa,g.es,g.xs,g.B0,rfl,R.same s13,fun ba H4 s4 hB4=>?_⟩;refine⟨_,rfl,(show 7 <= sizeLine by lia),fun a5 H5 n5 s5 e5=>?_⟩
  have G5:=G.same ((s13.trans s4).trans s5);refine⟨g.sl,g.ss,.ref a5,rfl,rfl,G5.mo.ls.s,by lia,fun H6 k6 e6=>?_⟩
  have b6:BtO g.sl H5 H6:=fun b u n e=>k6 b u n e;have M6:=G5.mo.setS b6 e6;have f6:Fr g H H6:=(Fr.of ((s13.trans s4).trans s5)).trans (Fr.bt b6 vI);obtain⟨dy6,h26⟩:=M6.ob;refine hK_ _ _ (ae fun K_ hK_=>?_);refine⟨_,rfl,g.m,dy6,_,rfl,h26,ia,_,rfl,{ g with ss:=g.ss ++ [.ref a5] },_,rfl,M6,by show g.s <= _;lia,by show _ <= g.pl + (g.es.length:Int);lia,fun r ts H7 M7 f7 e7 tl told=>?_⟩
  refine⟨r,rfl,⟨_,SqT.of e7⟩,fM (K:=K) (xs:=ts.map V.ref) (fun i σ Hx=>∃(v5 v6 v7 v8:Option V)(gs:List V),σ=[some (V.ref g.m),some (.int (g.pl + (g.xs.length:Int))),some (V.ref g.kr),some (V.ref t2),some (V.ref t3),v5,v6,v7,v8]/\aK K ⟨CH,CM,CT,CW,CR⟩ Hx { g with ss:=g.ss ++ [.ref a5],s:=g.pl + (g.xs.length:Int),gs:=gs }/\gs.length <= g.gs.length + i/\Fr g H Hx/\Tk H7 Hx)
   ⟨none,none,none,none,g.gs,rfl,M7,by lia,f6.trans f7,Tk.refl _⟩ ?_ ?_ ?_⟩
  ·rintro i σ Hx hi ⟨v5,v6,v7,v8,gs,rfl,M,gl,f,tk⟩;exact SqT.of (tk _ _ e7)
  ·rintro i x σ Hx hx ⟨v5,v6,v7,v8,gs,rfl,M,gl,f,tk⟩;rw[getElem?_map]at hx;cases hz:ts[i]? with
   | none=>rw[hz]at hx;cases hx
   | some a =>
    rw[hz]at hx;cases hx;have hil:i < ts.length:=(List.getElem?_eq_some_iff.mp hz).1;obtain⟨x,wd,n,y,ha⟩:=eS.tk tk (told a (mem_of_getElem? hz));refine⟨a,_,rfl,SqT.of ha,rfl,_,_,rfl,_,_,rfl,_,_,rfl,_,_,rfl,rfl,?_⟩;refine⟨_,rfl,rfl,_,rfl,?_⟩;refine dl (fun _=>?_) (fun _=>⟨_,_,_,_,gs,rfl,M,by lia,f,tk⟩)
    obtain⟨dyx,h2x⟩:=M.ob;refine⟨_,rfl,g.m,CM,dyx,_,_,rfl,h2x,TM.cl,TM.n12,flG_gl,.inl ⟨rfl,_,SqL.of M.ls.g'⟩,_,rfl,_,rfl,_,rfl,(show 3 <= sizeLine by lia),fun a8 H8 n8 s8 e8=>?_⟩
    have M8:=M.same s8;refine⟨g.gl,gs,.ref a8,rfl,rfl,M8.ls.g',by lia,fun H9 k9 e9=>?_⟩
    have b9:BtO g.gl H8 H9:=fun b u n e=>k9 b u n e;have M9:=M8.setG b9 e9;refine⟨_,_,_,_,gs ++ [.ref a8],rfl,M9,by rw[length_append];show _ + 1 <= _;lia,f.trans ((Fr.of s8).trans (Fr.bt b9 own_gl)),tk.trans ((Tk.of s8).trans (TkZ.lst b9 M8.ls.g').t)⟩
  ·rintro σ Hx ⟨v5,v6,v7,v8,gs,rfl,M,gl,f,tk⟩;rw[length_map]at gl;refine hK_ _ _ ?_;have Cx:=G.next (g':={ g with ss:=g.ss ++ [.ref a5],s:=g.pl + (g.xs.length:Int),gs:=gs }) f M rfl rfl rfl rfl (Nat.le_refl _);refine⟨_,rfl,{ g with ss:=g.ss ++ [.ref a5],s:=g.pl + (g.xs.length:Int),gs:=gs },ch,rfl,Cx,rfl,⟨hP.p0,hP.p1,hP.hf,hP.pj,hP.el,hP.rl,?_,?_⟩,fun p ps g' q' H' C' m' N' e' l'=>?_⟩
   ·show gs.length + 60 * (jn j + 0) <= 900;lia
   ·show (g.ss ++ [V.ref a5]).length + jn j + 0 <= 900;rw[length_append];show _ + 1 + _ + 0 <= 900;lia
   ·refine q p ps g' q' H' C' m' ?_ e' l';have N1:Nx H Hx g { g with ss:=g.ss ++ [.ref a5],s:=g.pl + (g.xs.length:Int),gs:=gs } ch.mo:=⟨rfl,rfl,rfl,rfl,rfl,rfl,rfl,⟨[],by rw[List.append_nil]⟩,f.c⟩
    exact N1.trans N'
theorem scSAS:ao ["mind","sent"] ["mind"] (ah sSAS):=fsc (by decide +kernel)
theorem wD {f:Addr} {fd:FuncData} {k n:Nat} {j:Bool} (hk:5 <= k) (hn:n <= 1000) (F:Fun K "sent_and_settled" "sent_and_settled" sSAS f fd) (Ff:aJ P w K mg base 4 "fillings" ["mind"] (gx K ⟨CH,CM,CT,CW,CR⟩ ⟨CN,CB,CC⟩)) (Fs:aJ P w K mg base k "settle" ["mind"] (cS K ⟨CH,CM,CT,CW,CR⟩ ⟨CN,CB,CC⟩ j n)):aI P w K mg base CX0 (k + 1) f fd ["mind"] (cS K ⟨CH,CM,CT,CW,CR⟩ ⟨CN,CB,CC⟩ j (n + 27)):=by
 refine F.ok scSAS (fun us H Q E h=>?_) (fun cdv A outer s H us Q E hr h=>?_)
 ·obtain⟨g,ch,xs0,dd,rfl,_⟩:=h;rfl
 ·obtain⟨g,ch,xs0,dd,rfl,G,hxs,hs,hP,q⟩:=h;have nd:=scSAS.nd;have hs16:sizeLine=16777216:=sizeLine_eq;have r4:aP 4 _:=hr.mono (by lia)
  refine⟨_,ac (aB (i:=1) nd rfl (Or.inl rfl) (aj Ff r4 (ab (pv 0) ad))) <|
   ai (av (aL dq (pv 1) (aj Fs hr (ab (pv 0) ad)))),?_⟩
  refine ae fun K_ hK_=>?_;refine⟨_,rfl,g,ch,rfl,G,fun p1 ps1 H1 s1 e1 l1=>?_⟩;refine hK_ _ _ ?_;refine⟨_,rfl,_,rfl,g,ch,xs0,dd,rfl,G.same s1,hxs,hs,hP,fun p ps g' q' H' C' m' N' e' l'=>?_⟩;have t1:H' p1=some (.tup ps1):=by
   have:=(G.same s1).mo.tup_own e1 (.inl ⟨_,rfl⟩);obtain⟨⟨dm,h7⟩,_⟩:=id (G.same s1).mb;exact N'.fr _ _ this (ax e1 h7 (by intro z;cases z)) e1
  refine⟨p1,p,ps1,ps,rfl,rfl,t1,e',by lia,fun p3 H3 s3 e3=>?_⟩
  exact q p3 (ps1 ++ ps) g' q' H3 (C'.same s3) m' ⟨N'.ho,N'.nm,N'.wa,N'.sz,N'.t,N'.v,N'.ow,N'.rs,(Fr.of s1).c.trans (N'.fr.trans (Fr.of s3).c)⟩ e3 (by rw[length_append];lia)
end
abbrev mt:Stmt:=top 34
structure Nm2(H H':Hp)(g g':Gs):Prop where
 ho:g'.ho=g.ho
 m:g'.m=g.m
 nm:g'.nm=g.nm
 wa:g'.wa=g.wa
 sz:g'.sz=g.sz
 rs:∃more,g'.rs=g.rs ++ more
 ow:∀x ∈ g'.own,x ∈ g.own\/H x=none
 fr:Fr g H H'
theorem Nm2.trans{H H1 H2:Hp}{g g1 g2:Gs}(a:Nm2 H H1 g g1)(b:Nm2 H1 H2 g1 g2):Nm2 H H2 g g2:=by
 obtain⟨m1,e1⟩:=a.rs;obtain⟨m2,e2⟩:=b.rs;have ow:∀x ∈ g2.own,x ∈ g.own\/H x=none:=fun x hx=>by
  rcases b.ow x hx with h | h
  ·exact a.ow x h
  ·by_cases hg:x ∈ g.own
   ·exact .inl hg
   ·cases e:H x with
    | none=>exact .inr rfl
    | some u =>
     rw[a.fr x u hg e]at h;cases h
 exact⟨b.ho.trans a.ho,b.m.trans a.m,b.nm.trans a.nm,b.wa.trans a.wa,b.sz.trans a.sz,⟨m1 ++ m2,by rw[e2,e1,List.append_assoc]⟩,ow,a.fr.next b.fr a.ow⟩
theorem Nm2.same{H H':Hp}{g:Gs}(s:ar H H'):Nm2 H H' g g:=⟨rfl,rfl,rfl,rfl,rfl,⟨[],by rw[List.append_nil]⟩,fun x hx=>.inl hx,Fr.of s⟩
structure Pv(g:Gs):Prop where
 p0:0 <= g.pl
 p1:g.pl < 2 ^ 30
 ps:g.s <= g.pl + g.xs.length
 el:g.es.length <= 50
 rl:g.rs.length <= 800
 gl:g.gs.length <= 700
 sl:g.ss.length <= 800
def jS (K:Frag) (c:Cs):Sp:=fun us H Q _=>∃g:Gs,us=[.ref g.m]/\aK K c H g/\g.ys=[g.nm]/\bB (bV g.B0 g.xs) [g.nm]=true/\Pv g/\∀(p:Addr)(g':Gs)(H':Hp),aK K c H' g'->g'.ro="chair" ->g'.t=g.t->g'.v=g.v->Nm2 H H' g g'->Q (.ref p) H'
section
variable{P:Program}{w:World}{K:Frag}{mg:Str->Option Value}{base:Heap}{CH CM CT CW CR CN CB CC:Addr}
theorem oC:ao ["mind","row"] ["mind"] (ah mt):=fsc (by decide +kernel)
theorem tI {f:Addr} {fd:FuncData} {k n:Nat} (hk:5 <= k) (F:Fun K "become_chair" "become_chair" mt f fd) (htup:mg "tuple"=none) (hsor:mg "sorted"=none) (TM:ClM K mg CM) (TW:ClW K mg CW) (TR:ClR K mg CR) (TB:ClB K mg CB) (TC:ClC K mg CC) (Mr:aD P w K mg base CM 1 "row" ["self"] (cx K ⟨CH,CM,CT,CW,CR⟩)) (Mb:aD P w K mg base CR 3 "bench" ["self"] (cA CR)) (Ml:aD P w K mg base CR 1 "last_place" ["self"] (K45B.cR CR)) (Mm:dU P w K mg base CB 1 ["self","own"] (mj CB)) (Mc:dU P w K mg base CC 1 ["self","noted"] (ml CC)) (Mn:aD P w K mg base CB 3 "note_bench" ["self","bench","place"] (iT CB CN)) (Fp:aJ P w K mg base 4 "put_deed" ["mind","deed"] (mr K ⟨CH,CM,CT,CW,CR⟩)) (Fs:aJ P w K mg base k "sent_and_settled" ["mind"] (cS K ⟨CH,CM,CT,CW,CR⟩ ⟨CN,CB,CC⟩ true n)):aI P w K mg base CX0 (k + 1) f fd ["mind"] (jS K ⟨CH,CM,CT,CW,CR⟩):=by
 refine F.ok oC (fun us H Q E h=>?_) (fun cdv A outer s H us Q E hr h=>?_)
 ·obtain⟨g,rfl,_⟩:=h;rfl
 ·obtain⟨g,rfl,G,hys,hf,hP,q⟩:=h;have nd:=oC.nd;have hs16:sizeLine=16777216:=sizeLine_eq;have r1:aP 1 _:=hr.mono (by lia)
  have r2:aP 2 _:=hr.mono (by lia)
  have r3:aP 3 _:=hr.mono (by lia)
  have r4:aP 4 _:=hr.mono (by lia)
  refine⟨_,ac (aB (i:=1) nd rfl (Or.inl rfl) (aw Mr TM.cl r1 (pv 0))) <|
   ac (aZ (fZ PySem.F.plainAttrs_list PySem.F.slot_list_append PySem.F.type_list_append dN (am (pv 0) rfl) (ab (aH (ab aq (ab (am (am (pv 0) rfl) rfl) (ab (am (pv 0) rfl) (ab (aw Mb TR.cl r3 (pv 1)) (ab (be bh (by rfl) htup ce (ab (bq gi (by rfl) hsor iN (ab (am (pv 0) rfl) ad)) ad)) ad)))))) ad))) <|
   ac (aM (pv 0) (am (pv 0) rfl) rfl) <|
   ac (aM (pv 0) aq rfl) <|
   ac (aM (pv 0) (cn Mc r2 TC.mgC (ab (cn Mm r2 TB.mgC (ab (am (pv 0) rfl) ad)) ad)) rfl) <|
   ac (aZ (aQ Mn TB.cl r3 (am (am (pv 0) rfl) rfl) (ab (aw Mb TR.cl r3 (pv 1)) (ab (aL bu (aw Ml TR.cl r1 (pv 1)) ag) ad)))) <|
   ac (aZ (aj Fp r4 (ab (pv 0) (ab (aH (ab aq ad)) ad)))) <|
   ai (av (aj Fs hr (ab (pv 0) ad))),?_⟩
  dsimp only[aW,Cx.nox];obtain⟨dy,h2⟩:=G.ob;obtain⟨⟨dz,h3⟩,dk,h5⟩:=id G.wg.wo;obtain⟨hh',aa,R⟩:=G.row;have hy:=G.ls.y;rw[hys]at hy;have b1':=hP.el;have b2':=hP.rl;have b3':=hP.gl;have b4':=hP.sl;have b5':=hP.p0;have b6':=hP.ps;refine ae fun K_ hK_=>?_;refine⟨_,rfl,g.m,dy,_,rfl,h2,bv,g,rfl,G,?_⟩;refine hK_ _ _ (ae fun K_ hK_=>?_);refine⟨_,rfl,g.m,CM,dy,_,_,rfl,h2,TM.cl,TM.n14,ve,.inl ⟨rfl,_,SqL.of G.ls.s⟩,_,rfl,g.m,CM,dy,_,_,rfl,h2,TM.cl,TM.n3,cQ,g.wr,CW,dz,_,_,rfl,h3,TW.cl,TW.nT,dI,_,rfl,g.m,CM,dy,_,_,rfl,h2,TM.cl,TM.n0,dO,_,rfl,g.kr,dk,_,rfl,h5,bN,g.kr,g.st,g.en,g.pl,g.tm,g.b,hh',aa,g.es,g.xs,g.B0,rfl,R,fun ba H1 s1 hB1=>?_⟩;refine⟨_,rfl,g.m,CM,dy,_,_,rfl,s1 _ _ h2,TM.cl,TM.n9,vg,g.yl,[g.nm],rfl,SqL.of (s1 _ _ hy),(show 1 < 64 by decide),fun l2 zs H2 n2 s2 e2 pm pw=>?_⟩
  rw[List.perm_singleton.mp pm]at e2;refine⟨l2,_,rfl,SqL.of e2,fun t3 H3 n3 s3 e3=>⟨(show 5 <= sizeLine by lia),fun a4 H4 n4 s4 e4=>?_⟩⟩
  have s04:=((s1.trans s2).trans s3).trans s4;have G4:=G.same s04;refine⟨g.sl,g.ss,.ref a4,rfl,rfl,G4.ls.s,by lia,fun H5 k5 e5=>?_⟩
  have bb5:BtO g.sl H4 H5:=fun b u n e=>k5 b u n e;have M5:=G4.setS bb5 e5;have f5:Fr g H H5:=(Fr.of s04).trans (Fr.bt bb5 vI);obtain⟨dy5,h25⟩:=M5.ob;refine hK_ _ _ (ae fun K_ hK_=>?_);refine⟨_,rfl,g.m,CM,dy5,_,_,rfl,h25,TM.cl,TM.n0,dO,_,rfl,g.m,CM,dy5,_,rfl,h25,TM.cl,TM.n7,(by rw[c4];decide),?_⟩
  rw[vh];refine hK_ _ _ (ae fun K_ hK_=>?_);refine⟨_,rfl,g.m,CM,dy5,_,rfl,af,TM.cl,TM.n6,(by rw[c4];decide),?_⟩
  rw[pB];have bb7:BtO g.m H5 (upd (upd H5 g.m (.ins CM dy5 (flG g.nm g.wa g.sz g.wr g.rl g.bd (.str g.ro) (.str g.nm) g.qu g.yl g.sd g.se g.gl g.fl g.sl))) g.m (.ins CM dy5 (flG g.nm g.wa g.sz g.wr g.rl g.bd (.str (Str.ofString "chair")) (.str g.nm) g.qu g.yl g.sd g.se g.gl g.fl g.sl))):=BtO.upd.trans BtO.upd;have M7:=M5.setM (dx:=dy5) (kn:=.str g.nm) (qu:=g.qu) (ro:="chair") (se:=g.se) bb7 af;have f7:=f5.trans (Fr.bt (g:=g) bb7 jD);refine hK_ _ _ (ae fun K_ hK_=>?_);have e7:upd (upd H5 g.m (.ins CM dy5 (flG g.nm g.wa g.sz g.wr g.rl g.bd (.str g.ro) (.str g.nm) g.qu g.yl g.sd g.se g.gl g.fl g.sl))) g.m (.ins CM dy5 (flG g.nm g.wa g.sz g.wr g.rl g.bd (.str (Str.ofString "chair")) (.str g.nm) g.qu g.yl g.sd g.se g.gl g.fl g.sl)) g.m=some (.ins CM dy5 (flG g.nm g.wa g.sz g.wr g.rl g.bd (.str (Str.ofString "chair")) (.str g.nm) g.qu g.yl g.sd g.se g.gl g.fl g.sl)):=af;generalize upd (upd H5 g.m (.ins CM dy5 (flG g.nm g.wa g.sz g.wr g.rl g.bd (.str g.ro) (.str g.nm) g.qu g.yl g.sd g.se g.gl g.fl g.sl))) g.m (.ins CM dy5 (flG g.nm g.wa g.sz g.wr g.rl g.bd (.str (Str.ofString "chair")) (.str g.nm) g.qu g.yl g.sd g.se g.gl g.fl g.sl))=H7 at bb7 M7 f7 e7 ⊢;refine⟨_,rfl,g.m,CM,dy5,_,_,rfl,e7,TM.cl,TM.n0,dO,?_⟩;intro mo dmo nmo ndmo nemo;have nmo':upd H7 dmo (.own mo) mo=none:=by rw[au nemo.symm];exact nmo
  have s8:ar H7 (upd (upd H7 dmo (.own mo)) mo (.ins CB dmo [])):=(ar.new ndmo).trans (ar.new nmo');refine⟨mo,dmo,g.nm,rfl,af,fun nd8 H8 n8 b8 e8 d8=>⟨rfl,?_⟩⟩;have s78:ar H7 H8:=fun c u e=>b8 _ _ (ak e nmo) (s8 _ _ e);intro se dse nse ndse nese;have nse':upd H8 dse (.own se) se=none:=by rw[au nese.symm];exact nse
  have s9:ar H8 (upd (upd H8 dse (.own se)) se (.ins CC dse [])):=(ar.new ndse).trans (ar.new nse');refine⟨se,dse,mo,rfl,af,fun wl H9 n9 b9 e9 w9=>⟨rfl,?_⟩⟩;have s89:ar H8 H9:=fun c u e=>b9 _ _ (ak e nse) (s9 _ _ e);have s79:=s78.trans s89;refine⟨_,rfl,g.m,CM,dy5,_,rfl,s79 _ _ e7,TM.cl,TM.n11,(by rw[c4];decide),?_⟩
  rw[qX];have bbA:BtO g.m H9 (upd H9 g.m (.ins CM dy5 (flG g.nm g.wa g.sz g.wr g.rl g.bd (.str (Str.ofString "chair")) (.str g.nm) g.qu g.yl g.sd (.ref se) g.gl g.fl g.sl))):=BtO.upd;have MA:=(M7.same s79).setM (dx:=dy5) (kn:=.str g.nm) (qu:=g.qu) (ro:="chair") (se:=.ref se) bbA af;have eA:upd H9 g.m (.ins CM dy5 (flG g.nm g.wa g.sz g.wr g.rl g.bd (.str (Str.ofString "chair")) (.str g.nm) g.qu g.yl g.sd (.ref se) g.gl g.fl g.sl)) g.m=some (.ins CM dy5 (flG g.nm g.wa g.sz g.wr g.rl g.bd (.str (Str.ofString "chair")) (.str g.nm) g.qu g.yl g.sd (.ref se) g.gl g.fl g.sl)):=af;have fA:Fr g H _:=f7.trans ((Fr.of s79).trans (Fr.bt (g:=g) bbA jD));have eh9:=s79 _ _ e7;have eseA:upd H9 g.m (.ins CM dy5 (flG g.nm g.wa g.sz g.wr g.rl g.bd (.str (Str.ofString "chair")) (.str g.nm) g.qu g.yl g.sd (.ref se) g.gl g.fl g.sl)) se=some (.ins CC dse (flS mo 0 wl)):=by rw[au (bS "noted" e9 eh9 (cr eW (by kernel_rfl)))];exact e9
  have emoA:upd H9 g.m (.ins CM dy5 (flG g.nm g.wa g.sz g.wr g.rl g.bd (.str (Str.ofString "chair")) (.str g.nm) g.qu g.yl g.sd (.ref se) g.gl g.fl g.sl)) mo=some (.ins CB dmo (flB g.nm nd8)):=by rw[au (bS "own" (s89 _ _ e8) eh9 (cr dL (by kernel_rfl)))];exact s89 _ _ e8
  have endA:upd H9 g.m (.ins CM dy5 (flG g.nm g.wa g.sz g.wr g.rl g.bd (.str (Str.ofString "chair")) (.str g.nm) g.qu g.yl g.sd (.ref se) g.gl g.fl g.sl)) nd8=some (.dK []):=by rw[au (ax (s89 _ _ d8) eh9 (by intro z;cases z))];exact s89 _ _ d8
  refine hK_ _ _ (ae fun K_ hK_=>?_);generalize upd H9 g.m (.ins CM dy5 (flG g.nm g.wa g.sz g.wr g.rl g.bd (.str (Str.ofString "chair")) (.str g.nm) g.qu g.yl g.sd (.ref se) g.gl g.fl g.sl))=HA at bbA MA eA fA eseA emoA endA ⊢;have nHmo:H mo=none:=by
   cases e:H mo with
   | none=>rfl
   | some u =>
    by_cases hg:mo ∈ g.own
    ·have:=M7.ls;have:mo ∉ g.own:=MA.ins_own emoA dL (fT _) (fU _);exact absurd hg this
    ·rw[f7 mo u hg e]at nmo;cases nmo
  obtain⟨_,dkA,h5A⟩:=id MA.wg.wo;obtain⟨hhA,aaA,RA⟩:=MA.row;refine⟨_,rfl,g.m,CM,dy5,_,_,rfl,eA,TM.cl,TM.n11,fo,se,CC,dse,_,_,rfl,eseA,TC.cl,TC.nN,eW,mo,dmo,_,rfl,emoA,dP,_,rfl,g.kr,dkA,_,rfl,h5A,bN,g.kr,g.st,g.en,g.pl,g.tm,g.b,hhA,aaA,g.es,g.xs,g.B0,rfl,RA,fun bb HB sB hBB=>?_⟩;have RB:=RA.same sB;refine⟨_,rfl,g.kr,dkA,_,rfl,sB _ _ h5A,bi,g.kr,g.st,g.en,g.pl,g.tm,_,g.es,_,rfl,RB.ro,_,_,rfl,rfl,?_⟩;have hlen:(ci g.xs).length=g.xs.length:=length_map _;refine⟨mo,dmo,bb,nd8,g.nm,_,_,g.pl,g.pl + (g.xs.length:Int) + 1,[],[],rfl,sB _ _ emoA,.inl (sB _ _ endA),⟨rfl,fun kv hkv=>(nomatch hkv),Nat.zero_le _⟩,hBB,?_,?_,fun nd2 o kvs2 ss2 HC nC bC eC dC NC=>?_⟩
  ·show g.pl < g.pl + ((ci g.xs).length:Int) + 1;lia
  ·show g.pl + ((ci g.xs).length:Int) + 1 <= _;lia
  have MB:=MA.same sB;have emoB:=sB _ _ emoA;have MC:aK K ⟨CH,CM,CT,CW,CR⟩ HC { g with ss:=g.ss ++ [.ref a4],kn:=.str g.nm,ro:="chair",se:=.ref se }:=by
   obtain⟨dyB,h2B⟩:=MB.ob;obtain⟨⟨dw,w1⟩,dk',w2⟩:=id MB.wg.wo;obtain⟨⟨dt,t1⟩,t2,⟨lk,t3,t4⟩,t5⟩:=id MB.tb;have kz:TkZ HB HC:=TkZ.ins bC emoB;have L:=MB.ls.ins bC emoB;exact⟨⟨dyB,bC _ _ (bS "own" emoB h2B (cr dL (fT _))).symm h2B⟩,MB.wg.keep (fun u q=>bC _ _ (bS "own" emoB w1 (cr dL (fU _))).symm q) (fun u q=>bC _ _ (bS "own" emoB w2 (cr dL (by kernel_rfl))).symm q) kz,aS.keepT (fun u q=>bC _ _ (bS "own" emoB t1 (cr dL (by unfold K45T.cT;kernel_rfl))).symm q) (fun u q=>bC _ _ (ax t2 emoB (by intro z;cases z)) q) (fun u q=>bC _ _ (ax t3 emoB (by intro z;cases z)) q) kz MB.tb,L,MB.bo.tk kz.t⟩
  have eseC:HC se=some (.ins CC dse (flS mo 0 wl)):=bC _ _ (bS "noted" (sB _ _ eseA) emoB (cr eW (by kernel_rfl))) (sB _ _ eseA)
  have fC:Fr g H HC:=fun x u n e=>bC _ _ (ak e nHmo) (sB _ _ (fA x u n e));refine hK_ _ _ (ae fun K_ hK_=>?_);refine⟨_,rfl,(show 1 <= sizeLine by lia),fun d HD nD sD eD=>?_⟩
  refine⟨{ g with ss:=g.ss ++ [.ref a4],kn:=.str g.nm,ro:="chair",se:=.ref se },d,.fst,rfl,MC.same sD,eD,by show g.es.length < 60;lia,b6',by show g.rs.length <= 900;lia,fun kr2 en2 e a HE ME fE=>?_⟩
  have MD:=MC.same sD;have fE':Fr g HD HE:=fun x u n e=>fE x u n e;have eseE:HE se=some (.ins CC dse (flS mo 0 wl)):=fE _ _ (MD.ins_own (sD _ _ eseC) eW (kM _) (kN _)) (sD _ _ eseC);have emoE:HE mo=some (.ins CB dmo (flB g.nm nd2)):=fE _ _ (MD.ins_own (sD _ _ eC) dL (fT _) (fU _)) (sD _ _ eC);have endE:HE nd2=some (.frz o (.dK kvs2)):=fE _ _ (MD.tup_own (sD _ _ dC) (.inr ⟨_,_,rfl⟩)) (sD _ _ dC);have nsE:NsO CN HE g.pl (g.pl + ((g.xs ++ [(g.t,Dd.fst)]).length:Int)) kvs2 ss2:=by
   refine NsO.wide ((NC.same sD).keep fun n dn nx e=>fE _ _ (MD.ins_own e oy (oz _) (oA _)) e) ?_;rw[length_append];show _ <= _ + ((_ + 1:Nat):Int);lia
  have CE:cu K ⟨CH,CM,CT,CW,CR⟩ ⟨CN,CB,CC⟩ HE { g with ss:=g.ss ++ [.ref a4],kn:=.str g.nm,ro:="chair",se:=.ref se,kr:=kr2,en:=en2,es:=g.es ++ [e],xs:=g.xs ++ [(g.t,.fst)],rs:=g.rs ++ [.ref a] } ⟨se,mo,nd2,wl,o,0,kvs2,ss2⟩:=⟨ME,rfl,rfl,⟨dse,eseE⟩,⟨⟨dmo,emoE⟩,endE,nsE⟩⟩;have hb2:bV g.B0 (g.xs ++ [(g.t,Dd.fst)])=bV g.B0 g.xs:=fP _ _ _;have j1:jn true=1:=rfl;refine hK_ _ _ ?_;refine⟨_,rfl,{ g with ss:=g.ss ++ [.ref a4],kn:=.str g.nm,ro:="chair",se:=.ref se,kr:=kr2,en:=en2,es:=g.es ++ [e],xs:=g.xs ++ [(g.t,.fst)],rs:=g.rs ++ [.ref a] },⟨se,mo,nd2,wl,o,0,kvs2,ss2⟩,g.xs,.fst,rfl,CE,rfl,?_,⟨hP.p0,hP.p1,?_,fun z=>(by cases z),?_,?_,?_,?_⟩,fun p ps g' q' H' C' m' N' e' l'=>?_⟩
  ·show g.s < g.pl + ((g.xs ++ [(g.t,Dd.fst)]).length:Int);rw[length_append];show _ < _ + ((_ + 1:Nat):Int);lia
  ·show bB (bV g.B0 (g.xs ++ [(g.t,Dd.fst)])) [g.nm]=true;rw[hb2];exact hf
  ·show (g.es ++ [e]).length + jn true <= 60;rw[length_append,j1];show _ + 1 + 1 <= 60;lia
  ·show (g.rs ++ [V.ref a]).length + jn true <= 900;rw[length_append,j1];show _ + 1 + 1 <= 900;lia
  ·show g.gs.length + 60 * (jn true + 1) <= 900;rw[j1];lia
  ·show (g.ss ++ [V.ref a4]).length + jn true + 1 <= 900;rw[length_append,j1];show _ + 1 + 1 + 1 <= 900;lia
  ·obtain⟨more,hm⟩:=N'.rs;have hm:g'.rs=(g.rs ++ [.ref a]) ++ more:=hm;have now:g'.own=g.own:=N'.ow;have hmm:g'.m=g.m:=by have:=congrArg List.head? now;exact Option.some.inj this
   refine q p g' H' C'.mo C'.ro N'.t N'.v ⟨N'.ho,hmm,N'.nm,N'.wa,N'.sz,⟨.ref a :: more,by rw[hm,List.append_assoc];rfl⟩,fun x hx=>.inl (by rw[<- now];exact hx),fun x u n e=>?_⟩
   exact N'.fr x u n (ak e nHmo) (fE' x u n (sD _ _ (fC x u n e)))
end
abbrev qi:Stmt:=top 64
abbrev sMay:Stmt:=top 65
abbrev qj:Stmt:=top 66
abbrev jT:Stmt:=top 67
abbrev qk:Stmt:=top 68
abbrev wE:Stmt:=top 69
abbrev jU:Stmt:=top 70
abbrev qm:Stmt:=aC (top 72) 5
section
variable{nm:Str}{wa sz qu:Int}{ro kn se:V}{wr rl bd yl sd gl fl sl:Addr}
theorem flG_py {x:Addr}:ay "yes" (.ref x) (flG nm wa sz wr rl bd ro kn qu yl sd se gl fl sl)=flG nm wa sz wr rl bd ro kn qu x sd se gl fl sl:=by kernel_rfl
end
theorem fG {nm:Str} {wa sz:Int} {m:Addr}:(flH nm wa sz m).lookup ("turn":Str)=none:=by kernel_rfl
noncomputable abbrev gB(g:Gs)(r:Str)(yl2:Addr):Gs:={ g with kn:=.non,ro:=r,se:=.non,qu:=0,yl:=yl2,ys:=[g.nm] }
abbrev Gs.bn(g:Gs):Bn:=bV g.B0 g.xs
abbrev Gs.lp(g:Gs):Int:=g.pl + g.xs.length
abbrev Gs.lt(g:Gs):Int:=fu g.tm (ci g.xs)
def iU(K:Frag)(c:Cs):Sp:=fun us H Q _=>∃(g:Gs)(r:Str),us=[.ref g.m,.str r]/\aK K c H g/\∀(yl2:Addr)(H':Hp),aK K c H' (gB g r yl2)->Nm2 H H' g (gB g r yl2)->Q .non H'
def mv(K:Frag)(c:Cs):Sp:=fun us H Q _=>∃g:Gs,us=[.ref g.m]/\aK K c H g/\∀H',ar H H'->Q (.bl (bB g.bn g.ys)) H'
def wF(H:Hp)(a:Addr)(wd nm x:Str)(t p l:Int):Prop:=H a=some (.tup [.str wd,.str nm,.str x,.int t,.int p,.int l])
structure j4(H:Hp)(p:Addr)(wd nm:Str)(t pl l:Int)(B:Bn)(as:List Addr)(zs:List Str):Prop where
 tu:H p=some (.tup (as.map V.ref))
 od:Ord (B.vs ++ B.cs) zs
 le:Paired (fun a x=>wF H a wd nm x t pl l) as (zs.filter fun x=>!decide (x=nm))
def iV(K:Frag)(c:Cs):Sp:=fun us H Q _=>∃(g:Gs)(wd:Str)(t:Int),us=[.ref g.m,.str wd,.int t]/\aK K c H g/\∀(p:Addr)(as:List Addr)(zs:List Str)(H':Hp),ar H H'->j4 H' p wd g.nm t g.lp g.lt g.bn as zs->Q (.ref p) H'
noncomputable def gy(g:Gs):Bool:=decide (g.nm ∈ g.bn.vs ++ g.bn.cs) || decide (g.nm ∈ (bV g.B0 (g.xs.take (g.s - g.pl).toNat)).vs ++ (bV g.B0 (g.xs.take (g.s - g.pl).toNat)).cs)
def wG(K:Frag)(c:Cs):Sp:=fun us H Q _=>∃g:Gs,us=[.ref g.m]/\aK K c H g/\∀H',ar H H'->Q (.bl (gy g)) H'
def mw (K:Frag) (c:Cs) (H:Hp) (g:Gs) (Q:VK):Prop:=∀(p a:Addr)(more:List V)(g':Gs)(H':Hp),aK K c H' g'->g'.ro="chair" ->g'.t=g.t + 1->g'.v=.str g.nm->g'.rs=g.rs ++ (.ref a :: more)->d9 H' a (g.t + 1) g.nm (.int g.lp) (.int g.lt)->Nm2 H H' g g'->Q (.ref p) H'
noncomputable abbrev gA (g:Gs) (yl2 a:Addr):Gs:={ g with t:=g.t + 1,v:=.str g.nm,kn:=.non,ro:="asker",se:=.non,qu:=0,yl:=yl2,ys:=[g.nm],rs:=g.rs ++ [.ref a] }
def ii(K:Frag)(c:Cs):Sp:=fun us H Q _=>∃g:Gs,us=[.ref g.m]/\aK K c H g/\Pv g/\g.rs.length <= 700/\(bB g.bn [g.nm]=true->mw K c H g Q) /\
 (bB g.bn [g.nm]=false->∀(p yl2 a:Addr)(as:List Addr)(zs:List Str)(H':Hp),aK K c H' (gA g yl2 a)->Nm2 H H' g (gA g yl2 a)->d9 H' a (g.t + 1) g.nm (.int g.lp) (.int g.lt)->j4 H' p "vote" g.nm (g.t + 1) g.lp g.lt g.bn as zs->Q (.ref p) H')
def mx(K:Frag)(c:Cs):Sp:=fun us H Q _=>∃g:Gs,us=[.ref g.m]/\aK K c H g/\Pv g/\g.rs.length <= 700/\(bB g.bn [g.nm]=true->mw K c H g Q) /\
 (bB g.bn [g.nm]=false->∀(p yl2:Addr)(as:List Addr)(zs:List Str)(H':Hp),aK K c H' (gB g "looker" yl2)->Nm2 H H' g (gB g "looker" yl2)->j4 H' p "look" g.nm (g.t + 1) g.lp g.lt g.bn as zs->Q (.ref p) H')
def VT(K:Frag)(c:Cs)(H:Hp)(g:Gs)(Q:VK):Prop :=
 ((g.qu + 1 < g.wa\/gy g=false)->∀(p:Addr)(H':Hp),aK K c H' { g with qu:=g.qu + 1 }->Nm2 H H' g { g with qu:=g.qu + 1 }->H' p=some (.tup [])->Q (.ref p) H') /\
 (g.wa <= g.qu + 1->gy g=true->bB g.bn [g.nm]=true->mw K c H g Q) /\
 (g.wa <= g.qu + 1->gy g=true->bB g.bn [g.nm]=false->∀(p yl2:Addr)(as:List Addr)(zs:List Str)(H':Hp),aK K c H' (gB g "looker" yl2)->Nm2 H H' g (gB g "looker" yl2)->j4 H' p "look" g.nm (g.t + 1) g.lp g.lt g.bn as zs->Q (.ref p) H')
def my(K:Frag)(c:Cs):Sp:=fun us H Q _=>∃g:Gs,us=[.ref g.m]/\aK K c H g/\Pv g/\g.rs.length <= 700/\VT K c H g Q
def mB (K:Frag) (c:Cs):Sp:=fun us H Q _=>∃(H0:Hp)(g:Gs),us=[.ref g.ho]/\bZ K c H0 H g/\g.ro ≠ "chair" /\Pv g/\g.rs.length <= 700/\VT K c H g Q
def qo(K:Frag)(c:Cs):Sp:=vn K c fun H g Q=>∀(p:Addr)(H':Hp),ar H H'->H' p=some (.tup g.rs)->Q (.ref p) H'
section
variable{P:Program}{w:World}{K:Frag}{mg:Str->Option Value}{base:Heap}{CH CM CT CW CR CN CB CC:Addr}
theorem scBegin:ao ["mind","role"] ["mind","role"] (ah qk):=fsc (by decide +kernel)
theorem wH {f:Addr} {fd:FuncData} (F:Fun K "begin_asking" "begin_asking" qk f fd) (TM:ClM K mg CM) (Mf:aD P w K mg base CM 1 "follow" ["self","chair"] (fO K ⟨CH,CM,CT,CW,CR⟩)):aI P w K mg base CX0 2 f fd ["mind","role"] (iU K ⟨CH,CM,CT,CW,CR⟩):=by
 refine F.ok scBegin (fun us H Q E h=>?_) (fun cdv A outer s H us Q E hr h=>?_)
 ·obtain⟨g,r,rfl,_⟩:=h;rfl
 ·obtain⟨g,r,rfl,G,q⟩:=h;have hs16:sizeLine=16777216:=sizeLine_eq;refine⟨_,ac (aZ (aQ Mf TM.cl hr (pv 0) (ab cj ad))) <|
   ac (aM (pv 0) (pv 1) rfl) <| ac (aM (pv 0) ag rfl) <| ai (aM (pv 0) (bg (ab (am (pv 0) rfl) ad)) rfl),?_⟩
  dsimp only[aW,Cx.nox];obtain⟨dy,h2⟩:=G.ob;refine⟨_,rfl,g.m,dy,_,rfl,h2,f9,g,.non,rfl,G,fun H1 G1 b1=>?_⟩;obtain⟨dy1,h21⟩:=G1.ob;refine⟨_,rfl,_,rfl,g.m,CM,dy1,_,rfl,h21,TM.cl,TM.n6,(by rw[c4];decide),?_⟩
  rw[pB];refine⟨_,rfl,g.m,CM,dy1,_,rfl,af,TM.cl,TM.n8,(by rw[c4];decide),?_⟩
  rw[vi];have b3:BtO g.m H1 (upd (upd H1 g.m (.ins CM dy1 (flG g.nm g.wa g.sz g.wr g.rl g.bd (.str r) .non g.qu g.yl g.sd .non g.gl g.fl g.sl))) g.m (.ins CM dy1 (flG g.nm g.wa g.sz g.wr g.rl g.bd (.str r) .non 0 g.yl g.sd .non g.gl g.fl g.sl))):=BtO.upd.trans BtO.upd;have G3:=G1.setM (dx:=dy1) (kn:=.non) (qu:=0) (ro:=r) (se:=.non) b3 af;have e3:upd (upd H1 g.m (.ins CM dy1 (flG g.nm g.wa g.sz g.wr g.rl g.bd (.str r) .non g.qu g.yl g.sd .non g.gl g.fl g.sl))) g.m (.ins CM dy1 (flG g.nm g.wa g.sz g.wr g.rl g.bd (.str r) .non 0 g.yl g.sd .non g.gl g.fl g.sl)) g.m=some (.ins CM dy1 (flG g.nm g.wa g.sz g.wr g.rl g.bd (.str r) .non 0 g.yl g.sd .non g.gl g.fl g.sl)):=af;generalize upd (upd H1 g.m (.ins CM dy1 (flG g.nm g.wa g.sz g.wr g.rl g.bd (.str r) .non g.qu g.yl g.sd .non g.gl g.fl g.sl))) g.m (.ins CM dy1 (flG g.nm g.wa g.sz g.wr g.rl g.bd (.str r) .non 0 g.yl g.sd .non g.gl g.fl g.sl))=H3 at b3 G3 e3 ⊢;refine⟨_,rfl,g.m,CM,dy1,_,_,rfl,e3,TM.cl,TM.n0,dO,(show 1 <= sizeLine by lia),fun y H4 n4 s4 e4=>?_⟩
  refine⟨_,rfl,g.m,CM,dy1,_,rfl,s4 _ _ e3,TM.cl,TM.n9,(by rw[c4];decide),?_⟩
  rw[flG_py];have b5:BtO g.m H4 (upd H4 g.m (.ins CM dy1 (flG g.nm g.wa g.sz g.wr g.rl g.bd (.str r) .non 0 y g.sd .non g.gl g.fl g.sl))):=BtO.upd;have G4:=G3.same s4;have nd5:[y,g.rl,g.gl,g.fl,g.sl].Nodup:=by
   have L:=G3.ls;have:=L.nd;have a1:=(ak L.r n4).symm;have a2:=(ak L.g' n4).symm;have a3:=(ak L.f n4).symm;have a4:=(ak L.s n4).symm;simp only[List.nodup_cons,List.mem_cons,not_mem_nil,or_false,not_or,List.nodup_nil,and_true,not_false_eq_true]at this ⊢;exact⟨⟨a1,a2,a3,a4⟩,this.2⟩
  have G5:=G4.setY (ys:=[g.nm]) b5 af e4 nd5;have f3:Fr g H H3:=(Fr.bt b1 jD).trans (Fr.bt b3 jD);refine q y _ G5 ⟨rfl,rfl,rfl,rfl,rfl,⟨[],by rw[List.append_nil]⟩,fun x hx=>?_,f3.trans ((Fr.of s4).trans (Fr.bt b5 jD))⟩
  have hx:x=g.m\/x=g.wr\/x=g.rl\/x=g.d\/x=g.l\/x=g.gl\/x=g.fl\/x=g.sl\/x=y:=by simpa using hx
  rcases hx with rfl | rfl | rfl | rfl | rfl | rfl | rfl | rfl | rfl
  ·exact .inl (by simp)
  ·exact .inl (by simp)
  ·exact .inl (by simp)
  ·exact .inl (by simp)
  ·exact .inl (by simp)
  ·exact .inl (by simp)
  ·exact .inl (by simp)
  ·exact .inl (by simp)
  ·by_cases hg:x ∈ g.own
   ·exact .inl hg
   ·cases e:H x with
    | none=>exact .inr rfl
    | some u=>rw[f3 x u hg e]at n4;cases n4
theorem scHasH:ao ["mind"] ["mind"] (ah wE):=fsc (by decide +kernel)
theorem ok_hasH {f:Addr} {fd:FuncData} (F:Fun K "has_half" "has_half" wE f fd) (TM:ClM K mg CM) (TR:ClR K mg CR) (Mr:aD P w K mg base CM 1 "row" ["self"] (cx K ⟨CH,CM,CT,CW,CR⟩)) (Mb:aD P w K mg base CR 3 "bench" ["self"] (cA CR)) (Fh:aJ P w K mg base 2 "is_half" ["bench","names"] (lY K)):aI P w K mg base CX0 4 f fd ["mind"] (mv K ⟨CH,CM,CT,CW,CR⟩):=by
 refine F.ok scHasH (fun us H Q E h=>?_) (fun cdv A outer s H us Q E hr h=>?_)
 ·obtain⟨g,rfl,_⟩:=h;rfl
 ·obtain⟨g,rfl,G,q⟩:=h;have r1:aP 1 _:=hr.mono (by decide)
  have r2:aP 2 _:=hr.mono (by decide)
  refine⟨_,ai <| av <| aj Fh r2 (ab (aw Mb TR.cl hr (aw Mr TM.cl r1 (pv 0))) (ab (am (pv 0) rfl) ad)),?_⟩;obtain⟨dy,h2⟩:=G.ob;obtain⟨_,dk,h5⟩:=id G.wg.wo;obtain⟨hh',aa,R⟩:=G.row;refine⟨_,rfl,g.m,dy,_,rfl,h2,bv,g,rfl,G,g.kr,dk,_,rfl,h5,bN,g.kr,g.st,g.en,g.pl,g.tm,g.b,hh',aa,g.es,g.xs,g.B0,rfl,R,fun ba H1 s1 hB1=>?_⟩;refine⟨_,rfl,g.m,CM,dy,_,_,rfl,s1 _ _ h2,TM.cl,TM.n9,vg,ba,g.yl,_,g.ys,rfl,hB1,.inl (SqL.of (s1 _ _ G.ls.y)),fun H2 s2=>q H2 (s1.trans s2)⟩
abbrev tJ:List Str:=["mind","word","term","row","names"]
theorem scSnt:ao tJ ["mind","word","term"] (ah jU):=fsc (by decide +kernel)
theorem ndSnt:(tJ ++ (["name"]:List Str)).Nodup:=by decide +kernel
theorem ij(nm:Str):∀zs:List Str,(zs.map V.str).filter (fun v=>!decide (v=V.str nm))=(zs.filter fun x=>!decide (x=nm)).map V.str
 | []=>rfl
 | z :: zs=>by
  rw[List.map_cons,List.filter_cons,List.filter_cons,ij nm zs,pM];cases decide (z=nm) <;> rfl
theorem wI {f:Addr} {fd:FuncData} (F:Fun K "sent_to_speakers" "sent_to_speakers" jU f fd) (htup:mg "tuple"=none) (TM:ClM K mg CM) (TR:ClR K mg CR) (Mr:aD P w K mg base CM 1 "row" ["self"] (cx K ⟨CH,CM,CT,CW,CR⟩)) (Mb:aD P w K mg base CR 3 "bench" ["self"] (cA CR)) (Fk:aJ P w K mg base 1 "speakers" ["bench"] qZ) (Ml:aD P w K mg base CR 1 "last_place" ["self"] (K45B.cR CR)) (Mt:aD P w K mg base CR 3 "last_term" ["self"] (iS CR)):aI P w K mg base CX0 4 f fd ["mind","word","term"] (iV K ⟨CH,CM,CT,CW,CR⟩):=by
 refine F.ok scSnt (fun us H Q E h=>?_) (fun cdv A outer s H us Q E hr h=>?_)
 ·obtain⟨g,wd,t,rfl,_⟩:=h;rfl
 ·obtain⟨g,wd,t,rfl,G,q⟩:=h;have nd:=scSnt.nd;have hs16:sizeLine=16777216:=sizeLine_eq;have r1:aP 1 _:=hr.mono (by decide)
  refine⟨_,ac (aB (i:=3) nd rfl (Or.inr rfl) (aw Mr TM.cl r1 (pv 0))) <|
   ac (qP (i:=4) nd rfl (Or.inl rfl) tJ tJ ["name"] (ah jU) rfl rfl rfl (by decide +kernel) rfl rfl (by decide +kernel) (by decide +kernel) (by decide +kernel) (by decide +kernel)
    (dQ (aj Fk r1 (ab (aw Mb TR.cl hr (pv 3)) ad))) (fun _ _ _ _ _=>aO (i:=5) ndSnt rfl (Or.inl rfl)) (fun _ _ _ _ _=>eF (aG i3 (pv 5) (gL (pv 0) rfl) (aN _))) (fun _ _ _ _ _=>pv 5) (by with_unfolding_all rfl)) <|
   ai <| av <| be bh (by rfl) htup ce (ab (eQ tJ tJ ["name"] (ah jU) rfl rfl rfl (by decide +kernel) rfl rfl (by decide +kernel) (by decide +kernel) (by decide +kernel) (by decide +kernel)
    (ej (pv 4)) (fun _ _ _ _ _=>aO (i:=5) ndSnt rfl (Or.inl rfl)) (fun _ _ _ _ _=>eB) (fun _ _ _ _ _=>aH (ab (pv 1) (ab (gL (pv 0) rfl) (ab (pv 5) (ab (pv 2) (ab (aw (X:=cxC _ _ _ _ _ _ _ _ _) Ml TR.cl r1 (pv 3)) (ab (aw (X:=cxC _ _ _ _ _ _ _ _ _) Mt TR.cl hr (pv 3)) ad)))))))) ad),?_⟩
  dsimp only[aW,Cx.nox];obtain⟨dy,h2⟩:=G.ob;obtain⟨_,dk,h5⟩:=id G.wg.wo;obtain⟨hh',aa,R⟩:=G.row;refine ae fun K_ hK_=>?_;refine⟨_,rfl,g.m,dy,_,rfl,h2,bv,g,rfl,G,?_⟩;refine hK_ _ _ (ae fun K_ hK_=>?_);refine⟨_,rfl,g.kr,dk,_,rfl,h5,bN,g.kr,g.st,g.en,g.pl,g.tm,g.b,hh',aa,g.es,g.xs,g.B0,rfl,R,fun ba H1 s1 hB1=>?_⟩;refine⟨ba,_,rfl,hB1,fun t2 zs H2 s2 e2 O zl=>?_⟩;have s12:=s1.trans s2;refine⟨t2,rfl,⟨_,SqT.of e2⟩,?_⟩;refine lcFU (fun v=>!decide (v=V.str g.nm)) rfl e2 (by rw[length_map];lia) (fun D x ys post hD hx hpost=>?_) (fun D hD=>?_)
  ·obtain⟨z,hz,rfl⟩:=List.mem_map.mp hx;have s3:=ar.new (o:=.lst ys) hD;exact⟨_,rfl,_,rfl,ex5 g.m CM dy _ _ ⟨rfl,s3 _ _ (s12 _ _ h2),TM.cl,TM.n0,dO,rfl,_,rfl,hpost⟩⟩
  rw[ij];have s3:=ar.new (o:=.lst ((zs.filter fun x=>!decide (x=g.nm)).map V.str)) hD;have e3:upd H2 D (.lst ((zs.filter fun x=>!decide (x=g.nm)).map V.str)) D=some (.lst ((zs.filter fun x=>!decide (x=g.nm)).map V.str)):=af;generalize upd H2 D (.lst ((zs.filter fun x=>!decide (x=g.nm)).map V.str))=H3 at s3 e3 ⊢;have s13:=s12.trans s3;refine hK_ _ _ ?_;refine⟨_,rfl,D,rfl,⟨_,SqL.of e3⟩,?_⟩;have fl:(zs.filter fun x=>!decide (x=g.nm)).length <= zs.length:=List.length_filter_le _ _;refine lcG (xs:=zs.filter fun x=>!decide (x=g.nm)) V.str (fun _=>true) (fun D x y H=>∃a,y=.ref a/\a ≠ D/\wF H a wd g.nm x t g.lp g.lt) (fun D x y H H' k ⟨a,e,n,l⟩=>⟨a,e,n,k _ _ n l⟩) rfl e3 (by lia) (fun D x ys H2 post hD hx sm hDD hp=>hp H2 (ar.refl _)) (fun D x ys H4 post hD hx _ sm hDD hp=>?_) (fun D4 H4 us hD4 sm e4 hP=>?_)
  ·have s14:=s13.trans sm;refine⟨_,rfl,_,rfl,ex5 g.m CM dy _ _ ⟨rfl,s14 _ _ h2,TM.cl,TM.n0,dO,_,rfl,_,rfl,_,rfl,g.kr,dk,_,rfl,s14 _ _ h5,bi,g.kr,g.st,g.en,g.pl,g.tm,_,g.es,_,rfl,R.ro.same s14,_,rfl,g.kr,dk,_,rfl,s14 _ _ h5,ee,g.kr,g.st,g.en,g.pl,g.tm,_,g.es,_,rfl,R.ro.same s14,(show 6 <= sizeLine by lia),fun a H5 n5 s5 e5=>?_⟩⟩
   refine hp _ H5 s5 ⟨a,rfl,fun z=>?_,?_⟩
   ·rw[z]at n5;rw[hDD]at n5;cases n5
   ·rw[show (ci g.xs).length=g.xs.length from length_map _]at e5;exact e5
  ·rw[List.filter_eq_self.mpr (fun _ _=>rfl)]at hP;obtain⟨as,rfl,hA⟩:=Paired.refs (G:=fun a x=>a ≠ D4/\wF H4 a wd g.nm x t g.lp g.lt) hP;refine⟨D4,_,rfl,SqL.of e4,fun p H5 n5 s5 e5=>?_⟩;exact q p as zs H5 (s13.trans (sm.trans s5)) ⟨e5,O,Paired.imp' (fun a x h=>s5 _ _ h.2) hA⟩
theorem scMay:ao ["mind","row"] ["mind"] (ah sMay):=fsc (by decide +kernel)
theorem ok_may {f:Addr} {fd:FuncData} (F:Fun K "may_stand" "may_stand" sMay f fd) (TM:ClM K mg CM) (TR:ClR K mg CR) (Mr:aD P w K mg base CM 1 "row" ["self"] (cx K ⟨CH,CM,CT,CW,CR⟩)) (Ms:aD P w K mg base CM 1 "settled" ["self"] (eL K ⟨CH,CM,CT,CW,CR⟩)) (Mb:aD P w K mg base CR 3 "bench" ["self"] (cA CR)) (Ma:aD P w K mg base CR 2 "bench_at" ["self","place"] (fQ CR)) (Fk:aJ P w K mg base 1 "speakers" ["bench"] qZ):aI P w K mg base CX0 4 f fd ["mind"] (wG K ⟨CH,CM,CT,CW,CR⟩):=by
 refine F.ok scMay (fun us H Q E h=>?_) (fun cdv A outer s H us Q E hr h=>?_)
 ·obtain⟨g,rfl,_⟩:=h;rfl
 ·obtain⟨g,rfl,G,q⟩:=h;have nd:=scMay.nd;have r1:aP 1 _:=hr.mono (by decide)
  have r2:aP 2 _:=hr.mono (by decide)
  refine⟨_,ac (aB (i:=1) nd rfl (Or.inl rfl) (aw Mr TM.cl r1 (pv 0))) <|
   ai <| av <| pe_or (cB g9 (am (pv 0) rfl) (aj Fk r1 (ab (aw Mb TR.cl hr (pv 1)) ad)) (by rfl))
    (tQ (cB g9 (am (pv 0) rfl) (aj Fk r1 (ab (aQ Ma TR.cl r2 (pv 1) (ab (aw Ms TM.cl r1 (pv 0)) ad)) ad)) (by rfl))),?_⟩
  dsimp only[aW,Cx.nox];obtain⟨dy,h2⟩:=G.ob;obtain⟨_,dk,h5⟩:=id G.wg.wo;obtain⟨hh',aa,R⟩:=G.row;have ps:=G.wg.ps;obtain⟨i,hi⟩:=Int.eq_ofNat_of_zero_le (show 0 <= g.s - g.pl by lia)
  refine ae fun K_ hK_=>?_;refine⟨_,rfl,g.m,dy,_,rfl,h2,bv,g,rfl,G,?_⟩;refine hK_ _ _ ?_;refine⟨_,rfl,g.m,CM,dy,_,_,rfl,h2,TM.cl,TM.n0,dO,_,rfl,g.kr,dk,_,rfl,h5,bN,g.kr,g.st,g.en,g.pl,g.tm,g.b,hh',aa,g.es,g.xs,g.B0,rfl,R,fun ba H1 s1 hB1=>?_⟩;refine⟨ba,_,rfl,hB1,fun t2 zs H2 s2 e2 O zl=>?_⟩;refine⟨t2,_,rfl,.inr (SqT.of e2),rfl,cv _,_,rfl,?_⟩;have s12:=s1.trans s2;have em:inV (.str g.nm) (zs.map V.str)=decide (g.nm ∈ g.bn.vs ++ g.bn.cs):=by
   rw[eI,Bool.eq_iff_iff,decide_eq_true_iff,decide_eq_true_iff];exact O.mem _
  show if inV (.str g.nm) (zs.map V.str)=true then _ else _
  rw[em];unfold gy at q;cases hm:decide (g.nm ∈ g.bn.vs ++ g.bn.cs) with
  | true =>
   rw[hm,Bool.true_or]at q;exact cm (q H2 s12)
  | false =>
   rw[hm,Bool.false_or]at q;refine bI ?_;refine⟨_,rfl,g.m,CM,dy,_,_,rfl,s12 _ _ h2,TM.cl,TM.n0,dO,_,rfl,g.kr,dk,_,rfl,s12 _ _ h5,eV,_,rfl,g.m,dy,_,rfl,s12 _ _ h2,bR,g,rfl,G.same s12,g.kr,g.st,g.en,g.pl,g.tm,g.b,hh',aa,g.es,g.xs,g.B0,i,?_,R.same s12,fun bb H3 s3 hB3=>?_⟩
   ·show [V.ref g.kr,V.int g.s]=[V.ref g.kr,V.int (g.pl + (i:Int))];rw[show g.pl + (i:Int)=g.s by lia]
   refine⟨bb,_,rfl,hB3,fun t4 zs2 H4 s4 e4 O2 zl2=>?_⟩;refine⟨t4,_,rfl,.inr (SqT.of e4),rfl,cv _,?_⟩;have em2:inV (.str g.nm) (zs2.map V.str)=decide (g.nm ∈ (bV g.B0 (g.xs.take (g.s - g.pl).toNat)).vs ++ (bV g.B0 (g.xs.take (g.s - g.pl).toNat)).cs):=by
    rw[eI,Bool.eq_iff_iff,decide_eq_true_iff,decide_eq_true_iff,show (g.s - g.pl).toNat=i by lia]
    exact O2.mem _
   rw[em2];exact q H4 (s12.trans (s3.trans s4))
end
theorem Pv.of{g g':Gs}(h:Pv g)(e1:g'.pl=g.pl)(e2:g'.s=g.s)(e3:g'.xs=g.xs)(e4:g'.es=g.es)(e5:g'.rs.length <= 800)(e6:g'.gs=g.gs)(e7:g'.ss=g.ss):Pv g':=⟨by rw[e1];exact h.p0,by rw[e1];exact h.p1,by rw[e1,e2,e3];exact h.ps,by rw[e4];exact h.el,e5,by rw[e6];exact h.gl,by rw[e7];exact h.sl⟩
theorem Nm2.rise{H H':Hp}{g:Gs}{t:Int}{v kn se:V}{ro:Str}{rs more:List V}{qu:Int}(f:Fr g H H')(hr:rs=g.rs ++ more):Nm2 H H' g { g with t:=t,v:=v,kn:=kn,ro:=ro,se:=se,rs:=rs,qu:=qu }:=⟨rfl,rfl,rfl,rfl,rfl,⟨more,hr⟩,fun x hx=>.inl hx,f⟩
section
variable{P:Program}{w:World}{K:Frag}{mg:Str->Option Value}{base:Heap}{CH CM CT CW CR CN CB CC:Addr}
theorem kP:ao ["mind","row"] ["mind"] (ah jT):=fsc (by decide +kernel)
theorem qp {f:Addr} {fd:FuncData} {k:Nat} (hk:4 <= k) (F:Fun K "stand_up" "stand_up" jT f fd) (TM:ClM K mg CM) (TW:ClW K mg CW) (TR:ClR K mg CR) (Mr:aD P w K mg base CM 1 "row" ["self"] (cx K ⟨CH,CM,CT,CW,CR⟩)) (Mi:aD P w K mg base CM 2 "rise_to" ["self","term"] (lN K ⟨CH,CM,CT,CW,CR⟩)) (Mv:aD P w K mg base CM 2 "vote_for" ["self","name","place","last"] (lP K ⟨CH,CM,CT,CW,CR⟩)) (Ml:aD P w K mg base CR 1 "last_place" ["self"] (K45B.cR CR)) (Mt:aD P w K mg base CR 3 "last_term" ["self"] (iS CR)) (Fb:aJ P w K mg base 2 "begin_asking" ["mind","role"] (iU K ⟨CH,CM,CT,CW,CR⟩)) (Fh:aJ P w K mg base 4 "has_half" ["mind"] (mv K ⟨CH,CM,CT,CW,CR⟩)) (Fc:aJ P w K mg base k "become_chair" ["mind"] (jS K ⟨CH,CM,CT,CW,CR⟩)) (Fs:aJ P w K mg base 4 "sent_to_speakers" ["mind","word","term"] (iV K ⟨CH,CM,CT,CW,CR⟩)):aI P w K mg base CX0 (k + 1) f fd ["mind"] (ii K ⟨CH,CM,CT,CW,CR⟩):=by
 refine F.ok kP (fun us H Q E h=>?_) (fun cdv A outer s H us Q E hr h=>?_)
 ·obtain⟨g,rfl,_⟩:=h;rfl
 ·obtain⟨g,rfl,G,hP,hrs,qc,qa⟩:=h;have nd:=kP.nd;have r1:aP 1 _:=hr.mono (by lia)
  have r2:aP 2 _:=hr.mono (by lia)
  have r3:aP 3 _:=hr.mono (by lia)
  have r4:aP 4 _:=hr.mono (by lia)
  refine⟨_,ac (aB (i:=1) nd rfl (Or.inl rfl) (aw Mr TM.cl r1 (pv 0))) <|
   ac (aZ (aQ Mi TM.cl r2 (pv 0) (ab (aL bu (am (am (pv 0) rfl) rfl) ag) ad))) <|
   ac (aZ (aQ Mv TM.cl r2 (pv 0) (ab (am (pv 0) rfl) (ab (aw Ml TR.cl r1 (pv 1)) (ab (aw Mt TR.cl r3 (pv 1)) ad))))) <|
   ac (aZ (aj Fb r2 (ab (pv 0) (ab aq ad)))) <|
   ac (bc (cb (aj Fh r4 (ab (pv 0) ad))) (ai (av (aj Fc hr (ab (pv 0) ad)))) aF) <|
   ai (av (aj Fs r4 (ab (pv 0) (ab aq (ab (am (am (pv 0) rfl) rfl) ad))))),?_⟩
  dsimp only[aW,Cx.nox];obtain⟨dy,h2⟩:=G.ob;obtain⟨⟨dz,h3⟩,dk,h5⟩:=id G.wg.wo;refine ae fun K_ hK_=>?_;refine⟨_,rfl,g.m,dy,_,rfl,h2,bv,g,rfl,G,?_⟩;refine hK_ _ _ (ae fun K_ hK_=>?_);refine⟨_,rfl,g.m,dy,_,rfl,h2,jw,_,rfl,g.m,CM,dy,_,_,rfl,h2,TM.cl,TM.n3,cQ,g.wr,CW,dz,_,_,rfl,h3,TW.cl,TW.nT,dI,_,_,rfl,rfl,g,g.t + 1,rfl,G,fun H1 G1 f1=>?_⟩;obtain⟨dy1,h21⟩:=G1.ob;obtain⟨_,dk1,h51⟩:=id G1.wg.wo;obtain⟨hh1,aa1,R1⟩:=G1.row;refine hK_ _ _ (ae fun K_ hK_=>?_);refine⟨_,rfl,g.m,dy1,_,rfl,h21,iE,_,rfl,g.m,CM,dy1,_,_,rfl,h21,TM.cl,TM.n0,dO,_,rfl,g.kr,dk1,_,rfl,h51,bi,g.kr,g.st,g.en,g.pl,g.tm,_,g.es,_,rfl,R1.ro,_,rfl,g.kr,dk1,_,rfl,h51,ee,g.kr,g.st,g.en,g.pl,g.tm,_,g.es,_,rfl,R1.ro,?_⟩;rw[show (ci g.xs).length=g.xs.length from length_map _];refine⟨{ g with t:=g.t + 1,v:=.non,kn:=.non,ro:="plain",se:=.non },g.nm,.int g.lp,.int g.lt,rfl,G1,rfl,by show g.rs.length <= 900;lia,fun a H2 G2 f2 hv2=>?_⟩
  have hv2:d9 H2 a (g.t + 1) g.nm (.int g.lp) (.int g.lt):=hv2;have n2:Nm2 H H2 g { g with t:=g.t + 1,v:=.str g.nm,kn:=.non,ro:="plain",se:=.non,rs:=g.rs ++ [.ref a] }:=Nm2.rise (qu:=g.qu) (f1.trans f2) rfl;refine hK_ _ _ (ae fun K_ hK_=>?_);refine⟨_,rfl,{ g with t:=g.t + 1,v:=.str g.nm,kn:=.non,ro:="plain",se:=.non,rs:=g.rs ++ [.ref a] },"asker",rfl,G2,fun yl2 H3 G3 n3=>?_⟩;have hv3:d9 H3 a (g.t + 1) g.nm (.int g.lp) (.int g.lt):=(Fr.tkz G2 n3.fr).t _ _ hv2;have n23:=n2.trans n3;refine hK_ _ _ (ae fun K_ hK_=>?_);refine⟨_,rfl,gA g yl2 a,rfl,G3,fun H4 s4=>⟨_,rfl,?_⟩⟩;have G4:=G3.same s4;have hv4:d9 H4 a (g.t + 1) g.nm (.int g.lp) (.int g.lt):=s4 _ _ hv3;show if bB g.bn [g.nm]=true then _ else _
  cases hh:bB g.bn [g.nm] with
  | true =>
   refine cm ?_;refine⟨_,rfl,gA g yl2 a,rfl,G4,rfl,hh,hP.of rfl rfl rfl rfl (by show (g.rs ++ [V.ref a]).length <= 800;rw[length_append];show _ + 1 <= 800;lia) rfl rfl,fun p g' H' G' e1 e2 e3 n'=>?_⟩
   obtain⟨more,hm⟩:=n'.rs;have hm:g'.rs=(g.rs ++ [.ref a]) ++ more:=hm;refine qc hh p a more g' H' G' e1 e2 e3 (by rw[hm,List.append_assoc];rfl) ?_ ((n23.trans (Nm2.same s4)).trans n')
   exact(Fr.tkz G4 n'.fr).t _ _ hv4
  | false =>
   refine bI ?_;refine hK_ _ _ ?_;obtain⟨dy4,h24⟩:=G4.ob;obtain⟨⟨dz4,h34⟩,_⟩:=id G4.wg.wo;refine⟨_,rfl,_,rfl,g.m,CM,dy4,_,_,rfl,h24,TM.cl,TM.n3,cQ,g.wr,CW,dz4,_,_,rfl,h34,TW.cl,TW.nT,dI,gA g yl2 a,"vote",g.t + 1,rfl,G4,fun p as zs H5 s5 L5=>?_⟩;exact qa hh p yl2 a as zs H5 (G4.same s5) (n23.trans ((Nm2.same s4).trans (Nm2.same s5))) (s5 _ _ hv4) L5
theorem scLookA:ao ["mind"] ["mind"] (ah qj):=fsc (by decide +kernel)
theorem wJ {f:Addr} {fd:FuncData} {k:Nat} (hk:4 <= k) (F:Fun K "look_ahead" "look_ahead" qj f fd) (TM:ClM K mg CM) (TW:ClW K mg CW) (Fb:aJ P w K mg base 2 "begin_asking" ["mind","role"] (iU K ⟨CH,CM,CT,CW,CR⟩)) (Fh:aJ P w K mg base 4 "has_half" ["mind"] (mv K ⟨CH,CM,CT,CW,CR⟩)) (Fu:aJ P w K mg base k "stand_up" ["mind"] (ii K ⟨CH,CM,CT,CW,CR⟩)) (Fs:aJ P w K mg base 4 "sent_to_speakers" ["mind","word","term"] (iV K ⟨CH,CM,CT,CW,CR⟩)):aI P w K mg base CX0 (k + 1) f fd ["mind"] (mx K ⟨CH,CM,CT,CW,CR⟩):=by
 refine F.ok scLookA (fun us H Q E h=>?_) (fun cdv A outer s H us Q E hr h=>?_)
 ·obtain⟨g,rfl,_⟩:=h;rfl
 ·obtain⟨g,rfl,G,hP,hrs,qc,ql⟩:=h;have r2:aP 2 _:=hr.mono (by lia)
  have r4:aP 4 _:=hr.mono (by lia)
  refine⟨_,ac (aZ (aj Fb r2 (ab (pv 0) (ab aq ad)))) <|
   ac (bc (cb (aj Fh r4 (ab (pv 0) ad))) (ai (av (aj Fu hr (ab (pv 0) ad)))) aF) <|
   ai (av (aj Fs r4 (ab (pv 0) (ab aq (ab (aL bu (am (am (pv 0) rfl) rfl) ag) ad))))),?_⟩
  dsimp only[aW,Cx.nox];refine ae fun K_ hK_=>?_;refine⟨_,rfl,g,"looker",rfl,G,fun yl2 H1 G1 n1=>?_⟩;refine hK_ _ _ (ae fun K_ hK_=>?_);refine⟨_,rfl,gB g "looker" yl2,rfl,G1,fun H2 s2=>⟨_,rfl,?_⟩⟩;have G2:=G1.same s2;have n2:=n1.trans (Nm2.same s2);show if bB g.bn [g.nm]=true then _ else _
  cases hh:bB g.bn [g.nm] with
  | true =>
   refine cm ?_;refine⟨_,rfl,gB g "looker" yl2,rfl,G2,hP.of rfl rfl rfl rfl (by show g.rs.length <= 800;lia) rfl rfl,hrs,fun _ p a more g' H' G' e1 e2 e3 e4 hv n'=>?_,fun z=>?_⟩
   ·exact qc hh p a more g' H' G' e1 e2 e3 e4 hv (n2.trans n')
   ·have z:bB g.bn [g.nm]=false:=z;rw[hh]at z;cases z
  | false =>
   refine bI ?_;refine hK_ _ _ ?_;obtain⟨dy4,h24⟩:=G2.ob;obtain⟨⟨dz4,h34⟩,_⟩:=id G2.wg.wo;refine⟨_,rfl,_,rfl,g.m,CM,dy4,_,_,rfl,h24,TM.cl,TM.n3,cQ,g.wr,CW,dz4,_,_,rfl,h34,TW.cl,TW.nT,dI,_,_,rfl,rfl,gB g "looker" yl2,"look",g.t + 1,rfl,G2,fun p as zs H5 s5 L5=>?_⟩;exact ql hh p yl2 as zs H5 (G2.same s5) (n2.trans (Nm2.same s5)) L5
theorem scVTurn:ao ["mind"] ["mind"] (ah qi):=fsc (by decide +kernel)
theorem wK {f:Addr} {fd:FuncData} {k:Nat} (hk:4 <= k) (F:Fun K "voter_turn" "voter_turn" qi f fd) (TM:ClM K mg CM) (Fm:aJ P w K mg base 4 "may_stand" ["mind"] (wG K ⟨CH,CM,CT,CW,CR⟩)) (Fl:aJ P w K mg base k "look_ahead" ["mind"] (mx K ⟨CH,CM,CT,CW,CR⟩)):aI P w K mg base CX0 (k + 1) f fd ["mind"] (my K ⟨CH,CM,CT,CW,CR⟩):=by
 refine F.ok scVTurn (fun us H Q E h=>?_) (fun cdv A outer s H us Q E hr h=>?_)
 ·obtain⟨g,rfl,_⟩:=h;rfl
 ·obtain⟨g,rfl,G,hP,hrs,q1,q2,q3⟩:=h;have r4:aP 4 _:=hr.mono (by lia)
  refine⟨_,ac (rO (pv 0) ag in_add) <|
   ac (bc (PW.pt (io (aG j7 (am (pv 0) rfl) (am (pv 0) rfl) (aN _)) (gU (eX (cb (aj Fm r4 (ab (pv 0) ad))))))) (ai (av (aH ad))) aF) <|
   ai (av (aj Fl hr (ab (pv 0) ad))),?_⟩
  dsimp only[aW,Cx.nox];obtain⟨dy,h2⟩:=G.ob;refine ae fun K_ hK_=>?_;refine⟨_,rfl,g.m,CM,dy,_,_,rfl,h2,TM.cl,TM.n8,flG_q,_,_,rfl,rfl,dy,_,h2,(by rw[c4];decide),?_⟩
  rw[vi];have b1:BtO g.m H (upd H g.m (.ins CM dy (flG g.nm g.wa g.sz g.wr g.rl g.bd (.str g.ro) g.kn (g.qu + 1) g.yl g.sd g.se g.gl g.fl g.sl))):=BtO.upd;have G1:=G.setM (dx:=dy) (kn:=g.kn) (qu:=g.qu + 1) (ro:=g.ro) (se:=g.se) b1 af;have e1:upd H g.m (.ins CM dy (flG g.nm g.wa g.sz g.wr g.rl g.bd (.str g.ro) g.kn (g.qu + 1) g.yl g.sd g.se g.gl g.fl g.sl)) g.m=some (.ins CM dy (flG g.nm g.wa g.sz g.wr g.rl g.bd (.str g.ro) g.kn (g.qu + 1) g.yl g.sd g.se g.gl g.fl g.sl)):=af;have n1:Nm2 H (upd H g.m (.ins CM dy (flG g.nm g.wa g.sz g.wr g.rl g.bd (.str g.ro) g.kn (g.qu + 1) g.yl g.sd g.se g.gl g.fl g.sl))) g { g with qu:=g.qu + 1 }:=⟨rfl,rfl,rfl,rfl,rfl,⟨[],by rw[List.append_nil]⟩,fun x hx=>.inl hx,Fr.bt b1 jD⟩
  refine hK_ _ _ (ae fun K_ hK_=>?_);generalize upd H g.m (.ins CM dy (flG g.nm g.wa g.sz g.wr g.rl g.bd (.str g.ro) g.kn (g.qu + 1) g.yl g.sd g.se g.gl g.fl g.sl))=H1 at b1 G1 e1 n1 ⊢;refine⟨_,rfl,ex5 g.m CM dy _ _ ⟨rfl,e1,TM.cl,TM.n8,flG_q,_,rfl,ex5 g.m CM dy _ _ ⟨rfl,e1,TM.cl,TM.n1,flG_w,_,_,rfl,rfl,_,rfl,?_⟩⟩⟩;have hquiet:(g.qu + 1 < g.wa\/gy g=false)->∀H2,ar H1 H2->∀p H',ar H2 H'->H' p=some (.tup [])->Q (.ref p) H':=fun hq H2 s2 p H' s' e'=>q1 hq p H' ((G1.same s2).same s') (n1.trans (Nm2.same (s2.trans s'))) e';refine dl (fun z=>?_) (fun z=>?_)
  ·have z:=of_decide_eq_true z;exact cm ⟨Nat.zero_le _,fun p H2 n2 s2 e2=>hquiet (.inl z) H1 (ar.refl _) p H2 s2 e2⟩
  ·have z:¬(g.qu + 1 < g.wa):=fun y=>z (decide_eq_true y);refine⟨_,rfl,{ g with qu:=g.qu + 1 },rfl,G1,fun H2 s2=>⟨_,rfl,?_⟩⟩;show if (!(gy g))=true then _ else _
   cases hm:gy g with
   | false=>exact cm ⟨Nat.zero_le _,fun p H3 n3 s3 e3=>hquiet (.inr hm) H2 s2 p H3 s3 e3⟩
   | true =>
    refine bI ?_;refine hK_ _ _ ?_;have n2:=n1.trans (Nm2.same s2);refine⟨_,rfl,{ g with qu:=g.qu + 1 },rfl,G1.same s2,hP.of rfl rfl rfl rfl (by show g.rs.length <= 800;lia) rfl rfl,hrs,fun hh p a more g' H' G' e1 e2 e3 e4 hv n'=>?_,fun hh p yl2 as zs H' G' n' L'=>?_⟩
    ·exact q2 (by lia) hm hh p a more g' H' G' e1 e2 e3 e4 hv (n2.trans n')
    ·exact q3 (by lia) hm hh p yl2 as zs H' G' (n2.trans n') L'
theorem scHTurn:ao ["self"] ["self"] (ah qm):=fsc (by decide +kernel)
theorem wL {f:Addr} {fd:FuncData} {k:Nat} (hk:1 <= k) (F:Fun K "turn" "House.turn" qm f fd) (T:ClH K mg CH) (TM:ClM K mg CM) (Mc:aD P w K mg base CM 1 "is_chair" ["self"] (jC K ⟨CH,CM,CT,CW,CR⟩)) (Fv:aJ P w K mg base k "voter_turn" ["mind"] (my K ⟨CH,CM,CT,CW,CR⟩)):aI P w K mg base CX0 (k + 1) f fd ["self"] (mB K ⟨CH,CM,CT,CW,CR⟩):=by
 refine F.ok scHTurn (fun us H Q E h=>?_) (fun cdv A outer s H us Q E hr h=>?_)
 ·obtain⟨H0,g,rfl,_⟩:=h;rfl
 ·obtain⟨H0,g,rfl,G,hro,hP,hrs,q⟩:=h;have r1:aP 1 _:=hr.mono (by lia)
  refine⟨_,ac (bc (cb (aw Mc TM.cl r1 (am (pv 0) rfl))) bA aF) <|
   ai (av (aj Fv hr (ab (am (pv 0) rfl) ad))),?_⟩
  dsimp only[aW,Cx.nox];obtain⟨dx,h1⟩:=G.hb;obtain⟨dy,h2⟩:=G.mo.ob;refine⟨_,rfl,ex5 g.ho CH dx _ _ ⟨rfl,h1,T.cl,T.n3,jv,g.m,dy,_,rfl,h2,iD,g,rfl,G.mo,_,rfl,?_⟩⟩;rw[decide_eq_false hro];refine bI ?_;exact⟨_,rfl,ex5 g.ho CH dx _ _ ⟨rfl,h1,T.cl,T.n3,jv,g,rfl,G.mo,hP,hrs,q⟩⟩
theorem scHJou:ao ["self"] ["self"] (ah vG):=fsc (by decide +kernel)
theorem ok_hjou {f:Addr} {fd:FuncData} (F:Fun K "journal" "House.journal" vG f fd) (htup:mg "tuple"=none) (T:ClH K mg CH) (TM:ClM K mg CM):aI P w K mg base CX0 1 f fd ["self"] (qo K ⟨CH,CM,CT,CW,CR⟩):=by
 refine F.ok scHJou (fun us H Q E h=>?_) (fun cdv A outer s H us Q E hr h=>?_)
 ·obtain⟨H0,g,rfl,_⟩:=h;rfl
 ·obtain⟨H0,g,rfl,G,q⟩:=h;refine⟨_,ai <| av <| be bh (by rfl) htup ce (ab (am (am (pv 0) rfl) rfl) ad),?_⟩
  dsimp only[aW,Cx.nox];obtain⟨dx,h1⟩:=G.hb;obtain⟨dy,h2⟩:=G.mo.ob;exact⟨_,rfl,ex5 g.ho CH dx _ _ ⟨rfl,h1,T.cl,T.n3,jv,ex5 g.m CM dy _ _ ⟨rfl,h2,TM.cl,TM.n4,vd,g.rl,_,rfl,SqL.of G.mo.ls.r,fun p H' n' s' e'=>q p H' s' e'⟩⟩⟩
end
end K45
namespace K45
open PySem L2
abbrev wM:Stmt:=top 75
abbrev wN:Stmt:=top 76
abbrev il:Stmt:=top 77
abbrev rb:Stmt:=top 78
structure Blw(mg:Str->Option Value):Prop where
 len:mg "len"=none
 range:mg "range"=none
 int:mg "int"=none
 max:mg "max"=none
 tuple:mg "tuple"=none
 sorted:mg "sorted"=none
 set:mg "set"=none
 isi:mg "isinstance"=none
 list:mg "list"=none
def bj(R:Addr)(H H':Hp):Prop:=∀b o,b ≠ R->H b=some o->H' b=some o
theorem bj.refl{R:Addr}(H:Hp):bj R H H:=fun _ _ _ h=>h
theorem bj.trans{R:Addr}{H H1 H2:Hp}(a:bj R H H1)(b:bj R H1 H2):bj R H H2:=fun c o h1 h=>b c o h1 (a c o h1 h)
theorem bj.of{R:Addr}{H H':Hp}(e:ar H H'):bj R H H':=fun c o _ h=>e c o h
def Rst(H:Hp)(R:Addr):Prop:=∃a:Int,H R=some (.lst [.int a])
theorem Rst.same{H H':Hp}{R:Addr}(e:ar H H')(h:Rst H R):Rst H' R:=by
 obtain⟨a,h1⟩:=h;exact⟨a,e _ _ h1⟩
theorem Rst.ne{H:Hp}{R p:Addr}(h:Rst H R)(hp:H p=none):p ≠ R:=by
 obtain⟨a,h1⟩:=h;exact(ak h1 hp).symm
theorem bj.tk{R:Addr}{H H':Hp}(b:bj R H H')(r:Rst H R):Tk H H':=fun a xs e=>by
 obtain⟨n,h1⟩:=r;exact b _ _ (ax e h1 (by intro z;cases z)) e
theorem bj.frz{R:Addr}{H H':Hp}(b:bj R H H')(r:Rst H R){a:Addr}{o:Obj}{u:HO}(e:H a=some (.frz o u)):H' a=some (.frz o u):=by
 obtain⟨n,h1⟩:=r;exact b _ _ (ax e h1 (by intro z;cases z)) e
def eM:Sp:=fun vs H Q _=>∃(R:Addr)(m:Int),vs=[.ref R,.int m]/\Rst H R/\0 < m/\m <= 10 ^ 60/\∀(z:Int)(H':Hp),0 <= z->z < m->Rst H' R->bj R H H'->Q (.int z) H'
def qq:Sp:=fun vs H Q _=>∃c:Int,vs=[.int c]/\∀(R:Addr)(H':Hp),H R=none->ar H H'->Rst H' R->Q (.ref R) H'
def mC:Sp:=fun vs H Q _=>∃(R:Addr)(m:Int),vs=[.ref R,.int m]/\Rst H R/\1 <= m/\m <= 12/\∀(l:Addr)(zs:List Str)(H':Hp),H l=none->H' l=some (.lst (zs.map V.str))->(zs.length:Int)=m->Rst H' R->bj R H H'->Q (.ref l) H'
def qr:Sp:=fun vs H Q _=>∃(R l:Addr)(m:Int)(zs:List Str),vs=[.ref R,.ref l,.int m]/\Rst H R/\H l=some (.lst (zs.map V.str))/\l ≠ R/\zs.length <= 12/\((m=1/\zs ≠ [])\/m=0)/\∀(p:Addr)(ys:List Str)(H':Hp),H p=none->H' p=some (.tup (ys.map V.str))->m <= ys.length->ys.length <= 12->Rst H' R->bj R H H'->Q (.ref p) H'
abbrev gR:List Str:=["_law_rest_here","_law_base"]
theorem lcRR{n k:Nat}{lo:Int}{σ:St}{H1:Hp}{te:TE}{Q:VK}{R:Addr}(p:V->Prop)(hk:σ.length=k)(r1:Rst H1 R)(hn:n <= 1000)
  (turn:∀D i ys H' (post:VK),i < n->H1 D=none->Rst H' R->bj R H1 H'->H' D=some (.lst ys)->(∀y H'',p y->Rst H'' R->bj R H' H''->post y H'')->te (σ ++ [some (.int (lo + i))]) H' post)
  (fin:∀D ys H',H1 D=none->Rst H' R->bj R H1 H'->H' D=some (.lst ys)->ys.length=n->(∀y ∈ ys,p y)->Q (.ref D) H') :
  LCT 1 (cG k) uq te σ Q (Itr lo n) H1:=by
 refine lcJ (n:=n) (fun i=>.int (lo + i)) (fun l i ys H'=>H1 l=none/\Rst H' R/\bj R H1 H'/\H' l=some (.lst ys)/\ys.length=i/\∀y ∈ ys,p y) hk ?_ ?_ ?_ ?_ ?_ ?_
 ·rintro l i ys H' hi _;exact hi
 ·rintro l i ys H' x H'' hi _ ⟨e,y⟩;exact⟨e,y⟩
 ·rintro l ys H' _;exact Nat.le_refl _
 ·intro l hl;exact⟨hl,r1.same (.new hl),bj.of (.new hl),af,rfl,fun c hc=>by simp at hc⟩
 ·rintro l i ys H' post hi ⟨hl0,r',b',hl,hc,hp'⟩ hp;have hlR:l ≠ R:=r1.ne hl0;refine turn l i ys H' post hi hl0 r' b' hl fun y H3 py r3 b3=>hp _ _ (b3 _ _ hlR hl) (bJ (by lia)) ⟨hl0,?_,?_,af,by rw[length_append,hc];rfl,?_⟩
  ·obtain⟨a,h1⟩:=r3;exact⟨a,by rw[au hlR.symm];exact h1⟩
  ·exact fun b o hb e=>by rw[au (ak e hl0)];exact(b'.trans b3) b o hb e
  ·intro c hc';rcases mem_append.mp hc' with h | h
   ·exact hp' c h
   ·rw[List.mem_singleton.mp h];exact py
 ·rintro l ys H' ⟨hl0,r',b',hl,hc,hp'⟩;exact fin l ys H' hl0 r' b' hl hc hp'
theorem wO{X:Cx}{scope:Scope}{cl:List (Str × Addr)}{N2 ys:List Str}{C:Addr}{s:Shared}{H:Hp}{fp:List Addr}:IxR (cxC X scope cl N2 ys C s H fp) (rIxL X.K):=cY
section
variable{P:Program}{w:World}{K:Frag}{mg:Str->Option Value}{base:Heap}
noncomputable abbrev nTake:List Str:=["_law_rest_here","_law_base","_law_digit"]
theorem wP:ao nTake gR (ah wN):=fsc (by decide +kernel)
theorem ok_take {f:Addr} {fd:FuncData} (F:Fun K "_law_take" "_law_take" wN f fd):aI P w K mg base CX0 1 f fd gR eM:=by
 refine F.ok wP (fun vs H Q E h=>?_) (fun cdv A outer s H vs Q E hr h=>?_)
 ·obtain⟨R,m,rfl,_⟩:=h;rfl
 ·obtain⟨R,m,rfl,⟨a,hR⟩,m0,m1,q⟩:=h;have nd:=wP.nd;refine⟨_,ac (aB (i:=2) nd rfl (Or.inl rfl) (aL gb (aE cY (pv 0) ag (fun _ _=>rfl)) (pv 1))) <|
   ac (kW (aL uG (aE cY (pv 0) ag (fun _ _=>rfl)) (pv 1)) (pg_sub (pv 0) ag sg)) <|
   ai <| av <| pv 2,?_⟩
  have mm:∀y:Int,0 <= y % m/\y % m < m:=fun y=>⟨Int.emod_nonneg _ (by lia),Int.emod_lt_of_pos _ m0⟩
  refine⟨_,rfl,R,_,_,_,rfl,rfl,SqL.of hR,at0,_,rfl,_,_,rfl,rfl,m0,?_⟩;refine⟨_,rfl,R,_,_,_,rfl,rfl,SqL.of hR,at0,_,rfl,_,_,rfl,rfl,⟨m0,Int.lt_of_le_of_lt m1 (by decide)⟩,?_⟩
  refine⟨_,rfl,R,_,0,rfl,rfl,hR,by simp,fun H1 k1 e1=>?_⟩
  exact⟨_,rfl,q _ H1 (mm _).1 (mm _).2 ⟨_,e1⟩ k1⟩
noncomputable abbrev nRest:List Str:=["_law_cell","_law_number","_law_big","_law_k"]
theorem wQ:ao nRest ["_law_cell"] (ah wM):=fsc (by decide +kernel)
theorem ok_rest {f:Addr} {fd:FuncData} (F:Fun K "_law_rest" "_law_rest" wM f fd) (T:Blw mg):aI P w K mg base CX0 1 f fd ["_law_cell"] qq:=by
 refine F.ok wQ (fun vs H Q E h=>?_) (fun cdv A outer s H vs Q E hr h=>?_)
 ·obtain⟨c,rfl,_⟩:=h;rfl
 ·obtain⟨c,rfl,q⟩:=h;have nd:=wQ.nd;have hs16:sizeLine=16777216:=sizeLine_eq;refine⟨_,ac (bc (aG cw (aL gb (pv 0) ag) ag (aN _)) (ai (av (bg (ab (aL op_fdiv (pv 0) ag) ad)))) aF) <|
   ac (aB (i:=1) nd rfl (Or.inl rfl) (aL bu ag (aL gb (pv 0) ag))) <|
   ac (aB (i:=2) nd rfl (Or.inl rfl) ag) <|
   ac (cD PassesOwn.never rfl (cV (by rfl) T.range (ab ag ad)) (aO (i:=3) nd rfl (Or.inl rfl)) <|
    ac (aB (i:=1) nd rfl (Or.inl rfl) (aL gb (aL c7 (pv 1) ag) ag)) <|
    ai (aB (i:=2) nd rfl (Or.inl rfl) (aL bu (aL c7 (pv 2) ag) (aL gb (aL c7 (aL gb (aL c7 (aL bu (pv 1) (aL c7 ag (pv 3))) ag) ag) ag) ag)))) <|
   ai (av (bg (ab (pv 2) ad))),?_⟩
  refine⟨_,rfl,_,_,rfl,rfl,(by dsimp only;decide),rfl,_,rfl,?_⟩
  refine dl (fun _=>?_) (fun _=>?_)
  ·refine⟨_,rfl,_,_,rfl,rfl,⟨by decide,by decide⟩,(show 1 <= sizeLine by lia),fun R H1 n1 s1 e1=>q R H1 n1 s1 ⟨_,e1⟩⟩
  ·refine⟨_,rfl,_,_,rfl,rfl,(by dsimp only;decide),_,_,rfl,rfl,?_⟩
   have c0:=Int.emod_nonneg c (show (2147483646:Int) ≠ 0 by decide)
   have c1:=Int.emod_lt_of_pos c (show (0:Int) < 2147483646 by decide)
   refine⟨24,rfl,by decide,by decide,fN (lo:=0) (n:=24) (fun i σ Hx=>∃(n b:Int)(v:Option V),σ=[some (.int c),some (.int n),some (.int b),v]/\0 <= n/\n < 4294967296/\Hx=H) ⟨_,0,none,rfl,by lia,by lia,rfl⟩ ?_ ?_⟩
   ·rintro i σ Hx hi ⟨n,b,v,rfl,n0,n1,rfl⟩;have d0:=Int.emod_nonneg (n * 16807) (show (2147483647:Int) ≠ 0 by decide)
    have d1:=Int.emod_lt_of_pos (n * 16807) (show (0:Int) < 2147483647 by decide)
    refine⟨_,rfl,_,_,rfl,rfl,.inl ⟨by lia,by lia⟩,_,_,rfl,rfl,(by dsimp only;decide),?_⟩
    dsimp only;generalize n * 16807 % 2147483647=n' at d0 d1 ⊢;refine⟨_,rfl,_,_,rfl,rfl,.inr ⟨by decide,by decide⟩,_,rfl,_,rfl,_,_,rfl,rfl,.inl ⟨by decide,by decide⟩,_,_,rfl,rfl,_,_,rfl,rfl,.inr ⟨by decide,by decide⟩,_,_,rfl,rfl,(by dsimp only;decide),_,_,rfl,rfl,.inr ⟨by decide,by decide⟩,_,_,rfl,rfl,(by dsimp only;decide),_,_,rfl,rfl,?_⟩
    exact⟨_,_,_,rfl,by lia,by lia,rfl⟩
   ·rintro σ Hx ⟨n,b,v,rfl,n0,n1,rfl⟩;exact⟨_,rfl,(show 1 <= sizeLine by lia),fun R H1 n1 s1 e1=>q R H1 n1 s1 ⟨_,e1⟩⟩
noncomputable abbrev nN:List Str:=["_law_rest_here","_law_many","_law_letters","_law_size","_law_at","_law_step","_law_base","_law_found","_law_k","_law_signs"]
theorem rc:ao nN ["_law_rest_here","_law_many"] (ah il):=fsc (by decide +kernel)
theorem ndN:(nN ++ (["_law_j"]:List Str)).Nodup:=by decide +kernel
theorem pick8{x:Int}(h0:0 <= x)(h1:x < 8):∃i:Int,atI [V.int 1,.int 3,.int 5,.int 7,.int 9,.int 11,.int 15,.int 17] x=some (.int i)/\1 <= i/\i <= 17:=by
 obtain⟨v,hv,hm⟩:=pb (xs:=[V.int 1,.int 3,.int 5,.int 7,.int 9,.int 11,.int 15,.int 17]) h0 (by show x < 8;exact h1)
 simp only[List.mem_cons,not_mem_nil,or_false]at hm;rcases hm with rfl | rfl | rfl | rfl | rfl | rfl | rfl | rfl
 all_goals exact⟨_,hv,by decide,by decide⟩
theorem oE(zs:List Str)(y:Str):(zs ++ [y]).map V.str=zs.map V.str ++ [V.str y]:=by rw[List.map_append];rfl
theorem sum_one(cs:List Nat):((cs.map fun c=>(⟨#[c]⟩:Str)).map (·.length)).sum=cs.length:=by
 induction cs with
 | nil=>rfl
 | cons c r ih =>
  simp only[List.map_cons,List.sum_cons,length_cons];simp only[List.map_map]at ih ⊢;rw[ih];show 1 + r.length=r.length + 1;lia
theorem jV:∀{ys:List V},(∀y ∈ ys,∃c:Nat,y=.str ⟨#[c]⟩)->∃cs:List Nat,ys=cs.map (fun c=>V.str ⟨#[c]⟩)
 | [],_=>⟨[],rfl⟩
 | y :: r,h=>by
  obtain⟨c,rfl⟩:=h y (by simp)
  obtain⟨cs,rfl⟩:=jV (ys:=r) fun y hy=>h y (List.mem_cons_of_mem _ hy);exact⟨c :: cs,rfl⟩
theorem re:∀{ys:List V},(∀y ∈ ys,∃i:Int,y=.int i)->∃is:List Int,ys=is.map V.int
 | [],_=>⟨[],rfl⟩
 | y :: r,h=>by
  obtain⟨c,rfl⟩:=h y (by simp)
  obtain⟨cs,rfl⟩:=re (ys:=r) fun y hy=>h y (List.mem_cons_of_mem _ hy);exact⟨c :: cs,rfl⟩
theorem wR {f:Addr} {fd:FuncData} (F:Fun K "_law_names" "_law_names" il f fd) (T:Blw mg) (Ft:aJ P w K mg base 1 "_law_take" gR eM):aI P w K mg base CX0 2 f fd ["_law_rest_here","_law_many"] mC:=by
 refine F.ok rc (fun vs H Q E h=>?_) (fun cdv A outer s H vs Q E hr h=>?_)
 ·obtain⟨R,m,rfl,_⟩:=h;rfl
 ·obtain⟨R,m,rfl,r0,m0,m1,q⟩:=h;have nd:=rc.nd;have hs16:sizeLine=16777216:=sizeLine_eq;have e00:(Str.ofString "").length=0:=rfl;refine⟨_,ac (aB (i:=2) nd rfl (Or.inr rfl) aq) <|
   ac (aB (i:=3) nd rfl (Or.inl rfl) (aL bu ag (aj Ft hr (ab (pv 0) (ab ag ad))))) <|
   ac (aB (i:=4) nd rfl (Or.inr rfl) (aj Ft hr (ab (pv 0) (ab (pv 3) ad)))) <|
   ac (qU (i:=5) nd rfl (Or.inr rfl) (nP (cq ag <| cq ag <| cq ag <| cq ag <| cq ag <| cq ag <| cq ag <| cq ag qT) (aj Ft hr (ab (pv 0) (ab ag ad))) (fun _ _=>rfl))) <|
   ac (aB (i:=6) nd rfl (Or.inr rfl) (eQ nN nN ["_law_j"] (ah il) rfl rfl rfl (by decide +kernel) rfl rfl (by decide +kernel) (by decide +kernel) (by decide +kernel) (by decide +kernel)
    (cV (by rfl) T.range (ab (pv 3) ad)) (fun _ _ _ _ _=>aO (i:=10) ndN rfl (Or.inl rfl)) (fun _ _ _ _ _=>eB) (fun _ _ _ _ _=>aj (X:=cxC _ _ _ _ _ _ _ _ _) Ft hr (ab (pv 0) (ab ag ad))))) <|
   ac (aB (i:=7) nd rfl (Or.inl rfl) (bg ad)) <|
   ac (cD PassesOwn.never rfl (cV (by rfl) T.range (ab (pv 1) ad)) (aO (i:=8) nd rfl (Or.inr rfl)) <|
    ac (qP (i:=9) nd rfl (Or.inl rfl) nN nN ["_law_j"] (ah il) rfl rfl rfl (by decide +kernel) rfl rfl (by decide +kernel) (by decide +kernel) (by decide +kernel) (by decide +kernel)
     (cV (by rfl) T.range (ab (pv 3) ad)) (fun _ _ _ _ _=>aO (i:=10) ndN rfl (Or.inl rfl)) (fun _ _ _ _ _=>eB)
     (fun _ _ _ _ _=>aE uh (pv 2) (aL gb (aL bu (aE wO (pv 6) (pv 10) (fun _ _=>rfl)) (aL c7 (aL c7 (pv 5) (pv 8)) (be gY (by rfl) T.int uL (ab (cB cw (pv 10) (pv 4) (aN _)) ad)))) ag) (fun _ _=>rfl)) (by with_unfolding_all rfl)) <|
    ac (aB (i:=9) nd rfl (Or.inl rfl) (aL iM (pv 9) (eQ nN nN ["_law_j"] (ah il) rfl rfl rfl (by decide +kernel) rfl rfl (by decide +kernel) (by decide +kernel) (by decide +kernel) (by decide +kernel)
     (cV (by rfl) T.range (ab (aj Ft hr (ab (pv 0) (ab (aL dR ag (pv 3)) ad))) ad)) (fun _ _ _ _ _=>aO (i:=10) ndN rfl (Or.inl rfl)) (fun _ _ _ _ _=>eB)
     (fun _ _ _ _ _=>aE uh (pv 2) (aj (X:=cxC _ _ _ _ _ _ _ _ _) Ft hr (ab (pv 0) (ab ag ad))) (fun _ _=>rfl))))) <|
    ai (aZ (fZ PySem.F.plainAttrs_list PySem.F.slot_list_append PySem.F.type_list_append dN (pv 7) (ab (fZ PySem.F.plainAttrs_str PySem.F.slot_str_join PySem.F.type_str_join mt_join aq (ab (pv 9) ad)) ad)))) <|
   ai <| av <| bq gi (by rfl) T.sorted iN (ab (pv 7) ad),?_⟩
  dsimp only[aW,Cx.nox];refine ae fun K_ hK_=>?_;refine hK_ _ _ (ae fun K_ hK_=>?_);refine⟨_,rfl,R,8,rfl,r0,by decide,by decide,fun lg H1 g0 g1 r1 b1=>⟨_,_,rfl,rfl,?_⟩⟩
  refine hK_ _ _ (ae fun K_ hK_=>?_);refine⟨_,rfl,_,rfl,R,1 + lg,rfl,r1,by lia,by lia,fun at' H2 a0 a1 r2 b2=>?_⟩
  refine hK_ _ _ (ae fun K_ hK_=>?_);refine⟨(show 8 <= sizeLine by lia),fun pl H3 np s3 ep=>?_⟩
  have r3:=r2.same s3;refine⟨_,rfl,R,8,rfl,r3,by decide,by decide,fun sx H4 x0 x1 r4 b4=>?_⟩
  obtain⟨st,hst,st1,st2⟩:=pick8 x0 x1;refine⟨pl,_,sx,_,rfl,rfl,SqL.of (b4 _ _ (r2.ne np) ep),hst,?_⟩;refine hK_ _ _ (ae fun K_ hK_=>?_);refine⟨_,rfl,1 + lg,rfl,by lia,by lia,?_⟩
  refine lcRR (R:=R) (fun y=>∃i:Int,y=.int i) rfl r4 (by lia) (fun D i ys H' post hi hD r' b' hDD hp=>?_) (fun bl ys H5 nb r5 b5 eb hyl hyp=>?_)
  ·exact⟨_,rfl,R,26,rfl,r',by decide,by decide,fun z H'' z0 z1 r'' b''=>hp _ H'' ⟨z,rfl⟩ r'' b''⟩
  obtain⟨bs,rfl⟩:=re hyp;rw[length_map]at hyl;have b05:bj R H H5:=((b1.trans b2).trans (bj.of s3)).trans (b4.trans b5);refine hK_ _ _ (ae fun K_ hK_=>?_);refine⟨Nat.zero_le _,fun fl H6 nf s6 ef=>?_⟩;have r6:=r5.same s6;have blR:bl ≠ R:=r4.ne nb;have flR:fl ≠ R:=r5.ne nf;have fb:fl ≠ bl:=fun z=>by rw[z,eb]at nf;cases nf
  refine hK_ _ _ (ae fun K_ hK_=>?_);have Hfl:H fl=none:=by
   cases e:H fl with
   | none=>rfl
   | some u=>rw[b05 _ _ flR e]at nf;cases nf
  refine⟨_,rfl,m,rfl,by lia,by lia,fN (lo:=0) (n:=m.toNat) (fun i σ Hx=>∃(v8 v9:Option V)(zs:List Str),σ=[some (.ref R),some (.int m),some (.str ABC),some (.int (1 + lg)),some (.int at'),some (.int st),some (.ref bl),some (.ref fl),v8,v9]/\Rst Hx R/\bj R H Hx/\Hx bl=some (.lst (bs.map V.int))/\Hx fl=some (.lst (zs.map V.str))/\zs.length=i)
   ⟨none,none,[],rfl,r6,b05.trans (bj.of s6),s6 _ _ eb,ef,rfl⟩ ?_ ?_⟩
  ·rintro i σ Hx hi ⟨v8,v9,zs,rfl,rx,bx,ebx,efx,hzl⟩;refine ae fun K_ hK_=>?_;refine⟨_,rfl,1 + lg,rfl,by lia,by lia,?_⟩
   refine lcRR (R:=R) (fun y=>∃c:Nat,y=.str ⟨#[c]⟩) rfl rx (by lia) (fun D j ys H' post hj hD r' b' hDD hp=>?_) (fun sl ys H7 ns r7 b7 es hyl' hyp'=>?_)
   ·have hjb:j < bs.length:=by lia
    refine⟨_,rfl,_,rfl,_,rfl,bl,_,_,_,rfl,rfl,SqL.of (b' _ _ blR ebx),iO (x:=bs[j]) (by lia) (by rw[show (0 + (j:Int)).toNat=j by lia];exact getElem?_eq_getElem hjb),_,rfl,_,rfl,_,_,rfl,rfl,.inl ⟨by lia,by lia⟩,_,rfl,_,rfl,rfl,.inr ⟨_,rfl,_,_,rfl,rfl,?_,_,_,rfl,rfl,_,_,rfl,rfl,(by dsimp only;decide),?_⟩⟩
    ·refine .inr ?_;split
     ·exact⟨by decide,by decide⟩
     ·exact⟨by decide,by decide⟩
    ·dsimp only;generalize hgx:(bs[j] + st * (0 + (i:Int)) * (if decide (V.int (0 + (j:Int))=V.int at')=true then 1 else 0)) % 26=x
     have x0:0 <= x:=by rw[<- hgx];exact Int.emod_nonneg _ (by decide)
     have x1:x < 26:=by rw[<- hgx];exact Int.emod_lt_of_pos _ (by decide)
     obtain⟨c,hx,hm⟩:=pb (xs:=ABC.cps.toList) x0 (by rw[Array.length_toList];show x < ((ABC.length:Nat):Int);rw[ln];exact x1)
     exact⟨_,_,c,rfl,rfl,uM,hx,hp _ H' ⟨c,rfl⟩ r' (bj.refl _)⟩
   obtain⟨cs,rfl⟩:=jV hyp';rw[length_map]at hyl';have slR:sl ≠ R:=rx.ne ns;refine hK_ _ _ (ae fun K_ hK_=>?_);refine⟨_,rfl,_,rfl,_,rfl,_,_,rfl,rfl,R,9 - (1 + lg),rfl,r7,by lia,by lia,fun x H8 x0 x1 r8 b8=>?_⟩
   refine⟨x,rfl,by lia,by lia,?_⟩
   refine lcRR (R:=R) (fun y=>∃c:Nat,y=.str ⟨#[c]⟩) rfl r8 (by lia) (fun D j ys H' post hj hD r' b' hDD hp=>?_) (fun tl ys H9 nt r9 b9 et hyl2 hyp2=>?_)
   ·refine⟨_,rfl,_,rfl,R,26,rfl,r',by decide,by decide,fun x H'' x0 x1 r'' b''=>?_⟩
    obtain⟨c,hx,hm⟩:=pb (xs:=ABC.cps.toList) x0 (by rw[Array.length_toList];show x < ((ABC.length:Nat):Int);rw[ln];exact x1)
    exact⟨_,_,c,rfl,rfl,uM,hx,hp _ H'' ⟨c,rfl⟩ r'' b''⟩
   obtain⟨ds,rfl⟩:=jV hyp2;rw[length_map]at hyl2;have b89:=b8.trans b9;refine⟨sl,tl,_,_,rfl,rfl,b89 _ _ slR es,et,by simp only[length_map];lia,fun ul H10 n10 s10 e10=>?_⟩
   have e10':H10 ul=some (.lst (((cs ++ ds).map fun c=>(⟨#[c]⟩:Str)).map V.str)):=by rw[e10,List.map_map,List.map_append];rfl
   refine hK_ _ _ ?_;have b70:=b7.trans (b89.trans (bj.of s10));refine⟨_,rfl,.inl ⟨rfl,_,SqL.of (b70 _ _ flR efx)⟩,rfl,_,rfl,_,ul,_,rfl,rfl,SqL.of e10',by rw[sum_one,e00,length_append];lia,?_⟩
   refine⟨fl,_,_,rfl,rfl,b70 _ _ flR efx,by rw[length_map];lia,fun H11 k11 e11=>?_⟩
   have r10:=r9.same s10;refine⟨_,_,zs ++ [Txt.join (Str.ofString "") ((cs ++ ds).map fun c=>(⟨#[c]⟩:Str))],rfl,?_,fun c u hc e=>?_,?_,by rw[e11,oE],by rw[length_append,hzl];rfl⟩
   ·obtain⟨a,ha⟩:=r10;exact⟨a,k11 _ _ flR.symm ha⟩
   ·exact k11 _ _ (ak e Hfl) (b70 _ _ hc (bx _ _ hc e))
   ·exact k11 _ _ fb.symm (b70 _ _ blR ebx)
  ·rintro σ Hx ⟨v8,v9,zs,rfl,rx,bx,ebx,efx,hzl⟩;refine hK_ _ _ ?_;refine⟨_,rfl,fl,zs,rfl,SqL.of efx,by lia,fun l ys H7 nl s7 e7 pm pw=>?_⟩
   have lR:l ≠ R:=rx.ne nl;refine q l ys H7 ?_ e7 (by rw[pm.length_eq];lia) (rx.same s7) (bx.trans (bj.of s7))
   cases e:H l with
   | none=>rfl
   | some u=>rw[bx _ _ lR e]at nl;cases nl
end
abbrev iW:Stmt:=top 79
theorem cut7(zs:List Str)(k:Nat):c6 (zs.map V.str) none (some (k:Int))=(zs.take k).map V.str:=by rw[qW,<- List.map_take]
theorem cutL(zs:List Str){x:Int}(h0:0 <= x):c6 (zs.map V.str) none (some x)=(zs.take x.toNat).map V.str:=by
 obtain⟨k,rfl⟩:=Int.eq_ofNat_of_zero_le h0;exact cut7 zs k
theorem lcSome{K:Frag}{a R:Addr}{zs:List Str}{k:Nat}{σ:St}{H1:Hp}{tt:TT}{Q:VK}(hk:σ.length=k)(r1:Rst H1 R)(hq:H1 a=some (.lst (zs.map V.str)))(aR:a ≠ R)(hz:zs.length <= 1000)
  (test:∀D x ys H (post:Bool->Hp->Prop),H1 D=none->x ∈ zs->Rst H R->bj R H1 H->H D=some (.lst ys)->(∀b H',Rst H' R->bj R H H'->post b H')->tt (σ ++ [some (.str x)]) H post)
  (fin:∀D H (ys:List Str),H1 D=none->Rst H R->bj R H1 H->H D=some (.lst (ys.map V.str))->ys.length <= zs.length->Q (.ref D) H):LCT 1 (cG k) tt (rH k) σ Q (Itl K a) H1:=by
 refine lcP (n:=zs.length) (fun i=>.str (zs.getD i ⟨#[]⟩)) (fun D i ys H=>H1 D=none/\Rst H R/\bj R H1 H/\H D=some (.lst ys)/\∃us:List Str,ys=us.map V.str/\us.length <= i) ?_ ?_ ?_ ?_ ?_ ?_
 ·rintro D i ys H hi ⟨h1,h2,h3,_⟩;exact⟨zs.map V.str,.str zs[i],SqL.of (h3 _ _ aR hq),by rw[getElem?_map,getElem?_eq_getElem hi];rfl⟩
 ·rintro D i ys H x H' hi ⟨h1,h2,h3,_⟩ ⟨e,y⟩;refine⟨e,?_⟩;have:=y _ (SqL.of (h3 _ _ aR hq));rw[getElem?_map,getElem?_eq_getElem hi]at this;rw[getD_eq_getElem?_getD,getElem?_eq_getElem hi];exact(Option.some.inj this).symm
 ·rintro D ys H ⟨h1,h2,h3,_⟩;exact⟨_,SqL.of (h3 _ _ aR hq),by rw[length_map];exact Nat.le_refl _⟩
 ·intro D hD;exact⟨hD,r1.same (.new hD),bj.of (.new hD),af,[],rfl,Nat.le_refl _⟩
 ·rintro D i ys H yes no hi ⟨h1,h2,h3,h4,us,rfl,hu⟩ hp hn;have hx:zs[i]?=some (zs.getD i ⟨#[]⟩):=by rw[getD_eq_getElem?_getD,getElem?_eq_getElem hi];rfl
  generalize zs.getD i ⟨#[]⟩=x at hx ⊢;have e:(σ ++ List.replicate 1 (none:Option V)).set k (some (.str x))=σ ++ [some (.str x)]:=by
   subst hk;simp[List.set_append]
  unfold cG;rw[e];have DR:D ≠ R:=r1.ne h1;refine⟨⟨_,rfl,rfl⟩,test D x _ H _ h1 (mem_of_getElem? hx) h2 h3 h4 fun b H3 r3 b3=>?_⟩;have h43:=b3 _ _ DR h4;cases b with
  | true =>
   refine cm ⟨.str x,by subst hk;simp,hp _ _ h43 (by rw[length_map];exact bJ (by lia)) ⟨h1,?_,?_,af,us ++ [x],by rw[oE],by rw[length_append];show _ + 1 <= _;lia⟩⟩
   ·obtain⟨n,hn'⟩:=r3;exact⟨n,by rw[au DR.symm];exact hn'⟩
   ·exact fun b o hb e=>by rw[au (ak e h1)];exact(h3.trans b3) b o hb e
  | false =>
   exact bI (hn _ ⟨h1,r3,h3.trans b3,h43,us,rfl,by lia⟩)
 ·rintro D ys H ⟨h1,h2,h3,h4,us,rfl,hu⟩;exact fin D H us h1 h2 h3 h4 hu
def fI:Sp:=fun us H Q _=>∃(R nl:Addr)(zs:List Str),us=[.ref R,.ref nl]/\Rst H R/\H nl=some (.lst (zs.map V.str))/\nl ≠ R/\1 <= zs.length/\zs.length <= 12/\∀(b:Addr)(B:Bn)(H':Hp),H b=none->BnO H' b B->1 <= B.vs.length->Rst H' R->bj R H H'->Q (.ref b) H'
section
variable{P:Program}{w:World}{K:Frag}{mg:Str->Option Value}{base:Heap}
noncomputable abbrev rf:List Str:=["_law_rest_here","_law_names_here","_law_least","_law_found"]
noncomputable abbrev wS:List Str:=["_law_rest_here","_law_names_here","_law_least"]
theorem wT:ao rf wS (ah rb):=fsc (by decide +kernel)
theorem ndSome:(rf ++ (["_law_name"]:List Str)).Nodup:=by decide +kernel
theorem ok_some {f:Addr} {fd:FuncData} (F:Fun K "_law_some" "_law_some" rb f fd) (T:Blw mg) (Ft:aJ P w K mg base 1 "_law_take" gR eM):aI P w K mg base CX0 2 f fd wS qr:=by
 refine F.ok wT (fun us H Q E h=>?_) (fun cdv A outer s H us Q E hr h=>?_)
 ·obtain⟨R,l,m,zs,rfl,_⟩:=h;rfl
 ·obtain⟨R,l,m,zs,rfl,r0,hl,lR,zl,hm,q⟩:=h;have nd:=wT.nd;refine⟨_,ac (aB (i:=3) nd rfl (Or.inl rfl) (be bh (by rfl) T.tuple ce (ab (eQ rf rf ["_law_name"] (ah rb) rfl rfl rfl (by decide +kernel) rfl rfl (by decide +kernel) (by decide +kernel) (by decide +kernel) (by decide +kernel)
    (ej (pv 1)) (fun _ _ _ _ _=>aO (i:=4) ndSome rfl (Or.inl rfl)) (fun _ _ _ _ _=>eF (aG cw (aj (X:=cxC _ _ _ _ _ _ _ _ _) Ft hr (ab (pv 0) (ab ag ad))) ag (aN _))) (fun _ _ _ _ _=>pv 4)) ad))) <|
   ac (bc (aG j7 (bq a9 (by rfl) T.len PySem.boot_len (ab (pv 3) ad)) (pv 2) (aN _)) (ai (av (be bh (by rfl) T.tuple ce (ab (bU ld (pv 1) cC (bW (aL bu ag (aj Ft hr (ab (pv 0) (ab (bq a9 (by rfl) T.len PySem.boot_len (ab (pv 1) ad)) ad)))))) ad)))) aF) <|
   ai (av (pv 3)),?_⟩
  dsimp only[aW,Cx.nox];refine ae fun K_ hK_=>?_;refine⟨_,rfl,l,rfl,⟨_,SqL.of hl⟩,?_⟩;refine lcSome (R:=R) rfl r0 hl lR (by lia) (fun D x ys H' post hD hx r' b' hDD hp=>?_) (fun D H1 ys hD r1 b1 e1 hyl=>?_)
  ·exact⟨_,rfl,R,2,rfl,r',by decide,by decide,fun z H'' z0 z1 r'' b''=>⟨rfl,_,rfl,hp _ H'' r'' b''⟩⟩
  refine⟨D,_,rfl,SqL.of e1,fun p H2 n2 s2 e2=>?_⟩;have r2:=r1.same s2;have b02:=b1.trans (bj.of s2);have Hp':H p=none:=by
   cases e:H p with
   | none=>rfl
   | some u=>rw[b1 _ _ (r1.ne n2) e]at n2;cases n2
  refine hK_ _ _ (ae fun K_ hK_=>?_);refine⟨_,rfl,p,_,rfl,.inr (SqT.of e2),_,rfl,_,_,rfl,rfl,_,rfl,?_⟩;rw[length_map];refine dl (fun z=>?_) (fun z=>?_)
  ·have z:=of_decide_eq_true z;rcases hm with ⟨rfl,hne⟩ | rfl
   ·have zp:1 <= zs.length:=List.length_pos_iff.mpr hne;refine⟨_,rfl,_,rfl,_,rfl,l,_,rfl,.inl (SqL.of (b02 _ _ lR hl)),?_⟩;rw[length_map];refine⟨R,(zs.length:Int),rfl,r2,by lia,by lia,fun x H3 x0 x1 r3 b3=>⟨_,_,rfl,rfl,?_⟩⟩
    have b03:=b02.trans b3;refine⟨_,rfl,l,_,rfl,SqL.of (b03 _ _ lR hl),fun p4 n4=>?_⟩;rw[cutL zs (by lia)]
    have s4:=ar.new (o:=.lst ((zs.take (1 + x).toNat).map V.str)) n4;refine⟨p4,_,rfl,SqL.of af,fun p5 H5 n5 s5 e5=>?_⟩;have r4:=r3.same s4;have b45:=s4.trans s5;have Hp5:H p5=none:=by
     cases e:H p5 with
     | none=>rfl
     | some u=>rw[s4 _ _ (b03 _ _ (r4.ne n5) e)]at n5;cases n5
    have tl:(zs.take (1 + x).toNat).length=min (1 + x).toNat zs.length:=length_take;exact q p5 _ H5 Hp5 e5 (by rw[tl];lia) (by rw[tl];lia) (r3.same b45) (b03.trans (bj.of b45))
   ·lia
  ·have z:¬((ys.length:Int) < m):=fun y=>z (decide_eq_true y);refine hK_ _ _ ?_;exact⟨_,rfl,q p ys H2 Hp' e2 (by lia) (by lia) r2 b02⟩
noncomputable abbrev nBL:List Str:=["_law_rest_here","_law_names_here","_law_voters","_law_coming","_law_learners"]
theorem scBL:ao nBL ["_law_rest_here","_law_names_here"] (ah iW):=fsc (by decide +kernel)
theorem ndBL:(nBL ++ (["_law_name"]:List Str)).Nodup:=by decide +kernel
theorem jW{R l:Addr}{H H':Hp}(b:bj R H H')(hl:H' l=none)(hR:l ≠ R):H l=none:=by
 cases eq:H l with
 | none=>rfl
 | some o=>rw[b l o hR eq]at hl;cases hl
theorem tK {f:Addr} {fd:FuncData} (F:Fun K "_law_bench" "_law_bench" iW f fd) (Ft:aJ P w K mg base 1 "_law_take" gR eM) (Fs:aJ P w K mg base 2 "_law_some" wS qr):aI P w K mg base CX0 3 f fd ["_law_rest_here","_law_names_here"] fI:=by
 refine F.ok scBL (fun us H Q E h=>?_) (fun cdv A outer s H us Q E hr h=>?_)
 ·obtain⟨R,nl,zs,rfl,_⟩:=h;rfl
 ·obtain⟨R,nl,zs,rfl,r0,hnl,hnR,z1,z12,q⟩:=h;have nd:=scBL.nd;have hs16:sizeLine=16777216:=sizeLine_eq;have r1':aP 1 _:=hr.mono (by decide)
  have zne:zs ≠ []:=List.length_pos_iff.mp z1;refine⟨_,ac (aB (i:=2) nd rfl (Or.inr rfl) (bU cN (aj Fs hr (ab (pv 0) (ab (pv 1) (ab ag ad)))) cC (bW ag))) <|
   ac (aB (i:=3) nd rfl (Or.inr rfl) (aH ad)) <|
   ac (li (bc (aG cw (aj Ft r1' (ab (pv 0) (ab ag ad))) ag (aN _))
    (ai (aB (i:=3) nd rfl (Or.inr rfl) (bU cN (aj Fs hr (ab (pv 0) (ab (pv 1) (ab ag ad)))) cC (bW ag)))) aF)) <|
   ac (aB (i:=4) nd rfl (Or.inl rfl) (aj Fs hr (ab (pv 0) (ab (eQ nBL nBL ["_law_name"] (ah iW) rfl rfl rfl (by decide +kernel) rfl rfl (by decide +kernel) (by decide +kernel) (by decide +kernel) (by decide +kernel)
    (ej (pv 1)) (fun _ _ _ _ _=>aO (i:=5) ndBL rfl (Or.inl rfl)) (fun _ _ _ _ _=>eF (aG j2 (pv 5) (pe_orSC (pv 3) (pv 2)) (by rfl))) (fun _ _ _ _ _=>pv 5)) (ab ag ad))))) <|
   ai <| av <| aH (ab (pv 2) (ab (pv 3) (ab (bU cN (pv 4) cC (bW ag)) ad))),?_⟩
  dsimp only[aW,Cx.nox];refine ae fun K_ hK_=>?_;refine⟨_,rfl,_,rfl,R,nl,1,zs,rfl,r0,hnl,hnR,z12,.inl ⟨rfl,zne⟩,fun p0 ys0 H1 np0 ep0 l01 l12 r1 b1=>?_⟩;refine⟨_,rfl,p0,_,rfl,ep0,fun v H2 s2 ev=>?_⟩;rw[show c6 (ys0.map V.str) none (some 7)=_ from cut7 ys0 7]at ev;have hv1:1 <= (ys0.take 7).length:=by rw[length_take];lia
  have hv7:(ys0.take 7).length <= 7:=by rw[length_take];lia
  generalize ys0.take 7=vs at ev hv1 hv7;have r2:=r1.same s2;have b02:=b1.trans (bj.of s2);refine hK_ _ _ (ae fun K_ hK_=>?_);refine⟨Nat.zero_le _,fun c0 H3 nc0 s3 ec0=>?_⟩;have r3:=r2.same s3;have b03:=b02.trans (bj.of s3);refine hK_ _ _ (ae fun K_ hK_=>?_);refine⟨fun σ Hx=>∃(c:Addr)(cs:List Str),σ=[some (.ref R),some (.ref nl),some (.ref v),some (.ref c),none]/\Hx c=some (.tup (cs.map V.str))/\cs.length <= 7/\Hx v=some (.tup (vs.map V.str))/\Rst Hx R/\bj R H Hx,?_,?_⟩
  ·refine⟨_,rfl,R,3,rfl,r3,by decide,by decide,fun x H4 x0 x1 r4 b4=>⟨rfl,_,rfl,?_⟩⟩
   have b04:=b03.trans b4;have ev4:=b4.tk r3 _ _ (s3 _ _ ev);refine dl (fun _=>?_) (fun _=>?_)
   ·refine⟨_,rfl,_,rfl,R,nl,1,zs,rfl,r4,b04 _ _ hnR hnl,hnR,z12,.inl ⟨rfl,zne⟩,fun p5 ys5 H5 np5 ep5 l51 l52 r5 b5=>?_⟩;refine⟨_,rfl,p5,_,rfl,ep5,fun c H6 s6 ec=>?_⟩;rw[show c6 (ys5.map V.str) none (some 7)=_ from cut7 ys5 7]at ec;exact⟨c,ys5.take 7,rfl,ec,by rw[length_take];lia,s6 _ _ (b5.tk r4 _ _ ev4),r5.same s6,(b04.trans b5).trans (bj.of s6)⟩
   ·exact⟨c0,[],rfl,b4.tk r3 _ _ ec0,Nat.zero_le _,ev4,r4,b04⟩
  ·rintro σ H4 ⟨c,cs,rfl,ec,hc7,ev4,r4,b04⟩;have hnl4:=b04 _ _ hnR hnl;refine hK_ _ _ (ae fun K_ hK_=>?_);refine⟨_,rfl,_,rfl,nl,rfl,⟨_,SqL.of hnl4⟩,?_⟩;refine lcFL (fun u=>!inV u ((if cs=[] then vs else cs).map V.str)) rfl (SqL.of hnl4) (by rw[length_map];lia) (fun D x ys post hD hx hp=>?_) (fun D hD=>?_)
   ·obtain⟨z,hz,rfl⟩:=List.mem_map.mp hx;have s5:=ar.new (o:=.lst ys) hD;refine⟨_,rfl,_,rfl,_,.inr (.inl ⟨_,SqT.of (s5 _ _ ec),rfl⟩),?_⟩;by_cases hcs:cs=[]
    ·rw[if_pos hcs]at hp;have he:(!(cs.map V.str).isEmpty)=false:=by rw[hcs];rfl
     rw[he];exact bI ⟨_,rfl,v,_,rfl,.inr (SqT.of (s5 _ _ ev4)),rfl,cv vs,_,rfl,hp⟩
    ·rw[if_neg hcs]at hp;have he:(!(cs.map V.str).isEmpty)=true:=by
      rw[Bool.not_eq_true',List.isEmpty_eq_false_iff];exact fun z=>hcs (List.map_eq_nil_iff.mp z)
     rw[he];exact cm ⟨c,_,rfl,.inr (SqT.of (s5 _ _ ec)),rfl,cv cs,_,rfl,hp⟩
   rw[iw];have hol:(zs.filter (fun x=>!decide (x ∈ (if cs=[] then vs else cs)))).length <= zs.length:=List.length_filter_le _ _
   generalize zs.filter (fun x=>!decide (x ∈ (if cs=[] then vs else cs)))=os at hol ⊢
   have s5:=ar.new (o:=.lst (os.map V.str)) hD;have e5:upd H4 D (.lst (os.map V.str)) D=some (.lst (os.map V.str)):=af;generalize upd H4 D (.lst (os.map V.str))=H5 at s5 e5 ⊢;have DR:D ≠ R:=r4.ne hD;refine⟨R,D,0,os,rfl,r4.same s5,e5,DR,by lia,.inr rfl,fun l ls H6 nl6 el l0 l12' r6 b6=>?_⟩
   have b06:=(b04.trans (bj.of s5)).trans b6;refine hK_ _ _ ?_;refine⟨_,rfl,_,rfl,_,rfl,_,rfl,l,_,rfl,el,fun l2 H7 s7 el2=>⟨(show 3 <= sizeLine by lia),fun b H8 nb s8 eb=>?_⟩⟩
   rw[show c6 (ls.map V.str) none (some 4)=_ from cut7 ls 4]at el2;have hl4:(ls.take 4).length <= 4:=by rw[length_take];lia
   have s78:=s7.trans s8;have tk6:=b6.tk (r4.same s5);refine q b ⟨vs,cs,ls.take 4⟩ H8 (jW (b06.trans (bj.of s7)) nb ((r6.same s7).ne nb)) ⟨⟨v,c,l2,eb,s78 _ _ (tk6 _ _ (s5 _ _ ev4)),s78 _ _ (tk6 _ _ (s5 _ _ ec)),s8 _ _ el2⟩,show vs.length <= 9 by lia,show cs.length <= 9 by lia,show (ls.take 4).length <= 9 by lia⟩ hv1 (r6.same s78) (b06.trans (bj.of s78))
end
open K45T (Kvs Las Wk aS dr cF de fW bM cK jp)
abbrev qt:Stmt:=top 80
abbrev qv:Stmt:=top 81
theorem bj.tkz{R:Addr}{H H':Hp}(b:bj R H H')(r:Rst H R):TkZ H H':=⟨b.tk r,fun a o y e=>b.frz r e⟩
def GdD:Dd->Prop
 | .bn B=>1 <= B.vs.length
 | _=>True
def mE:Sp:=fun us H Q _=>∃(R nl:Addr)(zs:List Str),us=[.ref R,.ref nl]/\Rst H R/\H nl=some (.lst (zs.map V.str))/\nl ≠ R/\1 <= zs.length/\zs.length <= 12/\∀(d:Addr)(dd:Dd)(H':Hp),DdO H' d dd->GdD dd->Rst H' R->bj R H H'->Q (.ref d) H'
theorem at3{α:Type}{a b c d:α}{r:List α}:atI (a :: b :: c :: d :: r) 3=some d:=cX (j:=3) rfl
section
variable{P:Program}{w:World}{K:Frag}{mg:Str->Option Value}{base:Heap}
noncomputable abbrev nDL:List Str:=["_law_rest_here","_law_names_here","_law_kind","_law_work"]
theorem scDL:ao nDL ["_law_rest_here","_law_names_here"] (ah qt):=fsc (by decide +kernel)
theorem wU {f:Addr} {fd:FuncData} (F:Fun K "_law_deed" "_law_deed" qt f fd) (Ft:aJ P w K mg base 1 "_law_take" gR eM) (Fb:aJ P w K mg base 3 "_law_bench" ["_law_rest_here","_law_names_here"] fI):aI P w K mg base CX0 4 f fd ["_law_rest_here","_law_names_here"] mE:=by
 refine F.ok scDL (fun us H Q E h=>?_) (fun cdv A outer s H us Q E hr h=>?_)
 ·obtain⟨R,nl,zs,rfl,_⟩:=h;rfl
 ·obtain⟨R,nl,zs,rfl,r0,hnl,hnR,z1,z12,q⟩:=h;have nd:=scDL.nd;have hs16:sizeLine=16777216:=sizeLine_eq;have r1':aP 1 _:=hr.mono (by decide)
  refine⟨_,ac (aB (i:=2) nd rfl (Or.inl rfl) (aj Ft r1' (ab (pv 0) (ab ag ad)))) <|
   ac (bc (aG cw (pv 2) ag (aN _)) (ai (av (aH (ab aq (ab (aj Fb hr (ab (pv 0) (ab (pv 1) ad))) ad))))) aF) <|
   ac (bc (aG cw (pv 2) ag (aN _)) (ai (av (aH (ab aq ad)))) aF) <|
   ac (qU (i:=3) nd rfl (Or.inl rfl) (nP (cq (aH (ab aq (ab aq (ab ag ad)))) <| cq (aH (ab aq (ab aq (ab (tU oO ag) ad)))) <| cq (aH (ab aq (ab aq ad))) qT) (aj Ft r1' (ab (pv 0) (ab ag ad))) (fun _ _=>rfl))) <|
   ai (av (aH (ab aq (ab (aE cY (bg (ab aq (ab aq ad))) (aj Ft r1' (ab (pv 0) (ab ag ad))) (fun _ _=>rfl)) (ab (aL bu ag (aj Ft r1' (ab (pv 0) (ab ag ad)))) (ab (pv 3) ad)))))),?_⟩
  dsimp only[aW,Cx.nox];refine ae fun K_ hK_=>?_;refine⟨_,rfl,R,4,rfl,r0,by decide,by decide,fun kd H1 k0 k1 r1 b1=>?_⟩
  refine hK_ _ _ (ae fun K_ hK_=>?_);refine⟨_,rfl,rfl,_,rfl,?_⟩;refine dl (fun _=>?_) (fun _=>?_)
  ·refine⟨_,rfl,_,rfl,R,nl,zs,rfl,r1,b1 _ _ hnR hnl,hnR,z1,z12,fun b B H2 nb hB v1 r2 b2=>⟨(show 2 <= sizeLine by lia),fun d H3 nd3 s3 e3=>?_⟩⟩
   exact q d (.bn B) H3 ⟨b,e3,hB.tk (Tk.of s3)⟩ v1 (r2.same s3) ((b1.trans b2).trans (bj.of s3))
  refine hK_ _ _ (ae fun K_ hK_=>?_);refine⟨_,rfl,rfl,_,rfl,?_⟩;refine dl (fun _=>?_) (fun _=>?_)
  ·refine⟨(show 1 <= sizeLine by lia),fun d H3 nd3 s3 e3=>?_⟩
   exact q d .fst H3 e3 trivial (r1.same s3) (b1.trans (bj.of s3))
  refine hK_ _ _ (ae fun K_ hK_=>?_);refine⟨(show 3 <= sizeLine by lia),fun p1 H2 n2 s2 e2=>?_⟩
  refine⟨_,rfl,(show 3 <= sizeLine by lia),fun p2 H3 n3 s3 e3=>?_⟩
  refine⟨(show 2 <= sizeLine by lia),fun p3 H4 n4 s4 e4=>⟨(show 3 <= sizeLine by lia),fun l5 H5 n5 s5 e5=>?_⟩⟩
  have s15:=((s2.trans s3).trans s4).trans s5;have r5:=r1.same s15;refine⟨_,rfl,R,3,rfl,r5,by decide,by decide,fun x H6 x0 x1 r6 b6=>?_⟩
  have l5R:l5 ≠ R:=(r1.same ((s2.trans s3).trans s4)).ne n5;have hw:∃(t:Addr)(wk:Wk),atI [V.ref p1,.ref p2,.ref p3] x=some (.ref t)/\H6 t=some (.tup wk.vs):=by
   have hx:x=0\/x=1\/x=2:=by lia
   rcases hx with rfl | rfl | rfl
   ·exact⟨p1,.put "k" 3,at0,b6.tk r5 _ _ (s5 _ _ (s4 _ _ (s3 _ _ e2)))⟩
   ·exact⟨p2,.add "k" (-2),at1,b6.tk r5 _ _ (s5 _ _ (s4 _ _ e3))⟩
   ·exact⟨p3,.drop "k",at2,b6.tk r5 _ _ (s5 _ _ e4)⟩
  obtain⟨t,wk,hat,ht⟩:=hw;refine⟨l5,_,x,_,rfl,rfl,SqL.of (b6 _ _ l5R e5),hat,?_⟩;refine hK_ _ _ ?_;have b06:=(b1.trans (bj.of s15)).trans b6;refine⟨(show 2 <= sizeLine by lia),fun l7 H7 n7 s7 e7=>?_⟩
  have r7:=r6.same s7;refine⟨_,rfl,R,2,rfl,r7,by decide,by decide,fun y H8 y0 y1 r8 b8=>?_⟩
  have ha:∃z:Str,atI [V.str "ab",.str "c"] y=some (.str z):=by
   have hy:y=0\/y=1:=by lia
   rcases hy with rfl | rfl
   ·exact⟨_,at0⟩
   ·exact⟨_,at1⟩
  obtain⟨z,hz⟩:=ha;refine⟨l7,_,y,_,rfl,rfl,SqL.of (b8 _ _ (r6.ne n7) e7),hz,?_⟩;refine⟨_,rfl,R,3,rfl,r8,by decide,by decide,fun u H9 u0 u1 r9 b9=>⟨_,_,rfl,rfl,_,rfl,(show 4 <= sizeLine by lia),fun d H10 n10 s10 e10=>?_⟩⟩
  refine q d (.ask z (1 + u) wk) H10 ⟨by lia,t,e10,s10 _ _ (b9.tk r8 _ _ (b8.tk r7 _ _ (s7 _ _ ht)))⟩ trivial (r9.same s10) ((b06.trans (bj.of s7)).trans ((b8.trans b9).trans (bj.of s10)))
end
noncomputable def kv5 (t:Int) (v:V) (s:Int) (st en:Addr):List (Key × V):=[(Sum.inr "term",.int t),(Sum.inr "voted",v),(Sum.inr "settled",.int s),(Sum.inr "stand",.ref st),(Sum.inr "entries",.ref en)]
theorem tL(t:Int)(v:V)(s:Int)(st en:Addr):g8 [] (kv5 t v s st en)=kv5 t v s st en:=by unfold kv5;kernel_rfl
theorem stok1:dr (bM [((Sum.inr "k":Key),V.int 5)]) (cK [(("ab":Str),(2:Int),V.int 5)]):=by
 have e1:bM [((Sum.inr "k":Key),V.int 5)]=[((Sum.inr "k":Key),V.int 5)]:=rfl;have e2:cK [(("ab":Str),(2:Int),V.int 5)]=[((Sum.inr "ab":Key),((2:Int),V.int 5))]:=rfl;rw[e1,e2];refine⟨⟨fun p hp=>?_,List.nodup_cons.mpr ⟨by simp,List.nodup_nil⟩⟩,⟨fun p hp=>?_,List.nodup_cons.mpr ⟨by simp,List.nodup_nil⟩⟩,fun k v e=>?_,fun k q e=>?_⟩
 ·rw[List.mem_singleton.mp hp];exact⟨_,rfl⟩
 ·rw[List.mem_singleton.mp hp];exact⟨_,rfl⟩
 ·have:=jK e;have:=List.mem_singleton.mp this;cases this;exact⟨5,rfl⟩
 ·unfold K45T.dW at e;rw[List.find?_cons]at e;cases hd:decide (((Sum.inr "ab":Key),((2:Int),V.int 5)).1=k) with
  | true=>rw[hd]at e;cases e;exact .inr ⟨5,rfl⟩
  | false=>rw[hd]at e;cases e
structure StG(K:Frag)(H:Hp)(t:Int)(v:V)(s:Int)(st en:Addr)(pl tm:Int)(b:Addr)(hk:List (Key × V))(hq:List (Str × Int × V))(es:List Addr)(xs:List En)(B0:Bn):Prop where
 se:StE K H s st en pl tm b hk hq es xs
 bo:BnO H b B0
 b1:1 <= B0.vs.length
 gd:∀e ∈ xs,GdD e.2
 p0:0 <= pl
 p1:pl <= 60
 ps:s <= pl + xs.length
 xl:xs.length <= 8
 vv:v=.non\/∃n,v=.str n
theorem StE.tkz{K:Frag}{H H':Hp}{s:Int}{st en:Addr}{pl tm:Int}{b:Addr}{hk:List (Key × V)}{hq:List (Str × Int × V)}{es:List Addr}{xs:List En}(e:TkZ H H')(h:StE K H s st en pl tm b hk hq es xs):StE K H' s st en pl tm b hk hq es xs:=⟨h.so.tkz e,e.t _ _ h.ho,cg e.t h.eo,h.el,h.ps,h.ok,h.kl,h.ll⟩
theorem StG.tkz{K:Frag}{H H':Hp}{t:Int}{v:V}{s:Int}{st en:Addr}{pl tm:Int}{b:Addr}{hk:List (Key × V)}{hq:List (Str × Int × V)}{es:List Addr}{xs:List En}{B0:Bn}(e:TkZ H H')(h:StG K H t v s st en pl tm b hk hq es xs B0):StG K H' t v s st en pl tm b hk hq es xs B0:=⟨h.se.tkz e,h.bo.tk e.t,h.b1,h.gd,h.p0,h.p1,h.ps,h.xl,h.vv⟩
def mF(K:Frag):Sp:=fun us H Q _=>∃(R nl:Addr)(zs:List Str),us=[.ref R,.ref nl]/\Rst H R/\H nl=some (.lst (zs.map V.str))/\nl ≠ R/\1 <= zs.length/\zs.length <= 12/\∀(nw:Addr)(t:Int)(v:V)(s:Int)(st en:Addr)(pl tm:Int)(b:Addr) (hk:List (Key × V)) (hq:List (Str × Int × V)) (es:List Addr) (xs:List En) (B0:Bn) (H':Hp),H nw=none->nw ≠ R->H' nw=some (.dK (kv5 t v s st en))->StG K H' t v s st en pl tm b hk hq es xs B0->Rst H' R->bj R H H'->Q (.ref nw) H'
theorem pick4{x z:Int}(h0:0 <= x)(h1:x < 4):∃y:Int,atI [V.int 0,.int 0,.int 1,.int z] x=some (.int y):=by
 have hx:x=0\/x=1\/x=2\/x=3:=by lia
 rcases hx with rfl | rfl | rfl | rfl
 ·exact⟨_,at0⟩
 ·exact⟨_,at1⟩
 ·exact⟨_,at2⟩
 ·exact⟨_,at3⟩
theorem pick4'{x z:Int}(h0:0 <= x)(h1:x < 4):∃y:Int,atI [V.int 0,.int 1,.int 2,.int z] x=some (.int y):=by
 have hx:x=0\/x=1\/x=2\/x=3:=by lia
 rcases hx with rfl | rfl | rfl | rfl
 ·exact⟨_,at0⟩
 ·exact⟨_,at1⟩
 ·exact⟨_,at2⟩
 ·exact⟨_,at3⟩
section
variable{P:Program}{w:World}{K:Frag}{mg:Str->Option Value}{base:Heap}
noncomputable abbrev nST:List Str:=["_law_rest_here","_law_names_here","_law_stand","_law_term","_law_entries","_law_k","_law_settled","_law_voted"]
theorem scST:ao nST ["_law_rest_here","_law_names_here"] (ah qv):=fsc (by decide +kernel)
theorem wV {f:Addr} {fd:FuncData} (F:Fun K "_law_state" "_law_state" qv f fd) (T:Blw mg) (Ft:aJ P w K mg base 1 "_law_take" gR eM) (Fb:aJ P w K mg base 3 "_law_bench" ["_law_rest_here","_law_names_here"] fI) (Fd:aJ P w K mg base 4 "_law_deed" ["_law_rest_here","_law_names_here"] mE):aI P w K mg base CX0 5 f fd ["_law_rest_here","_law_names_here"] (mF K):=by
 refine F.ok scST (fun us H Q E h=>?_) (fun cdv A outer s H us Q E hr h=>?_)
 ·obtain⟨R,nl,zs,rfl,_⟩:=h;rfl
 ·obtain⟨R,nl,zs,rfl,r0,hnl,hnR,z1,z12,q⟩:=h;have nd:=scST.nd;have hs16:sizeLine=16777216:=sizeLine_eq;have r1':aP 1 _:=hr.mono (by decide)
  have r3':aP 3 _:=hr.mono (by decide)
  refine⟨_,ac (aB (i:=2) nd rfl (Or.inl rfl) (aH (ab ag (ab ag (ab (aj Fb r3' (ab (pv 0) (ab (pv 1) ad))) (ab iL (ab iL ad))))))) <|
   ac (li (bc (aG cw (aj Ft r1' (ab (pv 0) (ab ag ad))) ag (aN _))
    (ai (aB (i:=2) nd rfl (Or.inl rfl) (aH (ab (aL bu ag (aj Ft r1' (ab (pv 0) (ab ag ad)))) (ab (aL bu ag (aj Ft r1' (ab (pv 0) (ab ag ad)))) (ab (aE az (pv 2) ag (fun _ _=>rfl)) (ab (pe_tupZ (ab (aH (ab aq (ab ag ad))) ad)) (ab (aH (ab (aH (ab aq (ab ag (ab ag ad)))) ad)) ad)))))))) aF)) <|
   ac (aB (i:=3) nd rfl (Or.inl rfl) (aE az (pv 2) ag (fun _ _=>rfl))) <|
   ac (aB (i:=4) nd rfl (Or.inl rfl) (bg ad)) <|
   ac (cD PassesOwn.never rfl (cV (by rfl) T.range (ab (aL bu (aj Ft r1' (ab (pv 0) (ab ag ad))) (aL c7 ag (be gY (by rfl) T.int uL (ab (cB cw (aj Ft r1' (ab (pv 0) (ab ag ad))) ag (aN _)) ad)))) ad)) (aO (i:=5) nd rfl (Or.inl rfl)) <|
    ac (aB (i:=3) nd rfl (Or.inl rfl) (bq (rL rfl) (by rfl) T.max bMax (ab ag (ab (aL bu (pv 3) (aE cY (bg (ab ag (ab ag (ab ag (ab (aj Ft r1' (ab (pv 0) (ab ag ad))) ad))))) (aj Ft r1' (ab (pv 0) (ab ag ad))) (fun _ _=>rfl))) ad)))) <|
    ai (aZ (fZ PySem.F.plainAttrs_list PySem.F.slot_list_append PySem.F.type_list_append dN (pv 4) (ab (aH (ab (pv 3) (ab (aj Fd hr (ab (pv 0) (ab (pv 1) ad))) ad))) ad)))) <|
   ac (aB (i:=6) nd rfl (Or.inl rfl) (aL bu (aE az (pv 2) ag (fun _ _=>rfl)) (aj Ft r1' (ab (pv 0) (ab (aL bu (bq a9 (by rfl) T.len PySem.boot_len (ab (pv 4) ad)) ag) ad))))) <|
   ac (aB (i:=3) nd rfl (Or.inl rfl) (aL bu (pv 3) (aE cY (bg (ab ag (ab ag (ab ag (ab (aj Ft r1' (ab (pv 0) (ab (aL op_pow ag ag) ad))) ad))))) (aj Ft r1' (ab (pv 0) (ab ag ad))) (fun _ _=>rfl)))) <|
   ac (aB (i:=7) nd rfl (Or.inl rfl) cj) <|
   ac (li (bc (PW.pt (kU (aG mY (pv 3) ag (aN _)) (iJ (aG cw (aj Ft r1' (ab (pv 0) (ab ag ad))) ag (aN _)))))
    (ai (aB (i:=7) nd rfl (Or.inl rfl) (aE cY (pv 1) (aj Ft r1' (ab (pv 0) (ab (bq a9 (by rfl) T.len PySem.boot_len (ab (pv 1) ad)) ad))) (fun _ _=>rfl)))) aF)) <|
   ai (av (pe_disp (fe aq (pv 3) (fe aq (pv 7) (fe aq (pv 6) (fe aq (pv 2) (fe aq (be bh (by rfl) T.tuple ce (ab (pv 4) ad)) pps_nil))))) rfl rfl (by decide) (by decide))),?_⟩
  dsimp only[aW,Cx.nox];refine ae fun K_ hK_=>?_;refine⟨_,rfl,_,rfl,R,nl,zs,rfl,r0,hnl,hnR,z1,z12,fun b B0 H1 nb hB hb1 r1 bb1=>?_⟩;intro e1 n1;have s1:=ar.new (o:=.frz { cls:=.type "tuple",data:=.seq #[] } (.tup [])) n1;intro e2 n2;have s2:=ar.new (o:=.frz { cls:=.type "tuple",data:=.seq #[] } (.tup [])) n2;refine⟨(show 5 <= sizeLine by lia),fun st0 H2 n3 s3 e3=>?_⟩
  have s13:=(s1.trans s2).trans s3;have r2:=r1.same s13;have b02:=bb1.trans (bj.of s13);have hB2:=hB.tk (Tk.of s13);have so0:cP K H2 st0 0 0 b [] []:=⟨e1,e2,_,[],[],e3,s3 _ _ (s2 _ _ af),rfl,rfl,fun j kv h=>(nomatch h),.inl (.inr ⟨_,s3 _ _ af⟩),rfl,Nat.zero_le _,fun j kv h=>(nomatch h)⟩;refine hK_ _ _ (ae fun K_ hK_=>?_);refine⟨fun σ Hx=>∃(st:Addr)(pl tm:Int) (hk:List (Key × V)) (hq:List (Str × Int × V)),σ=[some (.ref R),some (.ref nl),some (.ref st),none,none,none,none,none]/\cP K Hx st pl tm b hk hq/\dr (bM hk) (cK hq)/\(bM hk).length <= 300/\(cK hq).length <= 300/\0 <= pl/\pl <= 60/\BnO Hx b B0/\Rst Hx R/\bj R H Hx,?_,?_⟩
  ·refine⟨_,rfl,R,3,rfl,r2,by decide,by decide,fun x H3 x0 x1 r3 b3=>⟨rfl,_,rfl,?_⟩⟩
   have b03:=b02.trans b3;have tk3:=b3.tkz r2;refine dl (fun _=>?_) (fun _=>?_)
   ·refine⟨_,rfl,R,50,rfl,r3,by decide,by decide,fun p H4 p0 p1 r4 b4=>⟨_,_,rfl,rfl,?_⟩⟩
    refine⟨_,rfl,R,4,rfl,r4,by decide,by decide,fun t H5 t0 t1 r5 b5=>⟨_,_,rfl,rfl,?_⟩⟩
    have tk5:=tk3.trans ((b4.tkz r3).trans (b5.tkz r4));refine⟨_,rfl,ex4 st0 _ _ _ ⟨rfl,rfl,SqT.of (tk5.t _ _ e3),at2,(show 2 <= sizeLine by lia),fun q1 H6 nq1 sq1 eq1=>⟨(show 1 <= sizeLine by lia),fun hh o H7 nhh shh od ehh=>?_⟩⟩⟩
    refine⟨(show 3 <= sizeLine by lia),fun q2 H8 nq2 sq2 eq2=>⟨(show 1 <= sizeLine by lia),fun aa H9 naa saa eaa=>⟨(show 5 <= sizeLine by lia),fun st H10 nst sst est=>?_⟩⟩⟩
    have s8:=(sq2.trans saa).trans sst;have s510:=(sq1.trans shh).trans s8;refine⟨st,1 + p,1 + t,[(Sum.inr "k",.int 5)],[("ab",2,.int 5)],rfl,⟨hh,aa,o,[.ref q1],[.ref q2],est,s8 _ _ ehh,od,rfl,fun j kv h=>?_,SqT.of (sst _ _ eaa),rfl,by decide,fun j kv h=>?_⟩,stok1,by decide,by decide,by lia,by lia,(hB2.tk tk5.t).tk (Tk.of s510),r5.same s510,(b03.trans (b4.trans b5)).trans (bj.of s510)⟩
    ·cases j with
     | zero=>cases h;exact⟨q1,rfl,SqT.of (s8 _ _ (shh _ _ eq1))⟩
     | succ j=>cases h
    ·cases j with
     | zero=>cases h;exact⟨q2,rfl,SqT.of (sst _ _ (saa _ _ eq2))⟩
     | succ j=>cases h
   ·exact⟨st0,0,0,[],[],rfl,so0.tkz tk3,dr.empty,Nat.zero_le _,Nat.zero_le _,by decide,by decide,hB2.tk tk3.t,r3,b03⟩
  ·rintro σ H4 ⟨st,pl,tm,hk,hq,rfl,so,sok,hkl,hql,p0,p60,hB4,r4,b04⟩;obtain⟨hh,aa,o,ps,as,est,_⟩:=id so;refine hK_ _ _ (ae fun K_ hK_=>?_);refine⟨_,rfl,ex4 st _ _ _ ⟨rfl,rfl,SqT.of est,at1,?_⟩⟩;refine hK_ _ _ (ae fun K_ hK_=>?_);refine⟨Nat.zero_le _,fun el H5 nel s5 eel=>?_⟩;have r5:=r4.same s5;have b05:=b04.trans (bj.of s5);have elR:el ≠ R:=r4.ne nel;have Hel:H el=none:=jW b04 nel elR;refine hK_ _ _ (ae fun K_ hK_=>?_);refine⟨_,rfl,R,5,rfl,r5,by decide,by decide,fun x H6 x0 x1 r6 b6=>?_⟩
   refine⟨_,rfl,R,8,rfl,r6,by decide,by decide,fun y H7 y0 y1 r7 b7=>⟨rfl,.inr ⟨_,rfl,_,_,rfl,rfl,?_,_,_,rfl,rfl,?_⟩⟩⟩
   ·refine .inl ⟨by decide,by decide⟩
   generalize hgn:x + 4 * (if decide (V.int y=V.int 3)=true then (1:Int) else 0)=n
   have n0:0 <= n/\n <= 8:=by
    rw[<- hgn];split <;> lia
   have b07:=b05.trans (b6.trans b7);have tk7:=(b6.tkz r5).trans (b7.tkz r6);have hkl7:H7 el=some (.lst []):=b7 _ _ elR (b6 _ _ elR eel);refine⟨n,by dsimp only;rw[hgn],by lia,by lia,fN (lo:=0) (n:=n.toNat) (fun i σ Hx=>∃(tm':Int)(v5:Option V)(es:List Addr)(xs:List En),σ=[some (.ref R),some (.ref nl),some (.ref st),some (.int tm'),some (.ref el),v5,none,none]/\Hx el=some (.lst (es.map V.ref))/\Paired (EnO Hx) es xs/\xs.length=i/\(∀e ∈ xs,GdD e.2)/\cP K Hx st pl tm b hk hq/\BnO Hx b B0/\Rst Hx R/\bj R H Hx)
    ⟨tm,none,[],[],rfl,hkl7,.nil,rfl,fun e he=>(nomatch he),(so.tkz (TkZ.of s5)).tkz tk7,(hB4.tk (Tk.of s5)).tk tk7.t,r7,b07⟩ ?_ ?_⟩
   ·rintro i σ Hx hi ⟨tm',v5,es,xs,rfl,hel,hpa,hxl,hgd,hso,hbo,rx,bx⟩;have hel':es.length=xs.length:=Paired.length hpa;refine ae fun K_ hK_=>?_;refine⟨_,rfl,_,rfl,R,10,rfl,rx,by decide,by decide,fun z H8 z0 z1' r8 b8=>⟨(show 4 <= sizeLine by lia),fun l9 H9 n9 s9 e9=>?_⟩⟩
    have r9:=r8.same s9;refine⟨_,rfl,R,4,rfl,r9,by decide,by decide,fun x H10 x0' x1' r10 b10=>?_⟩
    obtain⟨yv,hyv⟩:=pick4 (z:=z) x0' x1';refine⟨l9,_,x,_,rfl,rfl,SqL.of (b10 _ _ (r8.ne n9) e9),hyv,_,_,rfl,rfl,_,_,rfl,?_⟩;dsimp only;generalize (if tm' + yv > 1 then tm' + yv else 1)=tm2
    refine hK_ _ _ ?_;have b810:=(b8.trans (bj.of s9)).trans b10;have tk810:TkZ Hx H10:=(b8.tkz rx).trans ((TkZ.of s9).trans (b10.tkz r9));have hel10:=b810 _ _ elR hel;refine⟨_,rfl,.inl ⟨rfl,_,SqL.of hel10⟩,_,rfl,_,rfl,_,rfl,R,nl,zs,rfl,r10,(bx.trans b810) _ _ hnR hnl,hnR,z1,z12,fun d dd H11 hdd gdd r11 b11=>⟨(show 2 <= sizeLine by lia),fun e H12 n12 s12 e12=>?_⟩⟩
    have b812:=(b810.trans b11).trans (bj.of s12);have tk812:TkZ Hx H12:=tk810.trans ((b11.tkz r10).trans (TkZ.of s12));have hel12:=b812 _ _ elR hel;refine⟨el,_,_,rfl,rfl,hel12,by rw[length_map];lia,fun H13 k13 e13=>?_⟩
    have bt13:BtO el H12 H13:=fun c u n e=>k13 c u n e;have tk13:=TkZ.lst bt13 hel12;have tkA:=tk812.trans tk13;refine⟨tm2,_,es ++ [e],xs ++ [(tm2,dd)],rfl,by rw[e13,List.map_append];rfl,Paired.catS (cg tkA.t hpa) (.cons ⟨d,tk13.t _ _ e12,(hdd.tk (Tk.of s12)).tk tk13.t⟩ .nil),by rw[length_append,hxl];rfl,fun e' he'=>?_,hso.tkz tkA,hbo.tk tkA.t,?_,fun c u hc ec=>bt13 _ _ (ak ec Hel) (b812 _ _ hc (bx _ _ hc ec))⟩
    ·rcases mem_append.mp he' with h | h
     ·exact hgd e' h
     ·rw[List.mem_singleton.mp h];exact gdd
    ·obtain⟨a,ha⟩:=r11.same s12;exact⟨a,bt13 _ _ elR.symm ha⟩
   ·rintro σ Hx ⟨tm',v5,es,xs,rfl,hel,hpa,hxl,hgd,hso,hbo,rx,bx⟩;have hel':es.length=xs.length:=Paired.length hpa;obtain⟨hh2,aa2,o2,ps2,as2,est2,_⟩:=id hso;refine hK_ _ _ (ae fun K_ hK_=>?_);refine⟨_,rfl,ex4 st _ _ _ ⟨rfl,rfl,SqT.of est2,at0,_,rfl,_,rfl,el,_,rfl,.inl (SqL.of hel),_,_,rfl,rfl,?_⟩⟩;dsimp only;rw[length_map];refine⟨R,(es.length:Int) + 1,rfl,rx,by lia,by lia,fun sx H8 sx0 sx1 r8 b8=>⟨_,_,rfl,rfl,?_⟩⟩
    refine hK_ _ _ (ae fun K_ hK_=>?_);have p50:(10:Int) ^ (50:Int).toNat <= 10 ^ 60:=by decide
    refine⟨_,rfl,_,rfl,_,_,rfl,rfl,⟨by decide,by decide,by decide⟩,R,_,rfl,r8,by decide,p50,fun z H9 z0 z1' r9 b9=>⟨(show 4 <= sizeLine by lia),fun l10 H10 n10 s10 e10=>?_⟩⟩
    have r10:=r9.same s10;refine⟨_,rfl,R,4,rfl,r10,by decide,by decide,fun x H11 x0' x1' r11 b11=>?_⟩
    obtain⟨yv,hyv⟩:=pick4' (z:=z) x0' x1';refine⟨l10,_,x,_,rfl,rfl,SqL.of (b11 _ _ (r9.ne n10) e10),hyv,_,_,rfl,rfl,?_⟩;have b811:=(b8.trans b9).trans ((bj.of s10).trans b11);have tk811:TkZ Hx H11:=(b8.tkz rx).trans ((b9.tkz r8).trans ((TkZ.of s10).trans (b11.tkz r10)));dsimp only;generalize tm' + yv=tm3;refine hK_ _ _ (ae fun K_ hK_=>?_);refine hK_ _ _ (ae fun K_ hK_=>?_);have hel11:=b811 _ _ elR hel;have hso11:=hso.tkz tk811;have hbo11:=hbo.tk tk811.t;have hpa11:=cg tk811.t hpa;have bx11:=bx.trans b811;refine⟨fun σ Hy=>∃(v:V),σ=[some (.ref R),some (.ref nl),some (.ref st),some (.int tm3),some (.ref el),v5,some (.int (pl + sx)),some v]/\(v=.non\/∃n,v=.str n)/\Hy el=some (.lst (es.map V.ref))/\TkZ H11 Hy/\Rst Hy R/\bj R H Hy,?_,?_⟩
    ·refine⟨_,rfl,_,_,rfl,rfl,_,rfl,?_⟩;refine dl (fun _=>?_) (fun _=>bI ⟨.non,rfl,.inl rfl,hel11,TkZ.refl _,r11,bx11⟩);refine⟨_,rfl,R,2,rfl,r11,by decide,by decide,fun u H12 u0 u1 r12 b12=>⟨rfl,_,rfl,?_⟩⟩
     have bx12:=bx11.trans b12;refine dl (fun _=>?_) (fun _=>⟨.non,rfl,.inl rfl,b12 _ _ elR hel11,b12.tkz r11,r12,bx12⟩);have hnl12:=bx12 _ _ hnR hnl;refine⟨_,rfl,_,rfl,_,rfl,nl,_,rfl,.inl (SqL.of hnl12),?_⟩;rw[length_map];refine⟨R,(zs.length:Int),rfl,r12,by lia,by lia,fun j H13 j0 j1 r13 b13=>?_⟩
     have hj:j.toNat < zs.length:=by lia
     refine⟨nl,_,j,_,rfl,rfl,SqL.of (b13 _ _ hnR hnl12),iO j0 (getElem?_eq_getElem hj),?_⟩
     exact⟨.str zs[j.toNat],rfl,.inr ⟨_,rfl⟩,b13 _ _ elR (b12 _ _ elR hel11),(b12.tkz r11).trans (b13.tkz r12),r13,bx12.trans b13⟩
    ·rintro σ Hy ⟨v,rfl,hv,hely,tky,ry,by'⟩
     refine hK_ _ _ ?_;intro nw nnw;have sn:=ar.new (o:=.dK []) nnw;have en0:upd Hy nw (.dK []) nw=some (.dK []):=af;generalize upd Hy nw (.dK [])=Hn at sn en0 ⊢;have rn:=ry.same sn;refine⟨_,rfl,_,rfl,_,rfl,_,rfl,_,rfl,el,_,rfl,SqL.of (sn _ _ hely),fun en Hm nen sm een=>?_⟩;refine⟨sm _ _ en0,kv5 tm3 v (pl + sx) st en,rfl,(show 5 <= 15 by decide),?_⟩
     rw[tL];have enm:=sm _ _ en0;have btn:BtO nw Hm (upd Hm nw (.dK (kv5 tm3 v (pl + sx) st en))):=BtO.upd;have nwR:nw ≠ R:=ry.ne nnw;have tkn:TkZ Hm (upd Hm nw (.dK (kv5 tm3 v (pl + sx) st en))):=TkZ.bt btn enm (fun _ z=>by cases z) (fun _ _ z=>by cases z)
     have tkAll:TkZ H11 (upd Hm nw (.dK (kv5 tm3 v (pl + sx) st en))):=tky.trans ((TkZ.of (sn.trans sm)).trans tkn);refine q nw tm3 v (pl + sx) st en pl tm b hk hq es xs B0 _ (jW by' nnw nwR) nwR af ⟨⟨hso11.tkz tkAll,tkn.t _ _ een,cg tkAll.t hpa11,by lia,by lia,sok,hkl,hql⟩,hbo11.tk tkAll.t,hb1,hgd,p0,p60,by lia,by lia,hv⟩ ?_ (fun c u hc ec=>?_)
     ·obtain⟨a,ha⟩:=rn.same sm;exact⟨a,btn _ _ nwR.symm ha⟩
     ·exact btn _ _ (ak (by' _ _ hc ec) nnw) (sm _ _ (sn _ _ (by' _ _ hc ec)))
end
abbrev qw:Stmt:=top 82
abbrev sSo:Stmt:=top 83
section
variable(t:Int)(v:V)(s:Int)(st en:Addr)(nm:Str)(wa:Int)(ro:Str)(kn:V)(qu:Int)(yl jl:Addr)
noncomputable def kv6:List (Key × V):=[(Sum.inr "term",.int t),(Sum.inr "voted",v),(Sum.inr "settled",.int s),(Sum.inr "stand",.ref st),(Sum.inr "entries",.ref en),(Sum.inr "name",.str nm)]
noncomputable def kv7:List (Key × V):=[(Sum.inr "term",.int t),(Sum.inr "voted",v),(Sum.inr "settled",.int s),(Sum.inr "stand",.ref st),(Sum.inr "entries",.ref en),(Sum.inr "name",.str nm),(Sum.inr "wait",.int wa)]
noncomputable def kv8:List (Key × V):=[(Sum.inr "term",.int t),(Sum.inr "voted",v),(Sum.inr "settled",.int s),(Sum.inr "stand",.ref st),(Sum.inr "entries",.ref en),(Sum.inr "name",.str nm),(Sum.inr "wait",.int wa),(Sum.inr "role",.str ro)]
noncomputable def kv9:List (Key × V):=[(Sum.inr "term",.int t),(Sum.inr "voted",v),(Sum.inr "settled",.int s),(Sum.inr "stand",.ref st),(Sum.inr "entries",.ref en),(Sum.inr "name",.str nm),(Sum.inr "wait",.int wa),(Sum.inr "role",.str ro),(Sum.inr "known",kn)]
noncomputable def oF:List (Key × V):=[(Sum.inr "term",.int t),(Sum.inr "voted",v),(Sum.inr "settled",.int s),(Sum.inr "stand",.ref st),(Sum.inr "entries",.ref en),(Sum.inr "name",.str nm),(Sum.inr "wait",.int wa),(Sum.inr "role",.str ro),(Sum.inr "known",kn),(Sum.inr "quiet",.int qu)]
noncomputable def oG:List (Key × V):=[(Sum.inr "term",.int t),(Sum.inr "voted",v),(Sum.inr "settled",.int s),(Sum.inr "stand",.ref st),(Sum.inr "entries",.ref en),(Sum.inr "name",.str nm),(Sum.inr "wait",.int wa),(Sum.inr "role",.str ro),(Sum.inr "known",kn),(Sum.inr "quiet",.int qu),(Sum.inr "yes",.ref yl)]
noncomputable def kvN:List (Key × V):=[(Sum.inr "term",.int t),(Sum.inr "voted",v),(Sum.inr "settled",.int s),(Sum.inr "stand",.ref st),(Sum.inr "entries",.ref en),(Sum.inr "name",.str nm),(Sum.inr "wait",.int wa),(Sum.inr "role",.str ro),(Sum.inr "known",kn),(Sum.inr "quiet",.int qu),(Sum.inr "yes",.ref yl),(Sum.inr "journal",.ref jl)]
theorem kv_p6:bz (kv5 t v s st en) (Sum.inr "name") (.str nm)=kv6 t v s st en nm:=by unfold kv5 kv6;kernel_rfl
theorem kv_p7:bz (kv6 t v s st en nm) (Sum.inr "wait") (.int wa)=kv7 t v s st en nm wa:=by unfold kv6 kv7;kernel_rfl
theorem kv_p8:bz (kv7 t v s st en nm wa) (Sum.inr "role") (.str ro)=kv8 t v s st en nm wa ro:=by unfold kv7 kv8;kernel_rfl
theorem kv_p9:bz (kv8 t v s st en nm wa ro) (Sum.inr "known") kn=kv9 t v s st en nm wa ro kn:=by unfold kv8 kv9;kernel_rfl
theorem kv_p10:bz (kv9 t v s st en nm wa ro kn) (Sum.inr "quiet") (.int qu)=oF t v s st en nm wa ro kn qu:=by unfold kv9 oF;kernel_rfl
theorem kv_p11:bz (oF t v s st en nm wa ro kn qu) (Sum.inr "yes") (.ref yl)=oG t v s st en nm wa ro kn qu yl:=by unfold oF oG;kernel_rfl
theorem kv_p12:bz (oG t v s st en nm wa ro kn qu yl) (Sum.inr "journal") (.ref jl)=kvN t v s st en nm wa ro kn qu yl jl:=by unfold oG kvN;kernel_rfl
end
section
variable{t:Int}{v:V}{s:Int}{st en:Addr}{nm:Str}{wa:Int}{ro:Str}{kn:V}{qu:Int}{yl jl:Addr}
theorem kQ:bp (kvN t v s st en nm wa ro kn qu yl jl) (Sum.inr "term")=some (.int t):=by unfold kvN;kernel_rfl
theorem kvN_v:bp (kvN t v s st en nm wa ro kn qu yl jl) (Sum.inr "voted")=some v:=by unfold kvN;kernel_rfl
theorem rg:bp (kvN t v s st en nm wa ro kn qu yl jl) (Sum.inr "settled")=some (.int s):=by unfold kvN;kernel_rfl
theorem fJ:bp (kvN t v s st en nm wa ro kn qu yl jl) (Sum.inr "stand")=some (.ref st):=by unfold kvN;kernel_rfl
theorem gz:bp (kvN t v s st en nm wa ro kn qu yl jl) (Sum.inr "entries")=some (.ref en):=by unfold kvN;kernel_rfl
theorem eN:bp (kvN t v s st en nm wa ro kn qu yl jl) (Sum.inr "name")=some (.str nm):=by unfold kvN;kernel_rfl
theorem mG:bp (kvN t v s st en nm wa ro kn qu yl jl) (Sum.inr "wait")=some (.int wa):=by unfold kvN;kernel_rfl
theorem mI:bp (kvN t v s st en nm wa ro kn qu yl jl) (Sum.inr "role")=some (.str ro):=by unfold kvN;kernel_rfl
theorem kvN_kn:bp (kvN t v s st en nm wa ro kn qu yl jl) (Sum.inr "known")=some kn:=by unfold kvN;kernel_rfl
theorem wW:bp (kvN t v s st en nm wa ro kn qu yl jl) (Sum.inr "quiet")=some (.int qu):=by unfold kvN;kernel_rfl
theorem wX:bp (kvN t v s st en nm wa ro kn qu yl jl) (Sum.inr "yes")=some (.ref yl):=by unfold kvN;kernel_rfl
theorem wY:bp (kvN t v s st en nm wa ro kn qu yl jl) (Sum.inr "journal")=some (.ref jl):=by unfold kvN;kernel_rfl
theorem kvN_pt {x:Int}:bz (kvN t v s st en nm wa ro kn qu yl jl) (Sum.inr "term") (.int x)=kvN x v s st en nm wa ro kn qu yl jl:=by unfold kvN;kernel_rfl
theorem kvN_pv {x:V}:bz (kvN t v s st en nm wa ro kn qu yl jl) (Sum.inr "voted") x=kvN t x s st en nm wa ro kn qu yl jl:=by unfold kvN;kernel_rfl
theorem qx {x:Str}:bz (kvN t v s st en nm wa ro kn qu yl jl) (Sum.inr "role") (.str x)=kvN t v s st en nm wa x kn qu yl jl:=by unfold kvN;kernel_rfl
theorem wZ {x:V}:bz (kvN t v s st en nm wa ro kn qu yl jl) (Sum.inr "known") x=kvN t v s st en nm wa ro x qu yl jl:=by unfold kvN;kernel_rfl
theorem qy {x:Int}:bz (kvN t v s st en nm wa ro kn qu yl jl) (Sum.inr "quiet") (.int x)=kvN t v s st en nm wa ro kn x yl jl:=by unfold kvN;kernel_rfl
theorem xa {x:Addr}:bz (kvN t v s st en nm wa ro kn qu yl jl) (Sum.inr "yes") (.ref x)=kvN t v s st en nm wa ro kn qu x jl:=by unfold kvN;kernel_rfl
theorem kvN_len:(kvN t v s st en nm wa ro kn qu yl jl).length=12:=rfl
end
def E00:Hp:=fun _=>none
theorem bZ.e0{K:Frag}{c:Cs}{H0 H:Hp}{g:Gs}(h:bZ K c H0 H g):bZ K c E00 H g:=⟨h.hb,h.mo,fun _ _=>rfl,rfl,fun _ _ e=>(nomatch e)⟩
structure Lw(K:Frag)(c:Cs)(H:Hp)(R nw yl jl:Addr)(js:List V)(g:Gs):Prop where
 hs:bZ K c E00 H g
 dn:H nw=some (.dK (kvN g.t g.v g.s g.st g.en g.nm g.wa g.ro g.kn g.qu yl jl))
 dj:H jl=some (.lst js)
 rr:Rst H R
 jR:jl ≠ R
 ap:∀x,x=R\/x=nw\/x=jl->x ∉ g.own/\x ≠ g.ho
 b1:1 <= g.B0.vs.length
 gd:∀e ∈ g.xs,GdD e.2
 kf:g.kn=.non\/∃x,g.kn=.str x
 vf:g.v=.non\/∃x,g.v=.str x
theorem Lw.same{K:Frag}{c:Cs}{H H':Hp}{R nw yl jl:Addr}{js:List V}{g:Gs}(e:ar H H')(h:Lw K c H R nw yl jl js g):Lw K c H' R nw yl jl js g:=⟨h.hs.same e,e _ _ h.dn,e _ _ h.dj,h.rr.same e,h.jR,h.ap,h.b1,h.gd,h.kf,h.vf⟩
theorem Lw.nR{K:Frag}{c:Cs}{H:Hp}{R nw yl jl:Addr}{js:List V}{g:Gs}(h:Lw K c H R nw yl jl js g):nw ≠ R/\nw ≠ jl:=by
 obtain⟨a,ha⟩:=h.rr;exact⟨ax h.dn ha (by intro z;cases z),ax h.dn h.dj (by intro z;cases z)⟩
theorem bZ.off{K:Frag}{c:Cs}{H H':Hp}{g:Gs}{x:Addr}{u:HO}(h:bZ K c E00 H g)(b:BtO x H H')(hx:H x=some u)(hu:(∃ws,u=.lst ws)\/∃kv,u=.dK kv)(ap:x ∉ g.own/\x ≠ g.ho):bZ K c E00 H' g:=by
 have ni:∀C dx fs,u ≠ .ins C dx fs:=fun C dx fs z=>by
  rcases hu with ⟨ws,e⟩ | ⟨kv,e⟩ <;> rw[e]at z <;> cases z
 have nt:∀xs,u ≠ .tup xs:=fun xs z=>by
  rcases hu with ⟨ws,e⟩ | ⟨kv,e⟩ <;> rw[e]at z <;> cases z
 have nz:∀o y,u ≠ .frz o y:=fun o y z=>by
  rcases hu with ⟨ws,e⟩ | ⟨kv,e⟩ <;> rw[e]at z <;> cases z
 have k:TkZ H H':=TkZ.bt b hx nt nz;have ki:∀{a C dx:Addr} {fs:List (Str × V)},H a=some (.ins C dx fs)->H' a=some (.ins C dx fs):=fun e=>b _ _ (ax e hx (fun z=>ni _ _ _ z.symm)) e;have ko:∀{a:Addr}{w:HO},a ∈ g.own->H a=some w->H' a=some w:=fun ha e=>b _ _ (fun z=>ap.1 (z ▸ ha)) e;obtain⟨dh,h0⟩:=h.hb;obtain⟨dx,h1⟩:=h.mo.ob;obtain⟨⟨dw,h4⟩,dk,h5⟩:=id h.mo.wg.wo;obtain⟨⟨dt,h6⟩,h7,⟨lk,h8,h9⟩,h10⟩:=id h.mo.tb;have L:=h.mo.ls;refine⟨⟨dh,ki h0⟩,⟨⟨dx,ki h1⟩,h.mo.wg.keep (fun w q=>ko (by simp) q) (fun w q=>by rw[h5]at q;cases q;exact ki h5) k,aS.keepT (fun w q=>by rw[h6]at q;cases q;exact ki h6) (fun w q=>ko (by simp) q) (fun w q=>ko (by simp) q) k h.mo.tb,⟨ko (by simp) L.y,ko (by simp) L.r,ko (by simp) L.g',ko (by simp) L.f,ko (by simp) L.s,L.nd⟩,h.mo.bo.tk k.t⟩,fun _ _=>rfl,rfl,fun _ _ e=>(nomatch e)⟩
def mJ (K:Frag) (c:Cs):Sp:=fun us H Q _=>∃(R nl:Addr)(zs:List Str),us=[.ref R,.ref nl]/\Rst H R/\H nl=some (.lst (zs.map V.str))/\nl ≠ R/\1 <= zs.length/\zs.length <= 12/\∀(p nw yl jl:Addr)(g:Gs)(H':Hp),H' p=some (.tup [.ref g.ho,.ref nw])->Lw K c H' R nw yl jl [] g->Pv g->g.rs=[]->g.ro="plain" ->g.kn=.non->2 <= g.wa->g.wa <= 6->bj R H H'->(∀x,x=nw\/x=jl\/x=g.ho\/x ∈ g.own->H x=none)->Q (.ref p) H'
def spSo(K:Frag)(c:Cs):Sp:=fun us H Q _=>∃(R nw yl jl:Addr)(js:List V)(g:Gs),us=[.ref g.ho,.ref nw]/\Lw K c H R nw yl jl js g/\∀H',ar H H'->Q (.bl true) H'
section
variable{P:Program}{w:World}{K:Frag}{mg:Str->Option Value}{base:Heap}{CH CM CT CW CR:Addr}
theorem kv5_len{t:Int}{v:V}{s:Int}{st en:Addr}:(kv5 t v s st en).length < sizeLine:=by rw[sizeLine_eq];exact(show 5 < 16777216 by decide)
theorem scSo:ao ["_law_house","_law_now","_law_written"] ["_law_house","_law_now"] (ah sSo):=fsc (by decide +kernel)
theorem dg{H:Hp}{a:Addr}{kvs:List (Key × V)}{k:Str}{v:V}(h:H a=some (.dK kvs))(e:bp kvs (Sum.inr k)=some v):dZ H a (.str k) (some v):=.inl ⟨kvs,Sum.inr k,.inl h,rfl,e.symm⟩
theorem ok_so {f:Addr} {fd:FuncData} (F:Fun K "_law_stands_so" "_law_stands_so" sSo f fd) (T:ClH K mg CH) (Mw:aD P w K mg base CH 2 "writes" ["self"] (gO K ⟨CH,CM,CT,CW,CR⟩)) (Mp:aD P w K mg base CH 1 "part" ["self"] (iQ K ⟨CH,CM,CT,CW,CR⟩)) (Ms:aD P w K mg base CH 2 "settled" ["self"] (pO K ⟨CH,CM,CT,CW,CR⟩)) (Mk:aD P w K mg base CH 1 "chair_known" ["self"] (jy K ⟨CH,CM,CT,CW,CR⟩)):aI P w K mg base CX0 3 f fd ["_law_house","_law_now"] (spSo K ⟨CH,CM,CT,CW,CR⟩):=by
 refine F.ok scSo (fun us H Q E h=>?_) (fun cdv A outer s H us Q E hr h=>?_)
 ·obtain⟨R,nw,yl,jl,js,g,rfl,_⟩:=h;rfl
 ·obtain⟨R,nw,yl,jl,js,g,rfl,L,q⟩:=h;have nd:=scSo.nd;have hs16:sizeLine=16777216:=sizeLine_eq;have hu:=cU hr;have r1:aP 1 _:=hr.mono (by decide)
  refine⟨_,ac (aB (i:=2) nd rfl (Or.inl rfl) (aH (ab (aA hu (pv 1) aq (fun _ _=>rfl)) (ab (aA hu (pv 1) aq (fun _ _=>rfl)) (ab (aA hu (pv 1) aq (fun _ _=>rfl)) (ab (aA hu (pv 1) aq (fun _ _=>rfl)) (ab (aA hu (pv 1) aq (fun _ _=>rfl)) ad))))))) <|
   ac (bc (PW.pt (io (aG (qQ hu) (aw Mw T.cl hr (pv 0)) (pv 2) (aN _)) <| io (aG i3 (aw Mp T.cl r1 (pv 0)) (aA hu (pv 1) aq (fun _ _=>rfl)) (aN _)) <| gU (aG i3 (aw Ms T.cl hr (pv 0)) (aA hu (pv 1) aq (fun _ _=>rfl)) (aN _)))) bA aF) <|
   ai (av (cB cw (aw Mk T.cl r1 (pv 0)) (aA hu (pv 1) aq (fun _ _=>rfl)) (aN _))),?_⟩
  dsimp only[aW,Cx.nox];have hn:=L.dn;obtain⟨dx,h1⟩:=L.hs.hb;refine ae fun K_ hK_=>?_;refine⟨_,rfl,nw,_,rfl,dg hn kQ,_,rfl,nw,_,rfl,dg hn kvN_v,_,rfl,nw,_,rfl,dg hn rg,_,rfl,nw,_,rfl,dg hn fJ,_,rfl,nw,_,rfl,dg hn gz,(show 5 <= sizeLine by lia),fun p H1 n1 s1 e1=>?_⟩
  have L1:=L.same s1;refine hK_ _ _ (ae fun K_ hK_=>?_);refine⟨_,rfl,g.ho,dx,_,rfl,s1 _ _ h1,by kernel_rfl,E00,g,rfl,L1.hs,fun p2 H2 s2 e2=>?_⟩
  have L2:=L1.same s2;have hsm:∀v ∈ [V.int g.t,g.v,.int g.s,.ref g.st,.ref g.en],smV v=true:=fun v hv=>by
   simp only[List.mem_cons,not_mem_nil,or_false]at hv;rcases hv with rfl | rfl | rfl | rfl | rfl
   ·rfl
   ·rcases L.vf with e | ⟨x,e⟩ <;> rw[e] <;> rfl
   ·rfl
   ·rfl
   ·rfl
  refine⟨_,rfl,p2,p,_,rfl,rfl,SqT.of e2,SqT.of (s2 _ _ e1),hsm,_,rfl,bI ?_⟩;refine⟨_,rfl,g.ho,dx,_,rfl,s2 _ _ (s1 _ _ h1),by kernel_rfl,E00,g,rfl,L2.hs,_,rfl,nw,_,rfl,dg L2.dn mI,rfl,_,rfl,?_⟩
  rw[decide_eq_true rfl];refine bI ?_;refine⟨_,rfl,g.ho,dx,_,rfl,s2 _ _ (s1 _ _ h1),by kernel_rfl,E00,g,rfl,L2.hs,_,rfl,nw,_,rfl,dg L2.dn rg,rfl,_,rfl,?_⟩
  rw[decide_eq_true rfl];refine bI ?_;refine hK_ _ _ ?_;have hsc:scal g.kn g.kn=true:=by rcases L.kf with e | ⟨x,e⟩ <;> rw[e] <;> rfl
  refine⟨_,rfl,g.ho,dx,_,rfl,s2 _ _ (s1 _ _ h1),by kernel_rfl,E00,g,rfl,L2.hs,_,rfl,nw,_,rfl,dg L2.dn kvN_kn,hsc,?_⟩
  rw[decide_eq_true rfl];exact q H2 (s1.trans s2)
noncomputable abbrev nBg:List Str:=["_law_rest_here","_law_names_here","_law_now","_law_house"]
theorem scBg:ao nBg ["_law_rest_here","_law_names_here"] (ah qw):=fsc (by decide +kernel)
theorem xb {f:Addr} {fd:FuncData} (F:Fun K "_law_begun" "_law_begun" qw f fd) (T:Blw mg) (TH:ClH K mg CH) (Ft:aJ P w K mg base 1 "_law_take" gR eM) (Fb:aJ P w K mg base 3 "_law_bench" ["_law_rest_here","_law_names_here"] fI) (Fs:aJ P w K mg base 5 "_law_state" ["_law_rest_here","_law_names_here"] (mF K)) (Mh:dU P w K mg base CH 8 nHI (spHI K CH)) (Mu:aD P w K mg base CH 8 "comes_up" ["self","written"] (spUp K ⟨CH,CM,CT,CW,CR⟩)):aI P w K mg base CX0 10 f fd ["_law_rest_here","_law_names_here"] (mJ K ⟨CH,CM,CT,CW,CR⟩):=by
 refine F.ok scBg (fun us H Q E h=>?_) (fun cdv A outer s H us Q E hr h=>?_)
 ·obtain⟨R,nl,zs,rfl,_⟩:=h;rfl
 ·obtain⟨R,nl,zs,rfl,r0,hnl,hnR,z1,z12,q⟩:=h;have nd:=scBg.nd;have hs16:sizeLine=16777216:=sizeLine_eq;have hu:=cU hr;have r1':aP 1 _:=hr.mono (by decide)
  have r3':aP 3 _:=hr.mono (by decide)
  have r5':aP 5 _:=hr.mono (by decide)
  have r8':aP 8 _:=hr.mono (by decide)
  refine⟨_,ac (aB (i:=2) nd rfl (Or.inl rfl) (aj Fs r5' (ab (pv 0) (ab (pv 1) ad)))) <|
   ac (br hu (pv 2) aq (aE cY (pv 1) (aj Ft r1' (ab (pv 0) (ab (bq a9 (by rfl) T.len PySem.boot_len (ab (pv 1) ad)) ad))) (fun _ _=>rfl)) rfl) <|
   ac (br hu (pv 2) aq (aL bu ag (aj Ft r1' (ab (pv 0) (ab ag ad)))) rfl) <|
   ac (br hu (pv 2) aq aq rfl) <|
   ac (br hu (pv 2) aq cj rfl) <|
   ac (br hu (pv 2) aq ag rfl) <|
   ac (br hu (pv 2) aq (bg ad) rfl) <|
   ac (br hu (pv 2) aq (bg ad) rfl) <|
   ac (aB (i:=3) nd rfl (Or.inl rfl) (cn Mh hr TH.mgC (ab (aA hu (pv 2) aq (fun _ _=>rfl)) (ab (aA hu (pv 2) aq (fun _ _=>rfl)) (ab (aL bu ag (aj Ft r1' (ab (pv 0) (ab ag ad)))) (ab (aj Fb r3' (ab (pv 0) (ab (pv 1) ad))) ad)))))) <|
   ac (aZ (aQ Mu TH.cl r8' (pv 3) (ab (aH (ab (aA hu (pv 2) aq (fun _ _=>rfl)) (ab (aA hu (pv 2) aq (fun _ _=>rfl)) (ab (aA hu (pv 2) aq (fun _ _=>rfl)) (ab (aA hu (pv 2) aq (fun _ _=>rfl)) (ab (aA hu (pv 2) aq (fun _ _=>rfl)) ad)))))) ad))) <|
   ai (av (aH (ab (pv 3) (ab (pv 2) ad)))),?_⟩
  dsimp only[aW,Cx.nox];refine ae fun K_ hK_=>?_;refine⟨_,rfl,_,rfl,R,nl,zs,rfl,r0,hnl,hnR,z1,z12,fun nw t v s st en pl tm b hk hq es xs B0 H1 nnw nwR enw G1 r1 b1=>?_⟩;refine hK_ _ _ (ae fun K_ hK_=>?_);have hnl1:=b1 _ _ hnR hnl;refine⟨_,rfl,_,rfl,_,rfl,nl,_,rfl,.inl (SqL.of hnl1),?_⟩;rw[length_map];refine⟨R,(zs.length:Int),rfl,r1,by lia,by lia,fun j H2 j0 j1 r2 b2=>?_⟩
  have hj:j.toNat < zs.length:=by lia
  have enw2:=b2 _ _ nwR enw;refine⟨nl,_,j,_,rfl,rfl,SqL.of (b2 _ _ hnR hnl1),iO j0 (getElem?_eq_getElem hj),_,rfl,nw,_,rfl,cL.k (k:=Sum.inr "name") enw2 kv5_len,?_⟩
  rw[kv_p6];generalize zs[j.toNat]=nm;have bt2:BtO nw H2 (upd H2 nw (.dK (kv6 t v s st en nm))):=BtO.upd;have e2:upd H2 nw (.dK (kv6 t v s st en nm)) nw=some (.dK (kv6 t v s st en nm)):=af;refine hK_ _ _ (ae fun K_ hK_=>?_);generalize upd H2 nw (.dK (kv6 t v s st en nm))=H3 at bt2 e2 ⊢;have r3:Rst H3 R:=by
   obtain⟨a,ha⟩:=r2;exact⟨a,bt2 _ _ nwR.symm ha⟩
  refine⟨_,rfl,R,5,rfl,r3,by decide,by decide,fun wv H4 w0 w1 r4 b4=>⟨_,_,rfl,rfl,?_⟩⟩
  have e4:=b4 _ _ nwR e2;refine⟨_,rfl,nw,_,rfl,cL.k (k:=Sum.inr "wait") e4 (by rw[hs16];exact(show 6 < 16777216 by decide)),?_⟩
  dsimp only;rw[kv_p7];have bt5:BtO nw H4 (upd H4 nw (.dK (kv7 t v s st en nm (2 + wv)))):=BtO.upd;refine hK_ _ _ (ae fun K_ hK_=>?_);refine⟨_,rfl,nw,_,rfl,cL.k (k:=Sum.inr "role") af (by rw[hs16];exact(show 7 < 16777216 by decide)),?_⟩
  rw[kv_p8];have bt6:=bt5.trans (BtO.upd (u:=.dK (kv8 t v s st en nm (2 + wv) "plain")));refine hK_ _ _ (ae fun K_ hK_=>?_);refine⟨_,rfl,nw,_,rfl,cL.k (k:=Sum.inr "known") af (by rw[hs16];exact(show 8 < 16777216 by decide)),?_⟩
  rw[kv_p9];have bt7:=bt6.trans (BtO.upd (u:=.dK (kv9 t v s st en nm (2 + wv) "plain" .non)));refine hK_ _ _ (ae fun K_ hK_=>?_);refine⟨_,rfl,nw,_,rfl,cL.k (k:=Sum.inr "quiet") af (by rw[hs16];exact(show 9 < 16777216 by decide)),?_⟩
  rw[kv_p10];have bt8:=bt7.trans (BtO.upd (u:=.dK (oF t v s st en nm (2 + wv) "plain" .non 0)));refine hK_ _ _ (ae fun K_ hK_=>?_);have e8:upd (upd (upd (upd H4 nw (.dK (kv7 t v s st en nm (2 + wv)))) nw (.dK (kv8 t v s st en nm (2 + wv) "plain"))) nw (.dK (kv9 t v s st en nm (2 + wv) "plain" .non))) nw (.dK (oF t v s st en nm (2 + wv) "plain" .non 0)) nw=some (.dK (oF t v s st en nm (2 + wv) "plain" .non 0)):=af;generalize upd (upd (upd (upd H4 nw (.dK (kv7 t v s st en nm (2 + wv)))) nw (.dK (kv8 t v s st en nm (2 + wv) "plain"))) nw (.dK (kv9 t v s st en nm (2 + wv) "plain" .non))) nw (.dK (oF t v s st en nm (2 + wv) "plain" .non 0))=H8 at bt8 e8 ⊢;refine⟨Nat.zero_le _,fun yl H9 nyl s9 eyl=>⟨_,rfl,nw,_,rfl,cL.k (k:=Sum.inr "yes") (s9 _ _ e8) (by rw[hs16];exact(show 10 < 16777216 by decide)),?_⟩⟩
  rw[kv_p11];have btA:BtO nw H9 (upd H9 nw (.dK (oG t v s st en nm (2 + wv) "plain" .non 0 yl))):=BtO.upd;have eA:upd H9 nw (.dK (oG t v s st en nm (2 + wv) "plain" .non 0 yl)) nw=some (.dK (oG t v s st en nm (2 + wv) "plain" .non 0 yl)):=af;refine hK_ _ _ (ae fun K_ hK_=>?_);generalize upd H9 nw (.dK (oG t v s st en nm (2 + wv) "plain" .non 0 yl))=HA at btA eA ⊢;refine⟨Nat.zero_le _,fun jl HB njl sB ejl=>⟨_,rfl,nw,_,rfl,cL.k (k:=Sum.inr "journal") (sB _ _ eA) (by rw[hs16];exact(show 11 < 16777216 by decide)),?_⟩⟩
  rw[kv_p12];have btC:BtO nw HB (upd HB nw (.dK (kvN t v s st en nm (2 + wv) "plain" .non 0 yl jl))):=BtO.upd;have eC:upd HB nw (.dK (kvN t v s st en nm (2 + wv) "plain" .non 0 yl jl)) nw=some (.dK (kvN t v s st en nm (2 + wv) "plain" .non 0 yl jl)):=af;refine hK_ _ _ (ae fun K_ hK_=>?_);generalize upd HB nw (.dK (kvN t v s st en nm (2 + wv) "plain" .non 0 yl jl))=HC at btC eC ⊢;have bt48:BtO nw H4 HC:=bt8.trans ((BtO.of s9).trans (btA.trans ((BtO.of sB).trans btC)));have rC:Rst HC R:=by
   obtain⟨a,ha⟩:=r4;exact⟨a,bt48 _ _ nwR.symm ha⟩
  have b1C:∀x u,x ≠ R->x ≠ nw->H1 x=some u->HC x=some u:=fun x u n1 n2 e=>bt48 _ _ n2 (b4 _ _ n1 (bt2 _ _ n2 (b2 _ _ n1 e)));have tkC:TkZ H1 HC:=by
   obtain⟨a,ha⟩:=r1;exact⟨fun x ys e=>b1C _ _ (ax e ha (by intro z;cases z)) (ax e enw (by intro z;cases z)) e,fun x o y e=>b1C _ _ (ax e ha (by intro z;cases z)) (ax e enw (by intro z;cases z)) e⟩
  have njw:jl ≠ nw:=ax ejl (sB _ _ eA) (by intro z;cases z)
  have ejC:HC jl=some (.lst []):=btC _ _ njw ejl;have jR:jl ≠ R:=by
   obtain⟨a,ha⟩:=r4;exact(ak (btA _ _ nwR.symm (s9 _ _ (bt8 _ _ nwR.symm ha))) njl).symm
  have hnlC:HC nl=some (.lst (zs.map V.str)):=b1C _ _ hnR (ax hnl1 enw (by intro z;cases z)) hnl1
  refine⟨_,rfl,nw,_,rfl,dg eC eN,_,rfl,nw,_,rfl,dg eC mG,_,rfl,R,200,rfl,rC,by decide,by decide,fun sz HD z0 z1' rD bD=>⟨_,_,rfl,rfl,?_⟩⟩
  refine⟨_,rfl,_,rfl,R,nl,zs,rfl,rD,bD _ _ hnR hnlC,hnR,z1,z12,fun b2' B2 HE nb2 hB2 _ rE bE=>?_⟩;have bCE:=bD.trans bE;have eE:=bCE _ _ nwR eC;intro ho dh nho ndh neh;have nho':upd HE dh (.own ho) ho=none:=by rw[au neh.symm];exact nho
  have sF:ar HE (upd (upd HE dh (.own ho)) ho (.ins CH dh [])):=(ar.new ndh).trans (ar.new nho');refine⟨ho,dh,b2',nm,2 + wv,1 + sz,rfl,af,fun m0 HG bG eG=>⟨rfl,?_⟩⟩;have sEG:ar HE HG:=fun c u e=>bG _ _ (ak e nho) (sF _ _ e);have rG:=rE.same sEG;have enG:=sEG _ _ eE;refine hK_ _ _ (ae fun K_ hK_=>?_);refine⟨_,rfl,ho,dh,_,rfl,eG,by kernel_rfl,_,rfl,nw,_,rfl,dg enG kQ,_,rfl,nw,_,rfl,dg enG kvN_v,_,rfl,nw,_,rfl,dg enG rg,_,rfl,nw,_,rfl,dg enG fJ,_,rfl,nw,_,rfl,dg enG gz,(show 5 <= sizeLine by lia),fun wt HW nwt sW ewt=>?_⟩
  have tk1W:TkZ H1 HW:=tkC.trans ((bCE.tkz rC).trans (TkZ.of (sEG.trans sW)));have GW:=G1.tkz tk1W;have ehW:=sW _ _ eG;refine⟨fun x=>if x=ho then none else HW x,ho,dh,m0,wt,st,en,b,nm,2 + wv,1 + sz,t,s,pl,tm,v,hk,hq,es,xs,B0,rfl,ehW,ewt,GW.se,GW.bo,fun x u e=>?_,if_pos rfl,fun B hB m wr bd d l rl kr yl2 sd gl fl sl HX bX GX=>?_⟩
  ·have e:(if x=ho then none else HW x)=some u:=e
   by_cases hx:x=ho
   ·rw[if_pos hx]at e;cases e
   ·rw[if_neg hx]at e;exact e
  ·have nho2:∀{x:Addr}{u:HO},HE x=some u->x ≠ ho:=fun e=>ak e nho;have rW:=rG.same sW;have enW:=sW _ _ enG;have ejE:HE jl=some (.lst []):=bCE _ _ jR ejC;have ap:∀x u,HW x=some u->x ≠ ho->x ∉ Gs.own { ho:=ho,m:=m,wr:=wr,bd:=bd,d:=d,l:=l,rl:=rl,kr:=kr,st:=st,en:=en,b:=b,yl:=yl2,sd:=sd,gl:=gl,fl:=fl,sl:=sl,nm:=nm,wa:=2 + wv,sz:=1 + sz,t:=t,v:=v,s:=s,pl:=pl,tm:=tm,qu:=0,kn:=.non,ro:="plain",se:=.non,hk:=hk,hq:=hq,es:=es,xs:=xs,bk:=B,B0:=B0,ys:=[],rs:=[],gs:=[],fs:=[],ss:=[] }:=fun x u e hx hm=>by
    have:=GX.ow x hm;have this:(if x=ho then none else HW x)=none:=this
    rw[if_neg hx,e]at this;cases this
   obtain⟨ra,hra⟩:=id rE;have hoR:R ≠ ho:=nho2 hra;have honw:nw ≠ ho:=nho2 eE;have hojl:jl ≠ ho:=nho2 ejE;have rX:Rst HX R:=⟨ra,bX _ _ hoR (sW _ _ (sEG _ _ hra))⟩;have ejX:HX jl=some (.lst []):=bX _ _ hojl (sW _ _ (sEG _ _ ejE));have enX:=bX _ _ honw enW;refine hK_ _ _ ?_;refine⟨_,rfl,_,rfl,(show 2 <= sizeLine by lia),fun p HY nY sY eY=>?_⟩
   have hxl:=GW.xl;have hel:es.length=xs.length:=Paired.length GW.se.eo;have hp0:=GW.p0;have hp1:=GW.p1;refine q p nw yl jl _ HY eY (Lw.same sY ⟨GX.e0,enX,ejX,rX,jR,fun x hx=>?_,GW.b1,GW.gd,.inl rfl,GW.vv⟩) ⟨hp0,by show pl < 2 ^ 30;lia,GW.ps,by show es.length <= 50;lia,Nat.zero_le _,Nat.zero_le _,Nat.zero_le _⟩ rfl rfl rfl (by show 2 <= 2 + wv;lia) (by show 2 + wv <= 6;lia) (fun x u hx e=>?_) (fun x hx=>?_)
   ·rcases hx with rfl | rfl | rfl
    ·exact⟨ap _ _ (sW _ _ (sEG _ _ hra)) hoR,hoR⟩
    ·exact⟨ap _ _ enW honw,honw⟩
    ·exact⟨ap _ _ (sW _ _ (sEG _ _ ejE)) hojl,hojl⟩
   ·have e1:=b1 _ _ hx e;have nxw:x ≠ nw:=ak e nnw;have eE':=bCE _ _ hx (b1C _ _ hx nxw e1);exact sY _ _ (bX _ _ (nho2 eE') (sW _ _ (sEG _ _ eE')))
   ·cases e:H x with
    | none=>rfl
    | some u =>
     exfalso;by_cases hw:x=nw
     ·rw[hw,nnw]at e;cases e
     by_cases hR:x=R
     ·rw[hR]at hx;rcases hx with z | z | z | z
      ·exact nwR z.symm
      ·exact jR z.symm
      ·exact hoR z
      ·exact ap _ _ (sW _ _ (sEG _ _ hra)) hoR z
     have eA:=btA _ _ hw (s9 _ _ (bt8 _ _ hw (b4 _ _ hR (bt2 _ _ hw (b2 _ _ hR (b1 _ _ hR e))))));have eE':=bCE _ _ hR (b1C _ _ hR hw (b1 _ _ hR e));rcases hx with z | z | z | z
     ·exact hw z
     ·rw[z,njl]at eA;cases eA
     ·exact nho2 eE' z
     ·exact ap _ _ (sW _ _ (sEG _ _ eE')) (nho2 eE') z
end
open K45B (df eT fu)
abbrev sBAL:Stmt:=top 84
abbrev sMBL:Stmt:=top 85
abbrev qz:Stmt:=top 86
abbrev rj:Stmt:=top 87
abbrev mK:Stmt:=top 88
structure j5(H:Hp)(g:Gs):Prop where
 st:∃hh aa:Addr,H g.st=some (.tup [.int g.pl,.int g.tm,.ref g.b,.ref hh,.ref aa])
 en:H g.en=some (.tup (g.es.map V.ref))
 eo:Paired (EnO H) g.es g.xs
 bo:BnO H g.b g.B0
 el:g.es.length <= 60
 b1:1 <= g.B0.vs.length
 gd:∀e ∈ g.xs,GdD e.2
theorem j5.tk{H H':Hp}{g:Gs}(k:Tk H H')(h:j5 H g):j5 H' g:=by
 obtain⟨hh,aa,e⟩:=h.st;exact⟨⟨hh,aa,k _ _ e⟩,k _ _ h.en,cg k h.eo,h.bo.tk k,h.el,h.b1,h.gd⟩
structure NwG(H:Hp)(nw yl jl:Addr)(g:Gs):Prop where
 dn:H nw=some (.dK (kvN g.t g.v g.s g.st g.en g.nm g.wa g.ro g.kn g.qu yl jl))
 rt:j5 H g
theorem NwG.same{H H':Hp}{nw yl jl:Addr}{g:Gs}(e:ar H H')(h:NwG H nw yl jl g):NwG H' nw yl jl g:=⟨e _ _ h.dn,h.rt.tk (Tk.of e)⟩
theorem Lw.rt{K:Frag}{c:Cs}{H:Hp}{R nw yl jl:Addr}{js:List V}{g:Gs}(h:Lw K c H R nw yl jl js g):j5 H g:=by
 obtain⟨hh,aa,o,ps,as,h1,_⟩:=h.hs.mo.wg.so;exact⟨⟨hh,aa,h1⟩,h.hs.mo.wg.ho,h.hs.mo.wg.eo,h.hs.mo.bo,h.hs.mo.wg.el,h.b1,h.gd⟩
theorem oH{b:Bn}(hb:1 <= b.vs.length):∀{xs:List En},(∀e ∈ xs,GdD e.2)->1 <= (bnR b xs).vs.length
 | [],_=>hb
 | e :: r,h=>by
  obtain⟨t,dd⟩:=e;have ih:=oH hb (xs:=r) fun e he=>h e (List.mem_cons_of_mem _ he);cases dd with
  | fst=>exact ih
  | ask x n wk=>exact ih
  | bn x=>exact h (t,.bn x) (by simp)
theorem kR{b:Bn}(hb:1 <= b.vs.length){xs:List En}(h:∀e ∈ xs,GdD e.2):1 <= (bV b xs).vs.length:=oH hb fun e he=>h e (List.mem_reverse.mp he)
def rm:Sp:=fun us H Q _=>∃(nw yl jl:Addr)(g:Gs)(k:Nat),us=[.ref nw,.int (g.pl + k)]/\NwG H nw yl jl g/\∀(a:Addr)(H':Hp),ar H H'->BnO H' a (bV g.B0 (g.xs.take k))->Q (.ref a) H'
def oJ:Sp:=fun us H Q _=>∃(nw yl jl:Addr)(g:Gs),us=[.ref nw]/\NwG H nw yl jl g/\∀(a:Addr)(H':Hp),ar H H'->BnO H' a g.bn->Q (.ref a) H'
def iX:Sp:=fun us H Q _=>∃(nw yl jl:Addr)(g:Gs),us=[.ref nw]/\NwG H nw yl jl g/\∀(p:Addr)(H':Hp),ar H H'->H' p=some (.tup [.int g.lp,.int g.lt])->Q (.ref p) H'
def qA:Sp:=fun us H Q _=>∃(nw yl jl:Addr)(g:Gs),us=[.ref nw]/\NwG H nw yl jl g/\∀(l:Addr)(zs:List Str)(H':Hp),ar H H'->Ord (g.bn.vs ++ g.bn.cs) zs->zs.length <= 18->H' l=some (.lst ((zs.filter fun x=>!decide (x=g.nm)).map V.str))->Q (.ref l) H'
def iY(K:Frag):Sp:=fun us H Q _=>∃(b t:Addr)(B:Bn)(xs:List Str),us=[.ref b,.ref t]/\BnO H b B/\1 <= B.vs.length/\Nms K H t xs/\∀H',ar H H'->Q (.bl (bB B xs)) H'
theorem tM(tm:Int)(xs:List En)(hne:xs ≠ []):∃e,xs.getLast?=some e/\fu tm (ci xs)=e.1:=by
 rcases List.eq_nil_or_concat xs with rfl | ⟨r,l,rfl⟩
 ·exact absurd rfl hne
 ·rw[List.concat_eq_append];refine⟨l,by simp,?_⟩
  have:=jQ tm r l;unfold fu;rw[length_map];exact this
section
variable{P:Program}{w:World}{K:Frag}{mg:Str->Option Value}{base:Heap}
noncomputable abbrev nBA:List Str:=["_law_now","_law_place","_law_found","_law_term","_law_deed_here"]
theorem scBA:ao nBA ["_law_now","_law_place"] (ah sBAL):=fsc (by decide +kernel)
theorem ok_bal {f:Addr} {fd:FuncData} (F:Fun K "_law_bench_at" "_law_bench_at" sBAL f fd):aI P w K mg base CX0 1 f fd ["_law_now","_law_place"] rm:=by
 refine F.ok scBA (fun us H Q E h=>?_) (fun cdv A outer s H us Q E hr h=>?_)
 ·obtain⟨nw,yl,jl,g,k,rfl,_⟩:=h;rfl
 ·obtain⟨nw,yl,jl,g,k,rfl,G,q⟩:=h;have nd:=scBA.nd;have hu:=cU hr;refine⟨_,ac (aB (i:=2) nd rfl (Or.inl rfl) (aE az (aA hu (pv 0) aq (fun _ _=>rfl)) ag (fun _ _=>rfl))) <|
   ac (cD PassesOwn.never rfl (dQ (bU cN (aA hu (pv 0) aq (fun _ _=>rfl)) cC (bW (aL dR (pv 1) (aE az (aA hu (pv 0) aq (fun _ _=>rfl)) ag (fun _ _=>rfl)))))) (gW rfl (bO (aO (i:=3) nd rfl (Or.inl rfl)) (bO (aO (i:=4) nd rfl (Or.inl rfl)) fK))) <|
    ai (bc (aG cw (aE az (pv 4) ag (fun _ _=>rfl)) aq (aN _)) (ai (aB (i:=2) nd rfl (Or.inl rfl) (aE az (pv 4) ag (fun _ _=>rfl)))) aF)) <|
   ai (av (pv 2)),?_⟩
  dsimp only[aW,Cx.nox];obtain⟨hh,aa,hst⟩:=G.rt.st;have hel:g.es.length=g.xs.length:=Paired.length G.rt.eo;refine ae fun K_ hK_=>?_;refine⟨_,rfl,nw,_,rfl,dg G.dn fJ,ex4 g.st _ _ _ ⟨rfl,rfl,SqT.of hst,at2,?_⟩⟩;refine hK_ _ _ (ae fun K_ hK_=>?_);refine⟨_,rfl,nw,_,rfl,dg G.dn gz,_,rfl,_,rfl,nw,_,rfl,dg G.dn fJ,ex4 g.st _ _ _ ⟨rfl,rfl,SqT.of hst,at0,_,_,rfl,rfl,_,rfl,g.en,_,rfl,G.rt.en,fun p H1 s1 e1=>?_⟩⟩;rw[show g.pl + (k:Int) - g.pl=(k:Int) by lia,K45B.vx]at e1
  refine⟨p,rfl,⟨_,SqT.of e1⟩,fM (K:=K) (xs:=(g.es.take k).map V.ref) (fun i σ Hx=>∃(v3 v4:Option V)(a:Addr),σ=[some (V.ref nw),some (.int (g.pl + (k:Int))),some (V.ref a),v3,v4]/\ar H1 Hx/\BnO Hx a (bV g.B0 ((g.xs.take k).take i))) ⟨none,none,g.b,rfl,ar.refl _,by rw[List.take_zero];exact G.rt.bo.tk (Tk.of s1)⟩ ?_ ?_ ?_⟩
  ·rintro i σ Hx hi ⟨v3,v4,a,rfl,sx,hb⟩;exact SqT.of (sx _ _ e1)
  ·rintro i x σ Hx hx ⟨v3,v4,a,rfl,sx,hb⟩;rw[getElem?_map]at hx;cases he:(g.es.take k)[i]? with
   | none=>rw[he]at hx;cases hx
   | some e =>
    rw[he]at hx;cases hx;obtain⟨y,hy,hE⟩:=Paired.get' (Paired.take' (cg (Tk.of (s1.trans sx)) G.rt.eo) k) he;obtain⟨d,kd,rr,g1,g2,g3⟩:=lU hE;have hsn:(g.xs.take k).take (i + 1)=(g.xs.take k).take i ++ [y]:=by rw[List.take_add_one,hy];rfl
    refine⟨e,_,rfl,SqT.of g1,rfl,_,_,rfl,_,_,rfl,rfl,?_⟩;refine⟨_,rfl,ex4 d _ _ _ ⟨rfl,rfl,SqT.of g2,at0,rfl,_,rfl,?_⟩⟩;rcases g3 with ⟨x,g3,g4,ba,rfl,g5⟩ | ⟨g3,g4⟩
    ·rw[g4];refine cm ⟨_,rfl,ex4 d _ _ _ ⟨rfl,rfl,SqT.of g2,at1,_,_,ba,rfl,sx,?_⟩⟩;rw[hsn,fP,g3];exact g5
    ·rw[g4];refine bI ⟨_,_,a,rfl,sx,?_⟩;rw[hsn,fP];obtain⟨ty,dy⟩:=y;cases dy with
     | fst=>exact hb
     | ask x n wk=>exact hb
     | bn x=>exact absurd rfl (g3 x)
  ·rintro σ Hx ⟨v3,v4,a,rfl,sx,hb⟩;refine hK_ _ _ ?_;refine⟨_,rfl,q a Hx (s1.trans sx) ?_⟩;rw[length_map,take_of_length_le (by rw[length_take,length_take];lia)]at hb
   exact hb
theorem scMBL:ao ["_law_now"] ["_law_now"] (ah sMBL):=fsc (by decide +kernel)
theorem ok_mbl {f:Addr} {fd:FuncData} (F:Fun K "_law_my_bench" "_law_my_bench" sMBL f fd) (T:Blw mg) (Fa:aJ P w K mg base 1 "_law_bench_at" ["_law_now","_law_place"] rm):aI P w K mg base CX0 2 f fd ["_law_now"] oJ:=by
 refine F.ok scMBL (fun us H Q E h=>?_) (fun cdv A outer s H us Q E hr h=>?_)
 ·obtain⟨nw,yl,jl,g,rfl,_⟩:=h;rfl
 ·obtain⟨nw,yl,jl,g,rfl,G,q⟩:=h;have hu:=cU hr;refine⟨_,ai (av (aj Fa hr (ab (pv 0) (ab (aL bu (aE az (aA hu (pv 0) aq (fun _ _=>rfl)) ag (fun _ _=>rfl)) (bq a9 (by rfl) T.len PySem.boot_len (ab (aA hu (pv 0) aq (fun _ _=>rfl)) ad))) ad)))),?_⟩
  obtain⟨hh,aa,hst⟩:=G.rt.st;have hel:g.es.length=g.xs.length:=Paired.length G.rt.eo;refine⟨_,rfl,_,rfl,nw,_,rfl,dg G.dn fJ,ex4 g.st _ _ _ ⟨rfl,rfl,SqT.of hst,at0,_,rfl,nw,_,rfl,dg G.dn gz,g.en,_,rfl,.inr (SqT.of G.rt.en),_,_,rfl,rfl,nw,yl,jl,g,g.es.length,?_,G,fun a H' s' h'=>q a H' s' ?_⟩⟩
  ·rw[length_map];rfl
  ·rw[hel,take_of_length_le (Nat.le_refl _)]at h';exact h'
theorem scLastL:ao ["_law_now"] ["_law_now"] (ah qz):=fsc (by decide +kernel)
theorem xc {f:Addr} {fd:FuncData} (F:Fun K "_law_last" "_law_last" qz f fd) (T:Blw mg):aI P w K mg base CX0 1 f fd ["_law_now"] iX:=by
 refine F.ok scLastL (fun us H Q E h=>?_) (fun cdv A outer s H us Q E hr h=>?_)
 ·obtain⟨nw,yl,jl,g,rfl,_⟩:=h;rfl
 ·obtain⟨nw,yl,jl,g,rfl,G,q⟩:=h;have hu:=cU hr;have hs16:sizeLine=16777216:=sizeLine_eq;refine⟨_,ac (bc (aG (op_eqT0 hu) (aA hu (pv 0) aq (fun _ _=>rfl)) (aH ad) (aN _)) (ai (av (aH (ab (aE az (aA hu (pv 0) aq (fun _ _=>rfl)) ag (fun _ _=>rfl)) (ab (aE az (aA hu (pv 0) aq (fun _ _=>rfl)) ag (fun _ _=>rfl)) ad))))) aF) <|
   ai (av (aH (ab (aL bu (aE az (aA hu (pv 0) aq (fun _ _=>rfl)) ag (fun _ _=>rfl)) (bq a9 (by rfl) T.len PySem.boot_len (ab (aA hu (pv 0) aq (fun _ _=>rfl)) ad))) (ab (aE az (aE az (aA hu (pv 0) aq (fun _ _=>rfl)) (tU oO ag) (fun _ _=>rfl)) ag (fun _ _=>rfl)) ad)))),?_⟩
  dsimp only[aW,Cx.nox];obtain⟨hh,aa,hst⟩:=G.rt.st;have hel:g.es.length=g.xs.length:=Paired.length G.rt.eo;refine⟨_,rfl,nw,_,rfl,dg G.dn gz,Nat.zero_le _,fun p0 H1 n1 s1 e1=>?_⟩;have G1:=G.same s1;refine⟨g.en,p0,_,rfl,rfl,SqT.of G1.rt.en,SqT.of e1,_,rfl,?_⟩;by_cases hx:g.xs=[]
  ·have he:g.es=[]:=List.length_eq_zero_iff.mp (by rw[hel,hx];rfl)
   rw[show (g.es.map V.ref).isEmpty=true by rw[he];rfl]
   refine cm ⟨_,rfl,nw,_,rfl,dg G1.dn fJ,ex4 g.st _ _ _ ⟨rfl,rfl,SqT.of (s1 _ _ hst),at0,_,rfl,nw,_,rfl,dg G1.dn fJ,ex4 g.st _ _ _ ⟨rfl,rfl,SqT.of (s1 _ _ hst),at1,(show 2 <= sizeLine by lia),fun p H2 n2 s2 e2=>?_⟩⟩⟩
   refine q p H2 (s1.trans s2) ?_;rw[e2];show _=some (HO.tup [.int (g.pl + (g.xs.length:Int)),.int (fu g.tm (ci g.xs))]);rw[hx];show _=some (HO.tup [.int (g.pl + ((0:Nat):Int)),.int g.tm]);rw[show g.pl + ((0:Nat):Int)=g.pl by lia]
  ·have hne:g.es ≠ []:=fun z=>hx (List.length_eq_zero_iff.mp (by rw[<- hel,z];rfl))
   rw[show (g.es.map V.ref).isEmpty=false by rw[List.isEmpty_eq_false_iff];exact fun z=>hne (List.map_eq_nil_iff.mp z)]
   refine bI ?_;obtain⟨y,hy,hlt⟩:=tM g.tm g.xs hx;rcases List.eq_nil_or_concat g.es with he | ⟨r,l,he⟩
   ·exact absurd he hne
   rw[List.concat_eq_append]at he;have hl:g.es[g.es.length - 1]?=some l:=by rw[he,length_append];simp
   obtain⟨y',hy',hE⟩:=Paired.get' G1.rt.eo hl;have hyy:y'=y:=by
    rw[List.getLast?_eq_getElem?,<- hel,hy']at hy;exact Option.some.inj hy
   subst hyy;obtain⟨d,hd1,_⟩:=hE;have hat:atI (g.es.map V.ref) (-1)=some (.ref l):=by rw[he,List.map_append];exact ug _ _
   refine⟨_,rfl,nw,_,rfl,dg G1.dn fJ,ex4 g.st _ _ _ ⟨rfl,rfl,SqT.of (s1 _ _ hst),at0,_,rfl,nw,_,rfl,dg G1.dn gz,g.en,_,rfl,.inr (SqT.of G1.rt.en),_,_,rfl,rfl,_,rfl,nw,_,rfl,dg G1.dn gz,_,rfl,ex4 g.en _ _ _ ⟨rfl,rfl,SqT.of G1.rt.en,hat,ex4 l _ _ _ ⟨rfl,rfl,SqT.of hd1,at0,(show 2 <= sizeLine by lia),fun p H2 n2 s2 e2=>?_⟩⟩⟩⟩
   refine q p H2 (s1.trans s2) ?_;rw[e2,length_map,hel];show some (HO.tup [.int (g.pl + (g.xs.length:Int)),.int y'.1])=some (HO.tup [.int (g.pl + (g.xs.length:Int)),.int (fu g.tm (ci g.xs))]);rw[hlt]
abbrev nOt:List Str:=["_law_now","_law_bench_here"]
theorem scOt:ao nOt ["_law_now"] (ah rj):=fsc (by decide +kernel)
theorem ndOt:(nOt ++ (["_law_name"]:List Str)).Nodup:=by decide +kernel
theorem ok_othL {f:Addr} {fd:FuncData} (F:Fun K "_law_others" "_law_others" rj f fd) (T:Blw mg) (Fm:aJ P w K mg base 2 "_law_my_bench" ["_law_now"] oJ):aI P w K mg base CX0 3 f fd ["_law_now"] qA:=by
 refine F.ok scOt (fun us H Q E h=>?_) (fun cdv A outer s H us Q E hr h=>?_)
 ·obtain⟨nw,yl,jl,g,rfl,_⟩:=h;rfl
 ·obtain⟨nw,yl,jl,g,rfl,G,q⟩:=h;have nd:=scOt.nd;have hu:=cU hr;have hs16:sizeLine=16777216:=sizeLine_eq;refine⟨_,ac (aB (i:=1) nd rfl (Or.inl rfl) (aj Fm hr (ab (pv 0) ad))) <|
   ai (av (eQ nOt nOt ["_law_name"] (ah rj) rfl rfl rfl (by decide +kernel) rfl rfl (by decide +kernel) (by decide +kernel) (by decide +kernel) (by decide +kernel)
    (ej (gq rfl (aL dq (aE az (pv 1) ag (fun _ _=>rfl)) (aE az (pv 1) ag (fun _ _=>rfl))) (by rfl) T.sorted (by rfl) T.set)) (fun _ _ _ _ _=>aO (i:=2) ndOt rfl (Or.inl rfl)) (fun _ _ _ _ _=>eF (aG i3 (pv 2) (aA hu (pv 0) aq (fun _ _=>rfl)) (aN _))) (fun _ _ _ _ _=>pv 2))),?_⟩
  dsimp only[aW,Cx.nox];refine ae fun K_ hK_=>?_;refine⟨_,rfl,nw,yl,jl,g,rfl,G,fun b H1 s1 hB=>?_⟩;obtain⟨⟨v,c,l,hb,hv,hc,hl⟩,v9,c9,l9⟩:=id hB;refine hK_ _ _ ?_;refine⟨_,rfl,ex4 b _ _ _ ⟨rfl,rfl,SqT.of hb,at0,_,rfl,ex4 b _ _ _ ⟨rfl,rfl,SqT.of hb,at1,v,c,_,_,rfl,rfl,hv,hc,by simp only[length_map];lia,fun p H2 s2 ep=>?_⟩⟩⟩
  rw[<- List.map_append]at ep;refine⟨p,g.bn.vs ++ g.bn.cs,rfl,SqT.of ep,by rw[length_append];lia,fun l2 zs n2 hpw hnd hm=>?_⟩
  have O:Ord (g.bn.vs ++ g.bn.cs) zs:=⟨hpw,hnd,hm⟩;have ol:=lZ O;rw[length_append]at ol;have s3:=ar.new (o:=.lst (zs.map V.str)) n2;have e3:upd H2 l2 (.lst (zs.map V.str)) l2=some (.lst (zs.map V.str)):=af;generalize upd H2 l2 (.lst (zs.map V.str))=H3 at s3 e3 ⊢;have s13:=(s1.trans s2).trans s3;refine⟨l2,rfl,⟨_,SqL.of e3⟩,?_⟩;refine lcFL (fun u=>!decide (u=V.str g.nm)) rfl (SqL.of e3) (by rw[length_map];lia) (fun D x ys post hD hx hp=>?_) (fun D hD=>?_)
  ·obtain⟨z,hz,rfl⟩:=List.mem_map.mp hx;have s4:=ar.new (o:=.lst ys) hD;exact⟨_,rfl,_,rfl,nw,_,rfl,dg (s4 _ _ (s13 _ _ G.dn)) eN,rfl,_,rfl,hp⟩
  ·rw[ij];have s4:=ar.new (o:=.lst ((zs.filter fun x=>!decide (x=g.nm)).map V.str)) hD;exact q D zs _ (s13.trans s4) O (by lia) af
noncomputable abbrev nHf:List Str:=["_law_bench_here","_law_names_here","_law_some_here","_law_many"]
theorem scHf:ao nHf ["_law_bench_here","_law_names_here"] (ah mK):=fsc (by decide +kernel)
theorem ndHf:(nHf ++ (["_law_name"]:List Str)).Nodup:=by decide +kernel
theorem xf {f:Addr} {fd:FuncData} (F:Fun K "_law_half" "_law_half" mK f fd) (T:Blw mg):aI P w K mg base CX0 1 f fd ["_law_bench_here","_law_names_here"] (iY K):=by
 refine F.ok scHf (fun us H Q E h=>?_) (fun cdv A outer s H us Q E hr h=>?_)
 ·obtain⟨b,t,B,xs,rfl,_⟩:=h;rfl
 ·obtain⟨b,t,B,xs,rfl,hB,v1,ht,q⟩:=h;obtain⟨⟨v,c,l,hb,hv,hc,hl⟩,v9,c9,l9⟩:=id hB;have nd:=scHf.nd;have hu:=cU hr;refine⟨_,ac (cD PassesOwn.never rfl (dQ (bU cN (pv 0) cC (bW ag))) (aO (i:=2) nd rfl (Or.inl rfl)) <|
    ac (aB (i:=3) nd rfl (Or.inl rfl) (bq a9 (by rfl) T.len PySem.boot_len (ab (eQ nHf nHf ["_law_name"] (ah mK) rfl rfl rfl (by decide +kernel) rfl rfl (by decide +kernel) (by decide +kernel) (by decide +kernel) (by decide +kernel)
     (dQ (pv 2)) (fun _ _ _ _ _=>aO (i:=4) ndHf rfl (Or.inl rfl)) (fun _ _ _ _ _=>eF (aG jf (pv 4) (pv 1) (by rfl))) (fun _ _ _ _ _=>pv 4)) ad))) <|
    ai (bc (PW.pt (kU (aG (op_neT0 hu) (pv 2) (aH ad) (aN _)) (iJ (aG tW (aL c7 ag (pv 3)) (bq a9 (by rfl) T.len PySem.boot_len (ab (pv 2) ad)) (aN _))))) (ai (av qD)) aF)) <|
   ai (av qD),?_⟩
  dsimp only[aW,Cx.nox];refine ae fun K_ hK_=>?_;refine⟨_,rfl,_,rfl,b,_,rfl,hb,fun p H1 s1 e1=>?_⟩;have e1:H1 p=some (.tup [.ref v,.ref c]):=e1;have rest:∀(ps:List Str)(a:Addr)(Hx:Hp)(σ2:Option V)(D:gT)(v3:Option V),H1 a=some (.tup (ps.map V.str))->ps.length <= 9->ar H1 Hx->True:=fun _ _ _ _ _ _ _ _ _=>trivial;refine⟨p,rfl,⟨_,SqT.of e1⟩,fM (K:=K) (xs:=[V.ref v,V.ref c]) (fun i σ Hx=>∃(v2 v3:Option V),σ=[some (V.ref b),some (V.ref t),v2,v3]/\ar H1 Hx/\(1 <= i->fB B.vs xs=true)/\(2 <= i->bB B xs=true)) ⟨none,none,rfl,ar.refl _,fun z=>absurd z (by decide),fun z=>absurd z (by decide)⟩ ?_ ?_ ?_⟩
  ·rintro i σ Hx hi ⟨v2,v3,rfl,sx,_⟩;exact SqT.of (sx _ _ e1)
  ·rintro i x σ Hx hx ⟨v2,v3,rfl,sx,h1,h2⟩;have hx':∃(ps:List Str)(a:Addr),x=.ref a/\Hx a=some (.tup (ps.map V.str))/\ps.length <= 9/\((i=0/\ps=B.vs)\/(i=1/\ps=B.cs)):=by
    match i,hx with
    | 0,hx=>cases hx;exact⟨B.vs,v,rfl,sx _ _ (s1 _ _ hv),v9,.inl ⟨rfl,rfl⟩⟩
    | 1,hx=>cases hx;exact⟨B.cs,c,rfl,sx _ _ (s1 _ _ hc),c9,.inr ⟨rfl,rfl⟩⟩
    | _ + 2,hx=>cases hx
   obtain⟨ps,a,rfl,ha,pl9,hps⟩:=hx';refine ae fun K_ hK_=>?_;refine⟨_,rfl,a,rfl,⟨_,SqT.of ha⟩,?_⟩;refine lcFU (fun u=>inV u (xs.map V.str)) rfl ha (by rw[length_map];lia) (fun D y ys post hD hy hpost=>?_) (fun D hD=>?_)
   ·obtain⟨z,hz,rfl⟩:=List.mem_map.mp hy;exact⟨_,rfl,_,rfl,t,_,rfl,((ht.same s1).same sx).same (ar.new hD),rfl,cv xs,_,rfl,hpost⟩
   rw[hU];have s5:=ar.new (o:=.lst ((ps.filter fun x=>decide (x ∈ xs)).map V.str)) hD;have e5:upd Hx D (.lst ((ps.filter fun x=>decide (x ∈ xs)).map V.str)) D=some (.lst ((ps.filter fun x=>decide (x ∈ xs)).map V.str)):=af;generalize upd Hx D (.lst ((ps.filter fun x=>decide (x ∈ xs)).map V.str))=H5 at s5 e5 ⊢;refine⟨D,_,rfl,.inl (SqL.of e5),?_⟩;refine hK_ _ _ ?_;rw[length_map];refine⟨_,rfl,Nat.zero_le _,fun p6 H6 n6 s6 e6=>?_⟩;have sx6:=(sx.trans s5).trans s6;have ha6:=s6 _ _ (s5 _ _ ha);refine⟨a,p6,_,rfl,rfl,SqT.of ha6,SqT.of e6,_,rfl,?_⟩;have fin:∀(hh:fB ps xs=true\/(i=1/\ps=[])),∃(v2 v3':Option V),[some (V.ref b),some (V.ref t),some (V.ref a),some (V.int (((ps.filter fun x=>decide (x ∈ xs)).length:Nat):Int))]=[some (V.ref b),some (V.ref t),v2,v3']/\ar H1 H6/\(1 <= i + 1->fB B.vs xs=true)/\(2 <= i + 1->bB B xs=true):=fun hh=>by
    refine⟨_,_,rfl,sx6,fun _=>?_,fun h2'=>?_⟩
    ·rcases hps with ⟨rfl,rfl⟩ | ⟨rfl,rfl⟩
     ·rcases hh with hh | ⟨z,_⟩
      ·exact hh
      ·cases z
     ·exact h1 (Nat.le_refl _)
    ·rcases hps with ⟨rfl,rfl⟩ | ⟨rfl,rfl⟩
     ·exact absurd h2' (by decide)
     ·unfold bB;rw[h1 (Nat.le_refl _),Bool.true_and];rcases hh with hh | ⟨_,z⟩
      ·rw[hh,Bool.or_true]
      ·rw[decide_eq_true z,Bool.true_or]
   cases hem:(ps.map V.str).isEmpty with
   | true =>
    have hp0:ps=[]:=List.map_eq_nil_iff.mp (List.isEmpty_iff.mp hem);refine bI (fin ?_);rcases hps with ⟨rfl,rfl⟩ | ⟨rfl,rfl⟩
    ·rw[hp0]at v1;exact absurd v1 (by decide)
    ·exact .inr ⟨rfl,hp0⟩
   | false =>
    refine cm ?_;refine⟨_,rfl,_,_,rfl,rfl,.inl ⟨by decide,by decide⟩,_,rfl,a,_,rfl,.inr (SqT.of ha6),_,_,rfl,rfl,_,rfl,?_⟩
    rw[length_map];have eh:decide (2 * (((ps.filter fun x=>decide (x ∈ xs)).length:Nat):Int) <= (ps.length:Int))=!fB ps xs:=by
     rw[<- q0,<- Bool.not_eq_eq_eq_not];rw[Bool.eq_iff_iff,Bool.not_eq_true',decide_eq_false_iff_not,decide_eq_true_iff];lia
    dsimp only;rw[eh];cases hh:fB ps xs with
    | true=>exact bI (fin (.inl hh))
    | false =>
     refine cm ?_;have hB0:bB B xs=false:=by
      unfold bB;rcases hps with ⟨rfl,rfl⟩ | ⟨rfl,rfl⟩
      ·rw[hh];rfl
      ·have hne:B.cs ≠ []:=fun z=>by rw[z]at hem;cases hem
       rw[hh,decide_eq_false hne];simp
     rw[hB0]at q;exact q H6 (s1.trans sx6)
  ·rintro σ Hx ⟨v2,v3,rfl,sx,h1,h2⟩;refine hK_ _ _ ?_;rw[h2 (show 2 <= 2 by decide)]at q
   exact q Hx (s1.trans sx)
end
end K45
namespace L2
open PySem PySem.Spec PyProof.Rows
section
theorem oK{l b:Addr}{xs ys:Array Value}{k m:Nat}{dct:Option Addr}{sl:Array (Option Value)}(h1:¬(!xs.isEmpty && Builtin.List.listTooLong (xs.size + ys.size))=true)(h2:xs.size <= sizeLine)(h3:xs.size + ys.size <= sizeLine + 1) :
  Meets (Builtin.«list.extend» ⟨[.ref l,.ref b],[]⟩) (fun _ R s=>s.heap.get? l=some { cls:=.type "list",data:=.seq xs k }/\s.heap.get? b=some { cls:=.type "tuple",dict:=dct,data:=.seq ys m,slots:=sl }/\R (.ok (.ret Value.none)) { s with heap:=s.heap.update l (Obj.mapSeq fun x=>x ++ ys),toks:=s.toks }):=by
 refine .of_wp fun prog w A R s ⟨ea,eb,q⟩=>?_;obtain⟨hp,g,d,tk,os⟩:=s;have f1:=AutoSeq1.idx_int;have f2:=AutoSeq1.sub_tuple_tuple;have f3:=AutoSeq1.sub_list_list;have f4:=AutoSeq1.sub_tuple_list;have f5:=AutoSeq1.sub_list_tuple;have hz:(xs ++ ys).size <= sizeLine + 1:=by
  rw[Array.size_append];exact h3
 wp_walk using(wpAny_updateSeq ea rfl (hz:=h2) (_hz':=hz)),AutoSeq1.wpAny_loadPart' ea,AutoSeq1.wpAny_loadPart' eb
 exact⟨_,rfl,q⟩
end
section
variable{X:Cx}
theorem qB:MtR X "list.extend" (fun x vs H Q=>∃(l b:Addr)(xs zs:List V),x=.ref l/\vs=[.ref b]/\H l=some (.lst xs)/\H b=some (.tup zs)/\xs.length + zs.length <= 10000 /\
  ∀H1,(∀b o,b ≠ l->H b=some o->H1 b=some o)->H1 l=some (.lst (xs ++ zs))->Q .non H1):=by
 intro pins s σ H x vs v us Q I rx rv h;obtain⟨l,b,xs,zs,rfl,rfl,hH,hB,hz,q⟩:=h;have hs16:sizeLine=16777216:=sizeLine_eq;have q':=q (upd H l (.lst (xs ++ zs))) (fun b o hb e=>by rw[au hb];exact e) af
 cases rx;obtain⟨u,rfl,ru⟩:=rv.one;cases ru;obtain⟨z,its,n,r,hl,e⟩:=I.lstM hH;obtain⟨hz2,its2,r2,o2,eo,ec,n2,ed⟩:=(show bT X.prog X.w H s.heap b (.tup zs) from I.hok b _ hB);obtain⟨cl,dct,dat,sl⟩:=o2;have ec:cl=.type "tuple":=ec;have ed:dat=.seq its2.toArray n2:=ed;subst ec ed;have hl2:=r2.length;have hsz:its.toArray.size + its2.toArray.size <= sizeLine:=by rw[size_toArray,size_toArray];omega
 have hlong:¬(!its.toArray.isEmpty && Builtin.List.listTooLong (its.toArray.size + its2.toArray.size))=true:=by
  rw[um hsz,Bool.and_false];exact Bool.false_ne_true
 refine call_meets F.slot_list_extend ⟨_,e,rfl⟩ F.entry_list_extend (F.args_list_extend_2 _ _)
  (oK (ys:=its2.toArray) (dct:=dct) (sl:=sl) hlong (by rw[size_toArray];omega) (by omega)) ⟨e,eo,?_⟩
 refine⟨.non,_,I.lset (its':=its ++ its2) hH e (by simp) (r.append r2) ?_,rfl,q'⟩
 rw[length_append];omega
end
end L2
namespace K45
open PySem L2
open K45T (Kvs Las Wk aS dr cF de fW bM cK jp)
open K45B (df eT fu)
abbrev xg:Stmt:=top 89
abbrev mM:Stmt:=top 90
def FrN(nw jl:Addr)(H H':Hp):Prop:=∀x u,x ≠ nw->x ≠ jl->H x=some u->H' x=some u
theorem FrN.of{nw jl:Addr}{H H':Hp}(s:ar H H'):FrN nw jl H H':=fun _ _ _ _ e=>s _ _ e
theorem FrN.trans{nw jl:Addr}{H H1 H2:Hp}(a:FrN nw jl H H1)(b:FrN nw jl H1 H2):FrN nw jl H H2:=fun x u n1 n2 e=>b x u n1 n2 (a x u n1 n2 e)
theorem FrN.w{nw jl:Addr}{H H':Hp}(b:BtO nw H H'):FrN nw jl H H':=fun x u n1 _ e=>b _ _ n1 e
theorem FrN.j{nw jl:Addr}{H H':Hp}(b:BtO jl H H'):FrN nw jl H H':=fun x u _ n2 e=>b _ _ n2 e
structure Vw(H:Hp)(nw yl jl:Addr)(js:List V)(g:Gs):Prop where
 ng:NwG H nw yl jl g
 dj:H jl=some (.lst js)
theorem Vw.same{H H':Hp}{nw yl jl:Addr}{js:List V}{g:Gs}(e:ar H H')(h:Vw H nw yl jl js g):Vw H' nw yl jl js g:=⟨h.ng.same e,e _ _ h.dj⟩
theorem Vw.put{H H':Hp}{nw yl jl yl2:Addr}{js:List V}{g g':Gs}(h:Vw H nw yl jl js g)(b:BtO nw H H')(e:H' nw=some (.dK (kvN g'.t g'.v g'.s g'.st g'.en g'.nm g'.wa g'.ro g'.kn g'.qu yl2 jl)))(hr:j5 H g->j5 H g'):Vw H' nw yl2 jl js g':=by
 have k:TkZ H H':=TkZ.bt b h.ng.dn (fun _ z=>by cases z) (fun _ _ z=>by cases z)
 exact⟨⟨e,(hr h.ng.rt).tk k.t⟩,b _ _ (ax h.dj h.ng.dn (by intro z;cases z)) h.dj⟩
theorem da{t:Int}{v:V}{s:Int}{st en:Addr}{nm:Str}{wa:Int}{ro:Str}{kn:V}{qu:Int}{yl jl:Addr}:(kvN t v s st en nm wa ro kn qu yl jl).length < sizeLine:=by rw[sizeLine_eq,kvN_len];decide
theorem j5.of{H:Hp}{g g':Gs}(h:j5 H g)(e1:g'.st=g.st)(e2:g'.en=g.en)(e3:g'.es=g.es)(e4:g'.xs=g.xs)(e5:g'.b=g.b)(e6:g'.B0=g.B0)(e7:g'.pl=g.pl)(e8:g'.tm=g.tm):j5 H g':=by
 obtain⟨hh,aa,h1⟩:=h.st;exact⟨⟨hh,aa,by rw[e1,e5,e7,e8];exact h1⟩,by rw[e2,e3];exact h.en,by rw[e3,e4];exact h.eo,by rw[e5,e6];exact h.bo,by rw[e3];exact h.el,by rw[e6];exact h.b1,by rw[e4];exact h.gd⟩
noncomputable abbrev gS (g:Gs):Gs:={ g with t:=g.t + 1,v:=.str g.nm,kn:=.non,ro:="chair",se:=.non,qu:=0,ys:=[g.nm] }
def qC:Sp:=fun us H Q _=>∃(nw yl jl:Addr)(js:List V)(g:Gs),us=[.ref nw]/\Vw H nw yl jl js g/\js.length <= 900/\bB g.bn [g.nm]=true/\∀(p a yl2:Addr)(H':Hp),FrN nw jl H H'->Vw H' nw yl2 jl (js ++ [.ref a]) (gS g)->d9 H' a (g.t + 1) g.nm (.int g.lp) (.int g.lt)->H' p=some (.tup [])->Q (.ref p) H'
def mN:Sp:=fun us H Q _=>∃(nw yl jl:Addr)(js:List V)(g:Gs),us=[.ref nw]/\Vw H nw yl jl js g/\js.length <= 900/\g.pl <= g.s /\
 ((g.qu + 1 < g.wa\/gy g=false)->∀(p:Addr)(H':Hp),FrN nw jl H H'->Vw H' nw yl jl js { g with qu:=g.qu + 1 }->H' p=some (.tup [])->Q (.ref p) H') /\
 (g.wa <= g.qu + 1->gy g=true->bB g.bn [g.nm]=true->∀(p a yl2:Addr)(H':Hp),FrN nw jl H H'->Vw H' nw yl2 jl (js ++ [.ref a]) (gS g)->d9 H' a (g.t + 1) g.nm (.int g.lp) (.int g.lt)->H' p=some (.tup [])->Q (.ref p) H') /\
 (g.wa <= g.qu + 1->gy g=true->bB g.bn [g.nm]=false->∀(p yl2:Addr)(as:List Addr)(zs:List Str)(H':Hp),FrN nw jl H H'->Vw H' nw yl2 jl js { g with kn:=.non,ro:="looker",se:=.non,qu:=0,ys:=[g.nm] }->j4 H' p "look" g.nm (g.t + 1) g.lp g.lt g.bn as zs->Q (.ref p) H')
section
variable{P:Program}{w:World}{K:Frag}{mg:Str->Option Value}{base:Heap}
noncomputable abbrev nSd:List Str:=["_law_now","_law_place","_law_last_here"]
theorem scSd:ao nSd ["_law_now"] (ah xg):=fsc (by decide +kernel)
theorem ok_stdL {f:Addr} {fd:FuncData} (F:Fun K "_law_standing" "_law_standing" xg f fd) (Fl:aJ P w K mg base 1 "_law_last" ["_law_now"] iX) (Fm:aJ P w K mg base 2 "_law_my_bench" ["_law_now"] oJ) (Fh:aJ P w K mg base 1 "_law_half" ["_law_bench_here","_law_names_here"] (iY K)):aI P w K mg base CX0 3 f fd ["_law_now"] qC:=by
 refine F.ok scSd (fun us H Q E h=>?_) (fun cdv A outer s H us Q E hr h=>?_)
 ·obtain⟨nw,yl,jl,js,g,rfl,_⟩:=h;rfl
 ·obtain⟨nw,yl,jl,js,g,rfl,G,hjs,hf,q⟩:=h;have nd:=scSd.nd;have hs16:sizeLine=16777216:=sizeLine_eq;have hu:=cU hr;have r1:aP 1 _:=hr.mono (by decide)
  refine⟨_,ac (br hu (pv 0) aq (aL bu (aA hu (pv 0) aq (fun _ _=>rfl)) ag) rfl) <|
   ac (br hu (pv 0) aq (aA hu (pv 0) aq (fun _ _=>rfl)) rfl) <|
   ac (br hu (pv 0) aq (bg (ab (aA hu (pv 0) aq (fun _ _=>rfl)) ad)) rfl) <|
   ac (br hu (pv 0) aq aq rfl) <|
   ac (br hu (pv 0) aq cj rfl) <|
   ac (br hu (pv 0) aq ag rfl) <|
   ac (kW (aj Fl r1 (ab (pv 0) ad)) (gW rfl (bO (aO (i:=1) nd rfl (Or.inr rfl)) (bO (aO (i:=2) nd rfl (Or.inr rfl)) fK)))) <|
   ac (aZ (fZ PySem.F.plainAttrs_list PySem.F.slot_list_append PySem.F.type_list_append dN (aA hu (pv 0) aq (fun _ _=>rfl)) (ab (aH (ab aq (ab (aA hu (pv 0) aq (fun _ _=>rfl)) (ab (aA hu (pv 0) aq (fun _ _=>rfl)) (ab (pv 1) (ab (pv 2) ad)))))) ad))) <|
   ac (bc (cb (aj Fh r1 (ab (aj Fm hr (ab (pv 0) ad)) (ab (aA hu (pv 0) aq (fun _ _=>rfl)) ad)))) (ac (br hu (pv 0) aq aq rfl) <| ai (av (aH ad))) aF) bA,?_⟩
  dsimp only[aW,Cx.nox];have hn:=G.ng.dn;refine ae fun K_ hK_=>?_;refine⟨_,rfl,nw,_,rfl,dg hn kQ,_,_,rfl,rfl,_,rfl,nw,_,rfl,cL.k (k:=Sum.inr "term") hn da,?_⟩;dsimp only;rw[kvN_pt];have b1:BtO nw H (upd H nw (.dK (kvN (g.t + 1) g.v g.s g.st g.en g.nm g.wa g.ro g.kn g.qu yl jl))):=BtO.upd;have G1:=G.put (g':={ g with t:=g.t + 1 }) b1 af (fun h=>h.of rfl rfl rfl rfl rfl rfl rfl rfl);refine hK_ _ _ (ae fun K_ hK_=>?_);generalize upd H nw (.dK (kvN (g.t + 1) g.v g.s g.st g.en g.nm g.wa g.ro g.kn g.qu yl jl))=H1 at b1 G1 ⊢;refine⟨_,rfl,nw,_,rfl,dg G1.ng.dn eN,_,rfl,nw,_,rfl,cL.k (k:=Sum.inr "voted") G1.ng.dn da,?_⟩;rw[kvN_pv];have b2:BtO nw H1 (upd H1 nw (.dK (kvN (g.t + 1) (.str g.nm) g.s g.st g.en g.nm g.wa g.ro g.kn g.qu yl jl))):=BtO.upd;have G2:=G1.put (g':={ g with t:=g.t + 1,v:=.str g.nm }) b2 af (fun h=>h.of rfl rfl rfl rfl rfl rfl rfl rfl);refine hK_ _ _ (ae fun K_ hK_=>?_);generalize upd H1 nw (.dK (kvN (g.t + 1) (.str g.nm) g.s g.st g.en g.nm g.wa g.ro g.kn g.qu yl jl))=H2 at b2 G2 ⊢;refine⟨_,rfl,nw,_,rfl,dg G2.ng.dn eN,(show 1 <= sizeLine by lia),fun yl2 H3 n3 s3 e3=>?_⟩
  have G3:=G2.same s3;refine⟨_,rfl,nw,_,rfl,cL.k (k:=Sum.inr "yes") G3.ng.dn da,?_⟩;rw[xa];have b4:BtO nw H3 (upd H3 nw (.dK (kvN (g.t + 1) (.str g.nm) g.s g.st g.en g.nm g.wa g.ro g.kn g.qu yl2 jl))):=BtO.upd;have G4:=G3.put (yl2:=yl2) (g':={ g with t:=g.t + 1,v:=.str g.nm,ys:=[g.nm] }) b4 af (fun h=>h.of rfl rfl rfl rfl rfl rfl rfl rfl);have ey4:upd H3 nw (.dK (kvN (g.t + 1) (.str g.nm) g.s g.st g.en g.nm g.wa g.ro g.kn g.qu yl2 jl)) yl2=some (.lst [.str g.nm]):=by rw[au (ax e3 G3.ng.dn (by intro z;cases z))];exact e3
  refine hK_ _ _ (ae fun K_ hK_=>?_);generalize upd H3 nw (.dK (kvN (g.t + 1) (.str g.nm) g.s g.st g.en g.nm g.wa g.ro g.kn g.qu yl2 jl))=H4 at b4 G4 ey4 ⊢;refine⟨_,rfl,nw,_,rfl,cL.k (k:=Sum.inr "role") G4.ng.dn da,?_⟩;rw[qx];have b5:BtO nw H4 (upd H4 nw (.dK (kvN (g.t + 1) (.str g.nm) g.s g.st g.en g.nm g.wa "asker" g.kn g.qu yl2 jl))):=BtO.upd;have G5:=G4.put (yl2:=yl2) (g':={ g with t:=g.t + 1,v:=.str g.nm,ys:=[g.nm],ro:="asker" }) b5 af (fun h=>h.of rfl rfl rfl rfl rfl rfl rfl rfl);refine hK_ _ _ (ae fun K_ hK_=>?_);generalize upd H4 nw (.dK (kvN (g.t + 1) (.str g.nm) g.s g.st g.en g.nm g.wa "asker" g.kn g.qu yl2 jl))=H5 at b5 G5 ⊢;refine⟨_,rfl,nw,_,rfl,cL.k (k:=Sum.inr "known") G5.ng.dn da,?_⟩;rw[wZ];have b6:BtO nw H5 (upd H5 nw (.dK (kvN (g.t + 1) (.str g.nm) g.s g.st g.en g.nm g.wa "asker" .non g.qu yl2 jl))):=BtO.upd;have G6:=G5.put (yl2:=yl2) (g':={ g with t:=g.t + 1,v:=.str g.nm,ys:=[g.nm],ro:="asker",kn:=.non }) b6 af (fun h=>h.of rfl rfl rfl rfl rfl rfl rfl rfl);refine hK_ _ _ (ae fun K_ hK_=>?_);generalize upd H5 nw (.dK (kvN (g.t + 1) (.str g.nm) g.s g.st g.en g.nm g.wa "asker" .non g.qu yl2 jl))=H6 at b6 G6 ⊢;refine⟨_,rfl,nw,_,rfl,cL.k (k:=Sum.inr "quiet") G6.ng.dn da,?_⟩;rw[qy];have b7:BtO nw H6 (upd H6 nw (.dK (kvN (g.t + 1) (.str g.nm) g.s g.st g.en g.nm g.wa "asker" .non 0 yl2 jl))):=BtO.upd;have G7:=G6.put (yl2:=yl2) (g':={ g with t:=g.t + 1,v:=.str g.nm,ys:=[g.nm],ro:="asker",kn:=.non,qu:=0 }) b7 af (fun h=>h.of rfl rfl rfl rfl rfl rfl rfl rfl);have b47:BtO nw H4 (upd H6 nw (.dK (kvN (g.t + 1) (.str g.nm) g.s g.st g.en g.nm g.wa "asker" .non 0 yl2 jl))):=b5.trans (b6.trans b7);refine hK_ _ _ (ae fun K_ hK_=>?_);generalize upd H6 nw (.dK (kvN (g.t + 1) (.str g.nm) g.s g.st g.en g.nm g.wa "asker" .non 0 yl2 jl))=H7 at b7 G7 b47 ⊢;have ey7:H7 yl2=some (.lst [.str g.nm]):=b47 _ _ (ax ey4 G4.ng.dn (by intro z;cases z)) ey4
  have f7:FrN nw jl H H7:=(FrN.w (b1.trans b2)).trans ((FrN.of s3).trans (FrN.w (b4.trans b47)));refine⟨_,rfl,nw,yl2,jl,{ g with t:=g.t + 1,v:=.str g.nm,ys:=[g.nm],ro:="asker",kn:=.non,qu:=0 },rfl,G7.ng,fun p8 H8 s8 e8=>?_⟩;have G8:=G7.same s8;refine⟨p8,_,rfl,SqT.of e8,rfl,_,_,rfl,_,_,rfl,rfl,?_⟩;refine hK_ _ _ (ae fun K_ hK_=>?_);refine⟨_,rfl,nw,_,rfl,dg G8.ng.dn wY,.inl ⟨rfl,_,SqL.of G8.dj⟩,_,rfl,nw,_,rfl,dg G8.ng.dn kQ,_,rfl,nw,_,rfl,dg G8.ng.dn eN,_,rfl,_,rfl,(show 5 <= sizeLine by lia),fun a H9 n9 s9 e9=>?_⟩
  have G9:=G8.same s9;refine⟨jl,js,.ref a,rfl,rfl,G9.dj,by lia,fun H10 k10 e10=>?_⟩
  have b10:BtO jl H9 H10:=fun b u n e=>k10 b u n e;have t10:=TkZ.lst b10 G9.dj;have G10:Vw H10 nw yl2 jl (js ++ [.ref a]) { g with t:=g.t + 1,v:=.str g.nm,ys:=[g.nm],ro:="asker",kn:=.non,qu:=0 }:=⟨⟨b10 _ _ (ax G9.ng.dn G9.dj (by intro z;cases z)) G9.ng.dn,G9.ng.rt.tk t10.t⟩,e10⟩
  have hv10:d9 H10 a (g.t + 1) g.nm (.int g.lp) (.int g.lt):=t10.t _ _ e9;have nyj:yl2 ≠ jl:=fun z=>by
   have h0:=G2.dj;rw[<- z,n3]at h0;cases h0
  have ey10:H10 yl2=some (.lst [.str g.nm]):=b10 _ _ nyj (s9 _ _ (s8 _ _ ey7));refine hK_ _ _ (ae fun K_ hK_=>?_);refine⟨_,rfl,nw,yl2,jl,{ g with t:=g.t + 1,v:=.str g.nm,ys:=[g.nm],ro:="asker",kn:=.non,qu:=0 },rfl,G10.ng,fun ba H11 s11 hB=>?_⟩;have G11:=G10.same s11;refine⟨_,rfl,nw,_,rfl,dg G11.ng.dn wX,ba,yl2,g.bn,[g.nm],rfl,hB,kR G.ng.rt.b1 G.ng.rt.gd,.inl (SqL.of (s11 _ _ ey10)),fun H12 s12=>⟨_,rfl,?_⟩⟩;rw[hf];refine cm ?_;have G12:=G11.same s12;refine ae fun K_ hK_=>?_;refine⟨_,rfl,nw,_,rfl,cL.k (k:=Sum.inr "role") G12.ng.dn da,?_⟩;rw[qx];have b13:BtO nw H12 (upd H12 nw (.dK (kvN (g.t + 1) (.str g.nm) g.s g.st g.en g.nm g.wa "chair" .non 0 yl2 jl))):=BtO.upd;have G13:=G12.put (yl2:=yl2) (g':=gS g) b13 af (fun h=>h.of rfl rfl rfl rfl rfl rfl rfl rfl);have t13:TkZ H12 (upd H12 nw (.dK (kvN (g.t + 1) (.str g.nm) g.s g.st g.en g.nm g.wa "chair" .non 0 yl2 jl))):=TkZ.bt b13 G12.ng.dn (fun _ z=>by cases z) (fun _ _ z=>by cases z)
  refine hK_ _ _ ?_;refine⟨Nat.zero_le _,fun p H14 n14 s14 e14=>?_⟩;refine q p a yl2 H14 (f7.trans ((FrN.of (s8.trans s9)).trans ((FrN.j b10).trans ((FrN.of (s11.trans s12)).trans ((FrN.w b13).trans (FrN.of s14)))))) (G13.same s14) ?_ e14;exact s14 _ _ (t13.t _ _ (s12 _ _ (s11 _ _ hv10)))
end
section
variable{P:Program}{w:World}{K:Frag}{mg:Str->Option Value}{base:Heap}
noncomputable abbrev nTn:List Str:=["_law_now","_law_known","_law_bench_here","_law_place","_law_last_here"]
theorem scTn:ao nTn ["_law_now"] (ah mM):=fsc (by decide +kernel)
theorem ndTn:(nTn ++ (["_law_name"]:List Str)).Nodup:=by decide +kernel
theorem xh {f:Addr} {fd:FuncData} (F:Fun K "_law_turn" "_law_turn" mM f fd) (T:Blw mg) (Fa:aJ P w K mg base 1 "_law_bench_at" ["_law_now","_law_place"] rm) (Fm:aJ P w K mg base 2 "_law_my_bench" ["_law_now"] oJ) (Fl:aJ P w K mg base 1 "_law_last" ["_law_now"] iX) (Fo:aJ P w K mg base 3 "_law_others" ["_law_now"] qA) (Fh:aJ P w K mg base 1 "_law_half" ["_law_bench_here","_law_names_here"] (iY K)) (Fs:aJ P w K mg base 3 "_law_standing" ["_law_now"] qC):aI P w K mg base CX0 4 f fd ["_law_now"] mN:=by
 refine F.ok scTn (fun us H Q E h=>?_) (fun cdv A outer s H us Q E hr h=>?_)
 ·obtain⟨nw,yl,jl,js,g,rfl,_⟩:=h;rfl
 ·obtain⟨nw,yl,jl,js,g,rfl,G,hjs,hps,q1,q2,q3⟩:=h;have nd:=scTn.nd;have hs16:sizeLine=16777216:=sizeLine_eq;have hu:=cU hr;have r1:aP 1 _:=hr.mono (by decide)
  have r2:aP 2 _:=hr.mono (by decide)
  refine⟨_,ac (br hu (pv 0) aq (aL bu (aA hu (pv 0) aq (fun _ _=>rfl)) ag) rfl) <|
   ac (aB (i:=1) nd rfl (Or.inl rfl) (bg ad)) <|
   ac (cD PassesOwn.never rfl (ej (bg (ab (aj Fm r2 (ab (pv 0) ad)) (ab (aj Fa r1 (ab (pv 0) (ab (aA hu (pv 0) aq (fun _ _=>rfl)) ad))) ad)))) (aO (i:=2) nd rfl (Or.inl rfl)) <|
    ai (aZ (fZ PySem.F.plainAttrs_list PySem.F.slot_list_extend PySem.F.type_list_extend qB (pv 1) (ab (aL dq (aE az (pv 2) ag (fun _ _=>rfl)) (aE az (pv 2) ag (fun _ _=>rfl))) ad)))) <|
   ac (bc (PW.pt (io (aG j7 (aA hu (pv 0) aq (fun _ _=>rfl)) (aA hu (pv 0) aq (fun _ _=>rfl)) (aN _)) (gU (aG di (aA hu (pv 0) aq (fun _ _=>rfl)) (pv 1) (by rfl))))) (ai (av (aH ad))) aF) <|
   ac (br hu (pv 0) aq aq rfl) <|
   ac (br hu (pv 0) aq cj rfl) <|
   ac (br hu (pv 0) aq ag rfl) <|
   ac (br hu (pv 0) aq (bg (ab (aA hu (pv 0) aq (fun _ _=>rfl)) ad)) rfl) <|
   ac (bc (cb (aj Fh r1 (ab (aj Fm r2 (ab (pv 0) ad)) (ab (aA hu (pv 0) aq (fun _ _=>rfl)) ad)))) (ai (av (aj Fs hr (ab (pv 0) ad)))) aF) <|
   ac (kW (aj Fl r1 (ab (pv 0) ad)) (gW rfl (bO (aO (i:=3) nd rfl (Or.inr rfl)) (bO (aO (i:=4) nd rfl (Or.inr rfl)) fK)))) <|
   ai (av (be bh (by rfl) T.tuple ce (ab (eQ nTn nTn ["_law_name"] (ah mM) rfl rfl rfl (by decide +kernel) rfl rfl (by decide +kernel) (by decide +kernel) (by decide +kernel) (by decide +kernel)
    (ej (aj Fo hr (ab (pv 0) ad))) (fun _ _ _ _ _=>aO (i:=5) ndTn rfl (Or.inl rfl)) (fun _ _ _ _ _=>eB) (fun _ _ _ _ _=>aH (ab aq (ab (aA hu (pv 0) aq (fun _ _=>rfl)) (ab (pv 5) (ab (aL bu (aA hu (pv 0) aq (fun _ _=>rfl)) ag) (ab (pv 3) (ab (pv 4) ad)))))))) ad))),?_⟩
  dsimp only[aW,Cx.nox];have hn:=G.ng.dn;obtain⟨k,hk⟩:=Int.eq_ofNat_of_zero_le (show 0 <= g.s - g.pl by lia)
  refine ae fun K_ hK_=>?_;refine⟨_,rfl,nw,_,rfl,dg hn wW,_,_,rfl,rfl,_,rfl,nw,_,rfl,cL.k (k:=Sum.inr "quiet") hn da,?_⟩;dsimp only;rw[qy];have b1:BtO nw H (upd H nw (.dK (kvN g.t g.v g.s g.st g.en g.nm g.wa g.ro g.kn (g.qu + 1) yl jl))):=BtO.upd;have G1:=G.put (g':={ g with qu:=g.qu + 1 }) b1 af (fun h=>h.of rfl rfl rfl rfl rfl rfl rfl rfl);refine hK_ _ _ (ae fun K_ hK_=>?_);generalize upd H nw (.dK (kvN g.t g.v g.s g.st g.en g.nm g.wa g.ro g.kn (g.qu + 1) yl jl))=H1 at b1 G1 ⊢;refine⟨Nat.zero_le _,fun kl H2 nkl s2 ekl=>?_⟩;have G2:=G1.same s2;refine hK_ _ _ (ae fun K_ hK_=>?_);refine⟨_,rfl,nw,yl,jl,{ g with qu:=g.qu + 1 },rfl,G2.ng,fun ba H3 s3 hBa=>?_⟩;have G3:=G2.same s3;refine⟨_,rfl,_,rfl,nw,_,rfl,dg G3.ng.dn rg,nw,yl,jl,{ g with qu:=g.qu + 1 },k,?_,G3.ng,fun bs H4 s4 hBs=>?_⟩
  ·show [V.ref nw,V.int g.s]=[V.ref nw,V.int (g.pl + (k:Int))];rw[show g.pl + (k:Int)=g.s by lia]
  refine⟨(show 2 <= sizeLine by lia),fun bl H5 nbl s5 ebl=>?_⟩
  have s25:=(s3.trans s4).trans s5;have G5:=G2.same s25;have hBa5:BnO H5 ba g.bn:=(hBa.tk (Tk.of s4)).tk (Tk.of s5);have hBs5:BnO H5 bs (bV g.B0 (g.xs.take k)):=hBs.tk (Tk.of s5);have ekl5:=s25 _ _ ekl;have nkb:kl ≠ bl:=fun z=>by rw[z]at ekl;rw[s4 _ _ (s3 _ _ ekl)]at nbl;cases nbl
  have nkw:kl ≠ nw:=ax ekl G2.ng.dn (by intro z;cases z)
  have nkj:kl ≠ jl:=fun z=>by
   have h0:=G1.dj;rw[<- z,nkl]at h0;cases h0
  refine⟨bl,rfl,⟨_,SqL.of ebl⟩,mX (K:=K) (xs:=[V.ref ba,V.ref bs]) (fun i σ Hx=>∃(v2:Option V)(ks:List Str),σ=[some (V.ref nw),some (V.ref kl),v2,none,none]/\Hx kl=some (.lst (ks.map V.str))/\BtO kl H5 Hx/\ks.length <= 18 * i/\(i=0->ks=[])/\(i=1->ks=g.bn.vs ++ g.bn.cs)/\(i=2->ks=(g.bn.vs ++ g.bn.cs) ++ ((bV g.B0 (g.xs.take k)).vs ++ (bV g.B0 (g.xs.take k)).cs)))
   ⟨none,[],rfl,ekl5,BtO.refl _ _,Nat.zero_le _,fun _=>rfl,fun z=>absurd z (by decide),fun z=>absurd z (by decide)⟩ ?_ ?_ ?_⟩
  ·rintro i σ Hx hi ⟨v2,ks,rfl,h1,h2,_⟩;exact SqL.of (h2 _ _ nkb.symm ebl)
  ·rintro i x σ Hx hx ⟨v2,ks,rfl,h1,h2,h3,h4,h5,h6⟩;have hx':∃(a:Addr)(B:Bn),x=.ref a/\BnO Hx a B/\((i=0/\B=g.bn)\/(i=1/\B=bV g.B0 (g.xs.take k))):=by
    have tk:=(TkZ.lst h2 ekl5).t
    match i,hx with
    | 0,hx=>cases hx;exact⟨ba,_,rfl,hBa5.tk tk,.inl ⟨rfl,rfl⟩⟩
    | 1,hx=>cases hx;exact⟨bs,_,rfl,hBs5.tk tk,.inr ⟨rfl,rfl⟩⟩
    | _ + 2,hx=>cases hx
   obtain⟨a,B,rfl,⟨⟨v,c,l,hb,hv,hc,hl⟩,v9,c9,l9⟩,hi⟩:=hx';refine⟨_,rfl,.inl ⟨rfl,_,SqL.of h1⟩,_,rfl,ex4 a _ _ _ ⟨rfl,rfl,SqT.of hb,at0,_,rfl,ex4 a _ _ _ ⟨rfl,rfl,SqT.of hb,at1,v,c,_,_,rfl,rfl,hv,hc,by simp only[length_map];lia,fun p H6 s6 ep=>?_⟩⟩⟩
   rw[<- List.map_append]at ep;refine⟨kl,p,_,_,rfl,rfl,s6 _ _ h1,ep,by simp only[length_map,length_append];lia,fun H7 k7 e7=>?_⟩
   rw[<- List.map_append]at e7;refine⟨_,ks ++ (B.vs ++ B.cs),rfl,e7,h2.trans ((BtO.of s6).trans fun b u n e=>k7 b u n e),by simp only[length_append];lia,fun z=>absurd z (by lia),fun z=>?_,fun z=>?_⟩
   ·have hi0:i=0:=by lia
    rcases hi with ⟨_,rfl⟩ | ⟨h,_⟩
    ·rw[h4 hi0];rfl
    ·lia
   ·have hi1:i=1:=by lia
    rcases hi with ⟨h,_⟩ | ⟨_,rfl⟩
    ·lia
    ·rw[h5 hi1]
  ·rintro σ Hx ⟨v2,ks,rfl,h1,h2,h3,h4,h5,h6⟩;have hks:=h6 rfl;have tkx:=TkZ.lst h2 ekl5;have Gx:Vw Hx nw yl jl js { g with qu:=g.qu + 1 }:=⟨⟨h2 _ _ nkw.symm G5.ng.dn,G5.ng.rt.tk tkx.t⟩,h2 _ _ nkj.symm G5.dj⟩;have fx:FrN nw jl H Hx:=(FrN.w b1).trans fun x u n1 n2 e=>h2 _ _ (fun z=>by rw[z,nkl]at e;cases e) (s25 _ _ (s2 _ _ e))
   have hmay:decide (g.nm ∈ ks)=gy g:=by
    unfold gy;rw[hks,show (g.s - g.pl).toNat=k by lia,Bool.eq_iff_iff,Bool.or_eq_true,decide_eq_true_iff,decide_eq_true_iff,decide_eq_true_iff,mem_append]
   refine hK_ _ _ (ae fun K_ hK_=>?_);refine⟨_,rfl,nw,_,rfl,dg Gx.ng.dn wW,_,rfl,nw,_,rfl,dg Gx.ng.dn mG,_,_,rfl,rfl,_,rfl,?_⟩;have hquiet:(g.qu + 1 < g.wa\/gy g=false)->∀p H',ar Hx H'->H' p=some (.tup [])->Q (.ref p) H':=fun hq p H' s' e'=>q1 hq p H' (fx.trans (FrN.of s')) (Gx.same s') e';refine dl (fun z=>?_) (fun z=>?_)
   ·have z:=of_decide_eq_true z;exact cm ⟨Nat.zero_le _,fun p H6 n6 s6 e6=>hquiet (.inl z) p H6 s6 e6⟩
   ·have z:¬(g.qu + 1 < g.wa):=fun y=>z (decide_eq_true y);refine⟨_,rfl,nw,_,rfl,dg Gx.ng.dn eN,_,rfl,kl,_,rfl,.inl (SqL.of h1),rfl,cv ks,_,rfl,?_⟩;rw[eI,hmay];cases hm:gy g with
    | false=>exact cm ⟨Nat.zero_le _,fun p H6 n6 s6 e6=>hquiet (.inr hm) p H6 s6 e6⟩
    | true =>
     refine bI ?_;refine hK_ _ _ (ae fun K_ hK_=>?_);refine⟨_,rfl,nw,_,rfl,cL.k (k:=Sum.inr "role") Gx.ng.dn da,?_⟩;rw[qx];have c1:BtO nw Hx (upd Hx nw (.dK (kvN g.t g.v g.s g.st g.en g.nm g.wa "looker" g.kn (g.qu + 1) yl jl))):=BtO.upd;have L1:=Gx.put (yl2:=yl) (g':={ g with qu:=g.qu + 1,ro:="looker" }) c1 af (fun h=>h.of rfl rfl rfl rfl rfl rfl rfl rfl);refine hK_ _ _ (ae fun K_ hK_=>?_);generalize upd Hx nw (.dK (kvN g.t g.v g.s g.st g.en g.nm g.wa "looker" g.kn (g.qu + 1) yl jl))=Y1 at c1 L1 ⊢;refine⟨_,rfl,nw,_,rfl,cL.k (k:=Sum.inr "known") L1.ng.dn da,?_⟩;rw[wZ];have c2:BtO nw Y1 (upd Y1 nw (.dK (kvN g.t g.v g.s g.st g.en g.nm g.wa "looker" .non (g.qu + 1) yl jl))):=BtO.upd;have L2':=L1.put (yl2:=yl) (g':={ g with qu:=g.qu + 1,ro:="looker",kn:=.non }) c2 af (fun h=>h.of rfl rfl rfl rfl rfl rfl rfl rfl);refine hK_ _ _ (ae fun K_ hK_=>?_);generalize upd Y1 nw (.dK (kvN g.t g.v g.s g.st g.en g.nm g.wa "looker" .non (g.qu + 1) yl jl))=Y2 at c2 L2' ⊢;refine⟨_,rfl,nw,_,rfl,cL.k (k:=Sum.inr "quiet") L2'.ng.dn da,?_⟩;rw[qy];have c3:BtO nw Y2 (upd Y2 nw (.dK (kvN g.t g.v g.s g.st g.en g.nm g.wa "looker" .non 0 yl jl))):=BtO.upd;have L3:=L2'.put (yl2:=yl) (g':={ g with qu:=0,ro:="looker",kn:=.non }) c3 af (fun h=>h.of rfl rfl rfl rfl rfl rfl rfl rfl);refine hK_ _ _ (ae fun K_ hK_=>?_);generalize upd Y2 nw (.dK (kvN g.t g.v g.s g.st g.en g.nm g.wa "looker" .non 0 yl jl))=Y3 at c3 L3 ⊢;refine⟨_,rfl,nw,_,rfl,dg L3.ng.dn eN,(show 1 <= sizeLine by lia),fun yl2 Y4 n4 s4' e4=>?_⟩
     have L4:=L3.same s4';refine⟨_,rfl,nw,_,rfl,cL.k (k:=Sum.inr "yes") L4.ng.dn da,?_⟩;rw[xa];have c5:BtO nw Y4 (upd Y4 nw (.dK (kvN g.t g.v g.s g.st g.en g.nm g.wa "looker" .non 0 yl2 jl))):=BtO.upd;have L5:=L4.put (yl2:=yl2) (g':={ g with kn:=.non,ro:="looker",se:=.non,qu:=0,ys:=[g.nm] }) c5 af (fun h=>h.of rfl rfl rfl rfl rfl rfl rfl rfl);have ey5:upd Y4 nw (.dK (kvN g.t g.v g.s g.st g.en g.nm g.wa "looker" .non 0 yl2 jl)) yl2=some (.lst [.str g.nm]):=by rw[au (ax e4 L4.ng.dn (by intro z;cases z))];exact e4
     have f5:FrN nw jl H (upd Y4 nw (.dK (kvN g.t g.v g.s g.st g.en g.nm g.wa "looker" .non 0 yl2 jl))):=fx.trans ((FrN.w (c1.trans (c2.trans c3))).trans ((FrN.of s4').trans (FrN.w c5)));refine hK_ _ _ (ae fun K_ hK_=>?_);generalize upd Y4 nw (.dK (kvN g.t g.v g.s g.st g.en g.nm g.wa "looker" .non 0 yl2 jl))=Y5 at c5 L5 ey5 f5 ⊢;refine⟨_,rfl,nw,yl2,jl,{ g with kn:=.non,ro:="looker",se:=.non,qu:=0,ys:=[g.nm] },rfl,L5.ng,fun b6 Y6 s6 hB6=>?_⟩;have L6:=L5.same s6;refine⟨_,rfl,nw,_,rfl,dg L6.ng.dn wX,b6,yl2,g.bn,[g.nm],rfl,hB6,kR G.ng.rt.b1 G.ng.rt.gd,.inl (SqL.of (s6 _ _ ey5)),fun Y7 s7=>⟨_,rfl,?_⟩⟩;have L7:=L6.same s7;have f7:=f5.trans (FrN.of (s6.trans s7));cases hh:bB g.bn [g.nm] with
     | true =>
      refine cm ?_;refine⟨_,rfl,nw,yl2,jl,js,{ g with kn:=.non,ro:="looker",se:=.non,qu:=0,ys:=[g.nm] },rfl,L7,hjs,hh,fun p a yl3 H' f' V' hv' e'=>?_⟩;exact q2 (by lia) hm hh p a yl3 H' (f7.trans f') V' hv' e'
     | false =>
      refine bI ?_;refine hK_ _ _ (ae fun K_ hK_=>?_);refine⟨_,rfl,nw,yl2,jl,{ g with kn:=.non,ro:="looker",se:=.non,qu:=0,ys:=[g.nm] },rfl,L7.ng,fun p8 Y8 s8 e8=>?_⟩;have L8:=L7.same s8;refine⟨p8,_,rfl,SqT.of e8,rfl,_,_,rfl,_,_,rfl,rfl,?_⟩;refine hK_ _ _ ?_;refine⟨_,rfl,nw,yl2,jl,{ g with kn:=.non,ro:="looker",se:=.non,qu:=0,ys:=[g.nm] },rfl,L8.ng,fun l9 zs Y9 s9 O zl e9=>?_⟩;have L9:=L8.same s9;refine⟨l9,rfl,⟨_,SqL.of e9⟩,?_⟩;have fl:(zs.filter fun x=>!decide (x=g.nm)).length <= zs.length:=List.length_filter_le _ _;refine lcG (xs:=zs.filter fun x=>!decide (x=g.nm)) V.str (fun _=>true) (fun D x y H=>∃a,y=.ref a/\a ≠ D/\wF H a "look" g.nm x (g.t + 1) g.lp g.lt) (fun D x y H H' k ⟨a,e,n,l⟩=>⟨a,e,n,k _ _ n l⟩) rfl e9 (by lia) (fun D x ys H2 post hD hx sm hDD hp=>hp H2 (ar.refl _)) (fun D x ys H4 post hD hx _ sm hDD hp=>?_) (fun D4 H4 us hD4 sm e4 hP=>?_)
      ·have L10:=L9.same sm;refine⟨_,rfl,nw,_,rfl,dg L10.ng.dn eN,_,rfl,_,rfl,nw,_,rfl,dg L10.ng.dn kQ,_,_,rfl,rfl,_,rfl,_,rfl,(show 6 <= sizeLine by lia),fun a H5 n5 s5 e5=>?_⟩
       refine hp _ H5 s5 ⟨a,rfl,fun z=>?_,e5⟩;rw[z,hDD]at n5;cases n5
      ·rw[List.filter_eq_self.mpr (fun _ _=>rfl)]at hP;obtain⟨as,rfl,hA⟩:=Paired.refs (G:=fun a x=>a ≠ D4/\wF H4 a "look" g.nm x (g.t + 1) g.lp g.lt) hP;refine⟨D4,_,rfl,SqL.of e4,fun p H5 n5 s5 e5=>?_⟩;exact q3 (by lia) hm hh p yl2 as zs H5 (f7.trans (FrN.of ((s8.trans s9).trans (sm.trans s5)))) (L9.same (sm.trans s5)) ⟨e5,O,Paired.imp' (fun a x h=>s5 _ _ h.2) hA⟩
end
section
variable{K:Frag}{c:Cs}{H Hx H1 H2:Hp}{R nw yl jl:Addr}{js:List V}{g:Gs}
theorem Lw.offN(h:Lw K c H R nw yl jl js g)(f:FrN nw jl H H1):bZ K c E00 H1 g:=by
 have o2:=h.ap nw (.inr (.inl rfl));have o3:=h.ap jl (.inr (.inr rfl));let Hm:Hp:=fun x=>if x=jl then H1 x else H x
 have b2:BtO jl H Hm:=fun x u n e=>by
  show (if x=jl then H1 x else H x)=some u
  rw[if_neg n];exact e
 have G2:=h.hs.off b2 h.dj (.inl ⟨js,rfl⟩) o3;have en:Hm nw=some (.dK (kvN g.t g.v g.s g.st g.en g.nm g.wa g.ro g.kn g.qu yl jl)):=b2 _ _ h.nR.2 h.dn;have b3:BtO nw Hm H1:=fun x u n e=>by
  have e:(if x=jl then H1 x else H x)=some u:=e
  by_cases hj:x=jl
  ·rw[if_pos hj]at e;exact e
  ·rw[if_neg hj]at e;exact f x u n hj e
 exact G2.off b3 en (.inr ⟨_,rfl⟩) o2
def New(Hx:Hp)(nw jl:Addr)(g:Gs):Prop:=∀x,x=nw\/x=jl\/x=g.ho\/x ∈ g.own->Hx x=none
theorem New.on(n:New Hx nw jl g)(s:ar Hx H)(f:FrN nw jl H H1){g1:Gs}(m:Nm2 H1 H2 g g1):ar Hx H1/\ar Hx H2/\New Hx nw jl g1:=by
 have s1:ar Hx H1:=fun x u e=>f x u (fun z=>by rw[n x (.inl z)]at e;cases e) (fun z=>by rw[n x (.inr (.inl z))]at e;cases e) (s _ _ e)
 refine⟨s1,fun x u e=>m.fr x u (fun z=>by rw[n x (.inr (.inr (.inr z)))]at e;cases e) (s1 _ _ e),fun x hx=>?_⟩
 rcases hx with z | z | z | z
 ·exact n x (.inl z)
 ·exact n x (.inr (.inl z))
 ·exact n x (.inr (.inr (.inl (z.trans m.ho))))
 ·rcases m.ow x z with y | y
  ·exact n x (.inr (.inr (.inr y)))
  ·cases e:Hx x with
   | none=>rfl
   | some u =>
    rw[s1 _ _ e]at y;cases y
theorem Lw.go(h:Lw K c H R nw yl jl js g)(f:FrN nw jl H H1){gv g1:Gs}{yl2:Addr}{js2:List V}(V:Vw H1 nw yl2 jl js2 gv)(m:Nm2 H1 H2 g g1)(M:aK K c H2 g1)(ek:kvN gv.t gv.v gv.s gv.st gv.en gv.nm gv.wa gv.ro gv.kn gv.qu yl2 jl=kvN g1.t g1.v g1.s g1.st g1.en g1.nm g1.wa g1.ro g1.kn g1.qu yl2 jl)(eb:g1.B0=g.B0)(ex:g1.xs=g.xs)(ekn:g1.kn=.non\/∃x,g1.kn=.str x)(ev:g1.v=.non\/∃x,g1.v=.str x):Lw K c H2 R nw yl2 jl js2 g1:=by
 have o1:=h.ap R (.inl rfl);have o2:=h.ap nw (.inr (.inl rfl));have o3:=h.ap jl (.inr (.inr rfl));obtain⟨a,ha⟩:=id h.rr;have r1:=f _ _ h.nR.1.symm h.jR.symm ha;have ap:∀(x:Addr)(u:HO),H1 x=some u->x ∉ g.own->x ∉ g1.own:=fun x u e n z=>by
  rcases m.ow x z with y | y
  ·exact n y
  ·rw[e]at y;cases y
 refine⟨(h.offN f).next m.fr M m.ho m.nm m.wa m.sz m.m (fun _ _=>rfl),by rw[<- ek];exact m.fr _ _ o2.1 V.ng.dn,m.fr _ _ o3.1 V.dj,⟨a,m.fr _ _ o1.1 r1⟩,h.jR,fun x hx=>?_,by rw[eb];exact h.b1,by rw[ex];exact h.gd,ekn,ev⟩
 rw[m.ho];rcases hx with rfl | rfl | rfl
 ·exact⟨ap _ _ r1 o1.1,o1.2⟩
 ·exact⟨ap _ _ V.ng.dn o2.1,o2.2⟩
 ·exact⟨ap _ _ V.dj o3.1,o3.2⟩
theorem Lw.vw(h:Lw K c H R nw yl jl js g):Vw H nw yl jl js g:=⟨⟨h.dn,h.rt⟩,h.dj⟩
theorem j4.alks{p p2:Addr}{wd nm:Str}{t pl l:Int}{B:Bn}{as as2:List Addr}{zs zs2:List Str}(a:j4 H p wd nm t pl l B as zs)(b:j4 H p2 wd nm t pl l B as2 zs2):Alks K H p p2:=by
 have ez:=a.od.eq b.od;subst ez;have l1:=Paired.length a.le;have l2:=Paired.length b.le;refine⟨1,as.map V.ref,as2.map V.ref,by decide,SqT.of a.tu,SqT.of b.tu,by rw[length_map,length_map,l1,l2],fun i x y hx hy=>?_⟩
 rw[getElem?_map]at hx hy;cases e1:as[i]? with
 | none=>rw[e1]at hx;cases hx
 | some a1 =>
  cases e2:as2[i]? with
  | none=>rw[e2]at hy;cases hy
  | some a2 =>
   rw[e1]at hx;rw[e2]at hy;cases hx;cases hy;obtain⟨z1,hz1,d1⟩:=Paired.get' a.le e1;obtain⟨z2,hz2,d2⟩:=Paired.get' b.le e2;rw[hz1]at hz2;cases hz2;refine .inr ⟨a1,a2,_,_,rfl,rfl,SqT.of d1,SqT.of d2,rfl,fun j x y hx hy=>?_⟩;rw[hx]at hy;cases hy;have hm:=mem_of_getElem? hx;simp only[List.mem_cons,not_mem_nil,or_false]at hm;rcases hm with rfl | rfl | rfl | rfl | rfl | rfl <;> exact⟨rfl,rfl⟩
theorem d9.alk{a b:Addr}{t p l:Int}{nm:Str}(h1:d9 H a t nm (.int p) (.int l))(h2:d9 H b t nm (.int p) (.int l)):Alk K 1 H (.ref a) (.ref b):=by
 refine .inr ⟨a,b,_,_,rfl,rfl,SqT.of h1,SqT.of h2,rfl,fun j x y hx hy=>?_⟩;rw[hx]at hy;cases hy;have hm:=mem_of_getElem? hx;simp only[List.mem_cons,not_mem_nil,or_false]at hm;rcases hm with rfl | rfl | rfl | rfl | rfl <;> exact⟨rfl,rfl⟩
theorem cutV_in{xs:List V}{lo hi:Option Int}{v:V}(h:v ∈ c6 xs lo hi):v ∈ xs:=List.mem_of_mem_drop (List.mem_of_mem_take h)
end
abbrev mO:Stmt:=top 91
theorem bIsi:bootBuiltins "isinstance"=some (.builtin "isinstance"):=by decide +kernel
def rq(K:Frag):Sp:=fun us H Q _=>∃(a:Addr)(ns:List Int),us=[.ref a]/\SqL K H a (ns.map V.int)/\ns.length <= 63/\∀H',Q (.bl true) H'
theorem Lw.butR{K:Frag}{c:Cs}{H H':Hp}{R nw yl jl:Addr}{js:List V}{g:Gs}(h:Lw K c H R nw yl jl js g)(r:Rst H' R)(b:bj R H H'):Lw K c H' R nw yl jl js g:=by
 obtain⟨a,ha⟩:=id h.rr;exact⟨h.hs.off (fun x u n e=>b x u n e) ha (.inl ⟨_,rfl⟩) (h.ap R (.inl rfl)),b _ _ h.nR.1 h.dn,b _ _ h.jR h.dj,r,h.jR,h.ap,h.b1,h.gd,h.kf,h.vf⟩
section
variable{P:Program}{w:World}{K:Frag}{mg:Str->Option Value}{base:Heap}{CH CM CT CW CR:Addr}
noncomputable abbrev nLaw:List Str:=["_law_script","_law_cell","_law_rest_here","_law_names_here","_law_house","_law_now","_law_turn_here","_law_due","_law_found"]
theorem scLaw:ao nLaw ["_law_script"] (ah mO):=fsc (by decide +kernel)
theorem ok_law {f:Addr} {fd:FuncData} (F:Fun K "law" "law" mO f fd) (T:Blw mg) (TH:ClH K mg CH) (Fc:aJ P w K mg base 1 "_law_cell_at" ["_law_script","_law_k"] (pc K)) (Fe:aJ P w K mg base 1 "_law_rest" ["_law_cell"] qq) (Ft:aJ P w K mg base 1 "_law_take" gR eM) (Fn:aJ P w K mg base 2 "_law_names" ["_law_rest_here","_law_many"] mC) (Fb:aJ P w K mg base 10 "_law_begun" ["_law_rest_here","_law_names_here"] (mJ K ⟨CH,CM,CT,CW,CR⟩)) (Fs:aJ P w K mg base 3 "_law_stands_so" ["_law_house","_law_now"] (spSo K ⟨CH,CM,CT,CW,CR⟩)) (Fu:aJ P w K mg base 4 "_law_turn" ["_law_now"] mN)
  (Mt:aD P w K mg base CH 16 "turn" ["self"] (mB K ⟨CH,CM,CT,CW,CR⟩)) (Mp:aD P w K mg base CH 1 "part" ["self"] (iQ K ⟨CH,CM,CT,CW,CR⟩)) (Mw:aD P w K mg base CH 2 "writes" ["self"] (gO K ⟨CH,CM,CT,CW,CR⟩)) (Mj:aD P w K mg base CH 1 "journal" ["self"] (qo K ⟨CH,CM,CT,CW,CR⟩)):aI P w K mg base CX0 17 f fd ["_law_script"] (rq K):=by
 refine F.ok scLaw (fun us H Q E h=>?_) (fun cdv A outer s H us Q E hr h=>?_)
 ·obtain⟨a,ns,rfl,_⟩:=h;rfl
 ·obtain⟨a,ns,rfl,hS,hl63,q⟩:=h;have nd:=scLaw.nd;have r1:aP 1 _:=hr.mono (by decide)
  have r2:aP 2 _:=hr.mono (by decide)
  have r3:aP 3 _:=hr.mono (by decide)
  have r4:aP 4 _:=hr.mono (by decide)
  have r10:aP 10 _:=hr.mono (by decide)
  have hu64:=hr.units;have hu:=cU hr;have hs16:sizeLine=16777216:=sizeLine_eq;refine⟨_,ac (cD PassesOwn.never rfl (ej (aL iM (bg (ab (aj Fc r1 (ab (pv 0) (ab ag ad))) ad)) (bU ld (pv 0) (bW ag) (bW ag)))) (aO (i:=1) nd rfl (Or.inl rfl)) <|
    ac (aB (i:=2) nd rfl (Or.inl rfl) (aj Fe r1 (ab (pv 1) ad))) <|
    ac (aB (i:=3) nd rfl (Or.inl rfl) (aj Fn r2 (ab (pv 2) (ab (aL bu (aL bu ag (aj Ft r1 (ab (pv 2) (ab ag ad)))) (aL c7 ag (be gY (by rfl) T.int uL (ab (cB cw (aj Ft r1 (ab (pv 2) (ab ag ad))) ag (aN _)) ad)))) ad)))) <|
    ac (kW (aj Fb r10 (ab (pv 2) (ab (pv 3) ad))) (gW rfl (bO (aO (i:=4) nd rfl (Or.inl rfl)) (bO (aO (i:=5) nd rfl (Or.inl rfl)) fK)))) <|
    ac (bc (eX (cb (aj Fs r3 (ab (pv 4) (ab (pv 5) ad))))) bA aF) <|
    ai (cD PassesOwn.never rfl (cV (by rfl) T.range (ab (aL bu (aj Ft r1 (ab (pv 2) (ab (aL c7 ag (aA hu (pv 5) aq (fun _ _=>rfl))) ad))) (aA hu (pv 5) aq (fun _ _=>rfl))) ad)) (aO (i:=6) nd rfl (Or.inl rfl)) <|
     ac (aB (i:=7) nd rfl (Or.inl rfl) (aj Fu r4 (ab (pv 5) ad))) <|
     ac (aB (i:=8) nd rfl (Or.inl rfl) (aw Mt TH.cl hr (pv 4))) <|
     ac (bc (aG cw (aA hu (pv 5) aq (fun _ _=>rfl)) aq (aN _))
      (ac (bc (PW.pt (io (aG i3 (aw Mp TH.cl r1 (pv 4)) aq (aN _)) (gU (aG (qQ hu) (bU cN (aw Mw TH.cl r2 (pv 4)) cC (bW ag)) (aH (ab (aA hu (pv 5) aq (fun _ _=>rfl)) (ab (aA hu (pv 5) aq (fun _ _=>rfl)) ad))) (aN _))))) bA aF) <|
      ac (bc (aG (qV hu64) (bU cN (aw Mj TH.cl r1 (pv 4)) cC (bW ag)) (be bh (by rfl) T.tuple ce (ab (bU ld (aA hu (pv 5) aq (fun _ _=>rfl)) cC (bW ag)) ad)) (aN _)) bA aF) <|
      ai tS) aF) <|
     ai (bc (PW.pt (io (eX (cb (bq ur (by rfl) T.isi bIsi (ab (pv 8) (ab (pe_bltn (v:=.ty "tuple") (by rfl) T.tuple ce rfl) ad))))) (io (aG (qV hu64) (pv 8) (pv 7) (aN _)) (gU (eX (cb (aj Fs r3 (ab (pv 4) (ab (pv 5) ad))))))))) bA aF))) <|
   ai (av qD),?_⟩
  dsimp only[aW,Cx.nox];refine ae fun K_ hK_=>?_;refine⟨_,rfl,a,ns,0,rfl,hS,by decide,fun z0=>⟨(show 1 <= sizeLine by lia),fun l1 H1 n1 s1 e1=>?_⟩⟩
  refine⟨_,rfl,_,rfl,_,rfl,a,_,rfl,s1.seq hS,fun l2 n2=>?_⟩;have s2:=ar.new (o:=.lst (c6 (ns.map V.int) (some 1) (some 16))) n2;have hcl:=ff (ns.map V.int) (some 1) (some 16);rw[length_map]at hcl;refine⟨l1,l2,_,_,rfl,rfl,s2 _ _ e1,af,(by show 1 + _ <= _;lia),fun l3 H3 n3 s3 e3=>?_⟩
  refine⟨l3,rfl,⟨_,SqL.of e3⟩,mX (K:=K) (xs:=[V.int z0] ++ c6 (ns.map V.int) (some 1) (some 16)) (fun i σ Hx=>∃v1 v2 v3 v4 v5 v6 v7 v8:Option V,σ=[some (V.ref a),v1,v2,v3,v4,v5,v6,v7,v8]/\Hx l3=some (.lst ([V.int z0] ++ c6 (ns.map V.int) (some 1) (some 16)))) ⟨none,none,none,none,none,none,none,none,rfl,e3⟩ ?_ ?_ ?_⟩
  ·rintro i σ Hx hi ⟨v1,v2,v3,v4,v5,v6,v7,v8,rfl,el⟩;exact SqL.of el
  ·rintro i x σ Hx hx ⟨v1,v2,v3,v4,v5,v6,v7,v8,rfl,el⟩;obtain⟨c,rfl⟩:∃c:Int,x=.int c:=by
    have hm:=mem_of_getElem? hx;rcases mem_append.mp hm with z | z
    ·exact⟨z0,List.mem_singleton.mp z⟩
    ·obtain⟨n,_,e⟩:=List.mem_map.mp (cutV_in z);exact⟨n,e.symm⟩
   refine ae fun K_ hK_=>?_;refine⟨_,rfl,c,rfl,fun R H1 nR s1 r1=>?_⟩;refine hK_ _ _ (ae fun K_ hK_=>?_);refine⟨_,rfl,_,rfl,R,5,rfl,r1,by decide,by decide,fun x H2 x0 x1 r2 b2=>⟨_,_,rfl,rfl,?_⟩⟩
   refine⟨_,rfl,R,8,rfl,r2,by decide,by decide,fun y H3 y0 y1 r3 b3=>⟨rfl,.inr ⟨_,rfl,_,_,rfl,rfl,.inl ⟨by decide,by decide⟩,_,_,rfl,rfl,?_⟩⟩⟩
   have hy:∀b:Bool,0 <= (if b=true then (1:Int) else 0)/\(if b=true then (1:Int) else 0) <= 1:=fun b=>by cases b <;> decide
   have hy:=hy (decide (V.int y=V.int 3));refine⟨R,_,rfl,r3,by lia,by lia,fun nl zs H4 nnl enl hzl r4 b4=>?_⟩
   have nlR:nl ≠ R:=r3.ne nnl;refine hK_ _ _ (ae fun K_ hK_=>?_);refine⟨_,rfl,_,rfl,R,nl,zs,rfl,r4,enl,nlR,by lia,by lia,fun p nw yl jl g H5 ep L hP hrs hro hkn w2 w6 b5 hnew=>?_⟩
   refine⟨p,_,rfl,SqT.of ep,rfl,_,_,rfl,_,_,rfl,rfl,?_⟩;refine hK_ _ _ (ae fun K_ hK_=>?_);refine⟨_,rfl,_,rfl,R,nw,yl,jl,[],g,rfl,L,fun H6 s6=>⟨_,rfl,bI ?_⟩⟩;have L6:=L.same s6;refine hK_ _ _ ?_;refine⟨_,rfl,_,rfl,nw,_,rfl,dg L6.dn mG,_,_,rfl,rfl,.inl ⟨by decide,by decide⟩,R,2 * g.wa,rfl,L6.rr,by lia,by lia,fun k H7 k0 k1 r7 b7=>?_⟩
   have L7:=L6.butR r7 b7;refine⟨_,rfl,nw,_,rfl,dg L7.dn mG,_,_,rfl,rfl,_,rfl,by lia,by lia,?_⟩
   have b17:bj R H1 H7:=b2.trans (b3.trans (b4.trans (b5.trans ((bj.of s6).trans b7))));have up:∀x u,Hx x=some u->x ≠ R:=fun x u e z=>by rw[z,nR]at e;cases e
   have sx7:ar Hx H7:=fun x u e=>b17 _ _ (up x u e) (s1 _ _ e);have hN:New Hx nw jl g:=fun x h=>by
    have:=hnew x h;cases e:Hx x with
    | none=>rfl
    | some u =>
     rw[b4 _ _ (up x u e) (b3 _ _ (up x u e) (b2 _ _ (up x u e) (s1 _ _ e)))]at this;cases this
   have hro':g.ro ≠ "chair":=by rw[hro];decide
   refine fN (lo:=0) (fun j σ Hy=>∃(v6 v7 v8:Option V)(yl:Addr)(g:Gs),σ=[some (V.ref a),some (.int c),some (V.ref R),some (V.ref nl),some (V.ref g.ho),some (V.ref nw),v6,v7,v8]/\Lw K ⟨CH,CM,CT,CW,CR⟩ Hy R nw yl jl [] g/\Pv g/\g.rs=[]/\g.ro ≠ "chair" /\New Hx nw jl g/\ar Hx Hy) ⟨v6,v7,v8,yl,g,rfl,L7,hP,hrs,hro',hN,sx7⟩ ?_ ?_
   ·clear L7 hP hrs hro hro' hN sx7 L6 L hnew ep hkn w2 w6;rintro j σ Hy hj ⟨v6,v7,v8,yl,g,rfl,L,hP,hrs,hro,hN,sx⟩;obtain⟨dh,hb⟩:=L.hs.hb;have hrl:g.rs.length <= 700:=by rw[hrs];exact Nat.zero_le _
    refine ae fun K_ hK_=>?_;refine⟨_,rfl,nw,yl,jl,[],g,rfl,L.vw,Nat.zero_le _,L.hs.mo.wg.ps,fun hq p H1 f1 V1 e1=>?_,fun hw hm hh p al yl2 H1 f1 V1 hv1 e1=>?_,fun hw hm hh p yl2 as zs H1 f1 V1 L1=>?_⟩
    ·have O1:=L.offN f1;obtain⟨d1,hb1⟩:=O1.hb;refine hK_ _ _ (ae fun K_ hK_=>?_);refine⟨_,rfl,g.ho,d1,_,rfl,hb1,fG,E00,g,rfl,O1,hro,hP,hrl,fun _ p2 H2 M2 n2 e2=>?_,fun hw hm=>?_,fun hw hm=>?_⟩
     ·have L2:=L.go f1 V1 n2 M2 rfl rfl rfl L.kf L.vf;obtain⟨_,s2,N2⟩:=hN.on sx f1 n2;refine hK_ _ _ (ae fun K_ hK_=>?_);refine⟨_,rfl,nw,_,rfl,dg L2.dn mI,rfl,_,rfl,?_⟩;rw[decide_eq_false (fun z=>hro (by injection z))]
      refine bI ?_;refine hK_ _ _ ?_;refine⟨_,rfl,_,_,"tuple",true,rfl,Kd.tup (.inl e2),nh,_,rfl,bI ?_⟩;refine⟨_,rfl,_,rfl,p2,p,rfl,rfl,⟨1,[],[],by decide,SqT.of e2,SqT.of ((Fr.tkz O1.mo n2.fr).t _ _ e1),rfl,fun i x y h=>(nomatch h)⟩,_,rfl,bI ?_⟩
      refine⟨_,rfl,_,rfl,R,nw,yl,jl,[],{ g with qu:=g.qu + 1 },rfl,L2,fun H3 s3=>⟨_,rfl,bI ?_⟩⟩;exact⟨_,_,_,yl,{ g with qu:=g.qu + 1 },rfl,L2.same s3,hP.of rfl rfl rfl rfl (by show g.rs.length <= 800;lia) rfl rfl,hrs,hro,N2,s2.trans s3⟩
     ·rcases hq with z | z
      ·exact absurd z (by lia)
      ·rw[hm]at z;cases z
     ·rcases hq with z | z
      ·exact absurd z (by lia)
      ·rw[hm]at z;cases z
    ·have O1:=L.offN f1;obtain⟨d1,hb1⟩:=O1.hb;refine hK_ _ _ (ae fun K_ hK_=>?_);refine⟨_,rfl,g.ho,d1,_,rfl,hb1,fG,E00,g,rfl,O1,hro,hP,hrl,fun hq=>?_,fun _ _ _ p2 a2 more g2 H2 M2 q1 q2 q3 q4 hv2 n2=>?_,fun _ _ hh2=>?_⟩
     ·rcases hq with z | z
      ·exact absurd z (by lia)
      ·rw[hm]at z;cases z
     ·obtain⟨_,s2,N2⟩:=hN.on sx f1 n2;have O2:bZ K ⟨CH,CM,CT,CW,CR⟩ E00 H2 g2:=O1.next n2.fr M2 n2.ho n2.nm n2.wa n2.sz n2.m (fun _ _=>rfl);obtain⟨d2,hb2⟩:=O2.hb;have o2:=L.ap nw (.inr (.inl rfl));have o3:=L.ap jl (.inr (.inr rfl));have en2:=n2.fr _ _ o2.1 V1.ng.dn;have ej2:=n2.fr _ _ o3.1 V1.dj;have hva:=(Fr.tkz O1.mo n2.fr).t _ _ hv1;rw[hrs,List.nil_append]at q4;rw[<- n2.ho];refine hK_ _ _ (ae fun K_ hK_=>?_);refine⟨_,rfl,nw,_,rfl,dg en2 mI,rfl,_,rfl,cm ?_⟩;refine ae fun K_ hK_=>?_;refine⟨_,rfl,g2.ho,d2,_,rfl,hb2,by kernel_rfl,E00,g2,rfl,O2,rfl,_,rfl,?_⟩
      rw[q1,decide_eq_true rfl];refine bI ?_;refine⟨_,rfl,g2.ho,d2,_,rfl,hb2,by kernel_rfl,E00,g2,rfl,O2,fun p3 H3 s3 e3=>?_⟩
      refine⟨_,rfl,p3,_,rfl,e3,fun p4 H4 s4 e4=>?_⟩;rw[show (2:Int)=((2:Nat):Int) from rfl,qW,q2,q3]at e4;have s24:=s3.trans s4;refine⟨_,rfl,nw,_,rfl,dg (s24 _ _ en2) kQ,_,rfl,nw,_,rfl,dg (s24 _ _ en2) eN,(show 2 <= sizeLine by lia),fun p5 H5 n5 s5 e5=>?_⟩
      refine⟨p4,p5,_,rfl,rfl,SqT.of (s5 _ _ e4),SqT.of e5,fun v hv=>?_,_,rfl,bI ?_⟩
      ·simp only[List.take,List.mem_cons,not_mem_nil,or_false]at hv;rcases hv with rfl | rfl <;> rfl
      have s25:=s24.trans s5;have O5:=O2.same s25;refine hK_ _ _ (ae fun K_ hK_=>?_);refine⟨_,rfl,g2.ho,d2,_,rfl,s25 _ _ hb2,by kernel_rfl,E00,g2,rfl,O5,fun p6 H6 s6 e6=>?_⟩
      refine⟨_,rfl,p6,_,rfl,e6,fun p7 H7 s7 e7=>?_⟩;rw[show (1:Int)=((1:Nat):Int) from rfl,qW,q4]at e7;have s27:=s25.trans (s6.trans s7);refine⟨_,rfl,nw,_,rfl,dg (s27 _ _ en2) wY,_,rfl,jl,_,rfl,SqL.of (s27 _ _ ej2),fun l8 n8=>?_⟩;have s8:=ar.new (o:=.lst (c6 ([] ++ [V.ref al]) none (some 1))) n8;refine⟨l8,_,rfl,SqL.of af,fun p9 H9 n9 s9 e9=>?_⟩;have s29:=s27.trans (s8.trans s9);refine⟨p7,p9,rfl,rfl,⟨1,[.ref a2],[.ref al],by decide,SqT.of (s9 _ _ (s8 _ _ e7)),SqT.of e9,rfl,fun i x y hx hy=>?_⟩,_,rfl,bI ?_⟩
      ·cases i with
       | zero =>
        cases hx;cases hy;exact d9.alk (s29 _ _ hv2) (s29 _ _ hva)
       | succ i=>cases hx
      refine hK_ _ _ ?_;exact⟨_,_,_,_,_,_,_,_,rfl,s29 _ _ (s2 _ _ el)⟩
     ·rw[hh]at hh2;cases hh2
    ·have O1:=L.offN f1;obtain⟨d1,hb1⟩:=O1.hb;refine hK_ _ _ (ae fun K_ hK_=>?_);refine⟨_,rfl,g.ho,d1,_,rfl,hb1,fG,E00,g,rfl,O1,hro,hP,hrl,fun hq=>?_,fun _ _ hh2=>?_,fun _ _ _ p2 yl3 as2 zs2 H2 M2 n2 Le2=>?_⟩
     ·rcases hq with z | z
      ·exact absurd z (by lia)
      ·rw[hm]at z;cases z
     ·rw[hh]at hh2;cases hh2
     ·have L2:=L.go f1 V1 n2 M2 rfl rfl rfl (.inl rfl) L.vf;obtain⟨_,s2,N2⟩:=hN.on sx f1 n2;have tk:=(Fr.tkz O1.mo n2.fr).t;have Le1:j4 H2 p "look" g.nm (g.t + 1) g.lp g.lt g.bn as zs:=⟨tk _ _ L1.tu,L1.od,Paired.imp' (fun a x h=>tk _ _ h) L1.le⟩;refine hK_ _ _ (ae fun K_ hK_=>?_);refine⟨_,rfl,nw,_,rfl,dg L2.dn mI,rfl,_,rfl,bI ?_⟩;refine hK_ _ _ ?_;refine⟨_,rfl,_,_,"tuple",true,rfl,Kd.tup (.inl Le2.tu),nh,_,rfl,bI ?_⟩;refine⟨_,rfl,_,rfl,p2,p,rfl,rfl,j4.alks Le2 Le1,_,rfl,bI ?_⟩;refine⟨_,rfl,_,rfl,R,nw,yl2,jl,[],gB g "looker" yl3,rfl,L2,fun H3 s3=>⟨_,rfl,bI ?_⟩⟩;exact⟨_,_,_,yl2,gB g "looker" yl3,rfl,L2.same s3,hP.of rfl rfl rfl rfl (by show g.rs.length <= 800;lia) rfl rfl,hrs,(by show ("looker":Str) ≠ "chair";decide),N2,s2.trans s3⟩
   ·rintro σ Hy ⟨v6,v7,v8,yl,g,rfl,L,_,_,_,_,sx⟩;exact⟨_,_,_,_,_,_,_,_,rfl,sx _ _ el⟩
  ·rintro σ Hx ⟨v1,v2,v3,v4,v5,v6,v7,v8,rfl,el⟩;refine hK_ _ _ ?_;exact q Hx
end
end K45
namespace L2
open PySem PySem.W
noncomputable def bK(m:Nat)(K:Params->Frag):Params->Frag:=fun P=>(K P).filter fun p=>m.testBit p.1
noncomputable def mP(m:Nat)(as:List Nat):List Nat:=as.filter fun a=>m.testBit a
theorem vs_ns{m:Nat}{K:Params->Frag}{P:Params}{a:Addr}{x:Str}{v:Option (Option Value)}(h:nsIn (K P) a x=v)(e:nsIn (bK m K P) a x=nsIn (K P) a x):nsIn (bK m K P) a x=v:=e.trans h
theorem mQ{m:Nat}{K:Params->Frag}{P:Params}{a:Value}{x:Str}{v:Option (Option Value)}(h:findIn (K P) a x=v)(e:findIn (bK m K P) a x=findIn (K P) a x):findIn (bK m K P) a x=v:=e.trans h
theorem vs_isFn{m:Nat}{K:Params->Frag}{P:Params}{a:Value}{v:Bool}(h:isFn (K P) a=v)(e:isFn (bK m K P) a=isFn (K P) a):isFn (bK m K P) a=v:=e.trans h
theorem iZ{m:Nat}{K:Params->Frag}{P:Params}{a:Value}{v:Bool}(h:keepIn (K P) a=v)(e:keepIn (bK m K P) a=keepIn (K P) a):keepIn (bK m K P) a=v:=e.trans h
theorem mR{m:Nat}{K:Params->Frag}{P:Params}{a:Value}{x:Str}{v:Bool}(h:codeIn (K P) a x=v)(e:codeIn (bK m K P) a x=codeIn (K P) a x):codeIn (bK m K P) a x=v:=e.trans h
theorem vs_pget{m:Nat}{K:Params->Frag}{P:Params}{a:Addr}{x:Str}{v:Bool}(h:plainGet (K P) a x=v)(e:plainGet (bK m K P) a x=plainGet (K P) a x):plainGet (bK m K P) a x=v:=e.trans h
theorem xi{m:Nat}{K:Params->Frag}{P:Params}{a:Addr}{v:Bool}(h:hasDictIn (K P) a=v)(e:hasDictIn (bK m K P) a=hasDictIn (K P) a):hasDictIn (bK m K P) a=v:=e.trans h
theorem xj{m:Nat}{K:Params->Frag}{P:Params}{a:Addr}{v:Bool}(h:plainOver (K P) a=v)(e:plainOver (bK m K P) a=plainOver (K P) a):plainOver (bK m K P) a=v:=e.trans h
theorem xk{m:Nat}{K:Params->Frag}{P:Params}{a:Addr}{v:Bool}(h:makesIn (K P) a=v)(e:makesIn (bK m K P) a=makesIn (K P) a):makesIn (bK m K P) a=v:=e.trans h
theorem vs_exc{m:Nat}{K:Params->Frag}{P:Params}{a:Addr}{b:List Value}{x:String}{v:Bool}(h:excIn (K P) a b x=v)(e:excIn (bK m K P) a b x=excIn (K P) a b x):excIn (bK m K P) a b x=v:=e.trans h
theorem mS{m:Nat}{K:Params->Frag}{P:Params}{a:Addr}{v:Option Obj}(h:List.lookup a (K P)=v)(e:List.lookup a (bK m K P)=List.lookup a (K P)):List.lookup a (bK m K P)=v:=e.trans h
theorem xm{m:Nat}{K:Params->Frag}{as:List Nat}(e:∀P,as=List.map (fun x=>x.fst) (K P))(P:Params):mP m as=List.map (fun x=>x.fst) (bK m K P):=by
 unfold mP bK;rw[e P,List.filter_map];rfl
noncomputable def tN(m:Nat)(K:Params->Frag)(as:List Nat)(e:∀P,as=List.map (fun x=>x.fst) (K P)):Hook:=kHook (bK m K) (mP m as) (xm e)
def FnF(K:Frag)(x:Str)(st:Stmt):Prop:=∃f fd,nsIn K mainGlobals x=some (some (.ref f))/\Fun K x x st f fd
def MtF(K:Frag)(C:Addr)(x q:Str)(st:Stmt):Prop:=∃f fd,findIn K (.ref C) x=some (some (.ref f))/\isFn K (.ref f)=true/\Fun K x q st f fd
structure ClF(K:Frag)(C:Addr):Prop where
 pg:plainGet K C Str.empty=true
 hd:hasDictIn K C=true
 po:plainOver K C=true
 sa:findIn K (.ref C) "__setattr__"=some (some (.builtin "object.__setattr__"))
 ma:makesIn K C=true
 kc:keepIn K (.ref C)=true
section
variable{K:Frag}{x q:Str}{st:Stmt}{f:Addr}{oc:Value}{od an:Option Addr}{osl:Array (Option Value)}{kV doc pm cdv ct:Value}
theorem FnF.of(a:nsIn K mainGlobals x=some (some (.ref f)))(l:K.lookup f=some ⟨oc,od,.func (fnOf x x (cZ st) (cM st) (ah st) .none kV doc pm an cdv ct),osl⟩)(c:codeIn K cdv x=true)(k:keepIn K (.ref f)=true):FnF K x st:=⟨f,_,a,o6 l c k⟩
theorem MtF.of{C:Addr}(a:findIn K (.ref C) x=some (some (.ref f)))(i:isFn K (.ref f)=true)(l:K.lookup f=some ⟨oc,od,.func (fnOf x q (cZ st) (cM st) (ah st) .none kV doc pm an cdv ct),osl⟩)(c:codeIn K cdv q=true)(k:keepIn K (.ref f)=true):MtF K C x q st:=⟨f,_,a,i,o6 l c k⟩
end
section
variable{P:Program}{w:World}{K:Frag}{mg:Str->Option Value}{base hp:Heap}{x q:Str}{st:Stmt}{C:Addr}{ps:List Str}{k:Nat}{sp:Sp}
theorem FnF.at(h:FnF K x st)(X:K.In hp)(G:hp.Ns mainGlobals mg)(T:∀f fd,Fun K x x st f fd->aI P w K mg base CX0 k f fd ps sp)
  (B:∀(kV doc pm:Value)(an:Option Addr)(cdv ct:Value)(us:List Value),us.length=ps.length->bindArgs (fnOf x x (cZ st) (cM st) (ah st) .none kV doc pm an cdv ct) ⟨us,[]⟩=pure (ps.zip us):=by
   intro _ _ _ _ _ _ us hl
   first
    | (obtain⟨a0,rfl⟩:=len1 hl;rfl)
    | (obtain⟨a0,a1,rfl⟩:=lj hl;rfl)
    | (obtain⟨a0,a1,a2,rfl⟩:=len3 hl;rfl)
    | (obtain⟨a0,a1,a2,a3,rfl⟩:=len4 hl;rfl)
    | (obtain⟨a0,a1,a2,a3,a4,rfl⟩:=len5 hl;rfl)
    | (obtain⟨a0,a1,a2,a3,a4,a5,rfl⟩:=len6 hl;rfl)):aJ P w K mg base k x ps sp:=by
 obtain⟨f,fd,a,F⟩:=h;exact⟨f,fd,T f fd F,mg_of X G a,F.kp,F.binds B⟩
theorem MtF.at(h:MtF K C x q st)(T:∀f fd,Fun K x q st f fd->aI P w K mg base CX0 k f fd ps sp)
  (B:∀(kV doc pm:Value)(an:Option Addr)(cdv ct:Value)(us:List Value),us.length=ps.length->bindArgs (fnOf x q (cZ st) (cM st) (ah st) .none kV doc pm an cdv ct) ⟨us,[]⟩=pure (ps.zip us):=by
   intro _ _ _ _ _ _ us hl
   first
    | (obtain⟨a0,rfl⟩:=len1 hl;rfl)
    | (obtain⟨a0,a1,rfl⟩:=lj hl;rfl)
    | (obtain⟨a0,a1,a2,rfl⟩:=len3 hl;rfl)
    | (obtain⟨a0,a1,a2,a3,rfl⟩:=len4 hl;rfl)
    | (obtain⟨a0,a1,a2,a3,a4,rfl⟩:=len5 hl;rfl)
    | (obtain⟨a0,a1,a2,a3,a4,a5,rfl⟩:=len6 hl;rfl)):aD P w K mg base C k x ps sp:=by
 obtain⟨f,fd,a,i,F⟩:=h;exact⟨f,fd,T f fd F,F.binds B,a,i,F.kp⟩
end
end L2
namespace K45
open PySem L2
open PySem.W in
theorem all_mk {l:OpenLaw} {w:World} {K:Frag} {h:Heap} {mg:Str->Option Value} {fa:Addr} (X:K.In h) (G:h.Ns mainGlobals mg) (hfa:mg "law"=some (.ref fa))
  {CR:Addr} (aCR:nsIn K mainGlobals "Row"=some (some (.ref CR)))
  {CT:Addr} (aCT:nsIn K mainGlobals "Table"=some (some (.ref CT)))
  {CW:Addr} (aCW:nsIn K mainGlobals "Written"=some (some (.ref CW)))
  {CM:Addr} (aCM:nsIn K mainGlobals "Mind"=some (some (.ref CM)))
  {CH:Addr} (aCH:nsIn K mainGlobals "House"=some (some (.ref CH)))
  {CN:Addr} (aCN:nsIn K mainGlobals "Note"=some (some (.ref CN)))
  {CB:Addr} (aCB:nsIn K mainGlobals "Members"=some (some (.ref CB)))
  {CC:Addr} (aCC:nsIn K mainGlobals "Chair"=some (some (.ref CC)))
  (hl_cell_at:FnF K "_law_cell_at" uK)
  (hfirst_stand:FnF K "first_stand" sFS)
  (hfirst_written:FnF K "first_written" sFW)
  (hasks_done:FnF K "asks_done" sAD)
  (htable_from:FnF K "table_from" sTF)
  (his_joined:FnF K "is_joined" lX)
  (hspeakers:FnF K "speakers" sSpk)
  (hmembers:FnF K "members" sMem)
  (his_most:FnF K "is_most" qY)
  (his_half:FnF K "is_half" wb)
  (hbehind:FnF K "behind" jJ)
  (hput_deed:FnF K "put_deed" wz)
  (hfilling:FnF K "filling" jP)
  (hfillings:FnF K "fillings" fS)
  (hput_bench:FnF K "put_bench" wA)
  (hplace_to_settle:FnF K "place_to_settle" sPTS)
  (his_bench_settled:FnF K "is_bench_settled" sIBS)
  (hbench_followed:FnF K "bench_followed" sBF)
  (hsettle:FnF K "settle" ms)
  (hsent_and_settled:FnF K "sent_and_settled" sSAS)
  (hbecome_chair:FnF K "become_chair" mt)
  (hbegin_asking:FnF K "begin_asking" qk)
  (hhas_half:FnF K "has_half" wE)
  (hsent_to_speakers:FnF K "sent_to_speakers" jU)
  (hmay_stand:FnF K "may_stand" sMay)
  (hstand_up:FnF K "stand_up" jT)
  (hlook_ahead:FnF K "look_ahead" qj)
  (hvoter_turn:FnF K "voter_turn" qi)
  (hl_take:FnF K "_law_take" wN)
  (hl_rest:FnF K "_law_rest" wM)
  (hl_names:FnF K "_law_names" il)
  (hl_some:FnF K "_law_some" rb)
  (hl_bench:FnF K "_law_bench" iW)
  (hl_deed:FnF K "_law_deed" qt)
  (hl_state:FnF K "_law_state" qv)
  (hl_stands_so:FnF K "_law_stands_so" sSo)
  (hl_begun:FnF K "_law_begun" qw)
  (hl_bench_at:FnF K "_law_bench_at" sBAL)
  (hl_my_bench:FnF K "_law_my_bench" sMBL)
  (hl_last:FnF K "_law_last" qz)
  (hl_others:FnF K "_law_others" rj)
  (hl_half:FnF K "_law_half" mK)
  (hl_standing:FnF K "_law_standing" xg)
  (hl_turn:FnF K "_law_turn" mM)
  {flaw:Addr} {odlaw anlaw:Option Addr} {sllaw:Array (Option Value)} {oclaw kVlaw dclaw pmlaw cdlaw ctlaw:Value} (alaw:nsIn K mainGlobals "law"=some (some (.ref flaw))) (llaw:K.lookup flaw=some ⟨oclaw,odlaw,.func (fnOf "law" "law" (cZ mO) (cM mO) (ah mO) .none kVlaw dclaw pmlaw anlaw cdlaw ctlaw),sllaw⟩) (claw:codeIn K cdlaw "law"=true) (klaw:keepIn K (.ref flaw)=true)
  (hRow_init:MtF K CR "__init__" "Row.__init__" pi)
  (hRow_up_to:MtF K CR "up_to" "Row.up_to" kH)
  (hRow_last_place:MtF K CR "last_place" "Row.last_place" K45B.pC)
  (hRow_entry_at:MtF K CR "entry_at" "Row.entry_at" K45B.pD)
  (hRow_behind:MtF K CR "behind" "Row.behind" K45B.lH)
  (hRow_term_at:MtF K CR "term_at" "Row.term_at" K45B.lG)
  (hRow_bench_at:MtF K CR "bench_at" "Row.bench_at" jG)
  (hRow_bench:MtF K CR "bench" "Row.bench" lS)
  (hRow_last_term:MtF K CR "last_term" "Row.last_term" pR)
  (hRow_between:MtF K CR "between" "Row.between" pS)
  (hRow_bench_place:MtF K CR "bench_place" "Row.bench_place" lT)
  (hRow_with_entry:MtF K CR "with_entry" "Row.with_entry" pT)
  (uCR:ClF K CR) (nCR_stand:findIn K (.ref CR) "stand"=some none) (nCR_entries:findIn K (.ref CR) "entries"=some none)
  (hTable_holds:MtF K CT "holds" "Table.holds" K45T.pd)
  (hTable_last_of:MtF K CT "last_of" "Table.last_of" K45T.uP)
  (hTable_work_done:MtF K CT "work_done" "Table.work_done" K45T.uO)
  (hTable_does:MtF K CT "does" "Table.does" K45T.uN)
  (hTable_init:MtF K CT "__init__" "Table.__init__" K45T.kF)
  (uCT:ClF K CT) (nCT_held:findIn K (.ref CT) "held"=some none) (nCT_lasts:findIn K (.ref CT) "lasts"=some none)
  (hWritten_init:MtF K CW "__init__" "Written.__init__" pk)
  (hWritten_told:MtF K CW "told" "Written.told" pp)
  (hWritten_rise_to:MtF K CW "rise_to" "Written.rise_to" pF)
  (hWritten_vote_for:MtF K CW "vote_for" "Written.vote_for" pG)
  (hWritten_settle_to:MtF K CW "settle_to" "Written.settle_to" vC)
  (hWritten_keep_row:MtF K CW "keep_row" "Written.keep_row" pH)
  (uCW:ClF K CW) (nCW_term:findIn K (.ref CW) "term"=some none) (nCW_vote:findIn K (.ref CW) "vote"=some none) (nCW_settled_place:findIn K (.ref CW) "settled_place"=some none) (nCW_kept_row:findIn K (.ref CW) "kept_row"=some none)
  (hMind_init:MtF K CM "__init__" "Mind.__init__" px)
  (hMind_settled:MtF K CM "settled" "Mind.settled" hZ)
  (hMind_row:MtF K CM "row" "Mind.row" vD)
  (hMind_is_chair:MtF K CM "is_chair" "Mind.is_chair" lI)
  (hMind_follow:MtF K CM "follow" "Mind.follow" jB)
  (hMind_rise_to:MtF K CM "rise_to" "Mind.rise_to" pI)
  (hMind_record:MtF K CM "record" "Mind.record" vE)
  (hMind_vote_for:MtF K CM "vote_for" "Mind.vote_for" pJ)
  (hMind_settle_to:MtF K CM "settle_to" "Mind.settle_to" lJ)
  (uCM:ClF K CM) (nCM_name:findIn K (.ref CM) "name"=some none) (nCM_wait:findIn K (.ref CM) "wait"=some none) (nCM_size:findIn K (.ref CM) "size"=some none) (nCM_kept:findIn K (.ref CM) "kept"=some none) (nCM_records:findIn K (.ref CM) "records"=some none) (nCM_board:findIn K (.ref CM) "board"=some none) (nCM_role:findIn K (.ref CM) "role"=some none) (nCM_known:findIn K (.ref CM) "known"=some none) (nCM_quiet:findIn K (.ref CM) "quiet"=some none) (nCM_yes:findIn K (.ref CM) "yes"=some none) (nCM_sheets:findIn K (.ref CM) "sheets"=some none) (nCM_seat:findIn K (.ref CM) "seat"=some none) (nCM_given:findIn K (.ref CM) "given"=some none) (nCM_found:findIn K (.ref CM) "found"=some none) (nCM_shown:findIn K (.ref CM) "shown"=some none)
  (hHouse_init:MtF K CH "__init__" "House.__init__" pz)
  (hHouse_comes_up:MtF K CH "comes_up" "House.comes_up" sUp)
  (hHouse_writes:MtF K CH "writes" "House.writes" lC)
  (hHouse_part:MtF K CH "part" "House.part" pA)
  (hHouse_chair_known:MtF K CH "chair_known" "House.chair_known" lD)
  (hHouse_settled:MtF K CH "settled" "House.settled" vF)
  (hHouse_turn:MtF K CH "turn" "House.turn" qm)
  (hHouse_journal:MtF K CH "journal" "House.journal" vG)
  (uCH:ClF K CH) (nCH_name:findIn K (.ref CH) "name"=some none) (nCH_wait:findIn K (.ref CH) "wait"=some none) (nCH_size:findIn K (.ref CH) "size"=some none) (nCH_mind:findIn K (.ref CH) "mind"=some none)
  (hNote_init:MtF K CN "__init__" "Note.__init__" pY)
  (uCN:ClF K CN) (nCN_next_place:findIn K (.ref CN) "next_place"=some none) (nCN_held:findIn K (.ref CN) "held"=some none) (nCN_lacking:findIn K (.ref CN) "lacking"=some none) (nCN_answered:findIn K (.ref CN) "answered"=some none)
  (hMembers_init:MtF K CB "__init__" "Members.__init__" pZ)
  (hMembers_note_bench:MtF K CB "note_bench" "Members.note_bench" qb)
  (hMembers_names:MtF K CB "names" "Members.names" l6)
  (hMembers_next_of:MtF K CB "next_of" "Members.next_of" md)
  (hMembers_with_own:MtF K CB "with_own" "Members.with_own" qd)
  (hMembers_held_places:MtF K CB "held_places" "Members.held_places" me)
  (hMembers_holders:MtF K CB "holders" "Members.holders" gQ)
  (uCB:ClF K CB) (nCB_own:findIn K (.ref CB) "own"=some none) (nCB_notes:findIn K (.ref CB) "notes"=some none)
  (hChair_init:MtF K CC "__init__" "Chair.__init__" qe)
  (uCC:ClF K CC) (nCC_noted:findIn K (.ref CC) "noted"=some none) (nCC_beat:findIn K (.ref CC) "beat"=some none) (nCC_wanted:findIn K (.ref CC) "wanted"=some none)
   (zdict:nsIn K mainGlobals "dict"=some none) (zint:nsIn K mainGlobals "int"=some none) (zisinstance:nsIn K mainGlobals "isinstance"=some none) (zlen:nsIn K mainGlobals "len"=some none) (zlist:nsIn K mainGlobals "list"=some none) (zmax:nsIn K mainGlobals "max"=some none) (zrange:nsIn K mainGlobals "range"=some none) (zreversed:nsIn K mainGlobals "reversed"=some none) (zset:nsIn K mainGlobals "set"=some none) (zsorted:nsIn K mainGlobals "sorted"=some none) (ztuple:nsIn K mainGlobals "tuple"=some none) :
  ∃fd:FuncData,(∀(s:Shared)(v:Value),BindsTo s fd ⟨[v],[]⟩ [("_law_script",v)])/\∀base:Heap,K.In base->base.Ns mainGlobals mg->aI l.prog w K mg base CX0 17 fa fd ["_law_script"] (rq K):=by
 have e:=hfa.symm.trans (mg_of X G alaw);cases e;have ndict:=mg_none_of X G zdict;have nint:=mg_none_of X G zint;have nisinstance:=mg_none_of X G zisinstance;have nlen:=mg_none_of X G zlen;have nlist:=mg_none_of X G zlist;have nmax:=mg_none_of X G zmax;have nrange:=mg_none_of X G zrange;have nreversed:=mg_none_of X G zreversed;have nset:=mg_none_of X G zset;have nsorted:=mg_none_of X G zsorted;have ntuple:=mg_none_of X G ztuple;have M_:Blm mg:={ len:=nlen,range:=nrange,int:=nint };have T_:Blw mg:={ len:=nlen,range:=nrange,int:=nint,max:=nmax,tuple:=ntuple,sorted:=nsorted,set:=nset,isi:=nisinstance,list:=nlist };have B_:K45T.Blt mg:=⟨ntuple,ndict,nsorted⟩;have TR:ClR K mg CR:=⟨⟨uCR.pg,uCR.hd,uCR.po,uCR.sa⟩,nCR_stand,nCR_entries,mg_of X G aCR⟩;have TT:K45T.Cl K mg CT:=⟨⟨uCT.pg,uCT.hd,uCT.po,uCT.sa⟩,nCT_held,nCT_lasts,mg_of X G aCT⟩;have TW:ClW K mg CW:=⟨⟨uCW.pg,uCW.hd,uCW.po,uCW.sa⟩,nCW_term,nCW_vote,nCW_settled_place,nCW_kept_row,mg_of X G aCW⟩;have TM:ClM K mg CM:=⟨⟨uCM.pg,uCM.hd,uCM.po,uCM.sa⟩,nCM_name,nCM_wait,nCM_size,nCM_kept,nCM_records,nCM_board,nCM_role,nCM_known,nCM_quiet,nCM_yes,nCM_sheets,nCM_seat,nCM_given,nCM_found,nCM_shown,mg_of X G aCM⟩;have TH:ClH K mg CH:=⟨⟨uCH.pg,uCH.hd,uCH.po,uCH.sa⟩,nCH_name,nCH_wait,nCH_size,nCH_mind,mg_of X G aCH⟩;have TN:ClN K mg CN:=⟨⟨uCN.pg,uCN.hd,uCN.po,uCN.sa⟩,nCN_next_place,nCN_held,nCN_lacking,nCN_answered,mg_of X G aCN⟩;have TB:ClB K mg CB:=⟨⟨uCB.pg,uCB.hd,uCB.po,uCB.sa⟩,nCB_own,nCB_notes,mg_of X G aCB⟩;have TC:ClC K mg CC:=⟨⟨uCC.pg,uCC.hd,uCC.po,uCC.sa⟩,nCC_noted,nCC_beat,nCC_wanted,mg_of X G aCC⟩;have Flaw:=o6 (st:=mO) llaw claw klaw;obtain⟨fRow_init,_,aRow_init,iRow_init,FRow_init⟩:=hRow_init;have bRow_init:=FRow_init.binds (ps:=["self","stand","entries"]) fun _ _ _ _ _ _ us hl=>by obtain⟨a0,a1,a2,rfl⟩:=len3 hl;rfl
 obtain⟨fTable_holds,_,aTable_holds,iTable_holds,FTable_holds⟩:=hTable_holds;have bTable_holds:=FTable_holds.binds (ps:=["self","key"]) fun _ _ _ _ _ _ us hl=>by obtain⟨a0,a1,rfl⟩:=lj hl;rfl
 obtain⟨fTable_last_of,_,aTable_last_of,iTable_last_of,FTable_last_of⟩:=hTable_last_of;have bTable_last_of:=FTable_last_of.binds (ps:=["self","asker"]) fun _ _ _ _ _ _ us hl=>by obtain⟨a0,a1,rfl⟩:=lj hl;rfl
 obtain⟨fTable_work_done,_,aTable_work_done,iTable_work_done,FTable_work_done⟩:=hTable_work_done;have bTable_work_done:=FTable_work_done.binds (ps:=["self","work"]) fun _ _ _ _ _ _ us hl=>by obtain⟨a0,a1,rfl⟩:=lj hl;rfl
 obtain⟨fTable_init,_,aTable_init,iTable_init,FTable_init⟩:=hTable_init;have bTable_init:=FTable_init.binds (ps:=["self","held","asked"]) fun _ _ _ _ _ _ us hl=>by obtain⟨a0,a1,a2,rfl⟩:=len3 hl;rfl
 obtain⟨fWritten_init,_,aWritten_init,iWritten_init,FWritten_init⟩:=hWritten_init;have bWritten_init:=FWritten_init.binds (ps:=["self","parts"]) fun _ _ _ _ _ _ us hl=>by obtain⟨a0,a1,rfl⟩:=lj hl;rfl
 obtain⟨fMind_init,_,aMind_init,iMind_init,FMind_init⟩:=hMind_init;have bMind_init:=FMind_init.binds (ps:=["self","name","wait","size","kept","records"]) fun _ _ _ _ _ _ us hl=>by obtain⟨a0,a1,a2,a3,a4,a5,rfl⟩:=len6 hl;rfl
 obtain⟨fHouse_init,_,aHouse_init,iHouse_init,FHouse_init⟩:=hHouse_init;have bHouse_init:=FHouse_init.binds (ps:=["self","name","wait","size","bench"]) fun _ _ _ _ _ _ us hl=>by obtain⟨a0,a1,a2,a3,a4,rfl⟩:=len5 hl;rfl
 obtain⟨fNote_init,_,aNote_init,iNote_init,FNote_init⟩:=hNote_init;have bNote_init:=FNote_init.binds (ps:=["self","next_place"]) fun _ _ _ _ _ _ us hl=>by obtain⟨a0,a1,rfl⟩:=lj hl;rfl
 obtain⟨fMembers_init,_,aMembers_init,iMembers_init,FMembers_init⟩:=hMembers_init;have bMembers_init:=FMembers_init.binds (ps:=["self","own"]) fun _ _ _ _ _ _ us hl=>by obtain⟨a0,a1,rfl⟩:=lj hl;rfl
 obtain⟨fChair_init,_,aChair_init,iChair_init,FChair_init⟩:=hChair_init;have bChair_init:=FChair_init.binds (ps:=["self","noted"]) fun _ _ _ _ _ _ us hl=>by obtain⟨a0,a1,rfl⟩:=lj hl;rfl
 refine⟨fnOf "law" "law" (cZ mO) (cM mO) (ah mO) .none kVlaw dclaw pmlaw anlaw cdlaw ctlaw,fun s v=>.of_eq rfl,fun base _ _=>?_⟩;have Al_cell_at:aJ l.prog w K mg base 1 "_law_cell_at" ["_law_script","_law_k"] (pc K):=hl_cell_at.at X G fun _ _ F=>ok_cell F M_;have G_holds:aI l.prog w K mg base CX0 1 fTable_holds _ ["self","key"] (K45T.lu K CT):=K45T.uS FTable_holds TT;have G_last_of:aI l.prog w K mg base CX0 1 fTable_last_of _ ["self","asker"] (K45T.pe K CT):=K45T.ok_last FTable_last_of TT;have G_work_done:aI l.prog w K mg base CX0 2 fTable_work_done _ ["self","work"] (K45T.pf K CT):=K45T.ok_done FTable_work_done TT G_holds bTable_holds ⟨aTable_holds,iTable_holds,FTable_holds.kp⟩;have MTable_does:aD l.prog w K mg base CT 3 "does" ["self","asker","number","work"] (K45T.ph K CT):=hTable_does.at fun _ _ F=>K45T.ok_does F TT G_last_of bTable_last_of ⟨aTable_last_of,iTable_last_of,FTable_last_of.kp⟩ G_work_done bTable_work_done ⟨aTable_work_done,iTable_work_done,FTable_work_done.kp⟩;have MTable_init:dU l.prog w K mg base CT 1 ["self","held","asked"] (K45T.gr K CT):=⟨_,_,K45T.ly FTable_init TT B_,bTable_init,⟨uCT.ma,aTable_init,iTable_init,uCT.kc⟩⟩;have MRow_init:dU l.prog w K mg base CR 1 ["self","stand","entries"] (lz K CR):=⟨_,_,uW FRow_init TR ntuple,bRow_init,⟨uCR.ma,aRow_init,iRow_init,uCR.kc⟩⟩;have MRow_up_to:aD l.prog w K mg base CR 1 "up_to" ["self","place"] (gt K CR):=hRow_up_to.at fun _ _ F=>ok_upto F TR;have MWritten_init:dU l.prog w K mg base CW 3 ["self","parts"] (iP K CW CR):=⟨_,_,uX FWritten_init TW TR MRow_init,bWritten_init,⟨uCW.ma,aWritten_init,iWritten_init,uCW.kc⟩⟩;have MWritten_told:aD l.prog w K mg base CW 1 "told" ["self"] (lA K CW CR):=hWritten_told.at fun _ _ F=>uY F TW TR;have Afirst_stand:aJ l.prog w K mg base 1 "first_stand" ["bench"] spFS:=hfirst_stand.at X G fun _ _ F=>ok_fs F;have Afirst_written:aJ l.prog w K mg base 5 "first_written" ["bench"] (spFW CW CR):=hfirst_written.at X G fun _ _ F=>ok_fw F TW Afirst_stand MWritten_init;have Aasks_done:aJ l.prog w K mg base 4 "asks_done" ["table","entries"] (spAD K CT):=hasks_done.at X G fun _ _ F=>ok_ad F TT ntuple MTable_does;have Atable_from:aJ l.prog w K mg base 5 "table_from" ["kept"] (spTF K CT CW CR):=htable_from.at X G fun _ _ F=>ok_tf F TW TR TT MTable_init Aasks_done MRow_up_to;have MMind_init:dU l.prog w K mg base CM 6 ["self","name","wait","size","kept","records"] (spMI K CM CT CW CR):=⟨_,_,ok_mi FMind_init TM Atable_from,bMind_init,⟨uCM.ma,aMind_init,iMind_init,uCM.kc⟩⟩;have MHouse_init:dU l.prog w K mg base CH 8 ["self","name","wait","size","bench"] (spHI K CH):=⟨_,_,ok_hi FHouse_init TH TM MMind_init Afirst_written,bHouse_init,⟨uCH.ma,aHouse_init,iHouse_init,uCH.kc⟩⟩;have MHouse_comes_up:aD l.prog w K mg base CH 8 "comes_up" ["self","written"] (spUp K ⟨CH,CM,CT,CW,CR⟩):=hHouse_comes_up.at fun _ _ F=>ok_up F TH TM TW MMind_init MWritten_init;have MHouse_writes:aD l.prog w K mg base CH 2 "writes" ["self"] (gO K ⟨CH,CM,CT,CW,CR⟩):=hHouse_writes.at fun _ _ F=>sQ F TH TM TW MWritten_told;have MHouse_part:aD l.prog w K mg base CH 1 "part" ["self"] (iQ K ⟨CH,CM,CT,CW,CR⟩):=hHouse_part.at fun _ _ F=>vp F TH TM;have MHouse_chair_known:aD l.prog w K mg base CH 1 "chair_known" ["self"] (jy K ⟨CH,CM,CT,CW,CR⟩):=hHouse_chair_known.at fun _ _ F=>sR F TH TM;have MMind_settled:aD l.prog w K mg base CM 1 "settled" ["self"] (eL K ⟨CH,CM,CT,CW,CR⟩):=hMind_settled.at fun _ _ F=>ok_mset F TM TW;have MRow_initb:dU l.prog w K mg base CR 1 ["self","stand","entries"] (K45B.gr CR):=⟨_,_,K45B.ly FRow_init TR ntuple,bRow_init,⟨uCR.ma,aRow_init,iRow_init,uCR.kc⟩⟩;have MRow_last_place:aD l.prog w K mg base CR 1 "last_place" ["self"] (K45B.cR CR):=hRow_last_place.at fun _ _ F=>K45B.vy F TR nlen;have MRow_entry_at:aD l.prog w K mg base CR 1 "entry_at" ["self","place"] (K45B.iR CR):=hRow_entry_at.at fun _ _ F=>K45B.vz F TR;have MRow_up_tob:aD l.prog w K mg base CR 1 "up_to" ["self","place"] (K45B.gt CR):=hRow_up_to.at fun _ _ F=>K45B.ok_upTo F TR;have MRow_behind:aD l.prog w K mg base CR 1 "behind" ["self","place"] (K45B.jA CR):=hRow_behind.at fun _ _ F=>K45B.sS F TR;have MRow_term_at:aD l.prog w K mg base CR 2 "term_at" ["self","place"] (K45B.fw CR):=hRow_term_at.at fun _ _ F=>K45B.sT F TR MRow_last_place MRow_entry_at;have MWritten_rise_to:aD l.prog w K mg base CW 1 "rise_to" ["self","term"] (lK CW):=hWritten_rise_to.at fun _ _ F=>vJ F TW;have MWritten_vote_for:aD l.prog w K mg base CW 1 "vote_for" ["self","name"] (lL CW):=hWritten_vote_for.at fun _ _ F=>vK F TW;have MWritten_settle_to:aD l.prog w K mg base CW 1 "settle_to" ["self","place"] (pK CW):=hWritten_settle_to.at fun _ _ F=>ok_wset F TW;have MWritten_keep_row:aD l.prog w K mg base CW 1 "keep_row" ["self","row"] (lM CW):=hWritten_keep_row.at fun _ _ F=>vL F TW;have MMind_row:aD l.prog w K mg base CM 1 "row" ["self"] (cx K ⟨CH,CM,CT,CW,CR⟩):=hMind_row.at fun _ _ F=>ok_mrow F TM TW;have MMind_is_chair:aD l.prog w K mg base CM 1 "is_chair" ["self"] (jC K ⟨CH,CM,CT,CW,CR⟩):=hMind_is_chair.at fun _ _ F=>sU F TM;have MMind_follow:aD l.prog w K mg base CM 1 "follow" ["self","chair"] (fO K ⟨CH,CM,CT,CW,CR⟩):=hMind_follow.at fun _ _ F=>pN F TM;have MMind_rise_to:aD l.prog w K mg base CM 2 "rise_to" ["self","term"] (lN K ⟨CH,CM,CT,CW,CR⟩):=hMind_rise_to.at fun _ _ F=>vN F TM TW MWritten_rise_to MMind_follow;have MMind_record:aD l.prog w K mg base CM 1 "record" ["self","thing"] (lO K ⟨CH,CM,CT,CW,CR⟩):=hMind_record.at fun _ _ F=>ok_mrec F TM;have MMind_vote_for:aD l.prog w K mg base CM 2 "vote_for" ["self","name","place","last"] (lP K ⟨CH,CM,CT,CW,CR⟩):=hMind_vote_for.at fun _ _ F=>vO F TM TW MWritten_vote_for MMind_record;have MHouse_settled:aD l.prog w K mg base CH 2 "settled" ["self"] (pO K ⟨CH,CM,CT,CW,CR⟩):=hHouse_settled.at fun _ _ F=>ok_hset F TH TM MMind_settled;have MRow_bench_at:aD l.prog w K mg base CR 2 "bench_at" ["self","place"] (fQ CR):=hRow_bench_at.at fun _ _ F=>pV F TR nreversed MRow_up_tob;have MRow_bench:aD l.prog w K mg base CR 3 "bench" ["self"] (cA CR):=hRow_bench.at fun _ _ F=>tq F TR MRow_last_place MRow_bench_at;have MRow_last_term:aD l.prog w K mg base CR 3 "last_term" ["self"] (iS CR):=hRow_last_term.at fun _ _ F=>vY F TR MRow_last_place MRow_term_at;have MRow_between:aD l.prog w K mg base CR 1 "between" ["self","before","place"] (lV CR):=hRow_between.at fun _ _ F=>vZ F TR;have MRow_bench_place:aD l.prog w K mg base CR 2 "bench_place" ["self"] (jH CR):=hRow_bench_place.at fun _ _ F=>tw F TR nrange MRow_last_place MRow_entry_at;have MRow_with_entry:aD l.prog w K mg base CR 3 "with_entry" ["self","entry"] (lW CR):=hRow_with_entry.at fun _ _ F=>v0 F TR MRow_initb;have MMind_settle_to:aD l.prog w K mg base CM 5 "settle_to" ["self","place"] (jI K ⟨CH,CM,CT,CW,CR⟩):=hMind_settle_to.at fun _ _ F=>tz F TM TW TR MMind_row MMind_settled MRow_between MWritten_settle_to Aasks_done;have Ais_joined:aJ l.prog w K mg base 1 "is_joined" ["bench"] ei:=his_joined.at X G fun _ _ F=>tD F nlen;have Aspeakers:aJ l.prog w K mg base 1 "speakers" ["bench"] qZ:=hspeakers.at X G fun _ _ F=>ok_spk F ntuple nsorted nset;have Amembers:aJ l.prog w K mg base 1 "members" ["bench"] we:=hmembers.at X G fun _ _ F=>ok_mem F ntuple nsorted nset;have Ais_most:aJ l.prog w K mg base 1 "is_most" ["side","names"] (pW K):=his_most.at X G fun _ _ F=>ok_most F nlen;have Ais_half:aJ l.prog w K mg base 2 "is_half" ["bench","names"] (lY K):=his_half.at X G fun _ _ F=>ok_half F Ais_joined Ais_most;have Abehind:aJ l.prog w K mg base 2 "behind" ["bench"] ie:=hbehind.at X G fun _ _ F=>pX F Ais_joined;have MNote_init:dU l.prog w K mg base CN 1 ["self","next_place"] (mi CN):=⟨_,_,wj FNote_init TN,bNote_init,⟨uCN.ma,aNote_init,iNote_init,uCN.kc⟩⟩;have MMembers_init:dU l.prog w K mg base CB 1 ["self","own"] (mj CB):=⟨_,_,wn FMembers_init TB,bMembers_init,⟨uCB.ma,aMembers_init,iMembers_init,uCB.kc⟩⟩;have MChair_init:dU l.prog w K mg base CC 1 ["self","noted"] (ml CC):=⟨_,_,wp FChair_init TC,bChair_init,⟨uCC.ma,aChair_init,iChair_init,uCC.kc⟩⟩;have MMembers_note_bench:aD l.prog w K mg base CB 3 "note_bench" ["self","bench","place"] (iT CB CN):=hMembers_note_bench.at fun _ _ F=>wq F TB TN Amembers MNote_init;have MMembers_names:aD l.prog w K mg base CB 1 "names" ["self"] (jN CB CN):=hMembers_names.at fun _ _ F=>tF F TB ntuple nsorted;have MMembers_next_of:aD l.prog w K mg base CB 1 "next_of" ["self","name"] (jO CB CN):=hMembers_next_of.at fun _ _ F=>tG F TB TN;have MMembers_with_own:aD l.prog w K mg base CB 1 "with_own" ["self","names"] (mn CB CN):=hMembers_with_own.at fun _ _ F=>wx F TB ntuple nsorted;have MMembers_held_places:aD l.prog w K mg base CB 1 "held_places" ["self"] (mq CB CN):=hMembers_held_places.at fun _ _ F=>wy F TB TN;have MMembers_holders:aD l.prog w K mg base CB 2 "holders" ["self","place"] (fR CB CN):=hMembers_holders.at fun _ _ F=>qf F TB TN MMembers_with_own;have Aput_deed:aJ l.prog w K mg base 4 "put_deed" ["mind","deed"] (mr K ⟨CH,CM,CT,CW,CR⟩):=hput_deed.at X G fun _ _ F=>ok_putD F TM TW TR MMind_row MRow_with_entry MWritten_keep_row MMind_record;have Afilling:aJ l.prog w K mg base 3 "filling" ["mind","name"] (ig K ⟨CH,CM,CT,CW,CR⟩ ⟨CN,CB,CC⟩):=hfilling.at X G fun _ _ F=>qh F TM TW TR TB TC MMind_row MMind_settled MMembers_next_of MRow_term_at MRow_behind;have Afillings:aJ l.prog w K mg base 4 "fillings" ["mind"] (gx K ⟨CH,CM,CT,CW,CR⟩ ⟨CN,CB,CC⟩):=hfillings.at X G fun _ _ F=>oB F ntuple TM TB TC MMembers_names Afilling;have Aput_bench:aJ l.prog w K mg base 5 "put_bench" ["mind","bench"] (qg K ⟨CH,CM,CT,CW,CR⟩ ⟨CN,CB,CC⟩):=hput_bench.at X G fun _ _ F=>ok_putB F TM TR TB TC MMind_row MRow_last_place Aput_deed MMembers_note_bench;have Aplace_to_settle:aJ l.prog w K mg base 4 "place_to_settle" ["mind"] (wB K ⟨CH,CM,CT,CW,CR⟩ ⟨CN,CB,CC⟩):=hplace_to_settle.at X G fun _ _ F=>ok_pts F nreversed nsorted nset TM TW TR TB TC MMind_row MMind_settled MRow_bench MRow_last_place MRow_term_at MMembers_held_places MMembers_holders Ais_half;have Ais_bench_settled:aJ l.prog w K mg base 3 "is_bench_settled" ["mind"] (q9 K ⟨CH,CM,CT,CW,CR⟩):=his_bench_settled.at X G fun _ _ F=>ok_ibs F TM TR MMind_row MMind_settled MRow_bench_place;have Abench_followed:aJ l.prog w K mg base 6 "bench_followed" ["mind"] (wC K ⟨CH,CM,CT,CW,CR⟩ ⟨CN,CB,CC⟩ false 0):=hbench_followed.at X G fun _ _ F=>ok_bf0 F TM TR MMind_row MRow_bench Ais_bench_settled Ais_joined;have Asettle0:aJ l.prog w K mg base 7 "settle" ["mind"] (cS K ⟨CH,CM,CT,CW,CR⟩ ⟨CN,CB,CC⟩ false 0):=hsettle.at X G fun _ _ F=>kO (by decide) F TM TW TR TB TC Aplace_to_settle MMind_row MMind_settled MRow_between MMembers_holders MRow_bench MMind_settle_to Abench_followed
 have Asent_and_settled0:aJ l.prog w K mg base 8 "sent_and_settled" ["mind"] (cS K ⟨CH,CM,CT,CW,CR⟩ ⟨CN,CB,CC⟩ false 27):=hsent_and_settled.at X G fun _ _ F=>wD (by decide) (by decide) F Afillings Asettle0
 have Abench_followed1:aJ l.prog w K mg base 9 "bench_followed" ["mind"] (wC K ⟨CH,CM,CT,CW,CR⟩ ⟨CN,CB,CC⟩ true 27):=hbench_followed.at X G fun _ _ F=>ok_bf1 (by decide) F TM TR MMind_row MRow_bench Ais_bench_settled Ais_joined Aput_bench Abehind Asent_and_settled0
 have Asettle1:aJ l.prog w K mg base 10 "settle" ["mind"] (cS K ⟨CH,CM,CT,CW,CR⟩ ⟨CN,CB,CC⟩ true 27):=hsettle.at X G fun _ _ F=>kO (by decide) F TM TW TR TB TC Aplace_to_settle MMind_row MMind_settled MRow_between MMembers_holders MRow_bench MMind_settle_to Abench_followed1
 have Asent_and_settled1:aJ l.prog w K mg base 11 "sent_and_settled" ["mind"] (cS K ⟨CH,CM,CT,CW,CR⟩ ⟨CN,CB,CC⟩ true 54):=hsent_and_settled.at X G fun _ _ F=>wD (by decide) (by decide) F Afillings Asettle1
 have Abecome_chair:aJ l.prog w K mg base 12 "become_chair" ["mind"] (jS K ⟨CH,CM,CT,CW,CR⟩):=hbecome_chair.at X G fun _ _ F=>tI (by decide) F ntuple nsorted TM TW TR TB TC MMind_row MRow_bench MRow_last_place MMembers_init MChair_init MMembers_note_bench Aput_deed Asent_and_settled1
 have Abegin_asking:aJ l.prog w K mg base 2 "begin_asking" ["mind","role"] (iU K ⟨CH,CM,CT,CW,CR⟩):=hbegin_asking.at X G fun _ _ F=>wH F TM MMind_follow;have Ahas_half:aJ l.prog w K mg base 4 "has_half" ["mind"] (mv K ⟨CH,CM,CT,CW,CR⟩):=hhas_half.at X G fun _ _ F=>ok_hasH F TM TR MMind_row MRow_bench Ais_half;have Asent_to_speakers:aJ l.prog w K mg base 4 "sent_to_speakers" ["mind","word","term"] (iV K ⟨CH,CM,CT,CW,CR⟩):=hsent_to_speakers.at X G fun _ _ F=>wI F ntuple TM TR MMind_row MRow_bench Aspeakers MRow_last_place MRow_last_term;have Amay_stand:aJ l.prog w K mg base 4 "may_stand" ["mind"] (wG K ⟨CH,CM,CT,CW,CR⟩):=hmay_stand.at X G fun _ _ F=>ok_may F TM TR MMind_row MMind_settled MRow_bench MRow_bench_at Aspeakers;have Astand_up:aJ l.prog w K mg base 13 "stand_up" ["mind"] (ii K ⟨CH,CM,CT,CW,CR⟩):=hstand_up.at X G fun _ _ F=>qp (by decide) F TM TW TR MMind_row MMind_rise_to MMind_vote_for MRow_last_place MRow_last_term Abegin_asking Ahas_half Abecome_chair Asent_to_speakers
 have Alook_ahead:aJ l.prog w K mg base 14 "look_ahead" ["mind"] (mx K ⟨CH,CM,CT,CW,CR⟩):=hlook_ahead.at X G fun _ _ F=>wJ (by decide) F TM TW Abegin_asking Ahas_half Astand_up Asent_to_speakers
 have Avoter_turn:aJ l.prog w K mg base 15 "voter_turn" ["mind"] (my K ⟨CH,CM,CT,CW,CR⟩):=hvoter_turn.at X G fun _ _ F=>wK (by decide) F TM Amay_stand Alook_ahead
 have MHouse_turn:aD l.prog w K mg base CH 16 "turn" ["self"] (mB K ⟨CH,CM,CT,CW,CR⟩):=hHouse_turn.at fun _ _ F=>wL (by decide) F TH TM MMind_is_chair Avoter_turn
 have MHouse_journal:aD l.prog w K mg base CH 1 "journal" ["self"] (qo K ⟨CH,CM,CT,CW,CR⟩):=hHouse_journal.at fun _ _ F=>ok_hjou F ntuple TH TM;have Al_take:aJ l.prog w K mg base 1 "_law_take" ["_law_rest_here","_law_base"] eM:=hl_take.at X G fun _ _ F=>ok_take F;have Al_rest:aJ l.prog w K mg base 1 "_law_rest" ["_law_cell"] qq:=hl_rest.at X G fun _ _ F=>ok_rest F T_;have Al_names:aJ l.prog w K mg base 2 "_law_names" ["_law_rest_here","_law_many"] mC:=hl_names.at X G fun _ _ F=>wR F T_ Al_take;have Al_some:aJ l.prog w K mg base 2 "_law_some" ["_law_rest_here","_law_names_here","_law_least"] qr:=hl_some.at X G fun _ _ F=>ok_some F T_ Al_take;have Al_bench:aJ l.prog w K mg base 3 "_law_bench" ["_law_rest_here","_law_names_here"] fI:=hl_bench.at X G fun _ _ F=>tK F Al_take Al_some;have Al_deed:aJ l.prog w K mg base 4 "_law_deed" ["_law_rest_here","_law_names_here"] mE:=hl_deed.at X G fun _ _ F=>wU F Al_take Al_bench;have Al_state:aJ l.prog w K mg base 5 "_law_state" ["_law_rest_here","_law_names_here"] (mF K):=hl_state.at X G fun _ _ F=>wV F T_ Al_take Al_bench Al_deed;have Al_stands_so:aJ l.prog w K mg base 3 "_law_stands_so" ["_law_house","_law_now"] (spSo K ⟨CH,CM,CT,CW,CR⟩):=hl_stands_so.at X G fun _ _ F=>ok_so F TH MHouse_writes MHouse_part MHouse_settled MHouse_chair_known;have Al_begun:aJ l.prog w K mg base 10 "_law_begun" ["_law_rest_here","_law_names_here"] (mJ K ⟨CH,CM,CT,CW,CR⟩):=hl_begun.at X G fun _ _ F=>xb F T_ TH Al_take Al_bench Al_state MHouse_init MHouse_comes_up;have Al_bench_at:aJ l.prog w K mg base 1 "_law_bench_at" ["_law_now","_law_place"] rm:=hl_bench_at.at X G fun _ _ F=>ok_bal F;have Al_my_bench:aJ l.prog w K mg base 2 "_law_my_bench" ["_law_now"] oJ:=hl_my_bench.at X G fun _ _ F=>ok_mbl F T_ Al_bench_at;have Al_last:aJ l.prog w K mg base 1 "_law_last" ["_law_now"] iX:=hl_last.at X G fun _ _ F=>xc F T_;have Al_others:aJ l.prog w K mg base 3 "_law_others" ["_law_now"] qA:=hl_others.at X G fun _ _ F=>ok_othL F T_ Al_my_bench;have Al_half:aJ l.prog w K mg base 1 "_law_half" ["_law_bench_here","_law_names_here"] (iY K):=hl_half.at X G fun _ _ F=>xf F T_;have Al_standing:aJ l.prog w K mg base 3 "_law_standing" ["_law_now"] qC:=hl_standing.at X G fun _ _ F=>ok_stdL F Al_last Al_my_bench Al_half;have Al_turn:aJ l.prog w K mg base 4 "_law_turn" ["_law_now"] mN:=hl_turn.at X G fun _ _ F=>xh F T_ Al_bench_at Al_my_bench Al_last Al_others Al_half Al_standing;exact ok_law Flaw T_ TH Al_cell_at Al_rest Al_take Al_names Al_begun Al_stands_so Al_turn MHouse_turn MHouse_part MHouse_writes MHouse_journal
theorem walk{l:PySem.W.OpenLaw}{q:Program}{loose:List Str}{XP:(Str->Option Value)->Heap->Prop}{YP:World->Heap->Prop}{d:DefRec}{K:Params->Frag}(hn:l.most=some 63)(hdf:d.params.defaults=[])
  (hY:∀(w:World)(h:Heap),YP w h->(K w.params).In h)
  (F:∀(w:World)(mg:Str->Option Value)(fa:Addr)(h:Heap),(K w.params).In h->h.Ns mainGlobals mg->mg d.name=some (.ref fa) ->
   ∃fd:FuncData,(∀(s:Shared)(u:Value),BindsTo s fd ⟨[u],[]⟩ [("_law_script",u)])/\∀base:Heap,(K w.params).In base->base.Ns mainGlobals mg->aI l.prog w (K w.params) mg base CX0 17 fa fd ["_law_script"] (rq (K w.params))) :
  PySem.W.WalkO q loose XP YP l.row.toRowW d [] (fun f vs=>PySem.call f vs) :=
 L2.walk_of (n:=63) (k:=17) (x:="_law_script") (CX:=fun _=>CX0) (sp:=fun w=>rq (K w.params)) hn (by decide) hdf ⟨rfl,by decide,by decide⟩ hY F (fun _ _ a ns hl _ hS=>⟨a,ns,rfl,hS,hl,fun _=>rfl⟩) fun _ _ _ _ _ z=>z
end K45
end
local macro_rules
 | `(command| #check_failure $x:num) => do
  let p := (`PySem.Challenge).str "cw_chainhouse_k45_turns_till_it_looks_holds"
  let mut c : Array (Lean.TSyntax `command) := #[]
  for n in [x.getNat:x.getNat+250] do
   for k in (if n < 1690 then ["o"] else ["o", "tree", "sts", "heap"]) do c := c.push (← `(command| noncomputable def $(Lean.mkIdent ((`PySem.W.Fast).str s!"tw{(p.str s!"{k}_{n}").hash}")) : Nat := 0))
  return Lean.mkNullNode c
#check_failure 0
#check_failure 250
#check_failure 500
#check_failure 750
#check_failure 1000
#check_failure 1250
#check_failure 1500
noncomputable def PySem.W.Fast.tw10024207772350606598 : Nat := 0
noncomputable def PySem.W.Fast.tw8321645182234340705 : Nat := 0
noncomputable def PySem.W.Fast.tw6177163180971937473 : Nat := 0
noncomputable def PySem.W.Fast.tw11494149081230795713 : Nat := 0
noncomputable def PySem.W.Fast.tw7512246399992162273 : Nat := 0
noncomputable def PySem.W.Fast.tw17593556976726812419 : Nat := 0
noncomputable def PySem.W.Fast.tw16805998714492714085 : Nat := 0
noncomputable def PySem.W.Fast.tw14214048492928491302 : Nat := 0
noncomputable def PySem.W.Fast.tw12426810135353436743 : Nat := 0
noncomputable def PySem.W.Fast.tw16179637692695431783 : Nat := 0
noncomputable def PySem.W.Fast.tw2165384776704372391 : Nat := 0
noncomputable def PySem.W.Fast.tw1292011023459955016 : Nat := 0
noncomputable def PySem.W.Fast.tw4925672138296990184 : Nat := 0
noncomputable def PySem.W.Fast.tw15881750529758474984 : Nat := 0
noncomputable def PySem.W.Fast.tw9524467740875587017 : Nat := 0
noncomputable def PySem.W.Fast.tw14923403058291471946 : Nat := 0
noncomputable def PySem.W.Fast.tw16318276305874019947 : Nat := 0
noncomputable def PySem.W.Fast.tw13756580591448937580 : Nat := 0
noncomputable def PySem.W.Fast.tw15995847076898675916 : Nat := 0
noncomputable def PySem.W.Fast.tw13053319535978909996 : Nat := 0
noncomputable def PySem.W.Fast.tw7035286988475718252 : Nat := 0
noncomputable def PySem.W.Fast.tw16912137174583820525 : Nat := 0
noncomputable def PySem.W.Fast.tw10014914738376669517 : Nat := 0
noncomputable def PySem.W.Fast.tw3234142685946462573 : Nat := 0
noncomputable def PySem.W.Fast.tw5084214607728512461 : Nat := 0
noncomputable def PySem.W.Fast.tw6192946441038128781 : Nat := 0
noncomputable def PySem.W.Fast.tw4110976589721993933 : Nat := 0
noncomputable def PySem.W.Fast.tw4972520097138818382 : Nat := 0
noncomputable def PySem.W.Fast.tw17133169794435365550 : Nat := 0
noncomputable def PySem.W.Fast.tw9034894304410153103 : Nat := 0
noncomputable def PySem.W.Fast.tw8642399342168915727 : Nat := 0
noncomputable def PySem.W.Fast.tw9140321016354331153 : Nat := 0
noncomputable def PySem.W.Fast.tw16411938651610087249 : Nat := 0
noncomputable def PySem.W.Fast.tw4799511378374199922 : Nat := 0
noncomputable def PySem.W.Fast.tw123972518770473747 : Nat := 0
noncomputable def PySem.W.Fast.tw8716132807721102227 : Nat := 0
noncomputable def PySem.W.Fast.tw15455724899817311284 : Nat := 0
noncomputable def PySem.W.Fast.tw10631701431652832084 : Nat := 0
noncomputable def PySem.W.Fast.tw14481713554838619606 : Nat := 0
noncomputable def PySem.W.Fast.tw5563827296852598326 : Nat := 0
noncomputable def PySem.W.Fast.tw11314257612541545080 : Nat := 0
noncomputable def PySem.W.Fast.tw15216520961568978169 : Nat := 0
noncomputable def PySem.W.Fast.tw2277036491129138521 : Nat := 0
noncomputable def PySem.W.Fast.tw8683636056364570233 : Nat := 0
noncomputable def PySem.W.Fast.tw14995924363946924058 : Nat := 0
noncomputable def PySem.W.Fast.tw3283407116438621658 : Nat := 0
noncomputable def PySem.W.Fast.tw6079228243991961178 : Nat := 0
noncomputable def PySem.W.Fast.tw13638084988704707418 : Nat := 0
noncomputable def PySem.W.Fast.tw1202448380650968922 : Nat := 0
noncomputable def PySem.W.Fast.tw13486651714914342299 : Nat := 0
noncomputable def PySem.W.Fast.tw6199207218450080894 : Nat := 0
noncomputable def PySem.W.Fast.tw823518031969333022 : Nat := 0
noncomputable def PySem.W.Fast.tw6638396004878399294 : Nat := 0
noncomputable def PySem.W.Fast.tw8131802354758906239 : Nat := 0
def L2.selMask : Nat := 3178223539773744747594380268222870085451184413664852418484495174104816654231750753759475126473821680052761742625895010624813755938748843146768412492451353753914342002717044736673012021746989463400965079784069760119053348439474009165439303341009790370319498998429879236504352374958009356685933297220602302340299723310690023163657067806711842525183352584011788
local macro_rules
 | `(tactic| o_head ($f:term $a:term $b:term $c:term)) => `(tactic| o_head (L2.tN L2.selMask $a $b $c))
open PySem PySem.W PyProof.Rows
set_option maxRecDepth 100000 in
set_option maxHeartbeats 0 in
theorem PySem.Challenge.cw_chainhouse_k45_turns_till_it_looks_holds : PySem.Challenge.rw_chainhouse_k45_turns_till_it_looks.Holds := by
 w_on; o_law; k_head; (case hw => w_witness2)
 k_fill
 refine K45.walk (l := PySem.Challenge.rw_chainhouse_k45_turns_till_it_looks) rfl rfl (fun w h Y => PySem.W.kIn_of Y) ?F
 case F =>
  intro w mg fa h KX G hmg
  refine' K45.all_mk KX G hmg ?_ ?_ ?_ ?_ ?_ ?_ ?_ ?_ ?_ ?_ ?_ ?_ ?_ ?_ ?_ ?_ ?_ ?_ ?_ ?_ ?_ ?_ ?_ ?_ ?_ ?_ ?_ ?_ ?_ ?_ ?_ ?_ ?_ ?_ ?_ ?_ ?_ ?_ ?_ ?_ ?_ ?_ ?_ ?_ ?_ ?_ ?_ ?_ ?_ ?_ ?_ ?_ ?_ ?_ ?_ ?_ ?_ ?_ ?_ ?_ ?_ ?_ ?_ ?_ ?_ ?_ ?_ ?_ ?_ ?_ ?_ ?_ ?_ ?_ ?_ ?_ ?_ ?_ ?_ ?_ ?_ ?_ ?_ ?_ ?_ ?_ ?_ ?_ ?_ ?_ ?_ ?_ ?_ ?_ ?_ ?_ ?_ ?_ ?_ ?_ ?_ ?_ ?_ ?_ ?_ ?_ ?_ ?_ ?_ ?_ ?_ ?_ ?_ ?_ ?_ ?_ ?_ ?_ ?_ ?_ ?_ ?_ ?_ ?_ ?_ ?_ ?_ ?_ ?_ ?_ ?_ ?_ ?_ ?_ ?_ ?_ ?_ ?_ ?_ ?_ ?_ ?_ ?_ ?_ ?_ ?_ ?_ ?_ ?_ ?_ ?_ ?_ ?_ ?_ ?_ ?_ ?_ ?_ ?_ ?_
  all_goals first
   | (refine' L2.FnF.of ?a ?l ?c ?k; (case a => exact L2.vs_ns (by k_is) (by kernel_rfl)); (case l => exact L2.mS (by k_is) (by kernel_rfl)); (case c => exact L2.mR (by k_is) (by kernel_rfl)); (case k => exact L2.iZ (by k_is) (by kernel_rfl)))
   | (refine' L2.MtF.of ?a ?i ?l ?c ?k; (case a => exact L2.mQ (by k_is) (by kernel_rfl)); (case i => exact L2.vs_isFn (by k_is) (by kernel_rfl)); (case l => exact L2.mS (by k_is) (by kernel_rfl)); (case c => exact L2.mR (by k_is) (by kernel_rfl)); (case k => exact L2.iZ (by k_is) (by kernel_rfl)))
   | exact ⟨L2.vs_pget (by k_is) (by kernel_rfl), L2.xi (by k_is) (by kernel_rfl), L2.xj (by k_is) (by kernel_rfl), L2.mQ (by k_is) (by kernel_rfl), L2.xk (by k_is) (by kernel_rfl), L2.iZ (by k_is) (by kernel_rfl)⟩
   | exact L2.vs_ns (by k_is) (by kernel_rfl)
   | exact L2.mQ (by k_is) (by kernel_rfl)
   | exact L2.mS (by k_is) (by kernel_rfl)
   | exact L2.vs_exc (by unfold L2.bmV; k_exc) (by kernel_rfl)
   | exact L2.mR (by k_is) (by kernel_rfl)
   | exact L2.iZ (by k_is) (by kernel_rfl)
   | rfl
   | skip
