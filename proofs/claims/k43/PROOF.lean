import PyProof.Rows.All
import Wide.All
import KE.KDictList
import KE.KDictOf
import KE.KDictSum
import KE.KIsAll
import KE.KRevIter
import Open.Boot
import Open.Fast
import Open.FastLooks
import Open.FastRun
import Open.FastT9
import Open.FastTabs
import Open.Head
import Open.Line
import Open.Pieces
import Open.Recs
import Open.Seg
import Open.Strs
import Open.Tree
import OpenK.KCall
import OpenK.KCls
import OpenK.KDescr
import OpenK.KGet
import OpenK.KLine
import OpenK.KMake
import OpenK.KMore
import OpenK.KOwn
import OpenK.KRaise
import OpenK.KWalk
import OpenK.Peek
import Wide.FinOn
import Lean
import PyProof.EqAt
import PyProof.EqKinds
import PyProof.TupleCall
import PyProof.Rows.Range3
import PyProof.WalksEnum
import PyProof.EnumMake
import PyProof.Rows.EnumRows
import PyProof.Rows.SetFrom
import PyProof.CollectStr
import PyProof.ZipIter
import PyProof.ExcAttrAll.ValueError
import PyProof.P3Eq
import PyProof.NeKinds
import PyProof.Draws
import PyProof.LongRange
import PyProof.Rows.FStr
import PyProof.StrCalls2
import PyProof.StrLawsTight
import PyProof.Rows.StrItems
import PyProof.Rows.ReprOcc
import PySem.Challenge.RW_chainhouse_k43_cut_at_the_settled_place
set_option Elab.async false
set_option linter.all false
set_option maxRecDepth 100000
set_option maxHeartbeats 8000000
noncomputable section
open PySem.W (Frag)
open List (length_map getElem?_eq_getElem length_take size_toArray getElem?_map length_append length_drop not_mem_nil take_of_length_le getD_eq_getElem?_getD length_cons mem_of_getElem? mem_append)
open PySem.Heap (get?_push_of_some get?_push_size lt_size)
namespace L2
open PySem PySem.Spec PyProof.Rows
abbrev Key:=Sum Int Str
noncomputable def i9:Key->Value->Bool
 | .inl k,v=>Value.isInt k v
 | .inr x,v=>Value.isStrOf x v
noncomputable def keyH(w:World):Key->Int
 | .inl k=>hashInt k
 | .inr x=>hashStr w x
theorem cb:∀{k:Key}{v:Value},i9 k v=true->(∃i t,k=Sum.inl i/\v=Value.int i t)\/(∃x t,k=Sum.inr x/\v=Value.str x t)
 | .inl i,v,h=>by
  obtain⟨t,e⟩:=Value.isInt_shape (k:=i) (v:=v) h;exact .inl ⟨i,t,rfl,e⟩
 | .inr x,v,h=>by
  obtain⟨t,e⟩:=Value.isStrOf_shape (x:=x) (v:=v) h;exact .inr ⟨x,t,rfl,e⟩
theorem rJ(i:Int)(t:Tok):i9 (.inl i) (.int i t)=true:=by simp[i9,Value.isInt]
theorem rK(x:Str)(t:Tok):i9 (.inr x) (.str x t)=true:=by simp[i9,Value.isStrOf]
theorem key_ll(a b:Int):decide ((Sum.inl a:Key)=Sum.inl b)=(a == b):=by
 by_cases e:a=b
 ·subst e;simp
 ·have h:¬(Sum.inl a:Key)=Sum.inl b:=fun q=>e (Sum.inl.inj q);rw[decide_eq_false h];exact(beq_eq_false_iff_ne.mpr e).symm
theorem key_rr(a b:Str):decide ((Sum.inr a:Key)=Sum.inr b)=decide (a=b):=by
 by_cases e:a=b
 ·subst e;simp
 ·have h:¬(Sum.inr a:Key)=Sum.inr b:=fun q=>e (Sum.inr.inj q);rw[decide_eq_false h,decide_eq_false e]
theorem key_lr(a:Int)(b:Str):decide ((Sum.inl a:Key)=Sum.inr b)=false:=decide_eq_false (fun q=>nomatch q)
theorem key_rl(a:Str)(b:Int):decide ((Sum.inr a:Key)=Sum.inl b)=false:=decide_eq_false (fun q=>nomatch q)
noncomputable def bC(prog:Program)(w:World):PySem.KeyKind prog w Key where
 is:=i9
 hash:=keyH w
 inj:=fun v a b ha hb=>by
  rcases cb ha with ⟨i,t,rfl,rfl⟩ | ⟨x,t,rfl,rfl⟩
  ·rcases cb hb with ⟨j,u,rfl,e⟩ | ⟨y,u,rfl,e⟩
   ·injection e with e1 _;rw[e1]
   ·exact nomatch e
  ·rcases cb hb with ⟨j,u,rfl,e⟩ | ⟨y,u,rfl,e⟩
   ·exact nomatch e
   ·injection e with e1 _;rw[e1]
 byValue:=fun k v h=>by
  rcases cb h with ⟨i,t,rfl,rfl⟩ | ⟨x,t,rfl,rfl⟩ <;> rfl
 pyHash:=fun hv h=>by
  rcases cb hv with ⟨i,t,rfl,rfl⟩ | ⟨x,t,rfl,rfl⟩
  ·exact wpAny_pyHash_int h
  ·exact wpAny_pyHash_str h
 eqBool:=fun hu hv h=>by
  rcases cb hu with ⟨i,t,rfl,rfl⟩ | ⟨x,t,rfl,rfl⟩
  ·rcases cb hv with ⟨j,u,rfl,rfl⟩ | ⟨y,u,rfl,rfl⟩
   ·rw[key_ll]at h;exact wpAny_eqBool_int h
   ·rw[key_lr]at h;exact SeqAt.EqAt.int_str i t y u _ _ _ _ h
  ·rcases cb hv with ⟨j,u,rfl,rfl⟩ | ⟨y,u,rfl,rfl⟩
   ·rw[key_rl]at h;exact SeqAt.EqAt.str_int x t j u _ _ _ _ h
   ·rw[key_rr]at h;exact wpAny_eqBool_str h
 «strs»:=fun k x t v h=>by
  rcases cb h with ⟨i,u,rfl,e⟩ | ⟨y,u,rfl,e⟩
  ·exact nomatch e
  ·injection e with e1 _;subst e1;cases v <;> rfl
theorem mU(prog:Program)(w:World)(i:Int)(t:Tok):(bC prog w).is (.inl i) (.int i t)=true:=rJ i t
theorem mV(prog:Program)(w:World)(x:Str)(t:Tok):(bC prog w).is (.inr x) (.str x t)=true:=rK x t
inductive V where
 | non | bl (b:Bool) | int (i:Int) | str (x:Str) | byt (b:Array UInt8) | flt (b:UInt64) | ref (a:Addr) | ty (n:String)
 deriving DecidableEq
noncomputable def bi:V->Value->Prop
 | .non,u=>u=Value.none
 | .bl b,u=>u=Value.bool b
 | .int i,u=>∃t,u=Value.int i t
 | .str x,u=>∃t,u=Value.str x t
 | .byt b,u=>∃t,u=Value.bytes b t
 | .flt b,u=>∃t,u=Value.float b t
 | .ref a,u=>u=Value.ref a
 | .ty n,u=>u=Value.type n
abbrev bA:List V->List Value->Prop:=Paired bi
theorem bA.length{xs:List V}{us:List Value}(r:bA xs us):xs.length=us.length:=Paired.length r
theorem bA.get:∀{xs:List V}{us:List Value}{i:Nat}{x:V},bA xs us->xs[i]?=some x->∃u,us[i]?=some u/\bi x u
 | _,_,_,_,.nil,e=>by simp at e
 | _,_,0,_,.cons r _,e=>by simp at e;subst e;exact⟨_,rfl,r⟩
 | _,_,i + 1,x,.cons _ t,e=>by
  obtain⟨u,h1,h2⟩:=bA.get (i:=i) (x:=x) t (by simpa using e)
  exact⟨u,by simpa using h1,h2⟩
theorem bA.append:∀{xs ys:List V}{us ws:List Value},bA xs us->bA ys ws->bA (xs ++ ys) (us ++ ws)
 | _,_,_,_,.nil,s=>s
 | _,_,_,_,.cons r t,s=>.cons r (bA.append t s)
theorem bA.take:∀{xs:List V}{us:List Value}(n:Nat),bA xs us->bA (xs.take n) (us.take n)
 | _,_,0,_=>.nil
 | _,_,_ + 1,.nil=>.nil
 | _,_,n + 1,.cons r t=>.cons r (bA.take n t)
theorem bA.drop:∀{xs:List V}{us:List Value}(n:Nat),bA xs us->bA (xs.drop n) (us.drop n)
 | _,_,0,r=>r
 | _,_,_ + 1,.nil=>.nil
 | _,_,n + 1,.cons _ t=>bA.drop n t
noncomputable def eQ:Option V->Option Value->Prop
 | some v,some u=>bi v u
 | none,none=>True
 | _,_=>False
def KV{κ:Type}:List (κ × V)->List (κ × Value)->Prop:=Paired fun(p:κ × V)(q:κ × Value)=>p.1=q.1/\bi p.2 q.2
def kV:Key->V
 | .inl i=>.int i
 | .inr x=>.str x
inductive HO where
 | lst (xs:List V)
 | tup (xs:List V)
 | dK (kvs:List (Key × V)) | dT (kvs:List (List Key × V))
 | set (S:Int->Bool) (n:Nat)
 | ins (C dx:Addr) (fs:List (Str × V))
 | own (x:Addr)
 | xd (fs:List (Str × V))
 | met (f x:Addr)
 | rng (lo hi:Int)
 | frz (o:Obj) (u:HO)
 | tbl (ps:Array Value)
 | ext (φ:Heap->Prop)
abbrev Hp:=Addr->Option HO
noncomputable def upd(H:Hp)(a:Addr)(o:HO):Hp:=fun b=>if b=a then some o else H b
theorem ai{H:Hp}{a:Addr}{o:HO}:upd H a o a=some o:=by unfold upd;rw[if_pos rfl]
theorem aw{H:Hp}{a b:Addr}{o:HO}(h:b ≠ a):upd H a o b=H b:=by unfold upd;rw[if_neg h]
theorem lh{H:Hp}{a:Addr}{o u:HO}:upd (upd H a o) a u=upd H a u:=by
 funext b;unfold upd;split <;> rfl
theorem aN{H:Hp}{a b:Addr}{o u:HO}(h:H a=some o)(h':H b=some u)(d:o ≠ u):a ≠ b:=by
 intro e;subst e;rw[h]at h';exact d (Option.some.inj h')
theorem ak{H:Hp}{a b:Addr}{o:HO}(h:H a=some o)(h':H b=none):a ≠ b:=by
 intro e;subst e;rw[h]at h';cases h'
section
variable(P:Program)(w:World)
noncomputable def cD(H:Hp)(h:Heap)(a:Addr):HO->Prop
 | .lst xs=>xs.length <= sizeLine/\∃(its:List Value)(n:Nat),bA xs its/\h.get? a=some { cls:=.type "list",data:=.seq its.toArray n }
 | .tup xs=>xs.length <= sizeLine/\∃its:List Value,bA xs its/\IsTup h a its.toArray
 | .dK kvs=>kvs.length <= sizeLine/\(a == sysModules)=false/\∃vs,KV kvs vs/\h.DictOf (bC P w) a vs
 | .dT kvs=>kvs.length <= sizeLine/\(a == sysModules)=false/\∃xs:List (List Key × Addr × Value),
   Paired (fun(p:List Key × V)(q:List Key × Addr × Value)=>p.1=q.1/\H q.2.1=some (.tup (p.1.map kV))/\bi p.2 q.2.2) kvs xs /\
   ∃o es ep,h.get? a=some o/\o.ExactDict/\o.data=.dict es ep/\es.toList=xs.map (entryOfKey (tupleKind (bC P w)))/\(xs.map (·.1)).Nodup
 | .set S n=>h.SetOf (intKind P w) a S n
 | .ins C dx fs=>H dx=some (.own a)/\fs.length <= 1000/\dx ≠ a/\h.get? a=some (PySem.W.instObj C dx) /\
   ∃mA,h.Ns1 dx mA/\(∀f,eQ (fs.lookup f) (mA f))/\PySem.Within mA (fs.map (·.1))
 | .own _=>∃o,h.get? a=some o
 | .xd fs=>∃mA,h.Ns1 a mA/\∀f,eQ (fs.lookup f) (mA f)
 | .rng lo hi=>∃t u v,h.get? a=some { cls:=.type "range",data:=.fields #[.int lo t,.int hi u,.int 1 v] }
 | .frz o u=>h.get? a=some o/\cD H h a u
 | .tbl ps=>h.get? a=some { cls:=.none,data:=.fields ps }
 | .met f x=>h.get? a=some (PySem.W.methodObj (.ref f) (.ref x))
 | .ext φ=>φ h/\(∃o,h.get? a=some o)/\∀h1 h2:Heap,φ h1->(∀o,h1.get? a=some o->h2.get? a=some o)->φ h2
def HOk(H:Hp)(h:Heap):Prop:=∀a o,H a=some o->cD P w H h a o
end
section
variable{P:Program}{w:World}{H H':Hp}{h h':Heap}{a:Addr}{o:HO}
theorem cD.lt(x:cD P w H h a o):a < h.objs.size:=by
 cases o with
 | lst xs=>obtain⟨_,_,_,_,e⟩:=x;exact lt_size e
 | tup xs=>obtain⟨_,_,_,p⟩:=x;exact p.lt
 | dK kvs=>obtain⟨_,_,_,_,o,_,_,e,_⟩:=x;exact lt_size e
 | dT kvs=>obtain⟨_,_,_,_,o,_,_,e,_⟩:=x;exact lt_size e
 | set S n=>obtain⟨o,_,_,_,e,_⟩:=x;exact lt_size e
 | ins C dx fs=>obtain⟨_,_,_,e,_⟩:=x;exact lt_size e
 | own y=>obtain⟨_,e⟩:=x;exact lt_size e
 | xd fs=>obtain⟨_,⟨_,_,_,e,_⟩,_⟩:=x;exact lt_size e
 | rng lo hi=>obtain⟨_,_,_,e⟩:=x;exact lt_size e
 | frz ob u=>obtain⟨e,_⟩:=x;exact lt_size e
 | tbl ps=>exact lt_size (show h.get? a=some _ from x)
 | met f y=>exact lt_size (show h.get? a=some _ from x)
 | ext φ=>obtain⟨_,⟨_,e⟩,_⟩:=x;exact lt_size e
theorem Paired.mapP{α β:Type}{F G:α->β->Prop}:∀{l₁:List α}{l₂:List β},Paired F l₁ l₂->(∀a b,F a b->G a b)->Paired G l₁ l₂
 | _,_,.nil,_=>.nil
 | _,_,.cons r t,f=>.cons (f _ _ r) (Paired.mapP t f)
theorem Paired.imp'{α β:Type}{F G:α->β->Prop}(f:∀a b,F a b->G a b){l₁:List α}{l₂:List β}(r:Paired F l₁ l₂):Paired G l₁ l₂:=Paired.mapP r f
theorem cD.stay(x:cD P w H h a o)(k:∀b u,(b=a\/H b=some (.own a))->h.get? b=some u->h'.get? b=some u)
  (ho:∀b,H b=some (.own a)->H' b=some (.own a))(ht:∀b xs,H b=some (.tup xs)->H' b=some (.tup xs)):cD P w H' h' a o:=by
 induction o with
 | lst xs=>obtain⟨z,its,n,r,e⟩:=x;exact⟨z,its,n,r,k _ _ (.inl rfl) e⟩
 | tup xs=>obtain⟨z,its,r,ob,e,c⟩:=x;exact⟨z,its,r,ob,k _ _ (.inl rfl) e,c⟩
 | dK kvs=>obtain⟨z,y,vs,r,ob,es,ep,e,c⟩:=x;exact⟨z,y,vs,r,ob,es,ep,k _ _ (.inl rfl) e,c⟩
 | dT kvs =>
  obtain⟨z,y,xs,r,ob,es,ep,e,c⟩:=x;exact⟨z,y,xs,Paired.mapP r fun p q z=>⟨z.1,ht _ _ z.2.1,z.2.2⟩,ob,es,ep,k _ _ (.inl rfl) e,c⟩
 | set S n=>obtain⟨ob,es,ep,t,e,c⟩:=x;exact⟨ob,es,ep,t,k _ _ (.inl rfl) e,c⟩
 | ins C dx fs =>
  obtain⟨d,z,ne,e,mA,⟨od,es,ep,e2,c⟩,r⟩:=x;exact⟨ho _ d,z,ne,k _ _ (.inl rfl) e,mA,⟨od,es,ep,k _ _ (.inr d) e2,c⟩,r⟩
 | own y=>obtain⟨ob,e⟩:=x;exact⟨ob,k _ _ (.inl rfl) e⟩
 | xd fs=>obtain⟨mA,⟨od,es,ep,e,c⟩,r⟩:=x;exact⟨mA,⟨od,es,ep,k _ _ (.inl rfl) e,c⟩,r⟩
 | rng lo hi=>obtain⟨t,u,v,e⟩:=x;exact⟨t,u,v,k _ _ (.inl rfl) e⟩
 | frz ob u ih=>obtain⟨e,q⟩:=x;exact⟨k _ _ (.inl rfl) e,ih q⟩
 | tbl ps =>
  have e:h.get? a=some { cls:=.none,data:=.fields ps }:=x;show h'.get? a=some { cls:=.none,data:=.fields ps };exact k a _ (.inl rfl) e
 | met f y =>
  have e:h.get? a=some (PySem.W.methodObj (.ref f) (.ref y)):=x;show h'.get? a=some (PySem.W.methodObj (.ref f) (.ref y));exact k a _ (.inl rfl) e
 | ext φ=>obtain⟨p,⟨o,e⟩,st⟩:=x;exact⟨st _ _ p fun o q=>k _ _ (.inl rfl) q,⟨o,k _ _ (.inl rfl) e⟩,st⟩
theorem HOk.lt(x:HOk P w H h)(e:H a=some o):a < h.objs.size:=(x a o e).lt
theorem HOk.fresh(x:HOk P w H h)(e:h.objs.size <= a):H a=none:=by
 cases q:H a with
 | none=>rfl
 | some u=>exact absurd (Nat.lt_of_lt_of_le (x.lt q) e) (Nat.lt_irrefl _)
theorem HOk.kept(x:HOk P w H h)(k:∀b u,h.get? b=some u->h'.get? b=some u):HOk P w H h':=fun a o e =>
 (x a o e).stay (fun b u _ q=>k b u q) (fun _ q=>q) fun _ _ q=>q
theorem HOk.laid(x:HOk P w H h)(k:∀b u,h.get? b=some u->h'.get? b=some u)(hp:h.objs.size <= a)(new:cD P w (upd H a o) h' a o):HOk P w (upd H a o) h':=fun b u e=>by
 have hn:=x.fresh hp;by_cases hb:b=a
 ·subst hb;rw[ai]at e;cases e;exact new
 ·rw[aw hb]at e;exact(x b u e).stay (fun c v _ q=>k c v q) (fun c q=>by rw[aw (ak q hn)];exact q) fun c xs q=>by rw[aw (ak q hn)];exact q
end
def Rd(H:Hp)(a:Addr)(u:HO):Prop:=H a=some u\/∃o,H a=some (.frz o u)
theorem Rd.ok{P:Program}{w:World}{H:Hp}{h:Heap}{a:Addr}{u:HO}(r:Rd H a u)(x:HOk P w H h):cD P w H h a u:=by
 rcases r with r | ⟨o,r⟩
 ·exact x a u r
 ·obtain⟨_,q⟩:=x a _ r;exact q
noncomputable def Mut:Option HO->Prop
 | some (.lst _)=>True
 | some (.dK _)=>True
 | some (.dT _)=>True
 | some (.set _ _)=>True
 | some (.ins _ _ _)=>True
 | some (.ext _)=>True
 | _=>False
section
variable{P:Program}{w:World}{H:Hp}{h h':Heap}{x e:Addr}{o':HO}
theorem HOk.write(ok:HOk P w H h)(mu:Mut (H x))(he:e=x\/H e=some (.own x))(k:∀b u,b ≠ e->h.get? b=some u->h'.get? b=some u)(heo:∃u,h'.get? e=some u)
  (new:cD P w (upd H x o') h' x o'):HOk P w (upd H x o') h':=fun b u q=>by
 have nown:∀c y,H c=some (.own y)->c ≠ x:=fun c y r z=>by subst z;rw[r]at mu;exact mu
 have ntup:∀c xs,H c=some (.tup xs)->c ≠ x:=fun c xs r z=>by subst z;rw[r]at mu;exact mu
 by_cases hb:b=x
 ·subst hb;rw[ai]at q;cases q;exact new
 ·rw[aw hb]at q;by_cases hbe:b=e
  ·have q':H b=some (.own x):=by
    rcases he with z | z
    ·exact absurd (hbe.trans z) hb
    ·rw[hbe];exact z
   rw[q]at q';cases q';obtain⟨v,hv⟩:=heo;exact⟨v,by rw[hbe];exact hv⟩
  ·refine(ok b u q).stay (fun c v hc r=>k c v ?_ r) (fun c r=>by rw[aw (nown c b r)];exact r) fun c xs r=>by rw[aw (ntup c xs r)];exact r
   rcases hc with rfl | hc
   ·exact hbe
   ·rintro rfl;rcases he with z | z
    ·exact nown c b hc z
    ·rw[hc]at z;cases z;exact hb rfl
end
structure Un(fs ex:List Addr)(H H':Hp)(h h':Heap):Prop where
 keep:∀b o,h.get? b=some o->H b=none->b ∉ fs->b ∉ ex->h'.get? b=some o
 slot:∀b o,h.get? b=some o->H b=none->b ∈ fs->b ∉ ex->∃sl,h'.get? b=some { o with slots:=sl }
 free:∀b o,h.get? b=some o->H b=none->b ∉ ex->H' b=none
 there:∀b o,h.get? b=some o->b ∉ ex->∃o',h'.get? b=some o'
 tups:∀b xs,H b=some (.tup xs)->H' b=some (.tup xs)
 frzs:∀b o u,H b=some (.frz o u)->H' b=some (.frz o u)
 tbls:∀b ps,H b=some (.tbl ps)->∃more,H' b=some (.tbl (ps ++ more))
section
variable{fs fs' ex ex':List Addr}{H H1 H2:Hp}{h h1 h2 h':Heap}{a x e:Addr}{o:HO}
theorem Un.any(u:Un fs ex H H1 h h1){b:Addr}{ob:Obj}(q:h.get? b=some ob)(n:H b=none)(hx:b ∉ ex):∃sl,h1.get? b=some { ob with slots:=sl }:=by
 by_cases hb:b ∈ fs
 ·exact u.slot b ob q n hb hx
 ·exact⟨ob.slots,u.keep b ob q n hb hx⟩
theorem Un.trans(a:Un fs ex H H1 h h1)(b:Un fs ex H1 H2 h1 h2):Un fs ex H H2 h h2 where
 keep:=fun c ob q n hc hx=>b.keep c ob (a.keep c ob q n hc hx) (a.free c ob q n hx) hc hx
 slot:=fun c ob q n hc hx=>by
  obtain⟨sl,e1⟩:=a.slot c ob q n hc hx;obtain⟨sl',e2⟩:=b.slot c _ e1 (a.free c ob q n hx) hc hx;exact⟨sl',e2⟩
 free:=fun c ob q n hx=>by
  obtain⟨o',e1⟩:=a.there c ob q hx;exact b.free c o' e1 (a.free c ob q n hx) hx
 there:=fun c ob q hx=>by
  obtain⟨o',e1⟩:=a.there c ob q hx;exact b.there c o' e1 hx
 tups:=fun c xs q=>b.tups c xs (a.tups c xs q)
 frzs:=fun c ob xs q=>b.frzs c ob xs (a.frzs c ob xs q)
 tbls:=fun c ps q=>by
  obtain⟨m1,e1⟩:=a.tbls c ps q;obtain⟨m2,e2⟩:=b.tbls c _ e1;exact⟨m1 ++ m2,by rw[e2,Array.append_assoc]⟩
theorem Un.kept(k:∀b u,h.get? b=some u->h'.get? b=some u):Un fs ex H H h h' :=
 ⟨fun b ob q _ _ _=>k b ob q,fun b ob q _ _ _=>⟨ob.slots,k b ob q⟩,fun _ _ _ n _=>n,fun b ob q _=>⟨ob,k b ob q⟩,fun _ _ q=>q,fun _ _ _ q=>q,fun _ ps q=>⟨#[],by rw[q];simp⟩⟩
theorem Un.refl:Un fs ex H H h h:=Un.kept fun _ _ q=>q
theorem Un.laid(k:∀b u,h.get? b=some u->h'.get? b=some u)(hp:h.objs.size <= a)(hn:H a=none):Un fs ex H (upd H a o) h h' where
 keep:=fun b u q _ _ _=>k b u q
 slot:=fun b u q _ _ _=>⟨u.slots,k b u q⟩
 free:=fun b u q n _=>by rw[aw (Nat.ne_of_lt (Nat.lt_of_lt_of_le (lt_size q) hp))];exact n
 there:=fun b u q _=>⟨u,k b u q⟩
 tups:=fun b xs q=>by rw[aw (ak q hn)];exact q
 frzs:=fun b u xs q=>by rw[aw (ak q hn)];exact q
 tbls:=fun b ps q=>⟨#[],by rw[aw (ak q hn),q];simp⟩
theorem Un.write(mu:Mut (H x))(he:e=x\/H e=some (.own x))(k:∀b u,b ≠ e->h.get? b=some u->h'.get? b=some u)(heo:∃u,h'.get? e=some u):Un fs ex H (upd H x o) h h':=by
 have hx:∀b,H b=none->b ≠ x:=fun b n z=>by subst z;rw[n]at mu;exact mu
 have hb:∀b,H b=none->b ≠ e:=fun b n z=>by
  subst z;rcases he with r | r
  ·exact hx b n r
  ·rw[n]at r;cases r
 have hm:∀b u,H b=some u->¬Mut (some u)->b ≠ x:=fun b u q nm z=>by subst z;rw[q]at mu;exact nm mu
 refine⟨fun b u q n _ _=>k b u (hb b n) q,fun b u q n _ _=>⟨u.slots,k b u (hb b n) q⟩,fun b u q n _=>by rw[aw (hx b n)];exact n,fun b u q _=>?_,
  fun b xs q=>by rw[aw (hm b _ q fun z=>z)];exact q,fun b u xs q=>by rw[aw (hm b _ q fun z=>z)];exact q,fun b ps q=>⟨#[],by rw[aw (hm b _ q fun z=>z),q];simp⟩⟩
 by_cases hbe:b=e
 ·subst hbe;exact heo
 ·exact⟨u,k b u hbe q⟩
end
noncomputable def trk(h:Heap)(H:Hp):List Addr:=(List.range h.objs.size).filter fun a=>(H a).isSome
def li(h:Heap)(H:Hp):Heap:=PySem.W.hideAll h (trk h H)
theorem rL(h:Heap)(H:Hp):(li h H).objs.size=h.objs.size:=PySem.W.hideAll_size _ _
theorem uc{h:Heap}{H:Hp}{b:Addr}{o:Obj}(e:h.get? b=some o)(n:H b=none):(li h H).get? b=some o :=
 PySem.W.hideAll_get _ e fun hm=>by
  have q:(H b).isSome=true:=(List.mem_filter.mp hm).2;rw[n]at q;simp at q
theorem of_hidT{h:Heap}{H:Hp}{b:Addr}{o:Obj}(e:(li h H).get? b=some o):h.get? b=some o/\H b=none:=by
 have e':h.get? b=some o:=PySem.W.of_hideAll (trk h H) e;refine⟨e',?_⟩;cases q:H b with
 | none=>rfl
 | some x =>
  have hm:b ∈ trk h H:=List.mem_filter.mpr ⟨List.mem_range.mpr (lt_size e'),by simp[q]⟩
  have z:(li h H).get? b=none:=PySem.W.hideAll_none (trk h H) hm;rw[z]at e;cases e
structure Mod(K:Frag)(mg:Str->Option Value)(base:Heap):Prop where
 kin:K.In base
 glob:base.Ns mainGlobals mg
 blt:∃mb,base.Ns builtinsNs mb/\∀x:Str,x ≠ "__name__" ->mb x=bootBuiltins x
 nolimit:base.NoLimit
structure Cx where
 prog:Program
 w:World
 K:Frag
 mg:Str->Option Value
 base:Heap
 A:Around
 N:List Str
 s₀:Shared
 H₀:Hp
 env:Env
 outer:List Env
 stack:List Env
 ex:List Addr
 fn:Str->Bool
 calm:Bool
 pn:List (Addr × Obj)
 xe:Value->Shared->Prop
def frs(l:List Env):List Addr:=l.filterMap (·.frame)
abbrev Cx.fs(X:Cx):List Addr:=frs X.outer
def Vis(sc:Scope)(x:Str):Prop:=sc.names.lookup x=some .local\/sc.names.lookup x=some .cell\/sc.names.lookup x=some .free
def Loc(sc:Scope)(x:Str):Prop:=sc.names.lookup x=some .local\/sc.names.lookup x=some .cell
def Look(env:Env)(h:Heap)(m:Str->Option Value)(x:Str)(u:Value):Prop :=
 (env.kindOf x=some .local/\m x=some u)\/((env.kindOf x=some .cell\/env.kindOf x=some .free)/\∃c,env.cells.lookup x=some c/\h.IsCell c (some u))
structure Cx.Ok(X:Cx):Prop where
 mod:Mod X.K X.mg X.base
 kind:X.env.scope.kind=.function
 glob:X.env.globals=mainGlobals
 blt:X.env.builtins=builtinsNs
 above:X.s₀.heap.objs.size <= X.env.locals
 inj:∀x y c,X.env.cells.lookup x=some c->X.env.cells.lookup y=some c->x=y
 has:∀x,(X.env.kindOf x=some .cell\/X.env.kindOf x=some .free)->∃c,X.env.cells.lookup x=some c
 cab:∀x c,X.fn x=true->X.env.cells.lookup x=some c->X.s₀.heap.objs.size <= c
 hd:X.calm=true->X.A.handled=none
 frames:X.A.frames=some X.stack
 stk:X.stack=X.outer\/(X.stack=X.env :: X.outer/\X.env.frame=some X.env.locals)
 exf:∀b ∈ X.ex,b ≠ X.env.locals/\∀x c,X.env.cells.lookup x=some c->c ≠ b
 bs:∀b o,X.base.get? b=some o->X.s₀.heap.get? b=some o/\X.H₀ b=none
 bsz:X.base.objs.size <= X.s₀.heap.objs.size
 noex:∀b o,X.base.get? b=some o->b ∉ X.ex
 exfs:∀b ∈ X.ex,b ∉ X.fs
 funs:X.s₀.heap.FunFrames X.base X.outer
 frf:∀b ∈ X.fs,X.H₀ b=none
structure Inv(X:Cx)(pins:List (Addr × Obj))(σ:List (Option V))(H:Hp)(s:Shared):Prop where
 ok:X.Ok
 os:s.os=X.s₀.os
 bare:AllBare s.gens
 base:Un X.fs X.ex X.H₀ H X.s₀.heap s.heap
 loc:∃m,s.heap.Ns X.env.locals m/\∀(i:Nat)(x:Str)(v:V),X.N[i]?=some x->σ[i]?=some (some v)->Vis X.env.scope x->∃u,bi v u/\Look X.env s.heap m x u
 cell:∀x c,X.env.cells.lookup x=some c->∃v,s.heap.IsCell c v
 free:H X.env.locals=none
 freeC:∀x c,X.env.cells.lookup x=some c->H c=none
 pin:∀p ∈ X.pn ++ pins,s.heap.get? p.1=some p.2/\H p.1=none/\p.1 ≠ X.env.locals/\p.1 ∉ X.fs/\∀v,p.2.data ≠ .cell v
 hok:HOk X.prog X.w H s.heap
 len:σ.length=X.N.length
section
variable{X:Cx}{pins:List (Addr × Obj)}{σ:List (Option V)}{H H':Hp}{s:Shared}{h':Heap}
theorem Cx.Ok.nofr(ok:X.Ok){b:Addr}{o:Obj}(e:X.base.get? b=some o):b ∉ X.fs:=fun hb=>by
 have:=(ok.funs.mem hb).1;rw[e]at this;cases this
theorem Inv.bs(I:Inv X pins σ H s):∀b o,X.base.get? b=some o->s.heap.get? b=some o/\H b=none:=fun b o e =>
 ⟨I.base.keep b o (I.ok.bs b o e).1 (I.ok.bs b o e).2 (I.ok.nofr e) (I.ok.noex b o e),I.base.free b o (I.ok.bs b o e).1 (I.ok.bs b o e).2 (I.ok.noex b o e)⟩
theorem Inv.bk(I:Inv X pins σ H s):∀b o,X.base.get? b=some o->s.heap.get? b=some o:=fun b o e=>(I.bs b o e).1
theorem Inv.mod(I:Inv X pins σ H s):Mod X.K X.mg X.base:=I.ok.mod
theorem Inv.kIn(I:Inv X pins σ H s):X.K.In s.heap:=I.ok.mod.kin.keeps I.bk
theorem Inv.fr(I:Inv X pins σ H s):∃m,Fr X.base X.env.locals s.heap m :=
 let ⟨m,hn,_⟩:=I.loc
 ⟨m,hn,I.bk,Nat.le_trans I.ok.bsz I.ok.above⟩
theorem Inv.lt(I:Inv X pins σ H s):X.env.locals < s.heap.objs.size:=let ⟨_,hn,_⟩:=I.loc;hn.lt
theorem Inv.sz(I:Inv X pins σ H s):X.s₀.heap.objs.size <= s.heap.objs.size:=Nat.le_trans I.ok.above (Nat.le_of_lt I.lt)
theorem Inv.nofs(I:Inv X pins σ H s){a:Addr}(h:s.heap.objs.size <= a):a ∉ X.fs:=fun hb=>by
 obtain⟨_,o,ho,_⟩:=I.ok.funs.mem hb;exact absurd (Nat.lt_of_lt_of_le (lt_size ho) (Nat.le_trans I.sz h)) (Nat.lt_irrefl _)
theorem Inv.cne(I:Inv X pins σ H s):∀x c,X.env.cells.lookup x=some c->c ≠ X.env.locals:=fun x c e z=>by
 obtain⟨v,o,ho,hd⟩:=I.cell x c e;obtain⟨m,⟨o',es,ep,ho',hd',_⟩,_⟩:=I.loc;rw[z,ho']at ho;cases ho;rw[hd']at hd;cases hd
theorem Inv.funs(I:Inv X pins σ H s):s.heap.FunFrames X.base X.outer:=by
 have all:∀(l:List Env),(∀b ∈ frs l,b ∈ X.fs)->X.s₀.heap.FunFrames X.base l->s.heap.FunFrames X.base l:=by
  intro l;induction l with
  | nil=>intro _ _;trivial
  | cons env r ih =>
   intro hs hl;obtain⟨hk,⟨L,o,hf,hn,ho,hd⟩,hr⟩:=hl;have hL:L ∈ X.fs:=hs L (by unfold frs;rw[List.filterMap_cons,hf];exact List.mem_cons_self)
   obtain⟨sl,e⟩:=I.base.slot L o ho (I.ok.frf L hL) hL fun z=>I.ok.exfs L z hL;exact⟨hk,⟨L,_,hf,hn,e,hd⟩,ih (fun b hb=>hs b (by unfold frs;rw[List.filterMap_cons,hf];exact List.mem_cons_of_mem _ hb)) hr⟩
 exact all X.outer (fun _ hb=>hb) I.ok.funs
theorem Inv.stack(I:Inv X pins σ H s):s.heap.FunFrames X.base X.stack:=by
 rcases I.ok.stk with e | ⟨e,hf⟩
 ·rw[e];exact I.funs
 ·rw[e];obtain⟨m,hn,_⟩:=I.loc;refine .cons (by rw[I.ok.kind];decide) hf hn ?_ I.funs
  exact Heap.get?_none_of_le (Nat.le_trans I.ok.bsz I.ok.above)
theorem Inv.stkSub(I:Inv X pins σ H s):∀b ∈ frs X.stack,b ∈ X.env.locals :: X.fs:=fun b hb=>by
 rcases I.ok.stk with e | ⟨e,hf⟩
 ·rw[e]at hb;exact List.mem_cons_of_mem _ hb
 ·rw[e]at hb;unfold frs at hb;rw[List.filterMap_cons,hf]at hb;exact hb
theorem Inv.stkFree(I:Inv X pins σ H s):∀b ∈ frs X.stack,H b=none:=fun b hb=>by
 rcases List.mem_cons.mp (I.stkSub b hb) with e | hb
 ·rw[e];exact I.free
 ·obtain⟨_,o,ho,_⟩:=I.ok.funs.mem hb;exact I.base.free b o ho (I.ok.frf b hb) fun z=>I.ok.exfs b z hb
theorem Inv.step{g':Array GenState}{t':Nat}{d':Drawn}{ch:List Addr}(I:Inv X pins σ H s)
  (hch:∀b ∈ ch,(b ∈ X.ex\/X.s₀.heap.objs.size <= b)/\b ≠ X.env.locals/\(∀x c,X.env.cells.lookup x=some c->c ≠ b)/\∀p ∈ X.pn ++ pins,p.1 ≠ b)
  (keep:∀b o,b ≠ X.env.locals->b ∉ X.fs->b ∉ ch->s.heap.get? b=some o->H b=none->h'.get? b=some o)
  (slot:∀b o,b ≠ X.env.locals->b ∈ X.fs->b ∉ ch->s.heap.get? b=some o->H b=none->∃sl,h'.get? b=some { o with slots:=sl })(free:∀b o,b ∉ ch->s.heap.get? b=some o->H b=none->H' b=none)
  (there:∀b o,b ∉ ch->s.heap.get? b=some o->∃o',h'.get? b=some o')
  (tups:∀b xs,H b=some (.tup xs)->H' b=some (.tup xs))(frzs:∀b o u,H b=some (.frz o u)->H' b=some (.frz o u))(tbls:∀b ps,H b=some (.tbl ps)->∃more,H' b=some (.tbl (ps ++ more)))
  (ns:∀m,s.heap.Ns X.env.locals m->h'.Ns X.env.locals m)(hok:HOk X.prog X.w H' h')(hg:AllBare g') :
  Inv X pins σ H' { s with heap:=h',gens:=g',drawn:=d',toks:=t' }:=by
 have neL:∀b o,X.s₀.heap.get? b=some o->b ≠ X.env.locals:=fun b o e=>Nat.ne_of_lt (Nat.lt_of_lt_of_le (lt_size e) I.ok.above);have neC:∀b o,X.s₀.heap.get? b=some o->b ∉ X.ex->b ∉ ch:=fun b o e hx hb=>by
  rcases (hch b hb).1 with z | z
  ·exact hx z
  ·exact absurd (Nat.lt_of_lt_of_le (lt_size e) z) (Nat.lt_irrefl _)
 have cellK:∀x c,X.env.cells.lookup x=some c->∀v,s.heap.IsCell c v->h'.IsCell c v:=fun x c e v ⟨o,ho,hd⟩=>by
  have nch:c ∉ ch:=fun z=>(hch c z).2.2.1 x c e rfl;by_cases hc:c ∈ X.fs
  ·obtain⟨sl,q⟩:=slot c o (I.cne x c e) hc nch ho (I.freeC x c e);exact⟨_,q,hd⟩
  ·exact⟨o,keep c o (I.cne x c e) hc nch ho (I.freeC x c e),hd⟩
 refine⟨I.ok,I.os,hg,⟨fun b o e n hb hx=>?_,fun b o e n hb hx=>?_,fun b o e n hx=>?_,fun b o e hx=>?_,fun b xs e=>tups b xs (I.base.tups b xs e),fun b o xs e=>frzs b o xs (I.base.frzs b o xs e),fun b ps e=>?_⟩,?_,fun x c e=>?_,?_,fun x c e=>?_,fun p hp=>?_,hok,I.len⟩
 ·exact keep b o (neL b o e) hb (neC b o e hx) (I.base.keep b o e n hb hx) (I.base.free b o e n hx)
 ·obtain⟨sl,e1⟩:=I.base.slot b o e n hb hx;obtain⟨sl',e2⟩:=slot b _ (neL b o e) hb (neC b o e hx) e1 (I.base.free b o e n hx);exact⟨sl',e2⟩
 ·obtain⟨o',e1⟩:=I.base.there b o e hx;exact free b o' (neC b o e hx) e1 (I.base.free b o e n hx)
 ·obtain⟨o',e1⟩:=I.base.there b o e hx;exact there b o' (neC b o e hx) e1
 ·obtain⟨m1,e1⟩:=I.base.tbls b ps e;obtain⟨m2,e2⟩:=tbls b _ e1;exact⟨m1 ++ m2,by rw[e2,Array.append_assoc]⟩
 ·obtain⟨m,hn,hl⟩:=I.loc;refine⟨m,ns m hn,fun i x v e1 e2 e3=>?_⟩;obtain⟨u,r,l⟩:=hl i x v e1 e2 e3;refine⟨u,r,?_⟩;rcases l with l | ⟨k,c,e,z⟩
  ·exact .inl l
  ·exact .inr ⟨k,c,e,cellK x c e _ z⟩
 ·obtain⟨v,z⟩:=I.cell x c e;exact⟨v,cellK x c e v z⟩
 ·obtain⟨m,⟨o,_,_,ho,_⟩,_⟩:=I.loc;exact free _ o (fun z=>(hch _ z).2.1 rfl) ho I.free
 ·obtain⟨v,o,ho,hd⟩:=I.cell x c e;exact free c o (fun z=>(hch c z).2.2.1 x c e rfl) ho (I.freeC x c e)
 ·obtain⟨e,n,ne,nf,d⟩:=I.pin p hp;have nch:p.1 ∉ ch:=fun z=>(hch p.1 z).2.2.2 p hp rfl;exact⟨keep p.1 p.2 ne nf nch e n,free p.1 p.2 nch e n,ne,nf,d⟩
theorem Inv.un{t':Nat}(I:Inv X pins σ H s)(u:Un X.fs [] H H' s.heap h')(hok:HOk X.prog X.w H' h'):Inv X pins σ H' { s with heap:=h',toks:=t' }:=by
 obtain⟨m,⟨o,es,ep,ho,r⟩,_⟩:=id I.loc;obtain⟨sl,hL⟩:=u.any ho I.free (by simp)
 exact I.step (g':=s.gens) (d':=s.drawn) (ch:=[]) (fun _ z=>nomatch z) (fun b o _ hb _ e n=>u.keep b o e n hb (by simp)) (fun b o _ hb _ e n=>u.slot b o e n hb (by simp)) (fun b o _ e n=>u.free b o e n (by simp)) (fun b o _ e=>u.there b o e (by simp)) u.tups u.frzs u.tbls (fun m' hm=>by
  obtain⟨o',es',ep',ho',r'⟩:=hm;rw[ho]at ho';cases ho';exact⟨_,es',ep',hL,r'⟩) hok I.bare
theorem Inv.call{g':Array GenState}{t':Nat}{d':Drawn}{ch:List Addr}(I:Inv X pins σ H s)(u:Un (frs X.stack) ch H H' s.heap h')(hok:HOk X.prog X.w H' h')(hg:AllBare g')
  (hch:∀b ∈ ch,(b ∈ X.ex\/X.s₀.heap.objs.size <= b)/\b ≠ X.env.locals/\(∀x c,X.env.cells.lookup x=some c->c ≠ b)/\∀p ∈ X.pn ++ pins,p.1 ≠ b) :
  Inv X pins σ H' { s with heap:=h',gens:=g',drawn:=d',toks:=t' }:=by
 obtain⟨m,⟨o,es,ep,ho,r⟩,_⟩:=id I.loc;obtain⟨sl,hL⟩:=u.any ho I.free fun z=>(hch _ z).2.1 rfl;exact I.step (ch:=ch) hch (fun b o hL hb hc e n=>u.keep b o e n (fun z=>(List.mem_cons.mp (I.stkSub b z)).elim hL hb) hc) (fun b o _ _ hc e n=>u.any e n hc) (fun b o hc e n=>u.free b o e n hc) (fun b o hc e=>u.there b o e hc) u.tups u.frzs u.tbls (fun m' hm=>by
  obtain⟨o',es',ep',ho',r'⟩:=hm;rw[ho]at ho';cases ho';exact⟨_,es',ep',hL,r'⟩) hok hg
theorem Inv.turned{t':Nat}{it:Addr}(I:Inv X pins σ H s)(k:∀b o,b ≠ it->s.heap.get? b=some o->h'.get? b=some o)(hn:H it=none)(hL:it ≠ X.env.locals)
  (h1:it ∈ X.ex\/X.s₀.heap.objs.size <= it)(h2:∀x c,X.env.cells.lookup x=some c->c ≠ it)(h3:∀p ∈ X.pn ++ pins,p.1 ≠ it):Inv X pins σ H { s with heap:=h',toks:=t' }:=by
 have nit:∀b u,H b=some u->b ≠ it:=fun b u e z=>by rw[z,hn]at e;cases e
 refine I.step (g':=s.gens) (d':=s.drawn) (ch:=[it]) (fun b hb=>?_) (fun b o _ _ hc e _=>k b o (fun z=>hc (by simp[z])) e) (fun b o _ _ hc e _=>⟨o.slots,k b o (fun z=>hc (by simp[z])) e⟩) (fun _ _ _ _ n=>n)
  (fun b o hc e=>⟨o,k b o (fun z=>hc (by simp[z])) e⟩) (fun _ _ e=>e) (fun _ _ _ e=>e) (fun b ps e=>⟨#[],by rw[e];simp⟩) (fun m hm=>?_) (fun b u e=>?_) I.bare
 ·have e:b=it:=by simpa using hb
  subst e;exact⟨h1,hL,h2,h3⟩
 ·obtain⟨o,es,ep,ho,r⟩:=hm;exact⟨o,es,ep,k _ o (Ne.symm hL) ho,r⟩
 ·refine(I.hok b u e).stay (fun c v hc q=>k c v ?_ q) (fun _ q=>q) fun _ _ q=>q;rcases hc with z | z
  ·rw[z];exact nit b u e
  ·exact nit c _ z
theorem Inv.tok(I:Inv X pins σ H s)(t:Nat):Inv X pins σ H { s with toks:=t }:=I.un (h':=s.heap) (t':=t) Un.refl I.hok
theorem Inv.kept{t':Nat}(I:Inv X pins σ H s)(k:∀b u,s.heap.get? b=some u->h'.get? b=some u):Inv X pins σ H { s with heap:=h',toks:=t' }:=I.un (Un.kept k) (I.hok.kept k)
theorem Inv.laid{a:Addr}{o:HO}{t':Nat}(I:Inv X pins σ H s)(k:∀b u,s.heap.get? b=some u->h'.get? b=some u)(hp:s.heap.objs.size <= a)(new:cD X.prog X.w (upd H a o) h' a o) :
  Inv X pins σ (upd H a o) { s with heap:=h',toks:=t' }:=I.un (Un.laid k hp (I.hok.fresh hp)) (I.hok.laid k hp new)
theorem Inv.write{x e:Addr}{o:HO}{t':Nat}(I:Inv X pins σ H s)(mu:Mut (H x))(he:e=x\/H e=some (.own x))(k:∀b u,b ≠ e->s.heap.get? b=some u->h'.get? b=some u)(heo:∃u,h'.get? e=some u)
  (new:cD X.prog X.w (upd H x o) h' x o):Inv X pins σ (upd H x o) { s with heap:=h',toks:=t' }:=I.un (Un.write mu he k heo) (I.hok.write mu he k heo new)
theorem Inv.weak{σ':List (Option V)}(I:Inv X pins σ H s)(hl:σ'.length=σ.length)(w:∀(i:Nat) v,σ'[i]?=some (some v)->σ[i]?=some (some v)):Inv X pins σ' H s :=
 ⟨I.ok,I.os,I.bare,I.base,let ⟨m,hn,hl'⟩:=I.loc;⟨m,hn,fun i x v e1 e2 e3=>hl' i x v e1 (w i v e2) e3⟩,I.cell,I.free,I.freeC,I.pin,I.hok,hl.trans I.len⟩
theorem Inv.pins_of{pins':List (Addr × Obj)}(I:Inv X pins σ H s)(h:∀p ∈ pins',s.heap.get? p.1=some p.2/\H p.1=none/\p.1 ≠ X.env.locals/\p.1 ∉ X.fs/\∀v,p.2.data ≠ .cell v):Inv X pins' σ H s :=
 ⟨I.ok,I.os,I.bare,I.base,I.loc,I.cell,I.free,I.freeC,fun p hp=>(mem_append.mp hp).elim (fun z=>I.pin p (List.mem_append_left _ z)) (h p),I.hok,I.len⟩
theorem mW{N:List Str}(hN:N.Nodup){i j:Nat}{x:Str}(a:N[i]?=some x)(b:N[j]?=some x):i=j:=by
 obtain⟨h1,e1⟩:=List.getElem?_eq_some_iff.mp a;obtain⟨h2,e2⟩:=List.getElem?_eq_some_iff.mp b;exact(List.getElem_inj hN).mp (e1.trans e2.symm)
theorem j6{M:Model}{A:Around}{E:Value->Shared->Prop}{i:Nat}{x:Str}{v:V}{u:Value}{Q:Unit->Shared->Prop}(I:Inv X pins σ H s)(hN:X.N.Nodup)(hi:X.N[i]?=some x)(hx:Loc X.env.scope x)(r:bi v u)
  (h:∀s',Inv X pins (σ.set i (some v)) H s'->(∃a,Heap.SameBut a s.heap s'.heap/\(a=X.env.locals\/X.env.cells.lookup x=some a))->Q () s')(hf:X.fn x=true\/X.env.scope.names.lookup x=some .local:=by first | exact .inl rfl | exact .inr rfl | assumption):wpAny M A (storeName X.env x u) Q E s:=by
 obtain⟨m,hn,hl⟩:=id I.loc;have hcls:(X.env.scope.kind == .class || (X.env.scope.kind == .module && X.env.locals != X.env.globals))=false:=by rw[I.ok.kind];rfl
 have hiσ:i < σ.length:=by rw[I.len];exact(List.getElem?_eq_some_iff.mp hi).1
 have cne:=I.cne;have tracked:∀{a:Addr}{h':Heap},(∃o,s.heap.get? a=some o/\H a=none)->Heap.SameBut a s.heap h'->HOk X.prog X.w H h':=fun {a h'} ha hs b ob e=>by
  obtain⟨_,_,hfree⟩:=ha;refine(I.hok b ob e).stay (fun c w' hc q=>(hs.2 c ?_).trans q) (fun _ q=>q) fun _ _ q=>q;rintro rfl;rcases hc with rfl | hc
  ·rw[hfree]at e;cases e
  ·rw[hfree]at hc;cases hc
 rcases hx with hk | hk
 ·refine wpAny_storeName_local hk hn (fun h' hn' hs=>?_) hcls;obtain⟨oL,_,_,hoL,_⟩:=id hn;refine h _ ⟨I.ok,I.os,I.bare,⟨fun b o e n hb hx=>?_,fun b o e n hb hx=>?_,I.base.free,fun b o e hx=>?_,I.base.tups,I.base.frzs,I.base.tbls⟩,⟨_,hn',fun j y v' e1 e2 e3=>?_⟩,fun y c e=>?_,I.free,I.freeC,fun p hp=>?_,tracked ⟨oL,hoL,I.free⟩ hs,by simpa using I.len⟩ ⟨_,hs,.inl rfl⟩
  ·exact(hs.2 b (Nat.ne_of_lt (Nat.lt_of_lt_of_le (lt_size e) I.ok.above))).trans (I.base.keep b o e n hb hx)
  ·obtain⟨sl,e1⟩:=I.base.slot b o e n hb hx;exact⟨sl,(hs.2 b (Nat.ne_of_lt (Nat.lt_of_lt_of_le (lt_size e) I.ok.above))).trans e1⟩
  ·obtain⟨o',e1⟩:=I.base.there b o e hx;exact⟨o',(hs.2 b (Nat.ne_of_lt (Nat.lt_of_lt_of_le (lt_size e) I.ok.above))).trans e1⟩
  ·by_cases hj:j=i
   ·subst hj;rw[hi]at e1;cases e1;rw[List.getElem?_set_self hiσ]at e2;cases e2;exact⟨u,r,.inl ⟨hk,by simp⟩⟩
   ·rw[List.getElem?_set_ne (Ne.symm hj)]at e2;obtain⟨u',r',q⟩:=hl j y v' e1 e2 e3;refine⟨u',r',?_⟩;rcases q with ⟨k,e⟩ | ⟨k,c,e,z⟩
    ·refine .inl ⟨k,?_⟩;have:y ≠ x:=fun e=>hj (mW hN e1 (e ▸ hi));simp[this,e]
    ·exact .inr ⟨k,c,e,z.sameBut hs (cne y c e)⟩
  ·obtain⟨w',z⟩:=I.cell y c e;exact⟨w',z.sameBut hs (cne y c e)⟩
  ·obtain⟨e,n,ne,nf,d⟩:=I.pin p hp;exact⟨(hs.2 p.1 ne).trans e,n,ne,nf,d⟩
 ·have hfn:X.fn x=true:=by
   rcases hf with z | z
   ·exact z
   ·rw[z]at hk;cases hk
  obtain⟨c,hc⟩:=I.ok.has x (.inl hk);obtain⟨w',z⟩:=I.cell x c hc;refine wpAny_storeName_cell I.ok.kind hk hc z (fun h' hc' hs=>?_);obtain⟨oc,hoc,hocd⟩:=id z;refine h { s with heap:=h' } ⟨I.ok,I.os,I.bare,⟨fun b o e n hb hx=>?_,fun b o e n hb hx=>?_,I.base.free,fun b o e hx=>?_,I.base.tups,I.base.frzs,I.base.tbls⟩,⟨m,hn.sameBut hs (Ne.symm (cne x c hc)),fun j y v' e1 e2 e3=>?_⟩,fun y c' e=>?_,I.free,I.freeC,fun p hp=>?_,tracked ⟨oc,hoc,I.freeC x c hc⟩ hs,by simpa using I.len⟩ ⟨c,hs,.inr hc⟩
  ·exact(hs.2 b (Nat.ne_of_lt (Nat.lt_of_lt_of_le (lt_size e) (I.ok.cab x c hfn hc)))).trans (I.base.keep b o e n hb hx)
  ·obtain⟨sl,e1⟩:=I.base.slot b o e n hb hx;exact⟨sl,(hs.2 b (Nat.ne_of_lt (Nat.lt_of_lt_of_le (lt_size e) (I.ok.cab x c hfn hc)))).trans e1⟩
  ·obtain⟨o',e1⟩:=I.base.there b o e hx;exact⟨o',(hs.2 b (Nat.ne_of_lt (Nat.lt_of_lt_of_le (lt_size e) (I.ok.cab x c hfn hc)))).trans e1⟩
  ·by_cases hj:j=i
   ·subst hj;rw[hi]at e1;cases e1;rw[List.getElem?_set_self hiσ]at e2;cases e2;exact⟨u,r,.inr ⟨.inl hk,c,hc,hc'⟩⟩
   ·rw[List.getElem?_set_ne (Ne.symm hj)]at e2;obtain⟨u',r',q⟩:=hl j y v' e1 e2 e3;refine⟨u',r',?_⟩;rcases q with q | ⟨k,c',e,z'⟩
    ·exact .inl q
    ·refine .inr ⟨k,c',e,z'.sameBut hs ?_⟩;rintro rfl;exact hj (mW hN e1 (I.ok.inj _ _ _ e hc ▸ hi))
  ·by_cases hcc:c'=c
   ·subst hcc;exact⟨_,hc'⟩
   ·obtain⟨w2,z2⟩:=I.cell y c' e;exact⟨w2,z2.sameBut hs hcc⟩
  ·obtain⟨e,n,ne,nf,d⟩:=I.pin p hp;refine⟨(hs.2 p.1 ?_).trans e,n,ne,nf,d⟩;intro q;rw[q,hoc]at e;have q':oc=p.2:=Option.some.inj e;exact d w' (by rw[<- q'];exact hocd)
theorem mX{M:Model}{A:Around}{E:Value->Shared->Prop}{i:Nat}{x:Str}{v:V}{u:Value}{Q:Unit->Shared->Prop}(I:Inv X pins σ H s)(hN:X.N.Nodup)(hi:X.N[i]?=some x)(hx:Loc X.env.scope x)(r:bi v u)
  (h:∀s',Inv X pins (σ.set i (some v)) H s'->Q () s')(hf:X.fn x=true\/X.env.scope.names.lookup x=some .local:=by first | exact .inl rfl | exact .inr rfl | assumption):wpAny M A (storeName X.env x u) Q E s :=
 j6 I hN hi hx r (fun s' I' _=>h s' I') hf
theorem Inv.call'{s':Shared}{ch:List Addr}(I:Inv X pins σ H s)(ho:s'.os=s.os)(u:Un (frs X.stack) ch H H' s.heap s'.heap)(hok:HOk X.prog X.w H' s'.heap)(hg:AllBare s'.gens)
  (hch:∀b ∈ ch,(b ∈ X.ex\/X.s₀.heap.objs.size <= b)/\b ≠ X.env.locals/\(∀x c,X.env.cells.lookup x=some c->c ≠ b)/\∀p ∈ X.pn ++ pins,p.1 ≠ b):Inv X pins σ H' s':=by
 obtain⟨h',g',d',t',o'⟩:=s';have e:o'=s.os:=ho;subst e;exact I.call (g':=g') (t':=t') (d':=d') u hok hg hch
end
abbrev XK:=Value->Option Addr->Hp->Prop
abbrev St:=List (Option V)
abbrev VK:=V->Hp->Prop
abbrev TE:=St->Hp->VK->Prop
abbrev TT:=St->Hp->(Bool->Hp->Prop)->Prop
abbrev TA:=St->Hp->(List V->Hp->Prop)->Prop
structure iG where
 nx:St->Hp->Prop
 rt:VK
 bk:St->Hp->Prop:=fun _ _=>False
 ct:St->Hp->Prop:=fun _ _=>False
abbrev TS:=iG->St->Hp->Prop
def EP(X:Cx)(pins:List (Addr × Obj))(σ:St)(Q:VK)(u:Value)(s':Shared):Prop:=∃v H',Inv X pins σ H' s'/\bi v u/\Q v H'
def TP(X:Cx)(pins:List (Addr × Obj))(σ:St)(Q:Bool->Hp->Prop)(b:Bool)(s':Shared):Prop:=∃H',Inv X pins σ H' s'/\Q b H'
def AP(X:Cx)(pins:List (Addr × Obj))(σ:St)(Q:List V->Hp->Prop)(us:List Value)(s':Shared):Prop:=∃vs H',Inv X pins σ H' s'/\bA vs us/\Q vs H'
def SP(X:Cx)(pins:List (Addr × Obj))(D:iG)(f:Flow)(s':Shared):Prop :=
 match f with
 | .next=>∃σ' H',Inv X pins σ' H' s'/\D.nx σ' H'
 | .brk=>∃σ' H',Inv X pins σ' H' s'/\D.bk σ' H'
 | .cont=>∃σ' H',Inv X pins σ' H' s'/\D.ct σ' H'
 | .ret u=>∃v σ' H',Inv X pins σ' H' s'/\bi v u/\D.rt v H'
def PE(X:Cx)(e:Expr)(t:TE):Prop :=
 ∀(pins:List (Addr × Obj)) (s:Shared) (σ:St) (H:Hp) (Q:VK),Inv X pins σ H s->t σ H Q->wpAny (model X.prog X.w) X.A (eval e X.env) (EP X pins σ Q) X.xe s
def PT(X:Cx)(e:Expr)(t:TT):Prop :=
 ∀(pins:List (Addr × Obj)) (s:Shared) (σ:St) (H:Hp) (Q:Bool->Hp->Prop),Inv X pins σ H s->t σ H Q->wpAny (model X.prog X.w) X.A (isTrue e X.env (eval e X.env)) (TP X pins σ Q) X.xe s
def PW(X:Cx)(e:Expr)(t:TT):Prop :=
 ∀(whole:Sem Value) (pins:List (Addr × Obj)) (s:Shared) (σ:St) (H:Hp) (Q:Bool->Hp->Prop),Inv X pins σ H s->t σ H Q->wpAny (model X.prog X.w) X.A (isTrue e X.env whole) (TP X pins σ Q) X.xe s
theorem PW.pt{X:Cx}{e:Expr}{t:TT}(h:PW X e t):PT X e t:=h _
def PA(X:Cx)(es:List Expr)(t:TA):Prop :=
 ∀(pos:Pos) (pins:List (Addr × Obj)) (s:Shared) (σ:St) (H:Hp) (Q:List V->Hp->Prop),Inv X pins σ H s->t σ H Q->wpAny (model X.prog X.w) X.A (spliced (backTo pos (starEach es X.env))) (AP X pins σ Q) X.xe s
def PS(X:Cx)(st:Stmt)(t:TS):Prop :=
 ∀(pins:List (Addr × Obj)) (s:Shared) (σ:St) (H:Hp) (D:iG),Inv X pins σ H s->t D σ H->wpAny (model X.prog X.w) X.A (exec st X.env) (SP X pins D) X.xe s
def PSs(X:Cx)(st:List Stmt)(t:TS):Prop :=
 ∀(pins:List (Addr × Obj)) (s:Shared) (σ:St) (H:Hp) (D:iG),Inv X pins σ H s->t D σ H->wpAny (model X.prog X.w) X.A (execs st X.env) (SP X pins D) X.xe s
theorem thn{α:Type}{t:Sem α}{Q Q':α->Shared->Prop}{M:Model}{A:Around}{E:Value->Shared->Prop}{s:Shared}(h:wpAny M A t Q E s)(hQ:∀a s,Q a s->Q' a s):wpAny M A t Q' E s:=wpAny_mono h hQ fun _ _ x=>x
section
variable{X:Cx}
def tVar(i:Nat):TE:=fun σ H Q=>∃v,σ[i]?=some (some v)/\Q v H
def tC(v:V):TE:=fun _ H Q=>Q v H
theorem pe_var {i:Nat} {x:Str} {pos:Pos} (hN:X.N[i]?=some x) (hv:Vis X.env.scope x) (hd:(x == ("__debug__":Str))=false:=by decide) (hcd:(x == ("__classdict__":Str))=false:=by decide):PE X (.Name x pos) (tVar i):=by
 intro pins s σ H Q I h;obtain⟨v,e,h⟩:=h;obtain⟨m,hn,hl⟩:=I.loc;obtain⟨u,r,l⟩:=hl i x v hN e hv;have fin:EP X pins σ Q u s:=⟨v,H,I,r,h⟩;rcases l with ⟨hk,hm⟩ | ⟨hk,c,hc,hcell⟩
 ·exact wpAny_Name (wpAny_loadName_local I.ok.kind hk hn hm fin) hd
 ·rcases hk with hk | hk
  ·exact wpAny_Name (wpAny_loadName_cell I.ok.kind hk hc hcell fin) hd
  ·exact wpAny_Name (wpAny_loadName_free I.ok.kind hk hc hcell fin hcd) hd
theorem af{i j pos}:PE X (.Constant (.int i) j pos) (tC (.int i)):=fun _ _ _ H _ I h=>wpAny_Constant_int ⟨.int i,H,I.tok _,⟨_,rfl⟩,h⟩
theorem d9{b j pos}:PE X (.Constant (.bool b) j pos) (tC (.bl b)):=fun _ _ _ H _ I h=>Constant_bool ⟨.bl b,H,I,rfl,h⟩
theorem cU{j pos}:PE X (.Constant .none j pos) (tC .non):=fun _ _ _ H _ I h=>Constant_none ⟨.non,H,I,rfl,h⟩
theorem aU{x j pos}:PE X (.Constant (.str x) j pos) (tC (.str x)):=fun _ _ _ H _ I h=>Calls.Constant_str ⟨.str x,H,I.tok _,⟨_,rfl⟩,h⟩
def Gl(X:Cx)(x:Str):Prop:=X.env.kindOf x=some .globalImplicit
theorem iJ{E:Value->Shared->Prop}{pins:List (Addr × Obj)}{s:Shared}{σ:St}{H:Hp}{x:Str}{u:Value}{pos:Pos}{Q:Value->Shared->Prop}(I:Inv X pins σ H s)(hg:Gl X x)(hm:X.mg x=some u)(h:Q u s)
  (hd:(x == ("__debug__":Str))=false:=by decide):wpAny (model X.prog X.w) X.A (eval (.Name x pos) X.env) Q E s :=
 Calls.Name_function_global I.ok.kind hg (Calls.loadGlobal_global (by rw[I.ok.glob];exact I.mod.glob.keeps I.bk) hm h) hd
theorem fB{E:Value->Shared->Prop}{pins:List (Addr × Obj)}{s:Shared}{σ:St}{H:Hp}{x:Str}{u:Value}{pos:Pos}{Q:Value->Shared->Prop}(I:Inv X pins σ H s)(hg:Gl X x)(hm:X.mg x=none)(hv:bootBuiltins x=some u)(h:Q u s)
  (hn:x ≠ "__name__":=by decide) (hd:(x == ("__debug__":Str))=false:=by decide):wpAny (model X.prog X.w) X.A (eval (.Name x pos) X.env) Q E s:=by
 obtain⟨mb,h1,h2⟩:=I.mod.blt;exact Calls.Name_function_global I.ok.kind hg (Calls.loadGlobal_builtin (by rw[I.ok.glob];exact I.mod.glob.keeps I.bk) hm (by rw[I.ok.blt];exact h1.keeps I.bk) ((h2 x hn).trans hv) h) hd
theorem eX {x:Str} {v:V} {u:Value} {pos:Pos} (hg:Gl X x) (hm:X.mg x=some u) (r:bi v u) (hd:(x == ("__debug__":Str))=false:=by decide):PE X (.Name x pos) (tC v) :=
 fun _ _ _ H _ I h=>iJ I hg hm ⟨v,H,I,r,h⟩ hd
theorem cQ {x:Str} {v:V} {u:Value} {pos:Pos} (hg:Gl X x) (hm:X.mg x=none) (hv:bootBuiltins x=some u) (r:bi v u) (hn:x ≠ "__name__":=by decide) (hd:(x == ("__debug__":Str))=false:=by decide):PE X (.Name x pos) (tC v) :=
 fun _ _ _ H _ I h=>fB I hg hm hv ⟨v,H,I,r,h⟩ hn hd
variable{a b:Expr}{ta tb:TE}{pos:Pos}
def PC(X:Cx)(op:CmpOp)(a b:Expr)(t:TE):Prop :=
 ∀(pins:List (Addr × Obj)) (s:Shared) (σ:St) (H:Hp) (Q:VK),Inv X pins σ H s->t σ H Q ->
  wpAny (model X.prog X.w) X.A (eval a X.env) (fun v s₁=>wpAny (model X.prog X.w) X.A (eval b X.env) (fun u s₂=>wpAny (model X.prog X.w) X.A (compareOp op v u) (EP X pins σ Q) X.xe s₂) X.xe s₁) X.xe s
theorem ud(b:Expr){op:CmpOp}(h:op ≠ .In)(h2:op ≠ .NotIn):behindInMarks op b=false:=by
 have e1:(op == CmpOp.In)=false:=by cases op <;> first | rfl | exact absurd rfl h
 have e2:(op == CmpOp.NotIn)=false:=by cases op <;> first | rfl | exact absurd rfl h2
 cases b <;> simp[behindInMarks,e1,e2]
def tIsN(ta:TE):TE:=fun σ H Q=>ta σ H fun x H1=>Q (.bl (decide (x=.non))) H1
theorem bi.none_iff{x:V}{v:Value}(r:bi x v):(v == Value.none)=decide (x=.non):=by
 cases x with
 | non=>cases r;rfl
 | bl _=>cases r;rfl
 | int _=>obtain⟨t,rfl⟩:=r;rfl
 | str _=>obtain⟨t,rfl⟩:=r;rfl
 | byt _=>obtain⟨t,rfl⟩:=r;rfl
 | flt _=>obtain⟨t,rfl⟩:=r;rfl
 | ref _=>cases r;rfl
 | ty _=>cases r;rfl
theorem oP{j pos'}(ha:PE X a ta):PC X .Is a (.Constant .none j pos') (tIsN ta):=by
 intro pins s σ H Q I h;refine thn (ha pins s σ H _ I h) fun v s1 ⟨x,H1,I1,r1,q1⟩=>?_;exact Constant_none (is_none_gen ⟨.bl _,H1,I1,by rw[r1.none_iff];rfl,q1⟩)
noncomputable def tB(t:TE):TT:=fun σ H Q=>t σ H fun x H1=>∃c,x=.bl c/\Q c H1
theorem lj{op:CmpOp}{t:TE}(h:PC X op a b t)(h1:behindInMarks op b=false:=by first | exact ud _ (by decide) (by decide) | rfl):PT X (.Compare a [op] [b] pos) (tB t):=by
 intro pins s σ H Q I hw;refine wpAny_isTrue_Compare1 (thn (h pins s σ H _ I hw) fun v s1 h1=>thn h1 fun u s2 h2=>thn h2 fun c s3 ⟨x,H1,I1,r1,q1⟩=>?_) h1;obtain⟨d,rfl,q⟩:=q1;cases r1;exact wpAny_truthy_bool ⟨H1,I1,q⟩
theorem cI{e:Expr}{t:TE}(h:PE X e t)(he:∀whole,isTrue e X.env whole=(do let v <- whole;standAt e.pos;holding [v] (truthy v)):=by intro _;rfl):PT X e (tB t):=by
 intro pins s σ H Q I hw;refine isTrue_plain (thn (h pins s σ H _ I hw) fun v s1 ⟨x,H1,I1,r1,q1⟩=>?_) (he _);obtain⟨d,rfl,q⟩:=q1;cases r1;exact wpAny_truthy_bool ⟨H1,I1,q⟩
variable{tA tB':TT}{rest:List Expr}
noncomputable def tAnd(t u:TT):TT:=fun σ H Q=>t σ H fun c H1=>if c=true then u σ H1 Q else Q false H1
noncomputable def tOr(t u:TT):TT:=fun σ H Q=>t σ H fun c H1=>if c=true then Q true H1 else u σ H1 Q
def tNot(t:TT):TT:=fun σ H Q=>t σ H fun c H1=>Q (!c) H1
theorem iK(ha:PT X a tA):PW X (.BoolOp .And [a] pos) tA:=by
 intro wh pins s σ H Q I h;refine isTrue_and (thn (ha pins s σ H Q I h) fun c s1 e=>?_);cases c with
 | true=>exact isTrue_and_nil e
 | false=>exact e
theorem cV(ha:PT X a tA):PW X (.BoolOp .Or [a] pos) tA:=by
 intro wh pins s σ H Q I h;refine isTrue_or (thn (ha pins s σ H Q I h) fun c s1 e=>?_);cases c with
 | false=>exact isTrue_or_nil e
 | true=>exact e
theorem lp(ha:PT X a tA)(hb:PW X (.BoolOp .And (b :: rest) pos) tB'):PW X (.BoolOp .And (a :: b :: rest) pos) (tAnd tA tB'):=by
 intro wh pins s σ H Q I h;refine isTrue_and (thn (ha pins s σ H _ I h) fun c s1 ⟨H1,I1,q1⟩=>?_);cases c with
 | true=>exact hb wh pins s1 σ H1 Q I1 q1
 | false=>exact⟨H1,I1,q1⟩
theorem cN(ha:PT X a tA)(hb:PW X (.BoolOp .Or (b :: rest) pos) tB'):PW X (.BoolOp .Or (a :: b :: rest) pos) (tOr tA tB'):=by
 intro wh pins s σ H Q I h;refine isTrue_or (thn (ha pins s σ H _ I h) fun c s1 ⟨H1,I1,q1⟩=>?_);cases c with
 | true=>exact⟨H1,I1,q1⟩
 | false=>exact hb wh pins s1 σ H1 Q I1 q1
theorem df(ha:PT X a tA):PT X (.UnaryOp .Not a pos) (tNot tA):=by
 intro pins s σ H Q I h;exact isTrue_not (ha pins s σ H (fun c H1=>Q (!c) H1) I h)
def tAndV(ta tb:TE):TE:=fun σ H Q=>ta σ H fun x H1=>∃c,x=.bl c/\if c=true then tb σ H1 Q else Q (.bl false) H1
def tOrV(ta tb:TE):TE:=fun σ H Q=>ta σ H fun x H1=>∃c,x=.bl c/\if c=true then Q (.bl true) H1 else tb σ H1 Q
def tNotV(ta:TE):TE:=fun σ H Q=>ta σ H fun x H1=>∃c,x=.bl c/\Q (.bl (!c)) H1
theorem dX{op}{t:TE}(h:PE X a t):PE X (.BoolOp op [a] pos) t:=fun pins s σ H Q I hw=>BoolOp_one (h pins s σ H Q I hw)
theorem cW(ha:PE X a ta)(hb:PE X (.BoolOp .And (b :: rest) pos) tb):PE X (.BoolOp .And (a :: b :: rest) pos) (tAndV ta tb):=by
 intro pins s σ H Q I h;refine BoolOp_and (thn (ha pins s σ H _ I h) fun v s1 ⟨x,H1,I1,r1,q1⟩=>?_);obtain⟨c,rfl,q1⟩:=q1;cases r1;refine wpAny_truthy_bool ?_;cases c with
 | true=>exact hb pins s1 σ H1 Q I1 q1
 | false=>exact⟨.bl false,H1,I1,rfl,q1⟩
theorem pe_or(ha:PE X a ta)(hb:PE X (.BoolOp .Or (b :: rest) pos) tb):PE X (.BoolOp .Or (a :: b :: rest) pos) (tOrV ta tb):=by
 intro pins s σ H Q I h;refine BoolOp_or (thn (ha pins s σ H _ I h) fun v s1 ⟨x,H1,I1,r1,q1⟩=>?_);obtain⟨c,rfl,q1⟩:=q1;cases r1;refine wpAny_truthy_bool ?_;cases c with
 | false=>exact hb pins s1 σ H1 Q I1 q1
 | true=>exact⟨.bl true,H1,I1,rfl,q1⟩
theorem ue(ha:PE X a ta):PE X (.UnaryOp .Not a pos) (tNotV ta):=by
 intro pins s σ H Q I h;refine UnaryOp_ (thn (ha pins s σ H _ I h) fun v s1 ⟨x,H1,I1,r1,q1⟩=>?_);obtain⟨c,rfl,q1⟩:=q1;cases r1;exact not_of (wpAny_truthy_bool ⟨.bl (!c),H1,I1,rfl,q1⟩)
def tIf(t:TT)(ta tb:TE):TE:=fun σ H Q=>t σ H fun c H1=>if c=true then ta σ H1 Q else tb σ H1 Q
theorem mY{c:Expr}(hc:PT X c tA)(ha:PE X a ta)(hb:PE X b tb):PE X (.IfExp c a b pos) (tIf tA ta tb):=by
 intro pins s σ H Q I h;refine wpAny_IfExp (thn (hc pins s σ H _ I h) fun d s1 ⟨H1,I1,q1⟩=>?_);cases d with
 | true=>exact ha pins s1 σ H1 Q I1 q1
 | false=>exact hb pins s1 σ H1 Q I1 q1
end
def SqL(K:Frag)(H:Hp)(a:Addr)(xs:List V):Prop :=
 Rd H a (.lst xs) \/
  ∃(o:Obj)(its:Array Value)(n:Nat),K.lookup a=some o/\o.cls=.type "list" /\o.dict=none/\o.data=.seq its n/\its.size <= sizeLine/\bA xs its.toList
def SqT(K:Frag)(H:Hp)(a:Addr)(xs:List V):Prop :=
 Rd H a (.tup xs) \/
  ∃(o:Obj)(its:Array Value)(n:Nat),K.lookup a=some o/\o.cls=.type "tuple" /\o.data=.seq its n/\its.size <= sizeLine/\bA xs its.toList
noncomputable def absV:Value->Option V
 | .none=>some .non
 | .bool b=>some (.bl b)
 | .int i _=>some (.int i)
 | .str x _=>some (.str x)
 | .bytes b _=>some (.byt b)
 | .float b _=>some (.flt b)
 | .ref a=>some (.ref a)
 | .type n=>some (.ty n)
 | _=>none
theorem bi.abs{x:V}{u:Value}(r:bi x u):absV u=some x:=by
 cases x with
 | non=>cases r;rfl
 | bl _=>cases r;rfl
 | int _=>obtain⟨t,rfl⟩:=r;rfl
 | str _=>obtain⟨t,rfl⟩:=r;rfl
 | byt _=>obtain⟨t,rfl⟩:=r;rfl
 | flt _=>obtain⟨t,rfl⟩:=r;rfl
 | ref _=>cases r;rfl
 | ty _=>cases r;rfl
theorem bi.inj{x y:V}{u:Value}(r:bi x u)(q:bi y u):x=y:=Option.some.inj (r.abs.symm.trans q.abs)
theorem bA.inj:∀{xs ys:List V}{us:List Value},bA xs us->bA ys us->xs=ys
 | _,_,_,.nil,.nil=>rfl
 | _,_,_,.cons r t,.cons r' t'=>by rw[r.inj r',bA.inj t t']
section
variable{X:Cx}{pins:List (Addr × Obj)}{σ:St}{H:Hp}{s:Shared}{a:Addr}{xs ys:List V}
theorem SqL.of{K:Frag}(h:H a=some (.lst xs)):SqL K H a xs:=.inl (.inl h)
theorem SqT.of{K:Frag}(h:H a=some (.tup xs)):SqT K H a xs:=.inl (.inl h)
theorem Inv.list(I:Inv X pins σ H s)(h:SqL X.K H a xs):∃its:List Value,bA xs its/\PlainL s.heap a its.toArray/\xs.length <= sizeLine:=by
 rcases h with h | ⟨o,its,n,hk,hc,hd,hs,hz,r⟩
 ·obtain⟨z,its,n,r,e⟩:=h.ok I.hok;exact⟨its,r,⟨_,n,e,rfl,rfl,rfl⟩,z⟩
 ·refine⟨its.toList,r,⟨o,n,I.kIn a o hk,hc,hd,by simpa using hs⟩,?_⟩
  have e:=r.length;simp only[Array.length_toList]at e;lia
theorem Inv.tuple(I:Inv X pins σ H s)(h:SqT X.K H a xs):∃its:List Value,bA xs its/\IsTup s.heap a its.toArray/\xs.length <= sizeLine:=by
 rcases h with h | ⟨o,its,n,hk,hc,hs,hz,r⟩
 ·obtain⟨z,its,r,p⟩:=h.ok I.hok;exact⟨its,r,p,z⟩
 ·refine⟨its.toList,r,⟨o,I.kIn a o hk,hc,n,by simpa using hs⟩,?_⟩
  have e:=r.length;simp only[Array.length_toList]at e;lia
theorem Inv.list_inj(I:Inv X pins σ H s)(h:SqL X.K H a xs)(h':SqL X.K H a ys):xs=ys:=by
 obtain⟨its,r,⟨o,n,e,_,_,d⟩,_⟩:=I.list h;obtain⟨its',r',⟨o',n',e',_,_,d'⟩,_⟩:=I.list h';rw[e]at e';cases e';rw[d]at d';injection d' with d1 _;have:its=its':=by simpa using congrArg Array.toList d1
 subst this;exact r.inj r'
theorem Inv.tuple_inj(I:Inv X pins σ H s)(h:SqT X.K H a xs)(h':SqT X.K H a ys):xs=ys:=by
 obtain⟨its,r,⟨o,e,_,n,d⟩,_⟩:=I.tuple h;obtain⟨its',r',⟨o',e',_,n',d'⟩,_⟩:=I.tuple h';rw[e]at e';cases e';rw[d]at d';injection d' with d1 _;have:its=its':=by simpa using congrArg Array.toList d1
 subst this;exact r.inj r'
end
noncomputable abbrev Cx.wish(X:Cx)(E:Value->Shared->Prop):Cx:={ X with xe:=E }
abbrev Cx.nox(X:Cx):Cx:=X.wish fun _ _=>False
theorem Cx.Ok.wish{X:Cx}(ok:X.Ok)(E:Value->Shared->Prop):(X.wish E).Ok :=
 ⟨ok.mod,ok.kind,ok.glob,ok.blt,ok.above,ok.inj,ok.has,ok.cab,ok.hd,ok.frames,ok.stk,ok.exf,ok.bs,ok.bsz,ok.noex,ok.exfs,ok.funs,ok.frf⟩
theorem Cx.Ok.unwish{X:Cx}{E:Value->Shared->Prop}(ok:(X.wish E).Ok):X.Ok :=
 ⟨ok.mod,ok.kind,ok.glob,ok.blt,ok.above,ok.inj,ok.has,ok.cab,ok.hd,ok.frames,ok.stk,ok.exf,ok.bs,ok.bsz,ok.noex,ok.exfs,ok.funs,ok.frf⟩
section
variable{X:Cx}{pins:List (Addr × Obj)}{σ:St}{H:Hp}{s:Shared}{E:Value->Shared->Prop}
theorem Inv.wish(I:Inv X pins σ H s)(E:Value->Shared->Prop):Inv (X.wish E) pins σ H s:=⟨I.ok.wish E,I.os,I.bare,I.base,I.loc,I.cell,I.free,I.freeC,I.pin,I.hok,I.len⟩
theorem Inv.unwish(I:Inv (X.wish E) pins σ H s):Inv X pins σ H s:=⟨I.ok.unwish,I.os,I.bare,I.base,I.loc,I.cell,I.free,I.freeC,I.pin,I.hok,I.len⟩
theorem SP.unwish{D:iG}{f:Flow}{s':Shared}(h:SP (X.wish E) pins D f s'):SP X pins D f s':=by
 cases f with
 | next=>obtain⟨σ',H',I,q⟩:=h;exact⟨σ',H',I.unwish,q⟩
 | brk=>obtain⟨σ',H',I,q⟩:=h;exact⟨σ',H',I.unwish,q⟩
 | cont=>obtain⟨σ',H',I,q⟩:=h;exact⟨σ',H',I.unwish,q⟩
 | ret u=>obtain⟨v,σ',H',I,r,q⟩:=h;exact⟨v,σ',H',I.unwish,r,q⟩
theorem PSs.nox{st:List Stmt}{t:TS}(h:PSs X.nox st t):PSs X st t:=fun pins s σ H D I hw =>
 wpAny_mono (h pins s σ H D (I.wish _) hw) (fun _ _ q=>q.unwish) fun _ _ z=>False.elim z
end
section
variable{X:Cx}{st:Stmt}{rest:List Stmt}{t u:TS}{e:Expr}{te:TE}{pos:Pos}
def tNext:TS:=fun D σ H=>D.nx σ H
def tSeq(t u:TS):TS:=fun D σ H=>t { D with nx:=u D } σ H
theorem aK:PSs X [] tNext:=fun _ _ σ H _ I h=>wpAny_execs_nil ⟨σ,H,I,h⟩
theorem ae(h1:PS X st t)(h2:PSs X rest u):PSs X (st :: rest) (tSeq t u):=by
 intro pins s σ H D I h;refine wpAny_execs_cons (thn (h1 pins s σ H { D with nx:=u D } I h) fun f s1 q=>?_);cases f with
 | next =>
  obtain⟨σ',H',I',q⟩:=q;exact h2 pins s1 σ' H' D I' q
 | ret v=>exact q
 | brk=>exact q
 | cont=>exact q
theorem aj(h1:PS X st t):PSs X [st] t:=by
 intro pins s σ H D I h;refine wpAny_execs_cons (thn (h1 pins s σ H D I h) fun f s1 q=>?_);cases f with
 | next=>exact wpAny_execs_nil q
 | ret v=>exact q
 | brk=>exact q
 | cont=>exact q
def tBreak:TS:=fun D σ H=>D.bk σ H
theorem uf:PS X (.Break pos) tBreak:=fun _ _ σ H _ I h=>wpAny_Break ⟨σ,H,I,h⟩
theorem Inv.quiet{pins:List (Addr × Obj)}{σ:St}{H:Hp}{s:Shared}(I:Inv X pins σ H s):interactive X.env=false:=by simp[interactive,I.ok.kind]
def tDrop(te:TE):TS:=fun D σ H=>te σ H fun _ H1=>D.nx σ H1
theorem bG(he:PE X e te)(hs:swapsWith e none pos.line X.env=pure false:=by rfl):PS X (.Expr e pos) (tDrop te):=by
 intro pins s σ H D I h;exact wpAny_Expr_any (thn (he pins s σ H _ I h) fun v s1 ⟨x,H1,I1,r1,q1⟩=>⟨σ,H1,I1,q1⟩) I.quiet hs
def tRet(te:TE):TS:=fun D σ H=>te σ H D.rt
theorem ax(he:PE X e te):PS X (.Return (some e) pos) (tRet te):=by
 intro pins s σ H D I h;exact wpAny_Return_some (thn (he pins s σ H _ I h) fun v s1 ⟨x,H1,I1,r1,q1⟩=>⟨x,σ,H1,I1,r1,q1⟩)
def tRetN:TS:=fun D _ H=>D.rt .non H
theorem ps_retN:PS X (.Return none pos) tRetN:=fun _ _ σ H _ I h=>wpAny_Return_none ⟨.non,σ,H,I,rfl,h⟩
def tIfS(c:TT)(t u:TS):TS:=fun D σ H=>c σ H fun b H1=>if b=true then t D σ H1 else u D σ H1
theorem aX{c:Expr}{a b:List Stmt}{tc:TT}(hc:PT X c tc)(ha:PSs X a t)(hb:PSs X b u):PS X (.If c a b pos) (tIfS tc t u):=by
 intro pins s σ H D I h;refine wpAny_If (thn (hc pins s σ H _ I h) fun d s1 ⟨H1,I1,q1⟩=>?_);cases d with
 | true=>exact ha pins s1 σ H1 D I1 q1
 | false=>exact hb pins s1 σ H1 D I1 q1
def tNever:TS:=fun _ _ _=>False
theorem dj{sts:List Stmt}:PSs X sts tNever:=fun _ _ _ _ _ _ h=>h.elim
end
abbrev TG:=V->St->Hp->(St->Hp->Prop)->Prop
abbrev TGs:=List V->St->Hp->(St->Hp->Prop)->Prop
def PG(X:Cx)(target:Expr)(t:TG):Prop :=
 ∀(pins:List (Addr × Obj)) (s:Shared) (σ:St) (H:Hp) (v:V) (u:Value) (Q:St->Hp->Prop),Inv X pins σ H s->bi v u->t v σ H Q ->
  wpAny (model X.prog X.w) X.A (assign target X.env u) (fun _ s'=>∃σ' H',Inv X pins σ' H' s'/\Q σ' H') X.xe s
def PGs(X:Cx)(ts:List Expr)(t:TGs):Prop :=
 ∀(pins:List (Addr × Obj)) (s:Shared) (σ:St) (H:Hp) (vs:List V) (us:List Value) (Q:St->Hp->Prop),Inv X pins σ H s->bA vs us->t vs σ H Q ->
  wpAny (model X.prog X.w) X.A (assignInOrder ((assignEach ts X.env).map (·.2)) us) (fun _ s'=>∃σ' H',Inv X pins σ' H' s'/\Q σ' H') X.xe s
section
variable{X:Cx}{pos:Pos}
def iy(i:Nat):TG:=fun v σ H Q=>Q (σ.set i (some v)) H
theorem aA{i:Nat}{x:Str}(hN:X.N.Nodup)(hi:X.N[i]?=some x)(hx:Loc X.env.scope x)(hf:X.fn x=true\/X.env.scope.names.lookup x=some .local:=by first | exact .inl rfl | exact .inr rfl | assumption):PG X (.Name x pos) (iy i):=by
 intro pins s σ H v u Q I r h;exact wpAny_assign_Name (mX I hN hi hx r (fun s' I'=>⟨_,H,I',h⟩) hf)
def gNil:TGs:=fun vs σ H Q=>vs=[]/\Q σ H
noncomputable def gCons(t:TG)(u:TGs):TGs:=fun vs σ H Q=>∃v r,vs=v :: r/\t v σ H fun σ' H'=>u r σ' H' Q
theorem cn:PGs X [] gNil:=by
 intro pins s σ H vs us Q I r h;obtain⟨e,h⟩:=h;subst e;cases r;exact assignInOrder_nil ⟨σ,H,I,h⟩
theorem aF{e:Expr}{es:List Expr}{t:TG}{u:TGs}(h1:PG X e t)(h2:PGs X es u)
  (hs:(assignEach (e :: es) X.env).map (·.2)=assign e X.env :: (assignEach es X.env).map (·.2):=by rfl):PGs X (e :: es) (gCons t u):=by
 intro pins s σ H vs us Q I r h;obtain⟨v,vr,e1,h⟩:=h;subst e1;cases r with
 | cons r rr =>
  rw[hs];refine assignInOrder_cons (thn (h1 pins s σ H _ _ _ I r h) fun _ s1 ⟨σ1,H1,I1,q1⟩=>?_);exact h2 pins s1 σ1 H1 _ _ Q I1 rr q1
noncomputable def gTup(K:Frag)(n:Nat)(t:TGs):TG:=fun v σ H Q=>∃a xs,v=.ref a/\SqT K H a xs/\xs.length=n/\t xs σ H Q
theorem dg{es:List Expr}{k:Nat}{t:TGs}{n:Nat}(hc:X.calm=true)(h:PGs X es t)
  (hn:(assignEach es X.env).length=n:=by rfl)(hst:(assignEach es X.env).findIdx? (·.1)=none:=by rfl):PG X (.Tuple es k pos) (gTup X.K n t):=by
 intro pins s σ H v u Q I r hw;obtain⟨a,xs,e1,hq,hl,hw⟩:=hw;subst e1;cases r;obtain⟨its,rv,ht,hz⟩:=I.tuple hq;refine assign_Tuple_tuple (I.ok.hd hc) ht (by simp[hn,<- hl,rv.length]) hst fun h' hx=>?_
 have I1:Inv X pins σ H { s with heap:=h' }:=I.kept (t':=s.toks) fun b o e=>hx b o (Nat.ne_of_lt (lt_size e)) e;exact h pins _ σ H xs _ Q I1 (by simpa using rv) hw
def tAsg(te:TE)(g:TG):TS:=fun D σ H=>te σ H fun x H1=>g x σ H1 D.nx
theorem eO{tg e:Expr}{te:TE}{g:TG}(he:PE X e te)(hg:PG X tg g)(hs:swapsWithSole [tg] e pos.line X.env=pure false:=by rfl)(hw:swappedStores [tg] e X.env=pure none:=by rfl)
  (h1:(assignEach [tg] X.env).map (·.2)=[assign tg X.env]:=by rfl):PS X (.Assign [tg] e pos) (tAsg te g):=by
 intro pins s σ H D I h;refine wpAny_Assign_stores (thn (he pins s σ H _ I h) fun v s1 ⟨x,H1,I1,r1,q1⟩=>?_) hs hw;rw[h1];exact thn (hg pins s1 σ H1 x v _ I1 r1 q1) fun _ s2 q=>q
theorem aC{i:Nat}{x:Str}{e:Expr}{te:TE}{pos':Pos}(hN:X.N.Nodup)(hi:X.N[i]?=some x)(hx:Loc X.env.scope x)(he:PE X e te)(hs:swapsWith e (some (.Name x pos')) pos.line X.env=pure false:=by rfl)(hf:X.fn x=true\/X.env.scope.names.lookup x=some .local:=by first | exact .inl rfl | exact .inr rfl | assumption) :
  PS X (.Assign [.Name x pos'] e pos) (tAsg te (iy i)):=by
 intro pins s σ H D I h;refine wpAny_Assign_Name (thn (he pins s σ H _ I h) fun v s1 ⟨y,H1,I1,r1,q1⟩=>?_) hs;exact mX I1 hN hi hx r1 (fun s2 I2=>⟨_,H1,I2,q1⟩) hf
end
section
variable{X:Cx}{pos:Pos}
end
structure It where
 go:Nat->Hp->Prop
 yld:Nat->Hp->V->Hp->Prop
 stop:Nat->Hp->Prop
def gZ(X:Cx)(pins:List (Addr × Obj))(H:Hp)(b:Addr):Prop :=
 H b=none/\b ≠ X.env.locals/\b ∉ X.fs/\(b ∈ X.ex\/X.s₀.heap.objs.size <= b)/\(∀x c,X.env.cells.lookup x=some c->c ≠ b)/\∀p ∈ X.pn ++ pins,p.1 ≠ b
theorem Inv.fpOk{X:Cx}{pins:List (Addr × Obj)}{σ:St}{H H':Hp}{s:Shared}{b:Addr}(I:Inv X pins σ H s)(hb:s.heap.objs.size <= b)(hn:H' b=none):gZ X pins H' b:=by
 refine⟨hn,Nat.ne_of_gt (Nat.lt_of_lt_of_le I.lt hb),I.nofs hb,.inr (Nat.le_trans I.sz hb),fun x c e z=>?_,fun p hp z=>?_⟩
 ·obtain⟨v,q⟩:=I.cell x c e;exact absurd (Nat.lt_of_lt_of_le q.lt (by rw[z];exact hb)) (Nat.lt_irrefl _)
 ·exact absurd (Nat.lt_of_lt_of_le (lt_size (I.pin p hp).1) (by rw[z];exact hb)) (Nat.lt_irrefl _)
structure mZ(P:Program)(w:World)(K:Frag)(tg:Expr)(J:It)(fp:List Addr)(it:Addr)(tn:Nat->Heap->Prop):Prop where
 mem:it ∈ fp
 obj:∀i h,tn i h->∀b ∈ fp,∃o,h.get? b=some o/\∀v,o.data ≠ .cell v
 keep:∀i h h',tn i h->(∀b ∈ fp,∀o,h.get? b=some o->h'.get? b=some o)->tn i h'
 item:∀(X:Cx),X.prog=P->X.w=w->X.K=K->X.calm=true->∀(i:Nat) (pins:List (Addr × Obj)) (s:Shared) (σ:St) (H:Hp) (E:Value->Shared->Prop),Inv X pins σ H s->(∀b ∈ fp,gZ X pins H b)->tn i s.heap->J.go i H ->
  wpAny (model P w) X.A (pyNext (.ref it)) (fun r s1=>∃u,r=some u /\
   wpAny (model P w) X.A (letOwnedTupleGo tg (.ref it) u) (fun _ s2=>∃x H',Inv X pins σ H' s2/\bi x u/\J.yld i H x H'/\tn (i + 1) s2.heap/\∀b ∈ fp,H' b=none) E s1) E s
 done:∀(X:Cx),X.prog=P->X.w=w->X.K=K->X.calm=true->∀(i:Nat) (pins:List (Addr × Obj)) (s:Shared) (σ:St) (H:Hp) (E:Value->Shared->Prop),Inv X pins σ H s->(∀b ∈ fp,gZ X pins H b)->tn i s.heap->J.stop i H ->
  wpAny (model P w) X.A (pyNext (.ref it)) (fun r s1=>r=none/\Inv X pins σ H s1) E s
 self:∀(A:Around)(i:Nat)(s:Shared)(Q:Value->Shared->Prop)(E:Value->Shared->Prop),tn i s.heap->Q (.ref it) s->wpAny (model P w) A (pyIter (.ref it)) Q E s
abbrev TI:=St->Hp->(It->Hp->Prop)->Prop
def PIE(X:Cx)(pins:List (Addr × Obj))(σ:St)(tg:Expr)(R:It->Hp->Prop)(itv:Value)(s2:Shared):Prop :=
 ∃(it:Addr)(fp:List Addr)(tn:Nat->Heap->Prop)(J:It)(H':Hp),itv=.ref it/\Inv X pins σ H' s2/\mZ X.prog X.w X.K tg J fp it tn/\tn 0 s2.heap/\(∀b ∈ fp,gZ X pins H' b)/\R J H'
def PI(X:Cx)(tg iter:Expr)(wi:TI):Prop :=
 ∀(pins:List (Addr × Obj)) (s:Shared) (σ:St) (H:Hp) (R:It->Hp->Prop),Inv X pins σ H s->wi σ H R ->
  wpAny (model X.prog X.w) X.A (eval iter X.env) (fun v s1=>wpAny (model X.prog X.w) X.A (pyIter v) (PIE X pins σ tg R) X.xe s1) X.xe s
theorem m5{M:Model}{A:Around}{E:Value->Shared->Prop}{s:Shared}{tg:Expr}{it:Addr}{u:Value}{o:Obj}{n:String}{vs:Array Value}{Q:Unit->Shared->Prop}(ho:s.heap.get? it=some o)(hc:o.cls=.type n)(hd:o.data=.fields vs)
  (hn:["enumerate","zip","dict_itemiterator","dict_reverseitemiterator","odict_iterator","itertools.zip_longest","itertools.pairwise"].contains n=false) (hQ:Q () s):wpAny M A (letOwnedTupleGo tg (.ref it) u) Q E s:=by
 unfold letOwnedTupleGo;cases tg <;> first
  | exact wpAny_pure hQ
  | (cases u <;> first
    | exact wpAny_pure hQ
    | (refine wpAny_bind (wpAny_load ho ?_)
       rw[hc,hd];show wpAny M A (if (["enumerate","zip","dict_itemiterator","dict_reverseitemiterator","odict_iterator","itertools.zip_longest","itertools.pairwise"].contains n && vs[0]? == some (rawInt _))=true then _ else _) Q E s
       rw[if_neg (by intro h;rw[hn,Bool.false_and]at h;cases h)]
       exact wpAny_pure hQ))
noncomputable def Itl(K:Frag)(a:Addr):It :=
 ⟨fun i H=>∃xs x,SqL K H a xs/\xs[i]?=some x,fun i H x H'=>H'=H/\∀xs,SqL K H a xs->xs[i]?=some x,fun i H=>∃xs,SqL K H a xs/\xs.length <= i⟩
noncomputable def Itt(K:Frag)(a:Addr):It :=
 ⟨fun i H=>∃xs x,SqT K H a xs/\xs[i]?=some x,fun i H x H'=>H'=H/\∀xs,SqT K H a xs->xs[i]?=some x,fun i H=>∃xs,SqT K H a xs/\xs.length <= i⟩
noncomputable def Itr(lo:Int)(n:Nat):It:=⟨fun i _=>i < n,fun i H x H'=>H'=H/\x=.int (lo + i),fun i _=>n <= i⟩
theorem rM{P:Program}{w:World}{K:Frag}{tg:Expr}(a it:Addr):mZ P w K tg (Itl K a) [it] it (fun i h=>h.IsListIter it a i) where
 mem:=by simp
 obj:=fun i h st b hb=>by
  have e:b=it:=by simpa using hb
  subst e;obtain⟨o,e,c,d⟩:=st;exact⟨o,e,fun v z=>by rw[d]at z;cases z⟩
 keep:=fun i h h' st k=>st.at fun o e=>k it (by simp) o e
 item:=by
  intro X hP hw hK hc i pins s σ H E I hf st hg;subst hP hw hK;obtain⟨xs,x,hq,hx⟩:=hg;obtain⟨its,rv,p,hz⟩:=I.list hq;obtain⟨u,hu,ru⟩:=rv.get hx;obtain⟨f0,f1,f2,f3,f4,f5⟩:=hf it (by simp)
  refine wpAny_pyNext_list_item st p.isList (x:=u) (by simpa using hu) fun h' st' sb=>?_
  have I1:Inv X pins σ H { s with heap:=h' }:=I.turned (t':=s.toks) (fun b o hb e=>(sb.2 b hb).trans e) f0 f1 f3 f4 f5;obtain⟨o,e,c,d⟩:=id st';exact⟨u,rfl,m5 (s:={ s with heap:=h' }) e c d (by decide) ⟨x,H,I1,ru,⟨rfl,fun ys hy=>by rw[I.list_inj hy hq];exact hx⟩,st',fun b hb=>(hf b hb).1⟩⟩
 done:=by
  intro X hP hw hK hc i pins s σ H E I hf st hg;subst hP hw hK;obtain⟨xs,hq,hx⟩:=hg;obtain⟨its,rv,p,hz⟩:=I.list hq;obtain⟨f0,f1,f2,f3,f4,f5⟩:=hf it (by simp)
  have hl:=rv.length;exact wpAny_pyNext_list_end (I.ok.hd hc) st p.isList (by simp;lia) fun h' eb=>⟨rfl,I.turned (t':=s.toks) (fun b o hb e=>eb b o hb e) f0 f1 f3 f4 f5⟩
 self:=fun _ _ _ _ _ st h=>wpAny_pyIter_listiter st h
theorem oQ{P:Program}{w:World}{K:Frag}{tg:Expr}(a it:Addr):mZ P w K tg (Itt K a) [it] it (fun i h=>h.IsTupleIter it a i) where
 mem:=by simp
 obj:=fun i h st b hb=>by
  have e:b=it:=by simpa using hb
  subst e;obtain⟨o,e,c,d⟩:=st;exact⟨o,e,fun v z=>by rw[d]at z;cases z⟩
 keep:=fun i h h' st k=>st.at fun o e=>k it (by simp) o e
 item:=by
  intro X hP hw hK hc i pins s σ H E I hf st hg;subst hP hw hK;obtain⟨xs,x,hq,hx⟩:=hg;obtain⟨its,rv,p,hz⟩:=I.tuple hq;obtain⟨u,hu,ru⟩:=rv.get hx;obtain⟨f0,f1,f2,f3,f4,f5⟩:=hf it (by simp)
  refine wpAny_pyNext_tuple_item st (show s.heap.IsTuple a its.toArray from p) (x:=u) (by simpa using hu) fun h' st' sb=>?_
  have I1:Inv X pins σ H { s with heap:=h' }:=I.turned (t':=s.toks) (fun b o hb e=>(sb.2 b hb).trans e) f0 f1 f3 f4 f5;obtain⟨o,e,c,d⟩:=id st';exact⟨u,rfl,m5 (s:={ s with heap:=h' }) e c d (by decide) ⟨x,H,I1,ru,⟨rfl,fun ys hy=>by rw[I.tuple_inj hy hq];exact hx⟩,st',fun b hb=>(hf b hb).1⟩⟩
 done:=by
  intro X hP hw hK hc i pins s σ H E I hf st hg;subst hP hw hK;obtain⟨xs,hq,hx⟩:=hg;obtain⟨its,rv,p,hz⟩:=I.tuple hq;obtain⟨f0,f1,f2,f3,f4,f5⟩:=hf it (by simp)
  have hl:=rv.length;exact wpAny_pyNext_tuple_end (I.ok.hd hc) st (show s.heap.IsTuple a its.toArray from p) (by simp;lia) fun h' eb=>⟨rfl,I.turned (t':=s.toks) (fun b o hb e=>eb b o hb e) f0 f1 f3 f4 f5⟩
 self:=fun _ _ _ _ _ st h=>wpAny_pyIter_tupleiter st h
theorem oR{P:Program}{w:World}{K:Frag}{tg:Expr}(it:Addr)(lo:Int)(n:Nat):mZ P w K tg (Itr lo n) [it] it (fun i h=>IsRangeIter h it (lo + (i:Nat) * 1) ((n:Int) - (i:Nat)) 1) where
 mem:=by simp
 obj:=fun i h st b hb=>by
  have e:b=it:=by simpa using hb
  subst e;exact⟨_,st,fun v z=>by
   have z':Data.fields _=Data.cell v:=z;cases z'⟩
 keep:=fun i h h' st k=>k it (by simp) _ st
 item:=by
  intro X hP hw hK hc i pins s σ H E I hf st hg;subst hP hw hK;obtain⟨f0,f1,f2,f3,f4,f5⟩:=hf it (by simp)
  have W:=Walks.range (prog:=X.prog) (w:=X.w) (I.ok.hd hc) it lo 1 n;refine W.item i s _ _ hg st fun v h' tk hv st' kk=>?_;obtain⟨t,rfl⟩:=hv;have I1:Inv X pins σ H { s with heap:=h',toks:=tk }:=I.turned (fun b o hb e=>kk b o (by simpa using hb) e) f0 f1 f3 f4 f5
  refine⟨_,rfl,m5 (s:={ s with heap:=h',toks:=tk }) (n:="range_iterator") st' rfl rfl (by decide) ⟨.int (lo + i),H,I1,⟨t,?_⟩,⟨rfl,rfl⟩,st',fun b hb=>(hf b hb).1⟩⟩
  rw[Int.mul_one]
 done:=by
  intro X hP hw hK hc i pins s σ H E I hf st hg;subst hP hw hK;obtain⟨f0,f1,f2,f3,f4,f5⟩:=hf it (by simp)
  exact wpAny_pyNext_range_end (I.ok.hd hc) st (by have:n <= i:=hg;lia) fun h' eb=>⟨rfl,I.turned (t':=s.toks) (fun b o hb e=>eb b o hb e) f0 f1 f3 f4 f5⟩
 self:=fun _ _ _ _ _ st h=>wpAny_pyIter_rangeiter st h
section
variable{X:Cx}{tg:Expr}
noncomputable def iList(K:Frag)(tl:TE):TI:=fun σ H R=>tl σ H fun x H1=>∃a,x=.ref a/\(∃xs,SqL K H1 a xs)/\R (Itl K a) H1
noncomputable def iTup(K:Frag)(tl:TE):TI:=fun σ H R=>tl σ H fun x H1=>∃a,x=.ref a/\(∃xs,SqT K H1 a xs)/\R (Itt K a) H1
theorem fW{l:Expr}{tl:TE}(hl:PE X l tl):PI X tg l (iList X.K tl):=by
 intro pins s σ H R I h;refine thn (hl pins s σ H _ I h) fun v s1 ⟨x,H1,I1,r1,q1⟩=>?_;obtain⟨a,e,⟨xs,hq⟩,q⟩:=q1;subst e;cases r1;obtain⟨its,rv,p,hz⟩:=I1.list hq;refine wpAny_pyIter_list p.isList ?_;refine⟨s1.heap.objs.size,[s1.heap.objs.size],_,_,H1,rfl,I1.kept (t':=s1.toks) fun b o e=>get?_push_of_some _ e,rM a _,⟨_,get?_push_size _ rfl,rfl,rfl⟩,fun b hb=>?_,q⟩
 have e:b=s1.heap.objs.size:=by simpa using hb
 subst e;exact I1.fpOk (Nat.le_refl _) (I1.hok.fresh (Nat.le_refl _))
theorem gE{l:Expr}{tl:TE}(hl:PE X l tl):PI X tg l (iTup X.K tl):=by
 intro pins s σ H R I h;refine thn (hl pins s σ H _ I h) fun v s1 ⟨x,H1,I1,r1,q1⟩=>?_;obtain⟨a,e,⟨xs,hq⟩,q⟩:=q1;subst e;cases r1;obtain⟨its,rv,p,hz⟩:=I1.tuple hq;refine wpAny_pyIter_tuple (show s1.heap.IsTuple a its.toArray from p) ?_;refine⟨s1.heap.objs.size,[s1.heap.objs.size],_,_,H1,rfl,I1.kept (t':=s1.toks) fun b o e=>get?_push_of_some _ e,oQ a _,⟨_,get?_push_size _ rfl,rfl,rfl⟩,fun b hb=>?_,q⟩
 have e:b=s1.heap.objs.size:=by simpa using hb
 subst e;exact I1.fpOk (Nat.le_refl _) (I1.hok.fresh (Nat.le_refl _))
theorem ug{pins:List (Addr × Obj)}{σ:St}{H:Hp}{s:Shared}{R:It->Hp->Prop}{E:Value->Shared->Prop}{lo hi:Int}{t u v:Tok}{tk:Nat}(I:Inv X pins σ H s)(h1:-(2 ^ 62) <= lo)(h2:lo < 2 ^ 62)(h3:-(2 ^ 62) <= hi)(h4:hi < 2 ^ 62)
  (q:R (Itr lo (hi - lo).toNat) H):wpAny (model X.prog X.w) X.A (pyIter (.ref s.heap.objs.size)) (PIE X pins σ tg R) E { s with heap:=s.heap.push { cls:=.type "range",data:=.fields #[.int lo t,.int hi u,.int 1 v] },toks:=tk }:=by
 refine wpAny_pyIter_range (IsRange.new ..) (small_one h1 h2 h3 h4) ?_;have I1:Inv X pins σ H { s with heap:=s.heap.push { cls:=.type "range",data:=.fields #[.int lo t,.int hi u,.int 1 v] },toks:=tk }:=I.kept fun b o e=>get?_push_of_some _ e;refine⟨(s.heap.push { cls:=.type "range",data:=.fields #[.int lo t,.int hi u,.int 1 v] }).objs.size,[(s.heap.push { cls:=.type "range",data:=.fields #[.int lo t,.int hi u,.int 1 v] }).objs.size],_,_,H,rfl,
  I1.kept (t':=tk) fun b o e=>get?_push_of_some _ e,oR _ lo (hi - lo).toNat,?_,fun b hb=>?_,q⟩
 ·have e1:lo + ((0:Nat):Int) * 1=lo:=by simp
  have e2:(((hi - lo).toNat:Nat):Int) - ((0:Nat):Int)=Builtin.Range.rangeSize lo hi 1:=by rw[rangeSize_one];split <;> lia
  show IsRangeIter _ _ (lo + ((0:Nat):Int) * 1) ((((hi - lo).toNat:Nat):Int) - ((0:Nat):Int)) 1;rw[e1,e2];exact get?_push_size _ rfl
 ·have e:b=(s.heap.push { cls:=.type "range",data:=.fields #[.int lo t,.int hi u,.int 1 v] }).objs.size:=by simpa using hb
  subst e;exact I1.fpOk (Nat.le_refl _) (I1.hok.fresh (Nat.le_refl _))
noncomputable def iRng1(ta:TA):TI:=fun σ H R=>ta σ H fun vs H1=>∃j:Int,vs=[.int j]/\-(2 ^ 62) <= j/\j < 2 ^ 62/\R (Itr 0 j.toNat) H1
theorem eC {a:Expr} {ta:TA} {p pos:Pos} (hg:Gl X "range") (hm:X.mg "range"=none) (ha:PA X [a] ta) (hs:starEach [a] X.env=[(false,eval a X.env)]:=by rfl):PI X tg (.Call (.Name "range" p) [a] [] pos) (iRng1 ta):=by
 intro pins s σ H R I h;refine Call_ (fB I hg hm boot_range (PyProof.Rows.callWith_type1 (thn (ha pos pins s σ H _ I h) fun us s1 ⟨vs,H1,I1,r1,q1⟩=>?_) hs rfl));obtain⟨j,e,q1,q2,q⟩:=q1;subst e;cases r1 with
 | cons r rr =>
  cases rr;obtain⟨t,rfl⟩:=r;exact call_range_1 (ug I1 (by lia) (by lia) q1 q2 (by simpa using q))
def tFor(wi:TI)(g:TG)(tb:TS):TS:=fun D σ H=>wi σ H fun J H1=>∃W:Nat->Nat->St->Hp->Prop,(∃m,W 0 m σ H1)/\∀i m σ H,W i m σ H ->
 (J.stop i H/\D.nx σ H)\/(J.go i H/\∃N:St->Hp->Prop,(∀σ' H',N σ' H'->∃m',m' < m/\W (i + 1) m' σ' H')/\∀x H',J.yld i H x H'->g x σ H' fun σ2 H2=>tb { D with nx:=N,ct:=N,bk:=D.nx } σ2 H2)
noncomputable def ja(fp:List Addr)(h:Heap):List (Addr × Obj):=fp.filterMap fun b=>(h.get? b).map fun o=>(b,o)
theorem eY{fp:List Addr}{h:Heap}{b:Addr}{o:Obj}(hb:b ∈ fp)(e:h.get? b=some o):(b,o) ∈ ja fp h:=List.mem_filterMap.mpr ⟨b,hb,by rw[e];rfl⟩
theorem rN{fp:List Addr}{h:Heap}{p:Addr × Obj}(hp:p ∈ ja fp h):p.1 ∈ fp/\h.get? p.1=some p.2:=by
 obtain⟨b,hb,e⟩:=List.mem_filterMap.mp hp;cases q:h.get? b with
 | none=>rw[q]at e;cases e
 | some o =>
  rw[q]at e;have e':(b,o)=p:=Option.some.inj e;subst e';exact⟨hb,q⟩
theorem Inv.pinned{pins:List (Addr × Obj)}{σ:St}{H:Hp}{s:Shared}{fp:List Addr}(I:Inv X pins σ H s)(hf:∀b ∈ fp,gZ X pins H b)(ho:∀b ∈ fp,∃o,s.heap.get? b=some o/\∀v,o.data ≠ .cell v):Inv X (pins ++ ja fp s.heap) σ H s :=
 I.pins_of fun p hp=>(mem_append.mp hp).elim (fun z=>I.pin p (List.mem_append_right _ z)) fun z=>by
  obtain⟨hb,e⟩:=rN z;obtain⟨f0,f1,f2,_⟩:=hf p.1 hb;obtain⟨o,e',d⟩:=ho p.1 hb;rw[e]at e';cases e';exact⟨e,f0,f1,f2,d⟩
theorem Inv.unpinned{pins pl:List (Addr × Obj)}{σ:St}{H:Hp}{s:Shared}(I:Inv X (pins ++ pl) σ H s):Inv X pins σ H s:=I.pins_of fun p hp=>I.pin p (List.mem_append_right _ (List.mem_append_left _ hp))
theorem dY{iter:Expr}{body:List Stmt}{wi:TI}{g:TG}{tb:TS}{pos:Pos}(hp:PassesOwn (model X.prog X.w) X.A X.env X.xe)(hc:X.calm=true)(hi:PI X tg iter wi)(hg:PG X tg g)(hb:PSs X body tb)
  (hs:∀x,foldedSetIterable iter X.env x=pure x:=by intro _;rfl):PS X (.For tg iter body [] pos) (tFor wi g tb):=by
 intro pins s σ H D I h;refine wpAny_For (thn (hi pins s σ H _ I h) fun v s1 h1=>thn h1 fun itv s2 h2=>?_) hs;obtain⟨it,fp,tn,J,H2,e,I2,T,st2,f2,W,⟨m0,w0⟩,turn⟩:=h2;subst e;have stat:∀{H':Hp},(∀b ∈ fp,H' b=none)->∀b ∈ fp,gZ X pins H' b:=fun hn b hb=>⟨hn b hb,(f2 b hb).2⟩;refine codeAny_forLoop_any (fun n s'=>∃i σ' H',Inv X pins σ' H' s'/\tn i s'.heap/\(∀b ∈ fp,H' b=none)/\W i n σ' H') ?_ m0 ⟨0,σ,H2,I2,st2,fun b hb=>(f2 b hb).1,w0⟩;rintro n s3 ⟨i,σ3,H3,I3,st3,fr3,w3⟩;rcases turn i n σ3 H3 w3 with ⟨stop,qn⟩ | ⟨go,N,hN,step⟩
 ·refine wpAny_passesOwn hp (thn (T.done X rfl rfl rfl hc i pins s3 σ3 H3 X.xe I3 (stat fr3) st3 stop) fun r s4 ⟨hr,I4⟩=>?_);subst hr;exact wpAny_execs_nil ⟨σ3,H3,I4,qn⟩
 ·refine wpAny_passesOwn hp (thn (T.item X rfl rfl rfl hc i pins s3 σ3 H3 X.xe I3 (stat fr3) st3 go) fun r s4 ⟨u,hr,h4⟩=>?_);subst hr;refine wpAny_passesOwn hp (thn h4 fun _ s5 ⟨x,H5,I5,r5,y5,st5,fr5⟩=>?_);have I5':=I5.pinned (stat fr5) (T.obj _ _ st5);refine wpAny_passesOwn hp (thn (hg _ s5 σ3 H5 x u _ I5' r5 (step x H5 y5)) fun _ s6 ⟨σ6,H6,I6,q6⟩=>?_);refine wpAny_passesOwn hp (thn (hb _ s6 σ6 H6 _ I6 q6) fun f s7 q7=>?_);have again:∀{σ7:St}{H7:Hp},Inv X (pins ++ ja fp s5.heap) σ7 H7 s7->N σ7 H7->∃m,m < n/\∃i σ' H',Inv X pins σ' H' s7/\tn i s7.heap/\(∀b ∈ fp,H' b=none)/\W i m σ' H':=fun {σ7 H7} I7 n7=>by
   obtain⟨m',hm,w7⟩:=hN σ7 H7 n7;refine⟨m',hm,i + 1,σ7,H7,I7.unpinned,T.keep _ _ _ st5 fun b hb o e=>(I7.pin (b,o) (List.mem_append_right _ (List.mem_append_right _ (eY hb e)))).1,fun b hb=>?_,w7⟩;obtain⟨o,e,d⟩:=T.obj _ _ st5 b hb;exact(I7.pin (b,o) (List.mem_append_right _ (List.mem_append_right _ (eY hb e)))).2.1
  cases f with
  | next=>obtain⟨σ7,H7,I7,n7⟩:=q7;exact again I7 n7
  | cont=>obtain⟨σ7,H7,I7,n7⟩:=q7;exact again I7 n7
  | brk=>obtain⟨σ7,H7,I7,q7⟩:=q7;exact⟨σ7,H7,I7.unpinned,q7⟩
  | ret v=>obtain⟨x7,σ7,H7,I7,r7,q7⟩:=q7;exact⟨x7,σ7,H7,I7.unpinned,r7,q7⟩
end
theorem m8{K:Frag}{a:Addr}{xs:List V}{g:TG}{tb:TS}{D:iG}{σ:St}{H:Hp}(Pv:Nat->St->Hp->Prop)(h0:Pv 0 σ H)(hl:∀i σ H,i <= xs.length->Pv i σ H->SqL K H a xs)
  (hs:∀i x σ H,xs[i]?=some x->Pv i σ H->g x σ H fun σ2 H2=>tb { D with nx:=Pv (i + 1),ct:=Pv (i + 1),bk:=D.nx } σ2 H2)(hd:∀σ H,Pv xs.length σ H->D.nx σ H) :
  ∃W:Nat->Nat->St->Hp->Prop,(∃m,W 0 m σ H)/\∀i m σ H,W i m σ H ->
   ((Itl K a).stop i H/\D.nx σ H)\/((Itl K a).go i H/\∃N:St->Hp->Prop,(∀σ' H',N σ' H'->∃m',m' < m/\W (i + 1) m' σ' H')/\∀x H',(Itl K a).yld i H x H'->g x σ H' fun σ2 H2=>tb { D with nx:=N,ct:=N,bk:=D.nx } σ2 H2):=by
 refine⟨fun i m σ H=>m=xs.length - i/\i <= xs.length/\Pv i σ H,⟨xs.length,by simp,Nat.zero_le _,h0⟩,?_⟩
 rintro i m σ H ⟨rfl,hi,p⟩;have q:=hl i σ H hi p;by_cases hlt:i < xs.length
 ·refine .inr ⟨⟨xs,xs[i],q,by simp[hlt]⟩,Pv (i + 1),fun σ' H' p'=>⟨xs.length - (i + 1),by lia,rfl,hlt,p'⟩,fun x H' y=>?_⟩
  obtain⟨e,y⟩:=y;subst e;exact hs i x σ _ (y xs q) p
 ·have e:i=xs.length:=by lia
  subst e;exact .inl ⟨⟨xs,q,Nat.le_refl _⟩,hd σ H p⟩
theorem lq{K:Frag}{a:Addr}{xs:List V}{g:TG}{tb:TS}{D:iG}{σ:St}{H:Hp}(Pv:Nat->St->Hp->Prop)(h0:Pv 0 σ H)(hl:∀i σ H,i <= xs.length->Pv i σ H->SqT K H a xs)
  (hs:∀i x σ H,xs[i]?=some x->Pv i σ H->g x σ H fun σ2 H2=>tb { D with nx:=Pv (i + 1),ct:=Pv (i + 1),bk:=D.nx } σ2 H2)(hd:∀σ H,Pv xs.length σ H->D.nx σ H) :
  ∃W:Nat->Nat->St->Hp->Prop,(∃m,W 0 m σ H)/\∀i m σ H,W i m σ H ->
   ((Itt K a).stop i H/\D.nx σ H)\/((Itt K a).go i H/\∃N:St->Hp->Prop,(∀σ' H',N σ' H'->∃m',m' < m/\W (i + 1) m' σ' H')/\∀x H',(Itt K a).yld i H x H'->g x σ H' fun σ2 H2=>tb { D with nx:=N,ct:=N,bk:=D.nx } σ2 H2):=by
 refine⟨fun i m σ H=>m=xs.length - i/\i <= xs.length/\Pv i σ H,⟨xs.length,by simp,Nat.zero_le _,h0⟩,?_⟩
 rintro i m σ H ⟨rfl,hi,p⟩;have q:=hl i σ H hi p;by_cases hlt:i < xs.length
 ·refine .inr ⟨⟨xs,xs[i],q,by simp[hlt]⟩,Pv (i + 1),fun σ' H' p'=>⟨xs.length - (i + 1),by lia,rfl,hlt,p'⟩,fun x H' y=>?_⟩
  obtain⟨e,y⟩:=y;subst e;exact hs i x σ _ (y xs q) p
 ·have e:i=xs.length:=by lia
  subst e;exact .inl ⟨⟨xs,q,Nat.le_refl _⟩,hd σ H p⟩
theorem fX{lo:Int}{n:Nat}{g:TG}{tb:TS}{D:iG}{σ:St}{H:Hp}(Pv:Nat->St->Hp->Prop)(h0:Pv 0 σ H)
  (hs:∀i σ H,i < n->Pv i σ H->g (.int (lo + i)) σ H fun σ2 H2=>tb { D with nx:=Pv (i + 1),ct:=Pv (i + 1),bk:=D.nx } σ2 H2)(hd:∀σ H,Pv n σ H->D.nx σ H) :
  ∃W:Nat->Nat->St->Hp->Prop,(∃m,W 0 m σ H)/\∀i m σ H,W i m σ H ->
   ((Itr lo n).stop i H/\D.nx σ H)\/((Itr lo n).go i H/\∃N:St->Hp->Prop,(∀σ' H',N σ' H'->∃m',m' < m/\W (i + 1) m' σ' H')/\∀x H',(Itr lo n).yld i H x H'->g x σ H' fun σ2 H2=>tb { D with nx:=N,ct:=N,bk:=D.nx } σ2 H2):=by
 refine⟨fun i m σ H=>m=n - i/\i <= n/\Pv i σ H,⟨n,by simp,Nat.zero_le _,h0⟩,?_⟩
 rintro i m σ H ⟨rfl,hi,p⟩;by_cases hlt:i < n
 ·refine .inr ⟨hlt,Pv (i + 1),fun σ' H' p'=>⟨n - (i + 1),by lia,rfl,hlt,p'⟩,fun x H' y=>?_⟩
  obtain⟨e,y⟩:=y;subst e y;exact hs i σ _ hlt p
 ·have e:i=n:=by lia
  subst e;exact .inl ⟨Nat.le_refl _,hd σ H p⟩
abbrev R2:=V->V->Hp->VK->Prop
def OpR(X:Cx)(f:Value->Value->Sem Value)(r:R2):Prop :=
 ∀(pins:List (Addr × Obj)) (s:Shared) (σ:St) (H:Hp) (x y:V) (v u:Value) (Q:VK),Inv X pins σ H s->bi x v->bi y u->r x y H Q ->
  wpAny (model X.prog X.w) X.A (f v u) (EP X pins σ Q) X.xe s
def UnR(X:Cx)(f:Value->Sem Value)(r:V->Hp->VK->Prop):Prop :=
 ∀(pins:List (Addr × Obj)) (s:Shared) (σ:St) (H:Hp) (x:V) (v:Value) (Q:VK),Inv X pins σ H s->bi x v->r x H Q ->
  wpAny (model X.prog X.w) X.A (f v) (EP X pins σ Q) X.xe s
def dD(X:Cx)(f:Value)(r:List V->Hp->VK->Prop):Prop :=
 ∀(pins:List (Addr × Obj)) (s:Shared) (σ:St) (H:Hp) (xs:List V) (us:List Value) (Q:VK),Inv X pins σ H s->bA xs us->r xs H Q ->
  wpAny (model X.prog X.w) X.A (call f us) (EP X pins σ Q) X.xe s
def tOp(r:R2)(ta tb:TE):TE:=fun σ H Q=>ta σ H fun x H1=>tb σ H1 fun y H2=>r x y H2 Q
def tUn(r:V->Hp->VK->Prop)(ta:TE):TE:=fun σ H Q=>ta σ H fun x H1=>r x H1 Q
noncomputable def rI(C:Int->Int->Prop)(g:Int->Int->V):R2:=fun x y H Q=>∃i j,x=.int i/\y=.int j/\C i j/\Q (g i j) H
noncomputable def rI0(g:Int->Int->V):R2:=fun x y H Q=>∃i j,x=.int i/\y=.int j/\Q (g i j) H
def rU(g:Int->V):V->Hp->VK->Prop:=fun x H Q=>∃i,x=.int i/\Q (g i) H
section
variable{X:Cx}{a b c:Expr}{ta tb tc:TE}{pos:Pos}
theorem binT(ha:PE X a ta)(hb:PE X b tb){pins:List (Addr × Obj)}{s:Shared}{σ:St}{H:Hp}{R:V->V->Hp->Prop}(I:Inv X pins σ H s)
  (h:ta σ H fun x H1=>tb σ H1 fun y H2=>R x y H2){Q:Value->Shared->Prop}{f:Value->Value->Sem Value}
  (hf:∀v u s2 x y H2,Inv X pins σ H2 s2->bi x v->bi y u->R x y H2->wpAny (model X.prog X.w) X.A (f v u) Q X.xe s2) :
  wpAny (model X.prog X.w) X.A (eval a X.env) (fun v s₁=>wpAny (model X.prog X.w) X.A (eval b X.env) (fun u s₂=>wpAny (model X.prog X.w) X.A (f v u) Q X.xe s₂) X.xe s₁) X.xe s:=by
 refine thn (ha pins s σ H _ I h) fun v s1 ⟨x,H1,I1,r1,q1⟩=>?_;refine thn (hb pins s1 σ H1 _ I1 q1) fun u s2 ⟨y,H2,I2,r2,q2⟩=>?_;exact hf v u s2 x y H2 I2 r1 r2 q2
theorem aE{op:Operator}{r:R2}(ho:OpR X (binaryOp op) r)(ha:PE X a ta)(hb:PE X b tb):PE X (.BinOp a op b pos) (tOp r ta tb):=by
 intro pins s σ H Q I h;exact wpAny_BinOp (binT ha hb I h fun v u s2 x y H2 I2 rx ry q=>ho pins s2 σ H2 x y v u Q I2 rx ry q)
theorem m9{op:UnaryOp}{r:V->Hp->VK->Prop}(ho:UnR X (unaryOp op) r)(ha:PE X a ta):PE X (.UnaryOp op a pos) (tUn r ta):=by
 intro pins s σ H Q I h;exact UnaryOp_ (thn (ha pins s σ H _ I h) fun v s1 ⟨x,H1,I1,r1,q1⟩=>ho pins s1 σ H1 x v Q I1 r1 q1)
theorem opI{f:Value->Value->Sem Value}{C:Int->Int->Prop}{g:Int->Int->Int}
  (rule:∀(i j:Int)(t u:Tok)(s:Shared)(Q:Value->Shared->Prop)(E:Value->Shared->Prop),C i j->Q (.int (g i j) s.toks) { s with toks:=s.toks + 1 }->wpAny (model X.prog X.w) X.A (f (.int i t) (.int j u)) Q E s) :
  OpR X f (rI C fun i j=>.int (g i j)):=by
 intro pins s σ H x y v u Q I rx ry h;obtain⟨i,j,rfl,rfl,hc,q⟩:=h;obtain⟨t,rfl⟩:=rx;obtain⟨t',rfl⟩:=ry;exact rule i j t t' s _ _ hc ⟨.int (g i j),H,I.tok _,⟨_,rfl⟩,q⟩
theorem opI0{f:Value->Value->Sem Value}{g:Int->Int->Int}
  (rule:∀(i j:Int)(t u:Tok)(s:Shared)(Q:Value->Shared->Prop)(E:Value->Shared->Prop),Q (.int (g i j) s.toks) { s with toks:=s.toks + 1 }->wpAny (model X.prog X.w) X.A (f (.int i t) (.int j u)) Q E s) :
  OpR X f (rI0 fun i j=>.int (g i j)):=by
 intro pins s σ H x y v u Q I rx ry h;obtain⟨i,j,rfl,rfl,q⟩:=h;obtain⟨t,rfl⟩:=rx;obtain⟨t',rfl⟩:=ry;exact rule i j t t' s _ _ ⟨.int (g i j),H,I.tok _,⟨_,rfl⟩,q⟩
theorem opB0{f:Value->Value->Sem Value}{g:Int->Int->Bool}
  (rule:∀(i j:Int)(t u:Tok)(s:Shared)(Q:Value->Shared->Prop)(E:Value->Shared->Prop),Q (.bool (g i j)) s->wpAny (model X.prog X.w) X.A (f (.int i t) (.int j u)) Q E s) :
  OpR X f (rI0 fun i j=>.bl (g i j)):=by
 intro pins s σ H x y v u Q I rx ry h;obtain⟨i,j,rfl,rfl,q⟩:=h;obtain⟨t,rfl⟩:=rx;obtain⟨t',rfl⟩:=ry;exact rule i j t t' s _ _ ⟨.bl (g i j),H,I,rfl,q⟩
def CDiv(i j:Int):Prop:=0 < j/\j < 1073741824
def CPow(i j:Int):Prop:=0 <= j/\j <= 1000000/\i.natAbs < 2 ^ 64
def CMul(i j:Int):Prop:=(-(2 ^ 64) < i/\i < 2 ^ 64)\/(-(2 ^ 64) < j/\j < 2 ^ 64)
theorem CMul.ok{i j:Int}(h:CMul i j):IntMulOk i j:=by
 rcases h with ⟨h1,h2⟩ | ⟨h1,h2⟩
 ·exact .of_left (intBits_le_64 h1 h2)
 ·exact .of_right (intBits_le_64 h1 h2)
theorem bn:OpR X (binaryOp .Add) (rI0 fun i j=>.int (i + j)):=opI0 fun _ _ _ _ _ _ _ q=>add_int q
theorem bV:OpR X (binaryOp .Sub) (rI0 fun i j=>.int (i - j)):=opI0 fun _ _ _ _ _ _ _ q=>sub_int q
theorem dH:OpR X (binaryOp .Mult) (rI CMul fun i j=>.int (i * j)):=opI fun _ _ _ _ _ _ _ hc q=>mul_int q hc.ok
theorem qA:OpR X (binaryOp .FloorDiv) (rI CDiv fun i j=>.int (i / j)):=opI fun i j _ _ _ _ _ hc q=>by
 have h1:(0:Int) < j:=hc.1;have h2:j < 1073741824:=hc.2;exact floordiv_int (by lia) (by rw[Int.fdiv_eq_ediv_of_nonneg i (by lia)];exact q) (.inl (PyProof.noPylong_small (by lia)))
theorem cX:OpR X (binaryOp .Mod) (rI (fun _ j=>0 < j) fun i j=>.int (i % j)):=opI fun i j _ _ _ _ _ hc q=>by
 have h1:(0:Int) < j:=hc;exact mod_int' (by lia) (by rw[Int.fmod_eq_emod_of_nonneg i (by lia)];exact q)
theorem jb:OpR X (binaryOp .Pow) (rI CPow fun i j=>.int (i ^ j.toNat)):=opI fun _ _ _ _ _ _ _ hc q=>pow_int_small hc.1 hc.2.1 hc.2.2 q
theorem unI{f:Value->Sem Value}{g:Int->Int}
  (rule:∀(i:Int)(t:Tok)(s:Shared)(Q:Value->Shared->Prop)(E:Value->Shared->Prop),Q (.int (g i) s.toks) { s with toks:=s.toks + 1 }->wpAny (model X.prog X.w) X.A (f (.int i t)) Q E s) :
  UnR X f (rU fun i=>.int (g i)):=by
 intro pins s σ H x v Q I rx h;obtain⟨i,rfl,q⟩:=h;obtain⟨t,rfl⟩:=rx;exact rule i t s _ _ ⟨.int (g i),H,I.tok _,⟨_,rfl⟩,q⟩
theorem jc:UnR X (unaryOp .USub) (rU fun i=>.int (-i)):=unI fun _ _ _ _ _ q=>neg_int q
end
noncomputable def scal:V->V->Bool
 | .non,.non=>true | .non,.int _=>true | .int _,.non=>true | .non,.bl _=>true | .bl _,.non=>true | .non,.str _=>true | .str _,.non=>true
 | .int _,.int _=>true | .bl _,.bl _=>true | .str _,.str _=>true | .byt _,.byt _=>true
 | .int _,.str _=>true | .str _,.int _=>true | .bl _,.str _=>true | .str _,.bl _=>true
 | _,_=>false
noncomputable def rEq:R2:=fun x y H Q=>scal x y=true/\Q (.bl (decide (x=y))) H
noncomputable def rNe:R2:=fun x y H Q=>scal x y=true/\Q (.bl (!decide (x=y))) H
theorem qB{i j:Int}:decide (V.int i=V.int j)=(i == j):=by
 rw[Bool.eq_iff_iff];simp
theorem uh{i j:Bool}:decide (V.bl i=V.bl j)=(i == j):=by
 rw[Bool.eq_iff_iff];simp
theorem iL{i j:Str}:decide (V.str i=V.str j)=(i == j):=by
 rw[Bool.eq_iff_iff];simp
theorem qC{i j:Array UInt8}:decide (V.byt i=V.byt j)=(i.toList == j.toList):=by
 rw[Bool.eq_iff_iff];cases i;cases j;simp
section
variable{X:Cx}{a b c:Expr}{ta tb tc:TE}{pos:Pos}
theorem bp{pins:List (Addr × Obj)}{σ:St}{H:Hp}{s:Shared}{Q:VK}{k k':Bool}(I:Inv X pins σ H s)(q:Q (.bl k) H)(e:k=k'):EP X pins σ Q (.bool k') s:=by
 subst e;exact⟨.bl k,H,I,rfl,q⟩
theorem cj:OpR X (compareOp .Eq) rEq:=by
 intro pins s σ H x y v u Q I rx ry h;obtain⟨hs,q⟩:=h;cases x with
 | non =>
  cases rx;cases y with
  | non=>cases ry;exact PySem.EqNone.eq_none_none (bp I q (by simp))
  | bl j=>cases ry;exact PySem.EqNone.eq_none_bool (bp I q (by simp))
  | int j=>obtain⟨t',rfl⟩:=ry;exact PySem.EqNone.eq_none_int (bp I q (by simp))
  | str j=>obtain⟨t',rfl⟩:=ry;exact PySem.EqNone.eq_none_str (bp I q (by simp))
  | _=>exact absurd (show false=true from hs) Bool.false_ne_true
 | bl i =>
  cases rx;cases y with
  | non=>cases ry;exact PySem.EqNone.eq_bool_none (bp I q (by simp))
  | bl j=>cases ry;exact eq_bool (bp I q uh)
  | str j=>obtain⟨t',rfl⟩:=ry;exact PySem.EqMixed.eq_bool_str (bp I q (by simp))
  | _=>exact absurd (show false=true from hs) Bool.false_ne_true
 | int i =>
  obtain⟨t,rfl⟩:=rx;cases y with
  | non=>cases ry;exact PySem.EqNone.eq_int_none (bp I q (by simp))
  | int j=>obtain⟨t',rfl⟩:=ry;exact eq_int (bp I q qB)
  | str j=>obtain⟨t',rfl⟩:=ry;exact PySem.EqMixed.eq_int_str (bp I q (by simp))
  | _=>exact absurd (show false=true from hs) Bool.false_ne_true
 | str i =>
  obtain⟨t,rfl⟩:=rx;cases y with
  | non=>cases ry;exact PySem.EqNone.eq_str_none (bp I q (by simp))
  | bl j=>cases ry;exact PySem.EqMixed.eq_str_bool (bp I q (by simp))
  | int j=>obtain⟨t',rfl⟩:=ry;exact PySem.EqMixed.eq_str_int (bp I q (by simp))
  | str j=>obtain⟨t',rfl⟩:=ry;exact eq_str (bp I q iL)
  | _=>exact absurd (show false=true from hs) Bool.false_ne_true
 | byt i =>
  obtain⟨t,rfl⟩:=rx;cases y with
  | byt j=>obtain⟨t',rfl⟩:=ry;exact PySem.W.eq_bytes (bp I q qC)
  | _=>exact absurd (show false=true from hs) Bool.false_ne_true
 | _=>cases y <;> exact absurd (show false=true from hs) Bool.false_ne_true
theorem gI:OpR X (compareOp .NotEq) rNe:=by
 intro pins s σ H x y v u Q I rx ry h;obtain⟨hs,q⟩:=h;cases x with
 | non =>
  cases rx;cases y with
  | non=>cases ry;exact PySem.EqNone.ne_none_none (bp I q (by simp))
  | bl j=>cases ry;exact PySem.EqNone.ne_none_bool (bp I q (by simp))
  | int j=>obtain⟨t',rfl⟩:=ry;exact PySem.EqNone.ne_none_int (bp I q (by simp))
  | str j=>obtain⟨t',rfl⟩:=ry;exact PySem.EqNone.ne_none_str (bp I q (by simp))
  | _=>exact absurd (show false=true from hs) Bool.false_ne_true
 | bl i =>
  cases rx;cases y with
  | non=>cases ry;exact PySem.EqNone.ne_bool_none (bp I q (by simp))
  | bl j=>cases ry;exact ne_bool (bp I q (congrArg not uh))
  | str j=>obtain⟨t',rfl⟩:=ry;exact PySem.EqMixed.ne_bool_str (bp I q (by simp))
  | _=>exact absurd (show false=true from hs) Bool.false_ne_true
 | int i =>
  obtain⟨t,rfl⟩:=rx;cases y with
  | non=>cases ry;exact PySem.EqNone.ne_int_none (bp I q (by simp))
  | int j=>obtain⟨t',rfl⟩:=ry;exact ne_int (bp I q (congrArg not qB))
  | str j=>obtain⟨t',rfl⟩:=ry;exact PySem.EqMixed.ne_int_str (bp I q (by simp))
  | _=>exact absurd (show false=true from hs) Bool.false_ne_true
 | str i =>
  obtain⟨t,rfl⟩:=rx;cases y with
  | non=>cases ry;exact PySem.EqNone.ne_str_none (bp I q (by simp))
  | bl j=>cases ry;exact PySem.EqMixed.ne_str_bool (bp I q (by simp))
  | int j=>obtain⟨t',rfl⟩:=ry;exact PySem.EqMixed.ne_str_int (bp I q (by simp))
  | str j=>obtain⟨t',rfl⟩:=ry;exact ne_str (bp I q (congrArg not iL))
  | _=>exact absurd (show false=true from hs) Bool.false_ne_true
 | byt i =>
  obtain⟨t,rfl⟩:=rx;cases y with
  | byt j=>obtain⟨t',rfl⟩:=ry;exact PySem.W.ne_bytes (bp I q (congrArg not qC))
  | _=>exact absurd (show false=true from hs) Bool.false_ne_true
 | _=>cases y <;> exact absurd (show false=true from hs) Bool.false_ne_true
theorem fj:OpR X (compareOp .Lt) (rI0 fun i j=>.bl (decide (i < j))):=opB0 fun _ _ _ _ _ _ _ q=>lt_int q
theorem qD:OpR X (compareOp .LtE) (rI0 fun i j=>.bl (decide (i <= j))):=opB0 fun _ _ _ _ _ _ _ q=>le_int q
theorem eI:OpR X (compareOp .Gt) (rI0 fun i j=>.bl (decide (j < i))):=opB0 fun _ _ _ _ _ _ _ q=>gt_int q
theorem ni:OpR X (compareOp .GtE) (rI0 fun i j=>.bl (decide (j <= i))):=opB0 fun _ _ _ _ _ _ _ q=>ge_int q
theorem rO:OpR X (compareOp .Lt) (fun x y H Q=>∃i j,x=.str i/\y=.str j/\Q (.bl (decide (i.cps.toList < j.cps.toList))) H):=by
 intro pins s σ H x y v u Q I rx ry h;obtain⟨i,j,rfl,rfl,q⟩:=h;obtain⟨t,rfl⟩:=rx;obtain⟨t',rfl⟩:=ry;exact lt_str (bp I q rfl)
theorem rP:OpR X (compareOp .In) (fun x y H Q=>∃i j,x=.str i/\y=.str j/\Q (.bl (!(Builtin.Str.occurrences j i 0 j.length 1).isEmpty)) H):=by
 intro pins s σ H x y v u Q I rx ry h;obtain⟨i,j,rfl,rfl,q⟩:=h;obtain⟨t,rfl⟩:=rx;obtain⟨t',rfl⟩:=ry;exact in_str (bp I q rfl)
theorem aG(b:Expr){op:CmpOp}(h:op ≠ .In:=by decide)(h2:op ≠ .NotIn:=by decide):behindInMarks op b=false:=by
 have e1:(op == CmpOp.In)=false:=by cases op <;> first | rfl | exact absurd rfl h
 have e2:(op == CmpOp.NotIn)=false:=by cases op <;> first | rfl | exact absurd rfl h2
 cases b <;> simp[behindInMarks,e1,e2]
theorem bI{op:CmpOp}{r:R2}(ho:OpR X (compareOp op) r)(ha:PE X a ta)(hb:PE X b tb)(hm:behindInMarks op b=false):PE X (.Compare a [op] [b] pos) (tOp r ta tb):=by
 intro pins s σ H Q I h;exact wpAny_Compare1 (binT ha hb I h fun v u s2 x y H2 I2 rx ry q=>ho pins s2 σ H2 x y v u Q I2 rx ry q) hm
noncomputable def tTest(t:TE):TT:=fun σ H Q=>t σ H fun x H'=>∃k,x=.bl k/\Q k H'
theorem aH{op:CmpOp}{r:R2}(ho:OpR X (compareOp op) r)(ha:PE X a ta)(hb:PE X b tb)(hm:behindInMarks op b=false):PT X (.Compare a [op] [b] pos) (tTest (tOp r ta tb)):=by
 intro pins s σ H Q I h;refine wpAny_isTrue_Compare1 (thn (ha pins s σ H _ I h) fun v s1 ⟨x,H1,I1,r1,q1⟩=>thn (hb pins s1 σ H1 _ I1 q1) fun u s2 ⟨y,H2,I2,r2,q2⟩ =>
  thn (ho pins s2 σ H2 x y v u _ I2 r1 r2 q2) fun c s3 ⟨z,H3,I3,r3,k,e,q3⟩=>?_) hm
 subst e;cases r3;exact wpAny_truthy_bool ⟨H3,I3,q3⟩
def tChain(r r':R2)(ta tb tc:TE):TE:=fun σ H Q=>ta σ H fun x H1=>tb σ H1 fun y H2=>r x y H2 fun z H3=>∃k,z=.bl k /\
 (if k=true then tc σ H3 fun w' H4=>r' y w' H4 Q else Q (.bl false) H3)
theorem nj{op op':CmpOp}{r r':R2}(ho:OpR X (compareOp op) r)(ho':OpR X (compareOp op') r')(ha:PE X a ta)(hb:PE X b tb)(hc:PE X c tc)
  (hm:lastMarks [op,op'] [b,c]=false:=by with_unfolding_all rfl):PT X (.Compare a [op,op'] [b,c] pos) (tTest (tChain r r' ta tb tc)):=by
 intro pins s σ H Q I h;refine isTrue_chain (thn (ha pins s σ H _ I h) fun v s1 ⟨x,H1,I1,r1,q1⟩=>test_link (thn (hb pins s1 σ H1 _ I1 q1) fun u s2 ⟨y,H2,I2,r2,q2⟩ =>
  thn (ho pins s2 σ H2 x y v u _ I2 r1 r2 q2) fun d s3 ⟨z,H3,I3,r3,k,e,q3⟩=>?_)) hm
 subst e;cases r3;refine wpAny_truthy_bool ?_;cases k with
 | false =>
  obtain⟨k',e',q'⟩:=q3;cases e';exact ite_ff ⟨H3,I3,q'⟩
 | true =>
  refine ite_tt (test_last (thn (hc pins s3 σ H3 _ I3 q3) fun w' s4 ⟨z',H4,I4,r4,q4⟩=>thn (ho' pins s4 σ H4 y z' u w' _ I4 r2 r4 q4) fun d' s5 ⟨z2,H5,I5,r5,k2,e2,q5⟩=>?_));subst e2;cases r5;exact wpAny_truthy_bool ⟨H5,I5,q5⟩
theorem lu:(sizeLine:Nat) < 2 ^ 63:=by rw[sizeLine_eq];decide
theorem fC{x:V}{us:List Value}(r:bA [x] us):∃u,us=[u]/\bi x u:=by
 cases r with
 | cons r1 r2=>cases r2;exact⟨_,rfl,r1⟩
theorem nu{x y:V}{us:List Value}(r:bA [x,y] us):∃u w',us=[u,w']/\bi x u/\bi y w':=by
 cases r with
 | cons r1 r2 =>
  cases r2 with
  | cons r3 r4=>cases r4;exact⟨_,_,rfl,r1,r3⟩
theorem ui:dD X (.builtin "abs") (fun xs H Q=>∃i,xs=[.int i]/\Q (.int (if i < 0 then -i else i)) H):=by
 intro pins s σ H xs us Q I r h;obtain⟨i,rfl,q⟩:=h;obtain⟨u,rfl,t,rfl⟩:=fC r;exact call_abs_int fun u tk=>⟨.int (if i < 0 then -i else i),H,I.tok _,⟨_,rfl⟩,q⟩
theorem eE (hc:X.calm=true):dD X (.builtin "max") (fun xs H Q=>∃i j,xs=[.int i,.int j]/\Q (.int (if j > i then j else i)) H):=by
 intro pins s σ H xs us Q I r h;obtain⟨i,j,rfl,q⟩:=h;obtain⟨u,w',rfl,⟨t,rfl⟩,⟨t',rfl⟩⟩:=nu r;refine max_two_ints (I.ok.hd hc) fun h' tk k=>⟨_,H,I.kept k,?_,q⟩;by_cases hj:j > i
 ·rw[if_pos hj,if_pos hj];exact⟨_,rfl⟩
 ·rw[if_neg hj,if_neg hj];exact⟨_,rfl⟩
theorem g9 (hc:X.calm=true):dD X (.builtin "min") (fun xs H Q=>∃i j,xs=[.int i,.int j]/\Q (.int (if j < i then j else i)) H):=by
 intro pins s σ H xs us Q I r h;obtain⟨i,j,rfl,q⟩:=h;obtain⟨u,w',rfl,⟨t,rfl⟩,⟨t',rfl⟩⟩:=nu r;refine min_two_ints (I.ok.hd hc) fun h' tk k=>⟨_,H,I.kept k,?_,q⟩;by_cases hj:j < i
 ·rw[if_pos hj,if_pos hj];exact⟨_,rfl⟩
 ·rw[if_neg hj,if_neg hj];exact⟨_,rfl⟩
theorem fY:dD X (.type "int") (fun xs H Q=>(∃i,xs=[.int i]/\Q (.int i) H)\/∃k,xs=[.bl k]/\Q (.int (if k then 1 else 0)) H):=by
 intro pins s σ H xs us Q I r h;rcases h with ⟨i,rfl,q⟩ | ⟨k,rfl,q⟩
 ·obtain⟨u,rfl,t,rfl⟩:=fC r;exact call_int_int ⟨.int i,H,I,⟨_,rfl⟩,q⟩
 ·obtain⟨u,rfl,r1⟩:=fC r;cases r1;exact call_int_bool ⟨.int (if k then 1 else 0),H,I.tok _,⟨_,rfl⟩,q⟩
end
structure oS(h:Heap)(x dx C:Addr)(mA:Str->Option Value):Prop where
 obj:h.get? x=some (PySem.W.instObj C dx)
 ns:h.Ns1 dx mA
 ne:dx ≠ x
theorem rQ{h:Heap}{dx:Addr}{mA:Str->Option Value}(n:h.Ns1 dx mA):∃od,h.get? dx=some od/\∀name,PySem.W.lookIn name od=some (mA name):=by
 obtain⟨o,es,ep,ho,hd,hk,_,hm⟩:=n;refine⟨o,ho,fun name=>?_⟩;have e:=hm name;unfold nsFind findBy at e;rw[<- Array.find?_toList]at e;unfold PySem.W.lookIn;rw[hd];dsimp only;split
 ·rename_i y q;rw[q]at e;exact congrArg some e
 ·rename_i q;rw[q]at e;have a:es.toList.any (·.refKey)=false:=by
   rw[List.any_eq_false];intro y hy;obtain⟨z,t,hkey⟩:=hk y (Array.mem_toList_iff.mp hy);simp[DictEntry.refKey,hkey]
  have a':¬es.toList.any (·.refKey)=true:=by rw[a];exact Bool.false_ne_true
  rw[if_neg a'];exact congrArg some e
theorem oS.look{h:Heap}{x dx C:Addr}{mA:Str->Option Value}(I:oS h x dx C mA):∃od,PySem.W.InstAt h x (PySem.W.instObj C dx) C (some od)/\∀name,PySem.W.lookIn name od=some (mA name) :=
 let ⟨od,ho,hl⟩:=rQ I.ns
 ⟨od,⟨I.obj,rfl,rfl,ho⟩,hl⟩
section
variable{prog:Program}{w:World}{A:Around}{E:Value->Shared->Prop}{s:Shared}{K:Frag}{x dx C f:Addr}{mA:Str->Option Value}{name:Str}{v:Value}
theorem get_map{expr:Bool}{Q:Value->Shared->Prop}(X:K.In s.heap)(I:oS s.heap x dx C mA)(hg:PySem.W.plainGet K C name=true)(hh:PySem.W.hasDictIn K C=true)
  (ha:PySem.W.findIn K (.ref C) name=some none)(hv:mA name=some v)(hv':PySem.W.handedIn v=true)(h:Q v { s with toks:=s.toks + 1 }) :
  wpAny (model prog w) A (getAttr (.ref x) name expr) Q E s:=by
 obtain⟨od,J,hl⟩:=I.look;exact PySem.W.get_value X J (PySem.W.plainGet_of hg).1 (PySem.W.findObj_own hh ha rfl (by rw[hl,hv])) hv' h
theorem uj{pl:Sem Bool}{Q:Value × List Value->Shared->Prop}(X:K.In s.heap)(I:oS s.heap x dx C mA)(hg:PySem.W.plainGet K C name=true)
  (hf:PySem.W.findIn K (.ref C) name=some (some (.ref f)))(ht:PySem.W.isFn K (.ref f)=true)(hv:mA name=none)(h:Q (.ref f,[.ref x]) s) :
  wpAny (model prog w) A (getMethod (.ref x) name pl) Q E s:=by
 obtain⟨od,J,hl⟩:=I.look;exact PySem.W.method_fn X J (PySem.W.plainGet_of hg).1 (PySem.W.plainGet_of hg).2 hf (beq_iff_eq.mp ht) (by show (PySem.W.lookIn name od).map (·.isSome)=some false;rw[hl,hv];rfl) h
theorem set_map{ns:List Str}{Q:Unit->Shared->Prop}(X:K.In s.heap)(I:oS s.heap x dx C mA)
  (hs:PySem.W.findIn K (.ref C) "__setattr__"=some (some (.builtin "object.__setattr__"))) (hp:PySem.W.plainOver K C=true) (ht:PySem.W.takerIn K C name=some none) (hh:PySem.W.hasDictIn K C=true)
  (hw:PySem.Within mA ns) (hsz:ns.length <= sizeLine)
  (h:∀h',oS h' x dx C (fun y=>if y=name then some v else mA y)->Heap.SameBut dx s.heap h'->Q () { s with heap:=h',toks:=s.toks + 2 }) :
  wpAny (model prog w) A (setAttr (.ref x) name v) Q E s:=by
 obtain⟨od,J,hl⟩:=I.look;refine PySem.W.set_plain X J hs (PySem.W.osa_open (s:={ s with toks:=s.toks + 1 }) (r:=none) X J hp ht fun b=>?_);obtain⟨cd,hc,hd'⟩:=PySem.W.any_some hh;have hx:s.heap.get? x=some ⟨.ref C,some dx,.plain,#[]⟩:=I.obj;refine wpAny_bind (wpAny_pure (wpAny_bind (wpAny_bind (wpAny_loadPart hx (wpAny_bind (PySem.W.Looks.here (s:={ s with toks:=s.toks + 1 }) (PySem.W.looks_clsIn X hc) ?_))))));rw[hd'];refine wpAny_pure (a:=some dx) (wpAny_bind (wpAny_pure (wpAny_bind ?_)));refine wpAny_nsSet1 (s:={ s with toks:=s.toks + 1 }) I.ns fun h' hn2 hs2=>?_;obtain⟨oD,esD,epD,hoD,hdD,hcD⟩:=hn2.count (PySem.Within.cons name v hw);refine wpAny_bind (wpAny_lookBehind hoD (by rw[hdD];exact pastItsLine_dict (Nat.le_trans hcD (by rw[length_cons];lia))) ?_)
 exact wpAny_pure (h _ ⟨(hs2.2 _ (Ne.symm I.ne)).trans I.obj,hn2,I.ne⟩ hs2)
theorem uk{R:Result->Shared->Prop}{vs:List Value}{kw:List (Str × Value)}(X:K.In s.heap)(hm:PySem.W.makesIn K C=true)
  (hi:PySem.W.findIn K (.ref C) "__init__"=some (some (.ref f))) (hf:PySem.W.typeIn K (.ref f)=some (.type "function"))
  (h:codeAny (model prog w) (A.under (.builtin "type.__call__" ⟨.ref C :: vs,kw⟩)) (.call (.ref f) ⟨.ref (s.heap.objs.size + 1) :: vs,kw⟩) (PySem.W.InitBack (s.heap.objs.size + 1) R)
   { s with heap:=(s.heap.push PySem.W.emptyDict).push (PySem.W.instObj C s.heap.objs.size) }) :
  codeAny (model prog w) A (.call (.ref C) ⟨vs,kw⟩) R s:=by
 obtain⟨hh,g,d,t,os⟩:=s;exact PySem.W.make_core (PySem.W.makes_of X hm) (PySem.W.looks_findIn X hi) (fun self=>PySem.W.bind_fn X self hf) (.inl rfl) h
end
noncomputable def aM(f:Str)(v:V):List (Str × V)->List (Str × V)
 | []=>[(f,v)]
 | (g,x) :: r=>if g=f then (g,v) :: r else (g,x) :: aM f v r
theorem cO(f g:Str)(v:V):∀fs:List (Str × V),(aM f v fs).lookup g=if g=f then some v else fs.lookup g
 | []=>by
  show List.lookup g [(f,v)]=_;by_cases h:g=f
  ·have hb:(g == f)=true:=beq_iff_eq.mpr h;simp only[List.lookup,hb,if_pos h]
  ·have hb:(g == f)=false:=beq_eq_false_iff_ne.mpr h;simp only[List.lookup,hb,if_neg h]
 | (k,x) :: r=>by
  have ih:=cO f g v r;rw[show aM f v ((k,x) :: r)=(if k=f then (k,v) :: r else (k,x) :: aM f v r) from rfl]
  by_cases hk:k=f
  ·rw[if_pos hk];by_cases h:g=k
   ·have hb:(g == k)=true:=beq_iff_eq.mpr h;simp only[List.lookup,hb,if_pos (h.trans hk)]
   ·have hb:(g == k)=false:=beq_eq_false_iff_ne.mpr h;simp only[List.lookup,hb,if_neg (fun e:g=f=>h (e.trans hk.symm))]
  ·rw[if_neg hk];by_cases h:g=k
   ·have hb:(g == k)=true:=beq_iff_eq.mpr h;simp only[List.lookup,hb,if_neg (fun e:g=f=>hk (h.symm.trans e))]
   ·have hb:(g == k)=false:=beq_eq_false_iff_ne.mpr h;simp only[List.lookup,hb];exact ih
theorem hJ(f:Str)(v:V):∀fs:List (Str × V),f ∈ (aM f v fs).map (·.1)/\∀g,g ∈ fs.map (·.1)->g ∈ (aM f v fs).map (·.1)
 | []=>⟨by simp[aM],fun g h=>by simp at h⟩
 | (k,x) :: r=>by
  obtain⟨i1,i2⟩:=hJ f v r;rw[show aM f v ((k,x) :: r)=(if k=f then (k,v) :: r else (k,x) :: aM f v r) from rfl]
  by_cases hk:k=f
  ·rw[if_pos hk];subst hk;exact⟨by simp,fun g h=>by simpa using h⟩
  ·rw[if_neg hk];refine⟨?_,fun g h=>?_⟩
   ·rw[List.map_cons];exact List.mem_cons_of_mem _ i1
   ·rw[List.map_cons]at h ⊢;rcases List.mem_cons.mp h with e | e
    ·exact List.mem_cons.mpr (.inl e)
    ·exact List.mem_cons_of_mem _ (i2 g e)
theorem iz(f:Str)(v:V):∀fs:List (Str × V),(aM f v fs).length <= fs.length + 1
 | []=>by simp[aM]
 | (k,x) :: r=>by
  have ih:=iz f v r;rw[show aM f v ((k,x) :: r)=(if k=f then (k,v) :: r else (k,x) :: aM f v r) from rfl]
  by_cases hk:k=f
  ·rw[if_pos hk,length_cons,length_cons];lia
  ·rw[if_neg hk,length_cons,length_cons];lia
theorem eQ.some_of{v:V}{o:Option Value}(r:eQ (some v) o):∃u,o=some u/\bi v u:=by
 cases o with
 | none=>exact(show False from r).elim
 | some u=>exact⟨u,rfl,r⟩
theorem eQ.none_of{o:Option Value}(r:eQ none o):o=none:=by
 cases o with
 | none=>rfl
 | some u=>exact(show False from r).elim
theorem rR{v:V}{u:Value}(r:bi v u):PySem.W.handedIn u=true:=by
 cases v with
 | non=>cases (show u=Value.none from r);rfl
 | bl b=>cases (show u=Value.bool b from r);rfl
 | int i=>obtain⟨t,e⟩:=(show ∃t,u=Value.int i t from r);cases e;rfl
 | str x=>obtain⟨t,e⟩:=(show ∃t,u=Value.str x t from r);cases e;rfl
 | byt b=>obtain⟨t,e⟩:=(show ∃t,u=Value.bytes b t from r);cases e;rfl
 | flt b=>obtain⟨t,e⟩:=(show ∃t,u=Value.float b t from r);cases e;rfl
 | ref a=>cases (show u=Value.ref a from r);rfl
 | ty n=>cases (show u=Value.type n from r);rfl
section
variable{P:Program}{w:World}{H H':Hp}{h h':Heap}{a C dx:Addr}{fs fs':List (Str × V)}
theorem lv(hok:HOk P w H h)(e:H a=some (.ins C dx fs)):∃mA,oS h a dx C mA/\(∀f,eQ (fs.lookup f) (mA f))/\PySem.Within mA (fs.map (·.1))/\fs.length <= 1000/\H dx=some (.own a):=by
 obtain⟨d,z,ne,ob,mA,n,r,q⟩:=(show cD P w H h a (.ins C dx fs) from hok a _ e);exact⟨mA,⟨ob,n,ne⟩,r,q,z,d⟩
end
structure Cls(K:Frag)(C:Addr):Prop where
 pg:PySem.W.plainGet K C Str.empty=true
 hd:PySem.W.hasDictIn K C=true
 po:PySem.W.plainOver K C=true
 sa:PySem.W.findIn K (.ref C) "__setattr__"=some (some (.builtin "object.__setattr__"))
theorem Cls.get{K:Frag}{C:Addr}(c:Cls K C)(f:Str):PySem.W.plainGet K C f=true:=c.pg
def bF(K:Frag)(C:Addr)(f:Str):Prop:=PySem.W.findIn K (.ref C) f=some none
theorem bF.taker{K:Frag}{C:Addr}{f:Str}(n:bF K C f):PySem.W.takerIn K C f=some none:=by
 unfold PySem.W.takerIn;rw[show PySem.W.findIn K (.ref C) f=some none from n];rfl
structure oT(K:Frag)(C:Addr)(m:Str)(f:Addr):Prop where
 at_:PySem.W.findIn K (.ref C) m=some (some (.ref f))
 fn:PySem.W.isFn K (.ref f)=true
 kp:PySem.W.keepIn K (.ref f)=true
section
variable{X:Cx}{pins:List (Addr × Obj)}{σ:St}{H:Hp}{s:Shared}{a C dx:Addr}{fs:List (Str × V)}{f:Str}{v:V}{A:Around}{E:Value->Shared->Prop}
theorem oU{b:Bool}{Q:Value->Shared->Prop}(I:Inv X pins σ H s)(e:H a=some (.ins C dx fs))(c:Cls X.K C)(n:bF X.K C f)(l:fs.lookup f=some v)
  (h:∀u s',Inv X pins σ H s'->bi v u->Q u s'):wpAny (model X.prog X.w) A (getAttr (.ref a) f b) Q E s:=by
 obtain⟨mA,O,r,_,_,_⟩:=lv I.hok e;obtain⟨u,hu,ru⟩:=eQ.some_of (v:=v) (o:=mA f) (by rw[<- l];exact r f)
 exact get_map I.kIn O (c.get f) c.hd n hu (rR ru) (h u _ (I.tok _) ru)
theorem jd{m:Str}{g:Addr}{pl:Sem Bool}{Q:Value × List Value->Shared->Prop}(I:Inv X pins σ H s)(e:H a=some (.ins C dx fs))(c:Cls X.K C)(k:oT X.K C m g)(l:fs.lookup m=none)
  (h:Q (.ref g,[.ref a]) s):wpAny (model X.prog X.w) A (getMethod (.ref a) m pl) Q E s:=by
 obtain⟨mA,O,r,_,_,_⟩:=lv I.hok e;have hn:mA m=none:=eQ.none_of (by rw[<- l];exact r m)
 exact uj I.kIn O (c.get m) k.at_ k.fn hn h
theorem oV{y:V}{u:Value}{Q:Unit->Shared->Prop}(I:Inv X pins σ H s)(e:H a=some (.ins C dx fs))(c:Cls X.K C)(n:bF X.K C f)(hl:fs.length < 1000)(ry:bi y u)
  (h:∀s',Inv X pins σ (upd H a (.ins C dx (aM f y fs))) s'->Q () s'):wpAny (model X.prog X.w) A (setAttr (.ref a) f u) Q E s:=by
 obtain⟨mA,O,r,wi,_,ho⟩:=lv I.hok e;have hz:(fs.map (·.1)).length <= sizeLine:=by rw[length_map,sizeLine_eq];lia
 refine set_map I.kIn O c.sa c.po n.taker c.hd wi hz fun h' O' sb=>h _ ?_;have hd:∃o,h'.get? dx=some o:=let ⟨o,_,_,e',_⟩:=O'.ns;⟨o,e'⟩;refine I.write (x:=a) (e:=dx) (by rw[e];exact True.intro) (.inr ho) (fun b q hb z=>(sb.2 b hb).trans z) hd ?_
 refine⟨by rw[aw O.ne];exact ho,?_,O.ne,O'.obj,_,O'.ns,fun g=>?_,fun g hg=>?_⟩
 ·have:=iz f y fs;lia
 ·show eQ ((aM f y fs).lookup g) (if g=f then some u else mA g)
  rw[cO];by_cases q:g=f
  ·rw[if_pos q,if_pos q];exact ry
  ·rw[if_neg q,if_neg q];exact r g
 ·by_cases q:g=f
  ·rw[q];exact(hJ f y fs).1
  ·refine(hJ f y fs).2 g (wi g fun z=>hg ?_);show (if g=f then some u else mA g)=none
   rw[if_neg q];exact z
theorem Inv.made(I:Inv X pins σ H s):Inv X pins σ (upd (upd H s.heap.objs.size (.own (s.heap.objs.size + 1))) (s.heap.objs.size + 1) (.ins C s.heap.objs.size []))
  { s with heap:=(s.heap.push PySem.W.emptyDict).push (PySem.W.instObj C s.heap.objs.size) }:=by
 have e1:(s.heap.push PySem.W.emptyDict).get? s.heap.objs.size=some PySem.W.emptyDict:=get?_push_size s.heap rfl;have e2:((s.heap.push PySem.W.emptyDict).push (PySem.W.instObj C s.heap.objs.size)).get? (s.heap.objs.size + 1)=some (PySem.W.instObj C s.heap.objs.size):=by
  have:=get?_push_size (s.heap.push PySem.W.emptyDict) (o:=PySem.W.instObj C s.heap.objs.size) rfl
  rwa [Heap.size_push]at this
 have e3:(s.heap.push PySem.W.emptyDict).Ns s.heap.objs.size (fun _=>none):=⟨PySem.W.emptyDict,#[],_,e1,rfl,(fun e he=>absurd he (by simp)),fun _=>rfl⟩
 have I1:=I.laid (a:=s.heap.objs.size) (o:=.own (s.heap.objs.size + 1)) (h':=s.heap.push PySem.W.emptyDict) (t':=s.toks) (fun b u q=>get?_push_of_some _ q) (Nat.le_refl _) ⟨_,e1⟩;refine I1.laid (a:=s.heap.objs.size + 1) (o:=.ins C s.heap.objs.size []) (t':=s.toks) (fun b u q=>get?_push_of_some _ q) (Nat.le_of_eq (Heap.size_push _ _)) ?_
 have ne:s.heap.objs.size ≠ s.heap.objs.size + 1:=Nat.ne_of_lt (Nat.lt_succ_self _);refine⟨by rw[aw ne,ai],Nat.zero_le _,ne,e2,fun _=>none,(Heap.Ns1.of_empty e3).at fun o q=>get?_push_of_some _ q,fun _=>True.intro,fun y hy=>absurd rfl hy⟩
theorem attr_of{prog:Program}{w:World}{env:Env}{e:Expr}{f:Str}{pos:Pos}{s:Shared}{Q:Value->Shared->Prop}(hb:attributeBase e f env (eval e env)=eval e env)
  (h:wpAny (model prog w) A (eval e env) (fun o s₁=>wpAny (model prog w) A (getAttr o f true) Q E s₁) E s):wpAny (model prog w) A (eval (.Attribute e f pos) env) Q E s :=
 Attribute_any_ h (by rw[arm_eval_Attribute,hb])
end
def tFld(K:Frag)(ta:TE)(f:Str):TE:=fun σ H Q=>ta σ H fun x H1=>∃a C dx fs v,x=.ref a/\H1 a=some (.ins C dx fs)/\Cls K C/\bF K C f/\fs.lookup f=some v/\Q v H1
def sFld(K:Frag)(ta tv:TE)(f:Str):TS:=fun D σ H=>tv σ H fun y H1=>ta σ H1 fun x H2=>∃a C dx fs,x=.ref a/\H2 a=some (.ins C dx fs)/\Cls K C/\bF K C f/\fs.length < 1000 /\
 D.nx σ (upd H2 a (.ins C dx (aM f y fs)))
section
variable{X:Cx}{o e value:Expr}{f:Str}{pos pos' tpos:Pos}{ta tv:TE}
theorem aD(he:PE X e ta)(hb:attributeBase e f X.env (eval e X.env)=eval e X.env):PE X (.Attribute e f pos) (tFld X.K ta f):=by
 intro pins s σ H Q I h;refine attr_of hb (thn (he pins s σ H _ I h) fun u s1 ⟨x,H1,I1,rx,a,C,dx,fs,v,ex,ea,c,n,l,q⟩=>?_);subst ex;obtain rfl:u=Value.ref a:=rx;exact oU I1 ea c n l fun u' s2 I2 ru=>⟨v,H1,I2,ru,q⟩
theorem bu(ha:PE X o ta)(hv:PE X value tv)(hs:swapsWith value (some (.Attribute o f pos')) pos.line X.env=pure false):PS X (.Assign [.Attribute o f pos'] value pos) (sFld X.K ta tv f):=by
 intro pins s σ H D I h;refine plainObj_wpAny_Assign_Attribute (thn (hv pins s σ H _ I h) fun u s1 ⟨y,H1,I1,ry,q⟩=>thn (ha pins s1 σ H1 _ I1 q) fun ov s2 ⟨x,H2,I2,rx,a,C,dx,fs,ex,ea,c,n,l,q2⟩=>?_) hs;subst ex;obtain rfl:ov=Value.ref a:=rx;exact oV I2 ea c n l ry fun s3 I3=>⟨σ,_,I3,q2⟩
end
section
variable{X:Cx}{pins:List (Addr × Obj)}{σ:St}{H:Hp}{s:Shared}{A:Around}{E:Value->Shared->Prop}{Q:Value->Shared->Prop}{c:Value}{b:Bool}
end
structure bj(k:Nat)(A:Around):Prop where
 hd:A.handled=none
 dp:A.depth + 3 * k + 5 < recursionLimit
 un:A.units + 16 * k + 200 < cLine
theorem bj.mono{j k:Nat}{A:Around}(r:bj k A)(h:j <= k):bj j A:=⟨r.hd,by have:=r.dp;lia,by have:=r.un;lia⟩
theorem bj.deeper{k:Nat}{A:Around}(r:bj (k + 1) A)(env:Env):bj k (A.deeper env) :=
 ⟨r.hd,by have:=r.dp;show A.depth + 1 + 3 * k + 5 < _;lia,by have:=r.un;show A.units + 3 + 16 * k + 200 < _;lia⟩
theorem oW {A:Around} {C:Addr} {us:List Value} {kw:List (Str × Value)}:(A.under (.builtin "type.__call__" ⟨.ref C :: us,kw⟩)).depth=A.depth + 1:=by
 first | rfl | simp[Around.under,Code.weight,Code.isCreation,Code.isGuard,Code.isCaller,Code.frames,Code.isFrame,guardIds]
theorem oX {A:Around} {C:Addr} {us:List Value} {kw:List (Str × Value)}:(A.under (.builtin "type.__call__" ⟨.ref C :: us,kw⟩)).units=A.units + 1:=by
 first | rfl | simp[Around.under,Code.cUnits,Code.frames,Code.isFrame]
theorem bj.make {k:Nat} {A:Around} (r:bj (k + 1) A) (C:Addr) (us:List Value) (kw:List (Str × Value)):bj k (A.under (.builtin "type.__call__" ⟨.ref C :: us,kw⟩)) :=
 ⟨r.hd,by have:=r.dp;rw[oW];lia,by have:=r.un;rw[oX];lia⟩
theorem bj.depth{k:Nat}{A:Around}(r:bj k A):A.depth < recursionLimit:=by have:=r.dp;lia
theorem bj.units{k:Nat}{A:Around}(r:bj k A):A.units + 64 < cLine:=by have:=r.un;lia
def nw:TA:=fun _ H Q=>Q [] H
def ei(ta:TE)(tr:TA):TA:=fun σ H Q=>ta σ H fun x H1=>tr σ H1 fun xs H2=>Q (x :: xs) H2
section
variable{X:Cx}{e:Expr}{es:List Expr}{te:TE}{t:TA}{pos:Pos}
theorem ag:PA X [] nw:=fun _ _ _ _ H Q I h=>Calls.spliced_nil ⟨[],H,I,.nil,h⟩
theorem ad(ha:PE X e te)(hr:PA X es t)(hs:starEach (e :: es) X.env=(false,eval e X.env) :: starEach es X.env:=by rfl):PA X (e :: es) (ei te t):=by
 intro pos pins s σ H Q I h;rw[hs];show wpAny _ _ (spliced ((false,eval e X.env) :: backTo pos (starEach es X.env))) _ _ s;refine Calls.spliced_cons (thn (ha pins s σ H _ I h) fun u s1 ⟨x,H1,I1,r1,q1⟩=>?_);exact thn (hr pos pins s1 σ H1 _ I1 q1) fun us s2 ⟨xs,H2,I2,r2,q2⟩=>⟨x :: xs,H2,I2,.cons r1 r2,q2⟩
def tTup(t:TA):TE:=fun σ H Q=>t σ H fun xs H1=>xs.length <= sizeLine/\∀p,H1 p=none->Q (.ref p) (upd H1 p (.tup xs))
theorem dZ{x1}(h:PA X es t):PE X (.Tuple es x1 pos) (tTup t):=by
 intro pins s σ H Q I hq;refine wpAny_Tuple_spliced (thn (h pos pins s σ H _ I hq) fun us s1 ⟨xs,H1,I1,r,z,q⟩=>⟨by rw[<- r.length];exact z,?_⟩)
 have hf:H1 s1.heap.objs.size=none:=I1.hok.fresh (Nat.le_refl _);refine⟨.ref s1.heap.objs.size,upd H1 s1.heap.objs.size (.tup xs),I1.laid (t':=s1.toks) (fun b u e=>get?_push_of_some _ e) (Nat.le_refl _) ?_,rfl,q _ hf⟩
 exact⟨z,us,r,⟨_,get?_push_size _ rfl,rfl,_,rfl⟩⟩
end
abbrev Sp:=List V->Hp->VK->XK->Prop
abbrev CXT:=List Env->Hp->Shared->XK->Value->Shared->Prop
structure oY(P:Program)(w:World)(K:Frag)(mg:Str->Option Value)(base:Heap)(A:Around)(outer:List Env)(s:Shared)(H:Hp):Prop where
 frames:A.frames=some outer
 mod:Mod K mg base
 bs:∀b o,base.get? b=some o->s.heap.get? b=some o/\H b=none
 bsz:base.objs.size <= s.heap.objs.size
 funs:s.heap.FunFrames base outer
 frf:∀b ∈ frs outer,H b=none
 hok:HOk P w H s.heap
 bare:AllBare s.gens
def CE(outer:List Env)(P:Program)(w:World)(H:Hp)(s:Shared)(Q:VK)(u:Value)(s':Shared):Prop :=
 ∃v H',s'.os=s.os/\AllBare s'.gens/\Un (frs outer) [] H H' s.heap s'.heap/\HOk P w H' s'.heap/\bi v u/\Q v H'
def CR(CX:CXT)(outer:List Env)(P:Program)(w:World)(H:Hp)(s:Shared)(Q:VK)(E:XK)(r:Result)(s':Shared):Prop :=
 match r with
 | .ok (.ret u)=>CE outer P w H s Q u s'
 | .ok _=>False
 | .error e=>CX outer H s E e s'
structure aQ(P:Program)(w:World)(K:Frag)(mg:Str->Option Value)(base:Heap)(CX:CXT)(k:Nat)(f:Addr)(fd:FuncData)(ps:List Str)(sp:Sp):Prop where
 len:∀vs H Q E,sp vs H Q E->vs.length=ps.length
 run:∀(A:Around)(outer:List Env)(s:Shared)(H:Hp)(args:Args)(us:List Value)(vs:List V)(Q:VK)(E:XK),bj k A->oY P w K mg base A outer s H->BindsTo s fd args (ps.zip us)->bA vs us->sp vs H Q E ->
  codeAny (model P w) A (.call (.ref f) args) (CR CX outer P w H s Q E) s
theorem oY.make{P:Program}{w:World}{K:Frag}{mg:Str->Option Value}{base:Heap}{A:Around}{outer:List Env}{s:Shared}{H:Hp}(e:oY P w K mg base A outer s H)(C:Addr)(us:List Value)(kw:List (Str × Value)) :
  oY P w K mg base (A.under (.builtin "type.__call__" ⟨.ref C :: us,kw⟩)) outer s H:=⟨by first | exact e.frames | (simpa[Around.under,Code.envs,Code.isFrame,pushEnvs] using e.frames),e.mod,e.bs,e.bsz,e.funs,e.frf,e.hok,e.bare⟩
section
variable{X:Cx}{pins:List (Addr × Obj)}{σ:St}{H:Hp}{s s':Shared}
theorem Inv.env0(I:Inv X pins σ H s):oY X.prog X.w X.K X.mg X.base X.A X.stack s H :=
 ⟨I.ok.frames,I.ok.mod,I.bs,Nat.le_trans I.ok.bsz I.sz,I.stack,I.stkFree,I.hok,I.bare⟩
theorem Inv.after{Q:VK}{u:Value}(I:Inv X pins σ H s)(h:CE X.stack X.prog X.w H s Q u s'):EP X pins σ Q u s':=by
 obtain⟨v,H',os,bare,un,hok,r,q⟩:=h;obtain⟨hh,g,d,t,os'⟩:=s';obtain rfl:os'=s.os:=os;exact⟨v,H',I.call (h':=hh) (g':=g) (d':=d) (t':=t) (ch:=[]) un hok bare (fun b z=>absurd z (by simp)),r,q⟩
end
def j7(sp:Sp)(dvs:List V)(E:XK)(t:TA):TE:=fun σ H Q=>t σ H fun vs H1=>sp (vs ++ dvs) H1 Q E
def qE(C:Addr)(m:Str)(sp:Sp)(dvs:List V)(E:XK)(ta:TE)(t:TA):TE:=fun σ H Q=>ta σ H fun x H1=>∃a dx fs,x=.ref a/\H1 a=some (.ins C dx fs)/\fs.lookup m=none /\
 t σ H1 fun vs H2=>sp (x :: (vs ++ dvs)) H2 Q E
def tMake(C:Addr)(sp:Sp)(dvs:List V)(E:XK)(t:TA):TE:=fun σ H Q=>t σ H fun vs H1=>∀x dx,H1 x=none->H1 dx=none->dx ≠ x ->
 sp (.ref x :: (vs ++ dvs)) (upd (upd H1 dx (.own x)) x (.ins C dx [])) (fun v H2=>v=.non/\Q (.ref x) H2) E
def ej(K:Frag)(fd:FuncData)(ps:List Str)(ds:List Value):Prop :=
 ∀(s:Shared)(us:List Value),K.In s.heap->(us ++ ds).length=ps.length->BindsTo s fd ⟨us,[]⟩ (ps.zip (us ++ ds))
theorem ej.all{K:Frag}{fd:FuncData}{ps:List Str}(h:∀us:List Value,us.length=ps.length->bindArgs fd ⟨us,[]⟩=pure (ps.zip us)):ej K fd ps []:=fun s us _ hl=>by
 rw[List.append_nil]at hl ⊢;exact .of_eq (h us hl)
def eZ(CX:CXT)(X:Cx)(E:XK):Prop:=∀(pins:List (Addr × Obj)) (σ:St) (H:Hp) (s:Shared) (e:Value) (s':Shared),Inv X pins σ H s->CX X.stack H s E e s'->X.xe e s'
section
variable{X:Cx}{CX:CXT}{k:Nat}{f C:Addr}{fd:FuncData}{ps:List Str}{sp:Sp}{dvs:List V}{ds:List Value}{E:XK}{x m:Str}{p pos apos:Pos}{e o:Expr}{es:List Expr}{ta:TE}{t:TA}
theorem oZ{pins:List (Addr × Obj)}{σ:St}{H:Hp}{s:Shared}{Q:VK}{us:List Value}{vs:List V}(F:aQ X.prog X.w X.K X.mg X.base CX k f fd ps sp)(hr:bj k X.A)(hb:ej X.K fd ps ds)(hd:bA dvs ds)(hx:eZ CX X E)
  (I:Inv X pins σ H s)(r:bA vs us)(h:sp (vs ++ dvs) H Q E):wpAny (model X.prog X.w) X.A (call (.ref f) us) (EP X pins σ Q) X.xe s:=by
 have r2:bA (vs ++ dvs) (us ++ ds):=r.append hd;have hl:(us ++ ds).length=ps.length:=by rw[<- r2.length];exact F.len _ _ _ _ h
 refine wpAny_call (codeAny_mono (F.run X.A X.stack s H ⟨us,[]⟩ (us ++ ds) (vs ++ dvs) Q E hr I.env0 (hb s us I.kIn hl) r2 h) fun r s' hq=>?_);cases r with
 | error e=>exact hx pins σ H s e s' I hq
 | ok fl =>
  cases fl with
  | ret u=>exact I.after hq
  | next=>exact False.elim hq
  | brk=>exact False.elim hq
  | cont=>exact False.elim hq
theorem qF(F:aQ X.prog X.w X.K X.mg X.base CX k f fd ps sp)(hr:bj k X.A)(hg:Gl X x)(hm:X.mg x=some (.ref f))(hk:PySem.W.keepIn X.K (.ref f)=true)(hb:ej X.K fd ps ds)(hd:bA dvs ds)(hx:eZ CX X E)
  (ha:PA X (e :: es) t) (hdb:(x == ("__debug__":Str))=false:=by decide) (he:starEach (e :: es) X.env=(false,eval e X.env) :: starEach es X.env:=by rfl) (hpl:(backTo pos (starEach es X.env)).any (·.1)=false:=by rfl) :
  PE X (.Call (.Name x p) (e :: es) [] pos) (j7 sp dvs E t):=by
 intro pins s σ H Q I h;refine wpAny_Call_Name_kw (iJ I hg hm ?_ hdb);refine PySem.W.callWith_K (h₀:=X.base) I.ok.mod.kin hk (thn (ha pos pins s σ H _ I h) fun us s1 ⟨vs,H1,I1,r,q⟩=>⟨I1.kIn,?_⟩) he hpl;exact oZ F hr hb hd hx I1 r q
theorem iM{pl:Sem Bool}(he:PE X o ta)(c:Cls X.K C)(hm:oT X.K C m f)(F:aQ X.prog X.w X.K X.mg X.base CX k f fd ps sp)(hr:bj k X.A)(hb:ej X.K fd ps ds)(hd:bA dvs ds)(hx:eZ CX X E)(ha:PA X (e :: es) t)
  (hst:starEach (e :: es) X.env=(false,eval e X.env) :: starEach es X.env:=by rfl)(hpl:(backTo pos (starEach es X.env)).any (·.1)=false:=by rfl)
  (ht:eval (.Call (.Attribute o m apos) (e :: es) [] pos) X.env=(do
   let ov <- eval o X.env
   standAt apos.atName
   let (f,first) <- holding [ov] (getMethod ov m pl)
   callWith pos f first (backTo pos (starEach (e :: es) X.env)) (backToKw pos (keywordEach [] X.env))):=by rfl) :
  PE X (.Call (.Attribute o m apos) (e :: es) [] pos) (qE C m sp dvs E ta t):=by
 intro pins s σ H Q I h;refine PySem.W.methodCall_KW (pl:=pl) (thn (he pins s σ H _ I h) fun u s1 ⟨x,H1,I1,rx,a,dx,fs,ex,ea,l,q⟩=>?_) ht;subst ex;obtain rfl:u=Value.ref a:=rx;refine jd I1 ea c hm l ?_;refine PySem.W.callWith_K (first:=[.ref a]) (h₀:=X.base) I.ok.mod.kin hm.kp (thn (ha pos pins s1 σ H1 _ I1 q) fun us s2 ⟨vs,H2,I2,r,q2⟩=>⟨I2.kIn,?_⟩) hst hpl
 exact oZ (us:=.ref a :: us) (vs:=.ref a :: vs) F hr hb hd hx I2 (.cons rfl r) q2
theorem ul{pl:Sem Bool}(he:PE X o ta)(c:Cls X.K C)(hm:oT X.K C m f)(F:aQ X.prog X.w X.K X.mg X.base CX k f fd ps sp)(hr:bj k X.A)(hb:ej X.K fd ps ds)(hd:bA dvs ds)(hx:eZ CX X E)
  (ht:eval (.Call (.Attribute o m apos) [] [] pos) X.env=(do
   let ov <- eval o X.env
   standAt apos.atName
   let (f,first) <- holding [ov] (getMethod ov m pl)
   callWith pos f first (backTo pos (starEach [] X.env)) (backToKw pos (keywordEach [] X.env))):=by rfl) :
  PE X (.Call (.Attribute o m apos) [] [] pos) (qE C m sp dvs E ta nw):=by
 intro pins s σ H Q I h;refine PySem.W.methodCall_KW (pl:=pl) (thn (he pins s σ H _ I h) fun u s1 ⟨x,H1,I1,rx,a,dx,fs,ex,ea,l,q⟩=>?_) ht;subst ex;obtain rfl:u=Value.ref a:=rx;refine jd I1 ea c hm l ?_;exact PySem.W.callWith_K0 (first:=[.ref a]) I1.kIn hm.kp (oZ (us:=[.ref a]) (vs:=[.ref a]) F hr hb hd hx I1 (.cons rfl .nil) q)
structure Mk(K:Frag)(C f:Addr):Prop where
 makes:PySem.W.makesIn K C=true
 init:PySem.W.findIn K (.ref C) "__init__"=some (some (.ref f))
 fn:PySem.W.isFn K (.ref f)=true
 kp:PySem.W.keepIn K (.ref C)=true
theorem um{pins:List (Addr × Obj)}{σ:St}{H:Hp}{s:Shared}{Q:VK}{us:List Value}{vs:List V}(M:Mk X.K C f)(F:aQ X.prog X.w X.K X.mg X.base CX k f fd ps sp)(hr:bj (k + 1) X.A)(hb:ej X.K fd ps ds)(hd:bA dvs ds)
  (hx:eZ CX X E)(I:Inv X pins σ H s)(r:bA vs us)
  (h:∀x dx,H x=none->H dx=none->dx ≠ x->sp (.ref x :: (vs ++ dvs)) (upd (upd H dx (.own x)) x (.ins C dx [])) (fun v H2=>v=.non/\Q (.ref x) H2) E) :
  wpAny (model X.prog X.w) X.A (call (.ref C) us) (EP X pins σ Q) X.xe s:=by
 have hq:=h (s.heap.objs.size + 1) s.heap.objs.size (I.hok.fresh (Nat.le_succ _)) (I.hok.fresh (Nat.le_refl _)) (Nat.ne_of_lt (Nat.lt_succ_self _));have I2:=Inv.made (C:=C) I;have r2:bA (V.ref (s.heap.objs.size + 1) :: (vs ++ dvs)) (Value.ref (s.heap.objs.size + 1) :: (us ++ ds)):=.cons rfl (r.append hd);have hl:(Value.ref (s.heap.objs.size + 1) :: us ++ ds).length=ps.length:=by
  have e:=r2.length;rw[F.len _ _ _ _ hq]at e;exact e.symm
 refine wpAny_call (uk (f:=f) I.kIn M.makes M.init (beq_iff_eq.mp M.fn) (codeAny_mono (F.run _ X.stack _ _ ⟨Value.ref (s.heap.objs.size + 1) :: us,[]⟩ (Value.ref (s.heap.objs.size + 1) :: (us ++ ds)) _ _ E (hr.make C us [])
  (I2.env0.make C us []) (hb _ (Value.ref (s.heap.objs.size + 1) :: us) I2.kIn hl) r2 hq) fun r s' hq'=>?_))
 cases r with
 | error e=>exact hx pins σ _ _ e s' I2 hq'
 | ok fl =>
  cases fl with
  | ret u =>
   obtain⟨v,H',I3,rv,ev,q3⟩:=I2.after hq';subst ev;exact⟨rv,⟨V.ref (s.heap.objs.size + 1),H',I3,rfl,q3⟩⟩
  | next=>exact False.elim hq'
  | brk=>exact False.elim hq'
  | cont=>exact False.elim hq'
theorem pe_make(M:Mk X.K C f)(F:aQ X.prog X.w X.K X.mg X.base CX k f fd ps sp)(hr:bj (k + 1) X.A)(hg:Gl X x)(hm:X.mg x=some (.ref C))(hb:ej X.K fd ps ds)(hd:bA dvs ds)(hx:eZ CX X E)
  (ha:PA X (e :: es) t) (hdb:(x == ("__debug__":Str))=false:=by decide) (he:starEach (e :: es) X.env=(false,eval e X.env) :: starEach es X.env:=by rfl) (hpl:(backTo pos (starEach es X.env)).any (·.1)=false:=by rfl) :
  PE X (.Call (.Name x p) (e :: es) [] pos) (tMake C sp dvs E t):=by
 intro pins s σ H Q I h;refine wpAny_Call_Name_kw (iJ I hg hm ?_ hdb);refine PySem.W.callWith_K (h₀:=X.base) I.ok.mod.kin M.kp (thn (ha pos pins s σ H _ I h) fun us s1 ⟨vs,H1,I1,r,q⟩=>⟨I1.kIn,?_⟩) he hpl;exact um M F hr hb hd hx I1 r q
end
def PK(X:Cx)(kws:List Keyword)(t:TA):Prop :=
 ∀(pos:Pos) (pins:List (Addr × Obj)) (s:Shared) (σ:St) (H:Hp) (Q:List V->Hp->Prop),Inv X pins σ H s->t σ H Q->wpAny (model X.prog X.w) X.A (evalAll ((backToKw pos (keywordEach kws X.env)).map (·.2))) (AP X pins σ Q) X.xe s
section
variable{X:Cx}{CX:CXT}{k:Nat}{f C:Addr}{fd:FuncData}{ps ks:List Str}{sp:Sp}{E:XK}{x m:Str}{p pos apos kpos:Pos}{e o:Expr}{es:List Expr}{kws:List Keyword}{te ta:TE}{t tk:TA}{nm:Option Str}
theorem pk_nil:PK X [] nw:=fun _ _ _ _ H Q I h=>wpAny_evalAll_nil ⟨[],H,I,.nil,h⟩
theorem pk_cons(ha:PE X e te)(hr:PK X kws t):PK X (⟨nm,e,kpos⟩ :: kws) (ei te t):=by
 intro pos pins s σ H Q I h;show wpAny _ _ (evalAll ((do let v <- eval e X.env;standAt pos;pure v) :: (backToKw pos (keywordEach kws X.env)).map (·.2))) _ _ s
 refine wpAny_evalAll_cons (wpAny_bind (thn (ha pins s σ H _ I h) fun u s1 ⟨x,H1,I1,r1,q1⟩=>wpAny_bind (wpAny_standAt (wpAny_pure ?_))));exact thn (hr pos pins s1 σ H1 _ I1 q1) fun us s2 ⟨xs,H2,I2,r2,q2⟩=>⟨x :: xs,H2,I2,.cons r1 r2,q2⟩
variable{g:List Value->List Value->List Value}{gV:List V->List V->List V}
end
structure au(N P:List Str)(sc:Scope):Prop where
 kind:sc.kind=.function
 co:sc.isCoroutine=false
 gen:sc.isGenerator=false
 nd:N.Nodup
 pre:N.take P.length=P
 par:∀x ∈ P,sc.names.lookup x=some .local\/sc.names.lookup x=some .cell
 nofree:∀y ∈ sc.names,y.2 ≠ .free
theorem fsc{N P:List Str}{sc:Scope}(h:sc.kind=.function/\sc.isCoroutine=false/\sc.isGenerator=false/\N.Nodup/\N.take P.length=P/\(∀x ∈ P,sc.names.lookup x=some .local\/sc.names.lookup x=some .cell)/\∀y ∈ sc.names,y.2 ≠ .free):au N P sc:=⟨h.1,h.2.1,h.2.2.1,h.2.2.2.1,h.2.2.2.2.1,h.2.2.2.2.2.1,h.2.2.2.2.2.2⟩
theorem j8{kindOf:Str->Option NameKind}{x:Str}:∀{binds:List (Str × Value)} {m:Str->Option Value},(∀v,(x,v) ∉ binds)->bindL kindOf binds m x=m x
 | [],_,_=>rfl
 | (n,v) :: r,m,h=>by
  unfold bindL;rw[j8 fun w hw=>h w (List.mem_cons_of_mem _ hw)];split
  ·have:x ≠ n:=by rintro rfl;exact h v List.mem_cons_self
   simp[this]
  ·rfl
theorem j9{kindOf:Str->Option NameKind}{x:Str}:∀{binds:List (Str × Value)} {m:Str->Option Value},(∀v,(x,v) ∉ binds)->bindC kindOf binds m x=m x
 | [],_,_=>rfl
 | (n,v) :: r,m,h=>by
  unfold bindC;rw[j9 fun w hw=>h w (List.mem_cons_of_mem _ hw)];split
  ·rfl
  ·have:x ≠ n:=by rintro rfl;exact h v List.mem_cons_self
   simp[this]
theorem ka{kindOf:Str->Option NameKind}{x:Str}{v:Value}:∀{P:List Str}{vs:List Value}{i:Nat}{m:Str->Option Value},P.Nodup->P[i]?=some x->vs[i]?=some v->kindOf x=some .local ->
  bindL kindOf (P.zip vs) m x=some v
 | [],_,_,_,_,h,_,_=>by simp at h
 | _ :: _,[],_,_,_,_,h,_=>by simp at h
 | p :: P,w :: vs,0,m,nd,h1,h2,hk=>by
  simp at h1 h2;subst h1;subst h2
  show bindL kindOf ((p,w) :: P.zip vs) m p=_;unfold bindL;rw[j8 fun v hv=>(List.nodup_cons.mp nd).1 (List.of_mem_zip hv).1,if_pos hk];simp
 | p :: P,w :: vs,i + 1,m,nd,h1,h2,hk=>by
  show bindL kindOf ((p,w) :: P.zip vs) m x=_;unfold bindL;exact ka (i:=i) (List.nodup_cons.mp nd).2 (by simpa using h1) (by simpa using h2) hk
theorem kg{kindOf:Str->Option NameKind}{x:Str}{v:Value}:∀{P:List Str}{vs:List Value}{i:Nat}{m:Str->Option Value},P.Nodup->P[i]?=some x->vs[i]?=some v->kindOf x ≠ some .local ->
  bindC kindOf (P.zip vs) m x=some v
 | [],_,_,_,_,h,_,_=>by simp at h
 | _ :: _,[],_,_,_,_,h,_=>by simp at h
 | p :: P,w :: vs,0,m,nd,h1,h2,hk=>by
  simp at h1 h2;subst h1;subst h2
  show bindC kindOf ((p,w) :: P.zip vs) m p=_;unfold bindC;rw[j9 fun v hv=>(List.nodup_cons.mp nd).1 (List.of_mem_zip hv).1,if_neg hk];simp
 | p :: P,w :: vs,i + 1,m,nd,h1,h2,hk=>by
  show bindC kindOf ((p,w) :: P.zip vs) m x=_;unfold bindC;exact kg (i:=i) (List.nodup_cons.mp nd).2 (by simpa using h1) (by simpa using h2) hk
noncomputable def fE(N:List Str)(vs:List V):St:=vs.map some ++ List.replicate (N.length - vs.length) none
noncomputable def bv(CX:CXT)(P:Program)(w:World)(K:Frag)(mg:Str->Option Value)(base:Heap)(N:List Str)(qual:Str)(scope:Scope)(f:Addr)(cd:Value)(A:Around)(outer:List Env)(s:Shared)(H:Hp)(E:XK):Cx where
 prog:=P
 w:=w
 K:=K
 mg:=mg
 base:=base
 A:=A.deeper (envOfC qual scope s.heap.objs.size f cd)
 N:=N
 s₀:=s
 H₀:=H
 env:=envOfC qual scope s.heap.objs.size f cd
 outer:=outer
 stack:=envOfC qual scope s.heap.objs.size f cd :: outer
 ex:=[]
 calm:=true
 fn:=fun _=>true
 pn:=[]
 xe:=fun e s'=>wpAny (model P w) (A.deeper (envOfC qual scope s.heap.objs.size f cd)) (leaving (envOfC qual scope s.heap.objs.size f cd) e) (fun _ s''=>CX outer H s E e s'') (fun e' s''=>CX outer H s E e' s'') s'
theorem ny{sc:Scope}{n:Nat}{x:Str}(h:sc.names.lookup x=some .cell):∃c,(cellsFrom n sc.names []).lookup x=some c:=by
 have q:=PySem.W.cellsFrom_some sc.names n [] (.inl h);exact Option.isSome_iff_exists.mp q
theorem rS{CX:CXT}{P:Program}{w:World}{K:Frag}{mg:Str->Option Value}{base:Heap}{N ps:List Str}{qual:Str}{scope:Scope}{f:Addr}{cd:Value}{A:Around}{outer:List Env}{s s1:Shared}{H:Hp}{E:XK}{us:List Value}{vs:List V}
  (S:au N ps scope)(hd:A.handled=none)(e0:oY P w K mg base A outer s H)(hl:vs.length=ps.length)(r:bA vs us)
  (x:InCallC s s.heap.objs.size (bindL (envOfC qual scope s.heap.objs.size f cd).kindOf (ps.zip us) fun _=>none) (cellsFrom (s.heap.objs.size + 1) scope.names []) (bindC (envOfC qual scope s.heap.objs.size f cd).kindOf (ps.zip us) fun _=>none) s1) :
  Inv (bv CX P w K mg base N qual scope f cd A outer s H E) [] (fE N vs) H s1:=by
 have hpl:ps.length <= N.length:=by have:=congrArg List.length S.pre;rw[length_take]at this;lia
 obtain⟨h1,tk,rfl,hk⟩:=x.done;have noA:∀b:Addr,b ∉ (bv CX P w K mg base N qual scope f cd A outer s H E).ex:=fun b z=>absurd (show b ∈ ([]:List Addr) from z) (by simp)
 refine⟨⟨e0.mod,S.kind,rfl,rfl,Nat.le_refl _,fun y z c h1 h2=>?_,fun y hy=>?_,fun y c _ h=>?_,fun _=>hd,Around.frames_deeper e0.frames,.inr ⟨rfl,rfl⟩,fun b z=>absurd z (noA b),e0.bs,e0.bsz,fun b _ _=>noA b,fun b z=>absurd z (noA b),e0.funs,e0.frf⟩,
  rfl,e0.bare,Un.kept hk,⟨_,x.toInCall.ns,fun i y v h1 h2 h3=>?_⟩,fun y c h=>⟨_,x.cell y c h⟩,e0.hok.fresh (Nat.le_refl _),fun y c h=>?_,fun p hp=>absurd (show p ∈ ([]:List (Addr × Obj)) from hp) (by simp),e0.hok.kept hk,?_⟩
 ·exact name_of_addr x.apart (PySem.mem_of_lookup h1) (PySem.mem_of_lookup h2)
 ·have hy:scope.names.lookup y=some .cell\/scope.names.lookup y=some .free:=hy;rcases hy with hy | hy
  ·exact ny hy
  ·exact absurd rfl (S.nofree _ (PySem.mem_of_lookup hy))
 ·exact Nat.le_of_lt (x.above y c (PySem.mem_of_lookup h))
 ·have hi:i < vs.length:=by
   unfold fE at h2;by_cases hi:i < vs.length
   ·exact hi
   ·rw[List.getElem?_append_right (by simpa using hi)]at h2
    rw[List.getElem?_replicate]at h2;split at h2 <;> cases h2
  have ha:vs[i]?=some v:=by
   unfold fE at h2;rw[List.getElem?_append_left (by simpa using hi),getElem?_map]at h2
   cases e:vs[i]? with
   | none=>rw[e]at h2;cases h2
   | some a=>rw[e]at h2;cases h2;rfl
  obtain⟨u,hu,rv⟩:=r.get ha;have hp:ps[i]?=some y:=by
   rw[<- S.pre,List.getElem?_take_of_lt (by lia)];exact h1
  have ndP:ps.Nodup:=by rw[<- S.pre];exact S.nd.sublist (List.take_sublist _ _)
  refine⟨u,rv,?_⟩;rcases S.par y (mem_of_getElem? hp) with k | k
  ·exact .inl ⟨k,ka ndP hp hu k⟩
  ·obtain⟨c,e⟩:=ny (n:=s.heap.objs.size + 1) k;refine .inr ⟨.inl k,c,e,?_⟩;have q:=x.cell y c e;rw[kg ndP hp hu (by show scope.names.lookup y ≠ _;rw[k];decide)]at q
   exact q
 ·exact e0.hok.fresh (Nat.le_of_lt (x.above y c (PySem.mem_of_lookup h)))
 ·unfold fE;show _=N.length;rw[length_append,length_map,List.length_replicate];lia
theorem fn_of{CX:CXT}{P:Program}{w:World}{K:Frag}{mg:Str->Option Value}{base:Heap}{k:Nat}{f:Addr}{name qual:Str}{params:Arguments}{body:List Stmt}{scope:Scope}{dV kV doc pm cdv ct oc:Value}{an od:Option Addr}
  {osl:Array (Option Value)}{N ps:List Str}{sp:Sp}(lk:K.lookup f=some ⟨oc,od,.func (PySem.W.fnOf name qual params body scope dV kV doc pm an cdv ct),osl⟩)(hcd:PySem.W.codeIn K cdv qual=true)(S:au N ps scope)
  (len:∀vs H Q E,sp vs H Q E->vs.length=ps.length)
  (hbody:∀(A:Around)(outer:List Env)(s:Shared)(H:Hp)(vs:List V)(Q:VK)(E:XK),bj k (A.deeper (envOfC qual scope s.heap.objs.size f cdv))->sp vs H Q E ->
   ∃t,PSs (bv CX P w K mg base N qual scope f cdv A outer s H E) body t/\t { nx:=fun _ H'=>Q .non H',rt:=Q } (fE N vs) H) :
  aQ P w K mg base CX (k + 1) f (PySem.W.fnOf name qual params body scope dV kV doc pm an cdv ct) ps sp:=by
 refine⟨len,fun A outer s H args us vs Q E hr e0 hb r hsp=>?_⟩;have hl:=len _ _ _ _ hsp;have KX:K.In s.heap:=e0.mod.kin.keeps fun b o e=>(e0.bs b o e).1;have lim:s.heap.NoLimit:=e0.mod.nolimit.keeps fun b o e=>(e0.bs b o e).1;have hkind:∀y ∈ ps.zip us,scope.names.lookup y.1=some .local\/(scope.names.lookup y.1=some .cell/\((cellsFrom (s.heap.objs.size + 1) scope.names []).lookup y.1).isSome=true):=fun⟨n,v⟩ hy=>by
  rcases S.par n (List.of_mem_zip hy).1 with q | q
  ·exact .inl q
  ·exact .inr ⟨q,PySem.W.cellsFrom_some _ _ _ (.inl q)⟩
 refine codeAny_call_function hr.depth (KX _ _ lk) rfl S.co S.gen rfl (PySem.W.codeRec_of KX hcd) (hb _ _ _ _ ?_);refine wpAny_newFunctionEnv_cells S.kind hkind fun env he s1 x=>?_;subst he;refine⟨lim.keeps x.toInCall.keep,codeAny_func ?_⟩;obtain⟨t,ht,hq⟩:=hbody A outer s H vs Q E (hr.deeper _) hsp;have I:Inv (bv CX P w K mg base N qual scope f cdv A outer s H E) [] (fE N vs) H s1:=rS S hr.hd e0 hl r x;refine wpAny_mono (ht [] s1 (fE N vs) H _ I hq) (fun fl s' hs=>?_) fun e s' hs=>hs;have fin:∀{σ':St}{H':Hp}{v:V}{u:Value},Inv (bv CX P w K mg base N qual scope f cdv A outer s H E) [] σ' H' s'->bi v u->Q v H'->CE outer P w H s Q u s' :=
  fun {σ' H' v u} J rv q=>⟨v,H',J.os,J.bare,J.base,J.hok,rv,q⟩
 cases fl with
 | ret u =>
  obtain⟨v,σ',H',J,rv,q⟩:=hs;exact fin J rv q
 | next =>
  obtain⟨σ',H',J,q⟩:=hs;exact fin (v:=V.non) (u:=Value.none) J rfl q
 | brk =>
  obtain⟨_,_,_,q⟩:=hs;exact False.elim q
 | cont =>
  obtain⟨_,_,_,q⟩:=hs;exact False.elim q
section
variable{X:Cx}{x:Str}{p pos:Pos}{e:Expr}{es:List Expr}{t:TA}{id T:String}{r:List V->Hp->VK->Prop}
def tCB(r:List V->Hp->VK->Prop)(t:TA):TE:=fun σ H Q=>t σ H fun vs H1=>r vs H1 Q
theorem az (hc:dD X (.builtin id) r) (hg:Gl X x) (hm:X.mg x=none) (hv:bootBuiltins x=some (.builtin id)) (ha:PA X (e :: es) t) (hn:x ≠ "__name__":=by decide) (hdb:(x == ("__debug__":Str))=false:=by decide)
  (he:starEach (e :: es) X.env=(false,eval e X.env) :: starEach es X.env:=by rfl) (hpl:(backTo pos (starEach es X.env)).any (·.1)=false:=by rfl):PE X (.Call (.Name x p) (e :: es) [] pos) (tCB r t):=by
 intro pins s σ H Q I h;refine wpAny_Call_Name_kw (fB I hg hm hv ?_ hn hdb);exact PyProof.Rows.callWith_builtin1 (thn (ha pos pins s σ H _ I h) fun us s1 ⟨vs,H1,I1,r1,q1⟩=>hc pins s1 σ H1 vs us Q I1 r1 q1) he hpl
theorem bh (hc:dD X (.type T) r) (hg:Gl X x) (hm:X.mg x=none) (hv:bootBuiltins x=some (.type T)) (ha:PA X (e :: es) t) (hn:x ≠ "__name__":=by decide) (hdb:(x == ("__debug__":Str))=false:=by decide)
  (he:starEach (e :: es) X.env=(false,eval e X.env) :: starEach es X.env:=by rfl) (hpl:(backTo pos (starEach es X.env)).any (·.1)=false:=by rfl):PE X (.Call (.Name x p) (e :: es) [] pos) (tCB r t):=by
 intro pins s σ H Q I h;refine wpAny_Call_Name_kw (fB I hg hm hv ?_ hn hdb);exact PyProof.Rows.callWith_type1 (thn (ha pos pins s σ H _ I h) fun us s1 ⟨vs,H1,I1,r1,q1⟩=>hc pins s1 σ H1 vs us Q I1 r1 q1) he hpl
end
section
variable{κ:Type} [DecidableEq κ]
noncomputable def bK(kvs:List (κ × V))(k:κ):Option V:=(kvs.find? fun kv=>decide (kv.1=k)).map (·.2)
noncomputable def ck(kvs:List (κ × V))(k:κ)(v:V):List (κ × V) :=
 if (kvs.any fun kv=>decide (kv.1=k))=true then kvs.map (fun kv=>if kv.1=k then (kv.1,v) else kv) else kvs ++ [(k,v)]
noncomputable def dR(kvs:List (κ × V))(k:κ):List (κ × V):=kvs.filter fun kv=>decide (kv.1 ≠ k)
theorem cw{p:κ × V}{r:List (κ × V)}{k:κ}(e:p.1=k):bK (p :: r) k=some p.2:=by simp[bK,List.find?_cons,e]
theorem cc{p:κ × V}{r:List (κ × V)}{k:κ}(e:¬p.1=k):bK (p :: r) k=bK r k:=by simp[bK,List.find?_cons,e]
theorem fF(k:κ):∀kvs:List (κ × V),(kvs.any fun kv=>decide (kv.1=k))=(bK kvs k).isSome
 | []=>rfl
 | p :: r=>by
  rw[List.any_cons];by_cases e:p.1=k
  ·simp only[cw e,decide_eq_true e,Bool.true_or,Option.isSome_some]
  ·rw[cc e,decide_eq_false e,Bool.false_or];exact fF k r
theorem nA(k j:κ)(y:V):∀kvs:List (κ × V),bK (kvs.map fun kv=>if kv.1=k then (kv.1,y) else kv) j=(bK kvs j).map fun x=>if j=k then y else x
 | []=>rfl
 | p :: r=>by
  have ih:=nA k j y r;rw[List.map_cons];by_cases h:p.1=k
  ·rw[if_pos h];by_cases e:p.1=j
   ·rw[cw (p:=(p.1,y)) e,cw e,Option.map_some,if_pos (e.symm.trans h)]
   ·rw[cc (p:=(p.1,y)) e,cc e,ih]
  ·rw[if_neg h];by_cases e:p.1=j
   ·rw[cw (p:=p) e,cw e,Option.map_some,if_neg (fun z=>h (e.trans z))]
   ·rw[cc (p:=p) e,cc e,ih]
theorem kh(k j:κ)(y:V):∀kvs:List (κ × V),bK kvs k=none->bK (kvs ++ [(k,y)]) j=if j=k then some y else bK kvs j
 | [],_=>by
  by_cases e:k=j
  ·rw[if_pos e.symm];exact cw (p:=(k,y)) e
  ·rw[if_neg (fun z=>e z.symm)];exact cc (p:=(k,y)) e
 | p :: r,hn=>by
  rw[List.cons_append];have hk:¬p.1=k:=fun z=>by rw[cw z]at hn;cases hn
  rw[cc hk]at hn;have ih:=kh k j y r hn;by_cases e:p.1=j
  ·rw[cw e,cw e,if_neg (fun z=>hk (e.trans z))]
  ·rw[cc e,cc e,ih]
theorem dS(kvs:List (κ × V))(k j:κ)(y:V):bK (ck kvs k y) j=if j=k then some y else bK kvs j:=by
 unfold ck;by_cases a:(kvs.any fun kv=>decide (kv.1=k))=true
 ·rw[if_pos a,nA];rw[fF]at a;by_cases e:j=k
  ·obtain⟨x,hx⟩:=Option.isSome_iff_exists.mp a;rw[if_pos e,e,hx,Option.map_some,if_pos rfl]
  ·rw[if_neg e];cases bK kvs j with
   | none=>rfl
   | some x=>rw[Option.map_some,if_neg e]
 ·rw[if_neg a];refine kh k j y kvs ?_;rw[fF]at a;cases q:bK kvs k with
  | none=>rfl
  | some x=>rw[q]at a;exact(a rfl).elim
theorem dU(kvs:List (κ × V))(k:κ)(v:V):(ck kvs k v).length <= kvs.length + 1:=by
 unfold ck;split
 ·rw[length_map];lia
 ·rw[length_append,length_cons,List.length_nil];lia
theorem eQ.isSome_eq{o:Option V}{u:Option Value}(r:eQ o u):o.isSome=u.isSome:=by
 cases o with
 | none=>cases u with
  | none=>rfl
  | some _=>exact(show False from r).elim
 | some _=>cases u with
  | none=>exact(show False from r).elim
  | some _=>rfl
theorem eQ.getD{o:Option V}{u:Option Value}{d:V}{d':Value}(r:eQ o u)(rd:bi d d'):bi (o.getD d) (u.getD d'):=by
 cases o with
 | none=>cases u with
  | none=>exact rd
  | some _=>exact(show False from r).elim
 | some _=>cases u with
  | none=>exact(show False from r).elim
  | some _=>exact r
theorem KV.val{kvs:List (κ × V)}{vs:List (κ × Value)}(r:KV kvs vs)(k:κ):eQ (bK kvs k) (valueAt vs k):=by
 unfold KV at r;induction r with
 | nil=>exact True.intro
 | @cons p q ps qs h t ih =>
  obtain⟨h1,h2⟩:=h;by_cases e:p.1=k
  ·have e':q.1=k:=h1.symm.trans e;have b:valueAt (q :: qs) k=some q.2:=by simp[valueAt,List.find?_cons,e']
   rw[cw e,b];exact h2
  ·have e':¬q.1=k:=fun z=>e (h1.trans z);have b:valueAt (q :: qs) k=valueAt qs k:=by simp[valueAt,List.find?_cons,e']
   rw[cc e,b];exact ih
theorem KV.any{kvs:List (κ × V)}{vs:List (κ × Value)}(r:KV kvs vs)(k:κ):(kvs.any fun kv=>decide (kv.1=k))=vs.any fun kv=>decide (kv.1=k):=by
 unfold KV at r;induction r with
 | nil=>rfl
 | cons h t ih=>rw[List.any_cons,List.any_cons,ih,h.1]
theorem KV.repl{kvs:List (κ × V)}{vs:List (κ × Value)}(r:KV kvs vs)(k:κ){y:V}{u:Value}(ry:bi y u) :
  KV (kvs.map fun kv=>if kv.1=k then (kv.1,y) else kv) (vs.map fun kv=>if kv.1=k then (kv.1,u) else kv):=by
 unfold KV at r ⊢;induction r with
 | nil=>exact .nil
 | @cons p q ps qs h t ih =>
  rw[List.map_cons,List.map_cons];refine .cons ?_ ih;obtain⟨h1,h2⟩:=h;by_cases e:p.1=k
  ·rw[if_pos e,if_pos (h1.symm.trans e)];exact⟨h1,ry⟩
  ·rw[if_neg e,if_neg (fun z=>e (h1.trans z))];exact⟨h1,h2⟩
theorem KV.put{kvs:List (κ × V)}{vs:List (κ × Value)}(r:KV kvs vs)(k:κ){y:V}{u:Value}(ry:bi y u):KV (ck kvs k y) (stored vs k u):=by
 unfold ck stored;rw[r.any k];by_cases e:(vs.any fun kv=>decide (kv.1=k))=true
 ·rw[if_pos e,if_pos e];exact r.repl k ry
 ·rw[if_neg e,if_neg e];exact Paired.snoc r ⟨rfl,ry⟩
theorem KV.drop{kvs:List (κ × V)}{vs:List (κ × Value)}(r:KV kvs vs)(k:κ):KV (dR kvs k) (without vs k):=by
 unfold KV at r ⊢;unfold dR without;induction r with
 | nil=>exact .nil
 | @cons p q ps qs h t ih =>
  obtain⟨h1,h2⟩:=h;rw[List.filter_cons,List.filter_cons];by_cases e:p.1=k
  ·have a:¬decide (p.1 ≠ k)=true:=by simp[e]
   have b:¬decide (q.1 ≠ k)=true:=by simp[h1.symm.trans e]
   rw[if_neg a,if_neg b];exact ih
  ·have e':¬q.1=k:=fun z=>e (h1.trans z);have a:decide (p.1 ≠ k)=true:=by simp[e]
   have b:decide (q.1 ≠ k)=true:=by simp[e']
   rw[if_pos a,if_pos b];exact .cons ⟨h1,h2⟩ ih
theorem KV.length{kvs:List (κ × V)}{vs:List (κ × Value)}(r:KV kvs vs):kvs.length=vs.length:=Paired.length r
theorem uo(kvs:List (κ × V))(k:κ):(dR kvs k).length <= kvs.length:=List.length_filter_le _ _
end
theorem fk{P:Program}{w:World}{k:Key}{u:Value}(r:bi (kV k) u):(bC P w).is k u=true:=by
 cases k with
 | inl i=>obtain⟨t,e⟩:=(show ∃t,u=Value.int i t from r);subst e;exact mU P w i t
 | inr x=>obtain⟨t,e⟩:=(show ∃t,u=Value.str x t from r);subst e;exact mV P w x t
theorem ki{P:Program}{w:World}:∀{ks:List Key}{us:List Value},bA (ks.map kV) us->ItemsAre (bC P w) ks us
 | [],_,r=>by rw[List.map_nil]at r;cases r;exact .nil
 | k :: ks,_,r=>by
  rw[List.map_cons]at r;cases r with
  | cons h t=>exact .cons (fk h) (ki t)
abbrev KT(H:Hp):List (List Key × V)->List (List Key × Addr × Value)->Prop:=Paired fun p q=>p.1=q.1/\H q.2.1=some (.tup (p.1.map kV))/\bi p.2 q.2.2
theorem KT.val{H:Hp}{kvs:List (List Key × V)}{xs:List (List Key × Addr × Value)}(r:KT H kvs xs)(k:List Key):eQ (bK kvs k) ((atKey xs k).map (·.2)):=by
 induction r with
 | nil=>exact True.intro
 | @cons p q ps qs h t ih =>
  obtain⟨h1,_,h2⟩:=h;by_cases e:p.1=k
  ·have e':q.1=k:=h1.symm.trans e;have b:atKey (q :: qs) k=some q.2:=by simp[atKey,List.find?_cons,e']
   rw[cw e,b];exact h2
  ·have e':¬q.1=k:=fun z=>e (h1.trans z);have b:atKey (q :: qs) k=atKey qs k:=by simp[atKey,List.find?_cons,e']
   rw[cc e,b];exact ih
theorem KT.repl{H:Hp}{kvs:List (List Key × V)}{xs:List (List Key × Addr × Value)}(r:KT H kvs xs)(k:List Key){y:V}{u:Value}(ry:bi y u) :
  KT H (kvs.map fun kv=>if kv.1=k then (kv.1,y) else kv) (xs.map (putAt k u)):=by
 induction r with
 | nil=>exact .nil
 | @cons p q ps qs h t ih =>
  rw[List.map_cons,List.map_cons];refine .cons ?_ ih;obtain⟨h1,h2,h3⟩:=h;unfold putAt;by_cases e:p.1=k
  ·rw[if_pos e,if_pos (h1.symm.trans e)];exact⟨h1,h2,ry⟩
  ·rw[if_neg e,if_neg (fun z=>e (h1.trans z))];exact⟨h1,h2,h3⟩
theorem KT.put{H:Hp}{kvs:List (List Key × V)}{xs:List (List Key × Addr × Value)}(r:KT H kvs xs)(k:List Key){b:Addr}{y:V}{u:Value}(hb:H b=some (.tup (k.map kV)))(ry:bi y u) :
  KT H (ck kvs k y) (storedH xs k b u):=by
 have e:(kvs.any fun kv=>decide (kv.1=k))=(atKey xs k).isSome:=by
  rw[fF,(r.val k).isSome_eq,Option.isSome_map]
 unfold ck storedH;rw[e];by_cases q:(atKey xs k).isSome=true
 ·rw[if_pos q,if_pos q];exact r.repl k ry
 ·rw[if_neg q,if_neg q];exact Paired.snoc r ⟨rfl,hb,ry⟩
theorem KT.keeps{H H':Hp}{kvs:List (List Key × V)}{xs:List (List Key × Addr × Value)}(r:KT H kvs xs)(ht:∀b ys,H b=some (.tup ys)->H' b=some (.tup ys)):KT H' kvs xs :=
 Paired.mapP r fun _ _ z=>⟨z.1,ht _ _ z.2.1,z.2.2⟩
section
variable{P:Program}{w:World}{H:Hp}{h:Heap}{a:Addr}
theorem rd_of{u:HO}(ok:HOk P w H h)(e:Rd H a u):cD P w H h a u:=e.ok ok
theorem je{kvs:List (Key × V)}(ok:HOk P w H h)(e:Rd H a (.dK kvs)):kvs.length <= sizeLine/\(a == sysModules)=false/\∃vs,KV kvs vs/\h.DictOf (bC P w) a vs :=
 show cD P w H h a (.dK kvs) from rd_of ok e
theorem nB{kvs:List (Key × V)}(ok:HOk P w H h)(e:H a=some (.dK kvs)):kvs.length <= sizeLine/\(a == sysModules)=false/\∃vs,KV kvs vs/\h.DictOf (bC P w) a vs:=je ok (.inl e)
theorem hU{ks:List Key}(ok:HOk P w H h)(e:H a=some (.tup (ks.map kV))):(tupleKind (bC P w)).is h ks a:=by
 obtain⟨_,its,r,o,h1,h2,n,h3⟩:=(show cD P w H h a (.tup (ks.map kV)) from ok a _ e);exact⟨o,its.toArray,n,h1,h2,h3,by simpa using ki r⟩
theorem jf{kvs:List (List Key × V)}(ok:HOk P w H h)(e:Rd H a (.dT kvs)):kvs.length <= sizeLine/\(a == sysModules)=false /\
  ∃xs,KT H kvs xs/\h.DictOfH (tupleKind (bC P w)) a xs:=by
 obtain⟨z,y,xs,r,o,es,ep,h1,h2,h3,h4,h5⟩:=(show cD P w H h a (.dT kvs) from rd_of ok e);refine⟨z,y,xs,r,o,es,ep,h1,h2,h3,h4,fun x hx=>?_,h5⟩;have all:∀{l:List (List Key × V)} {m:List (List Key × Addr × Value)},KT H l m->∀x ∈ m,(tupleKind (bC P w)).is h x.1 x.2.1:=by
  intro l m q;induction q with
  | nil=>intro x hx;exact nomatch hx
  | @cons p q ps qs hq t ih =>
   intro x hx;rcases List.mem_cons.mp hx with e | hx
   ·subst e;exact hU ok (by rw[<- hq.1];exact hq.2.1)
   ·exact ih x hx
 exact all r x hx
theorem dt_of{kvs:List (List Key × V)}(ok:HOk P w H h)(e:H a=some (.dT kvs)):kvs.length <= sizeLine/\(a == sysModules)=false /\
  ∃xs,KT H kvs xs/\h.DictOfH (tupleKind (bC P w)) a xs:=jf ok (.inl e)
end
def cY(H:Hp)(a:Addr)(y:V)(r:Option V):Prop :=
 (∃kvs k,Rd H a (.dK kvs)/\y=kV k/\r=bK kvs k)\/∃kvs k b,Rd H a (.dT kvs)/\y=.ref b/\H b=some (.tup (k.map kV))/\r=bK kvs k
def gq(H:Hp)(a:Addr)(y v:V)(H':Hp):Prop :=
 (∃kvs k,H a=some (.dK kvs)/\y=kV k/\kvs.length < sizeLine/\H'=upd H a (.dK (ck kvs k v))) \/
 ∃kvs k b,H a=some (.dT kvs)/\y=.ref b/\H b=some (.tup (k.map kV))/\kvs.length < sizeLine/\H'=upd H a (.dT (ck kvs k v))
theorem cY.k{H:Hp}{a:Addr}{kvs:List (Key × V)}{k:Key}(e:H a=some (.dK kvs)):cY H a (kV k) (bK kvs k):=.inl ⟨kvs,k,.inl e,rfl,rfl⟩
theorem gq.k{H:Hp}{a:Addr}{kvs:List (Key × V)}{k:Key}{v:V}(e:H a=some (.dK kvs))(hl:kvs.length < sizeLine):gq H a (kV k) v (upd H a (.dK (ck kvs k v))):=.inl ⟨kvs,k,e,rfl,hl,rfl⟩
section
variable{X:Cx}{pins:List (Addr × Obj)}{σ:St}{H:Hp}{s:Shared}{a:Addr}{y v:V}{u r:Value}{o:Option V}{A:Around}{E:Value->Shared->Prop}
theorem Inv.big(I:Inv X pins σ H s):sysModules < s.heap.objs.size:=by
 have h:mainGlobals < s.heap.objs.size:=(I.mod.glob.keeps I.bk).lt;exact Nat.lt_trans (by decide) h
theorem rT{Q:Value->Shared->Prop}(hu:A.units + 1 < cLine)(I:Inv X pins σ H s)(g:cY H a y (some v))(ry:bi y u)(h:∀w' s',Inv X pins σ H s'->bi v w'->Q w' s') :
  wpAny (model X.prog X.w) A (getItem (.ref a) u) Q E s:=by
 rcases g with ⟨kvs,k,e,ey,l⟩ | ⟨kvs,k,b,e,ey,eb,l⟩
 ·subst ey;obtain⟨z,hd,vs,rel,dd⟩:=je I.hok e;obtain⟨w',hw,rw'⟩:=eQ.some_of (v:=v) (o:=valueAt vs k) (by rw[l];exact rel.val k)
  exact wpAny_getItem_of (fk ry) dd.mapOf hw (h w' _ (I.tok _) rw')
 ·subst ey;cases (show u=Value.ref b from ry);obtain⟨z,hd,xs,rel,dd⟩:=jf I.hok e;obtain⟨w',hw,rw'⟩:=eQ.some_of (v:=v) (o:=(atKey xs k).map (·.2)) (by rw[l];exact rel.val k)
  obtain⟨p,hp,hp2⟩:=Option.map_eq_some_iff.mp hw;refine wpAny_getItem_heap (tupleKind_room_in1 hu) (hU I.hok eb) dd hp ?_;rw[hp2];exact h w' _ (I.tok _) rw'
theorem d_notIn{Q:Value->Shared->Prop}(hu:A.units + 1 < cLine)(I:Inv X pins σ H s)(g:cY H a y o)(ry:bi y u)(h:∀s',Inv X pins σ H s'->Q (.bool (!o.isSome)) s') :
  wpAny (model X.prog X.w) A (compareOp .NotIn u (.ref a)) Q E s:=by
 rcases g with ⟨kvs,k,e,ey,l⟩ | ⟨kvs,k,b,e,ey,eb,l⟩
 ·subst ey;obtain⟨z,hd,vs,rel,dd⟩:=je I.hok e;refine wpAny_notIn_of (fk ry) hd dd.mapOf ?_;rw[<- (rel.val k).isSome_eq,<- l];exact h _ (I.tok _)
 ·subst ey;cases (show u=Value.ref b from ry);obtain⟨z,hd,xs,rel,dd⟩:=jf I.hok e;refine wpAny_notIn_heap (tupleKind_room_in1 hu) (hU I.hok eb) hd dd ?_;have q:=(rel.val k).isSome_eq;rw[Option.isSome_map]at q;rw[<- q,<- l];exact h _ (I.tok _)
theorem iN{h':Heap}{t':Nat}{ob:HO}(I:Inv X pins σ H s)(mu:Mut (H a))(hs:Heap.SameBut a s.heap h')(he:∃q,h'.get? a=some q)(new:cD X.prog X.w (upd H a ob) h' a ob) :
  Inv X pins σ (upd H a ob) { s with heap:=h',toks:=t' } :=
 I.write (x:=a) (e:=a) mu (.inl rfl) (fun b q hb z=>(hs.2 b hb).trans z) he new
theorem o6{P:Program}{w:World}{H':Hp}{h':Heap}{kvs:List (Key × V)}{vs:List (Key × Value)}(z:kvs.length <= sizeLine)(hd:(a == sysModules)=false)(rel:KV kvs vs)(dd:h'.DictOf (bC P w) a vs) :
  cD P w H' h' a (.dK kvs):=⟨z,hd,vs,rel,dd⟩
theorem rV{H':Hp}{Q:Unit->Shared->Prop}(hu:A.units + 1 < cLine)(I:Inv X pins σ H s)(g:gq H a y v H')(ry:bi y u)(rv:bi v r)(h:∀s',Inv X pins σ H' s'->Q () s') :
  wpAny (model X.prog X.w) A (setItem (.ref a) u r) Q E s:=by
 rcases g with ⟨kvs,k,e,ey,l,eH⟩ | ⟨kvs,k,b,e,ey,eb,l,eH⟩
 ·subst ey eH;obtain⟨z,hd,vs,rel,dd⟩:=nB I.hok e;have hz:vs.length <= sizeLine:=by rw[<- rel.length];exact z
  have hl:(ck kvs k v).length <= sizeLine:=by have:=dU kvs k v;lia
  refine wpAny_setItem_pairs (hsz:=hz) (fk ry) dd fun h' dd' hs=>h _ ?_;have he:∃q,h'.get? a=some q:=let ⟨q,_,_,hq,_⟩:=dd';⟨q,hq⟩;exact iN I (by rw[e];exact True.intro) hs he (o6 hl hd (rel.put k rv) dd')
 ·subst ey eH;cases (show u=Value.ref b from ry);obtain⟨z,hd,xs,rel,dd⟩:=dt_of I.hok e;have hz:xs.length <= sizeLine:=by rw[<- Paired.length rel];exact z
  have hl:(ck kvs k v).length <= sizeLine:=by have:=dU kvs k v;lia
  refine wpAny_setItem_heap (hsz:=hz) (tupleKind_room_in1 hu) (hU I.hok eb) dd fun h' dd' hs=>h _ ?_;obtain⟨q,es,ep,hq,h2,h3,h4,_,h5⟩:=dd';refine iN I (by rw[e];exact True.intro) hs ⟨q,hq⟩ ⟨hl,hd,_,(rel.put k eb rv).keeps fun c ys ec=>?_,q,es,ep,hq,h2,h3,h4,h5⟩
  rw[aw (aN ec e (fun z=>nomatch z))];exact ec
end
section
variable{X:Cx}{pins:List (Addr × Obj)}{σ:St}{H:Hp}{s:Shared}{a:Addr}{kvs:List (Key × V)}{k:Key}{u:Value}{A:Around}{E:Value->Shared->Prop}
theorem d_pop{v:V}{more:List Value}{Q:Value->Shared->Prop}(I:Inv X pins σ H s)(e:H a=some (.dK kvs))(ry:bi (kV k) u)(l:bK kvs k=some v)(hm:more=[]\/∃x,more=[x])
  (h:∀w' s',Inv X pins σ (upd H a (.dK (dR kvs k))) s'->bi v w'->Q w' s'):wpAny (model X.prog X.w) A (call (.builtin "dict.pop") (.ref a :: u :: more)) Q E s:=by
 obtain⟨z,hd,vs,rel,dd⟩:=nB I.hok e;obtain⟨w',hw,rw'⟩:=eQ.some_of (v:=v) (o:=valueAt vs k) (by rw[<- l];exact rel.val k)
 have hp:(keyPart u).isSome=true:=by
  cases k with
  | inl i=>obtain⟨t,q⟩:=(show ∃t,u=Value.int i t from ry);subst q;rfl
  | inr x=>obtain⟨t,q⟩:=(show ∃t,u=Value.str x t from ry);subst q;rfl
 have ha:argsOk "dict.pop" ⟨.ref a :: u :: more,[]⟩:=by
  rcases hm with q | ⟨x,q⟩
  ·subst q;exact PySem.F.args_dict_pop_2 _ _
  ·subst q;exact PySem.F.args_dict_pop_3 _ _ _
 refine call_meetsIn PySem.F.slot_dict_pop dd.typeIs PySem.F.entry_dict_pop ha (meets_dict_pop_there (bC X.prog X.w) a (fk ry) more hm hp)
  ⟨vs,w',dd,by rw[<- rel.length];exact z,hw,fun h' dd' hs=>h w' _ ?_ rw'⟩
 have he:∃q,h'.get? a=some q:=let ⟨q,_,_,hq,_⟩:=dd';⟨q,hq⟩;exact iN I (by rw[e];exact True.intro) hs he (o6 (Nat.le_trans (uo kvs k) z) hd (rel.drop k) dd')
theorem d_popD{r:Value}{Q:Value->Shared->Prop}(I:Inv X pins σ H s)(e:H a=some (.dK kvs))(ry:bi (kV k) u)(l:bK kvs k=none)(h:∀s',Inv X pins σ H s'->Q r s') :
  wpAny (model X.prog X.w) A (call (.builtin "dict.pop") [.ref a,u,r]) Q E s:=by
 obtain⟨z,hd,vs,rel,dd⟩:=nB I.hok e;have hn:valueAt vs k=none:=eQ.none_of (by rw[<- l];exact rel.val k)
 have hp:(keyPart u).isSome=true:=by
  cases k with
  | inl i=>obtain⟨t,q⟩:=(show ∃t,u=Value.int i t from ry);subst q;rfl
  | inr x=>obtain⟨t,q⟩:=(show ∃t,u=Value.str x t from ry);subst q;rfl
 exact call_meetsIn PySem.F.slot_dict_pop dd.typeIs PySem.F.entry_dict_pop (PySem.F.args_dict_pop_3 _ _ _) (meets_dict_pop_default (bC X.prog X.w) a (fk ry) hd hp r) ⟨vs,dd,hn,h _ (I.tok _)⟩
end
def NoSl(i:Expr):Prop:=∀ov iv,subscripted i false ov iv=operate [ov,iv] (getItem ov iv)
theorem qG{prog:Program}{w:World}{A:Around}{E:Value->Shared->Prop}{s:Shared}{env:Env}{value slice:Expr}{pos:Pos}{T id:String}{Q:Value->Shared->Prop}
  (hl:typeLookup (.type T) "__getitem__"=pure (some (.builtin id))) (hs:NoSl slice)
  (h:wpAny (model prog w) A (eval value env) (fun o s₁=>wpAny (model prog w) A (eval slice env) (fun i s₂=>s₂.TypeIs o T/\wpAny (model prog w) A (getItem o i) Q E s₂) E s₁) E s) :
  wpAny (model prog w) A (eval (.Subscript value slice pos) env) Q E s:=by
 refine Subscript_ (wpAny_mono h (fun o s₁ h₁=>wpAny_mono h₁ (fun i s₂ h₂=>?_) fun _ _ x=>x) fun _ _ x=>x);obtain⟨hT,h₂⟩:=h₂;unfold subscriptTail;refine wpAny_bind ?_;rw[getitemInPython_of_ne hT.not_modules];refine wpAny_bind (wpAny_specialOf hT hl ?_);have fin:wpAny (model prog w) A (subscripted slice false o i) (fun r s₃=>wpAny (model prog w) A (letTemporaryGo value o r >>= fun _=>pure r) Q E s₃) E s₂:=by
  rw[hs o i];exact wpAny_operating (wpAny_mono h₂ (fun r s₃ h₃=>wpAny_bind (wpAny_letTemporaryGo (wpAny_pure h₃))) fun _ _ x=>x)
 first
  | exact wpAny_pure (wpAny_bind fin)
  | exact wpAny_bind (wpAny_pure (wpAny_bind fin))
  | exact wpAny_bind fin
theorem nC {X:Cx} {pins:List (Addr × Obj)} {σ:St} {H:Hp} {s:Shared} {a:Addr} {y:V} {o:Option V} (I:Inv X pins σ H s) (g:cY H a y o):s.TypeIs (.ref a) "dict":=by
 rcases g with ⟨kvs,k,e,_,_⟩ | ⟨kvs,k,b,e,_,_,_⟩
 ·obtain⟨_,_,vs,_,dd⟩:=je I.hok e;exact dd.typeIs
 ·obtain⟨_,_,xs,_,dd⟩:=jf I.hok e;exact dd.typeIs
def tDGet(td ty:TE):TE:=fun σ H Q=>td σ H fun x H1=>ty σ H1 fun y H2=>∃a v,x=.ref a/\cY H2 a y (some v)/\Q v H2
def tDNotIn(ty td:TE):TE:=fun σ H Q=>ty σ H fun y H1=>td σ H1 fun x H2=>∃a o,x=.ref a/\cY H2 a y o/\Q (.bl (!o.isSome)) H2
def sDPut(td ty tv:TE):TS:=fun D σ H=>tv σ H fun v H1=>td σ H1 fun x H2=>ty σ H2 fun y H3=>∃a H4,x=.ref a/\gq H3 a y v H4/\D.nx σ H4
section
variable{X:Cx}{o i e value:Expr}{pos pos' tpos:Pos}{td ty tv:TE}
theorem dM(hu:X.A.units + 1 < cLine)(ho:PE X o td)(hi:PE X i ty)(hs:NoSl i):PE X (.Subscript o i pos) (tDGet td ty):=by
 intro pins s σ H Q I h;refine qG PySem.F.slot_dict_getitem.lookup hs (thn (ho pins s σ H _ I h) fun u s1 ⟨x,H1,I1,rx,q1⟩=>thn (hi pins s1 σ H1 _ I1 q1) fun iv s2 ⟨y,H2,I2,ry,a,v,ex,g,q2⟩=>?_);subst ex;obtain rfl:u=Value.ref a:=rx;exact⟨nC I2 g,rT hu I2 g ry fun w' s3 I3 rw'=>⟨v,H2,I3,rw',q2⟩⟩
theorem rW(hu:X.A.units + 1 < cLine)(hi:PE X i ty)(ho:PE X o td):PC X .NotIn i o (tDNotIn ty td):=by
 intro pins s σ H Q I h;refine thn (hi pins s σ H _ I h) fun iv s1 ⟨y,H1,I1,ry,q1⟩=>thn (ho pins s1 σ H1 _ I1 q1) fun u s2 ⟨x,H2,I2,rx,a,ov,ex,g,q2⟩=>?_;subst ex;obtain rfl:u=Value.ref a:=rx;exact d_notIn hu I2 g ry fun s3 I3=>⟨.bl (!ov.isSome),H2,I3,rfl,q2⟩
theorem eJ(hu:X.A.units + 1 < cLine)(ho:PE X o td)(hi:PE X i ty)(hv:PE X value tv)(hs:swapsWith value (some (.Subscript o i pos')) pos.line X.env=pure false) :
  PS X (.Assign [.Subscript o i pos'] value pos) (sDPut td ty tv):=by
 intro pins s σ H D I h;refine wpAny_Assign_Subscript (thn (hv pins s σ H _ I h) fun r s1 ⟨v,H1,I1,rv,q1⟩=>thn (ho pins s1 σ H1 _ I1 q1) fun u s2 ⟨x,H2,I2,rx,q2⟩=>thn (hi pins s2 σ H2 _ I2 q2) fun iv s3 ⟨y,H3,I3,ry,a,H4,ex,g,q3⟩=>?_) hs;subst ex;obtain rfl:u=Value.ref a:=rx;exact rV hu I3 g ry rv fun s4 I4=>⟨σ,H4,I4,q3⟩
end
theorem nD {P:Program} {w:World} {H:Hp} (h:Heap) (hb:sysModules < h.objs.size):cD P w H (h.push { cls:=.type "dict",data:=.dict #[] }) h.objs.size (.dK []) :=
 ⟨Nat.zero_le _,beq_eq_false_iff_ne.mpr (Ne.symm (Nat.ne_of_lt hb)),[],.nil,Heap.DictOf.new h⟩
def tDNewK:TE:=fun _ H Q=>∀p,H p=none->Q (.ref p) (upd H p (.dK []))
section
variable{X:Cx}{pos:Pos}
theorem jg:PE X (.Dict [] [] pos) tDNewK:=fun pins s σ H Q I h =>
 wpAny_Dict_empty ⟨.ref s.heap.objs.size,_,I.laid (a:=s.heap.objs.size) (o:=.dK []) (t':=s.toks) (fun _ _ q=>get?_push_of_some _ q) (Nat.le_refl _) (nD s.heap I.big),rfl,h _ (I.hok.fresh (Nat.le_refl _))⟩
end
structure M1(X:Cx)(o:Expr)(m:Str)(apos:Pos)(e:Expr)(cpos:Pos):Prop where
 base:attributeBase o m X.env (eval o X.env)=eval o X.env
 few:((backTo cpos (starEach [e] X.env)).all (fun x=>!x.1) && (backToKw cpos (keywordEach [] X.env)).all (fun x=>x.1.isSome)
  && decide (([e]:List Expr).length + ([]:List Keyword).length + (if ([]:List Keyword).isEmpty then 0 else 1) < 30))=true
 line:(apos.endLine == cpos.line)=true
 trees:backTo cpos (starEach [e] X.env)=[(false,eval e X.env)]
structure M2(X:Cx)(o:Expr)(m:Str)(apos:Pos)(e f:Expr)(cpos:Pos):Prop where
 base:attributeBase o m X.env (eval o X.env)=eval o X.env
 few:((backTo cpos (starEach [e,f] X.env)).all (fun x=>!x.1) && (backToKw cpos (keywordEach [] X.env)).all (fun x=>x.1.isSome)
  && decide (([e,f]:List Expr).length + ([]:List Keyword).length + (if ([]:List Keyword).isEmpty then 0 else 1) < 30))=true
 line:(apos.endLine == cpos.line)=true
 trees:backTo cpos (starEach [e,f] X.env)=[(false,eval e X.env),(false,eval f X.env)]
def IsD(H:Hp)(a:Addr):Prop:=(∃kvs,Rd H a (.dK kvs))\/∃kvs,Rd H a (.dT kvs)
theorem o7{X:Cx}{pins:List (Addr × Obj)}{σ:St}{H:Hp}{s:Shared}{a:Addr}(I:Inv X pins σ H s)(d:IsD H a) :
  s.TypeIs (.ref a) "dict" /\(∀b,Value.ref a=.ref b->∃ob,s.heap.get? b=some ob/\ob.dict=none)/\(a == sysModules)=false:=by
 rcases d with ⟨kvs,e⟩ | ⟨kvs,e⟩
 ·obtain⟨_,hd,vs,_,dd⟩:=je I.hok e;refine⟨dd.typeIs,fun b q=>?_,hd⟩;cases q;obtain⟨ob,_,_,h1,h2,_⟩:=dd;exact⟨ob,h1,h2.2.1⟩
 ·obtain⟨_,hd,xs,_,dd⟩:=jf I.hok e;refine⟨dd.typeIs,fun b q=>?_,hd⟩;cases q;obtain⟨ob,_,_,h1,h2,_⟩:=dd;exact⟨ob,h1,h2.2.1⟩
section
variable{X:Cx}{pins:List (Addr × Obj)}{σ:St}{H:Hp}{s:Shared}{a:Addr}{y d:V}{u r:Value}{o:Option V}{A:Around}{E:Value->Shared->Prop}
theorem d_get1{Q:Value->Shared->Prop}(hu:A.units + 1 < cLine)(I:Inv X pins σ H s)(g:cY H a y o)(ry:bi y u)(h:∀w' s',Inv X pins σ H s'->bi (o.getD .non) w'->Q w' s') :
  wpAny (model X.prog X.w) A (call (.builtin "dict.get") [.ref a,u]) Q E s:=by
 rcases g with ⟨kvs,k,e,ey,l⟩ | ⟨kvs,k,b,e,ey,eb,l⟩
 ·subst ey;obtain⟨z,hd,vs,rel,dd⟩:=je I.hok e;refine call_meetsIn PySem.F.slot_dict_get dd.typeIs PySem.F.entry_dict_get (PySem.F.args_dict_get_2 _ _) (meets_dict_get (bC X.prog X.w) a (fk ry) hd) ⟨_,dd.mapOf,h _ _ (I.tok _) ?_⟩;rw[l];exact(rel.val k).getD rfl
 ·subst ey;cases (show u=Value.ref b from ry);obtain⟨z,hd,xs,rel,dd⟩:=jf I.hok e;refine call_meetsIn PySem.F.slot_dict_get dd.typeIs PySem.F.entry_dict_get (PySem.F.args_dict_get_2 _ _) (meetsH_dict_get (tupleKind (bC X.prog X.w)) a b hd) ⟨tupleKind_room_in1 hu,k,xs,hU I.hok eb,dd,h _ _ (I.tok _) ?_⟩;rw[l];exact(rel.val k).getD rfl
theorem d_get2{Q:Value->Shared->Prop}(hu:A.units + 1 < cLine)(I:Inv X pins σ H s)(g:cY H a y o)(ry:bi y u)(rd:bi d r)(h:∀w' s',Inv X pins σ H s'->bi (o.getD d) w'->Q w' s') :
  wpAny (model X.prog X.w) A (call (.builtin "dict.get") [.ref a,u,r]) Q E s:=by
 rcases g with ⟨kvs,k,e,ey,l⟩ | ⟨kvs,k,b,e,ey,eb,l⟩
 ·subst ey;obtain⟨z,hd,vs,rel,dd⟩:=je I.hok e;refine call_meetsIn PySem.F.slot_dict_get dd.typeIs PySem.F.entry_dict_get (PySem.F.args_dict_get_3 _ _ _) (meets_dict_get_default (bC X.prog X.w) a (fk ry) hd r) ⟨_,dd.mapOf,h _ _ (I.tok _) ?_⟩;rw[l];exact(rel.val k).getD rd
 ·subst ey;cases (show u=Value.ref b from ry);obtain⟨z,hd,xs,rel,dd⟩:=jf I.hok e;refine call_meetsIn PySem.F.slot_dict_get dd.typeIs PySem.F.entry_dict_get (PySem.F.args_dict_get_3 _ _ _) (meetsH_dict_get_default (tupleKind (bC X.prog X.w)) a b hd r) ⟨tupleKind_room_in1 hu,k,xs,hU I.hok eb,dd,h _ _ (I.tok _) ?_⟩;rw[l];exact(rel.val k).getD rd
end
def tDGet1(td ty:TE):TE:=fun σ H Q=>td σ H fun x H1=>∃a,x=.ref a/\IsD H1 a/\ty σ H1 fun y H2=>∃o,cY H2 a y o/\Q (o.getD .non) H2
def tDGet2(td ty tx:TE):TE:=fun σ H Q=>td σ H fun x H1=>∃a,x=.ref a/\IsD H1 a/\ty σ H1 fun y H2=>tx σ H2 fun z H3=>∃o,cY H3 a y o/\Q (o.getD z) H3
def tDPop2(td ty tx:TE):TE:=fun σ H Q=>td σ H fun x H1=>∃a,x=.ref a/\IsD H1 a/\ty σ H1 fun y H2=>tx σ H2 fun z H3=>∃kvs k,H3 a=some (.dK kvs)/\y=kV k /\
 (∀v,bK kvs k=some v->Q v (upd H3 a (.dK (dR kvs k))))/\(bK kvs k=none->Q z H3)
section
variable{X:Cx}{o e f:Expr}{apos cpos:Pos}{td ty tx:TE}
theorem nF (hu:X.A.units + 1 < cLine) (ho:PE X o td) (he:PE X e ty) (m:M1 X o "get" apos e cpos):PE X (.Call (.Attribute o "get" apos) [e] [] cpos) (tDGet1 td ty):=by
 intro pins s σ H Q I h;refine wpAny_Call_method m.base m.few m.line PySem.F.plainAttrs_dict PySem.F.slot_dict_get PySem.F.type_dict_get (thn (ho pins s σ H _ I h) fun u s1 ⟨x,H1,I1,rx,a,ex,d,q1⟩=>?_);subst ex;obtain rfl:u=Value.ref a:=rx;obtain⟨t1,t2,_⟩:=o7 I1 d;refine⟨t1,t2,?_⟩;rw[m.trees];refine Calls.callWith_builtin rfl (Calls.evalArgs_plain (Calls.spliced_cons (thn (he pins s1 σ H1 _ I1 q1) fun iv s2 ⟨y,H2,I2,ry,ov,g,q2⟩=>Calls.spliced_nil ?_)));exact d_get1 hu I2 g ry fun w' s3 I3 rw'=>⟨_,H2,I3,rw',q2⟩
theorem nG (hu:X.A.units + 1 < cLine) (ho:PE X o td) (he:PE X e ty) (hf:PE X f tx) (m:M2 X o "get" apos e f cpos):PE X (.Call (.Attribute o "get" apos) [e,f] [] cpos) (tDGet2 td ty tx):=by
 intro pins s σ H Q I h;refine wpAny_Call_method m.base m.few m.line PySem.F.plainAttrs_dict PySem.F.slot_dict_get PySem.F.type_dict_get (thn (ho pins s σ H _ I h) fun u s1 ⟨x,H1,I1,rx,a,ex,d,q1⟩=>?_);subst ex;obtain rfl:u=Value.ref a:=rx;obtain⟨t1,t2,_⟩:=o7 I1 d;refine⟨t1,t2,?_⟩;rw[m.trees];refine Calls.callWith_builtin rfl (Calls.evalArgs_plain (Calls.spliced_cons (thn (he pins s1 σ H1 _ I1 q1) fun iv s2 ⟨y,H2,I2,ry,q2⟩ =>
  Calls.spliced_cons (thn (hf pins s2 σ H2 _ I2 q2) fun fv s3 ⟨z,H3,I3,rz,ov,g,q3⟩=>Calls.spliced_nil ?_))))
 exact d_get2 hu I3 g ry rz fun w' s4 I4 rw'=>⟨_,H3,I4,rw',q3⟩
theorem nI (ho:PE X o td) (he:PE X e ty) (hf:PE X f tx) (m:M2 X o "pop" apos e f cpos):PE X (.Call (.Attribute o "pop" apos) [e,f] [] cpos) (tDPop2 td ty tx):=by
 intro pins s σ H Q I h;refine wpAny_Call_method m.base m.few m.line PySem.F.plainAttrs_dict PySem.F.slot_dict_pop PySem.F.type_dict_pop (thn (ho pins s σ H _ I h) fun u s1 ⟨x,H1,I1,rx,a,ex,d,q1⟩=>?_);subst ex;obtain rfl:u=Value.ref a:=rx;obtain⟨t1,t2,_⟩:=o7 I1 d;refine⟨t1,t2,?_⟩;rw[m.trees];refine Calls.callWith_builtin rfl (Calls.evalArgs_plain (Calls.spliced_cons (thn (he pins s1 σ H1 _ I1 q1) fun iv s2 ⟨y,H2,I2,ry,q2⟩ =>
  Calls.spliced_cons (thn (hf pins s2 σ H2 _ I2 q2) fun fv s3 ⟨z,H3,I3,rz,kvs,k,ea,ey,q3,q4⟩=>Calls.spliced_nil ?_))))
 subst ey;cases l:bK kvs k with
 | some v=>exact d_pop I3 ea ry l (.inr ⟨fv,rfl⟩) fun w' s4 I4 rw'=>⟨v,_,I4,rw',q3 v l⟩
 | none=>exact d_popD I3 ea ry l fun s4 I4=>⟨z,H3,I4,rz,q4 l⟩
end
section
variable{X:Cx}{pins:List (Addr × Obj)}{σ:St}{H:Hp}{s:Shared}{a:Addr}{kvs:List (Key × V)}{A:Around}{E:Value->Shared->Prop}
end
section
variable{X:Cx}{pins:List (Addr × Obj)}{σ:St}{H:Hp}{s:Shared}{a:Addr}{y:V}{u:Value}{A:Around}{E:Value->Shared->Prop}
end
end L2
namespace HT
open PySem PyProof.Rows
section
open PySem.SeqAt
open PySem.AutoSeq1 (wpAny_loadPart')
open PySem.MeetsSeq PySem.MeetsSeq2 PySem.MeetsSeq3
end
section
variable{prog:Program}{w:World}{A:Around}{E:Value->Shared->Prop}{s:Shared}
theorem cat_tup{t b:Addr}{vs ws:List Value}{Q:Value->Shared->Prop}(ht:IsTup s.heap t vs.toArray)(hb:IsTup s.heap b ws.toArray)(hv:vs ≠ [])
  (h1:ws=[]->Q (.ref t) s) (h2:ws ≠ []->Q (.ref s.heap.objs.size) { s with heap:=s.heap.push { cls:=.type "tuple",data:=.seq (vs ++ ws).toArray } })
  (hsz:vs.length + ws.length <= sizeLine):wpAny (model prog w) A (binaryOp .Add (.ref t) (.ref b)) Q E s:=by
 obtain⟨⟨cls,dd,data,sl⟩,ho,hc,n,hd⟩:=id ht;obtain⟨⟨cls2,dd2,data2,sl2⟩,ho2,hc2,n2,hd2⟩:=id hb;simp only at hc hd hc2 hd2;subst hc hd hc2 hd2;have e:vs.toArray ++ ws.toArray=(vs ++ ws).toArray:=by simp
 by_cases hw:ws=[]
 ·exact concat_meets ⟨_,ho,rfl⟩ ⟨_,ho2,rfl⟩ noFill_tuple_add seq_tuple_add PySem.F.slot_tuple_add PySem.F.entry_tuple_add (PySem.F.args_tuple_add_2 _ _)
   (tuple_addW1 t b vs.toArray ws.toArray n n2 dd dd2 sl sl2 (by simpa using hv) (by simp[hw])) ⟨ho,ho2,h1 hw⟩
 ·refine concat_meets ⟨_,ho,rfl⟩ ⟨_,ho2,rfl⟩ noFill_tuple_add seq_tuple_add PySem.F.slot_tuple_add PySem.F.entry_tuple_add (PySem.F.args_tuple_add_2 _ _)
   (tuple_addW2 t b vs.toArray ws.toArray n n2 dd dd2 sl sl2 (by simpa using hv) (by simpa using hw) (by rw[size_toArray,size_toArray];exact hsz)) ⟨ho,ho2,?_⟩
  rw[e];exact h2 hw
noncomputable def sIx(n d:Nat):Option Int->Nat
 | none=>d
 | some v=>if v < 0 then (v + (n:Int)).toNat else min v.toNat n
theorem eR(n d:Nat):sIx n d none=d:=rfl
theorem dN(n d k:Nat):sIx n d (some (k:Int))=min k n:=by
 show (if (k:Int) < 0 then ((k:Int) + (n:Int)).toNat else min (k:Int).toNat n)=min k n
 rw[if_neg (by lia),Int.toNat_natCast]
theorem sIx_le(n d:Nat)(hd:d <= n)(o:Option Int):sIx n d o <= n:=by
 cases o with
 | none=>exact hd
 | some v =>
  show (if v < 0 then (v + (n:Int)).toNat else min v.toNat n) <= n
  by_cases hv:v < 0
  ·rw[if_pos hv];lia
  ·rw[if_neg hv];exact Nat.min_le_right _ _
theorem qH(v:Int)(n d:Nat):(if v < 0 then max (v + (n:Int)) 0 else min v (n:Int))=((sIx n d (some v):Nat):Int):=by
 show (if v < 0 then max (v + (n:Int)) 0 else min v (n:Int))=(((if v < 0 then (v + (n:Int)).toNat else min v.toNat n):Nat):Int)
 by_cases hv:v < 0
 ·simp only[if_pos hv];lia
 ·simp only[if_neg hv];lia
theorem o8(lo hi:Option Int)(n:Nat):Builtin.Slice.sliceAdjust lo hi 1 (n:Int)=(((sIx n 0 lo:Nat):Int),((sIx n n hi:Nat):Int)):=by
 have h1:¬((1:Int) < 0):=by lia
 unfold Builtin.Slice.sliceAdjust;simp only[h1,if_false];refine Prod.ext ?_ ?_
 ·cases lo with
  | none=>rfl
  | some v=>exact qH v n 0
 ·cases hi with
  | none=>rfl
  | some v=>exact qH v n n
theorem o9(i j:Nat):Builtin.Slice.slicePlaces (i:Int) (j:Int) 1=j - i:=by
 unfold Builtin.Slice.slicePlaces;have h1:(1:Int) > 0:=by lia
 simp only[h1,if_true,Int.ediv_one];split <;> lia
theorem jh{v:Value}{o:Option Int}{Q:Option Int->Shared->Prop}(p:IsPart v o)(h:Q o s):wpAny (model prog w) A (Builtin.Slice.slicePartIndex v) Q E s:=by
 cases p with
 | none=>exact slicePart_none h
 | int i t=>exact slicePart_int h
theorem eT{sl:Addr}{vl vu:Value}{lo hi:Option Int}{n:Nat}{Q:Int × Int × Nat->Shared->Prop}(hs:s.heap.IsSliceOf sl vl vu .none)(pl:IsPart vl lo)(pu:IsPart vu hi)
  (h:Q (((sIx n 0 lo:Nat):Int),1,sIx n n hi - sIx n 0 lo) s):wpAny (model prog w) A (Builtin.Slice.sliceApplied (.ref sl) (pure (n:Int))) Q E s:=by
 obtain⟨os,hos,hcs,hds⟩:=id hs;unfold Builtin.Slice.sliceApplied Builtin.Slice.sliceFields;refine wpAny_bind (wpAny_bind (wpAny_field hos hds (x:=vl) rfl (wpAny_bind (wpAny_field hos hds (x:=vu) rfl (wpAny_bind (wpAny_field hos hds (x:=.none) rfl (wpAny_pure ?_)))))));refine wpAny_bind (slicePart_none ?_);show wpAny _ _ (if ((1:Int) == 0)=true then _ else _) _ _ s
 rw[if_neg (by decide)]
 refine wpAny_bind (jh pl (wpAny_bind (jh pu (wpAny_bind (wpAny_pure ?_)))));show wpAny _ _ (match Builtin.Slice.sliceAdjust lo hi 1 (n:Int) with | (lo,hi)=>pure (lo,(1:Int),Builtin.Slice.slicePlaces lo hi 1)) _ _ s
 rw[o8 lo hi n];show wpAny _ _ (pure (((sIx n 0 lo:Nat):Int),(1:Int),Builtin.Slice.slicePlaces ((sIx n 0 lo:Nat):Int) ((sIx n n hi:Nat):Int) 1)) _ _ s;rw[o9];exact wpAny_pure h
theorem uq(xs:Array Value)(i k:Nat):((List.range k).filterMap fun(m:Nat)=>xs[((i:Int) + (m:Int) * 1).toNat]?).toArray=((xs.toList.drop i).take k).toArray:=by
 have e:(fun(m:Nat)=>xs[((i:Int) + (m:Int) * 1).toNat]?)=fun m=>xs[i + m]?:=by
  funext m
  have:((i:Int) + (m:Int) * 1).toNat=i + m:=by lia
  rw[this]
 rw[e];have:=pick_run xs i k;rw[List.filterMap_map]at this;have e2:((fun x=>xs[x]?) ∘ fun x=>i + x)=fun m=>xs[i + m]?:=rfl;rw[e2]at this;rw[this]
theorem gJ{t sl:Addr}{items:Array Value}{vl vu:Value}{lo hi:Option Int}{Q:Value->Shared->Prop}(ht:IsTup s.heap t items)(hs:s.heap.IsSliceOf sl vl vu .none)(pl:IsPart vl lo)(pu:IsPart vu hi)
  (hw:¬(sIx items.size 0 lo=0/\sIx items.size items.size hi=items.size))
  (h:Q (.ref s.heap.objs.size) { s with heap:=s.heap.push { cls:=.type "tuple",data:=.seq ((items.toList.drop (sIx items.size 0 lo)).take (sIx items.size items.size hi - sIx items.size 0 lo)).toArray } })
  (hsz:items.size <= sizeLine):wpAny (model prog w) A (getItem (.ref t) (.ref sl)) Q E s:=by
 have htake:sizeOk (.seq ((items.toList.drop (sIx items.size 0 lo)).take (sIx items.size items.size hi - sIx items.size 0 lo)).toArray):=by
  show ((items.toList.drop (sIx items.size 0 lo)).take (sIx items.size items.size hi - sIx items.size 0 lo)).toArray.size <= sizeLine;rw[size_toArray,length_take,length_drop,Array.length_toList];lia
 have hj:sIx items.size items.size hi <= items.size:=sIx_le _ _ (Nat.le_refl _) hi;obtain⟨os,hos,hcs,hds⟩:=id hs;have hTs:s.TypeIs (.ref sl) "slice":=⟨os,hos,hcs⟩;unfold getItem
 try with_reducible refine wpAny_holding ?_
 first | refine wpAny_bind (wpAny_pure ?_) | skip
 refine wpAny_bind (wpAny_sequenceKey ht.typeIs (by decide) ?_)
 refine wpAny_bind (wpAny_callSpecial?_slot (name:=Str.ofString "__getitem__") ht.typeIs PyProof.Rows.slot_tuple_getitem
  (wpAny_call_entry PyProof.Rows.slot_tuple_getitem ht.typeIs entry_tuple_getitem ?_ (args_tuple_getitem _ _)))
 show wpAny _ _ (Builtin.Tuple.tupleItemsOf (.ref t) >>= _) _ _ s;refine wpAny_bind (tupleItemsOf_ ht ?_);refine wpAny_bind (wpAny_typeOf hTs ?_);rw[if_pos (by decide)]
 refine wpAny_bind (eT hs pl pu ?_);have hno:¬((((sIx items.size 0 lo:Nat):Int) == 0 && (1:Int) == 1 && (sIx items.size items.size hi - sIx items.size 0 lo) == items.size)=true):=by
  intro q;rw[Bool.and_eq_true,Bool.and_eq_true]at q;have q1:((sIx items.size 0 lo:Nat):Int)=0:=eq_of_beq q.1.1;have q2:sIx items.size items.size hi - sIx items.size 0 lo=items.size:=eq_of_beq q.2;exact hw ⟨by lia,by lia⟩
 show wpAny _ _ (if (((sIx items.size 0 lo:Nat):Int) == 0 && (1:Int) == 1 && (sIx items.size items.size hi - sIx items.size 0 lo) == items.size)=true then _ else _) _ _ s
 rw[if_neg hno,uq]
 first
  | exact wpAny_bind (m:=Builtin.Tuple.tupleExact _) (wpAny_newObj_type (wpAny_pure ⟨_,rfl,wpAny_pure h⟩) htake)
  | exact wpAny_bind (m:=Builtin.Tuple.tupleExact _) (wpAny_newObj_type (wpAny_bind (wpAny_pure (wpAny_pure ⟨_,rfl,wpAny_pure h⟩))) htake)
  | exact wpAny_bind (wpAny_bind (m:=Builtin.Tuple.tupleExact _) (wpAny_newObj_type (wpAny_pure (wpAny_pure ⟨_,rfl,wpAny_pure h⟩)) htake))
  | exact wpAny_bind (wpAny_bind (m:=Builtin.Tuple.tupleExact _) (wpAny_newObj_type (wpAny_pure ⟨_,rfl,wpAny_pure h⟩) htake))
end
end HT
namespace L2
open PySem PySem.Spec PyProof.Rows
abbrev TO:=St->Hp->(Option Int->Hp->Prop)->Prop
def PO(X:Cx)(e:Option Expr)(t:TO):Prop :=
 ∀(pins:List (Addr × Obj)) (s:Shared) (σ:St) (H:Hp) (Q:Option Int->Hp->Prop),Inv X pins σ H s->t σ H Q ->
  wpAny (model X.prog X.w) X.A (evalPart e X.env) (fun u s'=>∃o H',Inv X pins σ H' s'/\IsPart u o/\Q o H') X.xe s
def tNoPart:TO:=fun _ H Q=>Q none H
noncomputable def tPart(t:TE):TO:=fun σ H Q=>t σ H fun x H1=>∃i,x=.int i/\Q (some i) H1
section
variable{X:Cx}{e:Expr}{te:TE}{lo hi:Option Expr}{tl th:TO}{pos p2:Pos}
theorem cv:PO X none tNoPart:=by
 intro pins s σ H Q I h;rw[evalPart_none];exact wpAny_pure ⟨none,H,I,.none,h⟩
theorem bQ(h:PE X e te):PO X (some e) (tPart te):=by
 intro pins s σ H Q I hw;rw[evalPart_some];refine thn (h pins s σ H _ I hw) fun u s1 ⟨x,H1,I1,r1,q1⟩=>?_;obtain⟨i,rfl,q⟩:=q1;obtain⟨t,rfl⟩:=r1;exact⟨some i,H1,I1,.int i t,q⟩
def SlR(X:Cx)(r:V->Option Int->Option Int->Hp->VK->Prop):Prop :=
 ∀(pins:List (Addr × Obj)) (s:Shared) (σ:St) (H:Hp) (x:V) (v vl vu:Value) (lo hi:Option Int) (sl:Addr) (Q:VK),Inv X pins σ H s->bi x v->s.heap.IsSliceOf sl vl vu .none->IsPart vl lo->IsPart vu hi->r x lo hi H Q ->
  ∃T id,typeLookup (.type T) "__getitem__"=pure (some (.builtin id))/\s.TypeIs v T/\wpAny (model X.prog X.w) X.A (getItem v (.ref sl)) (EP X pins σ Q) X.xe s
def tSl(r:V->Option Int->Option Int->Hp->VK->Prop)(te:TE)(tl th:TO):TE:=fun σ H Q=>te σ H fun x H1=>tl σ H1 fun l H2=>th σ H2 fun u H3=>r x l u H3 Q
theorem bM{r:V->Option Int->Option Int->Hp->VK->Prop}(hr:SlR X r)(he:PE X e te)(hl:PO X lo tl)(hu:PO X hi th):PE X (.Subscript e (.Slice lo hi none p2) pos) (tSl r te tl th):=by
 intro pins s σ H Q I h;refine Subscript_ (thn (he pins s σ H _ I h) fun v s1 ⟨x,H1,I1,r1,q1⟩=>?_);refine wpAny_Slice (thn (hl pins s1 σ H1 _ I1 q1) fun vl s2 ⟨l,H2,I2,pl,q2⟩=>thn (hu pins s2 σ H2 _ I2 q2) fun vu s3 ⟨u,H3,I3,pu,q3⟩=>?_);rw[evalPart_none];refine wpAny_pure ?_;have I4:Inv X pins σ H3 { s3 with heap:=s3.heap.push { cls:=.type "slice",data:=.fields #[vl,vu,.none] } }:=I3.kept (t':=s3.toks) fun b ob q=>get?_push_of_some _ q;obtain⟨T,id,hT,ht,hg⟩:=hr pins { s3 with heap:=s3.heap.push { cls:=.type "slice",data:=.fields #[vl,vu,.none] } } σ H3 x v vl vu l u s3.heap.objs.size Q I4 r1 (Heap.IsSliceOf.new ..) pl pu q3;show wpAny (model X.prog X.w) X.A (subscriptTail e (.Slice lo hi none p2) v (.ref s3.heap.objs.size)) (EP X pins σ Q) X.xe { s3 with heap:=s3.heap.push { cls:=.type "slice",data:=.fields #[vl,vu,.none] } };exact tail_any (ops:=[.ref s3.heap.objs.size,v]) ht hT hg (by with_unfolding_all rfl)
noncomputable def cx(xs:List V)(lo hi:Option Int):List V:=(xs.drop (HT.sIx xs.length 0 lo)).take (HT.sIx xs.length xs.length hi - HT.sIx xs.length 0 lo)
theorem iA(xs:List V)(lo hi:Option Int):(cx xs lo hi).length <= xs.length:=by
 unfold cx;rw[length_take,length_drop];lia
def rSlT(K:Frag):V->Option Int->Option Int->Hp->VK->Prop:=fun x lo hi H Q=>∃a xs,x=.ref a/\SqT K H a xs /\
 ¬(HT.sIx xs.length 0 lo=0/\HT.sIx xs.length xs.length hi=xs.length)/\∀p,H p=none->Q (.ref p) (upd H p (.tup (cx xs lo hi)))
theorem sl_tup:SlR X (rSlT X.K):=by
 intro pins s σ H x v vl vu lo hi sl Q I rx hs pl pu h;obtain⟨a,xs,rfl,hx,hw,q⟩:=h;cases rx;obtain⟨its,r,ht,hz⟩:=I.tuple hx;have hlen:its.toArray.size=xs.length:=by rw[size_toArray];exact r.length.symm
 refine⟨"tuple",_,PyProof.Rows.slot_tuple_getitem.lookup,ht.typeIs,?_⟩;refine HT.gJ ht hs pl pu (by rw[hlen];exact hw) ?_ (by rw[hlen];exact hz)
 rw[hlen];refine⟨.ref s.heap.objs.size,_,I.laid (t':=s.toks) (o:=.tup (cx xs lo hi)) (fun b ob q=>get?_push_of_some _ q) (Nat.le_refl _) ?_,rfl,q _ (I.hok.fresh (Nat.le_refl _))⟩
 exact⟨Nat.le_trans (iA xs lo hi) hz,_,(r.drop (HT.sIx xs.length 0 lo)).take (HT.sIx xs.length xs.length hi - HT.sIx xs.length 0 lo),IsTup.new _ _⟩
noncomputable def rCatT(K:Frag):R2:=fun x y H Q=>∃a b xs ys,x=.ref a/\y=.ref b/\SqT K H a xs/\SqT K H b ys/\xs ≠ []/\xs.length + ys.length <= sizeLine /\
 (ys=[]->Q (.ref a) H)/\(ys ≠ []->∀p,H p=none->Q (.ref p) (upd H p (.tup (xs ++ ys))))
theorem bA.nil_iff{xs:List V}{us:List Value}(r:bA xs us):us=[] ↔ xs=[]:=by
 cases r with
 | nil=>simp
 | cons _ _=>simp
theorem qI:OpR X (binaryOp .Add) (rCatT X.K):=by
 intro pins s σ H x y v u Q I rx ry h;obtain⟨a,b,xs,ys,rfl,rfl,ha,hb,hx,hz,q1,q2⟩:=h;cases rx;cases ry;obtain⟨its,r1,p1,_⟩:=I.tuple ha;obtain⟨its2,r2,p2,_⟩:=I.tuple hb;refine HT.cat_tup p1 p2 (fun z=>hx (r1.nil_iff.mp z)) (fun z=>⟨.ref a,H,I,rfl,q1 (r2.nil_iff.mp z)⟩) (fun z=>?_) (by rw[<- r1.length,<- r2.length];exact hz)
 refine⟨.ref s.heap.objs.size,_,I.laid (t':=s.toks) (o:=.tup (xs ++ ys)) (fun b ob q=>get?_push_of_some _ q) (Nat.le_refl _) ?_,rfl,q2 (fun w=>z (r2.nil_iff.mpr w)) _ (I.hok.fresh (Nat.le_refl _))⟩
 exact⟨by rw[length_append];exact hz,_,r1.append r2,IsTup.new _ _⟩
end
noncomputable def ixN(n:Nat)(i:Int):Option Nat:=if 0 <= i then (if i < n then some i.toNat else none) else if -(n:Int) <= i then some (i + n).toNat else none
noncomputable def atI{α:Type}(xs:List α)(i:Int):Option α:=(ixN xs.length i).bind fun j=>xs[j]?
theorem ixN_seq{n:Nat}{i:Int}{j:Nat}(h:ixN n i=some j):seqIndex? i n=some j/\j < n/\-(n:Int) <= i/\i < n:=by
 unfold ixN at h;by_cases h0:0 <= i
 ·rw[if_pos h0]at h;by_cases h1:i < n
  ·rw[if_pos h1]at h;have e:i.toNat=j:=Option.some.inj h;exact⟨by rw[seqIndex_of h0 h1,e],by lia,by lia,h1⟩
  ·rw[if_neg h1]at h;cases h
 ·rw[if_neg h0]at h;by_cases h1:-(n:Int) <= i
  ·rw[if_pos h1]at h;have e:(i + n).toNat=j:=Option.some.inj h;exact⟨by rw[seqIndex_neg (by lia) h1,e],by lia,h1,by lia⟩
  ·rw[if_neg h1]at h;cases h
theorem qJ{α:Type}{xs:List α}{i:Int}{v:α}(h:atI xs i=some v):∃j,seqIndex? i xs.length=some j/\xs[j]?=some v/\j < xs.length/\-(xs.length:Int) <= i/\i < xs.length:=by
 unfold atI at h;cases e:ixN xs.length i with
 | none=>rw[e]at h;cases h
 | some j =>
  rw[e]at h;obtain⟨h1,h2,h3,h4⟩:=ixN_seq e;exact⟨j,h1,h,h2,h3,h4⟩
theorem bW{α:Type}{xs:List α}{j:Nat}{v:α}(h:xs[j]?=some v):atI xs (j:Int)=some v:=by
 have hj:j < xs.length:=(List.getElem?_eq_some_iff.mp h).1;have e:ixN xs.length (j:Int)=some j:=by
  unfold ixN;rw[if_pos (by lia),if_pos (by lia)];simp
 unfold atI;rw[e];exact h
theorem fG{α:Type}(xs:List α)(v:α):atI (xs ++ [v]) (-1)=some v:=by
 have hl:(xs ++ [v]).length=xs.length + 1:=by simp
 have e:ixN (xs ++ [v]).length (-1)=some xs.length:=by
  unfold ixN;rw[hl,if_neg (by decide),if_pos (by lia)]
  congr 1
  lia
 unfold atI;rw[e];show (xs ++ [v])[xs.length]?=some v;simp
def PlainIx(b:Expr):Prop:=∀o i,subscripted b false o i=operate [o,i] (getItem o i)
def IxR(X:Cx)(r:R2):Prop :=
 ∀(value slice:Expr) (pins:List (Addr × Obj)) (s:Shared) (σ:St) (H:Hp) (x y:V) (v u:Value) (Q:VK),Inv X pins σ H s->bi x v->bi y u->r x y H Q ->
  subscripted slice false v u=operate [v,u] (getItem v u)->wpAny (model X.prog X.w) X.A (subscriptTail value slice v u) (EP X pins σ Q) X.xe s
def MtR(X:Cx)(id:String)(r:V->List V->Hp->VK->Prop):Prop :=
 ∀(pins:List (Addr × Obj)) (s:Shared) (σ:St) (H:Hp) (x:V) (xs:List V) (v:Value) (us:List Value) (Q:VK),Inv X pins σ H s->bi x v->bA xs us->r x xs H Q ->
  wpAny (model X.prog X.w) X.A (call (.builtin id) (v :: us)) (EP X pins σ Q) X.xe s
section
variable{X:Cx}{a b:Expr}{ta tb:TE}{pos:Pos}
theorem ar{r:R2}(hr:IxR X r)(ha:PE X a ta)(hb:PE X b tb)(hs:PlainIx b):PE X (.Subscript a b pos) (tOp r ta tb):=by
 intro pins s σ H Q I h;exact Subscript_ (binT ha hb I h fun v u s2 x y H2 I2 rx ry q=>hr a b pins s2 σ H2 x y v u Q I2 rx ry q (hs _ _))
noncomputable def rIxL(K:Frag):R2:=fun x y H Q=>∃p xs i v,x=.ref p/\y=.int i/\SqL K H p xs/\atI xs i=some v/\Q v H
noncomputable def rIxT(K:Frag):R2:=fun x y H Q=>∃p xs i v,x=.ref p/\y=.int i/\SqT K H p xs/\atI xs i=some v/\Q v H
theorem bc:IxR X (rIxL X.K):=by
 intro value slice pins s σ H x y v u Q I rx ry h hs;obtain⟨p,xs,i,z,rfl,rfl,hq,he,q⟩:=h;cases rx;obtain⟨t,rfl⟩:=ry;obtain⟨its,r,pl,hz⟩:=I.list hq;obtain⟨j,h1,h2,h3,h4,h5⟩:=qJ he;obtain⟨w,ew,rw'⟩:=r.get h2;have hl:=r.length;have hn:=lu;have fin:EP X pins σ Q w s:=⟨z,H,I,rw',q⟩;by_cases h0:0 <= i
 ·have hj:i.toNat=j:=by
   rw[seqIndex_of h0 h5]at h1;exact Option.some.inj h1
  exact item_listR pl.isList h0 (by lia) (by rw[hj];simpa using ew) fin hs
 ·have hj:(i + (its.toArray.size:Int)).toNat=j:=by
   rw[seqIndex_neg (by lia) h4]at h1
   rw[size_toArray,<- hl];exact Option.some.inj h1
  exact subscriptTail_builtinR (x:=w) pl.isList.typeIs slot_list_getitem.lookup
   (wpAny_getItem_list_neg (Q:=fun r s'=>r=w/\EP X pins σ Q r s') pl.isList (by lia) (by rw[size_toArray] <;> lia) (by lia) (by rw[hj];simpa using ew) ⟨rfl,fin⟩) hs
theorem ao:IxR X (rIxT X.K):=by
 intro value slice pins s σ H x y v u Q I rx ry h hs;obtain⟨p,xs,i,z,rfl,rfl,hq,he,q⟩:=h;cases rx;obtain⟨t,rfl⟩:=ry;obtain⟨its,r,pl,hz⟩:=I.tuple hq;obtain⟨j,h1,h2,h3,h4,h5⟩:=qJ he;obtain⟨w,ew,rw'⟩:=r.get h2;have hl:=r.length;have hn:=lu;have fin:EP X pins σ Q w s:=⟨z,H,I,rw',q⟩;exact subscriptTail_builtinR (x:=w) pl.typeIs slot_tuple_getitem.lookup
  (getItem_tuple (j:=j) (Q:=fun r s'=>r=w/\EP X pins σ Q r s') pl (by lia) (by lia) (by rw[size_toArray,<- hl];exact h1) (by simpa using ew) ⟨rfl,fin⟩) hs
theorem lx(lo hi:Option Int)(n:Nat):(sliceBounds lo hi none n).1=((HT.sIx n 0 lo:Nat):Int)/\(sliceBounds lo hi none n).2.1=((HT.sIx n n hi:Nat):Int)/\(sliceBounds lo hi none n).2.2=1:=by
 refine⟨?_,?_,rfl⟩
 ·cases lo with
  | none=>simp[sliceBounds,HT.sIx]
  | some i =>
   simp only[sliceBounds,HT.sIx,Option.getD_none,show (1:Int) > 0 by decide,if_true]
   by_cases h:i < 0
   ·simp only[h,if_true] <;> lia
   ·simp only[h,if_false] <;> lia
 ·cases hi with
  | none=>simp[sliceBounds,HT.sIx]
  | some i =>
   simp only[sliceBounds,HT.sIx,Option.getD_none,show (1:Int) > 0 by decide,if_true]
   by_cases h:i < 0
   ·simp only[h,if_true] <;> lia
   ·simp only[h,if_false] <;> lia
theorem jV(its:List Value)(lo hi:Option Int):slicePick its.toArray lo hi none=((its.drop (HT.sIx its.length 0 lo)).take (HT.sIx its.length its.length hi - HT.sIx its.length 0 lo)).toArray:=by
 obtain⟨h1,h2,h3⟩:=lx lo hi its.toArray.size;unfold slicePick;rw[h1,h2,h3];simp only[sliceRange_one,pick_run,size_toArray] <;> rfl
def rSlL(K:Frag):V->Option Int->Option Int->Hp->VK->Prop:=fun x lo hi H Q=>∃a xs,x=.ref a/\SqL K H a xs/\∀p,H p=none->Q (.ref p) (upd H p (.lst (cx xs lo hi)))
theorem gK:SlR X (rSlL X.K):=by
 intro pins s σ H x v vl vu lo hi sl Q I rx hs pl pu h;obtain⟨a,xs,rfl,hx,q⟩:=h;cases rx;obtain⟨its,r,ht,hz⟩:=I.list hx;have hlen:=r.length;refine⟨"list",_,slot_list_getitem.lookup,ht.isList.typeIs,?_⟩;refine wpAny_getItem_list_slice ht.isList hs pl pu .none (by simp) ?_ (by rw[size_toArray] <;> lia)
 rw[jV,<- hlen];refine⟨.ref s.heap.objs.size,_,I.laid (t':=s.toks) (o:=.lst (cx xs lo hi)) (fun b ob q=>get?_push_of_some _ q) (Nat.le_refl _) ?_,rfl,q _ (I.hok.fresh (Nat.le_refl _))⟩
 exact⟨Nat.le_trans (iA xs lo hi) hz,_,0,(r.drop (HT.sIx xs.length 0 lo)).take (HT.sIx xs.length xs.length hi - HT.sIx xs.length 0 lo),get?_push_size _ rfl⟩
noncomputable def cZ:V->Bool
 | .non=>true
 | .bl _=>true
 | .int _=>true
 | .str _=>true
 | _=>false
noncomputable def eqV:V->V->Bool
 | .non,.non=>true
 | .bl a,.bl b=>a == b
 | .bl a,.int b=>(if a then 1 else 0) == b
 | .int a,.bl b=>a == (if b then 1 else 0)
 | .int a,.int b=>a == b
 | .str a,.str b=>a == b
 | _,_=>false
theorem ur{A:Around}{s:Shared}{y x:V}{u v:Value}(ry:bi y u)(rx:bi x v)(fy:cZ y=true)(fx:cZ x=true):SeqAt.EqAt A s u v (eqV y x):=by
 cases y with
 | non =>
  cases ry;cases x with
  | non=>cases rx;exact SeqAt.EqAt.same _
  | bl b=>cases rx;exact SeqAt.EqAt.none_bool b
  | int b=>obtain⟨t,rfl⟩:=rx;exact SeqAt.EqAt.none_int b t
  | str b=>obtain⟨t,rfl⟩:=rx;exact SeqAt.EqAt.none_str b t
  | _=>exact absurd (show false=true from fx) Bool.false_ne_true
 | bl a =>
  cases ry;cases x with
  | non=>cases rx;exact SeqAt.EqAt.bool_none a
  | bl b=>cases rx;exact SeqAt.EqAt.bool_bool a b
  | int b=>obtain⟨t,rfl⟩:=rx;exact SeqAt.EqAt.bool_int a b t
  | str b=>obtain⟨t,rfl⟩:=rx;exact SeqAt.EqAt.bool_str a b t
  | _=>exact absurd (show false=true from fx) Bool.false_ne_true
 | int a =>
  obtain⟨t',rfl⟩:=ry;cases x with
  | non=>cases rx;exact SeqAt.EqAt.int_none a t'
  | bl b=>cases rx;exact SeqAt.EqAt.int_bool a t' b
  | int b=>obtain⟨t,rfl⟩:=rx;exact SeqAt.EqAt.int_int a t' b t
  | str b=>obtain⟨t,rfl⟩:=rx;exact SeqAt.EqAt.int_str a t' b t
  | _=>exact absurd (show false=true from fx) Bool.false_ne_true
 | str a =>
  obtain⟨t',rfl⟩:=ry;cases x with
  | non=>cases rx;exact SeqAt.EqAt.str_none a t'
  | bl b=>cases rx;exact SeqAt.EqAt.str_bool a t' b
  | int b=>obtain⟨t,rfl⟩:=rx;exact SeqAt.EqAt.str_int a t' b t
  | str b=>obtain⟨t,rfl⟩:=rx;exact SeqAt.EqAt.str_str a t' b t
  | _=>exact absurd (show false=true from fx) Bool.false_ne_true
 | _=>exact absurd (show false=true from fy) Bool.false_ne_true
noncomputable def eqU(x:V)(u:Value):Bool:=match u with
 | .none=>eqV .non x
 | .bool b=>eqV (.bl b) x
 | .int i _=>eqV (.int i) x
 | .str z _=>eqV (.str z) x
 | _=>false
theorem uu{x y:V}{u:Value}(r:bi y u)(f:cZ y=true):eqU x u=eqV y x:=by
 cases y with
 | non=>cases r;rfl
 | bl b=>cases r;rfl
 | int i=>obtain⟨t,rfl⟩:=r;rfl
 | str z=>obtain⟨t,rfl⟩:=r;rfl
 | _=>exact absurd (show false=true from f) Bool.false_ne_true
theorem ly{x:V}:∀{xs:List V}{us:List Value},bA xs us->xs.all cZ=true->us.any (eqU x)=xs.any fun y=>eqV y x
 | _,_,.nil,_=>rfl
 | y :: xs,u :: us,.cons r t,f=>by
  rw[List.all_cons,Bool.and_eq_true]at f;rw[List.any_cons,List.any_cons,uu r f.1,ly t f.2]
theorem ji{A:Around}{s:Shared}{x:V}{v:Value}(rx:bi x v)(fx:cZ x=true):∀{xs:List V}{us:List Value},bA xs us->xs.all cZ=true->∀u ∈ us,SeqAt.EqAt A s u v (eqU x u)
 | _,_,.nil,_=>fun u hu=>by cases hu
 | y :: xs,u :: us,.cons r t,f=>fun u' hu=>by
  rw[List.all_cons,Bool.and_eq_true]at f;rcases List.mem_cons.mp hu with rfl | hu
  ·rw[uu r f.1];exact ur r rx f.1 fx
  ·exact ji rx fx t f.2 u' hu
def inV(x:V)(xs:List V):Bool:=xs.any fun y=>eqV y x
noncomputable def rIn(K:Frag)(neg:Bool):R2:=fun x y H Q=>∃p xs,y=.ref p/\(SqL K H p xs\/SqT K H p xs)/\cZ x=true/\xs.all cZ=true/\Q (.bl (if neg then !inV x xs else inV x xs)) H
theorem hZ:OpR X (compareOp .In) (rIn X.K false):=by
 intro pins s σ H x y v u Q I rx ry h;obtain⟨p,xs,rfl,hq,fx,fs,q⟩:=h;cases ry;rcases hq with hq | hq
 ·obtain⟨its,r,pl,hz⟩:=I.list hq;refine SeqAt.in_listAt (eqU x) pl.isList (fun w hw=>ji rx fx r fs w (by simpa using hw)) ⟨.bl _,H,I,rfl,?_⟩
  rw[show its.toArray.any (eqU x)=its.any (eqU x) by simp,ly r fs]
  exact q
 ·obtain⟨its,r,pl,hz⟩:=I.tuple hq;refine SeqAt.in_tupleAt (eqU x) pl (fun w hw=>ji rx fx r fs w (by simpa using hw)) ⟨.bl _,H,I,rfl,?_⟩
  rw[show its.toArray.any (eqU x)=its.any (eqU x) by simp,ly r fs]
  exact q
theorem aL:dD X (.builtin "len") (fun xs H Q=>∃p ys,xs=[.ref p]/\(SqL X.K H p ys\/SqT X.K H p ys)/\Q (.int ys.length) H):=by
 intro pins s σ H xs us Q I r h;obtain⟨p,ys,rfl,hq,q⟩:=h;obtain⟨u,rfl,rx⟩:=fC r;cases rx;have hn:=lu;rcases hq with hq | hq
 ·obtain⟨its,r',pl,hz⟩:=I.list hq;have hlen:=r'.length;exact Calls.call_len_list pl.isList (by simp only[size_toArray] <;> lia) ⟨.int ys.length,H,I.tok _,⟨s.toks + 1,by rw[size_toArray,hlen]⟩,q⟩
 ·obtain⟨its,r',pl,hz⟩:=I.tuple hq;have hlen:=r'.length;exact len_tuple pl (by simp only[size_toArray] <;> lia) ⟨.int ys.length,H,I.tok _,⟨s.toks + 1,by rw[size_toArray,hlen]⟩,q⟩
theorem gL:dD X (.builtin "len") (fun xs H Q=>∃z,xs=[.str z]/\z.length <= sizeLine/\Q (.int z.length) H):=by
 intro pins s σ H xs us Q I r h;obtain⟨z,rfl,hz,q⟩:=h;obtain⟨u,rfl,t,rfl⟩:=fC r;have hn:=lu;exact len_str (by lia) ⟨.int z.length,H,I.tok _,⟨_,rfl⟩,q⟩
theorem lz:dD X (.type "list") (fun xs H Q=>∃p ys,xs=[.ref p]/\(SqL X.K H p ys\/SqT X.K H p ys)/\∀l,H l=none->Q (.ref l) (upd H l (.lst ys))):=by
 intro pins s σ H xs us Q I r h;obtain⟨p,ys,rfl,hq,q⟩:=h;obtain⟨u,rfl,rx⟩:=fC r;cases rx;have fin:∀(its:List Value),bA ys its->ys.length <= sizeLine->∀(h':Heap)(c':Nat),(∀b o',s.heap.get? b=some o'->h'.get? b=some o') ->
   h'.get? s.heap.objs.size=some { cls:=.type "list",dict:=none,data:=.seq its.toArray c',slots:=#[] }->EP X pins σ Q (.ref s.heap.objs.size) { s with heap:=h' }:=fun its r' hz h' c' kp e =>
  ⟨.ref s.heap.objs.size,_,I.laid (t':=s.toks) kp (Nat.le_refl _) (show cD X.prog X.w _ h' _ (.lst ys) from⟨hz,its,c',r',e⟩),rfl,q _ (I.hok.fresh (Nat.le_refl _))⟩
 rcases hq with hq | hq
 ·obtain⟨its,r',pl,hz⟩:=I.list hq;have hlen:=r'.length;obtain⟨o,ho,hc,n,hd⟩:=pl.isList;exact call_list_seq p (.inl rfl) ho hc hd (fun h' c' kp e=>fin its r' hz h' c' kp e) (by simp only[size_toArray] <;> lia)
 ·obtain⟨its,r',pl,hz⟩:=I.tuple hq;have hlen:=r'.length;obtain⟨o,ho,hc,n,hd⟩:=pl;exact call_list_seq p (.inr rfl) ho hc hd (fun h' c' kp e=>fin its r' hz h' c' kp e) (by simp only[size_toArray] <;> lia)
theorem jW:dD X (.type "tuple") (fun xs H Q=>∃p ys,xs=[.ref p]/\((SqL X.K H p ys/\∀l,H l=none->Q (.ref l) (upd H l (.tup ys)))\/(SqT X.K H p ys/\Q (.ref p) H))):=by
 intro pins s σ H xs us Q I r h;obtain⟨p,ys,rfl,h⟩:=h;obtain⟨u,rfl,rx⟩:=fC r;cases rx;rcases h with ⟨hq,q⟩ | ⟨hq,q⟩
 ·obtain⟨its,r',pl,hz⟩:=I.list hq;have hlen:=r'.length;refine call_tuple_list pl.isList (fun h' kp=>?_) (by simp only[size_toArray] <;> lia)
  have I1:Inv X pins σ H { s with heap:=h' }:=I.kept (t':=s.toks) kp;have I2:Inv X pins σ (upd H h'.objs.size (.tup ys)) { s with heap:=h'.push { cls:=.type "tuple",data:=.seq its.toArray } } :=
   I1.laid (t':=s.toks) (fun b o e=>get?_push_of_some _ e) (Nat.le_refl _) (show cD X.prog X.w _ _ _ (.tup ys) from⟨hz,its,r',IsTup.new _ _⟩)
  exact⟨.ref h'.objs.size,_,I2,rfl,q _ (I1.hok.fresh (Nat.le_refl _))⟩
 ·obtain⟨its,r',pl,hz⟩:=I.tuple hq;exact call_tuple_same pl ⟨.ref p,H,I,rfl,q⟩
def tyV(K:Frag)(T:String)(x:V)(H:Hp):Prop:=match x with
 | .str _=>T="str"
 | .int _=>T="int"
 | .ref p=>(T="list" /\∃xs,SqL K H p xs)\/(T="tuple" /\∃o,K.lookup p=some o/\o.cls=.type "tuple" /\o.dict=none) \/
   (T="dict" /\((∃kvs,H p=some (.dK kvs))\/∃kvs,H p=some (.dT kvs)))\/(T="set" /\∃S n,H p=some (.set S n))
 | _=>False
theorem tyV_is{pins:List (Addr × Obj)}{σ:St}{H:Hp}{s:Shared}{T:String}{x:V}{v:Value}(I:Inv X pins σ H s)(r:bi x v)(ty:tyV X.K T x H) :
  s.TypeIs v T/\∀a,v=.ref a->∃ob,s.heap.get? a=some ob/\ob.dict=none:=by
 cases x with
 | str z =>
  obtain⟨t,rfl⟩:=r;cases (show T="str" from ty);exact⟨typeIs_str s z t,fun _ e=>nomatch e⟩
 | int i =>
  obtain⟨t,rfl⟩:=r;cases (show T="int" from ty);exact⟨typeIs_int s i t,fun _ e=>nomatch e⟩
 | ref p =>
  cases r;rcases ty with ⟨rfl,xs,hq⟩ | ⟨rfl,o,hk,hc,hd⟩ | ⟨rfl,hk⟩ | ⟨rfl,S,n,hk⟩
  ·obtain⟨its,_,pl,_⟩:=I.list hq;refine⟨pl.isList.typeIs,fun a e=>?_⟩;cases e;obtain⟨o,n,e,c,hd,_⟩:=pl;exact⟨o,e,hd⟩
  ·refine⟨⟨o,I.kIn p o hk,hc⟩,fun a e=>?_⟩;cases e;exact⟨o,I.kIn _ o hk,hd⟩
  ·have z:∃o,s.heap.get? p=some o/\o.ExactDict:=by
    rcases hk with ⟨kvs,hk⟩ | ⟨kvs,hk⟩
    ·obtain⟨_,_,_,_,o,_,_,e,ex,_⟩:=I.hok p _ hk;exact⟨o,e,ex⟩
    ·obtain⟨_,_,_,_,o,_,_,e,ex,_⟩:=I.hok p _ hk;exact⟨o,e,ex⟩
   obtain⟨o,e,ex⟩:=z;refine⟨⟨o,e,ex.1⟩,fun a e2=>?_⟩;cases e2;exact⟨o,e,ex.2.1⟩
  ·obtain⟨o,_,_,_,e,ex,_⟩:=I.hok p _ hk;refine⟨⟨o,e,ex.1⟩,fun a e2=>?_⟩;cases e2;exact⟨o,e,ex.2.1⟩
 | _=>exact False.elim ty
def tBM(K:Frag)(T:String)(r:V->List V->Hp->VK->Prop)(to:TE)(t:TA):TE:=fun σ H Q=>to σ H fun x H1=>tyV K T x H1/\t σ H1 fun xs H2=>r x xs H2 Q
variable{o e:Expr}{es:List Expr}{to:TE}{t:TA}{name:Str}{apos cpos:Pos}{T id:String}{r:V->List V->Hp->VK->Prop}
theorem kj (pa:PlainAttrs T) (slot:Slot T name id) (hty:typeOf (.builtin id)=pure (.type "method_descriptor")) (hm:MtR X id r) (ho:PE X o to) (ha:PA X (e :: es) t)
  (hbase:attributeBase o name X.env (eval o X.env)=eval o X.env:=by rfl)
  (hfew:((backTo cpos (starEach (e :: es) X.env)).all (fun x=>!x.1) && (backToKw cpos (keywordEach [] X.env)).all (fun x=>x.1.isSome)
   && decide ((e :: es).length + ([]:List Keyword).length + (if ([]:List Keyword).isEmpty then 0 else 1) < 30))=true:=by rfl)
  (hline:(apos.endLine == cpos.line)=true:=by rfl) (hs:starEach (e :: es) X.env=(false,eval e X.env) :: starEach es X.env:=by rfl) (hplain:(backTo cpos (starEach es X.env)).any (·.1)=false:=by rfl) :
  PE X (.Call (.Attribute o name apos) (e :: es) [] cpos) (tBM X.K T r to t):=by
 intro pins s σ H Q I h;refine wpAny_Call_method_late hbase hfew hline rfl (thn (ho pins s σ H _ I h) fun v s1 ⟨x,H1,I1,r1,ty,q1⟩=>?_);obtain⟨h1,h2⟩:=tyV_is I1 r1 ty;refine⟨T,id,pa,slot,hty,h1,h2,?_⟩;have hA:=ha cpos pins s1 σ H1 _ I1 q1;rw[hs]at hA ⊢;refine Calls.callWith_builtin (by show (false || (backTo cpos (starEach es X.env)).any (·.1))=false;rw[hplain] <;> rfl) (Calls.evalArgs_plain ?_)
 exact thn hA fun us s2 ⟨vs,H2,I2,r2,q2⟩=>hm pins s2 σ H2 x vs v us Q I2 r1 r2 q2
end
def MtM(X:Cx)(id:String)(r:V->List V->Hp->VK->Prop):Prop :=
 ∀(pins:List (Addr × Obj)) (s:Shared) (σ:St) (H:Hp) (x:V) (xs:List V) (v:Value) (us:List Value) (Q:VK),Inv X pins σ H s->bi x v->bA xs us->r x xs H Q ->
  wpAny (model X.prog X.w) X.A (call (.builtin id) (v :: us)) (EP X pins σ Q) X.xe s
theorem bA.one:∀{x:V}{us:List Value},bA [x] us->∃u,us=[u]/\bi x u
 | _,_,.cons r .nil=>⟨_,rfl,r⟩
theorem bA.rep{xs:List V}{us:List Value}(h:bA xs us):∀k:Nat,bA (List.replicate k xs).flatten (List.replicate k us).flatten
 | 0=>.nil
 | k + 1=>by
  rw[List.replicate_succ,List.replicate_succ,List.flatten_cons,List.flatten_cons];exact bA.append h (bA.rep h k)
theorem ko(its:List Value):∀(k:Nat)(acc:List Value),
  List.foldl (fun x1 x2=>x1 ++ x2) acc.toArray (List.replicate k its.toArray)=(acc ++ (List.replicate k its).flatten).toArray
 | 0,acc=>by simp
 | k + 1,acc=>by
  have e:acc.toArray ++ its.toArray=(acc ++ its).toArray:=by simp
  have e2:(acc ++ its) ++ (List.replicate k its).flatten=acc ++ (List.replicate (k + 1) its).flatten:=by
   rw[List.replicate_succ,List.flatten_cons,List.append_assoc]
  rw[<- e2,<- ko its k (acc ++ its),<- e,List.replicate_succ,List.foldl_cons]
section
variable{X:Cx}{pins:List (Addr × Obj)}{σ:St}{H:Hp}{s:Shared}{l b:Addr}{xs ys zs:List V}
theorem Inv.lset{its its':List Value}{n:Nat}{f:Array Value->Array Value}{t':Nat}(I:Inv X pins σ H s)(hH:H l=some (.lst xs))
  (e:s.heap.get? l=some { cls:=.type "list",data:=.seq its.toArray n }) (hf:f its.toArray=its'.toArray) (hv:bA ys its') (hz:ys.length <= sizeLine) :
  Inv X pins σ (upd H l (.lst ys)) { s with heap:=s.heap.update l (Obj.mapSeq f),toks:=t' }:=by
 have q:=PySem.IsL.update e f;rw[hf]at q;refine I.write (x:=l) (e:=l) (by rw[hH];exact trivial) (.inl rfl) (fun b' u hb hu=>(Heap.get?_update_other s.heap (Obj.mapSeq f) (Ne.symm hb)).trans hu) ⟨_,q⟩ ?_
 exact⟨hz,its',_,hv,q⟩
theorem Inv.lnew{its:List Value}{t':Nat}(I:Inv X pins σ H s)(hv:bA ys its)(hz:ys.length <= sizeLine) :
  Inv X pins σ (upd H s.heap.objs.size (.lst ys)) { s with heap:=s.heap.push { cls:=.type "list",data:=.seq its.toArray },toks:=t' } :=
 I.laid (fun _ _ q=>get?_push_of_some _ q) (Nat.le_refl _) ⟨hz,its,0,hv,get?_push_size _ rfl⟩
theorem Inv.fresh(I:Inv X pins σ H s):H s.heap.objs.size=none:=I.hok.fresh (Nat.le_refl _)
theorem Inv.lstM (I:Inv X pins σ H s) (hH:H l=some (.lst xs)):xs.length <= sizeLine/\∃(its:List Value)(n:Nat),bA xs its/\xs.length=its.length/\s.heap.get? l=some { cls:=.type "list",data:=.seq its.toArray n }:=by
 obtain⟨z,its,n,r,e⟩:=I.hok l _ hH;exact⟨z,its,n,r,r.length,e⟩
theorem uv{n:Nat}(h:n <= sizeLine):Builtin.List.listTooLong n=false:=by
 unfold Builtin.List.listTooLong;exact decide_eq_false (by lia)
end
section
variable{X:Cx}
def rAppend:V->List V->Hp->VK->Prop:=fun x vs H Q=>∃l xs y,x=.ref l/\vs=[y]/\H l=some (.lst xs)/\xs.length < sizeLine/\Q .non (upd H l (.lst (xs ++ [y])))
theorem ky:MtM X "list.append" rAppend:=by
 intro pins s σ H x vs v us Q I rx rv h;obtain⟨l,xs,y,rfl,rfl,hH,hz,q⟩:=h;cases rx;obtain⟨u,rfl,ru⟩:=rv.one;obtain⟨z,its,n,r,hl,e⟩:=I.lstM hH;refine call_meets F.slot_list_append ⟨_,e,rfl⟩ F.entry_list_append (F.args_list_append_2 _ _) (PySem.list_append l its.toArray n u (by rw[size_toArray];lia)) ⟨e,?_⟩
 refine⟨.non,_,I.lset (its':=its ++ [u]) hH e (by simp) (r.append (.cons ru .nil)) ?_,rfl,q⟩
 rw[length_append,List.length_singleton];lia
noncomputable def rCat:R2:=fun x y H Q=>∃l b xs zs,x=.ref l/\y=.ref b/\H l=some (.lst xs)/\H b=some (.lst zs)/\xs.length + zs.length <= sizeLine/\∀p,H p=none->Q (.ref p) (upd H p (.lst (xs ++ zs)))
theorem op_cat:OpR X (binaryOp .Add) rCat:=by
 intro pins s σ H x y v u Q I rx ry h;obtain⟨l,b,xs,zs,rfl,rfl,hH,hB,hz,q⟩:=h;cases rx;cases ry;obtain⟨z,its,n,r,hl,e⟩:=I.lstM hH;obtain⟨z2,its2,n2,r2,hl2,e2⟩:=I.lstM hB;refine PySem.P.add_list e e2 ?_ (by rw[size_toArray,size_toArray];lia)
 have ea:its.toArray ++ its2.toArray=(its ++ its2).toArray:=by simp
 rw[ea];exact⟨.ref _,_,I.lnew (t':=s.toks) (r.append r2) (by rw[length_append];lia),rfl,q _ I.fresh⟩
noncomputable def rRep:R2:=fun x y H Q=>∃l k xs,x=.ref l/\y=.int k/\H l=some (.lst xs)/\-(2 ^ 63) <= k/\k < 2 ^ 63/\xs.length * k.toNat <= sizeLine /\
 ∀p,H p=none->Q (.ref p) (upd H p (.lst (List.replicate k.toNat xs).flatten))
theorem len_rep{α:Type}(xs:List α)(k:Nat):(List.replicate k xs).flatten.length=k * xs.length:=by
 induction k with
 | zero=>simp
 | succ k ih=>rw[List.replicate_succ,List.flatten_cons,length_append,ih,Nat.succ_mul,Nat.add_comm]
theorem op_rep:OpR X (binaryOp .Mult) rRep:=by
 intro pins s σ H x y v u Q I rx ry h;obtain⟨l,k,xs,rfl,rfl,hH,h1,h2,hz,q⟩:=h;cases rx;obtain⟨t,rfl⟩:=ry;obtain⟨z,its,n,r,hl,e⟩:=I.lstM hH;have hlen:its.toArray.size * k.toNat <= sizeLine:=by rw[size_toArray,<- hl];exact hz
 have hcap:¬its.toArray.size * k.toNat > (2 ^ 63 - 1) / 8:=by
  have:(sizeLine:Nat) <= (2 ^ 63 - 1) / 8:=by decide
  lia
 have hfit:¬(!Builtin.List.listFitsIndex k)=true:=by
  rw[fitsIndex_both h1 h2];exact Bool.false_ne_true
 have hlong:¬Builtin.List.listTooLong (its.toArray.size * k.toNat)=true:=by
  rw[uv hlen];exact Bool.false_ne_true
 have hnew:List.foldl (fun x1 x2=>x1 ++ x2) #[] (List.replicate (if its.toArray.isEmpty=true then 0 else k.toNat) its.toArray)=(List.replicate k.toNat its).flatten.toArray:=by
  have f0:∀m:Nat,List.foldl (fun x1 x2=>x1 ++ x2) #[] (List.replicate m its.toArray)=(List.replicate m its).flatten.toArray:=fun m=>by
   have:=ko its m [];rw[List.nil_append]at this;exact this
  rw[f0];cases its with
  | nil=>simp
  | cons a r'=>rw[if_neg (by simp)]
 refine wpAny_binaryOp_repeat_ref (T:="list") (U:="int") (by decide) ⟨_,e,rfl⟩ (fun s'=>typeIs_int s' k t) noFill_list_mul F.fills_int_mul F.slot_int_rmul repeat_list F.slot_int_index.lookup
  (call_meets F.slot_int_rmul (typeIs_int s k t) F.entry_int_rmul (F.args_int_rmul_2 _ _) (int___rmul___int_list k t l its.toArray n)
   ⟨e,rfl,⟨_,e,rfl⟩,call_meets F.slot_list_mul ⟨_,e,rfl⟩ F.entry_list_mul (F.args_list_mul_2 _ _) (AutoListH.list___mul___list_int_3 l its.toArray n k t hfit hcap hlong) ⟨e,?_⟩⟩)
 rw[hnew];exact⟨.ref _,_,I.lnew (t':=s.toks) (r.rep k.toNat) (by rw[len_rep,Nat.mul_comm];exact hz),rfl,q _ I.fresh⟩
end
section
variable{prog:Program}{w:World}{A:Around}{E:Value->Shared->Prop}{s:Shared}
end
section
variable{X:Cx}
end
end L2
namespace Att
open PySem PySem.W PySem.Calls PyProof.Rows
theorem iH{P:Params}{h:Heap}:∀(ns:List Int)(vs:List Value),WellAll P h vs (ns.map WData.int)->IntsAre vs ns:=by
 intro ns;induction ns with
 | nil =>
  intro vs w;rw[List.map_nil]at w;cases w;exact .nil
 | cons n ns ih =>
  intro vs w;rw[List.map_cons]at w;cases w with
  | cons a b =>
   cases a;exact .cons _ _ (ih _ b)
theorem rX{l:OpenLaw}{n:Nat}(hn:l.most=some n){P:Params}{h:Heap}{args:List WData}{vals:List Value}
  (hpre:l.row.toRowW.claim.pre args=true)(hwl:WellAll P h vals args) :
  ∃a vs ns,vals=[Value.ref a]/\args=[WData.list (ns.map WData.int)]/\h.get? a=some { cls:=.type "list",data:=.seq vs.toArray }/\IntsAre vs ns/\ns.length <= n:=by
 have hsh:WShape.hasAll [] args [.list .int]=true:=(pre_splitW hpre).1;have hc:l.pre.holds [] { args:=args }=true:=(pre_splitW hpre).2;obtain⟨d,r,rfl,h1,h2⟩:=hasAllW_cons hsh;obtain rfl:=hasAllW_nil h2;obtain⟨xs,rfl,h3⟩:=hasW_list h1;obtain⟨ns,rfl⟩:=items_int h3;have hlen:ns.length <= n:=by
  unfold OpenLaw.pre at hc;have h4:(WTm.not (.lt (.lit (.int (n:Int))) (.len (.arg 0)))).holds [] { args:=[.list (ns.map .int)] }=true:=by
   have h4:=(holds_andW hc).1;rw[hn]at h4;exact h4
  have h5:=condW_of h4 (w_not (w_lt w_lit (w_len_list (w_arg rfl))));rw[length_map]at h5;refine Nat.le_of_not_lt fun q=>?_;have q':(n:Int) < ((ns.length:Nat):Int):=by lia
  first
   | (rw[decide_eq_true q']at h5;exact absurd h5 (by decide))
   | (simp at h5;lia)
 cases hwl with
 | cons w1 w2 =>
  cases w2;cases w1 with
  | list ho hall=>exact⟨_,_,ns,rfl,rfl,ho,iH ns _ hall,hlen⟩
theorem rY(l:OpenLaw)(args:List WData):l.row.toRowW.claim.post args (.bool true) args=true :=
 postW_of (r:=l.row.toRowW) (X:=(true == true))
  (show WShape.has [] (.bool true) .bool=true by first | rfl | decide | simp[WShape.has,WShape.arms,WShape.armsAll])
  (show (WTm.eq .res (.lit (.bool true))).value [] { args:=args,res:=some (.bool true),after:=args }=some (.bool (true == true)) from w_eq_bool (w_res rfl) w_lit) rfl
theorem nJ{l:OpenLaw}{n:Nat}{q:Program}{loose:List Str}{XP:(Str->Option Value)->Heap->Prop}{YP:World->Heap->Prop}{d:DefRec}
  (hn:l.most=some n)(hdf:d.params.defaults=[])
  (call:∀(w:World)(s₀ s₁:Shared)(mg mb:Str->Option Value)(fa:Addr)(o:Obj)(pm cd doc:Value)(a:Addr)(vs:List Value)(ns:List Int),
   Ground q loose [] XP w s₀ mg mb s₁.heap->YP w s₁.heap ->
   s₁.heap.get? fa=some o->o.data=.func (docDef d.name d.params d.body d.scope pm cd doc)->s₁.heap.CodeRec cd d.name->mg d.name=some (.ref fa) ->
   s₁.heap.get? a=some { cls:=.type "list",data:=.seq vs.toArray }->IntsAre vs ns->ns.length <= n->s₁.gens=#[] ->
   codeAny (model l.prog w) callerA (.call (.ref fa) ⟨[.ref a],[]⟩) (fun r s'=>r=.ok (.ret (.bool true))/\OldK s₁.heap s'.heap/\s'.os=s₁.os/\AllBare s'.gens) s₁) :
  WalkO q loose XP YP l.row.toRowW d [] (fun f vs=>PySem.call f vs):=by
 intro w s₀ s₁ mg mb G Y fa o pm cd doc dV kV ho hd hcd hD hmg hg args vals as hpre hlay hrd hwl hlo;obtain rfl:dV=.none:=Dflts.none hD hdf;obtain rfl:kV=.none:=Dflts.noKw hD;obtain⟨a,vs,ns,rfl,rfl,hobj,hints,hlen⟩:=rX hn hpre hwl;refine enter_call (codeAny_mono (call w s₀ s₁ mg mb fa o pm cd doc a vs ns G Y ho (fd_plain hd) hcd hmg hobj hints hlen hg) fun r s' hq=>?_);obtain⟨rfl,h2,h3,h4⟩:=hq;exact⟨.inl ⟨.bool true,.bool true,[],rfl,fun _=>rfl,.bool true,rY l _,fun _=>⟨List.Pairwise.nil,fun _ hm=>(nomatch hm)⟩⟩,h2,h3,h4⟩
section
variable{prog:Program}{w:World}{A:Around}{E:Value->Shared->Prop}{s:Shared}{K:Frag}
end
end Att
namespace L2
open PySem PySem.Spec PyProof.Rows
theorem kz:∀{vs:List Value}{ns:List Int},IntsAre vs ns->bA (ns.map V.int) vs
 | _,_,.nil=>.nil
 | _,_,.cons n t h=>.cons ⟨t,rfl⟩ (kz h)
def Only(H:Hp):Prop:=∀b,H b=none\/∃o xs,H b=some (.frz o (.lst xs))
theorem uw{P:Program}{w:World}{K:Frag}{mg mb:Str->Option Value}{CX:CXT}{k:Nat}{fa a:Addr}{fd:FuncData}{x:Str}{sp:Sp}{s₁:Shared}{vs:List Value}{ns:List Int}
  (KX:K.In s₁.heap) (hns:s₁.heap.Ns mainGlobals mg) (hb:s₁.heap.Ns builtinsNs mb) (hbb:∀x:Str,x ≠ "__name__" ->mb x=bootBuiltins x) (hlim:s₁.heap.NoLimit) (hg:s₁.gens=#[])
  (ha:s₁.heap.get? a=some { cls:=.type "list",data:=.seq vs.toArray }) (hi:IntsAre vs ns) (hl:ns.length <= sizeLine) (hr:bj k callerA)
  (F:∀base:Heap,K.In base->base.Ns mainGlobals mg->aQ P w K mg base CX k fa fd [x] sp) (hbind:∀(s:Shared)(u:Value),BindsTo s fd ⟨[u],[]⟩ [(x,u)])
  (hsp:∀H:Hp,Only H->SqL K H a (ns.map V.int)->sp [.ref a] H (fun v _=>v=.bl true) fun _ _ _=>False)
  (hCX:∀H e s',CX [] H s₁ (fun _ _ _=>False) e s'->False) :
  codeAny (model P w) callerA (.call (.ref fa) ⟨[.ref a],[]⟩) (fun r s'=>r=.ok (.ret (.bool true))/\OldK s₁.heap s'.heap/\s'.os=s₁.os/\AllBare s'.gens) s₁:=by
 have rv:=kz hi;have lenV:=hi.length;have core:∀H:Hp,Only H->SqL K H a (ns.map V.int)->HOk P w H s₁.heap->(∀b,H b ≠ none->b=a)->(H a ≠ none->K.lookup a=none) ->
   codeAny (model P w) callerA (.call (.ref fa) ⟨[.ref a],[]⟩) (fun r s'=>r=.ok (.ret (.bool true))/\OldK s₁.heap s'.heap/\s'.os=s₁.os/\AllBare s'.gens) s₁:=by
  intro H hO hS hok hA hK;have base_of:∀{b:Addr}{o:Obj},s₁.heap.get? b=some o->H b=none->(li s₁.heap H).get? b=some o:=fun e n=>uc e n;have noA:∀{b:Addr}{o:Obj}{es:Array DictEntry}{ep:Nat},s₁.heap.get? b=some o->o.data=.dict es ep->H b=none:=fun {b o es ep} e d=>by
   cases q:H b with
   | none=>rfl
   | some u =>
    have e':b=a:=hA b (by rw[q];simp)
    subst e';rw[ha]at e;cases e;have d':Data.seq vs.toArray _=Data.dict es ep:=d;cases d'
  have nsK:∀{b:Addr}{m:Str->Option Value},s₁.heap.Ns b m->(li s₁.heap H).Ns b m:=fun {b m} ⟨o,es,ep,e,d,r⟩=>⟨o,es,ep,base_of e (noA e d),d,r⟩;have hKb:K.In (li s₁.heap H):=fun b o e=>base_of (KX b o e) (by
   cases q:H b with
   | none=>rfl
   | some u =>
    have e':b=a:=hA b (by rw[q];simp)
    subst e';rw[hK (by rw[q];simp)]at e;cases e)
  have hM:Mod K mg (li s₁.heap H):=⟨hKb,nsK hns,⟨mb,nsK hb,hbb⟩,let ⟨mc,h1,h2⟩:=hlim;⟨mc,nsK h1,h2⟩⟩;have e0:oY P w K mg (li s₁.heap H) callerA [] s₁ H:=⟨rfl,hM,fun b o e=>of_hidT e,Nat.le_of_eq (rL _ _),trivial,fun b hb=>absurd (show b ∈ ([]:List Addr) from hb) (by simp),hok,.of_eq hg⟩
  refine codeAny_mono ((F _ hKb (nsK hns)).run callerA [] s₁ H ⟨[.ref a],[]⟩ [.ref a] [.ref a] _ _ hr e0 (hbind s₁ (.ref a)) (.cons rfl .nil) (hsp H hO hS)) fun r s' h=>?_;cases r with
  | error e=>exact(hCX H e s' h).elim
  | ok fl =>
   cases fl with
   | next=>exact False.elim h
   | brk=>exact False.elim h
   | cont=>exact False.elim h
   | ret u =>
    obtain⟨v,H',os,bare,un,hok',r',q⟩:=h;have q':v=.bl true:=q;subst q';obtain rfl:u=Value.bool true:=r';refine⟨rfl,OldK.of_keep fun b o e=>?_,os,bare⟩;cases q:H b with
    | none=>exact un.keep b o e q (by intro z;exact absurd (show b ∈ ([]:List Addr) from z) (by simp)) (by simp)
    | some u =>
     rcases hO b with z | ⟨ob,xs,z⟩
     ·rw[q]at z;cases z
     ·have z2:=un.frzs b ob _ z;obtain⟨e1,_⟩:=hok b _ z;obtain⟨e2,_⟩:=hok' b _ z2;rw[e]at e1;cases e1;exact e2
 cases hk:K.lookup a with
 | some o =>
  have e:=KX a o hk;rw[ha]at e;cases e;refine core (fun _=>none) (fun _=>.inl rfl) (.inr ⟨_,vs.toArray,_,hk,rfl,rfl,rfl,by rw[size_toArray,lenV];exact hl,by simpa using rv⟩) (fun b u z=>by have z':(none:Option HO)=some u:=z;cases z') (fun b z=>absurd rfl z) fun z=>absurd rfl z
 | none =>
  refine core (fun b=>if b=a then some (.frz { cls:=.type "list",data:=.seq vs.toArray } (.lst (ns.map V.int))) else none) (fun b=>?_) (.inl (.inr ⟨{ cls:=.type "list",data:=.seq vs.toArray },if_pos rfl⟩)) (fun b u z=>?_) (fun b z=>?_) fun _=>hk
  ·by_cases hb:b=a
   ·exact .inr ⟨_,_,if_pos hb⟩
   ·exact .inl (if_neg hb)
  ·by_cases hb:b=a
   ·have z':=(if_pos hb).symm.trans z;cases z';subst hb;exact⟨ha,by rw[length_map];exact hl,vs,_,rv,ha⟩
   ·have z':=(if_neg hb).symm.trans z;cases z'
  ·by_cases hb:b=a
   ·exact hb
   ·exact absurd (if_neg hb) z
theorem walk_of{l:PySem.W.OpenLaw}{n k:Nat}{q:Program}{loose:List Str}{XP:(Str->Option Value)->Heap->Prop}{YP:World->Heap->Prop}{d:DefRec}{K:Params->Frag}{CX:World->CXT}{sp:World->Sp}{x:Str}
  (hn:l.most=some n)(hn2:n <= sizeLine)(hdf:d.params.defaults=[])(hr:bj k callerA)
  (hY:∀(w:World)(h:Heap),YP w h->(K w.params).In h)
  (F:∀(w:World)(mg:Str->Option Value)(fa:Addr)(h:Heap),(K w.params).In h->h.Ns mainGlobals mg->mg d.name=some (.ref fa) ->
   ∃fd:FuncData,(∀(s:Shared)(u:Value),BindsTo s fd ⟨[u],[]⟩ [(x,u)]) /\
    ∀base:Heap,(K w.params).In base->base.Ns mainGlobals mg->aQ l.prog w (K w.params) mg base (CX w) k fa fd [x] (sp w))
  (hsp:∀(w:World)(H:Hp)(a:Addr)(ns:List Int),ns.length <= n->Only H->SqL (K w.params) H a (ns.map V.int)->sp w [.ref a] H (fun v _=>v=.bl true) fun _ _ _=>False)
  (hCX:∀(w:World)(H:Hp)(s:Shared)(e:Value)(s':Shared),CX w [] H s (fun _ _ _=>False) e s'->False) :
  PySem.W.WalkO q loose XP YP l.row.toRowW d [] (fun f vs=>PySem.call f vs):=by
 refine Att.nJ hn hdf fun w s₀ s₁ mg mb fa o pm cd doc a vs ns G Y ho hd hcd hmg hobj hints hlen hg=>?_;have KX:=hY w _ Y;obtain⟨fd,hb,hF⟩:=F w mg fa _ KX G.T.g hmg;exact uw KX G.T.g G.T.b G.T.builtins G.T.nolimit hg hobj hints (Nat.le_trans hlen hn2) hr hF hb (fun H hO hS=>hsp w H a ns hlen hO hS) fun H e s'=>hCX w H s₁ e s'
noncomputable def aP(s:Stmt)(j:Nat):Stmt:=match s with
 | .ClassDef _ _ _ body _ _ _ _ _ _ _=>body.getD j (.Pass ⟨0,0,0,0⟩)
 | _=>.Pass ⟨0,0,0,0⟩
noncomputable def dO(s:Stmt):Arguments:=match s with
 | .FunctionDef _ a _ _ _ _ _ _ _ _=>a
 | _=>{ posonlyargs:=[],args:=[],vararg:=none,kwonlyargs:=[],kw_defaults:=[],kwarg:=none,defaults:=[] }
noncomputable def dc(s:Stmt):List Stmt:=match s with
 | .FunctionDef _ _ b _ _ _ _ _ _ _=>b
 | _=>[]
noncomputable def am(s:Stmt):Scope:=match s with
 | .FunctionDef _ _ _ _ _ _ sc _ _ _=>sc
 | _=>{ kind:=.function,names:=[],isGenerator:=false,isCoroutine:=false }
abbrev CX0:CXT:=fun _ _ _ _ _ _=>False
abbrev E0:XK:=fun _ _ _=>False
theorem jj{X:Cx}:eZ CX0 X E0:=fun _ _ _ _ _ _ _ h=>h.elim
structure Fun(K:Frag)(x qual:Str)(st:Stmt)(f:Addr)(fd:FuncData):Prop where
 ex:∃(oc:Value)(od:Option Addr)(kV doc pm:Value)(an:Option Addr)(cdv ct:Value) (osl:Array (Option Value)),
  fd=PySem.W.fnOf x qual (dO st) (dc st) (am st) .none kV doc pm an cdv ct/\K.lookup f=some ⟨oc,od,.func fd,osl⟩/\PySem.W.codeIn K cdv qual=true
 kp:PySem.W.keepIn K (.ref f)=true
section
variable{P:Program}{w:World}{K:Frag}{mg:Str->Option Value}{base:Heap}
theorem Fun.ok{x qual:Str}{st:Stmt}{f:Addr}{fd:FuncData}{N ps:List Str}{k:Nat}{sp:Sp}(F:Fun K x qual st f fd)(S:au N ps (am st))(len:∀vs H Q E,sp vs H Q E->vs.length=ps.length)
  (hbody:∀(cdv:Value)(A:Around)(outer:List Env)(s:Shared)(H:Hp)(vs:List V)(Q:VK)(E:XK),bj k (A.deeper (envOfC qual (am st) s.heap.objs.size f cdv))->sp vs H Q E ->
   ∃t,PSs (bv CX0 P w K mg base N qual (am st) f cdv A outer s H E).nox (dc st) t/\t { nx:=fun _ H'=>Q .non H',rt:=Q } (fE N vs) H):aQ P w K mg base CX0 (k + 1) f fd ps sp:=by
 obtain⟨oc,od,kV,doc,pm,an,cdv,ct,osl,rfl,lk,hcd⟩:=F.ex;refine fn_of lk hcd S len fun A outer s H vs Q E hr hsp=>?_;obtain⟨t,h,q⟩:=hbody cdv A outer s H vs Q E hr hsp;exact⟨t,h.nox,q⟩
theorem Fun.binds{x qual:Str}{st:Stmt}{f:Addr}{fd:FuncData}{ps:List Str}(F:Fun K x qual st f fd)
  (h:∀(kV doc pm:Value)(an:Option Addr)(cdv ct:Value)(us:List Value),us.length=ps.length->bindArgs (PySem.W.fnOf x qual (dO st) (dc st) (am st) .none kV doc pm an cdv ct) ⟨us,[]⟩=pure (ps.zip us)):ej K fd ps []:=by
 obtain⟨oc,od,kV,doc,pm,an,cdv,ct,osl,rfl,lk,hcd⟩:=F.ex;exact .all (h kV doc pm an cdv ct)
theorem pb{x qual:Str}{st:Stmt}{f:Addr}{oc:Value}{od an:Option Addr}{osl:Array (Option Value)}{kV doc pm cdv ct:Value}(l:K.lookup f=some ⟨oc,od,.func (PySem.W.fnOf x qual (dO st) (dc st) (am st) .none kV doc pm an cdv ct),osl⟩)
  (c:PySem.W.codeIn K cdv qual=true)(k:PySem.W.keepIn K (.ref f)=true):Fun K x qual st f (PySem.W.fnOf x qual (dO st) (dc st) (am st) .none kV doc pm an cdv ct):=⟨⟨oc,od,kV,doc,pm,an,cdv,ct,osl,rfl,l,c⟩,k⟩
end
theorem iB{A:Around}{k:Nat}(hr:bj k A):A.units + 1 < cLine:=Nat.lt_of_le_of_lt (Nat.add_le_add_left (by decide:1 <= 64) _) hr.units
theorem bO{n:Nat}(h:n <= 1000):n < sizeLine:=Nat.lt_of_le_of_lt h (by decide)
section
variable{X:Cx}
theorem pv (i:Nat) {x:Str} {pos:Pos} (hN:X.N[i]?=some x:=by rfl) (hv:Vis X.env.scope x:=by first | exact Or.inl rfl | exact Or.inr (Or.inl rfl) | exact Or.inr (Or.inr rfl)) (hd:(x == ("__debug__":Str))=false:=by decide)
  (hcd:(x == ("__classdict__":Str))=false:=by decide):PE X (.Name x pos) (tVar i):=pe_var hN hv hd hcd
end
theorem aY{A B:Prop}(h:B):if false=true then A else B:=by
 rw[if_neg Bool.false_ne_true];exact h
theorem bJ{A B:Prop}(h:A):if true=true then A else B:=by
 rw[if_pos rfl];exact h
theorem bN{c A B:Prop} [Decidable c](h1:c->A)(h2:¬c->B):if c then A else B:=by
 by_cases h:c
 ·rw[if_pos h];exact h1 h
 ·rw[if_neg h];exact h2 h
theorem nM{c A B:Prop} [Decidable c](hc:c)(h:B):if (!decide c)=true then A else B:=by
 rw[decide_eq_true hc];exact aY h
def aq(H H':Hp):Prop:=∀b o,H b=some o->H' b=some o
theorem aq.refl(H:Hp):aq H H:=fun _ _ h=>h
theorem aq.trans{H H1 H2:Hp}(a:aq H H1)(b:aq H1 H2):aq H H2:=fun c o h=>b c o (a c o h)
theorem aq.free{H H':Hp}(e:aq H H'){l:Addr}(h:H' l=Option.none):H l=Option.none:=by
 cases q:H l with
 | none=>rfl
 | some o =>
  rw[e l o q]at h;cases h
theorem aq.seq{K:Frag}{H H':Hp}{a:Addr}{xs:List V}(e:aq H H')(h:SqL K H a xs):SqL K H' a xs:=by
 rcases h with (h | ⟨o,h⟩) | h
 ·exact .inl (.inl (e _ _ h))
 ·exact .inl (.inr ⟨o,e _ _ h⟩)
 ·exact .inr h
section
variable{κ:Type} [DecidableEq κ]
theorem nN{kvs:List (κ × V)}{k:κ}(h:bK kvs k=none):¬k ∈ kvs.map (·.1):=by
 intro m;obtain⟨p,hp,e⟩:=List.mem_map.mp m;have q:(kvs.any fun kv=>decide (kv.1=k))=true:=List.any_eq_true.mpr ⟨p,hp,decide_eq_true e⟩;rw[fF,h]at q;exact absurd q (by simp)
theorem qK:∀{l:List κ}{k:κ},l.Nodup->¬k ∈ l->(l ++ [k]).Nodup
 | [],k,_,_=>by simp
 | a :: r,k,h,hk=>by
  obtain⟨h1,h2⟩:=List.nodup_cons.mp h;show (a :: (r ++ [k])).Nodup;refine List.nodup_cons.mpr ⟨fun m=>?_,qK h2 fun m=>hk (List.mem_cons.mpr (Or.inr m))⟩;rcases mem_append.mp m with q | q
  ·exact h1 q
  ·exact hk (List.mem_cons.mpr (Or.inl (List.mem_singleton.mp q).symm))
theorem kA{p:κ × V}{r:List (κ × V)}{k:κ}(e:p.1=k):dR (p :: r) k=dR r k:=by
 unfold dR;rw[List.filter_cons,if_neg (by simp[e])]
theorem ia{p:κ × V}{r:List (κ × V)}{k:κ}(e:¬p.1=k):dR (p :: r) k=p :: dR r k:=by
 unfold dR;rw[List.filter_cons,if_pos (by simp[e])]
theorem jk:∀{kvs:List (κ × V)} {k:κ},¬k ∈ kvs.map (·.1)->dR kvs k=kvs
 | [],_,_=>rfl
 | p :: r,k,h=>by
  have h':¬k ∈ r.map (·.1):=fun m=>by
   obtain⟨q,hq,e⟩:=List.mem_map.mp m;exact h (List.mem_map.mpr ⟨q,List.mem_cons.mpr (Or.inr hq),e⟩)
  rw[ia fun e=>h (List.mem_map.mpr ⟨p,List.mem_cons.mpr (Or.inl rfl),e⟩),jk h']
end
theorem gF{env:Env}:∀(l:List (Str × NameKind)) (acc:List (Str × Addr)),(∀x ∈ l,x.2=NameKind.free->∃c,env.cells.lookup x.1=some c)->(∀x c,acc.lookup x=some c->env.cells.lookup x=some c) ->
  ∃cl:List (Str × Addr),(forIn l acc (fun(p:Str × NameKind) (cs:List (Str × Addr))=>if (p.2 == NameKind.free)=true then (do let c <- cellOf env p.1;pure (ForInStep.yield ((p.1,c) :: cs))) else pure (ForInStep.yield cs)):Sem (List (Str × Addr)))=pure cl /\
   (∀x c,cl.lookup x=some c->env.cells.lookup x=some c)/\(∀x,(x,NameKind.free) ∈ l->∃c,cl.lookup x=some c)/\∀x c,acc.lookup x=some c->∃c',cl.lookup x=some c'
 | [],acc,_,ha=>⟨acc,rfl,ha,fun _ z=>(nomatch z),fun x c e=>⟨c,e⟩⟩
 | (n,k) :: r,acc,h,ha=>by
  by_cases hk:k=NameKind.free
  ·subst hk;obtain⟨c,hc⟩:=h (n,NameKind.free) List.mem_cons_self rfl;obtain⟨cl,e1,e2,e3,e4⟩:=gF r ((n,c) :: acc) (fun x hx=>h x (List.mem_cons_of_mem _ hx)) (fun x c' e=>by
    by_cases hx:x=n
    ·subst hx;simp only[List.lookup_cons,beq_self_eq_true]at e;cases e;exact hc
    ·have hb:(x == n)=false:=by simpa using hx
     simp only[List.lookup_cons,hb]at e;exact ha x c' e)
   have hn:∃c',cl.lookup n=some c':=e4 n c (by simp only[List.lookup_cons,beq_self_eq_true])
   refine⟨cl,?_,e2,fun x hx=>?_,fun x c' e=>?_⟩
   ·have hcell:cellOf env n=pure c:=by unfold cellOf;rw[hc]
    rw[List.forIn_cons];show ((if (NameKind.free == NameKind.free)=true then (do let c <- cellOf env n;pure (ForInStep.yield ((n,c) :: acc))) else pure (ForInStep.yield acc)) >>= _)=pure cl
    rw[if_pos (by decide),hcell,pure_bind,pure_bind]
    exact e1
   ·rcases List.mem_cons.mp hx with q | q
    ·cases q;exact hn
    ·exact e3 x q
   ·by_cases hx:x=n
    ·subst hx;exact hn
    ·refine e4 x c' ?_;have hb:(x == n)=false:=by simpa using hx
     simp only[List.lookup_cons,hb];exact e
  ·obtain⟨cl,e1,e2,e3,e4⟩:=gF r acc (fun x hx=>h x (List.mem_cons_of_mem _ hx)) ha;refine⟨cl,?_,e2,fun x hx=>?_,e4⟩
   ·have hb:(k == NameKind.free)=false:=by simpa using hk
    rw[List.forIn_cons];show ((if (k == NameKind.free)=true then (do let c <- cellOf env n;pure (ForInStep.yield ((n,c) :: acc))) else pure (ForInStep.yield acc)) >>= _)=pure cl
    rw[hb,if_neg (by decide),pure_bind]
    exact e1
   ·rcases List.mem_cons.mp hx with q | q
    ·cases q;exact absurd rfl hk
    ·exact e3 x q
theorem pe{scope:Scope}{env:Env}(h:∀x ∈ scope.names,x.2=NameKind.free->∃c,env.cells.lookup x.1=some c) :
  ∃cl:List (Str × Addr),closureFor scope env=pure cl/\(∀x c,cl.lookup x=some c->env.cells.lookup x=some c)/\∀x,(x,NameKind.free) ∈ scope.names->∃c,cl.lookup x=some c:=by
 obtain⟨cl,e1,e2,e3,_⟩:=gF scope.names [] h (fun x c e=>by simp at e)
 refine⟨cl,?_,e2,e3⟩;unfold closureFor;show (forIn scope.names [] _ >>= fun cs=>pure cs)=pure cl;have e1':(forIn scope.names ([]:List (Str × Addr)) (fun(x:Str × NameKind) (cs:List (Str × Addr))=>if (x.2 == NameKind.free)=true then (do let c <- cellOf env x.1;pure (ForInStep.yield ((x.1,c) :: cs))) else pure (ForInStep.yield cs)):Sem (List (Str × Addr)))=pure cl:=e1
 have e5:∀(m:Sem (List (Str × Addr))),m=pure cl->(m >>= fun cs=>pure cs)=pure cl:=fun m e=>by rw[e,pure_bind]
 exact e5 _ e1'
noncomputable def cxC(X:Cx)(scope:Scope)(cl:List (Str × Addr))(N2 ys:List Str)(C:Addr)(s:Shared)(H:Hp)(fp:List Addr):Cx :=
 { prog:=X.prog,w:=X.w,K:=X.K,mg:=X.mg,base:=X.base,A:=X.A,N:=N2 ++ ys,s₀:=s,H₀:=H,env:=compEnvC scope cl C X.env,outer:=X.stack,stack:=X.stack,ex:=fp,fn:=fun _=>false,calm:=X.calm,pn:=[],xe:=fun _ _=>False }
def PTs(X:Cx)(ifs:List Expr)(t:TT):Prop :=
 ∀(pins:List (Addr × Obj)) (s:Shared) (σ:St) (H:Hp) (Q:Bool->Hp->Prop),Inv X pins σ H s->t σ H Q ->
  wpAny (model X.prog X.w) X.A (forIn ifs true fun c r=>if r=true then do let ok <- isTrue c X.env (eval c X.env);pure (ForInStep.yield ok) else pure (ForInStep.yield r)) (TP X pins σ Q) X.xe s
def nO:TT:=fun _ H Q=>Q true H
theorem cR{X:Cx}:PTs X [] nO:=fun _ _ _ H _ I h=>wpAny_tests_nil ⟨H,I,h⟩
theorem nP{prog:Program}{w:World}{A:Around}{R:Result->Shared->Prop}{s:Shared}{elt target iter:Expr}{ifs:List Expr}{scope:Scope}{pos:Pos}{it acc:Value}{env:Env}(I:Nat->Shared->Prop)
  (turn:∀n s,I n s->wpAny (model prog w) A (pyNext it) (fun r s₁=>match r with
   | none=>R (.ok .next) s₁
   | some v=>wpAny (model prog w) A (letOwnedTupleGo target it v) (fun _ s₁'=>wpAny (model prog w) A (assign target env v) (fun _ s₂ =>
     wpAny (model prog w) A (forIn ifs true fun c r=>if r=true then do let ok <- isTrue c env (eval c env);pure (ForInStep.yield ok) else pure (ForInStep.yield r)) (fun ok s₃ =>
      if ok=true then wpAny (model prog w) A (eval elt env) (fun x s₄ =>
       wpAny (model prog w) A (call (.builtin "list.append") [acc,x]) (fun _ s₅=>∃m,m < n/\I m s₅) (notedBy (model prog w) A env fun e s'=>R (.error e) s') s₄) (notedBy (model prog w) A env fun e s'=>R (.error e) s') s₃
      else ∃m,m < n/\I m s₃) (notedBy (model prog w) A env fun e s'=>R (.error e) s') s₂) (notedBy (model prog w) A env fun e s'=>R (.error e) s') s₁') (notedBy (model prog w) A env fun e s'=>R (.error e) s') s₁) (notedBy (model prog w) A env fun e s'=>R (.error e) s') s)
  (n:Nat) (h:I n s) :
  codeAny (model prog w) A (.compLoop (.ListComp elt [⟨target,iter,ifs,0⟩] scope pos) 0 it acc env) R s:=by
 refine codeAny_loop rfl I (fun n s hI=>?_) n h;show wpAny _ A ((compTurn (.ListComp elt [⟨target,iter,ifs,0⟩] scope pos) 0 it acc env).onRaise (fun x=>do noteFrame x env;theTreesLotGoes x)) _ _ s
 refine wpAny_noted ?_;rw[compTurn_list];refine wpAny_bind (wpAny_standAt (wpAny_bind (wpAny_mono (turn n s hI) (fun r s₁ h₁=>?_) fun _ _ h'=>h')));cases r with
 | none=>exact wpAny_pure h₁
 | some v =>
  refine wpAny_bind (wpAny_mono h₁ (fun _ s₁' h₁'=>?_) fun _ _ h'=>h');refine wpAny_bind (wpAny_mono h₁' (fun _ s₂ h₂=>wpAny_bind (wpAny_mono h₂ (fun ok s₃ h₃=>?_) fun _ _ h'=>h')) fun _ _ h'=>h');cases ok with
  | false=>exact wpAny_pure ⟨rfl,h₃⟩
  | true =>
   exact wpAny_bind (wpAny_bind (wpAny_mono h₃ (fun x s₄ h₄=>wpAny_bind (wpAny_mono h₄ (fun _ s₅ h₅=>wpAny_pure (wpAny_pure ⟨rfl,h₅⟩)) fun _ _ h'=>h')) fun _ _ h'=>h'))
def LCT(k:Nat)(g:TG)(tt:TT)(te:TE)(σ:St)(Q:VK)(J:It)(H1:Hp):Prop:=∀D,H1 D=none->∃W:Nat->Nat->List V->Hp->Prop,(∃m,W 0 m [] (upd H1 D (.lst [])))/\∀i m ys H,W i m ys H ->
 (J.stop i H/\Q (.ref D) H)\/(J.go i H/\∀x H',J.yld i H x H'->g x (σ ++ List.replicate k none) H' fun σ2 H2=>(∃τ:St,σ2=σ ++ τ/\τ.length=k) /\
  tt σ2 H2 fun b H3=>if b=true then te σ2 H3 fun y H4=>H4 D=some (.lst ys)/\ys.length < sizeLine/\∃m',m' < m/\W (i + 1) m' (ys ++ [y]) (upd H4 D (.lst (ys ++ [y]))) else ∃m',m' < m/\W (i + 1) m' ys H3)
def tLC(k:Nat)(wi:TI)(g:TG)(tt:TT)(te:TE):TE:=fun σ H Q=>wi σ H (LCT k g tt te σ Q)
theorem cg{env:Env}:∀{names:List (Str × NameKind)} {x:Str} {k:NameKind},(names.map fun(n,k)=>if (k == NameKind.free && env.scope.kind == .function && env.kindOf n == some .cell) then (n,NameKind.cell) else (n,k)).lookup x=some k ->
  (names.lookup x=some k)\/(names.lookup x=some .free/\k=.cell)
 | [],_,_,h=>by simp at h
 | (n,k0) :: r,x,k,h=>by
  have ih:=@cg env r x k;have h:List.lookup x ((if (k0 == NameKind.free && env.scope.kind == .function && env.kindOf n == some .cell)=true then (n,NameKind.cell) else (n,k0)) :: r.map fun(n,k)=>if (k == NameKind.free && env.scope.kind == .function && env.kindOf n == some .cell) then (n,NameKind.cell) else (n,k))=some k:=h
  cases hx:x == n with
  | true =>
   by_cases hc:(k0 == NameKind.free && env.scope.kind == .function && env.kindOf n == some .cell)=true
   ·rw[if_pos hc]at h;simp only[List.lookup_cons,hx]at h;cases h;have hf:k0=.free:=by
     have:=hc;simp only[Bool.and_eq_true,beq_iff_eq]at this;exact this.1.1
    right
    simp only[List.lookup_cons,hx,hf,and_self]
   ·rw[if_neg hc]at h;simp only[List.lookup_cons,hx]at h;cases h;left
    simp only[List.lookup_cons,hx]
  | false =>
   have h':List.lookup x (r.map fun(n,k)=>if (k == NameKind.free && env.scope.kind == .function && env.kindOf n == some .cell) then (n,NameKind.cell) else (n,k))=some k:=by
    by_cases hc:(k0 == NameKind.free && env.scope.kind == .function && env.kindOf n == some .cell)=true
    ·rw[if_pos hc]at h;simp only[List.lookup_cons,hx]at h;exact h
    ·rw[if_neg hc]at h;simp only[List.lookup_cons,hx]at h;exact h
   rcases ih h' with q | q
   ·left;simp only[List.lookup_cons,hx];exact q
   ·right;simp only[List.lookup_cons,hx];exact q
theorem lcJ{J:It}{n k:Nat}{σ:St}{H1:Hp}{te:TE}{Q:VK}(xv:Nat->V)(Pv:Addr->Nat->List V->Hp->Prop)(hk:σ.length=k)
  (hgo:∀D i ys H,i < n->Pv D i ys H->J.go i H)(hyld:∀D i ys H x H',i < n->Pv D i ys H->J.yld i H x H'->H'=H/\x=xv i)(hstop:∀D ys H,Pv D n ys H->J.stop n H)
  (h0:∀D,H1 D=none->Pv D 0 [] (upd H1 D (.lst [])))
  (turn:∀D i ys H (post:VK),i < n->Pv D i ys H->(∀y H4,H4 D=some (.lst ys)->ys.length < sizeLine->Pv D (i + 1) (ys ++ [y]) (upd H4 D (.lst (ys ++ [y])))->post y H4)->te (σ ++ [some (xv i)]) H post)
  (fin:∀D ys H,Pv D n ys H->Q (.ref D) H) :
  LCT 1 (iy k) nO te σ Q J H1:=by
 intro D hD;refine⟨fun i m ys H=>m=n - i/\i <= n/\Pv D i ys H,⟨n,by simp,Nat.zero_le _,h0 D hD⟩,?_⟩
 rintro i m ys H ⟨rfl,hi,p⟩;by_cases hlt:i < n
 ·refine .inr ⟨hgo D i ys H hlt p,fun x H' y=>?_⟩;obtain⟨rfl,rfl⟩:=hyld D i ys H x H' hlt p y;have e:(σ ++ List.replicate 1 (none:Option V)).set k (some (xv i))=σ ++ [some (xv i)]:=by
   subst hk;simp[List.set_append]
  unfold iy;rw[e];unfold nO;refine⟨⟨_,rfl,rfl⟩,?_⟩;refine bJ ?_;exact turn D i ys H' _ hlt p fun y H4 h1 h2 h3=>⟨h1,h2,n - (i + 1),by lia,rfl,hlt,h3⟩
 ·have e:i=n:=by lia
  subst e;exact .inl ⟨hstop D ys H p,fin D ys H p⟩
end L2
namespace L2
open PySem PySem.Spec PyProof.Rows PySem.Builtin PySem.Builtin.Str
section
variable{X:Cx}
theorem bo{K:Frag}{T:String}:PySem.W.kitOne K (.type T) (.type T)=some true:=by
 unfold PySem.W.kitOne;rw[if_pos (by simp)]
def tTup0:TE:=fun _ H Q=>∀p,H p=none->Q (.ref p) (upd H p (.frz { cls:=.type "tuple",data:=.seq #[] } (.tup [])))
theorem iO{x1:Nat}{pos:Pos}:PE X (.Tuple [] x1 pos) tTup0:=by
 intro pins s σ H Q I hq;refine wpAny_Tuple_spliced (thn (ag (X:=X) pos pins s σ H (fun xs H1=>xs=[]/\H1=H) I ⟨rfl,rfl⟩) fun us s1 ⟨xs,H1,I1,r,e1,e2⟩=>?_);subst e1 e2;cases r;refine⟨Nat.zero_le _,?_⟩;have hf:H1 s1.heap.objs.size=none:=I1.hok.fresh (Nat.le_refl _);refine⟨.ref s1.heap.objs.size,upd H1 s1.heap.objs.size _,I1.laid (t':=s1.toks) (fun b u e=>get?_push_of_some _ e) (Nat.le_refl _) ?_,rfl,hq _ hf⟩
 exact⟨get?_push_size _ rfl,Nat.zero_le _,[],.nil,⟨_,get?_push_size _ rfl,rfl,_,rfl⟩⟩
end
set_option maxRecDepth 8000 in
theorem gr{prog:Program}{w:World}{A:Around}{E:Value->Shared->Prop}{s:Shared}{a:Addr}{o:Obj}{xs:Array Value}{k:Nat}{name:Str}{Q:Option Value->Shared->Prop}
  (hx:s.heap.get? a=some o) (hc:o.cls=.type "tuple") (hdat:o.data=.seq xs k) (hd:o.dict=none) (hmiss:typeLookup (.type "tuple") name=pure none) (hname:(["__module__","__name__","__qualname__","__doc__","__annotations__"]:List Str).contains name=false) (hA:A.handled=none)
  (h:∀h' tk,(∀b o,s.heap.get? b=some o->h'.get? b=some o)->Q none { s with heap:=h',toks:=tk }) (hsz:name.length + 100 <= sizeLine:=by size_fits) :
  wpAny (model prog w) A (getAttr? (.ref a) name) Q E s:=by
 obtain⟨c,dct,dat,sl⟩:=o;simp only at hc hdat hd;subst hc hdat hd;obtain⟨hp,g,d,tk,os⟩:=s;have hT:∀tk',(⟨hp,g,d,tk',os⟩:Shared).TypeIs (.ref a) "tuple":=fun _=>⟨_,hx,rfl⟩;have f1:=sub_AttributeError;have f3:=F.slot_tuple_getattribute.lookup;have f4:=F.slot_tuple_getattribute.bind (.ref a);have f5:=am_tuple_getattr_none;unfold getAttr? getAttrBy? getAttrBy
 repeat (any_goals (first | assumption | exact hT _ | ((with_reducible show wpAny _ _ (call (Value.builtin "tuple.__getattribute__") _ _) _ _ _);refine call_meets F.slot_tuple_getattribute (hT _) am_entry_tuple_getattribute (F.args_tuple_getattribute_2 _ _) (meets_getattribute_miss_tuple a xs k sl name _ hmiss hname hsz) ⟨hx,hA,fun h' tk' e hx'=>?_⟩) | wp_step))
 obtain⟨t',u',he⟩:=hx'.there;show wpAny _ _ (getattributeRaised _ _ _ _ _ _ _) _ _ _;unfold getattributeRaised
 repeat (any_goals (first | assumption | wp_step))
 exact h _ _ (fun b o q=>hx'.of.keeps b o q)
end L2
namespace L2
open PySem PySem.Spec PyProof.Rows
theorem upd_id{H:Hp}{a:Addr}{o:HO}(h:H a=some o):upd H a o=H:=by
 funext b
 unfold upd;split
 ·rename_i e;subst e;exact h.symm
 ·rfl
theorem SqT.upd{K:Frag}{H:Hp}{d b:Addr}{m:List (Key × V)}{o:HO}{xs:List V}(h:SqT K H b xs)(e:H d=some (.dK m)):SqT K (L2.upd H d o) b xs:=by
 rcases h with (h | ⟨o',h⟩) | h
 ·exact .inl (.inl (by rw[aw (aN h e (by intro z;cases z))];exact h))
 ·exact .inl (.inr ⟨o',by rw[aw (aN h e (by intro z;cases z))];exact h⟩)
 ·exact .inr h
theorem fo:entryFor table "dict.update.loop"=some Builtin.«dict.update.loop»:=entryFor_of_tree (by kernel_rfl)
theorem rZ{X:Cx}{pins:List (Addr × Obj)}{σ:St}{A:Around}{E:Value->Shared->Prop}{a d it:Addr}{ps:List V}{Q:Shared->Prop}(hA:A.handled=none) :
  ∀(kvs:List (Key × V)) (i:Nat) (s:Shared) (H:Hp) (m:List (Key × V)),Inv X pins σ H s->SqT X.K H a ps->gZ X pins H it->s.heap.IsTupleIter it a i->H d=some (.dK m)->m.length + kvs.length <= sizeLine ->
   (∀j kv,kvs[j]?=some kv->∃b,ps[i + j]?=some (.ref b)/\SqT X.K H b [kV kv.1,kv.2])->ps.length=i + kvs.length ->
   (∀s',Inv X pins σ (upd H d (.dK (kvs.foldl (fun m kv=>ck m kv.1 kv.2) m))) s'->Q s') ->
   codeAny (model X.prog X.w) A (.builtin "dict.update.loop" ⟨[.ref d,.ref it,.int i 0,.none],[]⟩) (wants (fun r s₂=>r=.none/\Q s₂) E) s:=by
 intro kvs;induction kvs with
 | nil =>
  intro i s H m I ha hf hit hd hm hp hl hQ;obtain⟨its,rv,p,hz⟩:=I.tuple ha;obtain⟨f0,f1,f2,f3,f4,f5⟩:=hf;have hlen:=rv.length;refine codeAny_builtin fo ?_;unfold Builtin.«dict.update.loop»;refine wpAny_bind (wpAny_pyNext_tuple_end (by first | exact hA | (simpa[Around.under] using hA)) hit (show s.heap.IsTuple a its.toArray from p) (by simp at hl ⊢;omega) fun h' eb=>?_)
  show wpAny _ _ (Builtin.Dict.addKeywords d [] >>= fun _=>ret Value.none) _ _ _;refine wpAny_bind (wpAny_pure (wpAny_pure ⟨rfl,hQ _ ?_⟩));show Inv X pins σ (upd H d (.dK m)) _;rw[upd_id hd];exact I.turned (t':=s.toks) (fun b o hb e=>eb b o hb e) f0 f1 f3 f4 f5
 | cons kv rest ih =>
  intro i s H m I ha hf hit hd hm hp hl hQ;obtain⟨its,rv,p,hz⟩:=I.tuple ha;obtain⟨b,hb,hbt⟩:=hp 0 kv rfl;obtain⟨u,hu,ru⟩:=rv.get (show ps[i]?=some (.ref b) from hb);cases ru;have hf':=hf;obtain⟨f0,f1,f2,f3,f4,f5⟩:=hf;refine codeAny_builtin fo ?_;unfold Builtin.«dict.update.loop»;refine wpAny_bind (wpAny_pyNext_tuple_item hit (show s.heap.IsTuple a its.toArray from p) (x:=.ref b) (by simpa using hu) fun h' st' sb=>?_)
  have I1:Inv X pins σ H { s with heap:=h' }:=I.turned (t':=s.toks) (fun b o hb e=>(sb.2 b hb).trans e) f0 f1 f3 f4 f5;obtain⟨pr,rp,pt,_⟩:=I1.tuple hbt;obtain⟨ku,vu,epr,rk,rvv⟩:∃ku vu,pr=[ku,vu]/\bi (kV kv.1) ku/\bi kv.2 vu:=by
   obtain⟨u1,u2,e1,r1,r2⟩:=nu rp;exact⟨u1,u2,e1,r1,r2⟩
  subst epr;obtain⟨ob,ho,hc,n,hdt⟩:=id pt;show wpAny _ _ (holding [Value.ref b] _ >>= _) _ _ _;refine wpAny_bind (wpAny_holding ?_);refine wpAny_bind (wpAny_tryCatch ?_);unfold Builtin.Dict.pairItems;refine wpAny_bind (wpAny_typeOf (show ({ s with heap:=h' }:Shared).TypeIs (.ref b) "tuple" from⟨ob,ho,hc⟩) ?_);rw[if_pos (by decide)]
  refine wpAny_bind (wpAny_seqItems ho hdt (wpAny_pure ?_));show wpAny _ _ (holding [ku,vu] (dictSet d ku vu)) _ _ _;refine wpAny_holding ?_;obtain⟨z,hdd,vs,rel,dd⟩:=nB I1.hok hd;have hz2:vs.length <= sizeLine:=by rw[<- rel.length];exact z
  simp only[length_cons]at hm hl;have hl2:(ck m kv.1 kv.2).length <= m.length + 1:=dU m kv.1 kv.2;refine wpAny_dictSet_pairs (hsz:=hz2) (fk rk) dd fun h2 dd' hs=>?_;have he:∃q,h2.get? d=some q:=let ⟨q,_,_,hq,_⟩:=dd';⟨q,hq⟩;have I2:Inv X pins σ (upd H d (.dK (ck m kv.1 kv.2))) { heap:=h2,gens:=s.gens,drawn:=s.drawn,toks:=s.toks + 1,os:=s.os }:=iN (s:={ s with heap:=h' }) (t':=s.toks + 1) I1 (by rw[hd];exact True.intro) hs he (o6 (by omega) hdd (rel.put kv.1 rvv) dd')
  have nit:it ≠ d:=by
   rintro rfl;rw[hd]at f0;cases f0
  refine wpAny_pure ⟨Code.quiet_builtin _ (by decide +kernel),?_⟩
  have:=ih (i + 1) { heap:=h2,gens:=s.gens,drawn:=s.drawn,toks:=s.toks + 1,os:=s.os } (upd H d (.dK (ck m kv.1 kv.2))) (ck m kv.1 kv.2) I2 (ha.upd hd) ⟨by rw[aw nit];exact f0,f1,f2,f3,f4,f5⟩
   (st'.at fun o e=>(hs.2 it nit).trans e) ai (by omega) (fun j kv' e=>by
    obtain⟨b',h1,h2⟩:=hp (j + 1) kv' (by simpa using e)
    exact⟨b',by rw[show i + 1 + j=i + (j + 1) by omega];exact h1,h2.upd hd⟩) (by omega) (fun s' I'=>hQ s' (by rw[lh]at I';exact I'))
  exact this
def rDictOf(K:Frag):List V->Hp->VK->Prop:=fun xs H Q=>∃(a:Addr)(o:Obj)(ps:List V) (kvs:List (Key × V)),xs=[.ref a]/\H a=some (.frz o (.tup ps))/\o.dict=none/\ps.length=kvs.length/\(∀(j:Nat)(kv:Key × V),kvs[j]?=some kv->∃b,ps[j]?=some (.ref b)/\SqT K H b [kV kv.1,kv.2]) /\
 ∀d,H d=none->Q (.ref d) (upd H d (.dK (kvs.foldl (fun m kv=>ck m kv.1 kv.2) [])))
theorem SqT.new{K:Frag}{H:Hp}{d b:Addr}{o:HO}{xs:List V}(h:SqT K H b xs)(e:H d=none):SqT K (L2.upd H d o) b xs:=by
 rcases h with (h | ⟨o',h⟩) | h
 ·exact .inl (.inl (by rw[aw (ak h e)];exact h))
 ·exact .inl (.inr ⟨o',by rw[aw (ak h e)];exact h⟩)
 ·exact .inr h
theorem kB {X:Cx} (hc:X.calm=true):dD X (.type "dict") (rDictOf X.K):=by
 intro pins s σ H xs us Q I rv h;obtain⟨a,o,ps,kvs,rfl,ha,hod,hlen,hp,q⟩:=h;obtain⟨u,rfl,ru⟩:=rv.one;cases ru;have haT:SqT X.K H a ps:=.inl (.inr ⟨o,ha⟩);obtain⟨hao,hz,its,rvs,p⟩:=(show cD X.prog X.w H s.heap a (.frz o (.tup ps)) from I.hok a _ ha);obtain⟨o',ho',hcl,n,hdt⟩:=id p;rw[hao]at ho';cases ho';have fd:H s.heap.objs.size=none:=I.hok.fresh (Nat.le_refl _);have I1:Inv X pins σ (upd H s.heap.objs.size (.dK [])) { s with heap:=s.heap.push { cls:=.type "dict",data:=.dict #[] } }:=I.laid (t':=s.toks) (fun _ _ q=>get?_push_of_some _ q) (Nat.le_refl _) (nD s.heap I.big);refine callType_codes (Q₁:=fun obj s₁=>obj=.ref s.heap.objs.size/\s₁={ s with heap:=s.heap.push { cls:=.type "dict",data:=.dict #[] } }) F.kt_called_dict (F.kt_typeCall_dict_1 _) F.entry_dict_init (kt_code_dict_new _ ⟨rfl,rfl⟩) ?_;rintro obj s₁ ⟨rfl,rfl⟩;have hnew:(s.heap.push { cls:=.type "dict",data:=.dict #[] }).DictOf (bC X.prog X.w) s.heap.objs.size []:=Heap.DictOf.new s.heap;refine⟨hnew.typeIs,F.args_dict_init_2 _ _,?_⟩;unfold Builtin.«dict.__init__»;refine wpAny_bind ?_;unfold Builtin.Dict.selfAndRest;refine wpAny_bind (wpAny_notOrdered_dict hnew.typeIs ?_);show wpAny _ _ (pure (s.heap.objs.size,[Value.ref a])) _ _ _;refine wpAny_pure ?_;show wpAny _ _ (Builtin.Dict.updateFrom "dict.__init__" s.heap.objs.size (.ref a) [] .none) _ _ _;unfold Builtin.Dict.updateFrom;have ha1:(s.heap.push { cls:=.type "dict",data:=.dict #[] }).get? a=some o:=get?_push_of_some _ hao;refine wpAny_bind (wpAny_typeOf (show ({ s with heap:=s.heap.push { cls:=.type "dict",data:=.dict #[] } }:Shared).TypeIs (.ref a) "tuple" from⟨o,ha1,hcl⟩) ?_);rw[if_pos (by decide)]
 have hh:X.A.handled=none:=I.ok.hd hc;refine wpAny_bind (gr (A:=X.A.in1.in1) (name:="keys") ha1 hcl hdt hod (am_miss_of_fast (by decide +kernel)) (by decide +kernel) hh fun h' tk keep=>?_)
 have I2:Inv X pins σ (upd H s.heap.objs.size (.dK [])) { s with heap:=h',toks:=tk }:=I1.kept (t':=tk) keep;rw[if_pos (show (none:Option Value).isNone=true from rfl)];refine wpAny_bind (wpAny_rule (wpAny_bind ?_));obtain⟨its2,rv2,p2,_⟩:=I2.tuple (haT.new fd);refine wpAny_pyIter_tuple (show h'.IsTuple a its2.toArray from p2) ?_;have I3:Inv X pins σ (upd H s.heap.objs.size (.dK [])) { s with heap:=h'.push { cls:=.type "tuple_iterator",data:=.fields #[.ref a,.int 0 0] },toks:=tk }:=I2.kept (t':=tk) fun b o e=>get?_push_of_some _ e;refine wpAny_pure ⟨Code.quiet_builtin _ (by decide +kernel),?_⟩
 refine rZ (A:=X.A.in1) (E:=X.xe) (Q:=fun s₂=>EP X pins σ Q (Value.ref s.heap.objs.size) s₂) (X:=X) (pins:=pins) (σ:=σ) (a:=a) (ps:=ps) (d:=s.heap.objs.size) (it:=h'.objs.size) hh kvs 0 _ (upd H s.heap.objs.size (.dK [])) [] I3 (haT.new fd)
  (I2.fpOk (Nat.le_refl _) (I2.hok.fresh (Nat.le_refl _))) ⟨_,get?_push_size _ rfl,rfl,rfl⟩ ai (by rw[List.length_nil];omega) (fun j kv e=>?_) (by omega) (fun s' I'=>?_)
 ·obtain⟨b,h1,h2⟩:=hp j kv e;exact⟨b,by rw[Nat.zero_add];exact h1,h2.new fd⟩
 ·rw[lh]at I';exact⟨.ref s.heap.objs.size,_,I',rfl,q _ fd⟩
section
variable{X:Cx}
theorem ux(hu:X.A.units + 1 < cLine):OpR X (compareOp .NotEq) (fun x y H Q=>∃a b xs,x=.ref a/\y=.ref b/\SqL X.K H a xs/\SqL X.K H b []/\Q (.bl (!xs.isEmpty)) H):=by
 intro pins s σ H x y v u Q I rx ry h;obtain⟨a,b,xs,rfl,rfl,ha,hb,q⟩:=h;cases rx;cases ry;obtain⟨its,rv,p,_⟩:=I.list ha;obtain⟨its2,rv2,p2,_⟩:=I.list hb;cases rv2;have hl:=rv.length;cases xs with
 | nil =>
  cases rv;exact SeqAt.RcNeAt.lists (e:=fun _=>true) p.isList p2.isList rfl (Nat.lt_of_succ_lt hu) (fun j h1 _=>absurd h1 (by simp)) _ _ _ _ (bp I q (by rfl))
 | cons z r =>
  exact SeqAt.RcNeAt.lists_lengths p.isList p2.isList (by simp only[size_toArray,<- hl,length_cons,List.length_nil];simp) (Nat.lt_of_succ_lt hu) _ _ _ _ (bp I q (by rfl))
theorem qL{bs:List Bool}{us:List Value}(r:bA (bs.map V.bl) us){i:Nat}{v:Value}(h:us[i]?=some v):∃b,bs[i]?=some b/\v=.bool b:=by
 have hl:=r.length;rw[length_map]at hl;have hi:i < bs.length:=by have:=(List.getElem?_eq_some_iff.mp h).1;lia
 obtain⟨u,e,ru⟩:=r.get (i:=i) (x:=V.bl bs[i]) (by rw[getElem?_map,getElem?_eq_getElem hi];rfl)
 rw[h]at e;cases e;exact⟨_,getElem?_eq_getElem hi,ru⟩
theorem pf(bs:List Bool):((List.range bs.length).all fun i=>(bs[i]?).getD true)=bs.all id:=by
 rw[Bool.eq_iff_iff,List.all_eq_true,List.all_eq_true];constructor
 ·intro h b hb;obtain⟨i,hi,rfl⟩:=List.mem_iff_getElem.mp hb;have:=h i (List.mem_range.mpr hi);rw[getElem?_eq_getElem hi]at this;exact this
 ·intro h i hi;have hi:=List.mem_range.mp hi;rw[getElem?_eq_getElem hi];exact h _ (List.getElem_mem hi)
theorem eF (hc:X.calm=true):dD X (.builtin "all") (fun xs H Q=>∃(p:Addr)(bs:List Bool),xs=[.ref p]/\SqL X.K H p (bs.map V.bl)/\Q (.bl (bs.all id)) H):=by
 intro pins s σ H xs us Q I rv h;obtain⟨p,bs,rfl,hS,q⟩:=h;obtain⟨u,rfl,ru⟩:=rv.one;cases ru;obtain⟨its,r,hp,_⟩:=I.list hS;have hlen:its.length=bs.length:=by have:=r.length;rw[length_map]at this;lia
 have hl:=hp.isList;have hlt:p < s.heap.objs.size:=by obtain⟨_,e,_⟩:=hl;exact lt_size e
 refine call_all_walk (wpAny_pyIter_list hl ?_);refine⟨s.heap.objs.size,[s.heap.objs.size,p],[s.heap.objs.size],its.toArray.size,_,_,fun i=>(bs[i]?).getD true,rfl,Walks.list (A:=X.A.in1) (I.ok.hd hc) _ p (Nat.ne_of_lt hlt) its.toArray,
  ⟨⟨_,get?_push_size _ rfl,rfl,rfl⟩,hl.push _⟩,fun i v s' Q' E' hP hQ=>?_,fun h' tk hk=>?_⟩
 ·obtain⟨b,e,rfl⟩:=qL r (i:=i) (v:=v) (by simpa using hP)
  simp only[e,Option.getD_some]at hQ;exact wpAny_truthy_bool hQ
 ·rw[size_toArray,hlen,pf];refine⟨.bl _,H,I.kept (t':=tk) fun b o e=>hk b o (fun hm=>?_) (get?_push_of_some _ e),rfl,q⟩
  rw[List.mem_singleton.mp hm]at e;exact Nat.lt_irrefl _ (lt_size e)
end
theorem qM{X:Cx}{elt tg iter:Expr}{ifs:List Expr}{scope:Scope}{pos cpos:Pos}{use:Option (Value->Sem Unit)}{QQ:Value->Shared->Prop}{pins:List (Addr × Obj)}{s:Shared}{σ:St}{H:Hp}{Q:VK}{wi:TI}{g:TG}{tt:TT}{te:TE}
  (N N2 ys:List Str)(sc:Scope)(hc:X.calm=true)(hNe:X.N=N)(hNl:N2.length=N.length)(hsub:∀p ∈ N2.zip N,p.1=p.2\/¬scope.names.lookup p.1=some .free)(hsc:X.env.scope=sc)(hkind:scope.kind=.function)(hcell:∀y ∈ scope.names,y.2 ≠ .cell)(hnames:∀y ∈ scope.names,y.2=.local->scope.names.lookup y.1=some .local)
  (hfr:∀y ∈ scope.names,y.2=.free->sc.names.lookup y.1=some .cell)(hloc:∀y ∈ N2,scope.names.lookup y ≠ some .local)
  (hi:PI X tg iter wi)(hg:∀cl C s H fp,PG (cxC X scope cl N2 ys C s H fp) tg g)(ht:∀cl C s H fp,PTs (cxC X scope cl N2 ys C s H fp) ifs tt)(he:∀cl C s H fp,PE (cxC X scope cl N2 ys C s H fp) elt te)
  (I:Inv X pins σ H s)(h:tLC ys.length wi g tt te σ H Q)
  (fin0:∀(D C:Addr)(H':Hp)(s':Shared),Inv X pins σ H' s'->gZ X pins H' C->(∃m,s'.heap.Ns C m)->Q (.ref D) H'->compPost (model X.prog X.w) X.A X.xe use QQ (.ref D) C (.ok .next) s')
  (hs:∀x,foldedSetIterable iter X.env x=pure x:=by intro _;rfl) :
  wpAny (model X.prog X.w) X.A (comprehension (.ListComp elt [⟨tg,iter,ifs,0⟩] scope pos) scope X.env cpos (newList []) false (eval iter X.env) use) QQ X.xe s:=by
 obtain⟨cl,hclos,cl1,cl2⟩:=pe (scope:=scope) (env:=X.env) (fun x hx hf=>I.ok.has x.1 (.inl (by
  show X.env.scope.names.lookup x.1=_;rw[hsc];exact hfr x hx hf)))
 refine wpAny_comprehension_free (use:=use) rfl hs hclos hkind hnames (thn (hi pins s σ H _ I h) fun v s1 h1=>thn h1 fun itv s2 h2=>?_);obtain⟨it,fp,tn,J,H2,e,I2,T,st2,f2,hD⟩:=h2;subst e;refine wpAny_newObj_type (wpAny_newFunctionEnv hcell (by intro y hy;simp at hy) (fun h₁ hns₁ hsb₁=>?_) hkind)
 have I3:Inv X pins σ (upd H2 s2.heap.objs.size (.lst [])) { s2 with heap:=s2.heap.push { cls:=.type "list",data:=.seq ([]:List Value).toArray },toks:=s2.toks }:=I2.lnew (ys:=[]) (its:=[]) .nil (Nat.zero_le _);have fD:H2 s2.heap.objs.size=none:=I2.hok.fresh (Nat.le_refl _);obtain⟨W,⟨m0,w0⟩,turn⟩:=hD _ fD;have hfp2:∀b ∈ fp,b < s2.heap.objs.size:=fun b hb=>by
  obtain⟨o,e,_⟩:=T.obj 0 s2.heap st2 b hb;exact lt_size e
 dsimp only at hns₁ hsb₁ I3 ⊢;generalize hH2:s2.heap.push { cls:=.type "list",dict:=none,data:=.seq ([]:List Value).toArray }=H3h at hns₁ hsb₁ I3 ⊢;generalize hDd:s2.heap.objs.size=D at *;have hC:H3h.objs.size=D + 1:=by rw[<- hH2,Heap.size_push,hDd]
 generalize hCc:H3h.objs.size=C at *;have hDC:D < C:=by rw[hC];exact Nat.lt_succ_self _
 have hCD:C ≠ D:=Nat.ne_of_gt hDC;have hfpC:∀b ∈ fp,b ≠ C:=fun b hb=>Nat.ne_of_lt (Nat.lt_trans (hfp2 b hb) hDC);have hfpD:∀b ∈ fp,b ≠ D:=fun b hb=>Nat.ne_of_lt (hfp2 b hb);have old2:∀b o,s2.heap.get? b=some o->H3h.get? b=some o:=fun b o e=>by rw[<- hH2];exact get?_push_of_some _ e
 have old:∀b o,H3h.get? b=some o->h₁.get? b=some o:=fun b o e=>hsb₁.extBut b o (Nat.ne_of_lt (by have:=lt_size e;rw[hCc]at this;exact this)) (get?_push_of_some _ e)
 have frH:upd H2 D (.lst []) C=none:=by rw[aw hCD];exact I2.hok.fresh (by rw[hDd];exact Nat.le_of_lt hDC)
 have ok':(cxC X scope cl N2 ys C { s2 with heap:=H3h } (upd H2 D (.lst [])) fp).Ok:=by
  refine⟨I.ok.mod,hkind,I.ok.glob,I.ok.blt,?_,?_,?_,?_,I.ok.hd,I.ok.frames,.inl rfl,?_,?_,?_,?_,?_,?_,?_⟩
  ·show H3h.objs.size <= C;exact Nat.le_of_eq hCc
  ·intro x y c h1 h2;exact I.ok.inj x y c (cl1 x c h1) (cl1 y c h2)
  ·intro x hx;have hx:(relabel scope X.env).names.lookup x=some .cell\/(relabel scope X.env).names.lookup x=some .free:=hx;have key:scope.names.lookup x=some .free\/scope.names.lookup x=some .cell:=by
    rcases hx with q | q
    ·rcases cg q with z | z
     ·exact .inr z
     ·exact .inl z.1
    ·rcases cg q with z | z
     ·exact .inl z
     ·exact .inl z.1
   rcases key with q | q
   ·exact cl2 x (PySem.mem_of_lookup q)
   ·exact absurd rfl (hcell _ (PySem.mem_of_lookup q))
  ·intro x c z _;exact absurd (show false=true from z) (by decide)
  ·intro b hb;refine⟨fun z=>?_,fun x c e=>?_⟩
   ·exact hfpC b hb z
   ·exact(f2 b hb).2.2.2.2.1 x c (cl1 x c e)
  ·intro b o e;exact⟨I3.bk b o e,(I3.bs b o e).2⟩
  ·exact Nat.le_trans I.ok.bsz I3.sz
  ·intro b o e hb;rcases (f2 b hb).2.2.2.1 with q | q
   ·exact I.ok.noex b o e q
   ·exact absurd (Nat.lt_of_lt_of_le (lt_size e) (Nat.le_trans I.ok.bsz q)) (Nat.lt_irrefl _)
  ·intro b hb hz;rcases List.mem_cons.mp (I.stkSub b hz) with q | q
   ·exact(f2 b hb).2.1 q
   ·exact(f2 b hb).2.2.1 q
  ·exact I3.stack
  ·intro b hb;exact I3.stkFree b hb
 have lenN:N2.length=X.N.length:=by rw[hNl,hNe]
 have lenR:(σ ++ List.replicate ys.length (none:Option V)).length=(N2 ++ ys).length:=by
  rw[length_append,length_append,List.length_replicate,I.len,lenN]
 have I4:Inv (cxC X scope cl N2 ys C { s2 with heap:=H3h } (upd H2 D (.lst [])) fp) [] (σ ++ List.replicate ys.length none) (upd H2 D (.lst [])) { s2 with heap:=h₁,toks:=s2.toks + ([]:List (Str × Value)).length }:=by
  refine⟨ok',rfl,I2.bare,Un.kept old,⟨_,hns₁,?_⟩,?_,frH,?_,?_,I3.hok.kept old,lenR⟩
  ·intro i x v h1 h2 h3;have hi:i < X.N.length:=by
    by_cases hi:i < X.N.length
    ·exact hi
    ·exfalso;rw[List.getElem?_append_right (by rw[I.len];lia),List.getElem?_replicate]at h2
     split at h2 <;> cases h2
   have h1:N2[i]?=some x:=by
    have h1:(N2 ++ ys)[i]?=some x:=h1;rw[List.getElem?_append_left (by rw[lenN];exact hi)]at h1
    exact h1
   have h2:σ[i]?=some (some v):=by
    rw[List.getElem?_append_left (by rw[I.len];exact hi)]at h2
    exact h2
   have h3:Vis (relabel scope X.env) x:=h3;have hx:x ∈ N2:=mem_of_getElem? h1;have hfree:scope.names.lookup x=some .free:=by
    rcases h3 with q | q | q
    ·rcases cg q with z | z
     ·exact absurd z (hloc x hx)
     ·exact z.1
    ·rcases cg q with z | z
     ·exact absurd rfl (hcell _ (PySem.mem_of_lookup z))
     ·exact z.1
    ·rcases cg q with z | z
     ·exact z
     ·exact z.1
   have h1:X.N[i]?=some x:=by
    rw[hNe]at hi ⊢;have h1z:(N2.zip N)[i]?=some (x,N[i]):=by
     rw[List.getElem?_zip_eq_some];exact⟨h1,getElem?_eq_getElem hi⟩
    rcases hsub _ (mem_of_getElem? h1z) with e | e
    ·rw[getElem?_eq_getElem hi];exact congrArg some e.symm
    ·exact absurd hfree e
   have hk:X.env.scope.names.lookup x=some .cell:=by rw[hsc];exact hfr _ (PySem.mem_of_lookup hfree) rfl
   obtain⟨m,hn,hl⟩:=I3.loc;obtain⟨u,r,l⟩:=hl i x v h1 h2 (.inr (.inl hk));refine⟨u,r,.inr ⟨?_,?_⟩⟩
   ·show (relabel scope X.env).names.lookup x=some .cell\/(relabel scope X.env).names.lookup x=some .free;rcases h3 with q | q | q
    ·rcases cg q with z | z
     ·exact absurd z (hloc x hx)
     ·cases z.2
    ·exact .inl q
    ·exact .inr q
   ·rcases l with ⟨q,_⟩ | ⟨_,c,e,z⟩
    ·have q:X.env.scope.names.lookup x=some .local:=q;rw[hk]at q;cases q
    ·obtain⟨c',e'⟩:=cl2 x (PySem.mem_of_lookup hfree);have:=cl1 x c' e';rw[e]at this;cases this;obtain⟨o,ho,hd⟩:=z;exact⟨c,e',o,old c o ho,hd⟩
  ·intro x c e;obtain⟨v,o,ho,hd⟩:=I3.cell x c (cl1 x c e);exact⟨v,o,old c o ho,hd⟩
  ·intro x c e;exact I3.freeC x c (cl1 x c e)
  ·intro p hp;exact absurd (show p ∈ ([]:List (Addr × Obj)) from hp) (by simp)
 have stat:∀{H':Hp},(∀b ∈ fp,H' b=none)->∀b ∈ fp,gZ (cxC X scope cl N2 ys C { s2 with heap:=H3h } (upd H2 D (.lst [])) fp) [] H' b:=fun hn b hb=>by
  refine⟨hn b hb,fun z=>?_,ok'.exfs b hb,.inl hb,fun x c e=>(f2 b hb).2.2.2.2.1 x c (cl1 x c e),fun p hp=>absurd (show p ∈ ([]:List (Addr × Obj)) from hp) (by simp)⟩
  exact hfpC b hb z
 have frD:∀b ∈ fp,upd H2 D (.lst []) b=none:=fun b hb=>by
  rw[aw (hfpD b hb)];exact(f2 b hb).1
 have tn4:tn 0 h₁:=T.keep _ _ _ st2 fun b _ o e=>old b o (old2 b o e);have fin:∀{σ':St}{H':Hp}{s':Shared},Inv (cxC X scope cl N2 ys C { s2 with heap:=H3h } (upd H2 D (.lst [])) fp) [] σ' H' s'->Q (.ref D) H' ->
   compPost (model X.prog X.w) X.A X.xe use QQ (.ref D) C (.ok .next) s':=fun {σ' H' s'} I' q=>by
  obtain⟨m,hn,_⟩:=I'.loc;have uab:Un (frs X.stack) fp H2 H' s2.heap s'.heap:=(Un.laid (fs:=frs X.stack) (ex:=fp) (h:=s2.heap) (h':=H3h) (a:=D) (o:=.lst []) old2 (Nat.le_of_eq hDd) fD).trans I'.base;have I'':Inv X pins σ H' s':=I2.call' (ch:=fp) I'.os uab I'.hok I'.bare (fun b hb=>by
   obtain⟨f0,f1,_,f3,f4,f5⟩:=f2 b hb;exact⟨f3,f1,f4,f5⟩)
  exact fin0 D C H' s' I'' (I2.fpOk (by rw[hDd];exact Nat.le_of_lt hDC) I'.free) ⟨m,hn⟩ q
 have loop:codeAny (model X.prog X.w) X.A (.compLoop (.ListComp elt [⟨tg,iter,ifs,0⟩] scope pos) 0 (.ref it) (.ref D) (compEnvC scope cl C X.env)) (compPost (model X.prog X.w) X.A X.xe use QQ (.ref D) C) { s2 with heap:=h₁,toks:=s2.toks + ([]:List (Str × Value)).length }:=by
  refine nP (fun n s'=>∃i zs H',Inv (cxC X scope cl N2 ys C { s2 with heap:=H3h } (upd H2 D (.lst [])) fp) [] (σ ++ List.replicate ys.length none) H' s'/\tn i s'.heap/\(∀b ∈ fp,H' b=none)/\W i n zs H') ?_ m0
   ⟨0,[],_,I4,tn4,frD,w0⟩
  rintro n s3 ⟨i,zs,H3,J3,st3,fr3,w3⟩;rcases turn i n zs H3 w3 with ⟨stop,qn⟩ | ⟨go,step⟩
  ·refine thn (T.done (cxC X scope cl N2 ys C { s2 with heap:=H3h } (upd H2 D (.lst [])) fp) rfl rfl rfl hc i [] s3 _ H3 _ J3 (stat fr3) st3 stop) fun r s4 ⟨hr,J4⟩=>?_;subst hr;exact fin J4 qn
  ·refine thn (T.item (cxC X scope cl N2 ys C { s2 with heap:=H3h } (upd H2 D (.lst [])) fp) rfl rfl rfl hc i [] s3 _ H3 _ J3 (stat fr3) st3 go) fun r s4 ⟨u,hr,h4⟩=>?_;subst hr;refine thn h4 fun _ s5 ⟨x,H5,J5,r5,y5,st5,fr5⟩=>?_;have J5':=J5.pinned (stat fr5) (T.obj _ _ st5);refine wpAny_mono (hg cl C _ _ fp _ s5 _ H5 x u _ J5' r5 (step x H5 y5)) (fun _ s6 ⟨σ6,H6,J6,⟨τ,eτ,lτ⟩,q6⟩=>?_) fun _ _ z=>False.elim z;refine wpAny_mono (ht cl C _ _ fp _ s6 σ6 H6 _ J6 q6) (fun b s7 ⟨H7,J7,q7⟩=>?_) fun _ _ z=>False.elim z;have again:∀{H8:Hp}{s8:Shared}{zs':List V},Inv (cxC X scope cl N2 ys C { s2 with heap:=H3h } (upd H2 D (.lst [])) fp) ([] ++ ja fp s5.heap) σ6 H8 s8->(∃m',m' < n/\W (i + 1) m' zs' H8) ->
     ∃m,m < n/\∃i zs H',Inv (cxC X scope cl N2 ys C { s2 with heap:=H3h } (upd H2 D (.lst [])) fp) [] (σ ++ List.replicate ys.length none) H' s8/\tn i s8.heap/\(∀b ∈ fp,H' b=none)/\W i m zs H':=fun {H8 s8 zs'} J8 ⟨m',hm,w8⟩=>by
    refine⟨m',hm,i + 1,zs',H8,J8.unpinned.weak (by rw[eτ,length_append,length_append,List.length_replicate,lτ]) (fun j v e=>?_),T.keep _ _ _ st5 fun b hb o e=>(J8.pin (b,o) (List.mem_append_right _ (List.mem_append_right _ (eY hb e)))).1,fun b hb=>?_,w8⟩
    ·rw[eτ];by_cases hj:j < σ.length
     ·rw[List.getElem?_append_left hj]at e ⊢;exact e
     ·exfalso;rw[List.getElem?_append_right (by lia),List.getElem?_replicate]at e
      split at e <;> cases e
    ·obtain⟨o,e,d⟩:=T.obj _ _ st5 b hb;exact(J8.pin (b,o) (List.mem_append_right _ (List.mem_append_right _ (eY hb e)))).2.1
   cases b with
   | false =>
    rw[if_neg (by decide)]at q7 ⊢
    exact again J7 q7
   | true =>
    rw[if_pos rfl]at q7 ⊢;refine wpAny_mono (he cl C _ _ fp _ s7 σ6 H7 _ J7 q7) (fun y s8 ⟨yv,H8,J8,r8,hD8,hz8,w8⟩=>?_) fun _ _ z=>False.elim z;refine wpAny_mono (ky (X:=(cxC X scope cl N2 ys C { s2 with heap:=H3h } (upd H2 D (.lst [])) fp)) _ s8 σ6 H8 (.ref D) [yv] (.ref D) [y] (fun _ H9=>∃m',m' < n/\W (i + 1) m' (zs ++ [yv]) H9) J8 rfl (.cons r8 .nil) ⟨D,zs,yv,rfl,rfl,hD8,hz8,w8⟩) (fun _ s9 ⟨_,H9,J9,_,w9⟩=>?_) fun _ _ z=>False.elim z;exact again J9 w9
 exact codeAny_compStart_list loop (T.self _ 0 _ _ _ tn4 loop)
theorem gy{X:Cx}{elt tg iter:Expr}{ifs:List Expr}{scope:Scope}{pos:Pos}{wi:TI}{g:TG}{tt:TT}{te:TE}
  (N N2 ys:List Str)(sc:Scope)(hc:X.calm=true)(hNe:X.N=N)(hNl:N2.length=N.length)(hsub:∀p ∈ N2.zip N,p.1=p.2\/¬scope.names.lookup p.1=some .free)(hsc:X.env.scope=sc)(hkind:scope.kind=.function)(hcell:∀y ∈ scope.names,y.2 ≠ .cell)(hnames:∀y ∈ scope.names,y.2=.local->scope.names.lookup y.1=some .local)
  (hfr:∀y ∈ scope.names,y.2=.free->sc.names.lookup y.1=some .cell)(hloc:∀y ∈ N2,scope.names.lookup y ≠ some .local)
  (hi:PI X tg iter wi)(hg:∀cl C s H fp,PG (cxC X scope cl N2 ys C s H fp) tg g)(ht:∀cl C s H fp,PTs (cxC X scope cl N2 ys C s H fp) ifs tt)(he:∀cl C s H fp,PE (cxC X scope cl N2 ys C s H fp) elt te)
  (hs:∀x,foldedSetIterable iter X.env x=pure x:=by intro _;rfl) :
  PE X (.ListComp elt [⟨tg,iter,ifs,0⟩] scope pos) (tLC ys.length wi g tt te):=by
 intro pins s σ H Q I h;rw[eval_ListComp];refine qM (use:=none) N N2 ys sc hc hNe hNl hsub hsc hkind hcell hnames hfr hloc hi hg ht he I h (fun D C H' s' I' cf hns q=>?_) hs;obtain⟨m,hn⟩:=hns;obtain⟨f0,f1,f2,f3,f4,f5⟩:=cf;exact⟨m,hn,fun h' hs'=>⟨.ref D,H',I'.turned (t':=s'.toks) (it:=C) (fun b o hb e=>(hs'.2 b hb).trans e) f0 f1 f3 f4 f5,rfl,q⟩⟩
theorem lA{X:Cx}{elt tg iter:Expr}{ifs:List Expr}{scope:Scope}{pos spos py:Pos}{wi:TI}{g:TG}{tt:TT}{te:TE}{i:Nat}{y:Str}(hN:X.N.Nodup)(hiy:X.N[i]?=some y)(hy:Loc X.env.scope y)
  (N N2 ys:List Str)(sc:Scope)(hc:X.calm=true)(hNe:X.N=N)(hNl:N2.length=N.length)(hsub:∀p ∈ N2.zip N,p.1=p.2\/¬scope.names.lookup p.1=some .free)(hsc:X.env.scope=sc)(hkind:scope.kind=.function)(hcell:∀y ∈ scope.names,y.2 ≠ .cell)(hnames:∀y ∈ scope.names,y.2=.local->scope.names.lookup y.1=some .local)
  (hfr:∀y ∈ scope.names,y.2=.free->sc.names.lookup y.1=some .cell)(hloc:∀y ∈ N2,scope.names.lookup y ≠ some .local)
  (hi:PI X tg iter wi)(hg:∀cl C s H fp,PG (cxC X scope cl N2 ys C s H fp) tg g)(ht:∀cl C s H fp,PTs (cxC X scope cl N2 ys C s H fp) ifs tt)(he:∀cl C s H fp,PE (cxC X scope cl N2 ys C s H fp) elt te)
  (hsw:swapsWith (.ListComp elt [⟨tg,iter,ifs,0⟩] scope pos) (some (.Name y py)) spos.line X.env=pure true)
  (hs:∀x,foldedSetIterable iter X.env x=pure x:=by intro _;rfl)(hf:X.fn y=true\/X.env.scope.names.lookup y=some .local:=by first | exact .inl rfl | exact .inr rfl | assumption) :
  PS X (.Assign [.Name y py] (.ListComp elt [⟨tg,iter,ifs,0⟩] scope pos) spos) (tAsg (tLC ys.length wi g tt te) (iy i)):=by
 intro pins s σ H D I h;rw[exec_Assign_Name_used _ _ _ _ hsw];refine wpAny_bind (wpAny_standAt (wpAny_bind ?_));show wpAny _ X.A (do let _ <- comprehension (.ListComp elt [⟨tg,iter,ifs,0⟩] scope pos) scope X.env _ (newList []) false (eval iter X.env) (some (assign (.Name y py) X.env))) _ _ s
 refine wpAny_bind (wpAny_mono (qM (use:=some (assign (.Name y py) X.env)) (QQ:=fun _ s'=>SP X pins D .next s') N N2 ys sc hc hNe hNl hsub hsc hkind hcell hnames hfr hloc hi hg ht he I h (fun D' C H' s' I' cf hns q=>?_) hs) (fun _ s' hq=>wpAny_pure (wpAny_pure hq)) fun _ _ e=>e);obtain⟨m,hn⟩:=hns;obtain⟨f0,f1,f2,f3,f4,f5⟩:=cf;show wpAny _ X.A (assign (.Name y py) X.env (.ref D')) _ _ s';refine wpAny_assign_Name (j6 I' hN hiy hy (show bi (V.ref D') (Value.ref D') from rfl) (fun s'' I'' hsb=>?_) hf);obtain⟨a,sb,ha⟩:=hsb;have hCa:C ≠ a:=by
  rcases ha with e | e
  ·rw[e];exact f1
  ·exact(f4 y a e).symm
 refine⟨m,hn.sameBut sb hCa,fun h' hs'=>⟨_,H',?_,q⟩⟩;exact I''.turned (t':=s''.toks) (it:=C) (fun b o hb e=>(hs'.2 b hb).trans e) f0 f1 f3 f4 f5
theorem iC:∀{us:List Value}{ss:List Str},us.length=ss.length->(∀(j:Nat)(v:Value),us[j]?=some v->∃x t,ss[j]?=some x/\v=.str x t)->StrsAre us ss
 | [],[],_,_=>.nil
 | [],_ :: _,h,_=>by simp at h
 | _ :: _,[],h,_=>by simp at h
 | u :: us,x :: ss,h,k=>by
  obtain⟨x',t,e1,e2⟩:=k 0 u rfl;cases e1;subst e2;exact .cons _ _ (iC (by simpa using h) fun j v e=>k (j + 1) v (by simpa using e))
theorem r0{us:List Value}{ss:List Str}(h:StrsAre us ss):bA (ss.map V.str) us:=by
 induction h with
 | nil=>exact .nil
 | cons y t r ih=>exact .cons ⟨t,rfl⟩ ih
def leS(a b:Str):Prop:=ltCps b.cps.toList a.cps.toList=false
theorem jX{vs:List Value}{ss:List Str}(hS:StrsAre vs ss){xs:Array Keyed}(hp:xs.Perm (pairsOf vs))(hs:SortedToK strKind xs (pairsOf vs).size) :
  ∃ss',StrsAre (xs.map (·.2)).toList ss'/\ss'.Perm ss/\ss'.Pairwise leS:=by
 have hl:xs.toList.Perm (vs.zip vs):=by rw[<- pairsOf_toList];exact Array.perm_iff_toList_perm.mp hp
 have hmem:∀p,p ∈ xs.toList->p.1=p.2/\p.1 ∈ vs:=fun p hp'=>mem_zip_self (hl.mem_iff.mp hp');refine⟨xs.toList.map (fun p=>strOf p.1),?_,?_,?_⟩
 ·have e:(xs.map (·.2)).toList=xs.toList.map (·.1):=by
   rw[Array.toList_map];exact List.map_congr_left fun p hp'=>(hmem p hp').1.symm
  rw[e];have h1:=strsAre_map (xs.toList.map (·.1)) (by
   intro v hv;obtain⟨p,hp',rfl⟩:=List.mem_map.mp hv;exact hS.all _ (hmem p hp').2)
  rwa [List.map_map]at h1
 ·have h1:=hl.map (fun p=>strOf p.1);have e2:(vs.zip vs).map (fun p=>strOf p.1)=ss:=by
   have:(vs.zip vs).map (fun p=>strOf p.1)=((vs.zip vs).map Prod.fst).map strOf:=by rw[List.map_map];rfl
   rw[this,List.map_fst_zip (Nat.le_refl _),hS.strs]
  rwa [e2]at h1
 ·rw[List.pairwise_iff_getElem];intro i j hi hj hij;have hi':i < xs.size:=by simpa using hi
  have hj':j < xs.size:=by simpa using hj
  have h1:=hs i j (Nat.le_of_lt hij) (by rw[<- hp.size_eq];exact hj')
  obtain⟨x,t,ex⟩:=hS.all _ (hmem xs[i] (by simp)).2
  obtain⟨y,u,ey⟩:=hS.all _ (hmem xs[j] (by simp)).2
  rw[KK_str hi' (x:=x) (t:=t) (q:=xs[i].2) (Prod.ext ex rfl),KK_str hj' (x:=y) (t:=u) (q:=xs[j].2) (Prod.ext ey rfl)]at h1;change decide (y.cps.toList < x.cps.toList)=false at h1
  unfold leS;simp only[List.getElem_map,Array.getElem_toList];rw[show strOf xs[i].1=x by rw[ex];rfl,show strOf xs[j].1=y by rw[ey];rfl,ltCps_eq]
  exact h1
theorem fb {X:Cx} (hc:X.calm=true):dD X (.builtin "sorted") (fun xs H Q=>∃(a:Addr) (kvs:List (Key × V)) (ss:List Str),xs=[.ref a]/\H a=some (.dK kvs)/\kvs.map (·.1)=ss.map Sum.inr/\kvs.length < 64 /\
  ∀(p:Addr)(ss':List Str),H p=none->ss'.Perm ss->ss'.Pairwise leS->Q (.ref p) (upd H p (.lst (ss'.map V.str)))):=by
 intro pins s σ H xs us Q I rv h;obtain⟨a,kvs,ss,rfl,hd,hks,h64,q⟩:=h;obtain⟨u,rfl,ru⟩:=rv.one;cases ru;obtain⟨z,lo,vs,rel,dd⟩:=nB I.hok hd;obtain⟨ep,hat⟩:=dd.dictAt;have hlen:vs.length=kvs.length:=rel.length.symm;have hss:ss.length=kvs.length:=by have:=congrArg List.length hks;simpa using this.symm
 have hh:X.A.handled=none:=I.ok.hd hc;refine Calls.call_function_entry kind_sorted plain_sorted entry_sorted (args_sorted1 _) ?_;unfold Builtin.«sorted»;refine wpAny_bind (m:=checkCount "sorted" 1 1 _) (wpAny_pure ?_);refine wpAny_bind (PySem.W.kdu_collect (A:=X.A.in1) (PySem.W.kdl_dict (knd:=bC X.prog X.w) (kvs:=vs) (ep:=ep) lo) hh hat (by rw[hlen];exact z) fun h' tk acc hk hacc=>?_)
 have hal:acc.toList.length=vs.length:=by rw[Array.length_toList];exact hacc.1
 refine wpAny_bind (wpAny_newList ?_ (by rw[hal,hlen];exact z))
 have hS:StrsAre acc.toList ss:=iC (by lia) fun j v e=>by
  obtain⟨k,x,e1,e2⟩:=hacc.2 j v (by rw[<- Array.getElem?_toList];exact e)
  have hj:j < kvs.length:=by have:=(List.getElem?_eq_some_iff.mp e1).1;lia
  have key:(kvs.map (·.1))[j]?=some k:=by
   have h2:∀{l:List (Key × V)} {m:List (Key × Value)} {j:Nat} {q:Key × Value},KV l m->m[j]?=some q->(l.map (·.1))[j]?=some q.1:=by
    intro l m;intro j q r;unfold KV at r;induction r generalizing j with
    | nil=>intro e;simp at e
    | cons h t ih =>
     intro e;cases j with
     | zero=>simp at e;subst e;simp[h.1]
     | succ j=>simp at e ⊢;have:=ih e;simpa using this
   exact h2 rel e1
  rw[hks,getElem?_map]at key;cases es:ss[j]? with
  | none=>rw[es]at key;cases key
  | some x' =>
   rw[es]at key;cases key;rcases cb (show i9 (Sum.inr x') v=true from e2) with ⟨i,t,e3,_⟩ | ⟨y,t,e3,e4⟩
   ·cases e3
   ·cases e3;exact⟨x',t,rfl,e4⟩
 have I1:Inv X pins σ H { s with heap:=h',toks:=tk }:=I.kept (t':=tk) hk;have hoL:(h'.push { cls:=.type "list",data:=.seq acc.toList.toArray }).get? h'.objs.size=some (seqObj "list" acc.toList.toArray 0):=get?_push_size _ rfl;refine wpAny_bind (wpAny_holding (wpAny_call_entry slot_list_sort ⟨_,hoL,rfl⟩ entry_list_sort (list_sort_treeK strKind_oneLt hoL hS.keysOf (fun v₁ v₂ rest e=>keyKind_strs (by rw[<- e];exact hS)) (by lia) fun st' hp hs=>⟨_,rfl,?_⟩) (args_list_sort _)))
 obtain⟨ss',h1,h2,h3⟩:=jX hS hp hs;refine wpAny_pure ⟨_,rfl,?_⟩;obtain⟨e,he⟩:=sortedHeap_at (out:=(arrOf st').map (·.2)) hoL;refine⟨.ref h'.objs.size,_,I1.laid (t':=tk) (a:=h'.objs.size) (o:=.lst (ss'.map V.str)) (fun b o e=>?_) (Nat.le_refl _) ?_,rfl,q h'.objs.size ss' (I1.hok.fresh (Nat.le_refl _)) h2 h3⟩
 ·have hb:=lt_size e;rw[sortedHeap_old (Nat.ne_of_lt hb) (by rw[Heap.size_push];exact Nat.lt_succ_of_lt hb)]
  exact get?_push_of_some _ e
 ·exact⟨by rw[length_map,h2.length_eq,hss];exact z,((arrOf st').map (·.2)).toList,e,r0 h1,by rw[Array.toArray_toList];exact he⟩
theorem fZ {X:Cx}:dD X (.type "tuple") (fun xs H Q=>∃p ys,xs=[.ref p]/\SqL X.K H p ys/\∀(l:Addr)(o:Obj),H l=none->o.dict=none->Q (.ref l) (upd H l (.frz o (.tup ys)))):=by
 intro pins s σ H xs us Q I r h;obtain⟨p,ys,rfl,hq,q⟩:=h;obtain⟨u,rfl,rx⟩:=fC r;cases rx;obtain⟨its,r',pl,hz⟩:=I.list hq;have hlen:=r'.length;refine call_tuple_list pl.isList (fun h' kp=>?_) (by simp only[size_toArray] <;> lia)
 have I1:Inv X pins σ H { s with heap:=h' }:=I.kept (t':=s.toks) kp;have I2:Inv X pins σ (upd H h'.objs.size (.frz { cls:=.type "tuple",data:=.seq its.toArray } (.tup ys))) { s with heap:=h'.push { cls:=.type "tuple",data:=.seq its.toArray } } :=
  I1.laid (t':=s.toks) (fun b o e=>get?_push_of_some _ e) (Nat.le_refl _) (show cD X.prog X.w _ _ _ (.frz _ (.tup ys)) from⟨get?_push_size _ rfl,hz,its,r',IsTup.new _ _⟩)
 exact⟨.ref h'.objs.size,_,I2,rfl,q _ _ (I1.hok.fresh (Nat.le_refl _)) rfl⟩
section
variable{X:Cx}
theorem Inv.turnedT{pins:List (Addr × Obj)}{σ:St}{H:Hp}{s:Shared}{h':Heap}{t':Nat}{ch:List Addr}{T:Addr}{xs:List V}{us:List Value}(I:Inv X pins σ H s)(k:∀b o,b ∉ ch->s.heap.get? b=some o->h'.get? b=some o)
  (hf:∀b ∈ ch,gZ X pins H b)(hT:s.heap.objs.size <= T)(hz:xs.length <= sizeLine)(hv:bA xs us)(ht:IsTup h' T us.toArray):Inv X pins σ (upd H T (.tup xs)) { s with heap:=h',toks:=t' }:=by
 have hn:H T=none:=I.hok.fresh hT;have nch:∀b u,H b=some u->b ∉ ch:=fun b u e z=>by rw[(hf b z).1]at e;cases e
 refine I.step (g':=s.gens) (d':=s.drawn) (ch:=ch) (fun b hb=>?_) (fun b o _ _ hc e _=>k b o hc e) (fun b o _ _ hc e _=>⟨o.slots,k b o hc e⟩) (fun b o _ e n=>?_)
  (fun b o hc e=>⟨o,k b o hc e⟩) (fun b ys e=>?_) (fun b o u e=>?_) (fun b ps e=>⟨#[],?_⟩) (fun m hm=>?_) (fun b u e=>?_) I.bare
 ·obtain⟨_,h1,_,h3,h4,h5⟩:=hf b hb;exact⟨h3,h1,h4,h5⟩
 ·rw[aw (Nat.ne_of_lt (Nat.lt_of_lt_of_le (lt_size e) hT))];exact n
 ·rw[aw (ak e hn)];exact e
 ·rw[aw (ak e hn)];exact e
 ·rw[aw (ak e hn),e];simp
 ·obtain⟨o,es,ep,ho,r⟩:=hm;exact⟨o,es,ep,k _ o (fun z=>(hf _ z).2.1 rfl) ho,r⟩
 ·by_cases hb:b=T
  ·subst hb;rw[ai]at e;cases e;exact⟨hz,us,hv,ht⟩
  ·rw[aw hb]at e;refine(I.hok b u e).stay (fun c v hc q=>k c v ?_ q) (fun c q=>by rw[aw (ak q hn)];exact q) fun c ys q=>by rw[aw (ak q hn)];exact q
   rcases hc with z | z
   ·rw[z];exact nch b u e
   ·exact nch c _ z
theorem Inv.turnedL{pins:List (Addr × Obj)}{σ:St}{H:Hp}{s:Shared}{h':Heap}{t':Nat}{ch:List Addr}(I:Inv X pins σ H s)(k:∀b o,b ∉ ch->s.heap.get? b=some o->h'.get? b=some o)
  (hf:∀b ∈ ch,gZ X pins H b):Inv X pins σ H { s with heap:=h',toks:=t' }:=by
 have nch:∀b u,H b=some u->b ∉ ch:=fun b u e z=>by rw[(hf b z).1]at e;cases e
 refine I.step (g':=s.gens) (d':=s.drawn) (ch:=ch) (fun b hb=>?_) (fun b o _ _ hc e _=>k b o hc e) (fun b o _ _ hc e _=>⟨o.slots,k b o hc e⟩) (fun b o _ e n=>n)
  (fun b o hc e=>⟨o,k b o hc e⟩) (fun b ys e=>e) (fun b o u e=>e) (fun b ps e=>⟨#[],by rw[e];simp⟩) (fun m hm=>?_) (fun b u e=>?_) I.bare
 ·obtain⟨_,h1,_,h3,h4,h5⟩:=hf b hb;exact⟨h3,h1,h4,h5⟩
 ·obtain⟨o,es,ep,ho,r⟩:=hm;exact⟨o,es,ep,k _ o (fun z=>(hf _ z).2.1 rfl) ho,r⟩
 ·refine(I.hok b u e).stay (fun c v hc q=>k c v ?_ q) (fun c q=>q) fun c ys q=>q;rcases hc with z | z
  ·rw[z];exact nch b u e
  ·exact nch c _ z
end
end L2
namespace KR
open PySem
section
variable{prog:Program}{w:World}{A:Around}{E:Value->Shared->Prop}{s:Shared}
end
end KR
namespace L2
open PySem PySem.Spec PyProof.Rows
section
variable{X:Cx}
noncomputable def Itx(x:Str):It:=⟨fun i _=>i < x.cps.size,fun i H v H'=>H'=H/\∃c,x.cps[i]?=some c/\v=.str ⟨#[c]⟩,fun i _=>i=x.cps.size⟩
theorem uy {P:Program} {w:World} {K:Frag} {tg:Expr} (it:Addr) (x:Str) (t:Tok) {ty:String} (hty:ty="str_ascii_iterator" \/ty="str_iterator"):mZ P w K tg (Itx x) [it] it (fun i h=>h.IsStrIter it ty x t i) where
 mem:=by simp
 obj:=fun i h st b hb=>by
  have e:b=it:=by simpa using hb
  subst e;obtain⟨o,e,c,d⟩:=st;exact⟨o,e,fun v z=>by rw[d]at z;cases z⟩
 keep:=fun i h h' st k=>by
  obtain⟨o,e,c⟩:=st;exact⟨o,k it (by simp) o e,c⟩
 item:=by
  intro X hP hw hK hc i pins s σ H E I hf st hg;subst hP hw hK;have W:Walks X.prog X.w X.A it [it] [it] x.cps.size (SignAt x) (fun i h=>h.IsStrIter it ty x t i):=by
   rcases hty with rfl | rfl
   ·exact Walks.strAscii (I.ok.hd hc) it x t
   ·exact Walks.strWide (I.ok.hd hc) it x t
  refine W.item i s _ _ hg st fun v h' tk hv st' kk=>?_;obtain⟨c,u,e1,rfl⟩:=hv;have I1:Inv X pins σ H { s with heap:=h',toks:=tk }:=I.turnedL (ch:=[it]) kk (fun b hb=>hf b hb);obtain⟨o,eo,co,d⟩:=id st';refine⟨_,rfl,m5 (s:={ s with heap:=h',toks:=tk }) (n:=ty) eo co d (by rcases hty with rfl | rfl <;> decide) ⟨.str ⟨#[c]⟩,H,I1,⟨u,rfl⟩,⟨rfl,c,e1,rfl⟩,st',fun b hb=>(hf b hb).1⟩⟩
 done:=by
  intro X hP hw hK hc i pins s σ H E I hf st hg;subst hP hw hK;have W:Walks X.prog X.w X.A it [it] [it] x.cps.size (SignAt x) (fun i h=>h.IsStrIter it ty x t i):=by
   rcases hty with rfl | rfl
   ·exact Walks.strAscii (I.ok.hd hc) it x t
   ·exact Walks.strWide (I.ok.hd hc) it x t
  have hg:i=x.cps.size:=hg;subst hg;exact W.done s _ _ st fun h' tk kk=>⟨rfl,I.turnedL (ch:=[it]) kk (fun b hb=>hf b hb)⟩
 self:=fun _ _ _ _ _ st h=>by
  rcases hty with rfl | rfl
  ·exact wpAny_pyIter_striter_ascii st h
  ·exact wpAny_pyIter_striter_wide st h
noncomputable def iStr(te:TE):TI:=fun σ H R=>te σ H fun x H1=>∃z:Str,x=.str z/\R (Itx z) H1
theorem pi_str{tg e:Expr}{te:TE}(he:PE X e te):PI X tg e (iStr te):=by
 intro pins s σ H R I h;refine thn (he pins s σ H _ I h) fun v s1 ⟨x,H1,I1,r1,q1⟩=>?_;obtain⟨z,e,q⟩:=q1;subst e;obtain⟨t,rfl⟩:=r1;refine wpAny_pyIter_strU ?_;have hty:strIterType z="str_ascii_iterator" \/strIterType z="str_iterator":=by
  unfold strIterType;split
  ·exact .inl rfl
  ·exact .inr rfl
 refine⟨s1.heap.objs.size,[s1.heap.objs.size],_,_,H1,rfl,I1.kept (t':=s1.toks) fun b o e=>get?_push_of_some _ e,uy s1.heap.objs.size z t hty,⟨_,get?_push_size _ rfl,rfl,rfl⟩,fun b hb=>?_,q⟩
 have e:b=s1.heap.objs.size:=by simpa using hb
 subst e;exact I1.fpOk (Nat.le_refl _) (I1.hok.fresh (Nat.le_refl _))
def Th1(H:Hp)(x:V):Prop:=cZ x=true\/∃(a:Addr)(xs:List V),x=.ref a/\(Rd H a (.tup xs)\/Rd H a (.lst xs))
theorem Th1.same{H H':Hp}{x:V}(e:aq H H')(h:Th1 H x):Th1 H' x:=by
 rcases h with h | ⟨a,xs,rfl,h⟩
 ·exact .inl h
 ·refine .inr ⟨a,xs,rfl,?_⟩;rcases h with (h | ⟨o,h⟩) | (h | ⟨o,h⟩)
  ·exact .inl (.inl (e _ _ h))
  ·exact .inl (.inr ⟨o,e _ _ h⟩)
  ·exact .inr (.inl (e _ _ h))
  ·exact .inr (.inr ⟨o,e _ _ h⟩)
theorem rc_th{A:Around}{pins:List (Addr × Obj)}{σ:St}{H:Hp}{s:Shared}{x:V}{u:Value}{z:Str}{t:Tok}(hu:A.units < cLine)(I:Inv X pins σ H s)(hx:Th1 H x)(r:bi x u):SeqAt.RcAt A s u (.str z t) (decide (x=.str z)):=by
 rcases hx with hx | ⟨a,xs,rfl,hx⟩
 ·cases x with
  | non=>cases r;rw[decide_eq_false (by intro h;cases h)];exact SeqAt.RcAt.none_str _ _
  | bl b=>cases r;rw[decide_eq_false (by intro h;cases h)];exact SeqAt.RcAt.bool_str _ _ _
  | int i=>obtain⟨t',rfl⟩:=r;rw[decide_eq_false (by intro h;cases h)];exact SeqAt.RcAt.int_str _ _ _ _
  | str y=>obtain⟨t',rfl⟩:=r;rw[iL];exact SeqAt.RcAt.str_str _ _ _ _
  | _=>exact absurd hx (by simp[cZ])
 ·cases r;rw[decide_eq_false (by intro h;cases h)]
  rcases hx with hx | hx
  ·obtain⟨_,its,rv,p⟩:=hx.ok I.hok;exact SeqAt.RcAt.tuple_str _ _ (show s.heap.IsTuple a its.toArray from p) hu
  ·obtain⟨_,its,n,rv,p⟩:=hx.ok I.hok;exact SeqAt.RcAt.list_str (l:=a) (items:=its.toArray) _ _ ⟨_,p,rfl,_,rfl⟩ hu
theorem iP(hu:X.A.units + 1 < cLine):OpR X (compareOp .Eq) (fun x y H Q=>∃z:Str,y=.str z/\Th1 H x/\Q (.bl (decide (x=.str z))) H):=by
 intro pins s σ H x y v u Q I rx ry h;obtain⟨z,rfl,hx,q⟩:=h;obtain⟨t,rfl⟩:=ry;exact rc_th (Nat.lt_of_succ_lt hu) I hx rx _ _ _ _ (bp I q rfl)
theorem uz(y z:Str):(y == z)=(z == y):=by
 by_cases h:y=z
 ·rw[h]
 ·rw[beq_eq_false_iff_ne.mpr h,beq_eq_false_iff_ne.mpr (Ne.symm h)]
theorem eq_ht{A:Around}{pins:List (Addr × Obj)}{σ:St}{H:Hp}{s:Shared}{x:V}{u:Value}{z:Str}{t:Tok}(hu:A.units < cLine)(I:Inv X pins σ H s)(hx:Th1 H x)(r:bi x u):SeqAt.EqAt A s (.str z t) u (decide (x=.str z)):=by
 rcases hx with hx | ⟨a,xs,rfl,hx⟩
 ·cases x with
  | non=>cases r;rw[decide_eq_false (by intro h;cases h)];exact SeqAt.EqAt.str_none _ _
  | bl b=>cases r;rw[decide_eq_false (by intro h;cases h)];exact SeqAt.EqAt.str_bool _ _ _
  | int i=>obtain⟨t',rfl⟩:=r;rw[decide_eq_false (by intro h;cases h)];exact SeqAt.EqAt.str_int _ _ _ _
  | str y =>
   obtain⟨t',rfl⟩:=r;rw[iL,uz y z];exact SeqAt.EqAt.str_str _ _ _ _
  | _=>exact absurd hx (by simp[cZ])
 ·cases r;rw[decide_eq_false (by intro h;cases h)]
  rcases hx with hx | hx
  ·obtain⟨_,its,rv,p⟩:=hx.ok I.hok;exact SeqAt.EqAt.str_tuple _ _ (show s.heap.IsTuple a its.toArray from p) hu
  ·obtain⟨_,its,n,rv,p⟩:=hx.ok I.hok;exact SeqAt.EqAt.str_list (l:=a) (items:=its.toArray) _ _ ⟨_,p,rfl,_,rfl⟩ hu
noncomputable def eqT(x:V):Value->Bool
 | .str z _=>decide (x=.str z)
 | _=>false
theorem qO(x:V):∀{zs:List Str}{us:List Value},bA (zs.map V.str) us->us.any (eqT x)=zs.any fun z=>decide (x=.str z)
 | [],_,.nil=>rfl
 | z :: zs,_,.cons r t=>by
  obtain⟨t',rfl⟩:=r;rw[List.any_cons,List.any_cons,qO x t];rfl
theorem op_inTS(hu:X.A.units + 1 < cLine):OpR X (compareOp .In) (fun x y H Q=>∃(p:Addr)(zs:List Str),y=.ref p/\SqT X.K H p (zs.map V.str)/\Th1 H x/\Q (.bl (zs.any fun z=>decide (x=.str z))) H):=by
 intro pins s σ H x y v u Q I rx ry h;obtain⟨p,zs,rfl,hp,hx,q⟩:=h;cases ry;obtain⟨its,r,pl,hz⟩:=I.tuple hp;refine SeqAt.in_tupleAt (eqT x) pl (fun w hw=>?_) ⟨.bl _,H,I,rfl,?_⟩
 ·have hw:w ∈ its:=by simpa using hw
  obtain⟨i,hi,e⟩:=List.mem_iff_getElem.mp hw;have hl:=r.length;rw[length_map]at hl;obtain⟨u',e1,e2⟩:=r.get (i:=i) (x:=.str (zs[i]'(by lia))) (by rw[getElem?_map,getElem?_eq_getElem (by lia)];rfl)
  rw[getElem?_eq_getElem hi,e]at e1;cases e1;obtain⟨t',rfl⟩:=e2;exact eq_ht (A:=X.A.in1) hu I hx rx
 ·rw[show its.toArray.any (eqT x)=its.any (eqT x) by simp,qO x r]
  exact q
inductive Kd:Hp->V->String->Prop
 | non {H:Hp}:Kd H .non "NoneType"
 | bl {H:Hp} (b:Bool):Kd H (.bl b) "bool"
 | int {H:Hp} (i:Int):Kd H (.int i) "int"
 | str {H:Hp} (x:Str):Kd H (.str x) "str"
 | lst {H:Hp} {a:Addr} {xs:List V}:Rd H a (.lst xs)->Kd H (.ref a) "list"
 | tup {H:Hp} {a:Addr} {xs:List V}:Rd H a (.tup xs)->Kd H (.ref a) "tuple"
theorem Th1.kd{H:Hp}{x:V}(h:Th1 H x):∃k,Kd H x k:=by
 rcases h with h | ⟨a,xs,rfl,h⟩
 ·cases x with
  | non=>exact⟨_,.non⟩
  | bl b=>exact⟨_,.bl b⟩
  | int i=>exact⟨_,.int i⟩
  | str y=>exact⟨_,.str y⟩
  | _=>exact absurd h (by simp[cZ])
 ·rcases h with h | h
  ·exact⟨_,.tup h⟩
  ·exact⟨_,.lst h⟩
theorem Kd.kit {pins:List (Addr × Obj)} {σ:St} {H:Hp} {s:Shared} {x:V} {u:Value} {k:String} (I:Inv X pins σ H s) (h:Kd H x k) (r:bi x u):∃Y:Heap->Prop,PySem.W.KitX X.K u (.type k) Y/\Y s.heap/\u ≠ Value.builtin "__main__.__loader__#opaque":=by
 cases h with
 | non=>cases r;exact⟨_,PySem.W.kitx_none,trivial,fun z=>nomatch z⟩
 | bl b=>cases r;exact⟨_,PySem.W.kitx_bool,trivial,fun z=>nomatch z⟩
 | int i=>obtain⟨t,rfl⟩:=r;exact⟨_,PySem.W.kitx_int,trivial,fun z=>nomatch z⟩
 | str y=>obtain⟨t,rfl⟩:=r;exact⟨_,PySem.W.kitx_str,trivial,fun z=>nomatch z⟩
 | lst h =>
  cases r;obtain⟨_,its,n,rv,p⟩:=h.ok I.hok;exact⟨_,PySem.W.kitx_list,⟨_,p,rfl⟩,fun z=>nomatch z⟩
 | tup h =>
  cases r;obtain⟨_,its,rv,o,e1,e2,_⟩:=h.ok I.hok;exact⟨_,PySem.W.kitx_tuple,⟨o,e1,e2⟩,fun z=>nomatch z⟩
theorem cy:dD X (.builtin "isinstance") (fun xs H Q=>∃x c k b,xs=[x,.ty c]/\Kd H x k/\PySem.W.kitOne X.K (.type k) (.type c)=some b/\Q (.bl b) H):=by
 intro pins s σ H xs us Q I rv h;obtain⟨x,c,k,b,rfl,hk,e,q⟩:=h;obtain⟨u,u2,rfl,r1,r2⟩:=nu rv;cases r2;obtain⟨Y,kx,hy,ne⟩:=hk.kit I r1;exact PySem.W.kia_one kx I.kIn hy e ne fun tk=>⟨.bl b,H,I.tok tk,rfl,q⟩
end
end L2
namespace HT
open PySem PySem.Spec PyProof.Rows
section
variable{prog:Program}{w:World}{A:Around}{E:Value->Shared->Prop}{s:Shared}
theorem sj{t sl:Addr}{items:Array Value}{vl vu:Value}{lo hi:Option Int}{Q:Value->Shared->Prop}(ht:IsTup s.heap t items)(hs:s.heap.IsSliceOf sl vl vu .none)(pl:IsPart vl lo)(pu:IsPart vu hi)
  (h1:sIx items.size 0 lo=0)(h2:sIx items.size items.size hi=items.size)(h:Q (.ref t) s):wpAny (model prog w) A (getItem (.ref t) (.ref sl)) Q E s:=by
 obtain⟨os,hos,hcs,hds⟩:=id hs;have hTs:s.TypeIs (.ref sl) "slice":=⟨os,hos,hcs⟩;unfold getItem
 try with_reducible refine wpAny_holding ?_
 first | refine wpAny_bind (wpAny_pure ?_) | skip
 refine wpAny_bind (wpAny_sequenceKey ht.typeIs (by decide) ?_)
 refine wpAny_bind (wpAny_callSpecial?_slot (name:=Str.ofString "__getitem__") ht.typeIs PyProof.Rows.slot_tuple_getitem
  (wpAny_call_entry PyProof.Rows.slot_tuple_getitem ht.typeIs entry_tuple_getitem ?_ (args_tuple_getitem _ _)))
 show wpAny _ _ (Builtin.Tuple.tupleItemsOf (.ref t) >>= _) _ _ s;refine wpAny_bind (tupleItemsOf_ ht ?_);refine wpAny_bind (wpAny_typeOf hTs ?_);rw[if_pos (by decide)]
 refine wpAny_bind (eT hs pl pu ?_);rw[h1,h2];show wpAny _ _ (if (((0:Nat):Int) == 0 && (1:Int) == 1 && (items.size - 0) == items.size)=true then _ else _) _ _ s
 rw[if_pos (by simp)]
 unfold Builtin.Tuple.tupleIsExact;refine wpAny_bind (wpAny_bind (wpAny_typeOf ht.typeIs (wpAny_pure ?_)));rw[if_pos (by decide)]
 exact wpAny_bind (wpAny_rule (wpAny_pure ⟨_,rfl,wpAny_pure h⟩))
theorem uA{t b:Addr}{vs ws:List Value}{Q:Value->Shared->Prop}(ht:IsTup s.heap t vs.toArray)(hb:IsTup s.heap b ws.toArray)(hv:vs=[])(h1:Q (.ref b) s):wpAny (model prog w) A (binaryOp .Add (.ref t) (.ref b)) Q E s:=by
 obtain⟨⟨cls,dd,data,sl⟩,ho,hc,n,hd⟩:=id ht;obtain⟨⟨cls2,dd2,data2,sl2⟩,ho2,hc2,n2,hd2⟩:=id hb;simp only at hc hd hc2 hd2;subst hc hd hc2 hd2;exact concat_meets ⟨_,ho,rfl⟩ ⟨_,ho2,rfl⟩ noFill_tuple_add seq_tuple_add PySem.F.slot_tuple_add PySem.F.entry_tuple_add (PySem.F.args_tuple_add_2 _ _)
  (tuple_addW0 t b vs.toArray ws.toArray n n2 dd dd2 sl sl2 (by simp[hv])) ⟨ho,ho2,h1⟩
end
end HT
namespace L2
open PySem PySem.Spec PyProof.Rows
theorem dE{H:Hp}{a:Addr}{o:HO}(h:H a=none):aq H (upd H a o):=fun b u e=>by rw[aw (ak e h)];exact e
section
variable{X:Cx}
theorem cK:SlR X (fun x lo hi H Q=>∃a xs,x=.ref a/\H a=some (.tup xs)/\∀p H',aq H H'->H' p=some (.tup (cx xs lo hi))->Q (.ref p) H'):=by
 intro pins s σ H x v vl vu lo hi sl Q I rx hs pl pu h;obtain⟨a,xs,rfl,hx,q⟩:=h;by_cases hw:HT.sIx xs.length 0 lo=0/\HT.sIx xs.length xs.length hi=xs.length
 ·cases rx;obtain⟨its,r,ht,hz⟩:=I.tuple (SqT.of (K:=X.K) hx);have hlen:its.toArray.size=xs.length:=by rw[size_toArray];exact r.length.symm
  refine⟨"tuple",_,PyProof.Rows.slot_tuple_getitem.lookup,ht.typeIs,?_⟩;refine HT.sj ht hs pl pu (by rw[hlen];exact hw.1) (by rw[hlen];exact hw.2) ⟨.ref a,H,I,rfl,q a H (aq.refl H) ?_⟩
  rw[hx];unfold cx;rw[hw.1,hw.2];simp
 ·exact sl_tup pins s σ H (.ref a) v vl vu lo hi sl Q I rx hs pl pu ⟨a,xs,rfl,SqT.of hx,hw,fun p hp=>q p _ (dE hp) ai⟩
theorem iQ:OpR X (binaryOp .Add) (fun x y H Q=>∃a b xs ys,x=.ref a/\y=.ref b/\H a=some (.tup xs)/\H b=some (.tup ys)/\xs.length + ys.length <= sizeLine/\∀p H',aq H H'->H' p=some (.tup (xs ++ ys))->Q (.ref p) H'):=by
 intro pins s σ H x y v u Q I rx ry h;obtain⟨a,b,xs,ys,rfl,rfl,ha,hb,hz,q⟩:=h;by_cases hx:xs=[]
 ·subst hx;cases rx;cases ry;obtain⟨its,r1,p1,_⟩:=I.tuple (SqT.of (K:=X.K) ha);obtain⟨its2,r2,p2,_⟩:=I.tuple (SqT.of (K:=X.K) hb);exact HT.uA p1 p2 (r1.nil_iff.mpr rfl) ⟨.ref b,H,I,rfl,q b H (aq.refl H) hb⟩
 ·exact qI pins s σ H _ _ v u Q I rx ry ⟨a,b,xs,ys,rfl,rfl,SqT.of ha,SqT.of hb,hx,hz,fun e=>q a H (aq.refl H) (by rw[ha,e,List.append_nil]),fun _ p hp=>q p _ (dE hp) ai⟩
def qP(t:TA):TE:=fun σ H Q=>t σ H fun xs H1=>xs.length <= sizeLine/\∀p H2,H1 p=none->aq H1 H2->H2 p=some (.lst xs)->Q (.ref p) H2
def tTupA(t:TA):TE:=fun σ H Q=>t σ H fun xs H1=>xs.length <= sizeLine/\∀p H2,H1 p=none->aq H1 H2->H2 p=some (.tup xs)->Q (.ref p) H2
theorem cL{es:List Expr}{t:TA}{pos:Pos}(h:PA X es t):PE X (.List es pos) (qP t):=by
 intro pins s σ H Q I hq;refine wpAny_List_spliced (thn (h pos pins s σ H _ I hq) fun us s1 ⟨xs,H1,I1,r,z,q⟩=>⟨by rw[<- r.length];exact z,?_⟩)
 have hf:H1 s1.heap.objs.size=none:=I1.hok.fresh (Nat.le_refl _);refine⟨.ref s1.heap.objs.size,upd H1 s1.heap.objs.size (.lst xs),I1.laid (t':=s1.toks) (fun b u e=>get?_push_of_some _ e) (Nat.le_refl _) ?_,rfl,q _ _ hf (dE hf) ai⟩
 exact⟨z,us,0,r,get?_push_size _ rfl⟩
theorem aR{es:List Expr}{t:TA}{pos:Pos}{x1:Nat}(h:PA X es t):PE X (.Tuple es x1 pos) (tTupA t):=by
 intro pins s σ H Q I hq;refine wpAny_Tuple_spliced (thn (h pos pins s σ H _ I hq) fun us s1 ⟨xs,H1,I1,r,z,q⟩=>⟨by rw[<- r.length];exact z,?_⟩)
 have hf:H1 s1.heap.objs.size=none:=I1.hok.fresh (Nat.le_refl _);refine⟨.ref s1.heap.objs.size,upd H1 s1.heap.objs.size (.tup xs),I1.laid (t':=s1.toks) (fun b u e=>get?_push_of_some _ e) (Nat.le_refl _) ?_,rfl,q _ _ hf (dE hf) ai⟩
 exact⟨z,us,r,⟨_,get?_push_size _ rfl,rfl,_,rfl⟩⟩
theorem iR:OpR X (binaryOp .Add) (fun x y H Q=>∃l b xs zs,x=.ref l/\y=.ref b/\H l=some (.lst xs)/\H b=some (.lst zs)/\xs.length + zs.length <= sizeLine/\∀p H2,H p=none->aq H H2->H2 p=some (.lst (xs ++ zs))->Q (.ref p) H2):=by
 intro pins s σ H x y v u Q I rx ry h;obtain⟨l,b,xs,zs,h1,h2,h3,h4,h5,q⟩:=h;exact op_cat pins s σ H x y v u Q I rx ry ⟨l,b,xs,zs,h1,h2,h3,h4,h5,fun p hp=>q p _ hp (dE hp) ai⟩
theorem fc:dD X (.type "list") (fun xs H Q=>∃p ys,xs=[.ref p]/\(SqL X.K H p ys\/SqT X.K H p ys)/\∀l H2,H l=none->aq H H2->H2 l=some (.lst ys)->Q (.ref l) H2):=by
 intro pins s σ H xs us Q I r h;obtain⟨p,ys,h1,h2,q⟩:=h;exact lz pins s σ H xs us Q I r ⟨p,ys,h1,h2,fun l hl=>q l _ hl (dE hl) ai⟩
theorem uB{v:V}(h:cZ v=true):eqV v v=true:=by
 cases v with
 | non=>rfl
 | bl b=>cases b <;> rfl
 | int i=>show (i == i)=true;exact beq_self_eq_true i
 | str x=>show (x == x)=true;exact beq_self_eq_true x
 | _=>exact absurd h (by simp[cZ])
theorem gM{A:Around}{s:Shared}{v:V}{u1 u2:Value}(h:cZ v=true)(r1:bi v u1)(r2:bi v u2):SeqAt.EqAt A s u1 u2 true:=by
 have:=ur (A:=A) (s:=s) r1 r2 h h
 rwa [uB h]at this
end
theorem lcT{x:Str}{k:Nat}{σ:St}{H1:Hp}{te:TE}{Q:VK}(f:Nat->V)(hk:σ.length=k)(hz:x.cps.size <= 1000)
  (turn:∀D c ys (post:VK),H1 D=none->post (f c) (upd H1 D (.lst ys))->te (σ ++ [some (.str ⟨#[c]⟩)]) (upd H1 D (.lst ys)) post)
  (fin:∀D,H1 D=none->Q (.ref D) (upd H1 D (.lst (x.cps.toList.map f)))):LCT 1 (iy k) nO te σ Q (Itx x) H1:=by
 have hl:x.cps.toList.length=x.cps.size:=Array.length_toList;refine lcJ (n:=x.cps.size) (fun i=>.str ⟨#[x.cps.toList.getD i 0]⟩) (fun D i ys H=>H1 D=none/\ys=(x.cps.toList.take i).map f/\H=upd H1 D (.lst ys)) hk ?_ ?_ ?_ ?_ ?_ ?_
 ·rintro D i ys H hi _;exact hi
 ·rintro D i ys H y H' hi _ ⟨e,c,hc,rfl⟩;refine⟨e,?_⟩;rw[<- Array.getElem?_toList]at hc;rw[getD_eq_getElem?_getD,hc];rfl
 ·rintro D ys H _;exact rfl
 ·intro D hD;exact⟨hD,by simp,rfl⟩
 ·rintro D i ys H post hi ⟨h1,h2,rfl⟩ hp;have hx:x.cps.toList[i]?=some (x.cps.toList.getD i 0):=by rw[getD_eq_getElem?_getD,getElem?_eq_getElem (by lia)];rfl
  refine turn D _ ys post h1 (hp _ _ ai ?_ ⟨h1,?_,by rw[lh]⟩)
  ·rw[h2,length_map,length_take];exact bO (by lia)
  ·rw[h2,List.take_add_one,hx];simp
 ·rintro D ys H ⟨h1,h2,rfl⟩;rw[h2,take_of_length_le (by lia)]
  exact fin D h1
section
variable{X:Cx}
theorem eK:dD X (.type "tuple") (fun xs H Q=>∃p ys,xs=[.ref p]/\SqL X.K H p ys/\∀l H2,H l=none->aq H H2->H2 l=some (.tup ys)->Q (.ref l) H2):=by
 intro pins s σ H xs us Q I r h;obtain⟨p,ys,h1,h2,q⟩:=h;exact jW pins s σ H xs us Q I r ⟨p,ys,h1,.inl ⟨h2,fun l hl=>q l _ hl (dE hl) ai⟩⟩
theorem ga:MtR X "list.append" (fun x vs H Q=>∃(l:Addr)(xs:List V)(y:V),x=.ref l/\vs=[y]/\H l=some (.lst xs)/\xs.length <= 1000/\∀H1,(∀b o,b ≠ l->H b=some o->H1 b=some o)->H1 l=some (.lst (xs ++ [y]))->Q .non H1):=by
 intro pins s σ H x vs v us Q I rx rv h;obtain⟨l,xs,y,h1,h2,hl,hn,q⟩:=h;exact ky pins s σ H x vs v us Q I rx rv ⟨l,xs,y,h1,h2,hl,bO hn,q _ (fun b o hb e=>by rw[aw hb];exact e) ai⟩
end
structure aV(P:Program)(w:World)(K:Frag)(mg:Str->Option Value)(base:Heap)(k:Nat)(x:Str)(ps:List Str)(sp:Sp):Prop where
 ex:∃f fd,aQ P w K mg base CX0 k f fd ps sp/\mg x=some (.ref f)/\PySem.W.keepIn K (.ref f)=true/\ej K fd ps []
theorem aB{X:Cx}{k:Nat}{x:Str}{ps:List Str}{sp:Sp}{e:Expr}{es:List Expr}{t:TA}{p pos:Pos}(F:aV X.prog X.w X.K X.mg X.base k x ps sp)(hr:bj k X.A)(ha:PA X (e :: es) t)(hg:Gl X x:=by rfl)
  (hdb:(x == ("__debug__":Str))=false:=by decide) (he:starEach (e :: es) X.env=(false,eval e X.env) :: starEach es X.env:=by rfl) (hpl:(backTo pos (starEach es X.env)).any (·.1)=false:=by rfl) :
  PE X (.Call (.Name x p) (e :: es) [] pos) (j7 sp [] E0 t):=by
 obtain⟨f,fd,G,m,kp,b⟩:=F.ex;exact qF G hr hg m kp b .nil jj ha hdb he hpl
theorem aq.new{H:Hp}{a:Addr}{o:HO}(h:H a=none):aq H (upd H a o):=fun b u e=>by rw[aw (ak e h)];exact e
theorem aq.none{H H':Hp}(e:aq H H'){a:Addr}(h:H' a=Option.none):H a=Option.none:=e.free h
theorem fI{K:Frag}{T c:String}{b:Bool}(h1:(Value.type T == Value.type c)=false)(h2:PySem.W.kitMeta c=true)(h3:(PySem.W.subIn K (.type T) (.type c))=some b):PySem.W.kitOne K (.type T) (.type c)=some b:=by
 unfold PySem.W.kitOne;rw[if_neg (by rw[h1];decide)]
 unfold PySem.W.kitCls;dsimp only;rw[if_pos h2];exact h3
def isStrV:V->Bool | .str _=>true | _=>false
def uC:V->Bool | .int _=>true | .bl _=>true | _=>false
def isBlV:V->Bool | .bl _=>true | _=>false
theorem kit_str {K:Frag} {H:Hp} {x:V} {k:String} (h:Kd H x k):PySem.W.kitOne K (.type k) (.type "str")=some (isStrV x):=by cases h <;> first | exact bo | exact fI (by decide +kernel) (by decide +kernel) (by with_unfolding_all rfl)
theorem kit_int {K:Frag} {H:Hp} {x:V} {k:String} (h:Kd H x k):PySem.W.kitOne K (.type k) (.type "int")=some (uC x):=by cases h <;> first | exact bo | exact fI (by decide +kernel) (by decide +kernel) (by with_unfolding_all rfl)
theorem pi {K:Frag} {H:Hp} {x:V} {k:String} (h:Kd H x k):PySem.W.kitOne K (.type k) (.type "bool")=some (isBlV x):=by cases h <;> first | exact bo | exact fI (by decide +kernel) (by decide +kernel) (by with_unfolding_all rfl)
theorem uD {K:Frag}:PySem.W.kitOne K (.type "list") (.type "tuple")=some false:=by first | exact bo | exact fI (by decide +kernel) (by decide +kernel) (by with_unfolding_all rfl)
theorem lB {K:Frag} {H:Hp} {x:V} {k:String} (f:cZ x=true) (h:Kd H x k):PySem.W.kitOne K (.type k) (.type "tuple")=some false:=by
 cases h with
 | lst _=>exact absurd f (by simp[cZ])
 | tup _=>exact absurd f (by simp[cZ])
 | non=>first | exact bo | exact fI (by decide +kernel) (by decide +kernel) (by with_unfolding_all rfl)
 | bl b=>first | exact bo | exact fI (by decide +kernel) (by decide +kernel) (by with_unfolding_all rfl)
 | int i=>first | exact bo | exact fI (by decide +kernel) (by decide +kernel) (by with_unfolding_all rfl)
 | str x=>first | exact bo | exact fI (by decide +kernel) (by decide +kernel) (by with_unfolding_all rfl)
section
variable{X:Cx}
end
section
variable{X:Cx}
end
theorem inV_str{x:Str}{zs:List Str}:inV (.str x) (zs.map V.str)=decide (x ∈ zs):=by
 unfold inV;rw[Bool.eq_iff_iff,List.any_eq_true,decide_eq_true_iff];constructor
 ·rintro ⟨y,hy,e⟩;obtain⟨z,hz,rfl⟩:=List.mem_map.mp hy;have e:z=x:=beq_iff_eq.mp (show (z == x)=true from e);exact e ▸ hz
 ·intro h;exact⟨.str x,List.mem_map.mpr ⟨x,h,rfl⟩,show (x == x)=true from beq_self_eq_true x⟩
theorem kC(zs:List Str):(zs.map V.str).all cZ=true:=by
 rw[List.all_map];exact List.all_eq_true.mpr fun _ _=>rfl
theorem pj{X:Cx}{scope:Scope}{cl:List (Str × Addr)}{N2 ys:List Str}{C:Addr}{s:Shared}{H:Hp}{fp:List Addr}:OpR (cxC X scope cl N2 ys C s H fp) (compareOp .In) (rIn X.K false):=hZ
section
variable{X:Cx}
end
structure aW(P:Program)(w:World)(K:Frag)(mg:Str->Option Value)(base:Heap)(C:Addr)(k:Nat)(x:Str)(ps:List Str)(sp:Sp):Prop where
 ex:∃f fd,aQ P w K mg base CX0 k f fd ps sp/\ej K fd ps []/\oT K C x f
structure fe(P:Program)(w:World)(K:Frag)(mg:Str->Option Value)(base:Heap)(C:Addr)(k:Nat)(ps:List Str)(sp:Sp):Prop where
 ex:∃f fd,aQ P w K mg base CX0 k f fd ps sp/\ej K fd ps []/\Mk K C f
section
variable{X:Cx}{k:Nat}{C:Addr}{m x:Str}{ps:List Str}{sp:Sp}{o e:Expr}{es:List Expr}{ta:TE}{t:TA}{p pos apos:Pos}
theorem bg{pl:Sem Bool}(M:aW X.prog X.w X.K X.mg X.base C k m ps sp)(c:Cls X.K C)(hr:bj k X.A)(he:PE X o ta)(ha:PA X (e :: es) t)
  (hst:starEach (e :: es) X.env=(false,eval e X.env) :: starEach es X.env:=by rfl)(hpl:(backTo pos (starEach es X.env)).any (·.1)=false:=by rfl)
  (ht:eval (.Call (.Attribute o m apos) (e :: es) [] pos) X.env=(do
   let ov <- eval o X.env
   standAt apos.atName
   let (f,first) <- holding [ov] (getMethod ov m pl)
   callWith pos f first (backTo pos (starEach (e :: es) X.env)) (backToKw pos (keywordEach [] X.env))):=by rfl) :
  PE X (.Call (.Attribute o m apos) (e :: es) [] pos) (qE C m sp [] E0 ta t):=by
 obtain⟨f,fd,G,b,M⟩:=M.ex;exact iM he c M G hr b .nil jj ha hst hpl ht
theorem aO{pl:Sem Bool}(M:aW X.prog X.w X.K X.mg X.base C k m ps sp)(c:Cls X.K C)(hr:bj k X.A)(he:PE X o ta)
  (ht:eval (.Call (.Attribute o m apos) [] [] pos) X.env=(do
   let ov <- eval o X.env
   standAt apos.atName
   let (f,first) <- holding [ov] (getMethod ov m pl)
   callWith pos f first (backTo pos (starEach [] X.env)) (backToKw pos (keywordEach [] X.env))):=by rfl) :
  PE X (.Call (.Attribute o m apos) [] [] pos) (qE C m sp [] E0 ta nw):=by
 obtain⟨f,fd,G,b,M⟩:=M.ex;exact ul he c M G hr b .nil jj ht
theorem cz (M:fe X.prog X.w X.K X.mg X.base C k ps sp) (hr:bj (k + 1) X.A) (hm:X.mg x=some (.ref C)) (ha:PA X (e :: es) t) (hg:Gl X x:=by rfl) (hdb:(x == ("__debug__":Str))=false:=by decide)
  (he:starEach (e :: es) X.env=(false,eval e X.env) :: starEach es X.env:=by rfl) (hpl:(backTo pos (starEach es X.env)).any (·.1)=false:=by rfl):PE X (.Call (.Name x p) (e :: es) [] pos) (tMake C sp [] E0 t):=by
 obtain⟨f,fd,G,b,M⟩:=M.ex;exact pe_make M G hr hg hm b .nil jj ha hdb he hpl
end
def smV:V->Bool
 | .ref _=>true
 | v=>cZ v
theorem uE{A:Around}{s:Shared}{v:V}{u1 u2:Value}(h:smV v=true)(r1:bi v u1)(r2:bi v u2):SeqAt.EqAt A s u1 u2 true:=by
 cases v with
 | ref a =>
  cases r1;cases r2;exact SeqAt.EqAt.same _
 | non=>exact gM (v:=.non) rfl r1 r2
 | bl b=>exact gM (v:=.bl b) rfl r1 r2
 | int i=>exact gM (v:=.int i) rfl r1 r2
 | str x=>exact gM (v:=.str x) rfl r1 r2
 | _=>exact absurd h (by simp[smV,cZ])
theorem eqAt_sm{A:Around}{s:Shared}{xs:List V}{its jts:List Value}(hx:∀v ∈ xs,smV v=true)(r1:bA xs its)(r2:bA xs jts)(j:Nat)(h1:j < its.toArray.size)(h2:j < jts.toArray.size):SeqAt.EqAt A s its.toArray[j] jts.toArray[j] true:=by
 have hj1:j < its.length:=by simpa using h1
 have hj2:j < jts.length:=by simpa using h2
 have hj:j < xs.length:=by rw[r1.length];exact hj1
 obtain⟨u1,hu1,ru1⟩:=r1.get (i:=j) (x:=xs[j]) (getElem?_eq_getElem hj);obtain⟨u2,hu2,ru2⟩:=r2.get (i:=j) (x:=xs[j]) (getElem?_eq_getElem hj);have i1:its.toArray[j]=u1:=by
  have:=getElem?_eq_getElem hj1;rw[hu1]at this;simpa using(Option.some.inj this).symm
 have i2:jts.toArray[j]=u2:=by
  have:=getElem?_eq_getElem hj2;rw[hu2]at this;simpa using(Option.some.inj this).symm
 rw[i1,i2];exact uE (hx _ (List.getElem_mem hj)) ru1 ru2
section
variable{X:Cx}
theorem gO(n m:Nat)(h:n=m):((List.range (min n m)).all (fun _=>true) && n == m)=true:=by
 subst h;simp
theorem op_neSm(hu:X.A.units + 1 < cLine):OpR X (compareOp .NotEq) (fun x y H Q=>∃(a b:Addr)(xs:List V),x=.ref a/\y=.ref b/\SqT X.K H a xs/\SqT X.K H b xs/\(∀v ∈ xs,smV v=true)/\Q (.bl false) H):=by
 intro pins s σ H x y v u Q I rx ry h;obtain⟨a,b,xs,rfl,rfl,ha,hb,hx,q⟩:=h;cases rx;cases ry;obtain⟨its,r1,p1,_⟩:=I.tuple ha;obtain⟨jts,r2,p2,_⟩:=I.tuple hb;have:=SeqAt.RcNeAt.tuples (A:=X.A) (s:=s) (e:=fun _=>true) (show s.heap.IsTuple a its.toArray from p1) (show s.heap.IsTuple b jts.toArray from p2) (Nat.lt_of_succ_lt hu) (eqAt_sm hx r1 r2);rw[size_toArray,size_toArray,gO _ _ (r1.length.symm.trans r2.length)]at this;exact this _ _ _ _ (bp I q rfl)
theorem op_neT0(hu:X.A.units + 1 < cLine):OpR X (compareOp .NotEq) (fun x y H Q=>∃(a b:Addr)(xs:List V),x=.ref a/\y=.ref b/\SqT X.K H a xs/\SqT X.K H b []/\Q (.bl (!xs.isEmpty)) H):=by
 intro pins s σ H x y v u Q I rx ry h;obtain⟨a,b,xs,rfl,rfl,ha,hb,q⟩:=h;cases rx;cases ry;obtain⟨its,r1,p1,_⟩:=I.tuple ha;obtain⟨jts,r2,p2,_⟩:=I.tuple hb;cases r2;have:=SeqAt.RcNeAt.tuples (A:=X.A) (s:=s) (e:=fun _=>true) (show s.heap.IsTuple a its.toArray from p1) (show s.heap.IsTuple b ([]:List Value).toArray from p2) (Nat.lt_of_succ_lt hu) (fun j h1 h2=>absurd h2 (by simp))
 have e:((List.range (min its.toArray.size ([]:List Value).toArray.size)).all (fun _=>true) && its.toArray.size == ([]:List Value).toArray.size)=xs.isEmpty:=by
  have hl:=r1.length;cases xs with
  | nil =>
   cases r1;rfl
  | cons z zs =>
   cases its with
   | nil=>simp at hl
   | cons y ys=>simp
 rw[e]at this;exact this _ _ _ _ (bp I q rfl)
theorem eU:dD X (.type "tuple") (fun xs H Q=>∃p ys,xs=[.ref p]/\SqT X.K H p ys/\Q (.ref p) H):=by
 intro pins s σ H xs us Q I rv h;obtain⟨p,ys,rfl,hp,q⟩:=h;obtain⟨u,rfl,ru⟩:=rv.one;cases ru;obtain⟨its,r,ht,_⟩:=I.tuple hp;exact call_tuple_same (show s.heap.IsTuple p its.toArray from ht) ⟨.ref p,H,I,rfl,q⟩
end
theorem qQ{X:Cx}{scope:Scope}{cl:List (Str × Addr)}{N2 ys:List Str}{C:Addr}{s:Shared}{H:Hp}{fp:List Addr}{pos:Pos}{es:List Expr}{k:Nat}{t:TGs}{n:Nat}(hc:X.calm=true)(h:PGs (cxC X scope cl N2 ys C s H fp) es t)
  (hn:(assignEach es (cxC X scope cl N2 ys C s H fp).env).length=n:=by rfl)(hst:(assignEach es (cxC X scope cl N2 ys C s H fp).env).findIdx? (·.1)=none:=by rfl):PG (cxC X scope cl N2 ys C s H fp) (.Tuple es k pos) (gTup X.K n t) :=
 dg (X:=cxC X scope cl N2 ys C s H fp) hc h hn hst
end L2
namespace L2.RV
open PySem PySem.Spec PyProof.Rows
theorem nQ:Manifest.owners.lookup (String.ofList ['d','e','s','r','e','v','e','r'].reverse)=some Manifest.sig_reversed:=by kernel_rfl
theorem eV:Slot "reversed" "__next__" "reversed.__next__" :=
 .of (owner:="reversed") (n:="__next__") (by rw[typeLookup_type,builtinLookup_eq_fast];kernel_rfl) (by decide +kernel) (by decide +kernel) (by decide +kernel)
  (by first | exact .inl (by decide +kernel) | exact .inr (by decide +kernel)) (by rw[isSubtype_type];kernel_rfl)
theorem jl:entryFor table "reversed.__next__"=some Builtin.«reversed.__next__»:=entryFor_of_tree (by kernel_rfl)
theorem kD (a:Value):argsOk "reversed.__next__" ⟨[a],[]⟩:=by
 unfold argsOk;rw[signature?_of (id:="reversed.__next__") (n:=['_','_','t','x','e','n','_','_']) (o:=['d','e','s','r','e','v','e','r']) (by kernel_rfl) nQ];kernel_rfl
theorem kE:Slot "reversed" "__iter__" "reversed.__iter__" :=
 .of (owner:="reversed") (n:="__iter__") (by rw[typeLookup_type,builtinLookup_eq_fast];kernel_rfl) (by decide +kernel) (by decide +kernel) (by decide +kernel)
  (by first | exact .inl (by decide +kernel) | exact .inr (by decide +kernel)) (by rw[isSubtype_type];kernel_rfl)
theorem sr (a:Value):argsOk "reversed.__iter__" ⟨[a],[]⟩:=by
 unfold argsOk;rw[signature?_of (id:="reversed.__iter__") (n:=['_','_','r','e','t','i','_','_']) (o:=['d','e','s','r','e','v','e','r']) (by kernel_rfl) nQ];kernel_rfl
theorem pk:entryFor table "reversed.__iter__"=some Builtin.«dict_keyiterator.__iter__» :=
 entryFor_alias (id':="dict_keyiterator.__iter__") (by kernel_rfl) (by first | rfl | decide +kernel | (unfold String.splitOn;simp +decide [String.splitOnAux])) (by decide +kernel) (by kernel_rfl)
theorem no_rev:typeLookup (.type "tuple") "__reversed__"=pure none:=by rw[typeLookup_type,builtinLookup_eq_fast];kernel_rfl
theorem sub_td:isSubtype (.type "tuple") (.type "dict")=pure false:=by rw[isSubtype_type];kernel_rfl
theorem su:Slot "reversed" "__init__" "object.__init__" :=
 .of (owner:="object") (n:="__init__") (by rw[typeLookup_type,builtinLookup_eq_fast];kernel_rfl) (by decide +kernel) (by decide +kernel) (by decide +kernel)
  (by first | exact .inl (by decide +kernel) | exact .inr (by decide +kernel)) (by rw[isSubtype_type];kernel_rfl)
theorem called:TypeCalled "reversed" "reversed.__new__" "object.__init__" :=
 ⟨by decide +kernel,by decide +kernel,⟨_,_,F.mro_reversed⟩,F.made_reversed,by decide +kernel,by rw[isSubtype_type];kernel_rfl,su⟩
theorem sw (obj a:Value):argsOk "object.__init__" ⟨[obj,a],[]⟩:=by
 unfold argsOk;rw[signature?_of (id:="object.__init__") (n:=['_','_','t','i','n','i','_','_']) (o:=['t','c','e','j','b','o']) (by kernel_rfl) F.owner_object];kernel_rfl
noncomputable def kF (l:Addr) (i:Int):Obj:={ cls:=.type "reversed",data:=.fields #[.ref l,rawInt i] }
def nR (h:Heap) (a l:Addr) (i:Int):Prop:=∃o,h.get? a=some o/\o.cls=.type "reversed" /\o.data=.fields #[.ref l,rawInt i]
section
variable{prog:Program}{w:World}{A:Around}{E:Value->Shared->Prop}{s:Shared}
theorem nR.typeIs {a l:Addr} {i:Int} (x:nR s.heap a l i):s.TypeIs (.ref a) "reversed":=let ⟨o,ho,hc,_⟩:=x;⟨o,ho,hc⟩
theorem uF{l:Addr}{items:Array Value}{Q₁:Value->Shared->Prop}(hl:IsTup s.heap l items)(hfit:(items.size:Int) < 2 ^ 63)
  (h:∀t',Q₁ (.ref s.heap.objs.size) { s with heap:=s.heap.push (kF l ((items.size:Int) - 1)),toks:=t' }) :
  codeAny (model prog w) A (.call (.builtin "reversed.__new__") ⟨[.type "reversed",.ref l],[]⟩) (wants Q₁ E) s:=by
 refine codeAny_of_tree ?_;show wpAny _ A.in1 (do checkBuiltinCall "reversed.__new__" ⟨[.type "reversed",.ref l],[]⟩;again (.builtin "reversed.__new__" ⟨[.type "reversed",.ref l],[]⟩)) _ _ s
 refine wpAny_bind (wpAny_of_eq (F.newCall_reversed_1 _) (wpAny_pure ⟨plainId_quiet F.plain_reversed_new _,codeAny_builtin F.entry_reversed_new ?_⟩));rw[Around.under_plainId F.plain_reversed_new _];unfold Builtin.«reversed.__new__»;refine wpAny_bind (wpAny_of_eq (newClass_reversed _) ?_)
 try dsimp only
 refine wpAny_bind (wpAny_of_eq (a:=()) (by first | rfl | kernel_rfl) ?_)
 refine wpAny_bind (wpAny_of_eq (a:=()) (by first | rfl | kernel_rfl) ?_)
 try dsimp only
 refine wpAny_bind (wpAny_specialOf hl.typeIs no_rev ?_)
 try dsimp only
 refine wpAny_bind ?_;refine wpAny_mono (Q:=fun b s'=>b=true/\s'=s) (?_:wpAny _ _ (do
   if <- isInstance (Value.ref l) (.type "dict") then return false
   match <- specialOf (Value.ref l) "__getitem__" with
   | none=>return false
   | some (.builtin id) =>
    if ["tuple.__getitem__","str.__getitem__","bytes.__getitem__","bytearray.__getitem__","memoryview.__getitem__","numpy.ndarray.__getitem__","sqlite3.Row.__getitem__"].contains id then return true
    if id == "sqlite3.Blob.__getitem__" then return false
    unsupported "reversed.__new__:is-it-a-sequence"
   | some _=>return true) _ _ s) ?_ (fun _ _ e=>e)
 ·refine wpAny_bind (wpAny_isInstance hl.typeIs sub_td ?_);show wpAny _ _ (specialOf (Value.ref l) "__getitem__" >>= _) _ _ s;refine wpAny_bind (wpAny_specialOf hl.typeIs slot_tuple_getitem.lookup ?_);dsimp only;rw[if_pos (by decide)]
  exact wpAny_pure ⟨rfl,rfl⟩
 ·rintro b s' ⟨rfl,rfl⟩;show wpAny _ _ (call (Value.builtin "len") [Value.ref l] >>= _) _ _ s';refine wpAny_bind (len_tuple hl hfit ?_);refine wpAny_bind (wpAny_of_eq (a:=some (items.size:Int)) rfl ?_);dsimp only;refine wpAny_bind (m:=newObj (.type "reversed") (.fields #[.ref l,rawInt ((items.size:Int) - 1)])) (wpAny_newObj_type (wpAny_pure (h _)))
theorem lC {T newId:String} {args:List Value} {Q Q₁:Value->Shared->Prop} (ft:TypeCalled T newId "object.__init__")
  (hne:(some newId != some "object.__new__")=true) (hct:checkTypeCall T ⟨args,[]⟩=pure ()) (hok:∀obj,argsOk "object.__init__" ⟨obj :: args,[]⟩)
  (hnew:codeAny (model prog w) A.in1 (.call (.builtin newId) ⟨.type T :: args,[]⟩) (wants Q₁ E) s) (hnext:∀obj s₁,Q₁ obj s₁->s₁.TypeIs obj T/\Q obj s₁):wpAny (model prog w) A (call (.type T) args) Q E s:=by
 obtain⟨c,tl,hmro⟩:=ft.mro;have hmade:=ft.made;have hsub:=ft.sub;refine wpAny_call (codeAny_of_tree ?_);show wpAny _ _ (callAny (.type T) _) _ _ _;refine wpAny_pure ⟨Code.quiet_builtin _ (by decide +kernel),codeAny_builtin F.entry_type_call ?_⟩
 rw[Around.under_plain (weight_type_call_type T args []) (units_type_call_type T args [])];have h1:=ft.notType;have h2:=ft.canCreate
 repeat (any_goals (first | assumption | wp_step))
 refine codeAny_mono hnew fun r s₁ hr=>?_;cases r with
 | error e=>exact hr
 | ok fl =>
  cases fl with
  | ret obj =>
   obtain⟨hT,hq⟩:=hnext _ _ hr;have hli:=ft.init.lookup;have hbi:=ft.init.bind obj
   repeat (any_goals (first | assumption | wp_step))
   refine codeAny_mono (codeAny_call_builtin ft.init.plain F.entry_object_init (ft.init.check _ _ _ _ _ _ _ _ hT (hok obj) (object_init_meets ft.init.lookup ft.made hne prog w A.in1 (wants (fun r s₂=>r=.none/\Q obj s₂) E) s₁ ⟨hT,rfl,hq⟩))) fun r₂ s₂ hr₂=>?_;cases r₂ with
   | error e=>exact hr₂
   | ok fl₂ =>
    cases fl₂ with
    | ret r =>
     obtain⟨rfl,hq⟩:=hr₂
     repeat (any_goals (first | assumption | wp_step))
    | _=>exact hr₂.elim
  | _=>exact hr.elim
theorem uG{l:Addr}{items:Array Value}{Q:Value->Shared->Prop}(hl:IsTup s.heap l items)(hfit:(items.size:Int) < 2 ^ 63)
  (h:∀t',Q (.ref s.heap.objs.size) { s with heap:=s.heap.push (kF l ((items.size:Int) - 1)),toks:=t' }):wpAny (model prog w) A (call (.type "reversed") [.ref l]) Q E s:=by
 refine lC (Q₁:=fun obj s₁=>obj=.ref s.heap.objs.size/\∃t',s₁={ s with heap:=s.heap.push (kF l ((items.size:Int) - 1)),toks:=t' }) called (by decide) (F.typeCall_reversed_1 _) (fun obj=>sw obj _) (uF hl hfit fun t'=>⟨rfl,t',rfl⟩) ?_
 rintro obj s₁ ⟨rfl,t',rfl⟩;exact⟨⟨_,get?_push_size _ rfl,rfl⟩,h t'⟩
theorem ib{it l:Addr}{i:Nat}{items:Array Value}{x:Value}{Q:Option Value->Shared->Prop}(hit:nR s.heap it l (i:Int))(hl:IsTup s.heap l items)(hx:items[i]?=some x)(hfit:(items.size:Int) < 2 ^ 63)
  (hQ:∀h' t',nR h' it l ((i:Int) - 1)->Heap.SameBut it s.heap h'->Q (some x) { s with heap:=h',toks:=t' }):wpAny (model prog w) A (pyNext (.ref it)) Q E s:=by
 obtain⟨o,ho,hc,hd⟩:=id hit;unfold pyNext;refine wpAny_bind (wpAny_attempt (wpAny_callSpecial?_slot (name:=Str.ofString "__next__") hit.typeIs eV
  (wpAny_call_entry eV hit.typeIs jl ?_ (kD _))))
 unfold Builtin.«reversed.__next__»;refine wpAny_bind (wpAny_of_eq (a:=(Value.ref it,[])) rfl ?_)
 try dsimp only
 refine wpAny_bind (wpAny_field ho hd (x:=.ref l) rfl ?_);refine wpAny_bind (wpAny_field ho hd (x:=rawInt (i:Int)) rfl ?_);show wpAny _ _ (if (i:Int) < 0 then _ else _) _ _ s
 rw[if_neg (by lia)]
 show wpAny _ _ (specialOf (Value.ref l) "__getitem__" >>= _) _ _ s;refine wpAny_bind (wpAny_specialOf hl.typeIs slot_tuple_getitem.lookup ?_);simp only[Option.isNone_some,Bool.false_eq_true,if_false];refine wpAny_bind (wpAny_mkInt ?_);have hi:=(Array.getElem?_eq_some_iff.mp hx).1;refine wpAny_bind (wpAny_attempt (getItem_tuple (x:=x) (j:=i) hl (by lia) (by lia) ?_ hx ?_))
 ·unfold seqIndex?;simp
  lia
 dsimp only;refine wpAny_bind (wpAny_field ho hd (x:=rawInt (i:Int)) rfl ?_);show wpAny _ _ (setField (Value.ref it) 1 (rawInt ((i:Int) - 1)) >>= _) _ _ _;refine wpAny_bind (wpAny_setField ho hd (by simp) ?_)
 refine wpAny_pure ⟨x,rfl,wpAny_pure (hQ _ _ ?_ (Heap.SameBut.update ..))⟩;exact⟨_,Heap.get?_update_self _ ho (Obj.isFreed_of_fields (Obj.data_mapFields hd _)),(Obj.cls_mapFields ..).trans hc,by
  rw[Obj.data_mapFields hd];simp⟩
theorem uH{it l:Addr}{Q:Option Value->Shared->Prop}(hh:A.handled=none)(hit:nR s.heap it l (-1))
  (hQ:∀h' t',Heap.ExtBut it s.heap h'->Q none { s with heap:=h',toks:=t' }):wpAny (model prog w) A (pyNext (.ref it)) Q E s:=by
 obtain⟨o,ho,hc,hd⟩:=id hit;unfold pyNext;refine wpAny_bind (wpAny_attempt (wpAny_callSpecial?_slot (name:=Str.ofString "__next__") hit.typeIs eV
  (wpAny_call_entry eV hit.typeIs jl ?_ (kD _))))
 unfold Builtin.«reversed.__next__»;refine wpAny_bind (wpAny_of_eq (a:=(Value.ref it,[])) rfl ?_)
 try dsimp only
 refine wpAny_bind (wpAny_field ho hd (x:=.ref l) rfl ?_);refine wpAny_bind (wpAny_field ho hd (x:=rawInt (-1)) rfl ?_);show wpAny _ _ (if (-1:Int) < 0 then _ else _) _ _ s
 rw[if_pos (by decide)]
 refine wpAny_bind (wpAny_rule ?_);refine wpAny_bind (?_:wpAny _ _ (do setField (Value.ref it) 1 (rawInt (-1));setField (Value.ref it) 0 .none) _ _ s)
 refine wpAny_bind (wpAny_setField ho hd (by simp) ?_)
 have ho2:=Heap.get?_update_self _ ho (Obj.isFreed_of_fields (Obj.data_mapFields hd (fun xs=>xs.set! 1 (rawInt (-1)))));have hd2:=Obj.data_mapFields hd (fun xs=>xs.set! 1 (rawInt (-1)));refine wpAny_setField ho2 hd2 (by simp) ?_
 refine wpAny_bind ?_;show wpAny _ _ (newExc (.type "StopIteration") [] >>= _) _ _ _;refine wpAny_bind ?_;simp only[newExc,newTuple];refine wpAny_bind (wpAny_newObj_type ?_ (by size_fits))
 refine wpAny_bind (m:=firstArgMember _ _) (wpAny_of_eq (a:=Value.none) (by first | rfl | (simp only[firstArgMember];rfl)) ?_)
 refine wpAny_newObj_type ?_ (by size_fits)
 simp only[raiseNew];refine wpAny_bind (wpAny_handled ?_)
 first | rw[show A.in1.handled=none from hh] | rw[hh]
 refine wpAny_bind (wpAny_pure (wpAny_throw ?_));refine wpAny_bind (wpAny_isInstance (T:="StopIteration") (b:=true) ⟨_,get?_push_size _ rfl,rfl⟩ isSubtype_stop ?_)
 refine wpAny_pure (hQ _ _ ?_);exact((((Heap.SameBut.update s.heap it (Obj.mapFields fun xs=>xs.set! 1 (rawInt (-1)))).trans (Heap.SameBut.update _ it _)).extBut).push _).push _
theorem kG{it l:Addr}{i:Int}{Q:Value->Shared->Prop}(hit:nR s.heap it l i)(h:Q (.ref it) s):wpAny (model prog w) A (pyIter (.ref it)) Q E s:=by
 refine wpAny_pyIter_slot hit.typeIs kE (wpAny_call_entry kE hit.typeIs pk ?_ (sr _));show wpAny _ _ (ret (.ref it)) _ _ s;exact wpAny_pure ⟨_,rfl,"reversed",_,hit.typeIs,eV.lookup,h⟩
end
end L2.RV
namespace L2
open PySem PySem.Spec PyProof.Rows
def TnV(K:Frag)(it a:Addr)(n:Nat)(i:Nat)(h:Heap):Prop:=i <= n/\RV.nR h it a ((n:Int) - 1 - (i:Int))
theorem uI{P:Program}{w:World}{K:Frag}{tg:Expr}(a it:Addr)(n:Nat):mZ P w K tg ⟨fun i H=>∃xs x,SqT K H a xs/\xs.length=n/\xs.reverse[i]?=some x,fun i H v H'=>H'=H/\∀xs,SqT K H a xs->xs.reverse[i]?=some v,fun i H=>∃xs,SqT K H a xs/\xs.length=n/\n <= i⟩ [it] it (TnV K it a n) where
 mem:=by simp
 obj:=fun i h st b hb=>by
  have e:b=it:=by simpa using hb
  subst e;obtain⟨_,o,e,c,d⟩:=st;exact⟨o,e,fun v z=>by rw[d]at z;cases z⟩
 keep:=fun i h h' st k=>by
  obtain⟨h1,o,e,c,d⟩:=st;exact⟨h1,o,k it (by simp) o e,c,d⟩
 item:=by
  intro X hP hw hK hc i pins s σ H E I hf st hg;subst hP hw hK;obtain⟨xs,x,hq,hn,hx⟩:=hg;obtain⟨its,rv,p,hz⟩:=I.tuple hq;have hl:=rv.length;have hi:i < n:=by
   have:=(List.getElem?_eq_some_iff.mp hx).1;rw[List.length_reverse]at this;lia
  have hx2:xs[n - 1 - i]?=some x:=by
   rw[List.getElem?_reverse (by lia),hn]at hx
   exact hx
  obtain⟨u,hu,ru⟩:=rv.get hx2;obtain⟨f0,f1,f2,f3,f4,f5⟩:=hf it (by simp)
  obtain⟨_,st⟩:=st;have e:(n:Int) - 1 - (i:Int)=((n - 1 - i:Nat):Int):=by lia
  rw[e]at st;have hs16:sizeLine=16777216:=sizeLine_eq;refine RV.ib (x:=u) (items:=its.toArray) st p (by simpa using hu) (by rw[size_toArray];lia) fun h' t' st' sb=>?_
  have I1:Inv X pins σ H { s with heap:=h',toks:=t' }:=I.turned (t':=t') (fun b o hb e=>(sb.2 b hb).trans e) f0 f1 f3 f4 f5;obtain⟨o,e1,c,d⟩:=id st';have e2:((n - 1 - i:Nat):Int) - 1=(n:Int) - 1 - ((i + 1:Nat):Int):=by lia
  rw[e2]at st';exact⟨u,rfl,m5 (s:={ s with heap:=h',toks:=t' }) e1 c d (by decide) ⟨x,H,I1,ru,⟨rfl,fun ys hy=>by rw[I.tuple_inj hy hq];exact hx⟩,⟨hi,st'⟩,fun b hb=>(hf b hb).1⟩⟩
 done:=by
  intro X hP hw hK hc i pins s σ H E I hf st hg;subst hP hw hK;obtain⟨xs,hq,hn,hx⟩:=hg;obtain⟨f0,f1,f2,f3,f4,f5⟩:=hf it (by simp)
  obtain⟨h1,st⟩:=st;have e:(n:Int) - 1 - (i:Int)=-1:=by lia
  rw[e]at st;exact RV.uH (I.ok.hd hc) st fun h' t' eb=>⟨rfl,I.turned (t':=t') (fun b o hb e=>eb b o hb e) f0 f1 f3 f4 f5⟩
 self:=fun _ _ _ _ _ st h=>RV.kG st.2 h
section
variable{X:Cx}{tg:Expr}
noncomputable def Itv2(K:Frag)(a:Addr)(n:Nat):It:=⟨fun i H=>∃xs x,SqT K H a xs/\xs.length=n/\xs.reverse[i]?=some x,fun i H v H'=>H'=H/\∀xs,SqT K H a xs->xs.reverse[i]?=some v,fun i H=>∃xs,SqT K H a xs/\xs.length=n/\n <= i⟩
noncomputable def iRev(K:Frag)(ta:TA):TI:=fun σ H R=>ta σ H fun vs H1=>∃a xs,vs=[.ref a]/\SqT K H1 a xs/\R (Itv2 K a xs.length) H1
theorem pi_revT {e:Expr} {ta:TA} {p pos:Pos} (hg:Gl X "reversed") (hm:X.mg "reversed"=none) (ha:PA X [e] ta) (hs:starEach [e] X.env=[(false,eval e X.env)]:=by rfl):PI X tg (.Call (.Name "reversed" p) [e] [] pos) (iRev X.K ta):=by
 intro pins s σ H R I h;refine Call_ (fB I hg hm boot_reversed (PyProof.Rows.callWith_type1 (thn (ha pos pins s σ H _ I h) fun us s1 ⟨vs,H1,I1,r1,q1⟩=>?_) hs rfl));obtain⟨a,xs,e,hq,q⟩:=q1;subst e;cases r1 with
 | cons r rr =>
  cases rr;cases r;obtain⟨its,rv,ht,hz⟩:=I1.tuple hq;have hl:=rv.length;have hs16:sizeLine=16777216:=sizeLine_eq;refine RV.uG (items:=its.toArray) ht (by rw[size_toArray];lia) fun t'=>?_
  have I2:Inv X pins σ H1 { s1 with heap:=s1.heap.push (RV.kF a ((its.toArray.size:Int) - 1)),toks:=t' }:=I1.kept fun b o e=>get?_push_of_some _ e;have hrv:RV.nR (s1.heap.push (RV.kF a ((its.toArray.size:Int) - 1))) s1.heap.objs.size a ((its.toArray.size:Int) - 1):=⟨_,get?_push_size _ rfl,rfl,rfl⟩;refine RV.kG (s:={ s1 with heap:=s1.heap.push (RV.kF a ((its.toArray.size:Int) - 1)),toks:=t' }) hrv ?_;refine⟨s1.heap.objs.size,[s1.heap.objs.size],_,_,H1,rfl,I2,uI a _ xs.length,⟨Nat.zero_le _,?_⟩,fun b hb=>?_,q⟩
  ·rw[size_toArray,<- hl]at hrv;have e:(xs.length:Int) - 1 - ((0:Nat):Int)=(xs.length:Int) - 1:=by lia
   rw[e];rw[size_toArray,<- hl];exact hrv
  ·have e:b=s1.heap.objs.size:=by simpa using hb
   subst e;exact I1.fpOk (Nat.le_refl _) (I1.hok.fresh (Nat.le_refl _))
theorem for_rev{K:Frag}{a:Addr}{xs:List V}{g:TG}{tb:TS}{D:iG}{σ:St}{H:Hp}(Pv:Nat->St->Hp->Prop)(h0:Pv 0 σ H)(hl:∀i σ H,i <= xs.length->Pv i σ H->SqT K H a xs)
  (hs:∀i x σ H,xs.reverse[i]?=some x->Pv i σ H->g x σ H fun σ2 H2=>tb { D with nx:=Pv (i + 1),ct:=Pv (i + 1),bk:=D.nx } σ2 H2)(hd:∀σ H,Pv xs.length σ H->D.nx σ H) :
  ∃W:Nat->Nat->St->Hp->Prop,(∃m,W 0 m σ H)/\∀i m σ H,W i m σ H ->
   ((Itv2 K a xs.length).stop i H/\D.nx σ H)\/((Itv2 K a xs.length).go i H/\∃N:St->Hp->Prop,(∀σ' H',N σ' H'->∃m',m' < m/\W (i + 1) m' σ' H')/\∀x H',(Itv2 K a xs.length).yld i H x H'->g x σ H' fun σ2 H2=>tb { D with nx:=N,ct:=N,bk:=D.nx } σ2 H2):=by
 refine⟨fun i m σ H=>m=xs.length - i/\i <= xs.length/\Pv i σ H,⟨xs.length,by simp,Nat.zero_le _,h0⟩,?_⟩
 rintro i m σ H ⟨rfl,hi,p⟩;have q:=hl i σ H hi p;by_cases hlt:i < xs.length
 ·refine .inr ⟨⟨xs,xs.reverse[i]'(by rw[List.length_reverse];exact hlt),q,rfl,getElem?_eq_getElem _⟩,Pv (i + 1),fun σ' H' p'=>⟨xs.length - (i + 1),by lia,rfl,hlt,p'⟩,fun x H' y=>?_⟩
  obtain⟨e,y⟩:=y;subst e;exact hs i x σ _ (y xs q) p
 ·have e:i=xs.length:=by lia
  subst e;exact .inl ⟨⟨xs,q,rfl,Nat.le_refl _⟩,hd σ H p⟩
end
end L2
namespace L2.ST
open PySem PySem.Spec PyProof.Rows
section
variable{prog:Program}{w:World}{A:Around}{E:Value->Shared->Prop}{s:Shared}
end
section
variable{prog:Program}{w:World}{A:Around}{R:Result->Shared->Prop}{I:Addr}{fp wr:List Addr}{G:Array GenState->Array GenState->Prop}{n:Nat}{P:Nat->Value->Prop}{St:Nat->Shared->Prop}
end
section
variable{prog:Program}{w:World}{A:Around}{E:Value->Shared->Prop}{s:Shared}
end
section
variable{prog:Program}{w:World}{A:Around}{E:Value->Shared->Prop}{s:Shared}
end
section
variable{prog:Program}{w:World}{A:Around}{E:Value->Shared->Prop}{s:Shared}
end
section
variable{prog:Program}{w:World}{A:Around}{E:Value->Shared->Prop}{s:Shared}
end
end L2.ST
namespace L2
open PySem PySem.Spec PyProof.Rows
section
variable{X:Cx}
end
end L2
namespace L2.ZT
open PySem PySem.Spec PyProof.Rows
section
variable{prog:Program}{w:World}{A:Around}{E:Value->Shared->Prop}{s:Shared}
theorem gc{q tp:Addr}{j:Nat}{us:Array Value}{y:Value}{R:Value->Shared->Prop}(hq:s.heap.IsTupleIter q tp j)(htp:s.heap.IsTuple tp us)(hy:us[j]?=some y)
  (hR:∀g,g.IsTupleIter q tp (j + 1)->Heap.SameBut q s.heap g->R y { s with heap:=g }):wpAny (model prog w) A (Builtin.SmallTypes.nextOf (.ref q)) R E s:=by
 obtain⟨oq,eq1,cq,dq⟩:=id hq;obtain⟨ot,et,_,nt,dt⟩:=htp;unfold Builtin.SmallTypes.nextOf;refine wpAny_bind (wpAny_callSpecial?_slot (name:=Str.ofString "__next__") hq.typeIs F.slot_tuple_iterator_next (wpAny_call_entry F.slot_tuple_iterator_next hq.typeIs F.entry_tuple_iterator_next ?_ (F.args_tuple_iterator_next_1 _)))
 show wpAny _ _ (field (.ref q) 0 >>= _) _ _ s;refine wpAny_bind (wpAny_field eq1 dq (x:=.ref tp) rfl ?_);show wpAny _ _ (if (Value.ref tp == Value.none)=true then _ else _) _ _ s
 rw[if_neg (show ¬((Value.ref tp == Value.none)=true) from Bool.false_ne_true)];show wpAny _ _ (field (.ref q) 1 >>= _) _ _ s;refine wpAny_bind (wpAny_field eq1 dq (x:=.int j 0) rfl ?_);show wpAny _ _ (seqItems? (.ref tp) >>= _) _ _ s;refine wpAny_bind (wpAny_seqItems et dt ?_);simp only[Int.toNat_natCast,hy];refine wpAny_bind (wpAny_setField eq1 dq (by simp) (wpAny_pure ⟨y,rfl,wpAny_pure (hR _ ?_ (Heap.SameBut.update ..))⟩))
 exact⟨_,Heap.get?_update_self _ eq1 (Obj.isFreed_of_fields (Obj.data_mapFields dq _)),(Obj.cls_mapFields ..).trans cq,by rw[Obj.data_mapFields dq];simp[rawInt]⟩
theorem jm{q tp:Addr}{j:Nat}{us:Array Value}{R:Value->Shared->Prop}(nh:A.handled=none)(hq:s.heap.IsTupleIter q tp j)(htp:s.heap.IsTuple tp us)(hy:us[j]?=none)
  (hX:∀g e,Heap.ExtBut q s.heap g->(∃o,g.get? e=some o/\o.cls=.type "StopIteration")->E (.ref e) { s with heap:=g }):wpAny (model prog w) A (Builtin.SmallTypes.nextOf (.ref q)) R E s:=by
 obtain⟨oq,eq1,cq,dq⟩:=id hq;obtain⟨ot,et,_,nt,dt⟩:=htp;unfold Builtin.SmallTypes.nextOf;refine wpAny_bind (wpAny_callSpecial?_slot (name:=Str.ofString "__next__") hq.typeIs F.slot_tuple_iterator_next (wpAny_call_entry F.slot_tuple_iterator_next hq.typeIs F.entry_tuple_iterator_next ?_ (F.args_tuple_iterator_next_1 _)))
 show wpAny _ _ (field (.ref q) 0 >>= _) _ _ s;refine wpAny_bind (wpAny_field eq1 dq (x:=.ref tp) rfl ?_);show wpAny _ _ (if (Value.ref tp == Value.none)=true then _ else _) _ _ s
 rw[if_neg (show ¬((Value.ref tp == Value.none)=true) from Bool.false_ne_true)];show wpAny _ _ (field (.ref q) 1 >>= _) _ _ s;refine wpAny_bind (wpAny_field eq1 dq (x:=.int j 0) rfl ?_);show wpAny _ _ (seqItems? (.ref tp) >>= _) _ _ s;refine wpAny_bind (wpAny_seqItems et dt ?_);simp only[Int.toNat_natCast,hy];refine wpAny_bind (wpAny_rule (wpAny_bind (wpAny_setField eq1 dq (by simp) (wpAny_bind (m:=newExc (.type "StopIteration") []) ?_))))
 simp only[newExc,newTuple];refine wpAny_bind (wpAny_newObj_type (wpAny_bind (m:=firstArgMember _ _) (wpAny_of_eq (a:=Value.none) (by first | rfl | (simp only[firstArgMember];rfl)) (wpAny_newObj_type ?_ (by size_fits)))) (by size_fits))
 simp only[raiseNew];refine wpAny_bind (wpAny_handled ?_);rw[show A.in1.handled=none from nh];exact wpAny_bind (wpAny_pure (wpAny_throw (hX _ _ (((Heap.SameBut.update ..).extBut.push _).push _) ⟨_,get?_push_size _ rfl,rfl⟩)))
section
variable{z TI TO p r a b:Addr}{us vs:Array Value}{o1 o2:Value}{m n:Nat}
theorem uJ{x y:Value}{R:Value->Shared->Prop}(ap:ZipApart z TI TO p r a b)(hz:IsZip s.heap z TI TO .none)(hI:IsPair s.heap TI (.ref p) (.ref r))(hO:IsPair s.heap TO o1 o2)
  (hp:s.heap.IsTupleIter p a m)(hr:s.heap.IsTupleIter r b n)(ha:s.heap.IsTuple a us)(hb:s.heap.IsTuple b vs)(hx:us[m]?=some x)(hy:vs[n]?=some y)
  (hR:∀g,IsZip g z TI TO (rawInt s.heap.objs.size)->IsPair g TO x y->g.IsTupleIter p a (m + 1)->g.IsTupleIter r b (n + 1)->IsPair g s.heap.objs.size x y->g.objs.size=s.heap.objs.size + 1 ->
   (∀c o,c ≠ z->c ≠ TO->c ≠ p->c ≠ r->s.heap.get? c=some o->g.get? c=some o)->R (.ref s.heap.objs.size) { s with heap:=g }) :
  wpAny (model prog w) A (Builtin.«zip.__next__» ⟨[.ref z],[]⟩) (fun fin s'=>∃v,fin=.done (.ret v)/\R v s') E s:=by
 show wpAny _ _ (field (.ref z) 2 >>= _) _ _ _;refine wpAny_bind (wpAny_field hz rfl (x:=.bool false) rfl (wpAny_bind (m:=field (.ref z) 3) (wpAny_field hz rfl (x:=.ref TI) rfl (wpAny_bind (wpAny_seqItems hI rfl ?_)))));show wpAny _ _ (Builtin.SmallTypes.ownedTupleIsFree (.ref z) >>= _) _ _ _;unfold Builtin.SmallTypes.ownedTupleIsFree;refine wpAny_bind (wpAny_bind (wpAny_field hz rfl (x:=.none) rfl (wpAny_pure ?_)));simp only[if_true];refine wpAny_bind (wpAny_rule (wpAny_bind (wpAny_field hz rfl (x:=.ref TO) rfl (wpAny_bind (wpAny_setField_rec hz (by simp) fun g1 z1 k1=>wpAny_bind ?_)))))
 have z1:IsZip g1 z TI TO .ellipsis:=z1;simp only[List.zipIdx_cons,List.zipIdx_nil,List.forIn_cons,List.forIn_nil];refine wpAny_bind (wpAny_bind (wpAny_onRaise (wpAny_bind (m:=Builtin.SmallTypes.nextOf (.ref p)) (gc (hp.extBut k1.extBut ap.i1z) (ha.extBut k1.extBut ap.l1z) hx fun g2 p2 k2=>wpAny_pure ?_))));have O2:IsPair g2 TO o1 o2:=k2.extBut _ _ ap.TOi1 (k1.extBut _ _ ap.TOz hO);refine wpAny_bind (wpAny_seqItems O2 rfl (wpAny_bind (wpAny_updateSeq_pair O2 fun g3 O3 k3=>wpAny_bind (wpAny_letGo (wpAny_pure ?_)))));have O3:IsPair g3 TO x o2:=O3;refine wpAny_bind (wpAny_bind (wpAny_onRaise (wpAny_bind (m:=Builtin.SmallTypes.nextOf (.ref r)) (gc (((hr.extBut k1.extBut ap.i2z).extBut k2.extBut ap.i12.symm).extBut k3.extBut ap.TOi2.symm)
  (((hb.extBut k1.extBut ap.l2z).extBut k2.extBut ap.l2i1).extBut k3.extBut ap.l2TO) hy fun g4 r4 k4=>wpAny_pure ?_))))
 have O4:IsPair g4 TO x o2:=k4.extBut _ _ ap.TOi2 O3;refine wpAny_bind (wpAny_seqItems O4 rfl (wpAny_bind (wpAny_updateSeq_pair O4 fun g5 O5 k5=>wpAny_bind (wpAny_letGo (wpAny_pure (wpAny_pure ?_))))));have O5:IsPair g5 TO x y:=O5;refine wpAny_bind (wpAny_seqItems O5 rfl (wpAny_bind (wpAny_newTuple ?_)));have sz:g5.objs.size=s.heap.objs.size:=by rw[k5.1,k4.1,k3.1,k2.1,k1.1]
 have z5:IsZip g5 z TI TO .ellipsis:=k5.extBut _ _ ap.TOz.symm (k4.extBut _ _ ap.i2z.symm (k3.extBut _ _ ap.TOz.symm (k2.extBut _ _ ap.i1z.symm z1)));have k05:∀c o,c ≠ z->c ≠ TO->c ≠ p->c ≠ r->s.heap.get? c=some o->g5.get? c=some o:=fun c o n1 n2 n3 n4 e=>k5.extBut _ _ n2 (k4.extBut _ _ n4 (k3.extBut _ _ n2 (k2.extBut _ _ n3 (k1.extBut _ _ n1 e))));have p5:g5.IsTupleIter p a (m + 1):=((p2.extBut k3.extBut ap.TOi1.symm).extBut k4.extBut ap.i12).extBut k5.extBut ap.TOi1.symm;have r5:g5.IsTupleIter r b (n + 1):=r4.extBut k5.extBut ap.TOi2.symm;have zl:z < g5.objs.size:=lt_size z5;show wpAny _ _ (Builtin.SmallTypes.ownedTupleHandOut (.ref z) (.ref g5.objs.size) >>= _) _ _ _;unfold Builtin.SmallTypes.ownedTupleHandOut;have z6:IsZip (g5.push { cls:=.type "tuple",data:=.seq #[x,y] }) z TI TO .ellipsis:=get?_push_of_some _ z5;refine wpAny_bind (wpAny_bind (wpAny_setField_rec z6 (by simp) fun g7 z7 k7=>?_))
 have z7:IsZip g7 z TI TO (rawInt g5.objs.size):=z7;refine wpAny_setField_rec z7 (by simp) fun g8 z8 k8=>?_
 have z8:IsZip g8 z TI TO (rawInt g5.objs.size):=z8;have up:∀c o,c ≠ z->g5.get? c=some o->g8.get? c=some o:=fun c o n1 e=>k8.extBut _ _ n1 (k7.extBut _ _ n1 (get?_push_of_some _ e));have T8:IsPair g8 g5.objs.size x y:=k8.extBut _ _ (Nat.ne_of_gt zl) (k7.extBut _ _ (Nat.ne_of_gt zl) (get?_push_size _ rfl));have s8:g8.objs.size=g5.objs.size + 1:=by rw[k8.1,k7.1,Heap.size_push]
 rw[sz]at z8 T8 s8;refine wpAny_pure ⟨_,rfl,(?_:R (.ref g5.objs.size) _)⟩;rw[sz];exact hR g8 z8 (up _ _ ap.TOz O5) (p5.at fun o e=>up _ o ap.i1z e) (r5.at fun o e=>up _ o ap.i2z e) T8 s8 fun c o n1 n2 n3 n4 e=>up c o n1 (k05 c o n1 n2 n3 n4 e)
theorem zip_end{R:Fin->Shared->Prop}(nh:A.handled=none)(ap:ZipApart z TI TO p r a b)(hz:IsZip s.heap z TI TO .none)(hI:IsPair s.heap TI (.ref p) (.ref r))(hO:IsPair s.heap TO o1 o2)
  (hp:s.heap.IsTupleIter p a m)(hr:s.heap.IsTupleIter r b n)(ha:s.heap.IsTuple a us)(hb:s.heap.IsTuple b vs)(hend:us[m]?=none\/vs[n]?=none)
  (hX:∀g e,(∀c o,c ≠ z->c ≠ TO->c ≠ p->c ≠ r->s.heap.get? c=some o->g.get? c=some o)->(∃o,g.get? e=some o/\o.cls=.type "StopIteration")->E (.ref e) { s with heap:=g }) :
  wpAny (model prog w) A (Builtin.«zip.__next__» ⟨[.ref z],[]⟩) R E s:=by
 show wpAny _ _ (field (.ref z) 2 >>= _) _ _ _;refine wpAny_bind (wpAny_field hz rfl (x:=.bool false) rfl (wpAny_bind (m:=field (.ref z) 3) (wpAny_field hz rfl (x:=.ref TI) rfl (wpAny_bind (wpAny_seqItems hI rfl ?_)))));show wpAny _ _ (Builtin.SmallTypes.ownedTupleIsFree (.ref z) >>= _) _ _ _;unfold Builtin.SmallTypes.ownedTupleIsFree;refine wpAny_bind (wpAny_bind (wpAny_field hz rfl (x:=.none) rfl (wpAny_pure ?_)));simp only[if_true];refine wpAny_bind (wpAny_rule (wpAny_bind (wpAny_field hz rfl (x:=.ref TO) rfl (wpAny_bind (wpAny_setField_rec hz (by simp) fun g1 z1 k1=>wpAny_bind ?_)))))
 have z1:IsZip g1 z TI TO .ellipsis:=z1;simp only[List.zipIdx_cons,List.zipIdx_nil,List.forIn_cons,List.forIn_nil];refine wpAny_bind (wpAny_bind (wpAny_onRaise (wpAny_bind (m:=Builtin.SmallTypes.nextOf (.ref p)) ?_)));have off:∀{g:Heap}{e:Addr}{oe:Obj},IsZip g z TI TO .ellipsis->g.get? e=some oe->oe.cls=.type "StopIteration" ->e ≠ z:=fun hg he hc y=>by subst y;rw[hg]at he;cases he;simp at hc
 cases hx:us[m]? with
 | none =>
  refine jm nh (hp.extBut k1.extBut ap.i1z) (ha.extBut k1.extBut ap.l1z) hx fun g2 e k2 ⟨oe,he,ce⟩=>?_;have z2:IsZip g2 z TI TO .ellipsis:=k2 _ _ ap.i1z.symm z1;exact wpAny_setField_rec z2 (by simp) fun g3 _ k3=>hX g3 e (fun c o n1 _ n3 _ q=>k3.extBut _ _ n1 (k2 _ _ n3 (k1.extBut _ _ n1 q))) ⟨oe,k3.extBut _ _ (off z2 he ce) he,ce⟩
 | some x =>
  have hy:vs[n]?=none:=hend.resolve_left (by rw[hx];exact fun h=>nomatch h)
  refine gc (hp.extBut k1.extBut ap.i1z) (ha.extBut k1.extBut ap.l1z) hx fun g2 p2 k2=>wpAny_pure ?_;have O2:IsPair g2 TO o1 o2:=k2.extBut _ _ ap.TOi1 (k1.extBut _ _ ap.TOz hO);refine wpAny_bind (wpAny_seqItems O2 rfl (wpAny_bind (wpAny_updateSeq_pair O2 fun g3 O3 k3=>wpAny_bind (wpAny_letGo (wpAny_pure ?_)))));refine wpAny_bind (wpAny_bind (wpAny_onRaise (wpAny_bind (m:=Builtin.SmallTypes.nextOf (.ref r)) (jm nh (((hr.extBut k1.extBut ap.i2z).extBut k2.extBut ap.i12.symm).extBut k3.extBut ap.TOi2.symm)
   (((hb.extBut k1.extBut ap.l2z).extBut k2.extBut ap.l2i1).extBut k3.extBut ap.l2TO) hy fun g4 e k4 ⟨oe,he,ce⟩=>?_))))
  have z4:IsZip g4 z TI TO .ellipsis:=k4 _ _ ap.i2z.symm (k3.extBut _ _ ap.TOz.symm (k2.extBut _ _ ap.i1z.symm z1));exact wpAny_setField_rec z4 (by simp) fun g5 _ k5=>hX g5 e (fun c o n1 n2 n3 n4 q=>k5.extBut _ _ n1 (k4 _ _ n4 (k3.extBut _ _ n2 (k2.extBut _ _ n3 (k1.extBut _ _ n1 q))))) ⟨oe,k5.extBut _ _ (off z4 he ce) he,ce⟩
end
noncomputable abbrev g1 (h:Heap) (a:Addr):Heap:=h.push { cls:=.type "tuple_iterator",data:=.fields #[.ref a,.int 0 0] }
noncomputable abbrev g2 (h:Heap) (a b:Addr):Heap:=(g1 h a).push { cls:=.type "tuple_iterator",data:=.fields #[.ref b,.int 0 0] }
noncomputable abbrev g3 (h:Heap) (a b:Addr):Heap:=(g2 h a b).push { cls:=.type "tuple",data:=.seq #[.ref h.objs.size,.ref (g1 h a).objs.size] }
noncomputable abbrev g4 (h:Heap) (a b:Addr):Heap:=(g3 h a b).push { cls:=.type "tuple",data:=.seq #[.none,.none] }
noncomputable abbrev g5 (h:Heap) (a b:Addr):Heap:=(g4 h a b).push { cls:=.type "zip",data:=.fields #[.none,.bool false,.bool false,.ref (g2 h a b).objs.size,.ref (g3 h a b).objs.size] }
theorem sB (a b:Addr) (us vs:Array Value):Meets (Builtin.«zip.__new__» ⟨[.type "zip",.ref a,.ref b],[]⟩) (fun _ R s=>s.heap.IsTuple a us/\s.heap.IsTuple b vs/\R (.ok (.ret (.ref (g4 s.heap a b).objs.size))) { s with heap:=g5 s.heap a b }) :=
 .of_wp fun prog w A R s h=>by
  obtain⟨hp,gs,dr,tk,os⟩:=s;obtain⟨ha,hb,h⟩:=h;have sub:=sub_zip;have ha1:Heap.IsTuple (Shared.heap ⟨hp,gs,dr,tk,os⟩) a us:=ha;have hb1:Heap.IsTuple (Shared.heap ⟨hp.push { cls:=.type "tuple_iterator",data:=.fields #[.ref a,.int 0 0] },gs,dr,tk,os⟩) b vs:=Heap.IsTuple.push hb _
  wp_walk using wpAny_pyIter_tuple ha1,wpAny_pyIter_tuple hb1
  exact⟨_,rfl,h⟩
theorem uK{a b:Addr}{us vs:Array Value}{R:Value->Shared->Prop}(ha:s.heap.IsTuple a us)(hb:s.heap.IsTuple b vs)
  (h:∀g,IsZip g (s.heap.objs.size + 4) (s.heap.objs.size + 2) (s.heap.objs.size + 3) .none->IsPair g (s.heap.objs.size + 2) (.ref s.heap.objs.size) (.ref (s.heap.objs.size + 1))->IsPair g (s.heap.objs.size + 3) .none .none ->
   g.IsTupleIter s.heap.objs.size a 0->g.IsTupleIter (s.heap.objs.size + 1) b 0->(∀c o,s.heap.get? c=some o->g.get? c=some o)->R (.ref (s.heap.objs.size + 4)) { s with heap:=g }) :
  wpAny (model prog w) A (call (.type "zip") [.ref a,.ref b]) R E s:=by
 refine callType_new F.called_zip (by decide) (F.typeCall_zip_2 _ _) (F.newCall_zip_2 _ _) (fun obj=>F.args_object_init_3 obj _ _) F.entry_zip_new (sB a b us vs) ⟨ha,hb,?_⟩
 have s1:(g1 s.heap a).objs.size=s.heap.objs.size + 1:=Heap.size_push ..;have s2:(g2 s.heap a b).objs.size=s.heap.objs.size + 2:=by rw[Heap.size_push,s1]
 have s3:(g3 s.heap a b).objs.size=s.heap.objs.size + 3:=by rw[Heap.size_push,s2]
 have s4:(g4 s.heap a b).objs.size=s.heap.objs.size + 4:=by rw[Heap.size_push,s3]
 have e5:(g5 s.heap a b).get? (g4 s.heap a b).objs.size=some _:=get?_push_size _ rfl;have e4:(g5 s.heap a b).get? (g3 s.heap a b).objs.size=some _:=get?_push_of_some _ (get?_push_size _ rfl);have e3:(g5 s.heap a b).get? (g2 s.heap a b).objs.size=some _:=get?_push_of_some _ (get?_push_of_some _ (get?_push_size _ rfl));have e2:(g5 s.heap a b).get? (g1 s.heap a).objs.size=some _:=get?_push_of_some _ (get?_push_of_some _ (get?_push_of_some _ (get?_push_size _ rfl)));have e1:(g5 s.heap a b).get? s.heap.objs.size=some _:=get?_push_of_some _ (get?_push_of_some _ (get?_push_of_some _ (get?_push_of_some _ (get?_push_size _ rfl))));show _/\_;rw[s2,s3,s4]at e5;rw[s1,s2]at e3;rw[s3]at e4;rw[s1]at e2;rw[s4];exact⟨⟨_,e5,rfl⟩,h _ e5 e3 e4 ⟨_,e1,rfl,rfl⟩ ⟨_,e2,rfl,rfl⟩ fun c o x=>get?_push_of_some _ (get?_push_of_some _ (get?_push_of_some _ (get?_push_of_some _ (get?_push_of_some _ x))))⟩
end
end L2.ZT
namespace L2
open PySem PySem.Spec PyProof.Rows
noncomputable def Itu(K:Frag)(l1 l2:Addr):It :=
 ⟨fun i H=>∃xs ys x y,SqT K H l1 xs/\SqT K H l2 ys/\xs[i]?=some x/\ys[i]?=some y,fun i H v H'=>∃p,v=.ref p/\H p=none/\∀xs ys,SqT K H l1 xs->SqT K H l2 ys->∃x y,xs[i]?=some x/\ys[i]?=some y/\H'=upd H p (.tup [x,y]),
  fun i H=>∃xs ys,SqT K H l1 xs/\SqT K H l2 ys/\i=min xs.length ys.length⟩
def TnU(z TI TO i1 i2 l1 l2:Addr)(i:Nat)(h:Heap):Prop:=IsZip h z TI TO Value.none/\IsPair h TI (Value.ref i1) (Value.ref i2)/\(∃a b,IsPair h TO a b)/\h.IsTupleIter i1 l1 i/\h.IsTupleIter i2 l2 i
theorem sC{P:Program}{w:World}{K:Frag}{elts:List Expr}{k:Nat}{pos:Pos}{z TI TO i1 i2 l1 l2:Addr}(ap:ZipApart z TI TO i1 i2 l1 l2):mZ P w K (.Tuple elts k pos) (Itu K l1 l2) [z,TI,TO,i1,i2] z (TnU z TI TO i1 i2 l1 l2) where
 mem:=by simp
 obj:=fun i h st b hb=>by
  obtain⟨h1,h2,⟨u,v,h3⟩,h4,h5⟩:=st;simp only[List.mem_cons,not_mem_nil,or_false]at hb;rcases hb with rfl | rfl | rfl | rfl | rfl
  ·exact⟨_,h1,fun v e=>by cases e⟩
  ·exact⟨_,h2,fun v e=>by cases e⟩
  ·exact⟨_,h3,fun v e=>by cases e⟩
  ·obtain⟨o,e,c,d⟩:=h4;exact⟨o,e,fun v z=>by rw[d]at z;cases z⟩
  ·obtain⟨o,e,c,d⟩:=h5;exact⟨o,e,fun v z=>by rw[d]at z;cases z⟩
 keep:=fun i h h' st kk=>by
  obtain⟨h1,h2,⟨u,v,h3⟩,h4,h5⟩:=st;exact⟨kk _ (by simp) _ h1,kk _ (by simp) _ h2,⟨u,v,kk _ (by simp) _ h3⟩,h4.at fun o e=>kk _ (by simp) o e,h5.at fun o e=>kk _ (by simp) o e⟩
 item:=by
  intro X hP hw hK hc i pins s σ H E I hf st hg;subst hP hw hK;obtain⟨xs,ys,x,y,hx,hy,ex,ey⟩:=hg;obtain⟨its,rv,p,hz⟩:=I.tuple hx;obtain⟨jts,rv',p',hz'⟩:=I.tuple hy;obtain⟨u,hu,ru⟩:=rv.get ex;obtain⟨v,hv,rv2⟩:=rv'.get ey;obtain⟨st1,st2,⟨oa,ob,st3⟩,st4,st5⟩:=st;have hT:s.TypeIs (.ref z) "zip":=⟨_,st1,rfl⟩;unfold pyNext;refine wpAny_bind (wpAny_attempt (wpAny_callSpecial?_slot (name:=Str.ofString "__next__") hT F.slot_zip_next (wpAny_call_entry F.slot_zip_next hT F.entry_zip_next
   (ZT.uJ ap st1 st2 st3 st4 st5 (show s.heap.IsTuple l1 its.toArray from p) (show s.heap.IsTuple l2 jts.toArray from p') (x:=u) (y:=v) (by simpa using hu) (by simpa using hv) fun g a1 a2 a3 a4 a5 a6 kk=>wpAny_pure ?_) (F.args_zip_next_1 _))))
  refine⟨_,rfl,wpAny_letOwnedTupleGo_zip a1 fun g' zz sb=>?_⟩;have lt:∀{c:Addr}{o:Obj},s.heap.get? c=some o->s.heap.objs.size ≠ c:=fun e=>Nat.ne_of_gt (lt_size e);have up:∀c o,c ≠ z->g.get? c=some o->g'.get? c=some o:=fun c o n e=>sb.extBut _ _ n e;have hTup:IsTup g' s.heap.objs.size [u,v].toArray:=⟨_,up _ _ (lt st1) a5,rfl,_,rfl⟩;have hfw:∀b ∈ ([z,TO,i1,i2]:List Addr),gZ X pins H b:=fun b hb=>hf b (by simp only[List.mem_cons,not_mem_nil,or_false]at hb ⊢;rcases hb with h | h | h | h <;> simp[h])
  have kk2:∀b o,b ∉ ([z,TO,i1,i2]:List Addr)->s.heap.get? b=some o->g'.get? b=some o:=fun b o hb e=>by
   simp only[List.mem_cons,not_mem_nil,or_false,not_or]at hb;exact up _ _ hb.1 (kk b o hb.1 hb.2.1 hb.2.2.1 hb.2.2.2 e)
  have I1:=I.turnedT (h':=g') (t':=s.toks) (T:=s.heap.objs.size) (xs:=[x,y]) (us:=[u,v]) (ch:=[z,TO,i1,i2]) kk2 hfw (Nat.le_refl _) (by show 2 <= sizeLine;decide) (.cons ru (.cons rv2 .nil)) hTup
  refine⟨.ref s.heap.objs.size,_,I1,rfl,⟨_,rfl,I.hok.fresh (Nat.le_refl _),fun xs' ys' hx' hy'=>⟨x,y,?_,?_,rfl⟩⟩,⟨zz,up _ _ ap.TIz (kk _ _ ap.TIz ap.TITO ap.TIi1 ap.TIi2 st2),⟨_,_,up _ _ ap.TOz a2⟩,a3.at fun o e=>up _ o ap.i1z e,a4.at fun o e=>up _ o ap.i2z e⟩,fun b hb=>?_⟩
  ·rw[I.tuple_inj hx' hx];exact ex
  ·rw[I.tuple_inj hy' hy];exact ey
  ·have hb':∃o,s.heap.get? b=some o:=by
    simp only[List.mem_cons,not_mem_nil,or_false]at hb;obtain⟨o4,e4,_⟩:=st4;obtain⟨o5,e5,_⟩:=st5;rcases hb with h | h | h | h | h <;> rw[h]
    ·exact⟨_,st1⟩
    ·exact⟨_,st2⟩
    ·exact⟨_,st3⟩
    ·exact⟨_,e4⟩
    ·exact⟨_,e5⟩
   obtain⟨o,e⟩:=hb';rw[aw (Nat.ne_of_lt (lt_size e))];exact(hf b hb).1
 done:=by
  intro X hP hw hK hc i pins s σ H E I hf st hg;subst hP hw hK;obtain⟨xs,ys,hx,hy,rfl⟩:=hg;obtain⟨its,rv,p,hz⟩:=I.tuple hx;obtain⟨jts,rv',p',hz'⟩:=I.tuple hy;obtain⟨st1,st2,⟨oa,ob,st3⟩,st4,st5⟩:=st;have hfw:∀b ∈ ([z,TO,i1,i2]:List Addr),gZ X pins H b:=fun b hb=>hf b (by simp only[List.mem_cons,not_mem_nil,or_false]at hb ⊢;rcases hb with h | h | h | h <;> simp[h])
  have e1:=rv.length;have e2:=rv'.length;have hend:its.toArray[min xs.length ys.length]?=none\/jts.toArray[min xs.length ys.length]?=none:=by
   by_cases h:xs.length <= ys.length
   ·exact .inl (Array.getElem?_eq_none (by rw[size_toArray];lia))
   ·exact .inr (Array.getElem?_eq_none (by rw[size_toArray];lia))
  have hT:s.TypeIs (.ref z) "zip":=⟨_,st1,rfl⟩;unfold pyNext;refine wpAny_bind (wpAny_attempt (wpAny_callSpecial?_slot (name:=Str.ofString "__next__") hT F.slot_zip_next (wpAny_call_entry F.slot_zip_next hT F.entry_zip_next
   (ZT.zip_end (I.ok.hd hc) ap st1 st2 st3 st4 st5 (show s.heap.IsTuple l1 its.toArray from p) (show s.heap.IsTuple l2 jts.toArray from p') hend fun g e kk ⟨oe,he,ce⟩=>?_) (F.args_zip_next_1 _))))
  refine wpAny_bind (wpAny_isInstance (T:="StopIteration") (b:=true) ⟨oe,he,ce⟩ isSubtype_stop (wpAny_pure ⟨rfl,I.turnedL (t':=s.toks) (ch:=[z,TO,i1,i2]) (fun b o hb e=>?_) hfw⟩));simp only[List.mem_cons,not_mem_nil,or_false,not_or]at hb;exact kk b o hb.1 hb.2.1 hb.2.2.1 hb.2.2.2 e
 self:=fun _ _ _ _ _ st h=>wpAny_pyIter_zip st.1 h
section
variable{X:Cx}
noncomputable def iZipT(K:Frag)(ta:TA):TI:=fun σ H R=>ta σ H fun vs H1=>∃a b xs ys,vs=[.ref a,.ref b]/\SqT K H1 a xs/\SqT K H1 b ys/\R (Itu K a b) H1
theorem qR {elts:List Expr} {k:Nat} {tpos:Pos} {a b:Expr} {ta:TA} {p pos:Pos} (hg:Gl X "zip") (hm:X.mg "zip"=none) (ha:PA X [a,b] ta) (hs:starEach [a,b] X.env=[(false,eval a X.env),(false,eval b X.env)]:=by rfl) (hs2:starEach [b] X.env=[(false,eval b X.env)]:=by rfl) :
  PI X (.Tuple elts k tpos) (.Call (.Name "zip" p) [a,b] [] pos) (iZipT X.K ta):=by
 intro pins s σ H R I h;refine Call_ (fB I hg hm boot_zip (PyProof.Rows.callWith_type1 (thn (ha pos pins s σ H _ I h) fun us s1 ⟨vs,H1,I1,r1,q1⟩=>?_) (by rw[hs,hs2]) (by rw[hs2];rfl)))
 obtain⟨l1,l2,xs,ys,e,hx,hy,q⟩:=q1;subst e;obtain⟨u,u2,rfl,rr1,rr2⟩:=nu r1;cases rr1;cases rr2;obtain⟨its,rv,p1,hz⟩:=I1.tuple hx;obtain⟨jts,rv',p2,hz'⟩:=I1.tuple hy;have h1:l1 < s1.heap.objs.size:=by obtain⟨o,e,_⟩:=id p1;exact lt_size e
 have h2:l2 < s1.heap.objs.size:=by obtain⟨o,e,_⟩:=id p2;exact lt_size e
 refine ZT.uK (show s1.heap.IsTuple l1 its.toArray from p1) (show s1.heap.IsTuple l2 jts.toArray from p2) fun h' z1 z2 z3 z4 z5 kk=>?_;refine wpAny_pyIter_zip (s:={ s1 with heap:=h' }) z1 ?_;refine⟨_,[s1.heap.objs.size + 4,s1.heap.objs.size + 2,s1.heap.objs.size + 3,s1.heap.objs.size,s1.heap.objs.size + 1],_,_,H1,rfl,I1.kept (t':=s1.toks) kk,sC (zipApart_new h1 h2),⟨z1,z2,⟨_,_,z3⟩,z4,z5⟩,fun b hb=>?_,q⟩;have hb':s1.heap.objs.size <= b:=by
  simp only[List.mem_cons,not_mem_nil,or_false]at hb;rcases hb with h | h | h | h | h <;> rw[h] <;> first | exact Nat.le_add_right _ _ | exact Nat.le_refl _
 exact I1.fpOk hb' (I1.hok.fresh hb')
end
theorem uL{K:Frag}{a:Addr}{xs:List V}{k:Nat}{σ:St}{H1:Hp}{te:TE}{Q:VK}(f:V->V)(hk:σ.length=k)(hq:H1 a=some (.tup xs))(hz:xs.length <= 1000)
  (turn:∀D x ys H (post:VK),H1 D=none->x ∈ xs->aq H1 H->H D=some (.lst ys)->(∀H',aq H H'->post (f x) H')->te (σ ++ [some x]) H post)
  (fin:∀D H,H1 D=none->aq H1 H->H D=some (.lst (xs.map f))->Q (.ref D) H):LCT 1 (iy k) nO te σ Q (Itt K a) H1:=by
 refine lcJ (n:=xs.length) (fun i=>xs.getD i .non) (fun D i ys H=>H1 D=none/\aq H1 H/\H D=some (.lst ys)/\ys=(xs.take i).map f) hk ?_ ?_ ?_ ?_ ?_ ?_
 ·rintro D i ys H hi ⟨h1,h2,h3,rfl⟩;exact⟨xs,xs[i],SqT.of (h2 _ _ hq),by simp[hi]⟩
 ·rintro D i ys H x H' hi ⟨h1,h2,h3,rfl⟩ ⟨e,y⟩;refine⟨e,?_⟩;have:=y xs (SqT.of (h2 _ _ hq));rw[getD_eq_getElem?_getD,this];rfl
 ·rintro D ys H ⟨h1,h2,h3,rfl⟩;exact⟨xs,SqT.of (h2 _ _ hq),Nat.le_refl _⟩
 ·intro D hD;exact⟨hD,aq.new hD,ai,rfl⟩
 ·rintro D i ys H post hi ⟨h1,h2,h3,rfl⟩ hp;have hx:xs.getD i .non=xs[i]:=by simp[hi]
  rw[hx];refine turn D xs[i] _ H post h1 (List.getElem_mem hi) h2 h3 fun H' s'=>hp _ _ (s' _ _ h3) ?_ ⟨h1,fun b o e=>?_,ai,?_⟩
  ·rw[length_map,length_take];exact bO (by lia)
  ·rw[aw (ak e h1)];exact s' _ _ (h2 _ _ e)
  ·rw[List.take_add_one,getElem?_eq_getElem hi,List.map_append];rfl
 ·rintro D ys H ⟨h1,h2,h3,rfl⟩;rw[List.take_length]at h3;exact fin D H h1 h2 h3
theorem lcZU{K:Frag}{a b:Addr}{xs ys:List V}{g:TG}{σ:St}{H1:Hp}{te:TE}{Q:VK}(f:V->V->V)(ha:H1 a=some (.tup xs))(hb:H1 b=some (.tup ys))(hz:xs.length <= 1000)
  (hg:∀(p:Addr)(x y:V)(H:Hp)(R:St->Hp->Prop),H p=some (.tup [x,y])->R (σ ++ [some x,some y]) H->g (.ref p) (σ ++ List.replicate 2 none) H R)
  (turn:∀(i:Nat) x y H (post:VK),xs[i]?=some x->ys[i]?=some y->aq H1 H->(∀H',aq H H'->post (f x y) H')->te (σ ++ [some x,some y]) H post)
  (fin:∀D H,H1 D=none->aq H1 H->H D=some (.lst ((xs.zip ys).map fun p=>f p.1 p.2))->Q (.ref D) H):LCT 2 g nO te σ Q (Itu K a b) H1:=by
 have hzl:(xs.zip ys).length=min xs.length ys.length:=List.length_zip ..;intro D hD;refine⟨fun i m us H=>m=(xs.zip ys).length - i/\i <= (xs.zip ys).length/\aq H1 H/\H D=some (.lst us)/\us=((xs.zip ys).take i).map fun p=>f p.1 p.2,⟨(xs.zip ys).length,by simp,Nat.zero_le _,aq.new hD,ai,rfl⟩,?_⟩
 rintro i m us H ⟨rfl,hi,sm,hDD,rfl⟩;by_cases hlt:i < (xs.zip ys).length
 ·have h1:i < xs.length:=by lia
  have h2:i < ys.length:=by lia
  refine .inr ⟨⟨xs,ys,xs[i],ys[i],SqT.of (sm _ _ ha),SqT.of (sm _ _ hb),by simp,by simp⟩,fun v H' y=>?_⟩
  obtain⟨p,rfl,hp,y⟩:=y;obtain⟨x',y',ex,ey,rfl⟩:=y xs ys (SqT.of (sm _ _ ha)) (SqT.of (sm _ _ hb));have s2:=aq.new (o:=.tup [x',y']) hp;refine hg p x' y' _ _ ai ⟨⟨_,rfl,rfl⟩,?_⟩;unfold nO;refine bJ (turn i x' y' _ _ ex ey (sm.trans s2) fun H4 s4=>⟨s4 _ _ (s2 _ _ hDD),?_,(xs.zip ys).length - (i + 1),by lia,rfl,hlt,fun c o e=>?_,ai,?_⟩)
  ·rw[length_map,length_take];exact bO (by lia)
  ·rw[aw (ak e hD)];exact s4 _ _ (s2 _ _ (sm _ _ e))
  ·rw[List.take_add_one,getElem?_eq_getElem hlt,List.map_append];have e1:(xs.zip ys)[i]=(x',y'):=by
    rw[List.getElem_zip];rw[getElem?_eq_getElem h1]at ex;rw[getElem?_eq_getElem h2]at ey;rw[Option.some.inj ex,Option.some.inj ey]
   rw[e1];rfl
 ·have e:i=(xs.zip ys).length:=by lia
  subst e;rw[List.take_length]at hDD;exact .inl ⟨⟨xs,ys,SqT.of (sm _ _ ha),SqT.of (sm _ _ hb),hzl⟩,fin D H hD sm hDD⟩
section
variable{X:Cx}
theorem pp(bs:List Bool):((List.range bs.length).any fun i=>(bs[i]?).getD false)=bs.any id:=by
 rw[Bool.eq_iff_iff,List.any_eq_true,List.any_eq_true];constructor
 ·rintro ⟨i,hi,h⟩;have hi:=List.mem_range.mp hi;rw[getElem?_eq_getElem hi]at h;exact⟨_,List.getElem_mem hi,h⟩
 ·rintro ⟨b,hb,h⟩;obtain⟨i,hi,e⟩:=List.getElem_of_mem hb;exact⟨i,List.mem_range.mpr hi,by rw[getElem?_eq_getElem hi,e];exact h⟩
theorem sD (hc:X.calm=true):dD X (.builtin "any") (fun xs H Q=>∃(p:Addr)(bs:List Bool),xs=[.ref p]/\SqL X.K H p (bs.map V.bl)/\Q (.bl (bs.any id)) H):=by
 intro pins s σ H xs us Q I rv h;obtain⟨p,bs,rfl,hS,q⟩:=h;obtain⟨u,rfl,ru⟩:=rv.one;cases ru;obtain⟨its,r,hp,_⟩:=I.list hS;have hlen:its.length=bs.length:=by have:=r.length;rw[length_map]at this;lia
 have hl:=hp.isList;have hlt:p < s.heap.objs.size:=by obtain⟨_,e,_⟩:=hl;exact lt_size e
 refine call_any_walk (wpAny_pyIter_list hl ?_);refine⟨s.heap.objs.size,[s.heap.objs.size,p],[s.heap.objs.size],its.toArray.size,_,_,fun i=>(bs[i]?).getD false,rfl,Walks.list (A:=X.A.in1) (I.ok.hd hc) _ p (Nat.ne_of_lt hlt) its.toArray,
  ⟨⟨_,get?_push_size _ rfl,rfl,rfl⟩,hl.push _⟩,fun i v s' Q' E' hP hQ=>?_,fun h' tk hk=>?_⟩
 ·obtain⟨b,e,rfl⟩:=qL r (i:=i) (v:=v) (by simpa using hP)
  simp only[e,Option.getD_some]at hQ;exact wpAny_truthy_bool hQ
 ·rw[size_toArray,hlen,pp];refine⟨.bl _,H,I.kept (t':=tk) fun b o e=>hk b o (fun hm=>?_) (get?_push_of_some _ e),rfl,q⟩
  rw[List.mem_singleton.mp hm]at e;exact Nat.lt_irrefl _ (lt_size e)
end
def tJoin(t:TS):TS:=fun D σ H=>∃J:St->Hp->Prop,t { D with nx:=J } σ H/\∀σ' H',J σ' H'->D.nx σ' H'
theorem cM{X:Cx}{st:Stmt}{t:TS}(h:PS X st t):PS X st (tJoin t):=by
 intro pins s σ H D I hh;obtain⟨J,h1,h2⟩:=hh;refine thn (h pins s σ H { D with nx:=J } I h1) fun f s1 q=>?_;cases f with
 | next =>
  obtain⟨σ',H',I',q⟩:=q;exact⟨σ',H',I',h2 _ _ q⟩
 | ret v=>exact q
 | brk=>exact q
 | cont=>exact q
section
variable{P:Program}{w:World}{H H' H1 H2:Hp}{h h0 h1 h2 B:Heap}{a:Addr}{o:HO}{fs:List Addr}
theorem cD.there(x:cD P w H h a o):∃u,h.get? a=some u:=by
 cases o with
 | lst xs=>obtain⟨_,_,_,_,e⟩:=x;exact⟨_,e⟩
 | tup xs=>obtain⟨_,_,_,ob,e,_⟩:=x;exact⟨_,e⟩
 | dK kvs=>obtain⟨_,_,_,_,o,_,_,e,_⟩:=x;exact⟨_,e⟩
 | dT kvs=>obtain⟨_,_,_,_,o,_,_,e,_⟩:=x;exact⟨_,e⟩
 | set S n=>obtain⟨o,_,_,_,e,_⟩:=x;exact⟨_,e⟩
 | ins C dx fs=>obtain⟨_,_,_,e,_⟩:=x;exact⟨_,e⟩
 | own y=>exact x
 | xd fs=>obtain⟨_,⟨_,_,_,e,_⟩,_⟩:=x;exact⟨_,e⟩
 | rng lo hi=>obtain⟨_,_,_,e⟩:=x;exact⟨_,e⟩
 | frz ob u=>obtain⟨e,_⟩:=x;exact⟨_,e⟩
 | tbl ps=>exact⟨_,(show h.get? a=some _ from x)⟩
 | met f y=>exact⟨_,(show h.get? a=some _ from x)⟩
 | ext φ=>obtain⟨_,e,_⟩:=x;exact e
def Cov(fs:List Addr)(h0 h1:Heap)(H':Hp)(B:Heap):Prop:=∀b u,h1.get? b=some u->((∃o,h0.get? b=some o)\/H' b ≠ none)->b ∉ fs->B.get? b=some u
theorem moved(un:Un fs [] H H2 h0 h1)(hok:HOk P w H2 h1)(cov:Cov fs h0 h1 H2 B)(st:B.StaysIn h2)(up:h1.UpToSlots h2)(nf:∀b ∈ fs,H2 b=none)(fd:∀b ∈ fs,∀o,h1.get? b=some o->∀vs,o.data ≠ .fields vs) :
  Un fs [] H H2 h0 h2/\HOk P w H2 h2/\Cov fs h0 h2 H2 B:=by
 have one:∀b u,h1.get? b=some u->((∃o,h0.get? b=some o)\/H2 b ≠ none)->b ∉ fs->h2.get? b=some u:=fun b u e c n=>st b u (cov b u e c n);refine⟨⟨fun b ob e n hb hx=>?_,fun b ob e n hb hx=>?_,un.free,fun b ob e hx=>?_,un.tups,un.frzs,un.tbls⟩,fun b u e=>?_,fun b u e c n=>?_⟩
 ·exact one b ob (un.keep b ob e n hb hx) (.inl ⟨ob,e⟩) hb
 ·obtain⟨sl,e1⟩:=un.slot b ob e n hb hx;obtain⟨sl',e2⟩:=up b _ e1 (fd b hb _ e1);exact⟨sl',e2⟩
 ·obtain⟨o',e1⟩:=un.there b ob e hx;by_cases hb:b ∈ fs
  ·obtain⟨sl',e2⟩:=up b _ e1 (fd b hb _ e1);exact⟨_,e2⟩
  ·exact⟨_,one b o' e1 (.inl ⟨ob,e⟩) hb⟩
 ·refine(hok b u e).stay (fun c v hc q=>?_) (fun _ q=>q) fun _ _ q=>q;have hn:H2 c ≠ none:=by
   rcases hc with rfl | hc
   ·rw[e];intro z;cases z
   ·rw[hc];intro z;cases z
  exact one c v q (.inr hn) fun z=>hn (nf c z)
 ·have:∃v,h1.get? b=some v:=by
   rcases c with ⟨o',e1⟩ | c
   ·exact un.there b o' e1 (by simp)
   ·cases hq:H2 b with
    | none=>exact absurd hq c
    | some q=>exact(hok b q hq).there
  obtain⟨v,hv⟩:=this;have:=cov b v hv c n;have e2:=st b v this;rw[e]at e2;cases e2;exact this
end
noncomputable def CXR(P:Program)(w:World)(base:Heap):CXT:=fun outer H s E e s'=>∃(ea:Addr)(cls a0:Value)(H':Hp)(B:Heap),e=.ref ea/\s'.os=s.os/\AllBare s'.gens/\Un (frs outer) [] H H' s.heap s'.heap/\HOk P w H' s'.heap/\H' ea=none /\
 base.StaysIn B/\Heap.FlyingW B outer ea cls a0 s'.heap/\Cov (frs outer) s.heap s'.heap H' B/\E cls none H'
section
variable{X:Cx}{pins:List (Addr × Obj)}{σ:St}{H H2:Hp}{s s':Shared}
end
theorem un_drop{X:Cx}{pins:List (Addr × Obj)}{σ:St}{H H2:Hp}{s:Shared}{h:Heap}(I:Inv X pins σ H s)(hex:X.ex=[])(u:Un (frs X.stack) [] H H2 s.heap h):Un (frs X.outer) [] X.H₀ H2 X.s₀.heap h:=by
 have b0:=I.base;rw[hex]at b0;have nm:∀b o,X.s₀.heap.get? b=some o->b ∉ frs X.outer->b ∉ frs X.stack:=fun b o e n z=>by
  rcases List.mem_cons.mp (I.stkSub b z) with q | q
  ·have h1:=lt_size e;have h2:=I.ok.above;rw[<- q]at h2;exact absurd (Nat.lt_of_lt_of_le h1 h2) (Nat.lt_irrefl _)
  ·exact n q
 refine⟨fun b o e n hb hx=>?_,fun b o e n hb hx=>?_,fun b o e n hx=>?_,fun b o e hx=>?_,fun b xs e=>u.tups b xs (b0.tups b xs e),fun b o v e=>u.frzs b o v (b0.frzs b o v e),fun b ps e=>?_⟩
 ·exact u.keep b o (b0.keep b o e n hb hx) (b0.free b o e n hx) (nm b o e hb) hx
 ·obtain⟨sl,e1⟩:=b0.slot b o e n hb hx;obtain⟨sl',e2⟩:=u.any e1 (b0.free b o e n hx) hx;exact⟨sl',e2⟩
 ·obtain⟨o',e1⟩:=b0.there b o e hx;exact u.free b o' e1 (b0.free b o e n hx) hx
 ·obtain⟨o',e1⟩:=b0.there b o e hx;exact u.there b o' e1 hx
 ·obtain⟨m1,e1⟩:=b0.tbls b ps e;obtain⟨m2,e2⟩:=u.tbls b _ e1;exact⟨m1 ++ m2,by rw[e2,Array.append_assoc]⟩
theorem uM{X:Cx}{pins:List (Addr × Obj)}{σ:St}{H H2:Hp}{s:Shared}{h B:Heap}(I:Inv X pins σ H s)(hex:X.ex=[])(nf:∀b ∈ frs X.stack,H2 b=none)(c:Cov (frs X.stack) s.heap h H2 B):Cov (frs X.outer) X.s₀.heap h H2 B:=by
 have b0:=I.base;rw[hex]at b0;intro b u e q n;refine c b u e ?_ fun z=>?_
 ·rcases q with ⟨o,q⟩ | q
  ·exact .inl (b0.there b o q (by simp))
  ·exact .inr q
 ·rcases q with ⟨o,q⟩ | q
  ·rcases List.mem_cons.mp (I.stkSub b z) with y | y
   ·have h1:=lt_size q;have h2:=I.ok.above;rw[<- y]at h2;exact absurd (Nat.lt_of_lt_of_le h1 h2) (Nat.lt_irrefl _)
   ·exact n y
  ·exact q (nf b z)
section
variable{P:Program}{w:World}{K:Frag}{mg:Str->Option Value}{base:Heap}{N:List Str}{qual:Str}{scope:Scope}{f:Addr}{cd:Value}{A:Around}{outer:List Env}{s:Shared}{H:Hp}{E:XK}
theorem newR{pins:List (Addr × Obj)}{σ:St}{H1:Hp}{s1:Shared}{h':Heap}{ea:Addr}{cls:Value}{vs:List Value}(I:Inv (bv (CXR P w base) P w K mg base N qual scope f cd A outer s H E) pins σ H1 s1)(hx:Heap.MadeExcOf s1.heap h' ea cls vs)(hE:E cls none H1) :
  (bv (CXR P w base) P w K mg base N qual scope f cd A outer s H E).xe (.ref ea) { s1 with heap:=h' }:=by
 have hl:=I.stack;have hin:∀env ∈ (bv (CXR P w base) P w K mg base N qual scope f cd A outer s H E).stack,∀b,env.frame=some b->b ∈ frs (bv (CXR P w base) P w K mg base N qual scope f cd A outer s H E).stack:=fun env he b hb=>List.mem_filterMap.mpr ⟨env,he,hb⟩;have hst:base.StaysIn (PySem.W.hideAll s1.heap (frs (bv (CXR P w base) P w K mg base N qual scope f cd A outer s H E).stack)):=fun b o q=>PySem.W.hideAll_get _ ((I.bs b o q).1) fun hm=>by
  have z:base.get? b=none:=(hl.mem hm).1;rw[z]at q;cases q
 show wpAny _ _ (leaving _ (.ref ea)) _ _ _;refine wpAny_leaves_madeW (base:=PySem.W.hideAll s1.heap (frs (bv (CXR P w base) P w K mg base N qual scope f cd A outer s H E).stack)) (h:=s1.heap) I.ok.frames rfl (fun b o q=>PySem.W.of_hideAll _ q) (PySem.W.funFrames_hide hl hin) hx fun h2 t fly tup bt up=>?_;have nf:=I.stkFree;have up2:s1.heap.UpToSlots h2:=(Heap.UpToSlots.of_keeps hx.keeps).trans up;have cov:Cov (frs (bv (CXR P w base) P w K mg base N qual scope f cd A outer s H E).stack) s1.heap s1.heap H1 (PySem.W.hideAll s1.heap (frs (bv (CXR P w base) P w K mg base N qual scope f cd A outer s H E).stack)):=fun b u e _ n=>PySem.W.hideAll_get _ e n;have fd:∀b ∈ frs (bv (CXR P w base) P w K mg base N qual scope f cd A outer s H E).stack,∀o,s1.heap.get? b=some o->∀vs,o.data ≠ .fields vs:=fun b hb o ho=>by
  obtain⟨_,o',ho',hd⟩:=hl.mem hb;rw[ho]at ho';cases ho';exact hd
 obtain⟨un2,hok2,cov2⟩:=moved (Un.kept fun _ _ e=>e) I.hok cov fly.1 up2 nf fd;have hea:H1 ea=none:=by
  cases hq:H1 ea with
  | none=>rfl
  | some q =>
   obtain⟨u,hu⟩:=(I.hok ea q hq).there;rw[hx.new]at hu;cases hu
 exact⟨ea,cls,_,H1,_,rfl,I.os,I.bare,un_drop I rfl un2,hok2,hea,hst,fly,uM I rfl nf cov2,hE⟩
end
noncomputable def bmV:List Value:=[.type "ValueError",.type "Exception",.type "BaseException",.type "object"]
def ExcAt (h:Heap) (C:Addr):Prop:=∃bm N nm qn bs hd sn sub ab col dd k0 k1 k2 k3 k5 mN,h.get? C=some (excClassObj nm qn C N bs bm hd sn sub ab col dd k0 k1 k2 k3 k5 "ValueError.__new__")/\h.Ns N mN/\mN "__init__"=none/\OwnTail h bmV bm
theorem uN {K:Frag} {h:Heap} {C:Addr} (X:K.In h) (q:PySem.W.excIn K C bmV "ValueError.__new__"=true):ExcAt h C:=by
 unfold PySem.W.excIn at q;split at q
 case h_2=>cases q
 case h_1 dd cd sl ho =>
  split at q
  case h_2=>cases q
  case h_1 C2 tail y0 y1 y2 y3 nn y5 em es =>
   simp only[Bool.and_eq_true,beq_iff_eq,Bool.not_eq_true']at q;obtain⟨⟨⟨⟨⟨c1,c2⟩,c3⟩,c4⟩,c5⟩,c6⟩:=q;subst c1 c2;cases cd;rename_i f1 f2 f3 f4 f5 f6 f7 f8 f9 f10 f11;simp only at em c3 c5 c6;subst em c3;obtain rfl:sl=#[y0,y1,y2,y3,some (.builtin "ValueError.__new__"),y5]:=by
    cases sl;simp only at es;rw[es]
   refine⟨tail,f4,f1,f5,f2,f6,f7,f8,f9,f10,dd,y0,y1,y2,y3,y5,h.nsMap f4,X _ _ ho,?_,?_,PySem.W.tail_of_in X c4⟩
   ·exact .of_isNs (PySem.W.isNs_of_in X c5)
   ·exact PySem.W.nsMap_none_of_in X c5 c6
structure ExcC(K:Frag)(mg:Str->Option Value)(x:Str)(C:Addr):Prop where
 mgC:mg x=some (.ref C)
 ex:PySem.W.excIn K C bmV "ValueError.__new__"=true
def tRaise(C:Addr)(E:XK)(t:TA):TS:=fun _ σ H=>t σ H fun vs H1=>vs.length <= sizeLine/\E (.ref C) none H1
def PassN(X:Cx)(E:XK):Prop:=∀(pins:List (Addr × Obj)) (σ:St) (H:Hp) (s:Shared) (h':Heap) (e:Addr) (cls:Value) (vs:List Value),Inv X pins σ H s->Heap.MadeExcOf s.heap h' e cls vs->E cls none H->X.xe (.ref e) { s with heap:=h' }
theorem passN{P:Program}{w:World}{K:Frag}{mg:Str->Option Value}{base:Heap}{N:List Str}{qual:Str}{scope:Scope}{f:Addr}{cd:Value}{A:Around}{outer:List Env}{s:Shared}{H:Hp}{E:XK} :
  PassN (bv (CXR P w base) P w K mg base N qual scope f cd A outer s H E) E:=fun _ _ _ _ _ _ _ _ I hx hE=>newR I hx hE
theorem uO{X:Cx}{x:Str}{C:Addr}{E:XK}{e:Expr}{es:List Expr}{t:TA}{np cpos pos:Pos}(hN:PassN X E)(hc:X.calm=true)(T:ExcC X.K X.mg x C)(hg:Gl X x)(ha:PA X (e :: es) t)
  (he:starEach (e :: es) X.env=(false,eval e X.env) :: starEach es X.env:=by rfl) (hpl:(backTo cpos (starEach es X.env)).any (·.1)=false:=by rfl) (hd:(x == ("__debug__":Str))=false:=by decide) :
  PS X (.Raise (some (.Call (.Name x np) (e :: es) [] cpos)) none pos) (tRaise C E t):=by
 intro pins s σ H D I h;obtain⟨tl,Nn,nm,qn,bs,hdct,sn,sub,ab,col,dd,k0,k1,k2,k3,k5,mN,hC,hNs,hni,TL⟩:=uN I.ok.mod.kin T.ex;refine wpAny_Raise_call_subT (C:=C) (nm:=nm) (q:=qn) (N:=Nn) (bs:=bs) (bm:=tl) (hdct:=hdct) (sn:=sn) (sub:=sub) (ab:=ab) (col:=col) (dd:=dd) (k0:=k0) (k1:=k1) (k2:=k2) (k3:=k3) (k5:=k5)
  PySem.F.excBase_ValueError (mN:=mN) (TL.hasType PySem.F.excBase_ValueError.hasBase) (I.ok.hd hc) (by rw[he];show (false || _)=false;rw[Bool.false_or];exact hpl) hni (iJ I hg T.mgC ⟨rfl,?_⟩ hd)
 have h1:=ha cpos pins s σ H _ I h;rw[he]at h1 ⊢;refine Calls.evalArgs_plain (wpAny_mono h1 (fun us s2 h2=>?_) fun _ _ y=>y);obtain⟨vs,H1,I1,r1,hl,hE⟩:=h2;exact⟨rfl,by rw[<- r1.length];exact hl,I1.bk _ _ hC,hNs.keeps I1.bk,TL.keeps I1.bk,fun h' ea hm=>hN pins σ H1 s2 h' ea (.ref C) us I1 hm hE⟩
section
variable{X:Cx}{pins pins':List (Addr × Obj)}{xe:Value->Shared->Prop}{σ:St}{H:Hp}{s:Shared}{ea:Addr}
end
structure uP(P:Program)(w:World)(K:Frag)(mg:Str->Option Value)(base:Heap)(k:Nat)(x:Str)(ps:List Str)(sp:Sp):Prop where
 ex:∃f fd,aQ P w K mg base (CXR P w base) k f fd ps sp/\mg x=some (.ref f)/\PySem.W.keepIn K (.ref f)=true/\ej K fd ps []
theorem uQ{X:Cx}{k:Nat}{x:Str}{ps:List Str}{sp:Sp}{E:XK}{e:Expr}{es:List Expr}{t:TA}{p pos:Pos}(F:uP X.prog X.w X.K X.mg X.base k x ps sp)(hr:bj k X.A)(hx:eZ (CXR X.prog X.w X.base) X E)(ha:PA X (e :: es) t)(hg:Gl X x:=by rfl)
  (hdb:(x == ("__debug__":Str))=false:=by decide) (he:starEach (e :: es) X.env=(false,eval e X.env) :: starEach es X.env:=by rfl) (hpl:(backTo pos (starEach es X.env)).any (·.1)=false:=by rfl) :
  PE X (.Call (.Name x p) (e :: es) [] pos) (j7 sp [] E t):=by
 obtain⟨f,fd,G,m,kp,b⟩:=F.ex;exact qF G hr hg m kp b .nil hx ha hdb he hpl
theorem passNo{X:Cx}:eZ (CXR X.prog X.w X.base) X E0:=fun _ _ _ _ _ _ _ h=>by
 obtain⟨_,_,_,_,_,_,_,_,_,_,_,_,_,_,z⟩:=h;exact z.elim
section
variable{P:Program}{w:World}{K:Frag}{mg:Str->Option Value}{base:Heap}
theorem Fun.okR{x qual:Str}{st:Stmt}{f:Addr}{fd:FuncData}{N ps:List Str}{k:Nat}{sp:Sp}(F:Fun K x qual st f fd)(S:au N ps (am st))(len:∀vs H Q E,sp vs H Q E->vs.length=ps.length)
  (hbody:∀(cdv:Value)(A:Around)(outer:List Env)(s:Shared)(H:Hp)(vs:List V)(Q:VK)(E:XK),bj k (A.deeper (envOfC qual (am st) s.heap.objs.size f cdv))->sp vs H Q E ->
   ∃t,PSs (bv (CXR P w base) P w K mg base N qual (am st) f cdv A outer s H E) (dc st) t/\t { nx:=fun _ H'=>Q .non H',rt:=Q } (fE N vs) H):aQ P w K mg base (CXR P w base) (k + 1) f fd ps sp:=by
 obtain⟨oc,od,kV,doc,pm,an,cdv,ct,osl,rfl,lk,hcd⟩:=F.ex;exact fn_of lk hcd S len fun A outer s H vs Q E hr hsp=>hbody cdv A outer s H vs Q E hr hsp
end
section
variable{prog:Program}{w:World}{A:Around}{E:Value->Shared->Prop}{h:Heap}{g:Array GenState}{d:Drawn}{t:Nat}{os:OsState}{K:Frag}{x C:Addr}{ox:Obj}
end
section
end
section
variable{X:Cx}
end
section
variable{X:Cx}
end
section
variable{P:Program}{w:World}{K:Frag}{mg:Str->Option Value}{base:Heap}
end
section
variable{X:Cx}{k:Nat}{C:Addr}{m x:Str}{ps:List Str}{sp:Sp}{o e:Expr}{es:List Expr}{ta:TE}{t:TA}{p pos apos:Pos}{E:XK}
end
inductive gP(w:World):List DictEntry->List (Str × Addr)->Prop
 | nil:gP w [] []
 | cons {x:Str} {t:Tok} {v:Addr} {es:List DictEntry} {kvs:List (Str × Addr)}:gP w es kvs->gP w ({ hash:=PyData.keyHash w.params x,key:=.str x t,val:=.ref v } :: es) ((x,v) :: kvs)
structure uR(w:World)(K:Frag)(a:Addr)(kvs:List (Str × Addr)):Prop where
 ex:∃(es:Array DictEntry)(ep:Nat),K.lookup a=some { cls:=.type "dict",dict:=none,data:=.dict es ep,slots:=#[] }/\gP w es.toList kvs
 sys:(a == sysModules)=false
 nod:(kvs.map (·.1)).Nodup
noncomputable def dkV(kvs:List (Str × Addr)):List (Key × Value):=kvs.map fun p=>(Sum.inr p.1,Value.ref p.2)
noncomputable def iD(kvs:List (Str × Addr))(x:Str):Option Addr:=(kvs.find? fun p=>decide (p.1=x)).map (·.2)
theorem gP.pairs{P:Program}{w:World}:∀{es:List DictEntry} {kvs:List (Str × Addr)},gP w es kvs->Pairs (bC P w) es (dkV kvs)
 | _,_,.nil=>.nil
 | _,_,.cons (x:=x) (t:=t) r=>.cons (kv_str x t) rfl r.pairs
where
 kv_str {P:Program} {w:World} (x:Str) (t:Tok):(bC P w).is (Sum.inr x) (.str x t)=true:=fk (P:=P) (w:=w) (k:=Sum.inr x) (show bi (.str x) (.str x t) from⟨t,rfl⟩)
theorem gP.keys{P:Program}{w:World}:∀{es:List DictEntry} {kvs:List (Str × Addr)},gP w es kvs->∀e ∈ es,∃k,(bC P w).is k e.key=true/\e.hash=(bC P w).hash k
 | _,_,.nil,e,h=>by cases h
 | _,_,.cons (x:=x) (t:=t) r,e,h=>by
  rcases List.mem_cons.mp h with rfl | h
  ·exact⟨Sum.inr x,gP.pairs.kv_str x t,rfl⟩
  ·exact r.keys e h
theorem uS:∀{kvs:List (Str × Addr)},(kvs.map (·.1)).Nodup->((dkV kvs).map (·.1)).Nodup:=fun {kvs} h=>by
 unfold dkV;rw[List.map_map];have:(kvs.map ((fun x=>x.1) ∘ fun p=>((Sum.inr p.1:Key),Value.ref p.2)))=(kvs.map (·.1)).map (Sum.inr:Str->Key):=by rw[List.map_map];rfl
 rw[this];exact List.Pairwise.map _ (fun a b hab e=>hab (by injection e)) h
theorem jn(x:Str):∀kvs:List (Str × Addr),valueAt (dkV kvs) (Sum.inr x:Key)=(iD kvs x).map Value.ref
 | []=>rfl
 | p :: r=>by
  have ih:=jn x r;unfold valueAt iD dkV at *;rw[List.map_cons,List.find?_cons,List.find?_cons];by_cases h:p.1=x
  ·rw[decide_eq_true (show ((Sum.inr p.1:Key)=Sum.inr x) by rw[h]),decide_eq_true h]
   rfl
  ·rw[decide_eq_false (show ¬((Sum.inr p.1:Key)=Sum.inr x) from fun e=>h (by injection e)),decide_eq_false h]
   exact ih
theorem uR.dict{P:Program}{w:World}{K:Frag}{a:Addr}{kvs:List (Str × Addr)}{h:Heap}(D:uR w K a kvs)(X:K.In h):h.DictOf (bC P w) a (dkV kvs):=by
 obtain⟨es,ep,lk,r⟩:=D.ex;exact⟨_,es,ep,X _ _ lk,⟨rfl,rfl,rfl⟩,rfl,fun e he=>r.keys e (by simpa using he),r.pairs,uS D.nod⟩
section
variable{X:Cx}
theorem sG:OpR X (compareOp .NotIn) (fun x y H Q=>∃(a:Addr)(z:Str) (kvs:List (Str × Addr)),x=.str z/\y=.ref a/\uR X.w X.K a kvs/\Q (.bl (!(iD kvs z).isSome)) H):=by
 intro pins s σ H x y v u Q I rx ry h;obtain⟨a,z,kvs,rfl,rfl,D,q⟩:=h;cases ry;refine wpAny_notIn_of (knd:=bC X.prog X.w) (fk (k:=Sum.inr z) rx) D.sys (D.dict I.kIn).mapOf ?_;rw[jn,Option.isSome_map];exact⟨.bl _,H,I.tok _,rfl,q⟩
theorem uT{o i:Expr}{td ty:TE}{pos:Pos}(ho:PE X o td)(hi:PE X i ty)(hs:NoSl i):PE X (.Subscript o i pos) (fun σ H Q=>td σ H fun x H1=>ty σ H1 fun y H2=>∃(a:Addr)(z:Str) (kvs:List (Str × Addr)) (t:Addr),x=.ref a/\y=.str z/\uR X.w X.K a kvs/\iD kvs z=some t/\Q (.ref t) H2):=by
 intro pins s σ H Q I h;refine qG PySem.F.slot_dict_getitem.lookup hs (thn (ho pins s σ H _ I h) fun u s1 ⟨x,H1,I1,rx,q1⟩=>thn (hi pins s1 σ H1 _ I1 q1) fun iv s2 ⟨y,H2,I2,ry,a,z,kvs,t,ex,ey,D,g,q2⟩=>?_);subst ex ey;obtain rfl:u=Value.ref a:=rx;have dd:=D.dict (P:=X.prog) I2.kIn;refine⟨?_,wpAny_getItem_of (knd:=bC X.prog X.w) (fk (k:=Sum.inr z) ry) dd.mapOf (v:=.ref t) (by rw[jn,g];rfl) ⟨.ref t,H2,I2.tok _,rfl,q2⟩⟩
 obtain⟨ob,_,_,h1,h2,_⟩:=dd;exact⟨ob,h1,h2.1⟩
end
end L2
namespace L2.ST
open PySem PySem.Spec PyProof.Rows
section
variable{prog:Program}{w:World}{A:Around}{E:Value->Shared->Prop}{s:Shared}
end
end L2.ST
namespace L2
open PySem PySem.Spec PyProof.Rows
section
variable{X:Cx}
end
mutual
inductive Rds(H:Hp):V->PyData->Prop
 | non:Rds H .non .none
 | bl (b:Bool):Rds H (.bl b) (.bool b)
 | int (i:Int):Rds H (.int i) (.int i)
 | str (x:Str):Rds H (.str x) (.str x)
 | tup {a:Addr} {xs:List V} {ds:List PyData}:H a=some (.tup xs)->RdsAll H xs ds->Rds H (.ref a) (.tuple ds)
 | lst {a:Addr} {xs:List V} {ds:List PyData}:H a=some (.lst xs)->RdsAll H xs ds->Rds H (.ref a) (.list ds)
inductive RdsAll(H:Hp):List V->List PyData->Prop
 | nil:RdsAll H [] []
 | cons {x:V} {xs:List V} {d:PyData} {ds:List PyData}:Rds H x d->RdsAll H xs ds->RdsAll H (x :: xs) (d :: ds)
end
mutual
theorem Rds.same{H H':Hp}(e:aq H H'):∀{x:V}{d:PyData},Rds H x d->Rds H' x d
 | _,_,.non=>.non
 | _,_,.bl b=>.bl b
 | _,_,.int i=>.int i
 | _,_,.str x=>.str x
 | _,_,.tup h r=>.tup (e _ _ h) (r.same e)
 | _,_,.lst h r=>.lst (e _ _ h) (r.same e)
theorem RdsAll.same{H H':Hp}(e:aq H H'):∀{xs:List V}{ds:List PyData},RdsAll H xs ds->RdsAll H' xs ds
 | _,_,.nil=>.nil
 | _,_,.cons r t=>.cons (r.same e) (t.same e)
end
section
variable{X:Cx}
end
section
variable{X:Cx}
end
end L2
namespace L2.ZS
open PySem PySem.Spec PyProof.Rows
section
variable{prog:Program}{w:World}{A:Around}{E:Value->Shared->Prop}{s:Shared}
section
variable{z TI TO p r b:Addr}{zs:Str}{t:Tok}{vs:Array Value}{o1 o2:Value}{m n:Nat}
end
end
end L2.ZS
namespace L2
open PySem PySem.Spec PyProof.Rows
section
variable{X:Cx}
end
section
variable{X:Cx}
noncomputable def Alk(K:Frag):Nat->Hp->V->V->Prop
 | 0,_,v,w=>smV v=true/\w=v
 | n + 1,H,v,w=>(smV v=true/\w=v)\/∃(a b:Addr)(xs ys:List V),v=.ref a/\w=.ref b/\SqT K H a xs/\SqT K H b ys/\xs.length=ys.length/\∀(i:Nat)(x y:V),xs[i]?=some x->ys[i]?=some y->Alk K n H x y
theorem Alk.sm{K:Frag}{n:Nat}{H:Hp}{v:V}(h:smV v=true):Alk K n H v v:=by
 cases n with
 | zero=>exact⟨h,rfl⟩
 | succ n=>exact .inl ⟨h,rfl⟩
theorem px{its jts:List Value}{xs ys:List V}{A:Around}{s:Shared}(r1:bA xs its)(r2:bA ys jts)(hl:xs.length=ys.length)(h:∀(i:Nat)(x y:V)(u1 u2:Value),xs[i]?=some x->ys[i]?=some y->bi x u1->bi y u2->SeqAt.EqAt A s u1 u2 true)(j:Nat)(h1:j < its.toArray.size)(h2:j < jts.toArray.size):SeqAt.EqAt A s its.toArray[j] jts.toArray[j] true:=by
 have e1:=r1.length;have e2:=r2.length;have hj1:j < its.length:=by simpa using h1
 have hj2:j < jts.length:=by simpa using h2
 obtain⟨u1,hu1,ru1⟩:=r1.get (i:=j) (x:=xs[j]'(by lia)) (getElem?_eq_getElem _)
 obtain⟨u2,hu2,ru2⟩:=r2.get (i:=j) (x:=ys[j]'(by lia)) (getElem?_eq_getElem _)
 have i1:its.toArray[j]=u1:=by
  have:=getElem?_eq_getElem hj1;rw[hu1]at this;simpa using(Option.some.inj this).symm
 have i2:jts.toArray[j]=u2:=by
  have:=getElem?_eq_getElem hj2;rw[hu2]at this;simpa using(Option.some.inj this).symm
 rw[i1,i2];exact h j _ _ _ _ (getElem?_eq_getElem (by lia)) (getElem?_eq_getElem (by lia)) ru1 ru2
theorem pz{pins:List (Addr × Obj)}{σ:St}{H:Hp}{s:Shared}(I:Inv X pins σ H s):∀(n:Nat)(A:Around)(x y:V)(u1 u2:Value),A.units + n < cLine->Alk X.K n H x y->bi x u1->bi y u2->SeqAt.EqAt A s u1 u2 true
 | 0,A,x,y,u1,u2,hu,h,r1,r2=>by
  obtain⟨h1,rfl⟩:=h;exact uE h1 r1 r2
 | n + 1,A,x,y,u1,u2,hu,h,r1,r2=>by
  rcases h with ⟨h1,rfl⟩ | ⟨a,b,xs,ys,rfl,rfl,ha,hb,hl,h⟩
  ·exact uE h1 r1 r2
  ·cases r1;cases r2;by_cases hab:a=b
   ·subst hab;exact SeqAt.EqAt.same _
   ·obtain⟨its,q1,p1,_⟩:=I.tuple ha;obtain⟨jts,q2,p2,_⟩:=I.tuple hb;have:=SeqAt.RcAt.tuples (A:=A) (s:=s) (e:=fun _=>true) (show s.heap.IsTuple a its.toArray from p1) (show s.heap.IsTuple b jts.toArray from p2) (by lia) (px q1 q2 hl fun i x y u1 u2 hx hy ru1 ru2=>pz I n A.in1 x y u1 u2 (by show A.units + 1 + n < cLine;lia) (h i x y hx hy) ru1 ru2)
    rw[size_toArray,size_toArray,gO _ _ (by have e1:=q1.length;have e2:=q2.length;lia)]at this
    exact SeqAt.EqAt.of_refs hab this
def uU(K:Frag)(H:Hp)(a b:Addr):Prop:=∃(n:Nat)(xs ys:List V),n <= 60/\SqT K H a xs/\SqT K H b ys/\xs.length=ys.length/\∀(i:Nat)(x y:V),xs[i]?=some x->ys[i]?=some y->Alk K n H x y
theorem qS(hu:X.A.units + 64 < cLine):OpR X (compareOp .Eq) (fun x y H Q=>∃a b:Addr,x=.ref a/\y=.ref b/\uU X.K H a b/\Q (.bl true) H):=by
 intro pins s σ H x y v u Q I rx ry h;obtain⟨a,b,rfl,rfl,⟨n,xs,ys,hn,ha,hb,hl,h⟩,q⟩:=h;cases rx;cases ry;obtain⟨its,q1,p1,_⟩:=I.tuple ha;obtain⟨jts,q2,p2,_⟩:=I.tuple hb;have:=SeqAt.RcAt.tuples (A:=X.A) (s:=s) (e:=fun _=>true) (show s.heap.IsTuple a its.toArray from p1) (show s.heap.IsTuple b jts.toArray from p2) (by lia) (px q1 q2 hl fun i x y u1 u2 hx hy ru1 ru2=>pz I n X.A.in1 x y u1 u2 (by show X.A.units + 1 + n < cLine;lia) (h i x y hx hy) ru1 ru2)
 rw[size_toArray,size_toArray,gO _ _ (by have e1:=q1.length;have e2:=q2.length;lia)]at this
 exact this _ _ _ _ (bp I q rfl)
theorem iS(hu:X.A.units + 64 < cLine):OpR X (compareOp .NotEq) (fun x y H Q=>∃a b:Addr,x=.ref a/\y=.ref b/\uU X.K H a b/\Q (.bl false) H):=by
 intro pins s σ H x y v u Q I rx ry h;obtain⟨a,b,rfl,rfl,⟨n,xs,ys,hn,ha,hb,hl,h⟩,q⟩:=h;cases rx;cases ry;obtain⟨its,q1,p1,_⟩:=I.tuple ha;obtain⟨jts,q2,p2,_⟩:=I.tuple hb;have:=SeqAt.RcNeAt.tuples (A:=X.A) (s:=s) (e:=fun _=>true) (show s.heap.IsTuple a its.toArray from p1) (show s.heap.IsTuple b jts.toArray from p2) (by lia) (px q1 q2 hl fun i x y u1 u2 hx hy ru1 ru2=>pz I n X.A.in1 x y u1 u2 (by show X.A.units + 1 + n < cLine;lia) (h i x y hx hy) ru1 ru2)
 rw[size_toArray,size_toArray,gO _ _ (by have e1:=q1.length;have e2:=q2.length;lia)]at this
 exact this _ _ _ _ (bp I q rfl)
end
structure Wd(p:Prop):Prop where
 h:p
section
variable{X:Cx}{es:List Expr}{te:TE}{t:TA}
theorem bY:Wd (PA X [] nw):=⟨ag⟩
theorem iE{o:Operator}{e f:Expr}{p:Pos}(ha:PE X (.BinOp e o f p) te)(hr:Wd (PA X es t)):Wd (PA X (.BinOp e o f p :: es) (ei te t)):=⟨ad ha hr.h (by rfl)⟩
end
section
variable{X:Cx}
end
theorem len1{α:Type}{us:List α}(h:us.length=1):∃a0,us=[a0]:=by
 match us,h with
 | [a0],_=>exact⟨a0,rfl⟩
theorem sI{α:Type}{us:List α}(h:us.length=2):∃a0 a1,us=[a0,a1]:=by
 match us,h with
 | [a0,a1],_=>exact⟨a0,a1,rfl⟩
theorem len3{α:Type}{us:List α}(h:us.length=3):∃a0 a1 a2,us=[a0,a1,a2]:=by
 match us,h with
 | [a0,a1,a2],_=>exact⟨a0,a1,a2,rfl⟩
theorem len4{α:Type}{us:List α}(h:us.length=4):∃a0 a1 a2 a3,us=[a0,a1,a2,a3]:=by
 match us,h with
 | [a0,a1,a2,a3],_=>exact⟨a0,a1,a2,a3,rfl⟩
theorem len5{α:Type}{us:List α}(h:us.length=5):∃a0 a1 a2 a3 a4,us=[a0,a1,a2,a3,a4]:=by
 match us,h with
 | [a0,a1,a2,a3,a4],_=>exact⟨a0,a1,a2,a3,a4,rfl⟩
theorem len6{α:Type}{us:List α}(h:us.length=6):∃a0 a1 a2 a3 a4 a5,us=[a0,a1,a2,a3,a4,a5]:=by
 match us,h with
 | [a0,a1,a2,a3,a4,a5],_=>exact⟨a0,a1,a2,a3,a4,a5,rfl⟩
theorem ex3{A B C:Type}{F:A->B->C->Prop}(a b c)(h:F a b c):∃a b c,F a b c:=⟨a,b,c,h⟩
theorem ex4{A B C D:Type}{F:A->B->C->D->Prop}(a b c d)(h:F a b c d):∃a b c d,F a b c d:=⟨a,b,c,d,h⟩
theorem ex5{A B C D E:Type}{F:A->B->C->D->E->Prop}(a b c d e)(h:F a b c d e):∃a b c d e,F a b c d e:=⟨a,b,c,d,e,h⟩
theorem ex6{A B C D E G:Type}{F:A->B->C->D->E->G->Prop}(a b c d e f)(h:F a b c d e f):∃a b c d e f,F a b c d e f:=⟨a,b,c,d,e,f,h⟩
theorem ex7{A B C D E G H:Type}{F:A->B->C->D->E->G->H->Prop}(a b c d e f g)(h:F a b c d e f g):∃a b c d e f g,F a b c d e f g:=⟨a,b,c,d,e,f,g,h⟩
theorem ex8{A B C D E G H I:Type}{F:A->B->C->D->E->G->H->I->Prop}(a b c d e f g i)(h:F a b c d e f g i):∃a b c d e f g i,F a b c d e f g i:=⟨a,b,c,d,e,f,g,i,h⟩
theorem ex9{A B C D E G H I J:Type}{F:A->B->C->D->E->G->H->I->J->Prop}(a b c d e f g i j)(h:F a b c d e f g i j):∃a b c d e f g i j,F a b c d e f g i j:=⟨a,b,c,d,e,f,g,i,j,h⟩
theorem ex10{A B C D E G H I J K:Type}{F:A->B->C->D->E->G->H->I->J->K->Prop}(a b c d e f g i j k)(h:F a b c d e f g i j k):∃a b c d e f g i j k,F a b c d e f g i j k:=⟨a,b,c,d,e,f,g,i,j,k,h⟩
theorem ex11{A B C D E G H I J K L:Type}{F:A->B->C->D->E->G->H->I->J->K->L->Prop}(a b c d e f g i j k l)(h:F a b c d e f g i j k l):∃a b c d e f g i j k l,F a b c d e f g i j k l:=⟨a,b,c,d,e,f,g,i,j,k,l,h⟩
theorem ex13{A B C D E G H I J K L M N:Type}{F:A->B->C->D->E->G->H->I->J->K->L->M->N->Prop}(a b c d e f g i j k l m n)(h:F a b c d e f g i j k l m n):∃a b c d e f g i j k l m n,F a b c d e f g i j k l m n:=⟨a,b,c,d,e,f,g,i,j,k,l,m,n,h⟩
theorem ex14{A B C D E G H I J K L M N O:Type}{F:A->B->C->D->E->G->H->I->J->K->L->M->N->O->Prop}(a b c d e f g i j k l m n o)(h:F a b c d e f g i j k l m n o):∃a b c d e f g i j k l m n o,F a b c d e f g i j k l m n o:=⟨a,b,c,d,e,f,g,i,j,k,l,m,n,o,h⟩
theorem ex15{A B C D E G H I J K L M N O P:Type}{F:A->B->C->D->E->G->H->I->J->K->L->M->N->O->P->Prop}(a b c d e f g i j k l m n o p)(h:F a b c d e f g i j k l m n o p):∃a b c d e f g i j k l m n o p,F a b c d e f g i j k l m n o p:=⟨a,b,c,d,e,f,g,i,j,k,l,m,n,o,p,h⟩
theorem ex16{A B C D E G H I J K L M N O P Q:Type}{F:A->B->C->D->E->G->H->I->J->K->L->M->N->O->P->Q->Prop}(a b c d e f g i j k l m n o p q)(h:F a b c d e f g i j k l m n o p q):∃a b c d e f g i j k l m n o p q,F a b c d e f g i j k l m n o p q:=⟨a,b,c,d,e,f,g,i,j,k,l,m,n,o,p,q,h⟩
theorem ex18{A B C D E G H I J K L M N O P Q R S:Type}{F:A->B->C->D->E->G->H->I->J->K->L->M->N->O->P->Q->R->S->Prop}(a b c d e f g i j k l m n o p q r s)(h:F a b c d e f g i j k l m n o p q r s):∃a b c d e f g i j k l m n o p q r s,F a b c d e f g i j k l m n o p q r s:=⟨a,b,c,d,e,f,g,i,j,k,l,m,n,o,p,q,r,s,h⟩
theorem ah{t u:TS}{D:iG}{σ:St}{H:Hp}(h:∀K:St->Hp->Prop,(∀σ' H',u D σ' H'->K σ' H')->t { D with nx:=K } σ H):tSeq t u D σ H:=h (fun σ' H'=>u D σ' H') fun _ _ h=>h
section
variable{X:Cx}{tg:Expr}
end
section
variable{X:Cx}
end
section
variable{X:Cx}
end
open PySem.SeqAt
end L2
namespace L2
open PySem PySem.Spec PyProof.Rows
end L2
namespace L2
open PySem PySem.Spec PyProof.Rows
theorem Paired.zip{α β:Type}{R:α->β->Prop}:∀{xs:List α}{ys:List β},Paired R xs ys->∀z ∈ xs.zip ys,R z.1 z.2
 | _,_,.nil,z,h=>by simp at h
 | _,_,.cons h t,z,hz=>by
  rcases List.mem_cons.mp hz with rfl | hz
  ·exact h
  ·exact Paired.zip t z hz
section
variable{X:Cx}
end
theorem nU{X:Cx}:OpR X (binaryOp .FloorDiv) (rI (fun _ j=>0 < j/\j < 2 ^ 250) fun i j=>.int (i / j)):=opI fun i j _ _ _ _ _ hc q=>by
 have e:i.fdiv j=i / j:=Int.fdiv_eq_ediv_of_nonneg _ (Int.le_of_lt hc.1);refine floordiv_int (by have:=hc.1;omega) (by rw[e];exact q) (.inl (PyProof.noPylong_of_log2 ?_))
 have h1:=hc.1;have h2:=hc.2;have h3:j.natAbs < 2 ^ 250:=by omega
 have h4:j.natAbs ≠ 0:=by omega
 have:=(Nat.log2_lt h4).mpr h3;omega
end L2
namespace L2.EK
open PySem PySem.Spec PyProof.Rows
theorem typeOk (a v:Value):checkTypeCall "enumerate" ⟨[a],[("start",v)]⟩=pure ():=by kernel_rfl
theorem newOk (a v:Value):checkBuiltinCall "enumerate.__new__" ⟨[.type "enumerate",a],[("start",v)]⟩=pure ():=by kernel_rfl
theorem initOk (o a v:Value):argsOk "object.__init__" ⟨[o,a],[("start",v)]⟩:=by
 unfold argsOk;rw[signature?_of (id:="object.__init__") (n:=['_','_','t','i','n','i','_','_']) (o:=['t','c','e','j','b','o']) (by kernel_rfl) F.owner_object];kernel_rfl
theorem sJ {self a v:Value} (hl:typeLookup (.type "enumerate") "__init__"=pure (some (.builtin "object.__init__"))) (hm:Bind.madeBy (.type "enumerate")=pure (some "enumerate.__new__")) :
  Meets (Builtin.«object.__init__» ⟨[self,a],[("start",v)]⟩) (fun _ R s=>s.TypeIs self "enumerate" /\R (.ok (.ret .none)) s):=by
 refine Meets.of_wp fun prog w A R s hs=>?_;obtain⟨hT,hq⟩:=hs;have hne:(some "enumerate.__new__" != some "object.__new__")=true:=by decide
 repeat (any_goals (first | assumption | wp_step))
 exact⟨_,rfl,hq⟩
noncomputable abbrev fJ (it:Addr) (f0:Value) (i:Int) (gv old:Value):Obj:={ cls:=.type "enumerate",dict:=none,data:=.fields #[f0,.bool false,.ref it,rawInt i,gv,old],slots:=#[] }
noncomputable abbrev h1 (h:Heap) (l:Addr):Heap:=h.push { cls:=.type "tuple_iterator",data:=.fields #[.ref l,.int 0 0] }
theorem uV(l:Addr)(us:Array Value)(n:Int)(t:Tok) :
  Meets (Builtin.«enumerate.__new__» ⟨[.type "enumerate",.ref l],[("start",.int n t)]⟩) (fun _ R s=>s.heap.IsTuple l us/\∀gv:Value,(gv=.none\/gv=.int n t)->R (.ok (.ret (.ref (h1 s.heap l).objs.size))) { s with heap:=(h1 s.heap l).push (fJ s.heap.objs.size .none n gv .none) }) :=
 .of_wp fun prog w A R s h=>by
  obtain⟨hp,gs,dr,tk,os⟩:=s;obtain⟨hl,h⟩:=h;have hsub:=sub_enumerate;have hL:Heap.IsTuple (Shared.heap ⟨hp,gs,dr,tk,os⟩) l us:=hl
  wp_walk
  refine wpAny_stack_any fun st=>wpAny_pure ?_;have fin1:=h .none (.inl rfl);have fin2:=h (.int n t) (.inr rfl);split
  ·rename_i c _ _ _ _ _;cases (c == Value.type "enumerate") <;> cases hf:Builtin.SmallTypes.fitsIndex n
   all_goals (wp_walk using wpAny_pyIter_tuple hL)
   all_goals first | exact⟨_,rfl,fin1⟩ | exact⟨_,rfl,fin2⟩
  ·cases hf:Builtin.SmallTypes.fitsIndex n
   all_goals (wp_walk using wpAny_pyIter_tuple hL)
   all_goals first | exact⟨_,rfl,fin1⟩ | exact⟨_,rfl,fin2⟩
section
variable{prog:Program}{w:World}{A:Around}{E:Value->Shared->Prop}{s:Shared}
theorem call_K{l:Addr}{us:Array Value}{n:Int}{t:Tok}{R:Value->Shared->Prop}(hl:s.heap.IsTuple l us)
  (h:∀(g:Heap)(gv:Value),(gv=.none\/gv=.int n t)->g.get? (s.heap.objs.size + 1)=some (fJ s.heap.objs.size .none n gv .none)->g.IsTupleIter s.heap.objs.size l 0->(∀c o,s.heap.get? c=some o->g.get? c=some o)->R (.ref (s.heap.objs.size + 1)) { s with heap:=g }) :
  wpAny (model prog w) A (call (.type "enumerate") [.ref l] [("start",.int n t)]) R E s:=by
 obtain⟨c0,tl0,mro0⟩:=F.called_enumerate.mro;have made0:=F.called_enumerate.made;have sub0:=F.called_enumerate.sub;refine wpAny_call (codeAny_of_tree ?_);show wpAny _ _ (callAny (.type "enumerate") _) _ _ _;refine wpAny_pure ⟨Code.quiet_builtin _ (by decide +kernel),codeAny_builtin F.entry_type_call ?_⟩
 rw[Around.under_plain (weight_type_call_type "enumerate" [.ref l] [("start",.int n t)]) rfl];have a1:=F.called_enumerate.notType;have a2:=F.called_enumerate.canCreate;have a3:=typeOk (.ref l) (.int n t)
 repeat (any_goals (first | assumption | wp_step))
 refine codeAny_mono (codeAny_call_builtin F.called_enumerate.plain F.entry_enumerate_new (wpAny_of_eq (newOk _ _) (uV l us n t prog w A.in1 (wants (fun obj s₁=>∃(gv:Value),(gv=.none\/gv=.int n t)/\obj=.ref (s.heap.objs.size + 1)/\s₁={ s with heap:=(h1 s.heap l).push (fJ s.heap.objs.size .none n gv .none) }) E) s ⟨hl,fun gv hg=>⟨gv,hg,by rw[Heap.size_push],rfl⟩⟩))) fun r s₁ hr=>?_
 cases r with
 | error e=>exact hr
 | ok fl =>
  cases fl with
  | ret obj =>
   obtain⟨gv,hg,rfl,rfl⟩:=hr;have sz:(h1 s.heap l).objs.size=s.heap.objs.size + 1:=Heap.size_push ..;have e1:((h1 s.heap l).push (fJ s.heap.objs.size .none n gv .none)).get? (s.heap.objs.size + 1)=some (fJ s.heap.objs.size .none n gv .none):=by
    have:=get?_push_size (h1 s.heap l) (o:=fJ s.heap.objs.size .none n gv .none) rfl
    rwa [sz]at this
   have hT:Shared.TypeIs { s with heap:=(h1 s.heap l).push (fJ s.heap.objs.size .none n gv .none) } (.ref (s.heap.objs.size + 1)) "enumerate":=⟨_,e1,rfl⟩;have b1:=F.called_enumerate.init.lookup;have b2:=F.called_enumerate.init.bind (.ref (s.heap.objs.size + 1))
   repeat (any_goals (first | assumption | wp_step))
   refine codeAny_mono (codeAny_call_builtin F.called_enumerate.init.plain F.entry_object_init (F.called_enumerate.init.check _ _ _ _ _ _ _ _ hT (initOk _ _ _) (sJ b1 made0 prog w A.in1 (wants (fun r s₂=>r=.none/\s₂={ s with heap:=(h1 s.heap l).push (fJ s.heap.objs.size .none n gv .none) }) E) _ ⟨hT,rfl,rfl⟩))) fun r₂ s₂ hr₂=>?_;cases r₂ with
   | error e=>exact hr₂
   | ok fl₂ =>
    cases fl₂ with
    | ret r =>
     obtain⟨rfl,rfl⟩:=hr₂;have fin:=h _ gv hg e1 ⟨_,get?_push_of_some _ (get?_push_size _ rfl),rfl,rfl⟩ fun c o x=>get?_push_of_some _ (get?_push_of_some _ x)
     repeat (any_goals (first | assumption | wp_step))
    | _=>exact hr₂.elim
  | _=>exact hr.elim
theorem uW{jp:Value->Sem Fin}{Q:Fin->Shared->Prop}{gv:Value}{z:Int}{h:Heap}{gs:Array GenState}{dr:Drawn}{tk0:Nat}{os:OsState}(hgv:gv=.none\/∃t,gv=.int z t)
  (key:∀(tv:Tok)(tk:Nat),wpAny (model prog w) A (jp (.int z tv)) Q E ⟨h,gs,dr,tk,os⟩):wpAny (model prog w) A (if (gv == Value.none)=true then mkInt z >>= jp else pure gv >>= jp) Q E ⟨h,gs,dr,tk0,os⟩:=by
 rcases hgv with rfl | ⟨t,rfl⟩
 ·rw[if_pos (show (Value.none == Value.none)=true from rfl)];exact wpAny_bind (wpAny_mkInt (key _ _))
 ·rw[if_neg (show ¬((Value.int z t == Value.none)=true) from Bool.false_ne_true)];exact wpAny_bind (wpAny_pure (key _ _))
theorem ib{e it l:Addr}{z:Int}{i:Nat}{us:Array Value}{x gv old:Value}{R:Value->Shared->Prop}(he:s.heap.get? e=some (fJ it .none z gv old))(hgv:gv=.none\/∃t,gv=.int z t)
  (hit:s.heap.IsTupleIter it l i)(hl:s.heap.IsTuple l us)(hx:us[i]?=some x)(ne:e ≠ it)
  (hR:∀(g:Heap)(tk:Nat)(tv:Tok),IsEnumOut g e it (z + 1) x s.heap.objs.size->g.IsTupleIter it l (i + 1)->g.get? s.heap.objs.size=some { cls:=.type "tuple",data:=.seq #[.int z tv,x] } ->
   (∀b o,b ≠ e->b ≠ it->s.heap.get? b=some o->g.get? b=some o)->R (.ref s.heap.objs.size) { s with heap:=g,toks:=tk }) :
  wpAny (model prog w) A (Builtin.«enumerate.__next__» ⟨[.ref e],[]⟩) (fun fin s'=>∃v,fin=.done (.ret v)/\R v s') E s:=by
 obtain⟨hp,gs,dr,tk0,os⟩:=s;show wpAny _ _ (field (.ref e) 2 >>= _) _ _ _;refine wpAny_bind (wpAny_field he rfl (x:=.ref it) rfl (wpAny_bind (ZT.gc hit hl hx fun g1 it1 k1=>?_)));have k1:Heap.SameBut it hp g1:=k1;have e1:g1.get? e=some (fJ it .none z gv old):=(k1.2 e ne).trans he;show wpAny _ _ (field (.ref e) 3 >>= _) _ _ ⟨g1,gs,dr,tk0,os⟩;refine wpAny_bind (wpAny_field e1 rfl (x:=rawInt z) rfl ?_);show wpAny _ _ (field (.ref e) 4 >>= _) _ _ ⟨g1,gs,dr,tk0,os⟩;refine wpAny_bind (wpAny_field e1 rfl (x:=gv) rfl ?_);refine uW hgv fun tv tk=>?_;show wpAny _ _ (setField (.ref e) 3 (rawInt (z + 1)) >>= _) _ _ ⟨g1,gs,dr,tk,os⟩;refine wpAny_bind (wpAny_setField_rec e1 (by simp) fun g2 e2 k2=>?_)
 have k2:Heap.SameBut e g1 g2:=k2;have e2:g2.get? e=some (fJ it .none (z + 1) gv old):=e2;show wpAny _ _ (setField (.ref e) 4 .none >>= _) _ _ ⟨g2,gs,dr,tk,os⟩;refine wpAny_bind (wpAny_setField_rec e2 (by simp) fun g3 e3 k3=>?_)
 have k3:Heap.SameBut e g2 g3:=k3;have e3:IsEnum g3 e it (z + 1) old:=e3;show wpAny _ _ (newTuple [.int z tv,x] >>= _) _ _ ⟨g3,gs,dr,tk,os⟩;refine wpAny_bind (wpAny_newTuple ?_);have e4:IsEnum (g3.push { cls:=.type "tuple",data:=.seq #[.int z tv,x] }) e it (z + 1) old:=get?_push_of_some _ e3;generalize hg4:g3.push { cls:=.type "tuple",data:=.seq #[.int z tv,x] }=g4 at e4;have sz:g3.objs.size=hp.objs.size:=by rw[k3.1,k2.1,k1.1]
 have el:e < hp.objs.size:=lt_size he;have t4:g4.get? hp.objs.size=some { cls:=.type "tuple",data:=.seq #[.int z tv,x] }:=by rw[<- hg4,<- sz];exact get?_push_size _ rfl
 have k4:∀b o,b ≠ e->b ≠ it->hp.get? b=some o->g4.get? b=some o:=fun b o n1 n2 q=>by
  rw[<- hg4];exact get?_push_of_some _ (k3.extBut b o n1 (k2.extBut b o n1 (k1.extBut b o n2 q)))
 have i4:g4.IsTupleIter it l (i + 1):=by
  rw[<- hg4];obtain⟨o,ho,r⟩:=(it1.extBut k2.extBut (Ne.symm ne)).extBut k3.extBut (Ne.symm ne);exact⟨o,get?_push_of_some _ ho,r⟩
 show wpAny _ _ (Builtin.SmallTypes.ownedTupleIsFree (.ref e) >>= _) _ _ ⟨g4,gs,dr,tk,os⟩;rw[sz];unfold Builtin.SmallTypes.ownedTupleIsFree;refine wpAny_bind (wpAny_bind (wpAny_field e4 rfl (x:=.none) rfl (wpAny_pure ?_)));simp only[if_true];refine wpAny_bind (wpAny_rule (wpAny_bind (wpAny_field e4 rfl (x:=old) rfl (wpAny_bind (wpAny_setField_rec e4 (by simp) fun g5 e5 k5=>?_)))))
 have k5:Heap.SameBut e g4 g5:=k5;have e5:IsEnum g5 e it (z + 1) x:=e5;show wpAny _ _ (Builtin.SmallTypes.ownedTupleHandOut (.ref e) (.ref hp.objs.size) >>= _) _ _ ⟨g5,gs,dr,tk,os⟩;unfold Builtin.SmallTypes.ownedTupleHandOut;refine wpAny_bind (wpAny_bind (wpAny_setField_rec e5 (by simp) fun g6 e6 k6=>?_))
 have k6:Heap.SameBut e g5 g6:=k6;have e6:IsEnumOut g6 e it (z + 1) x hp.objs.size:=e6;refine wpAny_setField_rec e6 (by simp) fun g7 e7 k7=>?_
 have k7:Heap.SameBut e g6 g7:=k7;have e7:IsEnumOut g7 e it (z + 1) x hp.objs.size:=e7;refine wpAny_bind (wpAny_letGo (wpAny_pure ⟨_,rfl,hR g7 tk tv e7 ?_ ?_ ?_⟩))
 ·exact((i4.extBut k5.extBut (Ne.symm ne)).extBut k6.extBut (Ne.symm ne)).extBut k7.extBut (Ne.symm ne)
 ·exact k7.extBut _ _ (Nat.ne_of_gt el) (k6.extBut _ _ (Nat.ne_of_gt el) (k5.extBut _ _ (Nat.ne_of_gt el) t4))
 ·exact fun b o n1 n2 q=>k7.extBut b o n1 (k6.extBut b o n1 (k5.extBut b o n1 (k4 b o n1 n2 q)))
end
end L2.EK
namespace L2
open PySem PySem.Spec PyProof.Rows
noncomputable def ItK(K:Frag)(n:Int)(l:Addr):It :=
 ⟨fun i H=>∃xs x,SqT K H l xs/\xs[i]?=some x,fun i H v H'=>∃p,v=.ref p/\H p=none/\∀xs,SqT K H l xs->∃x,xs[i]?=some x/\H'=upd H p (.tup [.int (n + i),x]),fun i H=>∃xs,SqT K H l xs/\i=xs.length⟩
def TnK(n:Int)(e it l:Addr)(i:Nat)(h:Heap):Prop:=(∃gv old,(gv=Value.none\/∃t,gv=.int (n + i) t)/\h.get? e=some (EK.fJ it .none (n + i) gv old))/\h.IsTupleIter it l i
theorem jo{P:Program}{w:World}{K:Frag}{elts:List Expr}{k:Nat}{pos:Pos}{n:Int}{e it l:Addr}(a1:e ≠ it):mZ P w K (.Tuple elts k pos) (ItK K n l) [e,it] e (TnK n e it l) where
 mem:=by simp
 obj:=fun i h st b hb=>by
  obtain⟨⟨gv,old,_,h1⟩,h2⟩:=st;simp only[List.mem_cons,not_mem_nil,or_false]at hb;rcases hb with rfl | rfl
  ·exact⟨_,h1,fun v e=>by cases e⟩
  ·obtain⟨o,e,c,d⟩:=h2;exact⟨o,e,fun v z=>by rw[d]at z;cases z⟩
 keep:=fun i h h' st kk=>by
  obtain⟨⟨gv,old,hg,h1⟩,h2⟩:=st;exact⟨⟨gv,old,hg,kk _ (by simp) _ h1⟩,h2.at fun o e=>kk _ (by simp) o e⟩
 item:=by
  intro X hP hw hK hc i pins s σ H E I hf st hg;subst hP hw hK;obtain⟨xs,x,hx,ex⟩:=hg;obtain⟨its,rv,p,hz⟩:=I.tuple hx;obtain⟨u,hu,ru⟩:=rv.get ex;obtain⟨⟨gv,old,hgv,st1⟩,st2⟩:=st;have hT:s.TypeIs (.ref e) "enumerate":=⟨_,st1,rfl⟩;unfold pyNext;refine wpAny_bind (wpAny_attempt (wpAny_callSpecial?_slot (name:=Str.ofString "__next__") hT F.slot_enumerate_next (wpAny_call_entry F.slot_enumerate_next hT F.entry_enumerate_next
   (EK.ib st1 hgv st2 (show s.heap.IsTuple l its.toArray from p) (x:=u) (by simpa using hu) a1 fun g tk tv z1 z2 z3 kk=>wpAny_pure ?_) (F.args_enumerate_next_1 _))))
  refine⟨_,rfl,wpAny_letOwnedTupleGo_enum z1 fun g' zz sb=>?_⟩;have up:∀c o,c ≠ e->g.get? c=some o->g'.get? c=some o:=fun c o n e=>sb.extBut _ _ n e;have nT:s.heap.objs.size ≠ e:=Nat.ne_of_gt (lt_size st1);have hTup:IsTup g' s.heap.objs.size [Value.int (n + i) tv,u].toArray:=⟨_,up _ _ nT z3,rfl,_,rfl⟩;have kk2:∀b o,b ∉ ([e,it]:List Addr)->s.heap.get? b=some o->g'.get? b=some o:=fun b o hb q=>by
   simp only[List.mem_cons,not_mem_nil,or_false,not_or]at hb;exact up _ _ hb.1 (kk b o hb.1 hb.2 q)
  have I1:=I.turnedT (h':=g') (t':=tk) (T:=s.heap.objs.size) (xs:=[.int (n + i),x]) (us:=[Value.int (n + i) tv,u]) (ch:=[e,it]) kk2 hf (Nat.le_refl _) (by show 2 <= sizeLine;decide) (.cons ⟨tv,rfl⟩ (.cons ru .nil)) hTup
  have en:n + (i:Int) + 1=n + ((i + 1:Nat):Int):=by lia
  rw[en]at zz;refine⟨.ref s.heap.objs.size,_,I1,rfl,⟨_,rfl,I.hok.fresh (Nat.le_refl _),fun xs' hx'=>⟨x,?_,rfl⟩⟩,⟨⟨.none,_,.inl rfl,zz⟩,z2.at fun o q=>up _ o (Ne.symm a1) q⟩,fun b hb=>?_⟩
  ·rw[I.tuple_inj hx' hx];exact ex
  ·have hb':∃o,s.heap.get? b=some o:=by
    simp only[List.mem_cons,not_mem_nil,or_false]at hb;obtain⟨o4,e4,_⟩:=st2;rcases hb with h | h <;> rw[h]
    ·exact⟨_,st1⟩
    ·exact⟨_,e4⟩
   obtain⟨o,eo⟩:=hb';rw[aw (Nat.ne_of_lt (lt_size eo))];exact(hf b hb).1
 done:=by
  intro X hP hw hK hc i pins s σ H E I hf st hg;subst hP hw hK;obtain⟨xs,hx,rfl⟩:=hg;obtain⟨its,rv,p,hz⟩:=I.tuple hx;obtain⟨⟨gv,old,hgv,st1⟩,st2⟩:=st;have hT:s.TypeIs (.ref e) "enumerate":=⟨_,st1,rfl⟩;have hend:its.toArray[xs.length]?=none:=Array.getElem?_eq_none (by rw[size_toArray,rv.length];exact Nat.le_refl _)
  unfold pyNext;refine wpAny_bind (wpAny_attempt (wpAny_callSpecial?_slot (name:=Str.ofString "__next__") hT F.slot_enumerate_next (wpAny_call_entry F.slot_enumerate_next hT F.entry_enumerate_next ?_ (F.args_enumerate_next_1 _))))
  show wpAny _ _ (field (.ref e) 2 >>= _) _ _ _;refine wpAny_bind (wpAny_field st1 rfl (x:=.ref it) rfl (wpAny_bind (ZT.jm (I.ok.hd hc) st2 (show s.heap.IsTuple l its.toArray from p) hend fun g y kk ⟨oe,he,ce⟩=>?_)));refine wpAny_bind (wpAny_isInstance (T:="StopIteration") (b:=true) ⟨oe,he,ce⟩ isSubtype_stop (wpAny_pure ⟨rfl,I.turnedL (t':=s.toks) (ch:=[e,it]) (fun b o hb q=>kk b o ?_ q) hf⟩));simp only[List.mem_cons,not_mem_nil,or_false,not_or]at hb;exact hb.2
 self:=fun _ _ s' _ _ st h=>by
  obtain⟨⟨gv,old,_,h1⟩,_⟩:=st;have hT:Shared.TypeIs s' (.ref e) "enumerate":=⟨_,h1,rfl⟩;refine wpAny_pyIter_slot hT F.slot_enumerate_iter (wpAny_call_entry F.slot_enumerate_iter hT F.entry_enumerate_iter ?_ (F.args_enumerate_iter_1 _));exact wpAny_pure ⟨_,rfl,"enumerate",_,hT,F.slot_enumerate_next.lookup,h⟩
section
variable{X:Cx}
noncomputable def iEnumK(K:Frag)(ta tb:TA):TI:=fun σ H R=>ta σ H fun vs H1=>tb σ H1 fun ys H2=>∃a xs n,vs=[.ref a]/\ys=[.int n]/\SqT K H2 a xs/\R (ItK K n a) H2
theorem type_kw{M:Model}{A:Around}{E:Value->Shared->Prop}{s:Shared}{env:Env}{pos:Pos}{T:String}{e:Expr}{rest:List Expr}{kws:List Keyword}{Q:Value->Shared->Prop}
  (h:wpAny M A (spliced (backTo pos (starEach (e :: rest) env))) (fun vs s₁=>wpAny M A (evalAll ((backToKw pos (keywordEach kws env)).map (·.2))) (fun kvs s₂=>wpAny M A (call (.type T) vs (((backToKw pos (keywordEach kws env)).filterMap (·.1)).zip kvs)) Q E s₂) E s₁) E s)
  (he:backTo pos (starEach (e :: rest) env)=(false,eval e env) :: backTo pos (starEach rest env):=by rfl)(hp:(backTo pos (starEach (e :: rest) env)).any (·.1)=false:=by rfl)
  (ha:(backToKw pos (keywordEach kws env)).all (·.1.isSome)=true:=by rfl)(hk:(backToKw pos (keywordEach kws env)).any (·.1.isNone)=false:=by rfl) :
  wpAny M A (callWith pos (.type T) [] (backTo pos (starEach (e :: rest) env)) (backToKw pos (keywordEach kws env))) Q E s:=by
 unfold callWith;refine wpAny_bind (wpAny_holding (thn (Q:=fun(a:Args) s₁=>wpAny M A (call (.type T) a.pos a.kw) Q E s₁) ?_ fun a s₁ h₁=>wpAny_bind (wpAny_standAt ?_)))
 ·rw[he]at h ⊢;exact evalArgs_kwB ha h
 ·simp only[hp,hk,Bool.or_false];exact wpAny_bind (wpAny_pure (wpAny_bind (thn h₁ fun r s₂ hr=>wpAny_bind (wpAny_holding (wpAny_point (wpAny_pure hr))))))
theorem uX {elts:List Expr} {k:Nat} {tpos:Pos} {a b:Expr} {ta tb:TA} {p pos kp:Pos} (hg:Gl X "enumerate") (hm:X.mg "enumerate"=none) (ha:PA X [a] ta) (hb:PK X [⟨some "start",b,kp⟩] tb)
  (h1:backTo pos (starEach [a] X.env)=(false,eval a X.env) :: backTo pos (starEach [] X.env):=by rfl) (h2:(backTo pos (starEach [a] X.env)).any (·.1)=false:=by rfl)
  (h3:(backToKw pos (keywordEach [⟨some "start",b,kp⟩] X.env)).all (·.1.isSome)=true:=by rfl) (h4:(backToKw pos (keywordEach [⟨some "start",b,kp⟩] X.env)).any (·.1.isNone)=false:=by rfl)
  (h5:(backToKw pos (keywordEach [⟨some "start",b,kp⟩] X.env)).filterMap (·.1)=[("start":Str)]:=by rfl) :
  PI X (.Tuple elts k tpos) (.Call (.Name "enumerate" p) [a] [⟨some "start",b,kp⟩] pos) (iEnumK X.K ta tb):=by
 intro pins s σ H R I h;refine wpAny_Call_Name_kw (fB I hg hm boot_enumerate (type_kw (thn (ha pos pins s σ H _ I h) fun us s1 ⟨vs,H1,I1,r1,q1⟩=>thn (hb pos pins s1 σ H1 _ I1 q1) fun ws s2 ⟨zs,H2,I2,r2,q2⟩=>?_) h1 h2 h3 h4));rw[h5];obtain⟨l,xs,n,e1,e2,hx,q⟩:=q2;subst e1 e2;obtain⟨u,rfl,rr⟩:=fC r1;cases rr;obtain⟨u2,rfl,rr2⟩:=fC r2;obtain⟨t,rfl⟩:=rr2;obtain⟨its,rv,p1,hz⟩:=I2.tuple hx;refine EK.call_K (show s2.heap.IsTuple l its.toArray from p1) fun g gv hgv z1 z2 kk=>?_;have ez:n + ((0:Nat):Int)=n:=by lia
 have st:TnK n (s2.heap.objs.size + 1) s2.heap.objs.size l 0 g:=⟨⟨gv,.none,by
  rw[ez];exact hgv.imp_right fun e=>⟨t,e⟩,by rw[ez];exact z1⟩,z2⟩
 have hT:Shared.TypeIs { s2 with heap:=g } (.ref (s2.heap.objs.size + 1)) "enumerate":=⟨_,z1,rfl⟩;refine wpAny_pyIter_slot hT F.slot_enumerate_iter (wpAny_call_entry F.slot_enumerate_iter hT F.entry_enumerate_iter (wpAny_pure ⟨_,rfl,"enumerate",_,hT,F.slot_enumerate_next.lookup,?_⟩) (F.args_enumerate_iter_1 _));refine⟨_,[s2.heap.objs.size + 1,s2.heap.objs.size],_,_,H2,rfl,I2.kept (t':=s2.toks) kk,jo (Nat.succ_ne_self _),st,fun b hb=>?_,q⟩;have hb':s2.heap.objs.size <= b:=by
  simp only[List.mem_cons,not_mem_nil,or_false]at hb;rcases hb with h | h <;> rw[h] <;> first | exact Nat.le_add_right _ _ | exact Nat.le_refl _
 exact I2.fpOk hb' (I2.hok.fresh hb')
theorem kI{K:Frag}{n:Int}{a:Addr}{xs:List V}{g:TG}{tb:TS}{D:iG}{σ:St}{H:Hp}(Pv:Nat->St->Hp->Prop)(h0:Pv 0 σ H)(hl:∀i σ H,Pv i σ H->SqT K H a xs)
  (hs:∀i x p σ H,xs[i]?=some x->H p=none->Pv i σ H->g (.ref p) σ (upd H p (.tup [.int (n + i),x])) fun σ2 H2=>tb { D with nx:=Pv (i + 1),ct:=Pv (i + 1),bk:=D.nx } σ2 H2)(hd:∀σ H,Pv xs.length σ H->D.nx σ H) :
  ∃W:Nat->Nat->St->Hp->Prop,(∃m,W 0 m σ H)/\∀i m σ H,W i m σ H ->
   ((ItK K n a).stop i H/\D.nx σ H)\/((ItK K n a).go i H/\∃N:St->Hp->Prop,(∀σ' H',N σ' H'->∃m',m' < m/\W (i + 1) m' σ' H')/\∀x H',(ItK K n a).yld i H x H'->g x σ H' fun σ2 H2=>tb { D with nx:=N,ct:=N,bk:=D.nx } σ2 H2):=by
 refine⟨fun i m σ H=>m=xs.length - i/\i <= xs.length/\Pv i σ H,⟨xs.length,by simp,Nat.zero_le _,h0⟩,?_⟩
 rintro i m σ H ⟨rfl,hi,p⟩;have q1:=hl i σ H p;by_cases hlt:i < xs.length
 ·refine .inr ⟨⟨xs,xs[i],q1,by simp[hlt]⟩,Pv (i + 1),fun σ' H' p'=>⟨xs.length - (i + 1),by lia,rfl,hlt,p'⟩,fun x H' y=>?_⟩
  obtain⟨t,rfl,ht,y⟩:=y;obtain⟨u,eu,rfl⟩:=y xs q1;exact hs i u t σ H eu ht p
 ·have e:i=xs.length:=by lia
  subst e;exact .inl ⟨⟨xs,q1,rfl⟩,hd σ H p⟩
end
end L2
namespace L2.EK
open PySem PySem.Spec PyProof.Rows
open AutoSeq1 (wpAny_loadPart')
theorem sK(l:Addr)(us:Array Value) :
  Meets (Builtin.«enumerate.__new__» ⟨[.type "enumerate",.ref l],[]⟩) (fun _ R s=>s.heap.IsTuple l us/\R (.ok (.ret (.ref (h1 s.heap l).objs.size))) { s with heap:=(h1 s.heap l).push (fJ s.heap.objs.size .none 0 .none .none) }) :=
 .of_wp fun prog w A R s h=>by
  obtain⟨hp,g,d,tk,os⟩:=s;obtain⟨hl,h⟩:=h;have hsub:=sub_enumerate;have hL:Heap.IsTuple (Shared.heap ⟨hp,g,d,tk,os⟩) l us:=hl
  wp_walk
  refine wpAny_stack_any fun st=>wpAny_pure ?_;split
  ·rename_i c _ _ _ _ _;cases (c == Value.type "enumerate")
   ·wp_walk using wpAny_pyIter_tuple hL
    exact⟨_,rfl,h⟩
   ·wp_walk using wpAny_pyIter_tuple hL
    exact⟨_,rfl,h⟩
  ·wp_walk using wpAny_pyIter_tuple hL
   exact⟨_,rfl,h⟩
theorem call_T{prog:Program}{w:World}{A:Around}{E:Value->Shared->Prop}{s:Shared}{l:Addr}{us:Array Value}{Q:Value->Shared->Prop}(hl:s.heap.IsTuple l us)
  (h:∀g:Heap,g.get? (s.heap.objs.size + 1)=some (fJ s.heap.objs.size .none 0 .none .none)->g.IsTupleIter s.heap.objs.size l 0->(∀c o,s.heap.get? c=some o->g.get? c=some o)->Q (.ref (s.heap.objs.size + 1)) { s with heap:=g }) :
  wpAny (model prog w) A (call (.type "enumerate") [.ref l]) Q E s:=by
 refine callType_new F.called_enumerate (by decide) (F.typeCall_enumerate_1 _) (F.newCall_enumerate_1 _) (fun obj=>F.args_object_init_2 obj _) F.entry_enumerate_new
  (sK l us) ⟨hl,?_⟩
 have hz:(h1 s.heap l).objs.size=s.heap.objs.size + 1:=Heap.size_push ..;show _/\_;rw[hz];have he:((h1 s.heap l).push (fJ s.heap.objs.size .none 0 .none .none)).get? (s.heap.objs.size + 1)=some (fJ s.heap.objs.size .none 0 .none .none):=by
  have:=get?_push_size (h1 s.heap l) (o:=fJ s.heap.objs.size .none 0 .none .none) rfl;rw[hz]at this;exact this
 exact⟨⟨_,he,rfl⟩,h _ he ⟨_,get?_push_of_some _ (get?_push_size _ rfl),rfl,rfl⟩ fun b o x=>get?_push_of_some _ (get?_push_of_some _ x)⟩
end L2.EK
namespace L2
open PySem PySem.Spec PyProof.Rows
section
variable{X:Cx}
noncomputable def iEnumT(K:Frag)(ta:TA):TI:=fun σ H R=>ta σ H fun vs H1=>∃a xs,vs=[.ref a]/\SqT K H1 a xs/\R (ItK K 0 a) H1
theorem uY {elts:List Expr} {k:Nat} {tpos:Pos} {a:Expr} {ta:TA} {p pos:Pos} (hg:Gl X "enumerate") (hm:X.mg "enumerate"=none) (ha:PA X [a] ta) (hs:starEach [a] X.env=[(false,eval a X.env)]:=by rfl) :
  PI X (.Tuple elts k tpos) (.Call (.Name "enumerate" p) [a] [] pos) (iEnumT X.K ta):=by
 intro pins s σ H R I h;refine Call_ (fB I hg hm boot_enumerate (PyProof.Rows.callWith_type1 (thn (ha pos pins s σ H _ I h) fun us s1 ⟨vs,H1,I1,r1,q1⟩=>?_) hs rfl));obtain⟨l,xs,e,hx,q⟩:=q1;subst e;obtain⟨u,rfl,rr⟩:=fC r1;cases rr;obtain⟨its,rv,p1,hz⟩:=I1.tuple hx;refine EK.call_T (show s1.heap.IsTuple l its.toArray from p1) fun g z1 z2 kk=>?_;have st:TnK 0 (s1.heap.objs.size + 1) s1.heap.objs.size l 0 g:=⟨⟨.none,.none,.inl rfl,z1⟩,z2⟩;have hT:Shared.TypeIs { s1 with heap:=g } (.ref (s1.heap.objs.size + 1)) "enumerate":=⟨_,z1,rfl⟩;refine wpAny_pyIter_slot hT F.slot_enumerate_iter (wpAny_call_entry F.slot_enumerate_iter hT F.entry_enumerate_iter (wpAny_pure ⟨_,rfl,"enumerate",_,hT,F.slot_enumerate_next.lookup,?_⟩) (F.args_enumerate_iter_1 _));refine⟨_,[s1.heap.objs.size + 1,s1.heap.objs.size],_,_,H1,rfl,I1.kept (t':=s1.toks) kk,jo (Nat.succ_ne_self _),st,fun b hb=>?_,q⟩;have hb':s1.heap.objs.size <= b:=by
  simp only[List.mem_cons,not_mem_nil,or_false]at hb;rcases hb with h | h <;> rw[h] <;> first | exact Nat.le_add_right _ _ | exact Nat.le_refl _
 exact I1.fpOk hb' (I1.hok.fresh hb')
end
theorem kJ{prog:Program}{w:World}{A:Around}{E:Value->Shared->Prop}{it l:Addr}{items:Array Value}(hne:l ≠ it):∀(n i:Nat)(s:Shared)(Q:List Value->Shared->Prop),s.heap.IsListIter it l i->s.heap.IsList l items->i + n <= items.size ->
  (∀h':Heap,h'.IsListIter it l (i + n)->Heap.SameBut it s.heap h'->Q ((items.toList.drop i).take n) { s with heap:=h' })->wpAny (model prog w) A (draw (.ref it) n) Q E s
 | 0,i,s,Q,hi,hl,hs,q=>by
  rw[draw.eq_1];exact wpAny_pure (q s.heap hi ⟨rfl,fun _ _=>rfl⟩)
 | n + 1,i,s,Q,hi,hl,hs,q=>by
  rw[draw.eq_2];have hil:i < items.size:=by lia
  refine wpAny_bind (wpAny_pyNext_list_item hi hl (x:=items[i]) (Array.getElem?_eq_getElem hil) fun h' st' sb=>?_)
  refine wpAny_bind (wpAny_holding (kJ (items:=items) hne n (i + 1) _ _ st' ?_ (by lia) fun h2 st2 sb2=>wpAny_pure ?_))
  ·obtain⟨o,e,r⟩:=hl;exact⟨o,(sb.2 l hne).trans e,r⟩
  ·have:=q h2 (by rw[show i + (n + 1)=i + 1 + n by lia];exact st2) ⟨sb2.1.trans sb.1,fun b hb=>(sb2.2 b hb).trans (sb.2 b hb)⟩
   rw[List.drop_eq_getElem_cons (by simpa using hil),List.take_succ_cons]at this
   simpa using this
theorem nW{prog:Program}{w:World}{A:Around}{E:Value->Shared->Prop}{s:Shared}{l:Addr}{items:Array Value}{targets:List (Bool × (Value->Sem Unit))}{Q:Unit->Shared->Prop}(hh:A.handled=none)(hl:s.heap.IsList l items)(ht:targets.length=items.size)(hst:targets.findIdx? (·.1)=none)
  (q:∀h':Heap,Heap.ExtBut s.heap.objs.size s.heap h'->wpAny (model prog w) A (assignInOrder (targets.map (·.2)) items.toList) Q E { s with heap:=h' }):wpAny (model prog w) A (unpack (.ref l) targets) Q E s:=by
 unfold unpack;rw[hst];refine wpAny_bind (wpAny_holding ?_);unfold unpackItems notIterableAtAll;obtain⟨o,e,c,n,d⟩:=id hl;have hlt:=lt_size e;refine wpAny_bind (wpAny_bind (wpAny_specialOf (T:="list") ⟨o,e,c⟩ PySem.F.slot_list_iter.lookup (wpAny_pure ?_)));refine wpAny_bind (wpAny_holding (wpAny_pyIter_list hl ?_));have st:(s.heap.push { cls:=.type "list_iterator",data:=.fields #[.ref l,.int 0 0] }).IsListIter s.heap.objs.size l 0:=⟨_,get?_push_size _ rfl,rfl,rfl⟩;have hl2:(s.heap.push { cls:=.type "list_iterator",data:=.fields #[.ref l,.int 0 0] }).IsList l items:=⟨o,get?_push_of_some _ e,c,n,d⟩;have hne:l ≠ s.heap.objs.size:=Nat.ne_of_lt hlt;refine wpAny_bind (wpAny_holding (kJ (items:=items) hne targets.length 0 _ _ st hl2 (by lia) fun h' st' sb=>?_))
 have hl3:h'.IsList l items:=⟨o,(sb.2 l hne).trans (get?_push_of_some _ e),c,n,d⟩;have hlen:((items.toList.drop 0).take targets.length)=items.toList:=by
  rw[List.drop_zero,take_of_length_le (by rw[Array.length_toList];lia)]
 rw[hlen];rw[if_neg (by rw[Array.length_toList];lia)]
 refine wpAny_bind (wpAny_holding (wpAny_pyNext_list_end hh st' hl3 (by rw[Array.getElem?_eq_none];lia) fun h2 eb=>?_))
 refine wpAny_pure (q h2 fun b o' hb eo=>?_);exact eb b o' hb ((sb.2 b hb).trans (get?_push_of_some _ eo))
noncomputable def gLst(K:Frag)(n:Nat)(t:TGs):TG:=fun v σ H Q=>∃a xs,v=.ref a/\SqL K H a xs/\xs.length=n/\t xs σ H Q
theorem pg_lst{X:Cx}{pos:Pos}{es:List Expr}{k:Nat}{t:TGs}{n:Nat}(hc:X.calm=true)(h:PGs X es t)
  (hn:(assignEach es X.env).length=n:=by rfl)(hst:(assignEach es X.env).findIdx? (·.1)=none:=by rfl):PG X (.Tuple es k pos) (gLst X.K n t):=by
 intro pins s σ H v u Q I r hw;obtain⟨a,xs,e1,hq,hl,hw⟩:=hw;subst e1;cases r;obtain⟨its,rv,p,hz⟩:=I.list hq;rw[arm_assign_Tuple];refine wpAny_bind (wpAny_standAt (nW (I.ok.hd hc) p.isList (by simp[hn,<- hl,rv.length]) hst fun h' hx=>?_))
 have I1:Inv X pins σ H { s with heap:=h' }:=I.kept (t':=s.toks) fun b o e=>hx b o (Nat.ne_of_lt (lt_size e)) e;exact h pins _ σ H xs _ Q I1 (by simpa using rv) hw
theorem ic:fillsNumberSlot (.type "tuple") "mul"=pure false:=by kernel_rfl
theorem lD:seqRepeat? (.type "tuple")=pure (some (.builtin "tuple.__mul__")):=by kernel_rfl
theorem iF(k:Int)(t:Tok):asIndex (.int k t)=pure k:=rfl
theorem uZ (a:Addr) (o:Obj) (items:Array Value) (n:Nat) (t:Tok) (hc:o.cls=.type "tuple") (hd:o.data=.seq items n):Meets (Builtin.«tuple.__mul__» { pos:=[.ref a,.int 1 t] }) fun _ R s=>s.heap.get? a=some o/\R (.ok (.ret (.ref a))) s:=by
 intro prog w A R s h;obtain⟨e,q⟩:=h
 with_unfolding_all refine wpAny_bind ?_
 rw[iF];refine wpAny_pure ?_;show wpAny _ _ (Builtin.Tuple.tupleItemsOf (Value.ref a) >>= _) _ _ _;refine wpAny_bind ?_;unfold Builtin.Tuple.tupleItemsOf;refine wpAny_bind (wpAny_seqItems e hd (wpAny_pure ?_));rw[show (items.isEmpty || ((1:Int) == 1))=true by rw[show ((1:Int) == 1)=true from rfl,Bool.or_true],if_pos rfl]
 unfold Builtin.Tuple.tupleIsExact;refine wpAny_bind (wpAny_bind (wpAny_typeOf (T:="tuple") ⟨o,e,hc⟩ (wpAny_pure ?_)));rw[if_pos (by simp)]
 exact wpAny_bind (wpAny_rule (wpAny_pure q))
theorem va (a:Addr) (o:Obj) (items:Array Value) (n:Nat) (t:Tok) (hd:o.data=.seq items n) (hne:items.isEmpty=false):Meets (Builtin.«tuple.__mul__» { pos:=[.ref a,.int 0 t] }) fun _ R s=>s.heap.get? a=some o/\R (.ok (.ret (.ref s.heap.objs.size))) { s with heap:=s.heap.push { cls:=.type "tuple",data:=.seq #[] } }:=by
 intro prog w A R s h;obtain⟨e,q⟩:=h
 with_unfolding_all refine wpAny_bind ?_
 rw[iF];refine wpAny_pure ?_;show wpAny _ _ (Builtin.Tuple.tupleItemsOf (Value.ref a) >>= _) _ _ _;refine wpAny_bind ?_;unfold Builtin.Tuple.tupleItemsOf;refine wpAny_bind (wpAny_seqItems e hd (wpAny_pure ?_));rw[show (items.isEmpty || ((0:Int) == 1))=false by rw[hne];rfl,if_neg (by decide)]
 rw[show (decide ((0:Int) <= 0) || items.isEmpty)=true from rfl,if_pos rfl];unfold Builtin.Tuple.tupleExact;exact wpAny_bind (wpAny_newObj_type (wpAny_pure q))
theorem vb(k:Int)(t:Tok)(a:Addr)(o:Obj)(items:Array Value)(n:Nat)(hd:o.data=.seq items n):Meets (Builtin.«int.__rmul__» { pos:=[.int k t,.ref a] }) fun _ R s=>s.heap.get? a=some o/\R (.ok (.ret .notImplemented)) s:=by
 intro prog w A R s h;obtain⟨e,q⟩:=h;unfold Builtin.«int.__rmul__» Builtin.Int.intBinary;refine wpAny_bind ?_;show wpAny _ _ (pure (Value.int k t,[Value.ref a])) _ _ _;refine wpAny_pure (wpAny_bind ?_);unfold Builtin.Int.intOfSelf;refine wpAny_bind (wpAny_pure (wpAny_pure (wpAny_bind ?_)));show wpAny _ _ (load a >>= _) _ _ _;refine wpAny_bind (wpAny_load e ?_);rw[hd];exact wpAny_pure (wpAny_bind (wpAny_rule (wpAny_pure q)))
theorem qT{X:Cx}:OpR X (binaryOp .Mult) (fun x y H Q=>∃(a:Addr)(k:Int)(v:V),x=.ref a/\y=.int k/\H a=some (.tup [v])/\((k=1/\Q (.ref a) H)\/(k=0/\∀p H',H p=none->aq H H'->H' p=some (.tup [])->Q (.ref p) H'))):=by
 intro pins s σ H x y v u Q I rx ry h;obtain⟨a,k,v0,rfl,rfl,hH,q⟩:=h;cases rx;obtain⟨t,rfl⟩:=ry;obtain⟨its,rv,ht,hz⟩:=I.tuple (SqT.of hH);obtain⟨o,e,hc,n,hd⟩:=id ht;have hl:its.length=1:=rv.length.symm;refine wpAny_binaryOp_repeat_ref (T:="tuple") (U:="int") (by decide) ⟨o,e,hc⟩ (fun s'=>typeIs_int s' k t) ic F.fills_int_mul F.slot_int_rmul lD F.slot_int_index.lookup
  (call_meets F.slot_int_rmul (typeIs_int s k t) F.entry_int_rmul (F.args_int_rmul_2 _ _) (vb k t a o its.toArray n hd) ⟨e,rfl,⟨o,e,hc⟩,?_⟩)
 rcases q with ⟨rfl,q⟩ | ⟨rfl,q⟩
 ·exact call_meets F.slot_tuple_mul ⟨o,e,hc⟩ F.entry_tuple_mul (F.args_tuple_mul_2 _ _) (uZ a o its.toArray n t hc hd) ⟨e,.ref a,H,I,rfl,q⟩
 ·refine call_meets F.slot_tuple_mul ⟨o,e,hc⟩ F.entry_tuple_mul (F.args_tuple_mul_2 _ _) (va a o its.toArray n t hd (by cases its with | nil=>cases hl | cons _ _=>rfl)) ⟨e,?_⟩
  have hf:H s.heap.objs.size=none:=I.fresh;refine⟨.ref s.heap.objs.size,_,I.laid (t':=s.toks) (a:=s.heap.objs.size) (o:=.tup []) (fun b o e=>get?_push_of_some _ e) (Nat.le_refl _) ?_,rfl,q _ _ hf (dE hf) ai⟩
  exact⟨Nat.zero_le _,[],.nil,_,get?_push_size _ rfl,rfl,_,rfl⟩
section
variable{X:Cx}
theorem ge {k:Nat} {x:Str} {ps:List Str} {sp:Sp} {g:Expr} {as:List Expr} {ks:List Keyword} {l:List Expr} {ta:TE} {t:TA} {p pc pl pos:Pos} (F:aV X.prog X.w X.K X.mg X.base k x ps sp) (hr:bj k X.A) (ha:PE X (.Call g as ks pc) ta) (hl:Wd (PA X l t)) (hg:Gl X x:=by rfl) (hdb:(x == ("__debug__":Str))=false:=by decide):PE X (.Call (.Name x p) [.Call g as ks pc,.List l pl] [] pos) (j7 sp [] E0 (ei ta (ei (qP t) nw))):=aB F hr (ad ha (ad (cL hl.h) ag)) hg hdb
theorem sL {k:Nat} {x:Str} {ps:List Str} {sp:Sp} {y:Str} {l:List Expr} {ta:TE} {t:TA} {p pc pl pos:Pos} (F:aV X.prog X.w X.K X.mg X.base k x ps sp) (hr:bj k X.A) (ha:PE X (.Name y pc) ta) (hl:Wd (PA X l t)) (hg:Gl X x:=by rfl) (hdb:(x == ("__debug__":Str))=false:=by decide):PE X (.Call (.Name x p) [.Name y pc,.List l pl] [] pos) (j7 sp [] E0 (ei ta (ei (qP t) nw))):=aB F hr (ad ha (ad (cL hl.h) ag)) hg hdb
theorem di{c:Int}{k:Nat}{p:Pos}{es:List Expr}{t:TA}(hr:Wd (PA X es t)):Wd (PA X (.Constant (.int c) k p :: es) (ei (tC (.int c)) t)):=⟨ad af hr.h (by rfl)⟩
theorem d8{c:Str}{k:Nat}{p:Pos}{es:List Expr}{t:TA}(hr:Wd (PA X es t)):Wd (PA X (.Constant (.str c) k p :: es) (ei (tC (.str c)) t)):=⟨ad aU hr.h (by rfl)⟩
theorem wa_n{k:Nat}{p:Pos}{es:List Expr}{t:TA}(hr:Wd (PA X es t)):Wd (PA X (.Constant .none k p :: es) (ei (tC .non) t)):=⟨ad cU hr.h (by rfl)⟩
theorem fA{y:Str}{p:Pos}{es:List Expr}{te:TE}{t:TA}(ha:PE X (.Name y p) te)(hr:Wd (PA X es t)):Wd (PA X (.Name y p :: es) (ei te t)):=⟨ad ha hr.h (by rfl)⟩
theorem wa_c{g:Expr}{as:List Expr}{ks:List Keyword}{p:Pos}{es:List Expr}{te:TE}{t:TA}(ha:PE X (.Call g as ks p) te)(hr:Wd (PA X es t)):Wd (PA X (.Call g as ks p :: es) (ei te t)):=⟨ad ha hr.h (by rfl)⟩
theorem sM{a b:Expr}{p:Pos}{es:List Expr}{te:TE}{t:TA}(ha:PE X (.Subscript a b p) te)(hr:Wd (PA X es t)):Wd (PA X (.Subscript a b p :: es) (ei te t)):=⟨ad ha hr.h (by rfl)⟩
theorem wa_t{l:List Expr}{k:Nat}{p:Pos}{es:List Expr}{te:TE}{t:TA}(ha:PE X (.Tuple l k p) te)(hr:Wd (PA X es t)):Wd (PA X (.Tuple l k p :: es) (ei te t)):=⟨ad ha hr.h (by rfl)⟩
theorem eL{es:List Expr}{t:TA}{pos:Pos}(h:Wd (PA X es t)):PE X (.List es pos) (qP t):=cL h.h
theorem de{es:List Expr}{t:TA}{k:Nat}{pos:Pos}(h:Wd (PA X es t)):PE X (.Tuple es k pos) (tTupA t):=aR h.h
theorem sN {k:Nat} {x:Str} {ps:List Str} {sp:Sp} {g:Expr} {as:List Expr} {ks:List Keyword} {a b:Expr} {op:Operator} {ta tb:TE} {p pc pl pos:Pos} (F:aV X.prog X.w X.K X.mg X.base k x ps sp) (hr:bj k X.A) (ha:PE X (.Call g as ks pc) ta) (hb:PE X (.BinOp a op b pl) tb) (hg:Gl X x:=by rfl) (hdb:(x == ("__debug__":Str))=false:=by decide):PE X (.Call (.Name x p) [.Call g as ks pc,.BinOp a op b pl] [] pos) (j7 sp [] E0 (ei ta (ei tb nw))):=aB F hr (ad ha (ad hb ag)) hg hdb
end
end L2
namespace L2
theorem rd2{α β:Type}{A:α->Prop}{B:α->β->Prop}{C:α->β->Prop}{a:α}{b:β}(h1:A a)(h2:B a b)(q:C a b):∃x,A x/\∃y,B x y/\C x y:=⟨a,h1,b,h2,q⟩
theorem rd3{α β γ:Type}{A:α->Prop}{B:α->β->Prop}{C D:α->β->γ->Prop}{a:α}{b:β}{c:γ}(h1:A a)(h2:B a b)(h3:C a b c)(q:D a b c):∃x,A x/\∃y,B x y/\∃z,C x y z/\D x y z:=⟨a,h1,b,h2,c,h3,q⟩
theorem oo{α β:Type}{A B C:α->β->Prop}{a:α}{b:β}(h1:A a b)(h2:B a b)(q:C a b):∃x y,A x y/\B x y/\C x y:=⟨a,b,h1,h2,q⟩
theorem cJ{α β γ:Type}{A:α->Prop}{B C D:α->β->γ->Prop}{a:α}{b:β}{c:γ}(h1:A a)(h2:B a b c)(h3:C a b c)(q:D a b c):∃x,A x/\∃y z,B x y z/\C x y z/\D x y z:=⟨a,h1,b,c,h2,h3,q⟩
theorem eA{α β γ δ:Type}{A:α->Prop}{B:α->β->Prop}{C D E:α->β->γ->δ->Prop}{a:α}{b:β}{c:γ}{d:δ}(h1:A a)(h2:B a b)(h3:C a b c d)(h4:D a b c d)(q:E a b c d):∃x,A x/\∃y,B x y/\∃z u,C x y z u/\D x y z u/\E x y z u:=⟨a,h1,b,h2,c,d,h3,h4,q⟩
end L2
namespace KM
open PySem PySem.Spec L2
def keyOf:Key->Str
 | .inr x=>x
 | .inl _=>""
noncomputable def cF{α:Type}(l:List (Key × α)):List Str:=l.map fun p=>keyOf p.1
structure dn{α:Type}(l:List (Key × α)):Prop where
 txt:∀p ∈ l,∃x:Str,p.1=Sum.inr x
 nd:(l.map (·.1)).Nodup
theorem dn.keys{α:Type}{l:List (Key × α)}(h:dn l):l.map (·.1)=(cF l).map Sum.inr:=by
 unfold cF;rw[List.map_map];refine List.map_congr_left fun p hp=>?_;obtain⟨x,e⟩:=h.txt p hp;show p.1=Sum.inr (keyOf p.1);rw[e];rfl
theorem inj_inr{l:List Str}(h:(l.map (Sum.inr:Str->Key)).Nodup):l.Nodup:=by
 induction l with
 | nil=>exact List.nodup_nil
 | cons x r ih =>
  have h:((Sum.inr x:Key) :: r.map Sum.inr).Nodup:=h;obtain⟨h1,h2⟩:=List.nodup_cons.mp h;exact List.nodup_cons.mpr ⟨fun m=>h1 (List.mem_map.mpr ⟨x,m,rfl⟩),ih h2⟩
theorem dn.nodup{α:Type}{l:List (Key × α)}(h:dn l):(cF l).Nodup:=inj_inr (by rw[<- h.keys];exact h.nd)
theorem dn.mem{α:Type}{l:List (Key × α)}(h:dn l){x:Str}:x ∈ cF l ↔ (Sum.inr x:Key) ∈ l.map (·.1):=by
 rw[h.keys];constructor
 ·intro m;exact List.mem_map.mpr ⟨x,m,rfl⟩
 ·intro m;obtain⟨y,hy,e⟩:=List.mem_map.mp m;cases e;exact hy
noncomputable def cE{α:Type}(l:List (Key × α))(k:Key):Option α:=(l.find? fun kv=>decide (kv.1=k)).map (·.2)
noncomputable def gu{α:Type}(l:List (Key × α))(k:Key)(v:α):List (Key × α):=if (l.any fun kv=>decide (kv.1=k))=true then l.map (fun kv=>if kv.1=k then (kv.1,v) else kv) else l ++ [(k,v)]
section
variable{α:Type}
theorem cA{p:Key × α}{r:List (Key × α)}{k:Key}(e:p.1=k):cE (p :: r) k=some p.2:=by simp[cE,List.find?_cons,e]
theorem cr{p:Key × α}{r:List (Key × α)}{k:Key}(e:¬p.1=k):cE (p :: r) k=cE r k:=by simp[cE,List.find?_cons,e]
theorem fK(k:Key):∀l:List (Key × α),(l.any fun kv=>decide (kv.1=k))=(cE l k).isSome
 | []=>rfl
 | p :: r=>by
  rw[List.any_cons];by_cases e:p.1=k
  ·simp only[cA e,decide_eq_true e,Bool.true_or,Option.isSome_some]
  ·rw[cr e,decide_eq_false e,Bool.false_or];exact fK k r
theorem cG{l:List (Key × α)}{k:Key}:k ∈ l.map (·.1) ↔ (cE l k).isSome=true:=by
 rw[<- fK,List.any_eq_true];constructor
 ·intro m;obtain⟨p,hp,e⟩:=List.mem_map.mp m;exact⟨p,hp,decide_eq_true e⟩
 ·rintro ⟨p,hp,e⟩;exact List.mem_map.mpr ⟨p,hp,of_decide_eq_true e⟩
theorem nX(k j:Key)(y:α):∀l:List (Key × α),cE (l.map fun kv=>if kv.1=k then (kv.1,y) else kv) j=(cE l j).map fun x=>if j=k then y else x
 | []=>rfl
 | p :: r=>by
  have ih:=nX k j y r;rw[List.map_cons];by_cases h:p.1=k
  ·rw[if_pos h];by_cases e:p.1=j
   ·rw[cA (p:=(p.1,y)) e,cA e,Option.map_some,if_pos (e.symm.trans h)]
   ·rw[cr (p:=(p.1,y)) e,cr e,ih]
  ·rw[if_neg h];by_cases e:p.1=j
   ·rw[cA (p:=p) e,cA e,Option.map_some,if_neg (fun z=>h (e.trans z))]
   ·rw[cr (p:=p) e,cr e,ih]
theorem kK(k j:Key)(y:α):∀l:List (Key × α),cE l k=none->cE (l ++ [(k,y)]) j=if j=k then some y else cE l j
 | [],_=>by
  by_cases e:k=j
  ·rw[if_pos e.symm];exact cA (p:=(k,y)) e
  ·rw[if_neg (fun z=>e z.symm)];exact cr (p:=(k,y)) e
 | p :: r,hn=>by
  rw[List.cons_append];have hk:¬p.1=k:=fun z=>by rw[cA z]at hn;cases hn
  rw[cr hk]at hn;have ih:=kK k j y r hn;by_cases e:p.1=j
  ·rw[cA e,cA e,if_neg (fun z=>hk (e.trans z))]
  ·rw[cr e,cr e,ih]
theorem vc(l:List (Key × α))(k j:Key)(y:α):cE (gu l k y) j=if j=k then some y else cE l j:=by
 unfold gu;by_cases a:(l.any fun kv=>decide (kv.1=k))=true
 ·rw[if_pos a,nX];rw[fK]at a;by_cases e:j=k
  ·obtain⟨x,hx⟩:=Option.isSome_iff_exists.mp a;rw[if_pos e,e,hx,Option.map_some,if_pos rfl]
  ·rw[if_neg e];cases cE l j with
   | none=>rfl
   | some x=>rw[Option.map_some,if_neg e]
 ·rw[if_neg a];refine kK k j y l ?_;rw[fK]at a;cases q:cE l k with
  | none=>rfl
  | some x=>rw[q]at a;exact(a rfl).elim
theorem dn.put{l:List (Key × α)}(h:dn l)(x:Str)(v:α):dn (gu l (Sum.inr x) v):=by
 unfold gu;by_cases a:(l.any fun kv=>decide (kv.1=(Sum.inr x:Key)))=true
 ·rw[if_pos a];have e:(l.map (fun kv=>if kv.1=(Sum.inr x:Key) then (kv.1,v) else kv)).map (·.1)=l.map (·.1):=by
   rw[List.map_map];refine List.map_congr_left fun p _=>?_;show (if p.1=(Sum.inr x:Key) then (p.1,v) else p).1=p.1
   split <;> rfl
  refine⟨fun p hp=>?_,by rw[e];exact h.nd⟩
  have:p.1 ∈ l.map (·.1):=by rw[<- e];exact List.mem_map.mpr ⟨p,hp,rfl⟩
  obtain⟨q,hq,eq⟩:=List.mem_map.mp this;obtain⟨y,ey⟩:=h.txt q hq;exact⟨y,eq.symm.trans ey⟩
 ·rw[if_neg a];refine⟨fun p hp=>?_,?_⟩
  ·rcases mem_append.mp hp with q | q
   ·exact h.txt p q
   ·rw[List.mem_singleton.mp q];exact⟨x,rfl⟩
  ·rw[List.map_append];refine qK h.nd fun m=>a ?_;rw[fK];exact cG.mp m
theorem kL(l:List (Key × α))(k j:Key):cE (l.filter fun kv=>decide (kv.1 ≠ k)) j=if j=k then none else cE l j:=by
 induction l with
 | nil=>simp[cE]
 | cons p r ih =>
  rw[List.filter_cons];by_cases e:p.1=k
  ·rw[if_neg (by simp[e]),ih]
   by_cases e2:j=k
   ·rw[if_pos e2,if_pos e2]
   ·rw[if_neg e2,if_neg e2,cr (fun z=>e2 (z.symm.trans e))]
  ·rw[if_pos (by simp[e])]
   by_cases e2:p.1=j
   ·rw[cA e2,cA e2,if_neg (fun z=>e (e2.trans z))]
   ·rw[cr e2,cr e2,ih]
theorem dn.drop{l:List (Key × α)}(h:dn l)(k:Key):dn (l.filter fun kv=>decide (kv.1 ≠ k)) :=
 ⟨fun p hp=>h.txt p (List.mem_filter.mp hp).1,h.nd.sublist (List.Sublist.map _ (List.filter_sublist))⟩
theorem vd(l:List (Key × α)):∀(m:List (Key × α)) (j:Key),(l.map (·.1)).Nodup->cE (l.foldl (fun m kv=>gu m kv.1 kv.2) m) j=(match cE l j with | some v=>some v | none=>cE m j):=by
 induction l with
 | nil=>intro m j _;rfl
 | cons p r ih =>
  intro m j hn;have hn:(p.1 :: r.map (·.1)).Nodup:=hn;obtain⟨h1,h2⟩:=List.nodup_cons.mp hn;rw[List.foldl_cons,ih _ j h2,vc];by_cases e:p.1=j
  ·have hr:cE r j=none:=by
    cases q:cE r j with
    | none=>rfl
    | some v =>
     exfalso;exact h1 (by rw[e];exact cG.mpr (by rw[q];rfl))
   rw[hr,cA e,if_pos e.symm]
  ·rw[cr e,if_neg (fun z=>e z.symm)]
theorem sO(l:List (Key × α)):∀m:List (Key × α),(∀p ∈ l,∃x:Str,p.1=Sum.inr x)->dn m->dn (l.foldl (fun m kv=>gu m kv.1 kv.2) m):=by
 induction l with
 | nil=>intro m _ h;exact h
 | cons p r ih =>
  intro m hl h;rw[List.foldl_cons];obtain⟨x,e⟩:=hl p List.mem_cons_self;refine ih _ (fun q hq=>hl q (List.mem_cons_of_mem _ hq)) ?_;rw[e];exact h.put x p.2
theorem nY(l:List (Key × α)):∀m:List (Key × α),(l.foldl (fun m kv=>gu m kv.1 kv.2) m).length <= m.length + l.length:=by
 induction l with
 | nil=>intro m;exact Nat.le_refl _
 | cons p r ih =>
  intro m;have:=ih (gu m p.1 p.2);have h2:(gu m p.1 p.2).length <= m.length + 1:=by
   unfold gu;split
   ·rw[length_map];omega
   ·rw[length_append];exact Nat.le_refl _
  simp only[List.foldl_cons,length_cons];omega
theorem qU(f:Str->α):∀(ss:List Str)(x:Str),cE (ss.map fun k=>((Sum.inr k:Key),f k)) (Sum.inr x)=if x ∈ ss then some (f x) else none
 | [],x=>by simp[cE]
 | k :: r,x=>by
  rw[List.map_cons];by_cases e:k=x
  ·subst e;rw[cA (p:=((Sum.inr k:Key),f k)) rfl,if_pos List.mem_cons_self]
  ·rw[cr (p:=((Sum.inr k:Key),f k)) (fun z=>e (Sum.inr.inj z)),qU f r x];by_cases m:x ∈ r
   ·rw[if_pos m,if_pos (List.mem_cons_of_mem _ m)]
   ·rw[if_neg m,if_neg (fun z=>by
     rcases List.mem_cons.mp z with q | q
     ·exact e q.symm
     ·exact m q)]
theorem ve{l:List (Key × α)}(h:dn l){ss:List Str}(hp:ss.Perm (cF l))(f:Str->α)(hf:∀x v,cE l (Sum.inr x)=some v->f x=v) :
  (∀k,cE ((ss.map fun k=>((Sum.inr k:Key),f k)).foldl (fun m kv=>gu m kv.1 kv.2) []) k=cE l k)/\dn ((ss.map fun k=>((Sum.inr k:Key),f k)).foldl (fun m kv=>gu m kv.1 kv.2) []):=by
 have ek:(ss.map fun k=>((Sum.inr k:Key),f k)).map (·.1)=ss.map Sum.inr:=by rw[List.map_map];rfl
 have hn:((ss.map fun k=>((Sum.inr k:Key),f k)).map (·.1)).Nodup:=by
  rw[ek];have h1:=(hp.map (Sum.inr:Str->Key));rw[<- h.keys]at h1;exact h1.nodup_iff.mpr h.nd
 refine⟨fun k=>?_,sO _ _ (fun p hp=>?_) ⟨fun p hp=>(by cases hp),List.nodup_nil⟩⟩
 ·rw[vd _ _ _ hn];cases k with
  | inr x =>
   rw[qU];by_cases m:x ∈ ss
   ·rw[if_pos m];have hm:=cG.mp (h.mem.mp (hp.mem_iff.mp m));obtain⟨v,hv⟩:=Option.isSome_iff_exists.mp hm;rw[hv,hf x v hv]
   ·rw[if_neg m];cases q:cE l (Sum.inr x) with
    | none=>rfl
    | some v=>exact absurd (hp.mem_iff.mpr (h.mem.mpr (cG.mpr (by rw[q];rfl)))) m
  | inl i =>
   have h1:cE (ss.map fun k=>((Sum.inr k:Key),f k)) (Sum.inl i)=none:=by
    cases q:cE (ss.map fun k=>((Sum.inr k:Key),f k)) (Sum.inl i) with
    | none=>rfl
    | some v =>
     have:(Sum.inl i:Key) ∈ (ss.map fun k=>((Sum.inr k:Key),f k)).map (·.1):=cG.mpr (by rw[q];rfl)
     rw[ek]at this;obtain⟨_,_,e⟩:=List.mem_map.mp this;cases e
   have h2:cE l (Sum.inl i)=none:=by
    cases q:cE l (Sum.inl i) with
    | none=>rfl
    | some v =>
     have:(Sum.inl i:Key) ∈ l.map (·.1):=cG.mpr (by rw[q];rfl)
     rw[h.keys]at this;obtain⟨_,_,e⟩:=List.mem_map.mp this;cases e
   rw[h1,h2];rfl
 ·obtain⟨k,_,rfl⟩:=List.mem_map.mp hp;exact⟨k,rfl⟩
end
theorem qV:∀{a b:List Nat},ltCps a b=false->ltCps b a=false->a=b
 | [],[],_,_=>rfl
 | [],_ :: _,h,_=>by simp[ltCps]at h
 | _ :: _,[],_,h=>by simp[ltCps]at h
 | x :: r,y :: t,h1,h2=>by
  simp only[ltCps,Bool.or_eq_false_iff,decide_eq_false_iff_not,Bool.and_eq_false_iff,beq_eq_false_iff_ne]at h1 h2;have e:x=y:=by omega
  subst e;have h3:=h1.2.resolve_left (fun z=>z rfl);have h4:=h2.2.resolve_left (fun z=>z rfl);rw[qV h3 h4]
theorem vf{a b:Str}(h1:leS a b)(h2:leS b a):a=b:=by
 have:=qV (show ltCps b.cps.toList a.cps.toList=false from h1) (show ltCps a.cps.toList b.cps.toList=false from h2);exact PySem.Str.ext' (by rw[<- Array.toArray_toList (xs:=a.cps),<- Array.toArray_toList (xs:=b.cps),this])
theorem jq{ss tt:List Str}(h1:ss.Pairwise leS)(h2:tt.Pairwise leS)(hp:ss.Perm tt):ss=tt :=
 List.Perm.eq_of_pairwise (fun _ _ _ _=>vf) h1 h2 hp
theorem kM{α:Type}{l m:List (Key × α)}(hl:dn l)(hm:dn m)(h:∀k,cE l k=cE m k):(cF l).Perm (cF m):=by
 rw[List.perm_ext_iff_of_nodup hl.nodup hm.nodup];intro x;rw[hl.mem,hm.mem,cG,cG,h]
end KM
namespace K43
open PySem L2
noncomputable def top(i:Nat):Stmt:=PySem.Challenge.pw_chainhouse_k43_cut_at_the_settled_place.main.body.getD i (.Pass ⟨0,0,0,0⟩)
abbrev vg:Stmt:=top 111
abbrev lE:Stmt:=top 113
theorem cm:bootBuiltins "tuple"=some (.type "tuple"):=by decide +kernel
theorem bAbs:bootBuiltins "abs"=some (.builtin "abs"):=by decide +kernel
abbrev ABC:Str:=Str.ofString "abcdefghijklmnopqrstuvwxyz"
noncomputable def okc(c:Nat):Bool:=!(Builtin.Str.occurrences ABC ⟨#[c]⟩ 0 ABC.length 1).isEmpty
structure Nm(x:Str):Prop where
 one:1 <= x.length
 eight:x.length <= 8
 ok:∀c ∈ x.cps.toList,okc c=true
theorem at0{α:Type}{a:α}{r:List α}:atI (a :: r) 0=some a:=bW (j:=0) rfl
theorem at1{α:Type}{a b:α}{r:List α}:atI (a :: b :: r) 1=some b:=bW (j:=1) rfl
theorem pA{α:Type}{xs:List α}{i:Int}(h0:0 <= i)(h1:i < xs.length):∃v,atI xs i=some v/\v ∈ xs:=by
 obtain⟨n,rfl⟩:=Int.eq_ofNat_of_zero_le h0;have hn:n < xs.length:=by lia
 exact⟨xs[n],bW (getElem?_eq_getElem hn),List.getElem_mem hn⟩
theorem atI_map{α β:Type}{f:α->β}{xs:List α}{i:Int}{x:α}(h0:0 <= i)(h:xs[i.toNat]?=some x):atI (xs.map f) i=some (f x):=by
 obtain⟨n,rfl⟩:=Int.eq_ofNat_of_zero_le h0;have h:xs[n]?=some x:=h;exact bW (by rw[getElem?_map,h];rfl)
structure Blm(mg:Str->Option Value):Prop where
 len:mg "len"=none
 range:mg "range"=none
 int:mg "int"=none
def ie(K:Frag):Sp:=fun vs H Q _=>∃(a:Addr)(ns:List Int)(k:Int),vs=[.ref a,.int k]/\SqL K H a (ns.map V.int)/\0 <= k/\∀z:Int,Q (.int z) H
section
variable{P:Program}{w:World}{K:Frag}{mg:Str->Option Value}{base:Heap}
theorem scCell:au ["_law_script","_law_k"] ["_law_script","_law_k"] (am vg):=fsc (by decide +kernel)
theorem ok_cell {f:Addr} {fd:FuncData} (F:Fun K "_law_cell_at" "_law_cell_at" vg f fd) (T:Blm mg):aQ P w K mg base CX0 1 f fd ["_law_script","_law_k"] (ie K):=by
 refine F.ok scCell (fun vs H Q E h=>?_) (fun cdv A outer s H vs Q E hr h=>?_)
 ·obtain⟨a,ns,k,rfl,_⟩:=h;rfl
 ·obtain⟨a,ns,k,rfl,hS,h0,q⟩:=h;refine⟨_,ae (aX (aH fj (pv 1) (az aL (by rfl) T.len PySem.boot_len (ad (pv 0) ag)) (aG _)) (aj (ax (ar bc (pv 0) (pv 1) (fun _ _=>rfl)))) aK)
   (aj (ax af)),?_⟩
  dsimp only[bv,Cx.nox];refine⟨_,rfl,_,rfl,a,_,rfl,.inl hS,_,_,rfl,rfl,_,rfl,?_⟩;refine bN (fun h=>?_) (fun _=>q 0);have h:=of_decide_eq_true h;rw[length_map]at h;have hk:k.toNat < ns.length:=by lia
  exact⟨_,rfl,_,rfl,ex4 a _ k _ ⟨rfl,rfl,hS,atI_map h0 (getElem?_eq_getElem hk),q _⟩⟩
end
end K43
namespace K43T
open PySem L2 KM
abbrev top:=K43.top
theorem bDict:bootBuiltins "dict"=some (.type "dict"):=by decide +kernel
theorem cm:bootBuiltins "tuple"=some (.type "tuple"):=by decide +kernel
theorem iT:bootBuiltins "sorted"=some (.builtin "sorted"):=by decide +kernel
theorem dne1:¬(V.str "add"=V.str "put"):=by decide +kernel
theorem gf{X:Cx}{scope:Scope}{cl:List (Str × Addr)}{N2 ys:List Str}{C:Addr}{s:Shared}{H:Hp}{fp:List Addr}:IxR (cxC X scope cl N2 ys C s H fp) (rIxT X.K):=ao
structure Blt(mg:Str->Option Value):Prop where
 tuple:mg "tuple"=none
 dict:mg "dict"=none
 sorted:mg "sorted"=none
inductive Wk where
 | put (k:Str) (n:Int) | add (k:Str) (n:Int) | drop (k:Str)
noncomputable def Wk.key:Wk->Str
 | .put k _=>k | .add k _=>k | .drop k=>k
noncomputable def Wk.vs:Wk->List V
 | .put k n=>[.str "put",.str k,.int n]
 | .add k n=>[.str "add",.str k,.int n]
 | .drop k=>[.str "drop",.str k]
abbrev Kvs:=List (Key × V)
def lF(kvs:Kvs):Prop:=∀k v,bK kvs k=some v->∃i:Int,v=.int i
noncomputable def num(kvs:Kvs)(k:Str):Int:=match bK kvs (Sum.inr k) with
 | some (.int i)=>i
 | _=>0
noncomputable def Wk.to(kvs:Kvs):Wk->Kvs
 | .put k n=>ck kvs (Sum.inr k) (.int n)
 | .add k n=>ck kvs (Sum.inr k) (.int (num kvs k + n))
 | .drop k=>dR kvs (Sum.inr k)
noncomputable def Wk.ans(kvs:Kvs):Wk->V
 | .put k _=>(bK kvs (Sum.inr k)).getD .non
 | .add k n=>.int (num kvs k + n)
 | .drop k=>(bK kvs (Sum.inr k)).getD .non
theorem sP{kvs:Kvs}{k j:Key}{v:V}(h:bK (dR kvs k) j=some v):bK kvs j=some v:=by
 induction kvs with
 | nil=>exact h
 | cons p r ih =>
  by_cases e:p.1=k
  ·rw[kA e]at h;have h':=ih h;by_cases e2:p.1=j
   ·exfalso;have:k=j:=e.symm.trans e2;subst this;have hk:∀(l:Kvs),bK (dR l k) k=none:=by
     intro l;induction l with
     | nil=>rfl
     | cons q l ihl =>
      by_cases eq:q.1=k
      ·rw[kA eq];exact ihl
      ·rw[ia eq,cc eq];exact ihl
    rw[hk r]at h;cases h
   ·rw[cc e2];exact h'
  ·rw[ia e]at h;by_cases e2:p.1=j
   ·rw[cw e2]at h ⊢;exact h
   ·rw[cc e2]at h ⊢;exact ih h
theorem lF.to{kvs:Kvs}(h:lF kvs)(x:Wk):lF (x.to kvs):=by
 intro k v e;cases x with
 | put a n =>
  rw[show Wk.to kvs (.put a n)=ck kvs (Sum.inr a) (.int n) from rfl,dS]at e;split at e
  ·cases e;exact⟨_,rfl⟩
  ·exact h k v e
 | add a n =>
  rw[show Wk.to kvs (.add a n)=ck kvs (Sum.inr a) (.int (num kvs a + n)) from rfl,dS]at e;split at e
  ·cases e;exact⟨_,rfl⟩
  ·exact h k v e
 | drop a=>exact h k v (sP e)
theorem to_len(kvs:Kvs)(x:Wk):(x.to kvs).length <= kvs.length + 1:=by
 cases x with
 | put a n=>exact dU _ _ _
 | add a n=>exact dU _ _ _
 | drop a=>exact Nat.le_trans (List.length_filter_le _ _) (Nat.le_succ _)
theorem lF.ans{kvs:Kvs}(h:lF kvs)(x:Wk):x.ans kvs=.non\/∃i:Int,x.ans kvs=.int i:=by
 have key:∀a:Str,(bK kvs (Sum.inr a)).getD .non=.non\/∃i:Int,(bK kvs (Sum.inr a)).getD .non=.int i:=fun a=>by
  cases e:bK kvs (Sum.inr a:Key) with
  | none=>exact .inl rfl
  | some v =>
   obtain⟨i,rfl⟩:=h _ _ e;exact .inr ⟨i,rfl⟩
 cases x with
 | put a n=>exact key a
 | add a n=>exact .inr ⟨_,rfl⟩
 | drop a=>exact key a
theorem num_get{kvs:Kvs}(h:lF kvs)(k:Str):(bK kvs (Sum.inr k)).getD (.int 0)=.int (num kvs k):=by
 unfold num;cases e:bK kvs (Sum.inr k:Key) with
 | none=>rfl
 | some v =>
  obtain⟨i,rfl⟩:=h _ _ e;rfl
def But(d:Addr)(H H':Hp):Prop:=∀b o,H b=some o->b ≠ d->H' b=some o
abbrev kN:Stmt:=aP (top 89) 0
abbrev vh:Stmt:=aP (top 89) 1
abbrev vi:Stmt:=aP (top 89) 2
abbrev pB:Stmt:=aP (top 89) 3
abbrev vj:Stmt:=aP (top 89) 4
theorem ne_hl:¬(("held":Str)="lasts"):=by decide +kernel
noncomputable def dB (d l:Addr):List (Str × V):=aM "lasts" (.ref l) (aM "held" (.ref d) [])
theorem fM (d l:Addr):(dB d l).lookup ("held":Str)=some (.ref d):=by
 unfold dB;rw[cO,if_neg ne_hl,cO,if_pos rfl]
theorem fN (d l:Addr):(dB d l).lookup ("lasts":Str)=some (.ref l):=by
 unfold dB;rw[cO,if_pos rfl]
theorem lG (d l:Addr) {m:Str} (h1:¬m="lasts") (h2:¬m="held"):(dB d l).lookup m=none:=by
 unfold dB;rw[cO,if_neg h1,cO,if_neg h2]
 all_goals rfl
abbrev Las:=List (Key × (Int × V))
noncomputable def dC(las:Las)(k:Key):Option (Int × V):=(las.find? fun kv=>decide (kv.1=k)).map (·.2)
noncomputable def gG(las:Las)(k:Key)(q:Int × V):Las:=if (las.any fun kv=>decide (kv.1=k))=true then las.map (fun kv=>if kv.1=k then (kv.1,q) else kv) else las ++ [(k,q)]
theorem da{p:Key × (Int × V)}{r:Las}{k:Key}(e:p.1=k):dC (p :: r) k=some p.2:=by simp[dC,List.find?_cons,e]
theorem db{p:Key × (Int × V)}{r:Las}{k:Key}(e:¬p.1=k):dC (p :: r) k=dC r k:=by simp[dC,List.find?_cons,e]
theorem jr(k:Key):∀las:Las,(las.any fun kv=>decide (kv.1=k))=(dC las k).isSome
 | []=>rfl
 | p :: r=>by
  rw[List.any_cons];by_cases e:p.1=k
  ·simp only[da e,decide_eq_true e,Bool.true_or,Option.isSome_some]
  ·rw[db e,decide_eq_false e,Bool.false_or];exact jr k r
theorem nZ(k j:Key)(y:Int × V):∀las:Las,dC (las.map fun kv=>if kv.1=k then (kv.1,y) else kv) j=(dC las j).map fun x=>if j=k then y else x
 | []=>rfl
 | p :: r=>by
  have ih:=nZ k j y r;rw[List.map_cons];by_cases h:p.1=k
  ·rw[if_pos h];by_cases e:p.1=j
   ·rw[da (p:=(p.1,y)) e,da e,Option.map_some,if_pos (e.symm.trans h)]
   ·rw[db (p:=(p.1,y)) e,db e,ih]
  ·rw[if_neg h];by_cases e:p.1=j
   ·rw[da (p:=p) e,da e,Option.map_some,if_neg (fun z=>h (e.trans z))]
   ·rw[db (p:=p) e,db e,ih]
theorem kO(k j:Key)(y:Int × V):∀las:Las,dC las k=none->dC (las ++ [(k,y)]) j=if j=k then some y else dC las j
 | [],_=>by
  by_cases e:k=j
  ·rw[if_pos e.symm];exact da (p:=(k,y)) e
  ·rw[if_neg (fun z=>e z.symm)];exact db (p:=(k,y)) e
 | p :: r,hn=>by
  rw[List.cons_append];have hk:¬p.1=k:=fun z=>by rw[da z]at hn;cases hn
  rw[db hk]at hn;have ih:=kO k j y r hn;by_cases e:p.1=j
  ·rw[da e,da e,if_neg (fun z=>hk (e.trans z))]
  ·rw[db e,db e,ih]
theorem js(las:Las)(k j:Key)(y:Int × V):dC (gG las k y) j=if j=k then some y else dC las j:=by
 unfold gG;by_cases a:(las.any fun kv=>decide (kv.1=k))=true
 ·rw[if_pos a,nZ];rw[jr]at a;by_cases e:j=k
  ·obtain⟨x,hx⟩:=Option.isSome_iff_exists.mp a;rw[if_pos e,e,hx,Option.map_some,if_pos rfl]
  ·rw[if_neg e];cases dC las j with
   | none=>rfl
   | some x=>rw[Option.map_some,if_neg e]
 ·rw[if_neg a];refine kO k j y las ?_;rw[jr]at a;cases q:dC las k with
  | none=>rfl
  | some x=>rw[q]at a;exact(a rfl).elim
theorem og(las:Las)(k:Key)(y:Int × V):(gG las k y).length <= las.length + 1:=by
 unfold gG;split
 ·rw[length_map];lia
 ·rw[length_append];exact Nat.le_refl _
def LRel(K:Frag)(H:Hp)(p:Key × V)(q:Key × (Int × V)):Prop:=p.1=q.1/\∃t,p.2=.ref t/\SqT K H t [.int q.2.1,q.2.2]
abbrev LR(K:Frag)(H:Hp):Kvs->Las->Prop:=Paired (LRel K H)
theorem LR.mono{K:Frag}{H H':Hp}{lk:Kvs}{las:Las}(r:LR K H lk las)(h:∀t xs,SqT K H t xs->SqT K H' t xs):LR K H' lk las :=
 Paired.mapP r fun p q ⟨e,t,e2,s⟩=>⟨e,t,e2,h _ _ s⟩
theorem LR.val{K:Frag}{H:Hp}{lk:Kvs}{las:Las}(r:LR K H lk las)(k:Key):(bK lk k=none/\dC las k=none)\/∃t q,bK lk k=some (.ref t)/\dC las k=some q/\SqT K H t [.int q.1,q.2]:=by
 induction r with
 | nil=>exact .inl ⟨rfl,rfl⟩
 | @cons p q ps qs h t ih =>
  obtain⟨h1,tt,h2,h3⟩:=h;by_cases e:p.1=k
  ·exact .inr ⟨tt,q.2,by rw[cw e,h2],da (h1.symm.trans e),h3⟩
  ·rw[cc e,db (fun z=>e (h1.trans z))];exact ih
theorem LR.any{K:Frag}{H:Hp}{lk:Kvs}{las:Las}(r:LR K H lk las)(k:Key):(lk.any fun kv=>decide (kv.1=k))=las.any fun kv=>decide (kv.1=k):=by
 induction r with
 | nil=>rfl
 | cons h t ih=>rw[List.any_cons,List.any_cons,ih,h.1]
theorem LR.put{K:Frag}{H:Hp}{lk:Kvs}{las:Las}(r:LR K H lk las)(k:Key){t:Addr}{n:Int}{a:V}(s:SqT K H t [.int n,a]):LR K H (ck lk k (.ref t)) (gG las k (n,a)):=by
 unfold ck gG;rw[r.any k];by_cases e:(las.any fun kv=>decide (kv.1=k))=true
 ·rw[if_pos e,if_pos e];clear e;induction r with
  | nil=>exact .nil
  | @cons p q ps qs h t ih =>
   rw[List.map_cons,List.map_cons];refine .cons ?_ ih;obtain⟨h1,tt,h2,h3⟩:=h;by_cases e:p.1=k
   ·rw[if_pos e,if_pos (h1.symm.trans e)];exact⟨h1,_,rfl,s⟩
   ·rw[if_neg e,if_neg (fun z=>e (h1.trans z))];exact⟨h1,tt,h2,h3⟩
 ·rw[if_neg e,if_neg e];exact PySem.Paired.snoc r ⟨rfl,_,rfl,s⟩
theorem LR.len{K:Frag}{H:Hp}{lk:Kvs}{las:Las}(r:LR K H lk las):lk.length=las.length:=Paired.length r
theorem SqT.but{K:Frag}{H H':Hp}{d t:Addr}{m:Kvs}{xs:List V}(e:But d H H')(hd:H d=some (.dK m))(h:SqT K H t xs):SqT K H' t xs:=by
 rcases h with (h | ⟨o',h⟩) | h
 ·exact .inl (.inl (e _ _ h (aN h hd (by intro z;cases z))))
 ·exact .inl (.inr ⟨o',e _ _ h (aN h hd (by intro z;cases z))⟩)
 ·exact .inr h
theorem SqT.same{K:Frag}{H H':Hp}{t:Addr}{xs:List V}(e:aq H H')(h:SqT K H t xs):SqT K H' t xs:=by
 rcases h with (h | ⟨o',h⟩) | h
 ·exact .inl (.inl (e _ _ h))
 ·exact .inl (.inr ⟨o',e _ _ h⟩)
 ·exact .inr h
noncomputable def lastN(las:Las)(x:Str):Int:=match dC las (Sum.inr x) with
 | some q=>q.1
 | none=>0
noncomputable def lastA(las:Las)(x:Str):V:=match dC las (Sum.inr x) with
 | some q=>q.2
 | none=>.non
structure aS(K:Frag)(C:Addr)(H:Hp)(T d l:Addr)(kvs:Kvs)(las:Las):Prop where
 ob:∃dx,H T=some (.ins C dx (dB d l))
 hd:H d=some (.dK kvs)
 hl:∃lk,H l=some (.dK lk)/\LR K H lk las
 ne:d ≠ l
structure Cl(K:Frag)(mg:Str->Option Value)(C:Addr):Prop where
 cl:Cls K C
 nH:bF K C "held"
 nL:bF K C "lasts"
 mgC:mg "Table"=some (.ref C)
def lH(K:Frag)(C:Addr):Sp:=fun vs H Q _=>∃(T d l:Addr)(kvs:Kvs)(las:Las)(k:Str),vs=[.ref T,.str k]/\aS K C H T d l kvs las/\Q ((bK kvs (Sum.inr k)).getD .non) H
def pC(K:Frag)(C:Addr):Sp:=fun vs H Q _=>∃(T d l:Addr)(kvs:Kvs)(las:Las)(x:Str),vs=[.ref T,.str x]/\aS K C H T d l kvs las/\Q (.int (lastN las x)) H
def pD(K:Frag)(C:Addr):Sp:=fun vs H Q _=>∃(T d l t:Addr)(kvs:Kvs)(las:Las)(x:Wk),vs=[.ref T,.ref t]/\aS K C H T d l kvs las/\kvs.length <= 1000/\lF kvs/\SqT K H t x.vs /\
 ∀H',But d H H'->H' d=some (.dK (x.to kvs))->Q (x.ans kvs) H'
noncomputable def tagR (las:Las) (x:Str) (n:Int):V:=if n < lastN las x then .str "old" else if n=lastN las x then .str "again" else .str "done"
noncomputable def ansR(kvs:Kvs)(las:Las)(x:Str)(n:Int)(wk:Wk):V:=if n < lastN las x then .non else if n=lastN las x then lastA las x else wk.ans kvs
noncomputable def cu(kvs:Kvs)(las:Las)(x:Str)(n:Int)(wk:Wk):Kvs:=if n < lastN las x then kvs else if n=lastN las x then kvs else wk.to kvs
noncomputable def dF(kvs:Kvs)(las:Las)(x:Str)(n:Int)(wk:Wk):Las:=if n < lastN las x then las else if n=lastN las x then las else gG las (Sum.inr x) (n,wk.ans kvs)
def cH(d l:Addr)(H H':Hp):Prop:=∀b o,H b=some o->b ≠ d->b ≠ l->H' b=some o
def pE(K:Frag)(C:Addr):Sp:=fun vs H Q _=>∃(T d l t:Addr)(kvs:Kvs)(las:Las)(x:Str)(n:Int)(wk:Wk),vs=[.ref T,.str x,.int n,.ref t]/\aS K C H T d l kvs las/\kvs.length <= 1000/\las.length <= 1000/\lF kvs/\1 <= n/\SqT K H t wk.vs /\
 ∀(r:Addr)(H':Hp),H r=none->H' r=some (.tup [tagR las x n,ansR kvs las x n wk])->aS K C H' T d l (cu kvs las x n wk) (dF kvs las x n wk)->cH d l H H'->Q (.ref r) H'
section
variable{P:Program}{w:World}{K:Frag}{mg:Str->Option Value}{base:Heap}
theorem scHolds:au ["self","key"] ["self","key"] (am pB):=fsc (by decide +kernel)
theorem vk {f C:Addr} {fd:FuncData} (F:Fun K "holds" "Table.holds" pB f fd) (T:Cl K mg C):aQ P w K mg base CX0 1 f fd ["self","key"] (lH K C):=by
 refine F.ok scHolds (fun vs H Q E h=>?_) (fun cdv A outer s H vs Q E hr h=>?_)
 ·obtain⟨T',d,l,kvs,las,k,rfl,_⟩:=h;rfl
 ·obtain⟨T',d,l,kvs,las,k,rfl,S,q⟩:=h;have hu:=iB hr;obtain⟨⟨dx,h1⟩,hd,hl,hne⟩:=id S;refine⟨_,aj (ax (nF hu (aD (pv 0) rfl) (pv 1) ⟨rfl,rfl,rfl,rfl⟩)),?_⟩;dsimp only[bv,Cx.nox];exact⟨_,rfl,ex5 T' C dx _ _ ⟨rfl,h1,T.cl,T.nH,fM _ _,d,rfl,.inl ⟨kvs,.inl hd⟩,_,rfl,_,cY.k (k:=Sum.inr k) hd,q⟩⟩
theorem scLast:au ["self","asker"] ["self","asker"] (am vj):=fsc (by decide +kernel)
theorem ok_last {f C:Addr} {fd:FuncData} (F:Fun K "last_of" "Table.last_of" vj f fd) (T:Cl K mg C):aQ P w K mg base CX0 1 f fd ["self","asker"] (pC K C):=by
 refine F.ok scLast (fun vs H Q E h=>?_) (fun cdv A outer s H vs Q E hr h=>?_)
 ·obtain⟨T',d,l,kvs,las,k,rfl,_⟩:=h;rfl
 ·obtain⟨T',d,l,kvs,las,x,rfl,S,q⟩:=h;have hu:=iB hr;obtain⟨⟨dx,h1⟩,hd,⟨lk,hl,lr⟩,hne⟩:=id S;refine⟨_,ae (aX (lj (rW hu (pv 1) (aD (pv 0) rfl))) (aj (ax af)) aK)
   (aj (ax (ar ao (dM hu (aD (pv 0) rfl) (pv 1) (fun _ _=>rfl)) af (fun _ _=>rfl)))),?_⟩
  dsimp only[bv,Cx.nox];refine ah fun K_ hK_=>?_;refine(rd2 rfl rfl (ex5 T' C dx _ _ ⟨rfl,h1,T.cl,T.nL,fN _ _,l,_,rfl,cY.k (k:=Sum.inr x) hl,_,rfl,?_⟩));rcases lr.val (Sum.inr x) with ⟨e1,e2⟩ | ⟨t,q',e1,e2,e3⟩
  ·rw[e1];refine bJ ?_;unfold lastN at q;rw[e2]at q;exact q
  ·rw[e1];refine aY ?_;unfold lastN at q;refine hK_ _ _ ?_;rw[e2]at q;refine⟨_,rfl,ex5 T' C dx _ _ ⟨rfl,h1,T.cl,T.nL,fN _ _,_,rfl,l,V.ref t,rfl,?_,ex4 t _ _ _ ⟨rfl,rfl,e3,rfl,q⟩⟩⟩;have:=cY.k (H:=H) (a:=l) (k:=Sum.inr x) hl;rw[e1]at this;exact this
abbrev nDone:List Str:=["self","work","key","before"]
theorem vm:au nDone ["self","work"] (am vi):=fsc (by decide +kernel)
theorem dne4:¬(V.str "put"=V.str "drop"):=by decide +kernel
theorem dne5:¬(V.str "add"=V.str "drop"):=by decide +kernel
theorem ok_done {f C fH:Addr} {fd fdH:FuncData} (F:Fun K "work_done" "Table.work_done" vi f fd) (T:Cl K mg C) (GH:aQ P w K mg base CX0 1 fH fdH ["self","key"] (lH K C)) (bH:ej K fdH ["self","key"] []) (mH:oT K C "holds" fH) :
  aQ P w K mg base CX0 2 f fd ["self","work"] (pD K C):=by
 refine F.ok vm (fun vs H Q E h=>?_) (fun cdv A outer s H vs Q E hr h=>?_)
 ·obtain⟨T',d,l,t,kvs,las,x,rfl,_⟩:=h;rfl
 ·obtain⟨T',d,l,t,kvs,las,x,rfl,S,hlen,hI,hT,q⟩:=h;have hu:=iB hr;have nd:=vm.nd;obtain⟨⟨dx,h1⟩,hd,_,hne⟩:=id S;refine⟨_,ae (aC (i:=2) nd rfl (Or.inl rfl) (ar ao (pv 1) af (fun _ _=>rfl)))
   (ae (aC (i:=3) nd rfl (Or.inl rfl) (iM (pv 0) T.cl mH GH hr bH .nil jj (ad (pv 2) ag)))
   (ae (aX (aH cj (ar ao (pv 1) af (fun _ _=>rfl)) aU (aG _))
    (ae (bG (nI (aD (pv 0) rfl) (pv 2) cU ⟨rfl,rfl,rfl,rfl⟩)) (aj (ax (pv 3)))) aK)
   (ae (aX (aH cj (ar ao (pv 1) af (fun _ _=>rfl)) aU (aG _))
    (ae (eJ hu (aD (pv 0) rfl) (pv 2) (ar ao (pv 1) af (fun _ _=>rfl)) rfl) (aj (ax (pv 3)))) aK)
   (ae (eJ hu (aD (pv 0) rfl) (pv 2) (aE bn (nG hu (aD (pv 0) rfl) (pv 2) af ⟨rfl,rfl,rfl,rfl⟩) (ar ao (pv 1) af (fun _ _=>rfl))) rfl)
   (aj (ax (dM hu (aD (pv 0) rfl) (pv 2) (fun _ _=>rfl)))))))),?_⟩
  dsimp only[bv,Cx.nox];have isd:IsD H d:=.inl ⟨kvs,.inl hd⟩;have but:∀(m:Kvs),But d H (upd H d (.dK m)):=fun m b o e hb=>by rw[aw hb];exact e
  have a1:atI x.vs (1:Int)=some (.str x.key):=by cases x <;> rfl
  have nTd:T' ≠ d:=aN h1 hd (by intro z;cases z)
  refine ah fun K_ hK_=>?_;refine⟨_,rfl,ex4 t _ _ _ ⟨rfl,rfl,hT,a1,?_⟩⟩;refine hK_ _ _ (ah fun K_ hK_=>?_);refine⟨_,rfl,ex3 T' dx _ ⟨rfl,h1,lG _ _ (by decide +kernel) (by decide +kernel),_,rfl,T',d,l,kvs,las,x.key,rfl,S,?_⟩⟩
  refine hK_ _ _ (ah fun K_ hK_=>?_);cases x with
  | drop a =>
   refine⟨_,rfl,ex4 t _ _ _ ⟨rfl,rfl,hT,rfl,rfl,_,rfl,?_⟩⟩;refine bN (fun _=>?_) (fun z=>absurd (decide_eq_true rfl) z);refine ah fun K_ hK_=>?_;refine⟨_,rfl,ex5 T' C dx _ _ ⟨rfl,h1,T.cl,T.nH,fM _ _,d,rfl,isd,_,rfl,kvs,Sum.inr a,hd,rfl,fun v e=>?_,fun e=>?_⟩⟩
   ·exact hK_ _ _ ⟨_,rfl,q _ (but _) ai⟩
   ·have e3:Wk.to kvs (.drop a)=kvs:=jk (nN e);exact hK_ _ _ ⟨_,rfl,q H (fun b o h _=>h) (by rw[e3];exact hd)⟩
  | put a n =>
   refine⟨_,rfl,ex4 t _ _ _ ⟨rfl,rfl,hT,rfl,rfl,_,rfl,?_⟩⟩;refine bN (fun z=>absurd (of_decide_eq_true z) dne4) (fun _=>?_);refine hK_ _ _ (ah fun K_ hK_=>?_);refine⟨_,rfl,ex4 t _ _ _ ⟨rfl,rfl,hT,rfl,rfl,_,rfl,?_⟩⟩;refine bN (fun _=>?_) (fun z=>absurd (decide_eq_true rfl) z);refine ah fun K_ hK_=>?_;refine⟨_,rfl,ex4 t _ _ _ ⟨rfl,rfl,hT,rfl,_,rfl,ex5 T' C dx _ _ ⟨rfl,h1,T.cl,T.nH,fM _ _,_,rfl,d,_,rfl,gq.k (k:=Sum.inr a) hd (bO hlen),?_⟩⟩⟩;exact hK_ _ _ ⟨_,rfl,q _ (but _) ai⟩
  | add a n =>
   refine⟨_,rfl,ex4 t _ _ _ ⟨rfl,rfl,hT,rfl,rfl,_,rfl,?_⟩⟩;refine bN (fun z=>absurd (of_decide_eq_true z) dne5) (fun _=>?_);refine hK_ _ _ (ah fun K_ hK_=>?_);refine⟨_,rfl,ex4 t _ _ _ ⟨rfl,rfl,hT,rfl,rfl,_,rfl,?_⟩⟩;refine bN (fun z=>absurd (of_decide_eq_true z) dne1) (fun _=>?_);refine hK_ _ _ (ah fun K_ hK_=>?_);refine⟨_,rfl,ex5 T' C dx _ _ ⟨rfl,h1,T.cl,T.nH,fM _ _,d,rfl,isd,_,rfl,_,cY.k (k:=Sum.inr a) hd,_,rfl,ex4 t _ _ _ ⟨rfl,rfl,hT,rfl,?_⟩⟩⟩;refine⟨_,_,num_get hI a,rfl,?_⟩;refine⟨_,rfl,ex5 T' C dx _ _ ⟨rfl,h1,T.cl,T.nH,fM _ _,_,rfl,d,_,rfl,gq.k (k:=Sum.inr a) hd (bO hlen),?_⟩⟩;have h1':(upd H d (.dK (ck kvs (Sum.inr a) (.int (num kvs a + n))))) T'=some (.ins C dx (dB d l)):=by rw[aw nTd];exact h1
   refine hK_ _ _ ?_;refine⟨_,rfl,ex5 T' C dx _ _ ⟨rfl,h1',T.cl,T.nH,fM _ _,_,rfl,d,V.int (num kvs a + n),rfl,?_,q _ (but _) ai⟩⟩;have:=cY.k (H:=upd H d (.dK (ck kvs (Sum.inr a) (.int (num kvs a + n))))) (k:=Sum.inr a) ai;rw[dS,if_pos rfl]at this;exact this
noncomputable abbrev nDoes:List Str:=["self","asker","number","work","last","answer"]
theorem vn:au nDoes ["self","asker","number","work"] (am vh):=fsc (by decide +kernel)
theorem ok_does {f C fL fD:Addr} {fd fdL fdD:FuncData} (F:Fun K "does" "Table.does" vh f fd) (T:Cl K mg C) (GL:aQ P w K mg base CX0 1 fL fdL ["self","asker"] (pC K C)) (bL:ej K fdL ["self","asker"] []) (mL:oT K C "last_of" fL)
  (GD:aQ P w K mg base CX0 2 fD fdD ["self","work"] (pD K C)) (bD:ej K fdD ["self","work"] []) (mD:oT K C "work_done" fD) :
  aQ P w K mg base CX0 3 f fd ["self","asker","number","work"] (pE K C):=by
 refine F.ok vn (fun vs H Q E h=>?_) (fun cdv A outer s H vs Q E hr h=>?_)
 ·obtain⟨T',d,l,t,kvs,las,x,n,wk,rfl,_⟩:=h;rfl
 ·obtain⟨T',d,l,t,kvs,las,x,n,wk,rfl,S,hlen,hll,hI,hn,hT,q⟩:=h;have hu:=iB hr;have hr1:bj 1 _:=hr.mono (by decide)
  have nd:=vn.nd;obtain⟨⟨dx,h1⟩,hd,⟨lk,hl,lr⟩,hne⟩:=id S;refine⟨_,ae (aC (i:=4) nd rfl (Or.inl rfl) (iM (pv 0) T.cl mL GL hr1 bL .nil jj (ad (pv 1) ag)))
   (ae (aX (aH fj (pv 2) (pv 4) (aG _)) (aj (ax (dZ (ad aU (ad cU ag))))) aK)
   (ae (aX (aH cj (pv 2) (pv 4) (aG _)) (aj (ax (dZ (ad aU (ad (ar ao (dM hu (aD (pv 0) rfl) (pv 1) (fun _ _=>rfl)) af (fun _ _=>rfl)) ag))))) aK)
   (ae (aC (i:=5) nd rfl (Or.inl rfl) (iM (pv 0) T.cl mD GD hr bD .nil jj (ad (pv 3) ag)))
   (ae (eJ hu (aD (pv 0) rfl) (pv 1) (dZ (ad (pv 2) (ad (pv 5) ag))) rfl)
   (aj (ax (dZ (ad aU (ad (pv 5) ag))))))))),?_⟩
  dsimp only[bv,Cx.nox];have nl1:(dB d l).lookup ("last_of":Str)=none:=lG _ _ (by decide +kernel) (by decide +kernel)
  have nl2:(dB d l).lookup ("work_done":Str)=none:=lG _ _ (by decide +kernel) (by decide +kernel)
  refine ah fun K_ hK_=>?_;refine⟨_,rfl,ex3 T' dx _ ⟨rfl,h1,nl1,_,rfl,ex6 T' d l kvs las x ⟨rfl,S,?_⟩⟩⟩;refine hK_ _ _ (ah fun K_ hK_=>?_);refine(eA rfl rfl rfl rfl ⟨_,rfl,?_⟩);have stay:∀(r:Addr)(o:HO),H r=none->aS K C (upd H r o) T' d l kvs las:=fun r o hr' =>
   ⟨⟨dx,(aq.new hr') _ _ h1⟩,(aq.new hr') _ _ hd,⟨lk,(aq.new hr') _ _ hl,lr.mono fun t xs=>SqT.same (.new hr')⟩,hne⟩
  refine bN (fun c1=>?_) (fun c1=>?_)
  ·have c1:n < lastN las x:=of_decide_eq_true c1;refine⟨(by show 2 <= sizeLine;decide),fun r hr'=>?_⟩
   have:=q r (upd H r (.tup [V.str "old",V.non])) hr';unfold tagR ansR cu dF at this;rw[if_pos c1,if_pos c1,if_pos c1,if_pos c1]at this;exact this ai (stay r _ hr') (fun b o e _ _=>(aq.new hr') b o e)
  ·have c1:¬n < lastN las x:=fun z=>c1 (decide_eq_true z);refine hK_ _ _ (ah fun K_ hK_=>?_);refine(rd2 rfl rfl ⟨rfl,_,rfl,?_⟩);refine bN (fun c2=>?_) (fun c2=>?_)
   ·have c2:n=lastN las x:=V.int.inj (of_decide_eq_true c2);rcases lr.val (Sum.inr x) with ⟨e1,e2⟩ | ⟨tt,q',e1,e2,e3⟩
    ·exfalso;unfold lastN at c2;rw[e2]at c2;dsimp only at c2;lia
    ·have hA:lastA las x=q'.2:=by unfold lastA;rw[e2]
     refine⟨_,rfl,ex5 T' C dx _ _ ⟨rfl,h1,T.cl,T.nL,fN _ _,_,rfl,l,V.ref tt,rfl,?_,ex4 tt _ _ _ ⟨rfl,rfl,e3,rfl,?_⟩⟩⟩
     ·have:=cY.k (H:=H) (a:=l) (k:=Sum.inr x) hl;rw[e1]at this;exact this
     refine⟨(by show 2 <= sizeLine;decide),fun r hr'=>?_⟩
     have:=q r (upd H r (.tup [V.str "again",q'.2])) hr';unfold tagR ansR cu dF at this;rw[if_neg c1,if_pos c2,if_neg c1,if_pos c2,if_neg c1,if_pos c2,if_neg c1,if_pos c2,hA]at this;exact this ai (stay r _ hr') (fun b o e _ _=>(aq.new hr') b o e)
   ·have c2:¬n=lastN las x:=fun z=>c2 (decide_eq_true (congrArg V.int z));refine hK_ _ _ (ah fun K_ hK_=>?_);refine⟨_,rfl,ex3 T' dx _ ⟨rfl,h1,nl2,_,rfl,ex7 T' d l t kvs las wk ⟨rfl,S,hlen,hI,hT,fun H1 bt hd1=>?_⟩⟩⟩;have nTd:T' ≠ d:=aN h1 hd (by intro z;cases z)
    have nTl:T' ≠ l:=aN h1 hl (by intro z;cases z)
    have h11:H1 T'=some (.ins C dx (dB d l)):=bt _ _ h1 nTd;have hl1:H1 l=some (.dK lk):=bt _ _ hl hne.symm;have lr1:LR K H1 lk las:=lr.mono fun t xs=>SqT.but bt hd;refine hK_ _ _ (ah fun K_ hK_=>?_);refine(rd2 rfl rfl ⟨(by show 2 <= sizeLine;decide),fun t2 ht2=>?_⟩)
    have h12:=(aq.new (o:=.tup [V.int n,wk.ans kvs]) ht2) _ _ h11;have hl2:=(aq.new (o:=.tup [V.int n,wk.ans kvs]) ht2) _ _ hl1;have hd2:=(aq.new (o:=.tup [V.int n,wk.ans kvs]) ht2) _ _ hd1;refine⟨_,rfl,ex5 T' C dx _ _ ⟨rfl,h12,T.cl,T.nL,fN _ _,_,rfl,l,_,rfl,gq.k (k:=Sum.inr x) hl2 (bO (by rw[lr.len];exact hll)),?_⟩⟩
    refine hK_ _ _ ?_;refine⟨_,rfl,(by show 2 <= sizeLine;decide),fun r hr'=>?_⟩
    have lr2:LR K (upd (upd H1 t2 (.tup [V.int n,wk.ans kvs])) l (.dK (ck lk (Sum.inr x) (.ref t2)))) (ck lk (Sum.inr x) (.ref t2)) (gG las (Sum.inr x) (n,wk.ans kvs)):=by
     refine LR.put (lr1.mono fun t xs e=>(SqT.same (.new ht2) e).upd hl2) (Sum.inr x) (SqT.upd (SqT.of ai) hl2)
    have hrH:H r=none:=by
     cases e:H r with
     | none=>rfl
     | some o =>
      exfalso;have ntl:l ≠ r:=by
       rintro rfl;rw[ai]at hr';cases hr'
      have ntd:d ≠ r:=by
       rintro rfl;rw[aw hne,hd2]at hr';cases hr'
      have:upd (upd H1 t2 (.tup [V.int n,wk.ans kvs])) l (.dK (ck lk (Sum.inr x) (.ref t2))) r=some o:=by
       rw[aw ntl.symm];exact(aq.new ht2) _ _ (bt _ _ e ntd.symm)
      rw[this]at hr';cases hr'
    have:=q r (upd (upd (upd H1 t2 (.tup [V.int n,wk.ans kvs])) l (.dK (ck lk (Sum.inr x) (.ref t2)))) r (.tup [V.str "done",wk.ans kvs])) hrH;unfold tagR ansR cu dF at this;rw[if_neg c1,if_neg c2,if_neg c1,if_neg c2,if_neg c1,if_neg c2,if_neg c1,if_neg c2]at this;refine this ai ⟨⟨dx,?_⟩,?_,⟨ck lk (Sum.inr x) (.ref t2),?_,lr2.mono fun t xs=>SqT.same (.new hr')⟩,hne⟩ (fun b o e nb1 nb2=>?_)
    ·exact(aq.new hr') _ _ (by rw[aw nTl];exact h12)
    ·exact(aq.new hr') _ _ (by rw[aw hne];exact hd2)
    ·exact(aq.new hr') _ _ ai
    ·exact(aq.new hr') _ _ (by rw[aw nb2];exact(aq.new ht2) _ _ (bt _ _ e nb1))
end
noncomputable def aI(ps:List (Key × V)):Kvs:=ps.foldl (fun m kv=>ck m kv.1 kv.2) []
noncomputable def aT(qs:List (Str × Int × V)):Las:=qs.foldl (fun m q=>gG m (Sum.inr q.1) q.2) []
def ff(K:Frag)(C:Addr):Sp:=fun vs H Q _=>∃(T dx hh aa:Addr)(o:Obj)(ps as:List V) (kvs:List (Key × V)) (qs:List (Str × Int × V)),vs=[.ref T,.ref hh,.ref aa]/\H T=some (.ins C dx [])/\H hh=some (.frz o (.tup ps))/\o.dict=none/\ps.length=kvs.length /\
 (∀(j:Nat)(kv:Key × V),kvs[j]?=some kv->∃b,ps[j]?=some (.ref b)/\SqT K H b [kV kv.1,kv.2])/\SqT K H aa as/\as.length=qs.length/\qs.length <= 900/\(∀(j:Nat)(q:Str × Int × V),qs[j]?=some q->∃b,as[j]?=some (.ref b)/\SqT K H b [.str q.1,.int q.2.1,q.2.2]) /\
 ∀(d l:Addr)(H':Hp),H d=none->H l=none->aS K C H' T d l (aI kvs) (aT qs)->But T H H'->Q .non H'
theorem kQ(qs:List (Str × Int × V)):∀m:Las,(qs.foldl (fun m q=>gG m (Sum.inr q.1) q.2) m).length <= m.length + qs.length:=by
 induction qs with
 | nil=>intro m;exact Nat.le_refl _
 | cons q r ih =>
  intro m;have:=ih (gG m (Sum.inr q.1) q.2);have:=og m (Sum.inr q.1) q.2;simp only[List.foldl_cons,length_cons];lia
section
variable{P:Program}{w:World}{K:Frag}{mg:Str->Option Value}{base:Heap}
noncomputable abbrev nInit:List Str:=["self","held","asked","asker","number","answer"]
theorem lI:au nInit ["self","held","asked"] (am kN):=fsc (by decide +kernel)
theorem lJ {f C:Addr} {fd:FuncData} (F:Fun K "__init__" "Table.__init__" kN f fd) (T:Cl K mg C) (B:Blt mg):aQ P w K mg base CX0 1 f fd ["self","held","asked"] (ff K C):=by
 refine F.ok lI (fun vs H Q E h=>?_) (fun cdv A outer s H vs Q E hr h=>?_)
 ·obtain⟨T',dx,hh,aa,o,ps,as,kvs,qs,rfl,_⟩:=h;rfl
 ·obtain⟨T',dx,hh,aa,o,ps,as,kvs,qs,rfl,hT,hh1,ho,hpl,hps,haa,hal,hq9,has,q⟩:=h;have hu:=iB hr;have nd:=lI.nd;refine⟨_,ae (bu (pv 0) (bh (kB rfl) (by rfl) B.dict bDict (ad (pv 1) ag)) rfl)
   (ae (bu (pv 0) jg rfl)
   (aj (dY PassesOwn.never rfl (gE (pv 2)) (dg rfl (aF (aA (i:=3) nd rfl (Or.inl rfl)) (aF (aA (i:=4) nd rfl (Or.inl rfl)) (aF (aA (i:=5) nd rfl (Or.inl rfl)) cn))))
    (aj (eJ hu (aD (pv 0) rfl) (pv 3) (dZ (ad (pv 4) (ad (pv 5) ag))) rfl))))),?_⟩
  dsimp only[bv,Cx.nox];refine ah fun K_ hK_=>?_;refine⟨_,rfl,ex4 hh o ps kvs ⟨rfl,hh1,ho,hpl,hps,fun d hd=>?_⟩⟩;have hT1:=(aq.new (o:=.dK (aI kvs)) hd) _ _ hT;refine⟨_,rfl,T',C,dx,[],rfl,hT1,T.cl,T.nH,(by show 0 < 1000;decide),?_⟩
  have nTd:T' ≠ d:=ak hT hd;refine hK_ _ _ (ah fun K_ hK_=>?_);intro l hl;have nTl:T' ≠ l:=ak ai hl;have hlH:H l=none:=by
   rw[aw nTl.symm]at hl;exact(aq.new (o:=.dK (aI kvs)) hd).none hl
  have ndl:d ≠ l:=by
   rintro rfl;rw[aw nTl.symm,ai]at hl;cases hl
  refine⟨_,rfl,ex4 T' C dx _ ⟨rfl,(by rw[aw nTl];exact ai),T.cl,T.nL,(by show 1 < 1000;decide),?_⟩⟩
  have fE:∃H3,H3=upd (upd (upd (upd H d (.dK (aI kvs))) T' (.ins C dx (aM "held" (.ref d) []))) l (.dK [])) T' (.ins C dx (dB d l)):=⟨_,rfl⟩;obtain⟨H3,e3⟩:=fE;have b3:But T' H H3:=fun b o' e hb=>by
   rw[e3,aw hb,aw (ak e hlH),aw hb,aw (ak e hd)];exact e
  have sqB:∀{H4:Hp}{b:Addr}{xs:List V},But T' H H4->SqT K H b xs->SqT K H4 b xs:=fun bt h=>by
   rcases h with (h | ⟨o',h⟩) | h
   ·exact .inl (.inl (bt _ _ h (aN h hT (by intro z;cases z))))
   ·exact .inl (.inr ⟨o',bt _ _ h (aN h hT (by intro z;cases z))⟩)
   ·exact .inr h
  refine hK_ _ _ ?_;refine⟨_,rfl,aa,rfl,⟨as,?_⟩,lq (K:=K) (a:=aa) (xs:=as) (fun i σ H4=>∃(u v w':Option V),σ=[some (.ref T'),some (.ref hh),some (.ref aa),u,v,w']/\But T' H H4/\aS K C H4 T' d l (aI kvs) ((qs.take i).foldl (fun m q=>gG m (Sum.inr q.1) q.2) []))
   ⟨none,none,none,rfl,?_,?_⟩ (fun i σ H4 _ ⟨_,_,_,_,bt,_⟩=>sqB bt haa) ?_ ?_⟩
  ·have:=sqB b3 haa;rw[e3]at this;exact this
  ·rw[e3]at b3;exact b3
  ·refine⟨⟨dx,ai⟩,?_,⟨[],?_,.nil⟩,ndl⟩
   ·rw[aw nTd.symm,aw ndl,aw nTd.symm];exact ai
   ·rw[aw nTl.symm];exact ai
  ·rintro i y σ H4 hy ⟨u,v,w',rfl,bt,S⟩;have hi:i < as.length:=(List.getElem?_eq_some_iff.mp hy).1;obtain⟨q',hq'⟩:∃q',qs[i]?=some q':=⟨_,getElem?_eq_getElem (by lia)⟩
   obtain⟨b,hb,hbt⟩:=has i q' hq';rw[hb]at hy;cases hy;have et:qs.take (i + 1)=qs.take i ++ [q']:=by rw[List.take_add_one,hq'];rfl
   obtain⟨⟨dx',h1⟩,hd4,⟨lk,hl4,lr⟩,_⟩:=id S;refine⟨b,_,rfl,sqB bt hbt,rfl,_,_,rfl,_,cJ rfl rfl rfl ?_⟩;refine(rd2 rfl rfl ⟨(by show 2 <= sizeLine;decide),fun t ht=>?_⟩)
   have h1':=(aq.new (o:=.tup [V.int q'.2.1,q'.2.2]) ht) _ _ h1;have hl':=(aq.new (o:=.tup [V.int q'.2.1,q'.2.2]) ht) _ _ hl4;have hd':=(aq.new (o:=.tup [V.int q'.2.1,q'.2.2]) ht) _ _ hd4;have hlen:lk.length < sizeLine:=by
    have h2:=kQ (qs.take i) [];rw[<- lr.len,length_take]at h2;exact bO (by simp at h2;lia)
   refine⟨_,rfl,ex5 T' C dx' _ _ ⟨rfl,h1',T.cl,T.nL,fN _ _,_,rfl,l,_,rfl,gq.k (k:=Sum.inr q'.1) hl' hlen,?_⟩⟩;refine(ex3 _ _ _ ⟨rfl,fun c o' e hc=>?_,⟨dx',?_⟩,?_,⟨ck lk (Sum.inr q'.1) (.ref t),ai,?_⟩,ndl⟩)
   ·rw[aw (ak e hlH)];exact(aq.new ht) _ _ (bt _ _ e hc)
   ·rw[aw nTl];exact h1'
   ·rw[aw ndl];exact hd'
   ·rw[et,List.foldl_append];exact LR.put (lr.mono fun t' xs e=>(SqT.same (.new ht) e).upd hl') (Sum.inr q'.1) (SqT.upd (SqT.of ai) hl')
  ·rintro σ H4 ⟨u,v,w',rfl,bt,S⟩;rw[hal,List.take_length]at S;exact q d l H4 hd hlH S bt
end
theorem pF(kvs:Kvs)(k:Key):bK kvs k=cE kvs k:=rfl
structure bR(kvs:Kvs)(las:Las):Prop where
 gk:dn kvs
 gl:dn las
 ik:lF kvs
 fl:∀k q,dC las k=some q->q.2=.non\/∃i:Int,q.2=.int i
structure Eqv(kvs:Kvs)(las:Las)(kvs':Kvs)(las':Las):Prop where
 k:∀j,bK kvs j=bK kvs' j
 l:∀j,dC las j=dC las' j
theorem Eqv.refl(kvs:Kvs)(las:Las):Eqv kvs las kvs las:=⟨fun _=>rfl,fun _=>rfl⟩
theorem Eqv.lastN{kvs kvs':Kvs}{las las':Las}(e:Eqv kvs las kvs' las')(x:Str):lastN las x=lastN las' x:=by unfold K43T.lastN;rw[e.l]
theorem Eqv.lastA{kvs kvs':Kvs}{las las':Las}(e:Eqv kvs las kvs' las')(x:Str):lastA las x=lastA las' x:=by unfold K43T.lastA;rw[e.l]
theorem Eqv.ans{kvs kvs':Kvs}{las las':Las}(e:Eqv kvs las kvs' las')(wk:Wk):wk.ans kvs=wk.ans kvs':=by
 cases wk with
 | put a n=>unfold Wk.ans;dsimp only;rw[e.k]
 | add a n=>unfold Wk.ans num;dsimp only;rw[e.k]
 | drop a=>unfold Wk.ans;dsimp only;rw[e.k]
theorem Eqv.to{kvs kvs':Kvs}{las las':Las}(e:Eqv kvs las kvs' las')(wk:Wk)(j:Key):bK (wk.to kvs) j=bK (wk.to kvs') j:=by
 cases wk with
 | put a n=>unfold Wk.to;dsimp only;rw[dS,dS,e.k]
 | add a n =>
  have hn:num kvs a=num kvs' a:=by unfold num;rw[e.k]
  unfold Wk.to;dsimp only;rw[dS,dS,e.k,hn]
 | drop a =>
  show cE (kvs.filter fun kv=>decide (kv.1 ≠ (Sum.inr a:Key))) j=cE (kvs'.filter fun kv=>decide (kv.1 ≠ (Sum.inr a:Key))) j;rw[kL,kL,<- pF,<- pF,e.k]
theorem Eqv.step{kvs kvs':Kvs}{las las':Las}(e:Eqv kvs las kvs' las')(x:Str)(n:Int)(wk:Wk):Eqv (cu kvs las x n wk) (dF kvs las x n wk) (cu kvs' las' x n wk) (dF kvs' las' x n wk):=by
 unfold cu dF;rw[e.lastN];split
 ·exact e
 ·split
  ·exact e
  ·exact⟨fun j=>e.to wk j,fun j=>by rw[js,js,e.l,e.ans]⟩
theorem bR.step{kvs:Kvs}{las:Las}(h:bR kvs las)(x:Str)(n:Int)(wk:Wk):bR (cu kvs las x n wk) (dF kvs las x n wk):=by
 unfold cu dF;split
 ·exact h
 ·split
  ·exact h
  ·refine⟨?_,h.gl.put x _,h.ik.to wk,fun k q e=>?_⟩
   ·cases wk with
    | put a n=>exact h.gk.put a _
    | add a n=>exact h.gk.put a _
    | drop a=>exact h.gk.drop _
   ·rw[js]at e;split at e
    ·cases e;exact h.ik.ans wk
    ·exact h.fl k q e
theorem bR.empty:bR [] []:=⟨⟨fun p hp=>(by cases hp),List.nodup_nil⟩,⟨fun p hp=>(by cases hp),List.nodup_nil⟩,fun k v e=>(by cases e),fun k q e=>(by cases e)⟩
noncomputable def jt(kvs:Kvs)(ss:List Str):List (Str × V):=ss.map fun k=>(k,(bK kvs (Sum.inr k)).getD .non)
noncomputable def gH(las:Las)(tt:List Str):List (Str × Int × V):=tt.map fun x=>(x,lastN las x,lastA las x)
structure bS(kvs:Kvs)(las:Las)(ps:List (Str × V))(qs:List (Str × Int × V)):Prop where
 h:∃ss:List Str,ss.Perm (cF kvs)/\ss.Pairwise leS/\ps=jt kvs ss
 a:∃tt:List Str,tt.Perm (cF las)/\tt.Pairwise leS/\qs=gH las tt
theorem bS.one{kvs kvs':Kvs}{las las':Las}{ps ps':List (Str × V)}{qs qs':List (Str × Int × V)}(o:bR kvs las)(o':bR kvs' las')(e:Eqv kvs las kvs' las')(h:bS kvs las ps qs)(h':bS kvs' las' ps' qs'):ps=ps'/\qs=qs':=by
 obtain⟨⟨ss,s1,s2,s3⟩,tt,t1,t2,t3⟩:=h;obtain⟨⟨ss',s1',s2',s3'⟩,tt',t1',t2',t3'⟩:=h';have es:ss=ss':=jq s2 s2' (s1.trans ((kM o.gk o'.gk fun k=>e.k k).trans s1'.symm));have et:tt=tt':=jq t2 t2' (t1.trans ((kM o.gl o'.gl fun k=>e.l k).trans t1'.symm));subst es et s3 t3 s3' t3';refine⟨?_,?_⟩
 ·unfold jt;exact List.map_congr_left fun k _=>by rw[e.k]
 ·unfold gH;exact List.map_congr_left fun k _=>by rw[e.lastN,e.lastA]
noncomputable abbrev cS(ps:List (Str × V)):List (Key × V):=ps.map fun p=>(Sum.inr p.1,p.2)
theorem bS.made{kvs:Kvs}{las:Las}{ps:List (Str × V)}{qs:List (Str × Int × V)}(o:bR kvs las)(h:bS kvs las ps qs) :
  Eqv (aI (cS ps)) (aT qs) kvs las/\bR (aI (cS ps)) (aT qs)/\(aI (cS ps)).length <= kvs.length/\(aT qs).length <= las.length:=by
 obtain⟨⟨ss,s1,s2,s3⟩,tt,t1,t2,t3⟩:=h;subst s3 t3;have e1:aI (cS (jt kvs ss))=(ss.map fun k=>((Sum.inr k:Key),(bK kvs (Sum.inr k)).getD .non)).foldl (fun m kv=>gu m kv.1 kv.2) []:=by
  unfold aI jt cS;rw[List.map_map];rfl
 have e2:aT (gH las tt)=(tt.map fun k=>((Sum.inr k:Key),(lastN las k,lastA las k))).foldl (fun m kv=>gu m kv.1 kv.2) []:=by
  unfold aT gH;rw[List.foldl_map,List.foldl_map];rfl
 obtain⟨g1,g2⟩:=ve o.gk s1 (fun k=>(bK kvs (Sum.inr k)).getD .non) (fun x v e=>by rw[pF,e];rfl)
 obtain⟨f1,f2⟩:=ve o.gl t1 (fun k=>(lastN las k,lastA las k)) (fun x v e=>by
  have e:dC las (Sum.inr x)=some v:=e;unfold lastN lastA;rw[e])
 rw[e1,e2];have hk:∀j,bK ((ss.map fun k=>((Sum.inr k:Key),(bK kvs (Sum.inr k)).getD .non)).foldl (fun m kv=>gu m kv.1 kv.2) []) j=bK kvs j:=g1;have hl:∀j,dC ((tt.map fun k=>((Sum.inr k:Key),(lastN las k,lastA las k))).foldl (fun m kv=>gu m kv.1 kv.2) []) j=dC las j:=f1;refine⟨⟨hk,hl⟩,⟨g2,f2,fun k v e=>o.ik k v (by rw[<- hk];exact e),fun k q e=>o.fl k q (by rw[<- hl];exact e)⟩,?_,?_⟩
 ·refine Nat.le_trans (nY _ _) ?_;have h2:=s1.length_eq;unfold cF at h2;rw[length_map]at h2;rw[List.length_nil,length_map];lia
 ·refine Nat.le_trans (nY _ _) ?_;have h2:=t1.length_eq;unfold cF at h2;rw[length_map]at h2;rw[List.length_nil,length_map];lia
def KeepN(H H':Hp):Prop:=∀b o,H b=some o->(∀m,o ≠ .dK m)->H' b=some o
def ci(H:Hp)(p:Addr)(ps:List (Str × V))(qs:List (Str × Int × V)):Prop:=∃(ph pa:Addr)(oh oa:Obj)(hs as:List V),H p=some (.tup [.ref ph,.ref pa])/\H ph=some (.frz oh (.tup hs))/\oh.dict=none/\H pa=some (.frz oa (.tup as))/\hs.length=ps.length/\as.length=qs.length /\
 (∀(j:Nat)(kv:Str × V),ps[j]?=some kv->∃b,hs[j]?=some (.ref b)/\H b=some (.tup [.str kv.1,kv.2]))/\(∀(j:Nat)(q:Str × Int × V),qs[j]?=some q->∃b,as[j]?=some (.ref b)/\H b=some (.tup [.str q.1,.int q.2.1,q.2.2]))
theorem ci.keepN{H H':Hp}{p:Addr}{ps:List (Str × V)}{qs:List (Str × Int × V)}(h:ci H p ps qs)(e:KeepN H H'):ci H' p ps qs:=by
 obtain⟨ph,pa,oh,oa,hs,as,h1,h2,h3,h4,h5,h6,h7,h8⟩:=h;refine⟨ph,pa,oh,oa,hs,as,e _ _ h1 (by intro m z;cases z),e _ _ h2 (by intro m z;cases z),h3,e _ _ h4 (by intro m z;cases z),h5,h6,fun j kv q=>?_,fun j kv q=>?_⟩
 ·obtain⟨b,b1,b2⟩:=h7 j kv q;exact⟨b,b1,e _ _ b2 (by intro m z;cases z)⟩
 ·obtain⟨b,b1,b2⟩:=h8 j kv q;exact⟨b,b1,e _ _ b2 (by intro m z;cases z)⟩
theorem bS.flat{kvs:Kvs}{las:Las}{ps:List (Str × V)}{qs:List (Str × Int × V)}(o:bR kvs las)(h:bS kvs las ps qs):(∀p ∈ ps,p.2=.non\/∃i:Int,p.2=.int i)/\∀q ∈ qs,q.2.2=.non\/∃i:Int,q.2.2=.int i:=by
 obtain⟨⟨ss,s1,s2,rfl⟩,tt,t1,t2,rfl⟩:=h;refine⟨fun p hp=>?_,fun q hq=>?_⟩
 ·obtain⟨k,_,rfl⟩:=List.mem_map.mp hp;dsimp only;cases e:bK kvs (Sum.inr k:Key) with
  | none=>exact .inl rfl
  | some v=>obtain⟨i,rfl⟩:=o.ik _ _ e;exact .inr ⟨i,rfl⟩
 ·obtain⟨k,_,rfl⟩:=List.mem_map.mp hq;dsimp only;unfold lastA;cases e:dC las (Sum.inr k:Key) with
  | none=>exact .inl rfl
  | some v=>exact o.fl _ _ e
end K43T
namespace L2
open PySem PySem.Spec PyProof.Rows
theorem lK{X:Cx}{scope:Scope}{cl:List (Str × Addr)}{N2 ys:List Str}{C:Addr}{s:Shared}{H:Hp}{fp:List Addr}{e:Expr}{f:Str}{pos:Pos}{ta:TE}(he:PE (cxC X scope cl N2 ys C s H fp) e ta)
  (hb:attributeBase e f (cxC X scope cl N2 ys C s H fp).env (eval e (cxC X scope cl N2 ys C s H fp).env)=eval e (cxC X scope cl N2 ys C s H fp).env):PE (cxC X scope cl N2 ys C s H fp) (.Attribute e f pos) (tFld X.K ta f):=aD he hb
theorem lL{K:Frag}{a:Addr}{ss:List Str}{k:Nat}{σ:St}{H1:Hp}{te:TE}{Q:VK}(row:Str->List V)(hk:σ.length=k)(hq:SqL K H1 a (ss.map V.str))(hz:ss.length <= 900)
  (turn:∀(x:Str)(H':Hp)(post:VK),x ∈ ss->aq H1 H'->(∀t,H' t=none->post (.ref t) (upd H' t (.tup (row x))))->te (σ ++ [some (.str x)]) H' post)
  (fin:∀(D:Addr)(bs:List Addr)(H':Hp),H1 D=none->aq H1 H'->H' D=some (.lst (bs.map V.ref))->bs.length=ss.length->(∀(j:Nat)(x:Str),ss[j]?=some x->∃b,bs[j]?=some b/\H' b=some (.tup (row x)))->Q (.ref D) H') :
  LCT 1 (iy k) nO te σ Q (Itl K a) H1:=by
 refine lcJ (n:=ss.length) (fun i=>.str (ss.getD i "")) (fun D i ys H=>H1 D=none/\aq H1 H/\H D=some (.lst ys)/\∃bs:List Addr,ys=bs.map V.ref/\bs.length=i/\∀(j:Nat)(x:Str),j < i->ss[j]?=some x->∃b,bs[j]?=some b/\H b=some (.tup (row x))) hk ?_ ?_ ?_ ?_ ?_ ?_
 ·rintro D i ys H hi ⟨h1,h2,_⟩;exact⟨_,V.str ss[i],h2.seq hq,by rw[getElem?_map,getElem?_eq_getElem hi];rfl⟩
 ·rintro D i ys H x H' hi ⟨h1,h2,_⟩ ⟨e,y⟩;refine⟨e,?_⟩;have:=y _ (h2.seq hq);rw[getElem?_map,getElem?_eq_getElem hi]at this;rw[getD_eq_getElem?_getD,getElem?_eq_getElem hi];exact(Option.some.inj this).symm
 ·rintro D ys H ⟨h1,h2,_⟩;exact⟨_,h2.seq hq,by rw[length_map];exact Nat.le_refl _⟩
 ·intro D hD;exact⟨hD,.new hD,ai,[],rfl,rfl,fun j x hj=>absurd hj (Nat.not_lt_zero _)⟩
 ·rintro D i ys H post hi ⟨h1,h2,h3,bs,rfl,hbl,hbs⟩ hp;have hx:ss[i]?=some (ss.getD i ""):=by rw[getD_eq_getElem?_getD,getElem?_eq_getElem hi];rfl
  refine turn _ H post (mem_of_getElem? hx) h2 fun t ht=>?_;have nDt:D ≠ t:=ak h3 ht;refine hp (.ref t) _ (by rw[aw nDt];exact h3) (by rw[length_map];exact bO (by lia)) ⟨h1,fun b o e=>?_,ai,bs ++ [t],by rw[List.map_append];rfl,by rw[length_append,hbl];rfl,fun j x hj hx'=>?_⟩
  ·rw[aw (ak e h1),aw (ak (h2 _ _ e) ht)];exact h2 _ _ e
  ·by_cases hji:j < i
   ·obtain⟨b,b1,b2⟩:=hbs j x hji hx';refine⟨b,by rw[List.getElem?_append_left (by lia)];exact b1,?_⟩
    have nbD:b ≠ D:=by rintro rfl;rw[h3]at b2;cases b2
    rw[aw nbD,aw (ak b2 ht)];exact b2
   ·have e:j=i:=by lia
    subst e;rw[hx]at hx';cases hx';refine⟨t,by rw[List.getElem?_append_right (by lia),hbl,Nat.sub_self];rfl,?_⟩
    rw[aw nDt.symm];exact ai
 ·rintro D ys H ⟨h1,h2,h3,bs,rfl,hbl,hbs⟩;exact fin D bs H h1 h2 h3 hbl fun j x hx=>hbs j x (List.getElem?_eq_some_iff.mp hx).1 hx
end L2
namespace K43T
open PySem L2 KM
abbrev oi:Stmt:=aP (top 89) 5
def ju(K:Frag)(C:Addr):Sp:=fun vs H Q _=>∃(T d l:Addr)(kvs:Kvs)(las:Las),vs=[.ref T]/\aS K C H T d l kvs las/\bR kvs las/\kvs.length < 64/\las.length < 64 /\
 ∀(p:Addr) (ps:List (Str × V)) (qs:List (Str × Int × V)) (H':Hp),aq H H'->ci H' p ps qs->bS kvs las ps qs->Q (.ref p) H'
theorem LR.keys{K:Frag}{H:Hp}{lk:Kvs}{las:Las}(r:LR K H lk las):lk.map (·.1)=las.map (·.1):=by
 induction r with
 | nil=>rfl
 | cons h t ih=>rw[List.map_cons,List.map_cons,ih,h.1]
theorem lM{H:Hp}{p ph pa:Addr}{oh oa:Obj}{kvs:Kvs}{las:Las}{ss tt:List Str}{bs cs:List Addr}(h1:H p=some (.tup [.ref ph,.ref pa]))(h2:H ph=some (.frz oh (.tup (bs.map V.ref))))(h3:oh.dict=none)(h4:H pa=some (.frz oa (.tup (cs.map V.ref))))
  (hb:bs.length=ss.length)(hc:cs.length=tt.length)(hbs:∀(j:Nat)(x:Str),ss[j]?=some x->∃b,bs[j]?=some b/\H b=some (.tup [.str x,(bK kvs (Sum.inr x)).getD .non]))
  (hcs:∀(j:Nat)(x:Str),tt[j]?=some x->∃b,cs[j]?=some b/\H b=some (.tup [.str x,.int (lastN las x),lastA las x])):ci H p (jt kvs ss) (gH las tt):=by
 refine⟨ph,pa,oh,oa,_,_,h1,h2,h3,h4,by unfold jt;rw[length_map,length_map,hb],by unfold gH;rw[length_map,length_map,hc],fun j kv e=>?_,fun j q e=>?_⟩
 ·unfold jt at e;rw[getElem?_map]at e;cases es:ss[j]? with
  | none=>rw[es]at e;cases e
  | some x =>
   rw[es]at e;cases e;obtain⟨b,b1,b2⟩:=hbs j x es;exact⟨b,by rw[getElem?_map,b1];rfl,b2⟩
 ·unfold gH at e;rw[getElem?_map]at e;cases es:tt[j]? with
  | none=>rw[es]at e;cases e
  | some x =>
   rw[es]at e;cases e;obtain⟨b,b1,b2⟩:=hcs j x es;exact⟨b,by rw[getElem?_map,b1];rfl,b2⟩
section
variable{P:Program}{w:World}{K:Frag}{mg:Str->Option Value}{base:Heap}
abbrev jv:List Str:=["self","held","asked"]
theorem vo:au jv ["self"] (am oi):=fsc (by decide +kernel)
theorem ndTK:(jv ++ (["key"]:List Str)).Nodup:=by decide +kernel
theorem ndTA:(jv ++ (["asker"]:List Str)).Nodup:=by decide +kernel
theorem ok_told {f C:Addr} {fd:FuncData} (F:Fun K "told" "Table.told" oi f fd) (T:Cl K mg C) (B:Blt mg):aQ P w K mg base CX0 1 f fd ["self"] (ju K C):=by
 refine F.ok vo (fun vs H Q E h=>?_) (fun cdv A outer s H vs Q E hr h=>?_)
 ·obtain⟨T',d,l,kvs,las,rfl,_⟩:=h;rfl
 ·obtain⟨T',d,l,kvs,las,rfl,S,ok,hk64,hl64,q⟩:=h;have hu:=iB hr;have nd:=vo.nd;obtain⟨⟨dx,h1⟩,hd,⟨lk,hl,lr⟩,hne⟩:=id S;refine⟨_,ae (aC (i:=1) nd rfl (Or.inl rfl) (bh fZ (by rfl) B.tuple cm (ad (gy jv jv ["key"] (am oi) rfl rfl rfl (by decide +kernel) rfl rfl (by decide +kernel) (by decide +kernel) (by decide +kernel) (by decide +kernel)
    (fW (az (fb rfl) (by rfl) B.sorted iT (ad (aD (pv 0) rfl) ag))) (fun _ _ _ _ _=>aA (i:=3) ndTK rfl (Or.inl rfl)) (fun _ _ _ _ _=>cR)
    (fun _ _ _ _ _=>dZ (ad (pv 3) (ad (dM hu (lK (pv 0) rfl) (pv 3) (fun _ _=>rfl)) ag)))) ag))) <|
   ae (aC (i:=2) nd rfl (Or.inl rfl) (bh fZ (by rfl) B.tuple cm (ad (gy jv jv ["asker"] (am oi) rfl rfl rfl (by decide +kernel) rfl rfl (by decide +kernel) (by decide +kernel) (by decide +kernel) (by decide +kernel)
    (fW (az (fb rfl) (by rfl) B.sorted iT (ad (aD (pv 0) rfl) ag))) (fun _ _ _ _ _=>aA (i:=3) ndTA rfl (Or.inl rfl)) (fun _ _ _ _ _=>cR)
    (fun _ _ _ _ _=>dZ (ad (pv 3) (ad (ar gf (dM hu (lK (pv 0) rfl) (pv 3) (fun _ _=>rfl)) af (fun _ _=>rfl)) (ad (ar gf (dM hu (lK (pv 0) rfl) (pv 3) (fun _ _=>rfl)) af (fun _ _=>rfl)) ag))))) ag))) <|
   aj <| ax <| dZ <| ad (pv 1) <| ad (pv 2) ag,?_⟩
  dsimp only[bv,Cx.nox];have kk:=ok.gk.keys;have hlk:lk.map (·.1)=(cF las).map Sum.inr:=by rw[<- ok.gl.keys];exact lr.keys
  refine ah fun K_ hK_=>?_;refine⟨_,rfl,ex5 T' C dx _ _ ⟨rfl,h1,T.cl,T.nH,fM _ _,d,kvs,cF kvs,rfl,hd,kk,hk64,fun p1 ss hp1 pm1 pw1=>?_⟩⟩;refine⟨p1,rfl,⟨_,SqL.of ai⟩,?_⟩;have s1:aq H (upd H p1 (.lst (ss.map V.str))):=.new hp1;have hsl:ss.length < 64:=by rw[pm1.length_eq];unfold cF;rw[length_map];exact hk64
  refine lL (ss:=ss) (fun x=>[.str x,(bK kvs (Sum.inr x)).getD .non]) ?_ ?_ ?_ ?_ ?_
  ·rfl
  ·exact SqL.of ai
  ·lia
  ·intro x H' post hx sm hpost;have s1':=s1.trans sm;obtain⟨v,hv⟩:∃v,bK kvs (Sum.inr x)=some v:=Option.isSome_iff_exists.mp (cG.mp (ok.gk.mem.mp (pm1.mem_iff.mp hx)));refine(rd2 rfl rfl (ex5 T' C dx _ _ ⟨rfl,s1' _ _ h1,T.cl,T.nH,fM _ _,_,rfl,d,v,rfl,?_,(by show 2 <= sizeLine;decide),fun t ht=>?_⟩))
   ·have:=cY.k (H:=H') (k:=Sum.inr x) (s1' _ _ hd);rw[hv]at this;exact this
   ·have:=hpost t ht;rw[hv]at this;exact this
  intro D bs H2 hD s2 hD2 hbl hbs;refine⟨D,_,rfl,SqL.of hD2,fun ph oh hph hoh=>?_⟩;have s3:aq H (upd H2 ph (.frz oh (.tup (bs.map V.ref)))):=s1.trans (s2.trans (.new hph));have sph:aq H2 (upd H2 ph (.frz oh (.tup (bs.map V.ref)))):=.new hph;have hph3:upd H2 ph (.frz oh (.tup (bs.map V.ref))) ph=some (.frz oh (.tup (bs.map V.ref))):=ai;refine hK_ _ _ (ah fun K_ hK_=>?_);generalize upd H2 ph (.frz oh (.tup (bs.map V.ref)))=H3 at s3 sph hph3;refine⟨_,rfl,ex5 T' C dx _ _ ⟨rfl,s3 _ _ h1,T.cl,T.nL,fN _ _,l,lk,cF las,rfl,s3 _ _ hl,hlk,(by rw[lr.len];exact hl64),fun p2 tt hp2 pm2 pw2=>?_⟩⟩
  refine⟨p2,rfl,⟨_,SqL.of ai⟩,?_⟩;have s4:aq H3 (upd H3 p2 (.lst (tt.map V.str))):=.new hp2;have htl:tt.length < 64:=by rw[pm2.length_eq];unfold cF;rw[length_map];exact hl64
  refine lL (ss:=tt) (fun x=>[.str x,.int (lastN las x),lastA las x]) ?_ ?_ ?_ ?_ ?_
  ·rfl
  ·exact SqL.of ai
  ·lia
  ·intro x H' post hx sm hpost;have s1':=s3.trans (s4.trans sm);have hm:(dC las (Sum.inr x)).isSome=true:=cG.mp (ok.gl.mem.mp (pm2.mem_iff.mp hx));rcases lr.val (Sum.inr x) with ⟨_,e2⟩ | ⟨tx,q',e1,e2,e3⟩
   ·rw[e2]at hm;cases hm
   ·have hN:lastN las x=q'.1:=by unfold lastN;rw[e2]
    have hA:lastA las x=q'.2:=by unfold lastA;rw[e2]
    have hg:cY H' l (.str x) (some (.ref tx)):=by
     have:=cY.k (H:=H') (k:=Sum.inr x) (s1' _ _ hl);rw[e1]at this;exact this
    refine(rd2 rfl rfl (ex5 T' C dx _ _ ⟨rfl,s1' _ _ h1,T.cl,T.nL,fN _ _,_,rfl,l,_,rfl,hg,ex4 tx _ _ _ ⟨rfl,rfl,SqT.same s1' e3,rfl,?_⟩⟩));refine⟨_,rfl,ex5 T' C dx _ _ ⟨rfl,s1' _ _ h1,T.cl,T.nL,fN _ _,_,rfl,l,_,rfl,hg,ex4 tx _ _ _ ⟨rfl,rfl,SqT.same s1' e3,rfl,(by show 3 <= sizeLine;decide),fun t ht=>?_⟩⟩⟩
    have:=hpost t ht;rw[hN,hA]at this;exact this
  intro D2 cs H4 hD2' s5 hD4 hcl hcs;refine⟨D2,_,rfl,SqL.of hD4,fun pa oa hpa hoa=>?_⟩;refine hK_ _ _ ?_;refine(rd2 rfl rfl ⟨(by show 2 <= sizeLine;decide),fun p hp=>?_⟩)
  have s35:aq H3 (upd (upd H4 pa (.frz oa (.tup (cs.map V.ref)))) p (.tup [V.ref ph,V.ref pa])):=s4.trans (s5.trans ((aq.new hpa).trans (.new hp)));have s45:aq H4 (upd (upd H4 pa (.frz oa (.tup (cs.map V.ref)))) p (.tup [V.ref ph,V.ref pa])):=(aq.new hpa).trans (.new hp);refine q p (jt kvs ss) (gH las tt) _ (s3.trans s35) (lM ai (s35 _ _ hph3) hoh ((aq.new hp) _ _ ai) hbl hcl (fun j x hx=>?_) (fun j x hx=>?_)) ⟨⟨ss,pm1,pw1,rfl⟩,tt,pm2,pw2,rfl⟩
  ·obtain⟨b,b1,b2⟩:=hbs j x hx;exact⟨b,b1,s35 _ _ (sph _ _ b2)⟩
  ·obtain⟨b,b1,b2⟩:=hcs j x hx;exact⟨b,b1,s45 _ _ b2⟩
end
end K43T
namespace K43
open PySem L2
abbrev pG:Stmt:=aP (top 73) 0
abbrev kR:Stmt:=aP (top 73) 5
abbrev pH:Stmt:=aP (top 91) 0
abbrev pI:Stmt:=aP (top 91) 1
abbrev sFS:Stmt:=top 35
abbrev sFW:Stmt:=top 92
def BtO(o:Addr)(H H':Hp):Prop:=∀b u,b ≠ o->H b=some u->H' b=some u
theorem BtO.refl(o:Addr)(H:Hp):BtO o H H:=fun _ _ _ e=>e
theorem BtO.of{o:Addr}{H H':Hp}(s:aq H H'):BtO o H H':=fun _ _ _ e=>s _ _ e
theorem BtO.trans{o:Addr}{H H1 H2:Hp}(a:BtO o H H1)(b:BtO o H1 H2):BtO o H H2:=fun c u n e=>b c u n (a c u n e)
theorem BtO.upd{o:Addr}{H:Hp}{u:HO}:BtO o H (L2.upd H o u):=fun b v n e=>by rw[aw n];exact e
noncomputable abbrev flR (st en:Addr):List (Str × V):=aM "entries" (.ref en) (aM "stand" (.ref st) [])
noncomputable abbrev flW (t:Int) (v:V) (s:Int) (kr:Addr):List (Str × V):=aM "kept_row" (.ref kr) (aM "settled_place" (.int s) (aM "vote" v (aM "term" (.int t) [])))
structure ClR(K:Frag)(mg:Str->Option Value)(C:Addr):Prop where
 cl:Cls K C
 nS:bF K C "stand"
 nE:bF K C "entries"
 mgC:mg "Row"=some (.ref C)
structure ClW(K:Frag)(mg:Str->Option Value)(C:Addr):Prop where
 cl:Cls K C
 nT:bF K C "term"
 nV:bF K C "vote"
 nS:bF K C "settled_place"
 nK:bF K C "kept_row"
 mgC:mg "Written"=some (.ref C)
def iU(K:Frag)(C:Addr):Sp:=fun us H Q _=>∃(r dx st en:Addr)(ys:List V),us=[.ref r,.ref st,.ref en]/\H r=some (.ins C dx [])/\SqT K H en ys/\∀H',BtO r H H'->H' r=some (.ins C dx (flR st en))->Q .non H'
def RowO(C:Addr)(H:Hp)(r st en:Addr):Prop:=∃dx,H r=some (.ins C dx (flR st en))
def WrO(CW CR:Addr)(H:Hp)(o:Addr)(t:Int)(v:V)(s:Int)(kr st en:Addr):Prop:=(∃dx,H o=some (.ins CW dx (flW t v s kr)))/\RowO CR H kr st en
theorem WrO.same{CW CR:Addr}{H H':Hp}{o:Addr}{t:Int}{v:V}{s:Int}{kr st en:Addr}(e:aq H H')(h:WrO CW CR H o t v s kr st en):WrO CW CR H' o t v s kr st en:=by
 obtain⟨⟨dx,h1⟩,dy,h2⟩:=h;exact⟨⟨dx,e _ _ h1⟩,dy,e _ _ h2⟩
theorem WrO.bto{CW CR:Addr}{H H':Hp}{o:Addr}{t:Int}{v:V}{s:Int}{kr st en x C2 dz:Addr}(hx:H x=some (.ins C2 dz []))(e:BtO x H H')(h:WrO CW CR H o t v s kr st en):WrO CW CR H' o t v s kr st en:=by
 obtain⟨⟨dx,h1⟩,dy,h2⟩:=h;have n1:o ≠ x:=aN h1 hx (by intro z;cases z)
 have n2:kr ≠ x:=aN h2 hx (by intro z;cases z)
 exact⟨⟨dx,e _ _ n1 h1⟩,dy,e _ _ n2 h2⟩
def StO(K:Frag)(H:Hp)(st:Addr)(pl tm:Int)(b hh aa:Addr):Prop:=SqT K H st [.int pl,.int tm,.ref b,.ref hh,.ref aa]
def fO(K:Frag)(C:Addr):Sp:=fun us H Q _=>∃(r st en b hh aa:Addr)(pl tm p:Int)(ys:List V),us=[.ref r,.int p]/\RowO C H r st en/\StO K H st pl tm b hh aa/\H en=some (.tup ys)/\pl <= p/\∀(a:Addr)(H':Hp),aq H H'->H' a=some (.tup (ys.take (p - pl).toNat))->Q (.ref a) H'
def iV(K:Frag)(CW CR:Addr):Sp:=fun us H Q _=>∃(o dx p st en:Addr)(t s:Int)(v:V)(ys:List V),us=[.ref o,.ref p]/\H o=some (.ins CW dx [])/\SqT K H p [.int t,v,.int s,.ref st,.ref en]/\SqT K H en ys/\∀(kr:Addr)(H':Hp),H kr=none->BtO o H H'->WrO CW CR H' o t v s kr st en->Q .non H'
def lN(K:Frag)(CW CR:Addr):Sp:=fun us H Q _=>∃(o kr st en:Addr)(t s:Int)(v:V),us=[.ref o]/\WrO CW CR H o t v s kr st en/\∀(p:Addr)(H':Hp),aq H H'->H' p=some (.tup [.int t,v,.int s,.ref st,.ref en])->Q (.ref p) H'
def spFS:Sp:=fun us H Q _=>∃b:Addr,us=[.ref b]/\∀(st e1 e2:Addr)(o1 o2:Obj)(H':Hp),aq H H'->H' st=some (.tup [.int 0,.int 0,.ref b,.ref e1,.ref e2])->H' e1=some (.frz o1 (.tup []))->o1.dict=none->H' e2=some (.frz o2 (.tup []))->o2.dict=none->Q (.ref st) H'
def spFW(CW CR:Addr):Sp:=fun us H Q _=>∃b:Addr,us=[.ref b]/\∀(o kr st en e1 e2:Addr)(o1 o2:Obj)(H':Hp),aq H H'->WrO CW CR H' o 0 .non 0 kr st en->H' st=some (.tup [.int 0,.int 0,.ref b,.ref e1,.ref e2])->H' e1=some (.frz o1 (.tup []))->o1.dict=none->H' e2=some (.frz o2 (.tup []))->o2.dict=none->H' en=some (.tup [])->Q (.ref o) H'
theorem fP{α:Type}{a b c d:α}{r:List α}:atI (a :: b :: c :: d :: r) 3=some d:=bW (j:=3) rfl
theorem vp{α:Type}{a b c d e:α}{r:List α}:atI (a :: b :: c :: d :: e :: r) 4=some e:=bW (j:=4) rfl
theorem eP{α:Type}{a b c:α}{r:List α}:atI (a :: b :: c :: r) 2=some c:=bW (j:=2) rfl
theorem oj(ys:List V)(k:Nat):cx ys none (some (k:Int))=ys.take k:=by
 unfold cx;rw[HT.eR,HT.dN,List.drop_zero,Nat.sub_zero];by_cases h:k <= ys.length
 ·rw[Nat.min_eq_left h]
 ·rw[Nat.min_eq_right (by lia),take_of_length_le (Nat.le_refl _),take_of_length_le (by lia)]
section
variable{P:Program}{w:World}{K:Frag}{mg:Str->Option Value}{base:Heap}{CR CW:Addr}
theorem scRInit:au ["self","stand","entries"] ["self","stand","entries"] (am pG):=fsc (by decide +kernel)
theorem vq {f:Addr} {fd:FuncData} (F:Fun K "__init__" "Row.__init__" pG f fd) (T:ClR K mg CR) (htuple:mg "tuple"=none):aQ P w K mg base CX0 1 f fd ["self","stand","entries"] (iU K CR):=by
 refine F.ok scRInit (fun vs H Q E h=>?_) (fun cdv A outer s H vs Q E hr h=>?_)
 ·obtain⟨r,dx,st,en,ys,rfl,_⟩:=h;rfl
 ·obtain⟨r,dx,st,en,ys,rfl,hR,he,q⟩:=h;refine⟨_,ae (bu (pv 0) (pv 1) rfl) (aj (bu (pv 0) (bh eU (by rfl) htuple cm (ad (pv 2) ag)) rfl)),?_⟩
  refine ah fun K_ hK_=>?_;refine⟨_,rfl,_,rfl,r,CR,dx,[],rfl,hR,T.cl,T.nS,(by show 0 < 1000;decide),?_⟩
  have he2:SqT K (upd H r (.ins CR dx (aM "stand" (.ref st) []))) en ys:=by
   rcases he with he | he
   ·refine .inl ?_;rcases he with he | ⟨o,he⟩
    ·exact .inl (by rw[aw (aN he hR (by intro z;cases z))];exact he)
    ·exact .inr ⟨o,by rw[aw (aN he hR (by intro z;cases z))];exact he⟩
   ·exact .inr he
  refine hK_ _ _ ?_;refine⟨_,rfl,en,ys,rfl,he2,_,rfl,ex4 r CR dx _ ⟨rfl,ai,T.cl,T.nE,(by show 1 < 1000;decide),?_⟩⟩
  exact q _ (BtO.upd.trans BtO.upd) ai
theorem pJ:au ["self","place"] ["self","place"] (am kR):=fsc (by decide +kernel)
theorem ok_upto {f:Addr} {fd:FuncData} (F:Fun K "up_to" "Row.up_to" kR f fd) (T:ClR K mg CR):aQ P w K mg base CX0 1 f fd ["self","place"] (fO K CR):=by
 refine F.ok pJ (fun vs H Q E h=>?_) (fun cdv A outer s H vs Q E hr h=>?_)
 ·obtain⟨r,st,en,b,hh,aa,pl,tm,p,ys,rfl,_⟩:=h;rfl
 ·obtain⟨r,st,en,b,hh,aa,pl,tm,p,ys,rfl,⟨dx,hR⟩,hst,he,hp,q⟩:=h;refine⟨_,aj <| ax <| bM cK (aD (pv 0) rfl) cv (bQ (aE bV (pv 1) (ar ao (aD (pv 0) rfl) af (fun _ _=>rfl)))),?_⟩;obtain⟨k,hk⟩:=Int.eq_ofNat_of_zero_le (show 0 <= p - pl by lia)
  refine⟨_,rfl,ex5 r CR dx _ _ ⟨rfl,hR,T.cl,T.nE,by kernel_rfl,_,rfl,_,rfl,ex5 r CR dx _ _ ⟨rfl,hR,T.cl,T.nS,by kernel_rfl,st,_,_,_,rfl,rfl,hst,at0,_,_,rfl,rfl,_,rfl,en,ys,rfl,he,fun a H' s' e'=>q a H' s' ?_⟩⟩⟩
  rw[e',hk,oj];rfl
theorem scWInit:au ["self","parts"] ["self","parts"] (am pH):=fsc (by decide +kernel)
theorem gQ{o x:Addr}{H H':Hp}{ys:List V}{C dx:Addr}{fs:List (Str × V)}(b:BtO o H H')(ho:H o=some (.ins C dx fs))(h:SqT K H x ys):SqT K H' x ys:=by
 rcases h with h | h
 ·refine .inl ?_;rcases h with h | ⟨u,h⟩
  ·exact .inl (b _ _ (aN h ho (by intro z;cases z)) h)
  ·exact .inr ⟨u,b _ _ (aN h ho (by intro z;cases z)) h⟩
 ·exact .inr h
theorem vt {f:Addr} {fd:FuncData} (F:Fun K "__init__" "Written.__init__" pH f fd) (T:ClW K mg CW) (TR:ClR K mg CR) (Mr:fe P w K mg base CR 1 ["self","stand","entries"] (iU K CR)):aQ P w K mg base CX0 3 f fd ["self","parts"] (iV K CW CR):=by
 refine F.ok scWInit (fun vs H Q E h=>?_) (fun cdv A outer s H vs Q E hr h=>?_)
 ·obtain⟨o,dx,p,st,en,t,s,v,ys,rfl,_⟩:=h;rfl
 ·obtain⟨o,dx,p,st,en,t,s,v,ys,rfl,hO,hp,he,q⟩:=h;have r2:bj 2 _:=hr.mono (by decide)
  refine⟨_,ae (bu (pv 0) (ar ao (pv 1) af (fun _ _=>rfl)) rfl) <| ae (bu (pv 0) (ar ao (pv 1) af (fun _ _=>rfl)) rfl) <| ae (bu (pv 0) (ar ao (pv 1) af (fun _ _=>rfl)) rfl) <|
   aj (bu (pv 0) (cz Mr r2 TR.mgC (ad (ar ao (pv 1) af (fun _ _=>rfl)) (ad (ar ao (pv 1) af (fun _ _=>rfl)) ag))) rfl),?_⟩
  refine ah fun K_ hK_=>?_;refine⟨_,rfl,ex4 p _ _ _ ⟨rfl,rfl,hp,at0,_,rfl,o,CW,dx,[],rfl,hO,T.cl,T.nT,(by show 0 < 1000;decide),?_⟩⟩
  have b1:BtO o H (upd H o (.ins CW dx (aM "term" (.int t) []))):=BtO.upd;refine hK_ _ _ (ah fun K_ hK_=>?_);refine⟨_,rfl,ex4 p _ _ _ ⟨rfl,rfl,gQ b1 hO hp,at1,_,rfl,ex4 o CW dx _ ⟨rfl,ai,T.cl,T.nV,(by show 1 < 1000;decide),?_⟩⟩⟩
  have b2:=b1.trans (BtO.upd (u:=.ins CW dx (aM "vote" v (aM "term" (.int t) []))));refine hK_ _ _ (ah fun K_ hK_=>?_);refine⟨_,rfl,ex4 p _ _ _ ⟨rfl,rfl,gQ b2 hO hp,eP,_,rfl,ex4 o CW dx _ ⟨rfl,ai,T.cl,T.nS,(by show 2 < 1000;decide),?_⟩⟩⟩
  have b3:=b2.trans (BtO.upd (u:=.ins CW dx (aM "settled_place" (.int s) (aM "vote" v (aM "term" (.int t) [])))));have e3:upd (upd (upd H o (.ins CW dx (aM "term" (.int t) []))) o (.ins CW dx (aM "vote" v (aM "term" (.int t) [])))) o (.ins CW dx (aM "settled_place" (.int s) (aM "vote" v (aM "term" (.int t) [])))) o=some (.ins CW dx (aM "settled_place" (.int s) (aM "vote" v (aM "term" (.int t) [])))):=ai;generalize upd (upd (upd H o (.ins CW dx (aM "term" (.int t) []))) o (.ins CW dx (aM "vote" v (aM "term" (.int t) [])))) o (.ins CW dx (aM "settled_place" (.int s) (aM "vote" v (aM "term" (.int t) []))))=H3 at b3 e3 ⊢;refine hK_ _ _ ?_;refine⟨_,rfl,ex4 p _ _ _ ⟨rfl,rfl,gQ b3 hO hp,fP,_,rfl,ex4 p _ _ _ ⟨rfl,rfl,gQ b3 hO hp,vp,?_⟩⟩⟩;intro kr dk nk nd ndk;have nk':upd H3 dk (.own kr) kr=none:=by rw[aw ndk.symm];exact nk
  have s4:aq H3 (upd (upd H3 dk (.own kr)) kr (.ins CR dk [])):=(aq.new nd).trans (aq.new nk');refine(ex5 kr dk st en ys ⟨rfl,ai,?_,fun H5 b5 e5=>⟨rfl,?_⟩⟩)
  ·have:=gQ b3 hO he;rcases this with h | h
   ·refine .inl ?_;rcases h with h | ⟨u,h⟩
    ·exact .inl (s4 _ _ h)
    ·exact .inr ⟨u,s4 _ _ h⟩
   ·exact .inr h
  ·have nko:kr ≠ o:=(ak e3 nk).symm;have e5o:H5 o=some (.ins CW dx (aM "settled_place" (.int s) (aM "vote" v (aM "term" (.int t) [])))):=b5 _ _ nko.symm (s4 _ _ e3);refine⟨_,rfl,ex4 o CW dx _ ⟨rfl,e5o,T.cl,T.nK,(by show 3 < 1000;decide),?_⟩⟩
   have hkr:H kr=none:=by
    cases e:H kr with
    | none=>rfl
    | some u=>exact absurd (b3 _ _ nko e) (by rw[nk];intro z;cases z)
   refine q kr _ hkr (fun c u n e=>?_) ⟨⟨dx,ai⟩,dk,by rw[aw nko];exact e5⟩
   rw[aw n];exact b5 _ _ (ak e hkr) (s4 _ _ (b3 _ _ n e))
theorem scWTold:au ["self"] ["self"] (am pI):=fsc (by decide +kernel)
theorem vv {f:Addr} {fd:FuncData} (F:Fun K "told" "Written.told" pI f fd) (T:ClW K mg CW) (TR:ClR K mg CR):aQ P w K mg base CX0 1 f fd ["self"] (lN K CW CR):=by
 refine F.ok scWTold (fun vs H Q E h=>?_) (fun cdv A outer s H vs Q E hr h=>?_)
 ·obtain⟨o,kr,st,en,t,s,v,rfl,_⟩:=h;rfl
 ·obtain⟨o,kr,st,en,t,s,v,rfl,⟨⟨dx,h1⟩,dy,h2⟩,q⟩:=h;have hs16:sizeLine=16777216:=sizeLine_eq;refine⟨_,aj <| ax <| aR (ad (aD (pv 0) rfl) (ad (aD (pv 0) rfl) (ad (aD (pv 0) rfl) (ad (aD (aD (pv 0) rfl) rfl) (ad (aD (aD (pv 0) rfl) rfl) ag))))),?_⟩;refine⟨_,rfl,o,CW,dx,_,_,rfl,h1,T.cl,T.nT,by kernel_rfl,_,rfl,o,CW,dx,_,_,rfl,h1,T.cl,T.nV,by kernel_rfl,_,rfl,o,CW,dx,_,_,rfl,h1,T.cl,T.nS,by kernel_rfl,
   _,rfl,o,CW,dx,_,_,rfl,h1,T.cl,T.nK,by kernel_rfl,kr,CR,dy,_,_,rfl,h2,TR.cl,TR.nS,by kernel_rfl,_,rfl,o,CW,dx,_,_,rfl,h1,T.cl,T.nK,by kernel_rfl,kr,CR,dy,_,_,rfl,h2,TR.cl,TR.nE,by kernel_rfl,(show 5 <= sizeLine by lia),fun p H' np s' e'=>q p H' s' e'⟩
theorem scFS:au ["bench"] ["bench"] (am sFS):=fsc (by decide +kernel)
theorem ok_fs {f:Addr} {fd:FuncData} (F:Fun K "first_stand" "first_stand" sFS f fd):aQ P w K mg base CX0 1 f fd ["bench"] spFS:=by
 refine F.ok scFS (fun vs H Q E h=>?_) (fun cdv A outer s H vs Q E hr h=>?_)
 ·obtain⟨b,rfl,_⟩:=h;rfl
 ·obtain⟨b,rfl,q⟩:=h;have hs16:sizeLine=16777216:=sizeLine_eq;refine⟨_,aj <| ax <| aR (ad af (ad af (ad (pv 0) (ad iO (ad iO ag))))),?_⟩;refine⟨_,rfl,fun e1 n1=>?_⟩;intro e2 n2;have s1:=aq.new (o:=.frz { cls:=.type "tuple",data:=.seq #[] } (.tup [])) n1;have s2:=aq.new (o:=.frz { cls:=.type "tuple",data:=.seq #[] } (.tup [])) n2;refine⟨(show 5 <= sizeLine by lia),fun st H' ns s3 e3=>q st e1 e2 _ _ H' ((s1.trans s2).trans s3) e3 (s3 _ _ (s2 _ _ ai)) rfl (s3 _ _ ai) rfl⟩
theorem scFW:au ["bench"] ["bench"] (am sFW):=fsc (by decide +kernel)
theorem ok_fw {f:Addr} {fd:FuncData} (F:Fun K "first_written" "first_written" sFW f fd) (T:ClW K mg CW) (Fs:aV P w K mg base 1 "first_stand" ["bench"] spFS) (Mw:fe P w K mg base CW 3 ["self","parts"] (iV K CW CR)):aQ P w K mg base CX0 5 f fd ["bench"] (spFW CW CR):=by
 refine F.ok scFW (fun vs H Q E h=>?_) (fun cdv A outer s H vs Q E hr h=>?_)
 ·obtain⟨b,rfl,_⟩:=h;rfl
 ·obtain⟨b,rfl,q⟩:=h;have r1:bj 1 _:=hr.mono (by decide)
  have r4:bj 4 _:=hr.mono (by decide)
  have hs16:sizeLine=16777216:=sizeLine_eq;refine⟨_,aj <| ax <| cz Mw r4 T.mgC (ad (aR (ad af (ad cU (ad af (ad (aB Fs r1 (ad (pv 0) ag)) (ad (aR ag) ag)))))) ag),?_⟩;refine⟨_,rfl,b,rfl,fun st e1 e2 o1 o2 H1 s1 h1 h2 d1 h3 d2=>⟨Nat.zero_le _,fun en H2 n2 s2 h4=>⟨(show 5 <= sizeLine by lia),fun p H3 n3 s3 h5=>?_⟩⟩⟩
  intro o dx no nd ndo;have no':upd H3 dx (.own o) o=none:=by rw[aw ndo.symm];exact no
  have s4:aq H3 (upd (upd H3 dx (.own o)) o (.ins CW dx [])):=(aq.new nd).trans (aq.new no');refine⟨o,dx,p,st,en,0,0,.non,[],rfl,ai,SqT.of (s4 _ _ h5),SqT.of (s4 _ _ (s3 _ _ h4)),fun kr H5 nk b5 w5=>⟨rfl,?_⟩⟩;have s35:aq H3 H5:=fun c u e=>b5 _ _ (ak e no) (s4 _ _ e);exact q o kr st en e1 e2 o1 o2 H5 (s1.trans (s2.trans (s3.trans s35))) w5 (s35 _ _ (s3 _ _ (s2 _ _ h1))) (s35 _ _ (s3 _ _ (s2 _ _ h2))) d1 (s35 _ _ (s3 _ _ (s2 _ _ h3))) d2 (s35 _ _ (s3 _ _ h4))
end
open K43T (Kvs Las Wk aS bR cH cu dF)
abbrev sAD:Stmt:=top 94
abbrev sTF:Stmt:=top 95
abbrev Dd:=Option (Str × Int × Wk)
abbrev En:=Int × Dd
noncomputable def DdO(H:Hp)(d:Addr):Dd->Prop
 | none=>H d=some (.tup [.str "first"])
 | some (x,n,wk)=>1 <= n/\∃t,H d=some (.tup [.str "ask",.str x,.int n,.ref t])/\H t=some (.tup wk.vs)
def EnO(H:Hp)(a:Addr)(e:En):Prop:=∃d,H a=some (.tup [.int e.1,.ref d])/\DdO H d e.2
def Tk(H H':Hp):Prop:=∀a xs,H a=some (.tup xs)->H' a=some (.tup xs)
theorem Tk.of{H H':Hp}(s:aq H H'):Tk H H':=fun a xs e=>s _ _ e
theorem Tk.refl(H:Hp):Tk H H:=fun _ _ e=>e
theorem Tk.trans{H H1 H2:Hp}(a:Tk H H1)(b:Tk H1 H2):Tk H H2:=fun c xs e=>b c xs (a c xs e)
theorem Tk.bt{o:Addr}{H H':Hp}{C dx:Addr}{fs:List (Str × V)}(b:BtO o H H')(ho:H o=some (.ins C dx fs)):Tk H H':=fun a xs e=>b _ _ (aN e ho (by intro z;cases z)) e
theorem DdO.tk{H H':Hp}{d:Addr}{x:Dd}(k:Tk H H')(h:DdO H d x):DdO H' d x:=by
 cases x with
 | none=>exact k _ _ h
 | some q =>
  obtain⟨a,n,wk⟩:=q;obtain⟨h1,t,h2,h3⟩:=h;exact⟨h1,t,k _ _ h2,k _ _ h3⟩
theorem EnO.tk{H H':Hp}{a:Addr}{e:En}(k:Tk H H')(h:EnO H a e):EnO H' a e:=by
 obtain⟨d,h1,h2⟩:=h;exact⟨d,k _ _ h1,h2.tk k⟩
theorem bB{H H':Hp}{es:List Addr}{xs:List En}(k:Tk H H')(h:Paired (EnO H) es xs):Paired (EnO H') es xs:=Paired.imp' (fun _ _ q=>q.tk k) h
noncomputable def dv(s:Kvs × Las)(e:En):Kvs × Las:=match e.2 with
 | none=>s
 | some (x,n,wk)=>(cu s.1 s.2 x n wk,dF s.1 s.2 x n wk)
def ca(s:Kvs × Las)(xs:List En):Kvs × Las:=xs.foldl dv s
theorem vw{s:Kvs × Las}(h:bR s.1 s.2)(e:En):bR (dv s e).1 (dv s e).2:=by
 unfold dv;cases e.2 with
 | none=>exact h
 | some q=>exact h.step _ _ _
theorem dQ{s:Kvs × Las}(h:bR s.1 s.2):∀xs:List En,bR (ca s xs).1 (ca s xs).2
 | []=>h
 | e :: r=>dQ (s:=dv s e) (vw h e) r
theorem sQ(kvs:Kvs)(las:Las)(x:Str)(n:Int)(wk:Wk):(cu kvs las x n wk).length <= kvs.length + 1:=by
 unfold cu;have:=K43T.to_len kvs wk;split
 ·lia
 ·split
  ·lia
  ·exact this
theorem vx(kvs:Kvs)(las:Las)(x:Str)(n:Int)(wk:Wk):(dF kvs las x n wk).length <= las.length + 1:=by
 unfold dF;split
 ·lia
 ·split
  ·lia
  ·exact K43T.og _ _ _
theorem sR(s:Kvs × Las)(e:En):(dv s e).1.length <= s.1.length + 1/\(dv s e).2.length <= s.2.length + 1:=by
 unfold dv;cases e.2 with
 | none=>exact⟨Nat.le_succ _,Nat.le_succ _⟩
 | some q=>exact⟨sQ _ _ _ _ _,vx _ _ _ _ _⟩
theorem cB:∀(xs:List En)(s:Kvs × Las),(ca s xs).1.length <= s.1.length + xs.length/\(ca s xs).2.length <= s.2.length + xs.length
 | [],s=>⟨Nat.le_refl _,Nat.le_refl _⟩
 | e :: r,s=>by
  have h1:=sR s e;have h2:=cB r (dv s e);show (ca (dv s e) r).1.length <= _/\(ca (dv s e) r).2.length <= _;rw[length_cons];lia
theorem kS{xs:List En}{i:Nat}{e:En}(s:Kvs × Las)(h:xs[i]?=some e):ca s (xs.take (i + 1))=dv (ca s (xs.take i)) e:=by
 unfold ca;rw[List.take_add_one,h,List.foldl_append];rfl
def spAD(K:Frag)(CT:Addr):Sp:=fun us H Q _=>∃(T d l en:Addr)(s:Kvs × Las)(es:List Addr)(xs:List En),us=[.ref T,.ref en]/\aS K CT H T d l s.1 s.2/\bR s.1 s.2/\s.1.length <= 400/\s.2.length <= 400/\H en=some (.tup (es.map V.ref))/\Paired (EnO H) es xs/\es.length <= 400 /\
 ∀(r:Addr)(H':Hp),aS K CT H' T d l (ca s xs).1 (ca s xs).2->cH d l H H'->Q (.ref r) H'
theorem cH.trans{d l:Addr}{H H1 H2:Hp}(a:cH d l H H1)(b:cH d l H1 H2):cH d l H H2:=fun c u e n1 n2=>b c u (a c u e n1 n2) n1 n2
theorem cH.of{d l:Addr}{H H1:Hp}(s:aq H H1):cH d l H H1:=fun c u e _ _=>s _ _ e
theorem cH.tk{K:Frag}{C T d l:Addr}{H H':Hp}{kvs:Kvs}{las:Las}(t:aS K C H T d l kvs las)(b:cH d l H H'):Tk H H':=fun a xs e=>by
 obtain⟨lk,h2,_⟩:=t.hl;exact b _ _ e (aN e t.hd (by intro z;cases z)) (aN e h2 (by intro z;cases z))
theorem neFA:decide (V.str (Str.ofString "first")=V.str (Str.ofString "ask"))=false:=by decide +kernel
section
variable{P:Program}{w:World}{K:Frag}{mg:Str->Option Value}{base:Heap}{CT CR CW:Addr}
noncomputable abbrev nAD:List Str:=["table","entries","told","entry","deed"]
theorem scAD:au nAD ["table","entries"] (am sAD):=fsc (by decide +kernel)
theorem aS.same{T d l:Addr}{H H':Hp}{kvs:Kvs}{las:Las}(e:aq H H')(h:aS K CT H T d l kvs las):aS K CT H' T d l kvs las:=by
 obtain⟨⟨dx,h1⟩,h2,⟨lk,h3,h4⟩,h5⟩:=h;refine⟨⟨dx,e _ _ h1⟩,e _ _ h2,⟨lk,e _ _ h3,?_⟩,h5⟩;exact Paired.imp' (fun p q hh=>by
  obtain⟨a1,t,a2,a3⟩:=hh;refine⟨a1,t,a2,?_⟩;rcases a3 with h | h
  ·refine .inl ?_;rcases h with h | ⟨u,h⟩
   ·exact .inl (e _ _ h)
   ·exact .inr ⟨u,e _ _ h⟩
  ·exact .inr h) h4
theorem ok_ad {f:Addr} {fd:FuncData} (F:Fun K "asks_done" "asks_done" sAD f fd) (T:K43T.Cl K mg CT) (htuple:mg "tuple"=none) (Md:aW P w K mg base CT 3 "does" ["self","asker","number","work"] (K43T.pE K CT)):aQ P w K mg base CX0 4 f fd ["table","entries"] (spAD K CT):=by
 refine F.ok scAD (fun vs H Q E h=>?_) (fun cdv A outer s H vs Q E hr h=>?_)
 ·obtain⟨T',d,l,en,s,es,xs,rfl,_⟩:=h;rfl
 ·obtain⟨T',d,l,en,st,es,xs,rfl,hT,hok,k4,l4,hen,hes,e4,q⟩:=h;have nd:=scAD.nd;have hs16:sizeLine=16777216:=sizeLine_eq;refine⟨_,ae (aC (i:=2) nd rfl (Or.inl rfl) (cL ag)) <|
   ae (dY PassesOwn.never rfl (gE (pv 1)) (aA (i:=3) nd rfl (Or.inl rfl)) <|
    ae (aC (i:=4) nd rfl (Or.inl rfl) (ar ao (pv 3) af (fun _ _=>rfl))) <|
    aj (aX (aH cj (ar ao (pv 4) af (fun _ _=>rfl)) aU (aG _))
     (aj (bG (kj PySem.F.plainAttrs_list PySem.F.slot_list_append PySem.F.type_list_append ga (pv 2) (ad (aE iQ (aR (ad (ar ao (pv 4) af (fun _ _=>rfl)) (ad (ar ao (pv 4) af (fun _ _=>rfl)) ag)))
      (bg Md T.cl hr (pv 0) (ad (ar ao (pv 4) af (fun _ _=>rfl)) (ad (ar ao (pv 4) af (fun _ _=>rfl)) (ad (ar ao (pv 4) af (fun _ _=>rfl)) ag))))) ag)))) aK)) <|
   aj (ax (bh eK (by rfl) htuple cm (ad (pv 2) ag))),?_⟩
  dsimp only[bv,Cx.nox];have hel:es.length=xs.length:=Paired.length hes;refine ah fun K_ hK_=>?_;refine⟨Nat.zero_le _,fun l0 H1 n1 s1 e1=>?_⟩;refine hK_ _ _ (ah fun K_ hK_=>?_);refine⟨_,rfl,en,rfl,⟨_,SqT.of (s1 _ _ hen)⟩,lq (K:=K) (xs:=es.map V.ref) (fun i σ Hx=>∃(v3 v4:Option V)(rs:List Addr),σ=[some (V.ref T'),some (V.ref en),some (V.ref l0),v3,v4]/\Hx l0=some (.lst (rs.map V.ref))/\rs.length <= i/\aS K CT Hx T' d l (ca st (xs.take i)).1 (ca st (xs.take i)).2/\cH d l H Hx)
   ⟨none,none,[],rfl,e1,Nat.zero_le _,aS.same s1 hT,cH.of s1⟩ ?_ ?_ ?_⟩
  ·rintro i σ Hx hi ⟨v3,v4,rs,rfl,h1,h2,h3,h4⟩;exact SqT.of (cH.tk hT h4 _ _ hen)
  ·rintro i x σ Hx hx ⟨v3,v4,rs,rfl,h1,h2,h3,h4⟩;rw[getElem?_map]at hx;cases he:es[i]? with
   | none=>rw[he]at hx;cases hx
   | some a =>
    rw[he]at hx;cases hx;have hil:i < es.length:=(List.getElem?_eq_some_iff.mp he).1;have hix:i < xs.length:=by lia
    have hxe:xs[i]?=some xs[i]:=getElem?_eq_getElem hix;have hE:EnO Hx a xs[i]:=by
     have:=Paired.zip hes (es[i],xs[i]) (List.mem_iff_getElem.mpr ⟨i,by rw[List.length_zip];lia,List.getElem_zip⟩)
     have hh:a=es[i]:=by
      rw[getElem?_eq_getElem hil]at he;exact(Option.some.inj he).symm
     rw[hh];exact EnO.tk (cH.tk hT h4) this
    have hrun:=kS st hxe;have rl:=cB (xs.take i) st;have tl:(xs.take i).length <= i:=by rw[length_take];lia
    have rok:=dQ hok (xs.take i);generalize xs[i]=e at hE hrun;obtain⟨tm,dd⟩:=e;obtain⟨dA,hA1,hA2⟩:=hE;refine⟨_,rfl,ex4 a _ _ _ ⟨rfl,rfl,SqT.of hA1,at1,?_⟩⟩;cases dd with
    | none =>
     have hA2:Hx dA=some (.tup [.str "first"]):=hA2
     refine⟨_,rfl,ex4 dA _ _ _ ⟨rfl,rfl,SqT.of hA2,at0,rfl,_,rfl,?_⟩⟩;rw[neFA];refine aY ?_;refine(ex3 _ _ rs ⟨rfl,h1,by lia,?_,h4⟩)
     rw[hrun];exact h3
    | some qq =>
     obtain⟨x,n,wk⟩:=qq;obtain⟨n1',t,hA2,hA3⟩:=hA2;refine⟨_,rfl,ex4 dA _ _ _ ⟨rfl,rfl,SqT.of hA2,at0,rfl,_,rfl,?_⟩⟩;rw[decide_eq_true rfl];refine bJ ?_;refine⟨_,rfl,.inl ⟨rfl,_,SqL.of h1⟩,_,rfl,ex4 dA _ _ _ ⟨rfl,rfl,SqT.of hA2,at1,_,rfl,ex4 dA _ _ _ ⟨rfl,rfl,SqT.of hA2,eP,(show 2 <= sizeLine by lia),fun p2 H2 np s2 e2=>?_⟩⟩⟩
     have hT2:=aS.same s2 h3;obtain⟨dx,hob⟩:=hT2.ob;refine⟨_,rfl,T',dx,_,rfl,hob,by unfold K43T.dB;kernel_rfl,_,rfl,dA,_,oo rfl rfl ⟨SqT.of (s2 _ _ hA2),at1,_,rfl,dA,_,oo rfl rfl ⟨SqT.of (s2 _ _ hA2),eP,_,rfl,dA,_,oo rfl rfl ⟨SqT.of (s2 _ _ hA2),fP,
      T',d,l,t,_,_,x,n,wk,rfl,hT2,by lia,by lia,rok.ik,n1',SqT.of (s2 _ _ hA3),fun r H3 nr er hT3 b3=>?_⟩⟩⟩⟩
     have k3:=cH.tk hT2 b3;have nl0:l0 ≠ d/\l0 ≠ l:=by
      obtain⟨lk,q2,_⟩:=hT.hl;exact⟨(ak hT.hd n1).symm,(ak q2 n1).symm⟩
     refine⟨p2,r,oo rfl rfl ⟨k3 _ _ e2,er,(show 2 + 2 <= sizeLine by lia),fun c H4 s4 e4'=>?_⟩⟩
     have h14:H4 l0=some (.lst (rs.map V.ref)):=s4 _ _ (b3 _ _ (s2 _ _ h1) nl0.1 nl0.2);refine(ex3 l0 _ _ ⟨rfl,rfl,h14,by rw[length_map];lia,fun H5 k5 e5=>?_⟩)
     have hT4:=aS.same s4 hT3;have b14:cH d l H H4:=cH.trans h4 (cH.trans (cH.of s2) (cH.trans b3 (cH.of s4)));have k5':∀c u,H c=some u->c ≠ d->c ≠ l->H5 c=some u:=fun c u e n1' n2'=>k5 _ _ (ak e n1) (b14 _ _ e n1' n2');refine⟨_,_,rs ++ [c],rfl,by rw[e5,List.map_append];rfl,by rw[length_append];show _ + 1 <= _;lia,?_,k5'⟩
     rw[hrun];obtain⟨⟨dy,g1⟩,g2,⟨lk,g3,g4⟩,g5⟩:=hT4;refine⟨⟨dy,k5 _ _ (aN g1 h14 (by intro z;cases z)) g1⟩,k5 _ _ (aN g2 h14 (by intro z;cases z)) g2,⟨lk,k5 _ _ (aN g3 h14 (by intro z;cases z)) g3,?_⟩,g5⟩
     exact Paired.imp' (fun p q hh=>by
      obtain⟨a1,t',a2,a3⟩:=hh;refine⟨a1,t',a2,?_⟩;rcases a3 with h | h
      ·refine .inl ?_;rcases h with h | ⟨u,h⟩
       ·exact .inl (k5 _ _ (aN h h14 (by intro z;cases z)) h)
       ·exact .inr ⟨u,k5 _ _ (aN h h14 (by intro z;cases z)) h⟩
      ·exact .inr h) g4
  ·rintro σ Hx ⟨v3,v4,rs,rfl,h1,h2,h3,h4⟩;rw[length_map,take_of_length_le (by lia)]at h3
   refine hK_ _ _ ?_;refine⟨_,rfl,l0,_,rfl,SqL.of h1,fun r H2 nr s2 e2=>?_⟩;exact q r H2 (aS.same s2 h3) (cH.trans h4 (cH.of s2))
end
end K43
namespace K43
open PySem L2
open K43T (Kvs Las Wk aS bR cH cu dF aI aT)
abbrev pK:Stmt:=aP (top 96) 0
noncomputable abbrev flM (nm:Str) (wa sz:Int) (wr rl bd yl sd gl fl sl:Addr):List (Str × V):=aM "shown" (.ref sl) (aM "found" (.ref fl) (aM "given" (.ref gl) (aM "seat" (.non) (aM "sheets" (.ref sd) (aM "yes" (.ref yl) (aM "quiet" (.int 0) (aM "known" (.non) (aM "role" (.str "plain") (aM "board" (.ref bd) (aM "records" (.ref rl) (aM "kept" (.ref wr) (aM "size" (.int sz) (aM "wait" (.int wa) (aM "name" (.str nm) []))))))))))))))
theorem gz {st en:Addr}:(flR st en).lookup ("stand":Str)=some (.ref st):=by kernel_rfl
theorem vy {st en:Addr}:(flR st en).lookup ("entries":Str)=some (.ref en):=by kernel_rfl
theorem gR {t:Int} {v:V} {s:Int} {kr:Addr}:(flW t v s kr).lookup ("term":Str)=some (.int t):=by kernel_rfl
theorem flW_s {t:Int} {v:V} {s:Int} {kr:Addr}:(flW t v s kr).lookup ("settled_place":Str)=some (.int s):=by kernel_rfl
theorem flW_k {t:Int} {v:V} {s:Int} {kr:Addr}:(flW t v s kr).lookup ("kept_row":Str)=some (.ref kr):=by kernel_rfl
theorem sS {st en:Addr}:(flR st en).lookup ("up_to":Str)=none:=by kernel_rfl
structure ClM(K:Frag)(mg:Str->Option Value)(C:Addr):Prop where
 cl:Cls K C
 n0:bF K C "name"
 n1:bF K C "wait"
 n2:bF K C "size"
 n3:bF K C "kept"
 n4:bF K C "records"
 n5:bF K C "board"
 n6:bF K C "role"
 n7:bF K C "known"
 n8:bF K C "quiet"
 n9:bF K C "yes"
 n10:bF K C "sheets"
 n11:bF K C "seat"
 n12:bF K C "given"
 n13:bF K C "found"
 n14:bF K C "shown"
 mgC:mg "Mind"=some (.ref C)
def bT(K:Frag)(H:Hp)(st:Addr)(pl tm:Int)(b:Addr)(hk:List (Key × V))(hq:List (Str × Int × V)):Prop:=∃(hh aa:Addr)(o:Obj)(ps as:List V),H st=some (.tup [.int pl,.int tm,.ref b,.ref hh,.ref aa])/\H hh=some (.frz o (.tup ps))/\o.dict=none/\ps.length=hk.length /\
 (∀(j:Nat)(kv:Key × V),hk[j]?=some kv->∃b,ps[j]?=some (.ref b)/\SqT K H b [kV kv.1,kv.2])/\SqT K H aa as/\as.length=hq.length/\hq.length <= 900/\(∀(j:Nat)(q:Str × Int × V),hq[j]?=some q->∃b,as[j]?=some (.ref b)/\SqT K H b [.str q.1,.int q.2.1,q.2.2])
theorem cT{K:Frag}{H H':Hp}{x:Addr}{ys:List V}(e:aq H H')(h:SqT K H x ys):SqT K H' x ys:=by
 rcases h with h | h
 ·refine .inl ?_;rcases h with h | ⟨u,h⟩
  ·exact .inl (e _ _ h)
  ·exact .inr ⟨u,e _ _ h⟩
 ·exact .inr h
theorem bT.same{K:Frag}{H H':Hp}{st:Addr}{pl tm:Int}{b:Addr}{hk:List (Key × V)}{hq:List (Str × Int × V)}(e:aq H H')(h:bT K H st pl tm b hk hq):bT K H' st pl tm b hk hq:=by
 obtain⟨hh,aa,o,ps,as,h1,h2,h3,h4,h5,h6,h7,h8,h9⟩:=h;refine⟨hh,aa,o,ps,as,e _ _ h1,e _ _ h2,h3,h4,fun j kv q=>?_,cT e h6,h7,h8,fun j kv q=>?_⟩
 ·obtain⟨b,b1,b2⟩:=h5 j kv q;exact⟨b,b1,cT e b2⟩
 ·obtain⟨b,b1,b2⟩:=h9 j kv q;exact⟨b,b1,cT e b2⟩
theorem bT.bt{K:Frag}{H H':Hp}{st:Addr}{pl tm:Int}{b x C dx:Addr}{fs:List (Str × V)}{hk:List (Key × V)}{hq:List (Str × Int × V)}(e:BtO x H H')(hx:H x=some (.ins C dx fs))(h:bT K H st pl tm b hk hq):bT K H' st pl tm b hk hq:=by
 obtain⟨hh,aa,o,ps,as,h1,h2,h3,h4,h5,h6,h7,h8,h9⟩:=h;refine⟨hh,aa,o,ps,as,e _ _ (aN h1 hx (by intro z;cases z)) h1,e _ _ (aN h2 hx (by intro z;cases z)) h2,h3,h4,fun j kv q=>?_,gQ e hx h6,h7,h8,fun j kv q=>?_⟩
 ·obtain⟨b,b1,b2⟩:=h5 j kv q;exact⟨b,b1,gQ e hx b2⟩
 ·obtain⟨b,b1,b2⟩:=h9 j kv q;exact⟨b,b1,gQ e hx b2⟩
theorem aS.bt{K:Frag}{CT C x T d l dz:Addr}{H H':Hp}{kvs:Kvs}{las:Las}{fs:List (Str × V)}(e:BtO x H H')(hx:H x=some (.ins C dz fs))(nT:T ≠ x)(h:aS K CT H T d l kvs las):aS K CT H' T d l kvs las:=by
 obtain⟨⟨dx,h1⟩,h2,⟨lk,h3,h4⟩,h5⟩:=h;refine⟨⟨dx,e _ _ nT h1⟩,e _ _ (aN h2 hx (by intro z;cases z)) h2,⟨lk,e _ _ (aN h3 hx (by intro z;cases z)) h3,?_⟩,h5⟩
 exact Paired.imp' (fun p q hh=>by
  obtain⟨a1,t,a2,a3⟩:=hh;exact⟨a1,t,a2,gQ e hx a3⟩) h4
theorem Paired.take'{α β:Type}{R:α->β->Prop}{as:List α}{bs:List β}(h:Paired R as bs)(n:Nat):Paired R (as.take n) (bs.take n):=by
 induction h generalizing n with
 | nil=>rw[List.take_nil,List.take_nil];exact .nil
 | cons r _ ih =>
  cases n with
  | zero=>exact .nil
  | succ k=>exact .cons r (ih k)
noncomputable def dI(hk:List (Key × V))(hq:List (Str × Int × V))(xs:List En)(n:Nat):Kvs × Las:=ca (aI hk,aT hq) (xs.take n)
structure WrG(K:Frag)(CW CR:Addr)(H:Hp)(wr:Addr)(t:Int)(v:V)(s:Int)(kr st en:Addr)(pl tm:Int)(b:Addr)(hk:List (Key × V))(hq:List (Str × Int × V))(es:List Addr)(xs:List En):Prop where
 wo:WrO CW CR H wr t v s kr st en
 so:bT K H st pl tm b hk hq
 ho:H en=some (.tup (es.map V.ref))
 eo:Paired (EnO H) es xs
 el:es.length <= 60
 ps:pl <= s
 ok:bR (aI hk) (aT hq)
 kl:(aI hk).length <= 300
 ll:(aT hq).length <= 300
theorem WrG.same{K:Frag}{CW CR:Addr}{H H':Hp}{wr:Addr}{t:Int}{v:V}{s:Int}{kr st en:Addr}{pl tm:Int}{b:Addr}{hk:List (Key × V)}{hq:List (Str × Int × V)}{es:List Addr}{xs:List En}(e:aq H H')(h:WrG K CW CR H wr t v s kr st en pl tm b hk hq es xs):WrG K CW CR H' wr t v s kr st en pl tm b hk hq es xs:=⟨h.wo.same e,h.so.same e,e _ _ h.ho,bB (Tk.of e) h.eo,h.el,h.ps,h.ok,h.kl,h.ll⟩
theorem WrG.bt{K:Frag}{CW CR:Addr}{H H':Hp}{wr x C2 dz:Addr}{t:Int}{v:V}{s:Int}{kr st en:Addr}{pl tm:Int}{b:Addr}{hk:List (Key × V)}{hq:List (Str × Int × V)}{es:List Addr}{xs:List En}(e:BtO x H H')(hx:H x=some (.ins C2 dz []))(h:WrG K CW CR H wr t v s kr st en pl tm b hk hq es xs):WrG K CW CR H' wr t v s kr st en pl tm b hk hq es xs:=⟨h.wo.bto hx e,h.so.bt e hx,Tk.bt e hx _ _ h.ho,bB (Tk.bt e hx) h.eo,h.el,h.ps,h.ok,h.kl,h.ll⟩
def spTF(K:Frag)(CT CW CR:Addr):Sp:=fun us H Q _=>∃(wr kr st en b:Addr)(t s pl tm:Int)(v:V) (hk:List (Key × V)) (hq:List (Str × Int × V)) (es:List Addr) (xs:List En),us=[.ref wr]/\WrG K CW CR H wr t v s kr st en pl tm b hk hq es xs /\
 ∀(T d l:Addr)(H':Hp),H T=none->H d=none->H l=none->aq H H'->aS K CT H' T d l (dI hk hq xs (s - pl).toNat).1 (dI hk hq xs (s - pl).toNat).2->Q (.ref T) H'
def spMI(K:Frag)(CM CT CW CR:Addr):Sp:=fun us H Q _=>∃(m dx wr rl kr st en b:Addr)(nm:Str)(wa sz t s pl tm:Int)(v:V) (hk:List (Key × V)) (hq:List (Str × Int × V)) (es:List Addr) (xs:List En),us=[.ref m,.str nm,.int wa,.int sz,.ref wr,.ref rl]/\H m=some (.ins CM dx [])/\WrG K CW CR H wr t v s kr st en pl tm b hk hq es xs /\
 ∀(bd d l yl sd gl fl sl:Addr)(H':Hp),BtO m H H'->H' m=some (.ins CM dx (flM nm wa sz wr rl bd yl sd gl fl sl))->H bd=none->H d=none->H l=none->aS K CT H' bd d l (dI hk hq xs (s - pl).toNat).1 (dI hk hq xs (s - pl).toNat).2->H' gl=some (.lst [])->H' fl=some (.lst [])->H' sl=some (.lst [])->H gl=none->H fl=none->H sl=none->Q .non H'
abbrev fm1 (nm:Str):List (Str × V):=aM "name" (.str nm) []
noncomputable abbrev fm2 (nm:Str) (wa:Int):List (Str × V):=aM "wait" (.int wa) (fm1 nm)
noncomputable abbrev fm3 (nm:Str) (wa:Int) (sz:Int):List (Str × V):=aM "size" (.int sz) (fm2 nm wa)
noncomputable abbrev fm4 (nm:Str) (wa:Int) (sz:Int) (wr:Addr):List (Str × V):=aM "kept" (.ref wr) (fm3 nm wa sz)
noncomputable abbrev fm5 (nm:Str) (wa:Int) (sz:Int) (wr:Addr) (rl:Addr):List (Str × V):=aM "records" (.ref rl) (fm4 nm wa sz wr)
noncomputable abbrev fm6 (nm:Str) (wa:Int) (sz:Int) (wr:Addr) (rl:Addr) (bd:Addr):List (Str × V):=aM "board" (.ref bd) (fm5 nm wa sz wr rl)
noncomputable abbrev fm7 (nm:Str) (wa:Int) (sz:Int) (wr:Addr) (rl:Addr) (bd:Addr):List (Str × V):=aM "role" (.str "plain") (fm6 nm wa sz wr rl bd)
noncomputable abbrev fm8 (nm:Str) (wa:Int) (sz:Int) (wr:Addr) (rl:Addr) (bd:Addr):List (Str × V):=aM "known" (.non) (fm7 nm wa sz wr rl bd)
noncomputable abbrev fm9 (nm:Str) (wa:Int) (sz:Int) (wr:Addr) (rl:Addr) (bd:Addr):List (Str × V):=aM "quiet" (.int 0) (fm8 nm wa sz wr rl bd)
noncomputable abbrev sT (nm:Str) (wa:Int) (sz:Int) (wr:Addr) (rl:Addr) (bd:Addr) (yl:Addr):List (Str × V):=aM "yes" (.ref yl) (fm9 nm wa sz wr rl bd)
noncomputable abbrev sU (nm:Str) (wa:Int) (sz:Int) (wr:Addr) (rl:Addr) (bd:Addr) (yl:Addr) (sd:Addr):List (Str × V):=aM "sheets" (.ref sd) (sT nm wa sz wr rl bd yl)
noncomputable abbrev sV (nm:Str) (wa:Int) (sz:Int) (wr:Addr) (rl:Addr) (bd:Addr) (yl:Addr) (sd:Addr):List (Str × V):=aM "seat" (.non) (sU nm wa sz wr rl bd yl sd)
noncomputable abbrev sW (nm:Str) (wa:Int) (sz:Int) (wr:Addr) (rl:Addr) (bd:Addr) (yl:Addr) (sd:Addr) (gl:Addr):List (Str × V):=aM "given" (.ref gl) (sV nm wa sz wr rl bd yl sd)
noncomputable abbrev sX (nm:Str) (wa:Int) (sz:Int) (wr:Addr) (rl:Addr) (bd:Addr) (yl:Addr) (sd:Addr) (gl:Addr) (fl:Addr):List (Str × V):=aM "found" (.ref fl) (sW nm wa sz wr rl bd yl sd gl)
noncomputable abbrev vz (nm:Str) (wa:Int) (sz:Int) (wr:Addr) (rl:Addr) (bd:Addr) (yl:Addr) (sd:Addr) (gl:Addr) (fl:Addr) (sl:Addr):List (Str × V):=aM "shown" (.ref sl) (sX nm wa sz wr rl bd yl sd gl fl)
section
variable{P:Program}{w:World}{K:Frag}{mg:Str->Option Value}{base:Heap}{CT CR CW CM:Addr}
abbrev nTF:List Str:=["kept","row","table"]
theorem scTF:au nTF ["kept"] (am sTF):=fsc (by decide +kernel)
theorem ok_tf {f:Addr} {fd:FuncData} (F:Fun K "table_from" "table_from" sTF f fd) (TW:ClW K mg CW) (TR:ClR K mg CR) (TT:K43T.Cl K mg CT) (Mt:fe P w K mg base CT 1 ["self","held","asked"] (K43T.ff K CT)) (Fa:aV P w K mg base 4 "asks_done" ["table","entries"] (spAD K CT)) (Mu:aW P w K mg base CR 1 "up_to" ["self","place"] (fO K CR)):aQ P w K mg base CX0 5 f fd ["kept"] (spTF K CT CW CR):=by
 refine F.ok scTF (fun vs H Q E h=>?_) (fun cdv A outer s H vs Q E hr h=>?_)
 ·obtain⟨wr,kr,st,en,b,t,s,pl,tm,v,hk,hq,es,xs,rfl,_⟩:=h;rfl
 ·obtain⟨wr,kr,st,en,b,t,s,pl,tm,v,hk,hq,es,xs,rfl,G,q⟩:=h;have nd:=scTF.nd;have r1:bj 1 _:=hr.mono (by decide)
  have r2:bj 2 _:=hr.mono (by decide)
  refine⟨_,ae (aC (i:=1) nd rfl (Or.inl rfl) (aD (pv 0) rfl)) <|
   ae (aC (i:=2) nd rfl (Or.inl rfl) (cz Mt r2 TT.mgC (ad (ar ao (aD (pv 1) rfl) af (fun _ _=>rfl)) (ad (ar ao (aD (pv 1) rfl) af (fun _ _=>rfl)) ag)))) <|
   ae (bG (aB Fa hr (ad (pv 2) (ad (bg Mu TR.cl r1 (pv 1) (ad (aD (pv 0) rfl) ag)) ag)))) <|
   aj (ax (pv 2)),?_⟩
  dsimp only[bv,Cx.nox];obtain⟨⟨dx,hw⟩,dy,hr'⟩:=id G.wo;obtain⟨hh,aa,o,ps,as,h1,h2,h3,h4,h5,h6,h7,h8,h9⟩:=id G.so;refine ah fun K_ hK_=>?_;refine⟨_,rfl,ex5 wr CW dx _ _ ⟨rfl,hw,TW.cl,TW.nK,flW_k,?_⟩⟩;refine hK_ _ _ (ah fun K_ hK_=>?_);refine⟨_,rfl,ex5 kr CR dy _ _ ⟨rfl,hr',TR.cl,TR.nS,gz,ex4 st _ _ _ ⟨rfl,rfl,SqT.of h1,fP,_,rfl,ex5 kr CR dy _ _ ⟨rfl,hr',TR.cl,TR.nS,gz,ex4 st _ _ _ ⟨rfl,rfl,SqT.of h1,vp,?_⟩⟩⟩⟩⟩;intro T dT nT ndT ndTT;have nT':upd H dT (.own T) T=none:=by rw[aw ndTT.symm];exact nT
  have s1:aq H (upd (upd H dT (.own T)) T (.ins CT dT [])):=(aq.new ndT).trans (aq.new nT');refine(ex9 T dT hh aa o ps as hk hq ⟨rfl,ai,s1 _ _ h2,h3,h4,fun j kv q=>?_,cT s1 h6,h7,h8,fun j kv q=>?_,fun d l H2 nd2 nl2 hT bt=>⟨rfl,?_⟩⟩)
  ·obtain⟨b,b1,b2⟩:=h5 j kv q;exact⟨b,b1,cT s1 b2⟩
  ·obtain⟨b,b1,b2⟩:=h9 j kv q;exact⟨b,b1,cT s1 b2⟩
  ·have s2:aq H H2:=fun c u e=>bt _ _ (s1 _ _ e) (ak e nT);have G2:=G.same s2;obtain⟨⟨dx2,hw2⟩,dy2,hr2⟩:=id G2.wo;obtain⟨hh2,aa2,o2,ps2,as2,g1,_⟩:=id G2.so;refine hK_ _ _ (ah fun K_ hK_=>?_);refine(rd2 rfl rfl (ex3 kr dy2 _ ⟨rfl,hr2,sS,_,rfl,ex5 wr CW dx2 _ _ ⟨rfl,hw2,TW.cl,TW.nS,flW_s,ex10 kr st en b hh2 aa2 pl tm s _ ⟨rfl,⟨dy2,hr2⟩,SqT.of g1,G2.ho,G2.ps,fun a H3 s3 e3=>?_⟩⟩⟩));have tl:(es.take (s - pl).toNat).length <= 60:=Nat.le_trans (by rw[length_take];lia) G.el
   refine⟨T,d,l,a,(aI hk,aT hq),es.take (s - pl).toNat,xs.take (s - pl).toNat,rfl,aS.same s3 hT,G.ok,by have:=G.kl;show (aI hk).length <= 400;lia,by have:=G.ll;show (aT hq).length <= 400;lia,by rw[e3,List.map_take],?_,by lia,fun r H4 hT4 b4=>?_⟩
   ·exact Paired.take' (bB (Tk.of s3) G2.eo) _
   ·refine hK_ _ _ ?_;refine⟨_,rfl,q T d l H4 nT (s1.none nd2) (s1.none nl2) (fun c u e=>?_) hT4⟩;exact b4 _ _ (s3 _ _ (s2 _ _ e)) (ak e (s1.none nd2)) (ak e (s1.none nl2))
theorem scMI:au ["self","name","wait","size","kept","records"] ["self","name","wait","size","kept","records"] (am pK):=fsc (by decide +kernel)
theorem ok_mi {f:Addr} {fd:FuncData} (F:Fun K "__init__" "Mind.__init__" pK f fd) (T:ClM K mg CM) (Ft:aV P w K mg base 5 "table_from" ["kept"] (spTF K CT CW CR)):aQ P w K mg base CX0 6 f fd ["self","name","wait","size","kept","records"] (spMI K CM CT CW CR):=by
 refine F.ok scMI (fun vs H Q E h=>?_) (fun cdv A outer s H vs Q E hr h=>?_)
 ·obtain⟨m,dx,wr,rl,kr,st,en,b,nm,wa,sz,t,s,pl,tm,v,hk,hq,es,xs,rfl,_⟩:=h;rfl
 ·obtain⟨m,dx,wr,rl,kr,st,en,b,nm,wa,sz,t,s,pl,tm,v,hk,hq,es,xs,rfl,hM,G,q⟩:=h;refine⟨_,ae (bu (pv 0) (pv 1) rfl) <| ae (bu (pv 0) (pv 2) rfl) <| ae (bu (pv 0) (pv 3) rfl) <| ae (bu (pv 0) (pv 4) rfl) <| ae (bu (pv 0) (pv 5) rfl) <| ae (bu (pv 0) (aB Ft hr (ad (pv 4) ag)) rfl) <| ae (bu (pv 0) aU rfl) <| ae (bu (pv 0) cU rfl) <| ae (bu (pv 0) af rfl) <| ae (bu (pv 0) (cL ag) rfl) <| ae (bu (pv 0) jg rfl) <| ae (bu (pv 0) cU rfl) <| ae (bu (pv 0) (cL ag) rfl) <| ae (bu (pv 0) (cL ag) rfl) <| aj (bu (pv 0) (cL ag) rfl),?_⟩;dsimp only[bv,Cx.nox];have b0:BtO m H H:=BtO.refl _ _;refine ah fun K_ hK_=>?_;refine(rd2 rfl rfl (ex4 m CM dx _ ⟨rfl,hM,T.cl,T.n0,(by show 0 < 1000;decide),?_⟩))
  have b1:=b0.trans (BtO.upd (u:=.ins CM dx (fm1 nm)));have u1:BtO m H (upd H m (.ins CM dx (fm1 nm))):=BtO.upd;have ho1:upd H m (.ins CM dx (fm1 nm)) m=some (.ins CM dx (fm1 nm)):=ai;refine hK_ _ _ (ah fun K_ hK_=>?_);generalize upd H m (.ins CM dx (fm1 nm))=H1 at b1 u1 ho1 ⊢;refine(rd2 rfl rfl (ex4 m CM dx _ ⟨rfl,ho1,T.cl,T.n1,(by show 1 < 1000;decide),?_⟩))
  have b2:=b1.trans (BtO.upd (u:=.ins CM dx (fm2 nm wa)));have u2:BtO m H1 (upd H1 m (.ins CM dx (fm2 nm wa))):=BtO.upd;have ho2:upd H1 m (.ins CM dx (fm2 nm wa)) m=some (.ins CM dx (fm2 nm wa)):=ai;refine hK_ _ _ (ah fun K_ hK_=>?_);generalize upd H1 m (.ins CM dx (fm2 nm wa))=H2 at b2 u2 ho2 ⊢;refine(rd2 rfl rfl (ex4 m CM dx _ ⟨rfl,ho2,T.cl,T.n2,(by show 2 < 1000;decide),?_⟩))
  have b3:=b2.trans (BtO.upd (u:=.ins CM dx (fm3 nm wa sz)));have u3:BtO m H2 (upd H2 m (.ins CM dx (fm3 nm wa sz))):=BtO.upd;have ho3:upd H2 m (.ins CM dx (fm3 nm wa sz)) m=some (.ins CM dx (fm3 nm wa sz)):=ai;refine hK_ _ _ (ah fun K_ hK_=>?_);generalize upd H2 m (.ins CM dx (fm3 nm wa sz))=H3 at b3 u3 ho3 ⊢;refine(rd2 rfl rfl (ex4 m CM dx _ ⟨rfl,ho3,T.cl,T.n3,(by show 3 < 1000;decide),?_⟩))
  have b4:=b3.trans (BtO.upd (u:=.ins CM dx (fm4 nm wa sz wr)));have u4:BtO m H3 (upd H3 m (.ins CM dx (fm4 nm wa sz wr))):=BtO.upd;have ho4:upd H3 m (.ins CM dx (fm4 nm wa sz wr)) m=some (.ins CM dx (fm4 nm wa sz wr)):=ai;refine hK_ _ _ (ah fun K_ hK_=>?_);generalize upd H3 m (.ins CM dx (fm4 nm wa sz wr))=H4 at b4 u4 ho4 ⊢;refine(rd2 rfl rfl (ex4 m CM dx _ ⟨rfl,ho4,T.cl,T.n4,(by show 4 < 1000;decide),?_⟩))
  have b5:=b4.trans (BtO.upd (u:=.ins CM dx (fm5 nm wa sz wr rl)));have u5:BtO m H4 (upd H4 m (.ins CM dx (fm5 nm wa sz wr rl))):=BtO.upd;have ho5:upd H4 m (.ins CM dx (fm5 nm wa sz wr rl)) m=some (.ins CM dx (fm5 nm wa sz wr rl)):=ai;refine hK_ _ _ (ah fun K_ hK_=>?_);generalize upd H4 m (.ins CM dx (fm5 nm wa sz wr rl))=H5 at b5 u5 ho5 ⊢;refine⟨_,rfl,ex14 wr kr st en b t s pl tm v hk hq es xs ⟨rfl,G.bt b5 hM,fun bd d l Hc nbd nd nl sc hT=>?_⟩⟩;have ho5c:=sc _ _ ho5;have bc5:=b5.trans (BtO.of sc);refine⟨_,rfl,ex4 m CM dx _ ⟨rfl,ho5c,T.cl,T.n5,(by show 5 < 1000;decide),?_⟩⟩
  have b6:=bc5.trans (BtO.upd (u:=.ins CM dx (fm6 nm wa sz wr rl bd)));have u6:BtO m Hc (upd Hc m (.ins CM dx (fm6 nm wa sz wr rl bd))):=BtO.upd;have ho6:upd Hc m (.ins CM dx (fm6 nm wa sz wr rl bd)) m=some (.ins CM dx (fm6 nm wa sz wr rl bd)):=ai;refine hK_ _ _ (ah fun K_ hK_=>?_);generalize upd Hc m (.ins CM dx (fm6 nm wa sz wr rl bd))=H6 at b6 u6 ho6 ⊢;refine⟨_,rfl,ex4 m CM dx _ ⟨rfl,ho6,T.cl,T.n6,(by show 6 < 1000;decide),?_⟩⟩
  have b7:=b6.trans (BtO.upd (u:=.ins CM dx (fm7 nm wa sz wr rl bd)));have u7:BtO m H6 (upd H6 m (.ins CM dx (fm7 nm wa sz wr rl bd))):=BtO.upd;have ho7:upd H6 m (.ins CM dx (fm7 nm wa sz wr rl bd)) m=some (.ins CM dx (fm7 nm wa sz wr rl bd)):=ai;refine hK_ _ _ (ah fun K_ hK_=>?_);generalize upd H6 m (.ins CM dx (fm7 nm wa sz wr rl bd))=H7 at b7 u7 ho7 ⊢;refine⟨_,rfl,ex4 m CM dx _ ⟨rfl,ho7,T.cl,T.n7,(by show 7 < 1000;decide),?_⟩⟩
  have b8:=b7.trans (BtO.upd (u:=.ins CM dx (fm8 nm wa sz wr rl bd)));have u8:BtO m H7 (upd H7 m (.ins CM dx (fm8 nm wa sz wr rl bd))):=BtO.upd;have ho8:upd H7 m (.ins CM dx (fm8 nm wa sz wr rl bd)) m=some (.ins CM dx (fm8 nm wa sz wr rl bd)):=ai;refine hK_ _ _ (ah fun K_ hK_=>?_);generalize upd H7 m (.ins CM dx (fm8 nm wa sz wr rl bd))=H8 at b8 u8 ho8 ⊢;refine⟨_,rfl,ex4 m CM dx _ ⟨rfl,ho8,T.cl,T.n8,(by show 8 < 1000;decide),?_⟩⟩
  have b9:=b8.trans (BtO.upd (u:=.ins CM dx (fm9 nm wa sz wr rl bd)));have u9:BtO m H8 (upd H8 m (.ins CM dx (fm9 nm wa sz wr rl bd))):=BtO.upd;have ho9:upd H8 m (.ins CM dx (fm9 nm wa sz wr rl bd)) m=some (.ins CM dx (fm9 nm wa sz wr rl bd)):=ai;refine hK_ _ _ (ah fun K_ hK_=>?_);generalize upd H8 m (.ins CM dx (fm9 nm wa sz wr rl bd))=H9 at b9 u9 ho9 ⊢;refine⟨Nat.zero_le _,fun yl G9 nyl syl eyl=>?_⟩;have ho9c:=syl _ _ ho9;have bc9:=b9.trans (BtO.of syl);refine⟨_,rfl,ex4 m CM dx _ ⟨rfl,ho9c,T.cl,T.n9,(by show 9 < 1000;decide),?_⟩⟩
  have b10:=bc9.trans (BtO.upd (u:=.ins CM dx (sT nm wa sz wr rl bd yl)));have u10:BtO m G9 (upd G9 m (.ins CM dx (sT nm wa sz wr rl bd yl))):=BtO.upd;have ho10:upd G9 m (.ins CM dx (sT nm wa sz wr rl bd yl)) m=some (.ins CM dx (sT nm wa sz wr rl bd yl)):=ai;refine hK_ _ _ (ah fun K_ hK_=>?_);generalize upd G9 m (.ins CM dx (sT nm wa sz wr rl bd yl))=H10 at b10 u10 ho10 ⊢;intro sd nsd;have ssd:=aq.new (o:=.dK []) nsd;have ho10c:=ssd _ _ ho10;have bc10:=b10.trans (BtO.of ssd);generalize upd H10 sd (.dK [])=G10 at ssd ho10c bc10 ⊢;refine⟨_,rfl,ex4 m CM dx _ ⟨rfl,ho10c,T.cl,T.n10,(by show 10 < 1000;decide),?_⟩⟩
  have b11:=bc10.trans (BtO.upd (u:=.ins CM dx (sU nm wa sz wr rl bd yl sd)));have u11:BtO m G10 (upd G10 m (.ins CM dx (sU nm wa sz wr rl bd yl sd))):=BtO.upd;have ho11:upd G10 m (.ins CM dx (sU nm wa sz wr rl bd yl sd)) m=some (.ins CM dx (sU nm wa sz wr rl bd yl sd)):=ai;refine hK_ _ _ (ah fun K_ hK_=>?_);generalize upd G10 m (.ins CM dx (sU nm wa sz wr rl bd yl sd))=H11 at b11 u11 ho11 ⊢;refine⟨_,rfl,ex4 m CM dx _ ⟨rfl,ho11,T.cl,T.n11,(by show 11 < 1000;decide),?_⟩⟩
  have b12:=b11.trans (BtO.upd (u:=.ins CM dx (sV nm wa sz wr rl bd yl sd)));have u12:BtO m H11 (upd H11 m (.ins CM dx (sV nm wa sz wr rl bd yl sd))):=BtO.upd;have ho12:upd H11 m (.ins CM dx (sV nm wa sz wr rl bd yl sd)) m=some (.ins CM dx (sV nm wa sz wr rl bd yl sd)):=ai;refine hK_ _ _ (ah fun K_ hK_=>?_);generalize upd H11 m (.ins CM dx (sV nm wa sz wr rl bd yl sd))=H12 at b12 u12 ho12 ⊢;refine⟨Nat.zero_le _,fun gl G12 ngl sgl egl=>?_⟩;have ho12c:=sgl _ _ ho12;have bc12:=b12.trans (BtO.of sgl);refine⟨_,rfl,ex4 m CM dx _ ⟨rfl,ho12c,T.cl,T.n12,(by show 12 < 1000;decide),?_⟩⟩
  have b13:=bc12.trans (BtO.upd (u:=.ins CM dx (sW nm wa sz wr rl bd yl sd gl)));have u13:BtO m G12 (upd G12 m (.ins CM dx (sW nm wa sz wr rl bd yl sd gl))):=BtO.upd;have ho13:upd G12 m (.ins CM dx (sW nm wa sz wr rl bd yl sd gl)) m=some (.ins CM dx (sW nm wa sz wr rl bd yl sd gl)):=ai;refine hK_ _ _ (ah fun K_ hK_=>?_);generalize upd G12 m (.ins CM dx (sW nm wa sz wr rl bd yl sd gl))=H13 at b13 u13 ho13 ⊢;refine⟨Nat.zero_le _,fun fl G13 nfl sfl efl=>?_⟩;have ho13c:=sfl _ _ ho13;have bc13:=b13.trans (BtO.of sfl);refine⟨_,rfl,ex4 m CM dx _ ⟨rfl,ho13c,T.cl,T.n13,(by show 13 < 1000;decide),?_⟩⟩
  have b14:=bc13.trans (BtO.upd (u:=.ins CM dx (sX nm wa sz wr rl bd yl sd gl fl)));have u14:BtO m G13 (upd G13 m (.ins CM dx (sX nm wa sz wr rl bd yl sd gl fl))):=BtO.upd;have ho14:upd G13 m (.ins CM dx (sX nm wa sz wr rl bd yl sd gl fl)) m=some (.ins CM dx (sX nm wa sz wr rl bd yl sd gl fl)):=ai;refine hK_ _ _ ?_;generalize upd G13 m (.ins CM dx (sX nm wa sz wr rl bd yl sd gl fl))=H14 at b14 u14 ho14 ⊢;refine⟨Nat.zero_le _,fun sl G14 nsl ssl esl=>?_⟩;have ho14c:=ssl _ _ ho14;have bc14:=b14.trans (BtO.of ssl);refine⟨_,rfl,ex4 m CM dx _ ⟨rfl,ho14c,T.cl,T.n14,(by show 14 < 1000;decide),?_⟩⟩
  have b15:=bc14.trans (BtO.upd (u:=.ins CM dx (vz nm wa sz wr rl bd yl sd gl fl sl)));have u15:BtO m G14 (upd G14 m (.ins CM dx (vz nm wa sz wr rl bd yl sd gl fl sl))):=BtO.upd;have ho15:upd G14 m (.ins CM dx (vz nm wa sz wr rl bd yl sd gl fl sl)) m=some (.ins CM dx (vz nm wa sz wr rl bd yl sd gl fl sl)):=ai;generalize upd G14 m (.ins CM dx (vz nm wa sz wr rl bd yl sd gl fl sl))=H15 at b15 u15 ho15 ⊢;have up:BtO m Hc H15:=(((((((((((((u6.trans u7).trans u8).trans u9).trans (BtO.of syl)).trans u10).trans (BtO.of ssd)).trans u11).trans u12).trans (BtO.of sgl)).trans u13).trans (BtO.of sfl)).trans u14).trans (BtO.of ssl)).trans u15;have hn:∀x,H5 x=none->H x=none:=fun x h=>by
   cases e:H x with
   | none=>rfl
   | some u =>
    have:x ≠ m:=fun z=>by rw[z,ho5]at h;cases h
    exact absurd (b5 _ _ this e) (by rw[h];intro z;cases z)
  have hg:∀{x:Addr}{H':Hp} {fs:List (Str × V)},BtO m H H'->H' m=some (.ins CM dx fs)->H' x=none->H x=none:=fun {x H' fs} b e h=>by
   cases e2:H x with
   | none=>rfl
   | some u =>
    have:x ≠ m:=fun z=>by rw[z,e]at h;cases h
    exact absurd (b _ _ this e2) (by rw[h];intro z;cases z)
  have gm:gl ≠ m:=aN egl ho12c (by intro z;cases z)
  have fm:fl ≠ m:=aN efl ho13c (by intro z;cases z)
  have sm:sl ≠ m:=aN esl ho14c (by intro z;cases z)
  refine q bd d l yl sd gl fl sl H15 b15 ho15 (hn _ nbd) (hn _ nd) (hn _ nl) ?_ (u15 _ _ gm (ssl _ _ (u14 _ _ gm (sfl _ _ (u13 _ _ gm egl))))) (u15 _ _ fm (ssl _ _ (u14 _ _ fm efl))) (u15 _ _ sm esl) (hg b12 ho12 ngl) (hg b13 ho13 nfl) (hg b14 ho14 nsl);exact aS.bt up ho5c (fun z=>by rw[z,ho5]at nbd;cases nbd) hT
end
end K43
namespace K43
open PySem L2
abbrev lO:Stmt:=top 13
abbrev ol:Stmt:=top 14
abbrev vA:Stmt:=top 22
abbrev lP:Stmt:=top 25
structure Blt(mg:Str->Option Value):Prop where
 len:mg "len"=none
 list:mg "list"=none
 tuple:mg "tuple"=none
 sorted:mg "sorted"=none
theorem ig:bootBuiltins "isinstance"=some (.builtin "isinstance"):=by decide +kernel
theorem bStr:bootBuiltins "str"=some (.type "str"):=by decide +kernel
theorem sY:bootBuiltins "all"=some (.builtin "all"):=by decide +kernel
structure Bl2(mg:Str->Option Value):Prop where
 isi:mg "isinstance"=none
 str:mg "str"=none
 all:mg "all"=none
 any:mg "any"=none
 zip:mg "zip"=none
 set:mg "set"=none
 abc:∃t,mg "SMALL_LETTERS"=some (.str ABC t)
 sev:∃t,mg "MOST_SPEAKING"=some (.int 7 t)
 fou:∃t,mg "MOST_LEARNERS"=some (.int 4 t)
theorem bAny:bootBuiltins "any"=some (.builtin "any"):=by decide +kernel
theorem at2{α:Type}{a b c:α}{r:List α}:atI (a :: b :: c :: r) 2=some c:=bW (j:=2) rfl
noncomputable def nmB:V->Bool
 | .str x=>(decide (1 <= x.length) && decide (x.length <= 8)) && x.cps.toList.all okc
 | _=>false
theorem nmB_nm{x:Str}(h:nmB (.str x)=true):Nm x:=by
 have h:((decide (1 <= x.length) && decide (x.length <= 8)) && x.cps.toList.all okc)=true:=h;simp only[Bool.and_eq_true,decide_eq_true_iff]at h;exact⟨h.1.1,h.1.2,List.all_eq_true.mp h.2⟩
theorem jw{x:Str}(h:Nm x):nmB (.str x)=true:=by
 show ((decide (1 <= x.length) && decide (x.length <= 8)) && x.cps.toList.all okc)=true;simp only[Bool.and_eq_true,decide_eq_true_iff];exact⟨⟨h.one,h.eight⟩,List.all_eq_true.mpr h.ok⟩
theorem nmB_mid{x:Str}(h1:1 <= x.length)(h2:x.length <= 8):nmB (.str x)=x.cps.toList.all okc:=by
 show ((decide (1 <= x.length) && decide (x.length <= 8)) && x.cps.toList.all okc)=_;rw[decide_eq_true h1,decide_eq_true h2];rfl
theorem sZ{x:Str}(h:¬1 <= x.length):nmB (.str x)=false:=by
 show ((decide (1 <= x.length) && decide (x.length <= 8)) && x.cps.toList.all okc)=_;rw[decide_eq_false h];rfl
theorem vB{x:Str}(h:¬x.length <= 8):nmB (.str x)=false:=by
 show ((decide (1 <= x.length) && decide (x.length <= 8)) && x.cps.toList.all okc)=_;rw[decide_eq_false h,Bool.and_false];rfl
def Im(H:Hp)(x:V):Prop:=Th1 H x/\∀z,x=.str z->z.length <= 100
theorem Im.same{H H':Hp}{x:V}(e:aq H H')(h:Im H x):Im H' x:=⟨h.1.same e,h.2⟩
theorem Im.str{H:Hp}{x:Str}(h:x.length <= 100):Im H (.str x):=⟨.inl rfl,fun z e=>by cases e;exact h⟩
theorem Im.nm{H:Hp}{x:Str}(h:Nm x):Im H (.str x):=Im.str (by have:=h.eight;lia)
theorem jx:∀{xs:List V},xs.all nmB=true->∃zs:List Str,xs=zs.map V.str/\∀z ∈ zs,Nm z
 | [],_=>⟨[],rfl,by simp⟩
 | x :: r,h=>by
  rw[List.all_cons,Bool.and_eq_true]at h;obtain⟨zs,rfl,hz⟩:=jx h.2;cases x with
  | str z=>exact⟨z :: zs,rfl,fun y hy=>by
    rcases List.mem_cons.mp hy with rfl | hy
    ·exact nmB_nm h.1
    ·exact hz y hy⟩
  | _=>exact absurd h.1 (by simp[nmB])
noncomputable def txs:List V->List Str
 | []=>[]
 | .str z :: r=>z :: txs r
 | _ :: r=>txs r
theorem gg:∀zs:List Str,txs (zs.map V.str)=zs
 | []=>rfl
 | z :: r=>by show z :: txs (r.map V.str)=_;rw[gg r]
noncomputable def adj:List Str->Bool
 | a :: b :: r=>decide (a.cps.toList < b.cps.toList) && adj (b :: r)
 | _=>true
theorem qW:∀zs:List Str,(((zs.zip (zs.drop 1)).map fun p=>decide (p.1.cps.toList < p.2.cps.toList)).all id)=adj zs
 | []=>rfl
 | [a]=>rfl
 | a :: b :: r=>by
  have ih:=qW (b :: r);show ((decide (a.cps.toList < b.cps.toList)) && ((((b :: r).zip ((b :: r).drop 1)).map fun p=>decide (p.1.cps.toList < p.2.cps.toList)).all id))=_;rw[ih];rfl
theorem fQ {K:Frag} {H:Hp} {x:V} {k:String} (h:Kd H x k) (hk:k ≠ "tuple"):PySem.W.kitOne K (.type k) (.type "tuple")=some false:=by
 cases h with
 | non=>exact lB rfl (Kd.non (H:=H))
 | bl b=>exact lB rfl (Kd.bl (H:=H) b)
 | int i=>exact lB rfl (Kd.int (H:=H) i)
 | str z=>exact lB rfl (Kd.str (H:=H) z)
 | lst h=>exact uD
 | tup h=>exact absurd rfl hk
theorem Kd.same{H H':Hp}{x:V}{k:String}(e:aq H H')(h:Kd H x k):Kd H' x k:=by
 cases h with
 | non=>exact .non
 | bl b=>exact .bl b
 | int i=>exact .int i
 | str z=>exact .str z
 | lst h =>
  rcases h with h | ⟨o,h⟩
  ·exact .lst (.inl (e _ _ h))
  ·exact .lst (.inr ⟨o,e _ _ h⟩)
 | tup h =>
  rcases h with h | ⟨o,h⟩
  ·exact .tup (.inl (e _ _ h))
  ·exact .tup (.inr ⟨o,e _ _ h⟩)
inductive iI(H:Hp):V->Option (List V)->Prop
 | no {x:V} {k:String}:Kd H x k->k ≠ "tuple" ->iI H x none
 | tup {a:Addr} {xs:List V}:H a=some (.tup xs)->xs.length <= 60->(∀x ∈ xs,Im H x)->iI H (.ref a) (some xs)
theorem iI.same{H H':Hp}{x:V}{o:Option (List V)}(e:aq H H')(h:iI H x o):iI H' x o:=by
 cases h with
 | no h hk=>exact .no (Kd.same e h) hk
 | tup h hl hi=>exact .tup (e _ _ h) hl fun x hx=>(hi x hx).same e
noncomputable abbrev Tr:=Option (Option (List V) × Option (List V) × Option (List V))
inductive om(H:Hp):V->Tr->Prop
 | no {x:V} {k:String}:Kd H x k->k ≠ "tuple" ->om H x none
 | odd {a:Addr} {ps:List V}:H a=some (.tup ps)->ps.length <= 60->ps.length ≠ 3->om H (.ref a) none
 | tri {a:Addr} {p0 p1 p2:V} {o0 o1 o2:Option (List V)}:H a=some (.tup [p0,p1,p2])->iI H p0 o0->iI H p1 o1->iI H p2 o2->om H (.ref a) (some (o0,o1,o2))
theorem om.same{H H':Hp}{x:V}{o:Tr}(e:aq H H')(h:om H x o):om H' x o:=by
 cases h with
 | no h hk=>exact .no (Kd.same e h) hk
 | odd h hl hi=>exact .odd (e _ _ h) hl hi
 | tri h h0 h1 h2=>exact .tri (e _ _ h) (h0.same e) (h1.same e) (h2.same e)
noncomputable def bU:Option (List V)->Bool
 | some xs=>xs.all nmB && adj (txs xs)
 | none=>false
noncomputable def tf:Option (List V)->List Str
 | some xs=>txs xs
 | none=>[]
noncomputable def com(vs cs ls:List Str):Bool:=ls.any fun x=>decide (x ∈ (if cs=[] then vs else cs))
noncomputable def ou(vs cs ls:List Str):Bool:=(((decide (1 <= vs.length) && decide (vs.length <= 7)) && decide (cs.length <= 7)) && decide (ls.length <= 4)) && !com vs cs ls
noncomputable def bnB:Tr->Bool
 | some (a,b,c)=>((bU a && bU b) && bU c) && ou (tf a) (tf b) (tf c)
 | none=>false
theorem jy{H:Hp}{p:V}{o:Option (List V)}(h:iI H p o)(hr:bU o=true):∃(a:Addr)(zs:List Str),p=.ref a/\H a=some (.tup (zs.map V.str))/\o=some (zs.map V.str)/\zs.length <= 60/\(∀z ∈ zs,Nm z)/\adj zs=true:=by
 cases h with
 | no h hk=>cases hr
 | @tup a xs h hl hi =>
  have hr:(xs.all nmB && adj (txs xs))=true:=hr;rw[Bool.and_eq_true]at hr;obtain⟨zs,rfl,hz⟩:=jx hr.1;have h2:=hr.2;rw[gg]at h2;rw[length_map]at hl;exact⟨a,zs,rfl,h,rfl,hl,hz,h2⟩
def ti:Sp:=fun us H Q _=>∃x:V,us=[x]/\Im H x/\∀H',aq H H'->Q (.bl (nmB x)) H'
def pL:Sp:=fun us H Q _=>∃(x:V) (o:Option (List V)),us=[x]/\iI H x o/\∀H',aq H H'->Q (.bl (bU o)) H'
def jz:Sp:=fun us H Q _=>∃(b v c l:Addr)(cs:List Str),us=[.ref b]/\H b=some (.tup [.ref v,.ref c,.ref l])/\H c=some (.tup (cs.map V.str))/\Q (.bl (decide (0 < cs.length))) H
def vC:Sp:=fun us H Q _=>∃(x:V)(o:Tr),us=[x]/\om H x o/\∀H',aq H H'->Q (.bl (bnB o)) H'
theorem cut1(zs:List Str):cx (zs.map V.str) (some 1) none=(zs.drop 1).map V.str:=by
 unfold cx;rw[length_map,HT.eR,show HT.sIx zs.length 0 (some 1)=min 1 zs.length from HT.dN _ _ 1,List.map_drop,<- List.map_drop,<- List.map_drop];by_cases h:1 <= zs.length
 ·rw[Nat.min_eq_left h,take_of_length_le (by rw[length_map,length_drop];lia)]
 ·rw[Nat.min_eq_right (by lia),List.drop_of_length_le (Nat.le_refl _),List.drop_of_length_le (by lia)]
  simp
theorem all_okc(xs:List Nat):(xs.map okc).all id=xs.all okc:=by rw[List.all_map];rfl
theorem bls_okc(xs:List Nat):xs.map (fun c=>V.bl (okc c))=(xs.map okc).map V.bl:=by rw[List.map_map];rfl
theorem bls_nm(xs:List V):xs.map (fun c=>V.bl (nmB c))=(xs.map nmB).map V.bl:=by rw[List.map_map];rfl
theorem all_nm(xs:List V):(xs.map nmB).all id=xs.all nmB:=by rw[List.all_map];rfl
theorem len_pos(n:Nat):decide ((0:Int) < (n:Int))=decide (0 < n):=by
 rw[Bool.eq_iff_iff,decide_eq_true_iff,decide_eq_true_iff];lia
noncomputable def ltV:V->V->Bool
 | .str a,.str b=>decide (a.cps.toList < b.cps.toList)
 | _,_=>false
theorem zip_lt(zs ys:List Str):((zs.map V.str).zip (ys.map V.str)).map (fun p=>V.bl (ltV p.1 p.2))=((zs.zip ys).map fun p=>decide (p.1.cps.toList < p.2.cps.toList)).map V.bl:=by
 rw[List.zip_map,List.map_map,List.map_map];rfl
section
variable{P:Program}{w:World}{K:Frag}{mg:Str->Option Value}{base:Heap}
theorem scPName:au ["thing"] ["thing"] (am lO):=fsc (by decide +kernel)
theorem ndSign:((["thing"]:List Str) ++ (["sign"]:List Str)).Nodup:=by decide +kernel
theorem vD {f:Addr} {fd:FuncData} (F:Fun K "is_name" "is_name" lO f fd) (B:Blt mg) (T:Bl2 mg):aQ P w K mg base CX0 1 f fd ["thing"] ti:=by
 refine F.ok scPName (fun vs H Q E h=>?_) (fun cdv A outer s H vs Q E hr h=>?_)
 ·obtain⟨v,rfl,_⟩:=h;rfl
 ·obtain⟨v,rfl,hI,q⟩:=h;obtain⟨tA,hA⟩:=T.abc;refine⟨_,ae (aX (PW.pt (cN (df (cI (az cy (by rfl) T.isi ig (ad (pv 0) (ad (cQ (v:=.ty "str") (by rfl) T.str bStr rfl) ag))))) <|
    cN (aH fj (az gL (by rfl) B.len PySem.boot_len (ad (pv 0) ag)) af (aG _)) <|
    cV (aH eI (az gL (by rfl) B.len PySem.boot_len (ad (pv 0) ag)) af (aG _)))) (aj (ax d9)) aK) <|
   aj <| ax <| az (eF rfl) (by rfl) T.all sY (ad (gy ["thing"] ["thing"] ["sign"] (am lO) rfl rfl rfl (by decide +kernel) rfl rfl (by decide +kernel) (by decide +kernel) (by decide +kernel) (by decide +kernel)
    (pi_str (pv 0)) (fun _ _ _ _ _=>aA (i:=1) ndSign rfl (Or.inl rfl)) (fun _ _ _ _ _=>cR)
    (fun _ _ _ _ _=>bI rP (pv 1) (eX (v:=.str ABC) (by rfl) hA ⟨tA,rfl⟩) (by rfl))) ag),?_⟩
  dsimp only[bv,Cx.nox];obtain⟨k,hk⟩:=hI.1.kd;refine ah fun K_ hK_=>?_;refine⟨_,rfl,ex4 _ _ _ _ ⟨rfl,hk,kit_str hk,_,rfl,?_⟩⟩;cases v with
  | str x =>
   have hx:=hI.2 x rfl;have hz:x.length <= sizeLine:=Nat.le_of_lt (bO (by lia))
   refine aY ?_;refine⟨_,rfl,x,rfl,hz,oo rfl rfl ⟨_,rfl,bN (fun z=>?_) (fun z1=>?_)⟩⟩
   ·have z:=of_decide_eq_true z;rw[sZ (by lia)]at q
    exact bJ (q H (aq.refl H))
   have z1:¬(((x.length:Nat):Int) < 1):=fun y=>z1 (decide_eq_true y);refine⟨_,rfl,x,rfl,hz,oo rfl rfl ⟨_,rfl,bN (fun z=>?_) (fun z2=>?_)⟩⟩
   ·have z:=of_decide_eq_true z;rw[vB (by lia)]at q
    exact q H (aq.refl H)
   have z2:¬((8:Int) < ((x.length:Nat):Int)):=fun y=>z2 (decide_eq_true y);rw[nmB_mid (by lia) (by lia)]at q
   refine hK_ _ _ ?_;refine⟨_,rfl,x,rfl,?_⟩;refine lcT (fun c=>V.bl (okc c)) rfl (show x.length <= 1000 by lia) (fun D c ys post hD hp=>?_) (fun D hD=>?_)
   ·exact(cJ rfl rfl rfl hp)
   ·rw[bls_okc];refine⟨D,_,rfl,SqL.of ai,?_⟩;rw[all_okc];exact q _ (aq.new hD)
  | _=>exact bJ (bJ (q H (aq.refl H)))
theorem scRise:au ["thing"] ["thing"] (am ol):=fsc (by decide +kernel)
theorem ndPart:((["thing"]:List Str) ++ (["part"]:List Str)).Nodup:=by decide +kernel
theorem ndTwo:((["thing"]:List Str) ++ (["name","following"]:List Str)).Nodup:=by decide +kernel
theorem ok_rise {f:Addr} {fd:FuncData} (F:Fun K "is_rising_names" "is_rising_names" ol f fd) (B:Blt mg) (T:Bl2 mg) (Fn:aV P w K mg base 1 "is_name" ["thing"] ti):aQ P w K mg base CX0 2 f fd ["thing"] pL:=by
 refine F.ok scRise (fun vs H Q E h=>?_) (fun cdv A outer s H vs Q E hr h=>?_)
 ·obtain⟨t,xs,rfl,_⟩:=h;rfl
 ·obtain⟨x,o,rfl,hP,q⟩:=h;refine⟨_,ae (aX (PW.pt (cN (df (cI (az cy (by rfl) T.isi ig (ad (pv 0) (ad (cQ (v:=.ty "tuple") (by rfl) B.tuple cm rfl) ag))))) <|
    cV (df (cI (az (eF rfl) (by rfl) T.all sY (ad (gy ["thing"] ["thing"] ["part"] (am ol) rfl rfl rfl (by decide +kernel) rfl rfl (by decide +kernel) (by decide +kernel) (by decide +kernel) (by decide +kernel)
     (gE (pv 0)) (fun _ _ _ _ _=>aA (i:=1) ndPart rfl (Or.inl rfl)) (fun _ _ _ _ _=>cR) (fun _ _ _ _ _=>aB (X:=cxC _ _ _ _ _ _ _ _ _) Fn hr (ad (pv 1) ag))) ag)))))) (aj (ax d9)) aK) <|
   aj <| ax <| az (eF rfl) (by rfl) T.all sY (ad (gy ["thing"] ["thing"] ["name","following"] (am ol) rfl rfl rfl (by decide +kernel) rfl rfl (by decide +kernel) (by decide +kernel) (by decide +kernel) (by decide +kernel)
     (qR (by rfl) T.zip (ad (pv 0) (ad (bM cK (pv 0) (bQ af) cv) ag)))
     (fun _ _ _ _ _=>qQ (n:=2) rfl (aF (aA (i:=1) ndTwo rfl (Or.inl rfl)) (aF (aA (i:=2) ndTwo rfl (Or.inl rfl)) cn))) (fun _ _ _ _ _=>cR)
     (fun _ _ _ _ _=>bI rO (pv 1) (pv 2) (by rfl))) ag),?_⟩
  dsimp only[bv,Cx.nox];cases hP with
  | no hk ne=>exact⟨_,rfl,ex4 _ _ _ false ⟨rfl,hk,fQ hk ne,_,rfl,bJ (bJ (q H (aq.refl H)))⟩⟩
  | @tup t xs ht hl hi =>
   refine ah fun K_ hK_=>?_;refine⟨_,rfl,_,_,"tuple",true,rfl,Kd.tup (.inl ht),bo,_,rfl,aY ?_⟩;refine⟨_,rfl,t,rfl,⟨_,SqT.of ht⟩,?_⟩;refine uL (fun x=>V.bl (nmB x)) rfl ht (by lia) (fun D x ys H1 post hD hx sm hDD hpost=>?_) (fun D H1 hD sm eD=>?_)
   ·exact⟨_,rfl,x,rfl,(hi x hx).same sm,fun H' s'=>hpost H' s'⟩
   rw[bls_nm]at eD;refine⟨D,_,rfl,SqL.of eD,?_⟩;rw[all_nm];cases hn:xs.all nmB with
   | false =>
    rw[show bU (some xs)=false by show (xs.all nmB && adj (txs xs))=false;rw[hn];rfl]at q
    exact⟨_,rfl,bJ (q _ sm)⟩
   | true =>
    obtain⟨zs,rfl,hz⟩:=jx hn;rw[show bU (some (zs.map V.str))=adj zs by show ((zs.map V.str).all nmB && adj (txs (zs.map V.str)))=adj zs;rw[hn,gg];rfl]at q
    refine⟨_,rfl,aY ?_⟩;refine hK_ _ _ ?_;refine(rd3 rfl rfl rfl ⟨t,_,rfl,sm _ _ ht,fun p H2 s2 ep=>?_⟩);rw[cut1]at ep;refine(ex4 t p _ _ ⟨rfl,SqT.of (s2 _ _ (sm _ _ ht)),SqT.of ep,?_⟩);refine lcZU (fun x y=>V.bl (ltV x y)) (s2 _ _ (sm _ _ ht)) ep (by lia) (fun p' x y Hx R hp' hR=>?_) (fun i x y Hx post hx hy sx hpost=>?_) (fun D2 H3 hD2 s3 e3=>?_)
    ·exact⟨p',_,rfl,SqT.of hp',rfl,x,[y],rfl,y,[],rfl,rfl,hR⟩
    ·obtain⟨a,_,rfl⟩:=List.mem_map.mp (mem_of_getElem? hx);obtain⟨b,_,rfl⟩:=List.mem_map.mp (mem_of_getElem? hy);refine(eA rfl rfl rfl rfl ?_);exact hpost _ (aq.refl _)
    ·rw[zip_lt]at e3;refine⟨D2,_,rfl,SqL.of e3,?_⟩;rw[qW];exact q _ ((sm.trans s2).trans s3)
theorem vE:au ["bench"] ["bench"] (am lP):=fsc (by decide +kernel)
theorem tj {f:Addr} {fd:FuncData} (F:Fun K "is_joined" "is_joined" lP f fd) (hlen:mg "len"=none):aQ P w K mg base CX0 1 f fd ["bench"] jz:=by
 refine F.ok vE (fun us H Q E h=>?_) (fun cdv A outer s H us Q E hr h=>?_)
 ·obtain⟨b,v,c,l,cs,rfl,_⟩:=h;rfl
 ·obtain⟨b,v,c,l,cs,rfl,hb,hc,q⟩:=h;refine⟨_,aj <| ax <| bI eI (az aL (by rfl) hlen PySem.boot_len (ad (ar ao (pv 0) af (fun _ _=>rfl)) ag)) af (aG _),?_⟩
  dsimp only[bv,Cx.nox];refine⟨_,rfl,ex4 b _ _ _ ⟨rfl,rfl,SqT.of hb,at1,c,_,rfl,.inr (SqT.of hc),oo rfl rfl ?_⟩⟩;rw[length_map];show Q (.bl (decide ((0:Int) < (cs.length:Int)))) H;rw[len_pos];exact q
end
theorem bn_not3{a b c:Option (List V)}(h:((bU a && bU b) && bU c)=false):bnB (some (a,b,c))=false:=by
 show (((bU a && bU b) && bU c) && ou (tf a) (tf b) (tf c))=false;rw[h];rfl
theorem bn_fit{vs cs ls:List Str}(h:((bU (some (vs.map V.str)) && bU (some (cs.map V.str))) && bU (some (ls.map V.str)))=true):bnB (some (some (vs.map V.str),some (cs.map V.str),some (ls.map V.str)))=ou vs cs ls:=by
 show (((bU (some (vs.map V.str)) && bU (some (cs.map V.str))) && bU (some (ls.map V.str))) && ou (txs (vs.map V.str)) (txs (cs.map V.str)) (txs (ls.map V.str)))=_;rw[h,gg,gg,gg];rfl
noncomputable def ptO(H:Hp):V->Option (List V)
 | .ref a=>match H a with
  | some (.tup xs)=>some xs
  | _=>none
 | _=>none
theorem iI.eq{H:Hp}{x:V}{o:Option (List V)}(h:iI H x o):ptO H x=o:=by
 cases h with
 | no h hk=>cases h with
  | non=>rfl
  | bl b=>rfl
  | int i=>rfl
  | str z=>rfl
  | lst h=>rcases h with h | ⟨_,h⟩ <;> simp[ptO,h]
  | tup h=>exact absurd rfl hk
 | tup h hl hi=>simp[ptO,h]
theorem qX{vs cs ls:List Str}(h1:1 <= vs.length)(h2:vs.length <= 7)(h3:cs.length <= 7)(h4:ls.length <= 4):ou vs cs ls=!com vs cs ls:=by
 unfold ou;rw[decide_eq_true h1,decide_eq_true h2,decide_eq_true h3,decide_eq_true h4];rfl
theorem jA{vs cs ls:List Str}(h:vs.length < 1\/7 < vs.length\/7 < cs.length\/4 < ls.length):ou vs cs ls=false:=by
 unfold ou;rcases h with h | h | h | h
 ·rw[decide_eq_false (by lia)];rfl
 ·rw[decide_eq_false (show ¬vs.length <= 7 by lia),Bool.and_false];rfl
 ·rw[decide_eq_false (show ¬cs.length <= 7 by lia),Bool.and_false];rfl
 ·rw[decide_eq_false (show ¬ls.length <= 4 by lia),Bool.and_false];rfl
theorem vF(ls vs:List Str):(ls.map V.str).map (fun x=>V.bl (inV x (vs.map V.str)))=(ls.map fun x=>decide (x ∈ vs)).map V.bl:=by
 rw[List.map_map,List.map_map];refine List.map_congr_left fun z _=>?_;show V.bl (inV (.str z) (vs.map V.str))=V.bl (decide (z ∈ vs));rw[inV_str]
theorem qZ(ls vs:List Str):(ls.map fun x=>decide (x ∈ vs)).any id=ls.any fun x=>decide (x ∈ vs):=by rw[List.any_map];rfl
section
variable{P:Program}{w:World}{K:Frag}{mg:Str->Option Value}{base:Heap}
abbrev pM:List Str:=["thing","speaking_then"]
theorem scIsB:au pM ["thing"] (am vA):=fsc (by decide +kernel)
theorem ndIsB1:(pM ++ (["part"]:List Str)).Nodup:=by decide +kernel
theorem ndIsB2:(pM ++ (["name"]:List Str)).Nodup:=by decide +kernel
theorem ok_isB {f:Addr} {fd:FuncData} (F:Fun K "is_bench" "is_bench" vA f fd) (B:Blt mg) (T:Bl2 mg) (Fr:aV P w K mg base 2 "is_rising_names" ["thing"] pL) (Fj:aV P w K mg base 1 "is_joined" ["bench"] jz):aQ P w K mg base CX0 3 f fd ["thing"] vC:=by
 refine F.ok scIsB (fun us H Q E h=>?_) (fun cdv A outer s H us Q E hr h=>?_)
 ·obtain⟨x,o,rfl,_⟩:=h;rfl
 ·obtain⟨x,o,rfl,hB,q⟩:=h;obtain⟨t7,h7⟩:=T.sev;obtain⟨t4,h4⟩:=T.fou;have nd:=scIsB.nd;have r1:bj 1 _:=hr.mono (by decide)
  refine⟨_,ae (aX (PW.pt (cN (df (cI (az cy (by rfl) T.isi ig (ad (pv 0) (ad (cQ (v:=.ty "tuple") (by rfl) B.tuple cm rfl) ag))))) <|
    cN (aH gI (az aL (by rfl) B.len PySem.boot_len (ad (pv 0) ag)) af (aG _)) <|
    cV (df (cI (az (eF rfl) (by rfl) T.all sY (ad (gy pM pM ["part"] (am vA) rfl rfl rfl (by decide +kernel) rfl rfl (by decide +kernel) (by decide +kernel) (by decide +kernel) (by decide +kernel)
     (gE (pv 0)) (fun _ _ _ _ _=>aA (i:=2) ndIsB1 rfl (Or.inl rfl)) (fun _ _ _ _ _=>cR) (fun _ _ _ _ _=>aB (X:=cxC _ _ _ _ _ _ _ _ _) Fr hr (ad (pv 2) ag))) ag)))))) (aj (ax d9)) aK) <|
   ae (aX (PW.pt (cN (aH fj (az aL (by rfl) B.len PySem.boot_len (ad (ar ao (pv 0) af (fun _ _=>rfl)) ag)) af (aG _)) <|
    cN (aH eI (az aL (by rfl) B.len PySem.boot_len (ad (ar ao (pv 0) af (fun _ _=>rfl)) ag)) (eX (v:=.int 7) (by rfl) h7 ⟨t7,rfl⟩) (aG _)) <|
    cV (aH eI (az aL (by rfl) B.len PySem.boot_len (ad (ar ao (pv 0) af (fun _ _=>rfl)) ag)) (eX (v:=.int 7) (by rfl) h7 ⟨t7,rfl⟩) (aG _)))) (aj (ax d9)) aK) <|
   ae (aC (i:=1) nd rfl (Or.inr rfl) (mY (cI (aB Fj r1 (ad (pv 0) ag))) (ar ao (pv 0) af (fun _ _=>rfl)) (ar ao (pv 0) af (fun _ _=>rfl)))) <|
   aj <| ax <| cW (bI qD (az aL (by rfl) B.len PySem.boot_len (ad (ar ao (pv 0) af (fun _ _=>rfl)) ag)) (eX (v:=.int 4) (by rfl) h4 ⟨t4,rfl⟩) (aG _))
    (dX (ue (az (sD rfl) (by rfl) T.any bAny (ad (gy pM pM ["name"] (am vA) rfl rfl rfl (by decide +kernel) rfl rfl (by decide +kernel) (by decide +kernel) (by decide +kernel) (by decide +kernel)
     (gE (ar ao (pv 0) af (fun _ _=>rfl))) (fun _ _ _ _ _=>aA (i:=2) ndIsB2 rfl (Or.inl rfl)) (fun _ _ _ _ _=>cR) (fun _ _ _ _ _=>bI pj (pv 2) (pv 1) (by rfl))) ag)))),?_⟩
  dsimp only[bv,Cx.nox];cases hB with
  | no hk ne=>exact⟨_,rfl,ex4 _ _ _ false ⟨rfl,hk,fQ hk ne,_,rfl,bJ (bJ (q H (aq.refl H)))⟩⟩
  | @odd b ps hb hl n3 =>
   refine ah fun K_ hK_=>?_;refine⟨_,rfl,_,_,"tuple",true,rfl,Kd.tup (.inl hb),bo,_,rfl,aY ?_⟩;refine⟨_,rfl,b,_,rfl,.inr (SqT.of hb),rfl,_,rfl,?_⟩;rw[show (!decide (V.int ((ps.length:Nat):Int)=V.int 3))=true by rw[decide_eq_false (fun e=>by injection e with e;lia)];rfl]
   exact bJ (bJ (q H (aq.refl H)))
  | @tri b p0 p1 p2 o0 o1 o2 hb hp0 hp1 hp2 =>
   refine ah fun K_ hK_=>?_;refine⟨_,rfl,_,_,"tuple",true,rfl,Kd.tup (.inl hb),bo,_,rfl,aY ?_⟩;refine⟨_,rfl,b,_,rfl,.inr (SqT.of hb),rfl,_,rfl,nM rfl ?_⟩;refine⟨_,rfl,b,rfl,⟨_,SqT.of hb⟩,?_⟩;refine uL (fun x=>V.bl (bU (ptO H x))) rfl hb (by show 3 <= 1000;decide) (fun D x ys H1 post hD hx sm hDD hpost=>?_) (fun D H1 hD sm eD=>?_)
   ·simp only[List.mem_cons,not_mem_nil,or_false]at hx;rcases hx with rfl | rfl | rfl
    ·rw[hp0.eq]at hpost;exact⟨_,rfl,_,o0,rfl,hp0.same sm,fun H' s'=>hpost H' s'⟩
    ·rw[hp1.eq]at hpost;exact⟨_,rfl,_,o1,rfl,hp1.same sm,fun H' s'=>hpost H' s'⟩
    ·rw[hp2.eq]at hpost;exact⟨_,rfl,_,o2,rfl,hp2.same sm,fun H' s'=>hpost H' s'⟩
   have e3:[p0,p1,p2].map (fun x=>V.bl (bU (ptO H x)))=[bU o0,bU o1,bU o2].map V.bl:=by
    show [V.bl (bU (ptO H p0)),V.bl (bU (ptO H p1)),V.bl (bU (ptO H p2))]=_;rw[hp0.eq,hp1.eq,hp2.eq];rfl
   rw[e3]at eD;refine⟨D,_,rfl,SqL.of eD,?_⟩;rw[show [bU o0,bU o1,bU o2].all id=((bU o0 && bU o1) && bU o2) by simp[Bool.and_assoc]]
   cases h3:((bU o0 && bU o1) && bU o2) with
   | false =>
    rw[bn_not3 h3]at q;exact⟨_,rfl,bJ (q _ sm)⟩
   | true =>
    have hh:=h3;rw[Bool.and_eq_true,Bool.and_eq_true]at hh;obtain⟨v,vs,rfl,hv,rfl,vl,nv,av⟩:=jy hp0 hh.1.1;obtain⟨c,cs,rfl,hc,rfl,cl,nc,ac⟩:=jy hp1 hh.1.2;obtain⟨l,ls,rfl,hl,rfl,ll,nl,al⟩:=jy hp2 hh.2;rw[bn_fit h3]at q;refine⟨_,rfl,aY ?_⟩;refine hK_ _ _ (ah fun K_ hK_=>?_);refine⟨_,rfl,ex4 b _ _ _ ⟨rfl,rfl,SqT.of (sm _ _ hb),at0,v,_,rfl,.inr (SqT.of (sm _ _ hv)),oo rfl rfl ⟨_,rfl,bN (fun z=>?_) (fun z1=>?_)⟩⟩⟩
    ·have z:=of_decide_eq_true z;rw[length_map]at z;rw[jA (.inl (by lia))]at q
     exact bJ (q _ sm)
    have z1:¬(((vs.length:Nat):Int) < 1):=fun y=>z1 (decide_eq_true (by rw[length_map];exact y))
    refine⟨_,rfl,ex4 b _ _ _ ⟨rfl,rfl,SqT.of (sm _ _ hb),at0,v,_,rfl,.inr (SqT.of (sm _ _ hv)),oo rfl rfl ⟨_,rfl,bN (fun z=>?_) (fun z2=>?_)⟩⟩⟩
    ·have z:=of_decide_eq_true z;rw[length_map]at z;rw[jA (.inr (.inl (by lia)))]at q
     exact bJ (q _ sm)
    have z2:¬((7:Int) < ((vs.length:Nat):Int)):=fun y=>z2 (decide_eq_true (by rw[length_map];exact y))
    refine⟨_,rfl,ex4 b _ _ _ ⟨rfl,rfl,SqT.of (sm _ _ hb),at1,c,_,rfl,.inr (SqT.of (sm _ _ hc)),oo rfl rfl ⟨_,rfl,bN (fun z=>?_) (fun z3=>?_)⟩⟩⟩
    ·have z:=of_decide_eq_true z;rw[length_map]at z;rw[jA (.inr (.inr (.inl (by lia))))]at q
     exact q _ sm
    have z3:¬((7:Int) < ((cs.length:Nat):Int)):=fun y=>z3 (decide_eq_true (by rw[length_map];exact y))
    refine hK_ _ _ (ah fun K_ hK_=>?_);refine⟨_,rfl,ex5 b v c l cs ⟨rfl,sm _ _ hb,sm _ _ hc,_,rfl,?_⟩⟩;by_cases hcs:cs=[]
    ·have hsp:com vs cs ls=ls.any fun x=>decide (x ∈ vs):=by unfold com;rw[if_pos hcs]
     rw[decide_eq_false (show ¬0 < cs.length by rw[hcs];simp)]
     refine aY ?_;refine⟨_,rfl,ex4 b _ _ _ ⟨rfl,rfl,SqT.of (sm _ _ hb),at0,?_⟩⟩;refine hK_ _ _ ?_;refine⟨_,rfl,ex4 b _ _ _ ⟨rfl,rfl,SqT.of (sm _ _ hb),at2,l,_,rfl,.inr (SqT.of (sm _ _ hl)),oo rfl rfl ?_⟩⟩;refine⟨_,rfl,bN (fun z4=>?_) (fun z=>?_)⟩
     ·have z4:=of_decide_eq_true z4;rw[length_map]at z4;rw[qX (by lia) (by lia) (by lia) (by lia),hsp]at q
      refine⟨_,rfl,ex4 b _ _ _ ⟨rfl,rfl,SqT.of (sm _ _ hb),at2,l,rfl,⟨_,SqT.of (sm _ _ hl)⟩,?_⟩⟩;refine uL (fun x=>V.bl (inV x (vs.map V.str))) rfl (sm _ _ hl) (by rw[length_map];lia) (fun D2 x us H2 post hD2 hx s2 hDD2 hpost=>?_) (fun D2 H2 hD2 s2 e2=>?_)
      ·obtain⟨z,hz,rfl⟩:=List.mem_map.mp hx;refine(rd2 rfl rfl ⟨v,_,rfl,.inr (SqT.of (s2 _ _ (sm _ _ hv))),rfl,kC vs,?_⟩);exact hpost _ (aq.refl _)
      ·rw[vF]at e2;refine⟨D2,_,rfl,SqL.of e2,?_⟩;rw[qZ];exact⟨_,rfl,q _ (sm.trans s2)⟩
     ·have z4:¬(((ls.length:Nat):Int) <= 4):=fun y=>z (decide_eq_true (by rw[length_map];exact y))
      rw[jA (.inr (.inr (.inr (by lia))))]at q
      exact q _ sm
    ·have hsp:com vs cs ls=ls.any fun x=>decide (x ∈ cs):=by unfold com;rw[if_neg hcs]
     rw[decide_eq_true (show 0 < cs.length from List.length_pos_iff.mpr hcs)];refine bJ ⟨_,rfl,ex4 b _ _ _ ⟨rfl,rfl,SqT.of (sm _ _ hb),at1,?_⟩⟩;refine hK_ _ _ ?_;refine⟨_,rfl,ex4 b _ _ _ ⟨rfl,rfl,SqT.of (sm _ _ hb),at2,l,_,rfl,.inr (SqT.of (sm _ _ hl)),oo rfl rfl ?_⟩⟩;refine⟨_,rfl,bN (fun z4=>?_) (fun z=>?_)⟩
     ·have z4:=of_decide_eq_true z4;rw[length_map]at z4;rw[qX (by lia) (by lia) (by lia) (by lia),hsp]at q
      refine⟨_,rfl,ex4 b _ _ _ ⟨rfl,rfl,SqT.of (sm _ _ hb),at2,l,rfl,⟨_,SqT.of (sm _ _ hl)⟩,?_⟩⟩;refine uL (fun x=>V.bl (inV x (cs.map V.str))) rfl (sm _ _ hl) (by rw[length_map];lia) (fun D2 x us H2 post hD2 hx s2 hDD2 hpost=>?_) (fun D2 H2 hD2 s2 e2=>?_)
      ·obtain⟨z,hz,rfl⟩:=List.mem_map.mp hx;refine(rd2 rfl rfl ⟨c,_,rfl,.inr (SqT.of (s2 _ _ (sm _ _ hc))),rfl,kC cs,?_⟩);exact hpost _ (aq.refl _)
      ·rw[vF]at e2;refine⟨D2,_,rfl,SqL.of e2,?_⟩;rw[qZ];exact⟨_,rfl,q _ (sm.trans s2)⟩
     ·have z4:¬(((ls.length:Nat):Int) <= 4):=fun y=>z (decide_eq_true (by rw[length_map];exact y))
      rw[jA (.inr (.inr (.inr (by lia))))]at q
      exact q _ sm
end
abbrev pN:Stmt:=top 11
abbrev vG:Stmt:=top 12
abbrev vH:Stmt:=top 15
abbrev pO:Stmt:=top 16
abbrev sAsk:Stmt:=top 17
abbrev pP:Stmt:=top 71
abbrev lQ:Stmt:=top 72
structure Bl3(mg:Str->Option Value):Prop where
 int:mg "int"=none
 bool:mg "bool"=none
 abs:mg "abs"=none
theorem bInt:bootBuiltins "int"=some (.type "int"):=by decide +kernel
theorem bBool:bootBuiltins "bool"=some (.type "bool"):=by decide +kernel
theorem at3{α:Type}{a b c d:α}{r:List α}:atI (a :: b :: c :: d :: r) 3=some d:=bW (j:=3) rfl
def ii:V->Bool
 | .int _=>true
 | _=>false
noncomputable def gA(l:Int):V->Bool
 | .int i=>decide (l <= i)
 | _=>false
def Nb(x:V):Prop:=∀i,x=.int i->-(10 ^ 60) < i/\i < 10 ^ 60
inductive WAt(H:Hp):V->Option (List V)->Prop
 | no {x:V} {k:String}:Kd H x k->k ≠ "tuple" ->WAt H x none
 | tup {a:Addr} {xs:List V}:H a=some (.tup xs)->xs.length <= 60->(∀x ∈ xs,Im H x/\Nb x)->WAt H (.ref a) (some xs)
theorem WAt.same{H H':Hp}{x:V}{o:Option (List V)}(e:aq H H')(h:WAt H x o):WAt H' x o:=by
 cases h with
 | no h hk=>exact .no (Kd.same e h) hk
 | tup h hl hi=>exact .tup (e _ _ h) hl fun x hx=>⟨(hi x hx).1.same e,(hi x hx).2⟩
noncomputable def wkB:Option (List V)->Bool
 | some [k,n]=>nmB n && decide (k=.str "drop")
 | some [k,n,z]=>nmB n && ((decide (k=.str "put") || decide (k=.str "add")) && ii z)
 | _=>false
inductive DdV(H:Hp):V->Bool->Prop
 | no {x:V} {k:String}:Kd H x k->k ≠ "tuple" ->DdV H x false
 | nil {a:Addr}:H a=some (.tup [])->DdV H (.ref a) false
 | first {a:Addr} {r:List V}:H a=some (.tup (.str "first" :: r))->r.length <= 60->DdV H (.ref a) (decide (r.length=0))
 | ask4 {a:Addr} {x1 x2 x3:V} {o:Option (List V)}:H a=some (.tup [.str "ask",x1,x2,x3])->Im H x1->Im H x2->WAt H x3 o->DdV H (.ref a) (nmB x1 && (gA 1 x2 && wkB o))
 | askn {a:Addr} {r:List V}:H a=some (.tup (.str "ask" :: r))->r.length <= 60->r.length ≠ 3->DdV H (.ref a) false
 | bench2 {a:Addr} {x1:V} {o:Tr}:H a=some (.tup [.str "bench",x1])->om H x1 o->DdV H (.ref a) (bnB o)
 | benchn {a:Addr} {r:List V}:H a=some (.tup (.str "bench" :: r))->r.length <= 60->r.length ≠ 1->DdV H (.ref a) false
 | odd {a:Addr} {k:V} {r:List V}:H a=some (.tup (k :: r))->r.length <= 60->Th1 H k->k ≠ .str "first" ->k ≠ .str "ask" ->k ≠ .str "bench" ->DdV H (.ref a) false
theorem DdV.same{H H':Hp}{x:V}{v:Bool}(e:aq H H')(h:DdV H x v):DdV H' x v:=by
 cases h with
 | no h hk=>exact .no (Kd.same e h) hk
 | nil h=>exact .nil (e _ _ h)
 | first h hl=>exact .first (e _ _ h) hl
 | ask4 h h1 h2 h3=>exact .ask4 (e _ _ h) (h1.same e) (h2.same e) (h3.same e)
 | askn h hl hn=>exact .askn (e _ _ h) hl hn
 | bench2 h h1=>exact .bench2 (e _ _ h) (h1.same e)
 | benchn h hl hn=>exact .benchn (e _ _ h) hl hn
 | odd h hl h1 h2 h3 h4=>exact .odd (e _ _ h) hl (h1.same e) h2 h3 h4
inductive EnV(H:Hp):V->Bool->Prop
 | no {x:V} {k:String}:Kd H x k->k ≠ "tuple" ->EnV H x false
 | len {a:Addr} {xs:List V}:H a=some (.tup xs)->xs.length <= 60->xs.length ≠ 2->EnV H (.ref a) false
 | two {a:Addr} {t d:V} {v:Bool}:H a=some (.tup [t,d])->Im H t->DdV H d v->EnV H (.ref a) (gA 1 t && v)
theorem EnV.same{H H':Hp}{x:V}{v:Bool}(e:aq H H')(h:EnV H x v):EnV H' x v:=by
 cases h with
 | no h hk=>exact .no (Kd.same e h) hk
 | len h hl hn=>exact .len (e _ _ h) hl hn
 | two h h1 h2=>exact .two (e _ _ h) (h1.same e) (h2.same e)
def iW:Sp:=fun us H Q _=>∃x:V,us=[x]/\Im H x/\Q (.bl (ii x)) H
def jB:Sp:=fun us H Q _=>∃(x:V)(l:Int),us=[x,.int l]/\Im H x/\Q (.bl (gA l x)) H
def pQ:Sp:=fun us H Q _=>∃x:V,us=[x]/\Im H x/\Nb x/\Q (.bl (ii x)) H
def lR:Sp:=fun us H Q _=>∃(x:V) (o:Option (List V)),us=[x]/\WAt H x o/\∀H',aq H H'->Q (.bl (wkB o)) H'
def vI:Sp:=fun us H Q _=>∃(x1 x2 x3:V) (o:Option (List V)),us=[x1,x2,x3]/\Im H x1/\Im H x2/\WAt H x3 o/\∀H',aq H H'->Q (.bl (nmB x1 && (gA 1 x2 && wkB o))) H'
def lS:Sp:=fun us H Q _=>∃(x:V)(v:Bool),us=[x]/\DdV H x v/\∀H',aq H H'->Q (.bl v) H'
def jC:Sp:=fun us H Q _=>∃(x:V)(v:Bool),us=[x]/\EnV H x v/\∀H',aq H H'->Q (.bl v) H'
theorem vJ{xs:List V}(h:xs.length < 2):wkB (some xs)=false:=by
 match xs,h with
 | [],_=>rfl
 | [_],_=>rfl
theorem tz{k n:V}{r:List V}(h:nmB n=false):wkB (some (k :: n :: r))=false:=by
 match r with
 | []=>show (nmB n && _)=false;rw[h];rfl
 | [z]=>show (nmB n && _)=false;rw[h];rfl
 | _ :: _ :: _=>rfl
theorem wk_drop {n:V} {r:List V} (h:nmB n=true):wkB (some (.str "drop" :: n :: r))=decide (r.length=0):=by
 match r with
 | []=>show (nmB n && decide (V.str "drop"=.str "drop"))=_;rw[h,decide_eq_true rfl];rfl
 | [z] =>
  show (nmB n && ((decide (V.str "drop"=.str "put") || decide (V.str "drop"=.str "add")) && ii z))=_;rw[show decide (V.str "drop"=.str "put")=false by decide +kernel,show decide (V.str "drop"=.str "add")=false by decide +kernel,h]
  rfl
 | _ :: _ :: _=>rfl
theorem wk_else {k n:V} {r:List V} (h:nmB n=true) (hk:¬k=.str "drop"):wkB (some (k :: n :: r))=((decide (k=.str "put") || decide (k=.str "add")) && (decide (r.length=1) && ii (r.getD 0 .non))):=by
 match r with
 | []=>show (nmB n && decide (k=.str "drop"))=_;rw[decide_eq_false hk,Bool.and_false];simp
 | [z] =>
  show (nmB n && ((decide (k=.str "put") || decide (k=.str "add")) && ii z))=_;rw[h];rfl
 | _ :: _ :: r=>show false=_;simp
theorem tD(xs:List V)(n:Nat):decide (V.int ((xs.length:Nat):Int)=V.int (n:Int))=decide (xs.length=n):=by
 rw[Bool.eq_iff_iff,decide_eq_true_iff,decide_eq_true_iff,V.int.injEq];lia
section
variable{P:Program}{w:World}{K:Frag}{mg:Str->Option Value}{base:Heap}
theorem scWhole:au ["thing"] ["thing"] (am pN):=fsc (by decide +kernel)
theorem vK {f:Addr} {fd:FuncData} (F:Fun K "is_whole" "is_whole" pN f fd) (T:Bl2 mg) (U:Bl3 mg):aQ P w K mg base CX0 1 f fd ["thing"] iW:=by
 refine F.ok scWhole (fun vs H Q E h=>?_) (fun cdv A outer s H vs Q E hr h=>?_)
 ·obtain⟨x,rfl,_⟩:=h;rfl
 ·obtain⟨x,rfl,hI,q⟩:=h;refine⟨_,aj <| ax <| cW (az cy (by rfl) T.isi ig (ad (pv 0) (ad (cQ (v:=.ty "int") (by rfl) U.int bInt rfl) ag))) (dX (ue (az cy (by rfl) T.isi ig (ad (pv 0) (ad (cQ (v:=.ty "bool") (by rfl) U.bool bBool rfl) ag))))),?_⟩
  obtain⟨k,hk⟩:=hI.1.kd;refine⟨_,rfl,ex4 _ _ _ _ ⟨rfl,hk,kit_int hk,_,rfl,?_⟩⟩;have rest:uC x=true->∃k b,Kd H x k/\PySem.W.kitOne K (.type k) (.type "bool")=some b/\b=isBlV x:=fun _=>⟨k,_,hk,pi hk,rfl⟩;cases x with
  | int i=>exact bJ ⟨_,rfl,ex4 _ _ _ _ ⟨rfl,hk,pi hk,_,rfl,q⟩⟩
  | bl b=>exact bJ ⟨_,rfl,ex4 _ _ _ _ ⟨rfl,hk,pi hk,_,rfl,q⟩⟩
  | _=>exact aY q
theorem scFrom:au ["thing","least"] ["thing","least"] (am vG):=fsc (by decide +kernel)
theorem ok_from {f:Addr} {fd:FuncData} (F:Fun K "is_whole_from" "is_whole_from" vG f fd) (Fw:aV P w K mg base 1 "is_whole" ["thing"] iW):aQ P w K mg base CX0 2 f fd ["thing","least"] jB:=by
 refine F.ok scFrom (fun vs H Q E h=>?_) (fun cdv A outer s H vs Q E hr h=>?_)
 ·obtain⟨x,l,rfl,_⟩:=h;rfl
 ·obtain⟨x,l,rfl,hI,q⟩:=h;refine⟨_,aj <| ax <| cW (aB Fw hr (ad (pv 0) ag)) (dX (bI ni (pv 0) (pv 1) (aG _))),?_⟩;refine⟨_,rfl,x,rfl,hI,_,rfl,?_⟩;cases x with
  | int i=>exact bJ (eA rfl rfl rfl rfl q)
  | _=>exact aY q
theorem scWNum:au ["thing"] ["thing"] (am vH):=fsc (by decide +kernel)
theorem ok_wnum {f:Addr} {fd:FuncData} (F:Fun K "is_work_number" "is_work_number" vH f fd) (U:Bl3 mg) (Fw:aV P w K mg base 1 "is_whole" ["thing"] iW):aQ P w K mg base CX0 2 f fd ["thing"] pQ:=by
 refine F.ok scWNum (fun vs H Q E h=>?_) (fun cdv A outer s H vs Q E hr h=>?_)
 ·obtain⟨x,rfl,_⟩:=h;rfl
 ·obtain⟨x,rfl,hI,hb,q⟩:=h;refine⟨_,aj <| ax <| cW (aB Fw hr (ad (pv 0) ag)) (dX (bI fj (az ui (by rfl) U.abs bAbs (ad (pv 0) ag)) (aE jb af af) (aG _))),?_⟩
  refine⟨_,rfl,x,rfl,hI,_,rfl,?_⟩;cases x with
  | int i =>
   refine bJ ⟨_,rfl,i,rfl,oo rfl rfl ⟨⟨by decide,by decide,by decide⟩,oo rfl rfl ?_⟩⟩
   obtain⟨h1,h2⟩:=hb i rfl;have this:decide ((if i < 0 then -i else i) < (10:Int) ^ 60)=true:=by
    refine decide_eq_true ?_;split <;> lia
   show Q (.bl (decide ((if i < 0 then -i else i) < (10:Int) ^ 60))) H
   rw[this];exact q
  | _=>exact aY q
theorem scPWork:au ["thing"] ["thing"] (am pO):=fsc (by decide +kernel)
theorem vL {f:Addr} {fd:FuncData} (F:Fun K "is_work" "is_work" pO f fd) (B:Blt mg) (T:Bl2 mg) (Fn:aV P w K mg base 1 "is_name" ["thing"] ti) (Fw:aV P w K mg base 2 "is_work_number" ["thing"] pQ):aQ P w K mg base CX0 3 f fd ["thing"] lR:=by
 refine F.ok scPWork (fun vs H Q E h=>?_) (fun cdv A outer s H vs Q E hr h=>?_)
 ·obtain⟨x,o,rfl,_⟩:=h;rfl
 ·obtain⟨x,o,rfl,hW,q⟩:=h;have hu:=iB hr;have r1:bj 1 _:=hr.mono (by decide)
  refine⟨_,ae (aX (PW.pt (cN (df (cI (az cy (by rfl) T.isi ig (ad (pv 0) (ad (cQ (v:=.ty "tuple") (by rfl) B.tuple cm rfl) ag))))) <|
    cN (aH fj (az aL (by rfl) B.len PySem.boot_len (ad (pv 0) ag)) af (aG _)) <|
    cV (df (cI (aB Fn r1 (ad (ar ao (pv 0) af (fun _ _=>rfl)) ag)))))) (aj (ax d9)) aK) <|
   ae (aX (aH (iP hu) (ar ao (pv 0) af (fun _ _=>rfl)) aU (aG _)) (aj (ax (bI cj (az aL (by rfl) B.len PySem.boot_len (ad (pv 0) ag)) af (aG _)))) aK) <|
   aj <| ax <| cW (bI (op_inTS hu) (ar ao (pv 0) af (fun _ _=>rfl)) (aR (ad aU (ad aU ag))) (by rfl)) <|
    cW (bI cj (az aL (by rfl) B.len PySem.boot_len (ad (pv 0) ag)) af (aG _)) <|
    dX (aB Fw hr (ad (ar ao (pv 0) af (fun _ _=>rfl)) ag)),?_⟩
  cases hW with
  | no hk ne=>exact⟨_,rfl,ex4 _ _ _ false ⟨rfl,hk,fQ hk ne,_,rfl,bJ (bJ (q H (aq.refl H)))⟩⟩
  | @tup t xs ht hl hi =>
   refine⟨_,rfl,_,_,"tuple",true,rfl,Kd.tup (.inl ht),bo,_,rfl,aY ?_⟩;refine⟨_,rfl,t,_,rfl,.inr (SqT.of ht),oo rfl rfl ⟨_,rfl,bN (fun z=>?_) (fun z=>?_)⟩⟩
   ·have z:=of_decide_eq_true z;rw[vJ (by lia)]at q
    exact bJ (q H (aq.refl H))
   have z:¬(((xs.length:Nat):Int) < 2):=fun y=>z (decide_eq_true y);obtain⟨k,n,r,rfl⟩:∃k n r,xs=k :: n :: r:=by
    match xs,z with
    | [],z=>exact absurd (show ((0:Nat):Int) < 2 by decide) z
    | [_],z=>exact absurd (show ((1:Nat):Int) < 2 by decide) z
    | k :: n :: r,_=>exact⟨k,n,r,rfl⟩
   have hk:=hi k (by simp)
   have hn:=hi n (by simp)
   refine⟨_,rfl,ex4 t _ _ _ ⟨rfl,rfl,SqT.of ht,at1,n,rfl,hn.1,fun H1 s1=>⟨_,rfl,?_⟩⟩⟩;have ht1:=s1 _ _ ht;cases en:nmB n with
   | false =>
    rw[tz en]at q;exact bJ (q H1 s1)
   | true =>
    refine aY ?_;refine⟨_,rfl,ex4 t _ _ _ ⟨rfl,rfl,SqT.of ht1,at0,_,rfl,hk.1.1.same s1,_,rfl,?_⟩⟩;by_cases hd:k=.str "drop"
    ·subst hd;rw[decide_eq_true rfl,wk_drop en]at *;refine bJ ⟨_,rfl,t,_,rfl,.inr (SqT.of ht1),rfl,?_⟩;rw[show decide (V.int (((V.str "drop" :: n :: r).length:Nat):Int)=V.int 2)=decide (r.length=0) by rw[show (2:Int)=((2:Nat):Int) from rfl,tD];simp]
     exact q H1 s1
    ·rw[decide_eq_false hd];rw[wk_else en hd]at q;refine aY ⟨_,rfl,ex4 t _ _ _ ⟨rfl,rfl,SqT.of ht1,at0,(by show 2 <= sizeLine;decide),fun p H2 _ s2 ep=>?_⟩⟩
     refine⟨p,["put","add"],rfl,SqT.of ep,(hk.1.1.same s1).same s2,_,rfl,?_⟩;have e2:([("put":Str),"add"].any fun z=>decide (k=.str z))=(decide (k=.str "put") || decide (k=.str "add")):=by simp
     rw[e2];have s12:=s1.trans s2;cases ek:(decide (k=.str "put") || decide (k=.str "add")) with
     | false =>
      rw[ek]at q;exact aY (q H2 s12)
     | true =>
      rw[ek]at q;refine bJ ⟨_,rfl,t,_,rfl,.inr (SqT.of (s2 _ _ ht1)),rfl,?_⟩;rw[show decide (V.int (((k :: n :: r).length:Nat):Int)=V.int 3)=decide (r.length=1) by rw[show (3:Int)=((3:Nat):Int) from rfl,tD];simp]
      refine⟨_,rfl,?_⟩;by_cases hr1:r.length=1
      ·rw[decide_eq_true hr1]at q ⊢;obtain⟨z',rfl⟩:∃z',r=[z']:=by
        match r,hr1 with
        | [z'],_=>exact⟨z',rfl⟩
       have hz:=hi z' (by simp)
       refine bJ ⟨_,rfl,ex4 t _ _ _ ⟨rfl,rfl,SqT.of (s2 _ _ ht1),at2,z',rfl,hz.1.same s12,hz.2,?_⟩⟩;exact q H2 s12
      ·rw[decide_eq_false hr1]at q ⊢;exact aY (q H2 s12)
theorem scAsk:au ["asker","number","work"] ["asker","number","work"] (am sAsk):=fsc (by decide +kernel)
theorem ok_ask {f:Addr} {fd:FuncData} (F:Fun K "is_ask" "is_ask" sAsk f fd) (Fn:aV P w K mg base 1 "is_name" ["thing"] ti) (Ff:aV P w K mg base 2 "is_whole_from" ["thing","least"] jB) (Fw:aV P w K mg base 3 "is_work" ["thing"] lR):aQ P w K mg base CX0 4 f fd ["asker","number","work"] vI:=by
 refine F.ok scAsk (fun vs H Q E h=>?_) (fun cdv A outer s H vs Q E hr h=>?_)
 ·obtain⟨x1,x2,x3,o,rfl,_⟩:=h;rfl
 ·obtain⟨x1,x2,x3,o,rfl,h1,h2,h3,q⟩:=h;have r1:bj 1 _:=hr.mono (by decide)
  have r2:bj 2 _:=hr.mono (by decide)
  refine⟨_,aj <| ax <| cW (aB Fn r1 (ad (pv 0) ag)) (cW (aB Ff r2 (ad (pv 1) (ad af ag))) (dX (aB Fw hr (ad (pv 2) ag)))),?_⟩;refine⟨_,rfl,x1,rfl,h1,fun H1 s1=>⟨_,rfl,?_⟩⟩;cases e1:nmB x1 with
  | false =>
   rw[e1]at q;exact aY (q H1 s1)
  | true =>
   rw[e1]at q;refine bJ ⟨_,rfl,x2,1,rfl,h2.same s1,_,rfl,?_⟩;cases e2:gA 1 x2 with
   | false =>
    rw[e2]at q;exact aY (q H1 s1)
   | true =>
    rw[e2]at q;exact bJ ⟨_,rfl,x3,o,rfl,h3.same s1,fun H2 s2=>q H2 (s1.trans s2)⟩
theorem scPDeed:au ["thing"] ["thing"] (am pP):=fsc (by decide +kernel)
theorem vM {f:Addr} {fd:FuncData} (F:Fun K "is_deed" "is_deed" pP f fd) (B:Blt mg) (T:Bl2 mg) (Fa:aV P w K mg base 4 "is_ask" ["asker","number","work"] vI) (Fb:aV P w K mg base 3 "is_bench" ["thing"] vC):aQ P w K mg base CX0 5 f fd ["thing"] lS:=by
 refine F.ok scPDeed (fun vs H Q E h=>?_) (fun cdv A outer s H vs Q E hr h=>?_)
 ·obtain⟨x,v,rfl,_⟩:=h;rfl
 ·obtain⟨x,v,rfl,hV,q⟩:=h;have hu:=iB hr;have r3:bj 3 _:=hr.mono (by decide)
  refine⟨_,ae (aX (PW.pt (cN (df (cI (az cy (by rfl) T.isi ig (ad (pv 0) (ad (cQ (v:=.ty "tuple") (by rfl) B.tuple cm rfl) ag))))) <|
    cV (aH cj (az aL (by rfl) B.len PySem.boot_len (ad (pv 0) ag)) af (aG _)))) (aj (ax d9)) aK) <|
   ae (aX (aH (iP hu) (ar ao (pv 0) af (fun _ _=>rfl)) aU (aG _)) (aj (ax (bI cj (az aL (by rfl) B.len PySem.boot_len (ad (pv 0) ag)) af (aG _)))) aK) <|
   ae (aX (aH (iP hu) (ar ao (pv 0) af (fun _ _=>rfl)) aU (aG _)) (aj (ax (cW (bI cj (az aL (by rfl) B.len PySem.boot_len (ad (pv 0) ag)) af (aG _)) (dX (aB Fa hr (ad (ar ao (pv 0) af (fun _ _=>rfl)) (ad (ar ao (pv 0) af (fun _ _=>rfl)) (ad (ar ao (pv 0) af (fun _ _=>rfl)) ag)))))))) aK) <|
   aj <| ax <| cW (bI (iP hu) (ar ao (pv 0) af (fun _ _=>rfl)) aU (aG _)) <|
    cW (bI cj (az aL (by rfl) B.len PySem.boot_len (ad (pv 0) ag)) af (aG _)) <|
    dX (aB Fb r3 (ad (ar ao (pv 0) af (fun _ _=>rfl)) ag)),?_⟩
  have l0:∀(k:V)(r:List V),decide (V.int (((k :: r).length:Nat):Int)=V.int 0)=false:=fun k r=>by
   rw[show (0:Int)=((0:Nat):Int) from rfl,tD];simp
  have ln:∀(k:V)(r:List V)(n:Nat),decide (V.int (((k :: r).length:Nat):Int)=V.int (((n + 1:Nat)):Int))=decide (r.length=n):=fun k r n=>by
   rw[tD];simp
  cases hV with
  | no hk ne=>exact⟨_,rfl,ex4 _ _ _ false ⟨rfl,hk,fQ hk ne,_,rfl,bJ (bJ (q H (aq.refl H)))⟩⟩
  | @nil t ht =>
   refine⟨_,rfl,_,_,"tuple",true,rfl,Kd.tup (.inl ht),bo,_,rfl,aY ?_⟩;exact⟨_,rfl,t,_,rfl,.inr (SqT.of ht),rfl,_,rfl,bJ (q H (aq.refl H))⟩
  | @first t r ht hl =>
   refine⟨_,rfl,_,_,"tuple",true,rfl,Kd.tup (.inl ht),bo,_,rfl,aY ?_⟩;refine⟨_,rfl,t,_,rfl,.inr (SqT.of ht),rfl,_,rfl,?_⟩;rw[l0];refine aY ⟨_,rfl,ex4 t _ _ _ ⟨rfl,rfl,SqT.of ht,at0,_,rfl,.inl rfl,_,rfl,?_⟩⟩;rw[decide_eq_true rfl];refine bJ ⟨_,rfl,t,_,rfl,.inr (SqT.of ht),rfl,?_⟩;rw[show decide (V.int (((V.str "first" :: r).length:Nat):Int)=V.int 1)=decide (r.length=0) from ln _ r 0]
   exact q H (aq.refl H)
  | @ask4 t x1 x2 x3 o ht h1 h2 h3 =>
   refine⟨_,rfl,_,_,"tuple",true,rfl,Kd.tup (.inl ht),bo,_,rfl,aY ?_⟩;refine⟨_,rfl,t,_,rfl,.inr (SqT.of ht),rfl,_,rfl,?_⟩;rw[l0];refine aY ⟨_,rfl,ex4 t _ _ _ ⟨rfl,rfl,SqT.of ht,at0,_,rfl,.inl rfl,_,rfl,?_⟩⟩;rw[show decide (V.str "ask"=V.str "first")=false by decide +kernel]
   refine aY ⟨_,rfl,ex4 t _ _ _ ⟨rfl,rfl,SqT.of ht,at0,_,rfl,.inl rfl,_,rfl,?_⟩⟩;rw[decide_eq_true rfl];refine bJ ⟨_,rfl,t,_,rfl,.inr (SqT.of ht),rfl,_,rfl,?_⟩;rw[show decide (V.int ((([V.str "ask",x1,x2,x3]:List V).length:Nat):Int)=V.int 4)=true from decide_eq_true rfl];refine bJ ⟨_,rfl,ex4 t _ _ _ ⟨rfl,rfl,SqT.of ht,at1,_,rfl,ex4 t _ _ _ ⟨rfl,rfl,SqT.of ht,at2,_,rfl,ex4 t _ _ _ ⟨rfl,rfl,SqT.of ht,at3,x1,x2,x3,o,rfl,h1,h2,h3,fun H' s'=>q H' s'⟩⟩⟩⟩
  | @askn t r ht hl hn =>
   refine⟨_,rfl,_,_,"tuple",true,rfl,Kd.tup (.inl ht),bo,_,rfl,aY ?_⟩;refine⟨_,rfl,t,_,rfl,.inr (SqT.of ht),rfl,_,rfl,?_⟩;rw[l0];refine aY ⟨_,rfl,ex4 t _ _ _ ⟨rfl,rfl,SqT.of ht,at0,_,rfl,.inl rfl,_,rfl,?_⟩⟩;rw[show decide (V.str "ask"=V.str "first")=false by decide +kernel]
   refine aY ⟨_,rfl,ex4 t _ _ _ ⟨rfl,rfl,SqT.of ht,at0,_,rfl,.inl rfl,_,rfl,?_⟩⟩;rw[decide_eq_true rfl];refine bJ ⟨_,rfl,t,_,rfl,.inr (SqT.of ht),rfl,_,rfl,?_⟩;rw[show decide (V.int (((V.str "ask" :: r).length:Nat):Int)=V.int 4)=decide (r.length=3) from ln _ r 3,decide_eq_false hn];exact aY (q H (aq.refl H))
  | @bench2 t x1 o ht h1 =>
   refine⟨_,rfl,_,_,"tuple",true,rfl,Kd.tup (.inl ht),bo,_,rfl,aY ?_⟩;refine⟨_,rfl,t,_,rfl,.inr (SqT.of ht),rfl,_,rfl,?_⟩;rw[l0];refine aY ⟨_,rfl,ex4 t _ _ _ ⟨rfl,rfl,SqT.of ht,at0,_,rfl,.inl rfl,_,rfl,?_⟩⟩;rw[show decide (V.str "bench"=V.str "first")=false by decide +kernel]
   refine aY ⟨_,rfl,ex4 t _ _ _ ⟨rfl,rfl,SqT.of ht,at0,_,rfl,.inl rfl,_,rfl,?_⟩⟩;rw[show decide (V.str "bench"=V.str "ask")=false by decide +kernel]
   refine aY ⟨_,rfl,ex4 t _ _ _ ⟨rfl,rfl,SqT.of ht,at0,_,rfl,.inl rfl,_,rfl,?_⟩⟩;rw[decide_eq_true rfl];refine bJ ⟨_,rfl,t,_,rfl,.inr (SqT.of ht),rfl,_,rfl,?_⟩;rw[show decide (V.int ((([V.str "bench",x1]:List V).length:Nat):Int)=V.int 2)=true from decide_eq_true rfl];exact bJ ⟨_,rfl,ex4 t _ _ _ ⟨rfl,rfl,SqT.of ht,at1,x1,o,rfl,h1,fun H' s'=>q H' s'⟩⟩
  | @benchn t r ht hl hn =>
   refine⟨_,rfl,_,_,"tuple",true,rfl,Kd.tup (.inl ht),bo,_,rfl,aY ?_⟩;refine⟨_,rfl,t,_,rfl,.inr (SqT.of ht),rfl,_,rfl,?_⟩;rw[l0];refine aY ⟨_,rfl,ex4 t _ _ _ ⟨rfl,rfl,SqT.of ht,at0,_,rfl,.inl rfl,_,rfl,?_⟩⟩;rw[show decide (V.str "bench"=V.str "first")=false by decide +kernel]
   refine aY ⟨_,rfl,ex4 t _ _ _ ⟨rfl,rfl,SqT.of ht,at0,_,rfl,.inl rfl,_,rfl,?_⟩⟩;rw[show decide (V.str "bench"=V.str "ask")=false by decide +kernel]
   refine aY ⟨_,rfl,ex4 t _ _ _ ⟨rfl,rfl,SqT.of ht,at0,_,rfl,.inl rfl,_,rfl,?_⟩⟩;rw[decide_eq_true rfl];refine bJ ⟨_,rfl,t,_,rfl,.inr (SqT.of ht),rfl,_,rfl,?_⟩;rw[show decide (V.int (((V.str "bench" :: r).length:Nat):Int)=V.int 2)=decide (r.length=1) from ln _ r 1,decide_eq_false hn];exact aY (q H (aq.refl H))
  | @odd t k r ht hl hk n1 n2 n3 =>
   refine⟨_,rfl,_,_,"tuple",true,rfl,Kd.tup (.inl ht),bo,_,rfl,aY ?_⟩;refine⟨_,rfl,t,_,rfl,.inr (SqT.of ht),rfl,_,rfl,?_⟩;rw[l0];refine aY ⟨_,rfl,ex4 t _ _ _ ⟨rfl,rfl,SqT.of ht,at0,_,rfl,hk,_,rfl,?_⟩⟩;rw[decide_eq_false n1];refine aY ⟨_,rfl,ex4 t _ _ _ ⟨rfl,rfl,SqT.of ht,at0,_,rfl,hk,_,rfl,?_⟩⟩;rw[decide_eq_false n2];refine aY ⟨_,rfl,ex4 t _ _ _ ⟨rfl,rfl,SqT.of ht,at0,_,rfl,hk,_,rfl,?_⟩⟩;rw[decide_eq_false n3];exact aY (q H (aq.refl H))
theorem vN:au ["thing"] ["thing"] (am lQ):=fsc (by decide +kernel)
theorem tE {f:Addr} {fd:FuncData} (F:Fun K "is_entry" "is_entry" lQ f fd) (B:Blt mg) (T:Bl2 mg) (Ff:aV P w K mg base 2 "is_whole_from" ["thing","least"] jB) (Fd:aV P w K mg base 5 "is_deed" ["thing"] lS):aQ P w K mg base CX0 6 f fd ["thing"] jC:=by
 refine F.ok vN (fun vs H Q E h=>?_) (fun cdv A outer s H vs Q E hr h=>?_)
 ·obtain⟨x,v,rfl,_⟩:=h;rfl
 ·obtain⟨x,v,rfl,hV,q⟩:=h;have r2:bj 2 _:=hr.mono (by decide)
  refine⟨_,aj <| ax <| cW (az cy (by rfl) T.isi ig (ad (pv 0) (ad (cQ (v:=.ty "tuple") (by rfl) B.tuple cm rfl) ag))) <|
    cW (bI cj (az aL (by rfl) B.len PySem.boot_len (ad (pv 0) ag)) af (aG _)) <|
    cW (aB Ff r2 (ad (ar ao (pv 0) af (fun _ _=>rfl)) (ad af ag))) <|
    dX (aB Fd hr (ad (ar ao (pv 0) af (fun _ _=>rfl)) ag)),?_⟩
  cases hV with
  | no hk ne=>exact⟨_,rfl,ex4 _ _ _ false ⟨rfl,hk,fQ hk ne,_,rfl,aY (q H (aq.refl H))⟩⟩
  | @len a xs ha hl hn =>
   refine⟨_,rfl,_,_,"tuple",true,rfl,Kd.tup (.inl ha),bo,_,rfl,bJ ?_⟩;refine⟨_,rfl,a,_,rfl,.inr (SqT.of ha),rfl,_,rfl,?_⟩;rw[show decide (V.int ((xs.length:Nat):Int)=V.int 2)=false by rw[show (2:Int)=((2:Nat):Int) from rfl,tD];exact decide_eq_false hn]
   exact aY (q H (aq.refl H))
  | @two a t d v ha ht hd =>
   refine⟨_,rfl,_,_,"tuple",true,rfl,Kd.tup (.inl ha),bo,_,rfl,bJ ?_⟩;refine⟨_,rfl,a,_,rfl,.inr (SqT.of ha),rfl,_,rfl,?_⟩;rw[show decide (V.int ((([t,d]:List V).length:Nat):Int)=V.int 2)=true from decide_eq_true rfl];refine bJ ⟨_,rfl,ex4 a _ _ _ ⟨rfl,rfl,SqT.of ha,at0,t,1,rfl,ht,_,rfl,?_⟩⟩;cases e1:gA 1 t with
   | false =>
    rw[e1]at q;exact aY (q H (aq.refl H))
   | true =>
    rw[e1]at q;exact bJ ⟨_,rfl,ex4 a _ _ _ ⟨rfl,rfl,SqT.of ha,at1,d,v,rfl,hd,fun H' s'=>q H' s'⟩⟩
end
abbrev q9:Stmt:=top 85
abbrev sLet:Stmt:=top 86
abbrev sChk:Stmt:=top 87
def KT (K:Frag) (t:Addr) (ss:List Str):Prop:=∃(o:Obj)(its:Array Value)(n:Nat),K.lookup t=some o/\o.cls=.type "tuple" /\o.data=.seq its n/\its.size <= sizeLine/\bA (ss.map V.str) its.toList
theorem KT.sq{K:Frag}{t:Addr}{ss:List Str}{H:Hp}(h:KT K t ss):SqT K H t (ss.map V.str):=.inr h
noncomputable abbrev table:List (Str × List Str):=[("look",["whole","whole"]),("saw",["truth","whole"]),("vote",["whole","whole"]),("gave",["truth"]),("rows",["whole","whole","entries","whole","whole"]),("took",["truth","whole","whole"]),("piece",["whole","whole","whole","whole","text","whole"]),("got",["whole","whole","whole"])]
structure vO(w:World)(K:Frag)(mg:Str->Option Value):Prop where
 head:∃hP,mg "HEAD"=some (.ref hP)/\KT K hP ["name","name","whole"]
 parts:∃dP kvs,mg "PARTS"=some (.ref dP)/\uR w K dP kvs/\∀kd ss,(kd,ss) ∈ table->∃t,iD kvs kd=some t/\KT K t ss
inductive Pok(H:Hp):Str->V->Prop
 | name {x:Str}:Nm x->Pok H "name" (.str x)
 | truth (b:Bool):Pok H "truth" (.bl b)
 | text {x:Str}:x.length <= 100->Pok H "text" (.str x)
 | entries {a:Addr} {xs:List V}:H a=some (.tup xs)->xs.length <= 60->(∀y ∈ xs,EnV H y true)->Pok H "entries" (.ref a)
 | whole {i:Int}:0 <= i->Pok H "whole" (.int i)
theorem Pok.same{H H':Hp}{s:Str}{x:V}(e:aq H H')(h:Pok H s x):Pok H' s x:=by
 cases h with
 | name h=>exact .name h
 | truth b=>exact .truth b
 | text h=>exact .text h
 | entries h hl hi=>exact .entries (e _ _ h) hl fun y hy=>(hi y hy).same e
 | whole h=>exact .whole h
structure jY(H:Hp)(t:Addr):Prop where
 ex:∃(kd:Str)(ss:List Str)(ps:List V),(kd,ss) ∈ table/\H t=some (.tup (.str kd :: ps))/\ps.length=ss.length + 3/\(∀(i:Nat)(s:Str)(p:V),([("name":Str),"name","whole"] ++ ss)[i]?=some s->ps[i]?=some p->Pok H s p) /\
  (kd="piece" ->∃a b:Int,ps[5]?=some (.int a)/\ps[6]?=some (.int b)/\a < b)
theorem jY.same{H H':Hp}{t:Addr}(e:aq H H')(h:jY H t):jY H' t:=by
 obtain⟨kd,ss,ps,h1,h2,h3,h4,h5⟩:=h.ex;exact⟨kd,ss,ps,h1,e _ _ h2,h3,fun i s p hs hp=>(h4 i s p hs hp).same e,h5⟩
def pR:Sp:=fun us H Q _=>∃(s:Str)(x:V),us=[.str s,x]/\Pok H s x/\∀H',aq H H'->Q (.bl true) H'
def vP:Sp:=fun us H Q _=>(∃t:Addr,us=[.ref t]/\jY H t/\∀H',aq H H'->Q (.bl true) H')\/∃(a:Addr)(xs:List V),us=[.ref a]/\H a=some (.lst xs)/\Q (.bl false) H
def vQ(CL:Addr):Sp:=fun us H Q E=>(∃t:Addr,us=[.ref t]/\jY H t/\∀H',aq H H'->Q .non H')\/∃(a:Addr)(xs:List V),us=[.ref a]/\H a=some (.lst xs)/\E (.ref CL) none H
theorem ra{α:Type}(xs:List α):(xs.map fun _=>V.bl true)=(xs.map fun _=>true).map V.bl:=by rw[List.map_map];rfl
theorem rb{α:Type}(xs:List α):(xs.map fun _=>true).all id=true:=by rw[List.all_map];exact List.all_eq_true.mpr fun _ _=>rfl
theorem cutV1(x:V)(ps:List V):cx (x :: ps) (some 1) none=ps:=by
 unfold cx;rw[HT.eR,show HT.sIx (x :: ps).length 0 (some 1)=min 1 (x :: ps).length from HT.dN _ _ 1,length_cons,Nat.min_eq_left (by lia),List.drop_one,List.tail_cons]
 exact take_of_length_le (by lia)
section
variable{P:Program}{w:World}{K:Frag}{mg:Str->Option Value}{base:Heap}
theorem scPart:au ["sort","thing"] ["sort","thing"] (am q9):=fsc (by decide +kernel)
theorem ndPE:((["sort","thing"]:List Str) ++ (["entry"]:List Str)).Nodup:=by decide +kernel
theorem ok_part {f:Addr} {fd:FuncData} (F:Fun K "is_part" "is_part" q9 f fd) (B:Blt mg) (T:Bl2 mg) (U:Bl3 mg) (Fn:aV P w K mg base 1 "is_name" ["thing"] ti) (Ff:aV P w K mg base 2 "is_whole_from" ["thing","least"] jB) (Fe:aV P w K mg base 6 "is_entry" ["thing"] jC):aQ P w K mg base CX0 7 f fd ["sort","thing"] pR:=by
 refine F.ok scPart (fun vs H Q E h=>?_) (fun cdv A outer s H vs Q E hr h=>?_)
 ·obtain⟨s,x,rfl,_⟩:=h;rfl
 ·obtain⟨s,x,rfl,hP,q⟩:=h;have r1:bj 1 _:=hr.mono (by decide)
  have r2:bj 2 _:=hr.mono (by decide)
  refine⟨_,ae (aX (aH cj (pv 0) aU (aG _)) (aj (ax (aB Fn r1 (ad (pv 1) ag)))) aK) <|
   ae (aX (aH cj (pv 0) aU (aG _)) (aj (ax (az cy (by rfl) T.isi ig (ad (pv 1) (ad (cQ (v:=.ty "bool") (by rfl) U.bool bBool rfl) ag))))) aK) <|
   ae (aX (aH cj (pv 0) aU (aG _)) (aj (ax (az cy (by rfl) T.isi ig (ad (pv 1) (ad (cQ (v:=.ty "str") (by rfl) T.str bStr rfl) ag))))) aK) <|
   ae (aX (aH cj (pv 0) aU (aG _)) (aj (ax (cW (az cy (by rfl) T.isi ig (ad (pv 1) (ad (cQ (v:=.ty "tuple") (by rfl) B.tuple cm rfl) ag))) (dX (az (eF rfl) (by rfl) T.all sY (ad (gy ["sort","thing"] ["sort","thing"] ["entry"] (am q9) rfl rfl rfl (by decide +kernel) rfl rfl (by decide +kernel) (by decide +kernel) (by decide +kernel) (by decide +kernel)
     (gE (pv 1)) (fun _ _ _ _ _=>aA (i:=2) ndPE rfl (Or.inl rfl)) (fun _ _ _ _ _=>cR) (fun _ _ _ _ _=>aB (X:=cxC _ _ _ _ _ _ _ _ _) Fe hr (ad (pv 2) ag))) ag)))))) aK) <|
   aj (ax (aB Ff r2 (ad (pv 1) (ad af ag)))),?_⟩
  dsimp only[bv,Cx.nox];cases hP with
  | @name x hx =>
   refine⟨_,rfl,rfl,_,rfl,?_⟩;rw[decide_eq_true rfl];refine bJ (rd2 rfl rfl ⟨Im.nm hx,fun H' s'=>?_⟩);rw[jw hx];exact q H' s'
  | truth b =>
   refine⟨_,rfl,rfl,_,rfl,?_⟩;rw[show decide (V.str "truth"=V.str "name")=false by decide +kernel]
   refine aY ⟨_,rfl,rfl,_,rfl,?_⟩;rw[decide_eq_true rfl];exact bJ ⟨_,rfl,ex4 _ _ _ true ⟨rfl,Kd.bl b,bo,q H (aq.refl H)⟩⟩
  | @text x hx =>
   refine⟨_,rfl,rfl,_,rfl,?_⟩;rw[show decide (V.str "text"=V.str "name")=false by decide +kernel]
   refine aY ⟨_,rfl,rfl,_,rfl,?_⟩;rw[show decide (V.str "text"=V.str "truth")=false by decide +kernel]
   refine aY ⟨_,rfl,rfl,_,rfl,?_⟩;rw[decide_eq_true rfl];exact bJ ⟨_,rfl,ex4 _ _ _ true ⟨rfl,Kd.str x,bo,q H (aq.refl H)⟩⟩
  | @entries a xs ha hl hi =>
   refine⟨_,rfl,rfl,_,rfl,?_⟩;rw[show decide (V.str "entries"=V.str "name")=false by decide +kernel]
   refine aY ⟨_,rfl,rfl,_,rfl,?_⟩;rw[show decide (V.str "entries"=V.str "truth")=false by decide +kernel]
   refine aY ⟨_,rfl,rfl,_,rfl,?_⟩;rw[show decide (V.str "entries"=V.str "text")=false by decide +kernel]
   refine aY ⟨_,rfl,rfl,_,rfl,?_⟩;rw[decide_eq_true rfl];refine bJ ⟨_,rfl,ex4 _ _ _ true ⟨rfl,Kd.tup (.inl ha),bo,_,rfl,bJ ?_⟩⟩;refine⟨_,rfl,a,rfl,⟨_,SqT.of ha⟩,?_⟩;refine uL (fun _=>V.bl true) rfl ha (by lia) (fun D x ys H1 post hD hx sm hDD hpost=>?_) (fun D H1 hD sm eD=>?_)
   ·exact⟨_,rfl,x,true,rfl,(hi x hx).same sm,fun H' s'=>hpost H' s'⟩
   rw[ra]at eD;refine⟨D,_,rfl,SqL.of eD,?_⟩;rw[rb];exact q _ sm
  | @whole i hi =>
   refine⟨_,rfl,rfl,_,rfl,?_⟩;rw[show decide (V.str "whole"=V.str "name")=false by decide +kernel]
   refine aY ⟨_,rfl,rfl,_,rfl,?_⟩;rw[show decide (V.str "whole"=V.str "truth")=false by decide +kernel]
   refine aY ⟨_,rfl,rfl,_,rfl,?_⟩;rw[show decide (V.str "whole"=V.str "text")=false by decide +kernel]
   refine aY ⟨_,rfl,rfl,_,rfl,?_⟩;rw[show decide (V.str "whole"=V.str "entries")=false by decide +kernel]
   refine aY ⟨_,rfl,_,0,rfl,⟨.inl rfl,fun z e=>by cases e⟩,?_⟩
   rw[show gA 0 (.int i)=true from decide_eq_true hi];exact q H (aq.refl H)
abbrev nLet:List Str:=["thing","sorts"]
theorem scLet:au nLet ["thing"] (am sLet):=fsc (by decide +kernel)
theorem ndLet:(nLet ++ (["sort","part"]:List Str)).Nodup:=by decide +kernel
theorem at6{α:Type}{xs:List α}{a:α}{x:α}(h:xs[5]?=some a):atI (x :: xs) 6=some a:=bW (j:=6) (by simpa using h)
theorem at7{α:Type}{xs:List α}{a:α}{x:α}(h:xs[6]?=some a):atI (x :: xs) 7=some a:=bW (j:=7) (by simpa using h)
theorem ok_let {f:Addr} {fd:FuncData} (F:Fun K "is_letter" "is_letter" sLet f fd) (B:Blt mg) (T:Bl2 mg) (G:vO w K mg) (Fp:aV P w K mg base 7 "is_part" ["sort","thing"] pR):aQ P w K mg base CX0 8 f fd ["thing"] vP:=by
 refine F.ok scLet (fun vs H Q E h=>?_) (fun cdv A outer s H vs Q E hr h=>?_)
 ·rcases h with ⟨t,rfl,_⟩ | ⟨a,xs,rfl,_⟩ <;> rfl
 ·obtain⟨hP,mH,kH⟩:=G.head;obtain⟨dP,kvs,mP,kP,tab⟩:=G.parts;have nd:=scLet.nd;have hs16:sizeLine=16777216:=sizeLine_eq;refine⟨_,ae (aX (PW.pt (cN (df (cI (az cy (by rfl) T.isi ig (ad (pv 0) (ad (cQ (v:=.ty "tuple") (by rfl) B.tuple cm rfl) ag))))) <|
    cN (aH cj (az aL (by rfl) B.len PySem.boot_len (ad (pv 0) ag)) af (aG _)) <|
    cN (df (cI (az cy (by rfl) T.isi ig (ad (ar ao (pv 0) af (fun _ _=>rfl)) (ad (cQ (v:=.ty "str") (by rfl) T.str bStr rfl) ag))))) <|
    cV (aH sG (ar ao (pv 0) af (fun _ _=>rfl)) (eX (v:=.ref dP) (by rfl) mP rfl) (by rfl)))) (aj (ax d9)) aK) <|
   ae (aC (i:=1) nd rfl (Or.inl rfl) (aE qI (eX (v:=.ref hP) (by rfl) mH rfl) (uT (eX (v:=.ref dP) (by rfl) mP rfl) (ar ao (pv 0) af (fun _ _=>rfl)) (fun _ _=>rfl)))) <|
   ae (aX (PW.pt (cN (aH gI (az aL (by rfl) B.len PySem.boot_len (ad (pv 0) ag)) (aE bn (az aL (by rfl) B.len PySem.boot_len (ad (pv 1) ag)) af) (aG _)) <|
    cV (df (cI (az (eF rfl) (by rfl) T.all sY (ad (gy nLet nLet ["sort","part"] (am sLet) rfl rfl rfl (by decide +kernel) rfl rfl (by decide +kernel) (by decide +kernel) (by decide +kernel) (by decide +kernel)
     (qR (by rfl) T.zip (ad (pv 1) (ad (bM cK (pv 0) (bQ af) cv) ag)))
     (fun _ _ _ _ _=>qQ (n:=2) rfl (aF (aA (i:=2) ndLet rfl (Or.inl rfl)) (aF (aA (i:=3) ndLet rfl (Or.inl rfl)) cn))) (fun _ _ _ _ _=>cR)
     (fun _ _ _ _ _=>aB (X:=cxC _ _ _ _ _ _ _ _ _) Fp hr (ad (pv 2) (ad (pv 3) ag)))) ag)))))) (aj (ax d9)) aK) <|
   aj (ax (pe_or (bI gI (ar ao (pv 0) af (fun _ _=>rfl)) aU (aG _)) (dX (bI fj (ar ao (pv 0) af (fun _ _=>rfl)) (ar ao (pv 0) af (fun _ _=>rfl)) (aG _))))),?_⟩
  dsimp only[bv,Cx.nox];rcases h with ⟨t,rfl,hL,q⟩ | ⟨a,xs,rfl,ha,q⟩
  ·obtain⟨kd,ss,ps,hm,ht,hl,hi,hp⟩:=hL.ex;obtain⟨tt,hg,kt⟩:=tab kd ss hm;have hss:ss.length <= 6:=by
    simp only[table,List.mem_cons,not_mem_nil,or_false,Prod.mk.injEq]at hm;rcases hm with ⟨_,rfl⟩ | ⟨_,rfl⟩ | ⟨_,rfl⟩ | ⟨_,rfl⟩ | ⟨_,rfl⟩ | ⟨_,rfl⟩ | ⟨_,rfl⟩ | ⟨_,rfl⟩ <;> decide
   refine⟨_,rfl,_,_,"tuple",true,rfl,Kd.tup (.inl ht),bo,_,rfl,aY ?_⟩;refine⟨_,rfl,t,_,rfl,.inr (SqT.of ht),rfl,_,rfl,?_⟩;rw[show decide (V.int (((V.str kd :: ps).length:Nat):Int)=V.int 0)=false by rw[show (0:Int)=((0:Nat):Int) from rfl,tD];simp]
   refine aY ⟨_,rfl,ex4 t _ _ _ ⟨rfl,rfl,SqT.of ht,at0,_,_,_,true,rfl,Kd.str kd,bo,_,rfl,aY ?_⟩⟩;refine⟨_,rfl,ex4 t _ _ _ ⟨rfl,rfl,SqT.of ht,at0,dP,kd,kvs,rfl,rfl,kP,_,rfl,?_⟩⟩;rw[hg];refine aY ?_;refine⟨_,rfl,ex4 t _ _ _ ⟨rfl,rfl,SqT.of ht,at0,dP,kd,kvs,tt,rfl,rfl,kP,hg,?_⟩⟩;have ne:ss ≠ []:=by
    simp only[table,List.mem_cons,not_mem_nil,or_false,Prod.mk.injEq]at hm;rcases hm with ⟨_,rfl⟩ | ⟨_,rfl⟩ | ⟨_,rfl⟩ | ⟨_,rfl⟩ | ⟨_,rfl⟩ | ⟨_,rfl⟩ | ⟨_,rfl⟩ | ⟨_,rfl⟩ <;> exact List.cons_ne_nil _ _
   refine⟨hP,tt,oo rfl rfl ⟨kH.sq,kt.sq,List.cons_ne_nil _ _,(by rw[length_map,length_map];show 3 + ss.length <= _;lia),fun e=>absurd (List.map_eq_nil_iff.mp e) ne,fun _ p hp2=>?_⟩⟩
   rw[<- List.map_append];have s1:aq H _:=dE (o:=.tup (([("name":Str),"name","whole"] ++ ss).map V.str)) hp2;have e1:(upd H p (.tup (([("name":Str),"name","whole"] ++ ss).map V.str))) p=_:=ai;generalize upd H p (.tup (([("name":Str),"name","whole"] ++ ss).map V.str))=H1 at s1 e1 ⊢;refine⟨_,rfl,t,_,rfl,.inr (SqT.of (s1 _ _ ht)),_,rfl,p,_,rfl,.inr (SqT.of e1),oo rfl rfl ⟨rfl,_,rfl,?_⟩⟩;rw[show (!decide (V.int (((V.str kd :: ps).length:Nat):Int)=V.int (((([("name":Str),"name","whole"] ++ ss).map V.str).length:Nat) + 1)))=false by
    rw[length_map,length_append,length_cons,hl,decide_eq_true (by simp;lia)];rfl]
   refine aY (rd3 rfl rfl rfl ⟨t,_,rfl,s1 _ _ ht,fun p2 H2 s2 ep=>?_⟩);rw[cutV1]at ep;refine⟨p,p2,_,_,rfl,SqT.of (s2 _ _ e1),SqT.of ep,?_⟩;refine lcZU (fun _ _=>V.bl true) (s2 _ _ e1) ep (by rw[length_map,length_append];show 3 + ss.length <= 1000;lia) (fun p' x y Hx R hp' hR=>?_) (fun i x y Hx post hx hy sx hpost=>?_) (fun D2 H3 hD2 s3 e3=>?_)
   ·exact⟨p',_,rfl,SqT.of hp',rfl,x,[y],rfl,y,[],rfl,rfl,hR⟩
   ·rw[getElem?_map]at hx;obtain⟨sx',hx1,rfl⟩:=Option.map_eq_some_iff.mp hx;exact(rd2 rfl rfl ⟨sx',y,rfl,(hi i sx' y hx1 hy).same ((s1.trans s2).trans sx),fun H' s'=>hpost H' s'⟩)
   rw[ra]at e3;refine⟨D2,_,rfl,SqL.of e3,?_⟩;rw[rb];have s13:=(s1.trans s2).trans s3;refine⟨_,rfl,aY ?_⟩;refine⟨_,rfl,ex4 t _ _ _ ⟨rfl,rfl,SqT.of (s13 _ _ ht),at0,rfl,_,rfl,?_⟩⟩;by_cases hk:kd="piece"
   ·obtain⟨a,b,ha,hb,hab⟩:=hp hk;rw[decide_eq_true (show V.str kd=V.str "piece" by rw[hk])]
    refine aY ⟨_,rfl,ex4 t _ _ _ ⟨rfl,rfl,SqT.of (s13 _ _ ht),at6 ha,_,rfl,ex4 t _ _ _ ⟨rfl,rfl,SqT.of (s13 _ _ ht),at7 hb,oo rfl rfl ?_⟩⟩⟩;show Q (.bl (decide (a < b))) H3;rw[decide_eq_true hab];exact q _ s13
   ·rw[decide_eq_false (show ¬V.str kd=V.str "piece" from fun e=>hk (by injection e))]
    exact bJ (q _ s13)
  ·exact⟨_,rfl,ex4 _ _ _ false ⟨rfl,Kd.lst (.inl ha),uD,_,rfl,bJ (bJ q)⟩⟩
theorem scChk:au ["thing"] ["thing"] (am sChk):=fsc (by decide +kernel)
theorem ok_chk {f CL:Addr} {fd:FuncData} (F:Fun K "check_letter" "check_letter" sChk f fd) (XL:ExcC K mg "NoLetter" CL) (Fl:aV P w K mg base 8 "is_letter" ["thing"] vP):aQ P w K mg base (CXR P w base) 9 f fd ["thing"] (vQ CL):=by
 refine F.okR scChk (fun us H Q E h=>?_) (fun cdv A outer s H us Q E hr h=>?_)
 ·rcases h with ⟨t,rfl,_⟩ | ⟨a,xs,rfl,_⟩ <;> rfl
 ·refine⟨_,aj (aX (df (cI (aB Fl hr (ad (pv 0) ag)))) (aj (uO passN rfl XL (by rfl) (ad aU ag))) aK),?_⟩
  rcases h with ⟨t,rfl,hL,q⟩ | ⟨a,xs,rfl,ha,q⟩
  ·exact⟨_,rfl,.inl ⟨t,rfl,hL,fun H' s'=>⟨_,rfl,aY (q H' s')⟩⟩⟩
  ·exact⟨_,rfl,.inr ⟨a,xs,rfl,ha,_,rfl,bJ ⟨(by show 1 <= sizeLine;decide),q⟩⟩⟩
end
open K43T (Kvs Las Wk aS bR cH cu dF aI aT Eqv ci bS cS)
abbrev pS:Stmt:=aP (top 109) 0
abbrev lT:Stmt:=aP (top 109) 1
abbrev sUp:Stmt:=aP (top 109) 2
abbrev vR:Stmt:=aP (top 109) 6
abbrev pT:Stmt:=aP (top 109) 7
abbrev lU:Stmt:=aP (top 109) 9
abbrev lV:Stmt:=aP (top 109) 14
abbrev lW:Stmt:=aP (top 109) 17
abbrev ij:Stmt:=aP (top 96) 2
abbrev pU:Stmt:=aP (top 89) 6
noncomputable abbrev flH (nm:Str) (wa sz:Int) (m:Addr):List (Str × V):=aM "mind" (.ref m) (aM "size" (.int sz) (aM "wait" (.int wa) (aM "name" (.str nm) [])))
theorem flH_n {nm:Str} {wa sz:Int} {m:Addr}:(flH nm wa sz m).lookup ("name":Str)=some (.str nm):=by kernel_rfl
theorem flH_w {nm:Str} {wa sz:Int} {m:Addr}:(flH nm wa sz m).lookup ("wait":Str)=some (.int wa):=by kernel_rfl
theorem flH_s {nm:Str} {wa sz:Int} {m:Addr}:(flH nm wa sz m).lookup ("size":Str)=some (.int sz):=by kernel_rfl
theorem gB {nm:Str} {wa sz:Int} {m:Addr}:(flH nm wa sz m).lookup ("mind":Str)=some (.ref m):=by kernel_rfl
theorem flH_put {nm:Str} {wa sz:Int} {m m2:Addr}:aM "mind" (.ref m2) (flH nm wa sz m)=flH nm wa sz m2:=by kernel_rfl
theorem flH_len{nm:Str}{wa sz:Int}{m:Addr}:(flH nm wa sz m).length=4:=by kernel_rfl
noncomputable abbrev flG (nm:Str) (wa sz:Int) (wr rl bd:Addr) (ro kn:V) (qu:Int) (yl sd:Addr) (se:V) (gl fl sl:Addr):List (Str × V):=aM "shown" (.ref sl) (aM "found" (.ref fl) (aM "given" (.ref gl) (aM "seat" se (aM "sheets" (.ref sd) (aM "yes" (.ref yl) (aM "quiet" (.int qu) (aM "known" kn (aM "role" ro (aM "board" (.ref bd) (aM "records" (.ref rl) (aM "kept" (.ref wr) (aM "size" (.int sz) (aM "wait" (.int wa) (aM "name" (.str nm) []))))))))))))))
section
variable{nm:Str}{wa sz qu:Int}{ro kn se:V}{wr rl bd yl sd gl fl sl:Addr}
theorem flG_n:(flG nm wa sz wr rl bd ro kn qu yl sd se gl fl sl).lookup ("name":Str)=some (.str nm):=by kernel_rfl
theorem fR:(flG nm wa sz wr rl bd ro kn qu yl sd se gl fl sl).lookup ("kept":Str)=some (.ref wr):=by kernel_rfl
theorem vS:(flG nm wa sz wr rl bd ro kn qu yl sd se gl fl sl).lookup ("board":Str)=some (.ref bd):=by kernel_rfl
theorem flG_r:(flG nm wa sz wr rl bd ro kn qu yl sd se gl fl sl).lookup ("role":Str)=some (ro):=by kernel_rfl
theorem flG_c:(flG nm wa sz wr rl bd ro kn qu yl sd se gl fl sl).lookup ("known":Str)=some (kn):=by kernel_rfl
theorem flG_rl:(flG nm wa sz wr rl bd ro kn qu yl sd se gl fl sl).lookup ("records":Str)=some (.ref rl):=by kernel_rfl
theorem cC:(flG nm wa sz wr rl bd ro kn qu yl sd se gl fl sl).lookup ("settled":Str)=none:=by kernel_rfl
theorem dJ:(flG nm wa sz wr rl bd ro kn qu yl sd se gl fl sl).lookup ("row":Str)=none:=by kernel_rfl
theorem fq:(flG nm wa sz wr rl bd ro kn qu yl sd se gl fl sl).lookup ("is_chair":Str)=none:=by kernel_rfl
theorem gD:(flG nm wa sz wr rl bd ro kn qu yl sd se gl fl sl).lookup ("follow":Str)=none:=by kernel_rfl
theorem jD:(flG nm wa sz wr rl bd ro kn qu yl sd se gl fl sl).lookup ("rise_to":Str)=none:=by kernel_rfl
theorem jZ:(flG nm wa sz wr rl bd ro kn qu yl sd se gl fl sl).lookup ("record":Str)=none:=by kernel_rfl
theorem il:(flG nm wa sz wr rl bd ro kn qu yl sd se gl fl sl).lookup ("settle_to":Str)=none:=by kernel_rfl
theorem pV:(flG nm wa sz wr rl bd ro kn qu yl sd se gl fl sl).lookup ("cut":Str)=none:=by kernel_rfl
theorem oy:(flG nm wa sz wr rl bd ro kn qu yl sd se gl fl sl).lookup ("term":Str)=none:=by kernel_rfl
theorem gS:(flG nm wa sz wr rl bd ro kn qu yl sd se gl fl sl).lookup ("stand":Str)=none:=by kernel_rfl
theorem flG_pr {x:V}:aM "role" x (flG nm wa sz wr rl bd ro kn qu yl sd se gl fl sl)=flG nm wa sz wr rl bd x kn qu yl sd se gl fl sl:=by kernel_rfl
theorem flG_pc {x:V}:aM "known" x (flG nm wa sz wr rl bd ro kn qu yl sd se gl fl sl)=flG nm wa sz wr rl bd ro x qu yl sd se gl fl sl:=by kernel_rfl
theorem flG_pse {x:V}:aM "seat" x (flG nm wa sz wr rl bd ro kn qu yl sd se gl fl sl)=flG nm wa sz wr rl bd ro kn qu yl sd x gl fl sl:=by kernel_rfl
theorem flG_pq {x:Int}:aM "quiet" (.int x) (flG nm wa sz wr rl bd ro kn qu yl sd se gl fl sl)=flG nm wa sz wr rl bd ro kn x yl sd se gl fl sl:=by kernel_rfl
theorem iX:(flG nm wa sz wr rl bd ro kn qu yl sd se gl fl sl).length=15:=by kernel_rfl
end
section
variable{t s:Int}{v:V}{kr:Addr}
theorem jE:(flW t v s kr).lookup ("rise_to":Str)=none:=by kernel_rfl
theorem im:(flW t v s kr).lookup ("settle_to":Str)=none:=by kernel_rfl
theorem fu:(flW t v s kr).lookup ("keep_row":Str)=none:=by kernel_rfl
theorem lX:(flW t v s kr).lookup ("stand":Str)=none:=by kernel_rfl
theorem flW_pt {x:Int}:aM "term" (.int x) (flW t v s kr)=flW x v s kr:=by kernel_rfl
theorem flW_pv {x:V}:aM "vote" x (flW t v s kr)=flW t x s kr:=by kernel_rfl
theorem flW_ps {x:Int}:aM "settled_place" (.int x) (flW t v s kr)=flW t v x kr:=by kernel_rfl
theorem flW_pk {x:Addr}:aM "kept_row" (.ref x) (flW t v s kr)=flW t v s x:=by kernel_rfl
theorem iY:(flW t v s kr).length=4:=by kernel_rfl
end
section
variable{st en:Addr}
theorem j3:(flR st en).lookup ("filled":Str)=none:=by kernel_rfl
theorem jF:(flR st en).lookup ("term_at":Str)=none:=by kernel_rfl
theorem jG:(flR st en).lookup ("between":Str)=none:=by kernel_rfl
theorem j4:(flR st en).lookup ("behind":Str)=none:=by kernel_rfl
theorem fS:(flR st en).lookup ("term":Str)=none:=by kernel_rfl
end
section
variable{nm:Str}{wa sz:Int}{m:Addr}
theorem lY:(flH nm wa sz m).lookup ("heard":Str)=none:=by kernel_rfl
theorem gw:(flH nm wa sz m).lookup ("chair_letter":Str)=none:=by kernel_rfl
theorem oz:(flH nm wa sz m).lookup ("term":Str)=none:=by kernel_rfl
theorem oA:(flH nm wa sz m).lookup ("kept":Str)=none:=by kernel_rfl
end
theorem vT {d l:Addr}:(K43T.dB d l).lookup ("name":Str)=none:=by unfold K43T.dB;kernel_rfl
theorem vU {d l:Addr}:(K43T.dB d l).lookup ("term":Str)=none:=by unfold K43T.dB;kernel_rfl
theorem oB {t:Int} {v:V} {s:Int} {kr:Addr}:(flW t v s kr).lookup ("told":Str)=none:=by kernel_rfl
theorem eM {d l:Addr}:(K43T.dB d l).lookup ("told":Str)=none:=by unfold K43T.dB;kernel_rfl
theorem oC {d l:Addr}:(K43T.dB d l).lookup ("twin":Str)=none:=by unfold K43T.dB;kernel_rfl
structure ClH(K:Frag)(mg:Str->Option Value)(C:Addr):Prop where
 cl:Cls K C
 n0:bF K C "name"
 n1:bF K C "wait"
 n2:bF K C "size"
 n3:bF K C "mind"
 mgC:mg "House"=some (.ref C)
theorem eG{H:Hp}{a b C C' dx dx':Addr}{fs fs':List (Str × V)}(k:Str)(ha:H a=some (.ins C dx fs))(hb:H b=some (.ins C' dx' fs'))(h:fs.lookup k ≠ fs'.lookup k):a ≠ b:=fun z=>by
 subst z;rw[ha]at hb;have:=(HO.ins.inj (Option.some.inj hb)).2.2;exact h (by rw[this])
theorem fT{fs fs':List (Str × V)}{k:Str}{v:V}(h:fs.lookup k=some v)(h':fs'.lookup k=none):fs.lookup k ≠ fs'.lookup k:=by
 rw[h,h'];intro z;cases z
structure TkZ(H H':Hp):Prop where
 t:Tk H H'
 z:∀a o y,H a=some (.frz o y)->H' a=some (.frz o y)
theorem TkZ.of{H H':Hp}(s:aq H H'):TkZ H H':=⟨Tk.of s,fun a o y e=>s _ _ e⟩
theorem TkZ.refl(H:Hp):TkZ H H:=⟨Tk.refl H,fun _ _ _ e=>e⟩
theorem TkZ.trans{H H1 H2:Hp}(a:TkZ H H1)(b:TkZ H1 H2):TkZ H H2:=⟨a.t.trans b.t,fun x o y e=>b.z _ _ _ (a.z _ _ _ e)⟩
theorem TkZ.bt{H H':Hp}{x:Addr}{u:HO}(e:BtO x H H')(hx:H x=some u)(n1:∀xs,u ≠ .tup xs)(n2:∀o y,u ≠ .frz o y):TkZ H H':=⟨fun a xs h=>e _ _ (aN h hx (fun z=>n1 xs z.symm)) h,fun a o y h=>e _ _ (aN h hx (fun z=>n2 o y z.symm)) h⟩
theorem TkZ.ins{H H':Hp}{x C dx:Addr}{fs:List (Str × V)}(e:BtO x H H')(hx:H x=some (.ins C dx fs)):TkZ H H':=TkZ.bt e hx (fun _ z=>by cases z) (fun _ _ z=>by cases z)
theorem TkZ.lst{H H':Hp}{x:Addr}{fs:List V}(e:BtO x H H')(hx:H x=some (.lst fs)):TkZ H H':=TkZ.bt e hx (fun _ z=>by cases z) (fun _ _ z=>by cases z)
section
variable{K:Frag}{H H':Hp}
theorem lZ{x:Addr}{ys:List V}(k:TkZ H H')(h:SqT K H x ys):SqT K H' x ys:=by
 rcases h with h | h
 ·refine .inl ?_;rcases h with h | ⟨u,h⟩
  ·exact .inl (k.t _ _ h)
  ·exact .inr ⟨u,k.z _ _ _ h⟩
 ·exact .inr h
theorem bT.tkz{st:Addr}{pl tm:Int}{b:Addr}{hk:List (Key × V)}{hq:List (Str × Int × V)}(e:TkZ H H')(h:bT K H st pl tm b hk hq):bT K H' st pl tm b hk hq:=by
 obtain⟨hh,aa,o,ps,as,h1,h2,h3,h4,h5,h6,h7,h8,h9⟩:=h;refine⟨hh,aa,o,ps,as,e.t _ _ h1,e.z _ _ _ h2,h3,h4,fun j kv q=>?_,lZ e h6,h7,h8,fun j kv q=>?_⟩
 ·obtain⟨b,b1,b2⟩:=h5 j kv q;exact⟨b,b1,lZ e b2⟩
 ·obtain⟨b,b1,b2⟩:=h9 j kv q;exact⟨b,b1,lZ e b2⟩
theorem aS.keepT{CT T d l:Addr}{kvs:Kvs}{las:Las}(kT:∀u,H T=some u->H' T=some u)(kd:∀u,H d=some u->H' d=some u)(kl:∀u,H l=some u->H' l=some u)(k:TkZ H H')(h:aS K CT H T d l kvs las):aS K CT H' T d l kvs las:=by
 obtain⟨⟨dx,h1⟩,h2,⟨lk,h3,h4⟩,h5⟩:=h;exact⟨⟨dx,kT _ h1⟩,kd _ h2,⟨lk,kl _ h3,h4.mono fun t xs q=>lZ k q⟩,h5⟩
theorem aS.neD{CT T d l x C dx:Addr}{fs:List (Str × V)}{kvs:Kvs}{las:Las}(h:aS K CT H T d l kvs las)(hx:H x=some (.ins C dx fs)):d ≠ x/\l ≠ x:=by
 obtain⟨⟨dx,h1⟩,h2,⟨lk,h3,h4⟩,h5⟩:=h;exact⟨aN h2 hx (by intro z;cases z),aN h3 hx (by intro z;cases z)⟩
theorem aS.neL{CT T d l x:Addr}{fs:List V}{kvs:Kvs}{las:Las}(h:aS K CT H T d l kvs las)(hx:H x=some (.lst fs)):T ≠ x/\d ≠ x/\l ≠ x:=by
 obtain⟨⟨dx,h1⟩,h2,⟨lk,h3,h4⟩,h5⟩:=h;exact⟨aN h1 hx (by intro z;cases z),aN h2 hx (by intro z;cases z),aN h3 hx (by intro z;cases z)⟩
theorem WrG.keep{CW CR wr:Addr}{t:Int}{v:V}{s:Int}{kr st en:Addr}{pl tm:Int}{b:Addr}{hk:List (Key × V)}{hq:List (Str × Int × V)}{es:List Addr}{xs:List En}(kw:∀u,H wr=some u->H' wr=some u)(kk:∀u,H kr=some u->H' kr=some u)(k:TkZ H H')(h:WrG K CW CR H wr t v s kr st en pl tm b hk hq es xs):WrG K CW CR H' wr t v s kr st en pl tm b hk hq es xs:=by
 obtain⟨⟨dx,h1⟩,dy,h2⟩:=id h.wo;exact⟨⟨⟨dx,kw _ h1⟩,dy,kk _ h2⟩,h.so.tkz k,k.t _ _ h.ho,bB k.t h.eo,h.el,h.ps,h.ok,h.kl,h.ll⟩
end
structure Cs where
 H:Addr
 M:Addr
 T:Addr
 W:Addr
 R:Addr
structure Bk where
 t:Kvs × Las
 ok:bR t.1 t.2
 l1:t.1.length <= 300
 l2:t.2.length <= 300
structure Gs where
 ho:Addr
 m:Addr
 wr:Addr
 bd:Addr
 d:Addr
 l:Addr
 rl:Addr
 kr:Addr
 st:Addr
 en:Addr
 b:Addr
 yl:Addr
 sd:Addr
 gl:Addr
 fl:Addr
 sl:Addr
 nm:Str
 wa:Int
 sz:Int
 t:Int
 v:V
 s:Int
 pl:Int
 tm:Int
 qu:Int
 kn:V
 hk:List (Key × V)
 hq:List (Str × Int × V)
 es:List Addr
 xs:List En
 n:Nat
 bk:Bk
noncomputable abbrev Gs.flm (g:Gs):List (Str × V):=flG g.nm g.wa g.sz g.wr g.rl g.bd (.str "plain") g.kn g.qu g.yl g.sd .non g.gl g.fl g.sl
noncomputable abbrev Gs.tab(g:Gs):Kvs × Las:=ca g.bk.t (g.xs.take (g.s - g.pl).toNat)
structure Gv(H:Hp)(gl fl sl rl:Addr):Prop where
 eg:H gl=some (.lst [])
 ef:H fl=some (.lst [])
 es:H sl=some (.lst [])
 ng:gl ≠ rl
 nf:fl ≠ rl
 ns:sl ≠ rl
theorem Gv.same{H H':Hp}{gl fl sl rl:Addr}(e:aq H H')(h:Gv H gl fl sl rl):Gv H' gl fl sl rl:=⟨e _ _ h.eg,e _ _ h.ef,e _ _ h.es,h.ng,h.nf,h.ns⟩
theorem Gv.ins{H H':Hp}{gl fl sl rl:Addr}{x C dx:Addr}{fs:List (Str × V)}(e:BtO x H H')(hx:H x=some (.ins C dx fs))(h:Gv H gl fl sl rl):Gv H' gl fl sl rl:=⟨e _ _ (aN h.eg hx (by intro z;cases z)) h.eg,e _ _ (aN h.ef hx (by intro z;cases z)) h.ef,e _ _ (aN h.es hx (by intro z;cases z)) h.es,h.ng,h.nf,h.ns⟩
theorem Gv.recd{H H':Hp}{gl fl sl rl:Addr}(e:BtO rl H H')(h:Gv H gl fl sl rl):Gv H' gl fl sl rl:=⟨e _ _ h.ng h.eg,e _ _ h.nf h.ef,e _ _ h.ns h.es,h.ng,h.nf,h.ns⟩
structure bE(K:Frag)(c:Cs)(H:Hp)(g:Gs):Prop where
 ob:∃dx,H g.m=some (.ins c.M dx g.flm)
 wg:WrG K c.W c.R H g.wr g.t g.v g.s g.kr g.st g.en g.pl g.tm g.b g.hk g.hq g.es g.xs
 tb:aS K c.T H g.bd g.d g.l g.tab.1 g.tab.2
 rc:∃rs:List V,H g.rl=some (.lst rs)/\rs.length <= g.n
 gv:Gv H g.gl g.fl g.sl g.rl
def Fr(g:Gs)(H H':Hp):Prop:=∀x u,x ≠ g.m->x ≠ g.wr->x ≠ g.rl->x ≠ g.d->x ≠ g.l->H x=some u->H' x=some u
theorem Fr.of{g:Gs}{H H':Hp}(s:aq H H'):Fr g H H':=fun _ _ _ _ _ _ _ e=>s _ _ e
theorem Fr.trans{g:Gs}{H H1 H2:Hp}(a:Fr g H H1)(b:Fr g H1 H2):Fr g H H2:=fun x u n1 n2 n3 n4 n5 e=>b x u n1 n2 n3 n4 n5 (a x u n1 n2 n3 n4 n5 e)
structure Own(H0:Hp)(g:Gs):Prop where
 ho:H0 g.ho=none
 m:H0 g.m=none
 wr:H0 g.wr=none
 rl:H0 g.rl=none
 d:H0 g.d=none
 l:H0 g.l=none
structure bP(K:Frag)(c:Cs)(H0 H:Hp)(g:Gs):Prop where
 hb:∃dx,H g.ho=some (.ins c.H dx (flH g.nm g.wa g.sz g.m))
 mo:bE K c H g
 ow:Own H0 g
 sm:aq H0 H
section
variable{K:Frag}{c:Cs}{H0 H H':Hp}{g:Gs}
theorem bE.same(e:aq H H')(h:bE K c H g):bE K c H' g:=by
 obtain⟨dx,h1⟩:=h.ob;obtain⟨rs,h2,h3⟩:=h.rc;exact⟨⟨dx,e _ _ h1⟩,h.wg.same e,aS.same e h.tb,⟨rs,e _ _ h2,h3⟩,h.gv.same e⟩
theorem bP.same(e:aq H H')(h:bP K c H0 H g):bP K c H0 H' g:=by
 obtain⟨dx,h1⟩:=h.hb;exact⟨⟨dx,e _ _ h1⟩,h.mo.same e,h.ow,h.sm.trans e⟩
structure Ne(g:Gs):Prop where
 wm:g.wr ≠ g.m
 km:g.kr ≠ g.m
 bm:g.bd ≠ g.m
 kw:g.kr ≠ g.wr
 bw:g.bd ≠ g.wr
 dm:g.d ≠ g.m
 lm:g.l ≠ g.m
 dw:g.d ≠ g.wr
 lw:g.l ≠ g.wr
 rm:g.rl ≠ g.m
 rw':g.rl ≠ g.wr
 kr:g.kr ≠ g.rl
 br:g.bd ≠ g.rl
 dr:g.d ≠ g.rl
 lr:g.l ≠ g.rl
theorem bE.ne(h:bE K c H g):Ne g:=by
 obtain⟨dx,h1⟩:=h.ob;obtain⟨rs,h2,h3⟩:=h.rc;obtain⟨⟨dw,h4⟩,dk,h5⟩:=id h.wg.wo;obtain⟨dt,h6⟩:=h.tb.ob;have a1:=aS.neD h.tb h1;have a2:=aS.neD h.tb h4;have a3:=aS.neL h.tb h2;exact⟨eG "term" h4 h1 (fT gR oy),eG "stand" h5 h1 (fT gz gS),(eG "name" h1 h6 (fT flG_n vT)).symm,(eG "term" h4 h5 (fT gR fS)).symm,(eG "term" h4 h6 (fT gR vU)).symm,a1.1,a1.2,a2.1,a2.2,
  aN h2 h1 (by intro z;cases z),aN h2 h4 (by intro z;cases z),aN h5 h2 (by intro z;cases z),a3.1,a3.2.1,a3.2.2⟩
theorem Fr.tkz(h:bE K c H g)(f:Fr g H H'):TkZ H H':=by
 obtain⟨dx,h1⟩:=h.ob;obtain⟨rs,h2,h3⟩:=h.rc;obtain⟨⟨dw,h4⟩,dk,h5⟩:=id h.wg.wo;obtain⟨⟨dx,h6⟩,h7,⟨lk,h8,h9⟩,h10⟩:=h.tb;exact⟨fun a xs e=>f _ _ (aN e h1 (by intro z;cases z)) (aN e h4 (by intro z;cases z)) (aN e h2 (by intro z;cases z)) (aN e h7 (by intro z;cases z)) (aN e h8 (by intro z;cases z)) e,
  fun a o y e=>f _ _ (aN e h1 (by intro z;cases z)) (aN e h4 (by intro z;cases z)) (aN e h2 (by intro z;cases z)) (aN e h7 (by intro z;cases z)) (aN e h8 (by intro z;cases z)) e⟩
theorem bP.neH(h:bP K c H0 H g):g.ho ≠ g.m/\g.ho ≠ g.wr/\g.ho ≠ g.rl/\g.ho ≠ g.d/\g.ho ≠ g.l:=by
 obtain⟨dh,h0⟩:=h.hb;obtain⟨dx,h1⟩:=h.mo.ob;obtain⟨rs,h2,h3⟩:=h.mo.rc;obtain⟨⟨dw,h4⟩,dk,h5⟩:=id h.mo.wg.wo;obtain⟨⟨dx,h6⟩,h7,⟨lk,h8,h9⟩,h10⟩:=h.mo.tb;exact⟨(eG "kept" h1 h0 (fT fR oA)).symm,(eG "term" h4 h0 (fT gR oz)).symm,aN h0 h2 (by intro z;cases z),aN h0 h7 (by intro z;cases z),aN h0 h8 (by intro z;cases z)⟩
theorem bP.next{g':Gs}(h:bP K c H0 H g)(f:Fr g H H')(m:bE K c H' g')(e1:g'.ho=g.ho)(e2:g'.nm=g.nm)(e3:g'.wa=g.wa)(e4:g'.sz=g.sz)(e5:g'.m=g.m)(e6:g'.wr=g.wr)(e7:g'.rl=g.rl)(e8:g'.d=g.d)(e9:g'.l=g.l):bP K c H0 H' g':=by
 obtain⟨dh,h0⟩:=h.hb;obtain⟨n1,n2,n3,n4,n5⟩:=h.neH;refine⟨⟨dh,?_⟩,m,⟨by rw[e1];exact h.ow.ho,by rw[e5];exact h.ow.m,by rw[e6];exact h.ow.wr,by rw[e7];exact h.ow.rl,by rw[e8];exact h.ow.d,by rw[e9];exact h.ow.l⟩,fun x u e=>?_⟩
 ·rw[e1,e2,e3,e4,e5];exact f _ _ n1 n2 n3 n4 n5 h0
 ·exact f _ _ (ak e h.ow.m) (ak e h.ow.wr) (ak e h.ow.rl) (ak e h.ow.d) (ak e h.ow.l) (h.sm _ _ e)
end
structure StE(K:Frag)(H:Hp)(s:Int)(st en:Addr)(pl tm:Int)(b:Addr)(hk:List (Key × V))(hq:List (Str × Int × V))(es:List Addr)(xs:List En):Prop where
 so:bT K H st pl tm b hk hq
 ho:H en=some (.tup (es.map V.ref))
 eo:Paired (EnO H) es xs
 el:es.length <= 60
 ps:pl <= s
 ok:bR (aI hk) (aT hq)
 kl:(aI hk).length <= 300
 ll:(aT hq).length <= 300
theorem StE.same{K:Frag}{H H':Hp}{s:Int}{st en:Addr}{pl tm:Int}{b:Addr}{hk:List (Key × V)}{hq:List (Str × Int × V)}{es:List Addr}{xs:List En}(e:aq H H')(h:StE K H s st en pl tm b hk hq es xs):StE K H' s st en pl tm b hk hq es xs:=⟨h.so.same e,e _ _ h.ho,bB (Tk.of e) h.eo,h.el,h.ps,h.ok,h.kl,h.ll⟩
def spHI(K:Frag)(CH:Addr):Sp:=fun us H Q _=>∃(ho dx b:Addr)(nm:Str)(wa sz:Int),us=[.ref ho,.str nm,.int wa,.int sz,.ref b]/\H ho=some (.ins CH dx [])/\∀(m:Addr)(H':Hp),BtO ho H H'->H' ho=some (.ins CH dx (flH nm wa sz m))->Q .non H'
def spUp(K:Frag)(c:Cs):Sp:=fun us H Q _=>∃(H0:Hp)(ho dx m0 wt st en b:Addr)(nm:Str)(wa sz t s pl tm:Int)(v:V) (hk:List (Key × V)) (hq:List (Str × Int × V)) (es:List Addr) (xs:List En),us=[.ref ho,.ref wt]/\H ho=some (.ins c.H dx (flH nm wa sz m0))/\H wt=some (.tup [.int t,v,.int s,.ref st,.ref en])/\StE K H s st en pl tm b hk hq es xs/\aq H0 H/\H0 ho=none /\
 ∀B:Bk,B.t=(aI hk,aT hq)->∀(m wr bd d l rl kr yl sd gl fl sl:Addr)(H':Hp),BtO ho H H'->bP K c H0 H' { ho:=ho,m:=m,wr:=wr,bd:=bd,d:=d,l:=l,rl:=rl,kr:=kr,st:=st,en:=en,b:=b,yl:=yl,sd:=sd,gl:=gl,fl:=fl,sl:=sl,nm:=nm,wa:=wa,sz:=sz,t:=t,v:=v,s:=s,pl:=pl,tm:=tm,qu:=0,kn:=.non,hk:=hk,hq:=hq,es:=es,xs:=xs,n:=0,bk:=B }->Q .non H'
def vV(K:Frag)(c:Cs)(R:Hp->Gs->VK->Prop):Sp:=fun us H Q _=>∃(H0:Hp)(g:Gs),us=[.ref g.ho]/\bP K c H0 H g/\R H g Q
def gT(K:Frag)(c:Cs):Sp:=vV K c fun H g Q=>∀(p:Addr)(H':Hp),aq H H'->H' p=some (.tup [.int g.t,g.v,.int g.s,.ref g.st,.ref g.en])->Q (.ref p) H'
def jH(K:Frag)(c:Cs):Sp:=vV K c fun H g Q=>Q g.kn H
def l6(K:Frag)(CT:Addr):Sp:=fun us H Q _=>∃(T d l:Addr)(kvs:Kvs)(las:Las),us=[.ref T]/\aS K CT H T d l kvs las/\bR kvs las/\kvs.length < 64/\las.length < 64 /\
 ∀(T2 d2 l2:Addr)(kvs2:Kvs)(las2:Las)(H':Hp),aq H H'->aS K CT H' T2 d2 l2 kvs2 las2->bR kvs2 las2->Eqv kvs2 las2 kvs las->kvs2.length < 64->las2.length < 64->Q (.ref T2) H'
def jI(K:Frag)(c:Cs):Sp:=vV K c fun H g Q=>bR g.tab.1 g.tab.2/\g.tab.1.length < 64/\g.tab.2.length < 64 /\
 ∀(T2 d2 l2:Addr)(kvs2:Kvs)(las2:Las)(H':Hp),aq H H'->aS K c.T H' T2 d2 l2 kvs2 las2->bR kvs2 las2->Eqv kvs2 las2 g.tab.1 g.tab.2->kvs2.length < 64->las2.length < 64->Q (.ref T2) H'
def io(K:Frag)(c:Cs):Sp:=fun us H Q _=>∃g:Gs,us=[.ref g.m]/\bE K c H g/\Q (.int g.s) H
section
variable{P:Program}{w:World}{K:Frag}{mg:Str->Option Value}{base:Heap}{CH CM CT CW CR:Addr}
abbrev nHI:List Str:=["self","name","wait","size","bench"]
theorem scHI:au nHI nHI (am pS):=fsc (by decide +kernel)
theorem ok_hi {f:Addr} {fd:FuncData} (F:Fun K "__init__" "House.__init__" pS f fd) (T:ClH K mg CH) (TM:ClM K mg CM) (Mm:fe P w K mg base CM 6 ["self","name","wait","size","kept","records"] (spMI K CM CT CW CR)) (Fw:aV P w K mg base 5 "first_written" ["bench"] (spFW CW CR)):aQ P w K mg base CX0 8 f fd nHI (spHI K CH):=by
 refine F.ok scHI (fun vs H Q E h=>?_) (fun cdv A outer s H vs Q E hr h=>?_)
 ·obtain⟨ho,dx,b,nm,wa,sz,rfl,_⟩:=h;rfl
 ·obtain⟨ho,dx,b,nm,wa,sz,rfl,hH,q⟩:=h;have r5:bj 5 _:=hr.mono (by decide)
  refine⟨_,ae (bu (pv 0) (pv 1) rfl) <| ae (bu (pv 0) (pv 2) rfl) <| ae (bu (pv 0) (pv 3) rfl) <|
   aj (bu (pv 0) (cz Mm hr TM.mgC (ad (pv 1) (ad (pv 2) (ad (pv 3) (ad (aB Fw r5 (ad (pv 4) ag)) (ad (cL ag) ag)))))) rfl),?_⟩
  dsimp only[bv,Cx.nox];refine ah fun K_ hK_=>?_;refine(rd2 rfl rfl ⟨ho,CH,dx,[],rfl,hH,T.cl,T.n0,(by show 0 < 1000;decide),?_⟩)
  refine hK_ _ _ (ah fun K_ hK_=>?_);refine(rd2 rfl rfl (ex4 ho CH dx _ ⟨rfl,ai,T.cl,T.n1,(by show 1 < 1000;decide),?_⟩))
  refine hK_ _ _ (ah fun K_ hK_=>?_);refine(rd2 rfl rfl (ex4 ho CH dx _ ⟨rfl,ai,T.cl,T.n2,(by show 2 < 1000;decide),?_⟩))
  have b3:BtO ho H (upd (upd (upd H ho (.ins CH dx (aM "name" (.str nm) []))) ho (.ins CH dx (aM "wait" (.int wa) (aM "name" (.str nm) [])))) ho (.ins CH dx (aM "size" (.int sz) (aM "wait" (.int wa) (aM "name" (.str nm) []))))):=BtO.upd.trans (BtO.upd.trans BtO.upd);have e3:upd (upd (upd H ho (.ins CH dx (aM "name" (.str nm) []))) ho (.ins CH dx (aM "wait" (.int wa) (aM "name" (.str nm) [])))) ho (.ins CH dx (aM "size" (.int sz) (aM "wait" (.int wa) (aM "name" (.str nm) [])))) ho=some (.ins CH dx (aM "size" (.int sz) (aM "wait" (.int wa) (aM "name" (.str nm) [])))):=ai;refine hK_ _ _ ?_;generalize upd (upd (upd H ho (.ins CH dx (aM "name" (.str nm) []))) ho (.ins CH dx (aM "wait" (.int wa) (aM "name" (.str nm) [])))) ho (.ins CH dx (aM "size" (.int sz) (aM "wait" (.int wa) (aM "name" (.str nm) []))))=H3 at b3 e3 ⊢;refine(rd3 rfl rfl rfl ⟨_,rfl,b,rfl,fun o kr st en e1 e2 o1 o2 H4 s4 w4 g1 g2 d1 g3 d2 g4=>⟨Nat.zero_le _,fun rl H5 n5 s5 e5=>?_⟩⟩);intro m dm nm' nd ndm;have nm2:upd H5 dm (.own m) m=none:=by rw[aw ndm.symm];exact nm'
  have s6:aq H5 (upd (upd H5 dm (.own m)) m (.ins CM dm [])):=(aq.new nd).trans (aq.new nm2);have s46:=s5.trans s6;refine⟨m,dm,o,rl,kr,st,en,b,nm,wa,sz,0,0,0,0,.non,[],[],[],[],rfl,ai,⟨w4.same s46,⟨e1,e2,o1,[],[],s46 _ _ g1,s46 _ _ g2,d1,rfl,fun j kv h=>(nomatch h),.inl (.inr ⟨o2,s46 _ _ g3⟩),rfl,Nat.zero_le _,fun j kv h=>(nomatch h)⟩,s46 _ _ g4,.nil,Nat.zero_le _,Int.le_refl _,bR.empty,Nat.zero_le _,Nat.zero_le _⟩,fun bd d l yl sd gl fl sl H7 b7 e7 _ _ _ _ _ _ _ _ _ _=>⟨rfl,?_⟩⟩;have mh:m ≠ ho:=(ak (s5 _ _ (s4 _ _ e3)) nm').symm;have eh:H7 ho=some (.ins CH dx (aM "size" (.int sz) (aM "wait" (.int wa) (aM "name" (.str nm) [])))):=b7 _ _ mh.symm (s46 _ _ (s4 _ _ e3));refine⟨_,rfl,ex4 ho CH dx _ ⟨rfl,eh,T.cl,T.n3,(by show 3 < 1000;decide),q m _ (fun c u n e=>?_) ai⟩⟩
  rw[aw n];have e':=s4 _ _ (b3 _ _ n e);exact b7 _ _ (ak (s5 _ _ e') nm') (s46 _ _ e')
theorem scUp:au ["self","written"] ["self","written"] (am sUp):=fsc (by decide +kernel)
theorem ok_up {f:Addr} {fd:FuncData} (F:Fun K "comes_up" "House.comes_up" sUp f fd) (T:ClH K mg CH) (TM:ClM K mg CM) (TW:ClW K mg CW) (Mm:fe P w K mg base CM 6 ["self","name","wait","size","kept","records"] (spMI K CM CT CW CR)) (Mw:fe P w K mg base CW 3 ["self","parts"] (iV K CW CR)):aQ P w K mg base CX0 8 f fd ["self","written"] (spUp K ⟨CH,CM,CT,CW,CR⟩):=by
 refine F.ok scUp (fun vs H Q E h=>?_) (fun cdv A outer s H vs Q E hr h=>?_)
 ·obtain⟨H0,ho,dx,m0,wt,st,en,b,nm,wa,sz,t,s,pl,tm,v,hk,hq,es,xs,rfl,_⟩:=h;rfl
 ·obtain⟨H0,ho,dx,m0,wt,st,en,b,nm,wa,sz,t,s,pl,tm,v,hk,hq,es,xs,rfl,hH,hw,G,s0,n0,q⟩:=h;have r4:bj 4 _:=hr.mono (by decide)
  refine⟨_,aj (bu (pv 0) (cz Mm hr TM.mgC (ad (aD (pv 0) rfl) (ad (aD (pv 0) rfl) (ad (aD (pv 0) rfl) (ad (cz Mw r4 TW.mgC (ad (pv 1) ag)) (ad (cL ag) ag)))))) rfl),?_⟩;dsimp only[bv,Cx.nox];refine⟨_,rfl,ex5 ho CH dx _ _ ⟨rfl,hH,T.cl,T.n0,flH_n,_,rfl,ex5 ho CH dx _ _ ⟨rfl,hH,T.cl,T.n1,flH_w,_,rfl,ex5 ho CH dx _ _ ⟨rfl,hH,T.cl,T.n2,flH_s,_,rfl,?_⟩⟩⟩⟩;intro o dw no nd ndo;have no':upd H dw (.own o) o=none:=by rw[aw ndo.symm];exact no
  have s1:aq H (upd (upd H dw (.own o)) o (.ins CW dw [])):=(aq.new nd).trans (aq.new no');refine(ex9 o dw wt st en t s v _ ⟨rfl,ai,SqT.of (s1 _ _ hw),SqT.of (s1 _ _ G.ho),fun kr H2 nk b2 w2=>⟨rfl,Nat.zero_le _,fun rl H3 n3 s3 e3=>?_⟩⟩);have s02:aq H H2:=fun c u e=>b2 _ _ (ak e no) (s1 _ _ e);have s03:=s02.trans s3;intro m dm nm' nd' ndm;have nm2:upd H3 dm (.own m) m=none:=by rw[aw ndm.symm];exact nm'
  have s6:aq H3 (upd (upd H3 dm (.own m)) m (.ins CM dm [])):=(aq.new nd').trans (aq.new nm2);have G6:=(G.same s03).same s6;refine⟨m,ex10 dm o rl kr st en b nm wa sz (ex9 t s pl tm v hk hq es xs ⟨rfl,ai,⟨(w2.same s3).same s6,G6.so,G6.ho,G6.eo,G6.el,G6.ps,G6.ok,G6.kl,G6.ll⟩,fun bd d l yl sd gl fl sl H7 b7 e7 _ nd7 nl7 hT eg ef es' ng nf ns=>⟨rfl,?_⟩⟩)⟩;have mh:m ≠ ho:=(ak (s03 _ _ hH) nm').symm;have eh:H7 ho=some (.ins CH dx (flH nm wa sz m0)):=b7 _ _ mh.symm (s6 _ _ (s03 _ _ hH));refine⟨_,rfl,ex4 ho CH dx _ ⟨rfl,eh,T.cl,T.n3,(by rw[flH_len];decide),?_⟩⟩
  rw[flH_put];have bb:BtO ho H7 (upd H7 ho (.ins CH dx (flH nm wa sz m))):=BtO.upd;have W7:WrG K CW CR H7 o t v s kr st en pl tm b hk hq es xs:=by
   have hm0:upd (upd H3 dm (.own m)) m (.ins CM dm []) m=some (.ins CM dm []):=ai;exact WrG.bt b7 hm0 ⟨(w2.same s3).same s6,G6.so,G6.ho,G6.eo,G6.el,G6.ps,G6.ok,G6.kl,G6.ll⟩
  have nho:H o=none:=no;have W8:WrG K CW CR (upd H7 ho (.ins CH dx (flH nm wa sz m))) o t v s kr st en pl tm b hk hq es xs:=by
   obtain⟨⟨dx1,y1⟩,dy1,y2⟩:=id W7.wo;have n1:o ≠ ho:=(ak hH no).symm;have n2:kr ≠ ho:=fun z=>by
    rw[z,s1 _ _ hH]at nk;cases nk
   exact⟨⟨⟨dx1,bb _ _ n1 y1⟩,dy1,bb _ _ n2 y2⟩,W7.so.bt bb eh,Tk.bt bb eh _ _ W7.ho,bB (Tk.bt bb eh) W7.eo,W7.el,W7.ps,W7.ok,W7.kl,W7.ll⟩
  have nbd:bd ≠ ho:=fun z=>by
   obtain⟨⟨dz,y⟩,_⟩:=hT;rw[z,eh]at y;have:=(HO.ins.inj (Option.some.inj y)).2.2;have h0:("name":Str) ∉ [("held":Str),"lasts"]:=by decide +kernel
   have h1:=congrArg (fun l=>List.lookup ("name":Str) l) this;simp only[flH_n]at h1;have h2:(K43T.dB d l).lookup ("name":Str)=none:=by unfold K43T.dB;kernel_rfl
   rw[h2]at h1;cases h1
  have s06:aq H0 (upd (upd H3 dm (.own m)) m (.ins CM dm [])):=s0.trans (s03.trans s6);have e8:H7 rl=some (.lst []):=b7 _ _ (ak e3 nm') (s6 _ _ e3);have s08:aq H0 (upd H7 ho (.ins CH dx (flH nm wa sz m))):=fun x u e=>by
   rw[aw (ak e n0)];have e':=s0.trans s03 _ _ e;exact b7 _ _ (ak e' nm') (s6 _ _ e')
  refine q ⟨(aI hk,aT hq),W7.ok,W7.kl,W7.ll⟩ rfl m o bd d l rl kr yl sd gl fl sl _ (fun c u n e=>?_) ⟨⟨dx,ai⟩,⟨⟨dm,by rw[aw mh];exact e7⟩,W8,aS.bt bb eh nbd hT,⟨[],by rw[aw (aN e8 eh (by intro z;cases z))];exact e8,Nat.zero_le _⟩,Gv.ins bb eh ⟨eg,ef,es',(ak (s6 _ _ e3) ng).symm,(ak (s6 _ _ e3) nf).symm,(ak (s6 _ _ e3) ns).symm⟩⟩,⟨n0,(s0.trans s03).free nm',s0.free no,(s0.trans s02).free n3,s06.free nd7,s06.free nl7⟩,s08⟩
  rw[aw n];have e':=s03 _ _ e;exact b7 _ _ (ak e' nm') (s6 _ _ e')
theorem vW:au ["self"] ["self"] (am lT):=fsc (by decide +kernel)
theorem tF {f:Addr} {fd:FuncData} (F:Fun K "writes" "House.writes" lT f fd) (T:ClH K mg CH) (TM:ClM K mg CM) (TW:ClW K mg CW) (Mt:aW P w K mg base CW 1 "told" ["self"] (lN K CW CR)):aQ P w K mg base CX0 2 f fd ["self"] (gT K ⟨CH,CM,CT,CW,CR⟩):=by
 refine F.ok vW (fun vs H Q E h=>?_) (fun cdv A outer s H vs Q E hr h=>?_)
 ·obtain⟨H0,g,rfl,_⟩:=h;rfl
 ·obtain⟨H0,g,rfl,G,q⟩:=h;refine⟨_,aj <| ax <| aO Mt TW.cl hr (aD (aD (pv 0) rfl) rfl),?_⟩;dsimp only[bv,Cx.nox];obtain⟨dx,h1⟩:=G.hb;obtain⟨dy,h2⟩:=G.mo.ob;obtain⟨⟨dz,h3⟩,_⟩:=id G.mo.wg.wo;exact⟨_,rfl,ex5 g.ho CH dx _ _ ⟨rfl,h1,T.cl,T.n3,gB,ex5 g.m CM dy _ _ ⟨rfl,h2,TM.cl,TM.n3,fR,ex3 g.wr dz _ ⟨rfl,h3,oB,ex7 g.wr g.kr g.st g.en g.t g.s g.v ⟨rfl,G.mo.wg.wo,q⟩⟩⟩⟩⟩
theorem vX:au ["self"] ["self"] (am lV):=fsc (by decide +kernel)
theorem tG {f:Addr} {fd:FuncData} (F:Fun K "chair_known" "House.chair_known" lV f fd) (T:ClH K mg CH) (TM:ClM K mg CM):aQ P w K mg base CX0 1 f fd ["self"] (jH K ⟨CH,CM,CT,CW,CR⟩):=by
 refine F.ok vX (fun vs H Q E h=>?_) (fun cdv A outer s H vs Q E hr h=>?_)
 ·obtain⟨H0,g,rfl,_⟩:=h;rfl
 ·obtain⟨H0,g,rfl,G,q⟩:=h;refine⟨_,aj <| ax <| aD (aD (pv 0) rfl) rfl,?_⟩;dsimp only[bv,Cx.nox];obtain⟨dx,h1⟩:=G.hb;obtain⟨dy,h2⟩:=G.mo.ob;exact⟨_,rfl,ex5 g.ho CH dx _ _ ⟨rfl,h1,T.cl,T.n3,gB,ex5 g.m CM dy _ _ ⟨rfl,h2,TM.cl,TM.n7,flG_c,q⟩⟩⟩
theorem re:au ["self","told"] ["self"] (am pU):=fsc (by decide +kernel)
theorem vY {f:Addr} {fd:FuncData} (F:Fun K "twin" "Table.twin" pU f fd) (TT:K43T.Cl K mg CT) (Mo:aW P w K mg base CT 1 "told" ["self"] (K43T.ju K CT)) (Mt:fe P w K mg base CT 1 ["self","held","asked"] (K43T.ff K CT)):aQ P w K mg base CX0 3 f fd ["self"] (l6 K CT):=by
 refine F.ok re (fun vs H Q E h=>?_) (fun cdv A outer s H vs Q E hr h=>?_)
 ·obtain⟨T,d,l,kvs,las,rfl,_⟩:=h;rfl
 ·obtain⟨T,d,l,kvs,las,rfl,hT,hok,k64,l64,q⟩:=h;have nd:=re.nd;have r1:bj 1 _:=hr.mono (by decide)
  refine⟨_,ae (aC (i:=1) nd rfl (Or.inl rfl) (aO Mo TT.cl r1 (pv 0))) <| aj <| ax <| cz Mt hr TT.mgC (ad (ar ao (pv 1) af (fun _ _=>rfl)) (ad (ar ao (pv 1) af (fun _ _=>rfl)) ag)),?_⟩;dsimp only[bv,Cx.nox];obtain⟨dx,hob⟩:=hT.ob;refine ah fun K_ hK_=>?_;refine⟨_,rfl,ex3 T dx _ ⟨rfl,hob,eM,ex5 T d l kvs las ⟨rfl,hT,hok,k64,l64,fun p ps qs H1 s1 hp ht=>?_⟩⟩⟩;obtain⟨ph,pa,oh,oa,hs,as,g1,g2,g3,g4,g5,g6,g7,g8⟩:=hp;obtain⟨m1,m2,m3,m4⟩:=ht.made hok;refine hK_ _ _ ?_;refine⟨_,rfl,ex4 p _ _ _ ⟨rfl,rfl,SqT.of g1,at0,_,rfl,ex4 p _ _ _ ⟨rfl,rfl,SqT.of g1,at1,?_⟩⟩⟩;intro T2 dT nT ndT ndTT;have nT':upd H1 dT (.own T2) T2=none:=by rw[aw ndTT.symm];exact nT
  have s2:aq H1 (upd (upd H1 dT (.own T2)) T2 (.ins CT dT [])):=(aq.new ndT).trans (aq.new nT');have ql:qs.length <= 900:=by
   obtain⟨_,tt,t1,t2,t3⟩:=ht;have h1:qs.length=tt.length:=by rw[t3];unfold K43T.gH;rw[length_map]
   have h2:=t1.length_eq;unfold KM.cF at h2;rw[length_map]at h2;lia
  refine⟨T2,dT,ph,pa,oh,hs,as,cS ps,qs,rfl,ai,s2 _ _ g2,g3,by rw[length_map];exact g5,fun j kv e=>?_,.inl (.inr ⟨oa,s2 _ _ g4⟩),g6,ql,fun j kv e=>?_,fun d2 l2 H3 n2 n3 hT3 b3=>⟨rfl,?_⟩⟩
  ·rw[getElem?_map]at e;cases e2:ps[j]? with
   | none=>rw[e2]at e;cases e
   | some kv0 =>
    rw[e2]at e;cases e;obtain⟨b,b1,b2⟩:=g7 j kv0 e2;exact⟨b,b1,SqT.of (s2 _ _ b2)⟩
  ·obtain⟨b,b1,b2⟩:=g8 j kv e;exact⟨b,b1,SqT.of (s2 _ _ b2)⟩
  ·exact q T2 d2 l2 _ _ H3 (s1.trans fun c u e=>b3 _ _ (s2 _ _ e) (ak e nT)) hT3 m2 m1 (by lia) (by lia)
theorem vZ:au ["self"] ["self"] (am lW):=fsc (by decide +kernel)
theorem tH {f:Addr} {fd:FuncData} (F:Fun K "table" "House.table" lW f fd) (T:ClH K mg CH) (TM:ClM K mg CM) (TT:K43T.Cl K mg CT) (Mt:aW P w K mg base CT 3 "twin" ["self"] (l6 K CT)):aQ P w K mg base CX0 4 f fd ["self"] (jI K ⟨CH,CM,CT,CW,CR⟩):=by
 refine F.ok vZ (fun vs H Q E h=>?_) (fun cdv A outer s H vs Q E hr h=>?_)
 ·obtain⟨H0,g,rfl,_⟩:=h;rfl
 ·obtain⟨H0,g,rfl,G,o1,o2,o3,q⟩:=h;refine⟨_,aj <| ax <| aO Mt TT.cl hr (aD (aD (pv 0) rfl) rfl),?_⟩;dsimp only[bv,Cx.nox];obtain⟨dx,h1⟩:=G.hb;obtain⟨dy,h2⟩:=G.mo.ob;obtain⟨dz,h3⟩:=G.mo.tb.ob;exact⟨_,rfl,ex5 g.ho CH dx _ _ ⟨rfl,h1,T.cl,T.n3,gB,ex5 g.m CM dy _ _ ⟨rfl,h2,TM.cl,TM.n5,vS,ex3 g.bd dz _ ⟨rfl,h3,oC,ex5 g.bd g.d g.l _ _ ⟨rfl,G.mo.tb,o1,o2,o3,q⟩⟩⟩⟩⟩
theorem scMSet:au ["self"] ["self"] (am ij):=fsc (by decide +kernel)
theorem ok_mset {f:Addr} {fd:FuncData} (F:Fun K "settled" "Mind.settled" ij f fd) (TM:ClM K mg CM) (TW:ClW K mg CW):aQ P w K mg base CX0 1 f fd ["self"] (io K ⟨CH,CM,CT,CW,CR⟩):=by
 refine F.ok scMSet (fun vs H Q E h=>?_) (fun cdv A outer s H vs Q E hr h=>?_)
 ·obtain⟨g,rfl,_⟩:=h;rfl
 ·obtain⟨g,rfl,G,q⟩:=h;refine⟨_,aj <| ax <| aD (aD (pv 0) rfl) rfl,?_⟩;dsimp only[bv,Cx.nox];obtain⟨dy,h2⟩:=G.ob;obtain⟨⟨dz,h3⟩,_⟩:=id G.wg.wo;exact⟨_,rfl,ex5 g.m CM dy _ _ ⟨rfl,h2,TM.cl,TM.n3,fR,ex5 g.wr CW dz _ _ ⟨rfl,h3,TW.cl,TW.nS,flW_s,q⟩⟩⟩
end
end K43
namespace K43
open PySem L2
abbrev v1:Stmt:=top 112
def pW:Sp:=fun us H Q _=>∃c:Int,us=[.int c]/\∀z:Int,Q (.int z) H
def Dig:List Int->List Int->Prop:=Paired fun d z=>0 <= d/\d < z
def kU:Sp:=fun us H Q _=>∃(c:Int)(sa:Addr)(zs:List Int),us=[.int c,.ref sa]/\H sa=some (.lst (zs.map V.int))/\(∀z ∈ zs,0 < z/\z < 2 ^ 250)/\zs.length <= 60/\∀(p:Addr)(ds:List Int)(H':Hp),aq H H'->H p=none->H' p=some (.lst (ds.map V.int))->Dig ds zs->Q (.ref p) H'
theorem tI{tc:TT}{t u:TS}{D:iG}{σ:St}{H:Hp}(h:∀A B:Hp->Prop,(∀H1,t D σ H1->A H1)->(∀H1,u D σ H1->B H1)->tc σ H fun b H1=>if b=true then A H1 else B H1):tIfS tc t u D σ H:=h _ _ (fun _ h=>h) fun _ h=>h
section
variable{P:Program}{w:World}{K:Frag}{mg:Str->Option Value}{base:Heap}
noncomputable abbrev nRich:List Str:=["_law_cell","_law_number","_law_found","_law_k"]
theorem v2:au nRich ["_law_cell"] (am v1):=fsc (by decide +kernel)
theorem ok_rich {f:Addr} {fd:FuncData} (F:Fun K "_law_rich" "_law_rich" v1 f fd) (hrange:mg "range"=none):aQ P w K mg base CX0 1 f fd ["_law_cell"] pW:=by
 refine F.ok v2 (fun vs H Q E h=>?_) (fun cdv A outer s H vs Q E hr h=>?_)
 ·obtain⟨c,rfl,_⟩:=h;rfl
 ·obtain⟨c,rfl,q⟩:=h;have nd:=v2.nd;refine⟨_,ae (aC (i:=1) nd rfl (Or.inl rfl) (aE cX (aE bn (aE dH (aE cX (pv 0) af) af) af) af)) <|
   ae (aC (i:=1) nd rfl (Or.inl rfl) (aE cX (aE bn (aE dH (pv 1) (pv 1)) af) af)) <|
   ae (aC (i:=2) nd rfl (Or.inl rfl) af) <|
   ae (dY PassesOwn.never rfl (eC (by rfl) hrange (ad af ag)) (aA (i:=3) nd rfl (Or.inl rfl)) <|
    ae (aC (i:=1) nd rfl (Or.inl rfl) (aE cX (aE bn (aE bn (aE dH (pv 1) (pv 1)) (aE dH af (pv 1))) (pv 3)) af)) <|
    aj (aC (i:=2) nd rfl (Or.inl rfl) (aE bn (aE dH (pv 2) af) (pv 1)))) <|
   aj (ax (pv 2)),?_⟩
  refine⟨_,rfl,_,_,rfl,rfl,(show (0:Int) < 2147483629 by decide),_,_,rfl,rfl,.inr ⟨by decide,by decide⟩,_,_,rfl,rfl,_,_,rfl,rfl,(show (0:Int) < 2147483647 by decide),?_⟩
  have a0:=Int.emod_nonneg (c % 2147483629 * 48271 + 11) (show (2147483647:Int) ≠ 0 by decide)
  have a1:=Int.emod_lt_of_pos (c % 2147483629 * 48271 + 11) (show (0:Int) < 2147483647 by decide)
  refine⟨_,rfl,_,rfl,_,_,rfl,rfl,.inl ⟨by lia,by lia⟩,_,_,rfl,rfl,_,_,rfl,rfl,(show (0:Int) < 2147483629 by decide),?_⟩
  refine⟨10,rfl,by decide,by decide,fX (lo:=0) (n:=10) (fun i σ Hx=>Hx=H/\∃(n z:Int)(v:Option V),σ=[some (V.int c),some (V.int n),some (V.int z),v]/\0 <= n/\n < 2147483629) ⟨rfl,_,0,none,rfl,Int.emod_nonneg _ (by decide),Int.emod_lt_of_pos _ (by decide)⟩ ?_ ?_⟩
  ·rintro i σ Hx hi ⟨rfl,n,z,v,rfl,h0,h1⟩;refine⟨_,rfl,_,rfl,_,_,rfl,rfl,.inl ⟨by lia,by lia⟩,_,rfl,_,_,rfl,rfl,.inl ⟨by decide,by decide⟩,_,_,rfl,rfl,_,rfl,_,_,rfl,rfl,_,_,rfl,rfl,(show (0:Int) < 2147483629 by decide),?_⟩
   refine(cJ rfl rfl rfl ⟨.inr ⟨by decide,by decide⟩,cJ rfl rfl rfl ⟨rfl,ex3 _ _ _ ⟨rfl,Int.emod_nonneg _ (by decide),Int.emod_lt_of_pos _ (by decide)⟩⟩⟩)
  ·rintro σ Hx ⟨rfl,n,z,v,rfl,h0,h1⟩;exact⟨_,rfl,q z⟩
noncomputable abbrev nDig:List Str:=["_law_cell","_law_sizes","_law_number","_law_more","_law_found","_law_size"]
theorem scDig:au nDig ["_law_cell","_law_sizes"] (am lE):=fsc (by decide +kernel)
theorem ok_dig {f:Addr} {fd:FuncData} (F:Fun K "_law_digits" "_law_digits" lE f fd) (Fr:aV P w K mg base 1 "_law_rich" ["_law_cell"] pW):aQ P w K mg base CX0 2 f fd ["_law_cell","_law_sizes"] kU:=by
 refine F.ok scDig (fun vs H Q E h=>?_) (fun cdv A outer s H vs Q E hr h=>?_)
 ·obtain⟨c,sa,zs,rfl,_⟩:=h;rfl
 ·obtain⟨c,sa,zs,rfl,hsa,hz,hl,q⟩:=h;have nd:=scDig.nd;have hs16:sizeLine=16777216:=sizeLine_eq;refine⟨_,ae (aC (i:=2) nd rfl (Or.inl rfl) (aE qA (pv 0) af)) <|
   ae (aC (i:=3) nd rfl (Or.inl rfl) (aB Fr hr (ad (pv 0) ag))) <|
   ae (aC (i:=4) nd rfl (Or.inl rfl) (cL ag)) <|
   ae (dY PassesOwn.never rfl (fW (pv 1)) (aA (i:=5) nd rfl (Or.inl rfl)) <|
    aj (aX (PW.pt (cN (aH cj (aE cX (pv 0) af) af (aG _)) (cV (aH hZ (pv 2) (aR (ad af (ad (m9 jc af) ag))) (by rfl)))))
     (ae (bG (kj PySem.F.plainAttrs_list PySem.F.slot_list_append PySem.F.type_list_append ga (pv 4) (ad (aE cX (pv 3) (pv 5)) ag))) <| aj (aC (i:=3) nd rfl (Or.inl rfl) (aE nU (pv 3) (pv 5))))
     (ae (bG (kj PySem.F.plainAttrs_list PySem.F.slot_list_append PySem.F.type_list_append ga (pv 4) (ad (aE cX (pv 2) (pv 5)) ag))) <| aj (aC (i:=2) nd rfl (Or.inl rfl) (aE nU (pv 2) (pv 5)))))) <|
   aj (ax (pv 4)),?_⟩
  refine(cJ rfl rfl rfl ⟨⟨by decide,by decide⟩,?_⟩)
  refine⟨_,rfl,c,rfl,fun m0=>⟨Nat.zero_le _,fun p H1 np s1 e1=>?_⟩⟩;refine⟨_,rfl,sa,rfl,⟨_,SqL.of (s1 _ _ hsa)⟩,m8 (K:=K) (xs:=zs.map V.int) (fun i σ Hx=>∃(n m:Int)(v:Option V)(ds:List Int),σ=[some (V.int c),some (V.ref sa),some (V.int n),some (V.int m),some (V.ref p),v]/\Hx p=some (.lst (ds.map V.int))/\Dig ds (zs.take i)/\aq H Hx) ⟨_,m0,none,[],rfl,e1,.nil,s1⟩ ?_ ?_ ?_⟩
  ·rintro i σ Hx hi ⟨n,m,v,ds,rfl,h1,h2,h3⟩;exact SqL.of (h3 _ _ hsa)
  ·rintro i x σ Hx hx ⟨n,m,v,ds,rfl,h1,h2,h3⟩;rw[getElem?_map]at hx;cases he:zs[i]? with
   | none=>rw[he]at hx;cases hx
   | some z =>
    rw[he]at hx;cases hx;have hzz:=hz z (mem_of_getElem? he);have hil:i < zs.length:=(List.getElem?_eq_some_iff.mp he).1;have dl:ds.length <= 60:=by
     have:=Paired.length h2;rw[length_take]at this;lia
    have snoc:∀d:Int,0 <= d->d < z->Dig (ds ++ [d]) (zs.take (i + 1)):=fun d d0 d1=>by
     rw[List.take_add_one,he];exact PySem.Paired.snoc h2 ⟨d0,d1⟩
    refine tI fun A B hA hB=>?_;have one:∀Hy,aq Hx Hy->A Hy:=fun Hy sy=>hA Hy (by
     refine⟨_,rfl,.inl ⟨rfl,_,SqL.of (sy _ _ h1)⟩,eA rfl rfl rfl rfl ⟨hzz.1,p,oo rfl rfl ⟨sy _ _ h1,by rw[length_map];lia,fun H2 k2 e2=>?_⟩⟩⟩
     refine(eA rfl rfl rfl rfl ⟨hzz,?_⟩);exact⟨_,_,_,ds ++ [m % z],rfl,by rw[e2,List.map_append];rfl,snoc _ (Int.emod_nonneg _ (by lia)) (Int.emod_lt_of_pos _ hzz.1),fun b u e=>k2 _ _ (ak e np) (sy _ _ (h3 _ _ e))⟩)
    refine(cJ rfl rfl rfl ⟨(show (0:Int) < 2 by decide),rfl,_,rfl,bN (fun _=>bJ (one Hx (aq.refl _))) (fun _=>?_)⟩)
    refine(rd2 rfl rfl ⟨(show 2 <= sizeLine by lia),fun t2 H2 n2 s2 e2=>⟨t2,_,rfl,.inr (SqT.of e2),rfl,rfl,_,rfl,bN (fun _=>one H2 s2) (fun _=>hB H2 ?_)⟩⟩)
    refine⟨_,rfl,.inl ⟨rfl,_,SqL.of (s2 _ _ h1)⟩,eA rfl rfl rfl rfl ⟨hzz.1,p,oo rfl rfl ⟨s2 _ _ h1,by rw[length_map];lia,fun H3 k3 e3=>?_⟩⟩⟩
    refine(eA rfl rfl rfl rfl ⟨hzz,?_⟩);exact⟨_,_,_,ds ++ [n % z],rfl,by rw[e3,List.map_append];rfl,snoc _ (Int.emod_nonneg _ (by lia)) (Int.emod_lt_of_pos _ hzz.1),fun b u e=>k3 _ _ (ak e np) (s2 _ _ (h3 _ _ e))⟩
  ·rintro σ Hx ⟨n,m,v,ds,rfl,h1,h2,h3⟩;rw[length_map,take_of_length_le (Nat.le_refl _)]at h2;exact⟨_,rfl,q p ds Hx h3 np h1 h2⟩
end
open K43T (Kvs Las Wk aS bR cH cu dF aI aT)
abbrev wb:Stmt:=top 114
abbrev wc:Stmt:=top 115
theorem rf:bootBuiltins "int"=some (.type "int"):=by decide +kernel
abbrev zsD:List Int:=[3,5,3,6,2 * 10 ^ 57]
noncomputable def GoodW:Wk->Prop
 | .put k z=>Nm k/\-(10 ^ 60) < z/\z < 10 ^ 60
 | .add k z=>Nm k/\-(10 ^ 60) < z/\z < 10 ^ 60
 | .drop k=>Nm k
noncomputable def fw:Dd->Prop
 | none=>True
 | some (x,n,wk)=>Nm x/\1 <= n/\GoodW wk
def jJ:Sp:=fun us H Q _=>∃(d:Addr)(ds:List Int),us=[.ref d]/\H d=some (.lst (ds.map V.int))/\Dig ds zsD/\∀(p:Addr)(x:Str)(n:Int)(wk:Wk)(H':Hp),aq H H'->DdO H' p (some (x,n,wk))->fw (some (x,n,wk))->Q (.ref p) H'
theorem nm_a:Nm "a":=⟨by decide +kernel,by decide +kernel,by decide +kernel⟩
theorem dig5{ds:List Int}(h:Dig ds zsD):∃a b c d e:Int,ds=[a,b,c,d,e]/\(0 <= a/\a < 3)/\(0 <= b/\b < 5)/\(0 <= c/\c < 3)/\(0 <= d/\d < 6)/\(0 <= e/\e < 2 * 10 ^ 57):=by
 cases h with
 | cons h1 t=>cases t with
  | cons h2 t=>cases t with
   | cons h3 t=>cases t with
    | cons h4 t=>cases t with
     | cons h5 t=>cases t with
      | nil=>exact(ex5 _ _ _ _ _ ⟨rfl,h1,h2,h3,h4,h5⟩)
theorem pick3{x y z:Str}{i:Int}(h0:0 <= i)(h1:i < 3)(n1:Nm x)(n2:Nm y)(n3:Nm z):∃u,atI [V.str x,V.str y,V.str z] i=some (.str u)/\Nm u:=by
 obtain⟨v,hv,hm⟩:=pA (xs:=[V.str x,V.str y,V.str z]) h0 (by show i < 3;exact h1)
 simp only[List.mem_cons,not_mem_nil,or_false]at hm;rcases hm with rfl | rfl | rfl
 ·exact⟨_,hv,n1⟩
 ·exact⟨_,hv,n2⟩
 ·exact⟨_,hv,n3⟩
theorem nm_bS:Nm "b":=⟨by decide +kernel,by decide +kernel,by decide +kernel⟩
theorem we:Nm "zed":=⟨by decide +kernel,by decide +kernel,by decide +kernel⟩
theorem nm_kS:Nm "k":=⟨by decide +kernel,by decide +kernel,by decide +kernel⟩
theorem nm_kk:Nm "kk":=⟨by decide +kernel,by decide +kernel,by decide +kernel⟩
theorem nm_zz:Nm "zz":=⟨by decide +kernel,by decide +kernel,by decide +kernel⟩
theorem at2J(x y:Int)(b:Bool):∃z,atI [V.int x,.int y] (if b=true then (1:Int) else 0)=some (.int z)/\(z=x\/z=y):=by
 cases b
 ·exact⟨x,at0,.inl rfl⟩
 ·exact⟨y,at1,.inr rfl⟩
section
variable{P:Program}{w:World}{K:Frag}{mg:Str->Option Value}{base:Heap}
noncomputable abbrev nDeed:List Str:=["_law_d","_law_who","_law_turn","_law_key","_law_way","_law_much","_law_work","_law_number"]
theorem wf:au nDeed ["_law_d"] (am wb):=fsc (by decide +kernel)
theorem ok_deed {f:Addr} {fd:FuncData} (F:Fun K "_law_deed" "_law_deed" wb f fd) (hint:mg "int"=none):aQ P w K mg base CX0 1 f fd ["_law_d"] jJ:=by
 refine F.ok wf (fun vs H Q E h=>?_) (fun cdv A outer s H vs Q E hr h=>?_)
 ·obtain⟨d,ds,rfl,_⟩:=h;rfl
 ·obtain⟨d,ds,rfl,hd,hD,q⟩:=h;have nd:=wf.nd;have hs16:sizeLine=16777216:=sizeLine_eq;obtain⟨a,b,c,e,g,rfl,⟨a0,a1⟩,⟨b0,b1⟩,⟨c0,c1⟩,⟨e0,e1⟩,g0,g1⟩:=dig5 hD;refine⟨_,ae (eO (pv 0) (pg_lst (n:=5) rfl (aF (aA (i:=1) nd rfl (Or.inl rfl)) (aF (aA (i:=2) nd rfl (Or.inl rfl)) (aF (aA (i:=3) nd rfl (Or.inl rfl)) (aF (aA (i:=4) nd rfl (Or.inl rfl)) (aF (aA (i:=5) nd rfl (Or.inl rfl)) cn))))))) <|
   ae (aC (i:=6) nd rfl (Or.inl rfl) (de (d8 (sM (ar bc (eL (d8 (d8 (d8 bY)))) (pv 3) (fun _ _=>rfl)) bY)))) <|
   ae (aX (aH eI (pv 4) af (aG _))
    (ae (aC (i:=7) nd rfl (Or.inl rfl) (ar bc (eL (iE (aE bV (aE cX (pv 5) af) af) (iE (aE bV (pv 5) (aE jb af af)) bY))) (bh fY (by rfl) hint rf (ad (bI eI (pv 4) af (aG _)) ag)) (fun _ _=>rfl))) <|
     aj (aC (i:=6) nd rfl (Or.inl rfl) (de (sM (ar bc (eL (d8 (d8 bY))) (aE cX (pv 4) af) (fun _ _=>rfl)) (sM (ar bc (eL (d8 (d8 (d8 bY)))) (pv 3) (fun _ _=>rfl)) (fA (pv 7) bY)))))) aK) <|
   aj (ax (de (d8 (sM (ar bc (eL (d8 (d8 (d8 bY)))) (pv 1) (fun _ _=>rfl)) (iE (aE bn af (pv 2)) (fA (pv 6) bY)))))),?_⟩
  dsimp only[bv,Cx.nox];refine⟨_,rfl,d,_,rfl,SqL.of hd,rfl,_,_,rfl,_,_,rfl,_,_,rfl,_,cJ rfl rfl rfl ?_⟩;obtain⟨k,hk,hkn⟩:=pick3 (x:="k") (y:="kk") (z:="zz") c0 c1 nm_kS nm_kk nm_zz;obtain⟨x,hx,hxn⟩:=pick3 (x:="a") (y:="b") (z:="zed") a0 a1 nm_a nm_bS we;refine⟨(show 3 <= sizeLine by lia),fun l1 H1 n1 s1 e1'=>⟨_,rfl,ex4 l1 _ _ _ ⟨rfl,rfl,SqL.of e1',hk,(show 2 <= sizeLine by lia),fun t1 H2 n2 s2 e2=>?_⟩⟩⟩
  refine(cJ rfl rfl rfl ⟨_,rfl,bN (fun _=>?_) (fun _=>?_)⟩)
  ·refine⟨_,rfl,_,_,rfl,rfl,(show (0:Int) < 7 by decide),_,_,rfl,rfl,_,rfl,_,_,rfl,rfl,⟨by decide,by decide,by decide⟩,_,_,rfl,rfl,(show 2 <= sizeLine by lia),fun l2 H3 n3 s3 e3=>?_⟩
   refine(cJ rfl rfl rfl (.inr ⟨_,rfl,?_⟩));obtain⟨z,hz,hzc⟩:=at2J (g % 7 - 3) (g - 10 ^ 57) (decide ((3:Int) < e));have hzb:-(10 ^ 60) < z/\z < 10 ^ 60:=by
    have y0:=Int.emod_nonneg g (show (7:Int) ≠ 0 by decide)
    have y1:=Int.emod_lt_of_pos g (show (0:Int) < 7 by decide)
    rcases hzc with rfl | rfl <;> lia
   refine(ex4 l2 _ _ _ ⟨rfl,rfl,SqL.of e3,hz,?_⟩);refine⟨(show 2 <= sizeLine by lia),fun l3 H4 n4 s4 e4=>(cJ rfl rfl rfl ⟨(show (0:Int) < 2 by decide),?_⟩)⟩
   have m0:=Int.emod_nonneg e (show (2:Int) ≠ 0 by decide)
   have m1:=Int.emod_lt_of_pos e (show (0:Int) < 2 by decide)
   have hw:∃wd:Str,atI [V.str (Str.ofString "put"),V.str (Str.ofString "add")] (e % 2)=some (.str wd)/\(wd="put" \/wd="add"):=by
    obtain⟨v,hv,hm⟩:=pA (xs:=[V.str (Str.ofString "put"),V.str (Str.ofString "add")]) m0 (by show e % 2 < 2;exact m1)
    simp only[List.mem_cons,not_mem_nil,or_false]at hm;rcases hm with rfl | rfl
    ·exact⟨_,hv,.inl rfl⟩
    ·exact⟨_,hv,.inr rfl⟩
   obtain⟨wd,hwd,hor⟩:=hw;refine(ex4 l3 _ _ _ ⟨rfl,rfl,SqL.of e4,hwd,(show 3 <= sizeLine by lia),fun l4 H5 n5 s5 e5=>⟨_,rfl,ex4 l4 _ _ _ ⟨rfl,rfl,SqL.of e5,hk,_,rfl,(show 3 <= sizeLine by lia),fun t2 H6 n6 s6 e6=>?_⟩⟩⟩)
   refine⟨(show 3 <= sizeLine by lia),fun l5 H7 n7 s7 e7=>⟨_,rfl,ex4 l5 _ _ _ ⟨rfl,rfl,SqL.of e7,hx,cJ rfl rfl rfl ⟨_,rfl,(show 4 <= sizeLine by lia),fun p H8 n8 s8 e8=>?_⟩⟩⟩⟩
   have sA:=s1.trans (s2.trans (s3.trans (s4.trans (s5.trans (s6.trans (s7.trans s8))))));rcases hor with rfl | rfl
   ·exact q p x (1 + b) (.put k z) H8 sA ⟨by lia,t2,e8,s8 _ _ (s7 _ _ e6)⟩ ⟨hxn,by lia,hkn,hzb⟩
   ·exact q p x (1 + b) (.add k z) H8 sA ⟨by lia,t2,e8,s8 _ _ (s7 _ _ e6)⟩ ⟨hxn,by lia,hkn,hzb⟩
  ·refine⟨(show 3 <= sizeLine by lia),fun l5 H7 n7 s7 e7=>⟨_,rfl,ex4 l5 _ _ _ ⟨rfl,rfl,SqL.of e7,hx,cJ rfl rfl rfl ⟨_,rfl,(show 4 <= sizeLine by lia),fun p H8 n8 s8 e8=>?_⟩⟩⟩⟩
   exact q p x (1 + b) (.drop k) H8 (s1.trans (s2.trans (s7.trans s8))) ⟨by lia,t1,e8,s8 _ _ (s7 _ _ e2)⟩ ⟨hxn,by lia,hkn⟩
end
def wj(t:Int)(xs:List En):Prop:=(∀e ∈ xs,t <= e.1/\fw e.2)/\∃hi,(∀e ∈ xs,e.1 <= hi)/\(xs ≠ []->xs.getLast?.map (·.1)=some hi)
def l7(K:Frag):Sp:=fun us H Q _=>∃(a:Addr)(ns:List Int)(st many last term:Int),us=[.ref a,.int st,.int many,.int last,.int term]/\SqL K H a (ns.map V.int)/\0 <= st/\0 <= many/\many <= 30/\1 <= term /\
 ∀(p:Addr)(es:List Addr)(xs:List En)(H':Hp),aq H H'->H p=none->H' p=some (.lst (es.map V.ref))->Paired (EnO H') es xs->(es.length:Int)=many->(∀e ∈ xs,1 <= e.1)->wj term xs->Q (.ref p) H'
section
variable{P:Program}{w:World}{K:Frag}{mg:Str->Option Value}{base:Heap}
noncomputable abbrev rg:List Str:=["_law_script","_law_start","_law_many","_law_last","_law_term"]
noncomputable abbrev nEnts:List Str:=["_law_script","_law_start","_law_many","_law_last","_law_term","_law_found","_law_k","_law_d","_law_deed_here"]
theorem wl:au nEnts rg (am wc):=fsc (by decide +kernel)
theorem cutL2(x y:V)(ys:List V):cx (x :: y :: ys) (some 2) none=ys:=by
 unfold cx;rw[HT.eR,show HT.sIx (x :: y :: ys).length 0 (some 2)=min 2 (x :: y :: ys).length from HT.dN _ _ 2,length_cons,length_cons,Nat.min_eq_left (by lia)]
 show List.take _ ys=ys;exact take_of_length_le (by lia)
theorem dig2{ds:List Int}{a b:Int}{zs:List Int}(h:Dig ds (a :: b :: zs)):∃d0 d1 rest,ds=d0 :: d1 :: rest/\(0 <= d0/\d0 < a)/\(0 <= d1/\d1 < b)/\Dig rest zs:=by
 cases h with
 | cons h1 t=>cases t with
  | cons h2 t=>exact(ex3 _ _ _ ⟨rfl,h1,h2,t⟩)
theorem zs7_ok:∀z ∈ (4 :: 3 :: zsD:List Int),0 < z/\z < 2 ^ 250:=by decide +kernel
theorem b01(b:Bool):-(2 ^ 64) < (if b=true then (1:Int) else 0)/\(if b=true then (1:Int) else 0) < 2 ^ 64:=by cases b <;> decide
theorem ok_ents {f:Addr} {fd:FuncData} (F:Fun K "_law_entries" "_law_entries" wc f fd) (hint:mg "int"=none) (hrange:mg "range"=none) (Fc:aV P w K mg base 1 "_law_cell_at" ["_law_script","_law_k"] (ie K)) (Fd:aV P w K mg base 2 "_law_digits" ["_law_cell","_law_sizes"] kU) (Fe:aV P w K mg base 1 "_law_deed" ["_law_d"] jJ):aQ P w K mg base CX0 3 f fd rg (l7 K):=by
 refine F.ok wl (fun vs H Q E h=>?_) (fun cdv A outer s H vs Q E hr h=>?_)
 ·obtain⟨a,ns,st,many,last,term,rfl,_⟩:=h;rfl
 ·obtain⟨a,ns,st,many,last,term,rfl,hS,st0,m0,m30,t1,q⟩:=h;have nd:=wl.nd;obtain⟨t0,ht0⟩:∃t0:Int,t0=term:=⟨_,rfl⟩;have r1:bj 1 _:=hr.mono (by decide)
  have hs16:sizeLine=16777216:=sizeLine_eq;refine⟨_,ae (aC (i:=5) nd rfl (Or.inl rfl) (cL ag)) <|
   ae (dY PassesOwn.never rfl (eC (by rfl) hrange (ad (pv 2) ag)) (aA (i:=6) nd rfl (Or.inl rfl)) <|
    ae (aC (i:=7) nd rfl (Or.inl rfl) (ge Fd hr (aB Fc r1 (ad (pv 0) (ad (aE bn (pv 1) (pv 6)) ag))) (di (di (di (di (di (di (iE (aE dH af (aE jb af af)) bY))))))))) <|
    ae (aC (i:=4) nd rfl (Or.inl rfl) (aE bn (pv 4) (aE dH (bh fY (by rfl) hint rf (ad (bI cj (ar bc (pv 7) af (fun _ _=>rfl)) af (aG _)) ag)) (aE bn af (ar bc (pv 7) af (fun _ _=>rfl)))))) <|
    ae (aC (i:=8) nd rfl (Or.inl rfl) (aR (ad aU ag))) <|
    ae (aX (aH cj (pv 4) (pv 3) (aG _)) (aj (aC (i:=8) nd rfl (Or.inl rfl) (aB Fe r1 (ad (bM gK (pv 7) (bQ af) cv) ag)))) aK) <|
    ae (bG (kj PySem.F.plainAttrs_list PySem.F.slot_list_append PySem.F.type_list_append ga (pv 5) (ad (aR (ad (pv 4) (ad (pv 8) ag))) ag))) <|
    aj (aC (i:=3) nd rfl (Or.inl rfl) (pv 4))) <|
   aj (ax (pv 5)),?_⟩
  dsimp only[bv,Cx.nox];refine⟨Nat.zero_le _,fun p H1 np s1 e1=>?_⟩;refine⟨_,rfl,many,rfl,by lia,by lia,fX (lo:=0) (n:=many.toNat) (fun i σ Hx=>∃(last term:Int)(v6 v7 v8:Option V)(es:List Addr)(xs:List En),σ=[some (V.ref a),some (V.int st),some (V.int many),some (V.int last),some (V.int term),some (V.ref p),v6,v7,v8]/\1 <= term/\Hx p=some (.lst (es.map V.ref))/\Paired (EnO Hx) es xs/\es.length=i/\(∀e ∈ xs,1 <= e.1)/\aq H Hx/\t0 <= term/\(∀e ∈ xs,(t0 <= e.1/\fw e.2)/\e.1 <= term)/\(xs ≠ []->xs.getLast?.map (·.1)=some term))
   ⟨last,term,none,none,none,[],[],rfl,t1,e1,.nil,rfl,fun e h=>(nomatch h),s1,Int.le_of_eq ht0,fun e h=>(nomatch h),fun z=>absurd rfl z⟩ ?_ ?_⟩
  ·rintro i σ Hx hi ⟨last,term,v6,v7,v8,es,xs,rfl,t1,h1,h2,h3,h4,h5,u1,u2,u3⟩;refine⟨_,rfl,_,rfl,_,rfl,_,_,rfl,rfl,ex3 a ns _ ⟨rfl,h5.seq hS,by lia,fun z=>?_⟩⟩
   refine(oo rfl rfl ⟨⟨by decide,by decide,by decide⟩,oo rfl rfl ⟨.inl ⟨by decide,by decide⟩,(show 7 <= sizeLine by lia),fun la H2 n2 s2 e2=>?_⟩⟩)
   refine⟨z,la,4 :: 3 :: zsD,rfl,e2,zs7_ok,(by decide),fun pd ds H3 s3 n3 e3 hD=>?_⟩
   obtain⟨d0,d1,rest,rfl,q0,q1,hD⟩:=dig2 hD
   focus
     have s23:=s2.trans s3;have hp3:H3 p=some (.lst (es.map V.ref)):=s23 _ _ h1;refine(rd2 rfl rfl (ex4 pd _ _ _ ⟨rfl,rfl,SqL.of e3,at0,rfl,.inr ⟨_,rfl,?_⟩⟩));refine⟨_,rfl,ex4 pd _ _ _ ⟨rfl,rfl,SqL.of e3,at1,_,_,rfl,rfl,_,_,rfl,rfl,.inl (b01 _),_,_,rfl,rfl,?_⟩⟩;have tt:1 <= term + (if decide (V.int d0=V.int 3)=true then (1:Int) else 0) * (1 + d1):=by
      by_cases hh:decide (V.int d0=V.int 3)=true
      ·rw[if_pos hh];lia
      ·rw[if_neg hh];lia
     obtain⟨term2,hT2⟩:∃T2:Int,T2=term + (if decide (V.int d0=V.int 3)=true then (1:Int) else 0) * (1 + d1):=⟨_,rfl⟩
     have tu:term <= term2:=by
      rw[hT2];by_cases hh:decide (V.int d0=V.int 3)=true
      ·rw[if_pos hh];lia
      ·rw[if_neg hh];lia
     rw[<- hT2]at tt;have fin:∀dd:Dd,fw dd->t0 <= term2/\(∀e ∈ xs ++ [(term2,dd)],(t0 <= e.1/\fw e.2)/\e.1 <= term2)/\(xs ++ [(term2,dd)] ≠ []->(xs ++ [(term2,dd)]).getLast?.map (·.1)=some term2):=fun dd hd=>by
      refine⟨by lia,fun e he=>?_,fun _=>by simp⟩
      rcases mem_append.mp he with h | h
      ·have:=u2 e h;exact⟨this.1,by lia⟩
      ·rw[List.mem_singleton.mp h];exact⟨⟨by show t0 <= term2;lia,hd⟩,Int.le_refl _⟩
     refine⟨(show 1 <= sizeLine by lia),fun t4 H4 n4 s4 e4=>?_⟩
     have hpx:∀(dA:Addr)(dd:Dd)(Hy:Hp),aq H3 Hy->DdO Hy dA dd->∀(c:Addr)(Hz Hw:Hp),aq Hy Hz->Hz c=some (.tup [.int term2,.ref dA])->(∀b o,b ≠ p->Hz b=some o->Hw b=some o)->Hw p=some (.lst (es.map V.ref ++ [.ref c]))->Hw p=some (.lst ((es ++ [c]).map V.ref))/\Paired (EnO Hw) (es ++ [c]) (xs ++ [(term2,dd)])/\(es ++ [c]).length=i + 1/\(∀e ∈ xs ++ [(term2,dd)],1 <= e.1)/\aq H Hw:=by
      intro dA dd Hy sy hd c Hz Hw sz hc kw ew;have hpz:Hz p=some (.lst (es.map V.ref)):=sz _ _ (sy _ _ hp3);have tkw:Tk Hz Hw:=fun b ys e=>kw _ _ (aN e hpz (by intro z;cases z)) e
      have tk:Tk Hx Hw:=(Tk.of (s23.trans (sy.trans sz))).trans tkw;refine⟨by rw[ew,List.map_append];rfl,PySem.Paired.snoc (bB tk h2) ⟨dA,tkw _ _ hc,(hd.tk (Tk.of sz)).tk tkw⟩,by rw[length_append,h3];rfl,fun e he=>?_,fun b o e=>?_⟩
      ·rcases mem_append.mp he with h | h
       ·exact h4 e h
       ·rw[List.mem_singleton.mp h];exact tt
      ·exact kw _ _ (ak e np) (sz _ _ (sy _ _ (s23 _ _ (h5 _ _ e))))
     refine(rd2 rfl rfl ⟨rfl,_,rfl,bN (fun _=>?_) (fun _=>?_)⟩)
     ·refine(rd2 rfl rfl ⟨pd,_,rfl,SqL.of (s4 _ _ e3),?_⟩);intro ps nps;have s5:=aq.new (o:=.lst (cx (((d0 :: d1 :: rest):List Int).map V.int) (some 2) none)) nps;have e5:upd H4 ps (.lst (cx (((d0 :: d1 :: rest):List Int).map V.int) (some 2) none)) ps=some (.lst (rest.map V.int)):=by
       rw[ai];congr 2
       exact cutL2 _ _ _
      refine⟨ps,rest,rfl,e5,hD,fun pq x n wk H6 s6 hdd hgd=>?_⟩;have s46:aq H3 H6:=s4.trans (s5.trans s6);refine⟨_,rfl,.inl ⟨rfl,_,SqL.of (s46 _ _ hp3)⟩,rd2 rfl rfl ⟨(show 2 <= sizeLine by lia),fun c H7 n7 s7 e7=>(ex3 p _ _ ⟨rfl,rfl,s7 _ _ (s46 _ _ hp3),by rw[length_map];lia,fun H8 k8 e8=>?_⟩)⟩⟩
      obtain⟨g1,g2,g3,g4,g5⟩:=hpx pq (some (x,n,wk)) H6 s46 hdd c H7 H8 s7 (by rw[hT2];exact e7) k8 e8
      exact⟨_,rfl,_,_,_,_,_,es ++ [c],xs ++ [(term2,some (x,n,wk))],rfl,(by rw[hT2]at tt;exact tt),g1,g2,g3,g4,g5,(by have:=fin _ hgd;rw[hT2]at this ⊢;exact this)⟩
     ·refine⟨_,rfl,.inl ⟨rfl,_,SqL.of (s4 _ _ hp3)⟩,rd2 rfl rfl ⟨(show 2 <= sizeLine by lia),fun c H6 n6 s6 e6=>(ex3 p _ _ ⟨rfl,rfl,s6 _ _ (s4 _ _ hp3),by rw[length_map];lia,fun H7 k7 e7=>?_⟩)⟩⟩
      obtain⟨g1,g2,g3,g4,g5⟩:=hpx t4 none H4 s4 e4 c H6 H7 s6 (by rw[hT2];exact e6) k7 e7
      exact⟨_,rfl,_,_,_,_,_,es ++ [c],xs ++ [(term2,none)],rfl,(by rw[hT2]at tt;exact tt),g1,g2,g3,g4,g5,(by have:=fin none trivial;rw[hT2]at this ⊢;exact this)⟩
  ·rintro σ Hx ⟨last,term',v6,v7,v8,es,xs,rfl,t1,h1,h2,h3,h4,h5,u1,u2,u3⟩;subst ht0;exact⟨_,rfl,q p es xs Hx h5 np h1 h2 (by lia) h4 ⟨fun e he=>(u2 e he).1,term',fun e he=>(u2 e he).2,u3⟩⟩
end
end K43
namespace K43
open PySem L2
open K43T (Kvs Las Wk aS bR cH cu dF aI aT LR lastN lastA num)
abbrev pX:Stmt:=top 116
structure l8(K:Frag)(H:Hp)(d l:Addr)(s:Kvs × Las):Prop where
 hd:H d=some (.dK s.1)
 hl:∃lk,H l=some (.dK lk)/\LR K H lk s.2
 ne:d ≠ l
theorem l8.same{K:Frag}{H H':Hp}{d l:Addr}{s:Kvs × Las}(e:aq H H')(h:l8 K H d l s):l8 K H' d l s:=by
 obtain⟨h2,⟨lk,h3,h4⟩,h5⟩:=h;exact⟨e _ _ h2,⟨lk,e _ _ h3,K43T.LR.mono h4 fun t xs q=>cT e q⟩,h5⟩
def md(K:Frag):Sp:=fun us H Q _=>∃(d l dd:Addr)(s:Kvs × Las)(x:Dd),us=[.ref d,.ref l,.ref dd]/\l8 K H d l s/\bR s.1 s.2/\s.1.length <= 400/\s.2.length <= 400/\DdO H dd x/\∀H',cH d l H H'->l8 K H' d l (dv s (0,x))->Q .non H'
theorem ndd1:(!decide (V.str (Str.ofString "first")=V.str (Str.ofString "ask")))=true:=by decide +kernel
theorem dDP:decide (V.str (Str.ofString "drop")=V.str (Str.ofString "put"))=false:=by decide +kernel
theorem dAP:decide (V.str (Str.ofString "add")=V.str (Str.ofString "put"))=false:=by decide +kernel
theorem dAD:decide (V.str (Str.ofString "add")=V.str (Str.ofString "drop"))=false:=by decide +kernel
section
variable{P:Program}{w:World}{K:Frag}{mg:Str->Option Value}{base:Heap}
noncomputable abbrev nDoesL:List Str:=["_law_held","_law_asked","_law_deed_here","_law_word","_law_key","_law_old","_law_answer"]
theorem rh:au nDoesL ["_law_held","_law_asked","_law_deed_here"] (am pX):=fsc (by decide +kernel)
theorem wn {f:Addr} {fd:FuncData} (F:Fun K "_law_does" "_law_does" pX f fd):aQ P w K mg base CX0 1 f fd ["_law_held","_law_asked","_law_deed_here"] (md K):=by
 refine F.ok rh (fun vs H Q E h=>?_) (fun cdv A outer s H vs Q E hr h=>?_)
 ·obtain⟨d,l,dd,s,x,rfl,_⟩:=h;rfl
 ·obtain⟨d,l,dd,s,x,rfl,hT,hok,k4,l4,hdd,q⟩:=h;have nd:=rh.nd;have hu:_ + 1 < cLine:=Nat.lt_of_le_of_lt (Nat.add_le_add_left (show 1 <= 64 by decide) _) hr.units
  have hs16:sizeLine=16777216:=sizeLine_eq;refine⟨_,ae (aX (PW.pt (cN (aH gI (ar ao (pv 2) af (fun _ _=>rfl)) aU (aG _)) (cV (aH qD (ar ao (pv 2) af (fun _ _=>rfl)) (ar ao (nG hu (pv 1) (ar ao (pv 2) af (fun _ _=>rfl)) (aR (ad af (ad cU ag))) ⟨rfl,rfl,rfl,rfl⟩) af (fun _ _=>rfl)) (aG _))))) (aj ps_retN) aK) <|
   ae (eO (bM cK (ar ao (pv 2) af (fun _ _=>rfl)) cv (bQ af)) (dg (n:=2) rfl (aF (aA (i:=3) nd rfl (Or.inl rfl)) (aF (aA (i:=4) nd rfl (Or.inl rfl)) cn)))) <|
   ae (aC (i:=5) nd rfl (Or.inl rfl) (nF hu (pv 0) (pv 4) ⟨rfl,rfl,rfl,rfl⟩)) <|
   ae (aC (i:=6) nd rfl (Or.inl rfl) (pv 5)) <|
   ae (aX (aH cj (pv 3) aU (aG _)) (aj (eJ hu (pv 0) (pv 4) (ar ao (ar ao (pv 2) af (fun _ _=>rfl)) af (fun _ _=>rfl)) rfl))
    (aj (aX (aH cj (pv 3) aU (aG _)) (aj (bG (nI (pv 0) (pv 4) cU ⟨rfl,rfl,rfl,rfl⟩)))
     (ae (eJ hu (pv 0) (pv 4) (aE bn (ar ao (ar ao (pv 2) af (fun _ _=>rfl)) af (fun _ _=>rfl)) (mY (lj (oP (pv 5))) af (pv 5))) rfl) <|
      aj (aC (i:=6) nd rfl (Or.inl rfl) (dM hu (pv 0) (pv 4) (fun _ _=>rfl))))))) <|
   aj (eJ hu (pv 1) (ar ao (pv 2) af (fun _ _=>rfl)) (aR (ad (ar ao (pv 2) af (fun _ _=>rfl)) (ad (pv 6) ag))) rfl),?_⟩
  dsimp only[bv,Cx.nox];cases x with
  | none =>
   have hdd:H dd=some (.tup [.str "first"]):=hdd
   refine⟨_,rfl,ex4 dd _ _ _ ⟨rfl,rfl,SqT.of hdd,at0,rfl,_,rfl,?_⟩⟩;rw[ndd1];exact bJ (bJ (q H (cH.of (aq.refl _)) hT))
  | some qq =>
   obtain⟨x,n,wk⟩:=qq;obtain⟨n1,t,h1,h2⟩:=hdd;obtain⟨lk,hl,lr⟩:=hT.hl;refine⟨_,rfl,ex4 dd _ _ _ ⟨rfl,rfl,SqT.of h1,at0,rfl,_,rfl,?_⟩⟩;rw[decide_eq_true rfl];refine aY ⟨_,rfl,ex4 dd _ _ _ ⟨rfl,rfl,SqT.of h1,eP,_,rfl,l,rfl,.inl ⟨lk,.inl hl⟩,_,rfl,ex4 dd _ _ _ ⟨rfl,rfl,SqT.of h1,at1,(show 2 <= sizeLine by lia),fun tp H1 np s1 e1=>?_⟩⟩⟩
   have hlast:∃t0 ys,((bK lk (Sum.inr x:Key)).getD (.ref tp))=.ref t0/\SqT K H1 t0 (.int (lastN s.2 x) :: ys):=by
    unfold K43T.lastN;rcases K43T.LR.val lr (Sum.inr x) with ⟨a1,a2⟩ | ⟨t0,q0,a1,a2,a3⟩
    ·rw[a1,a2];exact⟨tp,[.non],rfl,SqT.of e1⟩
    ·rw[a1,a2];exact⟨t0,[q0.2],rfl,cT s1 a3⟩
   obtain⟨t0,ys,ht0,hq0⟩:=hlast;refine⟨_,(show cY H1 l (kV (Sum.inr x:Key)) _ from cY.k (s1 _ _ hl)),?_⟩;rw[ht0];refine⟨t0,_,oo rfl rfl ⟨hq0,at0,oo rfl rfl ⟨_,rfl,bN (fun z=>?_) (fun z=>?_)⟩⟩⟩
   ·have z:=of_decide_eq_true z;refine q H1 (cH.of s1) ?_;have:dv s (0,some (x,n,wk))=s:=by
     unfold dv;show (cu s.1 s.2 x n wk,dF s.1 s.2 x n wk)=s;unfold cu dF;by_cases hh:n < lastN s.2 x
     ·rw[if_pos hh,if_pos hh]
     ·rw[if_neg hh,if_neg hh,if_pos (by lia),if_pos (by lia)]
    rw[this];exact hT.same s1
   ·have z:¬n <= lastN s.2 x:=fun h=>z (decide_eq_true h);have hst:dv s (0,some (x,n,wk))=(wk.to s.1,K43T.gG s.2 (Sum.inr x) (n,wk.ans s.1)):=by
     unfold dv;show (cu s.1 s.2 x n wk,dF s.1 s.2 x n wk)=_;unfold cu dF;rw[if_neg (by lia),if_neg (by lia),if_neg (by lia),if_neg (by lia)]
    rw[hst]at q;have hd2':H1 d=some (.dK s.1):=s1 _ _ hT.hd;refine⟨_,rfl,ex4 dd _ _ _ ⟨rfl,rfl,SqT.of (s1 _ _ h1),fP,_,rfl,t,_,rfl,s1 _ _ h2,fun ps H2 s2 e2=>?_⟩⟩;have s02:=s1.trans s2;have hd2:H2 d=some (.dK s.1):=s02 _ _ hT.hd;have hl2:H2 l=some (.dK lk):=s02 _ _ hl;have fin:∀(Hb:Hp),(∀c u,c ≠ d->H2 c=some u->Hb c=some u)->Hb d=some (.dK (wk.to s.1))->∀(tq:Addr)(H3:Hp),aq Hb H3->H3 tq=some (.tup [.int n,wk.ans s.1])->gq H3 l (kV (Sum.inr x:Key)) (.ref tq) (upd H3 l (.dK (ck lk (Sum.inr x) (.ref tq))))/\Q .non (upd H3 l (.dK (ck lk (Sum.inr x) (.ref tq)))):=by
     intro Hb kb eb tq H3 s3 e3;have hl3:H3 l=some (.dK lk):=s3 _ _ (kb _ _ hT.ne.symm hl2);have ll:lk.length=s.2.length:=K43T.LR.len lr;refine⟨gq.k (k:=Sum.inr x) hl3 (bO (by lia)),q _ (fun c u e n1' n2'=>?_) ⟨?_,⟨_,ai,?_⟩,hT.ne⟩⟩
     ·rw[aw n2'];exact s3 _ _ (kb _ _ n1' (s02 _ _ e))
     ·rw[aw hT.ne];exact s3 _ _ eb
     ·have hsq:∀t' xs,SqT K H t' xs->SqT K (upd H3 l (.dK (ck lk (Sum.inr x) (.ref tq)))) t' xs:=fun t' xs hh=>by
       rcases hh with (hh | ⟨o',hh⟩) | hh
       ·refine .inl (.inl ?_);rw[aw (aN hh hl (by intro z;cases z))]
        exact s3 _ _ (kb _ _ (aN hh hT.hd (by intro z;cases z)) (s02 _ _ hh))
       ·refine .inl (.inr ⟨o',?_⟩);rw[aw (aN hh hl (by intro z;cases z))]
        exact s3 _ _ (kb _ _ (aN hh hT.hd (by intro z;cases z)) (s02 _ _ hh))
       ·exact .inr hh
      refine K43T.LR.put (K43T.LR.mono lr hsq) _ (SqT.of ?_);rw[aw (aN e3 hl3 (by intro z;cases z))]
      exact e3
    have hdd2:=s02 _ _ h1;have ht2:=s02 _ _ h2;have up:∀m:Kvs,∀c u,c ≠ d->H2 c=some u->upd H2 d (.dK m) c=some u:=fun m c u n e=>by rw[aw n];exact e
    have isd:IsD H2 d:=.inl ⟨s.1,.inl hd2⟩;cases wk with
    | put k v =>
     have e2:H2 ps=some (.tup [.str "put",.str k]):=e2;refine⟨ps,_,rfl,SqT.of e2,rfl,_,cJ rfl rfl rfl ?_⟩;refine⟨_,rfl,d,rfl,isd,_,rfl,_,(show cY H2 d (kV (Sum.inr k:Key)) _ from cY.k hd2),?_⟩;refine⟨_,rfl,?_⟩;refine⟨_,rfl,rfl,_,rfl,?_⟩;rw[decide_eq_true rfl];refine bJ ⟨_,rfl,ex4 dd _ _ _ ⟨rfl,rfl,SqT.of hdd2,fP,t,_,oo rfl rfl ⟨SqT.of ht2,eP,rd2 rfl rfl ⟨d,_,rfl,(show gq H2 d (kV (Sum.inr k:Key)) _ _ from gq.k hd2 (bO (by lia))),?_⟩⟩⟩⟩
     have hdd3:=up (ck s.1 (Sum.inr k) (.int v)) _ _ (aN hdd2 hd2 (by intro z;cases z)) hdd2
     refine⟨_,rfl,ex4 dd _ _ _ ⟨rfl,rfl,SqT.of hdd3,eP,_,rfl,(show 2 <= sizeLine by lia),fun tq H3 nq s3 e3=>?_⟩⟩
     obtain⟨f1,f2⟩:=fin _ (up (ck s.1 (Sum.inr k) (.int v))) ai tq H3 s3 e3;exact(rd2 rfl rfl (ex4 dd _ _ _ ⟨rfl,rfl,SqT.of (s3 _ _ hdd3),at1,l,_,rfl,f1,f2⟩))
    | drop k =>
     have e2:H2 ps=some (.tup [.str "drop",.str k]):=e2;refine⟨ps,_,rfl,SqT.of e2,rfl,_,cJ rfl rfl rfl ?_⟩;refine⟨_,rfl,d,rfl,isd,_,rfl,_,(show cY H2 d (kV (Sum.inr k:Key)) _ from cY.k hd2),?_⟩;refine⟨_,rfl,?_⟩;refine⟨_,rfl,rfl,_,rfl,?_⟩;rw[dDP];refine aY ⟨_,rfl,rfl,_,rfl,?_⟩;rw[decide_eq_true rfl];refine bJ ⟨_,rfl,d,rfl,isd,_,rfl,s.1,Sum.inr k,hd2,rfl,fun v e=>?_,fun e=>?_⟩
     ·have hdd3:=up (dR s.1 (Sum.inr k)) _ _ (aN hdd2 hd2 (by intro z;cases z)) hdd2
      refine⟨_,rfl,ex4 dd _ _ _ ⟨rfl,rfl,SqT.of hdd3,eP,_,rfl,(show 2 <= sizeLine by lia),fun tq H3 nq s3 e3=>?_⟩⟩
      obtain⟨f1,f2⟩:=fin _ (up (dR s.1 (Sum.inr k))) ai tq H3 s3 e3;exact(rd2 rfl rfl (ex4 dd _ _ _ ⟨rfl,rfl,SqT.of (s3 _ _ hdd3),at1,l,_,rfl,f1,f2⟩))
     ·refine⟨_,rfl,ex4 dd _ _ _ ⟨rfl,rfl,SqT.of hdd2,eP,_,rfl,(show 2 <= sizeLine by lia),fun tq H3 nq s3 e3=>?_⟩⟩
      have e5:Wk.to s.1 (.drop k)=s.1:=jk (nN e);obtain⟨f1,f2⟩:=fin H2 (fun _ _ _ h=>h) (by rw[e5];exact hd2) tq H3 s3 e3
      exact(rd2 rfl rfl (ex4 dd _ _ _ ⟨rfl,rfl,SqT.of (s3 _ _ hdd2),at1,l,_,rfl,f1,f2⟩))
    | add k v =>
     have e2:H2 ps=some (.tup [.str "add",.str k]):=e2;refine⟨ps,_,rfl,SqT.of e2,rfl,_,cJ rfl rfl rfl ?_⟩;refine⟨_,rfl,d,rfl,isd,_,rfl,_,(show cY H2 d (kV (Sum.inr k:Key)) _ from cY.k hd2),?_⟩;refine⟨_,rfl,?_⟩;refine⟨_,rfl,rfl,_,rfl,?_⟩;rw[dAP];refine aY ⟨_,rfl,rfl,_,rfl,?_⟩;rw[dAD];refine aY ⟨_,rfl,ex4 dd _ _ _ ⟨rfl,rfl,SqT.of hdd2,fP,t,_,oo rfl rfl ⟨SqT.of ht2,eP,_,rfl,?_⟩⟩⟩;have go:∀z:Int,v + z=num s.1 k + v->∀(R:V->Hp->Prop),R (.int (num s.1 k + v)) H2->R (.int (v + z)) H2:=fun z e R h=>by rw[e];exact h
     have hval:∀o:Option V,bK s.1 (Sum.inr k:Key)=o->(o=none/\num s.1 k=0)\/∃i:Int,o=some (.int i)/\num s.1 k=i:=fun o e=>by
      unfold K43T.num;rw[e];cases o with
      | none=>exact .inl ⟨rfl,rfl⟩
      | some u =>
       obtain⟨i,rfl⟩:=hok.ik _ _ e;exact .inr ⟨i,rfl,rfl⟩
     have rest:∀z:Int,num s.1 k + v=v + z->gq H2 d (kV (Sum.inr k:Key)) (.int (v + z)) (upd H2 d (.dK (ck s.1 (Sum.inr k) (.int (num s.1 k + v))))):=fun z e=>by
      rw[<- e];exact gq.k hd2 (bO (by lia))
     have hdd3:=up (ck s.1 (Sum.inr k) (.int (num s.1 k + v))) _ _ (aN hdd2 hd2 (by intro z;cases z)) hdd2
     have hget:cY (upd H2 d (.dK (ck s.1 (Sum.inr k) (.int (num s.1 k + v))))) d (kV (Sum.inr k:Key)) (some (.int (num s.1 k + v))):=by
      have:=cY.k (H:=upd H2 d (.dK (ck s.1 (Sum.inr k) (.int (num s.1 k + v))))) (k:=(Sum.inr k:Key)) ai;rw[dS,if_pos rfl]at this;exact this
     rcases hval _ rfl with ⟨o1,o2⟩ | ⟨i,o1,o2⟩
     ·rw[o1];refine⟨_,rfl,bN (fun _=>⟨_,_,rfl,rfl,_,rfl,_,rfl,d,_,rfl,rest 0 (by lia),?_⟩) (fun z=>absurd (decide_eq_true rfl) z)⟩
      refine⟨_,rfl,_,rfl,d,_,rfl,hget,?_⟩;refine⟨_,rfl,ex4 dd _ _ _ ⟨rfl,rfl,SqT.of hdd3,eP,_,rfl,(show 2 <= sizeLine by lia),fun tq H3 nq s3 e3=>?_⟩⟩
      obtain⟨f1,f2⟩:=fin _ (up _) ai tq H3 s3 e3;exact(rd2 rfl rfl (ex4 dd _ _ _ ⟨rfl,rfl,SqT.of (s3 _ _ hdd3),at1,l,_,rfl,f1,f2⟩))
     ·rw[o1];refine⟨_,rfl,bN (fun z=>absurd (of_decide_eq_true z) (by intro h;cases h)) (fun _=>⟨_,rfl,_,_,rfl,rfl,_,rfl,_,rfl,d,_,rfl,rest i (by lia),?_⟩)⟩
      refine(rd2 rfl rfl ⟨d,_,rfl,hget,?_⟩);refine⟨_,rfl,ex4 dd _ _ _ ⟨rfl,rfl,SqT.of hdd3,eP,_,rfl,(show 2 <= sizeLine by lia),fun tq H3 nq s3 e3=>?_⟩⟩
      obtain⟨f1,f2⟩:=fin _ (up _) ai tq H3 s3 e3;exact(rd2 rfl rfl (ex4 dd _ _ _ ⟨rfl,rfl,SqT.of (s3 _ _ hdd3),at1,l,_,rfl,f1,f2⟩))
end
end K43
namespace K43
open PySem L2 KM
open K43T (Kvs Las Wk aS bR cH cu dF aI aT LR lastN lastA num ci bS jt gH lM dC)
abbrev gU:Stmt:=top 117
theorem gf{X:Cx}{scope:Scope}{cl:List (Str × Addr)}{N2 ys:List Str}{C:Addr}{s:Shared}{H:Hp}{fp:List Addr}:IxR (cxC X scope cl N2 ys C s H fp) (rIxT X.K):=ao
def jK(K:Frag):Sp:=fun us H Q _=>∃(d l:Addr)(s:Kvs × Las),us=[.ref d,.ref l]/\l8 K H d l s/\bR s.1 s.2/\s.1.length < 64/\s.2.length < 64/\∀(p:Addr) (ps:List (Str × V)) (qs:List (Str × Int × V)) (H':Hp),aq H H'->ci H' p ps qs->bS s.1 s.2 ps qs->Q (.ref p) H'
section
variable{P:Program}{w:World}{K:Frag}{mg:Str->Option Value}{base:Heap}
noncomputable abbrev pY:List Str:=["_law_held","_law_asked","_law_rows_here"]
theorem scTab:au pY ["_law_held","_law_asked"] (am gU):=fsc (by decide +kernel)
theorem ndLK:(pY ++ (["_law_key"]:List Str)).Nodup:=by decide +kernel
theorem ndLA:(pY ++ (["_law_asker"]:List Str)).Nodup:=by decide +kernel
theorem tJ {f:Addr} {fd:FuncData} (F:Fun K "_law_table" "_law_table" gU f fd) (B:K43T.Blt mg):aQ P w K mg base CX0 1 f fd ["_law_held","_law_asked"] (jK K):=by
 refine F.ok scTab (fun vs H Q E h=>?_) (fun cdv A outer s H vs Q E hr h=>?_)
 ·obtain⟨d,l,s,rfl,_⟩:=h;rfl
 ·obtain⟨d,l,⟨kvs,las⟩,rfl,hT,ok,hk64,hl64,q⟩:=h;have hu:_ + 1 < cLine:=Nat.lt_of_le_of_lt (Nat.add_le_add_left (show 1 <= 64 by decide) _) hr.units
  have nd:=scTab.nd;obtain⟨hd,⟨lk,hl,lr⟩,hne⟩:=id hT;refine⟨_,ae (lA (i:=2) nd rfl (Or.inl rfl) pY pY ["_law_asker"] (am gU) rfl rfl rfl (by decide +kernel) rfl rfl (by decide +kernel) (by decide +kernel) (by decide +kernel) (by decide +kernel)
    (fW (az (fb rfl) (by rfl) B.sorted K43T.iT (ad (pv 1) ag))) (fun _ _ _ _ _=>aA (i:=3) ndLA rfl (Or.inl rfl)) (fun _ _ _ _ _=>cR)
    (fun _ _ _ _ _=>dZ (ad (pv 3) (ad (ar gf (dM hu (pv 1) (pv 3) (fun _ _=>rfl)) af (fun _ _=>rfl)) (ad (ar gf (dM hu (pv 1) (pv 3) (fun _ _=>rfl)) af (fun _ _=>rfl)) ag)))) (by with_unfolding_all rfl)) <|
   aj <| ax <| dZ <| ad (bh fZ (by rfl) B.tuple K43T.cm (ad (gy pY pY ["_law_key"] (am gU) rfl rfl rfl (by decide +kernel) rfl rfl (by decide +kernel) (by decide +kernel) (by decide +kernel) (by decide +kernel)
    (fW (az (fb rfl) (by rfl) B.sorted K43T.iT (ad (pv 0) ag))) (fun _ _ _ _ _=>aA (i:=3) ndLK rfl (Or.inl rfl)) (fun _ _ _ _ _=>cR)
    (fun _ _ _ _ _=>dZ (ad (pv 3) (ad (dM hu (pv 0) (pv 3) (fun _ _=>rfl)) ag)))) ag)) <| ad (bh fZ (by rfl) B.tuple K43T.cm (ad (pv 2) ag)) ag,?_⟩
  dsimp only[bv,Cx.nox];have kk:=ok.gk.keys;have hlk:lk.map (·.1)=(cF las).map Sum.inr:=by rw[<- ok.gl.keys];exact lr.keys
  refine ah fun K_ hK_=>?_;refine⟨_,rfl,l,lk,cF las,rfl,hl,hlk,(by rw[lr.len];exact hl64),fun p2 tt hp2 pm2 pw2=>?_⟩
  refine⟨p2,rfl,⟨_,SqL.of ai⟩,?_⟩;have s4:aq H (upd H p2 (.lst (tt.map V.str))):=.new hp2;have htl:tt.length < 64:=by rw[pm2.length_eq];unfold cF;rw[length_map];exact hl64
  refine lL (ss:=tt) (fun x=>[.str x,.int (lastN las x),lastA las x]) ?_ ?_ ?_ ?_ ?_
  ·rfl
  ·exact SqL.of ai
  ·lia
  ·intro x H' post hx sm hpost;have s1':=s4.trans sm;have hm:(dC las (Sum.inr x)).isSome=true:=cG.mp (ok.gl.mem.mp (pm2.mem_iff.mp hx));rcases lr.val (Sum.inr x) with ⟨_,e2⟩ | ⟨tx,q',e1,e2,e3⟩
   ·rw[e2]at hm;cases hm
   ·have hN:lastN las x=q'.1:=by unfold K43T.lastN;rw[e2]
    have hA:lastA las x=q'.2:=by unfold K43T.lastA;rw[e2]
    have hg:cY H' l (.str x) (some (.ref tx)):=by
     have:=cY.k (H:=H') (k:=(Sum.inr x:Key)) (s1' _ _ hl);rw[e1]at this;exact this
    refine(rd3 rfl rfl rfl ⟨l,_,rfl,hg,tx,_,oo rfl rfl ⟨cT s1' e3,rfl,?_⟩⟩);refine(rd2 rfl rfl ⟨l,_,rfl,hg,tx,_,oo rfl rfl ⟨cT s1' e3,rfl,(by show 3 <= sizeLine;decide),fun t ht=>?_⟩⟩)
    have:=hpost t ht;rw[hN,hA]at this;exact this
  intro D2 cs H4 hD2' s5 hD4 hcl hcs;have s04:=s4.trans s5;refine hK_ _ _ ?_;refine⟨_,rfl,d,kvs,cF kvs,rfl,s04 _ _ hd,kk,hk64,fun p1 ss hp1 pm1 pw1=>?_⟩;refine⟨p1,rfl,⟨_,SqL.of ai⟩,?_⟩;have s1:aq H4 (upd H4 p1 (.lst (ss.map V.str))):=.new hp1;have hsl:ss.length < 64:=by rw[pm1.length_eq];unfold cF;rw[length_map];exact hk64
  refine lL (ss:=ss) (fun x=>[.str x,(bK kvs (Sum.inr x)).getD .non]) ?_ ?_ ?_ ?_ ?_
  ·rfl
  ·exact SqL.of ai
  ·lia
  ·intro x H' post hx sm hpost;have s1':=s04.trans (s1.trans sm);obtain⟨v,hv⟩:∃v,bK kvs (Sum.inr x)=some v:=Option.isSome_iff_exists.mp (cG.mp (ok.gk.mem.mp (pm1.mem_iff.mp hx)));refine(rd3 rfl rfl rfl ⟨d,v,rfl,?_,(by show 2 <= sizeLine;decide),fun t ht=>?_⟩)
   ·have:=cY.k (H:=H') (k:=(Sum.inr x:Key)) (s1' _ _ hd);rw[hv]at this;exact this
   ·have:=hpost t ht;rw[hv]at this;exact this
  intro D bs H2 hD s2 hD2 hbl hbs;refine⟨D,_,rfl,SqL.of hD2,fun ph oh hph hoh=>?_⟩;have s42:aq H4 (upd H2 ph (.frz oh (.tup (bs.map V.ref)))):=s1.trans (s2.trans (.new hph));have sph:aq H2 (upd H2 ph (.frz oh (.tup (bs.map V.ref)))):=.new hph;have hph3:upd H2 ph (.frz oh (.tup (bs.map V.ref))) ph=some (.frz oh (.tup (bs.map V.ref))):=ai;generalize upd H2 ph (.frz oh (.tup (bs.map V.ref)))=H3 at s42 sph hph3;refine⟨_,rfl,D2,_,rfl,SqL.of (s42 _ _ hD4),fun pa oa hpa hoa=>?_⟩;refine⟨(by show 2 <= sizeLine;decide),fun p hp=>?_⟩
  have s35:aq H3 (upd (upd H3 pa (.frz oa (.tup (cs.map V.ref)))) p (.tup [V.ref ph,V.ref pa])):=(aq.new hpa).trans (.new hp);refine q p (jt kvs ss) (gH las tt) _ (s04.trans (s42.trans s35)) (lM ai (s35 _ _ hph3) hoh ((aq.new hp) _ _ ai) hbl hcl (fun j x hx=>?_) (fun j x hx=>?_)) ⟨⟨ss,pm1,pw1,rfl⟩,tt,pm2,pw2,rfl⟩
  ·obtain⟨b,b1,b2⟩:=hbs j x hx;exact⟨b,b1,s35 _ _ (sph _ _ b2)⟩
  ·obtain⟨b,b1,b2⟩:=hcs j x hx;exact⟨b,b1,s35 _ _ (s42 _ _ b2)⟩
end
end K43
namespace K43
open PySem L2 KM
open K43T (Kvs Las Wk aS bR cH cu dF aI aT LR lastN lastA num ci bS jt gH dC gG)
abbrev pZ:Stmt:=top 118
def iZ(K:Frag):Sp:=fun us H Q _=>∃(st el b:Addr)(sp pl tm:Int) (hk:List (Key × V)) (hq:List (Str × Int × V)) (es:List Addr) (xs:List En),us=[.ref st,.ref el,.int sp]/\bT K H st pl tm b hk hq/\H el=some (.lst (es.map V.ref))/\Paired (EnO H) es xs/\pl <= sp/\bR (aI hk) (aT hq)/\(aI hk).length + es.length < 64/\(aT hq).length + es.length < 64 /\
 ∀(p:Addr) (ps:List (Str × V)) (qs:List (Str × Int × V)) (H':Hp),aq H H'->ci H' p ps qs->bS (dI hk hq xs (sp - pl).toNat).1 (dI hk hq xs (sp - pl).toNat).2 ps qs->Q (.ref p) H'
section
variable{P:Program}{w:World}{K:Frag}{mg:Str->Option Value}{base:Heap}
noncomputable abbrev nDoneL:List Str:=["_law_stand","_law_entries_here","_law_settled","_law_held","_law_asked","_law_asker","_law_number","_law_answer","_law_term","_law_deed_here"]
theorem ri:au nDoneL ["_law_stand","_law_entries_here","_law_settled"] (am pZ):=fsc (by decide +kernel)
theorem wp {f:Addr} {fd:FuncData} (F:Fun K "_law_done" "_law_done" pZ f fd) (B:K43T.Blt mg) (Fd:aV P w K mg base 1 "_law_does" ["_law_held","_law_asked","_law_deed_here"] (md K)) (Ft:aV P w K mg base 1 "_law_table" ["_law_held","_law_asked"] (jK K)):aQ P w K mg base CX0 2 f fd ["_law_stand","_law_entries_here","_law_settled"] (iZ K):=by
 refine F.ok ri (fun vs H Q E h=>?_) (fun cdv A outer s H vs Q E hr h=>?_)
 ·obtain⟨st,el,b,sp,pl,tm,hk,hq,es,xs,rfl,_⟩:=h;rfl
 ·obtain⟨st,el,b,sp,pl,tm,hk,hq,es,xs,rfl,S0,hel,hes,hps,ok,k64,l64,q⟩:=h;have nd:=ri.nd;have hu:_ + 1 < cLine:=Nat.lt_of_le_of_lt (Nat.add_le_add_left (show 1 <= 64 by decide) _) hr.units
  have hs16:sizeLine=16777216:=sizeLine_eq;refine⟨_,ae (aC (i:=3) nd rfl (Or.inl rfl) (bh (kB rfl) (by rfl) B.dict K43T.bDict (ad (ar ao (pv 0) af (fun _ _=>rfl)) ag))) <|
   ae (aC (i:=4) nd rfl (Or.inl rfl) jg) <|
   ae (dY PassesOwn.never rfl (gE (ar ao (pv 0) af (fun _ _=>rfl))) (dg (n:=3) rfl (aF (aA (i:=5) nd rfl (Or.inl rfl)) (aF (aA (i:=6) nd rfl (Or.inl rfl)) (aF (aA (i:=7) nd rfl (Or.inl rfl)) cn))))
    (aj (eJ hu (pv 4) (pv 5) (dZ (ad (pv 6) (ad (pv 7) ag))) rfl))) <|
   ae (dY PassesOwn.never rfl (fW (bM gK (pv 1) cv (bQ (aE bV (pv 2) (ar ao (pv 0) af (fun _ _=>rfl)))))) (dg (n:=2) rfl (aF (aA (i:=8) nd rfl (Or.inl rfl)) (aF (aA (i:=9) nd rfl (Or.inl rfl)) cn)))
    (aj (bG (aB Fd hr (ad (pv 3) (ad (pv 4) (ad (pv 9) ag))))))) <|
   aj (ax (aB Ft hr (ad (pv 3) (ad (pv 4) ag)))),?_⟩
  dsimp only[bv,Cx.nox];obtain⟨hh,aa,o,ps,as,h1,h2,h3,h4,h5,h6,h7,h8,h9⟩:=id S0;refine ah fun K_ hK_=>?_;refine⟨_,rfl,ex4 st _ _ _ ⟨rfl,rfl,SqT.of h1,fP,hh,o,ps,hk,rfl,h2,h3,h4,h5,fun d hd=>?_⟩⟩;have s1:=aq.new (o:=.dK (aI hk)) hd;have ed:upd H d (.dK (aI hk)) d=some (.dK (aI hk)):=ai;unfold K43T.aI at s1 ed;refine hK_ _ _ (ah fun K_ hK_=>?_);generalize upd H d (.dK (List.foldl (fun m kv=>ck m kv.1 kv.2) [] hk))=H1 at s1 ed ⊢;have ed:H1 d=some (.dK (aI hk)):=ed;intro l hl;have s2:=aq.new (o:=.dK []) hl;have el2:upd H1 l (.dK []) l=some (.dK []):=ai;refine hK_ _ _ (ah fun K_ hK_=>?_);generalize upd H1 l (.dK [])=H2 at s2 el2 ⊢;have s02:=s1.trans s2;have ndl:d ≠ l:=ak ed hl;have nlH:H l=none:=s1.none hl;have ed2:=s2 _ _ ed;refine⟨_,rfl,st,_,oo rfl rfl ⟨SqT.of (s02 _ _ h1),vp,aa,rfl,⟨as,cT s02 h6⟩,lq (K:=K) (a:=aa) (xs:=as) (fun i σ H4=>∃(u v w':Option V),σ=[some (.ref st),some (.ref el),some (.int sp),some (.ref d),some (.ref l),u,v,w',none,none]/\aq H H4/\l8 K H4 d l (aI hk,(hq.take i).foldl (fun m q=>gG m (Sum.inr q.1) q.2) []))
   ⟨none,none,none,rfl,s02,ed2,⟨[],el2,.nil⟩,ndl⟩ (fun i σ H4 _ ⟨_,_,_,_,bt,_⟩=>cT bt h6) ?_ ?_⟩⟩
  ·rintro i y σ H4 hy ⟨u,v,w',rfl,bt,S⟩;have hi:i < as.length:=(List.getElem?_eq_some_iff.mp hy).1;obtain⟨q',hq'⟩:∃q',hq[i]?=some q':=⟨_,getElem?_eq_getElem (by lia)⟩
   obtain⟨b',hb,hbt⟩:=h9 i q' hq';rw[hb]at hy;cases hy;have et:hq.take (i + 1)=hq.take i ++ [q']:=by rw[List.take_add_one,hq'];rfl
   obtain⟨hd4,⟨lk,hl4,lr⟩,_⟩:=id S;refine⟨b',_,rfl,cT bt hbt,rfl,_,_,rfl,_,cJ rfl rfl rfl ?_⟩;refine(rd2 rfl rfl ⟨(by show 2 <= sizeLine;decide),fun t ht=>?_⟩)
   have s5:=aq.new (o:=.tup [V.int q'.2.1,q'.2.2]) ht;have hl':=s5 _ _ hl4;have hlen:lk.length < sizeLine:=by
    have h2:=K43T.kQ (hq.take i) [];rw[<- lr.len,length_take]at h2;exact bO (by simp at h2;lia)
   refine(rd2 rfl rfl ⟨l,_,rfl,(show gq _ l (kV (Sum.inr q'.1:Key)) _ _ from gq.k hl' hlen),?_⟩);refine(ex3 _ _ _ ⟨rfl,fun c o' e=>?_,?_,⟨ck lk (Sum.inr q'.1) (.ref t),ai,?_⟩,ndl⟩)
   ·rw[aw (ak e nlH)];exact s5 _ _ (bt _ _ e)
   ·rw[aw ndl];exact s5 _ _ hd4
   ·show LR K _ _ ((hq.take (i + 1)).foldl _ []);rw[et,List.foldl_append];exact K43T.LR.put (lr.mono fun t' xs e=>(K43T.SqT.same s5 e).upd hl') (Sum.inr q'.1) (SqT.upd (SqT.of ai) hl')
  ·rintro σ H4 ⟨u,v,w',rfl,bt,S⟩;refine hK_ _ _ (ah fun K_ hK_=>?_);rw[h7,List.take_length]at S;have S:l8 K H4 d l (aI hk,aT hq):=S;obtain⟨n,hn⟩:=Int.eq_ofNat_of_zero_le (show 0 <= sp - pl by lia)
   refine(rd3 rfl rfl rfl (ex4 st _ _ _ ⟨rfl,rfl,SqT.of (bt _ _ h1),at0,oo rfl rfl ⟨_,rfl,el,_,rfl,SqL.of (bt _ _ hel),?_⟩⟩));intro psl npsl;have s5:=aq.new (o:=.lst (cx (es.map V.ref) none (some (sp - pl)))) npsl;have e5:upd H4 psl (.lst (cx (es.map V.ref) none (some (sp - pl)))) psl=some (.lst ((es.take n).map V.ref)):=by
    rw[ai,hn,oj,List.map_take]
   have S5:=S.same s5;generalize upd H4 psl (.lst (cx (es.map V.ref) none (some (sp - pl))))=H5 at s5 e5 S5 ⊢;have s05:=bt.trans s5;have hel2:es.length=xs.length:=Paired.length hes;have npd:psl ≠ d:=(ak S.hd npsl).symm;have npl:psl ≠ l:=by
    obtain⟨lk,q1,_⟩:=S.hl;exact(ak q1 npsl).symm
   refine⟨psl,rfl,⟨_,SqL.of e5⟩,m8 (K:=K) (xs:=(es.take n).map V.ref) (fun i σ Hx=>∃(v8 v9:Option V),σ=[some (.ref st),some (.ref el),some (.int sp),some (.ref d),some (.ref l),u,v,w',v8,v9]/\aq H Hx/\Hx psl=some (.lst ((es.take n).map V.ref))/\l8 K Hx d l (ca (aI hk,aT hq) (xs.take i))) ⟨none,none,rfl,s05,e5,S5⟩ ?_ ?_ ?_⟩
   ·rintro i σ Hx hi ⟨v8,v9,rfl,g1,g2,g3⟩;exact SqL.of g2
   ·rintro i y σ Hx hy ⟨v8,v9,rfl,g1,g2,g3⟩;rw[getElem?_map]at hy;cases he:(es.take n)[i]? with
    | none=>rw[he]at hy;cases hy
    | some a =>
     rw[he]at hy;cases hy;have hil:i < (es.take n).length:=(List.getElem?_eq_some_iff.mp he).1;rw[length_take]at hil;have hie:i < es.length:=by lia
     have hix:i < xs.length:=by lia
     have ha:a=es[i]:=by
      rw[List.getElem?_take,if_pos (by lia),getElem?_eq_getElem hie]at he
      exact(Option.some.inj he).symm
     have hE:EnO Hx a xs[i]:=by
      have:=Paired.zip hes (es[i],xs[i]) (List.mem_iff_getElem.mpr ⟨i,by rw[List.length_zip];lia,List.getElem_zip⟩)
      rw[ha];exact EnO.tk (Tk.of g1) this
     have hrun:=kS (aI hk,aT hq) (getElem?_eq_getElem hix);have rl:=cB (xs.take i) (aI hk,aT hq);have tl:(xs.take i).length <= i:=by rw[length_take];lia
     have rok:=dQ (s:=(aI hk,aT hq)) ok (xs.take i);generalize xs[i]=e at hE hrun;obtain⟨tm2,dd⟩:=e;obtain⟨dA,hA1,hA2⟩:=hE;refine⟨a,_,rfl,SqT.of hA1,rfl,_,cJ rfl rfl rfl ?_⟩;refine(rd3 rfl rfl rfl (ex5 d l dA _ dd ⟨rfl,g3,rok,?_,?_,hA2,fun H6 b6 T6=>?_⟩))
     ·have:=rl.1;show _ <= 400;simp only at this;lia
     ·have:=rl.2;show _ <= 400;simp only at this;lia
     ·refine⟨_,_,rfl,fun c u e=>b6 _ _ (g1 _ _ e) (ak e hd) (ak e nlH),b6 _ _ g2 npd npl,?_⟩;rw[hrun];exact T6
   ·rintro σ Hx ⟨v8,v9,rfl,g1,g2,g3⟩;refine hK_ _ _ ?_;rw[length_map,length_take]at g3;have hcut:xs.take (min n es.length)=xs.take n:=by
     by_cases hc:n <= es.length
     ·rw[Nat.min_eq_left hc]
     ·rw[Nat.min_eq_right (by lia),take_of_length_le (by lia),take_of_length_le (by lia)]
    rw[hcut]at g3;have rl:=cB (xs.take n) (aI hk,aT hq);have tl:(xs.take n).length <= es.length:=by rw[length_take];lia
    have rok:=dQ (s:=(aI hk,aT hq)) ok (xs.take n);have hnn:(sp - pl).toNat=n:=by lia
    refine(rd2 rfl rfl (ex3 d l _ ⟨rfl,g3,rok,?_,?_,fun p ps2 qs2 H6 s6 hp ht=>q p ps2 qs2 H6 (g1.trans s6) hp ?_⟩))
    ·have:=rl.1;show _ < 64;simp only at this;lia
    ·have:=rl.2;show _ < 64;simp only at this;lia
    ·unfold dI;rw[hnn];exact ht
end
end K43
namespace K43
open PySem L2
open K43T (Kvs Las Wk aS bR cH cu dF aI aT)
abbrev mf:Stmt:=top 119
def jL:Sp:=fun us H Q _=>∃(v le:Int),us=[.int v,.int le]/\0 <= v/\0 <= le/\∀(b:Addr)(H':Hp),aq H H'->(∃x y z:Addr,H' b=some (.tup [.ref x,.ref y,.ref z]))->Q (.ref b) H'
theorem mod2(v:Int):v % 2=1\/v % 2=0:=by lia
section
variable{P:Program}{w:World}{K:Frag}{mg:Str->Option Value}{base:Heap}
theorem oE:au ["_law_voters","_law_learners","_law_some"] ["_law_voters","_law_learners"] (am mf):=fsc (by decide +kernel)
theorem tK {f:Addr} {fd:FuncData} (F:Fun K "_law_bench" "_law_bench" mf f fd):aQ P w K mg base CX0 1 f fd ["_law_voters","_law_learners"] jL:=by
 refine F.ok oE (fun vs H Q E h=>?_) (fun cdv A outer s H vs Q E hr h=>?_)
 ·obtain⟨v,le,rfl,_⟩:=h;rfl
 ·obtain⟨v,le,rfl,v0,l0,q⟩:=h;have nd:=oE.nd;have hs16:sizeLine=16777216:=sizeLine_eq;refine⟨_,ae (aC (i:=2) nd rfl (Or.inl rfl) (aE iQ (aE iQ (aR (ad aU (ad aU (ad aU ag)))) (aE qT (aR (ad aU ag)) (aE cX (pv 0) af))) (aE qT (aR (ad aU ag)) (aE cX (aE qA (pv 0) af) af)))) <|
   aj (ax (aR (ad (pv 2) (ad (aR ag) (ad (bM cK (aR (ad aU (ad aU ag))) cv (bQ (pv 1))) ag))))),?_⟩
  refine⟨(show 3 <= sizeLine by lia),fun t1 H1 n1 s1 e1=>⟨(show 1 <= sizeLine by lia),fun t2 H2 n2 s2 e2=>(cJ rfl rfl rfl ⟨(show (0:Int) < 2 by decide),t2,oo rfl rfl ⟨e2,?_⟩⟩)⟩⟩
  rcases mod2 v with h | h
  ·refine .inl ⟨h,t1,t2,oo rfl rfl ⟨s2 _ _ e1,e2,(show 3 + 1 <= sizeLine by lia),fun t4 H4 s4 e4=>?_⟩⟩
   refine⟨(show 1 <= sizeLine by lia),fun t5 H5 n5 s5 e5=>(cJ rfl rfl rfl ⟨⟨by decide,by decide⟩,oo rfl rfl ⟨(show (0:Int) < 2 by decide),t5,oo rfl rfl ⟨e5,?_⟩⟩⟩)⟩
   rcases mod2 (v / 2) with h2 | h2
   ·refine .inl ⟨h2,t4,t5,oo rfl rfl ⟨s5 _ _ e4,e5,(show 4 + 1 <= sizeLine by lia),fun t6 H6 s6 e6=>?_⟩⟩
    exact⟨_,rfl,Nat.zero_le _,fun t8 H8 n8 s8 e8=>⟨(show 2 <= sizeLine by lia),fun t9 H9 n9 s9 e9=>(rd2 rfl rfl ⟨t9,_,rfl,e9,fun c H10 s10 e10=>⟨(show 3 <= sizeLine by lia),fun b H11 n11 s11 e11=>q b H11 (((s1.trans (s2.trans s4)).trans (s5.trans s6)).trans (s8.trans (s9.trans (s10.trans s11)))) ⟨_,_,_,e11⟩⟩⟩)⟩⟩
   ·refine .inr ⟨h2,fun p2 H7 n7 s7 e7=>⟨t4,p2,oo rfl rfl ⟨s7 _ _ (s5 _ _ e4),e7,(show 4 + 0 <= sizeLine by lia),fun t6 H6 s6 e6=>?_⟩⟩⟩
    exact⟨_,rfl,Nat.zero_le _,fun t8 H8 n8 s8 e8=>⟨(show 2 <= sizeLine by lia),fun t9 H9 n9 s9 e9=>(rd2 rfl rfl ⟨t9,_,rfl,e9,fun c H10 s10 e10=>⟨(show 3 <= sizeLine by lia),fun b H11 n11 s11 e11=>q b H11 (((s1.trans (s2.trans s4)).trans (s5.trans (s7.trans s6))).trans (s8.trans (s9.trans (s10.trans s11)))) ⟨_,_,_,e11⟩⟩⟩)⟩⟩
  ·refine .inr ⟨h,fun p H3 n3 s3 e3=>⟨t1,p,oo rfl rfl ⟨s3 _ _ (s2 _ _ e1),e3,(show 3 + 0 <= sizeLine by lia),fun t4 H4 s4 e4=>?_⟩⟩⟩
   refine⟨(show 1 <= sizeLine by lia),fun t5 H5 n5 s5 e5=>(cJ rfl rfl rfl ⟨⟨by decide,by decide⟩,oo rfl rfl ⟨(show (0:Int) < 2 by decide),t5,oo rfl rfl ⟨e5,?_⟩⟩⟩)⟩
   rcases mod2 (v / 2) with h2 | h2
   ·refine .inl ⟨h2,t4,t5,oo rfl rfl ⟨s5 _ _ e4,e5,(show 3 + 1 <= sizeLine by lia),fun t6 H6 s6 e6=>?_⟩⟩
    exact⟨_,rfl,Nat.zero_le _,fun t8 H8 n8 s8 e8=>⟨(show 2 <= sizeLine by lia),fun t9 H9 n9 s9 e9=>(rd2 rfl rfl ⟨t9,_,rfl,e9,fun c H10 s10 e10=>⟨(show 3 <= sizeLine by lia),fun b H11 n11 s11 e11=>q b H11 (((s1.trans (s2.trans (s3.trans s4))).trans (s5.trans s6)).trans (s8.trans (s9.trans (s10.trans s11)))) ⟨_,_,_,e11⟩⟩⟩)⟩⟩
   ·refine .inr ⟨h2,fun p2 H7 n7 s7 e7=>⟨t4,p2,oo rfl rfl ⟨s7 _ _ (s5 _ _ e4),e7,(show 3 + 0 <= sizeLine by lia),fun t6 H6 s6 e6=>?_⟩⟩⟩
    exact⟨_,rfl,Nat.zero_le _,fun t8 H8 n8 s8 e8=>⟨(show 2 <= sizeLine by lia),fun t9 H9 n9 s9 e9=>(rd2 rfl rfl ⟨t9,_,rfl,e9,fun c H10 s10 e10=>⟨(show 3 <= sizeLine by lia),fun b H11 n11 s11 e11=>q b H11 (((s1.trans (s2.trans (s3.trans s4))).trans (s5.trans (s7.trans s6))).trans (s8.trans (s9.trans (s10.trans s11)))) ⟨_,_,_,e11⟩⟩⟩)⟩⟩
end
end K43
namespace K43
open PySem L2
open K43T (Kvs Las Wk aS bR cH cu dF aI aT cS ci bS)
abbrev sWr:Stmt:=top 120
theorem at5'{α:Type}{a b c d e f:α}{r:List α}:atI (a :: b :: c :: d :: e :: f :: r) 5=some f:=bW (j:=5) rfl
theorem at6'{α:Type}{a b c d e f g:α}{r:List α}:atI (a :: b :: c :: d :: e :: f :: g :: r) 6=some g:=bW (j:=6) rfl
theorem at7'{α:Type}{a b c d e f g h:α}{r:List α}:atI (a :: b :: c :: d :: e :: f :: g :: h :: r) 7=some h:=bW (j:=7) rfl
theorem kW:bootBuiltins "max"=some (.builtin "max"):=by decide +kernel
theorem wq{X:Cx}{scope:Scope}{cl:List (Str × Addr)}{N2 ys:List Str}{C:Addr}{s:Shared}{H:Hp}{fp:List Addr}:SlR (cxC X scope cl N2 ys C s H fp) (rSlL X.K):=gK
theorem cutNN{ys:List V}{a n:Nat}(ha:a <= ys.length):cx ys (some (a:Int)) (some ((a + n:Nat):Int))=(ys.drop a).take n:=by
 unfold cx;rw[HT.dN,HT.dN,Nat.min_eq_left ha];by_cases h:a + n <= ys.length
 ·rw[Nat.min_eq_left h,Nat.add_sub_cancel_left]
 ·rw[Nat.min_eq_right (by lia),take_of_length_le (by rw[length_drop];exact Nat.le_refl _),take_of_length_le (by rw[length_drop];lia)]
abbrev zs8:List Int:=[4,3,9,9,3,31,3,6]
theorem dig8{ds:List Int}(h:Dig ds zs8):∃a b c d e f g k:Int,ds=[a,b,c,d,e,f,g,k]/\(0 <= a/\a < 4)/\(0 <= b/\b < 3)/\(0 <= c/\c < 9)/\(0 <= d/\d < 9)/\(0 <= e/\e < 3)/\(0 <= f/\f < 31)/\(0 <= g/\g < 3)/\(0 <= k/\k < 6):=by
 cases h with
 | cons h1 t=>cases t with
  | cons h2 t=>cases t with
   | cons h3 t=>cases t with
    | cons h4 t=>cases t with
     | cons h5 t=>cases t with
      | cons h6 t=>cases t with
       | cons h7 t=>cases t with
        | cons h8 t=>cases t with
         | nil=>exact(ex8 _ _ _ _ _ _ _ _ ⟨rfl,h1,h2,h3,h4,h5,h6,h7,h8⟩)
theorem Paired.drop'{α β:Type}{R:α->β->Prop}{as:List α}{bs:List β}(h:Paired R as bs)(n:Nat):Paired R (as.drop n) (bs.drop n):=by
 induction h generalizing n with
 | nil=>rw[List.drop_nil,List.drop_nil];exact .nil
 | cons r t ih =>
  cases n with
  | zero=>exact .cons r t
  | succ k=>exact ih k
abbrev wu:List Int:=(List.replicate 3 zsD).flatten
theorem cut5:∀k:Nat,k < 3->((wu.drop (5 * k)).take 5:List Int)=zsD
 | 0,_=>by decide +kernel
 | 1,_=>by decide +kernel
 | 2,_=>by decide +kernel
 | n + 3,h=>by lia
theorem zs8_ok:∀z ∈ zs8,0 < z/\z < 2 ^ 250:=by decide +kernel
theorem zs15_ok:∀z ∈ wu,0 < z/\z < 2 ^ 250:=by decide +kernel
theorem wv:wu.length=15:=by decide +kernel
def ToldS(hk:List (Key × V))(hq:List (Str × Int × V)):Prop:=∃(kvs:Kvs)(las:Las) (ps:List (Str × V)),bR kvs las/\bS kvs las ps hq/\hk=cS ps
def spWr(K:Frag):Sp:=fun us H Q _=>∃(a:Addr)(ns:List Int),us=[.ref a]/\SqL K H a (ns.map V.int) /\
 ∀(wt st en b:Addr)(t s pl tm:Int)(v:V) (hk:List (Key × V)) (hq:List (Str × Int × V)) (es:List Addr) (xs:List En) (H':Hp),aq H H'->H' wt=some (.tup [.int t,v,.int s,.ref st,.ref en])->StE K H' s st en pl tm b hk hq es xs->0 <= t->smV v=true->es.length <= 8->(aI hk).length <= 3->(aT hq).length <= 3->(0 <= pl/\pl <= 3)->0 <= tm->(∀e ∈ xs,1 <= e.1)->s <= pl + es.length->wj (if tm > 1 then tm else 1) xs->(0 < pl->1 <= tm)->ToldS hk hq->(∃x y z:Addr,H' b=some (.tup [.ref x,.ref y,.ref z]))->Q (.ref wt) H'
section
variable{P:Program}{w:World}{K:Frag}{mg:Str->Option Value}{base:Heap}
noncomputable abbrev nWr:List Str:=["_law_script","_law_d","_law_bench_here","_law_ahead","_law_some","_law_held","_law_asked","_law_term","_law_stand","_law_entries_here","_law_vote"]
theorem scWr:au nWr ["_law_script"] (am sWr):=fsc (by decide +kernel)
theorem ndWr:(nWr ++ (["_law_k"]:List Str)).Nodup:=by decide +kernel
theorem ok_wr {f:Addr} {fd:FuncData} (F:Fun K "_law_written" "_law_written" sWr f fd) (hint:mg "int"=none) (hrange:mg "range"=none) (hmax:mg "max"=none) (htuple:mg "tuple"=none) (Fc:aV P w K mg base 1 "_law_cell_at" ["_law_script","_law_k"] (ie K)) (Fd:aV P w K mg base 2 "_law_digits" ["_law_cell","_law_sizes"] kU) (Fe:aV P w K mg base 1 "_law_deed" ["_law_d"] jJ)
  (Fb:aV P w K mg base 1 "_law_bench" ["_law_voters","_law_learners"] jL) (Fo:aV P w K mg base 2 "_law_done" ["_law_stand","_law_entries_here","_law_settled"] (iZ K)) (Fn:aV P w K mg base 3 "_law_entries" rg (l7 K)):aQ P w K mg base CX0 4 f fd ["_law_script"] (spWr K):=by
 refine F.ok scWr (fun vs H Q E h=>?_) (fun cdv A outer s H vs Q E hr h=>?_)
 ·obtain⟨a,ns,rfl,_⟩:=h;rfl
 ·obtain⟨a,ns,rfl,hS,q⟩:=h;have nd:=scWr.nd;have r1:bj 1 _:=hr.mono (by decide)
  have r2:bj 2 _:=hr.mono (by decide)
  have hu:_ + 1 < cLine:=Nat.lt_of_le_of_lt (Nat.add_le_add_left (show 1 <= 64 by decide) _) hr.units
  have hs16:sizeLine=16777216:=sizeLine_eq;refine⟨_,ae (aC (i:=1) nd rfl (Or.inl rfl) (ge Fd r2 (aB Fc r1 (ad (pv 0) (ad af ag))) (di (di (di (di (di (di (di (di bY)))))))))) <|
   ae (aC (i:=2) nd rfl (Or.inl rfl) (aB Fb r1 (ad (ar bc (pv 1) af (fun _ _=>rfl)) (ad (ar bc (pv 1) af (fun _ _=>rfl)) ag)))) <|
   ae (aC (i:=3) nd rfl (Or.inr rfl) (sN Fd r2 (aB Fc r1 (ad (pv 0) (ad af ag))) (aE op_rep (eL (di (di (di (di (iE (aE dH af (aE jb af af)) bY)))))) af))) <|
   ae (lA (i:=4) nd rfl (Or.inl rfl) nWr nWr ["_law_k"] (am sWr) rfl rfl rfl (by decide +kernel) rfl rfl (by decide +kernel) (by decide +kernel) (by decide +kernel) (by decide +kernel)
    (eC (by rfl) hrange (ad (ar bc (pv 1) af (fun _ _=>rfl)) ag)) (fun _ _ _ _ _=>aA (i:=11) ndWr rfl (Or.inl rfl)) (fun _ _ _ _ _=>cR)
    (fun _ _ _ _ _=>aR (ad af (ad (aB Fe r1 (ad (bM wq (pv 3) (bQ (aE dH af (pv 11))) (bQ (aE bn (aE dH af (pv 11)) af))) ag)) ag))) (by with_unfolding_all rfl)) <|
   ae (eO (aB Fo r2 (ad (aR (ad af (ad af (ad (pv 2) (ad iO (ad iO ag)))))) (ad (pv 4) (ad (ar bc (pv 1) af (fun _ _=>rfl)) ag)))) (dg (n:=2) rfl (aF (aA (i:=5) nd rfl (Or.inl rfl)) (aF (aA (i:=6) nd rfl (Or.inl rfl)) cn)))) <|
   ae (aC (i:=7) nd rfl (Or.inl rfl) (aE dH (bh fY (by rfl) hint rf (ad (bI eI (ar bc (pv 1) af (fun _ _=>rfl)) af (aG _)) ag)) (aE bn af (ar bc (pv 1) af (fun _ _=>rfl))))) <|
   ae (aC (i:=8) nd rfl (Or.inl rfl) (de (sM (ar bc (pv 1) af (fun _ _=>rfl)) (fA (pv 7) (fA (pv 2) (fA (pv 5) (fA (pv 6) bY))))))) <|
   ae (aC (i:=9) nd rfl (Or.inl rfl) (aB Fn hr (ad (pv 0) (ad af (ad (ar bc (pv 1) af (fun _ _=>rfl)) (ad (pv 7) (ad (az (eE rfl) (by rfl) hmax kW (ad af (ad (pv 7) ag))) ag))))))) <|
   ae (cM (aX (aH (ux hu) (pv 9) (cL ag) (aG _)) (aj (aC (i:=7) nd rfl (Or.inl rfl) (ar ao (ar bc (pv 9) (m9 jc af) (fun _ _=>rfl)) af (fun _ _=>rfl)))) aK)) <|
   ae (aC (i:=10) nd rfl (Or.inl rfl) (ar bc (eL (wa_n (d8 (d8 (d8 (d8 (d8 bY))))))) (ar bc (pv 1) af (fun _ _=>rfl)) (fun _ _=>rfl))) <|
   aj (ax (de (iE (aE bn (pv 7) (ar bc (pv 1) af (fun _ _=>rfl))) (fA (pv 10) (iE (aE bn (ar bc (pv 1) af (fun _ _=>rfl)) (aE cX (ar bc (pv 1) af (fun _ _=>rfl)) (aE bn (ar bc (pv 1) af (fun _ _=>rfl)) af))) (fA (pv 8) (wa_c (bh eK (by rfl) htuple cm (ad (pv 9) ag)) bY))))))),?_⟩
  dsimp only[bv,Cx.nox];refine ah fun K_ hK_=>?_;refine⟨_,rfl,a,ns,0,rfl,hS,by decide,fun z0=>⟨(show 8 <= sizeLine by lia),fun la H1 n1 s1 e1=>(ex3 z0 la zs8 ⟨rfl,e1,zs8_ok,by decide,fun pd ds H2 s2 n2 e2 hD=>?_⟩)⟩⟩
  obtain⟨d0,d1,d2,d3,d4,d5,d6,d7,rfl,⟨a0,a1⟩,⟨b0,b1⟩,⟨c0,c1⟩,⟨g0,g1⟩,⟨i0,i1⟩,⟨j0,j1⟩,⟨k0,k1⟩,m0,m1⟩:=dig8 hD;have s02:=s1.trans s2;refine hK_ _ _ (ah fun K_ hK_=>?_);refine⟨_,rfl,ex4 pd _ _ _ ⟨rfl,rfl,SqL.of e2,at5',_,rfl,ex4 pd _ _ _ ⟨rfl,rfl,SqL.of e2,at6',d5,d6,rfl,j0,k0,fun b H3 s3 hb3=>?_⟩⟩⟩;have s03:=s02.trans s3;refine hK_ _ _ (ah fun K_ hK_=>?_);refine⟨_,rfl,a,ns,1,rfl,s03.seq hS,by decide,fun z1=>(oo rfl rfl ⟨⟨by decide,by decide,by decide⟩,oo rfl rfl ⟨.inl ⟨by decide,by decide⟩,(show 5 <= sizeLine by lia),fun lb H4 n4 s4 e4=>?_⟩⟩)⟩
  refine⟨lb,3,_,rfl,rfl,e4,by decide,by decide,(show 5 * 3 <= sizeLine by lia),fun lc nc=>?_⟩
  have s5:=aq.new (o:=.lst (List.replicate (3:Int).toNat [V.int 3,.int 5,.int 3,.int 6,.int (2 * 10 ^ 57)]).flatten) nc;have e5:upd H4 lc (.lst (List.replicate (3:Int).toNat [V.int 3,.int 5,.int 3,.int 6,.int (2 * 10 ^ 57)]).flatten) lc=some (.lst (wu.map V.int)):=ai;refine(ex3 z1 lc wu ⟨rfl,e5,zs15_ok,(by decide +kernel),fun pa as H6 s6 n6 e6 hA=>?_⟩)
  have s46:=s4.trans (s5.trans s6);have s06:=s03.trans s46;have pd6:H6 pd=some (.lst ([d0,d1,d2,d3,d4,d5,d6,d7].map V.int)):=s46 _ _ (s3 _ _ e2);have asl:as.length=15:=by rw[Paired.length hA];exact wv
  refine hK_ _ _ (ah fun K_ hK_=>?_);refine⟨_,rfl,ex4 pd _ _ _ ⟨rfl,rfl,SqL.of pd6,at0,d0,rfl,by lia,by lia,?_⟩⟩
  refine lcJ (n:=d0.toNat) (fun i=>.int (0 + (i:Int))) (fun D i ys Hx=>H6 D=none/\aq H6 Hx/\Hx D=some (.lst ys)/\∃(bs:List Addr)(xs:List En),ys=bs.map V.ref/\bs.length=i/\Paired (EnO Hx) bs xs) rfl ?_ ?_ ?_ ?_ ?_ ?_
  ·rintro D i ys Hx hi _;exact hi
  ·rintro D i ys Hx y Hy hi _ ⟨rfl,rfl⟩;exact⟨rfl,rfl⟩
  ·rintro D ys Hx _;exact Nat.le_refl _
  ·intro D hD;exact⟨hD,.new hD,ai,[],[],rfl,rfl,.nil⟩
  ·rintro D i ys Hx post hi ⟨h1,h2,h3,bs,xs,rfl,hbl,hbs⟩ hp;have hi3:i < 3:=by lia
   have pax:Hx pa=some (.lst (as.map V.int)):=h2 _ _ e6;refine(eA rfl rfl rfl rfl ⟨.inl ⟨by decide,by decide⟩,eA rfl rfl rfl rfl ⟨.inl ⟨by decide,by decide⟩,oo rfl rfl ⟨_,rfl,pa,_,rfl,SqL.of pax,?_⟩⟩⟩)
   intro pq npq;have sq:=aq.new (o:=.lst (cx (as.map V.int) (some (5 * (0 + (i:Int)))) (some (5 * (0 + (i:Int)) + 5)))) npq;have eq':upd Hx pq (.lst (cx (as.map V.int) (some (5 * (0 + (i:Int)))) (some (5 * (0 + (i:Int)) + 5)))) pq=some (.lst (((as.drop (5 * i)).take 5).map V.int)):=by
    rw[ai,show (5 * (0 + (i:Int)))=((5 * i:Nat):Int) by lia,show (((5 * i:Nat):Int) + 5)=((5 * i + 5:Nat):Int) by lia,cutNN (by rw[length_map];lia),List.map_take,List.map_drop]
   have hdg:Dig ((as.drop (5 * i)).take 5) zsD:=by
    have:=Paired.take' (Paired.drop' hA (5 * i)) 5;rw[cut5 i hi3]at this;exact this
   refine⟨pq,_,rfl,eq',hdg,fun dA x n wk H7 s7 hdd _=>⟨(show 2 <= sizeLine by lia),fun c H8 n8 s8 e8=>?_⟩⟩
   have sx8:=sq.trans (s7.trans s8);have hD8:H8 D=some (.lst (bs.map V.ref)):=sx8 _ _ h3;refine hp (.ref c) H8 hD8 (by rw[length_map];exact bO (by lia)) ⟨h1,fun b o e=>?_,ai,bs ++ [c],xs ++ [(1,some (x,n,wk))],by rw[List.map_append];rfl,by rw[length_append,hbl];rfl,?_⟩
   ·rw[aw (ak e h1)];exact sx8 _ _ (h2 _ _ e)
   ·have tk:Tk H8 (upd H8 D (.lst (bs.map V.ref ++ [.ref c]))):=fun b ys e=>by rw[aw (aN e hD8 (by intro z;cases z))];exact e
    exact PySem.Paired.snoc (bB ((Tk.of sx8).trans tk) hbs) ⟨dA,tk _ _ e8,(hdd.tk (Tk.of s8)).tk tk⟩
  rintro D ys H7 ⟨h1,s7,h3,bs,xs0,rfl,hbl,hbs⟩;have s07:=s06.trans s7;refine hK_ _ _ (ah fun K_ hK_=>?_);refine⟨_,rfl,?_⟩;intro e1' n1';have t1:=aq.new (o:=.frz { cls:=.type "tuple",data:=.seq #[] } (.tup [])) n1';intro e2' n2';have t2:=aq.new (o:=.frz { cls:=.type "tuple",data:=.seq #[] } (.tup [])) n2';refine⟨(show 5 <= sizeLine by lia),fun st0 H8 n8 s8 e8=>?_⟩
  have s78:aq H7 H8:=(t1.trans t2).trans s8;have pd8:=s78 _ _ (s7 _ _ pd6);refine(rd2 rfl rfl (ex4 pd _ _ _ ⟨rfl,rfl,SqL.of pd8,at0,st0,D,b,d0,0,0,[],[],bs,xs0,rfl,⟨e1',e2',_,[],[],e8,s8 _ _ (t2 _ _ ai),rfl,rfl,fun j kv h=>(nomatch h),.inl (.inr ⟨_,s8 _ _ ai⟩),rfl,Nat.zero_le _,fun j kv h=>(nomatch h)⟩,s78 _ _ h3,bB (Tk.of s78) hbs,a0,bR.empty,(by show 0 + bs.length < 64;lia),(by show 0 + bs.length < 64;lia),fun p ps qs H9 s9 hp ht=>?_⟩))
  obtain⟨ph,pa',oh,oa,hs,as',g1',g2,g3,g4,g5,g6,g7,g8⟩:=id hp;refine⟨p,_,rfl,SqT.of g1',rfl,_,cJ rfl rfl rfl ?_⟩;have rok:=dQ (s:=(aI [],aT [])) bR.empty (xs0.take (d0 - 0).toNat);have rl:=cB (xs0.take (d0 - 0).toNat) (aI [],aT []);obtain⟨m1',m2',m3',m4'⟩:=ht.made rok;have s89:=s78.trans s9;have pd9:H9 pd=some (.lst ([d0,d1,d2,d3,d4,d5,d6,d7].map V.int)):=s9 _ _ pd8;refine hK_ _ _ (ah fun K_ hK_=>?_);refine⟨_,rfl,ex4 pd _ _ _ ⟨rfl,rfl,SqL.of pd9,at0,oo rfl rfl (.inr ⟨_,rfl,?_⟩)⟩⟩;refine⟨_,rfl,ex4 pd _ _ _ ⟨rfl,rfl,SqL.of pd9,at1,_,_,rfl,rfl,_,_,rfl,rfl,.inl (b01 _),?_⟩⟩;obtain⟨tm,hT2⟩:∃T2:Int,T2=(if decide ((0:Int) < d0)=true then (1:Int) else 0) * (1 + d1):=⟨_,rfl⟩
  have tm0:0 <= tm:=by
   rw[hT2];by_cases hh:decide ((0:Int) < d0)=true
   ·rw[if_pos hh];lia
   ·rw[if_neg hh];lia
  refine hK_ _ _ (ah fun K_ hK_=>?_);refine⟨_,rfl,ex4 pd _ _ _ ⟨rfl,rfl,SqL.of pd9,at0,rd3 rfl rfl rfl ⟨_,rfl,(show 5 <= sizeLine by lia),fun st H10 n10 s10 e10=>?_⟩⟩⟩
  have e10:H10 st=some (.tup [.int d0,.int tm,.ref b,.ref ph,.ref pa']):=by rw[hT2];exact e10
  have s010:=s07.trans (s89.trans s10);have pd10:=s10 _ _ pd9;refine hK_ _ _ (ah fun K_ hK_=>?_);refine(rd2 rfl rfl (ex4 pd _ _ _ ⟨rfl,rfl,SqL.of pd10,eP,rd2 rfl rfl ⟨_,_,rfl,a,ns,5,d2,_,_,rfl,s010.seq hS,by decide,c0,by lia,?_,fun p9 es xs H11 s11 n11 e11 hes hel hts hBr=>?_⟩⟩))
  ·split <;> lia
  have pd11:=s11 _ _ pd10;have hB:wj (if tm > 1 then tm else 1) xs:=by rw[hT2];exact hBr
  have tm1:0 < d0->1 <= tm:=fun z=>by rw[hT2,if_pos (decide_eq_true z)];lia
  have hxl:es.length=xs.length:=Paired.length hes;refine hK_ _ _ (ah fun K_ hK_=>?_);refine⟨fun σ' H'=>∃tw:Int,σ'=[some (.ref a),some (.ref pd),some (.ref b),some (.ref pa),some (.ref D),some (.ref ph),some (.ref pa'),some (.int tw),some (.ref st),some (.ref p9),none]/\0 <= tw/\aq H11 H',?_,?_⟩
  ·refine⟨_,rfl,Nat.zero_le _,fun l0 H12 n12 s12 e12=>⟨p9,l0,_,rfl,rfl,SqL.of (s12 _ _ e11),SqL.of e12,_,rfl,bN (fun z=>?_) (fun z=>⟨_,rfl,by rw[hT2]at tm0;exact tm0,s12⟩)⟩⟩
   have hne:0 < es.length:=by
    cases es with
    | nil=>cases z
    | cons _ _=>exact Nat.succ_pos _
   have hli:es.length - 1 < es.length:=by lia
   have hlx:es.length - 1 < xs.length:=by lia
   obtain⟨dA,hA1,_⟩:EnO H12 es[es.length - 1] xs[es.length - 1]:=EnO.tk (Tk.of s12) (Paired.zip hes (es[es.length - 1],xs[es.length - 1]) (List.mem_iff_getElem.mpr ⟨es.length - 1,by rw[List.length_zip];lia,List.getElem_zip⟩))
   have htw:=hts xs[es.length - 1] (List.getElem_mem _);have hat:atI (es.map V.ref) (-1)=some (.ref es[es.length - 1]):=by
    have hh:es.map V.ref=(es.take (es.length - 1)).map V.ref ++ [.ref es[es.length - 1]]:=by
     rw[show [V.ref es[es.length - 1]]=[es[es.length - 1]].map V.ref from rfl,<- List.map_append];congr 1
     have:=List.take_append_drop (es.length - 1) es;rw[List.drop_eq_getElem_cons hli,show es.length - 1 + 1=es.length by lia,List.drop_length]at this
     exact this.symm
    rw[hh];exact fG _ _
   exact(rd2 rfl rfl ⟨p9,_,oo rfl rfl ⟨SqL.of (s12 _ _ e11),hat,_,_,oo rfl rfl ⟨SqT.of hA1,at0,_,rfl,by lia,s12⟩⟩⟩)
  rintro σ' H12 ⟨tw,rfl,tw0,s12⟩;have pd12:=s12 _ _ pd11;obtain⟨v,hv,hvm⟩:=pA (xs:=[V.non,.str (Str.ofString "a"),.str (Str.ofString "b"),.str (Str.ofString "c"),.str (Str.ofString "d"),.str (Str.ofString "e")]) m0 (by show d7 < 6;exact m1)
  have hsv:smV v=true:=by
   simp only[List.mem_cons,not_mem_nil,or_false]at hvm;rcases hvm with rfl | rfl | rfl | rfl | rfl | rfl <;> rfl
  refine hK_ _ _ (ah fun K_ hK_=>?_);refine⟨(show 6 <= sizeLine by lia),fun l1 H14 n14 s14 e14=>⟨_,rfl,ex4 pd _ _ _ ⟨rfl,rfl,SqL.of (s14 _ _ pd12),at7',l1,_,oo rfl rfl ⟨SqL.of e14,hv,?_⟩⟩⟩⟩
  have pd14:=s14 _ _ pd12;refine hK_ _ _ ?_;refine⟨_,rfl,_,rfl,ex4 pd _ _ _ ⟨rfl,rfl,SqL.of pd14,vp,_,_,rfl,rfl,_,rfl,_,rfl,ex4 pd _ _ _ ⟨rfl,rfl,SqL.of pd14,at0,_,rfl,ex4 pd _ _ _ ⟨rfl,rfl,SqL.of pd14,fP,_,rfl,ex4 pd _ _ _ ⟨rfl,rfl,SqL.of pd14,eP,_,_,rfl,rfl,_,_,rfl,rfl,(show (0:Int) < d2 + 1 by lia),_,_,rfl,rfl,_,rfl,_,rfl,p9,_,rfl,SqL.of (s14 _ _ (s12 _ _ e11)),fun en H15 n15 s15 e15=>⟨(show 5 <= sizeLine by lia),fun wt H16 n16 s16 e16=>?_⟩⟩⟩⟩⟩⟩
  have sE:aq H11 H16:=s12.trans (s14.trans (s15.trans s16));have s9E:aq H9 H16:=s10.trans (s11.trans sE);have ql:qs.length <= 900:=by
   obtain⟨_,tt,t1',t2',t3'⟩:=ht;have h1:qs.length=tt.length:=by rw[t3'];unfold K43T.gH;rw[length_map]
   have h2:=t1'.length_eq;unfold KM.cF at h2;rw[length_map]at h2;have:=rl.2;have h4:(xs0.take (d0 - 0).toNat).length <= 3:=by rw[length_take];lia
   have h5:(ca (aI [],aT []) (xs0.take (d0 - 0).toNat)).2.length <= 3:=by
    have h6:(aT []:Las).length=0:=rfl;show _ <= _;simp only at this;lia
   have h7:tt.length=(dI [] [] xs0 (d0 - 0).toNat).2.length:=h2;unfold dI at h7;lia
  have lim:(aI (cS ps)).length <= 3/\(aT qs).length <= 3:=by
   have h4:(xs0.take (d0 - 0).toNat).length <= 3:=by rw[length_take];lia
   have h6:(aT []:Las).length=0:=rfl;have h7:(aI []:Kvs).length=0:=rfl;have r1':=rl.1;have r2':=rl.2;simp only at r1' r2';exact⟨by lia,by lia⟩
  have m6:=Int.emod_nonneg d3 (show d2 + 1 ≠ 0 by lia)
  refine q wt st en b _ _ d0 tm v (cS ps) qs es xs H16 (s010.trans (s11.trans sE)) e16 ⟨⟨ph,pa',oh,hs,as',sE _ _ (s11 _ _ e10),s9E _ _ g2,g3,by rw[length_map];exact g5,fun j kv e=>?_,.inl (.inr ⟨oa,s9E _ _ g4⟩),g6,ql,fun j kv e=>?_⟩,s16 _ _ e15,bB (Tk.of sE) hes,by lia,by lia,m2',by lia,by lia⟩ (by lia) hsv (by lia) lim.1 lim.2 ⟨a0,by lia⟩ tm0 hts (by have m7:=Int.emod_lt_of_pos d3 (show 0 < d2 + 1 by lia);lia) hB tm1 ⟨_,_,ps,rok,ht,rfl⟩ (by obtain⟨x,y,z,hb3⟩:=hb3;exact⟨x,y,z,(s46.trans (s7.trans (s89.trans (s10.trans (s11.trans sE))))) _ _ hb3⟩)
  ·rw[getElem?_map]at e;cases e2:ps[j]? with
   | none=>rw[e2]at e;cases e
   | some kv0 =>
    rw[e2]at e;cases e;obtain⟨b',b1',b2'⟩:=g7 j kv0 e2;exact⟨b',b1',SqT.of (s9E _ _ b2')⟩
  ·obtain⟨b',b1',b2'⟩:=g8 j kv e;exact⟨b',b1',SqT.of (s9E _ _ b2')⟩
end
end K43
namespace K43B
open PySem L2
open K43 (top at0 at1 eP cm ClR)
abbrev kN:Stmt:=aP (top 73) 0
abbrev p3:Stmt:=aP (top 73) 1
abbrev mi:Stmt:=aP (top 73) 3
abbrev p4:Stmt:=aP (top 73) 4
abbrev kR:Stmt:=aP (top 73) 5
abbrev mj:Stmt:=aP (top 73) 6
abbrev mm:Stmt:=aP (top 73) 12
def dB(st en:Addr):List (Str × V):=K43.flR st en
theorem dL (st en:Addr):(dB st en).lookup ("stand":Str)=some (.ref st):=by unfold dB;kernel_rfl
theorem ip (st en:Addr):(dB st en).lookup ("entries":Str)=some (.ref en):=by unfold dB;kernel_rfl
structure dG(C:Addr)(H:Hp)(r st en:Addr)(pl tm:Int)(sv:List V)(es:List Addr)(tms:List Int):Prop where
 obj:∃dx,H r=some (.ins C dx (dB st en))
 st:H st=some (.tup (.int pl :: .int tm :: sv))
 en:H en=some (.tup (es.map V.ref))
 len:es.length=tms.length
 ent:∀(i:Nat)(e:Addr)(t:Int),es[i]?=some e->tms[i]?=some t->∃d,H e=some (.tup [.int t,.ref d])
 few:es.length <= 700
theorem dG.same{C:Addr}{H H':Hp}{r st en:Addr}{pl tm:Int}{sv:List V}{es:List Addr}{tms:List Int}(e:aq H H')(h:dG C H r st en pl tm sv es tms):dG C H' r st en pl tm sv es tms:=by
 obtain⟨⟨dx,h1⟩,h2,h3,h4,h5,h6⟩:=h;refine⟨⟨dx,e _ _ h1⟩,e _ _ h2,e _ _ h3,h4,fun i a t ha ht=>?_,h6⟩;obtain⟨d,hd⟩:=h5 i a t ha ht;exact⟨d,e _ _ hd⟩
noncomputable def aZ(pl tm:Int)(tms:List Int)(p:Int):V:=if p=pl then .int tm else if p < pl\/pl + tms.length < p then .non else .int (tms.getD (p - pl - 1).toNat 0)
theorem eW(pl tm:Int)(tms:List Int){k:Nat}(h:k <= tms.length):aZ pl tm tms (pl + k)=.int ((tm :: tms).getD k 0):=by
 unfold aZ;cases k with
 | zero=>rw[if_pos (by simp)];rfl
 | succ k =>
  rw[if_neg (by lia),if_neg (by lia)]
  have e:(pl + ((k + 1:Nat):Int) - pl - 1).toNat=k:=by lia
  rw[e];rfl
theorem bX(pl tm:Int)(tms:List Int){p:Int}(h:p < pl\/pl + tms.length < p):aZ pl tm tms p=.non:=by
 unfold aZ;rw[if_neg (by lia),if_pos h]
def ff(C:Addr):Sp:=fun us H Q _=>∃(r dx st en:Addr)(ys:List V),us=[.ref r,.ref st,.ref en]/\H r=some (.ins C dx [])/\H en=some (.tup ys) /\
 ∀H',(∀b o,b ≠ r->H b=some o->H' b=some o)->H' r=some (.ins C dx (dB st en))->Q .non H'
def i3(C:Addr):Sp:=fun us H Q _=>∃(r st en:Addr)(pl tm:Int)(sv:List V)(es:List Addr)(tms:List Int),us=[.ref r]/\dG C H r st en pl tm sv es tms/\Q (.int (pl + tms.length)) H
def gW(C:Addr):Sp:=fun us H Q _=>∃(r st en:Addr)(pl tm:Int)(sv:List V)(es:List Addr)(tms:List Int)(p:Int),us=[.ref r,.int p]/\dG C H r st en pl tm sv es tms/\Q (aZ pl tm tms p) H
def mn(C:Addr):Sp:=fun us H Q _=>∃(r st en:Addr)(pl tm:Int)(sv:List V)(es:List Addr)(tms:List Int)(k:Nat)(e:Addr),us=[.ref r,.int (pl + 1 + k)]/\dG C H r st en pl tm sv es tms/\es[k]?=some e/\Q (.ref e) H
def fO(C:Addr):Sp:=fun us H Q _=>∃(r st en:Addr)(pl tm:Int)(sv:List V)(es:List Addr)(tms:List Int)(k:Nat),us=[.ref r,.int (pl + k)]/\dG C H r st en pl tm sv es tms /\
 ∀t H',aq H H'->H' t=some (.tup ((es.take k).map V.ref))->Q (.ref t) H'
def jM(C:Addr):Sp:=fun us H Q _=>∃(r st en:Addr)(pl tm:Int)(sv:List V)(es:List Addr)(tms:List Int)(k:Nat),us=[.ref r,.int (pl + k)]/\dG C H r st en pl tm sv es tms /\
 ∀t H',aq H H'->H' t=some (.tup ((es.drop k).map V.ref))->Q (.ref t) H'
theorem fU(es:List Addr)(k:Nat):cx (es.map V.ref) (some (k:Int)) none=(es.drop k).map V.ref:=by
 unfold cx;rw[length_map,HT.eR,HT.dN,<- List.map_drop,<- List.map_take];by_cases h:k <= es.length
 ·rw[Nat.min_eq_left h,take_of_length_le (by rw[length_drop];lia)]
 ·rw[Nat.min_eq_right (by lia),List.drop_of_length_le (Nat.le_refl _),List.drop_of_length_le (by lia)]
  simp
theorem cut_to(es:List Addr)(k:Nat):cx (es.map V.ref) none (some (k:Int))=(es.take k).map V.ref:=by
 unfold cx;rw[length_map,HT.eR,HT.dN,List.drop_zero,Nat.sub_zero,<- List.map_take];by_cases h:k <= es.length
 ·rw[Nat.min_eq_left h]
 ·rw[Nat.min_eq_right (by lia),take_of_length_le (Nat.le_refl _),take_of_length_le (by lia)]
section
variable{P:Program}{w:World}{K:Frag}{mg:Str->Option Value}{base:Heap}
theorem lI:au ["self","stand","entries"] ["self","stand","entries"] (am kN):=fsc (by decide +kernel)
theorem lJ {f C:Addr} {fd:FuncData} (F:Fun K "__init__" "Row.__init__" kN f fd) (T:ClR K mg C) (htuple:mg "tuple"=none):aQ P w K mg base CX0 1 f fd ["self","stand","entries"] (ff C):=by
 refine F.ok lI (fun vs H Q E h=>?_) (fun cdv A outer s H vs Q E hr h=>?_)
 ·obtain⟨r,dx,st,en,ys,rfl,_⟩:=h;rfl
 ·obtain⟨r,dx,st,en,ys,rfl,hR,he,q⟩:=h;refine⟨_,ae (bu (pv 0) (pv 1) rfl) (aj (bu (pv 0) (bh eU (by rfl) htuple cm (ad (pv 2) ag)) rfl)),?_⟩
  dsimp only[bv,Cx.nox];refine ah fun K_ hK_=>?_;refine(rd2 rfl rfl ⟨r,C,dx,[],rfl,hR,T.cl,T.nS,(by show 0 < 1000;decide),?_⟩)
  have ner:en ≠ r:=aN he hR (by intro z;cases z)
  refine hK_ _ _ ?_;refine⟨_,rfl,en,ys,rfl,SqT.of (by rw[aw ner];exact he),_,rfl,ex4 r C dx _ ⟨rfl,ai,T.cl,T.nE,(by show 1 < 1000;decide),?_⟩⟩
  exact q _ (fun b o hb e=>by rw[aw hb,aw hb];exact e) ai
theorem scLastP:au ["self"] ["self"] (am p3):=fsc (by decide +kernel)
theorem ww {f C:Addr} {fd:FuncData} (F:Fun K "last_place" "Row.last_place" p3 f fd) (T:ClR K mg C) (hlen:mg "len"=none):aQ P w K mg base CX0 1 f fd ["self"] (i3 C):=by
 refine F.ok scLastP (fun vs H Q E h=>?_) (fun cdv A outer s H vs Q E hr h=>?_)
 ·obtain⟨r,st,en,pl,tm,sv,es,tms,rfl,_⟩:=h;rfl
 ·obtain⟨r,st,en,pl,tm,sv,es,tms,rfl,⟨⟨dx,h1⟩,h2,h3,h4,h5,h6⟩,q⟩:=h;refine⟨_,aj <| ax <| aE bn (ar ao (aD (pv 0) rfl) af (fun _ _=>rfl)) (az aL (by rfl) hlen PySem.boot_len (ad (aD (pv 0) rfl) ag)),?_⟩
  dsimp only[bv,Cx.nox];refine⟨_,rfl,ex5 r C dx _ _ ⟨rfl,h1,T.cl,T.nS,dL _ _,st,_,oo rfl rfl ⟨SqT.of h2,at0,_,rfl,ex5 r C dx _ _ ⟨rfl,h1,T.cl,T.nE,ip _ _,en,_,rfl,.inr (SqT.of h3),oo rfl rfl ?_⟩⟩⟩⟩;rw[length_map,h4];exact q
theorem scEntAt:au ["self","place"] ["self","place"] (am p4):=fsc (by decide +kernel)
theorem wx {f C:Addr} {fd:FuncData} (F:Fun K "entry_at" "Row.entry_at" p4 f fd) (T:ClR K mg C):aQ P w K mg base CX0 1 f fd ["self","place"] (mn C):=by
 refine F.ok scEntAt (fun vs H Q E h=>?_) (fun cdv A outer s H vs Q E hr h=>?_)
 ·obtain⟨r,st,en,pl,tm,sv,es,tms,k,e,rfl,_⟩:=h;rfl
 ·obtain⟨r,st,en,pl,tm,sv,es,tms,k,e,rfl,⟨⟨dx,h1⟩,h2,h3,h4,h5,h6⟩,hk,q⟩:=h;refine⟨_,aj <| ax <| ar ao (aD (pv 0) rfl) (aE bV (aE bV (pv 1) (ar ao (aD (pv 0) rfl) af (fun _ _=>rfl))) af) (fun _ _=>rfl),?_⟩;dsimp only[bv,Cx.nox];refine⟨_,rfl,ex5 r C dx _ _ ⟨rfl,h1,T.cl,T.nE,ip _ _,_,rfl,_,rfl,ex5 r C dx _ _ ⟨rfl,h1,T.cl,T.nS,dL _ _,st,_,_,_,rfl,rfl,SqT.of h2,at0,_,_,rfl,rfl,_,_,rfl,rfl,ex4 en _ _ _ ⟨rfl,rfl,SqT.of h3,?_,q⟩⟩⟩⟩;have e2:pl + 1 + (k:Int) - pl - 1=(k:Int):=by lia
  rw[e2];exact bW (by rw[getElem?_map,hk];rfl)
theorem pJ:au ["self","place"] ["self","place"] (am kR):=fsc (by decide +kernel)
theorem ok_upTo {f C:Addr} {fd:FuncData} (F:Fun K "up_to" "Row.up_to" kR f fd) (T:ClR K mg C):aQ P w K mg base CX0 1 f fd ["self","place"] (fO C):=by
 refine F.ok pJ (fun vs H Q E h=>?_) (fun cdv A outer s H vs Q E hr h=>?_)
 ·obtain⟨r,st,en,pl,tm,sv,es,tms,k,rfl,_⟩:=h;rfl
 ·obtain⟨r,st,en,pl,tm,sv,es,tms,k,rfl,⟨⟨dx,h1⟩,h2,h3,h4,h5,h6⟩,q⟩:=h;refine⟨_,aj <| ax <| bM cK (aD (pv 0) rfl) cv (bQ (aE bV (pv 1) (ar ao (aD (pv 0) rfl) af (fun _ _=>rfl)))),?_⟩;dsimp only[bv,Cx.nox];refine⟨_,rfl,ex5 r C dx _ _ ⟨rfl,h1,T.cl,T.nE,ip _ _,rd2 rfl rfl (ex5 r C dx _ _ ⟨rfl,h1,T.cl,T.nS,dL _ _,st,_,oo rfl rfl ⟨SqT.of h2,at0,oo rfl rfl ⟨_,rfl,en,_,rfl,h3,fun t H' s' e'=>q t H' s' ?_⟩⟩⟩)⟩⟩;have e2:pl + (k:Int) - pl=(k:Int):=by lia
  rw[e2,cut_to]at e';exact e'
theorem wy:au ["self","place"] ["self","place"] (am mj):=fsc (by decide +kernel)
theorem tL {f C:Addr} {fd:FuncData} (F:Fun K "behind" "Row.behind" mj f fd) (T:ClR K mg C):aQ P w K mg base CX0 1 f fd ["self","place"] (jM C):=by
 refine F.ok wy (fun vs H Q E h=>?_) (fun cdv A outer s H vs Q E hr h=>?_)
 ·obtain⟨r,st,en,pl,tm,sv,es,tms,k,rfl,_⟩:=h;rfl
 ·obtain⟨r,st,en,pl,tm,sv,es,tms,k,rfl,⟨⟨dx,h1⟩,h2,h3,h4,h5,h6⟩,q⟩:=h;refine⟨_,aj <| ax <| bM cK (aD (pv 0) rfl) (bQ (aE bV (pv 1) (ar ao (aD (pv 0) rfl) af (fun _ _=>rfl)))) cv,?_⟩;dsimp only[bv,Cx.nox];refine⟨_,rfl,ex5 r C dx _ _ ⟨rfl,h1,T.cl,T.nE,ip _ _,rd2 rfl rfl (ex5 r C dx _ _ ⟨rfl,h1,T.cl,T.nS,dL _ _,st,_,oo rfl rfl ⟨SqT.of h2,at0,oo rfl rfl ⟨_,rfl,en,_,rfl,h3,fun t H' s' e'=>q t H' s' ?_⟩⟩⟩)⟩⟩;have e2:pl + (k:Int) - pl=(k:Int):=by lia
  rw[e2,fU]at e';exact e'
theorem wz:au ["self","place"] ["self","place"] (am mi):=fsc (by decide +kernel)
theorem tM {f C:Addr} {fd:FuncData} (F:Fun K "term_at" "Row.term_at" mi f fd) (T:ClR K mg C) (Ml:aW P w K mg base C 1 "last_place" ["self"] (i3 C)) (Me:aW P w K mg base C 1 "entry_at" ["self","place"] (mn C)):aQ P w K mg base CX0 2 f fd ["self","place"] (gW C):=by
 refine F.ok wz (fun vs H Q E h=>?_) (fun cdv A outer s H vs Q E hr h=>?_)
 ·obtain⟨r,st,en,pl,tm,sv,es,tms,p,rfl,_⟩:=h;rfl
 ·obtain⟨r,st,en,pl,tm,sv,es,tms,p,rfl,hR,q⟩:=h;obtain⟨⟨dx,h1⟩,h2,h3,h4,h5,h6⟩:=id hR;refine⟨_,ae (aX (aH cj (pv 1) (ar ao (aD (pv 0) rfl) af (fun _ _=>rfl)) (aG _)) (aj (ax (ar ao (aD (pv 0) rfl) af (fun _ _=>rfl)))) aK) <|
   ae (aX (PW.pt (cN (aH fj (pv 1) (ar ao (aD (pv 0) rfl) af (fun _ _=>rfl)) (aG _)) (cV (aH eI (pv 1) (aO Ml T.cl hr (pv 0)) (aG _))))) (aj (ax cU)) aK) <|
   aj <| ax <| ar ao (bg Me T.cl hr (pv 0) (ad (pv 1) ag)) af (fun _ _=>rfl),?_⟩
  dsimp only[bv,Cx.nox];refine ah fun K_ hK_=>?_;refine(rd2 rfl rfl (ex5 r C dx _ _ ⟨rfl,h1,T.cl,T.nS,dL _ _,st,_,oo rfl rfl ⟨SqT.of h2,at0,rfl,_,rfl,?_⟩⟩));by_cases hp:p=pl
  ·have e:aZ pl tm tms p=.int tm:=by unfold aZ;rw[if_pos hp]
   rw[e]at q;refine bN (fun _=>?_) (fun z=>absurd (decide_eq_true (by rw[hp])) z)
   exact⟨_,rfl,ex5 r C dx _ _ ⟨rfl,h1,T.cl,T.nS,dL _ _,st,_,oo rfl rfl ⟨SqT.of h2,at1,q⟩⟩⟩
  ·refine bN (fun z=>absurd (of_decide_eq_true z) (by intro y;cases y;exact hp rfl)) (fun _=>?_)
   refine hK_ _ _ (ah fun K_ hK_=>?_);refine(rd2 rfl rfl (ex5 r C dx _ _ ⟨rfl,h1,T.cl,T.nS,dL _ _,st,_,oo rfl rfl ⟨SqT.of h2,at0,oo rfl rfl ⟨_,rfl,?_⟩⟩⟩));refine bN (fun z=>bJ ?_) (fun z1=>?_)
   ·have z:=of_decide_eq_true z;rw[bX pl tm tms (.inl z)]at q;exact q
   ·have z1:¬p < pl:=fun y=>z1 (decide_eq_true y);refine(rd2 rfl rfl (ex3 r dx _ ⟨rfl,h1,rfl,ex8 r st en pl tm sv es tms ⟨rfl,hR,oo rfl rfl ⟨_,rfl,?_⟩⟩⟩));refine bN (fun z=>?_) (fun z2=>?_)
    ·have z:=of_decide_eq_true z;rw[bX pl tm tms (.inr z)]at q;exact q
    ·have z2:¬pl + (tms.length:Int) < p:=fun y=>z2 (decide_eq_true y);obtain⟨k,hk⟩:∃k:Nat,p=pl + 1 + k:=⟨(p - pl - 1).toNat,by lia⟩
     subst hk;have hk:k < tms.length:=by lia
     have hke:k < es.length:=by lia
     obtain⟨d,hd⟩:=h5 k es[k] tms[k] (getElem?_eq_getElem hke) (getElem?_eq_getElem hk);refine hK_ _ _ ?_;refine⟨_,rfl,ex3 r dx _ ⟨rfl,h1,rfl,_,rfl,r,st,en,pl,tm,sv,es,tms,k,es[k],rfl,hR,getElem?_eq_getElem hke,es[k],_,oo rfl rfl ⟨SqT.of hd,at0,?_⟩⟩⟩
     have e:=eW pl tm tms (k:=k + 1) (by lia)
     rw[show pl + ((k + 1:Nat):Int)=pl + 1 + (k:Int) by lia]at e
     rw[e]at q;have e2:(tm :: tms).getD (k + 1) 0=tms[k]:=by
      rw[List.getD_cons_succ,getD_eq_getElem?_getD,getElem?_eq_getElem hk];rfl
     rw[e2]at q;exact q
end
noncomputable def cp:List Int->List Int->Nat
 | a :: as,b :: bs=>if a=b then cp as bs + 1 else 0
 | _,_=>0
theorem mq(T:List Int):cp T []=0:=by cases T <;> rfl
theorem gX(M:List Int):cp [] M=0:=by cases M <;> rfl
theorem rj:∀(T M:List Int),cp T M <= M.length
 | [],M=>by rw[gX];exact Nat.zero_le _
 | a :: T,[]=>by rw[mq];exact Nat.zero_le _
 | a :: T,b :: M=>by
  unfold cp;split
  ·have:=rj T M;rw[length_cons];lia
  ·exact Nat.zero_le _
theorem mr:∀(T M:List Int),cp T M <= T.length
 | [],M=>by rw[gX];exact Nat.zero_le _
 | a :: T,[]=>by rw[mq];exact Nat.zero_le _
 | a :: T,b :: M=>by
  unfold cp;split
  ·have:=mr T M;rw[length_cons];lia
  ·exact Nat.zero_le _
theorem i5:∀{T M:List Int}{i:Nat}{t:Int},i <= cp T M->M[i]?=some t->T[i]?=some t->i + 1 <= cp T M
 | [],M,i,t,_,_,h=>by simp at h
 | a :: T,[],i,t,_,h,_=>by simp at h
 | a :: T,b :: M,0,t,_,h1,h2=>by
  simp only[List.getElem?_cons_zero,Option.some.injEq]at h1 h2;subst h1 h2;unfold cp;rw[if_pos rfl];lia
 | a :: T,b :: M,i + 1,t,h,h1,h2=>by
  simp only[List.getElem?_cons_succ]at h1 h2;unfold cp at h ⊢;split at h
  ·rename_i hab;have:=i5 (T:=T) (M:=M) (i:=i) (by lia) h1 h2
   rw[if_pos hab];lia
  ·lia
theorem cp_at:∀{T M:List Int}{i:Nat},i < cp T M->T[i]?=M[i]?
 | [],M,i,h=>by rw[gX]at h;lia
 | a :: T,[],i,h=>by rw[mq]at h;lia
 | a :: T,b :: M,0,h=>by
  unfold cp at h;split at h
  ·rename_i hab;rw[hab];rfl
  ·lia
 | a :: T,b :: M,i + 1,h=>by
  unfold cp at h;split at h
  ·simp only[List.getElem?_cons_succ];exact cp_at (by lia)
  ·lia
theorem i6{T M:List Int}{i:Nat}{t:Int}(h:i <= cp T M)(h1:M[i]?=some t)(h2:T[i]? ≠ some t):cp T M=i:=by
 refine Nat.le_antisymm (Nat.le_of_not_lt fun hlt=>h2 ?_) h;rw[cp_at hlt];exact h1
noncomputable def ba{α:Type}(T M:List Int)(k:Nat)(es ms:List α):List α:=if cp (T.drop k) M=M.length then es else es.take (k + cp (T.drop k) M) ++ ms.drop (cp (T.drop k) M)
def Ms(H:Hp)(m:Addr)(ms:List Addr)(mt:List Int):Prop:=H m=some (.tup (ms.map V.ref))/\ms.length=mt.length/\∀(i:Nat)(e:Addr)(t:Int),ms[i]?=some e->mt[i]?=some t->∃d,H e=some (.tup [.int t,.ref d])
theorem ent_cat{H:Hp}{es ms:List Addr}{ts ut:List Int}(hl:es.length=ts.length)(h1:∀(i:Nat)(e:Addr)(t:Int),es[i]?=some e->ts[i]?=some t->∃d,H e=some (.tup [.int t,.ref d]))
  (h2:∀(i:Nat)(e:Addr)(t:Int),ms[i]?=some e->ut[i]?=some t->∃d,H e=some (.tup [.int t,.ref d])):∀(i:Nat)(e:Addr)(t:Int),(es ++ ms)[i]?=some e->(ts ++ ut)[i]?=some t->∃d,H e=some (.tup [.int t,.ref d]):=by
 intro i e t he ht;by_cases hi:i < es.length
 ·rw[List.getElem?_append_left hi]at he;rw[List.getElem?_append_left (by lia)]at ht
  exact h1 i e t he ht
 ·rw[List.getElem?_append_right (by lia)]at he
  rw[List.getElem?_append_right (by lia),<- hl]at ht
  exact h2 _ e t he ht
theorem wA{H:Hp}{es:List Addr}{ts:List Int}(k:Nat)(h1:∀(i:Nat)(e:Addr)(t:Int),es[i]?=some e->ts[i]?=some t->∃d,H e=some (.tup [.int t,.ref d])):∀(i:Nat)(e:Addr)(t:Int),(es.take k)[i]?=some e->(ts.take k)[i]?=some t->∃d,H e=some (.tup [.int t,.ref d]):=by
 intro i e t he ht;rw[List.getElem?_take]at he ht;split at he
 ·rename_i hi;rw[if_pos hi]at ht;exact h1 i e t he ht
 ·cases he
theorem wB{H:Hp}{es:List Addr}{ts:List Int}(k:Nat)(h1:∀(i:Nat)(e:Addr)(t:Int),es[i]?=some e->ts[i]?=some t->∃d,H e=some (.tup [.int t,.ref d])):∀(i:Nat)(e:Addr)(t:Int),(es.drop k)[i]?=some e->(ts.drop k)[i]?=some t->∃d,H e=some (.tup [.int t,.ref d]):=by
 intro i e t he ht;rw[List.getElem?_drop]at he ht;exact h1 _ e t he ht
def jN(C:Addr):Sp:=fun us H Q _=>∃(r st en m:Addr)(p th pl tm:Int)(sv:List V)(es:List Addr)(tms:List Int)(k sk:Nat)(ms:List Addr)(mt:List Int),us=[.ref r,.int p,.int th,.ref m]/\dG C H r st en pl tm sv es tms/\Ms H m ms mt/\p + sk=pl + k/\(sk=0\/k=0)/\es.length + ms.length <= 700 /\
 (pl <= p->aZ pl tm tms p ≠ .int th->Q .non H) /\
 ((pl <= p->aZ pl tm tms p=.int th)->∀(r' en':Addr)(H':Hp),aq H H'->dG C H' r' st en' pl tm sv (ba tms (mt.drop sk) k es (ms.drop sk)) (ba tms (mt.drop sk) k tms (mt.drop sk))->Q (.ref r') H')
theorem tN(pl tm:Int)(tms:List Int)(k:Nat)(t:Int)(hk:k <= tms.length):(aZ pl tm tms (pl + k + 1)=.int t) ↔ tms[k]?=some t:=by
 by_cases h:k < tms.length
 ·have e:=eW pl tm tms (k:=k + 1) (by lia)
  rw[show pl + ((k + 1:Nat):Int)=pl + (k:Int) + 1 by lia]at e
  rw[e,List.getD_cons_succ,getD_eq_getElem?_getD,getElem?_eq_getElem h];constructor
  ·intro z;have:(some tms[k]).getD 0=t:=by injection z
   rw[<- this];rfl
  ·intro z;have:tms[k]=t:=Option.some.inj z;rw[this];rfl
 ·rw[bX pl tm tms (.inr (by lia)),List.getElem?_eq_none (by lia)]
  constructor
  ·intro z;cases z
  ·intro z;cases z
theorem iq(pl tm:Int)(tms:List Int)(p t:Int):scal (aZ pl tm tms p) (.int t)=true:=by
 unfold aZ;split
 ·rfl
 ·split <;> rfl
section
variable{P:Program}{w:World}{K:Frag}{mg:Str->Option Value}{base:Heap}
noncomputable abbrev nFilled:List Str:=["self","before","there","entries","place","entry"]
abbrev rn:List Str:=["self","before","there","entries"]
theorem oF:au nFilled rn (am mm):=fsc (by decide +kernel)
theorem tO {f C:Addr} {fd:FuncData} (F:Fun K "filled" "Row.filled" mm f fd) (T:ClR K mg C) (henum:mg "enumerate"=none) (htup:mg "tuple"=none) (Mi:fe P w K mg base C 1 ["self","stand","entries"] (ff C)) (Mt:aW P w K mg base C 2 "term_at" ["self","place"] (gW C)) (Mu:aW P w K mg base C 1 "up_to" ["self","place"] (fO C)) :
  aQ P w K mg base CX0 3 f fd rn (jN C):=by
 refine F.ok oF (fun vs H Q E h=>?_) (fun cdv A outer s H vs Q E hr h=>?_)
 ·obtain⟨r,st,en,m,p0,th,pl,tm,sv,es,tms,k,sk,ms,mt,rfl,_⟩:=h;rfl
 ·obtain⟨r,st,en,m,p0,th,pl,tm,sv,es,tms,k,sk,ms,mt,rfl,hR,hM,hps,hsk,h700,qN,q⟩:=h;obtain⟨⟨dx,h1⟩,h2,h3,h4,h5,h6⟩:=id hR;obtain⟨m1,m2,m3⟩:=id hM;have nd:=oF.nd;have r1:bj 1 _:=hr.mono (by decide)
  have hs16:sizeLine=16777216:=sizeLine_eq;refine⟨_,ae (cM (aX (PW.pt (lp (aH ni (pv 1) (ar ao (aD (pv 0) rfl) af (fun _ _=>rfl)) (aG _)) (iK (aH gI (bg Mt T.cl hr (pv 0) (ad (pv 1) ag)) (pv 2) (aG _))))) (aj (ax cU)) aK)) <|
   ae (dY PassesOwn.never rfl (uX (by rfl) henum (ad (pv 3) ag) (pk_cons (aE bn (pv 1) af) pk_nil)) (dg (n:=2) rfl (aF (aA (i:=4) nd rfl (Or.inl rfl)) (aF (aA (i:=5) nd rfl (Or.inl rfl)) cn)))
    (aj (aX (PW.pt (lp (aH eI (pv 4) (ar ao (aD (pv 0) rfl) af (fun _ _=>rfl)) (aG _)) (iK (aH gI (bg Mt T.cl hr (pv 0) (ad (pv 4) ag)) (ar ao (pv 5) af (fun _ _=>rfl)) (aG _)))))
     (aj (ax (cz Mi hr T.mgC (ad (aD (pv 0) rfl) (ad (aE iQ (bg Mu T.cl r1 (pv 0) (ad (aE bV (pv 4) af) ag)) (bh eU (by rfl) htup cm (ad (bM cK (pv 3) (bQ (aE bV (aE bV (pv 4) (pv 1)) af)) cv) ag))) ag))))) aK))) <|
   aj (ax (cz Mi hr T.mgC (ad (aD (pv 0) rfl) (ad (aD (pv 0) rfl) ag)))),?_⟩
  dsimp only[bv,Cx.nox];have main:(pl <= p0->aZ pl tm tms p0=.int th)->k <= tms.length:=fun hz=>by
   rcases hsk with h | h
   ·by_cases hk:k <= tms.length
    ·exact hk
    ·have:=hz (by lia)
     rw[bX pl tm tms (.inr (by lia))]at this
     cases this
   ·lia
  refine ah fun K_ hK_=>?_;refine⟨fun σ' H'=>σ'=[some (.ref r),some (.int p0),some (.int th),some (.ref m),none,none]/\H'=H/\(pl <= p0->aZ pl tm tms p0=.int th),?_,?_⟩
  ·refine(rd2 rfl rfl (ex5 r C dx _ _ ⟨rfl,h1,T.cl,T.nS,dL _ _,st,_,oo rfl rfl ⟨SqT.of h2,at0,oo rfl rfl ⟨_,rfl,?_⟩⟩⟩));by_cases hgo:¬(pl <= p0->aZ pl tm tms p0=.int th)
   ·have h1':pl <= p0:=Classical.byContradiction fun z=>hgo fun y=>absurd y z;have h2':aZ pl tm tms p0 ≠ .int th:=fun z=>hgo fun _=>z;refine bN (fun _=>?_) (fun z=>absurd (decide_eq_true h1') z);refine⟨_,rfl,ex3 r dx _ ⟨rfl,h1,rfl,_,rfl,ex9 r st en pl tm sv es tms _ ⟨rfl,hR,_,rfl,iq pl tm tms _ th,_,rfl,?_⟩⟩⟩;exact bN (fun _=>qN h1' h2') (fun z=>absurd (by rw[decide_eq_false h2'];rfl) z)
   ·have hgo:=Classical.not_not.mp hgo;refine bN (fun z=>?_) (fun _=>aY ⟨rfl,rfl,hgo⟩);have z:=of_decide_eq_true z;have hte:=hgo z;refine⟨_,rfl,ex3 r dx _ ⟨rfl,h1,rfl,_,rfl,ex9 r st en pl tm sv es tms _ ⟨rfl,hR,_,rfl,?_⟩⟩⟩;rw[hte];exact⟨rfl,_,rfl,nM rfl ⟨rfl,rfl,fun _=>rfl⟩⟩
  rintro σ' H0 ⟨rfl,rfl,hgo⟩;have hk:=main hgo;have q:=q hgo;refine hK_ _ _ (ah fun K_ hK_=>?_);refine(eA rfl rfl rfl rfl (ex3 m _ _ ⟨rfl,rfl,SqT.of m1,kI (K:=K) (xs:=ms.map V.ref) (fun i σ Hx=>∃(v4 v5:Option V),σ=[some (V.ref r),some (V.int p0),some (V.int th),some (V.ref m),v4,v5]/\aq H0 Hx/\i <= sk + cp (tms.drop k) (mt.drop sk)) ⟨none,none,rfl,aq.refl H0,Nat.zero_le _⟩ ?_ ?_ ?_⟩))
  ·rintro i σ Hx ⟨v4,v5,rfl,sx,_⟩;exact SqT.of (sx _ _ m1)
  ·rintro i x p σ Hx hx hp ⟨v4,v5,rfl,sx,hi⟩;rw[getElem?_map]at hx;cases he:ms[i]? with
   | none=>rw[he]at hx;cases hx
   | some e =>
    rw[he]at hx;cases hx;have hil:i < ms.length:=(List.getElem?_eq_some_iff.mp he).1;have hit:i < mt.length:=by lia
    have ht:=getElem?_eq_getElem hit;obtain⟨d,hd⟩:=m3 i e _ he ht;generalize mt[i]=t at ht hd;have s1:=aq.new (o:=.tup [.int (p0 + 1 + (i:Int)),.ref e]) hp;have e1:upd Hx p (.tup [.int (p0 + 1 + (i:Int)),.ref e]) p=some (.tup [.int (p0 + 1 + (i:Int)),.ref e]):=ai;refine⟨p,_,rfl,SqT.of e1,rfl,_,cJ rfl rfl rfl ?_⟩;generalize upd Hx p (.tup [.int (p0 + 1 + (i:Int)),.ref e])=H2 at s1 e1 ⊢;have sH:=sx.trans s1;refine(rd2 rfl rfl (ex5 r C dx _ _ ⟨rfl,sH _ _ h1,T.cl,T.nS,dL _ _,st,_,oo rfl rfl ⟨SqT.of (sH _ _ h2),at0,oo rfl rfl ⟨_,rfl,?_⟩⟩⟩));by_cases his:i < sk
    ·refine bN (fun z=>absurd (of_decide_eq_true z) (by lia)) (fun _=>?_)
     exact aY ⟨_,_,rfl,sH,by lia⟩
    refine bN (fun _=>?_) (fun z=>absurd (decide_eq_true (show pl < p0 + 1 + (i:Int) by lia)) z)
    refine⟨_,rfl,ex3 r dx _ ⟨rfl,sH _ _ h1,rfl,_,rfl,ex9 r st en pl tm sv es tms _ ⟨rfl,hR.same sH,_,rfl,ex4 e _ _ _ ⟨rfl,rfl,SqT.of (sH _ _ hd),at0,?_⟩⟩⟩⟩;have hci:=mr (tms.drop k) (mt.drop sk);rw[length_drop]at hci;have hki:k + (i - sk) <= tms.length:=by lia
    have key:=tN pl tm tms (k + (i - sk)) t hki;rw[show pl + ((k + (i - sk):Nat):Int) + 1=p0 + 1 + (i:Int) by lia]at key
    have hTd:(tms.drop k)[i - sk]?=tms[k + (i - sk)]?:=List.getElem?_drop ..;have hMd:(mt.drop sk)[i - sk]?=some t:=by rw[List.getElem?_drop,show sk + (i - sk)=i by lia];exact ht
    refine⟨iq pl tm tms _ t,_,rfl,?_⟩;by_cases hc:aZ pl tm tms (p0 + 1 + (i:Int))=.int t
    ·have hmore:=i5 (i:=i - sk) (by lia) hMd (hTd.trans (key.mp hc))
     rw[hc];exact nM rfl ⟨_,_,rfl,sH,by lia⟩
    ·have hstop:cp (tms.drop k) (mt.drop sk)=i - sk:=i6 (by lia) hMd (by rw[hTd];exact fun z=>hc (key.mpr z))
     have hdd:(mt.drop sk).length=mt.length - sk:=length_drop ..;have hfe:ba tms (mt.drop sk) k es (ms.drop sk)=es.take (k + (i - sk)) ++ ms.drop i:=by unfold ba;rw[hstop,if_neg (by lia),List.drop_drop,show sk + (i - sk)=i by lia]
     have hft:ba tms (mt.drop sk) k tms (mt.drop sk)=tms.take (k + (i - sk)) ++ mt.drop i:=by unfold ba;rw[hstop,if_neg (by lia),List.drop_drop,show sk + (i - sk)=i by lia]
     rw[hfe,hft]at q;refine bN (fun _=>?_) (fun z=>absurd (by rw[decide_eq_false hc];rfl) z)
     refine⟨_,rfl,ex5 r C dx _ _ ⟨rfl,sH _ _ h1,T.cl,T.nS,dL _ _,_,rfl,ex3 r dx _ ⟨rfl,sH _ _ h1,rfl,cJ rfl rfl rfl ⟨r,st,en,pl,tm,sv,es,tms,k + (i - sk),?_,hR.same sH,fun t1 H3 s3 e3=>?_⟩⟩⟩⟩
     ·show [V.ref r,V.int (p0 + 1 + (i:Int) - 1)]=[V.ref r,V.int (pl + ((k + (i - sk):Nat):Int))];rw[show p0 + 1 + (i:Int) - 1=pl + ((k + (i - sk):Nat):Int) by lia]
     refine⟨_,rfl,_,rfl,_,rfl,_,_,rfl,rfl,_,_,rfl,rfl,_,rfl,m,_,rfl,s3 _ _ (sH _ _ m1),fun t2 H4 s4 e4=>?_⟩;rw[show p0 + 1 + (i:Int) - p0 - 1=(i:Int) by lia,fU]at e4
     refine⟨t2,_,rfl,SqT.of e4,?_⟩;have hdl:(ms.drop i).length <= ms.length:=by rw[length_drop];lia
     have htl:(es.take (k + (i - sk))).length <= es.length:=by rw[length_take];lia
     refine⟨t1,t2,oo rfl rfl ⟨s4 _ _ e3,e4,by simp only[length_map];lia,fun t3 H5 s5 e5=>?_⟩⟩
     rw[<- List.map_append]at e5;have sH5:=((sH.trans s3).trans s4).trans s5;intro r9 dx9 nr9 ndx9 nex9;have nr9':upd H5 dx9 (.own r9) r9=none:=by rw[aw nex9.symm];exact nr9
     have s9:aq H5 (upd (upd H5 dx9 (.own r9)) r9 (.ins C dx9 [])):=(aq.new ndx9).trans (aq.new nr9');refine⟨r9,dx9,st,t3,_,rfl,ai,s9 _ _ e5,fun H6 k6 e6=>⟨rfl,?_⟩⟩;have sm:aq H5 H6:=fun b o h=>k6 b o (ak h nr9) (s9 b o h);have s06:=sH5.trans sm;refine q r9 t3 H6 s06 ⟨⟨dx9,e6⟩,s06 _ _ h2,sm _ _ e5,?_,?_,?_⟩
     ·rw[length_append,length_append,length_take,length_take,length_drop,length_drop,h4,m2]
     ·refine ent_cat (by rw[length_take,length_take,h4]) (wA _ fun i e t he ht=>?_) (wB _ fun i e t he ht=>?_)
      ·obtain⟨d,hd⟩:=h5 i e t he ht;exact⟨d,s06 _ _ hd⟩
      ·obtain⟨d,hd⟩:=m3 i e t he ht;exact⟨d,s06 _ _ hd⟩
     ·rw[length_append];lia
  ·rintro σ Hx ⟨v4,v5,rfl,sx,hi⟩;rw[length_map]at hi;have hdd:(mt.drop sk).length=mt.length - sk:=length_drop ..;have hce:cp (tms.drop k) (mt.drop sk)=(mt.drop sk).length:=Nat.le_antisymm (rj _ _) (by lia)
   have hfe:ba tms (mt.drop sk) k es (ms.drop sk)=es:=by unfold ba;rw[if_pos hce]
   have hft:ba tms (mt.drop sk) k tms (mt.drop sk)=tms:=by unfold ba;rw[if_pos hce]
   rw[hfe,hft]at q;refine hK_ _ _ ?_;refine⟨_,rfl,ex5 r C dx _ _ ⟨rfl,sx _ _ h1,T.cl,T.nS,dL _ _,_,rfl,ex5 r C dx _ _ ⟨rfl,sx _ _ h1,T.cl,T.nE,ip _ _,?_⟩⟩⟩;intro r9 dx9 nr9 ndx9 nex9;have nr9':upd Hx dx9 (.own r9) r9=none:=by rw[aw nex9.symm];exact nr9
   have s9:aq Hx (upd (upd Hx dx9 (.own r9)) r9 (.ins C dx9 [])):=(aq.new ndx9).trans (aq.new nr9');refine(ex5 r9 dx9 st en _ ⟨rfl,ai,s9 _ _ (sx _ _ h3),fun H6 k6 e6=>⟨rfl,?_⟩⟩);have sm:aq Hx H6:=fun b o h=>k6 b o (ak h nr9) (s9 b o h);have s06:=sx.trans sm;exact q r9 en H6 s06 ⟨⟨dx9,e6⟩,s06 _ _ h2,s06 _ _ h3,h4,fun i e t he ht=>by
    obtain⟨d,hd⟩:=h5 i e t he ht;exact⟨d,s06 _ _ hd⟩,h6⟩
end
end K43B
namespace K43
open PySem L2
open K43T (Kvs Las Wk aS bR cH cu dF aI aT Eqv ci bS cS)
abbrev p6:Stmt:=aP (top 91) 2
abbrev wC:Stmt:=aP (top 91) 4
abbrev p7:Stmt:=aP (top 91) 5
abbrev wD:Stmt:=aP (top 96) 1
abbrev mv:Stmt:=aP (top 96) 3
abbrev jO:Stmt:=aP (top 96) 4
abbrev p8:Stmt:=aP (top 96) 5
abbrev wE:Stmt:=aP (top 96) 6
abbrev mw:Stmt:=aP (top 96) 8
abbrev qa:Stmt:=aP (top 73) 7
def mx(CW:Addr):Sp:=fun us H Q _=>∃(o dx kr:Addr)(t s t2:Int)(v:V),us=[.ref o,.int t2]/\H o=some (.ins CW dx (flW t v s kr))/\∀H',BtO o H H'->H' o=some (.ins CW dx (flW t2 .non s kr))->Q .non H'
def qb(CW:Addr):Sp:=fun us H Q _=>∃(o dx kr:Addr)(t s s2:Int)(v:V),us=[.ref o,.int s2]/\H o=some (.ins CW dx (flW t v s kr))/\∀H',BtO o H H'->H' o=some (.ins CW dx (flW t v s2 kr))->Q .non H'
def i7(CW:Addr):Sp:=fun us H Q _=>∃(o dx kr kr2:Addr)(t s:Int)(v:V),us=[.ref o,.ref kr2]/\H o=some (.ins CW dx (flW t v s kr))/\∀H',BtO o H H'->H' o=some (.ins CW dx (flW t v s kr2))->Q .non H'
def ir(K:Frag)(c:Cs):Sp:=fun us H Q _=>∃g:Gs,us=[.ref g.m]/\bE K c H g/\Q (.ref g.kr) H
def gY(K:Frag)(c:Cs):Sp:=fun us H Q _=>∃g:Gs,us=[.ref g.m]/\bE K c H g/\Q (.bl false) H
def gh(K:Frag)(c:Cs):Sp:=fun us H Q _=>∃(g:Gs)(x:V),us=[.ref g.m,x]/\bE K c H g/\∀H',bE K c H' { g with kn:=x }->BtO g.m H H'->Q .non H'
def my(K:Frag)(c:Cs):Sp:=fun us H Q _=>∃(g:Gs)(t:Int),us=[.ref g.m,.int t]/\bE K c H g/\∀H',bE K c H' { g with t:=t,v:=.non,kn:=.non }->Fr g H H'->Q .non H'
def qc(K:Frag)(c:Cs):Sp:=fun us H Q _=>∃(g:Gs)(x:V),us=[.ref g.m,x]/\bE K c H g/\g.n <= 900/\∀H',bE K c H' { g with n:=g.n + 1 }->Fr g H H'->Q .non H'
section
variable{K:Frag}{c:Cs}{H H':Hp}{g:Gs}
theorem BtO.frM(e:BtO g.m H H'):Fr g H H':=fun x u n _ _ _ _ h=>e _ _ n h
theorem BtO.frW(e:BtO g.wr H H'):Fr g H H':=fun x u _ n _ _ _ h=>e _ _ n h
theorem BtO.frR(e:BtO g.rl H H'):Fr g H H':=fun x u _ _ n _ _ h=>e _ _ n h
theorem bE.setM{dx:Addr}{kn:V}{qu:Int}(h:bE K c H g)(e:BtO g.m H H')(hm:H' g.m=some (.ins c.M dx ({ g with kn:=kn,qu:=qu }:Gs).flm)):bE K c H' { g with kn:=kn,qu:=qu }:=by
 obtain⟨dy,h1⟩:=h.ob;obtain⟨rs,h2,h3⟩:=h.rc;have N:=h.ne;have k:=TkZ.ins e h1;exact⟨⟨dx,hm⟩,h.wg.keep (fun u q=>e _ _ N.wm q) (fun u q=>e _ _ N.km q) k,aS.keepT (fun u q=>e _ _ N.bm q) (fun u q=>e _ _ N.dm q) (fun u q=>e _ _ N.lm q) k h.tb,⟨rs,e _ _ N.rm h2,h3⟩,h.gv.ins e h1⟩
theorem bE.setW{dx:Addr}{t:Int}{v:V}(h:bE K c H g)(e:BtO g.wr H H')(hw:H' g.wr=some (.ins c.W dx (flW t v g.s g.kr))):bE K c H' { g with t:=t,v:=v }:=by
 obtain⟨dy,h1⟩:=h.ob;obtain⟨rs,h2,h3⟩:=h.rc;obtain⟨⟨dw,h4⟩,dk,h5⟩:=id h.wg.wo;have N:=h.ne;have k:=TkZ.ins e h4;exact⟨⟨dy,e _ _ N.wm.symm h1⟩,⟨⟨⟨dx,hw⟩,dk,e _ _ N.kw h5⟩,h.wg.so.tkz k,k.t _ _ h.wg.ho,bB k.t h.wg.eo,h.wg.el,h.wg.ps,h.wg.ok,h.wg.kl,h.wg.ll⟩,aS.keepT (fun u q=>e _ _ N.bw q) (fun u q=>e _ _ N.dw q) (fun u q=>e _ _ N.lw q) k h.tb,⟨rs,e _ _ N.rw' h2,h3⟩,h.gv.ins e h4⟩
theorem bE.setR{rs:List V}{n:Nat}(h:bE K c H g)(e:BtO g.rl H H')(hr:H' g.rl=some (.lst rs))(hl:rs.length <= n):bE K c H' { g with n:=n }:=by
 obtain⟨dy,h1⟩:=h.ob;obtain⟨rs0,h2,h3⟩:=h.rc;have N:=h.ne;have k:=TkZ.lst e h2;exact⟨⟨dy,e _ _ N.rm.symm h1⟩,h.wg.keep (fun u q=>e _ _ N.rw'.symm q) (fun u q=>e _ _ N.kr q) k,aS.keepT (fun u q=>e _ _ N.br q) (fun u q=>e _ _ N.dr q) (fun u q=>e _ _ N.lr q) k h.tb,⟨rs,hr,hl⟩,h.gv.recd e⟩
end
section
variable{P:Program}{w:World}{K:Frag}{mg:Str->Option Value}{base:Heap}{CH CM CT CW CR:Addr}
theorem scWRise:au ["self","term"] ["self","term"] (am p6):=fsc (by decide +kernel)
theorem wF {f:Addr} {fd:FuncData} (F:Fun K "rise_to" "Written.rise_to" p6 f fd) (T:ClW K mg CW):aQ P w K mg base CX0 1 f fd ["self","term"] (mx CW):=by
 refine F.ok scWRise (fun vs H Q E h=>?_) (fun cdv A outer s H vs Q E hr h=>?_)
 ·obtain⟨o,dx,kr,t,s,t2,v,rfl,_⟩:=h;rfl
 ·obtain⟨o,dx,kr,t,s,t2,v,rfl,hO,q⟩:=h;refine⟨_,ae (bu (pv 0) (pv 1) rfl) <| aj (bu (pv 0) cU rfl),?_⟩;dsimp only[bv,Cx.nox];refine(rd2 rfl rfl (ex4 o CW dx _ ⟨rfl,hO,T.cl,T.nT,(by rw[iY];decide),?_⟩))
  rw[flW_pt];refine⟨_,rfl,ex4 o CW dx _ ⟨rfl,ai,T.cl,T.nV,(by rw[iY];decide),?_⟩⟩
  rw[flW_pv];exact q _ (BtO.upd.trans BtO.upd) ai
theorem scWSet:au ["self","place"] ["self","place"] (am wC):=fsc (by decide +kernel)
theorem ok_wset {f:Addr} {fd:FuncData} (F:Fun K "settle_to" "Written.settle_to" wC f fd) (T:ClW K mg CW):aQ P w K mg base CX0 1 f fd ["self","place"] (qb CW):=by
 refine F.ok scWSet (fun vs H Q E h=>?_) (fun cdv A outer s H vs Q E hr h=>?_)
 ·obtain⟨o,dx,kr,t,s,t2,v,rfl,_⟩:=h;rfl
 ·obtain⟨o,dx,kr,t,s,t2,v,rfl,hO,q⟩:=h;refine⟨_,aj (bu (pv 0) (pv 1) rfl),?_⟩;dsimp only[bv,Cx.nox];refine(rd2 rfl rfl (ex4 o CW dx _ ⟨rfl,hO,T.cl,T.nS,(by rw[iY];decide),?_⟩))
  rw[flW_ps];exact q _ BtO.upd ai
theorem scWKeep:au ["self","row"] ["self","row"] (am p7):=fsc (by decide +kernel)
theorem wG {f:Addr} {fd:FuncData} (F:Fun K "keep_row" "Written.keep_row" p7 f fd) (T:ClW K mg CW):aQ P w K mg base CX0 1 f fd ["self","row"] (i7 CW):=by
 refine F.ok scWKeep (fun vs H Q E h=>?_) (fun cdv A outer s H vs Q E hr h=>?_)
 ·obtain⟨o,dx,kr,kr2,t,s,v,rfl,_⟩:=h;rfl
 ·obtain⟨o,dx,kr,kr2,t,s,v,rfl,hO,q⟩:=h;refine⟨_,aj (bu (pv 0) (pv 1) rfl),?_⟩;dsimp only[bv,Cx.nox];refine(rd2 rfl rfl (ex4 o CW dx _ ⟨rfl,hO,T.cl,T.nK,(by rw[iY];decide),?_⟩))
  rw[flW_pk];exact q _ BtO.upd ai
theorem scMRow:au ["self"] ["self"] (am wD):=fsc (by decide +kernel)
theorem ok_mrow {f:Addr} {fd:FuncData} (F:Fun K "row" "Mind.row" wD f fd) (TM:ClM K mg CM) (TW:ClW K mg CW):aQ P w K mg base CX0 1 f fd ["self"] (ir K ⟨CH,CM,CT,CW,CR⟩):=by
 refine F.ok scMRow (fun vs H Q E h=>?_) (fun cdv A outer s H vs Q E hr h=>?_)
 ·obtain⟨g,rfl,_⟩:=h;rfl
 ·obtain⟨g,rfl,G,q⟩:=h;refine⟨_,aj <| ax <| aD (aD (pv 0) rfl) rfl,?_⟩;dsimp only[bv,Cx.nox];obtain⟨dy,h2⟩:=G.ob;obtain⟨⟨dz,h3⟩,_⟩:=id G.wg.wo;exact⟨_,rfl,ex5 g.m CM dy _ _ ⟨rfl,h2,TM.cl,TM.n3,fR,ex5 g.wr CW dz _ _ ⟨rfl,h3,TW.cl,TW.nK,flW_k,q⟩⟩⟩
theorem wH:au ["self"] ["self"] (am mv):=fsc (by decide +kernel)
theorem tP {f:Addr} {fd:FuncData} (F:Fun K "is_chair" "Mind.is_chair" mv f fd) (TM:ClM K mg CM):aQ P w K mg base CX0 1 f fd ["self"] (gY K ⟨CH,CM,CT,CW,CR⟩):=by
 refine F.ok wH (fun vs H Q E h=>?_) (fun cdv A outer s H vs Q E hr h=>?_)
 ·obtain⟨g,rfl,_⟩:=h;rfl
 ·obtain⟨g,rfl,G,q⟩:=h;refine⟨_,aj <| ax <| bI cj (aD (pv 0) rfl) aU (aG _),?_⟩;dsimp only[bv,Cx.nox];obtain⟨dy,h2⟩:=G.ob;refine⟨_,rfl,ex5 g.m CM dy _ _ ⟨rfl,h2,TM.cl,TM.n6,flG_r,rfl,?_⟩⟩;rw[show decide (V.str (Str.ofString "plain")=V.str (Str.ofString "chair"))=false by decide +kernel]
  exact q
theorem tQ:au ["self","chair"] ["self","chair"] (am jO):=fsc (by decide +kernel)
theorem qd {f:Addr} {fd:FuncData} (F:Fun K "follow" "Mind.follow" jO f fd) (TM:ClM K mg CM):aQ P w K mg base CX0 1 f fd ["self","chair"] (gh K ⟨CH,CM,CT,CW,CR⟩):=by
 refine F.ok tQ (fun vs H Q E h=>?_) (fun cdv A outer s H vs Q E hr h=>?_)
 ·obtain⟨g,x,rfl,_⟩:=h;rfl
 ·obtain⟨g,x,rfl,G,q⟩:=h;refine⟨_,ae (bu (pv 0) aU rfl) <| ae (bu (pv 0) (pv 1) rfl) <| aj (bu (pv 0) cU rfl),?_⟩;dsimp only[bv,Cx.nox];obtain⟨dy,h2⟩:=G.ob;refine⟨_,rfl,ex4 g.m CM dy _ ⟨rfl,h2,TM.cl,TM.n6,(by rw[iX];decide),?_⟩⟩
  rw[flG_pr];refine(rd2 rfl rfl (ex4 g.m CM dy _ ⟨rfl,ai,TM.cl,TM.n7,(by rw[iX];decide),?_⟩))
  rw[flG_pc];refine⟨_,rfl,ex4 g.m CM dy _ ⟨rfl,ai,TM.cl,TM.n11,(by rw[iX];decide),?_⟩⟩
  rw[flG_pse];have b3:=(BtO.upd (o:=g.m) (H:=H) (u:=.ins CM dy (flG g.nm g.wa g.sz g.wr g.rl g.bd (.str (Str.ofString "plain")) g.kn g.qu g.yl g.sd .non g.gl g.fl g.sl))).trans ((BtO.upd (u:=.ins CM dy (flG g.nm g.wa g.sz g.wr g.rl g.bd (.str (Str.ofString "plain")) x g.qu g.yl g.sd .non g.gl g.fl g.sl))).trans (BtO.upd (u:=.ins CM dy (flG g.nm g.wa g.sz g.wr g.rl g.bd (.str (Str.ofString "plain")) x g.qu g.yl g.sd .non g.gl g.fl g.sl))));exact q _ (G.setM (dx:=dy) (kn:=x) (qu:=g.qu) b3 ai) b3
theorem scMRise:au ["self","term"] ["self","term"] (am p8):=fsc (by decide +kernel)
theorem wI {f:Addr} {fd:FuncData} (F:Fun K "rise_to" "Mind.rise_to" p8 f fd) (TM:ClM K mg CM) (TW:ClW K mg CW) (Mr:aW P w K mg base CW 1 "rise_to" ["self","term"] (mx CW)) (Mf:aW P w K mg base CM 1 "follow" ["self","chair"] (gh K ⟨CH,CM,CT,CW,CR⟩)):aQ P w K mg base CX0 2 f fd ["self","term"] (my K ⟨CH,CM,CT,CW,CR⟩):=by
 refine F.ok scMRise (fun vs H Q E h=>?_) (fun cdv A outer s H vs Q E hr h=>?_)
 ·obtain⟨g,t,rfl,_⟩:=h;rfl
 ·obtain⟨g,t,rfl,G,q⟩:=h;refine⟨_,ae (bG (bg Mr TW.cl hr (aD (pv 0) rfl) (ad (pv 1) ag))) <| aj (bG (bg Mf TM.cl hr (pv 0) (ad cU ag))),?_⟩;dsimp only[bv,Cx.nox];obtain⟨dy,h2⟩:=G.ob;obtain⟨⟨dz,h3⟩,_⟩:=id G.wg.wo;refine⟨_,rfl,ex5 g.m CM dy _ _ ⟨rfl,h2,TM.cl,TM.n3,fR,ex3 g.wr dz _ ⟨rfl,h3,jE,_,rfl,ex7 g.wr dz g.kr g.t g.s t g.v ⟨rfl,h3,fun H1 b1 e1=>?_⟩⟩⟩⟩;have G1:bE K ⟨CH,CM,CT,CW,CR⟩ H1 { g with t:=t,v:=.non }:=G.setW b1 e1;obtain⟨dy1,h21⟩:=G1.ob;refine⟨_,rfl,ex3 g.m dy1 _ ⟨rfl,h21,gD,{ g with t:=t,v:=.non },.non,rfl,G1,fun H2 G2 b2=>?_⟩⟩;exact q H2 G2 ((BtO.frW b1).trans (BtO.frM b2))
theorem scMRec:au ["self","thing"] ["self","thing"] (am wE):=fsc (by decide +kernel)
theorem ok_mrec {f:Addr} {fd:FuncData} (F:Fun K "record" "Mind.record" wE f fd) (TM:ClM K mg CM):aQ P w K mg base CX0 1 f fd ["self","thing"] (qc K ⟨CH,CM,CT,CW,CR⟩):=by
 refine F.ok scMRec (fun vs H Q E h=>?_) (fun cdv A outer s H vs Q E hr h=>?_)
 ·obtain⟨g,x,rfl,_⟩:=h;rfl
 ·obtain⟨g,x,rfl,G,hn,q⟩:=h;refine⟨_,aj (bG (kj PySem.F.plainAttrs_list PySem.F.slot_list_append PySem.F.type_list_append ga (aD (pv 0) rfl) (ad (pv 1) ag))),?_⟩;dsimp only[bv,Cx.nox];obtain⟨dy,h2⟩:=G.ob;obtain⟨rs,h3,h4⟩:=G.rc;refine⟨_,rfl,ex5 g.m CM dy _ _ ⟨rfl,h2,TM.cl,TM.n4,flG_rl,.inl ⟨rfl,_,SqL.of h3⟩,_,rfl,ex3 g.rl rs x ⟨rfl,rfl,h3,by lia,fun H1 k1 e1=>?_⟩⟩⟩
  have b1:BtO g.rl H H1:=fun b u n e=>k1 b u n e;exact q H1 (G.setR b1 e1 (by rw[length_append];show rs.length + 1 <= _;lia)) (BtO.frR b1)
end
open K43B (dG aZ ba Ms)
abbrev qe:Stmt:=top 75
abbrev wJ:Stmt:=top 77
abbrev jP:Stmt:=top 78
theorem Paired.dropS{α β:Type}{R:α->β->Prop}{as:List α}{bs:List β}(h:Paired R as bs)(n:Nat):Paired R (as.drop n) (bs.drop n):=by
 induction h generalizing n with
 | nil=>rw[List.drop_nil,List.drop_nil];exact .nil
 | cons r h ih =>
  cases n with
  | zero=>exact .cons r h
  | succ k=>exact ih k
theorem Paired.catS{α β:Type}{R:α->β->Prop}{as cs:List α}{bs ds:List β}(h:Paired R as bs)(h2:Paired R cs ds):Paired R (as ++ cs) (bs ++ ds):=by
 induction h with
 | nil=>exact h2
 | cons r _ ih=>exact .cons r ih
theorem Paired.fill{α β:Type}{R:α->β->Prop}{as ms:List α}{bs ns:List β}(T M:List Int)(k:Nat)(h:Paired R as bs)(h2:Paired R ms ns):Paired R (ba T M k as ms) (ba T M k bs ns):=by
 unfold ba;split
 ·exact h
 ·exact Paired.catS (Paired.take' h _) (Paired.dropS h2 _)
abbrev ay(xs:List En):List Int:=xs.map (·.1)
theorem jQ{H:Hp}{es:List Addr}{xs:List En}(h:Paired (EnO H) es xs):∀(i:Nat)(e:Addr)(t:Int),es[i]?=some e->(ay xs)[i]?=some t->∃d,H e=some (.tup [.int t,.ref d]):=by
 induction h with
 | nil=>intro i e t he;simp at he
 | cons r _ ih =>
  intro i e t he ht;cases i with
  | zero =>
   cases he;cases ht;obtain⟨d,h1,_⟩:=r;exact⟨d,h1⟩
  | succ i=>exact ih i e t he ht
section
variable{K:Frag}{c:Cs}{H H':Hp}{g:Gs}
theorem bE.row(h:bE K c H g):∃hh aa,dG c.R H g.kr g.st g.en g.pl g.tm [.ref g.b,.ref hh,.ref aa] g.es (ay g.xs):=by
 obtain⟨⟨dw,h4⟩,dk,h5⟩:=id h.wg.wo;obtain⟨hh,aa,o,ps,as,h1,_⟩:=h.wg.so;have el:=h.wg.el;exact⟨hh,aa,⟨dk,h5⟩,h1,h.wg.ho,by rw[length_map];exact Paired.length h.wg.eo,jQ h.wg.eo,by lia⟩
theorem bE.setK{dx dk kr2 en2:Addr}{es2:List Addr}{xs2:List En}(h:bE K c H g)(e:BtO g.wr H H')(hw:H' g.wr=some (.ins c.W dx (flW g.t g.v g.s kr2)))(hr:H kr2=some (.ins c.R dk (flR g.st en2)))(he:H en2=some (.tup (es2.map V.ref)))(hp:Paired (EnO H) es2 xs2)(hl:es2.length <= 60)(ht:xs2.take (g.s - g.pl).toNat=g.xs.take (g.s - g.pl).toNat):bE K c H' { g with kr:=kr2,en:=en2,es:=es2,xs:=xs2 }:=by
 obtain⟨dy,h1⟩:=h.ob;obtain⟨rs,h2,h3⟩:=h.rc;obtain⟨⟨dw,h4⟩,dk0,h5⟩:=id h.wg.wo;have N:=h.ne;have k:=TkZ.ins e h4;have nk:kr2 ≠ g.wr:=(eG "term" h4 hr (fT gR fS)).symm;refine⟨⟨dy,e _ _ N.wm.symm h1⟩,⟨⟨⟨dx,hw⟩,dk,e _ _ nk hr⟩,h.wg.so.tkz k,k.t _ _ he,bB k.t hp,hl,h.wg.ps,h.wg.ok,h.wg.kl,h.wg.ll⟩,?_,⟨rs,e _ _ N.rw' h2,h3⟩,h.gv.ins e h4⟩;have:=aS.keepT (fun u q=>e _ _ N.bw q) (fun u q=>e _ _ N.dw q) (fun u q=>e _ _ N.lw q) k h.tb;show aS K c.T H' g.bd g.d g.l (ca g.bk.t (xs2.take (g.s - g.pl).toNat)).1 (ca g.bk.t (xs2.take (g.s - g.pl).toNat)).2;rw[ht];exact this
theorem tR(b:Kvs × Las)(xs:List En)(i j:Nat)(h:i <= j):ca b (xs.take j)=ca (ca b (xs.take i)) ((xs.drop i).take (j - i)):=by
 unfold ca;rw[<- List.foldl_append];have:xs.take j=xs.take i ++ (xs.drop i).take (j - i):=by
  obtain⟨k,rfl⟩:=Nat.le.dest h;rw[show i + k - i=k by lia,List.take_add]
 rw[this]
end
def qf(C:Addr):Sp:=fun us H Q _=>∃(r st en:Addr)(pl tm:Int)(sv:List V)(es:List Addr)(tms:List Int)(i j:Nat),us=[.ref r,.int (pl + i),.int (pl + j)]/\dG C H r st en pl tm sv es tms/\i <= j/\j <= es.length/\∀t H',aq H H'->H' t=some (.tup (((es.drop i).take (j - i)).map V.ref))->Q (.ref t) H'
theorem rA(es:List Addr)(i j:Nat)(h1:i <= j)(h2:j <= es.length):cx (es.map V.ref) (some (i:Int)) (some (j:Int))=((es.drop i).take (j - i)).map V.ref:=by
 unfold cx;rw[length_map,HT.dN,HT.dN,<- List.map_drop,<- List.map_take,Nat.min_eq_left (by lia),Nat.min_eq_left (by lia)]
def jR(K:Frag)(c:Cs):Sp:=fun us H Q _=>∃(g:Gs)(s2:Int),us=[.ref g.m,.int s2]/\bE K c H g/\g.s <= s2/\s2 <= g.pl + g.es.length/\∀(r:Addr)(H':Hp),bE K c H' { g with s:=s2 }->Fr g H H'->Q (.ref r) H'
def eN (H:Hp) (p:Addr) (nm fr:Str) (t:Int) (y:Bool) (pc bt:Int):Prop:=∃q,H p=some (.tup [.ref q])/\H q=some (.tup [.str "took",.str nm,.str fr,.int t,.bl y,.int pc,.int bt])
def rB (H:Hp) (lt:Addr) (fr to:Str) (lm be th:Int) (me:Addr) (up bt:Int):Prop:=H lt=some (.tup [.str "rows",.str fr,.str to,.int lm,.int be,.int th,.ref me,.int up,.int bt])
def qg(K:Frag)(c:Cs):Sp:=fun us H Q _=>∃(g:Gs)(lt me:Addr)(fr to:Str)(lm be th up bt pc:Int)(y:Bool),us=[.ref g.m,.ref lt,.bl y,.int pc]/\bE K c H g/\rB H lt fr to lm be th me up bt/\∀p H',aq H H'->eN H' p g.nm fr g.t y pc bt->Q (.ref p) H'
def iu(K:Frag)(c:Cs):Sp:=fun us H Q _=>∃(g:Gs)(lt me:Addr)(fr to:Str)(lm be th up bt:Int),us=[.ref g.m,.ref lt]/\bE K c H g/\rB H lt fr to lm be th me up bt/\∀H',bE K c H' { g with kn:=.str fr,qu:=0 }->BtO g.m H H'->Q .non H'
noncomputable def fV(s up pc:Int):Int:=if s < (if pc < up then pc else up) then (if pc < up then pc else up) else s
def mz(K:Frag)(c:Cs):Sp:=fun us H Q _=>∃(g:Gs)(lt me:Addr)(fr to:Str)(be th up bt:Int)(ms:List Addr)(ys:List En)(k sk:Nat),us=[.ref g.m,.ref lt]/\bE K c H g/\rB H lt fr to g.t be th me up bt/\H me=some (.tup (ms.map V.ref))/\Paired (EnO H) ms ys/\be + sk=g.pl + k/\(sk=0\/k=0)/\g.es.length + ms.length <= 60/\g.n <= 900 /\
 (g.pl <= be->aZ g.pl g.tm (ay g.xs) be ≠ .int th->∀p H',bE K c H' { g with kn:=.str fr,qu:=0 }->Fr g H H'->eN H' p g.nm fr g.t false g.s bt->Q (.ref p) H') /\
 ((g.pl <= be->aZ g.pl g.tm (ay g.xs) be=.int th)->(ba (ay g.xs) ((ay ys).drop sk) k g.xs (ys.drop sk)).take (g.s - g.pl).toNat=g.xs.take (g.s - g.pl).toNat /\
  ∀p kr2 en2 H',bE K c H' { g with kn:=.str fr,qu:=0,kr:=kr2,en:=en2,es:=ba (ay g.xs) ((ay ys).drop sk) k g.es (ms.drop sk),xs:=ba (ay g.xs) ((ay ys).drop sk) k g.xs (ys.drop sk),n:=g.n + 1,s:=fV g.s up (be + ms.length) }->Fr g H H'->eN H' p g.nm fr g.t true (be + ms.length) bt->Q (.ref p) H')
theorem bMinS:bootBuiltins "min"=some (.builtin "min"):=by decide +kernel
theorem atm1{α:Type}{a b c d e f g h i:α}:atI [a,b,c,d,e,f,g,h,i] (-1)=some i:=fG [a,b,c,d,e,f,g,h] i
theorem at5S{α:Type}{a b c d e f:α}{r:List α}:atI (a :: b :: c :: d :: e :: f :: r) 5=some f:=bW (j:=5) rfl
theorem at6S{α:Type}{a b c d e f g:α}{r:List α}:atI (a :: b :: c :: d :: e :: f :: g :: r) 6=some g:=bW (j:=6) rfl
theorem at7S{α:Type}{a b c d e f g h:α}{r:List α}:atI (a :: b :: c :: d :: e :: f :: g :: h :: r) 7=some h:=bW (j:=7) rfl
theorem tS{α:Type}{T M:List Int}{k:Nat}{es ms:List α}(h1:es.length=T.length)(h2:ms.length=M.length)(hk:k <= T.length):k + M.length <= (ba T M k es ms).length/\(ba T M k es ms).length <= es.length + ms.length:=by
 have c1:=K43B.rj (T.drop k) M;have c2:=K43B.mr (T.drop k) M;rw[length_drop]at c2;unfold ba;split
 ·lia
 ·rw[length_append,length_take,length_drop];lia
section
variable{P:Program}{w:World}{K:Frag}{mg:Str->Option Value}{base:Heap}{CH CM CT CW CR:Addr}
theorem scRBetw:au ["self","before","place"] ["self","before","place"] (am qa):=fsc (by decide +kernel)
theorem wK {f:Addr} {fd:FuncData} (F:Fun K "between" "Row.between" qa f fd) (T:ClR K mg CR):aQ P w K mg base CX0 1 f fd ["self","before","place"] (qf CR):=by
 refine F.ok scRBetw (fun vs H Q E h=>?_) (fun cdv A outer s H vs Q E hr h=>?_)
 ·obtain⟨r,st,en,pl,tm,sv,es,tms,i,j,rfl,_⟩:=h;rfl
 ·obtain⟨r,st,en,pl,tm,sv,es,tms,i,j,rfl,⟨⟨dx,h1⟩,h2,h3,h4,h5,h6⟩,hij,hj,q⟩:=h;refine⟨_,aj <| ax <| bM cK (aD (pv 0) rfl) (bQ (aE bV (pv 1) (ar ao (aD (pv 0) rfl) af (fun _ _=>rfl)))) (bQ (aE bV (pv 2) (ar ao (aD (pv 0) rfl) af (fun _ _=>rfl)))),?_⟩;dsimp only[bv,Cx.nox];refine⟨_,rfl,ex5 r CR dx _ _ ⟨rfl,h1,T.cl,T.nE,K43B.ip _ _,_,rfl,_,rfl,ex5 r CR dx _ _ ⟨rfl,h1,T.cl,T.nS,K43B.dL _ _,st,_,_,_,rfl,rfl,SqT.of h2,at0,_,_,rfl,rfl,_,rfl,_,rfl,_,rfl,ex5 r CR dx _ _ ⟨rfl,h1,T.cl,T.nS,K43B.dL _ _,st,_,_,_,rfl,rfl,SqT.of h2,at0,_,_,rfl,rfl,_,rfl,en,_,rfl,h3,fun t H' s' e'=>q t H' s' ?_⟩⟩⟩⟩;rw[show pl + (i:Int) - pl=(i:Int) by lia,show pl + (j:Int) - pl=(j:Int) by lia,rA _ _ _ hij hj]at e'
  exact e'
theorem oG:au ["self","place","entries"] ["self","place"] (am mw):=fsc (by decide +kernel)
theorem tT {f:Addr} {fd:FuncData} (F:Fun K "settle_to" "Mind.settle_to" mw f fd) (TM:ClM K mg CM) (TW:ClW K mg CW) (TR:ClR K mg CR) (Mr:aW P w K mg base CM 1 "row" ["self"] (ir K ⟨CH,CM,CT,CW,CR⟩)) (Ms:aW P w K mg base CM 1 "settled" ["self"] (io K ⟨CH,CM,CT,CW,CR⟩)) (Mb:aW P w K mg base CR 1 "between" ["self","before","place"] (qf CR)) (Mw:aW P w K mg base CW 1 "settle_to" ["self","place"] (qb CW)) (Fa:aV P w K mg base 4 "asks_done" ["table","entries"] (spAD K CT)):aQ P w K mg base CX0 5 f fd ["self","place"] (jR K ⟨CH,CM,CT,CW,CR⟩):=by
 refine F.ok oG (fun vs H Q E h=>?_) (fun cdv A outer s H vs Q E hr h=>?_)
 ·obtain⟨g,s2,rfl,_⟩:=h;rfl
 ·obtain⟨g,s2,rfl,G,hs,hl,q⟩:=h;have nd:=oG.nd;have r1:bj 1 _:=hr.mono (by decide)
  refine⟨_,ae (aC (i:=2) nd rfl (Or.inl rfl) (bg Mb TR.cl r1 (aO Mr TM.cl r1 (pv 0)) (ad (aO Ms TM.cl r1 (pv 0)) (ad (pv 1) ag)))) <|
   ae (bG (bg Mw TW.cl r1 (aD (pv 0) rfl) (ad (pv 1) ag))) <|
   aj <| ax <| aB Fa hr (ad (aD (pv 0) rfl) (ad (pv 2) ag)),?_⟩
  dsimp only[bv,Cx.nox];obtain⟨dy,h2⟩:=G.ob;obtain⟨⟨dz,h3⟩,dk,h5⟩:=id G.wg.wo;obtain⟨hh,aa,R⟩:=G.row;have ps:=G.wg.ps;have hxl:g.es.length=g.xs.length:=Paired.length G.wg.eo;obtain⟨i,hi⟩:=Int.eq_ofNat_of_zero_le (show 0 <= g.s - g.pl by lia)
  obtain⟨j,hj⟩:=Int.eq_ofNat_of_zero_le (show 0 <= s2 - g.pl by lia)
  have hij:i <= j:=by lia
  refine ah fun K_ hK_=>?_;refine⟨_,rfl,ex3 g.m dy _ ⟨rfl,h2,dJ,g,rfl,G,ex3 g.kr dk _ ⟨rfl,h5,jG,_,rfl,ex3 g.m dy _ ⟨rfl,h2,cC,g,rfl,G,_,rfl,g.kr,g.st,g.en,g.pl,g.tm,_,g.es,ay g.xs,i,j,?_,R,hij,by lia,fun t H1 s1 e1=>?_⟩⟩⟩⟩
  ·show [V.ref g.kr,V.int g.s,V.int s2]=[V.ref g.kr,V.int (g.pl + (i:Int)),V.int (g.pl + (j:Int))];rw[show g.pl + (i:Int)=g.s by lia,show g.pl + (j:Int)=s2 by lia]
  have G1:=G.same s1;refine hK_ _ _ (ah fun K_ hK_=>?_);refine⟨_,rfl,ex5 g.m CM dy _ _ ⟨rfl,s1 _ _ h2,TM.cl,TM.n3,fR,ex3 g.wr dz _ ⟨rfl,s1 _ _ h3,im,_,rfl,g.wr,dz,g.kr,g.t,g.s,s2,g.v,rfl,s1 _ _ h3,fun H2 b2 e2=>?_⟩⟩⟩;have N:=G.ne;have k2:=TkZ.ins b2 (s1 _ _ h3);have m2:H2 g.m=some (.ins CM dy g.flm):=b2 _ _ N.wm.symm (s1 _ _ h2);have T2:=aS.keepT (fun u q=>b2 _ _ N.bw q) (fun u q=>b2 _ _ N.dw q) (fun u q=>b2 _ _ N.lw q) k2 G1.tb;have hel:=G.wg.el;have hkl:=g.bk.l1;have hll:=g.bk.l2;have rl:=cB (g.xs.take (g.s - g.pl).toNat) g.bk.t;have tl:(g.xs.take (g.s - g.pl).toNat).length <= 60:=by rw[length_take];lia
  have t2l:((g.es.drop i).take (j - i)).length <= 400:=by rw[length_take,length_drop];lia
  have okT:=dQ (s:=g.bk.t) g.bk.ok (g.xs.take (g.s - g.pl).toNat);have r1':=rl.1;have r2':=rl.2;have et:H2 t=some (.tup (((g.es.drop i).take (j - i)).map V.ref)):=k2.t _ _ e1;have ep:Paired (EnO H2) ((g.es.drop i).take (j - i)) ((g.xs.drop i).take (j - i)):=Paired.take' (Paired.dropS (bB k2.t G1.wg.eo) _) _;refine hK_ _ _ ?_;refine⟨_,rfl,ex5 g.m CM dy _ _ ⟨rfl,m2,TM.cl,TM.n5,vS,_,rfl,g.bd,g.d,g.l,t,g.tab,(g.es.drop i).take (j - i),(g.xs.drop i).take (j - i),rfl,T2,okT,(by unfold Gs.tab;lia),(by unfold Gs.tab;lia),et,ep,t2l,fun r H3 T3 b3=>?_⟩⟩
  have N1:g.m ≠ g.d/\g.m ≠ g.l/\g.wr ≠ g.d/\g.wr ≠ g.l:=⟨N.dm.symm,N.lm.symm,N.dw.symm,N.lw.symm⟩;obtain⟨rs,hr2,hr3⟩:=G1.rc;obtain⟨⟨dx6,h6⟩,h7,⟨lk,h8,h9⟩,h10⟩:=id T2;have k3:TkZ H2 H3:=⟨fun a xs e=>b3 _ _ e (aN e h7 (by intro z;cases z)) (aN e h8 (by intro z;cases z)),fun a o y e=>b3 _ _ e (aN e h7 (by intro z;cases z)) (aN e h8 (by intro z;cases z))⟩
  have k23:=k2.trans k3;have hrk:H2 g.kr=some (.ins CR dk (flR g.st g.en)):=b2 _ _ N.kw (s1 _ _ h5);have gv2:=G1.gv.ins b2 (s1 _ _ h3);have gv3:Gv H3 g.gl g.fl g.sl g.rl:=⟨b3 _ _ gv2.eg (aN gv2.eg h7 (by intro z;cases z)) (aN gv2.eg h8 (by intro z;cases z)),b3 _ _ gv2.ef (aN gv2.ef h7 (by intro z;cases z)) (aN gv2.ef h8 (by intro z;cases z)),b3 _ _ gv2.es (aN gv2.es h7 (by intro z;cases z)) (aN gv2.es h8 (by intro z;cases z)),gv2.ng,gv2.nf,gv2.ns⟩
  refine q r H3 ⟨⟨dy,b3 _ _ m2 N1.1 N1.2.1⟩,⟨⟨⟨dz,b3 _ _ e2 N1.2.2.1 N1.2.2.2⟩,dk,b3 _ _ hrk (aN hrk h7 (by intro z;cases z)) (aN hrk h8 (by intro z;cases z))⟩,G1.wg.so.tkz k23,k23.t _ _ G1.wg.ho,bB k23.t G1.wg.eo,hel,show g.pl <= s2 by lia,G.wg.ok,G.wg.kl,G.wg.ll⟩,?_,⟨rs,b3 _ _ (b2 _ _ N.rw' hr2) N.dr.symm N.lr.symm,hr3⟩,gv3⟩ (fun x u n1 n2 n3 n4 n5 e=>b3 _ _ (b2 _ _ n2 (s1 _ _ e)) n4 n5)
  show aS K CT H3 g.bd g.d g.l (ca g.bk.t (g.xs.take (s2 - g.pl).toNat)).1 (ca g.bk.t (g.xs.take (s2 - g.pl).toNat)).2;rw[tR g.bk.t g.xs (g.s - g.pl).toNat (s2 - g.pl).toNat (by lia),show (g.s - g.pl).toNat=i by lia,show (s2 - g.pl).toNat=j by lia]
  rw[show g.tab=ca g.bk.t (g.xs.take i) by unfold Gs.tab;rw[show (g.s - g.pl).toNat=i by lia]]at T3
  exact T3
theorem scTook:au ["mind","letter","yes","place"] ["mind","letter","yes","place"] (am wJ):=fsc (by decide +kernel)
theorem ok_took {f:Addr} {fd:FuncData} (F:Fun K "took" "took" wJ f fd) (TM:ClM K mg CM) (TW:ClW K mg CW):aQ P w K mg base CX0 1 f fd ["mind","letter","yes","place"] (qg K ⟨CH,CM,CT,CW,CR⟩):=by
 refine F.ok scTook (fun vs H Q E h=>?_) (fun cdv A outer s H vs Q E hr h=>?_)
 ·obtain⟨g,lt,me,fr,to,lm,be,th,up,bt,pc,y,rfl,_⟩:=h;rfl
 ·obtain⟨g,lt,me,fr,to,lm,be,th,up,bt,pc,y,rfl,G,L,q⟩:=h;have hs16:sizeLine=16777216:=sizeLine_eq;have L:H lt=some (.tup [.str "rows",.str fr,.str to,.int lm,.int be,.int th,.ref me,.int up,.int bt]):=L;refine⟨_,aj <| ax <| aR (ad (aR (ad aU (ad (aD (pv 0) rfl) (ad (ar ao (pv 1) af (fun _ _=>rfl)) (ad (aD (aD (pv 0) rfl) rfl) (ad (pv 2) (ad (pv 3) (ad (ar ao (pv 1) (m9 jc af) (fun _ _=>rfl)) ag)))))))) ag),?_⟩;dsimp only[bv,Cx.nox];obtain⟨dy,h2⟩:=G.ob;obtain⟨⟨dz,h3⟩,_⟩:=id G.wg.wo;refine⟨_,rfl,ex5 g.m CM dy _ _ ⟨rfl,h2,TM.cl,TM.n0,flG_n,_,rfl,ex4 lt _ _ _ ⟨rfl,rfl,SqT.of L,at1,_,rfl,ex5 g.m CM dy _ _ ⟨rfl,h2,TM.cl,TM.n3,fR,ex5 g.wr CW dz _ _ ⟨rfl,h3,TW.cl,TW.nT,gR,rd3 rfl rfl rfl ⟨_,rfl,ex4 lt _ _ _ ⟨rfl,rfl,SqT.of L,atm1,(show 7 <= sizeLine by lia),fun p2 H2 n2 s2 e2=>⟨(show 1 <= sizeLine by lia),fun p H3 n3 s3 e3=>?_⟩⟩⟩⟩⟩⟩⟩⟩
  exact q p H3 (s2.trans s3) ⟨p2,e3,s3 _ _ e2⟩
theorem tU:au ["mind","letter"] ["mind","letter"] (am jP):=fsc (by decide +kernel)
theorem qh {f:Addr} {fd:FuncData} (F:Fun K "follow_sender" "follow_sender" jP f fd) (TM:ClM K mg CM) (Mf:aW P w K mg base CM 1 "follow" ["self","chair"] (gh K ⟨CH,CM,CT,CW,CR⟩)):aQ P w K mg base CX0 2 f fd ["mind","letter"] (iu K ⟨CH,CM,CT,CW,CR⟩):=by
 refine F.ok tU (fun vs H Q E h=>?_) (fun cdv A outer s H vs Q E hr h=>?_)
 ·obtain⟨g,lt,me,fr,to,lm,be,th,up,bt,rfl,_⟩:=h;rfl
 ·obtain⟨g,lt,me,fr,to,lm,be,th,up,bt,rfl,G,L,q⟩:=h;have L:H lt=some (.tup [.str "rows",.str fr,.str to,.int lm,.int be,.int th,.ref me,.int up,.int bt]):=L;refine⟨_,ae (bG (bg Mf TM.cl hr (pv 0) (ad (ar ao (pv 1) af (fun _ _=>rfl)) ag))) <| aj (bu (pv 0) af rfl),?_⟩;dsimp only[bv,Cx.nox];obtain⟨dy,h2⟩:=G.ob;refine ah fun K_ hK_=>?_;refine⟨_,rfl,ex3 g.m dy _ ⟨rfl,h2,gD,_,rfl,ex4 lt _ _ _ ⟨rfl,rfl,SqT.of L,at1,g,.str fr,rfl,G,fun H1 G1 b1=>?_⟩⟩⟩;obtain⟨dy1,h21⟩:=G1.ob;refine hK_ _ _ ?_;refine⟨_,rfl,ex4 g.m CM dy1 _ ⟨rfl,h21,TM.cl,TM.n8,(by rw[iX];decide),?_⟩⟩
  rw[flG_pq];have b2:BtO g.m H1 (upd H1 g.m (.ins CM dy1 (flG g.nm g.wa g.sz g.wr g.rl g.bd (.str "plain") (.str fr) 0 g.yl g.sd .non g.gl g.fl g.sl))):=BtO.upd;exact q _ (G1.setM (dx:=dy1) (kn:=.str fr) (qu:=0) b2 ai) (b1.trans b2)
end
section
variable{P:Program}{w:World}{K:Frag}{mg:Str->Option Value}{base:Heap}{CH CM CT CW CR:Addr}
noncomputable abbrev nRH:List Str:=["mind","letter","before","entries","row","place","settled"]
theorem rC:au nRH ["mind","letter"] (am qe):=fsc (by decide +kernel)
theorem wL {f:Addr} {fd:FuncData} (F:Fun K "rows_heard" "rows_heard" qe f fd) (hlen:mg "len"=none) (hmin:mg "min"=none) (TM:ClM K mg CM) (TW:ClW K mg CW) (TR:ClR K mg CR) (Mc:aW P w K mg base CM 1 "is_chair" ["self"] (gY K ⟨CH,CM,CT,CW,CR⟩)) (Ff:aV P w K mg base 2 "follow_sender" ["mind","letter"] (iu K ⟨CH,CM,CT,CW,CR⟩))
  (Mro:aW P w K mg base CM 1 "row" ["self"] (ir K ⟨CH,CM,CT,CW,CR⟩)) (Mfi:aW P w K mg base CR 3 "filled" ["self","before","there","entries"] (K43B.jN CR)) (Ft:aV P w K mg base 1 "took" ["mind","letter","yes","place"] (qg K ⟨CH,CM,CT,CW,CR⟩)) (Mse:aW P w K mg base CM 1 "settled" ["self"] (io K ⟨CH,CM,CT,CW,CR⟩))
  (Mk:aW P w K mg base CW 1 "keep_row" ["self","row"] (i7 CW)) (Mre:aW P w K mg base CM 1 "record" ["self","thing"] (qc K ⟨CH,CM,CT,CW,CR⟩)) (Mst:aW P w K mg base CM 5 "settle_to" ["self","place"] (jR K ⟨CH,CM,CT,CW,CR⟩)):aQ P w K mg base CX0 6 f fd ["mind","letter"] (mz K ⟨CH,CM,CT,CW,CR⟩):=by
 refine F.ok rC (fun vs H Q E h=>?_) (fun cdv A outer s H vs Q E hr h=>?_)
 ·obtain⟨g,lt,me,fr,to,be,th,up,bt,ms,ys,k,sk,rfl,_⟩:=h;rfl
 ·obtain⟨g,lt,me,fr,to,be,th,up,bt,ms,ys,k,sk,rfl,G,L,hme,hpa,hks,hk0,h60,hn,qN,qY⟩:=h;have nd:=rC.nd;have hs16:sizeLine=16777216:=sizeLine_eq;have r1:bj 1 _:=hr.mono (by decide)
  have r2:bj 2 _:=hr.mono (by decide)
  have r3:bj 3 _:=hr.mono (by decide)
  have r5:bj 5 _:=hr.mono (by decide)
  have L:H lt=some (.tup [.str "rows",.str fr,.str to,.int g.t,.int be,.int th,.ref me,.int up,.int bt]):=L;refine⟨_,ae (aX (aH fj (ar ao (pv 1) af (fun _ _=>rfl)) (aD (aD (pv 0) rfl) rfl) (aG _)) dj aK) <|
   ae (aX (cI (aO Mc TM.cl r1 (pv 0))) dj aK) <|
   ae (bG (aB Ff r2 (ad (pv 0) (ad (pv 1) ag)))) <|
   ae (aC (i:=2) nd rfl (Or.inl rfl) (ar ao (pv 1) af (fun _ _=>rfl))) <|
   ae (aC (i:=3) nd rfl (Or.inl rfl) (ar ao (pv 1) af (fun _ _=>rfl))) <|
   ae (aC (i:=4) nd rfl (Or.inl rfl) (bg Mfi TR.cl r3 (aO Mro TM.cl r1 (pv 0)) (ad (pv 2) (ad (ar ao (pv 1) af (fun _ _=>rfl)) (ad (pv 3) ag))))) <|
   ae (aX (lj (oP (pv 4))) (aj (ax (aB Ft r1 (ad (pv 0) (ad (pv 1) (ad d9 (ad (aO Mse TM.cl r1 (pv 0)) ag))))))) aK) <|
   ae (bG (bg Mk TW.cl r1 (aD (pv 0) rfl) (ad (pv 4) ag))) <|
   ae (bG (bg Mre TM.cl r1 (pv 0) (ad (aR (ad aU (ad (ar ao (pv 1) af (fun _ _=>rfl)) (ad (ar ao (pv 1) af (fun _ _=>rfl)) (ad (pv 2) (ad (ar ao (pv 1) af (fun _ _=>rfl)) (ad (pv 3) ag))))))) ag))) <|
   ae (aC (i:=5) nd rfl (Or.inl rfl) (aE bn (pv 2) (az aL (by rfl) hlen PySem.boot_len (ad (pv 3) ag)))) <|
   ae (aC (i:=6) nd rfl (Or.inl rfl) (az (g9 rfl) (by rfl) hmin bMinS (ad (ar ao (pv 1) af (fun _ _=>rfl)) (ad (pv 5) ag)))) <|
   ae (aX (aH eI (pv 6) (aO Mse TM.cl r1 (pv 0)) (aG _)) (aj (bG (bg Mst TM.cl r5 (pv 0) (ad (pv 6) ag)))) aK) <|
   aj (ax (aB Ft r1 (ad (pv 0) (ad (pv 1) (ad d9 (ad (pv 5) ag)))))),?_⟩
  dsimp only[bv,Cx.nox];obtain⟨dy,h2⟩:=G.ob;obtain⟨⟨dz,h3⟩,dk,h5⟩:=id G.wg.wo;refine ah fun K_ hK_=>?_;refine⟨_,rfl,ex4 lt _ _ _ ⟨rfl,rfl,SqT.of L,fP,_,rfl,ex5 g.m CM dy _ _ ⟨rfl,h2,TM.cl,TM.n3,fR,ex5 g.wr CW dz _ _ ⟨rfl,h3,TW.cl,TW.nT,gR,oo rfl rfl ⟨_,rfl,?_⟩⟩⟩⟩⟩;rw[decide_eq_false (Int.lt_irrefl _)];refine aY ?_;refine hK_ _ _ (ah fun K_ hK_=>?_);refine⟨_,rfl,ex3 g.m dy _ ⟨rfl,h2,fq,g,rfl,G,_,rfl,aY ?_⟩⟩;refine hK_ _ _ (ah fun K_ hK_=>?_);refine(rd2 rfl rfl (ex10 g lt me fr to g.t be th up bt ⟨rfl,G,L,fun H1 G1 b1=>?_⟩));have k1:=TkZ.ins b1 h2;have L1:=k1.t _ _ L;have f1:Fr g H H1:=BtO.frM b1;have hxl:g.es.length=g.xs.length:=Paired.length G.wg.eo;have hyl:ms.length=ys.length:=Paired.length hpa;refine hK_ _ _ (ah fun K_ hK_=>?_);refine⟨_,rfl,ex4 lt _ _ _ ⟨rfl,rfl,SqT.of L1,vp,?_⟩⟩;refine hK_ _ _ (ah fun K_ hK_=>?_);refine⟨_,rfl,ex4 lt _ _ _ ⟨rfl,rfl,SqT.of L1,at6S,?_⟩⟩;obtain⟨dy1,h21⟩:=G1.ob;obtain⟨⟨dz1,h31⟩,dk1,h51⟩:=id G1.wg.wo;obtain⟨hh,aa,R⟩:=G1.row;have hme1:=k1.t _ _ hme;have hpa1:=bB k1.t hpa;refine hK_ _ _ (ah fun K_ hK_=>?_);refine⟨_,rfl,ex3 g.m dy1 _ ⟨rfl,h21,dJ,{ g with kn:=.str fr,qu:=0 },rfl,G1,ex3 g.kr dk1 _ ⟨rfl,h51,j3,rd2 rfl rfl (ex4 lt _ _ _ ⟨rfl,rfl,SqT.of L1,at5S,_,rfl,g.kr,g.st,g.en,me,be,th,g.pl,g.tm,_,g.es,ay g.xs,k,sk,ms,ay ys,rfl,R,⟨hme1,by rw[length_map];exact hyl,jQ hpa1⟩,hks,hk0,by lia,?_,?_⟩)⟩⟩⟩
  ·intro hle hne;refine hK_ _ _ (ah fun K_ hK_=>?_);refine(rd2 rfl rfl (bN (fun _=>?_) (fun z=>absurd (decide_eq_true rfl) z)));refine(rd3 rfl rfl rfl (ex3 g.m dy1 _ ⟨rfl,h21,cC,{ g with kn:=.str fr,qu:=0 },rfl,G1,{ g with kn:=.str fr,qu:=0 },ex11 lt me fr to g.t be th up bt g.s false ⟨rfl,G1,L1,fun p H2 s2 t2=>?_⟩⟩));exact qN hle hne p H2 (G1.same s2) (f1.trans (Fr.of s2)) t2
  ·intro hgo r' en' H2 s2 R2;obtain⟨hpre,qY⟩:=qY hgo;have hkl:k <= g.xs.length:=by
    rcases hk0 with h | h
    ·by_cases hk:k <= g.xs.length
     ·exact hk
     ·have:=hgo (by lia)
      rw[K43B.bX _ _ _ (.inr (by rw[length_map];lia))]at this
      cases this
    ·lia
   have hes:(ba (ay g.xs) ((ay ys).drop sk) k g.es (ms.drop sk)).length <= g.es.length + (ms.drop sk).length/\k + (ms.drop sk).length <= (ba (ay g.xs) ((ay ys).drop sk) k g.es (ms.drop sk)).length:=by
    have e1:(ms.drop sk).length=((ay ys).drop sk).length:=by rw[length_drop,length_drop,length_map,hyl]
    have:=tS (T:=ay g.xs) (M:=(ay ys).drop sk) (k:=k) (es:=g.es) (ms:=ms.drop sk) (by rw[length_map];exact hxl) e1 (by rw[length_map];exact hkl)
    exact⟨this.2,by rw[e1];exact this.1⟩
   have hdl:(ms.drop sk).length=ms.length - sk:=length_drop ..;refine hK_ _ _ (ah fun K_ hK_=>?_);generalize hE:ba (ay g.xs) ((ay ys).drop sk) k g.es (ms.drop sk)=es2 at R2 hes qY;have hP:Paired (EnO H2) es2 (ba (ay g.xs) ((ay ys).drop sk) k g.xs (ys.drop sk)):=by
    rw[<- hE];exact Paired.fill _ _ _ (bB (Tk.of s2) G1.wg.eo) (Paired.dropS (bB (Tk.of s2) hpa1) _)
   have hxe:es2.length=(ba (ay g.xs) ((ay ys).drop sk) k g.xs (ys.drop sk)).length:=Paired.length hP;generalize ba (ay g.xs) ((ay ys).drop sk) k g.xs (ys.drop sk)=xs2 at hpre hP qY hxe;obtain⟨⟨dr,hr2⟩,_,he2,_⟩:=R2;have G2:=G1.same s2;obtain⟨dy2,h22⟩:=G2.ob;obtain⟨⟨dz2,h32⟩,dk2,h52⟩:=id G2.wg.wo;refine(rd2 rfl rfl (bN (fun z=>absurd (of_decide_eq_true z) (by intro z;cases z)) (fun _=>?_)))
   refine hK_ _ _ (ah fun K_ hK_=>?_);refine⟨_,rfl,ex5 g.m CM dy2 _ _ ⟨rfl,h22,TM.cl,TM.n3,fR,ex3 g.wr dz2 _ ⟨rfl,h32,fu,_,rfl,ex7 g.wr dz2 g.kr r' g.t g.s g.v ⟨rfl,h32,fun H3 b3 e3=>?_⟩⟩⟩⟩;have G3:bE K ⟨CH,CM,CT,CW,CR⟩ H3 { g with kn:=.str fr,qu:=0,kr:=r',en:=en',es:=es2,xs:=xs2 }:=G2.setK b3 e3 hr2 he2 hP (by lia) hpre
   have k3:TkZ H2 H3:=TkZ.ins b3 h32;have L3:=k3.t _ _ (s2 _ _ L1);have hme3:=k3.t _ _ (s2 _ _ hme1);have f3:Fr g H H3:=f1.trans ((Fr.of s2).trans (BtO.frW b3));obtain⟨dy3,h23⟩:=G3.ob;refine hK_ _ _ (ah fun K_ hK_=>?_);refine⟨_,rfl,ex3 g.m dy3 _ ⟨rfl,h23,jZ,_,rfl,ex4 lt _ _ _ ⟨rfl,rfl,SqT.of L3,fP,_,rfl,ex4 lt _ _ _ ⟨rfl,rfl,SqT.of L3,at1,rd2 rfl rfl (ex4 lt _ _ _ ⟨rfl,rfl,SqT.of L3,at5S,_,rfl,(show 6 <= sizeLine by lia),fun pr H4 n4 s4 e4=>?_⟩)⟩⟩⟩⟩
   refine⟨{ g with kn:=.str fr,qu:=0,kr:=r',en:=en',es:=es2,xs:=xs2 },.ref pr,rfl,G3.same s4,hn,fun H5 G5 f5=>?_⟩;have f5':Fr g H4 H5:=f5;have k5:TkZ H4 H5:=f5.tkz (G3.same s4);have L5:=k5.t _ _ (s4 _ _ L3);have hme5:=k5.t _ _ (s4 _ _ hme3);have f05:Fr g H H5:=f3.trans ((Fr.of s4).trans f5');refine hK_ _ _ (ah fun K_ hK_=>?_);refine(rd2 rfl rfl ⟨me,_,rfl,.inr (SqT.of hme5),oo rfl rfl ?_⟩);refine hK_ _ _ (ah fun K_ hK_=>?_);rw[length_map];refine⟨_,rfl,ex4 lt _ _ _ ⟨rfl,rfl,SqT.of L5,at7S,_,rfl,_,_,rfl,?_⟩⟩;obtain⟨dy5,h25⟩:=G5.ob;refine hK_ _ _ (ah fun K_ hK_=>?_);refine(rd2 rfl rfl (ex3 g.m dy5 _ ⟨rfl,h25,cC,{ g with kn:=.str fr,qu:=0,kr:=r',en:=en',es:=es2,xs:=xs2,n:=g.n + 1 },rfl,G5,oo rfl rfl ⟨_,rfl,bN (fun hs=>?_) (fun hs=>?_)⟩⟩))
   ·have hs:=of_decide_eq_true hs;have hs':g.s < (if be + (ms.length:Int) < up then be + (ms.length:Int) else up):=hs
    have hge:=G.wg.ps;have hle2:(if be + (ms.length:Int) < up then be + (ms.length:Int) else up) <= be + ms.length:=by split <;> lia
    have eS:fV g.s up (be + ms.length)=(if be + (ms.length:Int) < up then be + (ms.length:Int) else up):=if_pos hs'
    refine⟨_,rfl,ex3 g.m dy5 _ ⟨rfl,h25,il,_,rfl,{ g with kn:=.str fr,qu:=0,kr:=r',en:=en',es:=es2,xs:=xs2,n:=g.n + 1 },_,rfl,G5,show g.s <= _ from Int.le_of_lt hs',?_,fun r6 H6 G6 f6=>?_⟩⟩
    ·show (if be + (ms.length:Int) < up then be + (ms.length:Int) else up) <= g.pl + (es2.length:Int)
     lia
    have f6':Fr g H5 H6:=f6;have k6:TkZ H5 H6:=f6.tkz G5;refine hK_ _ _ ?_;refine(rd3 rfl rfl rfl ⟨{ g with kn:=.str fr,qu:=0,kr:=r',en:=en',es:=es2,xs:=xs2,n:=g.n + 1,s:=(if be + (ms.length:Int) < up then be + (ms.length:Int) else up) },lt,me,fr,to,g.t,be,th,up,bt,be + ms.length,true,rfl,G6,k6.t _ _ L5,fun p H7 s7 t7=>?_⟩)
    refine qY p r' en' H7 ?_ (f05.trans (f6'.trans (Fr.of s7))) t7;rw[eS];exact G6.same s7
   ·have hs':¬g.s < (if be + (ms.length:Int) < up then be + (ms.length:Int) else up):=fun z=>hs (decide_eq_true z)
    have eS:fV g.s up (be + ms.length)=g.s:=if_neg hs';refine hK_ _ _ ?_;refine(rd3 rfl rfl rfl ⟨{ g with kn:=.str fr,qu:=0,kr:=r',en:=en',es:=es2,xs:=xs2,n:=g.n + 1 },lt,me,fr,to,g.t,be,th,up,bt,be + ms.length,true,rfl,G5,L5,fun p H7 s7 t7=>?_⟩);refine qY p r' en' H7 ?_ (f05.trans (Fr.of s7)) t7;rw[eS];exact G5.same s7
end
end K43
namespace L2
open PySem
end L2
namespace K43
open PySem L2
open K43T (Kvs Las Wk aS bR cH cu dF aI aT Eqv ci bS cS)
open K43B (dG aZ ba Ms)
noncomputable def gUp(g:Gs)(lm:Int):Gs:=if g.t < lm then { g with t:=lm,v:=.non,kn:=.non } else g
structure oH(H:Hp)(g:Gs)(lt me:Addr)(fr to:Str)(lm be th up bt:Int)(ms:List Addr)(ys:List En)(k sk:Nat):Prop where
 l:rB H lt fr to lm be th me up bt
 e:H me=some (.tup (ms.map V.ref))
 p:Paired (EnO H) ms ys
 ks:be + sk=g.pl + k
 k0:sk=0\/k=0
 el:g.es.length + ms.length <= 60
 n:g.n <= 900
def oI(g:Gs)(fr:Str)(be th up:Int)(ms:List Addr)(ys:List En)(k sk:Nat)(R:Gs->Bool->Int->Prop):Prop :=
 (g.pl <= be->aZ g.pl g.tm (ay g.xs) be ≠ .int th->R { g with kn:=.str fr,qu:=0 } false g.s) /\
 ((g.pl <= be->aZ g.pl g.tm (ay g.xs) be=.int th)->(ba (ay g.xs) ((ay ys).drop sk) k g.xs (ys.drop sk)).take (g.s - g.pl).toNat=g.xs.take (g.s - g.pl).toNat /\
  ∀kr2 en2,R { g with kn:=.str fr,qu:=0,kr:=kr2,en:=en2,es:=ba (ay g.xs) ((ay ys).drop sk) k g.es (ms.drop sk),xs:=ba (ay g.xs) ((ay ys).drop sk) k g.xs (ys.drop sk),n:=g.n + 1,s:=fV g.s up (be + ms.length) } true (be + ms.length))
def mB(K:Frag)(c:Cs):Sp:=fun us H Q _=>∃(H0:Hp)(g:Gs)(lt me:Addr)(fr to:Str)(be th up bt:Int)(ms:List Addr)(ys:List En)(k sk:Nat),us=[.ref g.ho,.ref lt]/\bP K c H0 H g/\oH H g lt me fr to g.t be th up bt ms ys k sk/\oI g fr be th up ms ys k sk fun g' y pc=>∀p H',bP K c H0 H' g'->TkZ H H'->eN H' p g.nm fr g.t y pc bt->Q (.ref p) H'
def gi(K:Frag)(c:Cs)(ok:Hp->Addr->Prop):Sp:=fun us H Q _=>∃(H0:Hp)(g:Gs)(lt me:Addr)(fr to:Str)(lm be th up bt:Int)(ms:List Addr)(ys:List En)(k sk:Nat),us=[.ref g.ho,.ref lt]/\bP K c H0 H g/\g.t <= lm/\oH H g lt me fr to lm be th up bt ms ys k sk/\ok H lt/\oI (gUp g lm) fr be th up ms ys k sk fun g' y pc=>∀p H',bP K c H0 H' g'->TkZ H H'->eN H' p g.nm fr lm y pc bt->Q (.ref p) H'
theorem oH.tkz{H H':Hp}{g:Gs}{lt me:Addr}{fr to:Str}{lm be th up bt:Int}{ms:List Addr}{ys:List En}{k sk:Nat}(z:TkZ H H')(h:oH H g lt me fr to lm be th up bt ms ys k sk):oH H' g lt me fr to lm be th up bt ms ys k sk:=⟨z.t _ _ h.l,z.t _ _ h.e,bB z.t h.p,h.ks,h.k0,h.el,h.n⟩
section
variable{P:Program}{w:World}{K:Frag}{mg:Str->Option Value}{base:Heap}{CH CM CT CW CR:Addr}
theorem wM:au ["self","letter"] ["self","letter"] (am lU):=fsc (by decide +kernel)
theorem tV {f:Addr} {fd:FuncData} (F:Fun K "chair_letter" "House.chair_letter" lU f fd) (T:ClH K mg CH) (Fr:aV P w K mg base 6 "rows_heard" ["mind","letter"] (mz K ⟨CH,CM,CT,CW,CR⟩)):aQ P w K mg base CX0 7 f fd ["self","letter"] (mB K ⟨CH,CM,CT,CW,CR⟩):=by
 refine F.ok wM (fun vs H Q E h=>?_) (fun cdv A outer s H vs Q E hr h=>?_)
 ·obtain⟨H0,g,lt,me,fr,to,be,th,up,bt,ms,ys,k,sk,rfl,_⟩:=h;rfl
 ·obtain⟨H0,g,lt,me,fr,to,be,th,up,bt,ms,ys,k,sk,rfl,G,L,hq⟩:=h;refine⟨_,ae (aX (aH cj (ar ao (pv 1) af (fun _ _=>rfl)) aU (aG _)) (aj (ax (aB Fr hr (ad (aD (pv 0) rfl) (ad (pv 1) ag))))) aK) dj,?_⟩;obtain⟨dx,h1⟩:=G.hb;have l1:H lt=some (.tup [.str "rows",.str fr,.str to,.int g.t,.int be,.int th,.ref me,.int up,.int bt]):=L.l;refine⟨_,rfl,ex4 lt _ _ _ ⟨rfl,rfl,SqT.of l1,at0,rfl,_,rfl,?_⟩⟩;rw[decide_eq_true rfl];exact bJ ⟨_,rfl,g.ho,CH,dx,_,_,rfl,h1,T.cl,T.n3,gB,_,rfl,g,lt,me,fr,to,be,th,up,bt,ms,ys,k,sk,rfl,G.mo,L.l,L.e,L.p,L.ks,L.k0,L.el,L.n,
   fun a b p H' m f t=>hq.1 a b p H' (G.next f m rfl rfl rfl rfl rfl rfl rfl rfl rfl) (f.tkz G.mo) t,fun a=>⟨(hq.2 a).1,fun p kr2 en2 H' m f t=>(hq.2 a).2 kr2 en2 p H' (G.next f m rfl rfl rfl rfl rfl rfl rfl rfl rfl) (f.tkz G.mo) t⟩⟩
theorem scHeard:au ["self","letter"] ["self","letter"] (am pT):=fsc (by decide +kernel)
theorem gUp_t{g:Gs}{lm:Int}(h:g.t <= lm):(gUp g lm).t=lm:=by
 unfold gUp;split
 ·rfl
 ·lia
theorem tW {f:Addr} {fd:FuncData} (F:Fun K "heard" "House.heard" pT f fd) (T:ClH K mg CH) (TM:ClM K mg CM) (TW:ClW K mg CW) (Mr:aW P w K mg base CM 2 "rise_to" ["self","term"] (my K ⟨CH,CM,CT,CW,CR⟩)) (Mc:aW P w K mg base CH 7 "chair_letter" ["self","letter"] (mB K ⟨CH,CM,CT,CW,CR⟩)):aQ P w K mg base CX0 8 f fd ["self","letter"] (gi K ⟨CH,CM,CT,CW,CR⟩ fun _ _=>True):=by
 refine F.ok scHeard (fun vs H Q E h=>?_) (fun cdv A outer s H vs Q E hr h=>?_)
 ·obtain⟨H0,g,lt,me,fr,to,lm,be,th,up,bt,ms,ys,k,sk,rfl,_⟩:=h;rfl
 ·obtain⟨H0,g,lt,me,fr,to,lm,be,th,up,bt,ms,ys,k,sk,rfl,G,hlm,L,_,q⟩:=h;have hs16:sizeLine=16777216:=sizeLine_eq;have r2:bj 2 _:=hr.mono (by decide)
  refine⟨_,ae (aX (aH cj (ar ao (pv 1) af (fun _ _=>rfl)) aU (aG _)) dj aK) <|
   ae (cM (aX (aH eI (ar ao (pv 1) af (fun _ _=>rfl)) (aD (aD (aD (pv 0) rfl) rfl) rfl) (aG _)) (aj (bG (bg Mr TM.cl r2 (aD (pv 0) rfl) (ad (ar ao (pv 1) af (fun _ _=>rfl)) ag)))) aK)) <|
   ae (aX (aH hZ (ar ao (pv 1) af (fun _ _=>rfl)) (aR (ad aU (ad aU (ad aU ag)))) (by rfl)) dj aK) <|
   aj (ax (bg Mc T.cl hr (pv 0) (ad (pv 1) ag))),?_⟩
  obtain⟨dx,h1⟩:=G.hb;obtain⟨dy,h2⟩:=G.mo.ob;obtain⟨⟨dz,h3⟩,_⟩:=id G.mo.wg.wo;have l1:H lt=some (.tup [.str "rows",.str fr,.str to,.int lm,.int be,.int th,.ref me,.int up,.int bt]):=L.l;refine⟨_,rfl,ex4 lt _ _ _ ⟨rfl,rfl,SqT.of l1,at0,rfl,_,rfl,?_⟩⟩;rw[show decide (V.str (Str.ofString "rows")=V.str (Str.ofString "look"))=false by decide +kernel]
  refine aY ⟨fun σ' H'=>σ'=[some (.ref g.ho),some (.ref lt)]/\bP K ⟨CH,CM,CT,CW,CR⟩ H0 H' (gUp g lm)/\TkZ H H',?_,?_⟩
  ·refine⟨_,rfl,ex4 lt _ _ _ ⟨rfl,rfl,SqT.of l1,fP,_,rfl,ex5 g.ho CH dx _ _ ⟨rfl,h1,T.cl,T.n3,gB,ex5 g.m CM dy _ _ ⟨rfl,h2,TM.cl,TM.n3,fR,ex5 g.wr CW dz _ _ ⟨rfl,h3,TW.cl,TW.nT,gR,oo rfl rfl ⟨_,rfl,bN (fun hlt=>?_) (fun hlt=>?_)⟩⟩⟩⟩⟩⟩
   ·have hlt:=of_decide_eq_true hlt;refine⟨_,rfl,g.ho,CH,dx,_,_,rfl,h1,T.cl,T.n3,gB,g.m,dy,_,rfl,h2,jD,_,rfl,ex4 lt _ _ _ ⟨rfl,rfl,SqT.of l1,fP,g,lm,rfl,G.mo,fun H1 G1 f1=>⟨rfl,?_,f1.tkz G.mo⟩⟩⟩;unfold gUp;rw[if_pos hlt];exact G.next f1 G1 rfl rfl rfl rfl rfl rfl rfl rfl rfl
   ·have hlt:¬g.t < lm:=fun z=>hlt (decide_eq_true z);refine⟨rfl,?_,TkZ.refl H⟩;unfold gUp;rw[if_neg hlt];exact G
  ·rintro σ' H1 ⟨rfl,G1,k1⟩;have l11:=k1.t _ _ l1;have eho:(gUp g lm).ho=g.ho:=by unfold gUp;split <;> rfl
   have epl:(gUp g lm).pl=g.pl:=by unfold gUp;split <;> rfl
   have ees:(gUp g lm).es=g.es:=by unfold gUp;split <;> rfl
   have en:(gUp g lm).n=g.n:=by unfold gUp;split <;> rfl
   have enm:(gUp g lm).nm=g.nm:=by unfold gUp;split <;> rfl
   have et:=gUp_t hlm;obtain⟨dx1,h11⟩:=G1.hb;rw[eho]at h11;refine⟨_,rfl,ex4 lt _ _ _ ⟨rfl,rfl,SqT.of l11,at0,(show 3 <= sizeLine by lia),fun p1 H2 n1 s1 e1=>⟨p1,_,rfl,.inr (SqT.of e1),rfl,rfl,_,rfl,?_⟩⟩⟩
   rw[show inV (.str (Str.ofString "rows")) [.str (Str.ofString "saw"),.str (Str.ofString "vote"),.str (Str.ofString "gave")]=false by decide +kernel]
   have k2:=k1.trans (TkZ.of s1);have L2:=L.tkz k2;refine aY ⟨_,rfl,ex3 g.ho dx1 _ ⟨rfl,s1 _ _ h11,gw,_,rfl,H0,gUp g lm,lt,me,fr,to,be,th,up,bt,ms,ys,k,sk,(by show [V.ref g.ho,V.ref lt]=[V.ref (gUp g lm).ho,V.ref lt];rw[eho]),G1.same s1,⟨by rw[et];exact L2.l,L2.e,L2.p,by rw[epl];exact L2.ks,L2.k0,by rw[ees];exact L2.el,by rw[en];exact L2.n⟩,fun a b p H' g' z t=>?_,fun a=>⟨(q.2 a).1,fun kr2 en2 p H' g' z t=>?_⟩⟩⟩
   ·rw[enm,et]at t;exact q.1 a b p H' g' (k2.trans z) t
   ·rw[enm,et]at t;exact(q.2 a).2 kr2 en2 p H' g' (k2.trans z) t
theorem scHear:au ["self","letter"] ["self","letter"] (am vR):=fsc (by decide +kernel)
theorem wN {CL f:Addr} {fd:FuncData} (F:Fun K "hear" "House.hear" vR f fd) (T:ClH K mg CH) (Fc:uP P w K mg base 9 "check_letter" ["thing"] (vQ CL)) (Mh:aW P w K mg base CH 8 "heard" ["self","letter"] (gi K ⟨CH,CM,CT,CW,CR⟩ fun _ _=>True)):aQ P w K mg base CX0 10 f fd ["self","letter"] (gi K ⟨CH,CM,CT,CW,CR⟩ jY):=by
 refine F.ok scHear (fun vs H Q E h=>?_) (fun cdv A outer s H vs Q E hr h=>?_)
 ·obtain⟨H0,g,lt,me,fr,to,lm,be,th,up,bt,ms,ys,k,sk,rfl,_⟩:=h;rfl
 ·obtain⟨H0,g,lt,me,fr,to,lm,be,th,up,bt,ms,ys,k,sk,rfl,G,hlm,L,hok,q⟩:=h;have r8:bj 8 _:=hr.mono (by decide)
  refine⟨_,ae (bG (uQ Fc hr passNo (ad (pv 1) ag))) <| aj (ax (bg Mh T.cl r8 (pv 0) (ad (pv 1) ag))),?_⟩;refine⟨_,rfl,.inl ⟨lt,rfl,hok,fun H1 s1=>?_⟩⟩;obtain⟨dx,h1⟩:=G.hb;exact⟨_,rfl,ex3 g.ho dx _ ⟨rfl,s1 _ _ h1,lY,_,rfl,H0,g,lt,me,fr,to,lm,be,th,up,bt,ms,ys,k,sk,rfl,G.same s1,hlm,L.tkz (TkZ.of s1),trivial,fun a b p H' g' z t=>q.1 a b p H' g' ((TkZ.of s1).trans z) t,fun a=>⟨(q.2 a).1,fun kr2 en2 p H' g' z t=>(q.2 a).2 kr2 en2 p H' g' ((TkZ.of s1).trans z) t⟩⟩⟩
end
end K43
namespace K43
open PySem L2
abbrev wO:Stmt:=aP (top 109) 15
abbrev wP:Stmt:=aP (top 109) 16
def qi(K:Frag)(c:Cs):Sp:=vV K c fun H g Q=>Q (.int g.s) H
def mC(K:Frag)(c:Cs):Sp:=vV K c fun H g Q=>∀(r:Addr)(H':Hp),aq H H'->RowO c.R H' r g.st g.en->Q (.ref r) H'
section
variable{P:Program}{w:World}{K:Frag}{mg:Str->Option Value}{base:Heap}{CH CM CT CW CR:Addr}
theorem scHSet:au ["self"] ["self"] (am wO):=fsc (by decide +kernel)
theorem ok_hset {f:Addr} {fd:FuncData} (F:Fun K "settled" "House.settled" wO f fd) (T:ClH K mg CH) (TM:ClM K mg CM) (Ms:aW P w K mg base CM 1 "settled" ["self"] (io K ⟨CH,CM,CT,CW,CR⟩)):aQ P w K mg base CX0 2 f fd ["self"] (qi K ⟨CH,CM,CT,CW,CR⟩):=by
 refine F.ok scHSet (fun vs H Q E h=>?_) (fun cdv A outer s H vs Q E hr h=>?_)
 ·obtain⟨H0,g,rfl,_⟩:=h;rfl
 ·obtain⟨H0,g,rfl,G,q⟩:=h;refine⟨_,aj <| ax <| aO Ms TM.cl hr (aD (pv 0) rfl),?_⟩;dsimp only[bv,Cx.nox];obtain⟨dx,h1⟩:=G.hb;obtain⟨dy,h2⟩:=G.mo.ob;exact⟨_,rfl,g.ho,CH,dx,_,_,rfl,h1,T.cl,T.n3,gB,g.m,dy,_,rfl,h2,cC,g,rfl,G.mo,q⟩
theorem scHRow:au ["self"] ["self"] (am wP):=fsc (by decide +kernel)
theorem ok_hrow {f:Addr} {fd:FuncData} (F:Fun K "row" "House.row" wP f fd) (T:ClH K mg CH) (TM:ClM K mg CM) (TR:ClR K mg CR) (Mr:aW P w K mg base CM 1 "row" ["self"] (ir K ⟨CH,CM,CT,CW,CR⟩)) (Mi:fe P w K mg base CR 1 ["self","stand","entries"] (iU K CR)):aQ P w K mg base CX0 3 f fd ["self"] (mC K ⟨CH,CM,CT,CW,CR⟩):=by
 refine F.ok scHRow (fun vs H Q E h=>?_) (fun cdv A outer s H vs Q E hr h=>?_)
 ·obtain⟨H0,g,rfl,_⟩:=h;rfl
 ·obtain⟨H0,g,rfl,G,q⟩:=h;have r1:bj 1 _:=hr.mono (by decide)
  refine⟨_,aj <| ax <| cz Mi hr TR.mgC (ad (aD (aO Mr TM.cl r1 (aD (pv 0) rfl)) rfl) (ad (aD (aO Mr TM.cl r1 (aD (pv 0) rfl)) rfl) ag)),?_⟩;dsimp only[bv,Cx.nox];obtain⟨dx,h1⟩:=G.hb;obtain⟨dy,h2⟩:=G.mo.ob;obtain⟨_,dk,h5⟩:=id G.mo.wg.wo;refine⟨_,rfl,g.ho,CH,dx,_,_,rfl,h1,T.cl,T.n3,gB,g.m,dy,_,rfl,h2,dJ,g,rfl,G.mo,g.kr,CR,dk,_,_,rfl,h5,TR.cl,TR.nS,gz,_,rfl,g.ho,CH,dx,_,_,rfl,h1,T.cl,T.n3,gB,g.m,dy,_,rfl,h2,dJ,g,rfl,G.mo,g.kr,CR,dk,_,_,rfl,h5,TR.cl,TR.nE,vy,?_⟩;intro r dr nr nd ndr;have nr':upd H dr (.own r) r=none:=by rw[aw ndr.symm];exact nr
  have s1:aq H (upd (upd H dr (.own r)) r (.ins CR dr [])):=(aq.new nd).trans (aq.new nr');refine⟨r,dr,g.st,g.en,_,rfl,ai,SqT.of (s1 _ _ G.mo.wg.ho),fun H2 b2 e2=>⟨rfl,?_⟩⟩;exact q r H2 (fun c u e=>b2 _ _ (ak e nr) (s1 _ _ e)) ⟨dr,e2⟩
end
open K43T (Kvs Las Wk aS bR cH cu dF aI aT)
abbrev sCR:Stmt:=top 121
theorem mE:bootBuiltins "list"=some (.type "list"):=by decide +kernel
theorem wQ{α:Type}{a b:α}{l:List α}:atI (a :: b :: l) (-1)=atI (b :: l) (-1):=by
 rcases List.eq_nil_or_concat (b :: l) with h | ⟨L,x,h⟩
 ·cases h
 ·rw[List.concat_eq_append]at h;rw[h];exact(fG (a :: L) x).trans (fG L x).symm
theorem rD{H:Hp}{es:List Addr}{xs:List En}(h:Paired (EnO H) es xs):es ≠ []->∃e d hi,atI (es.map V.ref) (-1)=some (.ref e)/\H e=some (.tup [.int hi,.ref d])/\xs.getLast?.map (·.1)=some hi:=by
 induction h with
 | nil=>intro z;exact absurd rfl z
 | cons r t ih =>
  intro _;obtain⟨d,h1,_⟩:=r;cases t with
  | nil=>exact⟨_,d,_,fG [] _,h1,rfl⟩
  | cons r2 t2 =>
   obtain⟨e,d2,hi,g1,g2,g3⟩:=ih (by intro z;cases z)
   refine⟨e,d2,hi,?_,g2,?_⟩
   ·show atI (V.ref _ :: V.ref _ :: List.map V.ref _) (-1)=_;rw[wQ];exact g1
   ·rw[List.getLast?_cons_cons];exact g3
structure qj(xs:List En)(pl tm t s:Int)(C:List En)(keep:Nat)(own fi:Int):Prop where
 k1:(s - pl).toNat <= keep
 k2:keep <= xs.length
 pre:C.take keep=xs.take keep
 gt:∀e ∈ C.drop keep,tm < e.1/\∀x ∈ xs,x.1 < e.1
 good:∀e ∈ C,1 <= e.1/\fw e.2
 ot:t <= own
 f1:pl + keep < fi
 f2:fi <= pl + C.length
 len:C.length <= xs.length + 6
 eb:wj (if tm > 1 then tm else 1) C
def spCR(K:Frag):Sp:=fun us H Q _=>∃(a wt st en b:Addr)(ns:List Int)(sa t s pl tm:Int)(v:V) (hk:List (Key × V)) (hq:List (Str × Int × V)) (es:List Addr) (xs:List En),us=[.ref a,.ref wt,.int sa]/\SqL K H a (ns.map V.int)/\0 <= sa/\H wt=some (.tup [.int t,v,.int s,.ref st,.ref en])/\StE K H s st en pl tm b hk hq es xs/\0 <= tm/\es.length <= 14/\s <= pl + es.length/\wj (if tm > 1 then tm else 1) xs /\
 ∀(p rw:Addr)(cs:List Addr)(C:List En)(keep:Nat)(own fi:Int)(H':Hp),aq H H'->H' p=some (.tup [.ref rw,.int own,.int fi])->H' rw=some (.lst (cs.map V.ref))->H rw=none->Paired (EnO H') cs C->cs.take keep=es.take keep->qj xs pl tm t s C keep own fi->Q (.ref p) H'
abbrev zsR:List Int:=[9,4,2,3]
theorem zsR_ok:∀z ∈ zsR,0 < z/\z < 2 ^ 250:=by decide +kernel
theorem zsD_ok:∀z ∈ zsD,0 < z/\z < 2 ^ 250:=by decide +kernel
theorem dig4R{ds:List Int}(h:Dig ds zsR):∃a b c d:Int,ds=[a,b,c,d]/\(0 <= a/\a < 9)/\(0 <= b/\b < 4)/\(0 <= c/\c < 2)/\(0 <= d/\d < 3):=by
 cases h with
 | cons h1 t=>cases t with
  | cons h2 t=>cases t with
   | cons h3 t=>cases t with
    | cons h4 t=>cases t with
     | nil=>exact(ex4 _ _ _ _ ⟨rfl,h1,h2,h3,h4⟩)
section
variable{P:Program}{w:World}{K:Frag}{mg:Str->Option Value}{base:Heap}
noncomputable abbrev nCR:List Str:=["_law_script","_law_written_here","_law_start","_law_term","_law_vote","_law_settled","_law_stand","_law_entries_here","_law_d","_law_keep","_law_row","_law_high","_law_tail","_law_own","_law_first","_law_k","_law_more"]
noncomputable abbrev pCR:List Str:=["_law_script","_law_written_here","_law_start"]
theorem scCR:au nCR pCR (am sCR):=fsc (by decide +kernel)
theorem ok_cr {f:Addr} {fd:FuncData} (F:Fun K "_law_chair_row" "_law_chair_row" sCR f fd) (hlen:mg "len"=none) (hlist:mg "list"=none) (hmax:mg "max"=none) (hrange:mg "range"=none) (Fc:aV P w K mg base 1 "_law_cell_at" ["_law_script","_law_k"] (ie K)) (Fd:aV P w K mg base 2 "_law_digits" ["_law_cell","_law_sizes"] kU) (Fe:aV P w K mg base 1 "_law_deed" ["_law_d"] jJ) (Fn:aV P w K mg base 3 "_law_entries" rg (l7 K)):aQ P w K mg base CX0 4 f fd pCR (spCR K):=by
 refine F.ok scCR (fun vs H Q E h=>?_) (fun cdv A outer s H vs Q E hr h=>?_)
 ·obtain⟨a,wt,st,en,b,ns,sa,t,s,pl,tm,v,hk,hq,es,xs,rfl,_⟩:=h;rfl
 ·obtain⟨a,wt,st,en,b,ns,sa,t,s,pl,tm,v,hk,hq,es,xs,rfl,hS,sa0,hw,G,tm0,es8,hsl,hB,q⟩:=h;have nd:=scCR.nd;have r1:bj 1 _:=hr.mono (by decide)
  have r2:bj 2 _:=hr.mono (by decide)
  have hu:_ + 1 < cLine:=Nat.lt_of_le_of_lt (Nat.add_le_add_left (show 1 <= 64 by decide) _) hr.units
  have hs16:sizeLine=16777216:=sizeLine_eq;refine⟨_,ae (eO (pv 1) (dg (n:=5) rfl (aF (aA (i:=3) nd rfl (Or.inl rfl)) (aF (aA (i:=4) nd rfl (Or.inl rfl)) (aF (aA (i:=5) nd rfl (Or.inl rfl)) (aF (aA (i:=6) nd rfl (Or.inl rfl)) (aF (aA (i:=7) nd rfl (Or.inl rfl)) cn))))))) <|
   ae (aC (i:=8) nd rfl (Or.inl rfl) (ge Fd r2 (aB Fc r1 (ad (pv 0) (ad (pv 2) ag))) (di (di (di (di bY)))))) <|
   ae (aC (i:=9) nd rfl (Or.inl rfl) (aE bn (aE bV (pv 5) (ar ao (pv 6) af (fun _ _=>rfl))) (aE cX (ar bc (pv 8) af (fun _ _=>rfl)) (aE bn (aE bV (aE bn (az aL (by rfl) hlen PySem.boot_len (ad (pv 7) ag)) (ar ao (pv 6) af (fun _ _=>rfl))) (pv 5)) af)))) <|
   ae (aC (i:=10) nd rfl (Or.inl rfl) (bh fc (by rfl) hlist mE (ad (bM cK (pv 7) cv (bQ (pv 9))) ag))) <|
   ae (aC (i:=11) nd rfl (Or.inl rfl) (ar ao (pv 6) af (fun _ _=>rfl))) <|
   ae (cM (aX (aH (op_neT0 hu) (pv 7) (aR ag) (aG _)) (aj (aC (i:=11) nd rfl (Or.inl rfl) (ar ao (ar ao (pv 7) (m9 jc af) (fun _ _=>rfl)) af (fun _ _=>rfl)))) aK)) <|
   ae (aC (i:=12) nd rfl (Or.inl rfl) (aB Fn hr (ad (pv 0) (ad (aE bn (pv 2) af) (ad (ar bc (pv 8) af (fun _ _=>rfl)) (ad (pv 11) (ad (aE bn (pv 11) af) ag))))))) <|
   ae (cM (aX (aH (ux hu) (pv 12) (cL ag) (aG _)) (aj (aC (i:=11) nd rfl (Or.inl rfl) (ar ao (ar bc (pv 12) (m9 jc af) (fun _ _=>rfl)) af (fun _ _=>rfl)))) aK)) <|
   ae (aC (i:=13) nd rfl (Or.inl rfl) (az (eE rfl) (by rfl) hmax kW (ad (aE bn (pv 3) (ar bc (pv 8) af (fun _ _=>rfl))) (ad (aE bn (pv 11) af) ag)))) <|
   ae (aC (i:=10) nd rfl (Or.inl rfl) (aE iR (aE iR (pv 10) (pv 12)) (eL (wa_t (de (fA (pv 13) (wa_t (de (d8 bY)) bY))) bY)))) <|
   ae (aC (i:=14) nd rfl (Or.inl rfl) (aE bn (ar ao (pv 6) af (fun _ _=>rfl)) (az aL (by rfl) hlen PySem.boot_len (ad (pv 10) ag)))) <|
   ae (dY PassesOwn.never rfl (eC (by rfl) hrange (ad (ar bc (pv 8) af (fun _ _=>rfl)) ag)) (aA (i:=15) nd rfl (Or.inl rfl)) <|
    ae (aC (i:=16) nd rfl (Or.inl rfl) (ge Fd r2 (aB Fc r1 (ad (pv 0) (ad (aE bn (aE bn (pv 2) af) (pv 15)) ag))) (di (di (di (di (iE (aE dH af (aE jb af af)) bY))))))) <|
    aj (bG (kj PySem.F.plainAttrs_list PySem.F.slot_list_append PySem.F.type_list_append ga (pv 10) (ad (de (fA (pv 13) (wa_c (aB Fe r1 (ad (pv 16) ag)) bY))) ag)))) <|
   aj (ax (de (fA (pv 10) (fA (pv 13) (fA (pv 14) bY))))),?_⟩
  dsimp only[bv,Cx.nox];obtain⟨hh,aa,oo,pps,pas,hst,_⟩:=id G.so;have hen:=G.ho;have hps:=G.ps;have hxl:es.length=xs.length:=Paired.length G.eo;refine ah fun K_ hK_=>?_;refine⟨_,rfl,wt,_,rfl,SqT.of hw,rfl,_,_,rfl,_,_,rfl,_,_,rfl,_,cJ rfl rfl rfl ?_⟩;refine hK_ _ _ (ah fun K_ hK_=>?_);refine(rd2 rfl rfl (ex3 a ns _ ⟨rfl,hS,sa0,fun z=>⟨(show 4 <= sizeLine by lia),fun la H1 n1 s1 e1=>(ex3 z la zsR ⟨rfl,e1,zsR_ok,(by decide),fun pd ds H2 s2 n2 e2 hD=>?_⟩)⟩⟩))
  obtain⟨d0,d1,d2,d3,rfl,⟨a0,a1⟩,⟨b0,b1⟩,⟨c0,c1⟩,g0,g1⟩:=dig4R hD;have s02:=s1.trans s2;refine hK_ _ _ (ah fun K_ hK_=>?_);refine⟨_,rfl,_,rfl,ex4 st _ _ _ ⟨rfl,rfl,SqT.of (s02 _ _ hst),at0,_,_,rfl,rfl,_,rfl,ex4 pd _ _ _ ⟨rfl,rfl,SqL.of e2,at0,_,rfl,en,_,rfl,.inr (SqT.of (s02 _ _ hen)),_,rfl,ex4 st _ _ _ ⟨rfl,rfl,SqT.of (s02 _ _ hst),at0,_,_,rfl,rfl,_,rfl,_,_,rfl,rfl,_,_,rfl,rfl,_,_,rfl,rfl,?_,_,_,rfl,rfl,?_⟩⟩⟩⟩
  ·rw[length_map];lia
  have kb0:=Int.emod_nonneg d0 (show ((es.map V.ref).length:Int) + pl - s + 1 ≠ 0 by rw[length_map];lia)
  have kb1:=Int.emod_lt_of_pos d0 (show 0 < ((es.map V.ref).length:Int) + pl - s + 1 by rw[length_map];lia)
  obtain⟨keep,hkp⟩:=Int.eq_ofNat_of_zero_le (show 0 <= s - pl + d0 % (((es.map V.ref).length:Int) + pl - s + 1) by lia)
  refine hK_ _ _ (ah fun K_ hK_=>?_);dsimp only;rw[hkp];have kp1:(s - pl).toNat <= keep:=by lia
  have kp2:keep <= es.length:=by rw[length_map]at kb1 hkp;lia
  clear hkp kb0 kb1;refine(rd3 rfl rfl rfl ⟨en,_,rfl,s02 _ _ hen,fun c3 H3 s3 e3=>?_⟩);rw[oj,<- List.map_take]at e3;refine⟨c3,_,rfl,.inr (SqT.of e3),fun rw0 H4 n4 s4 e4=>?_⟩;have s04:=s02.trans (s3.trans s4);have pd4:=(s3.trans s4) _ _ e2;refine hK_ _ _ (ah fun K_ hK_=>?_);refine⟨_,rfl,ex4 st _ _ _ ⟨rfl,rfl,SqT.of (s04 _ _ hst),at1,?_⟩⟩;obtain⟨hBg,hi,hBh,hBl⟩:=id hB;have htm:∀e ∈ xs,tm <= e.1:=fun e he=>by
   have:=(hBg e he).1;split at this <;> lia
  refine hK_ _ _ (ah fun K_ hK_=>?_);refine⟨fun σ' H'=>∃hg:Int,σ'=[some (.ref a),some (.ref wt),some (.int sa),some (.int t),some v,some (.int s),some (.ref st),some (.ref en),some (.ref pd),some (.int (keep:Int)),some (.ref rw0),some (.int hg),none,none,none,none,none]/\aq H4 H'/\tm <= hg/\∀x ∈ xs,x.1 <= hg,?_,?_⟩
  ·refine⟨_,rfl,Nat.zero_le _,fun c5 H5 n5 s5 e5=>(ex3 en c5 _ ⟨rfl,rfl,SqT.of (s5 _ _ (s04 _ _ hen)),SqT.of e5,_,rfl,bN (fun hz=>?_) (fun hz=>?_)⟩)⟩
   ·have hne:es ≠ []:=fun z=>by rw[z]at hz;cases hz
    obtain⟨e,d,hl,l1,l2,l3⟩:=rD (bB (Tk.of (s04.trans s5)) G.eo) hne;have hxn:xs ≠ []:=fun z=>by rw[z]at hxl;exact hne (List.length_eq_zero_iff.mp hxl)
    have hlh:hl=hi:=by
     have:=hBl hxn;rw[l3]at this;exact Option.some.inj this
    refine⟨_,rfl,_,rfl,ex4 en _ _ _ ⟨rfl,rfl,SqT.of (s5 _ _ (s04 _ _ hen)),l1,e,_,_,_,rfl,rfl,SqT.of l2,at0,hl,rfl,s5,?_,fun x hx=>by rw[hlh];exact hBh x hx⟩⟩
    rw[hlh];obtain⟨x,r,rfl⟩:∃x r,xs=x :: r:=by
     cases xs with
     | nil=>exact absurd rfl hxn
     | cons x r=>exact⟨x,r,rfl⟩
    have h1:=htm x (List.mem_cons_self ..);have h2:=hBh x (List.mem_cons_self ..);lia
   ·have hxn:xs=[]:=by
     have:es=[]:=by
      cases es with
      | nil=>rfl
      | cons e r=>exact absurd rfl hz
     rw[this]at hxl;exact List.length_eq_zero_iff.mp hxl.symm
    exact⟨tm,rfl,s5,Int.le_refl _,fun x hx=>by rw[hxn]at hx;cases hx⟩
  rintro σ' H5 ⟨hg,rfl,s5,hg1,hg2⟩;have s05:=s04.trans s5;have pd5:=s5 _ _ pd4;refine hK_ _ _ (ah fun K_ hK_=>?_);refine(eA rfl rfl rfl rfl ⟨_,rfl,ex4 pd _ _ _ ⟨rfl,rfl,SqL.of pd5,at1,eA rfl rfl rfl rfl ⟨a,ns,sa + 1,d1,hg,hg + 1,rfl,s05.seq hS,by lia,b0,by lia,by lia,fun tl et xt H6 s6 n6 e6 het hetl het1 hetB=>?_⟩⟩⟩)
  have s06:=s05.trans s6;obtain⟨hTg,hi2,hTh,hTl⟩:=id hetB;have hxtl:et.length=xt.length:=Paired.length het;refine hK_ _ _ (ah fun K_ hK_=>?_);refine⟨fun σ' H'=>∃hg':Int,σ'=[some (.ref a),some (.ref wt),some (.int sa),some (.int t),some v,some (.int s),some (.ref st),some (.ref en),some (.ref pd),some (.int (keep:Int)),some (.ref rw0),some (.int hg'),some (.ref tl),none,none,none,none]/\aq H6 H'/\hg <= hg'/\∀x ∈ xt,x.1 <= hg',?_,?_⟩
  ·refine⟨_,rfl,Nat.zero_le _,fun c7 H7 n7 s7 e7=>(ex3 tl c7 _ ⟨rfl,rfl,SqL.of (s7 _ _ e6),SqL.of e7,_,rfl,bN (fun hz=>?_) (fun hz=>?_)⟩)⟩
   ·have hne:et ≠ []:=fun z=>by rw[z]at hz;cases hz
    obtain⟨e,d,hl,l1,l2,l3⟩:=rD (bB (Tk.of s7) het) hne;have hxn:xt ≠ []:=fun z=>by rw[z]at hxtl;exact hne (List.length_eq_zero_iff.mp hxtl)
    have hlh':hl=hi2:=by
     have:=hTl hxn;rw[l3]at this;exact Option.some.inj this
    refine⟨_,rfl,_,rfl,ex4 tl _ _ _ ⟨rfl,rfl,SqL.of (s7 _ _ e6),l1,e,_,_,_,rfl,rfl,SqT.of l2,at0,hl,rfl,s7,?_,fun x hx=>by rw[hlh'];exact hTh x hx⟩⟩
    rw[hlh'];obtain⟨x,r,rfl⟩:∃x r,xt=x :: r:=by
     cases xt with
     | nil=>exact absurd rfl hxn
     | cons x r=>exact⟨x,r,rfl⟩
    have h1:=(hTg x (List.mem_cons_self ..)).1;have h2:=hTh x (List.mem_cons_self ..);lia
   ·have het0:et=[]:=by
     cases et with
     | nil=>rfl
     | cons e r=>exact absurd rfl hz
    have hxt0:xt=[]:=by
     rw[het0]at hxtl;exact List.length_eq_zero_iff.mp hxtl.symm
    exact⟨hg,rfl,s7,Int.le_refl _,fun x hx=>by rw[hxt0]at hx;cases hx⟩
  rintro σ' H7 ⟨hg',rfl,s7,hgg,hxg⟩;have s07:=s06.trans s7;have pd7:=s7 _ _ (s6 _ _ pd5);refine hK_ _ _ (ah fun K_ hK_=>?_);refine⟨_,rfl,_,rfl,ex4 pd _ _ _ ⟨rfl,rfl,SqL.of pd7,eP,_,_,rfl,rfl,_,rfl,_,_,rfl,rfl,_,_,rfl,?_⟩⟩;have own1:t <= (if hg' + 1 > t + d2 then hg' + 1 else t + d2)/\hg' < (if hg' + 1 > t + d2 then hg' + 1 else t + d2):=by split <;> lia
  refine hK_ _ _ (ah fun K_ hK_=>?_);generalize (if hg' + 1 > t + d2 then hg' + 1 else t + d2)=own at own1
  obtain⟨ow1,ow2⟩:=own1;have rw7:H7 rw0=some (.lst ((es.take keep).map V.ref)):=s7 _ _ (s6 _ _ (s5 _ _ e4));have tkl:(es.take keep).length=keep:=by rw[length_take];lia
  refine(rd2 rfl rfl (ex4 rw0 tl _ _ ⟨rfl,rfl,rw7,s7 _ _ e6,(by rw[length_map,length_map,tkl];lia),fun rw1 H8 n8 s8 e8=>?_⟩))
  refine⟨_,rfl,(show 1 <= sizeLine by lia),fun f0 H9 n9 s9 e9=>⟨(show 2 <= sizeLine by lia),fun f1 H10 n10 s10 e10=>⟨(show 1 <= sizeLine by lia),fun l2 H11 n11 s11 e11=>?_⟩⟩⟩
  refine(ex4 rw1 l2 _ _ ⟨rfl,rfl,s11 _ _ (s10 _ _ (s9 _ _ e8)),e11,(by rw[length_append,length_map,length_map,tkl];show keep + et.length + 1 <= _;lia),fun rw H12 n12 s12 e12=>?_⟩)
  have e12:H12 rw=some (.lst ((es.take keep ++ et ++ [f1]).map V.ref)):=by rw[e12,List.map_append,List.map_append];rfl
  have s7B:=s8.trans (s9.trans (s10.trans (s11.trans s12)));have s0B:=s07.trans s7B;have pdB:=s7B _ _ pd7;have rwH:H rw=none:=(s07.trans (s8.trans (s9.trans (s10.trans s11)))).free n12;refine hK_ _ _ (ah fun K_ hK_=>?_);refine⟨_,rfl,ex4 st _ _ _ ⟨rfl,rfl,SqT.of (s0B _ _ hst),at0,_,rfl,rw,_,rfl,.inl (SqL.of e12),_,_,rfl,rfl,?_⟩⟩;refine hK_ _ _ (ah fun K_ hK_=>?_);rw[length_map];have hP0:Paired (EnO H12) (es.take keep ++ et ++ [f1]) (xs.take keep ++ xt ++ [(own,none)]):=Paired.catS (Paired.catS (Paired.take' (bB (Tk.of s0B) G.eo) _) (bB (Tk.of (s7.trans s7B)) het)) (.cons ⟨f0,(s11.trans s12) _ _ e10,(s10.trans (s11.trans s12)) _ _ e9⟩ .nil);have hL0:(es.take keep ++ et ++ [f1]).length=keep + et.length + 1:=by rw[length_append,length_append,tkl];rfl
  rw[hL0];refine⟨_,rfl,ex4 pd _ _ _ ⟨rfl,rfl,SqL.of pdB,fP,d3,rfl,by lia,by lia,fX (lo:=0) (n:=d3.toNat) (fun i σ Hx=>∃(v15 v16:Option V)(cs:List Addr)(C:List En),σ=[some (.ref a),some (.ref wt),some (.int sa),some (.int t),some v,some (.int s),some (.ref st),some (.ref en),some (.ref pd),some (.int (keep:Int)),some (.ref rw),some (.int hg'),some (.ref tl),some (.int own),some (.int (pl + ((keep + et.length + 1:Nat):Int))),v15,v16]/\Hx rw=some (.lst ((es.take keep ++ et ++ [f1] ++ cs).map V.ref))/\Paired (EnO Hx) cs C/\cs.length=i/\(∀e ∈ C,e.1=own/\fw e.2)/\aq H Hx/\Tk H12 Hx) ⟨none,none,[],[],rfl,by rw[List.append_nil];exact e12,.nil,rfl,fun e h=>(nomatch h),s0B,Tk.refl _⟩ ?_ ?_⟩⟩
  ·rintro i σ Hx hi ⟨v15,v16,cs,C,rfl,h1,h2,h3,h4,h5,h6⟩;refine⟨_,rfl,_,rfl,_,_,rfl,rfl,_,rfl,_,_,rfl,rfl,ex3 a ns _ ⟨rfl,h5.seq hS,by lia,fun z=>?_⟩⟩
   refine⟨_,_,rfl,rfl,⟨by decide,by decide,by decide⟩,_,_,rfl,rfl,.inl ⟨by decide,by decide⟩,(show 5 <= sizeLine by lia),fun la2 Ha na sa' ea=>(ex3 z la2 zsD ⟨rfl,ea,zsD_ok,(by decide),fun pm ds Hb sb nb eb hD2=>?_⟩)⟩
   have sxb:=sa'.trans sb;refine⟨_,rfl,.inl ⟨rfl,_,SqL.of (sxb _ _ h1)⟩,rd2 rfl rfl ⟨pm,ds,rfl,eb,hD2,fun pq x n wk Hc sc hdd hgd=>⟨(show 2 <= sizeLine by lia),fun c Hd nd' sd ed=>?_⟩⟩⟩
   have sxd:=sxb.trans (sc.trans sd);have hl20:(es.take keep ++ et ++ [f1] ++ cs).length <= 1000:=by rw[length_append,hL0];lia
   refine(ex3 rw _ _ ⟨rfl,rfl,sxd _ _ h1,by rw[length_map];exact hl20,fun He ke ee=>?_⟩)
   have hrwd:=sxd _ _ h1;have tke:Tk Hd He:=fun b ys e=>ke _ _ (aN e hrwd (by intro z;cases z)) e
   have tkx:Tk Hx He:=(Tk.of sxd).trans tke;refine⟨_,_,cs ++ [c],C ++ [(own,some (x,n,wk))],rfl,?_,PySem.Paired.snoc (bB tkx h2) ⟨pq,tke _ _ ed,(hdd.tk (Tk.of sd)).tk tke⟩,by rw[length_append,h3];rfl,fun e he=>?_,fun b o e=>ke _ _ (ak e rwH) (sxd _ _ (h5 _ _ e)),h6.trans tkx⟩
   ·rw[ee,<- List.append_assoc,List.map_append (l₂:=[c])];rfl
   ·rcases mem_append.mp he with h | h
    ·exact h4 e h
    ·rw[List.mem_singleton.mp h];exact⟨rfl,hgd⟩
  ·rintro σ Hx ⟨v15,v16,cs,C,rfl,h1,h2,h3,h4,h5,h6⟩;refine hK_ _ _ ?_;refine(rd3 rfl rfl rfl ⟨(show 3 <= sizeLine by lia),fun p Hz nz sz ez=>?_⟩)
   have hCl:cs.length=C.length:=Paired.length h2;have hxk:(xs.take keep).length=keep:=by rw[length_take];lia
   refine q p rw _ (xs.take keep ++ xt ++ [(own,none)] ++ C) keep own _ Hz (h5.trans sz) ez (sz _ _ h1) rwH (Paired.catS (bB (h6.trans (Tk.of sz)) hP0) (bB (Tk.of sz) h2)) ?_ ⟨kp1,by lia,?_,fun e he=>?_,fun e he=>?_,ow1,by lia,?_,?_,fun e he=>?_,own,fun e he=>?_,fun _=>?_⟩
   ·rw[List.append_assoc,List.append_assoc,List.take_append_of_le_length (by lia),take_of_length_le (by lia)]
   ·rw[List.append_assoc,List.append_assoc,List.take_append_of_le_length (by lia),take_of_length_le (by lia)]
   ·rw[List.append_assoc,List.append_assoc,List.drop_append_of_le_length (by lia),List.drop_of_length_le (by lia),List.nil_append]at he
    have key:hg < e.1:=by
     rcases mem_append.mp he with h | h
     ·have:=(hTg e h).1;lia
     ·rcases mem_append.mp h with h | h
      ·rw[List.mem_singleton.mp h];show hg < own;lia
      ·rw[(h4 e h).1];lia
    exact⟨by lia,fun x hx=>by have:=hg2 x hx;lia⟩
   ·rcases mem_append.mp he with h | h
    ·rcases mem_append.mp h with h | h
     ·rcases mem_append.mp h with h | h
      ·have:=hBg e (List.mem_of_mem_take h);exact⟨by have:=this.1;split at this <;> lia,this.2⟩
      ·exact⟨het1 e h,(hTg e h).2⟩
     ·rw[List.mem_singleton.mp h];exact⟨by show 1 <= own;lia,trivial⟩
    ·exact⟨by rw[(h4 e h).1];lia,(h4 e h).2⟩
   ·simp only[length_append,length_cons,List.length_nil,hxk];lia
   ·simp only[length_append,length_cons,List.length_nil,hxk];lia
   ·have hT1:(if tm > 1 then tm else 1) <= hg + 1:=by split <;> lia
    rcases mem_append.mp he with h | h
    ·rcases mem_append.mp h with h | h
     ·rcases mem_append.mp h with h | h
      ·exact hBg e (List.mem_of_mem_take h)
      ·have:=hTg e h;exact⟨by lia,this.2⟩
     ·rw[List.mem_singleton.mp h];exact⟨by show _ <= own;lia,trivial⟩
    ·exact⟨by rw[(h4 e h).1];lia,(h4 e h).2⟩
   ·rcases mem_append.mp he with h | h
    ·rcases mem_append.mp h with h | h
     ·rcases mem_append.mp h with h | h
      ·have:=hg2 e (List.mem_of_mem_take h);lia
      ·have:=hxg e h;lia
     ·rw[List.mem_singleton.mp h];exact Int.le_refl _
    ·rw[(h4 e h).1];exact Int.le_refl _
   ·cases hC:C.getLast? with
    | none =>
     rw[List.getLast?_eq_none_iff.mp hC,List.append_nil,List.getLast?_concat];rfl
    | some e =>
     rw[List.getLast?_append,hC];show some e.1=some own;rw[(h4 e (List.mem_of_getLast? hC)).1]
end
end K43
namespace K43
open PySem L2
open K43B (aZ)
abbrev sTA:Stmt:=top 122
def qk(L:Hp->Addr->List V->Prop):Sp:=fun us H Q _=>∃(st el b hh aa:Addr)(pl tm p:Int)(es:List Addr)(xs:List En),us=[.ref st,.ref el,.int p]/\H st=some (.tup [.int pl,.int tm,.ref b,.ref hh,.ref aa])/\L H el (es.map V.ref)/\Paired (EnO H) es xs/\Q (aZ pl tm (ay xs) p) H
def asL(H:Hp)(a:Addr)(xs:List V):Prop:=H a=some (.lst xs)
def asT(H:Hp)(a:Addr)(xs:List V):Prop:=H a=some (.tup xs)
theorem mF{H:Hp}{es:List Addr}{xs:List En}(h:Paired (EnO H) es xs){pl tm p:Int}(h1:pl < p)(h2:p <= pl + es.length):∃e d tt,atI (es.map V.ref) (p - pl - 1)=some (.ref e)/\H e=some (.tup [.int tt,.ref d])/\aZ pl tm (ay xs) p=.int tt:=by
 obtain⟨k,hk⟩:=Int.eq_ofNat_of_zero_le (show 0 <= p - pl - 1 by lia)
 have hl:es.length=xs.length:=Paired.length h;have hke:k < es.length:=by lia
 have hkx:k < xs.length:=by lia
 have ht:(ay xs)[k]?=some xs[k].1:=by rw[getElem?_map,getElem?_eq_getElem hkx];rfl
 obtain⟨d,hd⟩:=jQ h k es[k] xs[k].1 (getElem?_eq_getElem hke) ht;refine⟨es[k],d,xs[k].1,by rw[hk];exact bW (by rw[getElem?_map,getElem?_eq_getElem hke];rfl),hd,?_⟩
 unfold aZ;rw[if_neg (by lia),if_neg (by rw[length_map];lia),hk,Int.toNat_natCast,getD_eq_getElem?_getD,ht]
 rfl
section
variable{P:Program}{w:World}{K:Frag}{mg:Str->Option Value}{base:Heap}
noncomputable abbrev nTA:List Str:=["_law_stand","_law_entries_here","_law_place"]
theorem scTA:au nTA nTA (am sTA):=fsc (by decide +kernel)
theorem ok_taL {f:Addr} {fd:FuncData} (F:Fun K "_law_term_at" "_law_term_at" sTA f fd) (hlen:mg "len"=none):aQ P w K mg base CX0 1 f fd nTA (qk asL):=by
 refine F.ok scTA (fun vs H Q E h=>?_) (fun cdv A outer s H vs Q E hr h=>?_)
 ·obtain⟨st,el,b,hh,aa,pl,tm,p,es,xs,rfl,_⟩:=h;rfl
 ·obtain⟨st,el,b,hh,aa,pl,tm,p,es,xs,rfl,hst,hel,hP,q⟩:=h;refine⟨_,ae (aX (aH cj (pv 2) (ar ao (pv 0) af (fun _ _=>rfl)) (aG _)) (aj (ax (ar ao (pv 0) af (fun _ _=>rfl)))) aK) <|
   ae (aX (nj fj qD (ar ao (pv 0) af (fun _ _=>rfl)) (pv 2) (aE bn (ar ao (pv 0) af (fun _ _=>rfl)) (az aL (by rfl) hlen PySem.boot_len (ad (pv 1) ag)))) (aj (ax (ar ao (ar bc (pv 1) (aE bV (aE bV (pv 2) (ar ao (pv 0) af (fun _ _=>rfl))) af) (fun _ _=>rfl)) af (fun _ _=>rfl)))) aK) <|
   aj (ax cU),?_⟩
  dsimp only[bv,Cx.nox];have hx:SqL K H el (es.map V.ref):=SqL.of hel;refine(rd2 rfl rfl (ex4 st _ _ _ ⟨rfl,rfl,SqT.of hst,at0,rfl,_,rfl,bN (fun hz=>?_) (fun hz=>?_)⟩))
  ·have hz:V.int p=V.int pl:=of_decide_eq_true hz;have hz:p=pl:=by injection hz
   refine⟨_,rfl,ex4 st _ _ _ ⟨rfl,rfl,SqT.of hst,at1,?_⟩⟩;unfold aZ at q;rw[if_pos hz]at q;exact q
  have hz:¬p=pl:=fun z=>hz (decide_eq_true (by rw[z]))
  refine⟨_,rfl,ex4 st _ _ _ ⟨rfl,rfl,SqT.of hst,at0,cJ rfl rfl rfl ⟨_,rfl,bN (fun h1=>?_) (fun h1=>?_)⟩⟩⟩
  ·have h1:=of_decide_eq_true h1;refine⟨_,rfl,ex4 st _ _ _ ⟨rfl,rfl,SqT.of hst,at0,_,rfl,el,_,rfl,.inl hx,_,_,rfl,rfl,_,_,rfl,rfl,_,rfl,bN (fun h2=>?_) (fun h2=>?_)⟩⟩
   ·have h2:=of_decide_eq_true h2;rw[length_map]at h2;obtain⟨e,d,tt,l1,l2,l3⟩:=mF (tm:=tm) hP h1 h2;rw[l3]at q;exact⟨_,rfl,_,rfl,_,rfl,ex4 st _ _ _ ⟨rfl,rfl,SqT.of hst,at0,_,_,rfl,rfl,_,_,rfl,rfl,ex4 el _ _ _ ⟨rfl,rfl,hx,l1,e,_,_,_,rfl,rfl,SqT.of l2,at0,q⟩⟩⟩
   ·have h2:¬p <= pl + (es.length:Int):=fun z=>h2 (decide_eq_true (by rw[length_map];exact z))
    rw[K43B.bX _ _ _ (.inr (by rw[length_map,<- Paired.length hP];lia))]at q
    exact q
  ·have h1:¬pl < p:=fun z=>h1 (decide_eq_true z);rw[K43B.bX _ _ _ (.inl (by lia))]at q
   exact⟨_,rfl,aY q⟩
theorem ok_taT {f:Addr} {fd:FuncData} (F:Fun K "_law_term_at" "_law_term_at" sTA f fd) (hlen:mg "len"=none):aQ P w K mg base CX0 1 f fd nTA (qk asT):=by
 refine F.ok scTA (fun vs H Q E h=>?_) (fun cdv A outer s H vs Q E hr h=>?_)
 ·obtain⟨st,el,b,hh,aa,pl,tm,p,es,xs,rfl,_⟩:=h;rfl
 ·obtain⟨st,el,b,hh,aa,pl,tm,p,es,xs,rfl,hst,hel,hP,q⟩:=h;refine⟨_,ae (aX (aH cj (pv 2) (ar ao (pv 0) af (fun _ _=>rfl)) (aG _)) (aj (ax (ar ao (pv 0) af (fun _ _=>rfl)))) aK) <|
   ae (aX (nj fj qD (ar ao (pv 0) af (fun _ _=>rfl)) (pv 2) (aE bn (ar ao (pv 0) af (fun _ _=>rfl)) (az aL (by rfl) hlen PySem.boot_len (ad (pv 1) ag)))) (aj (ax (ar ao (ar ao (pv 1) (aE bV (aE bV (pv 2) (ar ao (pv 0) af (fun _ _=>rfl))) af) (fun _ _=>rfl)) af (fun _ _=>rfl)))) aK) <|
   aj (ax cU),?_⟩
  dsimp only[bv,Cx.nox];have hx:SqT K H el (es.map V.ref):=SqT.of hel;refine(rd2 rfl rfl (ex4 st _ _ _ ⟨rfl,rfl,SqT.of hst,at0,rfl,_,rfl,bN (fun hz=>?_) (fun hz=>?_)⟩))
  ·have hz:V.int p=V.int pl:=of_decide_eq_true hz;have hz:p=pl:=by injection hz
   refine⟨_,rfl,ex4 st _ _ _ ⟨rfl,rfl,SqT.of hst,at1,?_⟩⟩;unfold aZ at q;rw[if_pos hz]at q;exact q
  have hz:¬p=pl:=fun z=>hz (decide_eq_true (by rw[z]))
  refine⟨_,rfl,ex4 st _ _ _ ⟨rfl,rfl,SqT.of hst,at0,cJ rfl rfl rfl ⟨_,rfl,bN (fun h1=>?_) (fun h1=>?_)⟩⟩⟩
  ·have h1:=of_decide_eq_true h1;refine⟨_,rfl,ex4 st _ _ _ ⟨rfl,rfl,SqT.of hst,at0,_,rfl,el,_,rfl,.inr hx,_,_,rfl,rfl,_,_,rfl,rfl,_,rfl,bN (fun h2=>?_) (fun h2=>?_)⟩⟩
   ·have h2:=of_decide_eq_true h2;rw[length_map]at h2;obtain⟨e,d,tt,l1,l2,l3⟩:=mF (tm:=tm) hP h1 h2;rw[l3]at q;exact⟨_,rfl,_,rfl,_,rfl,ex4 st _ _ _ ⟨rfl,rfl,SqT.of hst,at0,_,_,rfl,rfl,_,_,rfl,rfl,ex4 el _ _ _ ⟨rfl,rfl,hx,l1,e,_,_,_,rfl,rfl,SqT.of l2,at0,q⟩⟩⟩
   ·have h2:¬p <= pl + (es.length:Int):=fun z=>h2 (decide_eq_true (by rw[length_map];exact z))
    rw[K43B.bX _ _ _ (.inr (by rw[length_map,<- Paired.length hP];lia))]at q
    exact q
  ·have h1:¬pl < p:=fun z=>h1 (decide_eq_true z);rw[K43B.bX _ _ _ (.inl (by lia))]at q
   exact⟨_,rfl,aY q⟩
end
open K43T (Wk)
abbrev sRw:Stmt:=top 123
theorem nm_b:Nm "b":=nm_bS
theorem jS{H:Hp}(z:Int):Im H (.int z):=⟨.inl rfl,fun z e=>by cases e⟩
theorem wR {H:Hp} {t e:Addr} {n1 n2:Str} {a b c g h:Int} {xs:List V} (ht:H t=some (.tup [.str "rows",.str n1,.str n2,.int a,.int b,.int c,.ref e,.int g,.int h])) (m1:Nm n1) (m2:Nm n2) (a0:0 <= a) (b0:0 <= b) (c0:0 <= c) (g0:0 <= g) (h0:0 <= h) (he:H e=some (.tup xs)) (hl:xs.length <= 60) (hx:∀y ∈ xs,EnV H y true):jY H t:=by
 refine⟨"rows",["whole","whole","entries","whole","whole"],_,by decide +kernel,ht,rfl,fun i s p hs hp=>?_,fun z=>absurd z (by decide +kernel)⟩
 match i,hs,hp with
 | 0,hs,hp=>cases hs;cases hp;exact .name m1
 | 1,hs,hp=>cases hs;cases hp;exact .name m2
 | 2,hs,hp=>cases hs;cases hp;exact .whole a0
 | 3,hs,hp=>cases hs;cases hp;exact .whole b0
 | 4,hs,hp=>cases hs;cases hp;exact .whole c0
 | 5,hs,hp=>cases hs;cases hp;exact .entries he hl hx
 | 6,hs,hp=>cases hs;cases hp;exact .whole g0
 | 7,hs,hp=>cases hs;cases hp;exact .whole h0
 | i + 8,hs,_=>cases hs
theorem wS {H:Hp} {c d:Addr} {h:Int} (hc:H c=some (.tup [.int h,.ref d])) (hd:H d=some (.tup [.str "first"])) (h1:1 <= h):EnV H (.ref c) true:=by
 have hdd:=DdV.first (r:=[]) hd (by decide)
 have:=EnV.two hc (jS h) hdd;rw[show gA 1 (.int h)=true from decide_eq_true h1]at this;exact this
theorem good_w{H:Hp}{t:Addr}{wk:Wk}(ht:H t=some (.tup wk.vs))(g:GoodW wk):WAt H (.ref t) (some wk.vs)/\wkB (some wk.vs)=true:=by
 cases wk with
 | put k z =>
  obtain⟨g1,g2,g3⟩:=g;refine⟨.tup ht (by show 3 <= 60;decide) fun v hv=>?_,?_⟩
  ·simp only[K43T.Wk.vs,List.mem_cons,not_mem_nil,or_false]at hv;rcases hv with rfl | rfl | rfl
   ·exact⟨Im.str (by decide +kernel),fun i e=>by cases e⟩
   ·exact⟨Im.nm g1,fun i e=>by cases e⟩
   ·exact⟨jS z,fun i e=>by cases e;exact⟨g2,g3⟩⟩
  ·show (nmB (.str k) && ((decide (V.str (Str.ofString "put")=.str "put") || _) && true))=true;rw[jw g1,decide_eq_true rfl];rfl
 | add k z =>
  obtain⟨g1,g2,g3⟩:=g;refine⟨.tup ht (by show 3 <= 60;decide) fun v hv=>?_,?_⟩
  ·simp only[K43T.Wk.vs,List.mem_cons,not_mem_nil,or_false]at hv;rcases hv with rfl | rfl | rfl
   ·exact⟨Im.str (by decide +kernel),fun i e=>by cases e⟩
   ·exact⟨Im.nm g1,fun i e=>by cases e⟩
   ·exact⟨jS z,fun i e=>by cases e;exact⟨g2,g3⟩⟩
  ·show (nmB (.str k) && ((decide (V.str (Str.ofString "add")=.str "put") || decide (V.str (Str.ofString "add")=.str "add")) && true))=true;rw[jw g1,decide_eq_true (show V.str (Str.ofString "add")=.str "add" from rfl),Bool.or_true];rfl
 | drop k =>
  refine⟨.tup ht (by show 2 <= 60;decide) fun v hv=>?_,?_⟩
  ·simp only[K43T.Wk.vs,List.mem_cons,not_mem_nil,or_false]at hv;rcases hv with rfl | rfl
   ·exact⟨Im.str (by decide +kernel),fun i e=>by cases e⟩
   ·exact⟨Im.nm g,fun i e=>by cases e⟩
  ·show (nmB (.str k) && decide (V.str (Str.ofString "drop")=.str "drop"))=true;rw[jw g,decide_eq_true rfl];rfl
theorem good_en{H:Hp}{c:Addr}{e:En}(h:EnO H c e)(h1:1 <= e.1)(g:fw e.2):EnV H (.ref c) true:=by
 obtain⟨tt,dd⟩:=e;obtain⟨d,hc,hd⟩:=h;cases dd with
 | none=>exact wS hc hd h1
 | some q =>
  obtain⟨x,n,wk⟩:=q;obtain⟨n1,t,hd1,hd2⟩:=hd;obtain⟨g1,g2,g3⟩:=g;obtain⟨w1,w2⟩:=good_w hd2 g3;have hdd:=DdV.ask4 hd1 (Im.nm g1) (jS n) w1;have:=EnV.two hc (jS tt) hdd;rw[show gA 1 (.int tt)=true from decide_eq_true h1,show gA 1 (.int n)=true from decide_eq_true g2,jw g1,w2]at this;exact this
abbrev oldD:Dd:=some ("zed",1,.drop "zz")
structure oJ(pl tm:Int)(C:List En)(own fi be th:Int)(up bt:Int)(ys:List En)(k sk e2:Nat):Prop where
 ks:be + sk=pl + k
 k0:sk=0\/k=0
 b0:0 <= be
 e1:k <= e2
 e3:fi <= pl + e2
 e4:e2 <= C.length
 yd:ys.drop sk=(C.drop k).take (e2 - k)
 yl:ys.length=sk + (e2 - k)
 t0:0 <= th
 bt0:0 <= bt
 th:pl <= be->aZ pl tm (ay C) be=.int th
 u0:0 <= up
 u1:up <= pl + C.length
 gd:∀e ∈ ys,1 <= e.1/\fw e.2
theorem ens_en{H:Hp}{ms:List Addr}{ys:List En}(h:Paired (EnO H) ms ys)(hg:∀e ∈ ys,1 <= e.1/\fw e.2):∀y ∈ ms.map V.ref,EnV H y true:=by
 induction h with
 | nil=>intro y hy;cases hy
 | cons r _ ih =>
  intro y hy;rcases List.mem_cons.mp hy with rfl | hy
  ·have:=hg _ (List.mem_cons_self ..);exact good_en r this.1 this.2
  ·exact ih (fun e he=>hg e (List.mem_cons_of_mem _ he)) y hy
theorem oJ.let {pl tm:Int} {C:List En} {own fi be th up bt:Int} {ys:List En} {k sk e2:Nat} {H:Hp} {lt me:Addr} {nm:Str} {ms:List Addr} (h:oJ pl tm C own fi be th up bt ys k sk e2) (hl:H lt=some (.tup [.str "rows",.str nm,.str "b",.int own,.int be,.int th,.ref me,.int up,.int bt])) (hn:Nm nm) (ho:0 <= own) (hm:H me=some (.tup (ms.map V.ref))) (h60:ms.length <= 60) (hP:Paired (EnO H) ms ys):jY H lt :=
 wR hl hn nm_b ho h.b0 h.t0 h.u0 h.bt0 hm (by rw[length_map];exact h60) (ens_en hP h.gd)
abbrev zsW:List Int:=[30,9,30,9]
theorem zsW_ok:∀z ∈ zsW,0 < z/\z < 2 ^ 250:=by decide +kernel
theorem dig4W{ds:List Int}(h:Dig ds zsW):∃a b c d:Int,ds=[a,b,c,d]/\(0 <= a/\a < 30)/\(0 <= b/\b < 9)/\(0 <= c/\c < 30)/\(0 <= d/\d < 9):=by
 cases h with
 | cons h1 t=>cases t with
  | cons h2 t=>cases t with
   | cons h3 t=>cases t with
    | cons h4 t=>cases t with
     | nil=>exact(ex4 _ _ _ _ ⟨rfl,h1,h2,h3,h4⟩)
def spRw(K:Frag):Sp:=fun us H Q _=>∃(c st b hh aa ch rw:Addr)(nm:Str)(z pl tm own fi:Int)(cs:List Addr)(C:List En),us=[.int z,.ref st,.ref ch,.str nm]/\Nm nm/\H st=some (.tup [.int pl,.int tm,.ref b,.ref hh,.ref aa])/\H ch=some (.tup [.ref rw,.int own,.int fi])/\H rw=some (.lst (cs.map V.ref))/\Paired (EnO H) cs C/\(∀e ∈ C,1 <= e.1/\fw e.2)/\0 <= pl/\pl <= 3/\0 <= tm/\(0 < pl->1 <= tm)/\0 <= own/\pl <= fi/\fi <= pl + C.length/\C.length <= 20 /\
 ∀(lt me:Addr)(be th up bt:Int)(ms:List Addr)(ys:List En)(k sk e2:Nat)(H':Hp),aq H H'->H' lt=some (.tup [.str "rows",.str nm,.str "b",.int own,.int be,.int th,.ref me,.int up,.int bt])->H' me=some (.tup (ms.map V.ref))->Paired (EnO H') ms ys->ms.drop sk=(cs.drop k).take (e2 - k)->oJ pl tm C own fi be th up bt ys k sk e2->Q (.ref lt) H'
theorem wT {H:Hp} {d t:Addr} {tm:Int} (hd:H d=some (.tup [.str "ask",.str "zed",.int 1,.ref t])) (ht:H t=some (.tup [.str "drop",.str "zz"])):∀(bs:List Addr),(∀y ∈ bs,H y=some (.tup [.int tm,.ref d]))->Paired (EnO H) bs (List.replicate bs.length (tm,oldD))
 | [],_=>.nil
 | y :: r,h=>.cons ⟨d,h y (List.mem_cons_self ..),by decide,t,hd,ht⟩ (wT hd ht r fun z hz=>h z (List.mem_cons_of_mem _ hz))
section
variable{P:Program}{w:World}{K:Frag}{mg:Str->Option Value}{base:Heap}
noncomputable abbrev nRw:List Str:=["_law_cell","_law_stand","_law_chair","_law_name","_law_row","_law_term","_law_first","_law_d","_law_end","_law_before","_law_old","_law_entries_here","_law_there","_law_settled"]
noncomputable abbrev pRw:List Str:=["_law_cell","_law_stand","_law_chair","_law_name"]
theorem scRw:au nRw pRw (am sRw):=fsc (by decide +kernel)
theorem ndRw:(nRw ++ (["_law_k"]:List Str)).Nodup:=by decide +kernel
theorem ok_rw {f:Addr} {fd:FuncData} (F:Fun K "_law_rows" "_law_rows" sRw f fd) (hlen:mg "len"=none) (hmax:mg "max"=none) (hrange:mg "range"=none) (hint:mg "int"=none) (htuple:mg "tuple"=none) (Fd:aV P w K mg base 2 "_law_digits" ["_law_cell","_law_sizes"] kU) (Ft:aV P w K mg base 1 "_law_term_at" nTA (qk asL)):aQ P w K mg base CX0 3 f fd pRw (spRw K):=by
 refine F.ok scRw (fun vs H Q E h=>?_) (fun cdv A outer s H vs Q E hr h=>?_)
 ·obtain⟨c,st,b,hh,aa,ch,rw,nm,z,pl,tm,own,fi,cs,C,rfl,_⟩:=h;rfl
 ·obtain⟨c,st,b,hh,aa,ch,rw,nm,z,pl,tm,own,fi,cs,C,rfl,hnm,hst,hch,hrw,hP,hG,pl0,pl3,tm0,tm1,ow0,fi1,fi2,cl,q⟩:=h;have nd:=scRw.nd;have r1:bj 1 _:=hr.mono (by decide)
  have hs16:sizeLine=16777216:=sizeLine_eq;have hCl:cs.length=C.length:=Paired.length hP;refine⟨_,ae (eO (pv 2) (dg (n:=3) rfl (aF (aA (i:=4) nd rfl (Or.inl rfl)) (aF (aA (i:=5) nd rfl (Or.inl rfl)) (aF (aA (i:=6) nd rfl (Or.inl rfl)) cn))))) <|
   ae (aC (i:=7) nd rfl (Or.inl rfl) (sL Fd hr (pv 0) (di (di (di (di bY)))))) <|
   ae (aC (i:=8) nd rfl (Or.inl rfl) (aE bn (pv 6) (aE cX (ar bc (pv 7) af (fun _ _=>rfl)) (aE bn (aE bV (aE bn (ar ao (pv 1) af (fun _ _=>rfl)) (az aL (by rfl) hlen PySem.boot_len (ad (pv 4) ag))) (pv 6)) af)))) <|
   ae (aC (i:=9) nd rfl (Or.inl rfl) (aE cX (ar bc (pv 7) af (fun _ _=>rfl)) (aE bn (pv 8) af))) <|
   ae (aC (i:=10) nd rfl (Or.inr rfl) (de (d8 (d8 (di (wa_t (de (d8 (d8 bY))) bY)))))) <|
   ae (lA (i:=11) nd rfl (Or.inl rfl) nRw nRw ["_law_k"] (am sRw) rfl rfl rfl (by decide +kernel) rfl rfl (by decide +kernel) (by decide +kernel) (by decide +kernel) (by decide +kernel)
    (eC (by rfl) hrange (ad (az (eE rfl) (by rfl) hmax kW (ad af (ad (aE bV (ar ao (pv 1) af (fun _ _=>rfl)) (pv 9)) ag))) ag)) (fun _ _ _ _ _=>aA (i:=14) ndRw rfl (Or.inl rfl)) (fun _ _ _ _ _=>cR)
    (fun _ _ _ _ _=>aR (ad (ar gf (pv 1) af (fun _ _=>rfl)) (ad (pv 10) ag))) (by with_unfolding_all rfl)) <|
   ae (aC (i:=11) nd rfl (Or.inl rfl) (aE iR (pv 11) (bM gK (pv 4) (bQ (az (eE rfl) (by rfl) hmax kW (ad af (ad (aE bV (pv 9) (ar ao (pv 1) af (fun _ _=>rfl))) ag)))) (bQ (aE bV (pv 8) (ar ao (pv 1) af (fun _ _=>rfl))))))) <|
   ae (aC (i:=12) nd rfl (Or.inl rfl) (aB Ft r1 (ad (pv 1) (ad (pv 4) (ad (pv 9) ag))))) <|
   ae (cM (aX (lj (oP (pv 12))) (aj (aC (i:=12) nd rfl (Or.inl rfl) (aE dH (ar ao (pv 1) af (fun _ _=>rfl)) (bh fY (by rfl) hint rf (ad (bI eI (pv 9) af (aG _)) ag))))) aK)) <|
   ae (aC (i:=13) nd rfl (Or.inl rfl) (aE cX (ar bc (pv 7) af (fun _ _=>rfl)) (aE bn (pv 8) af))) <|
   aj (ax (de (d8 (fA (pv 3) (d8 (fA (pv 5) (fA (pv 9) (fA (pv 12) (wa_c (bh eK (by rfl) htuple cm (ad (pv 11) ag)) (fA (pv 13) (sM (ar bc (pv 7) af (fun _ _=>rfl)) bY))))))))))),?_⟩
  dsimp only[bv,Cx.nox];refine ah fun K_ hK_=>?_;refine⟨_,rfl,ch,_,rfl,SqT.of hch,rfl,_,_,rfl,_,cJ rfl rfl rfl ?_⟩;refine hK_ _ _ (ah fun K_ hK_=>?_);refine⟨_,rfl,(show 4 <= sizeLine by lia),fun la H1 n1 s1 e1=>(ex3 z la zsW ⟨rfl,e1,zsW_ok,(by decide),fun pd ds H2 s2 n2 e2 hD=>?_⟩)⟩
  obtain⟨d0,d1,d2,d3,rfl,⟨a0,a1⟩,⟨b0,b1⟩,⟨c0,c1⟩,g0,g1⟩:=dig4W hD;have s02:=s1.trans s2;refine hK_ _ _ (ah fun K_ hK_=>?_);refine⟨_,rfl,_,rfl,ex4 pd _ _ _ ⟨rfl,rfl,SqL.of e2,at1,_,rfl,ex4 st _ _ _ ⟨rfl,rfl,SqT.of (s02 _ _ hst),at0,_,rfl,rw,_,rfl,.inl (SqL.of (s02 _ _ hrw)),_,_,rfl,rfl,_,rfl,_,_,rfl,rfl,_,_,rfl,rfl,_,_,rfl,rfl,?_,_,_,rfl,rfl,?_⟩⟩⟩
  ·rw[length_map];lia
  refine hK_ _ _ (ah fun K_ hK_=>?_);dsimp only;rw[length_map];have eb0:=Int.emod_nonneg d1 (show pl + (cs.length:Int) - fi + 1 ≠ 0 by lia)
  have eb1:=Int.emod_lt_of_pos d1 (show 0 < pl + (cs.length:Int) - fi + 1 by lia)
  obtain⟨ed,hed⟩:∃ed:Int,ed=fi + d1 % (pl + (cs.length:Int) - fi + 1):=⟨_,rfl⟩;rw[<- hed];have ed1:fi <= ed:=by lia
  have ed2:ed <= pl + cs.length:=by lia
  clear hed eb0 eb1;refine⟨_,rfl,ex4 pd _ _ _ ⟨rfl,rfl,SqL.of e2,at0,_,rfl,_,_,rfl,rfl,_,_,rfl,rfl,(show 0 < ed + 1 by lia),?_⟩⟩
  have bb0:=Int.emod_nonneg d0 (show ed + 1 ≠ 0 by lia)
  have bb1:=Int.emod_lt_of_pos d0 (show 0 < ed + 1 by lia)
  refine hK_ _ _ (ah fun K_ hK_=>?_);dsimp only;generalize d0 % (ed + 1)=be at bb0 bb1 ⊢;refine⟨(show 2 <= sizeLine by lia),fun t3 H3 n3 s3 e3=>⟨(show 4 <= sizeLine by lia),fun od H4 n4 s4 e4=>?_⟩⟩
  have s04:=s02.trans (s3.trans s4);obtain⟨sk,hsk⟩:∃sk:Nat,sk=(pl - be).toNat:=⟨_,rfl⟩;obtain⟨k,hk⟩:∃k:Nat,k=(be - pl).toNat:=⟨_,rfl⟩;have hmx:(if pl - be > 0 then pl - be else 0)=(sk:Int):=by split <;> lia
  refine hK_ _ _ (ah fun K_ hK_=>?_);refine⟨_,rfl,ex4 st _ _ _ ⟨rfl,rfl,SqT.of (s04 _ _ hst),at0,cJ rfl rfl rfl ⟨_,rd2 rfl rfl ⟨?_,?_,?_⟩⟩⟩⟩
  ·rw[hmx];lia
  ·rw[hmx];lia
  rw[hmx,Int.toNat_natCast];refine lcJ (n:=sk) (fun i=>.int (0 + (i:Int))) (fun D i ys Hx=>H4 D=none/\aq H4 Hx/\Hx D=some (.lst ys)/\∃bs:List Addr,ys=bs.map V.ref/\bs.length=i/\∀y ∈ bs,Hx y=some (.tup [.int tm,.ref od])) rfl ?_ ?_ ?_ ?_ ?_ ?_
  ·rintro D i ys Hx hi _;exact hi
  ·rintro D i ys Hx y Hy hi _ ⟨rfl,rfl⟩;exact⟨rfl,rfl⟩
  ·rintro D ys Hx _;exact Nat.le_refl _
  ·intro D hD;exact⟨hD,.new hD,ai,[],rfl,rfl,fun y h=>(nomatch h)⟩
  ·rintro D i ys Hx post hi ⟨h1,h2,h3,bs,rfl,hbl,hbs⟩ hp;refine⟨_,rfl,ex4 st _ _ _ ⟨rfl,rfl,SqT.of (h2 _ _ (s04 _ _ hst)),at1,_,rfl,(show 2 <= sizeLine by lia),fun c' H6 n6 s6 e6=>?_⟩⟩
   have hD8:H6 D=some (.lst (bs.map V.ref)):=s6 _ _ h3;have tk:Tk H6 (upd H6 D (.lst (bs.map V.ref ++ [.ref c']))):=fun b ys e=>by rw[aw (aN e hD8 (by intro z;cases z))];exact e
   refine hp (.ref c') H6 hD8 (by rw[length_map];exact bO (by lia)) ⟨h1,fun b o e=>?_,ai,bs ++ [c'],by rw[List.map_append];rfl,by rw[length_append,hbl];rfl,fun y hy=>?_⟩
   ·rw[aw (ak e h1)];exact s6 _ _ (h2 _ _ e)
   ·rcases mem_append.mp hy with h | h
    ·exact tk _ _ (s6 _ _ (hbs y h))
    ·rw[List.mem_singleton.mp h];exact tk _ _ e6
  rintro D ys H5 ⟨hD5,s5,e5,bs,rfl,hbl,hbs⟩;have s05:=s04.trans s5;have pd5:=(s3.trans (s4.trans s5)) _ _ e2;have hmk:(if be - pl > 0 then be - pl else 0)=(k:Int):=by split <;> lia
  obtain⟨e2',he2⟩:∃n:Nat,n=(ed - pl).toNat:=⟨_,rfl⟩;refine hK_ _ _ (ah fun K_ hK_=>?_);refine(rd3 rfl rfl rfl ⟨_,rfl,ex4 st _ _ _ ⟨rfl,rfl,SqT.of (s05 _ _ hst),at0,oo rfl rfl ⟨_,rd3 rfl rfl rfl ⟨_,rfl,ex4 st _ _ _ ⟨rfl,rfl,SqT.of (s05 _ _ hst),at0,oo rfl rfl ⟨_,rfl,rw,_,rfl,SqL.of (s05 _ _ hrw),?_⟩⟩⟩⟩⟩⟩);dsimp only;rw[hmk,show ed - pl=((e2':Nat):Int) by lia]
  intro c6 n6;have hke:k <= e2':=by lia
  have hec:e2' <= cs.length:=by lia
  have s6:=aq.new (o:=.lst (cx (cs.map V.ref) (some (k:Int)) (some (e2':Int)))) n6;have e6:upd H5 c6 (.lst (cx (cs.map V.ref) (some (k:Int)) (some (e2':Int)))) c6=some (.lst (((cs.drop k).take (e2' - k)).map V.ref)):=by
   rw[ai,rA _ _ _ hke hec]
  have d6:=s6 _ _ e5;generalize upd H5 c6 (.lst (cx (cs.map V.ref) (some (k:Int)) (some (e2':Int))))=H6 at s6 e6 d6;have cl6:((cs.drop k).take (e2' - k)).length=e2' - k:=by rw[length_take,length_drop];lia
  refine(ex4 D c6 _ _ ⟨rfl,rfl,d6,e6,(by rw[length_map,length_map,cl6];lia),fun ml H7 n7 s7 e7=>?_⟩)
  refine hK_ _ _ (ah fun K_ hK_=>?_);rw[<- List.map_append]at e7;have s57:=s6.trans s7;have s07:=s05.trans s57;refine(rd3 rfl rfl rfl ⟨st,rw,b,hh,aa,pl,tm,be,cs,C,rfl,s07 _ _ hst,s07 _ _ hrw,bB (Tk.of s07) hP,?_⟩);have pd7:=s57 _ _ pd5;have hthe:(pl <= be->∃th,0 <= th/\aZ pl tm (ay C) be=.int th)/\(¬pl <= be->aZ pl tm (ay C) be=.non):=by
   refine⟨fun h=>?_,fun h=>K43B.bX _ _ _ (.inl (by lia))⟩
   by_cases hz:be=pl
   ·exact⟨tm,tm0,by unfold aZ;rw[if_pos hz]⟩
   ·obtain⟨e,d,tt,l1,l2,l3⟩:=mF (tm:=tm) hP (show pl < be by lia) (by lia)
    refine⟨tt,?_,l3⟩;unfold aZ at l3;rw[if_neg hz,if_neg (by rw[length_map];lia)]at l3
    have hlt:(be - pl - 1).toNat < C.length:=by lia
    rw[getD_eq_getElem?_getD,getElem?_map,getElem?_eq_getElem hlt]at l3;have l4:C[(be - pl - 1).toNat].1=tt:=by injection l3
    have:=(hG _ (List.getElem_mem hlt)).1;lia
  refine hK_ _ _ (ah fun K_ hK_=>?_);refine⟨fun σ' H'=>∃th:Int,σ'=[some (.int z),some (.ref st),some (.ref ch),some (.str nm),some (.ref rw),some (.int own),some (.int fi),some (.ref pd),some (.int ed),some (.int be),some (.ref od),some (.ref ml),some (.int th),none]/\H'=H7/\0 <= th/\(pl <= be->aZ pl tm (ay C) be=.int th),?_,?_⟩
  ·by_cases hb:pl <= be
   ·obtain⟨th,th0,hth⟩:=hthe.1 hb;rw[hth];exact(rd2 rfl rfl (bN (fun z=>absurd (of_decide_eq_true z) (by intro z;cases z)) (fun _=>⟨th,rfl,rfl,th0,fun _=>rfl⟩)))
   ·rw[hthe.2 hb];refine(rd2 rfl rfl (bN (fun _=>?_) (fun z=>absurd (decide_eq_true rfl) z)));refine⟨_,rfl,ex4 st _ _ _ ⟨rfl,rfl,SqT.of (s07 _ _ hst),at1,cJ rfl rfl rfl (.inr ⟨_,rfl,?_⟩)⟩⟩;refine(oo rfl rfl ⟨.inr (b01 _),_,rfl,rfl,?_,fun z=>absurd z hb⟩);by_cases hz:decide ((0:Int) < be)=true
    ·rw[if_pos hz];lia
    ·rw[if_neg hz];lia
  rintro σ' H8 ⟨th,rfl,rfl,th0,hth⟩;clear hthe;have m2:=Int.emod_nonneg d2 (show ed + 1 ≠ 0 by lia)
  have m3:=Int.emod_lt_of_pos d2 (show 0 < ed + 1 by lia)
  refine hK_ _ _ (ah fun K_ hK_=>?_);refine⟨_,rfl,ex4 pd _ _ _ ⟨rfl,rfl,SqL.of pd7,eP,_,rfl,_,_,rfl,rfl,_,_,rfl,rfl,(show 0 < ed + 1 by lia),?_⟩⟩
  refine hK_ _ _ ?_;dsimp only;generalize d2 % (ed + 1)=up at m2 m3 ⊢;refine⟨_,rfl,_,rfl,_,rfl,_,rfl,_,rfl,ml,_,rfl,SqL.of e7,fun me H10 n10 s10 e10=>⟨_,rfl,_,rfl,ex4 pd _ _ _ ⟨rfl,rfl,SqL.of (s10 _ _ pd7),fP,(show 9 <= sizeLine by lia),fun lt H11 n11 s11 e11=>?_⟩⟩⟩
  have sE:=s10.trans s11;have s0E:=s07.trans sE;have s5E:=s57.trans sE;have hodE:H11 od=some (.tup [.str "ask",.str "zed",.int 1,.ref t3]):=s5E _ _ (s5 _ _ e4);have ht3E:H11 t3=some (.tup [.str "drop",.str "zz"]):=s5E _ _ (s5 _ _ (s4 _ _ e3));have hPo:Paired (EnO H11) bs (List.replicate bs.length (tm,oldD)):=wT hodE ht3E bs fun y hy=>s5E _ _ (hbs y hy);have hPc:Paired (EnO H11) ((cs.drop k).take (e2' - k)) ((C.drop k).take (e2' - k)):=Paired.take' (Paired.dropS (bB (Tk.of s0E) hP) _) _;have hPa:Paired (EnO H11) (bs ++ (cs.drop k).take (e2' - k)) (List.replicate bs.length (tm,oldD) ++ (C.drop k).take (e2' - k)):=Paired.catS hPo hPc;have hgd:∀e ∈ List.replicate bs.length ((tm,oldD):En) ++ (C.drop k).take (e2' - k),1 <= e.1/\fw e.2:=fun e he=>by
   rcases mem_append.mp he with h | h
   ·obtain⟨h1,h2⟩:=List.mem_replicate.mp h;rw[h2];exact⟨tm1 (by lia),we,by decide,nm_zz⟩
   ·exact hG e (List.mem_of_mem_drop (List.mem_of_mem_take h))
  refine q lt me be th up d3 _ _ k sk e2' H11 s0E e11 (s11 _ _ e10) hPa ?_ ⟨by lia,by lia,bb0,hke,by lia,by lia,?_,?_,th0,g0,hth,m2,by lia,hgd⟩
  ·rw[List.drop_append_of_le_length (by lia),List.drop_of_length_le (by lia),List.nil_append]
  ·rw[List.drop_append_of_le_length (by rw[List.length_replicate];lia),List.drop_of_length_le (by rw[List.length_replicate];lia),List.nil_append]
  ·rw[length_append,List.length_replicate,length_take,length_drop];lia
end
end K43
namespace K43
open PySem L2
open K43B (aZ ba cp)
abbrev sHd:Stmt:=top 124
def spHd (K:Frag):Sp:=fun us H Q _=>∃(wt lt st en b hh aa me:Addr)(nm:Str)(t s pl tm lm be th up bt:Int)(v:V)(es ms:List Addr)(xs ys:List En)(k sk:Nat),us=[.ref wt,.ref lt]/\H wt=some (.tup [.int t,v,.int s,.ref st,.ref en])/\H st=some (.tup [.int pl,.int tm,.ref b,.ref hh,.ref aa])/\H en=some (.tup (es.map V.ref))/\Paired (EnO H) es xs/\H lt=some (.tup [.str "rows",.str nm,.str "b",.int lm,.int be,.int th,.ref me,.int up,.int bt])/\H me=some (.tup (ms.map V.ref))/\Paired (EnO H) ms ys/\t <= lm/\be + sk=pl + k/\(sk=0\/k=0)/\es.length <= 60/\ms.length <= 60 /\
 (pl <= be->aZ pl tm (ay xs) be ≠ .int th->∀(p w2 du:Addr)(H':Hp),aq H H'->H' p=some (.tup [.ref w2,.ref du])->H' w2=some (.tup [.int lm,(if t < lm then .non else v),.int s,.ref st,.ref en])->eN H' du "b" nm lm false s bt->Q (.ref p) H') /\
 ((pl <= be->aZ pl tm (ay xs) be=.int th)->∀(p w2 du en2:Addr)(H':Hp),aq H H'->H' p=some (.tup [.ref w2,.ref du])->H' w2=some (.tup [.int lm,(if t < lm then .non else v),.int (fV s up (be + ms.length)),.ref st,.ref en2])->H' en2=some (.tup ((ba (ay xs) ((ay ys).drop sk) k es (ms.drop sk)).map V.ref))->eN H' du "b" nm lm true (be + ms.length) bt->Q (.ref p) H')
section
variable{P:Program}{w:World}{K:Frag}{mg:Str->Option Value}{base:Heap}
noncomputable abbrev nHd:List Str:=["_law_state","_law_letter","_law_term","_law_vote","_law_settled","_law_stand","_law_entries_here","_law_kind","_law_name","_law_to","_law_here","_law_before","_law_there","_law_more","_law_upto","_law_beat","_law_found","_law_k","_law_entry","_law_at","_law_place"]
theorem scHd:au nHd ["_law_state","_law_letter"] (am sHd):=fsc (by decide +kernel)
theorem ok_hd {f:Addr} {fd:FuncData} (F:Fun K "_law_heard" "_law_heard" sHd f fd) (hlen:mg "len"=none) (hlist:mg "list"=none) (hmax:mg "max"=none) (hmin:mg "min"=none) (henum:mg "enumerate"=none) (htuple:mg "tuple"=none) (Ft:aV P w K mg base 1 "_law_term_at" nTA (qk asT)):aQ P w K mg base CX0 2 f fd ["_law_state","_law_letter"] (spHd K):=by
 refine F.ok scHd (fun vs H Q E h=>?_) (fun cdv A outer s' H vs Q E hr h=>?_)
 ·obtain⟨wt,lt,st,en,b,hh,aa,me,nm,t,s,pl,tm,lm,be,th,up,bt,v,es,ms,xs,ys,k,sk,rfl,_⟩:=h;rfl
 ·obtain⟨wt,lt,st,en,b,hh,aa,me,nm,t,s,pl,tm,lm,be,th,up,bt,v,es,ms,xs,ys,k,sk,rfl,hw,hst,hen,hP,hlt,hme,hPm,htl,hks,hk0,e60,m60,qN,qY⟩:=h;have nd:=scHd.nd;have hs16:sizeLine=16777216:=sizeLine_eq;have hxl:es.length=xs.length:=Paired.length hP;have hyl:ms.length=ys.length:=Paired.length hPm;refine⟨_,ae (cM (eO (pv 0) (dg (n:=5) rfl (aF (aA (i:=2) nd rfl (Or.inl rfl)) (aF (aA (i:=3) nd rfl (Or.inl rfl)) (aF (aA (i:=4) nd rfl (Or.inl rfl)) (aF (aA (i:=5) nd rfl (Or.inl rfl)) (aF (aA (i:=6) nd rfl (Or.inl rfl)) cn)))))))) <|
   ae (cM (eO (pv 1) (dg (n:=9) rfl (aF (aA (i:=7) nd rfl (Or.inl rfl)) (aF (aA (i:=8) nd rfl (Or.inl rfl)) (aF (aA (i:=9) nd rfl (Or.inl rfl)) (aF (aA (i:=10) nd rfl (Or.inl rfl)) (aF (aA (i:=11) nd rfl (Or.inl rfl)) (aF (aA (i:=12) nd rfl (Or.inl rfl)) (aF (aA (i:=13) nd rfl (Or.inl rfl)) (aF (aA (i:=14) nd rfl (Or.inl rfl)) (aF (aA (i:=15) nd rfl (Or.inl rfl)) cn)))))))))))) <|
   ae (aX (aH fj (pv 10) (pv 2) (aG _)) dj aK) <|
   ae (cM (aX (aH eI (pv 10) (pv 2) (aG _)) (aj (aC (i:=3) nd rfl (Or.inl rfl) cU)) aK)) <|
   ae (cM (aX (PW.pt (lp (aH ni (pv 11) (ar ao (pv 5) af (fun _ _=>rfl)) (aG _)) (iK (aH gI (aB Ft hr (ad (pv 5) (ad (pv 6) (ad (pv 11) ag)))) (pv 12) (aG _))))) (aj (ax (aR (ad (aR (ad (pv 10) (ad (pv 3) (ad (pv 4) (ad (pv 5) (ad (pv 6) ag)))))) (ad (aR (ad (aR (ad aU (ad aU (ad (pv 8) (ad (pv 10) (ad d9 (ad (pv 4) (ad (pv 15) ag)))))))) ag)) ag))))) aK)) <|
   ae (aC (i:=16) nd rfl (Or.inl rfl) (bh fc (by rfl) hlist mE (ad (pv 6) ag))) <|
   ae (cM (dY PassesOwn.never rfl (uY (by rfl) henum (ad (pv 13) ag)) (dg (n:=2) rfl (aF (aA (i:=17) nd rfl (Or.inl rfl)) (aF (aA (i:=18) nd rfl (Or.inl rfl)) cn))) <|
    ae (aC (i:=19) nd rfl (Or.inl rfl) (aE bV (aE bn (pv 11) (pv 17)) (ar ao (pv 5) af (fun _ _=>rfl)))) <|
    aj (aX (PW.pt (lp (aH ni (pv 19) af (aG _)) (iK (PW.pt (cN (aH ni (pv 19) (az aL (by rfl) hlen PySem.boot_len (ad (pv 16) ag)) (aG _)) (cV (aH gI (ar ao (ar bc (pv 16) (pv 19) (fun _ _=>rfl)) af (fun _ _=>rfl)) (ar ao (pv 18) af (fun _ _=>rfl)) (aG _)))))))) (ae (aC (i:=16) nd rfl (Or.inl rfl) (aE iR (bM gK (pv 16) cv (bQ (pv 19))) (bh fc (by rfl) hlist mE (ad (bM cK (pv 13) (bQ (pv 17)) cv) ag)))) (aj uf)) aK))) <|
   ae (aC (i:=20) nd rfl (Or.inl rfl) (aE bn (pv 11) (az aL (by rfl) hlen PySem.boot_len (ad (pv 13) ag)))) <|
   ae (aC (i:=4) nd rfl (Or.inl rfl) (az (eE rfl) (by rfl) hmax kW (ad (pv 4) (ad (az (g9 rfl) (by rfl) hmin bMinS (ad (pv 14) (ad (pv 20) ag))) ag)))) <|
   aj (ax (aR (ad (aR (ad (pv 10) (ad (pv 3) (ad (pv 4) (ad (pv 5) (ad (bh eK (by rfl) htuple cm (ad (pv 16) ag)) ag)))))) (ad (aR (ad (aR (ad aU (ad aU (ad (pv 8) (ad (pv 10) (ad d9 (ad (pv 20) (ad (pv 15) ag)))))))) ag)) ag)))),?_⟩
  dsimp only[bv,Cx.nox];refine ah fun K_ hK_=>?_;refine⟨fun σ' H'=>σ'=[some (.ref wt),some (.ref lt),some (.int t),some v,some (.int s),some (.ref st),some (.ref en),none,none,none,none,none,none,none,none,none,none,none,none,none,none]/\H'=H,⟨_,rfl,wt,_,rfl,SqT.of hw,rfl,_,_,rfl,_,_,rfl,_,_,rfl,_,cJ rfl rfl rfl ⟨rfl,rfl⟩⟩,?_⟩;rintro σ' H1 ⟨rfl,rfl⟩;refine hK_ _ _ (ah fun K_ hK_=>?_);refine⟨fun σ' H'=>σ'=[some (.ref wt),some (.ref lt),some (.int t),some v,some (.int s),some (.ref st),some (.ref en),some (.str "rows"),some (.str nm),some (.str "b"),some (.int lm),some (.int be),some (.int th),some (.ref me),some (.int up),some (.int bt),none,none,none,none,none]/\H'=H1,⟨_,rfl,lt,_,rfl,SqT.of hlt,rfl,_,_,rfl,_,_,rfl,_,_,rfl,_,_,rfl,_,_,rfl,_,_,rfl,_,_,rfl,_,cJ rfl rfl rfl ⟨rfl,rfl⟩⟩,?_⟩;rintro σ' H1 ⟨rfl,rfl⟩;refine hK_ _ _ (ah fun K_ hK_=>?_);refine(eA rfl rfl rfl rfl ⟨_,rfl,?_⟩);rw[decide_eq_false (show ¬lm < t by lia)]
  refine aY ?_;refine hK_ _ _ (ah fun K_ hK_=>?_);refine⟨fun σ' H'=>σ'=[some (.ref wt),some (.ref lt),some (.int t),some (if t < lm then .non else v),some (.int s),some (.ref st),some (.ref en),some (.str "rows"),some (.str nm),some (.str "b"),some (.int lm),some (.int be),some (.int th),some (.ref me),some (.int up),some (.int bt),none,none,none,none,none]/\H'=H1,?_,?_⟩
  ·refine(eA rfl rfl rfl rfl ⟨_,rfl,bN (fun hz=>?_) (fun hz=>?_)⟩)
   ·rw[if_pos (of_decide_eq_true hz)];exact⟨rfl,rfl⟩
   ·rw[if_neg (fun z=>hz (decide_eq_true z))];exact⟨rfl,rfl⟩
  rintro σ' H2 ⟨rfl,rfl⟩;refine hK_ _ _ (ah fun K_ hK_=>?_);generalize (if t < lm then V.non else v)=v' at qN qY
  refine⟨fun σ' H'=>σ'=[some (.ref wt),some (.ref lt),some (.int t),some v',some (.int s),some (.ref st),some (.ref en),some (.str "rows"),some (.str nm),some (.str "b"),some (.int lm),some (.int be),some (.int th),some (.ref me),some (.int up),some (.int bt),none,none,none,none,none]/\H'=H2/\(pl <= be->aZ pl tm (ay xs) be=.int th),?_,?_⟩
  ·refine(rd2 rfl rfl (ex4 st _ _ _ ⟨rfl,rfl,SqT.of hst,at0,oo rfl rfl ⟨_,rfl,?_⟩⟩));by_cases hgo:¬(pl <= be->aZ pl tm (ay xs) be=.int th)
   ·have h1':pl <= be:=Classical.byContradiction fun z=>hgo fun y=>absurd y z;have h2':aZ pl tm (ay xs) be ≠ .int th:=fun z=>hgo fun _=>z;refine bN (fun _=>?_) (fun z=>absurd (decide_eq_true h1') z);refine(rd3 rfl rfl rfl ⟨st,ex9 en b hh aa pl tm be es xs ⟨rfl,hst,hen,hP,_,rfl,K43B.iq pl tm _ _ th,_,rfl,bN (fun _=>?_) (fun z=>absurd (by rw[decide_eq_false h2'];rfl) z)⟩⟩)
    refine⟨_,rfl,_,rfl,_,rfl,_,rfl,_,rfl,(show 5 <= sizeLine by lia),fun w2 H2 n2 s2 e2=>⟨_,rfl,_,rfl,_,rfl,_,rfl,(show 7 <= sizeLine by lia),fun dq H3 n3 s3 e3=>⟨(show 1 <= sizeLine by lia),fun du H4 n4 s4 e4=>⟨(show 2 <= sizeLine by lia),fun p H5 n5 s5 e5=>?_⟩⟩⟩⟩
    exact qN h1' h2' p w2 du H5 (s2.trans (s3.trans (s4.trans s5))) e5 (s5 _ _ (s4 _ _ (s3 _ _ e2))) ⟨dq,s5 _ _ e4,s5 _ _ (s4 _ _ e3)⟩
   ·have hgo:=Classical.not_not.mp hgo;refine bN (fun hz=>?_) (fun _=>aY ⟨rfl,rfl,hgo⟩);have hz:=of_decide_eq_true hz;refine(rd3 rfl rfl rfl ⟨st,ex9 en b hh aa pl tm be es xs ⟨rfl,hst,hen,hP,_,rfl,?_⟩⟩);have hgz:=hgo hz;rw[hgz];exact⟨rfl,_,rfl,nM rfl ⟨rfl,rfl,fun _=>rfl⟩⟩
  rintro σ' H3 ⟨rfl,rfl,hgo⟩;have qY:=qY hgo;have hkl:k <= xs.length:=by
   rcases hk0 with h | h
   ·by_cases hk:k <= xs.length
    ·exact hk
    ·have:=hgo (by lia)
     rw[K43B.bX _ _ _ (.inr (by rw[length_map];lia))]at this
     cases this
   ·lia
  clear hgo qN;refine hK_ _ _ (ah fun K_ hK_=>?_);refine⟨_,rfl,en,_,rfl,.inr (SqT.of hen),fun l0 H4 n4 s4 e4=>?_⟩;refine hK_ _ _ (ah fun K_ hK_=>?_);refine⟨fun σ' H'=>∃(fl:Addr)(v17 v18 v19:Option V),σ'=[some (.ref wt),some (.ref lt),some (.int t),some v',some (.int s),some (.ref st),some (.ref en),some (.str "rows"),some (.str nm),some (.str "b"),some (.int lm),some (.int be),some (.int th),some (.ref me),some (.int up),some (.int bt),some (.ref fl),v17,v18,v19,none]/\aq H4 H'/\H' fl=some (.lst ((ba (ay xs) ((ay ys).drop sk) k es (ms.drop sk)).map V.ref)),?_,?_⟩
  ·refine⟨_,rfl,me,_,rfl,SqT.of (s4 _ _ hme),kI (K:=K) (xs:=ms.map V.ref) (fun i σ Hx=>∃(v17 v18 v19:Option V),σ=[some (.ref wt),some (.ref lt),some (.int t),some v',some (.int s),some (.ref st),some (.ref en),some (.str "rows"),some (.str nm),some (.str "b"),some (.int lm),some (.int be),some (.int th),some (.ref me),some (.int up),some (.int bt),some (.ref l0),v17,v18,v19,none]/\aq H4 Hx/\i <= sk + cp ((ay xs).drop k) ((ay ys).drop sk)) (ex3 none none none ⟨rfl,aq.refl _,Nat.zero_le _⟩) ?_ ?_ ?_⟩
   ·rintro i σ Hx ⟨v17,v18,v19,rfl,sx,_⟩;exact SqT.of (sx _ _ (s4 _ _ hme))
   ·rintro i x p σ Hx hx hp ⟨v17,v18,v19,rfl,sx,hi⟩;rw[getElem?_map]at hx;cases he:ms[i]? with
    | none=>rw[he]at hx;cases hx
    | some e =>
     rw[he]at hx;cases hx;have hil:i < ms.length:=(List.getElem?_eq_some_iff.mp he).1;have hiy:i < ys.length:=by lia
     have ht:(ay ys)[i]?=some ys[i].1:=by rw[getElem?_map,getElem?_eq_getElem hiy];rfl
     have s1:=aq.new (o:=.tup [.int (0 + (i:Int)),.ref e]) hp;have e1:upd Hx p (.tup [.int (0 + (i:Int)),.ref e]) p=some (.tup [.int (0 + (i:Int)),.ref e]):=ai;refine⟨p,_,rfl,SqT.of e1,rfl,_,cJ rfl rfl rfl ?_⟩;refine ah fun K_ hK_=>?_;generalize upd Hx p (.tup [.int (0 + (i:Int)),.ref e])=H2 at s1 e1 ⊢;have sH:=sx.trans s1;have sA:=s4.trans sH;obtain⟨d,hd⟩:=jQ (bB (Tk.of sA) hPm) i e _ he ht;generalize ys[i].1=tt at ht hd;refine(eA rfl rfl rfl rfl ⟨_,rfl,ex4 st _ _ _ ⟨rfl,rfl,SqT.of (sA _ _ hst),at0,oo rfl rfl ?_⟩⟩);refine hK_ _ _ ?_;refine(cJ rfl rfl rfl ⟨_,rfl,?_⟩);have hci:=K43B.mr ((ay xs).drop k) ((ay ys).drop sk);rw[length_drop,length_map]at hci;by_cases his:i < sk
     ·refine bN (fun z=>absurd (of_decide_eq_true z) (by lia)) (fun _=>?_)
      exact aY (ex3 _ _ _ ⟨rfl,sH,by lia⟩)
     refine bN (fun _=>?_) (fun z=>absurd (decide_eq_true (show (0:Int) <= be + (0 + (i:Int)) - pl by lia)) z)
     refine(rd2 rfl rfl ⟨l0,_,rfl,.inl (SqL.of (sH _ _ e4)),oo rfl rfl ⟨_,rfl,?_⟩⟩);have hTd:((ay xs).drop k)[i - sk]?=(ay xs)[k + (i - sk)]?:=List.getElem?_drop ..;have hMd:((ay ys).drop sk)[i - sk]?=some tt:=by rw[List.getElem?_drop,show sk + (i - sk)=i by lia];exact ht
     by_cases hge:es.length <= k + (i - sk)
     ·refine bN (fun _=>?_) (fun z=>absurd (decide_eq_true (by rw[length_map];lia)) z)
      have hstop:cp ((ay xs).drop k) ((ay ys).drop sk)=i - sk:=K43B.i6 (by lia) hMd (by rw[hTd,List.getElem?_eq_none (by rw[length_map];lia)];intro z;cases z)
      have hdd:((ay ys).drop sk).length=ys.length - sk:=by rw[length_drop,length_map]
      have hfe:ba (ay xs) ((ay ys).drop sk) k es (ms.drop sk)=es.take (k + (i - sk)) ++ ms.drop i:=by unfold ba;rw[hstop,if_neg (by lia),List.drop_drop,show sk + (i - sk)=i by lia]
      refine bJ ?_;refine ah fun K_ hK_=>?_;refine(rd3 rfl rfl rfl ⟨l0,_,rfl,SqL.of (sH _ _ e4),?_⟩);intro c7 n7;have s7:=aq.new (o:=.lst (cx (es.map V.ref) none (some (be + (0 + (i:Int)) - pl)))) n7;have e7:upd H2 c7 (.lst (cx (es.map V.ref) none (some (be + (0 + (i:Int)) - pl)))) c7=some (.lst ((es.take (k + (i - sk))).map V.ref)):=by
       rw[ai,show be + (0 + (i:Int)) - pl=((k + (i - sk):Nat):Int) by lia,oj,List.map_take]
      generalize upd H2 c7 (.lst (cx (es.map V.ref) none (some (be + (0 + (i:Int)) - pl))))=H7 at s7 e7 ⊢;refine(rd3 rfl rfl rfl ⟨me,_,rfl,(sH.trans s7) _ _ (s4 _ _ hme),fun c8 H8 s8 e8=>?_⟩);rw[show (0:Int) + (i:Int)=((i:Nat):Int) by lia,K43B.fU]at e8
      refine⟨c8,_,rfl,.inr (SqT.of e8),fun l9 H9 n9 s9 e9=>?_⟩;have hdl:(ms.drop i).length <= ms.length:=by rw[length_drop];lia
      have htl2:(es.take (k + (i - sk))).length <= es.length:=by rw[length_take];lia
      refine(ex4 c7 l9 _ _ ⟨rfl,rfl,s9 _ _ (s8 _ _ e7),e9,(by rw[length_map,length_map];lia),fun l10 H10 n10 s10 e10=>?_⟩)
      refine hK_ _ _ ?_;refine(ex4 l10 _ _ _ ⟨rfl,sH.trans (s7.trans (s8.trans (s9.trans s10))),?_⟩);rw[hfe,List.map_append];exact e10
     ·refine bN (fun z=>absurd (of_decide_eq_true z) (by rw[length_map];lia)) (fun _=>?_)
      have hka:k + (i - sk) < es.length:=by lia
      have hkx:k + (i - sk) < xs.length:=by lia
      have htx:(ay xs)[k + (i - sk)]?=some xs[k + (i - sk)].1:=by rw[getElem?_map,getElem?_eq_getElem hkx];rfl
      obtain⟨d',hd'⟩:=jQ (bB (Tk.of sA) hP) (k + (i - sk)) es[k + (i - sk)] _ (getElem?_eq_getElem hka) htx;have hat:atI (es.map V.ref) (be + (0 + (i:Int)) - pl)=some (.ref es[k + (i - sk)]):=by
       rw[show be + (0 + (i:Int)) - pl=((k + (i - sk):Nat):Int) by lia]
       exact bW (by rw[getElem?_map,getElem?_eq_getElem hka];rfl)
      generalize xs[k + (i - sk)].1=tx at htx hd';generalize es[k + (i - sk)]=ex at hat hd';refine(rd2 rfl rfl (ex4 l0 _ _ _ ⟨rfl,rfl,SqL.of (sH _ _ e4),hat,ex,ex3 _ _ _ ⟨rfl,rfl,SqT.of hd',at0,_,rfl,ex4 e _ _ _ ⟨rfl,rfl,SqT.of hd,at0,rfl,_,rfl,?_⟩⟩⟩));by_cases hc:tx=tt
      ·have hmore:=K43B.i5 (T:=(ay xs).drop k) (M:=(ay ys).drop sk) (i:=i - sk) (by lia) hMd (by rw[hTd,htx,hc])
       refine nM (by rw[hc]) ?_
       exact(ex3 _ _ _ ⟨rfl,sH,by lia⟩)
      ·have hstop:cp ((ay xs).drop k) ((ay ys).drop sk)=i - sk:=K43B.i6 (by lia) hMd (by rw[hTd,htx];intro z;exact hc (Option.some.inj z))
       have hdd:((ay ys).drop sk).length=ys.length - sk:=by rw[length_drop,length_map]
       have hfe:ba (ay xs) ((ay ys).drop sk) k es (ms.drop sk)=es.take (k + (i - sk)) ++ ms.drop i:=by unfold ba;rw[hstop,if_neg (by lia),List.drop_drop,show sk + (i - sk)=i by lia]
       refine bN (fun _=>?_) (fun z=>absurd (by rw[decide_eq_false (fun z=>hc (by injection z))];rfl) z)
       refine ah fun K_ hK_=>?_;refine(rd3 rfl rfl rfl ⟨l0,_,rfl,SqL.of (sH _ _ e4),?_⟩);intro c7 n7;have s7:=aq.new (o:=.lst (cx (es.map V.ref) none (some (be + (0 + (i:Int)) - pl)))) n7;have e7:upd H2 c7 (.lst (cx (es.map V.ref) none (some (be + (0 + (i:Int)) - pl)))) c7=some (.lst ((es.take (k + (i - sk))).map V.ref)):=by
        rw[ai,show be + (0 + (i:Int)) - pl=((k + (i - sk):Nat):Int) by lia,oj,List.map_take]
       generalize upd H2 c7 (.lst (cx (es.map V.ref) none (some (be + (0 + (i:Int)) - pl))))=H7 at s7 e7 ⊢;refine(rd3 rfl rfl rfl ⟨me,_,rfl,(sH.trans s7) _ _ (s4 _ _ hme),fun c8 H8 s8 e8=>?_⟩);rw[show (0:Int) + (i:Int)=((i:Nat):Int) by lia,K43B.fU]at e8
       refine⟨c8,_,rfl,.inr (SqT.of e8),fun l9 H9 n9 s9 e9=>?_⟩;have hdl:(ms.drop i).length <= ms.length:=by rw[length_drop];lia
       have htl2:(es.take (k + (i - sk))).length <= es.length:=by rw[length_take];lia
       refine(ex4 c7 l9 _ _ ⟨rfl,rfl,s9 _ _ (s8 _ _ e7),e9,(by rw[length_map,length_map];lia),fun l10 H10 n10 s10 e10=>?_⟩)
       refine hK_ _ _ ?_;refine(ex4 l10 _ _ _ ⟨rfl,sH.trans (s7.trans (s8.trans (s9.trans s10))),?_⟩);rw[hfe,List.map_append];exact e10
   ·rintro σ Hx ⟨v17,v18,v19,rfl,sx,hi⟩;rw[length_map]at hi;have hdd:((ay ys).drop sk).length=ys.length - sk:=by rw[length_drop,length_map]
    have hce:cp ((ay xs).drop k) ((ay ys).drop sk)=((ay ys).drop sk).length:=Nat.le_antisymm (K43B.rj _ _) (by lia)
    have hfe:ba (ay xs) ((ay ys).drop sk) k es (ms.drop sk)=es:=by unfold ba;rw[if_pos hce]
    refine(ex4 l0 _ _ _ ⟨rfl,sx,?_⟩);rw[hfe];exact sx _ _ e4
  rintro σ' H5 ⟨fl,v17,v18,v19,rfl,s5,e5⟩;have s05:=s4.trans s5;refine hK_ _ _ (ah fun K_ hK_=>?_);refine(rd2 rfl rfl ⟨me,_,rfl,.inr (SqT.of (s05 _ _ hme)),oo rfl rfl ?_⟩);refine hK_ _ _ (ah fun K_ hK_=>?_);dsimp only;rw[length_map];refine(rd3 rfl rfl rfl ⟨_,_,rfl,_,_,rfl,?_⟩);refine hK_ _ _ ?_;refine⟨_,rfl,_,rfl,_,rfl,_,rfl,_,rfl,fl,_,rfl,SqL.of e5,fun en2 H6 n6 s6 e6=>⟨(show 5 <= sizeLine by lia),fun w2 H7 n7 s7 e7=>⟨_,rfl,_,rfl,_,rfl,_,rfl,(show 7 <= sizeLine by lia),fun dq H8 n8 s8 e8=>⟨(show 1 <= sizeLine by lia),fun du H9 n9 s9 e9=>⟨(show 2 <= sizeLine by lia),fun p H10 n10 s10 e10=>?_⟩⟩⟩⟩⟩
  have s710:=s8.trans (s9.trans s10);exact qY p w2 du en2 H10 (s05.trans (s6.trans (s7.trans s710))) e10 (s710 _ _ e7) (s710 _ _ (s7 _ _ e6)) ⟨dq,s10 _ _ e9,s10 _ _ (s9 _ _ e8)⟩
end
theorem rE:∀(A:List Int)(m n:Nat),m <= A.length->n <= A.length->cp (A.take m) (A.take n)=min m n
 | [],m,n,h1,h2=>by
  have e1:m=0:=Nat.le_zero.mp h1;subst e1;rw[List.take_zero,K43B.gX,Nat.zero_min]
 | a :: A,0,n,_,_=>by rw[List.take_zero,K43B.gX,Nat.zero_min]
 | a :: A,m + 1,0,_,_=>by rw[List.take_zero,K43B.mq,Nat.min_zero]
 | a :: A,m + 1,n + 1,h1,h2=>by
  rw[List.take_succ_cons,List.take_succ_cons];unfold cp;rw[if_pos rfl,rE A m n (Nat.le_of_succ_le_succ h1) (Nat.le_of_succ_le_succ h2)];lia
theorem oK{α:Type}(A:List α){j k e:Nat}(h1:k <= j)(h2:j <= e):A.take j ++ ((A.drop k).take (e - k)).drop (j - k)=A.take e:=by
 rw[List.drop_take,List.drop_drop,show k + (j - k)=j by lia,show e - k - (j - k)=e - j by lia]
 obtain⟨d,rfl⟩:=Nat.le.dest h2;rw[show j + d - j=d by lia,List.take_add]
theorem mG{α:Type}{C:List α}{g:α->Int}{k e e2:Nat}(hk:k <= e)(hk2:k <= e2)(he:e <= C.length)(he2:e2 <= C.length){β:Type}(cs:List β)(hc:cs.length=C.length):ba ((C.take e).map g) (((C.drop k).take (e2 - k)).map g) k (cs.take e) ((cs.drop k).take (e2 - k))=cs.take (max e e2):=by
 have hT:((C.take e).map g).drop k=(((C.map g).drop k)).take (e - k):=by rw[List.map_take,List.drop_take]
 have hM:((C.drop k).take (e2 - k)).map g=((C.map g).drop k).take (e2 - k):=by rw[List.map_take,List.map_drop]
 have hl:((C.map g).drop k).length=C.length - k:=by rw[length_drop,length_map]
 have hcp:cp (((C.take e).map g).drop k) (((C.drop k).take (e2 - k)).map g)=min (e - k) (e2 - k):=by rw[hT,hM];exact rE _ _ _ (by lia) (by lia)
 have hMl:(((C.drop k).take (e2 - k)).map g).length=e2 - k:=by rw[length_map,length_take,length_drop];lia
 unfold ba;rw[hcp,hMl];by_cases h:e2 <= e
 ·rw[if_pos (by lia),show max e e2=e by lia]
 ·rw[if_neg (by lia),show k + min (e - k) (e2 - k)=e by lia,show min (e - k) (e2 - k)=e - k by lia,show max e e2=e2 by lia,List.take_take,Nat.min_self,oK cs hk (by lia)]
theorem mI{α:Type}{xs C:List α}{g:α->Int}{k keep e2:Nat}(hk:k <= keep)(hkx:keep <= xs.length)(hke:keep < e2)(he2:e2 <= C.length)(hpre:C.take keep=xs.take keep)(hgt:∀e ∈ C.drop keep,∀x ∈ xs,g x < g e){β:Type}(es cs:List β)(hel:es.length=xs.length)(hcl:cs.length=C.length)(hpe:cs.take keep=es.take keep):ba (xs.map g) (((C.drop k).take (e2 - k)).map g) k es ((cs.drop k).take (e2 - k))=cs.take e2:=by
 have hMl:(((C.drop k).take (e2 - k)).map g).length=e2 - k:=by rw[length_map,length_take,length_drop];lia
 have hkC:keep < C.length:=by lia
 have hcp:cp ((xs.map g).drop k) (((C.drop k).take (e2 - k)).map g)=keep - k:=by
  refine K43B.i6 (t:=g C[keep]) ?_ ?_ ?_
  ·
   have key:∀j,j <= keep - k->j <= cp ((xs.map g).drop k) (((C.drop k).take (e2 - k)).map g):=by
    intro j;induction j with
    | zero=>intro _;exact Nat.zero_le _
    | succ j ih =>
     intro hj;have hjk:k + j < keep:=by lia
     have hx:k + j < xs.length:=by lia
     have hC:k + j < C.length:=by lia
     have hcx:C[k + j]=xs[k + j]:=by
      have h1:(C.take keep)[k + j]?=some C[k + j]:=by rw[List.getElem?_take,if_pos hjk,getElem?_eq_getElem hC]
      have h2:(xs.take keep)[k + j]?=some xs[k + j]:=by rw[List.getElem?_take,if_pos hjk,getElem?_eq_getElem hx]
      rw[hpre,h2]at h1;exact(Option.some.inj h1).symm
     refine K43B.i5 (t:=g xs[k + j]) (ih (by lia)) ?_ ?_
     ·rw[getElem?_map,List.getElem?_take,if_pos (by lia),List.getElem?_drop,getElem?_eq_getElem hC,hcx];rfl
     ·rw[List.getElem?_drop,getElem?_map,getElem?_eq_getElem hx];rfl
   exact key _ (Nat.le_refl _)
  ·rw[getElem?_map,List.getElem?_take,if_pos (by lia),List.getElem?_drop,show k + (keep - k)=keep by lia,getElem?_eq_getElem hkC];rfl
  ·rw[List.getElem?_drop,show k + (keep - k)=keep by lia,getElem?_map]
   by_cases hx:keep < xs.length
   ·rw[getElem?_eq_getElem hx];intro z;have z:g xs[keep]=g C[keep]:=Option.some.inj z;have hm:C[keep] ∈ C.drop keep:=by
     rw[List.drop_eq_getElem_cons hkC];exact List.mem_cons_self ..
    have:=hgt _ hm xs[keep] (List.getElem_mem hx);lia
   ·rw[List.getElem?_eq_none (by lia)]
    intro z;cases z
 unfold ba;rw[hcp,hMl,if_neg (by lia),show k + (keep - k)=keep by lia,<- hpe,oK cs hk (by lia)]
theorem term_C{pl tm be th:Int}{C:List En}{k e:Nat}(hk:be=pl + k)(h:aZ pl tm (ay (C.take e)) be=.int th):k <= e:=by
 by_cases z:k <= e
 ·exact z
 ·rw[K43B.bX _ _ _ (.inr (by rw[length_map,length_take];lia))]at h
  cases h
theorem term_0{pl tm be th:Int}{xs C:List En}{k keep:Nat}(hk:be=pl + k)(hkC:k <= C.length)(h:aZ pl tm (ay xs) be=.int th)(hC:aZ pl tm (ay C) be=.int th)(hgt:∀e ∈ C.drop keep,tm < e.1/\∀x ∈ xs,x.1 < e.1):k <= keep:=by
 by_cases z:k <= keep
 ·exact z
 exfalso;have hk1:k - 1 < C.length:=by lia
 have hm:C[k - 1] ∈ C.drop keep:=by
  have:(C.drop keep)[k - 1 - keep]?=some C[k - 1]:=by rw[List.getElem?_drop,show keep + (k - 1 - keep)=k - 1 by lia,getElem?_eq_getElem hk1]
  exact mem_of_getElem? this
 have hcv:th=C[k - 1].1:=by
  unfold aZ at hC;rw[if_neg (by lia),if_neg (by rw[length_map];lia),show (be - pl - 1).toNat=k - 1 by lia,getD_eq_getElem?_getD,getElem?_map,getElem?_eq_getElem hk1]at hC
  have:C[k - 1].1=th:=by injection hC
  exact this.symm
 unfold aZ at h;rw[if_neg (by lia)]at h
 split at h
 ·cases h
 ·rename_i hr;rw[length_map]at hr;have hx:k - 1 < xs.length:=by lia
  rw[show (be - pl - 1).toNat=k - 1 by lia,getD_eq_getElem?_getD,getElem?_map,getElem?_eq_getElem hx]at h
  have h:xs[k - 1].1=th:=by injection h
  have:=(hgt _ hm).2 xs[k - 1] (List.getElem_mem hx);lia
open K43T (Kvs Las aI aT aS)
structure qm(xs:List En)(pl tm:Int)(C:List En)(keep:Nat)(fi:Int):Prop where
 k2:keep <= xs.length
 pre:C.take keep=xs.take keep
 gt:∀e ∈ C.drop keep,tm < e.1/\∀x ∈ xs,x.1 < e.1
 f1:pl + keep < fi
 f2:fi <= pl + C.length
theorem qj.s{xs:List En}{pl tm t s:Int}{C:List En}{keep:Nat}{own fi:Int}(h:qj xs pl tm t s C keep own fi):qm xs pl tm C keep fi:=⟨h.k2,h.pre,h.gt,h.f1,h.f2⟩
def RowP(es0:List Addr)(xs0:List En)(cs:List Addr)(C:List En)(keep:Nat)(es:List Addr)(xs:List En)(n:Nat):Prop:=(es=es0/\xs=xs0/\n <= keep)\/∃e,e <= C.length/\es=cs.take e/\xs=C.take e/\n <= e
theorem RowP.step{es0 cs es ms:List Addr}{xs0 C xs ys:List En}{pl tm own fi be th up bt:Int}{keep k sk e2 n:Nat}(hR:qm xs0 pl tm C keep fi)(hF:oJ pl tm C own fi be th up bt ys k sk e2)(hpe:cs.take keep=es0.take keep)(h0:es0.length=xs0.length)(hC:cs.length=C.length)(hms:ms.drop sk=(cs.drop k).take (e2 - k))(hP:RowP es0 xs0 cs C keep es xs n)(hgo:pl <= be->aZ pl tm (ay xs) be=.int th) :
  ∃e',e' <= C.length/\e2 <= e'/\ba (ay xs) ((ay ys).drop sk) k es (ms.drop sk)=cs.take e'/\ba (ay xs) ((ay ys).drop sk) k xs (ys.drop sk)=C.take e'/\n <= e'/\(C.take e').take n=xs.take n/\(cs.take e').take n=es.take n:=by
 have hys:(ay ys).drop sk=ay ((C.drop k).take (e2 - k)):=by rw[<- hF.yd];exact(List.map_drop ..).symm
 rw[hys,hms,hF.yd];have f1:=hR.f1;have e1:=hF.e1;have e3:=hF.e3;have e4:=hF.e4;have ks:=hF.ks;have hbe:sk=0->be=pl + k:=fun z=>by lia
 rcases hP with ⟨rfl,rfl,hn⟩ | ⟨e,g2,rfl,rfl,hn⟩
 ·have hk:k <= keep:=by
   rcases hF.k0 with z | z
   ·have hb:=hbe z;exact term_0 hb (by lia) (hgo (by lia)) (hF.th (by lia)) hR.gt
   ·lia
  refine⟨e2,e4,Nat.le_refl _,?_,?_,by lia,?_,?_⟩
  ·exact mI (g:=fun x:En=>x.1) hk hR.k2 (by lia) e4 hR.pre (fun e he x hx=>(hR.gt e he).2 x hx) _ _ h0 hC hpe
  ·exact mI (g:=fun x:En=>x.1) hk hR.k2 (by lia) e4 hR.pre (fun e he x hx=>(hR.gt e he).2 x hx) _ _ rfl rfl hR.pre
  ·have h1:(C.take e2).take n=(C.take keep).take n:=by rw[List.take_take,List.take_take,Nat.min_eq_left (by lia),Nat.min_eq_left hn]
   rw[h1,hR.pre,List.take_take,Nat.min_eq_left hn]
  ·have h1:(cs.take e2).take n=(cs.take keep).take n:=by rw[List.take_take,List.take_take,Nat.min_eq_left (by lia),Nat.min_eq_left hn]
   rw[h1,hpe,List.take_take,Nat.min_eq_left hn]
 ·have hk:k <= e:=by
   rcases hF.k0 with z | z
   ·exact term_C (hbe z) (hgo (by have:=hbe z;lia))
   ·lia
  refine⟨max e e2,by lia,by lia,?_,?_,by lia,?_,?_⟩
  ·exact mG (g:=fun x:En=>x.1) hk e1 g2 e4 cs hC
  ·exact mG (g:=fun x:En=>x.1) hk e1 g2 e4 C rfl
  ·rw[List.take_take,List.take_take,Nat.min_eq_left (by lia),Nat.min_eq_left hn]
  ·rw[List.take_take,List.take_take,Nat.min_eq_left (by lia),Nat.min_eq_left hn]
def Out(g:Gs)(be th up:Int)(ms:List Addr)(ys:List En)(k sk:Nat)(y:Bool)(pc s2:Int)(es2:List Addr)(xs2:List En):Prop :=
 (g.pl <= be/\aZ g.pl g.tm (ay g.xs) be ≠ .int th/\y=false/\pc=g.s/\s2=g.s/\es2=g.es/\xs2=g.xs) \/
 ((g.pl <= be->aZ g.pl g.tm (ay g.xs) be=.int th)/\y=true/\pc=be + ms.length/\s2=fV g.s up (be + ms.length)/\es2=ba (ay g.xs) ((ay ys).drop sk) k g.es (ms.drop sk)/\xs2=ba (ay g.xs) ((ay ys).drop sk) k g.xs (ys.drop sk)/\xs2.take (g.s - g.pl).toNat=g.xs.take (g.s - g.pl).toNat)
theorem oI.of{g:Gs}{fr:Str}{be th up:Int}{ms:List Addr}{ys:List En}{k sk:Nat}{R:Gs->Bool->Int->Prop}{y:Bool}{pc s2:Int}{es2:List Addr}{xs2:List En}(A:Out g be th up ms ys k sk y pc s2 es2 xs2)(h:∀kr2 en2 n2,n2 <= g.n + 1->R { g with kn:=.str fr,qu:=0,kr:=kr2,en:=en2,es:=es2,xs:=xs2,n:=n2,s:=s2 } y pc):oI g fr be th up ms ys k sk R:=by
 rcases A with ⟨a1,a2,rfl,rfl,rfl,rfl,rfl⟩ | ⟨a1,rfl,rfl,rfl,rfl,rfl,a2⟩
 ·exact⟨fun _ _=>h g.kr g.en g.n (Nat.le_succ _),fun z=>absurd (z a1) a2⟩
 ·exact⟨fun z1 z2=>absurd (a1 z1) z2,fun _=>⟨a2,fun kr2 en2=>h kr2 en2 (g.n + 1) (Nat.le_refl _)⟩⟩
noncomputable def j5(g:Gs)(H:Hp):Hp:=fun x=>by
 classical exact if x=g.ho\/x=g.m\/x=g.wr\/x=g.rl\/x=g.d\/x=g.l then none else H x
theorem wU(g:Gs)(H:Hp):Own (j5 g H) g:=by
 unfold j5;exact⟨if_pos (.inl rfl),if_pos (.inr (.inl rfl)),if_pos (.inr (.inr (.inl rfl))),if_pos (.inr (.inr (.inr (.inl rfl)))),if_pos (.inr (.inr (.inr (.inr (.inl rfl))))),if_pos (.inr (.inr (.inr (.inr (.inr rfl)))))⟩
theorem rF{g:Gs}{H:Hp}{x:Addr}(n1:x ≠ g.ho)(n2:x ≠ g.m)(n3:x ≠ g.wr)(n4:x ≠ g.rl)(n5:x ≠ g.d)(n6:x ≠ g.l):j5 g H x=H x:=by
 unfold j5;exact if_neg (by
  rintro (h | h | h | h | h | h)
  ·exact n1 h
  ·exact n2 h
  ·exact n3 h
  ·exact n4 h
  ·exact n5 h
  ·exact n6 h)
theorem bP.off{K:Frag}{c:Cs}{H0 H:Hp}{g:Gs}(h:bP K c H0 H g):bP K c (j5 g H) H g/\aq H0 (j5 g H):=by
 refine⟨⟨h.hb,h.mo,wU g H,fun x u e=>?_⟩,fun x u e=>?_⟩
 ·unfold j5 at e;split at e
  ·cases e
  ·exact e
 ·rw[rF (ak e h.ow.ho) (ak e h.ow.m) (ak e h.ow.wr) (ak e h.ow.rl) (ak e h.ow.d) (ak e h.ow.l)];exact h.sm _ _ e
end K43
namespace K43
open PySem L2
open K43B (aZ ba cp)
theorem kX(tm:Int)(T:List Int)(o j:Nat):(((tm :: T).getD o 0) :: T.drop o).getD j 0=(tm :: T).getD (o + j) 0:=by
 cases j with
 | zero=>rfl
 | succ j =>
  rw[show o + (j + 1)=(o + j) + 1 by lia]
  show (T.drop o).getD j 0=T.getD (o + j) 0;rw[getD_eq_getElem?_getD,getD_eq_getElem?_getD,List.getElem?_drop]
theorem qo{pl tm be:Int}{T:List Int}{o:Nat}(h:pl + o <= be)(ho:o <= T.length):aZ (pl + o) ((tm :: T).getD o 0) (T.drop o) be=aZ pl tm T be:=by
 obtain⟨j,hj⟩:=Int.eq_ofNat_of_zero_le (show 0 <= be - (pl + o) by lia)
 have e1:be=pl + o + j:=by lia
 by_cases hl:o + j <= T.length
 ·rw[e1,K43B.eW (pl + o) _ (T.drop o) (k:=j) (by rw[length_drop];lia),kX,show pl + (o:Int) + (j:Int)=pl + ((o + j:Nat):Int) by lia,K43B.eW pl tm T hl]
 ·rw[K43B.bX _ _ _ (.inr (by rw[length_drop];lia)),K43B.bX _ _ _ (.inr (by lia))]
theorem fg{α:Type}{T M:List Int}{k o:Nat}{es ms:List α}(ho:o <= es.length):ba (T.drop o) M k (es.drop o) ms=(ba T M (o + k) es ms).drop o:=by
 unfold ba;rw[List.drop_drop];split
 ·rfl
 ·rw[List.drop_append_of_le_length (by rw[length_take];lia),List.drop_take,show o + k + cp (T.drop (o + k)) M - o=k + cp (T.drop (o + k)) M by lia]
theorem wV(T:List Int):cp T []=0:=by cases T <;> rfl
theorem kY{α:Type}(T:List Int)(k:Nat)(es ms:List α):ba T [] k es ms=es:=by
 unfold ba;rw[wV];exact if_pos rfl
noncomputable abbrev gN(g:Gs)(own:Int)(fr:Str)(s2:Int)(es2:List Addr)(xs2:List En)(kr2 en2:Addr)(n2:Nat):Gs:={ g with t:=own,v:=(if g.t < own then .non else g.v),kn:=.str fr,qu:=0,kr:=kr2,en:=en2,es:=es2,xs:=xs2,n:=n2,s:=s2 }
def gx(pl0 tm0:Int)(es0:List Addr)(xs0:List En)(cs:List Addr)(C:List En)(keep:Nat)(s pl tm:Int)(es:List Addr)(xs:List En):Prop :=
 ∃(R:List Addr)(X:List En)(o:Nat),RowP es0 xs0 cs C keep R X (s - pl0).toNat/\pl=pl0 + o/\pl <= s/\(s - pl0).toNat <= R.length/\R.length=X.length/\es=R.drop o/\xs=X.drop o/\tm=(tm0 :: ay X).getD o 0
theorem dW(X:List En)(o:Nat):ay (X.drop o)=(ay X).drop o:=List.map_drop ..
theorem gx.cut{pl0 tm0:Int}{es0:List Addr}{xs0:List En}{cs:List Addr}{C:List En}{keep:Nat}{s pl tm:Int}{es:List Addr}{xs:List En}(h:gx pl0 tm0 es0 xs0 cs C keep s pl tm es xs):gx pl0 tm0 es0 xs0 cs C keep s s ((tm :: ay xs).getD (s - pl).toNat 0) (es.drop (s - pl).toNat) (xs.drop (s - pl).toNat):=by
 obtain⟨R,X,o,h1,rfl,h3,h4,h5,rfl,rfl,rfl⟩:=h;refine⟨R,X,(s - pl0).toNat,h1,by lia,Int.le_refl _,h4,h5,?_,?_,?_⟩
 ·rw[List.drop_drop,show o + (s - (pl0 + (o:Int))).toNat=(s - pl0).toNat by lia]
 ·rw[List.drop_drop,show o + (s - (pl0 + (o:Int))).toNat=(s - pl0).toNat by lia]
 ·rw[dW,kX,show o + (s - (pl0 + (o:Int))).toNat=(s - pl0).toNat by lia]
theorem gx.le{pl0 tm0:Int}{es0:List Addr}{xs0:List En}{cs:List Addr}{C:List En}{keep:Nat}{s pl tm:Int}{es:List Addr}{xs:List En}(h:gx pl0 tm0 es0 xs0 cs C keep s pl tm es xs):s <= pl + es.length:=by
 obtain⟨R,X,o,h1,rfl,h3,h4,h5,rfl,rfl,rfl⟩:=h;rw[length_drop];lia
theorem gx.step{g:Gs}{pl0 tm0 own fi be th up bt:Int}{es0 cs ms:List Addr}{xs0 C ys:List En}{keep k sk e2:Nat}(hR:qm xs0 pl0 tm0 C keep fi)(hF:oJ pl0 tm0 C own fi be th up bt ys k sk e2)(hpe:cs.take keep=es0.take keep)(h0:es0.length=xs0.length)(hC:cs.length=C.length)(hms:ms.drop sk=(cs.drop k).take (e2 - k))(hml:ms.length=ys.length)(hQ:gx pl0 tm0 es0 xs0 cs C keep g.s g.pl g.tm g.es g.xs) :
  ∃(k' sk':Nat)(y:Bool)(pc s2:Int)(es2:List Addr)(xs2:List En),be + sk'=g.pl + k'/\(sk'=0\/k'=0)/\Out g be th up ms ys k' sk' y pc s2 es2 xs2/\g.s <= s2/\gx pl0 tm0 es0 xs0 cs C keep s2 g.pl g.tm es2 xs2:=by
 obtain⟨R,X,o,hP,e1,e3,e4,e5,e6,e7,e8⟩:=hQ;have e6':=e6;have e7':=e7;have ks:=hF.ks;have yl:=hF.yl;have f1:=hF.e1;have f3:=hF.e3;have f4:=hF.e4;have hf:=hR.f1;have hset:∀p:Int,fV g.s up p=g.s\/(g.s < fV g.s up p/\fV g.s up p <= p):=fun p=>by
  unfold fV;by_cases z:p < up
  ·rw[if_pos z];by_cases y:g.s < p
   ·rw[if_pos y];exact .inr ⟨y,Int.le_refl _⟩
   ·rw[if_neg y];exact .inl rfl
  ·rw[if_neg z];by_cases y:g.s < up
   ·rw[if_pos y];exact .inr ⟨y,by lia⟩
   ·rw[if_neg y];exact .inl rfl
 have fin:∀(k' sk' e':Nat),be + sk'=g.pl + k'->(sk'=0\/k'=0)->(g.pl <= be->aZ g.pl g.tm (ay g.xs) be=.int th)->e' <= C.length->e2 <= e'->ba (ay g.xs) ((ay ys).drop sk') k' g.es (ms.drop sk')=(cs.take e').drop o->ba (ay g.xs) ((ay ys).drop sk') k' g.xs (ys.drop sk')=(C.take e').drop o->(g.s - pl0).toNat <= e'->(C.take e').take (g.s - pl0).toNat=X.take (g.s - pl0).toNat->(C.take e').getD o (0,none)=(C.take e').getD o (0,none)->(tm0 :: ay X).getD o 0=(tm0 :: ay (C.take e')).getD o 0->∃(k' sk':Nat)(y:Bool)(pc s2:Int)(es2:List Addr)(xs2:List En),be + sk'=g.pl + k'/\(sk'=0\/k'=0)/\Out g be th up ms ys k' sk' y pc s2 es2 xs2/\g.s <= s2/\gx pl0 tm0 es0 xs0 cs C keep s2 g.pl g.tm es2 xs2:=by
  intro k' sk' e' a1 a2 a3 a4 a5 a6 a7 a8 a9 _ a10;have hp:=hset (be + ms.length);refine⟨k',sk',true,_,_,_,_,a1,a2,.inr ⟨a3,rfl,rfl,rfl,rfl,rfl,?_⟩,by lia,cs.take e',C.take e',o,.inr ⟨e',a4,rfl,rfl,?_⟩,e1,by lia,?_,?_,a6,a7,by rw[e8,a10]⟩
  ·rw[a7,e7',show (g.s - g.pl).toNat=(g.s - pl0).toNat - o by lia]
   rw[<- List.drop_take,<- List.drop_take,a9]
  ·rcases hp with z | z
   ·rw[z];exact a8
   ·lia
  ·rw[length_take];rcases hp with z | z
   ·rw[z];lia
   ·lia
  ·rw[length_take,length_take,hC]
 have getk:∀e',(g.s - pl0).toNat <= e'->(C.take e').take (g.s - pl0).toNat=X.take (g.s - pl0).toNat->(tm0 :: ay X).getD o 0=(tm0 :: ay (C.take e')).getD o 0:=by
  intro e' h1 h2;cases o with
  | zero=>rfl
  | succ i =>
   have hi:i < (g.s - pl0).toNat:=by lia
   have:=congrArg (fun l:List En=>l[i]?) h2;simp only[List.getElem?_take_of_lt hi]at this;rw[getD_eq_getElem?_getD,getD_eq_getElem?_getD,List.getElem?_cons_succ,List.getElem?_cons_succ,getElem?_map,getElem?_map,this]
 by_cases hb:g.pl <= be
 ·have hsk:sk=0:=by
   rcases hF.k0 with z | z
   ·exact z
   ·lia
  obtain⟨k',hk'⟩:=Int.eq_ofNat_of_zero_le (show 0 <= be - g.pl by lia)
  have hk:k=o + k':=by lia
  have hT:aZ g.pl g.tm (ay g.xs) be=aZ pl0 tm0 (ay X) be:=by
   rw[e1,e7',e8,dW];exact qo (by lia) (by rw[length_map];lia)
  by_cases hgo:aZ g.pl g.tm (ay g.xs) be=.int th
  ·obtain⟨e',q2,q3,q4,q5,q6,q7,q8⟩:=RowP.step hR hF hpe h0 hC hms hP (fun _=>by rw[<- hT];exact hgo)
   refine fin k' 0 e' (by lia) (.inl rfl) (fun _=>hgo) q2 q3 ?_ ?_ q6 q7 rfl (getk e' q6 q7)
   ·rw[e6',e7',dW,fg (by lia),<- hk,<- q4,hsk]
   ·rw[e7',dW,fg (by lia),<- hk,<- q5,hsk]
  ·exact⟨k',0,false,_,_,_,_,by lia,.inl rfl,.inl ⟨hb,hgo,rfl,rfl,rfl,rfl,rfl⟩,Int.le_refl _,R,X,o,hP,e1,e3,e4,e5,e6,e7,e8⟩
 ·obtain⟨sk',hsk'⟩:=Int.eq_ofNat_of_zero_le (show 0 <= g.pl - be by lia)
  have hks:sk' + k=sk + o:=by lia
  by_cases hE:e2 <= o
  ·
   have hyn:ys.drop sk'=[]:=List.drop_of_length_le (by lia)
   have hp:=hset (be + ms.length);have hs:fV g.s up (be + ms.length)=g.s:=by
    rcases hp with z | z
    ·exact z
    ·lia
   have hM:(ay ys).drop sk'=[]:=by rw[<- dW,hyn];rfl
   refine⟨0,sk',true,_,_,g.es,g.xs,by lia,.inr rfl,.inr ⟨fun z=>absurd z hb,rfl,rfl,hs.symm,?_,?_,rfl⟩,Int.le_refl _,R,X,o,hP,e1,e3,e4,e5,e6,e7,e8⟩
   ·rw[hM,kY]
   ·rw[hM,kY]
  ·have hdr:∀{β:Type}(zs ds:List β),zs.drop sk=(ds.drop k).take (e2 - k)->sk <= sk'->k <= o->zs.drop sk'=(ds.drop o).take (e2 - o):=fun zs ds h h1 h2=>by
    have:=congrArg (List.drop (sk' - sk)) h;rw[List.drop_drop,List.drop_take,List.drop_drop,show sk + (sk' - sk)=sk' by lia,show k + (sk' - sk)=o by lia,show e2 - k - (sk' - sk)=e2 - o by lia]at this
    exact this
   have h1:sk <= sk':=by rcases hF.k0 with z | z <;> lia
   have h2:k <= o:=by lia
   have hy:=hdr ys C hF.yd h1 h2;have hm:=hdr ms cs hms h1 h2;have hY:(ay ys).drop sk'=ay ((C.drop o).take (e2 - o)):=by rw[<- dW,hy]
   have on:o <= (g.s - pl0).toNat:=by lia
   have key:∃e',e' <= C.length/\e2 <= e'/\ba (ay X) (ay ((C.drop o).take (e2 - o))) o R ((cs.drop o).take (e2 - o))=cs.take e'/\ba (ay X) (ay ((C.drop o).take (e2 - o))) o X ((C.drop o).take (e2 - o))=C.take e'/\(g.s - pl0).toNat <= e'/\(C.take e').take (g.s - pl0).toNat=X.take (g.s - pl0).toNat:=by
    rcases hP with ⟨rfl,rfl,hn⟩ | ⟨e,g2,rfl,rfl,hn⟩
    ·refine⟨e2,f4,Nat.le_refl _,?_,?_,by lia,?_⟩
     ·exact mI (g:=fun x:En=>x.1) (by lia) hR.k2 (by lia) f4 hR.pre (fun e he x hx=>(hR.gt e he).2 x hx) _ _ h0 hC hpe
     ·exact mI (g:=fun x:En=>x.1) (by lia) hR.k2 (by lia) f4 hR.pre (fun e he x hx=>(hR.gt e he).2 x hx) _ _ rfl rfl hR.pre
     ·have h1:(C.take e2).take (g.s - pl0).toNat=(C.take keep).take (g.s - pl0).toNat:=by rw[List.take_take,List.take_take,Nat.min_eq_left (by lia),Nat.min_eq_left hn]
      rw[h1,hR.pre,List.take_take,Nat.min_eq_left hn]
    ·refine⟨max e e2,by lia,by lia,?_,?_,by lia,?_⟩
     ·exact mG (g:=fun x:En=>x.1) (by lia) (by lia) g2 f4 cs hC
     ·exact mG (g:=fun x:En=>x.1) (by lia) (by lia) g2 f4 C rfl
     ·rw[List.take_take,List.take_take,Nat.min_eq_left (by lia),Nat.min_eq_left hn]
   obtain⟨e',q2,q3,q4,q5,q6,q7⟩:=key;refine fin 0 sk' e' (by lia) (.inr rfl) (fun z=>absurd z hb) q2 q3 ?_ ?_ q6 q7 rfl (getk e' q6 q7)
   ·rw[hY,hm,e6',e7',dW,fg (by lia),Nat.add_zero,q4]
   ·rw[hY,hy,e7',dW,fg (by lia),Nat.add_zero,q5]
end K43
namespace K43
open PySem L2
open K43T (Kvs Las aS bR aI aT cS Eqv ci bS)
open K43B (dG aZ)
abbrev jT:Stmt:=aP (top 73) 8
abbrev mJ:Stmt:=aP (top 73) 9
abbrev wW:Stmt:=aP (top 73) 13
abbrev wX:Stmt:=aP (top 96) 10
abbrev wY:Stmt:=aP (top 109) 4
theorem fz {st en:Addr}:(flR st en).lookup ("bench_at":Str)=none:=by kernel_rfl
theorem oM {st en:Addr}:(flR st en).lookup ("last_place":Str)=none:=by kernel_rfl
theorem qp {st en:Addr}:(flR st en).lookup ("cut":Str)=none:=by kernel_rfl
theorem en_kind {H:Hp} {a:Addr} {e:En} (h:EnO H a e):∃(d:Addr)(k:Str)(r:List V),H a=some (.tup [.int e.1,.ref d])/\H d=some (.tup (.str k :: r))/\decide (V.str k=V.str (Str.ofString "bench"))=false:=by
 obtain⟨t,dd⟩:=e;obtain⟨d,h1,h2⟩:=h;cases dd with
 | none=>exact⟨d,"first",_,h1,h2,by decide +kernel⟩
 | some q =>
  obtain⟨x,n,wk⟩:=q;obtain⟨_,t,h3,_⟩:=h2;exact⟨d,"ask",_,h1,h3,by decide +kernel⟩
theorem wZ{α β:Type}{R:α->β->Prop}{as:List α}{bs:List β}(h:Paired R as bs){i:Nat}(hi:i < as.length):∃(hb:i < bs.length),R as[i] bs[i]:=by
 induction h generalizing i with
 | nil=>exact absurd hi (Nat.not_lt_zero _)
 | cons r _ ih =>
  cases i with
  | zero=>exact⟨Nat.succ_pos _,r⟩
  | succ i =>
   obtain⟨hb,hr⟩:=ih (Nat.lt_of_succ_lt_succ hi);exact⟨Nat.succ_lt_succ hb,hr⟩
def gj(C:Addr):Sp:=fun us H Q _=>∃(r st en:Addr)(pl tm:Int)(b hh aa:Addr)(es:List Addr)(xs:List En)(k:Nat),us=[.ref r,.int (pl + k)]/\dG C H r st en pl tm [.ref b,.ref hh,.ref aa] es (ay xs)/\Paired (EnO H) es xs/\∀H',aq H H'->Q (.ref b) H'
def jU(C:Addr):Sp:=fun us H Q _=>∃(r st en:Addr)(pl tm:Int)(b hh aa:Addr)(es:List Addr)(xs:List En),us=[.ref r]/\dG C H r st en pl tm [.ref b,.ref hh,.ref aa] es (ay xs)/\Paired (EnO H) es xs/\∀H',aq H H'->Q (.ref b) H'
structure CutS(kvs:Kvs)(las:Las)(hk:List (Key × V))(hq:List (Str × Int × V)):Prop where
 eq:Eqv (aI hk) (aT hq) kvs las
 ok:bR (aI hk) (aT hq)
 l1:(aI hk).length < 64
 l2:(aT hq).length < 64
 to:∃ps,hk=cS ps/\bS kvs las ps hq
def qr(K:Frag)(C CT:Addr):Sp:=fun us H Q _=>∃(r st en:Addr)(pl tm:Int)(b hh aa:Addr)(es:List Addr)(xs:List En)(k:Nat)(T d l:Addr)(kvs:Kvs)(las:Las),us=[.ref r,.int (pl + k),.ref T]/\dG C H r st en pl tm [.ref b,.ref hh,.ref aa] es (ay xs)/\Paired (EnO H) es xs/\k <= xs.length/\aS K CT H T d l kvs las/\bR kvs las/\kvs.length < 64/\las.length < 64 /\
 ∀(r2 st2 en2 dk:Addr) (hk:List (Key × V)) (hq:List (Str × Int × V)) (H':Hp),aq H H'->H' r2=some (.ins C dk (flR st2 en2))->bT K H' st2 (pl + k) ((tm :: ay xs).getD k 0) b hk hq->H' en2=some (.tup ((es.drop k).map V.ref))->CutS kvs las hk hq->Q (.ref r2) H'
noncomputable abbrev gC(g:Gs)(kr2 st2 en2:Addr)(hk2:List (Key × V))(hq2:List (Str × Int × V))(B:Bk):Gs:={ g with kr:=kr2,st:=st2,en:=en2,pl:=g.s,tm:=(g.tm :: ay g.xs).getD (g.s - g.pl).toNat 0,hk:=hk2,hq:=hq2,es:=g.es.drop (g.s - g.pl).toNat,xs:=g.xs.drop (g.s - g.pl).toNat,bk:=B }
theorem bE.setC{K:Frag}{c:Cs}{H H':Hp}{g:Gs}{dx dk kr2 st2 en2:Addr}{hk2:List (Key × V)}{hq2:List (Str × Int × V)}{B:Bk}(h:bE K c H g)(e:BtO g.wr H H')(hw:H' g.wr=some (.ins c.W dx (flW g.t g.v g.s kr2)))(hr:H kr2=some (.ins c.R dk (flR st2 en2)))(hs:bT K H st2 g.s ((g.tm :: ay g.xs).getD (g.s - g.pl).toNat 0) g.b hk2 hq2)(he:H en2=some (.tup ((g.es.drop (g.s - g.pl).toNat).map V.ref)))(hB:B.t=g.tab)(hc:CutS g.tab.1 g.tab.2 hk2 hq2):bE K c H' (gC g kr2 st2 en2 hk2 hq2 B):=by
 obtain⟨dy,h1⟩:=h.ob;obtain⟨rs,h2,h3⟩:=h.rc;obtain⟨⟨dw,h4⟩,dk0,h5⟩:=id h.wg.wo;have N:=h.ne;have k:=TkZ.ins e h4;have el:=h.wg.el;have c1:=hc.l1;have c2:=hc.l2;have nk:kr2 ≠ g.wr:=(eG "term" h4 hr (fT gR fS)).symm;refine⟨⟨dy,e _ _ N.wm.symm h1⟩,⟨⟨⟨dx,hw⟩,dk,e _ _ nk hr⟩,hs.tkz k,k.t _ _ he,bB k.t (Paired.dropS h.wg.eo _),by show (g.es.drop _).length <= 60;rw[length_drop];lia,Int.le_refl _,hc.ok,show (aI hk2).length <= 300 by lia,show (aT hq2).length <= 300 by lia⟩,?_,⟨rs,e _ _ N.rw' h2,h3⟩,h.gv.ins e h4⟩
 have:=aS.keepT (fun u q=>e _ _ N.bw q) (fun u q=>e _ _ N.dw q) (fun u q=>e _ _ N.lw q) k h.tb;show aS K c.T H' g.bd g.d g.l (ca B.t (List.take (g.s - g.s).toNat (g.xs.drop (g.s - g.pl).toNat))).1 (ca B.t (List.take (g.s - g.s).toNat (g.xs.drop (g.s - g.pl).toNat))).2;rw[show (g.s - g.s).toNat=0 by lia,List.take_zero,show ca B.t []=g.tab from hB]
 exact this
def qt(K:Frag)(c:Cs):Sp:=fun us H Q _=>∃g:Gs,us=[.ref g.m]/\bE K c H g/\g.s <= g.pl + g.es.length/\g.tab.1.length < 64/\g.tab.2.length < 64/\(g.s=g.pl->Q .non H) /\
 (g.pl < g.s->∀(kr2 st2 en2:Addr) (hk2:List (Key × V)) (hq2:List (Str × Int × V)) (B:Bk) (H':Hp),B.t=g.tab->CutS g.tab.1 g.tab.2 hk2 hq2->bE K c H' (gC g kr2 st2 en2 hk2 hq2 B)->Fr g H H'->Q .non H')
def qv(K:Frag)(c:Cs):Sp:=fun us H Q _=>∃(H0:Hp)(g:Gs),us=[.ref g.ho]/\bP K c H0 H g/\g.s <= g.pl + g.es.length/\g.tab.1.length < 64/\g.tab.2.length < 64/\(g.s=g.pl->Q .non H) /\
 (g.pl < g.s->∀(kr2 st2 en2:Addr) (hk2:List (Key × V)) (hq2:List (Str × Int × V)) (B:Bk) (H':Hp),B.t=g.tab->CutS g.tab.1 g.tab.2 hk2 hq2->bP K c H0 H' (gC g kr2 st2 en2 hk2 hq2 B)->TkZ H H'->Fr g H H'->Q .non H')
section
variable{P:Program}{w:World}{K:Frag}{mg:Str->Option Value}{base:Heap}{CH CM CT CW CR:Addr}
theorem kZ:au ["self","place","entry"] ["self","place"] (am jT):=fsc (by decide +kernel)
theorem qw {f C:Addr} {fd:FuncData} (F:Fun K "bench_at" "Row.bench_at" jT f fd) (T:ClR K mg C) (hrev:mg "reversed"=none) (Mu:aW P w K mg base C 1 "up_to" ["self","place"] (K43B.fO C)):aQ P w K mg base CX0 2 f fd ["self","place"] (gj C):=by
 refine F.ok kZ (fun vs H Q E h=>?_) (fun cdv A outer s H vs Q E hr h=>?_)
 ·obtain⟨r,st,en,pl,tm,b,hh,aa,es,xs,k,rfl,_⟩:=h;rfl
 ·obtain⟨r,st,en,pl,tm,b,hh,aa,es,xs,k,rfl,hR,hP,q⟩:=h;obtain⟨⟨dx,h1⟩,h2,h3,h4,h5,h6⟩:=id hR;have nd:=kZ.nd;refine⟨_,ae (dY PassesOwn.never rfl (pi_revT (by rfl) hrev (ad (bg Mu T.cl hr (pv 0) (ad (pv 1) ag)) ag)) (aA (i:=2) nd rfl (Or.inl rfl))
    (aj (aX (aH cj (ar ao (ar ao (pv 2) af (fun _ _=>rfl)) af (fun _ _=>rfl)) aU (aG _)) dj aK))) <|
   aj <| ax <| ar ao (aD (pv 0) rfl) af (fun _ _=>rfl),?_⟩
  refine⟨_,rfl,ex3 r dx _ ⟨rfl,h1,rfl,_,rfl,r,st,en,pl,tm,_,es,ay xs,k,rfl,hR,fun t H1 s1 e1=>?_⟩⟩;refine⟨t,_,rfl,SqT.of e1,for_rev (xs:=(es.take k).map V.ref) (fun i σ Hx=>∃(v:Option V),σ=[some (V.ref r),some (.int (pl + (k:Int))),v]/\aq H1 Hx) ⟨none,rfl,aq.refl _⟩ ?_ ?_ ?_⟩
  ·rintro i σ Hx hi ⟨v,rfl,sx⟩;exact SqT.of (sx _ _ e1)
  ·rintro i x σ Hx hx ⟨v,rfl,sx⟩;have hx':=List.mem_reverse.mp (mem_of_getElem? hx);obtain⟨e,he,rfl⟩:=List.mem_map.mp hx';obtain⟨j,hj,rfl⟩:=List.getElem_of_mem (List.mem_of_mem_take he);have sH:=s1.trans sx;obtain⟨hb,hE⟩:=wZ (bB (Tk.of sH) hP) hj;obtain⟨d,kd,rr,g1,g2,g3⟩:=en_kind hE;refine⟨_,rfl,es[j],_,oo rfl rfl ⟨SqT.of g1,at1,d,_,oo rfl rfl ⟨SqT.of g2,at0,rfl,_,rfl,?_⟩⟩⟩;rw[g3];exact aY ⟨_,rfl,sx⟩
  ·rintro σ Hx ⟨v,rfl,sx⟩;have sH:=s1.trans sx;exact⟨_,rfl,ex5 r C dx _ _ ⟨rfl,sH _ _ h1,T.cl,T.nS,gz,ex4 st _ _ _ ⟨rfl,rfl,SqT.of (sH _ _ h2),eP,q Hx sH⟩⟩⟩
theorem xa:au ["self"] ["self"] (am mJ):=fsc (by decide +kernel)
theorem tX {f C:Addr} {fd:FuncData} (F:Fun K "bench" "Row.bench" mJ f fd) (T:ClR K mg C) (Ml:aW P w K mg base C 1 "last_place" ["self"] (K43B.i3 C)) (Mb:aW P w K mg base C 2 "bench_at" ["self","place"] (gj C)):aQ P w K mg base CX0 3 f fd ["self"] (jU C):=by
 refine F.ok xa (fun vs H Q E h=>?_) (fun cdv A outer s H vs Q E hr h=>?_)
 ·obtain⟨r,st,en,pl,tm,b,hh,aa,es,xs,rfl,_⟩:=h;rfl
 ·obtain⟨r,st,en,pl,tm,b,hh,aa,es,xs,rfl,hR,hP,q⟩:=h;obtain⟨⟨dx,h1⟩,_⟩:=id hR;have r1:bj 1 _:=hr.mono (by decide)
  refine⟨_,aj <| ax <| bg Mb T.cl hr (pv 0) (ad (aO Ml T.cl r1 (pv 0)) ag),?_⟩;exact⟨_,rfl,ex3 r dx _ ⟨rfl,h1,fz,_,rfl,ex3 r dx _ ⟨rfl,h1,oM,ex8 r st en pl tm _ es _ ⟨rfl,hR,r,st,en,pl,tm,b,hh,aa,es,xs,(ay xs).length,rfl,hR,hP,q⟩⟩⟩⟩
noncomputable abbrev nCut:List Str:=["self","place","table","told","stand"]
theorem xb:au nCut ["self","place","table"] (am wW):=fsc (by decide +kernel)
theorem ok_cutR {f:Addr} {fd:FuncData} (F:Fun K "cut" "Row.cut" wW f fd) (T:ClR K mg CR) (TT:K43T.Cl K mg CT) (Mo:aW P w K mg base CT 1 "told" ["self"] (K43T.ju K CT)) (Mt:aW P w K mg base CR 2 "term_at" ["self","place"] (K43B.gW CR)) (Mb:aW P w K mg base CR 2 "bench_at" ["self","place"] (gj CR)) (Mh:aW P w K mg base CR 1 "behind" ["self","place"] (K43B.jM CR)) (Mi:fe P w K mg base CR 1 ["self","stand","entries"] (K43B.ff CR)) :
  aQ P w K mg base CX0 3 f fd ["self","place","table"] (qr K CR CT):=by
 refine F.ok xb (fun vs H Q E h=>?_) (fun cdv A outer s H vs Q E hr h=>?_)
 ·obtain⟨r,st,en,pl,tm,b,hh,aa,es,xs,k,T',d,l,kvs,las,rfl,_⟩:=h;rfl
 ·obtain⟨r,st,en,pl,tm,b,hh,aa,es,xs,k,T',d,l,kvs,las,rfl,hR,hP,hk,hT,hok,k64,l64,q⟩:=h;have nd:=xb.nd;have hs16:sizeLine=16777216:=sizeLine_eq;have r1:bj 1 _:=hr.mono (by decide)
  obtain⟨⟨dx,h1⟩,h2,h3,h4,h5,h6⟩:=id hR;obtain⟨dxt,t1⟩:=hT.ob;refine⟨_,ae (aC (i:=3) nd rfl (Or.inl rfl) (aO Mo TT.cl r1 (pv 2))) <|
   ae (aC (i:=4) nd rfl (Or.inl rfl) (aR (ad (pv 1) (ad (bg Mt T.cl hr (pv 0) (ad (pv 1) ag)) (ad (bg Mb T.cl hr (pv 0) (ad (pv 1) ag)) (ad (ar ao (pv 3) af (fun _ _=>rfl)) (ad (ar ao (pv 3) af (fun _ _=>rfl)) ag))))))) <|
   aj (ax (cz Mi hr T.mgC (ad (pv 4) (ad (bg Mh T.cl r1 (pv 0) (ad (pv 1) ag)) ag)))),?_⟩
  refine ah fun K_ hK_=>?_;refine⟨_,rfl,ex3 T' dxt _ ⟨rfl,t1,eM,ex5 T' d l kvs las ⟨rfl,hT,hok,k64,l64,fun p ps qs H1 s1 hTell hTold=>?_⟩⟩⟩;obtain⟨m1,m2,m3,m4⟩:=hTold.made hok;obtain⟨ph,pa,oh,oa,hs,as,g1,g2,g3,g4,g5,g6,g7,g8⟩:=hTell;refine hK_ _ _ (ah fun K_ hK_=>?_);refine(rd2 rfl rfl (ex3 r dx _ ⟨rfl,s1 _ _ h1,jF,_,rfl,ex9 r st en pl tm _ es _ _ ⟨rfl,hR.same s1,?_⟩⟩));rw[K43B.eW pl tm (ay xs) (k:=k) (by rw[length_map];exact hk)]
  refine⟨_,rfl,ex3 r dx _ ⟨rfl,s1 _ _ h1,fz,_,rfl,ex11 r st en pl tm b hh aa es xs k ⟨rfl,hR.same s1,bB (Tk.of s1) hP,fun H2 s2=>?_⟩⟩⟩;have s12:=s1.trans s2;refine⟨_,rfl,ex4 p _ _ _ ⟨rfl,rfl,SqT.of (s2 _ _ g1),at0,_,rfl,ex4 p _ _ _ ⟨rfl,rfl,SqT.of (s2 _ _ g1),at1,(show 5 <= sizeLine by lia),fun sd H3 n3 s3 e3=>?_⟩⟩⟩
  have s13:=s12.trans s3;refine hK_ _ _ ?_;refine(rd2 rfl rfl (ex3 r dx _ ⟨rfl,s13 _ _ h1,j4,_,rfl,ex9 r st en pl tm _ es _ k ⟨rfl,hR.same s13,fun t4 H4 s4 e4=>?_⟩⟩));intro r9 dx9 nr9 ndx9 nex9;have nr9':upd H4 dx9 (.own r9) r9=none:=by rw[aw nex9.symm];exact nr9
  have s9:aq H4 (upd (upd H4 dx9 (.own r9)) r9 (.ins CR dx9 [])):=(aq.new ndx9).trans (aq.new nr9');refine⟨r9,dx9,sd,t4,_,rfl,ai,s9 _ _ e4,fun H6 k6 e6=>⟨rfl,?_⟩⟩;have sm:aq H4 H6:=fun b o h=>k6 b o (ak h nr9) (s9 b o h);have s06:=(s13.trans s4).trans sm;have s16:=s2.trans (s3.trans (s4.trans sm));have ql:qs.length <= 900:=by
   obtain⟨_,tt,t1,t2,t3⟩:=hTold;have h1:qs.length=tt.length:=by rw[t3];unfold K43T.gH;rw[length_map]
   have h2:=t1.length_eq;unfold KM.cF at h2;rw[length_map]at h2;lia
  refine q r9 sd t4 dx9 (cS ps) qs H6 s06 e6 ⟨ph,pa,oh,hs,as,sm _ _ (s4 _ _ e3),s16 _ _ g2,g3,by rw[length_map];exact g5,fun j kv e=>?_,.inl (.inr ⟨oa,s16 _ _ g4⟩),g6,ql,fun j kv e=>?_⟩ (sm _ _ e4) ⟨m1,m2,by lia,by lia,ps,rfl,hTold⟩
  ·rw[getElem?_map]at e;cases e2:ps[j]? with
   | none=>rw[e2]at e;cases e
   | some kv0 =>
    rw[e2]at e;cases e;obtain⟨b,b1,b2⟩:=g7 j kv0 e2;exact⟨b,b1,SqT.of (s16 _ _ b2)⟩
  ·obtain⟨b,b1,b2⟩:=g8 j kv e;exact⟨b,b1,SqT.of (s16 _ _ b2)⟩
theorem scMCut:au ["self"] ["self"] (am wX):=fsc (by decide +kernel)
theorem ok_mcut {f:Addr} {fd:FuncData} (F:Fun K "cut" "Mind.cut" wX f fd) (TM:ClM K mg CM) (TW:ClW K mg CW) (TR:ClR K mg CR) (Mr:aW P w K mg base CM 1 "row" ["self"] (ir K ⟨CH,CM,CT,CW,CR⟩)) (Ms:aW P w K mg base CM 1 "settled" ["self"] (io K ⟨CH,CM,CT,CW,CR⟩)) (Mc:aW P w K mg base CM 1 "is_chair" ["self"] (gY K ⟨CH,CM,CT,CW,CR⟩)) (Mk:aW P w K mg base CW 1 "keep_row" ["self","row"] (i7 CW)) (Mu:aW P w K mg base CR 3 "cut" ["self","place","table"] (qr K CR CT)):aQ P w K mg base CX0 4 f fd ["self"] (qt K ⟨CH,CM,CT,CW,CR⟩):=by
 refine F.ok scMCut (fun vs H Q E h=>?_) (fun cdv A outer s H vs Q E hr h=>?_)
 ·obtain⟨g,rfl,_⟩:=h;rfl
 ·obtain⟨g,rfl,G,hsl,t1,t2,q0,q1⟩:=h;have r1:bj 1 _:=hr.mono (by decide)
  refine⟨_,aj <| aX (aH eI (aO Ms TM.cl r1 (pv 0)) (ar ao (aD (aO Mr TM.cl r1 (pv 0)) rfl) af (fun _ _=>rfl)) (aG _))
   (ae (bG (bg Mk TW.cl r1 (aD (pv 0) rfl) (ad (bg Mu TR.cl hr (aO Mr TM.cl r1 (pv 0)) (ad (aO Ms TM.cl r1 (pv 0)) (ad (aD (pv 0) rfl) ag))) ag))) (aj (aX (cI (aO Mc TM.cl r1 (pv 0))) dj aK))) aK,?_⟩
  obtain⟨dy,h2⟩:=G.ob;obtain⟨⟨dz,h3⟩,dk,h5⟩:=id G.wg.wo;obtain⟨hh,aa,R⟩:=G.row;obtain⟨_,st0,_⟩:=id R;have hps:=G.wg.ps;have hxl:g.es.length=g.xs.length:=Paired.length G.wg.eo;refine⟨_,rfl,g.m,dy,_,rfl,h2,cC,g,rfl,G,_,rfl,g.m,dy,_,rfl,h2,dJ,g,rfl,G,g.kr,CR,dk,_,_,rfl,h5,TR.cl,TR.nS,gz,g.st,_,oo rfl rfl ⟨SqT.of st0,at0,oo rfl rfl ⟨_,rfl,bN (fun hz=>?_) (fun hz=>?_)⟩⟩⟩
  ·have hz:=of_decide_eq_true hz;have okT:=dQ (s:=g.bk.t) g.bk.ok (g.xs.take (g.s - g.pl).toNat);refine⟨_,rfl,ex5 g.m CM dy _ _ ⟨rfl,h2,TM.cl,TM.n3,fR,ex3 g.wr dz _ ⟨rfl,h3,fu,?_⟩⟩⟩;refine⟨_,rfl,ex3 g.m dy _ ⟨rfl,h2,dJ,g,rfl,G,ex3 g.kr dk _ ⟨rfl,h5,qp,_,rfl,ex3 g.m dy _ ⟨rfl,h2,cC,g,rfl,G,_,rfl,ex5 g.m CM dy _ _ ⟨rfl,h2,TM.cl,TM.n5,vS,g.kr,g.st,g.en,g.pl,g.tm,g.b,hh,aa,g.es,g.xs,(g.s - g.pl).toNat,g.bd,g.d,g.l,g.tab.1,g.tab.2,?_,R,G.wg.eo,by lia,G.tb,okT,t1,t2,fun r2 st2 en2 dk2 hk2 hq2 H1 s1 e1 hS he hC=>?_⟩⟩⟩⟩⟩
   ·show [V.ref g.kr,V.int g.s,V.ref g.bd]=[V.ref g.kr,V.int (g.pl + ((g.s - g.pl).toNat:Int)),V.ref g.bd];rw[show g.pl + ((g.s - g.pl).toNat:Int)=g.s by lia]
   rw[show g.pl + ((g.s - g.pl).toNat:Int)=g.s by lia]at hS
   have G1:=G.same s1;refine⟨g.wr,dz,ex5 g.kr r2 g.t g.s g.v ⟨rfl,s1 _ _ h3,fun H2 b2 e2=>?_⟩⟩;have rl:=cB (g.xs.take (g.s - g.pl).toNat) g.bk.t;have G2:=G1.setC (B:=⟨g.tab,okT,by lia,by lia⟩) b2 e2 e1 hS he rfl hC
   obtain⟨dy2,h22⟩:=G2.ob;refine⟨_,rfl,ex3 g.m dy2 _ ⟨rfl,h22,fq,gC g r2 st2 en2 hk2 hq2 _,rfl,G2,_,rfl,aY ?_⟩⟩;exact q1 hz r2 st2 en2 hk2 hq2 _ H2 rfl hC G2 ((Fr.of s1).trans (BtO.frW b2))
  ·have hz:¬g.pl < g.s:=fun z=>hz (decide_eq_true z);exact q0 (by lia)
theorem scHCut:au ["self"] ["self"] (am wY):=fsc (by decide +kernel)
theorem ok_hcut {f:Addr} {fd:FuncData} (F:Fun K "cut" "House.cut" wY f fd) (T:ClH K mg CH) (TM:ClM K mg CM) (Mc:aW P w K mg base CM 4 "cut" ["self"] (qt K ⟨CH,CM,CT,CW,CR⟩)):aQ P w K mg base CX0 5 f fd ["self"] (qv K ⟨CH,CM,CT,CW,CR⟩):=by
 refine F.ok scHCut (fun vs H Q E h=>?_) (fun cdv A outer s H vs Q E hr h=>?_)
 ·obtain⟨H0,g,rfl,_⟩:=h;rfl
 ·obtain⟨H0,g,rfl,G,hsl,t1,t2,q0,q1⟩:=h;refine⟨_,aj <| bG <| aO Mc TM.cl hr (aD (pv 0) rfl),?_⟩;obtain⟨dx,h1⟩:=G.hb;obtain⟨dy,h2⟩:=G.mo.ob;refine⟨_,rfl,ex5 g.ho CH dx _ _ ⟨rfl,h1,T.cl,T.n3,gB,ex3 g.m dy _ ⟨rfl,h2,pV,g,rfl,G.mo,hsl,t1,t2,q0,fun hz kr2 st2 en2 hk2 hq2 B H' hB hC G2 f2=>?_⟩⟩⟩;exact q1 hz kr2 st2 en2 hk2 hq2 B H' hB hC (G.next f2 G2 rfl rfl rfl rfl rfl rfl rfl rfl rfl) (f2.tkz G.mo) f2
end
end K43
namespace K43
open PySem L2
open K43T (Kvs Las aS bR aI aT cS Eqv ci bS)
open K43B (aZ)
abbrev xc:Stmt:=top 125
def qx(K:Frag):Sp:=fun us H Q _=>∃(wt st en b:Addr)(t s pl tm:Int)(v:V) (hk:List (Key × V)) (hq:List (Str × Int × V)) (es:List Addr) (xs:List En),us=[.ref wt]/\H wt=some (.tup [.int t,v,.int s,.ref st,.ref en])/\bT K H st pl tm b hk hq/\H en=some (.tup (es.map V.ref))/\Paired (EnO H) es xs/\pl <= s/\s <= pl + es.length/\bR (aI hk) (aT hq)/\(aI hk).length + es.length < 64/\(aT hq).length + es.length < 64/\(s=pl->Q (.ref wt) H) /\
 (pl < s->∀(w2 st2 en2:Addr) (ps:List (Str × V)) (hq2:List (Str × Int × V)) (H':Hp),aq H H'->H' w2=some (.tup [.int t,v,.int s,.ref st2,.ref en2])->bT K H' st2 s ((tm :: ay xs).getD (s - pl).toNat 0) b (cS ps) hq2->H' en2=some (.tup ((es.drop (s - pl).toNat).map V.ref))->bS (dI hk hq xs (s - pl).toNat).1 (dI hk hq xs (s - pl).toNat).2 ps hq2->Q (.ref w2) H')
theorem bT.of{K:Frag}{H:Hp}{st p b ph pa:Addr}{pl tm:Int}{oh oa:Obj}{hs as:List V}{ps:List (Str × V)}{qs:List (Str × Int × V)}(e:H st=some (.tup [.int pl,.int tm,.ref b,.ref ph,.ref pa]))(g2:H ph=some (.frz oh (.tup hs)))(g3:oh.dict=none)(g4:H pa=some (.frz oa (.tup as)))(g5:hs.length=ps.length)(g6:as.length=qs.length)(ql:qs.length <= 900)(g7:∀(j:Nat)(kv:Str × V),ps[j]?=some kv->∃b,hs[j]?=some (.ref b)/\H b=some (.tup [.str kv.1,kv.2]))(g8:∀(j:Nat)(q:Str × Int × V),qs[j]?=some q->∃b,as[j]?=some (.ref b)/\H b=some (.tup [.str q.1,.int q.2.1,q.2.2])):bT K H st pl tm b (cS ps) qs:=by
 refine⟨ph,pa,oh,hs,as,e,g2,g3,by rw[length_map];exact g5,fun j kv e=>?_,.inl (.inr ⟨oa,g4⟩),g6,ql,fun j kv e=>?_⟩
 ·rw[getElem?_map]at e;cases e2:ps[j]? with
  | none=>rw[e2]at e;cases e
  | some kv0 =>
   rw[e2]at e;cases e;obtain⟨b,b1,b2⟩:=g7 j kv0 e2;exact⟨b,b1,SqT.of b2⟩
 ·obtain⟨b,b1,b2⟩:=g8 j kv e;exact⟨b,b1,SqT.of b2⟩
theorem xf{kvs:Kvs}{las:Las}{ps:List (Str × V)}{qs:List (Str × Int × V)}(h:bS kvs las ps qs):qs.length=las.length:=by
 obtain⟨_,tt,t1,t2,t3⟩:=h;have h1:qs.length=tt.length:=by rw[t3];unfold K43T.gH;rw[length_map]
 have h2:=t1.length_eq;unfold KM.cF at h2;rw[length_map]at h2;lia
theorem ci.same{H H':Hp}{p:Addr}{ps:List (Str × V)}{qs:List (Str × Int × V)}(e:aq H H')(h:ci H p ps qs):ci H' p ps qs:=K43T.ci.keepN h fun b o q _=>e _ _ q
section
variable{P:Program}{w:World}{K:Frag}{mg:Str->Option Value}{base:Heap}
noncomputable abbrev nCutL:List Str:=["_law_state","_law_term","_law_vote","_law_settled","_law_stand","_law_entries_here","_law_held","_law_asked","_law_there"]
theorem xg:au nCutL ["_law_state"] (am xc):=fsc (by decide +kernel)
theorem ok_cutL {f:Addr} {fd:FuncData} (F:Fun K "_law_cut" "_law_cut" xc f fd) (hlist:mg "list"=none) (Fo:aV P w K mg base 2 "_law_done" ["_law_stand","_law_entries_here","_law_settled"] (iZ K)) (Ft:aV P w K mg base 1 "_law_term_at" nTA (qk asT)):aQ P w K mg base CX0 3 f fd ["_law_state"] (qx K):=by
 refine F.ok xg (fun vs H Q E h=>?_) (fun cdv A outer s' H vs Q E hr h=>?_)
 ·obtain⟨wt,st,en,b,t,s,pl,tm,v,hk,hq,es,xs,rfl,_⟩:=h;rfl
 ·obtain⟨wt,st,en,b,t,s,pl,tm,v,hk,hq,es,xs,rfl,hw,hS,hen,hP,hps,hsl,hok,hl1,hl2,q0,q1⟩:=h;have nd:=xg.nd;have r1:bj 1 _:=hr.mono (by decide)
  have hs16:sizeLine=16777216:=sizeLine_eq;have hxl:es.length=xs.length:=Paired.length hP;obtain⟨hh,aa,oo,pps,pas,hst,_⟩:=id hS;refine⟨_,ae (eO (pv 0) (dg (n:=5) rfl (aF (aA (i:=1) nd rfl (Or.inl rfl)) (aF (aA (i:=2) nd rfl (Or.inl rfl)) (aF (aA (i:=3) nd rfl (Or.inl rfl)) (aF (aA (i:=4) nd rfl (Or.inl rfl)) (aF (aA (i:=5) nd rfl (Or.inl rfl)) cn))))))) <|
   ae (aX (aH cj (pv 3) (ar ao (pv 4) af (fun _ _=>rfl)) (aG _)) (aj (ax (pv 0))) aK) <|
   ae (eO (aB Fo hr (ad (pv 4) (ad (bh fc (by rfl) hlist mE (ad (pv 5) ag)) (ad (pv 3) ag)))) (dg (n:=2) rfl (aF (aA (i:=6) nd rfl (Or.inl rfl)) (aF (aA (i:=7) nd rfl (Or.inl rfl)) cn)))) <|
   ae (aC (i:=8) nd rfl (Or.inl rfl) (aB Ft r1 (ad (pv 4) (ad (pv 5) (ad (pv 3) ag))))) <|
   aj (ax (aR (ad (pv 1) (ad (pv 2) (ad (pv 3) (ad (aR (ad (pv 3) (ad (pv 8) (ad (ar ao (pv 4) af (fun _ _=>rfl)) (ad (pv 6) (ad (pv 7) ag)))))) (ad (bM cK (pv 5) (bQ (aE bV (pv 3) (ar ao (pv 4) af (fun _ _=>rfl)))) cv) ag))))))),?_⟩
  dsimp only[bv,Cx.nox];refine ah fun K_ hK_=>?_;refine⟨_,rfl,wt,_,rfl,SqT.of hw,rfl,_,_,rfl,_,_,rfl,_,_,rfl,_,cJ rfl rfl rfl ?_⟩;refine hK_ _ _ (ah fun K_ hK_=>?_);refine(rd2 rfl rfl (ex4 st _ _ _ ⟨rfl,rfl,SqT.of hst,at0,rfl,_,rfl,bN (fun hz=>?_) (fun hz=>?_)⟩))
  ·have hz:s=pl:=by have:=of_decide_eq_true hz;injection this
   exact⟨_,rfl,q0 hz⟩
  have hz:pl < s:=by
   have:¬s=pl:=fun z=>hz (decide_eq_true (by rw[z]))
   lia
  have q1:=q1 hz;clear q0;refine hK_ _ _ (ah fun K_ hK_=>?_);refine(rd2 rfl rfl ⟨en,_,rfl,.inr (SqT.of hen),fun le H1 n1 s1 e1=>?_⟩);refine⟨_,rfl,st,le,b,s,pl,tm,hk,hq,es,xs,rfl,hS.same s1,e1,bB (Tk.of s1) hP,hps,hok,hl1,hl2,fun p ps qs H2 s2 hTe hTo=>?_⟩;obtain⟨ph,pa,oh,oa,hs,as,g1,g2,g3,g4,g5,g6,g7,g8⟩:=id hTe;have s12:=s1.trans s2;refine⟨p,_,rfl,SqT.of g1,rfl,_,cJ rfl rfl rfl ?_⟩;refine hK_ _ _ (ah fun K_ hK_=>?_);refine(rd3 rfl rfl rfl ⟨st,en,b,hh,aa,pl,tm,s,es,xs,rfl,s12 _ _ hst,s12 _ _ hen,bB (Tk.of s12) hP,?_⟩);have et:aZ pl tm (ay xs) s=.int ((tm :: ay xs).getD (s - pl).toNat 0):=by
   have:=K43B.eW pl tm (ay xs) (k:=(s - pl).toNat) (by rw[length_map];lia)
   rwa [show pl + ((s - pl).toNat:Int)=s by lia]at this
  rw[et];refine hK_ _ _ ?_;refine⟨_,rfl,_,rfl,_,rfl,_,rfl,_,rfl,_,rfl,ex4 st _ _ _ ⟨rfl,rfl,SqT.of (s12 _ _ hst),eP,_,rfl,_,rfl,(show 5 <= sizeLine by lia),fun st2 H3 n3 s3 e3=>?_⟩⟩
  have s13:=s12.trans s3;refine⟨_,rfl,_,rfl,_,rfl,ex4 st _ _ _ ⟨rfl,rfl,SqT.of (s13 _ _ hst),at0,_,_,rfl,rfl,_,rfl,en,_,rfl,s13 _ _ hen,fun c4 H4 s4 e4=>⟨(show 5 <= sizeLine by lia),fun w2 H5 n5 s5 e5=>?_⟩⟩⟩
  have s45:=s4.trans s5;have s25:=s3.trans s45;have rl:=cB (xs.take (s - pl).toNat) (aI hk,aT hq);have tl:(xs.take (s - pl).toNat).length <= es.length:=by rw[length_take];lia
  have ql:qs.length <= 900:=by
   rw[xf hTo];have:=rl.2;unfold dI;simp only at this;lia
  refine q1 w2 st2 c4 ps qs H5 (s13.trans s45) e5 (bT.of (p:=p) (s45 _ _ e3) (s25 _ _ g2) g3 (s25 _ _ g4) g5 g6 ql (fun j kv e=>?_) (fun j kv e=>?_)) ?_ hTo
  ·obtain⟨b,b1,b2⟩:=g7 j kv e;exact⟨b,b1,s25 _ _ b2⟩
  ·obtain⟨b,b1,b2⟩:=g8 j kv e;exact⟨b,b1,s25 _ _ b2⟩
  ·have e4:=s5 _ _ e4;rw[show s - pl=((s - pl).toNat:Int) by lia,K43B.fU]at e4
   exact e4
end
abbrev qy:Stmt:=top 126
theorem iw{K:Frag}{n:Nat}{H:Hp}{a b:Addr}{xs:List V}(ha:SqT K H a xs)(hb:SqT K H b xs)(h:∀v ∈ xs,smV v=true):Alk K (n + 1) H (.ref a) (.ref b):=.inr ⟨a,b,xs,xs,rfl,rfl,ha,hb,rfl,fun i x y h1 h2=>by
 rw[h1]at h2;cases h2;exact Alk.sm (h x (mem_of_getElem? h1))⟩
theorem qz{K:Frag}{H:Hp}{a:Addr}{o:Obj}{xs:List V}(h:H a=some (.frz o (.tup xs))):SqT K H a xs:=.inl (.inr ⟨o,h⟩)
theorem kV_sm(k:Key):smV (kV k)=true:=by cases k <;> rfl
theorem gp{K:Frag}{H:Hp}{a b:Addr}{xs ys:List V}{n:Nat}{f:Nat->Option (List V)}(ha:SqT K H a xs)(hb:SqT K H b ys)(hl:xs.length=ys.length)(h1:∀j,j < xs.length->∃zs c,f j=some zs/\xs[j]?=some (.ref c)/\SqT K H c zs/\∀z ∈ zs,smV z=true)(h2:∀j,j < xs.length->∃zs c,f j=some zs/\ys[j]?=some (.ref c)/\SqT K H c zs):Alk K (n + 2) H (.ref a) (.ref b):=.inr ⟨a,b,xs,ys,rfl,rfl,ha,hb,hl,fun i x y hx hy=>by
 have hi:=(List.getElem?_eq_some_iff.mp hx).1;obtain⟨zs,c,a1,a2,a3,a4⟩:=h1 i hi;obtain⟨zs',c',b1,b2,b3⟩:=h2 i hi;rw[a1]at b1;cases b1;rw[a2]at hx;rw[b2]at hy;cases hx;cases hy;exact iw a3 b3 a4⟩
theorem fh{K:Frag}{H:Hp}{st b:Addr}{pl tm:Int}{hk:List (Key × V)}{hq:List (Str × Int × V)}(h:bT K H st pl tm b hk hq):∃(hh aa:Addr)(ps as:List V),H st=some (.tup [.int pl,.int tm,.ref b,.ref hh,.ref aa])/\SqT K H hh ps/\SqT K H aa as/\ps.length=hk.length/\as.length=hq.length/\(∀j,j < ps.length->∃zs c,(hk[j]?.map fun kv=>[kV kv.1,kv.2])=some zs/\ps[j]?=some (.ref c)/\SqT K H c zs)/\(∀j,j < as.length->∃zs c,(hq[j]?.map fun q=>[V.str q.1,.int q.2.1,q.2.2])=some zs/\as[j]?=some (.ref c)/\SqT K H c zs):=by
 obtain⟨hh,aa,o,ps,as,h1,h2,_,h4,h5,h6,h7,_,h9⟩:=h;refine⟨hh,aa,ps,as,h1,qz h2,h6,h4,h7,fun j hj=>?_,fun j hj=>?_⟩
 ·have hj':j < hk.length:=by lia
  obtain⟨c,c1,c2⟩:=h5 j _ (getElem?_eq_getElem hj');exact⟨_,c,by rw[getElem?_eq_getElem hj'];rfl,c1,c2⟩
 ·have hj':j < hq.length:=by lia
  obtain⟨c,c1,c2⟩:=h9 j _ (getElem?_eq_getElem hj');exact⟨_,c,by rw[getElem?_eq_getElem hj'];rfl,c1,c2⟩
theorem sm_hk{hk:List (Key × V)}(f:∀kv ∈ hk,smV kv.2=true){j:Nat}{zs:List V}(h:(hk[j]?.map fun kv=>[kV kv.1,kv.2])=some zs):∀z ∈ zs,smV z=true:=by
 cases e:hk[j]? with
 | none=>rw[e]at h;cases h
 | some kv =>
  rw[e]at h;cases h;intro z hz;simp only[List.mem_cons,not_mem_nil,or_false]at hz;rcases hz with rfl | rfl
  ·exact kV_sm _
  ·exact f _ (mem_of_getElem? e)
theorem sm_hq{hq:List (Str × Int × V)}(f:∀q ∈ hq,smV q.2.2=true){j:Nat}{zs:List V}(h:(hq[j]?.map fun q=>[V.str q.1,.int q.2.1,q.2.2])=some zs):∀z ∈ zs,smV z=true:=by
 cases e:hq[j]? with
 | none=>rw[e]at h;cases h
 | some q =>
  rw[e]at h;cases h;intro z hz;simp only[List.mem_cons,not_mem_nil,or_false]at hz;rcases hz with rfl | rfl | rfl
  ·rfl
  ·rfl
  ·exact f _ (mem_of_getElem? e)
section
variable{K:Frag}{H:Hp}{hk:List (Key × V)}{hq:List (Str × Int × V)}
theorem k9{st st' b:Addr}{pl tm:Int}(h:bT K H st pl tm b hk hq)(h':bT K H st' pl tm b hk hq)(f1:∀kv ∈ hk,smV kv.2=true)(f2:∀q ∈ hq,smV q.2.2=true):Alk K 3 H (.ref st) (.ref st'):=by
 obtain⟨hh,aa,ps,as,a1,a2,a3,a4,a5,a6,a7⟩:=fh h;obtain⟨hh',aa',ps',as',b1,b2,b3,b4,b5,b6,b7⟩:=fh h';refine .inr ⟨st,st',_,_,rfl,rfl,SqT.of a1,SqT.of b1,rfl,fun i x y hx hy=>?_⟩
 match i,hx,hy with
 | 0,hx,hy=>cases hx;cases hy;exact Alk.sm rfl
 | 1,hx,hy=>cases hx;cases hy;exact Alk.sm rfl
 | 2,hx,hy=>cases hx;cases hy;exact Alk.sm rfl
 | 3,hx,hy =>
  cases hx;cases hy;exact gp a2 b2 (by lia) (fun j hj=>by obtain⟨zs,c,c1,c2,c3⟩:=a6 j hj;exact⟨zs,c,c1,c2,c3,sm_hk f1 c1⟩) fun j hj=>b6 j (by lia)
 | 4,hx,hy =>
  cases hx;cases hy;exact gp a3 b3 (by lia) (fun j hj=>by obtain⟨zs,c,c1,c2,c3⟩:=a7 j hj;exact⟨zs,c,c1,c2,c3,sm_hq f2 c1⟩) fun j hj=>b7 j (by lia)
 | i + 5,hx,_=>cases hx
theorem xh{p w st st' en en':Addr}{t s:Int}{v:V}{es:List Addr}(e1:H p=some (.tup [.int t,v,.int s,.ref st,.ref en]))(e2:H w=some (.tup [.int t,v,.int s,.ref st',.ref en']))(hs:Alk K 3 H (.ref st) (.ref st'))(h1:H en=some (.tup (es.map V.ref)))(h2:H en'=some (.tup (es.map V.ref)))(hv:smV v=true):uU K H p w:=by
 refine⟨3,_,_,by decide,SqT.of e1,SqT.of e2,rfl,fun j x y hx hy=>?_⟩
 match j,hx,hy with
 | 0,hx,hy=>cases hx;cases hy;exact Alk.sm rfl
 | 1,hx,hy=>cases hx;cases hy;exact Alk.sm hv
 | 2,hx,hy=>cases hx;cases hy;exact Alk.sm rfl
 | 3,hx,hy=>cases hx;cases hy;exact hs
 | 4,hx,hy =>
  cases hx;cases hy;exact iw (SqT.of h1) (SqT.of h2) fun z hz=>by
   obtain⟨y,_,rfl⟩:=List.mem_map.mp hz;rfl
 | j + 5,hx,_=>cases hx
theorem oN{p c hh aa:Addr}{ps:List (Str × V)}{qs:List (Str × Int × V)}{xs as:List V}(h:ci H p ps qs)(hc:H c=some (.tup [.ref hh,.ref aa]))(b2:SqT K H hh xs)(b3:SqT K H aa as)(b4:xs.length=(cS ps).length)(b5:as.length=qs.length)(b6:∀j,j < xs.length->∃zs c,((cS ps)[j]?.map fun kv=>[kV kv.1,kv.2])=some zs/\xs[j]?=some (.ref c)/\SqT K H c zs)(b7:∀j,j < as.length->∃zs c,(qs[j]?.map fun q=>[V.str q.1,.int q.2.1,q.2.2])=some zs/\as[j]?=some (.ref c)/\SqT K H c zs)(f1:∀kv ∈ cS ps,smV kv.2=true)(f2:∀q ∈ qs,smV q.2.2=true):uU K H p c:=by
 obtain⟨ph,pa,oh,oa,hs,as',g1,g2,g3,g4,g5,g6,g7,g8⟩:=h;have kl:(cS ps).length=ps.length:=length_map ..;refine⟨2,_,_,by decide,SqT.of g1,SqT.of hc,rfl,fun i x y hx hy=>?_⟩
 match i,hx,hy with
 | 0,hx,hy =>
  cases hx;cases hy;refine gp (qz g2) b2 (by lia) (fun j hj=>?_) fun j hj=>b6 j (by lia)
  have hj':j < ps.length:=by lia
  obtain⟨b,b1,b2⟩:=g7 j _ (getElem?_eq_getElem hj');have e:((cS ps)[j]?.map fun kv=>[kV kv.1,kv.2])=some [V.str ps[j].1,ps[j].2]:=by
   unfold cS;rw[getElem?_map,getElem?_eq_getElem hj'];rfl
  exact⟨_,b,e,b1,SqT.of b2,sm_hk f1 e⟩
 | 1,hx,hy =>
  cases hx;cases hy;refine gp (qz g4) b3 (by lia) (fun j hj=>?_) fun j hj=>b7 j (by lia)
  have hj':j < qs.length:=by lia
  obtain⟨b,b1,b2⟩:=g8 j _ (getElem?_eq_getElem hj');have e:(qs[j]?.map fun q=>[V.str q.1,.int q.2.1,q.2.2])=some [V.str qs[j].1,.int qs[j].2.1,qs[j].2.2]:=by
   rw[getElem?_eq_getElem hj'];rfl
  exact⟨_,b,e,b1,SqT.of b2,sm_hq f2 e⟩
 | i + 2,hx,_=>cases hx
end
def cP(t:Kvs × Las)(hk:List (Key × V))(hq:List (Str × Int × V)):Prop:=∃(kvs:Kvs)(las:Las) (ps:List (Str × V)),bR kvs las/\Eqv t.1 t.2 kvs las/\bS kvs las ps hq/\hk=cS ps
theorem sm_ni{v:V}(h:v=.non\/∃i:Int,v=.int i):smV v=true:=by
 rcases h with rfl | ⟨i,rfl⟩ <;> rfl
theorem cP.sm{t:Kvs × Las}{hk:List (Key × V)}{hq:List (Str × Int × V)}(h:cP t hk hq):(∀kv ∈ hk,smV kv.2=true)/\∀q ∈ hq,smV q.2.2=true:=by
 obtain⟨kvs,las,ps,h1,_,h3,rfl⟩:=h;obtain⟨f1,f2⟩:=K43T.bS.flat h1 h3;refine⟨fun kv hkv=>?_,fun q hq=>sm_ni (f2 q hq)⟩;unfold cS at hkv;obtain⟨p,hp,rfl⟩:=List.mem_map.mp hkv;exact sm_ni (f1 p hp)
theorem cP.one{t:Kvs × Las}{hk hk':List (Key × V)}{hq hq':List (Str × Int × V)}(h:cP t hk hq)(h':cP t hk' hq'):hk=hk'/\hq=hq':=by
 obtain⟨kvs,las,ps,h1,h2,h3,rfl⟩:=h;obtain⟨kvs',las',ps',g1,g2,g3,rfl⟩:=h';have e:Eqv kvs las kvs' las':=⟨fun x=>(h2.1 x).symm.trans (g2.1 x),fun x=>(h2.2 x).symm.trans (g2.2 x)⟩;obtain⟨z1,z2⟩:=K43T.bS.one h1 g1 e h3 g3;exact⟨by rw[z1],z2⟩
theorem ld {nm:Str} {wa sz:Int} {m:Addr}:(flH nm wa sz m).lookup ("comes_up":Str)=none:=by kernel_rfl
theorem ix {nm:Str} {wa sz:Int} {m:Addr}:(flH nm wa sz m).lookup ("writes":Str)=none:=by kernel_rfl
theorem lf {nm:Str} {wa sz:Int} {m:Addr}:(flH nm wa sz m).lookup ("table":Str)=none:=by kernel_rfl
theorem lg {nm:Str} {wa sz:Int} {m:Addr}:(flH nm wa sz m).lookup ("row":Str)=none:=by kernel_rfl
theorem tY {nm:Str} {wa sz:Int} {m:Addr}:(flH nm wa sz m).lookup ("settled":Str)=none:=by kernel_rfl
theorem tZ {nm:Str} {wa sz:Int} {m:Addr}:(flH nm wa sz m).lookup ("cut":Str)=none:=by kernel_rfl
structure CutG(g g1:Gs)(hk:List (Key × V))(hq:List (Str × Int × V)):Prop where
 ho:g1.ho=g.ho
 t:g1.t=g.t
 v:g1.v=g.v
 s:g1.s=g.s
 pl:g1.pl=g.s
 tm:g1.tm=(g.tm :: ay g.xs).getD (g.s - g.pl).toNat 0
 b:g1.b=g.b
 kn:g1.kn=g.kn
 nm:g1.nm=g.nm
 n:g1.n=g.n
 es:g1.es=g.es.drop (g.s - g.pl).toNat
 xs:g1.xs=g.xs.drop (g.s - g.pl).toNat
 hk:g1.hk=hk
 hq:g1.hq=hq
 bk:g1.bk.t=g.tab
theorem cP.made{t:Kvs × Las}{hk:List (Key × V)}{hq:List (Str × Int × V)}(h:cP t hk hq):cP (aI hk,aT hq) hk hq/\bR (aI hk) (aT hq):=by
 obtain⟨kvs,las,ps,h1,_,h3,rfl⟩:=h;obtain⟨m1,m2,_⟩:=h3.made h1;exact⟨⟨kvs,las,ps,h1,m1,h3,rfl⟩,m2⟩
theorem cP.of{t:Kvs × Las}{kvs:Kvs}{las:Las}{ps:List (Str × V)}{qs:List (Str × Int × V)}(o:bR kvs las)(e:Eqv kvs las t.1 t.2)(h:bS kvs las ps qs):cP t (cS ps) qs:=⟨kvs,las,ps,o,⟨fun j=>(e.k j).symm,fun j=>(e.l j).symm⟩,h,rfl⟩
theorem cut35{a b c d e:V}:cx [a,b,c,d,e] (some 3) none=[d,e]:=rfl
def mK(K:Frag)(c:Cs):Sp:=fun us H Q _=>∃(H0:Hp)(g:Gs)(wt stL enL:Addr) (hk:List (Key × V)) (hq:List (Str × Int × V)),us=[.ref g.ho,.ref wt]/\bP K c H0 H g/\H wt=some (.tup [.int g.t,g.v,.int g.s,.ref stL,.ref enL])/\bT K H stL g.s ((g.tm :: ay g.xs).getD (g.s - g.pl).toNat 0) g.b hk hq/\H enL=some (.tup ((g.es.drop (g.s - g.pl).toNat).map V.ref))/\cP g.tab hk hq/\cP g.bk.t g.hk g.hq/\smV g.v=true/\g.s <= g.pl + g.es.length/\g.bk.t.1.length + g.es.length < 64/\g.bk.t.2.length + g.es.length < 64/\(aI hk).length < 64/\(aT hq).length < 64 /\
 ∀(g1:Gs)(H':Hp),CutG g g1 hk hq->bP K c H0 H' g1->TkZ H H'->Q (.bl true) H'
section
variable{P:Program}{w:World}{K:Frag}{mg:Str->Option Value}{base:Heap}{CH CM CT CW CR:Addr}
noncomputable abbrev nIsCut:List Str:=["_law_house","_law_state","_law_told","_law_kept","_law_other"]
theorem rG:au nIsCut ["_law_house","_law_state"] (am qy):=fsc (by decide +kernel)
theorem xi {f:Addr} {fd:FuncData} (F:Fun K "_law_is_cut" "_law_is_cut" qy f fd) (htuple:mg "tuple"=none) (TH:ClH K mg CH) (TT:K43T.Cl K mg CT) (TR:ClR K mg CR) (Mro:aW P w K mg base CH 3 "row" ["self"] (mC K ⟨CH,CM,CT,CW,CR⟩)) (Mc:aW P w K mg base CH 5 "cut" ["self"] (qv K ⟨CH,CM,CT,CW,CR⟩)) (Mw:aW P w K mg base CH 2 "writes" ["self"] (gT K ⟨CH,CM,CT,CW,CR⟩)) (Mt:aW P w K mg base CH 4 "table" ["self"] (jI K ⟨CH,CM,CT,CW,CR⟩)) (Mo:aW P w K mg base CT 1 "told" ["self"] (K43T.ju K CT)) (Mh:fe P w K mg base CH 8 nHI (spHI K CH)) (Mu:aW P w K mg base CH 8 "comes_up" ["self","written"] (spUp K ⟨CH,CM,CT,CW,CR⟩)) (Ms:aW P w K mg base CH 2 "settled" ["self"] (qi K ⟨CH,CM,CT,CW,CR⟩)):aQ P w K mg base CX0 10 f fd ["_law_house","_law_state"] (mK K ⟨CH,CM,CT,CW,CR⟩):=by
 refine F.ok rG (fun vs H Q E h=>?_) (fun cdv A outer s H vs Q E hr h=>?_)
 ·obtain⟨H0,g,wt,stL,enL,hk,hq,rfl,_⟩:=h;rfl
 ·obtain⟨H0,g,wt,stL,enL,hk,hq,rfl,G,hw,hS,hen,hTL,hTg,hgv,hsl,hl1,hl2,hl3,hl4,q⟩:=h;have nd:=rG.nd;have r1:bj 1 _:=hr.mono (by decide)
  have r2:bj 2 _:=hr.mono (by decide)
  have r3:bj 3 _:=hr.mono (by decide)
  have r4:bj 4 _:=hr.mono (by decide)
  have r8:bj 8 _:=hr.mono (by decide)
  have r5:bj 5 _:=hr.mono (by decide)
  have hu64:=hr.units;have hu:_ + 1 < cLine:=Nat.lt_of_le_of_lt (Nat.add_le_add_left (show 1 <= 64 by decide) _) hr.units
  have hs16:sizeLine=16777216:=sizeLine_eq;refine⟨_,ae (aC (i:=2) nd rfl (Or.inl rfl) (aO Mro TH.cl r3 (pv 0))) <|
   ae (aC (i:=3) nd rfl (Or.inl rfl) (aR (ad (aD (pv 2) rfl) (ad (bh eU (by rfl) htuple cm (ad (aD (pv 2) rfl) ag)) ag)))) <|
   ae (bG (aO Mc TH.cl r5 (pv 0))) <|
   ae (aX (PW.pt (cN (aH (iS hu64) (aO Mw TH.cl r2 (pv 0)) (pv 1) (aG _)) (cN (aH (iS hu64) (aO Mo TT.cl r1 (aO Mt TH.cl r4 (pv 0))) (bM cK (ar ao (pv 1) af (fun _ _=>rfl)) (bQ af) cv) (aG _)) (cV (aH (op_neSm hu) (aR (ad (aD (pv 2) rfl) (ad (bh eU (by rfl) htuple cm (ad (aD (pv 2) rfl) ag)) ag))) (pv 3) (aG _)))))) (aj (ax d9)) aK) <|
   ae (aC (i:=4) nd rfl (Or.inl rfl) (cz Mh hr TH.mgC (ad aU (ad af (ad af (ad (aR (ad (aR (ad aU ag)) (ad (aR ag) (ad (aR ag) ag)))) ag)))))) <|
   ae (bG (bg Mu TH.cl r8 (pv 4) (ad (aO Mw TH.cl r2 (pv 0)) ag))) <|
   aj (ax (cW (bI (qS hu64) (aO Mo TT.cl r1 (aO Mt TH.cl r4 (pv 4))) (bM cK (ar ao (pv 1) af (fun _ _=>rfl)) (bQ af) cv) (aG _)) (dX (bI cj (aO Ms TH.cl r2 (pv 4)) (ar ao (pv 1) af (fun _ _=>rfl)) (aG _))))),?_⟩
  dsimp only[bv,Cx.nox];obtain⟨dx,hob⟩:=G.hb;have en0:=G.mo.wg.ho;refine ah fun K_ hK_=>?_;refine⟨_,rfl,ex3 g.ho dx _ ⟨rfl,hob,lg,H0,g,rfl,G,fun r H1 s1 hrow=>?_⟩⟩;obtain⟨dr,hr1⟩:=id hrow;have en1:=s1 _ _ en0;refine hK_ _ _ (ah fun K_ hK_=>?_);refine⟨_,rfl,ex5 r CR dr _ _ ⟨rfl,hr1,TR.cl,TR.nS,gz,_,rfl,ex5 r CR dr _ _ ⟨rfl,hr1,TR.cl,TR.nE,vy,g.en,_,rfl,SqT.of en1,(show 2 <= sizeLine by lia),fun kp H2 n2 s2 e2=>?_⟩⟩⟩
  have s02:=s1.trans s2;have G2:=G.same s02;obtain⟨hh,aa,xs0,as0,st0,b2,b3,b4,b5,b6,b7⟩:=fh hS;refine hK_ _ _ (ah fun K_ hK_=>?_);have rl:=cB (g.xs.take (g.s - g.pl).toNat) g.bk.t;have hxl:g.es.length=g.xs.length:=Paired.length G.mo.wg.eo;have tl:(g.xs.take (g.s - g.pl).toNat).length <= g.es.length:=by rw[length_take];lia
  have t1:g.tab.1.length < 64:=by have:=rl.1;show (ca g.bk.t _).1.length < 64;lia
  have t2:g.tab.2.length < 64:=by have:=rl.2;show (ca g.bk.t _).2.length < 64;lia
  have okT:bR g.tab.1 g.tab.2:=dQ (s:=g.bk.t) g.bk.ok (g.xs.take (g.s - g.pl).toNat);have tail:∀(g1:Gs)(H3:Hp),CutG g g1 hk hq->bP K ⟨CH,CM,CT,CW,CR⟩ H0 H3 g1->TkZ H2 H3->H3 r=some (.ins CR dr (flR g.st g.en))->K_ [some (.ref g.ho),some (.ref wt),some (.ref r),some (.ref kp),none] H3:=by
   intro g1 H3 C G3 k3 hr3;have k03:TkZ H H3:=(TkZ.of s02).trans k3;have w3:=k03.t _ _ hw;have L3:=hS.tkz k03;have enL3:=k03.t _ _ hen;have et:g1.tab=g.tab:=by
    unfold Gs.tab;rw[C.s,C.pl,show (g.s - g.s).toNat=0 by lia,List.take_zero]
    exact C.bk
   obtain⟨f1,f2⟩:=hTL.sm;refine hK_ _ _ (ah fun K_ hK_=>?_);obtain⟨dx3,hob3⟩:=G3.hb;have hob3:=C.ho ▸ hob3;have hus:[V.ref g.ho]=[V.ref g1.ho]:=by rw[C.ho]
   refine⟨_,rfl,ex3 g.ho dx3 _ ⟨rfl,hob3,ix,H0,g1,hus,G3,fun p H4 s4 e4=>?_⟩⟩;rw[C.t,C.v,C.s]at e4;have so3:=G3.mo.wg.so;rw[C.pl,C.tm,C.b,C.hk,C.hq]at so3;have en3:=G3.mo.wg.ho;rw[C.es]at en3;refine⟨_,rfl,p,wt,rfl,rfl,xh e4 (s4 _ _ w3) (k9 (so3.same s4) (L3.same s4) f1 f2) (s4 _ _ en3) (s4 _ _ enL3) hgv,_,rfl,aY ?_⟩;have G4:=G3.same s4;refine⟨_,rfl,ex3 g.ho dx3 _ ⟨rfl,s4 _ _ hob3,lf,H0,g1,hus,G4,by rw[et];exact okT,by rw[et];exact t1,by rw[et];exact t2,fun T2 d2 l2 kvs2 las2 H5 s5 hT2 ok2 eqv k2 l2'=>?_⟩⟩
   rw[et]at eqv;obtain⟨dxt,hobt⟩:=hT2.ob;refine(ex3 T2 dxt _ ⟨rfl,hobt,eM,ex5 T2 d2 l2 kvs2 las2 ⟨rfl,hT2,ok2,k2,l2',fun p5 ps2 qs2 H6 s6 hp ht=>?_⟩⟩);have s46:=s4.trans (s5.trans s6);have w6:=s46 _ _ w3;obtain⟨hh6,aa6,xs6,as6,st6,c2,c3,c4,c5,c6,c7⟩:=fh (L3.same s46);obtain⟨z1,z2⟩:=cP.one (cP.of ok2 eqv ht) hTL;refine⟨_,rfl,ex4 wt _ _ _ ⟨rfl,rfl,SqT.of w6,fP,_,rfl,stL,_,rfl,st6,fun c H7 s7 e7=>?_⟩⟩;rw[cut35]at e7;subst z1 z2;have s47:=s46.trans s7;obtain⟨hh7,aa7,xs7,as7,st7,d2',d3',d4',d5',d6',d7'⟩:=fh (L3.same s47);have eh:hh7=hh6/\aa7=aa6:=by
    have:=(s7 _ _ st6).symm.trans st7;injection this with this;injection this with this;simp only[List.cons.injEq,V.ref.injEq,and_true,true_and]at this;exact⟨this.1.symm,this.2.symm⟩
   obtain⟨rfl,rfl⟩:=eh;refine⟨p5,c,rfl,rfl,oN (ci.same s7 hp) e7 d2' d3' d4' d5' d6' d7' f1 f2,_,rfl,aY ?_⟩;have r7:=s47 _ _ hr3;have kp7:H7 kp=some (.tup [.ref g.st,.ref g.en]):=s47 _ _ (k3.t _ _ e2);have en7:H7 g.en=some (.tup (g.es.map V.ref)):=s47 _ _ (k3.t _ _ (s2 _ _ en1));refine⟨_,rfl,ex5 r CR dr _ _ ⟨rfl,r7,TR.cl,TR.nS,gz,_,rfl,ex5 r CR dr _ _ ⟨rfl,r7,TR.cl,TR.nE,vy,g.en,_,rfl,SqT.of en7,(show 2 <= sizeLine by lia),fun kq H8 n8 s8 e8=>⟨_,rfl,ex3 kq kp _ ⟨rfl,rfl,SqT.of e8,SqT.of (s8 _ _ kp7),fun z hz=>?_,_,rfl,aY ?_⟩⟩⟩⟩⟩
   ·simp only[List.mem_cons,not_mem_nil,or_false]at hz;rcases hz with rfl | rfl <;> rfl
   have s48:=s47.trans s8;have G8:=G3.same s48;refine hK_ _ _ (ah fun K_ hK_=>?_);refine⟨(show 1 <= sizeLine by lia),fun q1 H9 n9 s9 e9=>⟨Nat.zero_le _,fun q2 Ha na sa ea=>⟨Nat.zero_le _,fun q3 Hb nb sb eb=>⟨(show 3 <= sizeLine by lia),fun bq Hc nc sc ec=>?_⟩⟩⟩⟩
   have s4c:=s48.trans (s9.trans (sa.trans (sb.trans sc)));have Gc:=G3.same s4c;intro ho2 dxo no ndx ndo;have no':upd Hc dxo (.own ho2) ho2=none:=by rw[aw ndo.symm];exact no
   have s13:aq Hc (upd (upd Hc dxo (.own ho2)) ho2 (.ins CH dxo [])):=(aq.new ndx).trans (aq.new no');refine⟨ho2,ex5 dxo bq "c" 5 9 ⟨rfl,ai,fun m Hd bd ed=>⟨rfl,?_⟩⟩⟩;have sd:aq Hc Hd:=fun c u e=>bd _ _ (ak e no) (s13 _ _ e);refine hK_ _ _ (ah fun K_ hK_=>?_);have Gd:=Gc.same sd;have hobd:=sd _ _ (s4c _ _ hob3);refine⟨_,rfl,ho2,dxo,_,rfl,ed,ld,_,rfl,ex3 g.ho dx3 _ ⟨rfl,hobd,ix,H0,g1,hus,Gd,fun pw He se ee=>?_⟩⟩;have We:=(Gd.same se).mo.wg;have sce:=sd.trans se;refine⟨Hc,ho2,dxo,m,pw,g1.st,g1.en,g1.b,"c",5,9,g1.t,g1.s,g1.pl,g1.tm,g1.v,g1.hk,g1.hq,g1.es,g1.xs,rfl,se _ _ ed,ee,⟨We.so,We.ho,We.eo,We.el,We.ps,We.ok,We.kl,We.ll⟩,sce,no,fun B hB m2 wr2 bd2 d2 l2 rl2 kr2 yl2 sd2 gl2 fl2 sl2 Hf bf HO2=>?_⟩;have sF:aq Hc Hf:=fun c u e=>bf _ _ (ak e no) (sce _ _ e);have s4f:=s4c.trans sF;refine hK_ _ _ ?_;obtain⟨dx9,hob9⟩:=HO2.hb;obtain⟨tm1,tok⟩:=hTL.made;have eB:ca B.t (List.take (g1.s - g1.pl).toNat g1.xs)=(aI (cS ps2),aT qs2):=by
    rw[C.s,C.pl,show (g.s - g.s).toNat=0 by lia,List.take_zero]
    show B.t=_;rw[hB,C.hk,C.hq]
   refine⟨_,rfl,ho2,dx9,_,rfl,hob9,lf,Hc,_,rfl,HO2,by show bR (ca B.t _).1 (ca B.t _).2;rw[eB];exact tok,by show (ca B.t _).1.length < 64;rw[eB];exact hl3,by show (ca B.t _).2.length < 64;rw[eB];exact hl4,fun T3 d3 l3 kvs3 las3 Hg sg hT3 ok3 eqv3 k3' l3'=>?_⟩
   have eqv3:Eqv kvs3 las3 (aI (cS ps2)) (aT qs2):=by
    have:Eqv kvs3 las3 (ca B.t (List.take (g1.s - g1.pl).toNat g1.xs)).1 (ca B.t (List.take (g1.s - g1.pl).toNat g1.xs)).2:=eqv3;rw[eB]at this;exact this
   obtain⟨dxu,hobu⟩:=hT3.ob;refine(ex3 T3 dxu _ ⟨rfl,hobu,eM,ex5 T3 d3 l3 kvs3 las3 ⟨rfl,hT3,ok3,k3',l3',fun p9 ps9 qs9 Hh sh hp9 ht9=>?_⟩⟩);obtain⟨z3,z4⟩:=cP.one (cP.of (t:=(aI (cS ps2),aT qs2)) ok3 eqv3 ht9) tm1;have s4h:=s4f.trans (sg.trans sh);obtain⟨hh8,aa8,xs8,as8,st8,_⟩:=fh (L3.same s4h);refine⟨_,rfl,ex4 wt _ _ _ ⟨rfl,rfl,SqT.of (s4h _ _ w3),fP,_,rfl,stL,_,rfl,st8,fun c9 Hi si e9'=>?_⟩⟩;rw[cut35]at e9';have s4i:=s4h.trans si;obtain⟨hh9,aa9,xs9,as9,st9,y2,y3,y4,y5,y6,y7⟩:=fh (L3.same s4i);have eh:hh9=hh8/\aa9=aa8:=by
    have:=(si _ _ st8).symm.trans st9;injection this with this;injection this with this;simp only[List.cons.injEq,V.ref.injEq,and_true,true_and]at this;exact⟨this.1.symm,this.2.symm⟩
   obtain⟨rfl,rfl⟩:=eh;rw[<- z3]at y4 y6 f1;rw[<- z4]at y5 y7 f2;refine⟨p9,c9,rfl,rfl,oN (ci.same si hp9) e9' y2 y3 y4 y5 y6 y7 f1 f2,_,rfl,bJ ?_⟩;have HOi:=(HO2.same (sg.trans sh)).same si;obtain⟨dxi,hobi⟩:=HOi.hb;refine⟨_,rfl,ho2,dxi,_,rfl,hobi,tY,Hc,_,rfl,HOi,_,rfl,ex4 wt _ _ _ ⟨rfl,rfl,SqT.of (s4i _ _ w3),eP,rfl,?_⟩⟩;have:decide (V.int g1.s=V.int g.s)=true:=decide_eq_true (by rw[C.s])
   show Q (.bl (decide (V.int g1.s=V.int g.s))) Hi;rw[this];exact q g1 Hi C (G3.same s4i) (k03.trans (TkZ.of s4i))
  clear hK_;refine⟨_,rfl,ex3 g.ho dx _ ⟨rfl,s02 _ _ hob,tZ,H0,g,rfl,G2,hsl,t1,t2,fun hz=>?_,fun hz kr2 st2 en2 hk2 hq2 B H3 hB hC G3 k3 f3=>?_⟩⟩
  ·have z0:(g.s - g.pl).toNat=0:=by lia
   have et:g.tab=g.bk.t:=by unfold Gs.tab;rw[z0,List.take_zero];rfl
   obtain⟨z1,z2⟩:=cP.one hTg (by rw[<- et];exact hTL)
   refine tail g H2 ⟨rfl,rfl,rfl,rfl,hz.symm,by rw[z0];rfl,rfl,rfl,rfl,rfl,by rw[z0];rfl,by rw[z0];rfl,z1,z2,et.symm⟩ G2 (TkZ.refl _) (s2 _ _ hr1)
  ·obtain⟨ps,hps,hto⟩:=hC.to;obtain⟨z1,z2⟩:=cP.one (t:=g.tab) (hk:=hk2) (hq:=hq2) ⟨g.tab.1,g.tab.2,ps,okT,Eqv.refl _ _,hto,hps⟩ hTL;have hr2:=s2 _ _ hr1;obtain⟨z3,y3⟩:=G2.mo.ob;obtain⟨⟨z4,y4⟩,_⟩:=id G2.mo.wg.wo;obtain⟨z5,y5,_⟩:=G2.mo.rc;obtain⟨_,y6,⟨z7,y7,_⟩,_⟩:=id G2.mo.tb;refine tail (gC g kr2 st2 en2 hk2 hq2 B) H3 ⟨rfl,rfl,rfl,rfl,rfl,rfl,rfl,rfl,rfl,rfl,rfl,rfl,z1,z2,hB⟩ G3 k3 (f3 r _ (eG "stand" hr2 y3 (fT gz gS)) (eG "stand" hr2 y4 (fT gz lX)) (aN hr2 y5 (by intro z;cases z)) (aN hr2 y6 (by intro z;cases z)) (aN hr2 y7 (by intro z;cases z)) hr2)
end
end K43
namespace K43
open PySem L2
open K43T (Kvs Las aS bR aI aT cS Eqv ci bS)
open K43B (aZ ba)
abbrev mM:Stmt:=top 127
def rH(K:Frag):Sp:=fun vs H Q _=>∃(a:Addr)(ns:List Int),vs=[.ref a]/\SqL K H a (ns.map V.int)/\ns.length <= 63/\∀H',Q (.bl true) H'
theorem bMin1:bootBuiltins "min"=some (.builtin "min"):=by decide +kernel
structure Blj(mg:Str->Option Value):Prop where
 len:mg "len"=none
 range:mg "range"=none
 min:mg "min"=none
 max:mg "max"=none
theorem ua {nm:Str} {wa sz:Int} {m:Addr}:(flH nm wa sz m).lookup ("chair_known":Str)=none:=by kernel_rfl
theorem oO {nm:Str} {wa sz:Int} {m:Addr}:(flH nm wa sz m).lookup ("hear":Str)=none:=by kernel_rfl
theorem mO {st en:Addr}:(flR st en).lookup ("bench":Str)=none:=by kernel_rfl
theorem xj{K:Frag}{H:Hp}{p q:Addr}{nm fr:Str}{t pc bt:Int}{y:Bool}(h:eN H p nm fr t y pc bt)(h':eN H q nm fr t y pc bt):uU K H p q:=by
 obtain⟨a,a1,a2⟩:=h;obtain⟨b,b1,b2⟩:=h';refine⟨1,_,_,by decide,SqT.of a1,SqT.of b1,rfl,fun j x y hx hy=>?_⟩
 match j,hx,hy with
 | 0,hx,hy =>
  cases hx;cases hy;exact iw (SqT.of a2) (SqT.of b2) fun z hz=>by
   simp only[List.mem_cons,not_mem_nil,or_false]at hz;rcases hz with rfl | rfl | rfl | rfl | rfl | rfl | rfl <;> rfl
 | j + 1,hx,_=>cases hx
theorem eN.tk{H H':Hp}{p:Addr}{nm fr:Str}{t pc bt:Int}{y:Bool}(k:Tk H H')(h:eN H p nm fr t y pc bt):eN H' p nm fr t y pc bt:=by
 obtain⟨a,a1,a2⟩:=h;exact⟨a,k _ _ a1,k _ _ a2⟩
theorem gUp_eq(g:Gs)(lm:Int)(h:g.t <= lm):gUp g lm={ g with t:=lm,v:=(if g.t < lm then .non else g.v),kn:=(if g.t < lm then .non else g.kn) }:=by
 unfold gUp;by_cases z:g.t < lm
 ·rw[if_pos z,if_pos z,if_pos z]
 ·rw[if_neg z,if_neg z,if_neg z];have:g.t=lm:=by lia
  rw[<- this]
theorem eqv_run{a b:Kvs × Las}(e:Eqv a.1 a.2 b.1 b.2)(xs:List En):Eqv (ca a xs).1 (ca a xs).2 (ca b xs).1 (ca b xs).2:=by
 induction xs generalizing a b with
 | nil=>exact e
 | cons x r ih =>
  refine ih (a:=dv a x) (b:=dv b x) ?_;unfold dv;cases x.2 with
  | none=>exact e
  | some q =>
   obtain⟨y,n,wk⟩:=q;exact e.step y n wk
structure CutP(K:Frag)(H:Hp)(g:Gs)(w st en:Addr)(hk:List (Key × V))(hq:List (Str × Int × V)):Prop where
 w:H w=some (.tup [.int g.t,g.v,.int g.s,.ref st,.ref en])
 so:bT K H st g.s ((g.tm :: ay g.xs).getD (g.s - g.pl).toNat 0) g.b hk hq
 en:H en=some (.tup ((g.es.drop (g.s - g.pl).toNat).map V.ref))
 to:cP g.tab hk hq
 l3:(aI hk).length < 64
 l4:(aT hq).length < 64
structure At(K:Frag)(H:Hp)(g:Gs)(w st en:Addr)(pl0 tm0:Int)(es0:List Addr)(xs0:List En)(cs:List Addr)(C:List En)(keep:Nat):Prop where
 w:H w=some (.tup [.int g.t,g.v,.int g.s,.ref st,.ref en])
 so:bT K H st g.pl g.tm g.b g.hk g.hq
 en:H en=some (.tup (g.es.map V.ref))
 sp:g.s=g.pl
 v:smV g.v=true
 to:cP g.bk.t g.hk g.hq
 rq:gx pl0 tm0 es0 xs0 cs C keep g.s g.pl g.tm g.es g.xs
theorem xk{g:Gs}(h:g.s=g.pl):g.tab=g.bk.t:=by
 unfold Gs.tab;rw[h,show (g.pl - g.pl).toNat=0 by lia,List.take_zero]
 rfl
theorem At.cutP{K:Frag}{H:Hp}{g:Gs}{w st en:Addr}{pl0 tm0:Int}{es0:List Addr}{xs0:List En}{cs:List Addr}{C:List En}{keep:Nat}(h:At K H g w st en pl0 tm0 es0 xs0 cs C keep)(l3:(aI g.hk).length < 64)(l4:(aT g.hq).length < 64):CutP K H g w st en g.hk g.hq:=by
 have z:(g.s - g.pl).toNat=0:=by have:=h.sp;lia
 refine⟨h.w,?_,?_,by rw[xk h.sp];exact h.to,l3,l4⟩
 ·rw[z,h.sp];exact h.so
 ·rw[z];exact h.en
theorem At.of{K:Frag}{H H':Hp}{g g1:Gs}{w st en:Addr}{hk:List (Key × V)}{hq:List (Str × Int × V)}{pl0 tm0:Int}{es0:List Addr}{xs0:List En}{cs:List Addr}{C:List En}{keep:Nat}(p:CutP K H g w st en hk hq)(c:CutG g g1 hk hq)(k:TkZ H H')(hv:smV g.v=true)(r:gx pl0 tm0 es0 xs0 cs C keep g.s g.pl g.tm g.es g.xs):At K H' g1 w st en pl0 tm0 es0 xs0 cs C keep:=by
 refine⟨?_,?_,?_,by rw[c.s,c.pl],by rw[c.v];exact hv,by rw[c.bk,c.hk,c.hq];exact p.to,by rw[c.s,c.pl,c.tm,c.es,c.xs];exact r.cut⟩
 ·rw[c.t,c.v,c.s];exact k.t _ _ p.w
 ·rw[c.pl,c.tm,c.b,c.hk,c.hq];exact p.so.tkz k
 ·rw[c.es];exact k.t _ _ p.en
structure Ln(pl0:Int)(g:Gs):Prop where
 l1:g.bk.t.1.length <= 3 + (g.pl - pl0).toNat
 l2:g.bk.t.2.length <= 3 + (g.pl - pl0).toNat
 l3:(aI g.hk).length <= 3 + (g.pl - pl0).toNat
 l4:(aT g.hq).length <= 3 + (g.pl - pl0).toNat
theorem gx.len{pl0 tm0:Int}{es0:List Addr}{xs0:List En}{cs:List Addr}{C:List En}{keep:Nat}{s pl tm:Int}{es:List Addr}{xs:List En}(h:gx pl0 tm0 es0 xs0 cs C keep s pl tm es xs)(h8:es0.length <= 20)(hc:cs.length <= 20):es.length + (pl - pl0).toNat <= 20/\pl0 <= pl/\pl <= s:=by
 obtain⟨R,X,o,h1,rfl,h3,h4,h5,rfl,rfl,rfl⟩:=h;have:R.length <= 20:=by
  rcases h1 with ⟨z,_⟩ | ⟨e,_,z,_⟩
  ·rw[z];exact h8
  ·rw[z,length_take];lia
 rw[length_drop];lia
theorem bP.off_new{K:Frag}{c:Cs}{H0 Ha Hb:Hp}{g:Gs}{x:Addr}{u:HO}(h:bP K c H0 Ha g)(n:Ha x=none)(e:Hb x=some u):j5 g Hb x=some u:=by
 obtain⟨z1,y1⟩:=h.hb;obtain⟨z2,y2⟩:=h.mo.ob;obtain⟨⟨z3,y3⟩,_⟩:=id h.mo.wg.wo;obtain⟨z4,y4,_⟩:=h.mo.rc;obtain⟨_,y5,⟨z6,y6,_⟩,_⟩:=id h.mo.tb;rw[rF (ak y1 n).symm (ak y2 n).symm (ak y3 n).symm (ak y4 n).symm (ak y5 n).symm (ak y6 n).symm];exact e
section
variable{P:Program}{w:World}{K:Frag}{mg:Str->Option Value}{base:Heap}{CH CM CT CW CR:Addr}
noncomputable abbrev nLaw:List Str:=["_law_script","_law_state","_law_stand","_law_house","_law_chair","_law_k","_law_letter","_law_due"]
theorem scLaw:au nLaw ["_law_script"] (am mM):=fsc (by decide +kernel)
theorem ok_law {f:Addr} {fd:FuncData} (F:Fun K "law" "law" mM f fd) (B:Blj mg) (TH:ClH K mg CH) (TR:ClR K mg CR) (Fc:aV P w K mg base 1 "_law_cell_at" ["_law_script","_law_k"] (ie K)) (Fw:aV P w K mg base 4 "_law_written" ["_law_script"] (spWr K)) (Fcr:aV P w K mg base 4 "_law_chair_row" pCR (spCR K)) (Frw:aV P w K mg base 3 "_law_rows" pRw (spRw K)) (Fhd:aV P w K mg base 2 "_law_heard" ["_law_state","_law_letter"] (spHd K)) (Fcu:aV P w K mg base 3 "_law_cut" ["_law_state"] (qx K)) (Fic:aV P w K mg base 10 "_law_is_cut" ["_law_house","_law_state"] (mK K ⟨CH,CM,CT,CW,CR⟩))
  (Mh:fe P w K mg base CH 8 nHI (spHI K CH)) (Mu:aW P w K mg base CH 8 "comes_up" ["self","written"] (spUp K ⟨CH,CM,CT,CW,CR⟩)) (Mr:aW P w K mg base CH 10 "hear" ["self","letter"] (gi K ⟨CH,CM,CT,CW,CR⟩ jY)) (Mw:aW P w K mg base CH 2 "writes" ["self"] (gT K ⟨CH,CM,CT,CW,CR⟩)) (Mk:aW P w K mg base CH 1 "chair_known" ["self"] (jH K ⟨CH,CM,CT,CW,CR⟩)) (Mro:aW P w K mg base CH 3 "row" ["self"] (mC K ⟨CH,CM,CT,CW,CR⟩)) (Mbe:aW P w K mg base CR 3 "bench" ["self"] (jU CR)):aQ P w K mg base CX0 11 f fd ["_law_script"] (rH K):=by
 refine F.ok scLaw (fun us H Q E h=>?_) (fun cdv A outer s H us Q E hr h=>?_)
 ·obtain⟨a,ns,rfl,_⟩:=h;rfl
 ·obtain⟨a,ns,rfl,hS,hl63,q⟩:=h;have nd:=scLaw.nd;have r1:bj 1 _:=hr.mono (by decide)
  have r2:bj 2 _:=hr.mono (by decide)
  have r3:bj 3 _:=hr.mono (by decide)
  have r4:bj 4 _:=hr.mono (by decide)
  have r8:bj 8 _:=hr.mono (by decide)
  have r9:bj 9 _:=hr.mono (by decide)
  have hu64:=hr.units;have hs16:sizeLine=16777216:=sizeLine_eq;refine⟨_,ae (aC (i:=1) nd rfl (Or.inl rfl) (aB Fw r4 (ad (pv 0) ag))) <|
   ae (aC (i:=2) nd rfl (Or.inl rfl) (ar ao (pv 1) af (fun _ _=>rfl))) <|
   ae (aC (i:=3) nd rfl (Or.inl rfl) (cz Mh r9 TH.mgC (ad aU (ad af (ad af (ad (ar ao (pv 2) af (fun _ _=>rfl)) ag)))))) <|
   ae (bG (bg Mu TH.cl r8 (pv 3) (ad (pv 1) ag))) <|
   ae (aC (i:=4) nd rfl (Or.inl rfl) (aB Fcr r4 (ad (pv 0) (ad (pv 1) (ad af ag))))) <|
   ae (cM (aC (i:=1) nd rfl (Or.inl rfl) (aB Fcu r3 (ad (pv 1) ag)))) <|
   ae (aX (PW.pt (cN (df (cI (aB Fic hr (ad (pv 3) (ad (pv 1) ag))))) (cV (df (cI (aB Fic hr (ad (pv 3) (ad (pv 1) ag)))))))) (aj (ax d9)) aK) <|
   ae (dY PassesOwn.never rfl (eC (by rfl) B.range (ad (az (g9 rfl) (by rfl) B.min bMin1 (ad af (ad (az (eE rfl) (by rfl) B.max kW (ad af (ad (aE bV (az aL (by rfl) B.len PySem.boot_len (ad (pv 0) ag)) af) ag))) ag))) ag)) (aA (i:=5) nd rfl (Or.inl rfl)) <|
    ae (aC (i:=6) nd rfl (Or.inl rfl) (aB Frw r3 (ad (aB Fc r1 (ad (pv 0) (ad (aE bn af (pv 5)) ag))) (ad (pv 2) (ad (pv 4) (ad aU ag)))))) <|
    ae (cM (eO (aB Fhd r2 (ad (pv 1) (ad (pv 6) ag))) (dg (n:=2) rfl (aF (aA (i:=1) nd rfl (Or.inl rfl)) (aF (aA (i:=7) nd rfl (Or.inl rfl)) cn))))) <|
    ae (aX (PW.pt (cN (aH (iS hu64) (bg Mr TH.cl hr (pv 3) (ad (pv 6) ag)) (pv 7) (aG _)) (cV (aH (iS hu64) (aO Mw TH.cl r2 (pv 3)) (pv 1) (aG _))))) (aj (ax d9)) aK) <|
    ae (cM (aC (i:=1) nd rfl (Or.inl rfl) (aB Fcu r3 (ad (pv 1) ag)))) <|
    aj (aX (PW.pt (cN (df (cI (aB Fic hr (ad (pv 3) (ad (pv 1) ag))))) (cV (aH gI (aO Mk TH.cl r1 (pv 3)) aU (aG _))))) (aj (ax d9)) aK)) <|
   aj (ax (bI (qS hu64) (aO Mbe TR.cl r3 (aO Mro TH.cl r3 (pv 3))) (ar ao (pv 2) af (fun _ _=>rfl)) (aG _))),?_⟩
  dsimp only[bv,Cx.nox];refine ah fun K_ hK_=>?_;refine⟨_,rfl,a,ns,rfl,hS,fun wt st en b t sp pl tm v hk hq es xs H1 s1 ew G t0 hv el kl ll p0 m0 hx1 hsl hB tm1 hTo hbb=>?_⟩;obtain⟨hh,aa,oo,pps,pas,hst,_⟩:=id G.so;refine hK_ _ _ (ah fun K_ hK_=>?_);refine⟨_,rfl,ex4 wt _ _ _ ⟨rfl,rfl,SqT.of ew,fP,?_⟩⟩;refine hK_ _ _ (ah fun K_ hK_=>?_);refine⟨_,rfl,ex4 st _ _ _ ⟨rfl,rfl,SqT.of hst,eP,?_⟩⟩;intro ho dx no ndx ndo;have no':upd H1 dx (.own ho) ho=none:=by rw[aw ndo.symm];exact no
  have s5:aq H1 (upd (upd H1 dx (.own ho)) ho (.ins CH dx [])):=(aq.new ndx).trans (aq.new no');refine⟨ho,ex5 dx b "b" 3 20 ⟨rfl,ai,fun m H6 b6 e6=>⟨rfl,?_⟩⟩⟩;have s46:aq H1 H6:=fun c u e=>b6 _ _ (ak e no) (s5 _ _ e);refine hK_ _ _ (ah fun K_ hK_=>?_);refine⟨_,rfl,ho,dx,_,rfl,e6,ld,_,rfl,ex13 H1 ho dx m wt st en b "b" 3 20 t sp (ex7 pl tm v hk hq es xs ⟨rfl,e6,s46 _ _ ew,G.same s46,s46,no,fun Bk' hBk m2 wr bd d l rl kr yl sd gl fl sl H7 b7 HO=>?_⟩)⟩;have s17:aq H1 H7:=fun c u e=>b7 _ _ (ak e no) (s46 _ _ e);have w7:=s17 _ _ ew;have G7:=G.same s17;have hS1:=s1.seq hS;obtain⟨pl0,pl3⟩:=p0;have hes:es.length=xs.length:=Paired.length G7.eo;obtain⟨g0,hg0⟩:∃g0:Gs,g0={ ho:=ho,m:=m2,wr:=wr,bd:=bd,d:=d,l:=l,rl:=rl,kr:=kr,st:=st,en:=en,b:=b,yl:=yl,sd:=sd,gl:=gl,fl:=fl,sl:=sl,nm:="b",wa:=3,sz:=20,t:=t,v:=v,s:=sp,pl:=pl,tm:=tm,qu:=0,kn:=.non,hk:=hk,hq:=hq,es:=es,xs:=xs,n:=0,bk:=Bk' }:=⟨_,rfl⟩;have HO:bP K ⟨CH,CM,CT,CW,CR⟩ H1 H7 g0:=by rw[hg0];exact HO
  clear b7 b6 s46 s5 no' e6 ndx ndo;refine hK_ _ _ (ah fun K_ hK_=>?_);refine(rd2 rfl rfl (ex16 a wt st en b ns 20 t sp pl tm v hk hq es xs ⟨rfl,HO.sm.seq hS1,by decide,w7,G7,m0,by lia,hsl,hB,fun ch rw cs C keep own fi H8 s8 ech erw nrw hPC hcs hR=>?_⟩))
  have hCl:cs.length=C.length:=Paired.length hPC;have hRl:=hR.len;have s18:=s17.trans s8;have G8:=G.same s18;have st8:=s18 _ _ hst;obtain⟨bx,by',bz,hb1⟩:=hbb
  have hb8:=s18 _ _ hb1;have own0:0 <= own:=by have:=hR.ot;lia
  obtain⟨HOf,S0⟩:=(HO.same s8).off;have hSf:=S0.seq hS1;have hrf:j5 g0 H8 rw=some (.lst (cs.map V.ref)):=HO.off_new nrw erw;generalize j5 g0 H8=H0f at HOf hSf hrf;have hk1:=hR.k1;have hk2:=hR.k2;have hps:=G7.ps;have tab_g0:g0.tab=dI hk hq xs (sp - pl).toNat:=by rw[hg0];show ca Bk'.t _=_;rw[hBk];rfl
  have told0:cP g0.bk.t g0.hk g0.hq:=by
   obtain⟨kvs,las,ps,o1,o2,o3⟩:=hTo;rw[hg0];show cP Bk'.t hk hq;rw[hBk];exact(cP.made (t:=(kvs,las)) ⟨kvs,las,ps,o1,Eqv.refl _ _,o2,o3⟩).1
  have rq0:gx pl tm es xs cs C keep g0.s g0.pl g0.tm g0.es g0.xs:=by
   rw[hg0];show gx pl tm es xs cs C keep sp pl tm es xs;exact⟨es,xs,0,.inl ⟨rfl,rfl,hk1⟩,by lia,hps,by lia,hes,rfl,rfl,rfl⟩
  refine hK_ _ _ (ah fun K_ hK_=>?_);refine⟨fun σ' H'=>∃(w stX enX:Addr) (hk2:List (Key × V)) (hq2:List (Str × Int × V)),σ'=[some (.ref a),some (.ref w),some (.ref st),some (.ref g0.ho),some (.ref ch),none,none,none]/\aq H8 H'/\CutP K H' g0 w stX enX hk2 hq2/\(aI hk2).length <= 3 + (g0.s - pl).toNat/\(aT hq2).length <= 3 + (g0.s - pl).toNat,?_,?_⟩
  ·refine⟨_,rfl,ex13 wt st en b t sp pl tm v hk hq es xs ⟨rfl,s8 _ _ w7,G8.so,G8.ho,G8.eo,hps,hsl,G8.ok,by lia,by lia,fun hz=>?_,fun hz w2 st2 en2 ps hq2 H9 s9 e9 so9 en9 to9=>?_⟩⟩
   ·have z0:(sp - pl).toNat=0:=by lia
    refine⟨wt,st,en,hk,hq,by rw[hg0];rfl,aq.refl _,⟨by rw[hg0];exact s8 _ _ w7,?_,?_,?_,by lia,by lia⟩,by lia,by lia⟩
    ·rw[hg0];show bT K H8 st sp ((tm :: ay xs).getD (sp - pl).toNat 0) b hk hq;rw[z0,hz];exact G8.so
    ·rw[hg0];show H8 en=some (.tup ((es.drop (sp - pl).toNat).map V.ref));rw[z0];exact G8.ho
    ·have:=told0;rw[<- xk (g:=g0) (by rw[hg0];exact hz)]at this
     have e1:g0.hk=hk:=by rw[hg0]
     have e2:g0.hq=hq:=by rw[hg0]
     rw[e1,e2]at this;exact this
   ·have okt:bR (dI hk hq xs (sp - pl).toNat).1 (dI hk hq xs (sp - pl).toNat).2:=dQ (s:=(aI hk,aT hq)) G8.ok _;obtain⟨_,_,j1,j2⟩:=to9.made okt;have rl:=cB (xs.take (sp - pl).toNat) (aI hk,aT hq);have tl:(xs.take (sp - pl).toNat).length <= (sp - pl).toNat:=by rw[length_take];lia
    have r1':(dI hk hq xs (sp - pl).toNat).1.length <= 3 + (sp - pl).toNat:=by have:=rl.1;simp only at this;unfold dI;lia
    have r2':(dI hk hq xs (sp - pl).toNat).2.length <= 3 + (sp - pl).toNat:=by have:=rl.2;simp only at this;unfold dI;lia
    have es0:g0.s=sp:=by rw[hg0]
    refine⟨w2,st2,en2,cS ps,hq2,by rw[hg0];rfl,s9,⟨by rw[hg0];exact e9,by rw[hg0];exact so9,by rw[hg0];exact en9,?_,by lia,by lia⟩,by rw[es0];lia,by rw[es0];lia⟩
    rw[tab_g0];exact⟨_,_,ps,okt,Eqv.refl _ _,to9,rfl⟩
  rintro σ' H9 ⟨w2,stX,enX,hk2',hq2',rfl,s9,cp9,l39,l49⟩;have es0:g0.s=sp:=by rw[hg0]
  have epl0:g0.pl=pl:=by rw[hg0]
  have eb0:g0.b=b:=by rw[hg0]
  have l0:g0.bk.t.1.length <= 3/\g0.bk.t.2.length <= 3:=by
   rw[hg0];show Bk'.t.1.length <= 3/\Bk'.t.2.length <= 3;rw[hBk];exact⟨kl,ll⟩
  have ees0:g0.es.length=es.length:=by rw[hg0]
  refine hK_ _ _ (ah fun K_ hK_=>?_);refine(rd2 rfl rfl ⟨H0f,g0,w2,stX,enX,hk2',hq2',rfl,HOf.same s9,cp9.w,cp9.so,cp9.en,cp9.to,told0,by rw[hg0];exact hv,by rw[es0,epl0,ees0];exact hsl,by lia,by lia,cp9.l3,cp9.l4,fun g1 H10 c1 G1 k1=>⟨_,rfl,aY ?_⟩⟩)
  have A1:=At.of cp9 c1 k1 (by rw[hg0];exact hv) rq0
  have ln1:Ln pl g1:=by
   have rl:=cB (g0.xs.take (g0.s - g0.pl).toNat) g0.bk.t;have tl:(g0.xs.take (g0.s - g0.pl).toNat).length <= (g0.s - g0.pl).toNat:=by rw[length_take];lia
   have x1:=rl.1;have x2:=rl.2;refine⟨?_,?_,?_,?_⟩
   ·rw[c1.bk,c1.pl];show (ca g0.bk.t _).1.length <= _;lia
   ·rw[c1.bk,c1.pl];show (ca g0.bk.t _).2.length <= _;lia
   ·rw[c1.hk,c1.pl];exact l39
   ·rw[c1.hq,c1.pl];exact l49
  obtain⟨a1,a2,a3⟩:=A1.rq.len (by lia) (by lia)
  have cp1:=A1.cutP (by have:=ln1.l3;lia) (by have:=ln1.l4;lia)
  have hus1:[V.ref g0.ho,V.ref w2]=[V.ref g1.ho,V.ref w2]:=by rw[c1.ho]
  refine(rd2 rfl rfl ⟨H0f,g1,w2,stX,enX,g1.hk,g1.hq,hus1,G1,cp1.w,cp1.so,cp1.en,cp1.to,A1.to,A1.v,A1.rq.le,by have:=ln1.l1;lia,by have:=ln1.l2;lia,cp1.l3,cp1.l4,fun g2 H11 c2 G2 k2=>⟨_,rfl,aY ?_⟩⟩)
  have A2:=At.of cp1 c2 k2 A1.v A1.rq;have ln2:Ln pl g2:=by
   have e0:g1.s=g1.pl:=A1.sp;refine⟨?_,?_,?_,?_⟩
   ·rw[c2.bk,xk e0,c2.pl,e0];exact ln1.l1
   ·rw[c2.bk,xk e0,c2.pl,e0];exact ln1.l2
   ·rw[c2.hk,c2.pl,e0];exact ln1.l3
   ·rw[c2.hq,c2.pl,e0];exact ln1.l4
  have e20:g2.ho=g0.ho:=by rw[c2.ho,c1.ho]
  refine hK_ _ _ ?_;have n2:g2.n=0:=by rw[c2.n,c1.n,hg0]
  have nm2:g2.nm="b":=by rw[c2.nm,c1.nm,hg0]
  have b2:g2.b=b:=by rw[c2.b,c1.b,eb0]
  have t2:g2.t <= own:=by rw[c2.t,c1.t,hg0];exact hR.ot
  have k89:TkZ H8 H11:=(TkZ.of s9).trans (k1.trans k2);refine⟨_,rfl,a,_,rfl,.inl (G2.sm.seq hSf),_,_,rfl,rfl,_,_,rfl,_,_,rfl,_,rfl,?_,?_,fX (lo:=0) (fun i σ Hx=>∃(g:Gs)(wt2 stL enL:Addr)(v5 v6 v7:Option V),σ=[some (.ref a),some (.ref wt2),some (.ref st),some (.ref g.ho),some (.ref ch),v5,v6,v7]/\bP K ⟨CH,CM,CT,CW,CR⟩ H0f Hx g/\TkZ H8 Hx/\At K Hx g wt2 stL enL pl tm es xs cs C keep/\Ln pl g/\g.t <= own/\g.nm="b" /\g.b=b/\g.n <= i) ⟨g2,w2,stX,enX,none,none,none,by rw[e20],G2,k89,A2,ln2,t2,nm2,b2,by lia⟩ ?_ ?_⟩
  ·rw[length_map]
   (repeat' split) <;> lia
  ·rw[length_map]
   (repeat' split) <;> lia
  ·rintro i σ Hx hi ⟨g,wt2,stL,enL,v5,v6,v7,rfl,Gx,kx,Ax,lnx,gt1,gnm,gb,gn⟩;have hi5:i < 5:=by
    rw[length_map]at hi;revert hi
    (repeat' split) <;> lia
   have stx:=kx.t _ _ st8;have chx:=kx.t _ _ ech;obtain⟨x1,x2,x3⟩:=Ax.rq.len (by lia) (by lia)
   refine ah fun K_ hK_=>?_;refine(eA rfl rfl rfl rfl (ex3 a ns _ ⟨rfl,Gx.sm.seq hSf,by lia,fun z=>?_⟩))
   refine(rd2 rfl rfl (ex15 st st b hh aa ch rw "a" z pl tm own fi cs C ⟨rfl,nm_a,stx,chx,Gx.sm _ _ hrf,bB kx.t hPC,hR.good,pl0,pl3,m0,tm1,own0,by have:=hR.f1;lia,hR.f2,by lia,fun lt me be th up bt ms ys k sk e2 Ha sa elt eme hPm hms hF=>?_⟩))
   have hml:ms.length=ys.length:=Paired.length hPm;have msl:ms.length <= 30:=by
    have h1:=hF.yl;have h2:=hF.e4;have h3:=hF.ks;have h4:=hF.b0;rcases hF.k0 with h5 | h5 <;> lia
   obtain⟨k',sk',y,pc,s2,es2,xs2,ks',k0',hO,hs2,rq2⟩:=gx.step hR.s hF hcs hes hCl hms hml Ax.rq;have Ga:=Gx.same sa;obtain⟨hhL,aaL,ooL,ppL,paL,stL0,_⟩:=id (Ax.so.same sa);obtain⟨f1,f2⟩:=Ax.to.sm;refine hK_ _ _ (ah fun K_ hK_=>?_);refine⟨fun σ' H'=>∃(w3 du en4:Addr),σ'=[some (.ref a),some (.ref w3),some (.ref st),some (.ref g.ho),some (.ref ch),some (.int (0 + (i:Int))),some (.ref lt),some (.ref du)]/\aq Ha H'/\H' w3=some (.tup [.int own,(if g.t < own then .non else g.v),.int s2,.ref stL,.ref en4])/\H' en4=some (.tup (es2.map V.ref))/\eN H' du "b" "a" own y pc bt,?_,?_⟩
   ·refine(rd2 rfl rfl ⟨wt2,lt,stL,enL,g.b,hhL,⟨aaL,ex18 me "a" g.t g.s g.pl g.tm own be th up bt g.v g.es ms g.xs ys k' sk' ⟨rfl,sa _ _ Ax.w,stL0,sa _ _ Ax.en,Ga.mo.wg.eo,elt,eme,hPm,gt1,ks',k0',by lia,by lia,fun hle hne p w3 du Hd sd ep e2' hto=>?_,fun hgo p w3 du en4 Hd sd ep e2' e3' hto=>?_⟩⟩⟩)
    ·rcases hO with ⟨_,_,rfl,rfl,rfl,rfl,rfl⟩ | ⟨hgo,_⟩
     ·exact⟨p,_,rfl,SqT.of ep,rfl,_,cJ rfl rfl rfl (ex3 w3 du enL ⟨rfl,sd,e2',sd _ _ (sa _ _ Ax.en),hto⟩)⟩
     ·exact absurd (hgo hle) hne
    ·rcases hO with ⟨hle,hne,_⟩ | ⟨_,rfl,rfl,rfl,rfl,rfl,_⟩
     ·exact absurd (hgo hle) hne
     ·exact⟨p,_,rfl,SqT.of ep,rfl,_,cJ rfl rfl rfl (ex3 w3 du en4 ⟨rfl,sd,e2',e3',hto⟩)⟩
   rintro σ' Hd ⟨w3,du,en4,rfl,sd,ew3,een4,hto⟩;have sad:=sa.trans sd;have Gd:=Gx.same sad;obtain⟨dxd,hobd⟩:=Gd.hb;have hlet:=hF.let elt nm_a own0 eme (by lia) hPm
   refine hK_ _ _ (ah fun K_ hK_=>?_);refine⟨_,rfl,ex3 g.ho dxd _ ⟨rfl,hobd,oO,_,rfl,ex15 H0f g lt me "a" "b" own be th up bt ms ys k' sk' ⟨rfl,Gd,gt1,⟨sd _ _ elt,sd _ _ eme,bB (Tk.of sd) hPm,ks',k0',by lia,by lia⟩,hlet.same sd,?_⟩⟩⟩
   rw[gUp_eq g own gt1];refine oI.of (y:=y) (pc:=pc) (s2:=s2) (es2:=es2) (xs2:=xs2) hO fun kr2 en2 n2' hn2 p He Ge ke te=>?_;have hn2:n2' <= g.n + 1:=hn2;have Ge:bP K ⟨CH,CM,CT,CW,CR⟩ H0f He (gN g own "a" s2 es2 xs2 kr2 en2 n2'):=Ge;have te:eN He p g.nm "a" own y pc bt:=te;rw[gnm]at te;refine⟨_,rfl,p,du,rfl,rfl,xj te (hto.tk ke.t),_,rfl,aY ?_⟩;have hvs:smV (if g.t < own then V.non else g.v)=true:=by
    split
    ·rfl
    ·exact Ax.v
   obtain⟨dxe,hobe⟩:=Ge.hb;have ke':TkZ Hx He:=(TkZ.of sad).trans ke;refine⟨_,rfl,ex3 g.ho dxe _ ⟨rfl,hobe,ix,H0f,gN g own "a" s2 es2 xs2 kr2 en2 n2',rfl,Ge,fun p2 Hf sf ef=>⟨_,rfl,p2,w3,rfl,rfl,xh ef (sf _ _ (ke.t _ _ ew3)) (k9 (Ge.mo.wg.so.same sf) ((Ax.so.tkz ke').same sf) f1 f2) (sf _ _ Ge.mo.wg.ho) (sf _ _ (ke.t _ _ een4)) hvs,_,rfl,aY ?_⟩⟩⟩;have Gf:=Ge.same sf;have kf:TkZ Hx Hf:=ke'.trans (TkZ.of sf);have soL:=Ax.so.tkz kf;have w3f:=sf _ _ (ke.t _ _ ew3);have en4f:=sf _ _ (ke.t _ _ een4);have rq2l:=rq2.le;obtain⟨y1,y2,y3⟩:=rq2.len (by lia) (by lia)
   have tokL:=Ax.to.made.2;have eoF:Paired (EnO Hf) es2 xs2:=Gf.mo.wg.eo;have tabE:∀n:Nat,Eqv (ca g.bk.t (xs2.take n)).1 (ca g.bk.t (xs2.take n)).2 (dI g.hk g.hq xs2 n).1 (dI g.hk g.hq xs2 n).2:=fun n=>by
    refine eqv_run (b:=(aI g.hk,aT g.hq)) ?_ _;obtain⟨kvs,las,ps,o1,o2,o3,o4⟩:=Ax.to;obtain⟨m1,_⟩:=o3.made o1;rw[<- o4]at m1;exact⟨fun j=>(o2.k j).trans (m1.k j).symm,fun j=>(o2.l j).trans (m1.l j).symm⟩
   refine hK_ _ _ (ah fun K_ hK_=>?_);have lx1:=lnx.l1;have lx2:=lnx.l2;have lx3:=lnx.l3;have lx4:=lnx.l4;refine⟨fun σ' H'=>∃(w4 stX enX:Addr) (hk2:List (Key × V)) (hq2:List (Str × Int × V)),σ'=[some (.ref a),some (.ref w4),some (.ref st),some (.ref g.ho),some (.ref ch),some (.int (0 + (i:Int))),some (.ref lt),some (.ref du)]/\aq Hf H'/\CutP K H' (gN g own "a" s2 es2 xs2 kr2 en2 n2') w4 stX enX hk2 hq2/\(aI hk2).length <= 3 + (s2 - pl).toNat/\(aT hq2).length <= 3 + (s2 - pl).toNat,?_,?_⟩
   ·refine⟨_,rfl,ex13 w3 stL en4 g.b own s2 g.pl g.tm _ g.hk g.hq es2 xs2 ⟨rfl,w3f,soL,en4f,eoF,y3,rq2l,tokL,by lia,by lia,fun hz=>?_,fun hz w4 st4 en5 ps hq4 Hg sg e4 so4 en5' to4=>?_⟩⟩
    ·have z0:(s2 - g.pl).toNat=0:=by lia
     refine⟨w3,ex4 stL en4 g.hk g.hq ⟨rfl,aq.refl _,⟨w3f,?_,?_,?_,by lia,by lia⟩,by lia,by lia⟩⟩
     ·show bT K Hf stL s2 ((g.tm :: ay xs2).getD (s2 - g.pl).toNat 0) g.b g.hk g.hq;rw[z0,hz];exact soL
     ·show Hf en4=some (.tup ((es2.drop (s2 - g.pl).toNat).map V.ref));rw[z0];exact en4f
     ·rw[xk (g:=gN g own "a" s2 es2 xs2 kr2 en2 n2') hz];exact Ax.to
    ·have okt:bR (dI g.hk g.hq xs2 (s2 - g.pl).toNat).1 (dI g.hk g.hq xs2 (s2 - g.pl).toNat).2:=dQ (s:=(aI g.hk,aT g.hq)) tokL _;obtain⟨_,_,j1,j2⟩:=to4.made okt;have rl:=cB (xs2.take (s2 - g.pl).toNat) (aI g.hk,aT g.hq);have tl:(xs2.take (s2 - g.pl).toNat).length <= (s2 - g.pl).toNat:=by rw[length_take];lia
     have r1':(dI g.hk g.hq xs2 (s2 - g.pl).toNat).1.length <= 3 + (s2 - pl).toNat:=by have:=rl.1;simp only at this;unfold dI;lia
     have r2':(dI g.hk g.hq xs2 (s2 - g.pl).toNat).2.length <= 3 + (s2 - pl).toNat:=by have:=rl.2;simp only at this;unfold dI;lia
     exact⟨w4,st4,en5,cS ps,hq4,rfl,sg,⟨e4,so4,en5',⟨_,_,ps,okt,tabE _,to4,rfl⟩,by lia,by lia⟩,by lia,by lia⟩
   rintro σ' Hg ⟨w4,stX,enX,hk2,hq2,rfl,sg,cp,l3,l4⟩;refine hK_ _ _ ?_;have Gg:=Gf.same sg;refine(rd2 rfl rfl ⟨H0f,gN g own "a" s2 es2 xs2 kr2 en2 n2',ex5 w4 stX enX hk2 hq2 ⟨rfl,Gg,cp.w,cp.so,cp.en,cp.to,Ax.to,hvs,rq2l,show g.bk.t.1.length + es2.length < 64 by lia,show g.bk.t.2.length + es2.length < 64 by lia,cp.l3,cp.l4,fun g3 Hh c3 G3 k3=>⟨_,rfl,aY ?_⟩⟩⟩)
   obtain⟨dx3,hob3⟩:=G3.hb;have eho:g3.ho=g.ho:=c3.ho;have hob3:=eho ▸ hob3;refine⟨_,rfl,ex3 g.ho dx3 _ ⟨rfl,hob3,ua,H0f,g3,by show [V.ref g.ho]=[V.ref g3.ho];rw[eho],G3,?_⟩⟩
   have ekn:g3.kn=.str "a":=c3.kn;dsimp only;rw[ekn];refine⟨rfl,_,rfl,?_⟩;rw[decide_eq_true rfl];refine aY ?_;have rl:=cB (xs2.take (s2 - g.pl).toNat) g.bk.t;have tl:(xs2.take (s2 - g.pl).toNat).length <= (s2 - g.pl).toNat:=by rw[length_take];lia
   have z1:=rl.1;have z2:=rl.2;refine⟨g3,w4,stX,enX,_,_,_,by rw[eho],G3,kx.trans (kf.trans ((TkZ.of sg).trans k3)),At.of cp c3 k3 hvs rq2,⟨?_,?_,?_,?_⟩,by rw[c3.t];exact Int.le_refl _,by rw[c3.nm];exact gnm,by rw[c3.b];exact gb,by rw[c3.n];show n2' <= i + 1;lia⟩
   ·rw[c3.bk,c3.pl];show (ca g.bk.t (xs2.take (s2 - g.pl).toNat)).1.length <= 3 + (s2 - pl).toNat;lia
   ·rw[c3.bk,c3.pl];show (ca g.bk.t (xs2.take (s2 - g.pl).toNat)).2.length <= 3 + (s2 - pl).toNat;lia
   ·rw[c3.hk,c3.pl];exact l3
   ·rw[c3.hq,c3.pl];exact l4
  ·rintro σ Hx ⟨g,wt2,stL,enL,v5,v6,v7,rfl,Gx,kx,Ax,lnx,gt1,gnm,gb,gn⟩;obtain⟨dxh,hob⟩:=Gx.hb;refine⟨_,rfl,ex3 g.ho dxh _ ⟨rfl,hob,lg,H0f,g,rfl,Gx,fun r Hy sy hrow=>?_⟩⟩;obtain⟨dr,hr1⟩:=id hrow;obtain⟨hh2,aa2,_,R2,R3,R4,R5,R6⟩:=(Gx.same sy).mo.row;refine(ex3 r dr _ ⟨rfl,hr1,mO,ex10 r g.st g.en g.pl g.tm g.b hh2 aa2 g.es g.xs ⟨rfl,⟨⟨dr,hr1⟩,R2,R3,R4,R5,R6⟩,(Gx.same sy).mo.wg.eo,fun Hz sz=>?_⟩⟩);have syz:=sy.trans sz;refine⟨_,rfl,ex4 st _ _ _ ⟨rfl,rfl,SqT.of (syz _ _ (kx.t _ _ st8)),eP,?_⟩⟩;have hbz:=syz _ _ (kx.t _ _ hb8);refine⟨b,b,by rw[gb],rfl,⟨0,_,_,by decide,SqT.of hbz,SqT.of hbz,rfl,fun j x y hx hy=>?_⟩,q _⟩
   rw[hx]at hy;cases hy;have:=mem_of_getElem? hx;simp only[List.mem_cons,not_mem_nil,or_false]at this;rcases this with rfl | rfl | rfl <;> exact Alk.sm rfl
end
end K43
namespace L2
open PySem PySem.W
noncomputable def bZ(m:Nat)(K:Params->Frag):Params->Frag:=fun P=>(K P).filter fun p=>m.testBit p.1
noncomputable def mQ(m:Nat)(as:List Nat):List Nat:=as.filter fun a=>m.testBit a
theorem vs_ns{m:Nat}{K:Params->Frag}{P:Params}{a:Addr}{x:Str}{v:Option (Option Value)}(h:nsIn (K P) a x=v)(e:nsIn (bZ m K P) a x=nsIn (K P) a x):nsIn (bZ m K P) a x=v:=e.trans h
theorem mR{m:Nat}{K:Params->Frag}{P:Params}{a:Value}{x:Str}{v:Option (Option Value)}(h:findIn (K P) a x=v)(e:findIn (bZ m K P) a x=findIn (K P) a x):findIn (bZ m K P) a x=v:=e.trans h
theorem vs_isFn{m:Nat}{K:Params->Frag}{P:Params}{a:Value}{v:Bool}(h:isFn (K P) a=v)(e:isFn (bZ m K P) a=isFn (K P) a):isFn (bZ m K P) a=v:=e.trans h
theorem i8{m:Nat}{K:Params->Frag}{P:Params}{a:Value}{v:Bool}(h:keepIn (K P) a=v)(e:keepIn (bZ m K P) a=keepIn (K P) a):keepIn (bZ m K P) a=v:=e.trans h
theorem mS{m:Nat}{K:Params->Frag}{P:Params}{a:Value}{x:Str}{v:Bool}(h:codeIn (K P) a x=v)(e:codeIn (bZ m K P) a x=codeIn (K P) a x):codeIn (bZ m K P) a x=v:=e.trans h
theorem vs_pget{m:Nat}{K:Params->Frag}{P:Params}{a:Addr}{x:Str}{v:Bool}(h:plainGet (K P) a x=v)(e:plainGet (bZ m K P) a x=plainGet (K P) a x):plainGet (bZ m K P) a x=v:=e.trans h
theorem xl{m:Nat}{K:Params->Frag}{P:Params}{a:Addr}{v:Bool}(h:hasDictIn (K P) a=v)(e:hasDictIn (bZ m K P) a=hasDictIn (K P) a):hasDictIn (bZ m K P) a=v:=e.trans h
theorem xm{m:Nat}{K:Params->Frag}{P:Params}{a:Addr}{v:Bool}(h:plainOver (K P) a=v)(e:plainOver (bZ m K P) a=plainOver (K P) a):plainOver (bZ m K P) a=v:=e.trans h
theorem xn{m:Nat}{K:Params->Frag}{P:Params}{a:Addr}{v:Bool}(h:makesIn (K P) a=v)(e:makesIn (bZ m K P) a=makesIn (K P) a):makesIn (bZ m K P) a=v:=e.trans h
theorem vs_exc{m:Nat}{K:Params->Frag}{P:Params}{a:Addr}{b:List Value}{x:String}{v:Bool}(h:excIn (K P) a b x=v)(e:excIn (bZ m K P) a b x=excIn (K P) a b x):excIn (bZ m K P) a b x=v:=e.trans h
theorem mT{m:Nat}{K:Params->Frag}{P:Params}{a:Addr}{v:Option Obj}(h:List.lookup a (K P)=v)(e:List.lookup a (bZ m K P)=List.lookup a (K P)):List.lookup a (bZ m K P)=v:=e.trans h
theorem xo{m:Nat}{K:Params->Frag}{as:List Nat}(e:∀P,as=List.map (fun x=>x.fst) (K P))(P:Params):mQ m as=List.map (fun x=>x.fst) (bZ m K P):=by
 unfold mQ bZ;rw[e P,List.filter_map];rfl
noncomputable def ub(m:Nat)(K:Params->Frag)(as:List Nat)(e:∀P,as=List.map (fun x=>x.fst) (K P)):Hook:=kHook (bZ m K) (mQ m as) (xo e)
def FnF(K:Frag)(x:Str)(st:Stmt):Prop:=∃f fd,nsIn K mainGlobals x=some (some (.ref f))/\Fun K x x st f fd
def MtF(K:Frag)(C:Addr)(x q:Str)(st:Stmt):Prop:=∃f fd,findIn K (.ref C) x=some (some (.ref f))/\isFn K (.ref f)=true/\Fun K x q st f fd
structure ClF(K:Frag)(C:Addr):Prop where
 pg:plainGet K C Str.empty=true
 hd:hasDictIn K C=true
 po:plainOver K C=true
 sa:findIn K (.ref C) "__setattr__"=some (some (.builtin "object.__setattr__"))
 ma:makesIn K C=true
 kc:keepIn K (.ref C)=true
section
variable{K:Frag}{x q:Str}{st:Stmt}{f:Addr}{oc:Value}{od an:Option Addr}{osl:Array (Option Value)}{kV doc pm cdv ct:Value}
theorem FnF.of(a:nsIn K mainGlobals x=some (some (.ref f)))(l:K.lookup f=some ⟨oc,od,.func (fnOf x x (dO st) (dc st) (am st) .none kV doc pm an cdv ct),osl⟩)(c:codeIn K cdv x=true)(k:keepIn K (.ref f)=true):FnF K x st:=⟨f,_,a,pb l c k⟩
theorem MtF.of{C:Addr}(a:findIn K (.ref C) x=some (some (.ref f)))(i:isFn K (.ref f)=true)(l:K.lookup f=some ⟨oc,od,.func (fnOf x q (dO st) (dc st) (am st) .none kV doc pm an cdv ct),osl⟩)(c:codeIn K cdv q=true)(k:keepIn K (.ref f)=true):MtF K C x q st:=⟨f,_,a,i,pb l c k⟩
end
section
variable{P:Program}{w:World}{K:Frag}{mg:Str->Option Value}{base hp:Heap}{x q:Str}{st:Stmt}{C:Addr}{ps:List Str}{k:Nat}{sp:Sp}
theorem FnF.at(h:FnF K x st)(X:K.In hp)(G:hp.Ns mainGlobals mg)(T:∀f fd,Fun K x x st f fd->aQ P w K mg base CX0 k f fd ps sp)
  (B:∀(kV doc pm:Value)(an:Option Addr)(cdv ct:Value)(us:List Value),us.length=ps.length->bindArgs (fnOf x x (dO st) (dc st) (am st) .none kV doc pm an cdv ct) ⟨us,[]⟩=pure (ps.zip us):=by
   intro _ _ _ _ _ _ us hl
   first
    | (obtain⟨a0,rfl⟩:=len1 hl;rfl)
    | (obtain⟨a0,a1,rfl⟩:=sI hl;rfl)
    | (obtain⟨a0,a1,a2,rfl⟩:=len3 hl;rfl)
    | (obtain⟨a0,a1,a2,a3,rfl⟩:=len4 hl;rfl)
    | (obtain⟨a0,a1,a2,a3,a4,rfl⟩:=len5 hl;rfl)
    | (obtain⟨a0,a1,a2,a3,a4,a5,rfl⟩:=len6 hl;rfl)):aV P w K mg base k x ps sp:=by
 obtain⟨f,fd,a,F⟩:=h;exact⟨f,fd,T f fd F,mg_of X G a,F.kp,F.binds B⟩
theorem MtF.at(h:MtF K C x q st)(T:∀f fd,Fun K x q st f fd->aQ P w K mg base CX0 k f fd ps sp)
  (B:∀(kV doc pm:Value)(an:Option Addr)(cdv ct:Value)(us:List Value),us.length=ps.length->bindArgs (fnOf x q (dO st) (dc st) (am st) .none kV doc pm an cdv ct) ⟨us,[]⟩=pure (ps.zip us):=by
   intro _ _ _ _ _ _ us hl
   first
    | (obtain⟨a0,rfl⟩:=len1 hl;rfl)
    | (obtain⟨a0,a1,rfl⟩:=sI hl;rfl)
    | (obtain⟨a0,a1,a2,rfl⟩:=len3 hl;rfl)
    | (obtain⟨a0,a1,a2,a3,rfl⟩:=len4 hl;rfl)
    | (obtain⟨a0,a1,a2,a3,a4,rfl⟩:=len5 hl;rfl)
    | (obtain⟨a0,a1,a2,a3,a4,a5,rfl⟩:=len6 hl;rfl)):aW P w K mg base C k x ps sp:=by
 obtain⟨f,fd,a,i,F⟩:=h;exact⟨f,fd,T f fd F,F.binds B,a,i,F.kp⟩
end
end L2
namespace K43
open PySem L2
theorem aJ{x y:Str}{t:Addr}{r:List (Str × Addr)}:iD ((x,t) :: r) y=if x=y then some t else iD r y:=by
 unfold iD;rw[List.find?_cons];by_cases h:x=y
 ·rw[decide_eq_true h,if_pos h];rfl
 ·rw[decide_eq_false h,if_neg h]
open PySem.W in
theorem all_mk {l:OpenLaw} {w:World} {K:Frag} {h:Heap} {mg:Str->Option Value} {fa:Addr} (X:K.In h) (G:h.Ns mainGlobals mg) (hfa:mg "law"=some (.ref fa))
  {CR:Addr} (aCR:nsIn K mainGlobals "Row"=some (some (.ref CR)))
  {CT:Addr} (aCT:nsIn K mainGlobals "Table"=some (some (.ref CT)))
  {CW:Addr} (aCW:nsIn K mainGlobals "Written"=some (some (.ref CW)))
  {CM:Addr} (aCM:nsIn K mainGlobals "Mind"=some (some (.ref CM)))
  {CH:Addr} (aCH:nsIn K mainGlobals "House"=some (some (.ref CH)))
  (hwhole:FnF K "is_whole" pN)
  (hfrom:FnF K "is_whole_from" vG)
  (hpname:FnF K "is_name" lO)
  (hrise:FnF K "is_rising_names" ol)
  (hwnum:FnF K "is_work_number" vH)
  (hpwork:FnF K "is_work" pO)
  (hask:FnF K "is_ask" sAsk)
  (hisb:FnF K "is_bench" vA)
  (hjoined:FnF K "is_joined" lP)
  (hpdeed:FnF K "is_deed" pP)
  (hpentry:FnF K "is_entry" lQ)
  (hpart:FnF K "is_part" q9)
  (hlet:FnF K "is_letter" sLet)
  (hchk:FnF K "check_letter" sChk)
  (hfs:FnF K "first_stand" sFS)
  (hfw:FnF K "first_written" sFW)
  (had:FnF K "asks_done" sAD)
  (htf:FnF K "table_from" sTF)
  (hrowsh:FnF K "rows_heard" qe)
  (htookf:FnF K "took" wJ)
  (hfols:FnF K "follow_sender" jP)
  (hcell:FnF K "_law_cell_at" vg)
  (hrich:FnF K "_law_rich" v1)
  (hdig:FnF K "_law_digits" lE)
  (hdeedl:FnF K "_law_deed" wb)
  (hents:FnF K "_law_entries" wc)
  (hdoesl:FnF K "_law_does" pX)
  (htabl:FnF K "_law_table" gU)
  (hdonel:FnF K "_law_done" pZ)
  (hbenchl:FnF K "_law_bench" mf)
  (hwr:FnF K "_law_written" sWr)
  (hcrl:FnF K "_law_chair_row" sCR)
  (htal:FnF K "_law_term_at" sTA)
  (hrwl:FnF K "_law_rows" sRw)
  (hhdl:FnF K "_law_heard" sHd)
  (hcutl:FnF K "_law_cut" xc)
  (hiscl:FnF K "_law_is_cut" qy)
  {flaw:Addr} {odlaw anlaw:Option Addr} {sllaw:Array (Option Value)} {oclaw kVlaw dclaw pmlaw cdlaw ctlaw:Value} (alaw:nsIn K mainGlobals "law"=some (some (.ref flaw))) (llaw:K.lookup flaw=some ⟨oclaw,odlaw,.func (fnOf "law" "law" (dO mM) (dc mM) (am mM) .none kVlaw dclaw pmlaw anlaw cdlaw ctlaw),sllaw⟩) (claw:codeIn K cdlaw "law"=true) (klaw:keepIn K (.ref flaw)=true)
  (hrbeh:MtF K CR "behind" "Row.behind" K43B.mj)
  (hrbat:MtF K CR "bench_at" "Row.bench_at" jT)
  (hrbm:MtF K CR "bench" "Row.bench" mJ)
  (hrcut:MtF K CR "cut" "Row.cut" wW)
  (hrinit:MtF K CR "__init__" "Row.__init__" pG)
  (hupto:MtF K CR "up_to" "Row.up_to" kR)
  (hrlast:MtF K CR "last_place" "Row.last_place" K43B.p3)
  (hrterm:MtF K CR "term_at" "Row.term_at" K43B.mi)
  (hrent:MtF K CR "entry_at" "Row.entry_at" K43B.p4)
  (hrbetw:MtF K CR "between" "Row.between" qa)
  (hrfill:MtF K CR "filled" "Row.filled" K43B.mm)
  (uCR:ClF K CR) (nCR_stand:findIn K (.ref CR) "stand"=some none) (nCR_entries:findIn K (.ref CR) "entries"=some none)
  (htinit:MtF K CT "__init__" "Table.__init__" K43T.kN)
  (htdoes:MtF K CT "does" "Table.does" K43T.vh)
  (htdone:MtF K CT "work_done" "Table.work_done" K43T.vi)
  (htholds:MtF K CT "holds" "Table.holds" K43T.pB)
  (htlast:MtF K CT "last_of" "Table.last_of" K43T.vj)
  (httold:MtF K CT "told" "Table.told" K43T.oi)
  (httwin:MtF K CT "twin" "Table.twin" pU)
  (uCT:ClF K CT) (nCT_held:findIn K (.ref CT) "held"=some none) (nCT_lasts:findIn K (.ref CT) "lasts"=some none)
  (hwinit:MtF K CW "__init__" "Written.__init__" pH)
  (hwtold:MtF K CW "told" "Written.told" pI)
  (hwrise:MtF K CW "rise_to" "Written.rise_to" p6)
  (hwset:MtF K CW "settle_to" "Written.settle_to" wC)
  (hwkeep:MtF K CW "keep_row" "Written.keep_row" p7)
  (uCW:ClF K CW) (nCW_term:findIn K (.ref CW) "term"=some none) (nCW_vote:findIn K (.ref CW) "vote"=some none) (nCW_settled_place:findIn K (.ref CW) "settled_place"=some none) (nCW_kept_row:findIn K (.ref CW) "kept_row"=some none)
  (hmcut:MtF K CM "cut" "Mind.cut" wX)
  (hminit:MtF K CM "__init__" "Mind.__init__" pK)
  (hmset:MtF K CM "settled" "Mind.settled" ij)
  (hmrow:MtF K CM "row" "Mind.row" wD)
  (hmchair:MtF K CM "is_chair" "Mind.is_chair" mv)
  (hmfollow:MtF K CM "follow" "Mind.follow" jO)
  (hmrise:MtF K CM "rise_to" "Mind.rise_to" p8)
  (hmrec:MtF K CM "record" "Mind.record" wE)
  (hmsetto:MtF K CM "settle_to" "Mind.settle_to" mw)
  (uCM:ClF K CM) (nCM_name:findIn K (.ref CM) "name"=some none) (nCM_wait:findIn K (.ref CM) "wait"=some none) (nCM_size:findIn K (.ref CM) "size"=some none) (nCM_kept:findIn K (.ref CM) "kept"=some none) (nCM_records:findIn K (.ref CM) "records"=some none) (nCM_board:findIn K (.ref CM) "board"=some none) (nCM_role:findIn K (.ref CM) "role"=some none) (nCM_known:findIn K (.ref CM) "known"=some none) (nCM_quiet:findIn K (.ref CM) "quiet"=some none) (nCM_yes:findIn K (.ref CM) "yes"=some none) (nCM_sheets:findIn K (.ref CM) "sheets"=some none) (nCM_seat:findIn K (.ref CM) "seat"=some none) (nCM_given:findIn K (.ref CM) "given"=some none) (nCM_found:findIn K (.ref CM) "found"=some none) (nCM_shown:findIn K (.ref CM) "shown"=some none)
  (hhcut:MtF K CH "cut" "House.cut" wY)
  (hhset:MtF K CH "settled" "House.settled" wO)
  (hhrow:MtF K CH "row" "House.row" wP)
  (hhinit:MtF K CH "__init__" "House.__init__" pS)
  (hhwrites:MtF K CH "writes" "House.writes" lT)
  (hhup:MtF K CH "comes_up" "House.comes_up" sUp)
  (hhhear:MtF K CH "hear" "House.hear" vR)
  (hhheard:MtF K CH "heard" "House.heard" pT)
  (hhchl:MtF K CH "chair_letter" "House.chair_letter" lU)
  (hhknown:MtF K CH "chair_known" "House.chair_known" lV)
  (hhtable:MtF K CH "table" "House.table" lW)
  (uCH:ClF K CH) (nCH_name:findIn K (.ref CH) "name"=some none) (nCH_wait:findIn K (.ref CH) "wait"=some none) (nCH_size:findIn K (.ref CH) "size"=some none) (nCH_mind:findIn K (.ref CH) "mind"=some none)
  {tabc:Tok} (gabc:nsIn K mainGlobals "SMALL_LETTERS"=some (some (.str ABC tabc))) {tsev:Tok} (gsev:nsIn K mainGlobals "MOST_SPEAKING"=some (some (.int 7 tsev))) {tfou:Tok} (gfou:nsIn K mainGlobals "MOST_LEARNERS"=some (some (.int 4 tfou))) (zreversed:nsIn K mainGlobals "reversed"=some none) (zenumerate:nsIn K mainGlobals "enumerate"=some none) (zlen:nsIn K mainGlobals "len"=some none) (zrange:nsIn K mainGlobals "range"=some none) (zmin:nsIn K mainGlobals "min"=some none) (zmax:nsIn K mainGlobals "max"=some none) (zlist:nsIn K mainGlobals "list"=some none) (ztuple:nsIn K mainGlobals "tuple"=some none) (zsorted:nsIn K mainGlobals "sorted"=some none) (zisinstance:nsIn K mainGlobals "isinstance"=some none) (zstr:nsIn K mainGlobals "str"=some none) (zall:nsIn K mainGlobals "all"=some none) (zany:nsIn K mainGlobals "any"=some none) (zzip:nsIn K mainGlobals "zip"=some none) (zset:nsIn K mainGlobals "set"=some none) (zint:nsIn K mainGlobals "int"=some none) (zabs:nsIn K mainGlobals "abs"=some none) (zdict:nsIn K mainGlobals "dict"=some none) (zbool:nsIn K mainGlobals "bool"=some none) {CL:Addr} (aCL:nsIn K mainGlobals "NoLetter"=some (some (.ref CL))) (xCL:excIn K CL bmV "ValueError.__new__"=true) {hP:Addr} (aHP:nsIn K mainGlobals "HEAD"=some (some (.ref hP))) {kHP0 kHP1 kHP2:Tok} {odHP:Option Addr} {slHP:Array (Option Value)} {nHP:Nat} (lHP:K.lookup hP=some ⟨.type "tuple",odHP,.seq #[.str "name" kHP0,.str "name" kHP1,.str "whole" kHP2] nHP,slHP⟩) {dP:Addr} (aDP:nsIn K mainGlobals "PARTS"=some (some (.ref dP))) {t0 t1 t2 t3 t4 t5 t6 t7:Addr} {kk0 kk1 kk2 kk3 kk4 kk5 kk6 kk7:Tok} {epP:Nat} (lDP:K.lookup dP=some { cls:=.type "dict",dict:=none,data:=.dict #[{ hash:=PyData.keyHash w.params "look",key:=.str "look" kk0,val:=.ref t0 },{ hash:=PyData.keyHash w.params "saw",key:=.str "saw" kk1,val:=.ref t1 },{ hash:=PyData.keyHash w.params "vote",key:=.str "vote" kk2,val:=.ref t2 },{ hash:=PyData.keyHash w.params "gave",key:=.str "gave" kk3,val:=.ref t3 },{ hash:=PyData.keyHash w.params "rows",key:=.str "rows" kk4,val:=.ref t4 },{ hash:=PyData.keyHash w.params "took",key:=.str "took" kk5,val:=.ref t5 },{ hash:=PyData.keyHash w.params "piece",key:=.str "piece" kk6,val:=.ref t6 },{ hash:=PyData.keyHash w.params "got",key:=.str "got" kk7,val:=.ref t7 }] epP,slots:=#[] }) (sDP:(dP == sysModules)=false) {kt00 kt01:Tok} {odt0:Option Addr} {slt0:Array (Option Value)} {nt0:Nat} (lt0:K.lookup t0=some ⟨.type "tuple",odt0,.seq #[.str "whole" kt00,.str "whole" kt01] nt0,slt0⟩) {kt10 kt11:Tok} {odt1:Option Addr} {slt1:Array (Option Value)} {nt1:Nat} (lt1:K.lookup t1=some ⟨.type "tuple",odt1,.seq #[.str "truth" kt10,.str "whole" kt11] nt1,slt1⟩) {kt20 kt21:Tok} {odt2:Option Addr} {slt2:Array (Option Value)} {nt2:Nat} (lt2:K.lookup t2=some ⟨.type "tuple",odt2,.seq #[.str "whole" kt20,.str "whole" kt21] nt2,slt2⟩) {kt30:Tok} {odt3:Option Addr} {slt3:Array (Option Value)} {nt3:Nat} (lt3:K.lookup t3=some ⟨.type "tuple",odt3,.seq #[.str "truth" kt30] nt3,slt3⟩) {kt40 kt41 kt42 kt43 kt44:Tok} {odt4:Option Addr} {slt4:Array (Option Value)} {nt4:Nat} (lt4:K.lookup t4=some ⟨.type "tuple",odt4,.seq #[.str "whole" kt40,.str "whole" kt41,.str "entries" kt42,.str "whole" kt43,.str "whole" kt44] nt4,slt4⟩) {kt50 kt51 kt52:Tok} {odt5:Option Addr} {slt5:Array (Option Value)} {nt5:Nat} (lt5:K.lookup t5=some ⟨.type "tuple",odt5,.seq #[.str "truth" kt50,.str "whole" kt51,.str "whole" kt52] nt5,slt5⟩) {kt60 kt61 kt62 kt63 kt64 kt65:Tok} {odt6:Option Addr} {slt6:Array (Option Value)} {nt6:Nat} (lt6:K.lookup t6=some ⟨.type "tuple",odt6,.seq #[.str "whole" kt60,.str "whole" kt61,.str "whole" kt62,.str "whole" kt63,.str "text" kt64,.str "whole" kt65] nt6,slt6⟩) {kt70 kt71 kt72:Tok} {odt7:Option Addr} {slt7:Array (Option Value)} {nt7:Nat} (lt7:K.lookup t7=some ⟨.type "tuple",odt7,.seq #[.str "whole" kt70,.str "whole" kt71,.str "whole" kt72] nt7,slt7⟩) :
  ∃fd:FuncData,(∀(s:Shared)(v:Value),BindsTo s fd ⟨[v],[]⟩ [("_law_script",v)])/\∀base:Heap,K.In base->base.Ns mainGlobals mg->aQ l.prog w K mg base CX0 11 fa fd ["_law_script"] (rH K):=by
 have e:=hfa.symm.trans (mg_of X G alaw);cases e;have nreversed:=mg_none_of X G zreversed;have nenumerate:=mg_none_of X G zenumerate;have nlen:=mg_none_of X G zlen;have nrange:=mg_none_of X G zrange;have nmin:=mg_none_of X G zmin;have nmax:=mg_none_of X G zmax;have nlist:=mg_none_of X G zlist;have ntuple:=mg_none_of X G ztuple;have nsorted:=mg_none_of X G zsorted;have nisinstance:=mg_none_of X G zisinstance;have nstr:=mg_none_of X G zstr;have nall:=mg_none_of X G zall;have nany:=mg_none_of X G zany;have nzip:=mg_none_of X G zzip;have nset:=mg_none_of X G zset;have nint:=mg_none_of X G zint;have nabs:=mg_none_of X G zabs;have ndict:=mg_none_of X G zdict;have nbool:=mg_none_of X G zbool;have mabc:=mg_of X G gabc;have msev:=mg_of X G gsev;have mfou:=mg_of X G gfou;have B:Blt mg:={ len:=nlen,list:=nlist,tuple:=ntuple,sorted:=nsorted };have T:Bl2 mg:={ isi:=nisinstance,str:=nstr,all:=nall,any:=nany,zip:=nzip,set:=nset,abc:=⟨_,mabc⟩,sev:=⟨_,msev⟩,fou:=⟨_,mfou⟩ };have U:Bl3 mg:={ int:=nint,bool:=nbool,abs:=nabs };have M:Blm mg:={ len:=nlen,range:=nrange,int:=nint };have TB:K43T.Blt mg:=⟨ntuple,ndict,nsorted⟩;have BJ:Blj mg:={ len:=nlen,range:=nrange,min:=nmin,max:=nmax };have TR:ClR K mg CR:=⟨⟨uCR.pg,uCR.hd,uCR.po,uCR.sa⟩,nCR_stand,nCR_entries,mg_of X G aCR⟩;have TT:K43T.Cl K mg CT:=⟨⟨uCT.pg,uCT.hd,uCT.po,uCT.sa⟩,nCT_held,nCT_lasts,mg_of X G aCT⟩;have TW:ClW K mg CW:=⟨⟨uCW.pg,uCW.hd,uCW.po,uCW.sa⟩,nCW_term,nCW_vote,nCW_settled_place,nCW_kept_row,mg_of X G aCW⟩;have TM:ClM K mg CM:=⟨⟨uCM.pg,uCM.hd,uCM.po,uCM.sa⟩,nCM_name,nCM_wait,nCM_size,nCM_kept,nCM_records,nCM_board,nCM_role,nCM_known,nCM_quiet,nCM_yes,nCM_sheets,nCM_seat,nCM_given,nCM_found,nCM_shown,mg_of X G aCM⟩;have TH:ClH K mg CH:=⟨⟨uCH.pg,uCH.hd,uCH.po,uCH.sa⟩,nCH_name,nCH_wait,nCH_size,nCH_mind,mg_of X G aCH⟩;have XL:ExcC K mg "NoLetter" CL:=⟨mg_of X G aCL,xCL⟩;have GP:vO w K mg:=by
  refine⟨⟨hP,mg_of X G aHP,⟨_,_,_,lHP,rfl,rfl,(by show 3 <= sizeLine;rw[sizeLine_eq];decide),.cons ⟨_,rfl⟩ (.cons ⟨_,rfl⟩ (.cons ⟨_,rfl⟩ (.nil)))⟩⟩,dP,([("look",t0),("saw",t1),("vote",t2),("gave",t3),("rows",t4),("took",t5),("piece",t6),("got",t7)]:List (Str × Addr)),mg_of X G aDP,⟨⟨_,epP,lDP,.cons (.cons (.cons (.cons (.cons (.cons (.cons (.cons (.nil))))))))⟩,sDP,(by show (["look","saw","vote","gave","rows","took","piece","got"]:List Str).Nodup;decide +kernel)⟩,fun kd ss hm=>?_⟩
  simp only[table,List.mem_cons,not_mem_nil,or_false,Prod.mk.injEq]at hm;rcases hm with ⟨rfl,rfl⟩ | ⟨rfl,rfl⟩ | ⟨rfl,rfl⟩ | ⟨rfl,rfl⟩ | ⟨rfl,rfl⟩ | ⟨rfl,rfl⟩ | ⟨rfl,rfl⟩ | ⟨rfl,rfl⟩
  ·exact⟨t0,by rw[aJ,if_pos rfl],⟨_,_,_,lt0,rfl,rfl,(by show 2 <= sizeLine;rw[sizeLine_eq];decide),.cons ⟨_,rfl⟩ (.cons ⟨_,rfl⟩ (.nil))⟩⟩
  ·exact⟨t1,by rw[aJ,if_neg (by decide +kernel),aJ,if_pos rfl],⟨_,_,_,lt1,rfl,rfl,(by show 2 <= sizeLine;rw[sizeLine_eq];decide),.cons ⟨_,rfl⟩ (.cons ⟨_,rfl⟩ (.nil))⟩⟩
  ·exact⟨t2,by rw[aJ,if_neg (by decide +kernel),aJ,if_neg (by decide +kernel),aJ,if_pos rfl],⟨_,_,_,lt2,rfl,rfl,(by show 2 <= sizeLine;rw[sizeLine_eq];decide),.cons ⟨_,rfl⟩ (.cons ⟨_,rfl⟩ (.nil))⟩⟩
  ·exact⟨t3,by rw[aJ,if_neg (by decide +kernel),aJ,if_neg (by decide +kernel),aJ,if_neg (by decide +kernel),aJ,if_pos rfl],⟨_,_,_,lt3,rfl,rfl,(by show 1 <= sizeLine;rw[sizeLine_eq];decide),.cons ⟨_,rfl⟩ (.nil)⟩⟩
  ·exact⟨t4,by rw[aJ,if_neg (by decide +kernel),aJ,if_neg (by decide +kernel),aJ,if_neg (by decide +kernel),aJ,if_neg (by decide +kernel),aJ,if_pos rfl],⟨_,_,_,lt4,rfl,rfl,(by show 5 <= sizeLine;rw[sizeLine_eq];decide),.cons ⟨_,rfl⟩ (.cons ⟨_,rfl⟩ (.cons ⟨_,rfl⟩ (.cons ⟨_,rfl⟩ (.cons ⟨_,rfl⟩ (.nil)))))⟩⟩
  ·exact⟨t5,by rw[aJ,if_neg (by decide +kernel),aJ,if_neg (by decide +kernel),aJ,if_neg (by decide +kernel),aJ,if_neg (by decide +kernel),aJ,if_neg (by decide +kernel),aJ,if_pos rfl],⟨_,_,_,lt5,rfl,rfl,(by show 3 <= sizeLine;rw[sizeLine_eq];decide),.cons ⟨_,rfl⟩ (.cons ⟨_,rfl⟩ (.cons ⟨_,rfl⟩ (.nil)))⟩⟩
  ·exact⟨t6,by rw[aJ,if_neg (by decide +kernel),aJ,if_neg (by decide +kernel),aJ,if_neg (by decide +kernel),aJ,if_neg (by decide +kernel),aJ,if_neg (by decide +kernel),aJ,if_neg (by decide +kernel),aJ,if_pos rfl],⟨_,_,_,lt6,rfl,rfl,(by show 6 <= sizeLine;rw[sizeLine_eq];decide),.cons ⟨_,rfl⟩ (.cons ⟨_,rfl⟩ (.cons ⟨_,rfl⟩ (.cons ⟨_,rfl⟩ (.cons ⟨_,rfl⟩ (.cons ⟨_,rfl⟩ (.nil))))))⟩⟩
  ·exact⟨t7,by rw[aJ,if_neg (by decide +kernel),aJ,if_neg (by decide +kernel),aJ,if_neg (by decide +kernel),aJ,if_neg (by decide +kernel),aJ,if_neg (by decide +kernel),aJ,if_neg (by decide +kernel),aJ,if_neg (by decide +kernel),aJ,if_pos rfl],⟨_,_,_,lt7,rfl,rfl,(by show 3 <= sizeLine;rw[sizeLine_eq];decide),.cons ⟨_,rfl⟩ (.cons ⟨_,rfl⟩ (.cons ⟨_,rfl⟩ (.nil)))⟩⟩
 obtain⟨fchk,_,achk,Fchk⟩:=hchk;have bchk:=Fchk.binds (ps:=["thing"]) fun _ _ _ _ _ _ us hl=>by obtain⟨a0,rfl⟩:=len1 hl;rfl
 have Flaw:=pb (st:=mM) llaw claw klaw;obtain⟨frinit,_,arinit,irinit,Frinit⟩:=hrinit;have brinit:=Frinit.binds (ps:=["self","stand","entries"]) fun _ _ _ _ _ _ us hl=>by obtain⟨a0,a1,a2,rfl⟩:=len3 hl;rfl
 obtain⟨ftinit,_,atinit,itinit,Ftinit⟩:=htinit;have btinit:=Ftinit.binds (ps:=["self","held","asked"]) fun _ _ _ _ _ _ us hl=>by obtain⟨a0,a1,a2,rfl⟩:=len3 hl;rfl
 obtain⟨ftdone,_,atdone,itdone,Ftdone⟩:=htdone;have btdone:=Ftdone.binds (ps:=["self","work"]) fun _ _ _ _ _ _ us hl=>by obtain⟨a0,a1,rfl⟩:=sI hl;rfl
 obtain⟨ftholds,_,atholds,itholds,Ftholds⟩:=htholds;have btholds:=Ftholds.binds (ps:=["self","key"]) fun _ _ _ _ _ _ us hl=>by obtain⟨a0,a1,rfl⟩:=sI hl;rfl
 obtain⟨ftlast,_,atlast,itlast,Ftlast⟩:=htlast;have btlast:=Ftlast.binds (ps:=["self","asker"]) fun _ _ _ _ _ _ us hl=>by obtain⟨a0,a1,rfl⟩:=sI hl;rfl
 obtain⟨fwinit,_,awinit,iwinit,Fwinit⟩:=hwinit;have bwinit:=Fwinit.binds (ps:=["self","parts"]) fun _ _ _ _ _ _ us hl=>by obtain⟨a0,a1,rfl⟩:=sI hl;rfl
 obtain⟨fminit,_,aminit,iminit,Fminit⟩:=hminit;have bminit:=Fminit.binds (ps:=["self","name","wait","size","kept","records"]) fun _ _ _ _ _ _ us hl=>by obtain⟨a0,a1,a2,a3,a4,a5,rfl⟩:=len6 hl;rfl
 obtain⟨fhinit,_,ahinit,ihinit,Fhinit⟩:=hhinit;have bhinit:=Fhinit.binds (ps:=["self","name","wait","size","bench"]) fun _ _ _ _ _ _ us hl=>by obtain⟨a0,a1,a2,a3,a4,rfl⟩:=len5 hl;rfl
 refine⟨fnOf "law" "law" (dO mM) (dc mM) (am mM) .none kVlaw dclaw pmlaw anlaw cdlaw ctlaw,fun s v=>.of_eq rfl,fun base _ _=>?_⟩;have Awhole:aV l.prog w K mg base 1 "is_whole" ["thing"] iW:=hwhole.at X G fun _ _ F=>vK F T U;have Afrom:aV l.prog w K mg base 2 "is_whole_from" ["thing","least"] jB:=hfrom.at X G fun _ _ F=>ok_from F Awhole;have Apname:aV l.prog w K mg base 1 "is_name" ["thing"] ti:=hpname.at X G fun _ _ F=>vD F B T;have Arise:aV l.prog w K mg base 2 "is_rising_names" ["thing"] pL:=hrise.at X G fun _ _ F=>ok_rise F B T Apname;have Awnum:aV l.prog w K mg base 2 "is_work_number" ["thing"] pQ:=hwnum.at X G fun _ _ F=>ok_wnum F U Awhole;have Apwork:aV l.prog w K mg base 3 "is_work" ["thing"] lR:=hpwork.at X G fun _ _ F=>vL F B T Apname Awnum;have Aask:aV l.prog w K mg base 4 "is_ask" ["asker","number","work"] vI:=hask.at X G fun _ _ F=>ok_ask F Apname Afrom Apwork;have Ajoined:aV l.prog w K mg base 1 "is_joined" ["bench"] jz:=hjoined.at X G fun _ _ F=>tj F nlen;have Aisb:aV l.prog w K mg base 3 "is_bench" ["thing"] vC:=hisb.at X G fun _ _ F=>ok_isB F B T Arise Ajoined;have Apdeed:aV l.prog w K mg base 5 "is_deed" ["thing"] lS:=hpdeed.at X G fun _ _ F=>vM F B T Aask Aisb;have Apentry:aV l.prog w K mg base 6 "is_entry" ["thing"] jC:=hpentry.at X G fun _ _ F=>tE F B T Afrom Apdeed;have Apart:aV l.prog w K mg base 7 "is_part" ["sort","thing"] pR:=hpart.at X G fun _ _ F=>ok_part F B T U Apname Afrom Apentry;have Alet:aV l.prog w K mg base 8 "is_letter" ["thing"] vP:=hlet.at X G fun _ _ F=>ok_let F B T GP Apart;have Achk:uP l.prog w K mg base 9 "check_letter" ["thing"] (vQ CL):=⟨_,_,ok_chk Fchk XL Alet,mg_of X G achk,Fchk.kp,bchk⟩;have Mrinit:fe l.prog w K mg base CR 1 ["self","stand","entries"] (iU K CR):=⟨_,_,vq Frinit TR ntuple,brinit,⟨uCR.ma,arinit,irinit,uCR.kc⟩⟩;have Mupto:aW l.prog w K mg base CR 1 "up_to" ["self","place"] (fO K CR):=hupto.at fun _ _ F=>ok_upto F TR;have Mwinit:fe l.prog w K mg base CW 3 ["self","parts"] (iV K CW CR):=⟨_,_,vt Fwinit TW TR Mrinit,bwinit,⟨uCW.ma,awinit,iwinit,uCW.kc⟩⟩;have Mwtold:aW l.prog w K mg base CW 1 "told" ["self"] (lN K CW CR):=hwtold.at fun _ _ F=>vv F TW TR;have Afs:aV l.prog w K mg base 1 "first_stand" ["bench"] spFS:=hfs.at X G fun _ _ F=>ok_fs F;have Afw:aV l.prog w K mg base 5 "first_written" ["bench"] (spFW CW CR):=hfw.at X G fun _ _ F=>ok_fw F TW Afs Mwinit;have Mtinit:fe l.prog w K mg base CT 1 ["self","held","asked"] (K43T.ff K CT):=⟨_,_,K43T.lJ Ftinit TT TB,btinit,⟨uCT.ma,atinit,itinit,uCT.kc⟩⟩;have Gh:aQ l.prog w K mg base CX0 1 ftholds _ ["self","key"] (K43T.lH K CT):=K43T.vk Ftholds TT;have Gl:aQ l.prog w K mg base CX0 1 ftlast _ ["self","asker"] (K43T.pC K CT):=K43T.ok_last Ftlast TT;have Gd:aQ l.prog w K mg base CX0 2 ftdone _ ["self","work"] (K43T.pD K CT):=K43T.ok_done Ftdone TT Gh btholds ⟨atholds,itholds,Ftholds.kp⟩;have Mtdoes:aW l.prog w K mg base CT 3 "does" ["self","asker","number","work"] (K43T.pE K CT):=htdoes.at fun _ _ F=>K43T.ok_does F TT Gl btlast ⟨atlast,itlast,Ftlast.kp⟩ Gd btdone ⟨atdone,itdone,Ftdone.kp⟩;have Mttold:aW l.prog w K mg base CT 1 "told" ["self"] (K43T.ju K CT):=httold.at fun _ _ F=>K43T.ok_told F TT TB;have Mttwin:aW l.prog w K mg base CT 3 "twin" ["self"] (l6 K CT):=httwin.at fun _ _ F=>vY F TT Mttold Mtinit;have Aad:aV l.prog w K mg base 4 "asks_done" ["table","entries"] (spAD K CT):=had.at X G fun _ _ F=>ok_ad F TT ntuple Mtdoes;have Atf:aV l.prog w K mg base 5 "table_from" ["kept"] (spTF K CT CW CR):=htf.at X G fun _ _ F=>ok_tf F TW TR TT Mtinit Aad Mupto;have Mminit:fe l.prog w K mg base CM 6 ["self","name","wait","size","kept","records"] (spMI K CM CT CW CR):=⟨_,_,ok_mi Fminit TM Atf,bminit,⟨uCM.ma,aminit,iminit,uCM.kc⟩⟩;have Mmset:aW l.prog w K mg base CM 1 "settled" ["self"] (io K ⟨CH,CM,CT,CW,CR⟩):=hmset.at fun _ _ F=>ok_mset F TM TW;have Mhinit:fe l.prog w K mg base CH 8 ["self","name","wait","size","bench"] (spHI K CH):=⟨_,_,ok_hi Fhinit TH TM Mminit Afw,bhinit,⟨uCH.ma,ahinit,ihinit,uCH.kc⟩⟩;have Mhup:aW l.prog w K mg base CH 8 "comes_up" ["self","written"] (spUp K ⟨CH,CM,CT,CW,CR⟩):=hhup.at fun _ _ F=>ok_up F TH TM TW Mminit Mwinit;have Mhwrites:aW l.prog w K mg base CH 2 "writes" ["self"] (gT K ⟨CH,CM,CT,CW,CR⟩):=hhwrites.at fun _ _ F=>tF F TH TM TW Mwtold;have Mhknown:aW l.prog w K mg base CH 1 "chair_known" ["self"] (jH K ⟨CH,CM,CT,CW,CR⟩):=hhknown.at fun _ _ F=>tG F TH TM;have Mhtable:aW l.prog w K mg base CH 4 "table" ["self"] (jI K ⟨CH,CM,CT,CW,CR⟩):=hhtable.at fun _ _ F=>tH F TH TM TT Mttwin;have Mwrise:aW l.prog w K mg base CW 1 "rise_to" ["self","term"] (mx CW):=hwrise.at fun _ _ F=>wF F TW;have Mwset:aW l.prog w K mg base CW 1 "settle_to" ["self","place"] (qb CW):=hwset.at fun _ _ F=>ok_wset F TW;have Mwkeep:aW l.prog w K mg base CW 1 "keep_row" ["self","row"] (i7 CW):=hwkeep.at fun _ _ F=>wG F TW;have Mmrow:aW l.prog w K mg base CM 1 "row" ["self"] (ir K ⟨CH,CM,CT,CW,CR⟩):=hmrow.at fun _ _ F=>ok_mrow F TM TW;have Mmchair:aW l.prog w K mg base CM 1 "is_chair" ["self"] (gY K ⟨CH,CM,CT,CW,CR⟩):=hmchair.at fun _ _ F=>tP F TM;have Mmfollow:aW l.prog w K mg base CM 1 "follow" ["self","chair"] (gh K ⟨CH,CM,CT,CW,CR⟩):=hmfollow.at fun _ _ F=>qd F TM;have Mmrise:aW l.prog w K mg base CM 2 "rise_to" ["self","term"] (my K ⟨CH,CM,CT,CW,CR⟩):=hmrise.at fun _ _ F=>wI F TM TW Mwrise Mmfollow;have Mmrec:aW l.prog w K mg base CM 1 "record" ["self","thing"] (qc K ⟨CH,CM,CT,CW,CR⟩):=hmrec.at fun _ _ F=>ok_mrec F TM;have MrinitB:fe l.prog w K mg base CR 1 ["self","stand","entries"] (K43B.ff CR):=⟨_,_,K43B.lJ Frinit TR ntuple,brinit,⟨uCR.ma,arinit,irinit,uCR.kc⟩⟩;have MuptoB:aW l.prog w K mg base CR 1 "up_to" ["self","place"] (K43B.fO CR):=hupto.at fun _ _ F=>K43B.ok_upTo F TR;have Mrlast:aW l.prog w K mg base CR 1 "last_place" ["self"] (K43B.i3 CR):=hrlast.at fun _ _ F=>K43B.ww F TR nlen;have Mrent:aW l.prog w K mg base CR 1 "entry_at" ["self","place"] (K43B.mn CR):=hrent.at fun _ _ F=>K43B.wx F TR;have Mrterm:aW l.prog w K mg base CR 2 "term_at" ["self","place"] (K43B.gW CR):=hrterm.at fun _ _ F=>K43B.tM F TR Mrlast Mrent;have Mrfill:aW l.prog w K mg base CR 3 "filled" ["self","before","there","entries"] (K43B.jN CR):=hrfill.at fun _ _ F=>K43B.tO F TR nenumerate ntuple MrinitB Mrterm MuptoB;have Mrbetw:aW l.prog w K mg base CR 1 "between" ["self","before","place"] (qf CR):=hrbetw.at fun _ _ F=>wK F TR;have Mmsetto:aW l.prog w K mg base CM 5 "settle_to" ["self","place"] (jR K ⟨CH,CM,CT,CW,CR⟩):=hmsetto.at fun _ _ F=>tT F TM TW TR Mmrow Mmset Mrbetw Mwset Aad;have Atookf:aV l.prog w K mg base 1 "took" ["mind","letter","yes","place"] (qg K ⟨CH,CM,CT,CW,CR⟩):=htookf.at X G fun _ _ F=>ok_took F TM TW;have Afols:aV l.prog w K mg base 2 "follow_sender" ["mind","letter"] (iu K ⟨CH,CM,CT,CW,CR⟩):=hfols.at X G fun _ _ F=>qh F TM Mmfollow;have Arowsh:aV l.prog w K mg base 6 "rows_heard" ["mind","letter"] (mz K ⟨CH,CM,CT,CW,CR⟩):=hrowsh.at X G fun _ _ F=>wL F nlen nmin TM TW TR Mmchair Afols Mmrow Mrfill Atookf Mmset Mwkeep Mmrec Mmsetto;have Mhchl:aW l.prog w K mg base CH 7 "chair_letter" ["self","letter"] (mB K ⟨CH,CM,CT,CW,CR⟩):=hhchl.at fun _ _ F=>tV F TH Arowsh;have Mhheard:aW l.prog w K mg base CH 8 "heard" ["self","letter"] (gi K ⟨CH,CM,CT,CW,CR⟩ fun _ _=>True):=hhheard.at fun _ _ F=>tW F TH TM TW Mmrise Mhchl;have Mhhear:aW l.prog w K mg base CH 10 "hear" ["self","letter"] (gi K ⟨CH,CM,CT,CW,CR⟩ jY):=hhhear.at fun _ _ F=>wN F TH Achk Mhheard;have Acell:aV l.prog w K mg base 1 "_law_cell_at" ["_law_script","_law_k"] (ie K):=hcell.at X G fun _ _ F=>ok_cell F M;have Arich:aV l.prog w K mg base 1 "_law_rich" ["_law_cell"] pW:=hrich.at X G fun _ _ F=>ok_rich F nrange;have Adig:aV l.prog w K mg base 2 "_law_digits" ["_law_cell","_law_sizes"] kU:=hdig.at X G fun _ _ F=>ok_dig F Arich;have Adeedl:aV l.prog w K mg base 1 "_law_deed" ["_law_d"] jJ:=hdeedl.at X G fun _ _ F=>ok_deed F nint;have Aents:aV l.prog w K mg base 3 "_law_entries" ["_law_script","_law_start","_law_many","_law_last","_law_term"] (l7 K):=hents.at X G fun _ _ F=>ok_ents F nint nrange Acell Adig Adeedl;have Adoesl:aV l.prog w K mg base 1 "_law_does" ["_law_held","_law_asked","_law_deed_here"] (md K):=hdoesl.at X G fun _ _ F=>wn F;have Atabl:aV l.prog w K mg base 1 "_law_table" ["_law_held","_law_asked"] (jK K):=htabl.at X G fun _ _ F=>tJ F TB;have Adonel:aV l.prog w K mg base 2 "_law_done" ["_law_stand","_law_entries_here","_law_settled"] (iZ K):=hdonel.at X G fun _ _ F=>wp F TB Adoesl Atabl;have Abenchl:aV l.prog w K mg base 1 "_law_bench" ["_law_voters","_law_learners"] jL:=hbenchl.at X G fun _ _ F=>tK F;have Awr:aV l.prog w K mg base 4 "_law_written" ["_law_script"] (spWr K):=hwr.at X G fun _ _ F=>ok_wr F nint nrange nmax ntuple Acell Adig Adeedl Abenchl Adonel Aents;have Acrl:aV l.prog w K mg base 4 "_law_chair_row" ["_law_script","_law_written_here","_law_start"] (spCR K):=hcrl.at X G fun _ _ F=>ok_cr F nlen nlist nmax nrange Acell Adig Adeedl Aents;have Atal:aV l.prog w K mg base 1 "_law_term_at" ["_law_stand","_law_entries_here","_law_place"] (qk asL):=htal.at X G fun _ _ F=>ok_taL F nlen;have AtalT:aV l.prog w K mg base 1 "_law_term_at" ["_law_stand","_law_entries_here","_law_place"] (qk asT):=htal.at X G fun _ _ F=>ok_taT F nlen;have Arwl:aV l.prog w K mg base 3 "_law_rows" ["_law_cell","_law_stand","_law_chair","_law_name"] (spRw K):=hrwl.at X G fun _ _ F=>ok_rw F nlen nmax nrange nint ntuple Adig Atal;have Ahdl:aV l.prog w K mg base 2 "_law_heard" ["_law_state","_law_letter"] (spHd K):=hhdl.at X G fun _ _ F=>ok_hd F nlen nlist nmax nmin nenumerate ntuple AtalT;have Mrbeh:aW l.prog w K mg base CR 1 "behind" ["self","place"] (K43B.jM CR):=hrbeh.at fun _ _ F=>K43B.tL F TR;have Mrbat:aW l.prog w K mg base CR 2 "bench_at" ["self","place"] (gj CR):=hrbat.at fun _ _ F=>qw F TR nreversed MuptoB;have Mrbm:aW l.prog w K mg base CR 3 "bench" ["self"] (jU CR):=hrbm.at fun _ _ F=>tX F TR Mrlast Mrbat;have Mrcut:aW l.prog w K mg base CR 3 "cut" ["self","place","table"] (qr K CR CT):=hrcut.at fun _ _ F=>ok_cutR F TR TT Mttold Mrterm Mrbat Mrbeh MrinitB;have Mmcut:aW l.prog w K mg base CM 4 "cut" ["self"] (qt K ⟨CH,CM,CT,CW,CR⟩):=hmcut.at fun _ _ F=>ok_mcut F TM TW TR Mmrow Mmset Mmchair Mwkeep Mrcut;have Mhcut:aW l.prog w K mg base CH 5 "cut" ["self"] (qv K ⟨CH,CM,CT,CW,CR⟩):=hhcut.at fun _ _ F=>ok_hcut F TH TM Mmcut;have Mhset:aW l.prog w K mg base CH 2 "settled" ["self"] (qi K ⟨CH,CM,CT,CW,CR⟩):=hhset.at fun _ _ F=>ok_hset F TH TM Mmset;have Mhrow:aW l.prog w K mg base CH 3 "row" ["self"] (mC K ⟨CH,CM,CT,CW,CR⟩):=hhrow.at fun _ _ F=>ok_hrow F TH TM TR Mmrow Mrinit;have Acutl:aV l.prog w K mg base 3 "_law_cut" ["_law_state"] (qx K):=hcutl.at X G fun _ _ F=>ok_cutL F nlist Adonel AtalT;have Aiscl:aV l.prog w K mg base 10 "_law_is_cut" ["_law_house","_law_state"] (mK K ⟨CH,CM,CT,CW,CR⟩):=hiscl.at X G fun _ _ F=>xi F ntuple TH TT TR Mhrow Mhcut Mhwrites Mhtable Mttold Mhinit Mhup Mhset;exact ok_law Flaw BJ TH TR Acell Awr Acrl Arwl Ahdl Acutl Aiscl Mhinit Mhup Mhhear Mhwrites Mhknown Mhrow Mrbm
theorem walk{l:PySem.W.OpenLaw}{q:Program}{loose:List Str}{XP:(Str->Option Value)->Heap->Prop}{YP:World->Heap->Prop}{d:DefRec}{K:Params->Frag}(hn:l.most=some 63)(hdf:d.params.defaults=[])
  (hY:∀(w:World)(h:Heap),YP w h->(K w.params).In h)
  (F:∀(w:World)(mg:Str->Option Value)(fa:Addr)(h:Heap),(K w.params).In h->h.Ns mainGlobals mg->mg d.name=some (.ref fa) ->
   ∃fd:FuncData,(∀(s:Shared)(u:Value),BindsTo s fd ⟨[u],[]⟩ [("_law_script",u)])/\∀base:Heap,(K w.params).In base->base.Ns mainGlobals mg->aQ l.prog w (K w.params) mg base CX0 11 fa fd ["_law_script"] (rH (K w.params))) :
  PySem.W.WalkO q loose XP YP l.row.toRowW d [] (fun f vs=>PySem.call f vs) :=
 L2.walk_of (n:=63) (k:=11) (x:="_law_script") (CX:=fun _=>CX0) (sp:=fun w=>rH (K w.params)) hn (by decide) hdf ⟨rfl,by decide,by decide⟩ hY F (fun _ _ a ns hl _ hS=>⟨a,ns,rfl,hS,hl,fun _=>rfl⟩) fun _ _ _ _ _ z=>z
end K43
end
local macro_rules
 | `(command| #check_failure $x:num) => do
  let p := (`PySem.Challenge).str "cw_chainhouse_k43_cut_at_the_settled_place_holds"
  let mut c : Array (Lean.TSyntax `command) := #[]
  for n in [x.getNat:x.getNat+250] do
   for k in (if n < 1690 then ["o"] else ["o", "tree", "sts", "heap"]) do c := c.push (← `(command| noncomputable def $(Lean.mkIdent ((`PySem.W.Fast).str s!"tw{(p.str s!"{k}_{n}").hash}")) : Nat := 0))
  return Lean.mkNullNode c
#check_failure 0
#check_failure 250
#check_failure 500
#check_failure 750
#check_failure 1000
#check_failure 1250
#check_failure 1500
noncomputable def PySem.W.Fast.tw1455135847907316596 : Nat := 0
noncomputable def PySem.W.Fast.tw13400946059607210322 : Nat := 0
noncomputable def PySem.W.Fast.tw8274238280320597306 : Nat := 0
noncomputable def PySem.W.Fast.tw14149801547130060412 : Nat := 0
noncomputable def PySem.W.Fast.tw6423222804550723887 : Nat := 0
noncomputable def PySem.W.Fast.tw9015795551792508276 : Nat := 0
noncomputable def PySem.W.Fast.tw11825559107557323544 : Nat := 0
noncomputable def PySem.W.Fast.tw17605517023530305648 : Nat := 0
noncomputable def PySem.W.Fast.tw2248873217313613913 : Nat := 0
noncomputable def PySem.W.Fast.tw12721508010174410261 : Nat := 0
noncomputable def PySem.W.Fast.tw18374590509551137706 : Nat := 0
noncomputable def PySem.W.Fast.tw8071461290553564500 : Nat := 0
noncomputable def PySem.W.Fast.tw2960973380596334498 : Nat := 0
noncomputable def PySem.W.Fast.tw15852187839349611317 : Nat := 0
noncomputable def PySem.W.Fast.tw11376929409233625198 : Nat := 0
noncomputable def PySem.W.Fast.tw9742436993013754995 : Nat := 0
noncomputable def PySem.W.Fast.tw12752986964250525793 : Nat := 0
noncomputable def PySem.W.Fast.tw11190697693506626570 : Nat := 0
noncomputable def PySem.W.Fast.tw1737533120200478448 : Nat := 0
noncomputable def PySem.W.Fast.tw11460899347199242299 : Nat := 0
noncomputable def PySem.W.Fast.tw6525532992405382799 : Nat := 0
noncomputable def PySem.W.Fast.tw17460389587085817719 : Nat := 0
noncomputable def PySem.W.Fast.tw14071324624187705081 : Nat := 0
noncomputable def PySem.W.Fast.tw8575712887527871971 : Nat := 0
noncomputable def PySem.W.Fast.tw4245053666045857823 : Nat := 0
noncomputable def PySem.W.Fast.tw2481607446121942875 : Nat := 0
noncomputable def PySem.W.Fast.tw17967982662906001750 : Nat := 0
noncomputable def PySem.W.Fast.tw16063875098014724692 : Nat := 0
noncomputable def PySem.W.Fast.tw8797443249353764536 : Nat := 0
noncomputable def PySem.W.Fast.tw11344010832888209533 : Nat := 0
noncomputable def PySem.W.Fast.tw15877815805856123770 : Nat := 0
noncomputable def PySem.W.Fast.tw15971311709357119084 : Nat := 0
noncomputable def PySem.W.Fast.tw5856195047466710691 : Nat := 0
noncomputable def PySem.W.Fast.tw1544799920352357911 : Nat := 0
noncomputable def PySem.W.Fast.tw5859115834682276302 : Nat := 0
noncomputable def PySem.W.Fast.tw12243504480045543736 : Nat := 0
noncomputable def PySem.W.Fast.tw110657061705373922 : Nat := 0
noncomputable def PySem.W.Fast.tw9262840042534024888 : Nat := 0
noncomputable def PySem.W.Fast.tw6873331890866935391 : Nat := 0
noncomputable def PySem.W.Fast.tw15093184540043443746 : Nat := 0
noncomputable def PySem.W.Fast.tw12573895146102725200 : Nat := 0
noncomputable def PySem.W.Fast.tw3886742705807758390 : Nat := 0
noncomputable def PySem.W.Fast.tw14177093764382095573 : Nat := 0
noncomputable def PySem.W.Fast.tw8664637441809738653 : Nat := 0
noncomputable def PySem.W.Fast.tw5661707402916196903 : Nat := 0
noncomputable def PySem.W.Fast.tw179745987954530184 : Nat := 0
noncomputable def PySem.W.Fast.tw366273306265864459 : Nat := 0
noncomputable def PySem.W.Fast.tw1860663310047810964 : Nat := 0
noncomputable def PySem.W.Fast.tw5548152264473263145 : Nat := 0
noncomputable def PySem.W.Fast.tw7136313383700818246 : Nat := 0
noncomputable def PySem.W.Fast.tw1328237051553497042 : Nat := 0
noncomputable def PySem.W.Fast.tw5029155056003694941 : Nat := 0
noncomputable def PySem.W.Fast.tw408916314430905211 : Nat := 0
noncomputable def PySem.W.Fast.tw18078959340224845449 : Nat := 0
noncomputable def PySem.W.Fast.tw226135762249341059 : Nat := 0
noncomputable def PySem.W.Fast.tw2360079312861881303 : Nat := 0
def L2.selMask : Nat := 1307198253787745622162236762568786333088556245292488047154335083631446621255013136500687136220396579031751651375332912283850925587847485109975852093023689967253779183454967897859260578136197975108828757501268529978632060265354141015751757538890868600504237721130885840661893566139053201511457375615978768852057788959204243701616527167349984488599830427084932071139894305772581984647061357321618004998728522986008646516749
local macro_rules
 | `(tactic| o_head ($f:term $a:term $b:term $c:term)) => `(tactic| o_head (L2.ub L2.selMask $a $b $c))
open PySem PySem.W PyProof.Rows
set_option maxRecDepth 100000 in
set_option maxHeartbeats 0 in
theorem PySem.Challenge.cw_chainhouse_k43_cut_at_the_settled_place_holds : PySem.Challenge.rw_chainhouse_k43_cut_at_the_settled_place.Holds := by
 w_on; o_law; k_head; (case hw => w_witness2)
 k_fill
 refine K43.walk (l := PySem.Challenge.rw_chainhouse_k43_cut_at_the_settled_place) rfl rfl (fun w h Y => PySem.W.kIn_of Y) ?F
 case F =>
  intro w mg fa h KX G hmg
  refine' K43.all_mk KX G hmg ?_ ?_ ?_ ?_ ?_ ?_ ?_ ?_ ?_ ?_ ?_ ?_ ?_ ?_ ?_ ?_ ?_ ?_ ?_ ?_ ?_ ?_ ?_ ?_ ?_ ?_ ?_ ?_ ?_ ?_ ?_ ?_ ?_ ?_ ?_ ?_ ?_ ?_ ?_ ?_ ?_ ?_ ?_ ?_ ?_ ?_ ?_ ?_ ?_ ?_ ?_ ?_ ?_ ?_ ?_ ?_ ?_ ?_ ?_ ?_ ?_ ?_ ?_ ?_ ?_ ?_ ?_ ?_ ?_ ?_ ?_ ?_ ?_ ?_ ?_ ?_ ?_ ?_ ?_ ?_ ?_ ?_ ?_ ?_ ?_ ?_ ?_ ?_ ?_ ?_ ?_ ?_ ?_ ?_ ?_ ?_ ?_ ?_ ?_ ?_ ?_ ?_ ?_ ?_ ?_ ?_ ?_ ?_ ?_ ?_ ?_ ?_ ?_ ?_ ?_ ?_ ?_ ?_ ?_ ?_ ?_ ?_ ?_ ?_ ?_ ?_ ?_ ?_ ?_ ?_ ?_ ?_ ?_ ?_ ?_ ?_ ?_ ?_ ?_ ?_ ?_ ?_ ?_ ?_ ?_ ?_ ?_ ?_ ?_ ?_ ?_ ?_ ?_ ?_ ?_ ?_ ?_ ?_
  all_goals first
   | (refine' L2.FnF.of ?a ?l ?c ?k; (case a => exact L2.vs_ns (by k_is) (by kernel_rfl)); (case l => exact L2.mT (by k_is) (by kernel_rfl)); (case c => exact L2.mS (by k_is) (by kernel_rfl)); (case k => exact L2.i8 (by k_is) (by kernel_rfl)))
   | (refine' L2.MtF.of ?a ?i ?l ?c ?k; (case a => exact L2.mR (by k_is) (by kernel_rfl)); (case i => exact L2.vs_isFn (by k_is) (by kernel_rfl)); (case l => exact L2.mT (by k_is) (by kernel_rfl)); (case c => exact L2.mS (by k_is) (by kernel_rfl)); (case k => exact L2.i8 (by k_is) (by kernel_rfl)))
   | exact ⟨L2.vs_pget (by k_is) (by kernel_rfl), L2.xl (by k_is) (by kernel_rfl), L2.xm (by k_is) (by kernel_rfl), L2.mR (by k_is) (by kernel_rfl), L2.xn (by k_is) (by kernel_rfl), L2.i8 (by k_is) (by kernel_rfl)⟩
   | exact L2.vs_ns (by k_is) (by kernel_rfl)
   | exact L2.mR (by k_is) (by kernel_rfl)
   | exact L2.mT (by k_is) (by kernel_rfl)
   | exact L2.vs_exc (by unfold L2.bmV; k_exc) (by kernel_rfl)
   | exact L2.mS (by k_is) (by kernel_rfl)
   | exact L2.i8 (by k_is) (by kernel_rfl)
   | rfl
   | skip
