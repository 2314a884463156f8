import PyProof.Rows.All
import Wide.All
import OpenK.AllK
import Wide.FinOn
import Lean
import PyProof.EqAt
import PyProof.EqKinds
import PyProof.TupleCall
import PySem.Challenge.RW_spanways_k28_texts_go_round
set_option Elab.async false
set_option linter.all false
set_option maxRecDepth 100000
set_option bootstrap.genMatcherCode false
noncomputable section
section
open PySem PySem.W PyProof.Rows
namespace HD
noncomputable abbrev rw:=PySem.Challenge.rw_spanways_k28_texts_go_round.row.toRowW
noncomputable def vw:Program:={rw.prog with main:={rw.prog.main with body:=[1,2,4,5,6,8,10,11,12,13,14,15,17,18,19,20,21,22,23,24,25,26,27,28,29,30,31,32,33,35,36,37,38,39,40,41,42,43,44,45,46,47,48,49,50].filterMap (rw.prog.main.body[·]?)}}
noncomputable abbrev xt:Shared->Bool:=fun s=>xlAt HD.vw [] s && recOk (RowW.records HD.rw) s
theorem jn {p q:Program}{l:List Str}{X:Shared->Bool}{α:Type}{Y:Shared->α}{Z:World->α}{N:Nat}(a:∀ w,(openEnds treeTable p w N).map (fun s=>(openSeen q l (importedModules p.main.body) X true s).1)=some (openGood q l).1)(b:∀ w,(openEnds treeTable p w N).map (fun s=>(openSeen q l (importedModules p.main.body) X true s).2)=some (openGood q l).2)(c:∀ w,(openEnds treeTable p w N).map Y=some (Z w)):LeftO p q l X Y Z N:=fun w=>by
  obtain ⟨s,e,d⟩:=Option.map_eq_some_iff.mp (a w)
  have f:=b w
  have g:=c w
  rw [e] at f g
  show (openEnds treeTable p w N).map _=_
  rw [e]
  exact congrArg some (Prod.ext (Prod.ext d (Option.some.inj f)) (Option.some.inj g))
set_option maxHeartbeats 0
theorem a1:∀ w,(openEnds treeTable rw.prog w 3292).map (fun s=>(openSeen vw [] (importedModules rw.prog.main.body) xt true s).1)=some (openGood vw []).1:=by intro w; kernel_rfl
theorem a2:∀ w,(openEnds treeTable rw.prog w 3292).map (fun s=>(openSeen vw [] (importedModules rw.prog.main.body) xt true s).2)=some (openGood vw []).2:=by intro w; kernel_rfl
local macro_rules | `(tactic|o_head $H)=>do
  let hw:=Lean.mkIdent `hw
  `(tactic|(refine holds_open (q:=HD.vw) (loose:=[]) (Xt:=HD.xt) (XP:=XL HD.vw []) (Yf:=Hook.obs $H) (Ya:=Hook.val $H) (YP:=Hook.says $H) (N:=3292) ?_ (Hook.of $H) (Hook.keeps $H) (fun s e=>xl_of s (Bool.and_eq_true_iff.mp e).1) XL.keeps (by rfl) (by rfl) (by rfl) (fun s e=>recFacts_of (Bool.and_eq_true_iff.mp e).2) (by rfl) (by first | assumption | decide +kernel) (by decide +kernel) ⟨rfl,rfl,rfl,rfl,rfl,by decide +kernel⟩ ?$hw ?_; focus (refine HD.jn HD.a1 HD.a2 ?_; intro w; kernel_rfl)))
open_top top for PySem.Challenge.rw_spanways_k28_texts_go_round
end HD
end
namespace L2
end L2
namespace SM
end SM
namespace BF
end BF
namespace G
end G
open PySem PySem.Spec PyProof.Rows L2 SM BF G List
theorem O9{α:Type _}{a:α}{l:List α}:(a::l)[0]?=some a:=rfl
theorem P9{α:Type _}{a:α}{l:List α}{i:Nat}:(a::l)[i+1]?=l[i]?:=rfl
theorem Q9{α:Type _}{a:α}{l:List α}:(a::l).length=l.length+1:=rfl
theorem R9{α:Type _}:([]:List α).length=0:=rfl
theorem S9{α β:Type _}{f:α->β}{a:α}{l:List α}:(a::l).map f=f a::l.map f:=rfl
theorem T9{α β:Type _}{f:α->β}:[].map f=[]:=rfl
theorem U9{α:Type _}{a b:α}{l:List α}:(a::l).set 0 b=b::l:=rfl
theorem V9{α:Type _}{a b:α}{l:List α}{i:Nat}:(a::l).set (i+1) b=a::l.set i b:=rfl
theorem W9{α β:Type _}{f:α->β}{a:α}:(some a).map f=some (f a):=rfl
theorem X9{α β:Type _}{a:α}{f:α->Option β}:(some a).bind f=f a:=rfl
theorem Y9{α:Type _}{l:List α}:[]++l=l:=rfl
theorem Z9{α:Type _}{a:α}{l k:List α}:a::l++k=a::(l++k):=rfl
theorem aj{α:Type _}{l:List α}{i:Nat}{a:α}:l[i]?=some a->∃h:i<l.length,l[i]=a:=List.getElem?_eq_some_iff.mp
theorem cj{α:Type _}{l k:List α}{i:Nat}(h:i<l.length):(l++k)[i]?=l[i]?:=List.getElem?_append_left h
theorem dj:false≠true:=Bool.false_ne_true
theorem fj(n:Nat):n<=n:=Nat.le_refl n
theorem kj{α:Type _}{l k:List α}{i:Nat}(h:l.length<=i):(l++k)[i]?=k[i-l.length]?:=List.getElem?_append_right h
theorem mj{α:Type _}(l:List α):l++[]=l:=List.append_nil l
theorem nj:(false=true)=False:=Bool.false_eq_true
open PySem.W (Frag nsIn findIn keepIn fnOf mg_none_of)
namespace L2
noncomputable abbrev UC:=Sum Int Str
noncomputable def uQ:UC->Value->Bool
 | .inl k,v=>Value.isInt k v
 | .inr x,v=>Value.isStrOf x v
noncomputable def dR(w:World):UC->Int
 | .inl k=>hashInt k
 | .inr x=>hashStr w x
theorem JE:∀{k:UC}{v:Value},uQ k v=true->(∃i t,k=Sum.inl i/\v=Value.int i t)\/(∃x t,k=Sum.inr x/\v=Value.str x t)
 | .inl i,v,h=>by obtain⟨t,e⟩:=Value.isInt_shape (k:=i) (v:=v) h;exact .inl ⟨i,t,rfl,e⟩
 | .inr x,v,h=>by obtain⟨t,e⟩:=Value.isStrOf_shape (x:=x) (v:=v) h;exact .inr ⟨x,t,rfl,e⟩
theorem EX(a b:Int):decide ((Sum.inl a:UC)=Sum.inl b)=(a==b):=by
 by_cases e:a=b
 · subst e;simp
 · have h:¬(Sum.inl a:UC)=Sum.inl b:=fun q=>e (Sum.inl.inj q)
   rw[decide_eq_false h];exact(beq_eq_false_iff_ne.mpr e).symm
theorem HX(a b:Str):decide ((Sum.inr a:UC)=Sum.inr b)=decide (a=b):=by
 by_cases e:a=b
 · subst e;simp
 · have h:¬(Sum.inr a:UC)=Sum.inr b:=fun q=>e (Sum.inr.inj q)
   rw[decide_eq_false h,decide_eq_false e]
theorem FX(a:Int)(b:Str):decide ((Sum.inl a:UC)=Sum.inr b)=false:=decide_eq_false (fun q=>nomatch q)
theorem GX(a:Str)(b:Int):decide ((Sum.inr a:UC)=Sum.inl b)=false:=decide_eq_false (fun q=>nomatch q)
def oP(prog:Program)(w:World):PySem.KeyKind prog w UC where
 is:=uQ
 hash:=dR w
 inj:=fun v a b ha hb=>by
  rcases JE ha with⟨i,t,rfl,rfl⟩ | ⟨x,t,rfl,rfl⟩
  · rcases JE hb with⟨j,u,rfl,e⟩ | ⟨y,u,rfl,e⟩
    · injection e with e1 _;rw[e1]
    · exact nomatch e
  · rcases JE hb with⟨j,u,rfl,e⟩ | ⟨y,u,rfl,e⟩
    · exact nomatch e
    · injection e with e1 _;rw[e1]
 byValue:=fun k v h=>by rcases JE h with⟨i,t,rfl,rfl⟩ | ⟨x,t,rfl,rfl⟩<;>rfl
 pyHash:=fun hv h=>by
  rcases JE hv with⟨i,t,rfl,rfl⟩ | ⟨x,t,rfl,rfl⟩
  · exact wpAny_pyHash_int h
  · exact wpAny_pyHash_str h
 eqBool:=fun hu hv h=>by
  rcases JE hu with⟨i,t,rfl,rfl⟩ | ⟨x,t,rfl,rfl⟩
  · rcases JE hv with⟨j,u,rfl,rfl⟩ | ⟨y,u,rfl,rfl⟩
    · rw[EX]at h;exact wpAny_eqBool_int h
    · rw[FX]at h;exact SeqAt.EqAt.int_str i t y u _ _ _ _ h
  · rcases JE hv with⟨j,u,rfl,rfl⟩ | ⟨y,u,rfl,rfl⟩
    · rw[GX]at h;exact SeqAt.EqAt.str_int x t j u _ _ _ _ h
    · rw[HX]at h;exact wpAny_eqBool_str h
 «strs»:=fun k x t v h=>by
  rcases JE h with⟨i,u,rfl,e⟩ | ⟨y,u,rfl,e⟩
  · exact nomatch e
  · injection e with e1 _
    subst e1;cases v<;>rfl
inductive V where
 | non | bl (b:Bool) | int (i:Int) | str (x:Str) | J3 (b:Array UInt8) | flt (b:UInt64) | ref (a:Addr) | ty (n:String)
 deriving DecidableEq
noncomputable def RelV:V->Value->Prop
 | .non,u=>u=Value.none
 | .bl b,u=>u=Value.bool b
 | .int i,u=>∃t,u=Value.int i t
 | .str x,u=>∃t,u=Value.str x t
 | .J3 b,u=>∃t,u=Value.bytes b t
 | .flt b,u=>∃t,u=Value.float b t
 | .ref a,u=>u=Value.ref a
 | .ty n,u=>u=Value.type n
abbrev Vals:List V->List Value->Prop:=Paired RelV
theorem Vals.length{xs:List V}{us:List Value}(r:Vals xs us):xs.length=us.length:=Paired.length r
theorem Vals.get:∀{xs:List V}{us:List Value}{i:Nat}{x:V},Vals xs us->xs[i]?=some x->∃u,us[i]?=some u/\RelV x u
 | _,_,_,_,.nil,e=>by simp at e
 | _,_,0,_,.cons r _,e=>by simp at e;subst e;exact⟨_,rfl,r⟩
 | _,_,i+1,x,.cons _ t,e=>by obtain⟨u,h1,h2⟩:=Vals.get (i:=i) (x:=x) t (by simpa using e);exact⟨u,by simpa using h1,h2⟩
theorem Vals.set{x:V}{u:Value}(r:RelV x u):∀{xs:List V}{us:List Value}(i:Nat),Vals xs us->Vals (xs.set i x) (us.set i u)
 | _,_,_,.nil=>.nil
 | _,_,0,.cons _ t=>.cons r t
 | _,_,i+1,.cons q t=>.cons q (Vals.set r i t)
theorem Vals.append:∀{xs ys:List V}{us ws:List Value},Vals xs us->Vals ys ws->Vals (xs++ys) (us++ws)
 | _,_,_,_,.nil,s=>s
 | _,_,_,_,.cons r t,s=>.cons r (Vals.append t s)
theorem Vals.take:∀{xs:List V}{us:List Value}(n:Nat),Vals xs us->Vals (xs.take n) (us.take n)
 | _,_,0,_=>.nil
 | _,_,_+1,.nil=>.nil
 | _,_,n+1,.cons r t=>.cons r (Vals.take n t)
theorem Vals.drop:∀{xs:List V}{us:List Value}(n:Nat),Vals xs us->Vals (xs.drop n) (us.drop n)
 | _,_,0,r=>r
 | _,_,_+1,.nil=>.nil
 | _,_,n+1,.cons _ t=>Vals.drop n t
def l4:Option V->Option Value->Prop
 | some v,some u=>RelV v u
 | none,none=>True
 | _,_=>False
def KV{κ:Type}:List (κ×V)->List (κ×Value)->Prop:=Paired fun(p:κ×V) (q:κ×Value)=>p.1=q.1/\RelV p.2 q.2
noncomputable def kV:UC->V
 | .inl i=>.int i
 | .inr x=>.str x
inductive HO where
 | lst (xs:List V)
 | tup (xs:List V)
 | dK (kvs:List (UC×V)) | dT (kvs:List (List UC×V))
 | set (S:Int->Bool) (n:Nat)
 | ins (C dx:Addr) (fs:List (Str×V))
 | own (x:Addr)
 | xd (fs:List (Str×V))
 | met (f x:Addr)
 | rng (lo hi:Int)
 | W2 (o:Obj) (u:HO)
 | j5 (ps:Array Value)
 | ext (φ:Heap->Prop)
noncomputable abbrev Hp:=Addr->Option HO
noncomputable def FB(H:Hp)(a:Addr)(o:HO):Hp:=fun b=>if b=a then some o else H b
theorem bD{H:Hp}{a:Addr}{o:HO}:FB H a o a=some o:=by unfold FB;rw[if_pos rfl]
theorem HA{H:Hp}{a b:Addr}{o:HO}(h:b≠a):FB H a o b=H b:=by unfold FB;rw[if_neg h]
theorem rC{H:Hp}{a b:Addr}{o:HO}(h:H a=some o)(h':H b=none):a≠b:=by intro e;subst e;rw[h]at h';cases h'
section
variable(P:Program)(w:World)
def U0(H:Hp)(h:Heap)(a:Addr):HO->Prop
 | .lst xs=>xs.length<=sizeLine/\∃(its:List Value) (n:Nat),Vals xs its/\h.get? a=some { cls:=.type "list",data:=.seq its.toArray n }
 | .tup xs=>xs.length<=sizeLine/\∃its:List Value,Vals xs its/\IsTup h a its.toArray
 | .dK kvs=>kvs.length<=sizeLine/\(a==sysModules)=false/\∃vs,KV kvs vs/\h.DictOf (oP P w) a vs
 | .dT kvs=>kvs.length<=sizeLine/\(a==sysModules)=false/\∃xs:List (List UC×Addr×Value),
  Paired (fun(p:List UC×V) (q:List UC×Addr×Value)=>p.1=q.1/\H q.2.1=some (.tup (p.1.map kV))/\RelV p.2 q.2.2) kvs xs/\
  ∃o es ep,h.get? a=some o/\o.ExactDict/\o.data=.dict es ep/\es.toList=xs.map (entryOfKey (tupleKind (oP P w)))/\(xs.map (·.1)).Nodup
 | .set S n=>h.SetOf (intKind P w) a S n
 | .ins C dx fs=>H dx=some (.own a)/\fs.length<=1000/\dx≠a/\h.get? a=some (PySem.W.instObj C dx)/\
  ∃mA,h.Ns1 dx mA/\(∀f,l4 (fs.lookup f) (mA f))/\PySem.Within mA (fs.map (·.1))
 | .own _=>∃o,h.get? a=some o
 | .xd fs=>∃mA,h.Ns1 a mA/\∀f,l4 (fs.lookup f) (mA f)
 | .rng lo hi=>∃t u v,h.get? a=some { cls:=.type "range",data:=.fields #[.int lo t,.int hi u,.int 1 v] }
 | .W2 o u=>h.get? a=some o/\U0 H h a u
 | .j5 ps=>h.get? a=some { cls:=.none,data:=.fields ps }
 | .met f x=>h.get? a=some (PySem.W.methodObj (.ref f) (.ref x))
 | .ext φ=>φ h/\(∃o,h.get? a=some o)/\∀h1 h2:Heap,φ h1->(∀o,h1.get? a=some o->h2.get? a=some o)->φ h2
def Z1(H:Hp)(h:Heap):Prop:=∀a o,H a=some o->U0 P w H h a o
end
section
variable{P:Program}{w:World}{H H':Hp}{h h':Heap}{a:Addr}{o:HO}
theorem U0.lt(x:U0 P w H h a o):a<h.objs.size:=by
 cases o with
 | lst xs=>obtain⟨_,_,_,_,e⟩:=x;exact Heap.lt_size e
 | tup xs=>obtain⟨_,_,_,p⟩:=x;exact p.lt
 | dK kvs=>obtain⟨_,_,_,_,o,_,_,e,_⟩:=x;exact Heap.lt_size e
 | dT kvs=>obtain⟨_,_,_,_,o,_,_,e,_⟩:=x;exact Heap.lt_size e
 | set S n=>obtain⟨o,_,_,_,e,_⟩:=x;exact Heap.lt_size e
 | ins C dx fs=>obtain⟨_,_,_,e,_⟩:=x;exact Heap.lt_size e
 | own y=>obtain⟨_,e⟩:=x;exact Heap.lt_size e
 | xd fs=>obtain⟨_,⟨_,_,_,e,_⟩,_⟩:=x;exact Heap.lt_size e
 | rng lo hi=>obtain⟨_,_,_,e⟩:=x;exact Heap.lt_size e
 | W2 ob u=>obtain⟨e,_⟩:=x;exact Heap.lt_size e
 | j5 ps=>exact Heap.lt_size (show h.get? a=some _ from x)
 | met f y=>exact Heap.lt_size (show h.get? a=some _ from x)
 | ext φ=>obtain⟨_,⟨_,e⟩,_⟩:=x;exact Heap.lt_size e
theorem Paired.U4{α β:Type}{F G:α->β->Prop}:∀{l₁:List α}{l₂:List β},Paired F l₁ l₂->(∀a b,F a b->G a b)->Paired G l₁ l₂
 | _,_,.nil,_=>.nil
 | _,_,.cons r t,f=>.cons (f _ _ r) (Paired.U4 t f)
theorem U0.stay(x:U0 P w H h a o)(k:∀b u,(b=a\/H b=some (.own a))->h.get? b=some u->h'.get? b=some u)
 (ho:∀b,H b=some (.own a)->H' b=some (.own a)) (ht:∀b xs,H b=some (.tup xs)->H' b=some (.tup xs)):U0 P w H' h' a o:=by
 induction o with
 | lst xs=>obtain⟨z,its,n,r,e⟩:=x;exact⟨z,its,n,r,k _ _ (.inl rfl) e⟩
 | tup xs=>obtain⟨z,its,r,ob,e,c⟩:=x;exact⟨z,its,r,ob,k _ _ (.inl rfl) e,c⟩
 | dK kvs=>obtain⟨z,y,vs,r,ob,es,ep,e,c⟩:=x;exact⟨z,y,vs,r,ob,es,ep,k _ _ (.inl rfl) e,c⟩
 | dT kvs=>obtain⟨z,y,xs,r,ob,es,ep,e,c⟩:=x;exact⟨z,y,xs,Paired.U4 r fun p q z=>⟨z.1,ht _ _ z.2.1,z.2.2⟩,ob,es,ep,k _ _ (.inl rfl) e,c⟩
 | set S n=>obtain⟨ob,es,ep,t,e,c⟩:=x;exact⟨ob,es,ep,t,k _ _ (.inl rfl) e,c⟩
 | ins C dx fs=>obtain⟨d,z,ne,e,mA,⟨od,es,ep,e2,c⟩,r⟩:=x;exact⟨ho _ d,z,ne,k _ _ (.inl rfl) e,mA,⟨od,es,ep,k _ _ (.inr d) e2,c⟩,r⟩
 | own y=>obtain⟨ob,e⟩:=x;exact⟨ob,k _ _ (.inl rfl) e⟩
 | xd fs=>obtain⟨mA,⟨od,es,ep,e,c⟩,r⟩:=x;exact⟨mA,⟨od,es,ep,k _ _ (.inl rfl) e,c⟩,r⟩
 | rng lo hi=>obtain⟨t,u,v,e⟩:=x;exact⟨t,u,v,k _ _ (.inl rfl) e⟩
 | W2 ob u ih=>obtain⟨e,q⟩:=x;exact⟨k _ _ (.inl rfl) e,ih q⟩
 | j5 ps=>have e:h.get? a=some { cls:=.none,data:=.fields ps }:=x;show h'.get? a=some { cls:=.none,data:=.fields ps };exact k a _ (.inl rfl) e
 | met f y=>have e:h.get? a=some (PySem.W.methodObj (.ref f) (.ref y)):=x;show h'.get? a=some (PySem.W.methodObj (.ref f) (.ref y));exact k a _ (.inl rfl) e
 | ext φ=>obtain⟨p,⟨o,e⟩,st⟩:=x;exact⟨st _ _ p fun o q=>k _ _ (.inl rfl) q,⟨o,k _ _ (.inl rfl) e⟩,st⟩
theorem Z1.lt(x:Z1 P w H h)(e:H a=some o):a<h.objs.size:=(x a o e).lt
theorem Z1.fresh(x:Z1 P w H h)(e:h.objs.size<=a):H a=none:=by
 cases q:H a with
 | none=>rfl
 | some u=>exact absurd (Nat.lt_of_lt_of_le (x.lt q) e) (Nat.lt_irrefl _)
theorem Z1.kept(x:Z1 P w H h)(k:∀b u,h.get? b=some u->h'.get? b=some u):Z1 P w H h':=fun a o e=>(x a o e).stay (fun b u _ q=>k b u q) (fun _ q=>q) fun _ _ q=>q
theorem Z1.laid(x:Z1 P w H h)(k:∀b u,h.get? b=some u->h'.get? b=some u)(hp:h.objs.size<=a)(new:U0 P w (FB H a o) h' a o):Z1 P w (FB H a o) h':=fun b u e=>by
 have hn:=x.fresh hp;by_cases hb:b=a
 · subst hb;rw[bD]at e;cases e;exact new
 · rw[HA hb]at e;exact(x b u e).stay (fun c v _ q=>k c v q) (fun c q=>by rw[HA (rC q hn)];exact q) fun c xs q=>by rw[HA (rC q hn)];exact q
end
noncomputable def Rd(H:Hp)(a:Addr)(u:HO):Prop:=H a=some u\/∃o,H a=some (.W2 o u)
theorem Rd.ok{P:Program}{w:World}{H:Hp}{h:Heap}{a:Addr}{u:HO}(r:Rd H a u)(x:Z1 P w H h):U0 P w H h a u:=by
 rcases r with r | ⟨o,r⟩
 · exact x a u r
 · obtain⟨_,q⟩:=x a _ r;exact q
noncomputable def IQ:Option HO->Prop
 | some (.lst _)=>True
 | some (.dK _)=>True
 | some (.dT _)=>True
 | some (.set _ _)=>True
 | some (.ins _ _ _)=>True
 | some (.ext _)=>True
 | _=>False
section
variable{P:Program}{w:World}{H:Hp}{h h':Heap}{x e:Addr}{o':HO}
theorem Z1.write(ok:Z1 P w H h)(mu:IQ (H x))(he:e=x\/H e=some (.own x))(k:∀b u,b≠e->h.get? b=some u->h'.get? b=some u)(heo:∃u,h'.get? e=some u)
 (new:U0 P w (FB H x o') h' x o'):Z1 P w (FB H x o') h':=fun b u q=>by
 have T5:∀c y,H c=some (.own y)->c≠x:=fun c y r z=>by subst z;rw[r]at mu;exact mu
 have O7:∀c xs,H c=some (.tup xs)->c≠x:=fun c xs r z=>by subst z;rw[r]at mu;exact mu
 by_cases hb:b=x
 · subst hb;rw[bD]at q;cases q;exact new
 · rw[HA hb]at q;by_cases hbe:b=e
   · have q':H b=some (.own x):=by
      rcases he with z | z
      · exact absurd (hbe.trans z) hb
      · rw[hbe];exact z
     rw[q]at q';cases q';obtain⟨v,hv⟩:=heo;exact⟨v,by rw[hbe];exact hv⟩
   · refine(ok b u q).stay (fun c v hc r=>k c v ?_ r) (fun c r=>by rw[HA (T5 c b r)];exact r) fun c xs r=>by rw[HA (O7 c xs r)];exact r
     rcases hc with rfl | hc
     · exact hbe
     · rintro rfl;rcases he with z | z
       · exact T5 c b hc z
       · rw[hc]at z;cases z;exact hb rfl
end
structure Un(fs ex:List Addr)(H H':Hp)(h h':Heap):Prop where
 keep:∀b o,h.get? b=some o->H b=none->b∉fs->b∉ex->h'.get? b=some o
 slot:∀b o,h.get? b=some o->H b=none->b∈fs->b∉ex->∃sl,h'.get? b=some { o with slots:=sl }
 free:∀b o,h.get? b=some o->H b=none->b∉ex->H' b=none
 there:∀b o,h.get? b=some o->b∉ex->∃o',h'.get? b=some o'
 tups:∀b xs,H b=some (.tup xs)->H' b=some (.tup xs)
 N1:∀b o u,H b=some (.W2 o u)->H' b=some (.W2 o u)
 V1:∀b ps,H b=some (.j5 ps)->∃more,H' b=some (.j5 (ps++more))
section
variable{fs fs' ex ex':List Addr}{H H1 H2:Hp}{h h1 h2 h':Heap}{a x e:Addr}{o:HO}
theorem Un.any(u:Un fs ex H H1 h h1){b:Addr}{ob:Obj}(q:h.get? b=some ob)(n:H b=none)(hx:b∉ex):∃sl,h1.get? b=some { ob with slots:=sl }:=by
 by_cases hb:b∈fs
 · exact u.slot b ob q n hb hx
 · exact⟨ob.slots,u.keep b ob q n hb hx⟩
theorem Un.trans(a:Un fs ex H H1 h h1)(b:Un fs ex H1 H2 h1 h2):Un fs ex H H2 h h2 where
 keep:=fun c ob q n hc hx=>b.keep c ob (a.keep c ob q n hc hx) (a.free c ob q n hx) hc hx
 slot:=fun c ob q n hc hx=>by obtain⟨sl,e1⟩:=a.slot c ob q n hc hx;obtain⟨sl',e2⟩:=b.slot c _ e1 (a.free c ob q n hx) hc hx;exact⟨sl',e2⟩
 free:=fun c ob q n hx=>by obtain⟨o',e1⟩:=a.there c ob q hx;exact b.free c o' e1 (a.free c ob q n hx) hx
 there:=fun c ob q hx=>by obtain⟨o',e1⟩:=a.there c ob q hx;exact b.there c o' e1 hx
 tups:=fun c xs q=>b.tups c xs (a.tups c xs q)
 N1:=fun c ob xs q=>b.N1 c ob xs (a.N1 c ob xs q)
 V1:=fun c ps q=>by obtain⟨m1,e1⟩:=a.V1 c ps q;obtain⟨m2,e2⟩:=b.V1 c _ e1;exact⟨m1++m2,by rw[e2,Array.append_assoc]⟩
theorem Un.kept(k:∀b u,h.get? b=some u->h'.get? b=some u):Un fs ex H H h h':=
 ⟨fun b ob q _ _ _=>k b ob q,fun b ob q _ _ _=>⟨ob.slots,k b ob q⟩,fun _ _ _ n _=>n,fun b ob q _=>⟨ob,k b ob q⟩,fun _ _ q=>q,fun _ _ _ q=>q,fun _ ps q=>⟨#[],by rw[q];simp⟩⟩
theorem Un.refl:Un fs ex H H h h:=Un.kept fun _ _ q=>q
theorem Un.laid(k:∀b u,h.get? b=some u->h'.get? b=some u)(hp:h.objs.size<=a)(hn:H a=none):Un fs ex H (FB H a o) h h' where
 keep:=fun b u q _ _ _=>k b u q
 slot:=fun b u q _ _ _=>⟨u.slots,k b u q⟩
 free:=fun b u q n _=>by rw[HA (Nat.ne_of_lt (Nat.lt_of_lt_of_le (Heap.lt_size q) hp))];exact n
 there:=fun b u q _=>⟨u,k b u q⟩
 tups:=fun b xs q=>by rw[HA (rC q hn)];exact q
 N1:=fun b u xs q=>by rw[HA (rC q hn)];exact q
 V1:=fun b ps q=>⟨#[],by rw[HA (rC q hn),q];simp⟩
theorem Un.write(mu:IQ (H x))(he:e=x\/H e=some (.own x))(k:∀b u,b≠e->h.get? b=some u->h'.get? b=some u)(heo:∃u,h'.get? e=some u):Un fs ex H (FB H x o) h h':=by
 have hx:∀b,H b=none->b≠x:=fun b n z=>by subst z;rw[n]at mu;exact mu
 have hb:∀b,H b=none->b≠e:=fun b n z=>by
  subst z;rcases he with r | r
  · exact hx b n r
  · rw[n]at r;cases r
 have hm:∀b u,H b=some u->¬IQ (some u)->b≠x:=fun b u q nm z=>by subst z;rw[q]at mu;exact nm mu
 refine⟨fun b u q n _ _=>k b u (hb b n) q,fun b u q n _ _=>⟨u.slots,k b u (hb b n) q⟩,fun b u q n _=>by rw[HA (hx b n)];exact n,fun b u q _=>?_,
  fun b xs q=>by rw[HA (hm b _ q fun z=>z)];exact q,fun b u xs q=>by rw[HA (hm b _ q fun z=>z)];exact q,fun b ps q=>⟨#[],by rw[HA (hm b _ q fun z=>z),q];simp⟩⟩
 by_cases hbe:b=e
 · subst hbe;exact heo
 · exact⟨u,k b u hbe q⟩
theorem Un.mono(u:Un fs ex H H1 h h1)(hs:∀b∈fs,b∈fs')(hx:∀b∈ex,b∈ex'):Un fs' ex' H H1 h h1:=
 ⟨fun b ob q n hb he=>u.keep b ob q n (fun z=>hb (hs b z)) fun z=>he (hx b z),fun _ _ q n _ he=>u.any q n fun z=>he (hx _ z),fun b ob q n he=>u.free b ob q n fun z=>he (hx b z),fun b ob q he=>u.there b ob q fun z=>he (hx b z),u.tups,u.N1,u.V1⟩
end
noncomputable def QQ(h:Heap)(H:Hp):List Addr:=(List.range h.objs.size).filter fun a=>(H a).isSome
def EE(h:Heap)(H:Hp):Heap:=PySem.W.hideAll h (QQ h H)
theorem yT(h:Heap)(H:Hp):(EE h H).objs.size=h.objs.size:=PySem.W.hideAll_size _ _
theorem HU{h:Heap}{H:Hp}{b:Addr}{o:Obj}(e:h.get? b=some o)(n:H b=none):(EE h H).get? b=some o:=
 PySem.W.hideAll_get _ e fun hm=>by have q:(H b).isSome=true:=(mem_filter.mp hm).2;rw[n]at q;simp at q
theorem FW{h:Heap}{H:Hp}{b:Addr}{o:Obj}(e:(EE h H).get? b=some o):h.get? b=some o/\H b=none:=by
 have e':h.get? b=some o:=PySem.W.of_hideAll (QQ h H) e;refine⟨e',?_⟩;cases q:H b with
 | none=>rfl
 | some x=>have hm:b∈QQ h H:=mem_filter.mpr ⟨mem_range.mpr (Heap.lt_size e'),by simp[q]⟩;have z:(EE h H).get? b=none:=PySem.W.hideAll_none (QQ h H) hm;rw[z]at e;cases e
noncomputable def jV(g h:Heap)(L:Addr):List (Addr×Obj):=(List.range h.objs.size).filterMap fun a=>if a=L\/(g.get? a).isSome=true then none else(h.get? a).map fun o=>(a,o)
def rest(g h:Heap)(L d:Addr):List (Addr×Obj):=(jV g h L).filter fun p=>decide (p.1≠d)
structure Mod(K:Frag)(mg:Str->Option Value)(base:Heap):Prop where
 K7:K.In base
 glob:base.Ns mainGlobals mg
 blt:∃mb,base.Ns builtinsNs mb/\∀x:Str,x ≠ "__name__" ->mb x=bootBuiltins x
 nolimit:base.NoLimit
structure Cx where
 prog:Program
 w:World
 K:Frag
 mg:Str->Option Value
 base:Heap
 A:Around
 N:List Str
 s₀:Shared
 H₀:Hp
 env:Env
 outer:List Env
 stack:List Env
 ex:List Addr
 fn:Str->Bool
 calm:Bool
 pn:List (Addr×Obj)
 xe:Value->Shared->Prop
noncomputable def LG(l:List Env):List Addr:=l.filterMap (·.frame)
abbrev Cx.fs(X:Cx):List Addr:=LG X.outer
noncomputable def MQ(sc:Scope)(x:Str):Prop:=sc.names.lookup x=some .local\/sc.names.lookup x=some .cell\/sc.names.lookup x=some .free
noncomputable def LJ(sc:Scope)(x:Str):Prop:=sc.names.lookup x=some .local\/sc.names.lookup x=some .cell
noncomputable def TQ(env:Env)(h:Heap)(m:Str->Option Value)(x:Str)(u:Value):Prop:=
 (env.kindOf x=some .local/\m x=some u)\/((env.kindOf x=some .cell\/env.kindOf x=some .free)/\∃c,env.cells.lookup x=some c/\h.IsCell c (some u))
structure Cx.Ok(X:Cx):Prop where
 mod:Mod X.K X.mg X.base
 kind:X.env.scope.kind=.function
 glob:X.env.globals=mainGlobals
 blt:X.env.builtins=builtinsNs
 above:X.s₀.heap.objs.size<=X.env.locals
 inj:∀x y c,X.env.cells.lookup x=some c->X.env.cells.lookup y=some c->x=y
 has:∀x,(X.env.kindOf x=some .cell\/X.env.kindOf x=some .free)->∃c,X.env.cells.lookup x=some c
 cab:∀x c,X.fn x=true->X.env.cells.lookup x=some c->X.s₀.heap.objs.size<=c
 hd:X.calm=true->X.A.handled=none
 frames:X.A.frames=some X.stack
 stk:X.stack=X.outer\/(X.stack=X.env::X.outer/\X.env.frame=some X.env.locals)
 k7:∀b∈X.ex,b≠X.env.locals/\∀x c,X.env.cells.lookup x=some c->c≠b
 bs:∀b o,X.base.get? b=some o->X.s₀.heap.get? b=some o/\X.H₀ b=none
 F4:X.base.objs.size<=X.s₀.heap.objs.size
 Q3:∀b o,X.base.get? b=some o->b∉X.ex
 O3:∀b∈X.ex,b∉X.fs
 A2:X.s₀.heap.FunFrames X.base X.outer
 B5:∀b∈X.fs,X.H₀ b=none
structure Inv(X:Cx)(pins:List (Addr×Obj))(σ:List (Option V))(H:Hp)(s:Shared):Prop where
 ok:X.Ok
 os:s.os=X.s₀.os
 bare:AllBare s.gens
 base:Un X.fs X.ex X.H₀ H X.s₀.heap s.heap
 loc:∃m,s.heap.Ns X.env.locals m/\∀(i:Nat)(x:Str)(v:V),X.N[i]?=some x->σ[i]?=some (some v)->MQ X.env.scope x->∃u,RelV v u/\TQ X.env s.heap m x u
 cell:∀x c,X.env.cells.lookup x=some c->∃v,s.heap.IsCell c v
 free:H X.env.locals=none
 D1:∀x c,X.env.cells.lookup x=some c->H c=none
 pin:∀p∈X.pn++pins,s.heap.get? p.1=some p.2/\H p.1=none/\p.1≠X.env.locals/\p.1∉X.fs/\∀v,p.2.data≠.cell v
 hok:Z1 X.prog X.w H s.heap
 len:σ.length=X.N.length
section
variable{X:Cx}{pins:List (Addr×Obj)}{σ:List (Option V)}{H H':Hp}{s:Shared}{h':Heap}
theorem Cx.Ok.M7(ok:X.Ok){b:Addr}{o:Obj}(e:X.base.get? b=some o):b∉X.fs:=fun hb=>by have:=(ok.A2.mem hb).1;rw[e]at this;cases this
theorem Inv.bs(I:Inv X pins σ H s):∀b o,X.base.get? b=some o->s.heap.get? b=some o/\H b=none:=fun b o e=>⟨I.base.keep b o (I.ok.bs b o e).1 (I.ok.bs b o e).2 (I.ok.M7 e) (I.ok.Q3 b o e),I.base.free b o (I.ok.bs b o e).1 (I.ok.bs b o e).2 (I.ok.Q3 b o e)⟩
theorem Inv.bk(I:Inv X pins σ H s):∀b o,X.base.get? b=some o->s.heap.get? b=some o:=fun b o e=>(I.bs b o e).1
theorem Inv.mod(I:Inv X pins σ H s):Mod X.K X.mg X.base:=I.ok.mod
theorem Inv.D3(I:Inv X pins σ H s):X.K.In s.heap:=I.ok.mod.K7.keeps I.bk
theorem Inv.nolimit(I:Inv X pins σ H s):s.heap.NoLimit:=I.ok.mod.nolimit.keeps I.bk
theorem Inv.lt(I:Inv X pins σ H s):X.env.locals<s.heap.objs.size:=let ⟨_,hn,_⟩:=I.loc;hn.lt
theorem Inv.sz(I:Inv X pins σ H s):X.s₀.heap.objs.size<=s.heap.objs.size:=Nat.le_trans I.ok.above (Nat.le_of_lt I.lt)
theorem Inv.N7(I:Inv X pins σ H s){a:Addr}(h:s.heap.objs.size<=a):a∉X.fs:=fun hb=>by obtain⟨_,o,ho,_⟩:=I.ok.A2.mem hb;exact absurd (Nat.lt_of_lt_of_le (Heap.lt_size ho) (Nat.le_trans I.sz h)) (Nat.lt_irrefl _)
theorem Inv.J4(I:Inv X pins σ H s):∀x c,X.env.cells.lookup x=some c->c≠X.env.locals:=fun x c e z=>by obtain⟨v,o,ho,hd⟩:=I.cell x c e;obtain⟨m,⟨o',es,ep,ho',hd',_⟩,_⟩:=I.loc;rw[z,ho']at ho;cases ho;rw[hd']at hd;cases hd
theorem Inv.A2(I:Inv X pins σ H s):s.heap.FunFrames X.base X.outer:=by
 have all:∀(l:List Env),(∀b∈LG l,b∈X.fs)->X.s₀.heap.FunFrames X.base l->s.heap.FunFrames X.base l:=by
  intro l
  induction l with
  | nil=>intro _ _;trivial
  | cons env r ih=>
   intro hs hl;obtain⟨hk,⟨L,o,hf,hn,ho,hd⟩,hr⟩:=hl;have hL:L∈X.fs:=hs L (by unfold LG;rw[filterMap_cons,hf];exact mem_cons_self);obtain⟨sl,e⟩:=I.base.slot L o ho (I.ok.B5 L hL) hL fun z=>I.ok.O3 L z hL
   exact⟨hk,⟨L,_,hf,hn,e,hd⟩,ih (fun b hb=>hs b (by unfold LG;rw[filterMap_cons,hf];exact mem_cons_of_mem _ hb)) hr⟩
 exact all X.outer (fun _ hb=>hb) I.ok.A2
theorem Inv.stack(I:Inv X pins σ H s):s.heap.FunFrames X.base X.stack:=by
 rcases I.ok.stk with e | ⟨e,hf⟩
 · rw[e];exact I.A2
 · rw[e];obtain⟨m,hn,_⟩:=I.loc;refine .cons (by rw[I.ok.kind];decide) hf hn ?_ I.A2;exact Heap.get?_none_of_le (Nat.le_trans I.ok.F4 I.ok.above)
theorem Inv.Z2(I:Inv X pins σ H s):∀b∈LG X.stack,b∈X.env.locals::X.fs:=fun b hb=>by
 rcases I.ok.stk with e | ⟨e,hf⟩
 · rw[e]at hb;exact mem_cons_of_mem _ hb
 · rw[e]at hb;unfold LG at hb;rw[filterMap_cons,hf]at hb;exact hb
theorem Inv.B3(I:Inv X pins σ H s):∀b∈LG X.stack,H b=none:=fun b hb=>by
 rcases mem_cons.mp (I.Z2 b hb)with e | hb
 · rw[e];exact I.free
 · obtain⟨_,o,ho,_⟩:=I.ok.A2.mem hb;exact I.base.free b o ho (I.ok.B5 b hb) fun z=>I.ok.O3 b z hb
theorem Inv.step{g':Array GenState}{t':Nat}{d':Drawn}{ch:List Addr}(I:Inv X pins σ H s)
 (hch:∀b∈ch,(b∈X.ex\/X.s₀.heap.objs.size<=b)/\b≠X.env.locals/\(∀x c,X.env.cells.lookup x=some c->c≠b)/\∀p∈X.pn++pins,p.1≠b)
 (keep:∀b o,b≠X.env.locals->b∉X.fs->b∉ch->s.heap.get? b=some o->H b=none->h'.get? b=some o)
 (slot:∀b o,b≠X.env.locals->b∈X.fs->b∉ch->s.heap.get? b=some o->H b=none->∃sl,h'.get? b=some { o with slots:=sl }) (free:∀b o,b∉ch->s.heap.get? b=some o->H b=none->H' b=none)
 (there:∀b o,b∉ch->s.heap.get? b=some o->∃o',h'.get? b=some o')
 (tups:∀b xs,H b=some (.tup xs)->H' b=some (.tup xs)) (N1:∀b o u,H b=some (.W2 o u)->H' b=some (.W2 o u)) (V1:∀b ps,H b=some (.j5 ps)->∃more,H' b=some (.j5 (ps++more)))
 (ns:∀m,s.heap.Ns X.env.locals m->h'.Ns X.env.locals m) (hok:Z1 X.prog X.w H' h') (hg:AllBare g') :
 Inv X pins σ H' { s with heap:=h',gens:=g',drawn:=d',toks:=t' }:=by
 have t8:∀b o,X.s₀.heap.get? b=some o->b≠X.env.locals:=fun b o e=>Nat.ne_of_lt (Nat.lt_of_lt_of_le (Heap.lt_size e) I.ok.above)
 have p7:∀b o,X.s₀.heap.get? b=some o->b∉X.ex->b∉ch:=fun b o e hx hb=>by
  rcases(hch b hb).1 with z | z
  · exact hx z
  · exact absurd (Nat.lt_of_lt_of_le (Heap.lt_size e) z) (Nat.lt_irrefl _)
 have cellK:∀x c,X.env.cells.lookup x=some c->∀v,s.heap.IsCell c v->h'.IsCell c v:=fun x c e v zz=>by
  obtain⟨o,ho,hd⟩:=zz;have N5:c∉ch:=fun z=>(hch c z).2.2.1 x c e rfl
  by_cases hc:c∈X.fs
  · obtain⟨sl,q⟩:=slot c o (I.J4 x c e) hc N5 ho (I.D1 x c e);exact⟨_,q,hd⟩
  · exact⟨o,keep c o (I.J4 x c e) hc N5 ho (I.D1 x c e),hd⟩
 refine⟨I.ok,I.os,hg,⟨fun b o e n hb hx=>?_,fun b o e n hb hx=>?_,fun b o e n hx=>?_,fun b o e hx=>?_,fun b xs e=>tups b xs (I.base.tups b xs e),fun b o xs e=>N1 b o xs (I.base.N1 b o xs e),fun b ps e=>?_⟩,?_,fun x c e=>?_,?_,fun x c e=>?_,fun p hp=>?_,hok,I.len⟩
 · exact keep b o (t8 b o e) hb (p7 b o e hx) (I.base.keep b o e n hb hx) (I.base.free b o e n hx)
 · obtain⟨sl,e1⟩:=I.base.slot b o e n hb hx;obtain⟨sl',e2⟩:=slot b _ (t8 b o e) hb (p7 b o e hx) e1 (I.base.free b o e n hx);exact⟨sl',e2⟩
 · obtain⟨o',e1⟩:=I.base.there b o e hx;exact free b o' (p7 b o e hx) e1 (I.base.free b o e n hx)
 · obtain⟨o',e1⟩:=I.base.there b o e hx;exact there b o' (p7 b o e hx) e1
 · obtain⟨m1,e1⟩:=I.base.V1 b ps e;obtain⟨m2,e2⟩:=V1 b _ e1;exact⟨m1++m2,by rw[e2,Array.append_assoc]⟩
 · obtain⟨m,hn,hl⟩:=I.loc;refine⟨m,ns m hn,fun i x v e1 e2 e3=>?_⟩;obtain⟨u,r,l⟩:=hl i x v e1 e2 e3;refine⟨u,r,?_⟩;rcases l with l | ⟨k,c,e,z⟩
   · exact .inl l
   · exact .inr ⟨k,c,e,cellK x c e _ z⟩
 · obtain⟨v,z⟩:=I.cell x c e;exact⟨v,cellK x c e v z⟩
 · obtain⟨m,⟨o,_,_,ho,_⟩,_⟩:=I.loc;exact free _ o (fun z=>(hch _ z).2.1 rfl) ho I.free
 · obtain⟨v,o,ho,hd⟩:=I.cell x c e;exact free c o (fun z=>(hch c z).2.2.1 x c e rfl) ho (I.D1 x c e)
 · obtain⟨e,n,ne,nf,d⟩:=I.pin p hp;have N5:p.1∉ch:=fun z=>(hch p.1 z).2.2.2 p hp rfl
   exact⟨keep p.1 p.2 ne nf N5 e n,free p.1 p.2 N5 e n,ne,nf,d⟩
theorem Inv.un{t':Nat}(I:Inv X pins σ H s)(u:Un X.fs [] H H' s.heap h')(hok:Z1 X.prog X.w H' h'):Inv X pins σ H' { s with heap:=h',toks:=t' }:=by
 obtain⟨m,⟨o,es,ep,ho,r⟩,_⟩:=id I.loc;obtain⟨sl,hL⟩:=u.any ho I.free (by simp);exact I.step (g':=s.gens) (d':=s.drawn) (ch:=[]) (fun _ z=>nomatch z) (fun b o _ hb _ e n=>u.keep b o e n hb (by simp)) (fun b o _ hb _ e n=>u.slot b o e n hb (by simp)) (fun b o _ e n=>u.free b o e n (by simp)) (fun b o _ e=>u.there b o e (by simp)) u.tups u.N1 u.V1 (fun m' hm=>by
  obtain⟨o',es',ep',ho',r'⟩:=hm;rw[ho]at ho';cases ho';exact⟨_,es',ep',hL,r'⟩) hok I.bare
theorem Inv.call{g':Array GenState}{t':Nat}{d':Drawn}{ch:List Addr}(I:Inv X pins σ H s)(u:Un (LG X.stack) ch H H' s.heap h')(hok:Z1 X.prog X.w H' h')(hg:AllBare g')
 (hch:∀b∈ch,(b∈X.ex\/X.s₀.heap.objs.size<=b)/\b≠X.env.locals/\(∀x c,X.env.cells.lookup x=some c->c≠b)/\∀p∈X.pn++pins,p.1≠b) :
 Inv X pins σ H' { s with heap:=h',gens:=g',drawn:=d',toks:=t' }:=by
 obtain⟨m,⟨o,es,ep,ho,r⟩,_⟩:=id I.loc;obtain⟨sl,hL⟩:=u.any ho I.free fun z=>(hch _ z).2.1 rfl
 exact I.step (ch:=ch) hch (fun b o hL hb hc e n=>u.keep b o e n (fun z=>(mem_cons.mp (I.Z2 b z)).elim hL hb) hc) (fun b o _ _ hc e n=>u.any e n hc) (fun b o hc e n=>u.free b o e n hc) (fun b o hc e=>u.there b o e hc) u.tups u.N1 u.V1 (fun m' hm=>by
  obtain⟨o',es',ep',ho',r'⟩:=hm;rw[ho]at ho';cases ho';exact⟨_,es',ep',hL,r'⟩) hok hg
theorem Inv.turned{t':Nat}{it:Addr}(I:Inv X pins σ H s)(k:∀b o,b≠it->s.heap.get? b=some o->h'.get? b=some o)(hn:H it=none)(hL:it≠X.env.locals)
 (h1:it∈X.ex\/X.s₀.heap.objs.size<=it) (h2:∀x c,X.env.cells.lookup x=some c->c≠it) (h3:∀p∈X.pn++pins,p.1≠it):Inv X pins σ H { s with heap:=h',toks:=t' }:=by
 have v8:∀b u,H b=some u->b≠it:=fun b u e z=>by rw[z,hn]at e;cases e
 refine I.step (g':=s.gens) (d':=s.drawn) (ch:=[it]) (fun b hb=>?_) (fun b o _ _ hc e _=>k b o (fun z=>hc (by simp[z])) e) (fun b o _ _ hc e _=>⟨o.slots,k b o (fun z=>hc (by simp[z])) e⟩) (fun _ _ _ _ n=>n)
  (fun b o hc e=>⟨o,k b o (fun z=>hc (by simp[z])) e⟩) (fun _ _ e=>e) (fun _ _ _ e=>e) (fun b ps e=>⟨#[],by rw[e];simp⟩) (fun m hm=>?_) (fun b u e=>?_) I.bare
 · have e:b=it:=by simpa using hb
   subst e;exact⟨h1,hL,h2,h3⟩
 · obtain⟨o,es,ep,ho,r⟩:=hm;exact⟨o,es,ep,k _ o (Ne.symm hL) ho,r⟩
 · refine(I.hok b u e).stay (fun c v hc q=>k c v ?_ q) (fun _ q=>q) fun _ _ q=>q
   rcases hc with z | z
   · rw[z];exact v8 b u e
   · exact v8 c _ z
theorem Inv.tok(I:Inv X pins σ H s)(t:Nat):Inv X pins σ H { s with toks:=t }:=I.un (h':=s.heap) (t':=t) Un.refl I.hok
theorem Inv.kept{t':Nat}(I:Inv X pins σ H s)(k:∀b u,s.heap.get? b=some u->h'.get? b=some u):Inv X pins σ H { s with heap:=h',toks:=t' }:=I.un (Un.kept k) (I.hok.kept k)
theorem Inv.laid{a:Addr}{o:HO}{t':Nat}(I:Inv X pins σ H s)(k:∀b u,s.heap.get? b=some u->h'.get? b=some u)(hp:s.heap.objs.size<=a)(new:U0 X.prog X.w (FB H a o) h' a o) :
 Inv X pins σ (FB H a o) { s with heap:=h',toks:=t' }:=I.un (Un.laid k hp (I.hok.fresh hp)) (I.hok.laid k hp new)
theorem Inv.write{x e:Addr}{o:HO}{t':Nat}(I:Inv X pins σ H s)(mu:IQ (H x))(he:e=x\/H e=some (.own x))(k:∀b u,b≠e->s.heap.get? b=some u->h'.get? b=some u)(heo:∃u,h'.get? e=some u)
 (new:U0 X.prog X.w (FB H x o) h' x o):Inv X pins σ (FB H x o) { s with heap:=h',toks:=t' }:=I.un (Un.write mu he k heo) (I.hok.write mu he k heo new)
theorem Inv.A3{C4:List (Addr×Obj)}(I:Inv X pins σ H s)(h:∀p∈C4,s.heap.get? p.1=some p.2/\H p.1=none/\p.1≠X.env.locals/\p.1∉X.fs/\∀v,p.2.data≠.cell v):Inv X C4 σ H s:=
 ⟨I.ok,I.os,I.bare,I.base,I.loc,I.cell,I.free,I.D1,fun p hp=>(mem_append.mp hp).elim (fun z=>I.pin p (mem_append_left _ z)) (h p),I.hok,I.len⟩
theorem VO{N:List Str}(hN:N.Nodup){i j:Nat}{x:Str}(a:N[i]?=some x)(b:N[j]?=some x):i=j:=by obtain⟨h1,e1⟩:=aj a;obtain⟨h2,e2⟩:=aj b;exact(getElem_inj hN).mp (e1.trans e2.symm)
theorem gO{M:Model}{A:Around}{E:Value->Shared->Prop}{i:Nat}{x:Str}{v:V}{u:Value}{Q:Unit->Shared->Prop}(I:Inv X pins σ H s)(hN:X.N.Nodup)(hi:X.N[i]?=some x)(hx:LJ X.env.scope x)(r:RelV v u)
 (h:∀s',Inv X pins (σ.set i (some v)) H s'->(∃a,Heap.SameBut a s.heap s'.heap/\(a=X.env.locals\/X.env.cells.lookup x=some a))->Q () s') (hf:X.fn x=true\/X.env.scope.names.lookup x=some .local:=by first | exact .inl rfl | exact .inr rfl | assumption):wpAny M A (storeName X.env x u) Q E s:=by
 obtain⟨m,hn,hl⟩:=id I.loc;have hcls:(X.env.scope.kind==.class || (X.env.scope.kind==.module&&X.env.locals !=X.env.globals))=false:=by rw[I.ok.kind];rfl
 have i8:i<σ.length:=by rw[I.len];exact(aj hi).1
 have J4:=I.J4;have tracked:∀{a:Addr}{h':Heap},(∃o,s.heap.get? a=some o/\H a=none)->Heap.SameBut a s.heap h'->Z1 X.prog X.w H h':=fun {a h'} ha hs b ob e=>by
  obtain⟨_,_,hfree⟩:=ha;refine(I.hok b ob e).stay (fun c w' hc q=>(hs.2 c ?_).trans q) (fun _ q=>q) fun _ _ q=>q
  rintro rfl;rcases hc with rfl | hc
  · rw[hfree]at e;cases e
  · rw[hfree]at hc;cases hc
 rcases hx with hk | hk
 · refine wpAny_storeName_local hk hn (fun h' hn' hs=>?_) hcls;obtain⟨oL,_,_,hoL,_⟩:=id hn;refine h _ ⟨I.ok,I.os,I.bare,⟨fun b o e n hb hx=>?_,fun b o e n hb hx=>?_,I.base.free,fun b o e hx=>?_,I.base.tups,I.base.N1,I.base.V1⟩,⟨_,hn',fun j y v' e1 e2 e3=>?_⟩,fun y c e=>?_,I.free,I.D1,fun p hp=>?_,tracked ⟨oL,hoL,I.free⟩ hs,by simpa using I.len⟩ ⟨_,hs,.inl rfl⟩
   · exact(hs.2 b (Nat.ne_of_lt (Nat.lt_of_lt_of_le (Heap.lt_size e) I.ok.above))).trans (I.base.keep b o e n hb hx)
   · obtain⟨sl,e1⟩:=I.base.slot b o e n hb hx;exact⟨sl,(hs.2 b (Nat.ne_of_lt (Nat.lt_of_lt_of_le (Heap.lt_size e) I.ok.above))).trans e1⟩
   · obtain⟨o',e1⟩:=I.base.there b o e hx;exact⟨o',(hs.2 b (Nat.ne_of_lt (Nat.lt_of_lt_of_le (Heap.lt_size e) I.ok.above))).trans e1⟩
   · by_cases hj:j=i
     · subst hj;rw[hi]at e1;cases e1;rw[getElem?_set_self i8]at e2;cases e2;exact⟨u,r,.inl ⟨hk,by simp⟩⟩
     · rw[getElem?_set_ne (Ne.symm hj)]at e2;obtain⟨u',r',q⟩:=hl j y v' e1 e2 e3;refine⟨u',r',?_⟩;rcases q with⟨k,e⟩ | ⟨k,c,e,z⟩
       · refine .inl ⟨k,?_⟩;have:y≠x:=fun e=>hj (VO hN e1 (e ▸ hi))
         simp[this,e]
       · exact .inr ⟨k,c,e,z.sameBut hs (J4 y c e)⟩
   · obtain⟨w',z⟩:=I.cell y c e;exact⟨w',z.sameBut hs (J4 y c e)⟩
   · obtain⟨e,n,ne,nf,d⟩:=I.pin p hp;exact⟨(hs.2 p.1 ne).trans e,n,ne,nf,d⟩
 · have hfn:X.fn x=true:=by
    rcases hf with z | z
    · exact z
    · rw[z]at hk;cases hk
   obtain⟨c,hc⟩:=I.ok.has x (.inl hk);obtain⟨w',z⟩:=I.cell x c hc;refine wpAny_storeName_cell I.ok.kind hk hc z (fun h' hc' hs=>?_);obtain⟨oc,hoc,G7⟩:=id z;refine h { s with heap:=h' } ⟨I.ok,I.os,I.bare,⟨fun b o e n hb hx=>?_,fun b o e n hb hx=>?_,I.base.free,fun b o e hx=>?_,I.base.tups,I.base.N1,I.base.V1⟩,⟨m,hn.sameBut hs (Ne.symm (J4 x c hc)),fun j y v' e1 e2 e3=>?_⟩,fun y c' e=>?_,I.free,I.D1,fun p hp=>?_,tracked ⟨oc,hoc,I.D1 x c hc⟩ hs,by simpa using I.len⟩ ⟨c,hs,.inr hc⟩
   · exact(hs.2 b (Nat.ne_of_lt (Nat.lt_of_lt_of_le (Heap.lt_size e) (I.ok.cab x c hfn hc)))).trans (I.base.keep b o e n hb hx)
   · obtain⟨sl,e1⟩:=I.base.slot b o e n hb hx;exact⟨sl,(hs.2 b (Nat.ne_of_lt (Nat.lt_of_lt_of_le (Heap.lt_size e) (I.ok.cab x c hfn hc)))).trans e1⟩
   · obtain⟨o',e1⟩:=I.base.there b o e hx;exact⟨o',(hs.2 b (Nat.ne_of_lt (Nat.lt_of_lt_of_le (Heap.lt_size e) (I.ok.cab x c hfn hc)))).trans e1⟩
   · by_cases hj:j=i
     · subst hj;rw[hi]at e1;cases e1;rw[getElem?_set_self i8]at e2;cases e2;exact⟨u,r,.inr ⟨.inl hk,c,hc,hc'⟩⟩
     · rw[getElem?_set_ne (Ne.symm hj)]at e2;obtain⟨u',r',q⟩:=hl j y v' e1 e2 e3;refine⟨u',r',?_⟩;rcases q with q | ⟨k,c',e,z'⟩
       · exact .inl q
       · refine .inr ⟨k,c',e,z'.sameBut hs ?_⟩;rintro rfl;exact hj (VO hN e1 (I.ok.inj _ _ _ e hc ▸ hi))
   · by_cases hcc:c'=c
     · subst hcc;exact⟨_,hc'⟩
     · obtain⟨w2,z2⟩:=I.cell y c' e;exact⟨w2,z2.sameBut hs hcc⟩
   · obtain⟨e,n,ne,nf,d⟩:=I.pin p hp;refine⟨(hs.2 p.1 ?_).trans e,n,ne,nf,d⟩;intro q;rw[q,hoc]at e;have q':oc=p.2:=Option.some.inj e;exact d w' (by rw[<- q'];exact G7)
theorem GO{M:Model}{A:Around}{E:Value->Shared->Prop}{i:Nat}{x:Str}{v:V}{u:Value}{Q:Unit->Shared->Prop}(I:Inv X pins σ H s)(hN:X.N.Nodup)(hi:X.N[i]?=some x)(hx:LJ X.env.scope x)(r:RelV v u)
 (h:∀s',Inv X pins (σ.set i (some v)) H s'->Q () s') (hf:X.fn x=true\/X.env.scope.names.lookup x=some .local:=by first | exact .inl rfl | exact .inr rfl | assumption):wpAny M A (storeName X.env x u) Q E s:=
 gO I hN hi hx r (fun s' I' _=>h s' I') hf
theorem Inv.call'{s':Shared}{ch:List Addr}(I:Inv X pins σ H s)(ho:s'.os=s.os)(u:Un (LG X.stack) ch H H' s.heap s'.heap)(hok:Z1 X.prog X.w H' s'.heap)(hg:AllBare s'.gens)
 (hch:∀b∈ch,(b∈X.ex\/X.s₀.heap.objs.size<=b)/\b≠X.env.locals/\(∀x c,X.env.cells.lookup x=some c->c≠b)/\∀p∈X.pn++pins,p.1≠b):Inv X pins σ H' s':=by
 obtain⟨h',g',d',t',o'⟩:=s';have e:o'=s.os:=ho;subst e;exact I.call (g':=g') (t':=t') (d':=d') u hok hg hch
end
abbrev XK:=Value->Option Addr->Hp->Prop
noncomputable abbrev St:=List (Option V)
abbrev VK:=V->Hp->Prop
abbrev TE:=St->Hp->VK->Prop
abbrev TT:=St->Hp->(Bool->Hp->Prop)->Prop
abbrev TA:=St->Hp->(List V->Hp->Prop)->Prop
structure xF where
 nx:St->Hp->Prop
 rt:VK
 bk:St->Hp->Prop:=fun _ _=>False
 ct:St->Hp->Prop:=fun _ _=>False
abbrev TS:=xF->St->Hp->Prop
def EP(X:Cx)(pins:List (Addr×Obj))(σ:St)(Q:VK)(u:Value)(s':Shared):Prop:=∃v H',Inv X pins σ H' s'/\RelV v u/\Q v H'
noncomputable def TP(X:Cx)(pins:List (Addr×Obj))(σ:St)(Q:Bool->Hp->Prop)(b:Bool)(s':Shared):Prop:=∃H',Inv X pins σ H' s'/\Q b H'
def AP(X:Cx)(pins:List (Addr×Obj))(σ:St)(Q:List V->Hp->Prop)(us:List Value)(s':Shared):Prop:=∃vs H',Inv X pins σ H' s'/\Vals vs us/\Q vs H'
def SP(X:Cx)(pins:List (Addr×Obj))(D:xF)(f:Flow)(s':Shared):Prop:=
 match f with
 | .next=>∃σ' H',Inv X pins σ' H' s'/\D.nx σ' H'
 | .brk=>∃σ' H',Inv X pins σ' H' s'/\D.bk σ' H'
 | .cont=>∃σ' H',Inv X pins σ' H' s'/\D.ct σ' H'
 | .ret u=>∃v σ' H',Inv X pins σ' H' s'/\RelV v u/\D.rt v H'
def PE(X:Cx)(e:Expr)(t:TE):Prop:=
 ∀(pins:List (Addr×Obj))(s:Shared)(σ:St)(H:Hp)(Q:VK),Inv X pins σ H s->t σ H Q->wpAny (model X.prog X.w) X.A (eval e X.env) (EP X pins σ Q) X.xe s
def PT(X:Cx)(e:Expr)(t:TT):Prop:=
 ∀(pins:List (Addr×Obj))(s:Shared)(σ:St)(H:Hp)(Q:Bool->Hp->Prop),Inv X pins σ H s->t σ H Q->wpAny (model X.prog X.w) X.A (isTrue e X.env (eval e X.env)) (TP X pins σ Q) X.xe s
def PW(X:Cx)(e:Expr)(t:TT):Prop:=
 ∀(whole:Sem Value)(pins:List (Addr×Obj))(s:Shared)(σ:St)(H:Hp)(Q:Bool->Hp->Prop),Inv X pins σ H s->t σ H Q->wpAny (model X.prog X.w) X.A (isTrue e X.env whole) (TP X pins σ Q) X.xe s
theorem PW.pt{X:Cx}{e:Expr}{t:TT}(h:PW X e t):PT X e t:=h _
def PA(X:Cx)(es:List Expr)(t:TA):Prop:=
 ∀(pos:Pos)(pins:List (Addr×Obj))(s:Shared)(σ:St)(H:Hp)(Q:List V->Hp->Prop),Inv X pins σ H s->t σ H Q->wpAny (model X.prog X.w) X.A (spliced (backTo pos (starEach es X.env))) (AP X pins σ Q) X.xe s
def PS(X:Cx)(st:Stmt)(t:TS):Prop:=
 ∀(pins:List (Addr×Obj))(s:Shared)(σ:St)(H:Hp)(D:xF),Inv X pins σ H s->t D σ H->wpAny (model X.prog X.w) X.A (exec st X.env) (SP X pins D) X.xe s
def N2(X:Cx)(st:List Stmt)(t:TS):Prop:=
 ∀(pins:List (Addr×Obj))(s:Shared)(σ:St)(H:Hp)(D:xF),Inv X pins σ H s->t D σ H->wpAny (model X.prog X.w) X.A (execs st X.env) (SP X pins D) X.xe s
theorem WA{α:Type}{t:Sem α}{Q Q':α->Shared->Prop}{M:Model}{A:Around}{E:Value->Shared->Prop}{s:Shared}(h:wpAny M A t Q E s)(hQ:∀a s,Q a s->Q' a s):wpAny M A t Q' E s:=wpAny_mono h hQ fun _ _ x=>x
section
variable{X:Cx}
theorem XZ{a b:Expr}{ta tb:TE}(ha:PE X a ta)(hb:PE X b tb){pins:List (Addr×Obj)}{s:Shared}{σ:St}{H:Hp}{R:V->V->Hp->Prop}(I:Inv X pins σ H s)(h:ta σ H fun x H1=>tb σ H1 fun y H2=>R x y H2)
 {α:Type} {Q:α->Shared->Prop} {f:Value->Value->Sem α}
 (hf:∀v u s2 x y H2,Inv X pins σ H2 s2->RelV x v->RelV y u->R x y H2->wpAny (model X.prog X.w) X.A (f v u) Q X.xe s2) :
 wpAny (model X.prog X.w) X.A (eval a X.env) (fun v s₁=>wpAny (model X.prog X.w) X.A (eval b X.env) (fun u s₂=>wpAny (model X.prog X.w) X.A (f v u) Q X.xe s₂) X.xe s₁) X.xe s:=by
 refine WA (ha pins s σ H _ I h) fun v s1 zz=>?_
 obtain⟨x,H1,I1,r1,q1⟩:=zz;refine WA (hb pins s1 σ H1 _ I1 q1) fun u s2 zz=>?_
 obtain⟨y,H2,I2,r2,q2⟩:=zz;exact hf v u s2 x y H2 I2 r1 r2 q2
noncomputable def zR(i:Nat):TE:=fun σ H Q=>∃v,σ[i]?=some (some v)/\Q v H
noncomputable def tC(v:V):TE:=fun _ H Q=>Q v H
theorem lX {i:Nat} {x:Str} {pos:Pos} (hN:X.N[i]?=some x) (hv:MQ X.env.scope x) (hd:(x==("__debug__" :Str))=false:=by decide) (hcd:(x==("__classdict__" :Str))=false:=by decide):PE X (.Name x pos) (zR i):=by
 intro pins s σ H Q I h;obtain⟨v,e,h⟩:=h;obtain⟨m,hn,hl⟩:=I.loc;obtain⟨u,r,l⟩:=hl i x v hN e hv;have fin:EP X pins σ Q u s:=⟨v,H,I,r,h⟩;rcases l with⟨hk,hm⟩ | ⟨hk,c,hc,hcell⟩
 · exact wpAny_Name (wpAny_loadName_local I.ok.kind hk hn hm fin) hd
 · rcases hk with hk | hk
   · exact wpAny_Name (wpAny_loadName_cell I.ok.kind hk hc hcell fin) hd
   · exact wpAny_Name (wpAny_loadName_free I.ok.kind hk hc hcell fin hcd) hd
theorem gQ{i j pos}:PE X (.Constant (.int i) j pos) (tC (.int i)):=fun _ _ _ H _ I h=>wpAny_Constant_int ⟨.int i,H,I.tok _,⟨_,rfl⟩,h⟩
theorem YX{b j pos}:PE X (.Constant (.bool b) j pos) (tC (.bl b)):=fun _ _ _ H _ I h=>Constant_bool ⟨.bl b,H,I,rfl,h⟩
theorem gX{j pos}:PE X (.Constant .none j pos) (tC .non):=fun _ _ _ H _ I h=>Constant_none ⟨.non,H,I,rfl,h⟩
theorem jX{x j pos}:PE X (.Constant (.str x) j pos) (tC (.str x)):=fun _ _ _ H _ I h=>Calls.Constant_str ⟨.str x,H,I.tok _,⟨_,rfl⟩,h⟩
noncomputable def Gl(X:Cx)(x:Str):Prop:=X.env.kindOf x=some .globalImplicit
theorem mM{E:Value->Shared->Prop}{pins:List (Addr×Obj)}{s:Shared}{σ:St}{H:Hp}{x:Str}{u:Value}{pos:Pos}{Q:Value->Shared->Prop}(I:Inv X pins σ H s)(hg:Gl X x)(hm:X.mg x=some u)(h:Q u s)
 (hd:(x==("__debug__" :Str))=false:=by decide):wpAny (model X.prog X.w) X.A (eval (.Name x pos) X.env) Q E s:=
 Calls.Name_function_global I.ok.kind hg (Calls.loadGlobal_global (by rw[I.ok.glob];exact I.mod.glob.keeps I.bk) hm h) hd
theorem yG{E:Value->Shared->Prop}{pins:List (Addr×Obj)}{s:Shared}{σ:St}{H:Hp}{x:Str}{u:Value}{pos:Pos}{Q:Value->Shared->Prop}(I:Inv X pins σ H s)(hg:Gl X x)(hm:X.mg x=none)(hv:bootBuiltins x=some u)(h:Q u s)
 (hn:x ≠ "__name__" :=by decide) (hd:(x==("__debug__" :Str))=false:=by decide):wpAny (model X.prog X.w) X.A (eval (.Name x pos) X.env) Q E s:=by
 obtain⟨mb,h1,h2⟩:=I.mod.blt;exact Calls.Name_function_global I.ok.kind hg (Calls.loadGlobal_builtin (by rw[I.ok.glob];exact I.mod.glob.keeps I.bk) hm (by rw[I.ok.blt];exact h1.keeps I.bk) ((h2 x hn).trans hv) h) hd
theorem MW {x:Str} {v:V} {u:Value} {pos:Pos} (hg:Gl X x) (hm:X.mg x=some u) (r:RelV v u) (hd:(x==("__debug__" :Str))=false:=by decide):PE X (.Name x pos) (tC v):=
 fun _ _ _ H _ I h=>mM I hg hm ⟨v,H,I,r,h⟩ hd
theorem IW {x:Str} {v:V} {u:Value} {pos:Pos} (hg:Gl X x) (hm:X.mg x=none) (hv:bootBuiltins x=some u) (r:RelV v u) (hn:x ≠ "__name__" :=by decide) (hd:(x==("__debug__" :Str))=false:=by decide):PE X (.Name x pos) (tC v):=
 fun _ _ _ H _ I h=>yG I hg hm hv ⟨v,H,I,r,h⟩ hn hd
variable{a b:Expr}{ta tb:TE}{pos:Pos}
def PC(X:Cx)(op:CmpOp)(a b:Expr)(t:TE):Prop:=
 ∀(pins:List (Addr×Obj))(s:Shared)(σ:St)(H:Hp)(Q:VK),Inv X pins σ H s->t σ H Q->
  wpAny (model X.prog X.w) X.A (eval a X.env) (fun v s₁=>wpAny (model X.prog X.w) X.A (eval b X.env) (fun u s₂=>wpAny (model X.prog X.w) X.A (compareOp op v u) (EP X pins σ Q) X.xe s₂) X.xe s₁) X.xe s
theorem nV(b:Expr){op:CmpOp}(h:op≠.In)(h2:op≠.NotIn):behindInMarks op b=false:=by
 have e1:(op==CmpOp.In)=false:=by cases op<;>first | rfl | exact absurd rfl h
 have e2:(op==CmpOp.NotIn)=false:=by cases op<;>first | rfl | exact absurd rfl h2
 cases b<;>simp[behindInMarks,e1,e2]
noncomputable def tB(t:TE):TT:=fun σ H Q=>t σ H fun x H1=>∃c,x=.bl c/\Q c H1
theorem zZ{op:CmpOp}{t:TE}(h:PC X op a b t)(h1:behindInMarks op b=false:=by first | exact nV _ (by decide) (by decide) | rfl):PT X (.Compare a [op] [b] pos) (tB t):=by intro pins s σ H Q I hw;refine wpAny_isTrue_Compare1 (WA (h pins s σ H _ I hw) fun v s1 h1=>WA h1 fun u s2 h2=>WA h2 fun c s3 zz=>?_) h1;obtain⟨x,H1,I1,r1,q1⟩:=zz;obtain⟨d,rfl,q⟩:=q1;cases r1;exact wpAny_truthy_bool ⟨H1,I1,q⟩
theorem sX{e:Expr}{t:TE}(h:PE X e t)(he:∀whole,isTrue e X.env whole=(do let v <- whole;standAt e.pos;holding [v] (truthy v)):=by intro _;rfl):PT X e (tB t):=by intro pins s σ H Q I hw;refine isTrue_plain (WA (h pins s σ H _ I hw) fun v s1 zz=>?_) (he _);obtain⟨x,H1,I1,r1,q1⟩:=zz;obtain⟨d,rfl,q⟩:=q1;cases r1;exact wpAny_truthy_bool ⟨H1,I1,q⟩
variable{tA D0:TT}{rest:List Expr}
noncomputable def qR(t u:TT):TT:=fun σ H Q=>t σ H fun c H1=>if c=true then u σ H1 Q else Q false H1
noncomputable def rZ(t u:TT):TT:=fun σ H Q=>t σ H fun c H1=>if c=true then Q true H1 else u σ H1 Q
noncomputable def uR(t:TT):TT:=fun σ H Q=>t σ H fun c H1=>Q (!c) H1
theorem ZV(ha:PT X a tA):PW X (.BoolOp .And [a] pos) tA:=by
 intro wh pins s σ H Q I h;refine isTrue_and (WA (ha pins s σ H Q I h) fun c s1 e=>?_);cases c with
 | true=>exact isTrue_and_nil e
 | false=>exact e
theorem uX(ha:PT X a tA):PW X (.BoolOp .Or [a] pos) tA:=by
 intro wh pins s σ H Q I h;refine isTrue_or (WA (ha pins s σ H Q I h) fun c s1 e=>?_);cases c with
 | false=>exact isTrue_or_nil e
 | true=>exact e
theorem tX(ha:PT X a tA)(hb:PW X (.BoolOp .And (b::rest) pos) D0):PW X (.BoolOp .And (a::b::rest) pos) (qR tA D0):=by
 intro wh pins s σ H Q I h;refine isTrue_and (WA (ha pins s σ H _ I h) fun c s1 zz=>?_);obtain⟨H1,I1,q1⟩:=zz;cases c with
 | true=>exact hb wh pins s1 σ H1 Q I1 q1
 | false=>exact⟨H1,I1,q1⟩
theorem eY(ha:PT X a tA)(hb:PW X (.BoolOp .Or (b::rest) pos) D0):PW X (.BoolOp .Or (a::b::rest) pos) (rZ tA D0):=by
 intro wh pins s σ H Q I h;refine isTrue_or (WA (ha pins s σ H _ I h) fun c s1 zz=>?_);obtain⟨H1,I1,q1⟩:=zz;cases c with
 | true=>exact⟨H1,I1,q1⟩
 | false=>exact hb wh pins s1 σ H1 Q I1 q1
theorem rX(ha:PT X a tA):PT X (.UnaryOp .Not a pos) (uR tA):=by intro pins s σ H Q I h;exact isTrue_not (ha pins s σ H (fun c H1=>Q (!c) H1) I h)
noncomputable def kY(ta tb:TE):TE:=fun σ H Q=>ta σ H fun x H1=>∃c,x=.bl c/\if c=true then tb σ H1 Q else Q (.bl false) H1
noncomputable def vR(ta tb:TE):TE:=fun σ H Q=>ta σ H fun x H1=>∃c,x=.bl c/\if c=true then Q (.bl true) H1 else tb σ H1 Q
noncomputable def oY(ta:TE):TE:=fun σ H Q=>ta σ H fun x H1=>∃c,x=.bl c/\Q (.bl (!c)) H1
theorem iX{op}{t:TE}(h:PE X a t):PE X (.BoolOp op [a] pos) t:=fun pins s σ H Q I hw=>BoolOp_one (h pins s σ H Q I hw)
theorem fX(ha:PE X a ta)(hb:PE X (.BoolOp .And (b::rest) pos) tb):PE X (.BoolOp .And (a::b::rest) pos) (kY ta tb):=by
 intro pins s σ H Q I h;refine BoolOp_and (WA (ha pins s σ H _ I h) fun v s1 zz=>?_);obtain⟨x,H1,I1,r1,q1⟩:=zz;obtain⟨c,rfl,q1⟩:=q1;cases r1;refine wpAny_truthy_bool ?_;cases c with
 | true=>exact hb pins s1 σ H1 Q I1 q1
 | false=>exact⟨.bl false,H1,I1,rfl,q1⟩
theorem bY(ha:PE X a ta)(hb:PE X (.BoolOp .Or (b::rest) pos) tb):PE X (.BoolOp .Or (a::b::rest) pos) (vR ta tb):=by
 intro pins s σ H Q I h;refine BoolOp_or (WA (ha pins s σ H _ I h) fun v s1 zz=>?_);obtain⟨x,H1,I1,r1,q1⟩:=zz;obtain⟨c,rfl,q1⟩:=q1;cases r1;refine wpAny_truthy_bool ?_;cases c with
 | false=>exact hb pins s1 σ H1 Q I1 q1
 | true=>exact⟨.bl true,H1,I1,rfl,q1⟩
theorem hX(ha:PE X a ta):PE X (.UnaryOp .Not a pos) (oY ta):=by intro pins s σ H Q I h;refine UnaryOp_ (WA (ha pins s σ H _ I h) fun v s1 zz=>?_);obtain⟨x,H1,I1,r1,q1⟩:=zz;obtain⟨c,rfl,q1⟩:=q1;cases r1;exact not_of (wpAny_truthy_bool ⟨.bl (!c),H1,I1,rfl,q1⟩)
noncomputable def oZ(t:TT)(ta tb:TE):TE:=fun σ H Q=>t σ H fun c H1=>if c=true then ta σ H1 Q else tb σ H1 Q
theorem sV{c:Expr}(hc:PT X c tA)(ha:PE X a ta)(hb:PE X b tb):PE X (.IfExp c a b pos) (oZ tA ta tb):=by
 intro pins s σ H Q I h;refine wpAny_IfExp (WA (hc pins s σ H _ I h) fun d s1 zz=>?_);obtain⟨H1,I1,q1⟩:=zz;cases d with
 | true=>exact ha pins s1 σ H1 Q I1 q1
 | false=>exact hb pins s1 σ H1 Q I1 q1
end
def Y0(K:Frag)(H:Hp)(a:Addr)(xs:List V):Prop:=
 Rd H a (.lst xs)\/
  ∃(o:Obj) (its:Array Value) (n:Nat),K.lookup a=some o/\o.cls=.type "list" /\ o.dict=none/\o.data=.seq its n/\its.size<=sizeLine/\Vals xs its.toList
def HG(K:Frag)(H:Hp)(a:Addr)(xs:List V):Prop:=
 Rd H a (.tup xs)\/
  ∃(o:Obj) (its:Array Value) (n:Nat),K.lookup a=some o/\o.cls=.type "tuple" /\ o.data=.seq its n/\its.size<=sizeLine/\Vals xs its.toList
noncomputable def VQ:Value->Option V
 | .none=>some .non
 | .bool b=>some (.bl b)
 | .int i _=>some (.int i)
 | .str x _=>some (.str x)
 | .bytes b _=>some (.J3 b)
 | .float b _=>some (.flt b)
 | .ref a=>some (.ref a)
 | .type n=>some (.ty n)
 | _=>none
theorem RelV.abs{x:V}{u:Value}(r:RelV x u):VQ u=some x:=by
 cases x with
 | non=>cases r;rfl
 | bl _=>cases r;rfl
 | int _=>obtain⟨t,rfl⟩:=r;rfl
 | str _=>obtain⟨t,rfl⟩:=r;rfl
 | J3 _=>obtain⟨t,rfl⟩:=r;rfl
 | flt _=>obtain⟨t,rfl⟩:=r;rfl
 | ref _=>cases r;rfl
 | ty _=>cases r;rfl
theorem RelV.inj{x y:V}{u:Value}(r:RelV x u)(q:RelV y u):x=y:=Option.some.inj (r.abs.symm.trans q.abs)
theorem Vals.inj:∀{xs ys:List V}{us:List Value},Vals xs us->Vals ys us->xs=ys
 | _,_,_,.nil,.nil=>rfl
 | _,_,_,.cons r t,.cons r' t'=>by rw[r.inj r',Vals.inj t t']
section
variable{X:Cx}{pins:List (Addr×Obj)}{σ:St}{H:Hp}{s:Shared}{a:Addr}{xs ys:List V}
theorem Y0.of{K:Frag}(h:H a=some (.lst xs)):Y0 K H a xs:=.inl (.inl h)
theorem Inv.list(I:Inv X pins σ H s)(h:Y0 X.K H a xs):∃its:List Value,Vals xs its/\PlainL s.heap a its.toArray/\xs.length<=sizeLine:=by
 rcases h with h | ⟨o,its,n,hk,hc,hd,hs,hz,r⟩
 · obtain⟨z,its,n,r,e⟩:=h.ok I.hok;exact⟨its,r,⟨_,n,e,rfl,rfl,rfl⟩,z⟩
 · refine⟨its.toList,r,⟨o,n,I.D3 a o hk,hc,hd,by simpa using hs⟩,?_⟩;have e:=r.length;simp only[Array.length_toList]at e;omega
theorem Inv.tuple(I:Inv X pins σ H s)(h:HG X.K H a xs):∃its:List Value,Vals xs its/\IsTup s.heap a its.toArray/\xs.length<=sizeLine:=by
 rcases h with h | ⟨o,its,n,hk,hc,hs,hz,r⟩
 · obtain⟨z,its,r,p⟩:=h.ok I.hok;exact⟨its,r,p,z⟩
 · refine⟨its.toList,r,⟨o,I.D3 a o hk,hc,n,by simpa using hs⟩,?_⟩;have e:=r.length;simp only[Array.length_toList]at e;omega
theorem Inv.B2(I:Inv X pins σ H s)(h:Y0 X.K H a xs)(h':Y0 X.K H a ys):xs=ys:=by
 obtain⟨its,r,⟨o,n,e,_,_,d⟩,_⟩:=I.list h;obtain⟨its',r',⟨o',n',e',_,_,d'⟩,_⟩:=I.list h';rw[e]at e';cases e';rw[d]at d';injection d' with d1 _
 have:its=its':=by simpa using congrArg Array.toList d1
 subst this;exact r.inj r'
theorem Inv.G3(I:Inv X pins σ H s)(h:HG X.K H a xs)(h':HG X.K H a ys):xs=ys:=by
 obtain⟨its,r,⟨o,e,_,n,d⟩,_⟩:=I.tuple h;obtain⟨its',r',⟨o',e',_,n',d'⟩,_⟩:=I.tuple h';rw[e]at e';cases e';rw[d]at d';injection d' with d1 _
 have:its=its':=by simpa using congrArg Array.toList d1
 subst this;exact r.inj r'
end
noncomputable abbrev Cx.wish(X:Cx)(E:Value->Shared->Prop):Cx:={ X with xe:=E }
abbrev Cx.W4(X:Cx):Cx:=X.wish fun _ _=>False
theorem Cx.Ok.wish{X:Cx}(ok:X.Ok)(E:Value->Shared->Prop):(X.wish E).Ok:=
 ⟨ok.mod,ok.kind,ok.glob,ok.blt,ok.above,ok.inj,ok.has,ok.cab,ok.hd,ok.frames,ok.stk,ok.k7,ok.bs,ok.F4,ok.Q3,ok.O3,ok.A2,ok.B5⟩
theorem Cx.Ok.A1{X:Cx}{E:Value->Shared->Prop}(ok:(X.wish E).Ok):X.Ok:=
 ⟨ok.mod,ok.kind,ok.glob,ok.blt,ok.above,ok.inj,ok.has,ok.cab,ok.hd,ok.frames,ok.stk,ok.k7,ok.bs,ok.F4,ok.Q3,ok.O3,ok.A2,ok.B5⟩
section
variable{X:Cx}{pins:List (Addr×Obj)}{σ:St}{H:Hp}{s:Shared}{E:Value->Shared->Prop}
theorem Inv.wish(I:Inv X pins σ H s)(E:Value->Shared->Prop):Inv (X.wish E) pins σ H s:=⟨I.ok.wish E,I.os,I.bare,I.base,I.loc,I.cell,I.free,I.D1,I.pin,I.hok,I.len⟩
theorem Inv.A1(I:Inv (X.wish E) pins σ H s):Inv X pins σ H s:=⟨I.ok.A1,I.os,I.bare,I.base,I.loc,I.cell,I.free,I.D1,I.pin,I.hok,I.len⟩
theorem SP.A1{D:xF}{f:Flow}{s':Shared}(h:SP (X.wish E) pins D f s'):SP X pins D f s':=by
 cases f with
 | next=>obtain⟨σ',H',I,q⟩:=h;exact⟨σ',H',I.A1,q⟩
 | brk=>obtain⟨σ',H',I,q⟩:=h;exact⟨σ',H',I.A1,q⟩
 | cont=>obtain⟨σ',H',I,q⟩:=h;exact⟨σ',H',I.A1,q⟩
 | ret u=>obtain⟨v,σ',H',I,r,q⟩:=h;exact⟨v,σ',H',I.A1,r,q⟩
theorem N2.W4{st:List Stmt}{t:TS}(h:N2 X.W4 st t):N2 X st t:=fun pins s σ H D I hw=>wpAny_mono (h pins s σ H D (I.wish _) hw) (fun _ _ q=>q.A1) fun _ _ z=>False.elim z
end
section
variable{X:Cx}{st:Stmt}{rest:List Stmt}{t u:TS}{e:Expr}{te:TE}{pos:Pos}
noncomputable def nY:TS:=fun D σ H=>D.nx σ H
noncomputable def xR(t u:TS):TS:=fun D σ H=>t { D with nx:=u D } σ H
theorem UV:N2 X [] nY:=fun _ _ σ H _ I h=>wpAny_execs_nil ⟨σ,H,I,h⟩
theorem yV(h1:PS X st t)(h2:N2 X rest u):N2 X (st::rest) (xR t u):=by
 intro pins s σ H D I h;refine wpAny_execs_cons (WA (h1 pins s σ H { D with nx:=u D } I h) fun f s1 q=>?_);cases f with
 | next=>obtain⟨σ',H',I',q⟩:=q;exact h2 pins s1 σ' H' D I' q
 | ret v=>exact q
 | brk=>exact q
 | cont=>exact q
theorem VV(h1:PS X st t):N2 X [st] t:=by
 intro pins s σ H D I h;refine wpAny_execs_cons (WA (h1 pins s σ H D I h) fun f s1 q=>?_);cases f with
 | next=>exact wpAny_execs_nil q
 | ret v=>exact q
 | brk=>exact q
 | cont=>exact q
theorem Inv.quiet{pins:List (Addr×Obj)}{σ:St}{H:Hp}{s:Shared}(I:Inv X pins σ H s):interactive X.env=false:=by simp[interactive,I.ok.kind]
noncomputable def mY(te:TE):TS:=fun D σ H=>te σ H fun _ H1=>D.nx σ H1
theorem TV(he:PE X e te)(hs:swapsWith e none pos.line X.env=pure false:=by rfl):PS X (.Expr e pos) (mY te):=by intro pins s σ H D I h;exact wpAny_Expr_any (WA (he pins s σ H _ I h) fun v s1 ⟨x,H1,I1,r1,q1⟩=>⟨σ,H1,I1,q1⟩) I.quiet hs
noncomputable def wR(te:TE):TS:=fun D σ H=>te σ H D.rt
theorem pX(he:PE X e te):PS X (.Return (some e) pos) (wR te):=by intro pins s σ H D I h;exact wpAny_Return_some (WA (he pins s σ H _ I h) fun v s1 ⟨x,H1,I1,r1,q1⟩=>⟨x,σ,H1,I1,r1,q1⟩)
noncomputable def sR(c:TT)(t u:TS):TS:=fun D σ H=>c σ H fun b H1=>if b=true then t D σ H1 else u D σ H1
theorem dY{c:Expr}{a b:List Stmt}{tc:TT}(hc:PT X c tc)(ha:N2 X a t)(hb:N2 X b u):PS X (.If c a b pos) (sR tc t u):=by
 intro pins s σ H D I h;refine wpAny_If (WA (hc pins s σ H _ I h) fun d s1 zz=>?_);obtain⟨H1,I1,q1⟩:=zz;cases d with
 | true=>exact ha pins s1 σ H1 D I1 q1
 | false=>exact hb pins s1 σ H1 D I1 q1
noncomputable def wX:TS:=fun _ _ _=>False
theorem xV:PS X st wX:=fun _ _ _ _ _ _ h=>h.elim
end
abbrev TG:=V->St->Hp->(St->Hp->Prop)->Prop
abbrev PJ:=List V->St->Hp->(St->Hp->Prop)->Prop
def PG(X:Cx)(target:Expr)(t:TG):Prop:=
 ∀(pins:List (Addr×Obj))(s:Shared)(σ:St)(H:Hp)(v:V)(u:Value)(Q:St->Hp->Prop),Inv X pins σ H s->RelV v u->t v σ H Q->
  wpAny (model X.prog X.w) X.A (assign target X.env u) (fun _ s'=>∃σ' H',Inv X pins σ' H' s'/\Q σ' H') X.xe s
def LQ(X:Cx)(ts:List Expr)(t:PJ):Prop:=
 ∀(pins:List (Addr×Obj))(s:Shared)(σ:St)(H:Hp)(vs:List V)(us:List Value)(Q:St->Hp->Prop),Inv X pins σ H s->Vals vs us->t vs σ H Q->
  wpAny (model X.prog X.w) X.A (assignInOrder ((assignEach ts X.env).map (·.2)) us) (fun _ s'=>∃σ' H',Inv X pins σ' H' s'/\Q σ' H') X.xe s
abbrev QJ:=V->V->V->Hp->(Hp->Prop)->Prop
def pN(X:Cx)(t:QJ):Prop:=
 ∀(pins:List (Addr×Obj))(s:Shared)(σ:St)(H:Hp)(o i v:V)(ov iv u:Value)(Q:Hp->Prop),Inv X pins σ H s->RelV o ov->RelV i iv->RelV v u->t o i v H Q->
  wpAny (model X.prog X.w) X.A (setItem ov iv u) (fun _ s'=>∃H',Inv X pins σ H' s'/\Q H') X.xe s
section
variable{X:Cx}{pos:Pos}
noncomputable def GJ(i:Nat):TG:=fun v σ H Q=>Q (σ.set i (some v)) H
theorem pM{i:Nat}{x:Str}(hN:X.N.Nodup)(hi:X.N[i]?=some x)(hx:LJ X.env.scope x)(hf:X.fn x=true\/X.env.scope.names.lookup x=some .local:=by first | exact .inl rfl | exact .inr rfl | assumption):PG X (.Name x pos) (GJ i):=by intro pins s σ H v u Q I r h;exact wpAny_assign_Name (GO I hN hi hx r (fun s' I'=>⟨_,H,I',h⟩) hf)
noncomputable def aR:PJ:=fun vs σ H Q=>vs=[]/\Q σ H
noncomputable def xY(t:TG)(u:PJ):PJ:=fun vs σ H Q=>∃v r,vs=v::r/\t v σ H fun σ' H'=>u r σ' H' Q
theorem NW:LQ X [] aR:=by intro pins s σ H vs us Q I r h;obtain⟨e,h⟩:=h;subst e;cases r;exact assignInOrder_nil ⟨σ,H,I,h⟩
theorem BO{e:Expr}{es:List Expr}{t:TG}{u:PJ}(h1:PG X e t)(h2:LQ X es u)
 (hs:(assignEach (e::es) X.env).map (·.2)=assign e X.env::(assignEach es X.env).map (·.2):=by rfl):LQ X (e::es) (xY t u):=by
 intro pins s σ H vs us Q I r h;obtain⟨v,vr,e1,h⟩:=h;subst e1;cases r with
 | cons r rr=>rw[hs];refine assignInOrder_cons (WA (h1 pins s σ H _ _ _ I r h) fun _ s1 zz=>?_);obtain⟨σ1,H1,I1,q1⟩:=zz;exact h2 pins s1 σ1 H1 _ _ Q I1 rr q1
def cR(K:Frag)(n:Nat)(t:PJ):TG:=fun v σ H Q=>∃a xs,v=.ref a/\HG K H a xs/\xs.length=n/\t xs σ H Q
theorem nX{es:List Expr}{k:Nat}{t:PJ}{n:Nat}(hc:X.calm=true)(h:LQ X es t)
 (hn:(assignEach es X.env).length=n:=by rfl) (hst:(assignEach es X.env).findIdx? (·.1)=none:=by rfl):PG X (.Tuple es k pos) (cR X.K n t):=by
 intro pins s σ H v u Q I r hw;obtain⟨a,xs,e1,hq,hl,hw⟩:=hw;subst e1;cases r;obtain⟨its,rv,ht,hz⟩:=I.tuple hq;refine assign_Tuple_tuple (I.ok.hd hc) ht (by simp[hn,<- hl,rv.length]) hst fun h' hx=>?_
 have I1:Inv X pins σ H { s with heap:=h' }:=I.kept (t':=s.toks) fun b o e=>hx b o (Nat.ne_of_lt (Heap.lt_size e)) e
 exact h pins _ σ H xs _ Q I1 (by simpa using rv) hw
noncomputable def bR(to ti:TE)(t:QJ):TG:=fun v σ H Q=>to σ H fun o H1=>ti σ H1 fun i H2=>t o i v H2 fun H3=>Q σ H3
theorem mX{o i:Expr}{to ti:TE}{t:QJ}(ho:PE X o to)(hi:PE X i ti)(hs:pN X t)
 (ha:∀v,assign (.Subscript o i pos) X.env v=(do
  let ov <- holding [v] (eval o X.env)
  let iv <- holding [v,ov] (eval i X.env)
  standAt pos
  holding [v,ov,iv] (setItem ov iv v)
  release [v,ov,iv] []):=by intro _;rfl):PG X (.Subscript o i pos) (bR to ti t):=by
 intro pins s σ H v u Q I r h;rw[ha];refine wpAny_bind (wpAny_holding (WA (ho pins s σ H _ I h) fun ov s1 zz=>?_));obtain⟨x,H1,I1,r1,q1⟩:=zz;refine wpAny_bind (wpAny_holding (WA (hi pins s1 σ H1 _ I1 q1) fun iv s2 zz=>?_));obtain⟨y,H2,I2,r2,q2⟩:=zz;refine wpAny_bind (wpAny_standAt (wpAny_bind (wpAny_holding (WA (hs pins s2 σ H2 x y v ov iv u _ I2 r1 r2 r q2) fun _ s3 zz=>?_))));obtain⟨H3,I3,q3⟩:=zz;exact wpAny_release ⟨σ,H3,I3,q3⟩
noncomputable def cK(te:TE)(g:TG):TS:=fun D σ H=>te σ H fun x H1=>g x σ H1 D.nx
theorem jQ{tg e:Expr}{te:TE}{g:TG}(he:PE X e te)(hg:PG X tg g)(hs:swapsWithSole [tg] e pos.line X.env=pure false:=by rfl)(hw:swappedStores [tg] e X.env=pure none:=by rfl)
 (h1:(assignEach [tg] X.env).map (·.2)=[assign tg X.env]:=by rfl):PS X (.Assign [tg] e pos) (cK te g):=by
 intro pins s σ H D I h;refine wpAny_Assign_stores (WA (he pins s σ H _ I h) fun v s1 zz=>?_) hs hw;obtain⟨x,H1,I1,r1,q1⟩:=zz;rw[h1];exact WA (hg pins s1 σ H1 x v _ I1 r1 q1) fun _ s2 q=>q
theorem qX{i:Nat}{x:Str}{e:Expr}{te:TE}{pos':Pos}(hN:X.N.Nodup)(hi:X.N[i]?=some x)(hx:LJ X.env.scope x)(he:PE X e te)(hs:swapsWith e (some (.Name x pos')) pos.line X.env=pure false:=by rfl)(hf:X.fn x=true\/X.env.scope.names.lookup x=some .local:=by first | exact .inl rfl | exact .inr rfl | assumption) :
 PS X (.Assign [.Name x pos'] e pos) (cK te (GJ i)):=by
 intro pins s σ H D I h;refine wpAny_Assign_Name (WA (he pins s σ H _ I h) fun v s1 zz=>?_) hs;obtain⟨y,H1,I1,r1,q1⟩:=zz;exact GO I1 hN hi hx r1 (fun s2 I2=>⟨_,H1,I2,q1⟩) hf
end
structure It where
 go:Nat->Hp->Prop
 C5:Nat->Hp->V->Hp->Prop
 stop:Nat->Hp->Prop
def zD(X:Cx)(pins:List (Addr×Obj))(H:Hp)(b:Addr):Prop:=
 H b=none/\b≠X.env.locals/\b∉X.fs/\(b∈X.ex\/X.s₀.heap.objs.size<=b)/\(∀x c,X.env.cells.lookup x=some c->c≠b)/\∀p∈X.pn++pins,p.1≠b
theorem Inv.P3{X:Cx}{pins:List (Addr×Obj)}{σ:St}{H H':Hp}{s:Shared}{b:Addr}(I:Inv X pins σ H s)(hb:s.heap.objs.size<=b)(hn:H' b=none):zD X pins H' b:=by
 refine⟨hn,Nat.ne_of_gt (Nat.lt_of_lt_of_le I.lt hb),I.N7 hb,.inr (Nat.le_trans I.sz hb),fun x c e z=>?_,fun p hp z=>?_⟩
 · obtain⟨v,q⟩:=I.cell x c e;exact absurd (Nat.lt_of_lt_of_le q.lt (by rw[z];exact hb)) (Nat.lt_irrefl _)
 · exact absurd (Nat.lt_of_lt_of_le (Heap.lt_size (I.pin p hp).1) (by rw[z];exact hb)) (Nat.lt_irrefl _)
structure XF(P:Program)(w:World)(K:Frag)(tg:Expr)(J:It)(fp:List Addr)(it:Addr)(tn:Nat->Heap->Prop):Prop where
 mem:it∈fp
 obj:∀i h,tn i h->∀b∈fp,∃o,h.get? b=some o/\∀v,o.data≠.cell v
 keep:∀i h h',tn i h->(∀b∈fp,∀o,h.get? b=some o->h'.get? b=some o)->tn i h'
 item:∀(X:Cx),X.prog=P->X.w=w->X.K=K->X.calm=true->∀(i:Nat)(pins:List (Addr×Obj))(s:Shared)(σ:St)(H:Hp)(E:Value->Shared->Prop),Inv X pins σ H s->(∀b∈fp,zD X pins H b)->tn i s.heap->J.go i H->
  wpAny (model P w) X.A (pyNext (.ref it)) (fun r s1=>∃u,r=some u/\
   wpAny (model P w) X.A (letOwnedTupleGo tg (.ref it) u) (fun _ s2=>∃x H',Inv X pins σ H' s2/\RelV x u/\J.C5 i H x H'/\tn (i+1) s2.heap/\∀b∈fp,H' b=none) E s1) E s
 done:∀(X:Cx),X.prog=P->X.w=w->X.K=K->X.calm=true->∀(i:Nat)(pins:List (Addr×Obj))(s:Shared)(σ:St)(H:Hp)(E:Value->Shared->Prop),Inv X pins σ H s->(∀b∈fp,zD X pins H b)->tn i s.heap->J.stop i H->
  wpAny (model P w) X.A (pyNext (.ref it)) (fun r s1=>r=none/\Inv X pins σ H s1) E s
 self:∀(A:Around)(i:Nat)(s:Shared)(Q:Value->Shared->Prop)(E:Value->Shared->Prop),tn i s.heap->Q (.ref it) s->wpAny (model P w) A (pyIter (.ref it)) Q E s
abbrev TI:=St->Hp->(It->Hp->Prop)->Prop
def ZY(X:Cx)(pins:List (Addr×Obj))(σ:St)(tg:Expr)(R:It->Hp->Prop)(itv:Value)(s2:Shared):Prop:=
 ∃(it:Addr)(fp:List Addr)(tn:Nat->Heap->Prop)(J:It)(H':Hp),itv=.ref it/\Inv X pins σ H' s2/\XF X.prog X.w X.K tg J fp it tn/\tn 0 s2.heap/\(∀b∈fp,zD X pins H' b)/\R J H'
def PI(X:Cx)(tg iter:Expr)(wi:TI):Prop:=
 ∀(pins:List (Addr×Obj))(s:Shared)(σ:St)(H:Hp)(R:It->Hp->Prop),Inv X pins σ H s->wi σ H R->
  wpAny (model X.prog X.w) X.A (eval iter X.env) (fun v s1=>wpAny (model X.prog X.w) X.A (pyIter v) (ZY X pins σ tg R) X.xe s1) X.xe s
theorem dN{M:Model}{A:Around}{E:Value->Shared->Prop}{s:Shared}{tg:Expr}{it:Addr}{u:Value}{o:Obj}{n:String}{vs:Array Value}{Q:Unit->Shared->Prop}(ho:s.heap.get? it=some o)(hc:o.cls=.type n)(hd:o.data=.fields vs)
 (hn:["enumerate", "zip", "dict_itemiterator", "dict_reverseitemiterator", "odict_iterator", "itertools.zip_longest", "itertools.pairwise"].contains n=false) (hQ:Q () s):wpAny M A (letOwnedTupleGo tg (.ref it) u) Q E s:=by
 unfold letOwnedTupleGo;cases tg<;>first
  | exact wpAny_pure hQ
  | (cases u<;>first
   | exact wpAny_pure hQ
   | (refine wpAny_bind (wpAny_load ho ?_);rw[hc,hd];show wpAny M A (if(["enumerate", "zip", "dict_itemiterator", "dict_reverseitemiterator", "odict_iterator", "itertools.zip_longest", "itertools.pairwise"].contains n&&vs[0]?==some (rawInt _))=true then _ else _) Q E s;rw[if_neg (by intro h;rw[hn,Bool.false_and]at h;cases h)];exact wpAny_pure hQ))
def XY(K:Frag)(a:Addr):It:=
 ⟨fun i H=>∃xs x,Y0 K H a xs/\xs[i]?=some x,fun i H x H'=>H'=H/\∀xs,Y0 K H a xs->xs[i]?=some x,fun i H=>∃xs,Y0 K H a xs/\xs.length<=i⟩
noncomputable def GQ(lo:Int)(n:Nat):It:=⟨fun i _=>i<n,fun i H x H'=>H'=H/\x=.int (lo+i),fun i _=>n<=i⟩
theorem UU{P:Program}{w:World}{K:Frag}{tg:Expr}(a it:Addr):XF P w K tg (XY K a) [it] it (fun i h=>h.IsListIter it a i) where
 mem:=by simp
 obj:=fun i h st b hb=>by
  have e:b=it:=by simpa using hb
  subst e;obtain⟨o,e,c,d⟩:=st;exact⟨o,e,fun v z=>by rw[d]at z;cases z⟩
 keep:=fun i h h' st k=>st.at fun o e=>k it (by simp) o e
 item:=by
  intro X hP hw hK hc i pins s σ H E I hf st hg;subst hP hw hK;obtain⟨xs,x,hq,hx⟩:=hg;obtain⟨its,rv,p,hz⟩:=I.list hq;obtain⟨u,hu,ru⟩:=rv.get hx;obtain⟨f0,f1,f2,f3,f4,f5⟩:=hf it (by simp);refine wpAny_pyNext_list_item st p.isList (x:=u) (by simpa using hu) fun h' st' sb=>?_
  have I1:Inv X pins σ H { s with heap:=h' }:=I.turned (t':=s.toks) (fun b o hb e=>(sb.2 b hb).trans e) f0 f1 f3 f4 f5;obtain⟨o,e,c,d⟩:=id st';exact⟨u,rfl,dN (s:={ s with heap:=h' }) e c d (by decide) ⟨x,H,I1,ru,⟨rfl,fun ys hy=>by rw[I.B2 hy hq];exact hx⟩,st',fun b hb=>(hf b hb).1⟩⟩
 done:=by intro X hP hw hK hc i pins s σ H E I hf st hg;subst hP hw hK;obtain⟨xs,hq,hx⟩:=hg;obtain⟨its,rv,p,hz⟩:=I.list hq;obtain⟨f0,f1,f2,f3,f4,f5⟩:=hf it (by simp);have hl:=rv.length;exact wpAny_pyNext_list_end (I.ok.hd hc) st p.isList (by simp;omega) fun h' eb=>⟨rfl,I.turned (t':=s.toks) (fun b o hb e=>eb b o hb e) f0 f1 f3 f4 f5⟩
 self:=fun _ _ _ _ _ st h=>wpAny_pyIter_listiter st h
theorem XT{P:Program}{w:World}{K:Frag}{tg:Expr}(it:Addr)(lo:Int)(n:Nat):XF P w K tg (GQ lo n) [it] it (fun i h=>IsRangeIter h it (lo+(i:Nat)*1) ((n:Int)-(i:Nat)) 1) where
 mem:=by simp
 obj:=fun i h st b hb=>by
  have e:b=it:=by simpa using hb
  subst e;exact⟨_,st,fun v z=>by
   have z':Data.fields _=Data.cell v:=z;cases z'⟩
 keep:=fun i h h' st k=>k it (by simp) _ st
 item:=by
  intro X hP hw hK hc i pins s σ H E I hf st hg;subst hP hw hK;obtain⟨f0,f1,f2,f3,f4,f5⟩:=hf it (by simp);have W:=Walks.range (prog:=X.prog) (w:=X.w) (I.ok.hd hc) it lo 1 n;refine W.item i s _ _ hg st fun v h' tk hv st' kk=>?_
  obtain⟨t,rfl⟩:=hv;have I1:Inv X pins σ H { s with heap:=h',toks:=tk }:=I.turned (fun b o hb e=>kk b o (by simpa using hb) e) f0 f1 f3 f4 f5;refine⟨_,rfl,dN (s:={ s with heap:=h',toks:=tk }) (n := "range_iterator") st' rfl rfl (by decide) ⟨.int (lo+i),H,I1,⟨t,?_⟩,⟨rfl,rfl⟩,st',fun b hb=>(hf b hb).1⟩⟩;rw[Int.mul_one]
 done:=by intro X hP hw hK hc i pins s σ H E I hf st hg;subst hP hw hK;obtain⟨f0,f1,f2,f3,f4,f5⟩:=hf it (by simp);exact wpAny_pyNext_range_end (I.ok.hd hc) st (by have:n<=i:=hg;omega) fun h' eb=>⟨rfl,I.turned (t':=s.toks) (fun b o hb e=>eb b o hb e) f0 f1 f3 f4 f5⟩
 self:=fun _ _ _ _ _ st h=>wpAny_pyIter_rangeiter st h
section
variable{X:Cx}{tg:Expr}
def BY(K:Frag)(tl:TE):TI:=fun σ H R=>tl σ H fun x H1=>∃a,x=.ref a/\(∃xs,Y0 K H1 a xs)/\R (XY K a) H1
theorem OW{l:Expr}{tl:TE}(hl:PE X l tl):PI X tg l (BY X.K tl):=by
 intro pins s σ H R I h;refine WA (hl pins s σ H _ I h) fun v s1 zz=>?_
 obtain⟨x,H1,I1,r1,q1⟩:=zz;obtain⟨a,e,⟨xs,hq⟩,q⟩:=q1;subst e;cases r1;obtain⟨its,rv,p,hz⟩:=I1.list hq;refine wpAny_pyIter_list p.isList ?_;refine⟨s1.heap.objs.size,[s1.heap.objs.size],_,_,H1,rfl,I1.kept (t':=s1.toks) fun b o e=>Heap.get?_push_of_some _ e,UU a _,⟨_,Heap.get?_push_size _ rfl,rfl,rfl⟩,fun b hb=>?_,q⟩;have e:b=s1.heap.objs.size:=by simpa using hb
 subst e;exact I1.P3 (fj _) (I1.hok.fresh (fj _))
theorem DO{pins:List (Addr×Obj)}{σ:St}{H:Hp}{s:Shared}{R:It->Hp->Prop}{E:Value->Shared->Prop}{lo hi:Int}{t u v:Tok}{tk:Nat}(I:Inv X pins σ H s)(h1:-(2^62)<=lo)(h2:lo<2^62)(h3:-(2^62)<=hi)(h4:hi<2^62)
 (q:R (GQ lo (hi-lo).toNat) H):wpAny (model X.prog X.w) X.A (pyIter (.ref s.heap.objs.size)) (ZY X pins σ tg R) E { s with heap:=s.heap.push { cls:=.type "range",data:=.fields #[.int lo t,.int hi u,.int 1 v] },toks:=tk }:=by
 refine wpAny_pyIter_range (IsRange.new ..) (small_one h1 h2 h3 h4) ?_;have I1:Inv X pins σ H { s with heap:=s.heap.push { cls:=.type "range",data:=.fields #[.int lo t,.int hi u,.int 1 v] },toks:=tk }:=I.kept fun b o e=>Heap.get?_push_of_some _ e
 refine⟨(s.heap.push { cls:=.type "range",data:=.fields #[.int lo t,.int hi u,.int 1 v] }).objs.size,[(s.heap.push { cls:=.type "range",data:=.fields #[.int lo t,.int hi u,.int 1 v] }).objs.size],_,_,H,rfl,
  I1.kept (t':=tk) fun b o e=>Heap.get?_push_of_some _ e,XT _ lo (hi-lo).toNat,?_,fun b hb=>?_,q⟩
 · have e1:lo+((0:Nat):Int)*1=lo:=by simp
   have e2:(((hi-lo).toNat:Nat):Int)-((0:Nat):Int)=Builtin.Range.rangeSize lo hi 1:=by rw[rangeSize_one];split<;>omega
   show IsRangeIter _ _ (lo+((0:Nat):Int)*1) ((((hi-lo).toNat:Nat):Int)-((0:Nat):Int)) 1;rw[e1,e2];exact Heap.get?_push_size _ rfl
 · have e:b=(s.heap.push { cls:=.type "range",data:=.fields #[.int lo t,.int hi u,.int 1 v] }).objs.size:=by simpa using hb
   subst e;exact I1.P3 (fj _) (I1.hok.fresh (fj _))
def CY(ta:TA):TI:=fun σ H R=>ta σ H fun vs H1=>∃j:Int,vs=[.int j]/\-(2^62)<=j/\j<2^62/\R (GQ 0 j.toNat) H1
def DY(ta:TA):TI:=fun σ H R=>ta σ H fun vs H1=>∃i j:Int,vs=[.int i,.int j]/\(-(2^62)<=i/\i<2^62/\-(2^62)<=j/\j<2^62)/\R (GQ i (j-i).toNat) H1
theorem NU {a:Expr} {ta:TA} {p pos:Pos} (hg:Gl X "range") (hm:X.mg "range" =none) (ha:PA X [a] ta) (hs:starEach [a] X.env=[(false,eval a X.env)]:=by rfl):PI X tg (.Call (.Name "range" p) [a] [] pos) (CY ta):=by
 intro pins s σ H R I h;refine Call_ (yG I hg hm boot_range (PyProof.Rows.callWith_type1 (WA (ha pos pins s σ H _ I h) fun us s1 zz=>?_) hs rfl));obtain⟨vs,H1,I1,r1,q1⟩:=zz;obtain⟨j,e,q1,q2,q⟩:=q1;subst e;cases r1 with
 | cons r rr=>cases rr;obtain⟨t,rfl⟩:=r;exact call_range_1 (DO I1 (by omega) (by omega) q1 q2 (by simpa using q))
theorem OU {a b:Expr} {ta:TA} {p pos:Pos} (hg:Gl X "range") (hm:X.mg "range" =none) (ha:PA X [a,b] ta) (hs:starEach [a,b] X.env=[(false,eval a X.env),(false,eval b X.env)]:=by rfl) (hs2:starEach [b] X.env=[(false,eval b X.env)]:=by rfl) :
 PI X tg (.Call (.Name "range" p) [a,b] [] pos) (DY ta):=by
 intro pins s σ H R I h;refine Call_ (yG I hg hm boot_range (PyProof.Rows.callWith_type1 (WA (ha pos pins s σ H _ I h) fun us s1 zz=>?_) (by rw[hs,hs2]) (by rw[hs2];rfl)));obtain⟨vs,H1,I1,r1,q1⟩:=zz;obtain⟨i,j,e,⟨q1,q2,q3,q4⟩,q⟩:=q1;subst e;cases r1 with
 | cons r rr=>
  cases rr with
  | cons r' rr=>cases rr;obtain⟨t,rfl⟩:=r;obtain⟨t',rfl⟩:=r';exact call_range_2 (DO I1 q1 q2 q3 q4 q)
def rR(wi:TI)(g:TG)(tb:TS):TS:=fun D σ H=>wi σ H fun J H1=>∃W:Nat->Nat->St->Hp->Prop,(∃m,W 0 m σ H1)/\∀i m σ H,W i m σ H->
 (J.stop i H/\D.nx σ H)\/(J.go i H/\∃N:St->Hp->Prop,(∀σ' H',N σ' H'->∃m',m'<m/\W (i+1) m' σ' H')/\∀x H',J.C5 i H x H'->g x σ H' fun σ2 H2=>tb { D with nx:=N,ct:=N,bk:=D.nx } σ2 H2)
noncomputable def IH(fp:List Addr)(h:Heap):List (Addr×Obj):=fp.filterMap fun b=>(h.get? b).map fun o=>(b,o)
theorem BI{fp:List Addr}{h:Heap}{b:Addr}{o:Obj}(hb:b∈fp)(e:h.get? b=some o):(b,o)∈IH fp h:=mem_filterMap.mpr ⟨b,hb,by rw[e];rfl⟩
theorem IU{fp:List Addr}{h:Heap}{p:Addr×Obj}(hp:p∈IH fp h):p.1∈fp/\h.get? p.1=some p.2:=by
 obtain⟨b,hb,e⟩:=mem_filterMap.mp hp;cases q:h.get? b with
 | none=>rw[q]at e;cases e
 | some o=>rw[q]at e;have e':(b,o)=p:=Option.some.inj e;subst e';exact⟨hb,q⟩
theorem Inv.pinned{pins:List (Addr×Obj)}{σ:St}{H:Hp}{s:Shared}{fp:List Addr}(I:Inv X pins σ H s)(hf:∀b∈fp,zD X pins H b)(ho:∀b∈fp,∃o,s.heap.get? b=some o/\∀v,o.data≠.cell v):Inv X (pins++IH fp s.heap) σ H s:=
 I.A3 fun p hp=>(mem_append.mp hp).elim (fun z=>I.pin p (mem_append_right _ z)) fun z=>by obtain⟨hb,e⟩:=IU z;obtain⟨f0,f1,f2,_⟩:=hf p.1 hb;obtain⟨o,e',d⟩:=ho p.1 hb;rw[e]at e';cases e';exact⟨e,f0,f1,f2,d⟩
theorem Inv.J1{pins pl:List (Addr×Obj)}{σ:St}{H:Hp}{s:Shared}(I:Inv X (pins++pl) σ H s):Inv X pins σ H s:=I.A3 fun p hp=>I.pin p (mem_append_right _ (mem_append_left _ hp))
theorem oX{iter:Expr}{body:List Stmt}{wi:TI}{g:TG}{tb:TS}{pos:Pos}(hp:PassesOwn (model X.prog X.w) X.A X.env X.xe)(hc:X.calm=true)(hi:PI X tg iter wi)(hg:PG X tg g)(hb:N2 X body tb)
 (hs:∀x,foldedSetIterable iter X.env x=pure x:=by intro _;rfl):PS X (.For tg iter body [] pos) (rR wi g tb):=by
 intro pins s σ H D I h;refine wpAny_For (WA (hi pins s σ H _ I h) fun v s1 h1=>WA h1 fun itv s2 h2=>?_) hs;obtain⟨it,fp,tn,J,H2,e,I2,T,st2,f2,W,⟨m0,w0⟩,turn⟩:=h2;subst e;have stat:∀{H':Hp},(∀b∈fp,H' b=none)->∀b∈fp,zD X pins H' b:=fun hn b hb=>⟨hn b hb,(f2 b hb).2⟩
 refine codeAny_forLoop_any (fun n s'=>∃i σ' H',Inv X pins σ' H' s'/\tn i s'.heap/\(∀b∈fp,H' b=none)/\W i n σ' H') ?_ m0 ⟨0,σ,H2,I2,st2,fun b hb=>(f2 b hb).1,w0⟩;rintro n s3 ⟨i,σ3,H3,I3,st3,Y7,w3⟩;rcases turn i n σ3 H3 w3 with⟨stop,qn⟩ | ⟨go,N,hN,step⟩
 · refine wpAny_passesOwn hp (WA (T.done X rfl rfl rfl hc i pins s3 σ3 H3 X.xe I3 (stat Y7) st3 stop) fun r s4 zz=>?_);obtain⟨hr,I4⟩:=zz;subst hr;exact wpAny_execs_nil ⟨σ3,H3,I4,qn⟩
 · refine wpAny_passesOwn hp (WA (T.item X rfl rfl rfl hc i pins s3 σ3 H3 X.xe I3 (stat Y7) st3 go) fun r s4 zz=>?_);obtain⟨u,hr,h4⟩:=zz;subst hr;refine wpAny_passesOwn hp (WA h4 fun _ s5 zz=>?_);obtain⟨x,H5,I5,r5,y5,R7,T8⟩:=zz;have B8:=I5.pinned (stat T8) (T.obj _ _ R7);refine wpAny_passesOwn hp (WA (hg _ s5 σ3 H5 x u _ B8 r5 (step x H5 y5)) fun _ s6 zz=>?_);obtain⟨σ6,H6,I6,q6⟩:=zz;refine wpAny_passesOwn hp (WA (hb _ s6 σ6 H6 _ I6 q6) fun f s7 q7=>?_);have again:∀{σ7:St}{H7:Hp},Inv X (pins++IH fp s5.heap) σ7 H7 s7->N σ7 H7->∃m,m<n/\∃i σ' H',Inv X pins σ' H' s7/\tn i s7.heap/\(∀b∈fp,H' b=none)/\W i m σ' H':=fun {σ7 H7} I7 n7=>by obtain⟨m',hm,w7⟩:=hN σ7 H7 n7;refine⟨m',hm,i+1,σ7,H7,I7.J1,T.keep _ _ _ R7 fun b hb o e=>(I7.pin (b,o) (mem_append_right _ (mem_append_right _ (BI hb e)))).1,fun b hb=>?_,w7⟩;obtain⟨o,e,d⟩:=T.obj _ _ R7 b hb;exact(I7.pin (b,o) (mem_append_right _ (mem_append_right _ (BI hb e)))).2.1
   cases f with
   | next=>obtain⟨σ7,H7,I7,n7⟩:=q7;exact again I7 n7
   | cont=>obtain⟨σ7,H7,I7,n7⟩:=q7;exact again I7 n7
   | brk=>obtain⟨σ7,H7,I7,q7⟩:=q7;exact⟨σ7,H7,I7.J1,q7⟩
   | ret v=>obtain⟨x7,σ7,H7,I7,r7,q7⟩:=q7;exact⟨x7,σ7,H7,I7.J1,r7,q7⟩
end
abbrev R2:=V->V->Hp->VK->Prop
def Q0(X:Cx)(f:Value->Value->Sem Value)(r:R2):Prop:=
 ∀(pins:List (Addr×Obj))(s:Shared)(σ:St)(H:Hp)(x y:V)(v u:Value)(Q:VK),Inv X pins σ H s->RelV x v->RelV y u->r x y H Q->
  wpAny (model X.prog X.w) X.A (f v u) (EP X pins σ Q) X.xe s
def UQ(X:Cx)(f:Value->Sem Value)(r:V->Hp->VK->Prop):Prop:=
 ∀(pins:List (Addr×Obj))(s:Shared)(σ:St)(H:Hp)(x:V)(v:Value)(Q:VK),Inv X pins σ H s->RelV x v->r x H Q->
  wpAny (model X.prog X.w) X.A (f v) (EP X pins σ Q) X.xe s
def J0(X:Cx)(f:Value)(r:List V->Hp->VK->Prop):Prop:=
 ∀(pins:List (Addr×Obj))(s:Shared)(σ:St)(H:Hp)(xs:List V)(us:List Value)(Q:VK),Inv X pins σ H s->Vals xs us->r xs H Q->
  wpAny (model X.prog X.w) X.A (call f us) (EP X pins σ Q) X.xe s
noncomputable def PQ(r:R2)(ta tb:TE):TE:=fun σ H Q=>ta σ H fun x H1=>tb σ H1 fun y H2=>r x y H2 Q
noncomputable def tZ(r:V->Hp->VK->Prop)(ta:TE):TE:=fun σ H Q=>ta σ H fun x H1=>r x H1 Q
noncomputable def rI(C:Int->Int->Prop)(g:Int->Int->V):R2:=fun x y H Q=>∃i j,x=.int i/\y=.int j/\C i j/\Q (g i j) H
noncomputable def UH(g:Int->Int->V):R2:=fun x y H Q=>∃i j,x=.int i/\y=.int j/\Q (g i j) H
noncomputable def rU(g:Int->V):V->Hp->VK->Prop:=fun x H Q=>∃i,x=.int i/\Q (g i) H
section
variable{X:Cx}{a b c:Expr}{ta tb tc:TE}{pos:Pos}
theorem SJ(ha:PE X a ta)(hb:PE X b tb){pins:List (Addr×Obj)}{s:Shared}{σ:St}{H:Hp}{R:V->V->Hp->Prop}(I:Inv X pins σ H s)
 (h:ta σ H fun x H1=>tb σ H1 fun y H2=>R x y H2) {Q:Value->Shared->Prop} {f:Value->Value->Sem Value}
 (hf:∀v u s2 x y H2,Inv X pins σ H2 s2->RelV x v->RelV y u->R x y H2->wpAny (model X.prog X.w) X.A (f v u) Q X.xe s2) :
 wpAny (model X.prog X.w) X.A (eval a X.env) (fun v s₁=>wpAny (model X.prog X.w) X.A (eval b X.env) (fun u s₂=>wpAny (model X.prog X.w) X.A (f v u) Q X.xe s₂) X.xe s₁) X.xe s:=by
 refine WA (ha pins s σ H _ I h) fun v s1 zz=>?_
 obtain⟨x,H1,I1,r1,q1⟩:=zz;refine WA (hb pins s1 σ H1 _ I1 q1) fun u s2 zz=>?_
 obtain⟨y,H2,I2,r2,q2⟩:=zz;exact hf v u s2 x y H2 I2 r1 r2 q2
theorem aY{op:Operator}{r:R2}(ho:Q0 X (binaryOp op) r)(ha:PE X a ta)(hb:PE X b tb):PE X (.BinOp a op b pos) (PQ r ta tb):=by intro pins s σ H Q I h;exact wpAny_BinOp (SJ ha hb I h fun v u s2 x y H2 I2 rx ry q=>ho pins s2 σ H2 x y v u Q I2 rx ry q)
theorem cY{op:UnaryOp}{r:V->Hp->VK->Prop}(ho:UQ X (unaryOp op) r)(ha:PE X a ta):PE X (.UnaryOp op a pos) (tZ r ta):=by intro pins s σ H Q I h;exact UnaryOp_ (WA (ha pins s σ H _ I h) fun v s1 ⟨x,H1,I1,r1,q1⟩=>ho pins s1 σ H1 x v Q I1 r1 q1)
theorem kN{f:Value->Value->Sem Value}{C:Int->Int->Prop}{g:Int->Int->Int}
 (rule:∀(i j:Int)(t u:Tok)(s:Shared)(Q:Value->Shared->Prop)(E:Value->Shared->Prop),C i j->Q (.int (g i j) s.toks) { s with toks:=s.toks+1 }->wpAny (model X.prog X.w) X.A (f (.int i t) (.int j u)) Q E s) :
 Q0 X f (rI C fun i j=>.int (g i j)):=by
 intro pins s σ H x y v u Q I rx ry h;obtain⟨i,j,rfl,rfl,hc,q⟩:=h;obtain⟨t,rfl⟩:=rx;obtain⟨t',rfl⟩:=ry;exact rule i j t t' s _ _ hc ⟨.int (g i j),H,I.tok _,⟨_,rfl⟩,q⟩
theorem aK{f:Value->Value->Sem Value}{g:Int->Int->Int}
 (rule:∀(i j:Int)(t u:Tok)(s:Shared)(Q:Value->Shared->Prop)(E:Value->Shared->Prop),Q (.int (g i j) s.toks) { s with toks:=s.toks+1 }->wpAny (model X.prog X.w) X.A (f (.int i t) (.int j u)) Q E s) :
 Q0 X f (UH fun i j=>.int (g i j)):=by
 intro pins s σ H x y v u Q I rx ry h;obtain⟨i,j,rfl,rfl,q⟩:=h;obtain⟨t,rfl⟩:=rx;obtain⟨t',rfl⟩:=ry;exact rule i j t t' s _ _ ⟨.int (g i j),H,I.tok _,⟨_,rfl⟩,q⟩
theorem jI{f:Value->Value->Sem Value}{g:Int->Int->Bool}
 (rule:∀(i j:Int)(t u:Tok)(s:Shared)(Q:Value->Shared->Prop)(E:Value->Shared->Prop),Q (.bool (g i j)) s->wpAny (model X.prog X.w) X.A (f (.int i t) (.int j u)) Q E s) :
 Q0 X f (UH fun i j=>.bl (g i j)):=by
 intro pins s σ H x y v u Q I rx ry h;obtain⟨i,j,rfl,rfl,q⟩:=h;obtain⟨t,rfl⟩:=rx;obtain⟨t',rfl⟩:=ry;exact rule i j t t' s _ _ ⟨.bl (g i j),H,I,rfl,q⟩
noncomputable def KG(i j:Int):Prop:=0<j/\j<1073741824
noncomputable def zE(i j:Int):Prop:=0<=j/\j<=1000000/\i.natAbs<2^64
noncomputable def X2(i j:Int):Prop:=(-(2^64)<i/\i<2^64)\/(-(2^64)<j/\j<2^64)
theorem X2.ok{i j:Int}(h:X2 i j):IntMulOk i j:=by
 rcases h with⟨h1,h2⟩ | ⟨h1,h2⟩
 · exact .of_left (intBits_le_64 h1 h2)
 · exact .of_right (intBits_le_64 h1 h2)
theorem YT(k:Nat):(0:Int)<=2^k:=by rw[two_pow_cast];exact Int.natCast_nonneg _
theorem RX:Q0 X (binaryOp .Add) (UH fun i j=>.int (i+j)):=aK fun _ _ _ _ _ _ _ q=>add_int q
theorem eX:Q0 X (binaryOp .Sub) (UH fun i j=>.int (i-j)):=aK fun _ _ _ _ _ _ _ q=>sub_int q
theorem VX:Q0 X (binaryOp .Mult) (rI X2 fun i j=>.int (i*j)):=kN fun _ _ _ _ _ _ _ hc q=>mul_int q hc.ok
theorem HW:Q0 X (binaryOp .FloorDiv) (rI KG fun i j=>.int (i/j)):=kN fun i j _ _ _ _ _ hc q=>by have h1:(0:Int)<j:=hc.1;have h2:j<1073741824:=hc.2;exact floordiv_int (by omega) (by rw[Int.fdiv_eq_ediv_of_nonneg i (by omega)];exact q) (.inl (PyProof.noPylong_small (by omega)))
theorem UX:Q0 X (binaryOp .Mod) (rI (fun _ j=>0<j) fun i j=>.int (i%j)):=kN fun i j _ _ _ _ _ hc q=>by have h1:(0:Int)<j:=hc;exact mod_int' (by omega) (by rw[Int.fmod_eq_emod_of_nonneg i (by omega)];exact q)
theorem bX:Q0 X (binaryOp .Pow) (rI zE fun i j=>.int (i^j.toNat)):=kN fun _ _ _ _ _ _ _ hc q=>pow_int_small hc.1 hc.2.1 hc.2.2 q
theorem cX:Q0 X (binaryOp .LShift) (rI zE fun i j=>.int (i*2^j.toNat)):=kN fun _ _ _ _ _ _ _ hc q=>lshift_int_small hc.1 hc.2.1 hc.2.2 q
theorem dX:Q0 X (binaryOp .RShift) (rI (fun _ j=>0<=j) fun i j=>.int (i/2^j.toNat)):=kN fun i j _ _ _ _ _ hc q=>rshift_int hc (by rw[Int.fdiv_eq_ediv_of_nonneg i (YT _)];exact q)
theorem SX:Q0 X (binaryOp .BitAnd) (UH fun i j=>.int (Builtin.bitAnd i j)):=aK fun _ _ _ _ _ _ _ q=>and_int q
theorem uZ{f:Value->Sem Value}{g:Int->Int}
 (rule:∀(i:Int)(t:Tok)(s:Shared)(Q:Value->Shared->Prop)(E:Value->Shared->Prop),Q (.int (g i) s.toks) { s with toks:=s.toks+1 }->wpAny (model X.prog X.w) X.A (f (.int i t)) Q E s) :
 UQ X f (rU fun i=>.int (g i)):=by
 intro pins s σ H x v Q I rx h;obtain⟨i,rfl,q⟩:=h;obtain⟨t,rfl⟩:=rx;exact rule i t s _ _ ⟨.int (g i),H,I.tok _,⟨_,rfl⟩,q⟩
theorem VW:UQ X (unaryOp .USub) (rU fun i=>.int (-i)):=uZ fun _ _ _ _ _ q=>neg_int q
end
noncomputable def gG:V->V->Bool
 | .non,.non=>true | .non,.int _=>true | .int _,.non=>true | .non,.bl _=>true | .bl _,.non=>true | .non,.str _=>true | .str _,.non=>true
 | .int _,.int _=>true | .bl _,.bl _=>true | .str _,.str _=>true | .J3 _,.J3 _=>true
 | .int _,.str _=>true | .str _,.int _=>true | .bl _,.str _=>true | .str _,.bl _=>true
 | _,_=>false
def kZ:R2:=fun x y H Q=>gG x y=true/\Q (.bl (decide (x=y))) H
def lZ:R2:=fun x y H Q=>gG x y=true/\Q (.bl (!decide (x=y))) H
theorem eP{i j:Int}:decide (V.int i=V.int j)=(i==j):=by rw[Bool.eq_iff_iff];simp
theorem IP{i j:Bool}:decide (V.bl i=V.bl j)=(i==j):=by rw[Bool.eq_iff_iff];simp
theorem nJ{i j:Str}:decide (V.str i=V.str j)=(i==j):=by rw[Bool.eq_iff_iff];simp
theorem dP{i j:Array UInt8}:decide (V.J3 i=V.J3 j)=(i.toList==j.toList):=by rw[Bool.eq_iff_iff];cases i;cases j;simp
section
variable{X:Cx}{a b c:Expr}{ta tb tc:TE}{pos:Pos}
theorem xB{pins:List (Addr×Obj)}{σ:St}{H:Hp}{s:Shared}{Q:VK}{k k':Bool}(I:Inv X pins σ H s)(q:Q (.bl k) H)(e:k=k'):EP X pins σ Q (.bool k') s:=by subst e;exact⟨.bl k,H,I,rfl,q⟩
theorem SY:Q0 X (compareOp .Eq) kZ:=by
 intro pins s σ H x y v u Q I rx ry h;obtain⟨hs,q⟩:=h;cases x with
 | non=>
  cases rx;cases y with
  | non=>cases ry;exact PySem.EqNone.eq_none_none (xB I q (by simp))
  | bl j=>cases ry;exact PySem.EqNone.eq_none_bool (xB I q (by simp))
  | int j=>obtain⟨t',rfl⟩:=ry;exact PySem.EqNone.eq_none_int (xB I q (by simp))
  | str j=>obtain⟨t',rfl⟩:=ry;exact PySem.EqNone.eq_none_str (xB I q (by simp))
  | _=>exact absurd (show false=true from hs) dj
 | bl i=>
  cases rx;cases y with
  | non=>cases ry;exact PySem.EqNone.eq_bool_none (xB I q (by simp))
  | bl j=>cases ry;exact eq_bool (xB I q IP)
  | str j=>obtain⟨t',rfl⟩:=ry;exact PySem.EqMixed.eq_bool_str (xB I q (by simp))
  | _=>exact absurd (show false=true from hs) dj
 | int i=>
  obtain⟨t,rfl⟩:=rx;cases y with
  | non=>cases ry;exact PySem.EqNone.eq_int_none (xB I q (by simp))
  | int j=>obtain⟨t',rfl⟩:=ry;exact eq_int (xB I q eP)
  | str j=>obtain⟨t',rfl⟩:=ry;exact PySem.EqMixed.eq_int_str (xB I q (by simp))
  | _=>exact absurd (show false=true from hs) dj
 | str i=>
  obtain⟨t,rfl⟩:=rx;cases y with
  | non=>cases ry;exact PySem.EqNone.eq_str_none (xB I q (by simp))
  | bl j=>cases ry;exact PySem.EqMixed.eq_str_bool (xB I q (by simp))
  | int j=>obtain⟨t',rfl⟩:=ry;exact PySem.EqMixed.eq_str_int (xB I q (by simp))
  | str j=>obtain⟨t',rfl⟩:=ry;exact eq_str (xB I q nJ)
  | _=>exact absurd (show false=true from hs) dj
 | J3 i=>
  obtain⟨t,rfl⟩:=rx;cases y with
  | J3 j=>obtain⟨t',rfl⟩:=ry;exact PySem.W.eq_bytes (xB I q dP)
  | _=>exact absurd (show false=true from hs) dj
 | _=>cases y<;>exact absurd (show false=true from hs) dj
theorem WX:Q0 X (compareOp .NotEq) lZ:=by
 intro pins s σ H x y v u Q I rx ry h;obtain⟨hs,q⟩:=h;cases x with
 | non=>
  cases rx;cases y with
  | non=>cases ry;exact PySem.EqNone.ne_none_none (xB I q (by simp))
  | bl j=>cases ry;exact PySem.EqNone.ne_none_bool (xB I q (by simp))
  | int j=>obtain⟨t',rfl⟩:=ry;exact PySem.EqNone.ne_none_int (xB I q (by simp))
  | str j=>obtain⟨t',rfl⟩:=ry;exact PySem.EqNone.ne_none_str (xB I q (by simp))
  | _=>exact absurd (show false=true from hs) dj
 | bl i=>
  cases rx;cases y with
  | non=>cases ry;exact PySem.EqNone.ne_bool_none (xB I q (by simp))
  | bl j=>cases ry;exact ne_bool (xB I q (congrArg not IP))
  | str j=>obtain⟨t',rfl⟩:=ry;exact PySem.EqMixed.ne_bool_str (xB I q (by simp))
  | _=>exact absurd (show false=true from hs) dj
 | int i=>
  obtain⟨t,rfl⟩:=rx;cases y with
  | non=>cases ry;exact PySem.EqNone.ne_int_none (xB I q (by simp))
  | int j=>obtain⟨t',rfl⟩:=ry;exact ne_int (xB I q (congrArg not eP))
  | str j=>obtain⟨t',rfl⟩:=ry;exact PySem.EqMixed.ne_int_str (xB I q (by simp))
  | _=>exact absurd (show false=true from hs) dj
 | str i=>
  obtain⟨t,rfl⟩:=rx;cases y with
  | non=>cases ry;exact PySem.EqNone.ne_str_none (xB I q (by simp))
  | bl j=>cases ry;exact PySem.EqMixed.ne_str_bool (xB I q (by simp))
  | int j=>obtain⟨t',rfl⟩:=ry;exact PySem.EqMixed.ne_str_int (xB I q (by simp))
  | str j=>obtain⟨t',rfl⟩:=ry;exact ne_str (xB I q (congrArg not nJ))
  | _=>exact absurd (show false=true from hs) dj
 | J3 i=>
  obtain⟨t,rfl⟩:=rx;cases y with
  | J3 j=>obtain⟨t',rfl⟩:=ry;exact PySem.W.ne_bytes (xB I q (congrArg not dP))
  | _=>exact absurd (show false=true from hs) dj
 | _=>cases y<;>exact absurd (show false=true from hs) dj
theorem WY:Q0 X (compareOp .Lt) (UH fun i j=>.bl (decide (i<j))):=jI fun _ _ _ _ _ _ _ q=>lt_int q
theorem VY:Q0 X (compareOp .LtE) (UH fun i j=>.bl (decide (i<=j))):=jI fun _ _ _ _ _ _ _ q=>le_int q
theorem UY:Q0 X (compareOp .Gt) (UH fun i j=>.bl (decide (j<i))):=jI fun _ _ _ _ _ _ _ q=>gt_int q
theorem TY:Q0 X (compareOp .GtE) (UH fun i j=>.bl (decide (j<=i))):=jI fun _ _ _ _ _ _ _ q=>ge_int q
theorem KU:Q0 X (compareOp .In) (fun x y H Q=>∃i j,x=.str i/\y=.str j/\Q (.bl (!(Builtin.Str.occurrences j i 0 j.length 1).isEmpty)) H):=by intro pins s σ H x y v u Q I rx ry h;obtain⟨i,j,rfl,rfl,q⟩:=h;obtain⟨t,rfl⟩:=rx;obtain⟨t',rfl⟩:=ry;exact in_str (xB I q rfl)
theorem TX:Q0 X (compareOp .Is) (fun x y H Q=>y=.non/\Q (.bl (decide (x=.non))) H):=by
 intro pins s σ H x y v u Q I rx ry h;obtain⟨rfl,q⟩:=h;cases ry;refine is_none_gen (xB I q ?_);cases x<;>first
  | (cases rx;rfl)
  | (obtain⟨t,rfl⟩:=rx;rfl)
theorem ZP(b:Expr){op:CmpOp}(h:op≠.In:=by decide)(h2:op≠.NotIn:=by decide):behindInMarks op b=false:=by
 have e1:(op==CmpOp.In)=false:=by cases op<;>first | rfl | exact absurd rfl h
 have e2:(op==CmpOp.NotIn)=false:=by cases op<;>first | rfl | exact absurd rfl h2
 cases b<;>simp[behindInMarks,e1,e2]
theorem KW{op:CmpOp}{r:R2}(ho:Q0 X (compareOp op) r)(ha:PE X a ta)(hb:PE X b tb)(hm:behindInMarks op b=false):PE X (.Compare a [op] [b] pos) (PQ r ta tb):=by intro pins s σ H Q I h;exact wpAny_Compare1 (SJ ha hb I h fun v u s2 x y H2 I2 rx ry q=>ho pins s2 σ H2 x y v u Q I2 rx ry q) hm
noncomputable def CQ(t:TE):TT:=fun σ H Q=>t σ H fun x H'=>∃k,x=.bl k/\Q k H'
theorem WV{op:CmpOp}{r:R2}(ho:Q0 X (compareOp op) r)(ha:PE X a ta)(hb:PE X b tb)(hm:behindInMarks op b=false):PT X (.Compare a [op] [b] pos) (CQ (PQ r ta tb)):=by
 intro pins s σ H Q I h;refine wpAny_isTrue_Compare1 (WA (ha pins s σ H _ I h) fun v s1 ⟨x,H1,I1,r1,q1⟩=>WA (hb pins s1 σ H1 _ I1 q1) fun u s2 ⟨y,H2,I2,r2,q2⟩=>
  WA (ho pins s2 σ H2 x y v u _ I2 r1 r2 q2) fun c s3 ⟨z,H3,I3,r3,k,e,q3⟩=>?_) hm
 subst e;cases r3;exact wpAny_truthy_bool ⟨H3,I3,q3⟩
noncomputable def MM(r r':R2)(ta tb tc:TE):TE:=fun σ H Q=>ta σ H fun x H1=>tb σ H1 fun y H2=>r x y H2 fun z H3=>∃k,z=.bl k/\
 (if k=true then tc σ H3 fun w' H4=>r' y w' H4 Q else Q (.bl false) H3)
theorem rV{op op':CmpOp}{r r':R2}(ho:Q0 X (compareOp op) r)(ho':Q0 X (compareOp op') r')(ha:PE X a ta)(hb:PE X b tb)(hc:PE X c tc)
 (hm:lastMarks [op,op'] [b,c]=false:=by with_unfolding_all rfl):PE X (.Compare a [op,op'] [b,c] pos) (MM r r' ta tb tc):=by
 intro pins s σ H Q I h;refine Compare_chain (WA (ha pins s σ H _ I h) fun v s1 ⟨x,H1,I1,r1,q1⟩=>chain_link (WA (hb pins s1 σ H1 _ I1 q1) fun u s2 ⟨y,H2,I2,r2,q2⟩=>
  WA (ho pins s2 σ H2 x y v u _ I2 r1 r2 q2) fun d s3 ⟨z,H3,I3,r3,k,e,q3⟩=>?_)) hm
 subst e;cases r3;refine wpAny_truthy_bool ?_;cases k with
 | false=>exact ite_ff ⟨.bl false,H3,I3,rfl,q3⟩
 | true=>exact ite_tt (chain_last (WA (hc pins s3 σ H3 _ I3 q3) fun w' s4 ⟨z',H4,I4,r4,q4⟩=>ho' pins s4 σ H4 y z' u w' Q I4 r2 r4 q4))
theorem zV{op op':CmpOp}{r r':R2}(ho:Q0 X (compareOp op) r)(ho':Q0 X (compareOp op') r')(ha:PE X a ta)(hb:PE X b tb)(hc:PE X c tc)
 (hm:lastMarks [op,op'] [b,c]=false:=by with_unfolding_all rfl):PT X (.Compare a [op,op'] [b,c] pos) (CQ (MM r r' ta tb tc)):=by
 intro pins s σ H Q I h;refine isTrue_chain (WA (ha pins s σ H _ I h) fun v s1 ⟨x,H1,I1,r1,q1⟩=>test_link (WA (hb pins s1 σ H1 _ I1 q1) fun u s2 ⟨y,H2,I2,r2,q2⟩=>
  WA (ho pins s2 σ H2 x y v u _ I2 r1 r2 q2) fun d s3 ⟨z,H3,I3,r3,k,e,q3⟩=>?_)) hm
 subst e;cases r3;refine wpAny_truthy_bool ?_;cases k with
 | false=>obtain⟨k',e',q'⟩:=q3;cases e';exact ite_ff ⟨H3,I3,q'⟩
 | true=>refine ite_tt (test_last (WA (hc pins s3 σ H3 _ I3 q3) fun w' s4 ⟨z',H4,I4,r4,q4⟩=>WA (ho' pins s4 σ H4 y z' u w' _ I4 r2 r4 q4) fun d' s5 zz=>?_));obtain⟨z2,H5,I5,r5,k2,e2,q5⟩:=zz;subst e2;cases r5;exact wpAny_truthy_bool ⟨H5,I5,q5⟩
theorem RF:(sizeLine:Nat)<2^63:=by rw[sizeLine_eq];decide
theorem US:Q0 X (binaryOp .Add) (fun x y H Q=>∃i j,x=.str i/\y=.str j/\i.length+j.length<=sizeLine/\Q (.str (i++j)) H):=by intro pins s σ H x y v u Q I rx ry h;obtain⟨i,j,rfl,rfl,hz,q⟩:=h;obtain⟨t,rfl⟩:=rx;obtain⟨t',rfl⟩:=ry;exact add_str (fun t' tk=>⟨.str (i++j),H,I.tok _,⟨_,rfl⟩,q⟩) hz
theorem cE{x:V}{us:List Value}(r:Vals [x] us):∃u,us=[u]/\RelV x u:=by
 cases r with
 | cons r1 r2=>cases r2;exact⟨_,rfl,r1⟩
theorem FQ{x y:V}{us:List Value}(r:Vals [x,y] us):∃u w',us=[u,w']/\RelV x u/\RelV y w':=by
 cases r with
 | cons r1 r2=>
  cases r2 with
  | cons r3 r4=>cases r4;exact⟨_,_,rfl,r1,r3⟩
theorem cU (hc:X.calm=true):J0 X (.builtin "min") (fun xs H Q=>∃i j,xs=[.int i,.int j]/\Q (.int (if j<i then j else i)) H):=by
 intro pins s σ H xs us Q I r h;obtain⟨i,j,rfl,q⟩:=h;obtain⟨u,w',rfl,⟨t,rfl⟩,⟨t',rfl⟩⟩:=FQ r;refine min_two_ints (I.ok.hd hc) fun h' tk k=>⟨_,H,I.kept k,?_,q⟩
 by_cases hj:j<i
 · rw[if_pos hj,if_pos hj];exact⟨_,rfl⟩
 · rw[if_neg hj,if_neg hj];exact⟨_,rfl⟩
theorem bU:J0 X (.type "int") (fun xs H Q=>(∃i,xs=[.int i]/\Q (.int i) H)\/∃k,xs=[.bl k]/\Q (.int (if k then 1 else 0)) H):=by
 intro pins s σ H xs us Q I r h;rcases h with⟨i,rfl,q⟩ | ⟨k,rfl,q⟩
 · obtain⟨u,rfl,t,rfl⟩:=cE r;exact call_int_int ⟨.int i,H,I,⟨_,rfl⟩,q⟩
 · obtain⟨u,rfl,r1⟩:=cE r;cases r1;exact call_int_bool ⟨.int (if k then 1 else 0),H,I.tok _,⟨_,rfl⟩,q⟩
theorem KS:J0 X (.type "str") (fun xs H Q=>∃i,xs=[.int i]/\i.natAbs.log2<1920/\Q (.str (toString i)) H):=by intro pins s σ H xs us Q I r h;obtain⟨i,rfl,hz,q⟩:=h;obtain⟨u,rfl,t,rfl⟩:=cE r;exact PySem.P.str_of_int hz ⟨.str _,H,I.tok _,⟨_,rfl⟩,q⟩
end
section
variable{prog:Program}{w:World}{A:Around}{E:Value->Shared->Prop}{s:Shared}{K:Frag}{x dx C f:Addr}{mA:Str->Option Value}{name:Str}{v:Value}
end
section
variable{P:Program}{w:World}{H H':Hp}{h h':Heap}{a C dx:Addr}{fs fs':List (Str×V)}
end
section
variable{X:Cx}{pins:List (Addr×Obj)}{σ:St}{H:Hp}{s:Shared}{a C dx:Addr}{fs:List (Str×V)}{f:Str}{v:V}{A:Around}{E:Value->Shared->Prop}
theorem Inv.made(I:Inv X pins σ H s):Inv X pins σ (FB (FB H s.heap.objs.size (.own (s.heap.objs.size+1))) (s.heap.objs.size+1) (.ins C s.heap.objs.size []))
 { s with heap:=(s.heap.push PySem.W.emptyDict).push (PySem.W.instObj C s.heap.objs.size) }:=by
 have e1:(s.heap.push PySem.W.emptyDict).get? s.heap.objs.size=some PySem.W.emptyDict:=Heap.get?_push_size s.heap rfl;have e2:((s.heap.push PySem.W.emptyDict).push (PySem.W.instObj C s.heap.objs.size)).get? (s.heap.objs.size+1)=some (PySem.W.instObj C s.heap.objs.size):=by have:=Heap.get?_push_size (s.heap.push PySem.W.emptyDict) (o:=PySem.W.instObj C s.heap.objs.size) rfl;rwa[Heap.size_push]at this
 have e3:(s.heap.push PySem.W.emptyDict).Ns s.heap.objs.size (fun _=>none):=⟨PySem.W.emptyDict,#[],_,e1,rfl,(fun e he=>absurd he (by simp)),fun _=>rfl⟩;have I1:=I.laid (a:=s.heap.objs.size) (o:=.own (s.heap.objs.size+1)) (h':=s.heap.push PySem.W.emptyDict) (t':=s.toks) (fun b u q=>Heap.get?_push_of_some _ q) (fj _) ⟨_,e1⟩;refine I1.laid (a:=s.heap.objs.size+1) (o:=.ins C s.heap.objs.size []) (t':=s.toks) (fun b u q=>Heap.get?_push_of_some _ q) (Nat.le_of_eq (Heap.size_push _ _)) ?_;have ne:s.heap.objs.size≠s.heap.objs.size+1:=Nat.ne_of_lt (Nat.lt_succ_self _);refine⟨by rw[HA ne,bD],Nat.zero_le _,ne,e2,fun _=>none,(Heap.Ns1.of_empty e3).at fun o q=>Heap.get?_push_of_some _ q,fun _=>True.intro,fun y hy=>absurd rfl hy⟩
end
section
variable{X:Cx}{o e value:Expr}{f:Str}{pos pos' tpos:Pos}{ta tv:TE}
end
section
variable{X:Cx}{pins:List (Addr×Obj)}{σ:St}{H:Hp}{s:Shared}{A:Around}{E:Value->Shared->Prop}{Q:Value->Shared->Prop}{c:Value}{b:Bool}
end
structure M0(k:Nat)(A:Around):Prop where
 hd:A.handled=none
 dp:A.depth+3*k+5<recursionLimit
 un:A.units+16*k+200<cLine
theorem M0.mono{j k:Nat}{A:Around}(r:M0 k A)(h:j<=k):M0 j A:=⟨r.hd,by have:=r.dp;omega,by have:=r.un;omega⟩
theorem M0.deeper{k:Nat}{A:Around}(r:M0 (k+1) A)(env:Env):M0 k (A.deeper env):=
 ⟨r.hd,by have:=r.dp;show A.depth+1+3*k+5<_;omega,by have:=r.un;show A.units+3+16*k+200<_;omega⟩
theorem M0.depth{k:Nat}{A:Around}(r:M0 k A):A.depth<recursionLimit:=by have:=r.dp;omega
theorem M0.units{k:Nat}{A:Around}(r:M0 k A):A.units+64<cLine:=by have:=r.un;omega
noncomputable def BN:TA:=fun _ H Q=>Q [] H
noncomputable def lY(ta:TE)(tr:TA):TA:=fun σ H Q=>ta σ H fun x H1=>tr σ H1 fun xs H2=>Q (x::xs) H2
section
variable{X:Cx}{e:Expr}{es:List Expr}{te:TE}{t:TA}{pos:Pos}
theorem xD:PA X [] BN:=fun _ _ _ _ H Q I h=>Calls.spliced_nil ⟨[],H,I,.nil,h⟩
theorem LC(ha:PE X e te)(hr:PA X es t)(hs:starEach (e::es) X.env=(false,eval e X.env)::starEach es X.env:=by rfl):PA X (e::es) (lY te t):=by intro pos pins s σ H Q I h;rw[hs];show wpAny _ _ (spliced ((false,eval e X.env)::backTo pos (starEach es X.env))) _ _ s;refine Calls.spliced_cons (WA (ha pins s σ H _ I h) fun u s1 zz=>?_);obtain⟨x,H1,I1,r1,q1⟩:=zz;exact WA (hr pos pins s1 σ H1 _ I1 q1) fun us s2 ⟨xs,H2,I2,r2,q2⟩=>⟨x::xs,H2,I2,.cons r1 r2,q2⟩
def yR(t:TA):TE:=fun σ H Q=>t σ H fun xs H1=>xs.length<=sizeLine/\∀p,H1 p=none->Q (.ref p) (FB H1 p (.tup xs))
def tR(t:TA):TE:=fun σ H Q=>t σ H fun xs H1=>xs.length<=sizeLine/\∀p,H1 p=none->Q (.ref p) (FB H1 p (.lst xs))
theorem kX{x1}(h:PA X es t):PE X (.Tuple es x1 pos) (yR t):=by intro pins s σ H Q I hq;refine wpAny_Tuple_spliced (WA (h pos pins s σ H _ I hq) fun us s1 ⟨xs,H1,I1,r,z,q⟩=>⟨by rw[<- r.length];exact z,?_⟩);have hf:H1 s1.heap.objs.size=none:=I1.hok.fresh (fj _);refine⟨.ref s1.heap.objs.size,FB H1 s1.heap.objs.size (.tup xs),I1.laid (t':=s1.toks) (fun b u e=>Heap.get?_push_of_some _ e) (fj _) ?_,rfl,q _ hf⟩;exact⟨z,us,r,⟨_,Heap.get?_push_size _ rfl,rfl,_,rfl⟩⟩
theorem iQ(h:PA X es t):PE X (.List es pos) (tR t):=by intro pins s σ H Q I hq;refine wpAny_List_spliced (WA (h pos pins s σ H _ I hq) fun us s1 ⟨xs,H1,I1,r,z,q⟩=>⟨by rw[<- r.length];exact z,?_⟩);have hf:H1 s1.heap.objs.size=none:=I1.hok.fresh (fj _);refine⟨.ref s1.heap.objs.size,FB H1 s1.heap.objs.size (.lst xs),I1.laid (t':=s1.toks) (fun b u e=>Heap.get?_push_of_some _ e) (fj _) ?_,rfl,q _ hf⟩;exact⟨z,us,0,r,Heap.get?_push_size _ rfl⟩
end
abbrev Sp:=List V->Hp->VK->XK->Prop
abbrev GG:=List Env->Hp->Shared->XK->Value->Shared->Prop
structure WH(P:Program)(w:World)(K:Frag)(mg:Str->Option Value)(base:Heap)(A:Around)(outer:List Env)(s:Shared)(H:Hp):Prop where
 frames:A.frames=some outer
 mod:Mod K mg base
 bs:∀b o,base.get? b=some o->s.heap.get? b=some o/\H b=none
 F4:base.objs.size<=s.heap.objs.size
 A2:s.heap.FunFrames base outer
 B5:∀b∈LG outer,H b=none
 hok:Z1 P w H s.heap
 bare:AllBare s.gens
def CE(outer:List Env)(P:Program)(w:World)(H:Hp)(s:Shared)(Q:VK)(u:Value)(s':Shared):Prop:=
 ∃v H',s'.os=s.os/\AllBare s'.gens/\Un (LG outer) [] H H' s.heap s'.heap/\Z1 P w H' s'.heap/\RelV v u/\Q v H'
def CR(CX:GG)(outer:List Env)(P:Program)(w:World)(H:Hp)(s:Shared)(Q:VK)(E:XK)(r:Result)(s':Shared):Prop:=
 match r with
 | .ok (.ret u)=>CE outer P w H s Q u s'
 | .ok _=>False
 | .error e=>CX outer H s E e s'
structure Z0(P:Program)(w:World)(K:Frag)(mg:Str->Option Value)(base:Heap)(CX:GG)(k:Nat)(f:Addr)(fd:FuncData)(ps:List Str)(sp:Sp):Prop where
 len:∀vs H Q E,sp vs H Q E->vs.length=ps.length
 run:∀(A:Around)(outer:List Env)(s:Shared)(H:Hp)(args:Args)(us:List Value)(vs:List V)(Q:VK)(E:XK),M0 k A->WH P w K mg base A outer s H->BindsTo s fd args (ps.zip us)->Vals vs us->sp vs H Q E->
  codeAny (model P w) A (.call (.ref f) args) (CR CX outer P w H s Q E) s
theorem Z0.mono{P:Program}{w:World}{K:Frag}{mg:Str->Option Value}{base:Heap}{CX:GG}{j k:Nat}{f:Addr}{fd:FuncData}{ps:List Str}{sp:Sp}(F:Z0 P w K mg base CX j f fd ps sp)(h:j<=k) :
 Z0 P w K mg base CX k f fd ps sp:=⟨F.len,fun A outer s H args us vs Q E hr=>F.run A outer s H args us vs Q E (hr.mono h)⟩
section
variable{X:Cx}{pins:List (Addr×Obj)}{σ:St}{H:Hp}{s s':Shared}
theorem Inv.env0(I:Inv X pins σ H s):WH X.prog X.w X.K X.mg X.base X.A X.stack s H:=
 ⟨I.ok.frames,I.ok.mod,I.bs,Nat.le_trans I.ok.F4 I.sz,I.stack,I.B3,I.hok,I.bare⟩
theorem Inv.after{Q:VK}{u:Value}(I:Inv X pins σ H s)(h:CE X.stack X.prog X.w H s Q u s'):EP X pins σ Q u s':=by obtain⟨v,H',os,bare,un,hok,r,q⟩:=h;obtain⟨hh,g,d,t,os'⟩:=s';obtain rfl:os'=s.os:=os;exact⟨v,H',I.call (h':=hh) (g':=g) (d':=d) (t':=t) (ch:=[]) un hok bare (fun b z=>absurd z (by simp)),r,q⟩
end
noncomputable def BQ(sp:Sp)(Y2:List V)(E:XK)(t:TA):TE:=fun σ H Q=>t σ H fun vs H1=>sp (vs++Y2) H1 Q E
noncomputable def Binds(K:Frag)(fd:FuncData)(ps:List Str)(ds:List Value):Prop:=
 ∀(s:Shared)(us:List Value),K.In s.heap->(us++ds).length=ps.length->BindsTo s fd ⟨us,[]⟩ (ps.zip (us++ds))
theorem Binds.all{K:Frag}{fd:FuncData}{ps:List Str}(h:∀us:List Value,us.length=ps.length->bindArgs fd ⟨us,[]⟩=pure (ps.zip us)):Binds K fd ps []:=fun s us _ hl=>by rw[mj]at hl ⊢;exact .of_eq (h us hl)
def wJ(CX:GG)(X:Cx)(E:XK):Prop:=∀(pins:List (Addr×Obj))(σ:St)(H:Hp)(s:Shared)(e:Value)(s':Shared),Inv X pins σ H s->CX X.stack H s E e s'->X.xe e s'
section
variable{X:Cx}{CX:GG}{k:Nat}{f C:Addr}{fd:FuncData}{ps:List Str}{sp:Sp}{Y2:List V}{ds:List Value}{E:XK}{x m:Str}{p pos apos:Pos}{e o:Expr}{es:List Expr}{ta:TE}{t:TA}
theorem kQ{pins:List (Addr×Obj)}{σ:St}{H:Hp}{s:Shared}{Q:VK}{us:List Value}{vs:List V}(F:Z0 X.prog X.w X.K X.mg X.base CX k f fd ps sp)(hr:M0 k X.A)(hb:Binds X.K fd ps ds)(hd:Vals Y2 ds)(hx:wJ CX X E)
 (I:Inv X pins σ H s) (r:Vals vs us) (h:sp (vs++Y2) H Q E):wpAny (model X.prog X.w) X.A (call (.ref f) us) (EP X pins σ Q) X.xe s:=by
 have r2:Vals (vs++Y2) (us++ds):=r.append hd;have hl:(us++ds).length=ps.length:=by rw[<- r2.length];exact F.len _ _ _ _ h
 refine wpAny_call (codeAny_mono (F.run X.A X.stack s H ⟨us,[]⟩ (us++ds) (vs++Y2) Q E hr I.env0 (hb s us I.D3 hl) r2 h) fun r s' hq=>?_);cases r with
 | error e=>exact hx pins σ H s e s' I hq
 | ok fl=>
  cases fl with
  | ret u=>exact I.after hq
  | next=>exact False.elim hq
  | brk=>exact False.elim hq
  | cont=>exact False.elim hq
theorem JW(F:Z0 X.prog X.w X.K X.mg X.base CX k f fd ps sp)(hr:M0 k X.A)(hg:Gl X x)(hm:X.mg x=some (.ref f))(hk:keepIn X.K (.ref f)=true)(hb:Binds X.K fd ps ds)(hd:Vals Y2 ds)(hx:wJ CX X E)
 (ha:PA X (e::es) t) (hdb:(x==("__debug__" :Str))=false:=by decide) (he:starEach (e::es) X.env=(false,eval e X.env)::starEach es X.env:=by rfl) (hpl:(backTo pos (starEach es X.env)).any (·.1)=false:=by rfl) :
 PE X (.Call (.Name x p) (e::es) [] pos) (BQ sp Y2 E t):=by
 intro pins s σ H Q I h;refine wpAny_Call_Name_kw (mM I hg hm ?_ hdb);refine PySem.W.callWith_K (h₀:=X.base) I.ok.mod.K7 hk (WA (ha pos pins s σ H _ I h) fun us s1 ⟨vs,H1,I1,r,q⟩=>⟨I1.D3,?_⟩) he hpl;exact kQ F hr hb hd hx I1 r q
theorem qV(F:Z0 X.prog X.w X.K X.mg X.base CX k f fd ps sp)(hr:M0 k X.A)(hg:Gl X x)(hm:X.mg x=some (.ref f))(hk:keepIn X.K (.ref f)=true)(hb:Binds X.K fd ps ds)(hd:Vals Y2 ds)(hx:wJ CX X E)
 (hdb:(x==("__debug__" :Str))=false:=by decide):PE X (.Call (.Name x p) [] [] pos) (BQ sp Y2 E BN):=by
 intro pins s σ H Q I h;refine wpAny_Call_Name_kw (mM I hg hm ?_ hdb);exact PySem.W.callWith_K0 I.D3 hk (kQ (us:=[]) F hr hb hd hx I .nil h)
end
section
variable{X:Cx}{CX:GG}{k:Nat}{f C:Addr}{fd:FuncData}{ps ks:List Str}{sp:Sp}{E:XK}{x m:Str}{p pos apos kpos:Pos}{e o:Expr}{es:List Expr}{kws:List Keyword}{te ta:TE}{t tk:TA}{nm:Option Str}
variable{g:List Value->List Value->List Value}{gV:List V->List V->List V}
end
structure ZA(N P:List Str)(sc:Scope):Prop where
 kind:sc.kind=.function
 co:sc.isCoroutine=false
 gen:sc.isGenerator=false
 nd:N.Nodup
 pre:N.take P.length=P
 par:∀x∈P,sc.names.lookup x=some .local\/sc.names.lookup x=some .cell
 V4:∀y∈sc.names,y.2≠.free
theorem oO{kindOf:Str->Option NameKind}{x:Str}:∀{binds:List (Str×Value)}{m:Str->Option Value},(∀v,(x,v)∉binds)->bindL kindOf binds m x=m x
 | [],_,_=>rfl
 | (n,v)::r,m,h=>by
  unfold bindL;rw[oO fun w hw=>h w (mem_cons_of_mem _ hw)];split
  · have:x≠n:=by rintro rfl;exact h v mem_cons_self
    simp[this]
  · rfl
theorem mO{kindOf:Str->Option NameKind}{x:Str}:∀{binds:List (Str×Value)}{m:Str->Option Value},(∀v,(x,v)∉binds)->bindC kindOf binds m x=m x
 | [],_,_=>rfl
 | (n,v)::r,m,h=>by
  unfold bindC;rw[mO fun w hw=>h w (mem_cons_of_mem _ hw)];split
  · rfl
  · have:x≠n:=by rintro rfl;exact h v mem_cons_self
    simp[this]
theorem nO{kindOf:Str->Option NameKind}{x:Str}{v:Value}:∀{P:List Str}{vs:List Value}{i:Nat}{m:Str->Option Value},P.Nodup->P[i]?=some x->vs[i]?=some v->kindOf x=some .local->
 bindL kindOf (P.zip vs) m x=some v
 | [],_,_,_,_,h,_,_=>by simp at h
 | _::_,[],_,_,_,_,h,_=>by simp at h
 | p::P,w::vs,0,m,nd,h1,h2,hk=>by simp at h1 h2;subst h1;subst h2;show bindL kindOf ((p,w)::P.zip vs) m p=_;unfold bindL;rw[oO fun v hv=>(nodup_cons.mp nd).1 (of_mem_zip hv).1,if_pos hk];simp
 | p::P,w::vs,i+1,m,nd,h1,h2,hk=>by show bindL kindOf ((p,w)::P.zip vs) m x=_;unfold bindL;exact nO (i:=i) (nodup_cons.mp nd).2 (by simpa using h1) (by simpa using h2) hk
theorem lO{kindOf:Str->Option NameKind}{x:Str}{v:Value}:∀{P:List Str}{vs:List Value}{i:Nat}{m:Str->Option Value},P.Nodup->P[i]?=some x->vs[i]?=some v->kindOf x≠some .local->
 bindC kindOf (P.zip vs) m x=some v
 | [],_,_,_,_,h,_,_=>by simp at h
 | _::_,[],_,_,_,_,h,_=>by simp at h
 | p::P,w::vs,0,m,nd,h1,h2,hk=>by simp at h1 h2;subst h1;subst h2;show bindC kindOf ((p,w)::P.zip vs) m p=_;unfold bindC;rw[mO fun v hv=>(nodup_cons.mp nd).1 (of_mem_zip hv).1,if_neg hk];simp
 | p::P,w::vs,i+1,m,nd,h1,h2,hk=>by show bindC kindOf ((p,w)::P.zip vs) m x=_;unfold bindC;exact lO (i:=i) (nodup_cons.mp nd).2 (by simpa using h1) (by simpa using h2) hk
noncomputable def bE(N:List Str)(vs:List V):St:=vs.map some++List.replicate (N.length-vs.length) none
noncomputable def BE(CX:GG)(P:Program)(w:World)(K:Frag)(mg:Str->Option Value)(base:Heap)(N:List Str)(qual:Str)(scope:Scope)(f:Addr)(cd:Value)(A:Around)(outer:List Env)(s:Shared)(H:Hp)(E:XK):Cx where
 prog:=P
 w:=w
 K:=K
 mg:=mg
 base:=base
 A:=A.deeper (envOfC qual scope s.heap.objs.size f cd)
 N:=N
 s₀:=s
 H₀:=H
 env:=envOfC qual scope s.heap.objs.size f cd
 outer:=outer
 stack:=envOfC qual scope s.heap.objs.size f cd::outer
 ex:=[]
 calm:=true
 fn:=fun _=>true
 pn:=[]
 xe:=fun e s'=>wpAny (model P w) (A.deeper (envOfC qual scope s.heap.objs.size f cd)) (leaving (envOfC qual scope s.heap.objs.size f cd) e) (fun _ s''=>CX outer H s E e s'') (fun e' s''=>CX outer H s E e' s'') s'
theorem KO{sc:Scope}{n:Nat}{x:Str}(h:sc.names.lookup x=some .cell):∃c,(cellsFrom n sc.names []).lookup x=some c:=by have q:=PySem.W.cellsFrom_some sc.names n [] (.inl h);exact Option.isSome_iff_exists.mp q
theorem AT{CX:GG}{P:Program}{w:World}{K:Frag}{mg:Str->Option Value}{base:Heap}{N ps:List Str}{qual:Str}{scope:Scope}{f:Addr}{cd:Value}{A:Around}{outer:List Env}{s s1:Shared}{H:Hp}{E:XK}{us:List Value}{vs:List V}
 (S:ZA N ps scope) (hd:A.handled=none) (e0:WH P w K mg base A outer s H) (hl:vs.length=ps.length) (r:Vals vs us)
 (x:InCallC s s.heap.objs.size (bindL (envOfC qual scope s.heap.objs.size f cd).kindOf (ps.zip us) fun _=>none) (cellsFrom (s.heap.objs.size+1) scope.names []) (bindC (envOfC qual scope s.heap.objs.size f cd).kindOf (ps.zip us) fun _=>none) s1) :
 Inv (BE CX P w K mg base N qual scope f cd A outer s H E) [] (bE N vs) H s1:=by
 have hpl:ps.length<=N.length:=by have:=congrArg List.length S.pre;rw[length_take]at this;omega
 obtain⟨h1,tk,rfl,hk⟩:=x.done;have P5:∀b:Addr,b∉(BE CX P w K mg base N qual scope f cd A outer s H E).ex:=fun b z=>absurd (show b∈([]:List Addr)from z) (by simp)
 refine⟨⟨e0.mod,S.kind,rfl,rfl,fj _,fun y z c h1 h2=>?_,fun y hy=>?_,fun y c _ h=>?_,fun _=>hd,Around.frames_deeper e0.frames,.inr ⟨rfl,rfl⟩,fun b z=>absurd z (P5 b),e0.bs,e0.F4,fun b _ _=>P5 b,fun b z=>absurd z (P5 b),e0.A2,e0.B5⟩,
  rfl,e0.bare,Un.kept hk,⟨_,x.toInCall.ns,fun i y v h1 h2 h3=>?_⟩,fun y c h=>⟨_,x.cell y c h⟩,e0.hok.fresh (fj _),fun y c h=>?_,fun p hp=>absurd (show p∈([]:List (Addr×Obj))from hp) (by simp),e0.hok.kept hk,?_⟩
 · exact name_of_addr x.apart (PySem.mem_of_lookup h1) (PySem.mem_of_lookup h2)
 · have hy:scope.names.lookup y=some .cell\/scope.names.lookup y=some .free:=hy;rcases hy with hy | hy
   · exact KO hy
   · exact absurd rfl (S.V4 _ (PySem.mem_of_lookup hy))
 · exact Nat.le_of_lt (x.above y c (PySem.mem_of_lookup h))
 · have hi:i<vs.length:=by
    unfold bE at h2;by_cases hi:i<vs.length
    · exact hi
    · rw[kj (by simpa using hi)]at h2;rw[getElem?_replicate]at h2;split at h2<;>cases h2
   have ha:vs[i]?=some v:=by
    unfold bE at h2;rw[cj (by simpa using hi),getElem?_map]at h2;cases e:vs[i]? with
    | none=>rw[e]at h2;cases h2
    | some a=>rw[e]at h2;cases h2;rfl
   obtain⟨u,hu,rv⟩:=r.get ha;have hp:ps[i]?=some y:=by rw[<- S.pre,getElem?_take_of_lt (by omega)];exact h1
   have p8:ps.Nodup:=by rw[<- S.pre];exact S.nd.sublist (take_sublist _ _)
   refine⟨u,rv,?_⟩;rcases S.par y (mem_of_getElem? hp)with k | k
   · exact .inl ⟨k,nO p8 hp hu k⟩
   · obtain⟨c,e⟩:=KO (n:=s.heap.objs.size+1) k;refine .inr ⟨.inl k,c,e,?_⟩;have q:=x.cell y c e;rw[lO p8 hp hu (by show scope.names.lookup y≠_;rw[k];decide)]at q;exact q
 · exact e0.hok.fresh (Nat.le_of_lt (x.above y c (PySem.mem_of_lookup h)))
 · unfold bE;show _=N.length;rw[length_append,length_map,length_replicate];omega
theorem aX{CX:GG}{P:Program}{w:World}{K:Frag}{mg:Str->Option Value}{base:Heap}{k:Nat}{f:Addr}{name qual:Str}{params:Arguments}{body:List Stmt}{scope:Scope}{dV kV doc pm cdv ct oc:Value}{an od:Option Addr}
 {osl:Array (Option Value)} {N ps:List Str} {sp:Sp} (lk:K.lookup f=some ⟨oc,od,.func (fnOf name qual params body scope dV kV doc pm an cdv ct),osl⟩) (hcd:PySem.W.codeIn K cdv qual=true) (S:ZA N ps scope)
 (len:∀vs H Q E,sp vs H Q E->vs.length=ps.length)
 (hbody:∀(A:Around)(outer:List Env)(s:Shared)(H:Hp)(vs:List V)(Q:VK)(E:XK),M0 k (A.deeper (envOfC qual scope s.heap.objs.size f cdv))->sp vs H Q E->
  ∃t,N2 (BE CX P w K mg base N qual scope f cdv A outer s H E) body t/\t { nx:=fun _ H'=>Q .non H',rt:=Q } (bE N vs) H) :
 Z0 P w K mg base CX (k+1) f (fnOf name qual params body scope dV kV doc pm an cdv ct) ps sp:=by
 refine⟨len,fun A outer s H args us vs Q E hr e0 hb r hsp=>?_⟩;have hl:=len _ _ _ _ hsp;have KX:K.In s.heap:=e0.mod.K7.keeps fun b o e=>(e0.bs b o e).1
 have lim:s.heap.NoLimit:=e0.mod.nolimit.keeps fun b o e=>(e0.bs b o e).1
 have hkind:∀y∈ps.zip us,scope.names.lookup y.1=some .local\/(scope.names.lookup y.1=some .cell/\((cellsFrom (s.heap.objs.size+1) scope.names []).lookup y.1).isSome=true):=fun zz hy=>by
  obtain⟨n,v⟩:=zz;rcases S.par n (of_mem_zip hy).1 with q | q
  · exact .inl q
  · exact .inr ⟨q,PySem.W.cellsFrom_some _ _ _ (.inl q)⟩
 refine codeAny_call_function hr.depth (KX _ _ lk) rfl S.co S.gen rfl (PySem.W.codeRec_of KX hcd) (hb _ _ _ _ ?_);refine wpAny_newFunctionEnv_cells S.kind hkind fun env he s1 x=>?_
 subst he;refine⟨lim.keeps x.toInCall.keep,codeAny_func ?_⟩;obtain⟨t,ht,hq⟩:=hbody A outer s H vs Q E (hr.deeper _) hsp;have I:Inv (BE CX P w K mg base N qual scope f cdv A outer s H E) [] (bE N vs) H s1:=AT S hr.hd e0 hl r x;refine wpAny_mono (ht [] s1 (bE N vs) H _ I hq) (fun fl s' hs=>?_) fun e s' hs=>hs
 have fin:∀{σ':St}{H':Hp}{v:V}{u:Value},Inv (BE CX P w K mg base N qual scope f cdv A outer s H E) [] σ' H' s'->RelV v u->Q v H'->CE outer P w H s Q u s':=
  fun {σ' H' v u} J rv q=>⟨v,H',J.os,J.bare,J.base,J.hok,rv,q⟩
 cases fl with
 | ret u=>obtain⟨v,σ',H',J,rv,q⟩:=hs;exact fin J rv q
 | next=>obtain⟨σ',H',J,q⟩:=hs;exact fin (v:=V.non) (u:=Value.none) J rfl q
 | brk=>obtain⟨_,_,_,q⟩:=hs;exact False.elim q
 | cont=>obtain⟨_,_,_,q⟩:=hs;exact False.elim q
section
variable{X:Cx}{x:Str}{p pos:Pos}{e:Expr}{es:List Expr}{t:TA}{id T:String}{r:List V->Hp->VK->Prop}
noncomputable def fZ(r:List V->Hp->VK->Prop)(t:TA):TE:=fun σ H Q=>t σ H fun vs H1=>r vs H1 Q
theorem wM (hc:J0 X (.builtin id) r) (hg:Gl X x) (hm:X.mg x=none) (hv:bootBuiltins x=some (.builtin id)) (ha:PA X (e::es) t) (hn:x ≠ "__name__" :=by decide) (hdb:(x==("__debug__" :Str))=false:=by decide)
 (he:starEach (e::es) X.env=(false,eval e X.env)::starEach es X.env:=by rfl) (hpl:(backTo pos (starEach es X.env)).any (·.1)=false:=by rfl):PE X (.Call (.Name x p) (e::es) [] pos) (fZ r t):=by
 intro pins s σ H Q I h;refine wpAny_Call_Name_kw (yG I hg hm hv ?_ hn hdb);exact PyProof.Rows.callWith_builtin1 (WA (ha pos pins s σ H _ I h) fun us s1 ⟨vs,H1,I1,r1,q1⟩=>hc pins s1 σ H1 vs us Q I1 r1 q1) he hpl
theorem LU (hc:J0 X (.type T) r) (hg:Gl X x) (hm:X.mg x=none) (hv:bootBuiltins x=some (.type T)) (ha:PA X (e::es) t) (hn:x ≠ "__name__" :=by decide) (hdb:(x==("__debug__" :Str))=false:=by decide)
 (he:starEach (e::es) X.env=(false,eval e X.env)::starEach es X.env:=by rfl) (hpl:(backTo pos (starEach es X.env)).any (·.1)=false:=by rfl):PE X (.Call (.Name x p) (e::es) [] pos) (fZ r t):=by
 intro pins s σ H Q I h;refine wpAny_Call_Name_kw (yG I hg hm hv ?_ hn hdb);exact PyProof.Rows.callWith_type1 (WA (ha pos pins s σ H _ I h) fun us s1 ⟨vs,H1,I1,r1,q1⟩=>hc pins s1 σ H1 vs us Q I1 r1 q1) he hpl
end
end L2
namespace HT
section
open PySem.SeqAt
open PySem.AutoSeq1 (wpAny_loadPart')
open PySem.MeetsSeq PySem.MeetsSeq2 PySem.MeetsSeq3
end
section
variable{prog:Program}{w:World}{A:Around}{E:Value->Shared->Prop}{s:Shared}
noncomputable def P1(n d:Nat):Option Int->Nat
 | none=>d
 | some v=>if v<0 then(v+(n:Int)).toNat else min v.toNat n
theorem Y1(n d k:Nat):P1 n d (some (k:Int))=min k n:=by show(if(k:Int)<0 then((k:Int)+(n:Int)).toNat else min (k:Int).toNat n)=min k n;rw[if_neg (by omega),Int.toNat_natCast]
end
end HT
namespace L2
abbrev TO:=St->Hp->(Option Int->Hp->Prop)->Prop
def PO(X:Cx)(e:Option Expr)(t:TO):Prop:=
 ∀(pins:List (Addr×Obj))(s:Shared)(σ:St)(H:Hp)(Q:Option Int->Hp->Prop),Inv X pins σ H s->t σ H Q->
  wpAny (model X.prog X.w) X.A (evalPart e X.env) (fun u s'=>∃o H',Inv X pins σ H' s'/\IsPart u o/\Q o H') X.xe s
noncomputable def iW:TO:=fun _ H Q=>Q none H
noncomputable def pY(t:TE):TO:=fun σ H Q=>t σ H fun x H1=>∃i,x=.int i/\Q (some i) H1
theorem fT{ns:List Int}:∀{us:List Value},Vals (ns.map V.int) us->IntsAre us ns:=by
 induction ns with
 | nil=>intro us r;rw[T9]at r;cases r;exact .nil
 | cons n ns ih=>
  intro us r;rw[S9]at r;cases r with
  | cons r1 r2=>obtain⟨t,e⟩:=r1;subst e;exact .cons n t (ih r2)
section
variable{X:Cx}{e:Expr}{te:TE}{lo hi:Option Expr}{tl th:TO}{pos p2:Pos}
theorem RW:PO X none iW:=by intro pins s σ H Q I h;rw[evalPart_none];exact wpAny_pure ⟨none,H,I,.none,h⟩
theorem SV(h:PE X e te):PO X (some e) (pY te):=by
 intro pins s σ H Q I hw;rw[evalPart_some];refine WA (h pins s σ H _ I hw) fun u s1 zz=>?_
 obtain⟨x,H1,I1,r1,q1⟩:=zz;obtain⟨i,rfl,q⟩:=q1;obtain⟨t,rfl⟩:=r1;exact⟨some i,H1,I1,.int i t,q⟩
def aZ(X:Cx)(r:V->Option Int->Option Int->Hp->VK->Prop):Prop:=
 ∀(pins:List (Addr×Obj))(s:Shared)(σ:St)(H:Hp)(x:V)(v vl vu:Value)(lo hi:Option Int)(sl:Addr)(Q:VK),Inv X pins σ H s->RelV x v->s.heap.IsSliceOf sl vl vu .none->IsPart vl lo->IsPart vu hi->r x lo hi H Q->
  ∃T id,typeLookup (.type T) "__getitem__" =pure (some (.builtin id))/\s.TypeIs v T/\wpAny (model X.prog X.w) X.A (getItem v (.ref sl)) (EP X pins σ Q) X.xe s
noncomputable def sZ(r:V->Option Int->Option Int->Hp->VK->Prop)(te:TE)(tl th:TO):TE:=fun σ H Q=>te σ H fun x H1=>tl σ H1 fun l H2=>th σ H2 fun u H3=>r x l u H3 Q
theorem tV{r:V->Option Int->Option Int->Hp->VK->Prop}(hr:aZ X r)(he:PE X e te)(hl:PO X lo tl)(hu:PO X hi th):PE X (.Subscript e (.Slice lo hi none p2) pos) (sZ r te tl th):=by
 intro pins s σ H Q I h;refine Subscript_ (WA (he pins s σ H _ I h) fun v s1 zz=>?_);obtain⟨x,H1,I1,r1,q1⟩:=zz;refine wpAny_Slice (WA (hl pins s1 σ H1 _ I1 q1) fun vl s2 ⟨l,H2,I2,pl,q2⟩=>WA (hu pins s2 σ H2 _ I2 q2) fun vu s3 zz=>?_);obtain⟨u,H3,I3,pu,q3⟩:=zz;rw[evalPart_none];refine wpAny_pure ?_;have I4:Inv X pins σ H3 { s3 with heap:=s3.heap.push { cls:=.type "slice",data:=.fields #[vl,vu,.none] } }:=I3.kept (t':=s3.toks) fun b ob q=>Heap.get?_push_of_some _ q
 obtain⟨T,id,hT,ht,hg⟩:=hr pins { s3 with heap:=s3.heap.push { cls:=.type "slice",data:=.fields #[vl,vu,.none] } } σ H3 x v vl vu l u s3.heap.objs.size Q I4 r1 (Heap.IsSliceOf.new ..) pl pu q3;show wpAny (model X.prog X.w) X.A (subscriptTail e (.Slice lo hi none p2) v (.ref s3.heap.objs.size)) (EP X pins σ Q) X.xe { s3 with heap:=s3.heap.push { cls:=.type "slice",data:=.fields #[vl,vu,.none] } };exact tail_any (ops:=[.ref s3.heap.objs.size,v]) ht hT hg (by with_unfolding_all rfl)
def YF(xs:List V)(lo hi:Option Int):List V:=(xs.drop (HT.P1 xs.length 0 lo)).take (HT.P1 xs.length xs.length hi-HT.P1 xs.length 0 lo)
theorem FS(xs:List V)(lo hi:Option Int):(YF xs lo hi).length<=xs.length:=by unfold YF;rw[length_take,length_drop];omega
end
noncomputable def VF(n:Nat)(i:Int):Option Nat:=if 0<=i then(if i<n then some i.toNat else none)else if -(n:Int)<=i then some (i+n).toNat else none
def X1{α:Type}(xs:List α)(i:Int):Option α:=(VF xs.length i).bind fun j=>xs[j]?
theorem mP{n:Nat}{i:Int}{j:Nat}(h:VF n i=some j):seqIndex? i n=some j/\j<n/\-(n:Int)<=i/\i<n:=by
 unfold VF at h;by_cases h0:0<=i
 · rw[if_pos h0]at h;by_cases h1:i<n
   · rw[if_pos h1]at h;have e:i.toNat=j:=Option.some.inj h;exact⟨by rw[seqIndex_of h0 h1,e],by omega,by omega,h1⟩
   · rw[if_neg h1]at h;cases h
 · rw[if_neg h0]at h;by_cases h1:-(n:Int)<=i
   · rw[if_pos h1]at h;have e:(i+n).toNat=j:=Option.some.inj h;exact⟨by rw[seqIndex_neg (by omega) h1,e],by omega,h1,by omega⟩
   · rw[if_neg h1]at h;cases h
theorem uM{α:Type}{xs:List α}{i:Int}{v:α}(h:X1 xs i=some v):∃j,seqIndex? i xs.length=some j/\xs[j]?=some v/\j<xs.length/\-(xs.length:Int)<=i/\i<xs.length:=by
 unfold X1 at h;cases e:VF xs.length i with
 | none=>rw[e]at h;cases h
 | some j=>rw[e]at h;obtain⟨h1,h2,h3,h4⟩:=mP e;exact⟨j,h1,h,h2,h3,h4⟩
theorem lF{α:Type}{xs:List α}{j:Nat}{v:α}(h:xs[j]?=some v):X1 xs (j:Int)=some v:=by
 have hj:j<xs.length:=(aj h).1;have e:VF xs.length (j:Int)=some j:=by unfold VF;rw[if_pos (by omega),if_pos (by omega)];simp
 unfold X1;rw[e];exact h
noncomputable def bP(b:Expr):Prop:=∀o i,subscripted b false o i=operate [o,i] (getItem o i)
def j4(X:Cx)(r:R2):Prop:=
 ∀(value slice:Expr)(pins:List (Addr×Obj))(s:Shared)(σ:St)(H:Hp)(x y:V)(v u:Value)(Q:VK),Inv X pins σ H s->RelV x v->RelV y u->r x y H Q->
  subscripted slice false v u=operate [v,u] (getItem v u)->wpAny (model X.prog X.w) X.A (subscriptTail value slice v u) (EP X pins σ Q) X.xe s
def HQ(X:Cx)(id:String)(r:V->List V->Hp->VK->Prop):Prop:=
 ∀(pins:List (Addr×Obj))(s:Shared)(σ:St)(H:Hp)(x:V)(xs:List V)(v:Value)(us:List Value)(Q:VK),Inv X pins σ H s->RelV x v->Vals xs us->r x xs H Q->
  wpAny (model X.prog X.w) X.A (call (.builtin id) (v::us)) (EP X pins σ Q) X.xe s
section
variable{X:Cx}{a b:Expr}{ta tb:TE}{pos:Pos}
theorem j4.or{r r':R2}(h:j4 X r)(h':j4 X r'):j4 X (fun x y H Q=>r x y H Q\/r' x y H Q):=by
 intro value slice pins s σ H x y v u Q I rx ry q hs;rcases q with q | q
 · exact h value slice pins s σ H x y v u Q I rx ry q hs
 · exact h' value slice pins s σ H x y v u Q I rx ry q hs
theorem ZX{r:R2}(hr:j4 X r)(ha:PE X a ta)(hb:PE X b tb)(hs:bP b):PE X (.Subscript a b pos) (PQ r ta tb):=by intro pins s σ H Q I h;exact Subscript_ (SJ ha hb I h fun v u s2 x y H2 I2 rx ry q=>hr a b pins s2 σ H2 x y v u Q I2 rx ry q (hs _ _))
def yN(K:Frag):R2:=fun x y H Q=>∃p xs i v,x=.ref p/\y=.int i/\Y0 K H p xs/\X1 xs i=some v/\Q v H
def AN(K:Frag):R2:=fun x y H Q=>∃p xs i v,x=.ref p/\y=.int i/\HG K H p xs/\X1 xs i=some v/\Q v H
def zN:R2:=fun x y H Q=>∃z i c,x=.str z/\y=.int i/\z.length<=sizeLine/\X1 z.cps.toList i=some c/\Q (.str ⟨#[c]⟩) H
theorem o4:j4 X (yN X.K):=by
 intro value slice pins s σ H x y v u Q I rx ry h hs;obtain⟨p,xs,i,z,rfl,rfl,hq,he,q⟩:=h;cases rx;obtain⟨t,rfl⟩:=ry;obtain⟨its,r,pl,hz⟩:=I.list hq;obtain⟨j,h1,h2,h3,h4,h5⟩:=uM he;obtain⟨w,ew,g5⟩:=r.get h2;have hl:=r.length;have hn:=RF;have fin:EP X pins σ Q w s:=⟨z,H,I,g5,q⟩;by_cases h0:0<=i
 · have hj:i.toNat=j:=by rw[seqIndex_of h0 h5]at h1;exact Option.some.inj h1
   exact item_listR pl.isList h0 (by omega) (by rw[hj];simpa using ew) fin hs
 · have hj:(i+(its.toArray.size:Int)).toNat=j:=by rw[seqIndex_neg (by omega) h4]at h1;rw[size_toArray,<- hl];exact Option.some.inj h1
   exact subscriptTail_builtinR (x:=w) pl.isList.typeIs slot_list_getitem.lookup
    (wpAny_getItem_list_neg (Q:=fun r s'=>r=w/\EP X pins σ Q r s') pl.isList (by omega) (by rw[size_toArray]<;>omega) (by omega) (by rw[hj];simpa using ew) ⟨rfl,fin⟩) hs
theorem P4:j4 X (AN X.K):=by
 intro value slice pins s σ H x y v u Q I rx ry h hs;obtain⟨p,xs,i,z,rfl,rfl,hq,he,q⟩:=h;cases rx;obtain⟨t,rfl⟩:=ry;obtain⟨its,r,pl,hz⟩:=I.tuple hq;obtain⟨j,h1,h2,h3,h4,h5⟩:=uM he;obtain⟨w,ew,g5⟩:=r.get h2;have hl:=r.length;have hn:=RF;have fin:EP X pins σ Q w s:=⟨z,H,I,g5,q⟩;exact subscriptTail_builtinR (x:=w) pl.typeIs slot_tuple_getitem.lookup
  (getItem_tuple (j:=j) (Q:=fun r s'=>r=w/\EP X pins σ Q r s') pl (by omega) (by omega) (by rw[size_toArray,<- hl];exact h1) (by simpa using ew) ⟨rfl,fin⟩) hs
theorem DX:j4 X zN:=by
 intro value slice pins s σ H x y v u Q I rx ry h hs;obtain⟨z,i,c,rfl,rfl,hz,he,q⟩:=h;obtain⟨t,rfl⟩:=rx;obtain⟨t',rfl⟩:=ry;obtain⟨j,h1,h2,h3,h4,h5⟩:=uM he;have hl:z.cps.toList.length=z.length:=by simp[Str.length]
 rw[hl]at h1 h4 h5;have hn:=RF;exact tail_any (typeIs_str s z t) slot_str_getitem.lookup (getItem_str (c:=c) (by
  have e1:decide (i < -(2^63:Int))=false:=decide_eq_false (by omega);have e2:decide (i >=2^63)=false:=decide_eq_false (by omega);rw[e1,e2,Bool.or_false]) (by rw[h1];simpa using h2) ⟨.str ⟨#[c]⟩,H,I.tok _,⟨_,rfl⟩,q⟩) hs
def eZ(K:Frag):R2:=fun x y H Q=>yN K x y H Q\/AN K x y H Q\/zN x y H Q
theorem BX:j4 X (eZ X.K):=o4.or (P4.or DX)
theorem QS (its:List Value) (n j:Nat) (u:Value):Obj.mapSeq (·.setIfInBounds j u) { cls:=.type "list",data:=.seq its.toArray n }={ cls:=.type "list",data:=.seq (its.set j u).toArray n }:=by simp[Obj.mapSeq]
theorem Inv.lst{pins:List (Addr×Obj)}{σ:St}{H:Hp}{s:Shared}{p:Addr}{xs:List V}(I:Inv X pins σ H s)(h:H p=some (.lst xs)) :
 ∃(its:List Value) (n:Nat),Vals xs its/\s.heap.get? p=some { cls:=.type "list",data:=.seq its.toArray n }/\xs.length<=sizeLine:=by
 obtain⟨z,its,n,r,e⟩:=I.hok p _ h;exact⟨its,n,r,e,z⟩
theorem Inv.T4{pins:List (Addr×Obj)}{σ:St}{H:Hp}{s:Shared}{p:Addr}{xs ys:List V}{its its':List Value}{n n':Nat}{f:Obj->Obj}(I:Inv X pins σ H s)(h:H p=some (.lst xs))
 (ho:s.heap.get? p=some { cls:=.type "list",data:=.seq its.toArray n }) (hf:f { cls:=.type "list",data:=.seq its.toArray n }={ cls:=.type "list",data:=.seq its'.toArray n' }) (r:Vals ys its') (hz:ys.length<=sizeLine) (t:Nat) :
 Inv X pins σ (FB H p (.lst ys)) { s with heap:=s.heap.update p f,toks:=t }:=by
 have e:(s.heap.update p f).get? p=some { cls:=.type "list",data:=.seq its'.toArray n' }:=by rw[Heap.get?_update_self f ho (by rw[hf]<;>rfl),hf]
 refine I.write (x:=p) (e:=p) (by rw[h];trivial) (.inl rfl) (fun b u hb q=>(Heap.get?_update_other _ _ (Ne.symm hb)).trans q) ⟨_,e⟩ ?_;exact⟨hz,its',n',r,e⟩
def gY:V->V->V->Hp->(Hp->Prop)->Prop:=fun o i v H Q=>∃p xs k j,o=.ref p/\i=.int k/\H p=some (.lst xs)/\VF xs.length k=some j/\Q (FB H p (.lst (xs.set j v)))
theorem CV:pN X gY:=by
 intro pins s σ H o i v ov iv u Q I ro ri rv h;obtain⟨p,xs,k,j,rfl,rfl,hp,hj,q⟩:=h;cases ro;obtain⟨t,rfl⟩:=ri;obtain⟨its,n,r,ho,hz⟩:=I.lst hp;obtain⟨h1,h2,h3,h4⟩:=mP hj;have hl:=r.length;have hn:=RF;have I':Inv X pins σ (FB H p (.lst (xs.set j v))) { s with heap:=s.heap.update p (Obj.mapSeq (·.setIfInBounds j u)) }:=
  I.T4 hp ho (QS its n j u) (r.set rv j) (by rw[length_set];exact hz) s.toks
 by_cases h0:0<=k
 · have hk:k.toNat=j:=by rw[seqIndex_of h0 h4]at h1;exact Option.some.inj h1
   exact PySem.W.ki_setAt ho h0 (by omega) (by rw[size_toArray,<- hl];exact h4) (by rw[hk];exact⟨_,I',q⟩)
 · have hk:(k+(its.toArray.size:Int)).toNat=j:=by rw[seqIndex_neg (by omega) h3]at h1;rw[size_toArray,<- hl];exact Option.some.inj h1
   exact PySem.W.ki_setBack ho (by omega) (by rw[size_toArray,<- hl];exact h3) (by omega) (by rw[hk];exact⟨_,I',q⟩)
theorem BS(lo hi:Option Int)(n:Nat):(sliceBounds lo hi none n).1=((HT.P1 n 0 lo:Nat):Int)/\(sliceBounds lo hi none n).2.1=((HT.P1 n n hi:Nat):Int)/\(sliceBounds lo hi none n).2.2=1:=by
 refine⟨?_,?_,rfl⟩
 · cases lo with
   | none=>simp[sliceBounds,HT.P1]
   | some i=>
    simp only[sliceBounds,HT.P1,Option.getD_none,show(1:Int)>0 by decide,if_true];by_cases h:i<0
    · simp only[h,if_true]<;>omega
    · simp only[h,if_false]<;>omega
 · cases hi with
   | none=>simp[sliceBounds,HT.P1]
   | some i=>
    simp only[sliceBounds,HT.P1,Option.getD_none,show(1:Int)>0 by decide,if_true];by_cases h:i<0
    · simp only[h,if_true]<;>omega
    · simp only[h,if_false]<;>omega
theorem kS(its:List Value)(lo hi:Option Int):slicePick its.toArray lo hi none=((its.drop (HT.P1 its.length 0 lo)).take (HT.P1 its.length its.length hi-HT.P1 its.length 0 lo)).toArray:=by obtain⟨h1,h2,h3⟩:=BS lo hi its.toArray.size;unfold slicePick;rw[h1,h2,h3];simp only[sliceRange_one,pick_run,size_toArray]<;>rfl
def nR(K:Frag):V->Option Int->Option Int->Hp->VK->Prop:=fun x lo hi H Q=>∃a xs,x=.ref a/\Y0 K H a xs/\∀p,H p=none->Q (.ref p) (FB H p (.lst (YF xs lo hi)))
theorem eW:aZ X (nR X.K):=by intro pins s σ H x v vl vu lo hi sl Q I rx hs pl pu h;obtain⟨a,xs,rfl,hx,q⟩:=h;cases rx;obtain⟨its,r,ht,hz⟩:=I.list hx;have hlen:=r.length;refine⟨"list",_,slot_list_getitem.lookup,ht.isList.typeIs,?_⟩;refine wpAny_getItem_list_slice ht.isList hs pl pu .none (by simp) ?_ (by rw[size_toArray]<;>omega);rw[kS,<- hlen];refine⟨.ref s.heap.objs.size,_,I.laid (t':=s.toks) (o:=.lst (YF xs lo hi)) (fun b ob q=>Heap.get?_push_of_some _ q) (fj _) ?_,rfl,q _ (I.hok.fresh (fj _))⟩;exact⟨Nat.le_trans (FS xs lo hi) hz,_,0,(r.drop (HT.P1 xs.length 0 lo)).take (HT.P1 xs.length xs.length hi-HT.P1 xs.length 0 lo),Heap.get?_push_size _ rfl⟩
noncomputable def uE:V->Bool
 | .non=>true
 | .bl _=>true
 | .int _=>true
 | .str _=>true
 | _=>false
noncomputable def RH:V->V->Bool
 | .non,.non=>true
 | .bl a,.bl b=>a==b
 | .bl a,.int b=>(if a then 1 else 0)==b
 | .int a,.bl b=>a==(if b then 1 else 0)
 | .int a,.int b=>a==b
 | .str a,.str b=>a==b
 | _,_=>false
theorem OV{A:Around}{s:Shared}{y x:V}{u v:Value}(ry:RelV y u)(rx:RelV x v)(fy:uE y=true)(fx:uE x=true):SeqAt.EqAt A s u v (RH y x):=by
 cases y with
 | non=>
  cases ry;cases x with
  | non=>cases rx;exact SeqAt.EqAt.same _
  | bl b=>cases rx;exact SeqAt.EqAt.none_bool b
  | int b=>obtain⟨t,rfl⟩:=rx;exact SeqAt.EqAt.none_int b t
  | str b=>obtain⟨t,rfl⟩:=rx;exact SeqAt.EqAt.none_str b t
  | _=>exact absurd (show false=true from fx) dj
 | bl a=>
  cases ry;cases x with
  | non=>cases rx;exact SeqAt.EqAt.bool_none a
  | bl b=>cases rx;exact SeqAt.EqAt.bool_bool a b
  | int b=>obtain⟨t,rfl⟩:=rx;exact SeqAt.EqAt.bool_int a b t
  | str b=>obtain⟨t,rfl⟩:=rx;exact SeqAt.EqAt.bool_str a b t
  | _=>exact absurd (show false=true from fx) dj
 | int a=>
  obtain⟨t',rfl⟩:=ry;cases x with
  | non=>cases rx;exact SeqAt.EqAt.int_none a t'
  | bl b=>cases rx;exact SeqAt.EqAt.int_bool a t' b
  | int b=>obtain⟨t,rfl⟩:=rx;exact SeqAt.EqAt.int_int a t' b t
  | str b=>obtain⟨t,rfl⟩:=rx;exact SeqAt.EqAt.int_str a t' b t
  | _=>exact absurd (show false=true from fx) dj
 | str a=>
  obtain⟨t',rfl⟩:=ry;cases x with
  | non=>cases rx;exact SeqAt.EqAt.str_none a t'
  | bl b=>cases rx;exact SeqAt.EqAt.str_bool a t' b
  | int b=>obtain⟨t,rfl⟩:=rx;exact SeqAt.EqAt.str_int a t' b t
  | str b=>obtain⟨t,rfl⟩:=rx;exact SeqAt.EqAt.str_str a t' b t
  | _=>exact absurd (show false=true from fx) dj
 | _=>exact absurd (show false=true from fy) dj
def yF(x:V)(u:Value):Bool:=match u with
 | .none=>RH .non x
 | .bool b=>RH (.bl b) x
 | .int i _=>RH (.int i) x
 | .str z _=>RH (.str z) x
 | _=>false
theorem KP{x y:V}{u:Value}(r:RelV y u)(f:uE y=true):yF x u=RH y x:=by
 cases y with
 | non=>cases r;rfl
 | bl b=>cases r;rfl
 | int i=>obtain⟨t,rfl⟩:=r;rfl
 | str z=>obtain⟨t,rfl⟩:=r;rfl
 | _=>exact absurd (show false=true from f) dj
theorem tH{x:V}:∀{xs:List V}{us:List Value},Vals xs us->xs.all uE=true->us.any (yF x)=xs.any fun y=>RH y x
 | _,_,.nil,_=>rfl
 | y::xs,u::us,.cons r t,f=>by rw[all_cons,Bool.and_eq_true]at f;rw[any_cons,any_cons,KP r f.1,tH t f.2]
theorem uH{A:Around}{s:Shared}{x:V}{v:Value}(rx:RelV x v)(fx:uE x=true):∀{xs:List V}{us:List Value},Vals xs us->xs.all uE=true->∀u∈us,SeqAt.EqAt A s u v (yF x u)
 | _,_,.nil,_=>fun u hu=>by cases hu
 | y::xs,u::us,.cons r t,f=>fun u' hu=>by
  rw[all_cons,Bool.and_eq_true]at f;rcases mem_cons.mp hu with rfl | hu
  · rw[KP r f.1];exact OV r rx f.1 fx
  · exact uH rx fx t f.2 u' hu
def iN(x:V)(xs:List V):Bool:=xs.any fun y=>RH y x
def mR(K:Frag)(neg:Bool):R2:=fun x y H Q=>∃p xs,y=.ref p/\(Y0 K H p xs\/HG K H p xs)/\uE x=true/\xs.all uE=true/\Q (.bl (if neg then !iN x xs else iN x xs)) H
theorem JU:Q0 X (compareOp .In) (mR X.K false):=by
 intro pins s σ H x y v u Q I rx ry h;obtain⟨p,xs,rfl,hq,fx,fs,q⟩:=h;cases ry;rcases hq with hq | hq
 · obtain⟨its,r,pl,hz⟩:=I.list hq;refine SeqAt.in_listAt (yF x) pl.isList (fun w hw=>uH rx fx r fs w (by simpa using hw)) ⟨.bl _,H,I,rfl,?_⟩;rw[show its.toArray.any (yF x)=its.any (yF x) by simp,tH r fs];exact q
 · obtain⟨its,r,pl,hz⟩:=I.tuple hq;refine SeqAt.in_tupleAt (yF x) pl (fun w hw=>uH rx fx r fs w (by simpa using hw)) ⟨.bl _,H,I,rfl,?_⟩;rw[show its.toArray.any (yF x)=its.any (yF x) by simp,tH r fs];exact q
theorem vS:Q0 X (compareOp .NotIn) (mR X.K true):=by
 intro pins s σ H x y v u Q I rx ry h;obtain⟨p,xs,rfl,hq,fx,fs,q⟩:=h;cases ry;rcases hq with hq | hq
 · obtain⟨its,r,pl,hz⟩:=I.list hq;refine SeqAt.notIn_listAt (yF x) pl.isList (fun w hw=>uH rx fx r fs w (by simpa using hw)) ⟨.bl _,H,I,rfl,?_⟩;rw[show its.toArray.any (yF x)=its.any (yF x) by simp,tH r fs];exact q
 · obtain⟨its,r,pl,hz⟩:=I.tuple hq;refine SeqAt.notIn_tupleAt (yF x) pl (fun w hw=>uH rx fx r fs w (by simpa using hw)) ⟨.bl _,H,I,rfl,?_⟩;rw[show its.toArray.any (yF x)=its.any (yF x) by simp,tH r fs];exact q
theorem bS:J0 X (.builtin "len") (fun xs H Q=>∃p ys,xs=[.ref p]/\(Y0 X.K H p ys\/HG X.K H p ys)/\Q (.int ys.length) H):=by
 intro pins s σ H xs us Q I r h;obtain⟨p,ys,rfl,hq,q⟩:=h;obtain⟨u,rfl,rx⟩:=cE r;cases rx;have hn:=RF;rcases hq with hq | hq
 · obtain⟨its,r',pl,hz⟩:=I.list hq;have hlen:=r'.length;exact Calls.call_len_list pl.isList (by simp only[size_toArray]<;>omega) ⟨.int ys.length,H,I.tok _,⟨s.toks+1,by rw[size_toArray,hlen]⟩,q⟩
 · obtain⟨its,r',pl,hz⟩:=I.tuple hq;have hlen:=r'.length;exact len_tuple pl (by simp only[size_toArray]<;>omega) ⟨.int ys.length,H,I.tok _,⟨s.toks+1,by rw[size_toArray,hlen]⟩,q⟩
theorem IS:J0 X (.builtin "len") (fun xs H Q=>∃z,xs=[.str z]/\z.length<=sizeLine/\Q (.int z.length) H):=by intro pins s σ H xs us Q I r h;obtain⟨z,rfl,hz,q⟩:=h;obtain⟨u,rfl,t,rfl⟩:=cE r;have hn:=RF;exact len_str (by omega) ⟨.int z.length,H,I.tok _,⟨_,rfl⟩,q⟩
theorem J0.or{f:Value}{r r':List V->Hp->VK->Prop}(h:J0 X f r)(h':J0 X f r'):J0 X f (fun xs H Q=>r xs H Q\/r' xs H Q):=by
 intro pins s σ H xs us Q I rs q;rcases q with q | q
 · exact h pins s σ H xs us Q I rs q
 · exact h' pins s σ H xs us Q I rs q
theorem JS:J0 X (.type "list") (fun xs H Q=>∃p ys,xs=[.ref p]/\(Y0 X.K H p ys\/HG X.K H p ys)/\∀l,H l=none->Q (.ref l) (FB H l (.lst ys))):=by
 intro pins s σ H xs us Q I r h;obtain⟨p,ys,rfl,hq,q⟩:=h;obtain⟨u,rfl,rx⟩:=cE r;cases rx;have fin:∀(its:List Value),Vals ys its->ys.length<=sizeLine->∀(h':Heap)(c':Nat),(∀b o',s.heap.get? b=some o'->h'.get? b=some o')->
  h'.get? s.heap.objs.size=some { cls:=.type "list",dict:=none,data:=.seq its.toArray c',slots:=#[] }->EP X pins σ Q (.ref s.heap.objs.size) { s with heap:=h' }:=fun its r' hz h' c' kp e=>
  ⟨.ref s.heap.objs.size,_,I.laid (t':=s.toks) kp (fj _) (show U0 X.prog X.w _ h' _ (.lst ys)from⟨hz,its,c',r',e⟩),rfl,q _ (I.hok.fresh (fj _))⟩
 rcases hq with hq | hq
 · obtain⟨its,r',pl,hz⟩:=I.list hq;have hlen:=r'.length;obtain⟨o,ho,hc,n,hd⟩:=pl.isList;exact call_list_seq p (.inl rfl) ho hc hd (fun h' c' kp e=>fin its r' hz h' c' kp e) (by simp only[size_toArray]<;>omega)
 · obtain⟨its,r',pl,hz⟩:=I.tuple hq;have hlen:=r'.length;obtain⟨o,ho,hc,n,hd⟩:=pl;exact call_list_seq p (.inr rfl) ho hc hd (fun h' c' kp e=>fin its r' hz h' c' kp e) (by simp only[size_toArray]<;>omega)
def AR(K:Frag)(T:String)(x:V)(H:Hp):Prop:=match x with
 | .str _=>T = "str"
 | .int _=>T = "int"
 | .ref p=>(T = "list" /\ ∃xs,Y0 K H p xs)\/(T = "tuple" /\ ∃o,K.lookup p=some o/\o.cls=.type "tuple" /\ o.dict=none)\/
  (T = "dict" /\ ((∃kvs,H p=some (.dK kvs))\/∃kvs,H p=some (.dT kvs)))\/(T = "set" /\ ∃S n,H p=some (.set S n))
 | _=>False
theorem UW{pins:List (Addr×Obj)}{σ:St}{H:Hp}{s:Shared}{T:String}{x:V}{v:Value}(I:Inv X pins σ H s)(r:RelV x v)(ty:AR X.K T x H) :
 s.TypeIs v T/\∀a,v=.ref a->∃ob,s.heap.get? a=some ob/\ob.dict=none:=by
 cases x with
 | str z=>obtain⟨t,rfl⟩:=r;cases (show T = "str" from ty);exact⟨typeIs_str s z t,fun _ e=>nomatch e⟩
 | int i=>obtain⟨t,rfl⟩:=r;cases (show T = "int" from ty);exact⟨typeIs_int s i t,fun _ e=>nomatch e⟩
 | ref p=>
  cases r;rcases ty with⟨rfl,xs,hq⟩ | ⟨rfl,o,hk,hc,hd⟩ | ⟨rfl,hk⟩ | ⟨rfl,S,n,hk⟩
  · obtain⟨its,_,pl,_⟩:=I.list hq;refine⟨pl.isList.typeIs,fun a e=>?_⟩;cases e;obtain⟨o,n,e,c,hd,_⟩:=pl;exact⟨o,e,hd⟩
  · refine⟨⟨o,I.D3 p o hk,hc⟩,fun a e=>?_⟩;cases e;exact⟨o,I.D3 _ o hk,hd⟩
  · have z:∃o,s.heap.get? p=some o/\o.ExactDict:=by
     rcases hk with⟨kvs,hk⟩ | ⟨kvs,hk⟩
     · obtain⟨_,_,_,_,o,_,_,e,ex,_⟩:=I.hok p _ hk;exact⟨o,e,ex⟩
     · obtain⟨_,_,_,_,o,_,_,e,ex,_⟩:=I.hok p _ hk;exact⟨o,e,ex⟩
    obtain⟨o,e,ex⟩:=z;refine⟨⟨o,e,ex.1⟩,fun a e2=>?_⟩;cases e2;exact⟨o,e,ex.2.1⟩
  · obtain⟨o,_,_,_,e,ex,_⟩:=I.hok p _ hk;refine⟨⟨o,e,ex.1⟩,fun a e2=>?_⟩;cases e2;exact⟨o,e,ex.2.1⟩
 | _=>exact False.elim ty
def mZ(K:Frag)(T:String)(r:V->List V->Hp->VK->Prop)(to:TE)(t:TA):TE:=fun σ H Q=>to σ H fun x H1=>AR K T x H1/\t σ H1 fun xs H2=>r x xs H2 Q
variable{o e:Expr}{es:List Expr}{to:TE}{t:TA}{name:Str}{apos cpos:Pos}{T id:String}{r:V->List V->Hp->VK->Prop}
theorem MH (pa:PlainAttrs T) (slot:Slot T name id) (hty:typeOf (.builtin id)=pure (.type "method_descriptor")) (hm:HQ X id r) (ho:PE X o to) (ha:PA X (e::es) t)
 (hbase:attributeBase o name X.env (eval o X.env)=eval o X.env:=by rfl)
 (hfew:((backTo cpos (starEach (e::es) X.env)).all (fun x=>!x.1)&&(backToKw cpos (keywordEach [] X.env)).all (fun x=>x.1.isSome)
  && decide ((e::es).length+([]:List Keyword).length+(if([]:List Keyword).isEmpty then 0 else 1)<30))=true:=by rfl)
 (hline:(apos.endLine==cpos.line)=true:=by rfl) (hs:starEach (e::es) X.env=(false,eval e X.env)::starEach es X.env:=by rfl) (hplain:(backTo cpos (starEach es X.env)).any (·.1)=false:=by rfl) :
 PE X (.Call (.Attribute o name apos) (e::es) [] cpos) (mZ X.K T r to t):=by
 intro pins s σ H Q I h;refine wpAny_Call_method_late hbase hfew hline rfl (WA (ho pins s σ H _ I h) fun v s1 zz=>?_);obtain⟨x,H1,I1,r1,ty,q1⟩:=zz;obtain⟨h1,h2⟩:=UW I1 r1 ty;refine⟨T,id,pa,slot,hty,h1,h2,?_⟩;have hA:=ha cpos pins s1 σ H1 _ I1 q1;rw[hs]at hA ⊢;refine Calls.callWith_builtin (by show(false || (backTo cpos (starEach es X.env)).any (·.1))=false;rw[hplain]<;>rfl) (Calls.evalArgs_plain ?_);exact WA hA fun us s2 ⟨vs,H2,I2,r2,q2⟩=>hm pins s2 σ H2 x vs v us Q I2 r1 r2 q2
end
def YY(X:Cx)(id:String)(r:V->List V->Hp->VK->Prop):Prop:=
 ∀(pins:List (Addr×Obj))(s:Shared)(σ:St)(H:Hp)(x:V)(xs:List V)(v:Value)(us:List Value)(Q:VK),Inv X pins σ H s->RelV x v->Vals xs us->r x xs H Q->
  wpAny (model X.prog X.w) X.A (call (.builtin id) (v::us)) (EP X pins σ Q) X.xe s
theorem Vals.one:∀{x:V}{us:List Value},Vals [x] us->∃u,us=[u]/\RelV x u
 | _,_,.cons r .nil=>⟨_,rfl,r⟩
theorem Vals.zero:∀{us:List Value},Vals [] us->us=[]
 | _,.nil=>rfl
theorem Vals.dropLast{xs:List V}{us:List Value}(h:Vals xs us):Vals xs.dropLast us.dropLast:=by
 induction h with
 | nil=>exact .nil
 | cons r t ih=>
  cases t with
  | nil=>exact .nil
  | cons q t'=>exact .cons r ih
section
variable{X:Cx}{pins:List (Addr×Obj)}{σ:St}{H:Hp}{s:Shared}{l b:Addr}{xs ys zs:List V}
theorem Inv.M5{its its':List Value}{n:Nat}{f:Array Value->Array Value}{t':Nat}(I:Inv X pins σ H s)(hH:H l=some (.lst xs))
 (e:s.heap.get? l=some { cls:=.type "list",data:=.seq its.toArray n }) (hf:f its.toArray=its'.toArray) (hv:Vals ys its') (hz:ys.length<=sizeLine) :
 Inv X pins σ (FB H l (.lst ys)) { s with heap:=s.heap.update l (Obj.mapSeq f),toks:=t' }:=by
 have q:=PySem.IsL.update e f;rw[hf]at q;refine I.write (x:=l) (e:=l) (by rw[hH];exact trivial) (.inl rfl) (fun b' u hb hu=>(Heap.get?_update_other s.heap (Obj.mapSeq f) (Ne.symm hb)).trans hu) ⟨_,q⟩ ?_;exact⟨hz,its',_,hv,q⟩
theorem Inv.K5{its:List Value}{t':Nat}(I:Inv X pins σ H s)(hv:Vals ys its)(hz:ys.length<=sizeLine) :
 Inv X pins σ (FB H s.heap.objs.size (.lst ys)) { s with heap:=s.heap.push { cls:=.type "list",data:=.seq its.toArray },toks:=t' }:=
 I.laid (fun _ _ q=>Heap.get?_push_of_some _ q) (fj _) ⟨hz,its,0,hv,Heap.get?_push_size _ rfl⟩
theorem Inv.fresh(I:Inv X pins σ H s):H s.heap.objs.size=none:=I.hok.fresh (fj _)
theorem Inv.Q4 (I:Inv X pins σ H s) (hH:H l=some (.lst xs)):xs.length<=sizeLine/\∃(its:List Value) (n:Nat),Vals xs its/\xs.length=its.length/\s.heap.get? l=some { cls:=.type "list",data:=.seq its.toArray n }:=by obtain⟨z,its,n,r,e⟩:=I.hok l _ hH;exact⟨z,its,n,r,r.length,e⟩
theorem oV{n:Nat}(h:n<=sizeLine):Builtin.List.listTooLong n=false:=by unfold Builtin.List.listTooLong;exact decide_eq_false (by omega)
end
section
variable{X:Cx}
def cW:V->List V->Hp->VK->Prop:=fun x vs H Q=>∃l xs y,x=.ref l/\vs=[y]/\H l=some (.lst xs)/\xs.length<sizeLine/\Q .non (FB H l (.lst (xs++[y])))
theorem yO:YY X "list.append" cW:=by intro pins s σ H x vs v us Q I rx rv h;obtain⟨l,xs,y,rfl,rfl,hH,hz,q⟩:=h;cases rx;obtain⟨u,rfl,ru⟩:=rv.one;obtain⟨z,its,n,r,hl,e⟩:=I.Q4 hH;refine call_meets F.slot_list_append ⟨_,e,rfl⟩ F.entry_list_append (F.args_list_append_2 _ _) (PySem.list_append l its.toArray n u (by rw[size_toArray];omega)) ⟨e,?_⟩;refine⟨.non,_,I.M5 (its':=its++[u]) hH e (by simp) (r.append (.cons ru .nil)) ?_,rfl,q⟩;rw[length_append,length_singleton];omega
def dW:V->List V->Hp->VK->Prop:=fun x vs H Q=>∃l b xs zs,x=.ref l/\vs=[.ref b]/\H l=some (.lst xs)/\H b=some (.lst zs)/\xs.length+zs.length<=sizeLine/\Q .non (FB H l (.lst (xs++zs)))
theorem lT:YY X "list.extend" dW:=by
 intro pins s σ H x vs v us Q I rx rv h;obtain⟨l,b,xs,zs,rfl,rfl,hH,hB,hz,q⟩:=h;cases rx;obtain⟨u,rfl,ru⟩:=rv.one;cases ru;obtain⟨z,its,n,r,hl,e⟩:=I.Q4 hH;obtain⟨z2,its2,n2,r2,hl2,e2⟩:=I.Q4 hB;have hsz:its.toArray.size+its2.toArray.size<=sizeLine:=by rw[size_toArray,size_toArray];omega
 have J5:¬(!its.toArray.isEmpty&&Builtin.List.listTooLong (its.toArray.size+its2.toArray.size))=true:=by rw[oV hsz,Bool.and_false];exact dj
 refine call_meets F.slot_list_extend ⟨_,e,rfl⟩ F.entry_list_extend (F.args_list_extend_2 _ _)
  (AutoSeq1.list_extend_list_list_0 l its.toArray n b its2.toArray n2 J5 (by rw[size_toArray];omega) (by omega)) ⟨e,e2,?_⟩
 refine⟨.non,_,I.M5 (its':=its++its2) hH e (by simp) (r.append r2) ?_,rfl,q⟩;rw[length_append];omega
end
section
variable{prog:Program}{w:World}{A:Around}{E:Value->Shared->Prop}{s:Shared}
end
section
variable{X:Cx}
end
end L2
namespace V7
open PySem.W PySem.Calls
theorem MR{P:Params}{h:Heap}:∀(ns:List Int)(vs:List Value),WellAll P h vs (ns.map WData.int)->IntsAre vs ns:=by
 intro ns
 induction ns with
 | nil=>intro vs w;rw[T9]at w;cases w;exact .nil
 | cons n ns ih=>
  intro vs w;rw[S9]at w;cases w with
  | cons a b=>cases a;exact .cons _ _ (ih _ b)
theorem TU{l:OpenLaw}{n:Nat}(hn:l.most=some n){P:Params}{h:Heap}{args:List WData}{vals:List Value}
 (hpre:l.row.toRowW.claim.pre args=true) (hwl:WellAll P h vals args) :
 ∃a vs ns,vals=[Value.ref a]/\args=[WData.list (ns.map WData.int)]/\h.get? a=some { cls:=.type "list",data:=.seq vs.toArray }/\IntsAre vs ns/\ns.length<=n:=by
 have hsh:WShape.hasAll [] args [.list .int]=true:=(pre_splitW hpre).1;have hc:l.pre.holds [] { args:=args }=true:=(pre_splitW hpre).2;obtain⟨d,r,rfl,h1,h2⟩:=hasAllW_cons hsh;obtain rfl:=hasAllW_nil h2;obtain⟨xs,rfl,h3⟩:=hasW_list h1;obtain⟨ns,rfl⟩:=items_int h3;have hlen:ns.length<=n:=by
  unfold OpenLaw.pre at hc;have h4:(WTm.not (.lt (.lit (.int (n:Int))) (.len (.arg 0)))).holds [] { args:=[.list (ns.map .int)] }=true:=by have h4:=(holds_andW hc).1;rw[hn]at h4;exact h4
  have h5:=condW_of h4 (w_not (w_lt w_lit (w_len_list (w_arg rfl))));rw[length_map]at h5;refine Nat.le_of_not_lt fun q=>?_
  have q':(n:Int)<((ns.length:Nat):Int):=by omega
  first
   | (rw[decide_eq_true q']at h5;exact absurd h5 (by decide))
   | (simp at h5;omega)
 cases hwl with
 | cons w1 w2=>
  cases w2;cases w1 with
  | list ho hall=>exact⟨_,_,ns,rfl,rfl,ho,MR ns _ hall,hlen⟩
theorem PU(l:OpenLaw)(args:List WData):l.row.toRowW.claim.post args (.bool true) args=true:=
 postW_of (r:=l.row.toRowW) (X:=(true==true))
  (show WShape.has [] (.bool true) .bool=true by first | rfl | decide | simp[WShape.has,WShape.arms,WShape.armsAll])
  (show(WTm.eq .res (.lit (.bool true))).value [] { args:=args,res:=some (.bool true),after:=args }=some (.bool (true==true))from w_eq_bool (w_res rfl) w_lit) rfl
theorem O2{l:OpenLaw}{n:Nat}{q:Program}{loose:List Str}{XP:(Str->Option Value)->Heap->Prop}{YP:World->Heap->Prop}{d:DefRec}
 (hn:l.most=some n) (hdf:d.params.defaults=[])
 (call:∀(w:World)(s₀ s₁:Shared)(mg mb:Str->Option Value)(fa:Addr)(o:Obj)(pm cd doc:Value)(a:Addr)(vs:List Value)(ns:List Int),
  Ground q loose [] XP w s₀ mg mb s₁.heap->YP w s₁.heap->
  s₁.heap.get? fa=some o->o.data=.func (docDef d.name d.params d.body d.scope pm cd doc)->s₁.heap.CodeRec cd d.name->mg d.name=some (.ref fa)->
  s₁.heap.get? a=some { cls:=.type "list",data:=.seq vs.toArray }->IntsAre vs ns->ns.length<=n->s₁.gens=#[]->
  codeAny (model l.prog w) callerA (.call (.ref fa) ⟨[.ref a],[]⟩) (fun r s'=>r=.ok (.ret (.bool true))/\OldK s₁.heap s'.heap/\s'.os=s₁.os/\AllBare s'.gens) s₁) :
 WalkO q loose XP YP l.row.toRowW d [] (fun f vs=>PySem.call f vs):=by
 intro w s₀ s₁ mg mb G Y fa o pm cd doc dV kV ho hd hcd hD hmg hg args vals as hpre hlay hrd hwl hlo;obtain rfl:dV=.none:=Dflts.none hD hdf;obtain rfl:kV=.none:=Dflts.noKw hD;obtain⟨a,vs,ns,rfl,rfl,hobj,hints,hlen⟩:=TU hn hpre hwl;refine enter_call (codeAny_mono (call w s₀ s₁ mg mb fa o pm cd doc a vs ns G Y ho (fd_plain hd) hcd hmg hobj hints hlen hg) fun r s' hq=>?_);obtain⟨rfl,h2,h3,h4⟩:=hq;exact⟨.inl ⟨.bool true,.bool true,[],rfl,fun _=>rfl,.bool true,PU l _,fun _=>⟨List.Pairwise.nil,fun _ hm=>(nomatch hm)⟩⟩,h2,h3,h4⟩
section
variable{prog:Program}{w:World}{A:Around}{E:Value->Shared->Prop}{s:Shared}{K:Frag}
end
end V7
namespace L2
theorem jO:∀{vs:List Value}{ns:List Int},IntsAre vs ns->Vals (ns.map V.int) vs
 | _,_,.nil=>.nil
 | _,_,.cons n t h=>.cons ⟨t,rfl⟩ (jO h)
noncomputable def OJ(H:Hp):Prop:=∀b,H b=none\/∃o xs,H b=some (.W2 o (.lst xs))
theorem iU{P:Program}{w:World}{K:Frag}{mg mb:Str->Option Value}{CX:GG}{k:Nat}{fa a:Addr}{fd:FuncData}{x:Str}{sp:Sp}{s₁:Shared}{vs:List Value}{ns:List Int}
 (KX:K.In s₁.heap) (hns:s₁.heap.Ns mainGlobals mg) (hb:s₁.heap.Ns builtinsNs mb) (hbb:∀x:Str,x ≠ "__name__" ->mb x=bootBuiltins x) (hlim:s₁.heap.NoLimit) (hg:s₁.gens=#[])
 (ha:s₁.heap.get? a=some { cls:=.type "list",data:=.seq vs.toArray }) (hi:IntsAre vs ns) (hl:ns.length<=sizeLine) (hr:M0 k callerA)
 (F:∀base:Heap,K.In base->base.Ns mainGlobals mg->Z0 P w K mg base CX k fa fd [x] sp) (hbind:∀(s:Shared)(u:Value),BindsTo s fd ⟨[u],[]⟩ [(x,u)])
 (hsp:∀H:Hp,OJ H->Y0 K H a (ns.map V.int)->sp [.ref a] H (fun v _=>v=.bl true) fun _ _ _=>False)
 (D7:∀H e s',CX [] H s₁ (fun _ _ _=>False) e s'->False) :
 codeAny (model P w) callerA (.call (.ref fa) ⟨[.ref a],[]⟩) (fun r s'=>r=.ok (.ret (.bool true))/\OldK s₁.heap s'.heap/\s'.os=s₁.os/\AllBare s'.gens) s₁:=by
 have rv:=jO hi;have lenV:=hi.length;have core:∀H:Hp,OJ H->Y0 K H a (ns.map V.int)->Z1 P w H s₁.heap->(∀b,H b≠none->b=a)->(H a≠none->K.lookup a=none)->
  codeAny (model P w) callerA (.call (.ref fa) ⟨[.ref a],[]⟩) (fun r s'=>r=.ok (.ret (.bool true))/\OldK s₁.heap s'.heap/\s'.os=s₁.os/\AllBare s'.gens) s₁:=by
  intro H hO hS hok hA hK;have l3:∀{b:Addr}{o:Obj},s₁.heap.get? b=some o->H b=none->(EE s₁.heap H).get? b=some o:=fun e n=>HU e n
  have P5:∀{b:Addr}{o:Obj}{es:Array DictEntry}{ep:Nat},s₁.heap.get? b=some o->o.data=.dict es ep->H b=none:=fun {b o es ep} e d=>by
   cases q:H b with
   | none=>rfl
   | some u=>have e':b=a:=hA b (by rw[q];simp);subst e';rw[ha]at e;cases e;have d':Data.seq vs.toArray _=Data.dict es ep:=d;cases d'
  have t7:∀{b:Addr}{m:Str->Option Value},s₁.heap.Ns b m->(EE s₁.heap H).Ns b m:=fun {b m} ⟨o,es,ep,e,d,r⟩=>⟨o,es,ep,l3 e (P5 e d),d,r⟩
  have d8:K.In (EE s₁.heap H):=fun b o e=>l3 (KX b o e) (by
   cases q:H b with
   | none=>rfl
   | some u=>
    have e':b=a:=hA b (by rw[q];simp);subst e';rw[hK (by rw[q];simp)]at e;cases e)
  have hM:Mod K mg (EE s₁.heap H):=⟨d8,t7 hns,⟨mb,t7 hb,hbb⟩,let ⟨mc,h1,h2⟩:=hlim;⟨mc,t7 h1,h2⟩⟩;have e0:WH P w K mg (EE s₁.heap H) callerA [] s₁ H:=⟨rfl,hM,fun b o e=>FW e,Nat.le_of_eq (yT _ _),trivial,fun b hb=>absurd (show b∈([]:List Addr)from hb) (by simp),hok,.of_eq hg⟩;refine codeAny_mono ((F _ d8 (t7 hns)).run callerA [] s₁ H ⟨[.ref a],[]⟩ [.ref a] [.ref a] _ _ hr e0 (hbind s₁ (.ref a)) (.cons rfl .nil) (hsp H hO hS)) fun r s' h=>?_
  cases r with
  | error e=>exact(D7 H e s' h).elim
  | ok fl=>
   cases fl with
   | next=>exact False.elim h
   | brk=>exact False.elim h
   | cont=>exact False.elim h
   | ret u=>
    obtain⟨v,H',os,bare,un,hok',r',q⟩:=h;have q':v=.bl true:=q;subst q';obtain rfl:u=Value.bool true:=r';refine⟨rfl,OldK.of_keep fun b o e=>?_,os,bare⟩;cases q:H b with
    | none=>exact un.keep b o e q (by intro z;exact absurd (show b∈([]:List Addr)from z) (by simp)) (by simp)
    | some u=>
     rcases hO b with z | ⟨ob,xs,z⟩
     · rw[q]at z;cases z
     · have z2:=un.N1 b ob _ z;obtain⟨e1,_⟩:=hok b _ z;obtain⟨e2,_⟩:=hok' b _ z2;rw[e]at e1;cases e1;exact e2
 cases hk:K.lookup a with
 | some o=>have e:=KX a o hk;rw[ha]at e;cases e;refine core (fun _=>none) (fun _=>.inl rfl) (.inr ⟨_,vs.toArray,_,hk,rfl,rfl,rfl,by rw[size_toArray,lenV];exact hl,by simpa using rv⟩) (fun b u z=>by have z':(none:Option HO)=some u:=z;cases z') (fun b z=>absurd rfl z) fun z=>absurd rfl z
 | none=>
  refine core (fun b=>if b=a then some (.W2 { cls:=.type "list",data:=.seq vs.toArray } (.lst (ns.map V.int)))else none) (fun b=>?_) (.inl (.inr ⟨{ cls:=.type "list",data:=.seq vs.toArray },if_pos rfl⟩)) (fun b u z=>?_) (fun b z=>?_) fun _=>hk
  · by_cases hb:b=a
    · exact .inr ⟨_,_,if_pos hb⟩
    · exact .inl (if_neg hb)
  · by_cases hb:b=a
    · have z':=(if_pos hb).symm.trans z;cases z';subst hb;exact⟨ha,by rw[length_map];exact hl,vs,_,rv,ha⟩
    · have z':=(if_neg hb).symm.trans z;cases z'
  · by_cases hb:b=a
    · exact hb
    · exact absurd (if_neg hb) z
theorem jW{l:PySem.W.OpenLaw}{n k:Nat}{q:Program}{loose:List Str}{XP:(Str->Option Value)->Heap->Prop}{YP:World->Heap->Prop}{d:DefRec}{K:Params->Frag}{CX:World->GG}{sp:World->Sp}{x:Str}
 (hn:l.most=some n) (hn2:n<=sizeLine) (hdf:d.params.defaults=[]) (hr:M0 k callerA)
 (hY:∀(w:World)(h:Heap),YP w h->(K w.params).In h)
 (F:∀(w:World)(mg:Str->Option Value)(fa:Addr)(h:Heap),(K w.params).In h->h.Ns mainGlobals mg->mg d.name=some (.ref fa)->
  ∃fd:FuncData,(∀(s:Shared)(u:Value),BindsTo s fd ⟨[u],[]⟩ [(x,u)])/\
   ∀base:Heap,(K w.params).In base->base.Ns mainGlobals mg->Z0 l.prog w (K w.params) mg base (CX w) k fa fd [x] (sp w))
 (hsp:∀(w:World)(H:Hp)(a:Addr)(ns:List Int),ns.length<=n->OJ H->Y0 (K w.params) H a (ns.map V.int)->sp w [.ref a] H (fun v _=>v=.bl true) fun _ _ _=>False)
 (D7:∀(w:World)(H:Hp)(s:Shared)(e:Value)(s':Shared),CX w [] H s (fun _ _ _=>False) e s'->False) :
 PySem.W.WalkO q loose XP YP l.row.toRowW d [] (fun f vs=>PySem.call f vs):=by
 refine V7.O2 hn hdf fun w s₀ s₁ mg mb fa o pm cd doc a vs ns G Y ho hd hcd hmg hobj hints hlen hg=>?_
 have KX:=hY w _ Y;obtain⟨fd,hb,hF⟩:=F w mg fa _ KX G.T.g hmg;exact iU KX G.T.g G.T.b G.T.builtins G.T.nolimit hg hobj hints (Nat.le_trans hlen hn2) hr hF hb (fun H hO hS=>hsp w H a ns hlen hO hS) fun H e s'=>D7 w H s₁ e s'
noncomputable def wG(s:Stmt):Arguments:=match s with
 | .FunctionDef _ a _ _ _ _ _ _ _ _=>a
 | _=>{ posonlyargs:=[],args:=[],vararg:=none,kwonlyargs:=[],kw_defaults:=[],kwarg:=none,defaults:=[] }
noncomputable def nE(s:Stmt):List Stmt:=match s with
 | .FunctionDef _ _ b _ _ _ _ _ _ _=>b
 | _=>[]
noncomputable def AA(s:Stmt):Scope:=match s with
 | .FunctionDef _ _ _ _ _ _ sc _ _ _=>sc
 | _=>{ kind:=.function,names:=[],isGenerator:=false,isCoroutine:=false }
noncomputable abbrev wF:GG:=fun _ _ _ _ _ _=>False
noncomputable abbrev E0:XK:=fun _ _ _=>False
theorem yQ{X:Cx}:wJ wF X E0:=fun _ _ _ _ _ _ _ h=>h.elim
structure Z3(K:Frag)(x qual:Str)(st:Stmt)(f:Addr)(fd:FuncData):Prop where
 ex:∃(oc:Value)(od:Option Addr)(kV doc pm:Value)(an:Option Addr)(cdv ct:Value)(osl:Array (Option Value)),
  fd=fnOf x qual (wG st) (nE st) (AA st) .none kV doc pm an cdv ct/\K.lookup f=some ⟨oc,od,.func fd,osl⟩/\PySem.W.codeIn K cdv qual=true
 kp:keepIn K (.ref f)=true
section
variable{P:Program}{w:World}{K:Frag}{mg:Str->Option Value}{base:Heap}
theorem Z3.ok{x qual:Str}{st:Stmt}{f:Addr}{fd:FuncData}{N ps:List Str}{k:Nat}{sp:Sp}(F:Z3 K x qual st f fd)(S:ZA N ps (AA st))(len:∀vs H Q E,sp vs H Q E->vs.length=ps.length)
 (hbody:∀(cdv:Value)(A:Around)(outer:List Env)(s:Shared)(H:Hp)(vs:List V)(Q:VK)(E:XK),M0 k (A.deeper (envOfC qual (AA st) s.heap.objs.size f cdv))->sp vs H Q E->
  ∃t,N2 (BE wF P w K mg base N qual (AA st) f cdv A outer s H E).W4 (nE st) t/\t { nx:=fun _ H'=>Q .non H',rt:=Q } (bE N vs) H):Z0 P w K mg base wF (k+1) f fd ps sp:=by
 obtain⟨oc,od,kV,doc,pm,an,cdv,ct,osl,rfl,lk,hcd⟩:=F.ex;refine aX lk hcd S len fun A outer s H vs Q E hr hsp=>?_
 obtain⟨t,h,q⟩:=hbody cdv A outer s H vs Q E hr hsp;exact⟨t,h.W4,q⟩
theorem Z3.binds{x qual:Str}{st:Stmt}{f:Addr}{fd:FuncData}{ps:List Str}(F:Z3 K x qual st f fd)
 (h:∀(kV doc pm:Value)(an:Option Addr)(cdv ct:Value)(us:List Value),us.length=ps.length->bindArgs (fnOf x qual (wG st) (nE st) (AA st) .none kV doc pm an cdv ct) ⟨us,[]⟩=pure (ps.zip us)):Binds K fd ps []:=by
 obtain⟨oc,od,kV,doc,pm,an,cdv,ct,osl,rfl,lk,hcd⟩:=F.ex;exact .all (h kV doc pm an cdv ct)
theorem OP{x qual:Str}{st:Stmt}{f:Addr}{oc:Value}{od an:Option Addr}{osl:Array (Option Value)}{kV doc pm cdv ct:Value}(l:K.lookup f=some ⟨oc,od,.func (fnOf x qual (wG st) (nE st) (AA st) .none kV doc pm an cdv ct),osl⟩)
 (c:PySem.W.codeIn K cdv qual=true) (k:keepIn K (.ref f)=true):Z3 K x qual st f (fnOf x qual (wG st) (nE st) (AA st) .none kV doc pm an cdv ct):=⟨⟨oc,od,kV,doc,pm,an,cdv,ct,osl,rfl,l,c⟩,k⟩
end
section
variable{X:Cx}
end
theorem gE{A B:Prop}(h:B):if false=true then A else B:=by rw[if_neg dj];exact h
theorem iE{A B:Prop}(h:A):if true=true then A else B:=by rw[if_pos rfl];exact h
noncomputable def Same(H H':Hp):Prop:=∀b o,H b=some o->H' b=some o
theorem Same.refl(H:Hp):Same H H:=fun _ _ h=>h
theorem Same.trans{H H1 H2:Hp}(a:Same H H1)(b:Same H1 H2):Same H H2:=fun c o h=>b c o (a c o h)
theorem Same.free{H H':Hp}(e:Same H H'){l:Addr}(h:H' l=Option.none):H l=Option.none:=by
 cases q:H l with
 | none=>rfl
 | some o=>rw[e l o q]at h;cases h
open PySem.AutoSeq1 (wpAny_loadPart')
open PySem.SeqAt PySem.MeetsSeq PySem.MeetsSeq2 PySem.MeetsSeq3
theorem ET(l b:Addr)(items items2:Array Value)(n n2:Nat)(dd dd2:Option Addr)(sl sl2:Array (Option Value))(hc0:items.size+items2.size<=sizeLine) :
 Meets (Builtin.«list.__add__» ⟨[.ref l,.ref b],[]⟩) (fun _ R s=>s.heap.get? l=some { cls:=.type "list",dict:=dd,data:=.seq items n,slots:=sl }/\s.heap.get? b=some { cls:=.type "list",dict:=dd2,data:=.seq items2 n2,slots:=sl2 }/\R (.ok (.ret (Value.ref s.heap.objs.size))) { s with heap:=s.heap.push { cls:=Value.type "list",data:=Data.seq (items++items2) },toks:=s.toks }):=
 .of_wp fun prog w A R s h=>by obtain⟨hp,g,d,tk,os⟩:=s;obtain⟨hl,hb,h⟩:=h;have f1:=AutoSeq1.idx_int;have f2:=AutoSeq1.sub_tuple_tuple;have f3:=AutoSeq1.sub_list_list;have f4:=AutoSeq1.sub_tuple_list;have f5:=AutoSeq1.sub_list_tuple;wp_walk using wpAny_loadPart' hl,wpAny_loadPart' hb;exact⟨_,rfl,h⟩
section
variable{X:Cx}
theorem GW:Q0 X (binaryOp .Add) (fun x y H Q=>∃l b xs zs,x=.ref l/\y=.ref b/\Y0 X.K H l xs/\Y0 X.K H b zs/\xs.length+zs.length<=sizeLine/\∀p,H p=none->Q (.ref p) (FB H p (.lst (xs++zs)))):=by
 intro pins s σ H x y v u Q I rx ry h;obtain⟨l,b,xs,zs,rfl,rfl,hH,hB,hz,q⟩:=h;cases rx;cases ry;obtain⟨its,r,⟨⟨c1,d1,t1,Q7⟩,n,e,k1,k2,k3⟩,z⟩:=I.list hH;obtain⟨its2,r2,⟨⟨c2,d2,t2,sl2⟩,n2,e2,m1,m2,m3⟩,z2⟩:=I.list hB;simp only at k1 k2 k3 m1 m2 m3;subst k1 k2 k3 m1 m2 m3;have hl:=r.length;have hl2:=r2.length;refine concat_meets ⟨_,e,rfl⟩ ⟨_,e2,rfl⟩ noFill_list_add seq_list_add F.slot_list_add F.entry_list_add (F.args_list_add_2 _ _) (ET l b its.toArray its2.toArray n n2 none none Q7 sl2 (by rw[size_toArray,size_toArray];omega)) ⟨e,e2,?_⟩;have ea:its.toArray++its2.toArray=(its++its2).toArray:=by simp
 rw[ea];exact⟨.ref _,_,I.K5 (t':=s.toks) (r.append r2) (by rw[length_append];omega),rfl,q _ I.fresh⟩
theorem gT{us:List Value}{ns:List Int}(h:IntsAre us ns):∃xs:Array (Int×Tok),us.toArray=intItems xs/\xs.toList.map (·.1)=ns:=by obtain⟨xs,e⟩:=h.allInts.items;refine⟨xs,e,?_⟩;have e2:=h.numsOf;rw[<- nums_intItems,<- e];exact e2
theorem dU (hc:X.calm=true):J0 X (.builtin "sum") (fun xs H Q=>∃(p:Addr) (ns:List Int),xs=[.ref p]/\Y0 X.K H p (ns.map V.int)/\Q (.int ns.sum) H):=by
 intro pins s σ H xs us Q I r h;obtain⟨p,ns,rfl,hq,q⟩:=h;obtain⟨u,rfl,rx⟩:=cE r;cases rx;obtain⟨its,r',pl,hz⟩:=I.list hq;obtain⟨ys,e,e2⟩:=gT (fT r');have hl:=pl.isList;rw[e]at hl;refine sum_intListG (I.ok.hd hc) hl fun h' tk t' k=>⟨.int ns.sum,H,I.kept k,⟨t',?_⟩,q⟩
 rw[preSum_eq,take_of_length_le (by simp),e2]
def bZ(K:Frag)(H:Hp)(x:V)(t:String):Prop:=match x with
 | .non=>t = "NoneType"
 | .bl _=>t = "bool"
 | .int _=>t = "int"
 | .str _=>t = "str"
 | .ref a=>(t = "list" /\ ∃xs,Y0 K H a xs)\/(t = "tuple" /\ ∃xs,HG K H a xs)
 | _=>False
theorem vU {T:String}:J0 X (.builtin "isinstance") (fun xs H Q=>∃x t b,xs=[x,.ty T]/\bZ X.K H x t/\PySem.W.kitOne X.K (.type t) (.type T)=some b/\Q (.bl b) H):=by
 intro pins s σ H xs us Q I r h;obtain⟨x,t,b,rfl,ty,e,q⟩:=h;obtain⟨u,u2,rfl,rx,ry⟩:=FQ r;cases ry;have fin:∀tk,EP X pins σ Q (.bool b) { s with toks:=tk }:=fun tk=>⟨.bl b,H,I.tok tk,rfl,q⟩
 cases x with
 | non=>cases (show t = "NoneType" from ty);cases rx;exact PySem.W.kia_one PySem.W.kitx_none I.D3 True.intro e (fun z=>nomatch z) fin
 | bl y=>cases (show t = "bool" from ty);cases rx;exact PySem.W.kia_one PySem.W.kitx_bool I.D3 True.intro e (fun z=>nomatch z) fin
 | int i=>cases (show t = "int" from ty);obtain⟨_,rfl⟩:=rx;exact PySem.W.kia_one PySem.W.kitx_int I.D3 True.intro e (fun z=>nomatch z) fin
 | str y=>cases (show t = "str" from ty);obtain⟨_,rfl⟩:=rx;exact PySem.W.kia_one PySem.W.kitx_str I.D3 True.intro e (fun z=>nomatch z) fin
 | ref a=>
  cases rx;rcases ty with⟨rfl,ys,sq⟩ | ⟨rfl,ys,sq⟩
  · obtain⟨its,_,⟨o,n,h1,h2,_,_⟩,_⟩:=I.list sq;exact PySem.W.kia_one PySem.W.kitx_list I.D3 ⟨o,h1,h2⟩ e (fun z=>nomatch z) fin
  · obtain⟨its,_,⟨o,h1,h2,_⟩,_⟩:=I.tuple sq;exact PySem.W.kia_one PySem.W.kitx_tuple I.D3 ⟨o,h1,h2⟩ e (fun z=>nomatch z) fin
 | J3 _=>exact False.elim ty
 | flt _=>exact False.elim ty
 | ty _=>exact False.elim ty
end
open PySem.AutoSeq1 (wpAny_loadPart')
open PySem.SeqAt PySem.MeetsSeq PySem.MeetsSeq2 PySem.MeetsSeq3
theorem VT(l b:Addr)(items items2:Array Value)(n n2:Nat)(dd dd2:Option Addr)(sl sl2:Array (Option Value))(e:Nat->Bool) :
 Meets (Builtin.«tuple.__ne__» ⟨[.ref l,.ref b],[]⟩)
  (fun A R s=>s.heap.get? l=some { cls:=.type "tuple",dict:=dd,data:=.seq items n,slots:=sl }/\s.heap.get? b=some { cls:=.type "tuple",dict:=dd2,data:=.seq items2 n2,slots:=sl2 }/\
   (∀j (h1:j<items.size) (h2:j<items2.size),EqAt A.in1 s items[j] items2[j] (e j))/\
   R (.ok (.ret (.bool (!((List.range (min items.size items2.size)).all e&&items.size==items2.size))))) s):=
 .of_wp fun prog w A R s h=>by
  obtain⟨hp,g,d,tk,os⟩:=s;obtain⟨hl,hb,he,h⟩:=h;have f2:=AutoSeq1.sub_tuple_tuple;have hZ:(items.toList.zip items2.toList).length=min items.size items2.size:=by simp
  wp_walk using wpAny_loadPart' hl,wpAny_loadPart' hb,wpAny_forIn_list _ (fun rest b s'=>b.1=none/\s'=⟨hp,g,d,tk,os⟩/\∃i,rest=(items.toList.zip items2.toList).drop i/\
   R (.ok (.ret (.bool (!(((List.range (min items.size items2.size)).drop i).all e&&items.size==items2.size))))) ⟨hp,g,d,tk,os⟩) _
  case turn=>
   rintro⟨y,x⟩ rest b s' ⟨hb',rfl,i,hz,hR⟩;have hlt:i<(items.toList.zip items2.toList).length:=by
    rcases Nat.lt_or_ge i (items.toList.zip items2.toList).length with h' | h'
    · exact h'
    · rw[drop_of_length_le h']at hz;cases hz
   have hm:i<min items.size items2.size:=hZ ▸ hlt;have h1:i<items.size:=Nat.lt_of_lt_of_le hm (Nat.min_le_left _ _);have h2:i<items2.size:=Nat.lt_of_lt_of_le hm (Nat.min_le_right _ _);rw[drop_eq_getElem_cons hlt]at hz;injection hz with hyx hrest
   have hy:y=items[i]:=by have:=congrArg Prod.fst hyx;simpa using this
   have hx:x=items2[i]:=by have:=congrArg Prod.snd hyx;simpa using this
   subst hy hx;have hd:(List.range (min items.size items2.size)).drop i=i::(List.range (min items.size items2.size)).drop (i+1):=by simp[drop_eq_getElem_cons,hm]
   rw[hd,all_cons]at hR;refine wpAny_bind (he i h1 h2 prog w _ _ ?_);cases hy:e i with
   | true=>
    rw[hy]at hR
    wp_walk
    exact⟨rfl,rfl,i+1,hrest,by simpa only[Bool.true_and]using hR⟩
   | false=>
    rw[hy]at hR
    wp_walk
    exact⟨_,rfl,by simpa only[Bool.false_and,Bool.not_false]using hR⟩
  case fin=>
   rintro⟨b1,b2⟩ s' ⟨hb',rfl,i,hz,hR⟩;simp only at hb';subst hb';have hge:min items.size items2.size<=i:=by
    rcases Nat.lt_or_ge i (items.toList.zip items2.toList).length with h' | h'
    · rw[drop_eq_getElem_cons h']at hz;cases hz
    · exact hZ ▸ h'
   rw[drop_of_length_le (by simpa using hge)]at hR
   wp_walk
   exact⟨_,rfl,by simpa[Builtin.Tuple.tupleCompareSizes,bne]using hR⟩
  case h=>exact⟨rfl,rfl,0,rfl,by simpa only[drop_zero]using h⟩
theorem nT(l b:Addr)(items items2:Array Value)(n n2:Nat)(dd dd2:Option Addr)(sl sl2:Array (Option Value))(hsz:items.size=items2.size)(e:Nat->Bool)(k:Nat) :
 ∀i:Nat,items.size-i=k->Meets (Builtin.«list.__eq__.loop» ⟨[.ref l,.ref b,rawInt i,rawInt 3],[]⟩)
  (fun A R s=>s.heap.get? l=some { cls:=.type "list",dict:=dd,data:=.seq items n,slots:=sl }/\s.heap.get? b=some { cls:=.type "list",dict:=dd2,data:=.seq items2 n2,slots:=sl2 }/\
   (∀j (h1:j<items.size) (h2:j<items2.size),EqAt A.in1 s items[j] items2[j] (e j))/\
   R (.ok (.ret (.bool (!(((List.range items.size).drop i).all e))))) s):=by
 induction k with
 | zero=>
  intro i hk prog w A R s h;obtain⟨hp,g,d,tk,os⟩:=s;obtain⟨hl,hb,he,h⟩:=h
  wp_walk using wpAny_loadPart' hl,wpAny_loadPart' hb
  have hi1:items[((i:Nat):Int).toNat]?=none:=by simp;omega
  have hi2:items2[((i:Nat):Int).toNat]?=none:=by simp;omega
  have hd:(List.range items.size).drop i=[]:=by simp;omega
  rw[hd]at h;rw[hi1,hi2]
  wp_walk using wpAny_loadPart' hl,wpAny_loadPart' hb
  show R (.ok (.ret (.bool (items.size !=items2.size)))) _;rw[hsz];simpa using h
 | succ k ih=>
  intro i hk prog w A R s h;obtain⟨hp,g,d,tk,os⟩:=s;obtain⟨hl,hb,he,h⟩:=h
  wp_walk using wpAny_loadPart' hl,wpAny_loadPart' hb
  have hlt:i<items.size:=by omega
  have hlt2:i<items2.size:=by omega
  have hi1:items[((i:Nat):Int).toNat]?=some items[i]:=by simp[hlt]
  have hi2:items2[((i:Nat):Int).toNat]?=some items2[i]:=by simp[hlt2]
  have hd:(List.range items.size).drop i=i::(List.range items.size).drop (i+1):=by simp[drop_eq_getElem_cons,hlt]
  have hc:((i:Int)+1)=((i+1:Nat):Int):=by push_cast;rfl
  rw[hd,all_cons]at h;rw[hi1,hi2];refine wpAny_bind (he i hlt hlt2 prog w _ _ ?_);cases hb':e i with
  | true=>
   rw[hb']at h
   wp_walk
   rw[hc];exact⟨plainId_quiet plain_eq_loop _,codeAny_builtin entry_eq_loop (by
    rw[Around.under_plainId plain_eq_loop _];exact ih (i+1) (by omega) prog w A R _ ⟨hl,hb,he,by simpa only[Bool.true_and]using h⟩)⟩
  | false=>
   rw[hb']at h
   wp_walk using wpAny_loadPart' hl,wpAny_loadPart' hb
   rw[hi1,hi2]
   wp_walk
   simpa using h
theorem FT(l b:Addr)(items items2:Array Value)(n n2:Nat)(dd dd2:Option Addr)(sl sl2:Array (Option Value))(hsz:items.size=items2.size)(e:Nat->Bool) :
 Meets (Builtin.«list.__ne__» ⟨[.ref l,.ref b],[]⟩)
  (fun A R s=>s.heap.get? l=some { cls:=.type "list",dict:=dd,data:=.seq items n,slots:=sl }/\s.heap.get? b=some { cls:=.type "list",dict:=dd2,data:=.seq items2 n2,slots:=sl2 }/\
   (∀j (h1:j<items.size) (h2:j<items2.size),EqAt A.in1 s items[j] items2[j] (e j))/\
   R (.ok (.ret (.bool (!((List.range items.size).all e))))) s):=by
 intro prog w A R s h;obtain⟨hp,g,d,tk,os⟩:=s;obtain⟨hl,hb,he,h⟩:=h;have f3:=AutoSeq1.sub_list_list;have hne:¬(items.size !=items2.size)=true:=by simp[hsz]
 wp_walk using wpAny_loadPart' hl,wpAny_loadPart' hb
 exact⟨plainId_quiet plain_eq_loop _,codeAny_builtin entry_eq_loop (by
  rw[Around.under_plainId plain_eq_loop _];exact nT l b items items2 n n2 dd dd2 sl sl2 hsz e _ 0 rfl prog w A R _ ⟨hl,hb,he,by simpa only[drop_zero]using h⟩)⟩
theorem LR(l b:Addr)(items items2:Array Value)(n n2:Nat)(dd dd2:Option Addr)(sl sl2:Array (Option Value))(hc0:(items.size !=items2.size)=true) :
 Meets (Builtin.«list.__ne__» ⟨[.ref l,.ref b],[]⟩)
  (fun _ R s=>s.heap.get? l=some { cls:=.type "list",dict:=dd,data:=.seq items n,slots:=sl }/\s.heap.get? b=some { cls:=.type "list",dict:=dd2,data:=.seq items2 n2,slots:=sl2 }/\
   R (.ok (.ret (.bool true))) s):=
 .of_wp fun prog w A R s h=>by
  obtain⟨hp,g,d,tk,os⟩:=s;obtain⟨hl,hb,h⟩:=h;have f3:=AutoSeq1.sub_list_list
  wp_walk using wpAny_loadPart' hl,wpAny_loadPart' hb
  exact⟨_,rfl,h⟩
section
variable{prog:Program}{w:World}{A:Around}{E:Value->Shared->Prop}{s:Shared}{Q:Value->Shared->Prop}
theorem oT{l b:Addr}{items items2:Array Value}{e:Nat->Bool}(hl:s.heap.IsTuple l items)(hb:s.heap.IsTuple b items2)(hu:A.units<cLine)
 (he:∀j (h1:j<items.size) (h2:j<items2.size),EqAt A.in1 s items[j] items2[j] (e j)) (h:Q (.bool (!((List.range (min items.size items2.size)).all e&&items.size==items2.size))) s):wpAny (model prog w) A (compareOp .NotEq (.ref l) (.ref b)) Q E s:=by
 obtain⟨⟨cls,dd,data,sl⟩,ho,hc,n,hd⟩:=id hl;obtain⟨⟨cls2,dd2,data2,sl2⟩,ho2,hc2,n2,hd2⟩:=id hb;simp only at hc hd hc2 hd2;subst hc hd hc2 hd2;exact richCompare_meets_room (op:=.NotEq) ⟨_,ho,rfl⟩ ⟨_,ho2,rfl⟩ F.slot_tuple_ne F.entry_tuple_ne (F.args_tuple_ne_2 _ _) (VT l b items items2 n n2 dd dd2 sl sl2 e) ⟨ho,ho2,he,⟨(fun x=>nomatch x),h⟩⟩ hu
theorem nU{l b:Addr}{items items2:Array Value}{e:Nat->Bool}(hl:s.heap.IsList l items)(hb:s.heap.IsList b items2)(hsz:items.size=items2.size)(hu:A.units<cLine)
 (he:∀j (h1:j<items.size) (h2:j<items2.size),EqAt A.in1 s items[j] items2[j] (e j)) (h:Q (.bool (!((List.range items.size).all e))) s):wpAny (model prog w) A (compareOp .NotEq (.ref l) (.ref b)) Q E s:=by
 obtain⟨⟨cls,dd,data,sl⟩,ho,hc,n,hd⟩:=id hl;obtain⟨⟨cls2,dd2,data2,sl2⟩,ho2,hc2,n2,hd2⟩:=id hb;simp only at hc hd hc2 hd2;subst hc hd hc2 hd2;exact richCompare_meets_room (op:=.NotEq) ⟨_,ho,rfl⟩ ⟨_,ho2,rfl⟩ F.slot_list_ne F.entry_list_ne (F.args_list_ne_2 _ _) (FT l b items items2 n n2 dd dd2 sl sl2 hsz e) ⟨ho,ho2,he,⟨(fun x=>nomatch x),h⟩⟩ hu
theorem OS{l b:Addr}{items items2:Array Value}(hl:s.heap.IsList l items)(hb:s.heap.IsList b items2)(hsz:(items.size !=items2.size)=true)(hu:A.units<cLine)
 (h:Q (.bool true) s):wpAny (model prog w) A (compareOp .NotEq (.ref l) (.ref b)) Q E s:=by
 obtain⟨⟨cls,dd,data,sl⟩,ho,hc,n,hd⟩:=id hl;obtain⟨⟨cls2,dd2,data2,sl2⟩,ho2,hc2,n2,hd2⟩:=id hb;simp only at hc hd hc2 hd2;subst hc hd hc2 hd2;exact richCompare_meets_room (op:=.NotEq) ⟨_,ho,rfl⟩ ⟨_,ho2,rfl⟩ F.slot_list_ne F.entry_list_ne (F.args_list_ne_2 _ _) (LR l b items items2 n n2 dd dd2 sl sl2 hsz) ⟨ho,ho2,⟨(fun x=>nomatch x),h⟩⟩ hu
end
end L2
namespace SM
inductive Dt where
 | non | bl (b:Bool) | int (i:Int) | str (x:Str) | tup (xs:List Dt) | lst (xs:List Dt) | ref (n:Nat) | U1 (xs:List Int)
inductive Ob where
 | lst (xs:List Dt)
 | ins (x:Str) (fs:List (Str×Dt))
 | dk (kvs:List (UC×Dt))
 | dt (kvs:List (List Int×Dt))
 | df (kvs:List (List Int×Dt))
noncomputable abbrev HI:=List Ob
noncomputable abbrev LI:=List (Option Dt)
structure Rg where
 v:List Addr
 z:List Addr
noncomputable def Rg.no(ρ:Rg)(a:Addr):Prop:=a∉ρ.v/\a∉ρ.z
noncomputable def Rg.add(ρ:Rg)(p:Addr):Rg:=⟨ρ.v++[p],ρ.z⟩
noncomputable def Rg.hide(ρ:Rg)(p:Addr):Rg:=⟨ρ.v,p::ρ.z⟩
noncomputable def Rg.nil:Rg:=⟨[],[]⟩
def TupAt(K:Frag)(H:Hp)(ρ:Rg)(a:Addr)(vs:List V):Prop:=
 (ρ.no a/\Rd H a (.tup vs))\/
  ∃(o:Obj) (its:Array Value) (n:Nat),K.lookup a=some o/\o.cls=.type "tuple" /\ o.data=.seq its n/\its.size<=sizeLine/\Vals vs its.toList
def LstAt(K:Frag)(H:Hp)(ρ:Rg)(a:Addr)(vs:List V):Prop:=
 (ρ.no a/\Rd H a (.lst vs))\/
  ∃(o:Obj) (its:Array Value) (n:Nat),K.lookup a=some o/\o.cls=.type "list" /\ o.dict=none/\o.data=.seq its n/\its.size<=sizeLine/\Vals vs its.toList
theorem TupAt.sq{K:Frag}{H:Hp}{ρ:Rg}{a:Addr}{vs:List V}(h:TupAt K H ρ a vs):HG K H a vs:=by
 rcases h with⟨_,h⟩ | h
 · exact .inl h
 · exact .inr h
theorem LstAt.sq{K:Frag}{H:Hp}{ρ:Rg}{a:Addr}{vs:List V}(h:LstAt K H ρ a vs):Y0 K H a vs:=by
 rcases h with⟨_,h⟩ | h
 · exact .inl h
 · exact .inr h
mutual
noncomputable def n0(K:Frag)(H:Hp)(ρ:Rg):Dt->V->Prop
 | .non,v=>v=.non
 | .bl b,v=>v=.bl b
 | .int i,v=>v=.int i
 | .str x,v=>v=.str x
 | .tup xs,v=>∃a vs,v=.ref a/\TupAt K H ρ a vs/\YZ K H ρ xs vs
 | .lst xs,v=>∃a vs,v=.ref a/\LstAt K H ρ a vs/\YZ K H ρ xs vs
 | .ref n,v=>∃a,v=.ref a/\ρ.v[n]?=some a
 | .U1 xs,v=>∃a,v=.ref a/\ρ.no a/\H a=some (.tup (xs.map V.int))
noncomputable def YZ(K:Frag)(H:Hp)(ρ:Rg):List Dt->List V->Prop
 | [],vs=>vs=[]
 | x::xs,vs=>∃v r,vs=v::r/\n0 K H ρ x v/\YZ K H ρ xs r
end
structure Ext(ρ ρ':Rg)(H H':Hp):Prop where
 pre:∃e,ρ'.v=ρ.v++e/\∀a∈e,H a=none
 hid:ρ'.z=ρ.z
 keep:∀a o,H a=some o->a∉ρ.v->H' a=some o
 live:∀a,H' a=none->H a=none
 fz:∀a o u,H a=some (.W2 o u)->H' a=some (.W2 o u)
theorem Ext.refl(ρ:Rg)(H:Hp):Ext ρ ρ H H:=⟨⟨[],by simp,by simp⟩,rfl,fun _ _ h _=>h,fun _ h=>h,fun _ _ _ h=>h⟩
theorem Ext.Q5{ρ ρ':Rg}{H H':Hp}(x:Ext ρ ρ' H H'){a:Addr}{o:HO}(h:H a=some o)(n:a∉ρ.v):a∉ρ'.v:=by
 obtain⟨e,e',hn⟩:=x.pre;rw[e'];intro hm;rcases mem_append.mp hm with hm | hm
 · exact n hm
 · have:=hn a hm;rw[h]at this;cases this
theorem Ext.T3{ρ ρ':Rg}{H H':Hp}(x:Ext ρ ρ' H H'){a:Addr}{o:HO}(h:H a=some o)(n:ρ.no a):ρ'.no a:=⟨x.Q5 h n.1,by rw[x.hid];exact n.2⟩
theorem Ext.trans{ρ ρ1 ρ2:Rg}{H H1 H2:Hp}(x:Ext ρ ρ1 H H1)(y:Ext ρ1 ρ2 H1 H2):Ext ρ ρ2 H H2:=by
 refine⟨?_,y.hid.trans x.hid,fun a o h n=>y.keep a o (x.keep a o h n) (x.Q5 h n),fun a h=>x.live a (y.live a h),fun a o u h=>y.fz a o u (x.fz a o u h)⟩;obtain⟨e,q1,h1⟩:=x.pre;obtain⟨e',q2,h2⟩:=y.pre;refine⟨e++e',by rw[q2,q1,append_assoc],fun a ha=>?_⟩;rcases mem_append.mp ha with ha | ha
 · exact h1 a ha
 · exact x.live a (h2 a ha)
theorem Ext.get{ρ ρ':Rg}{H H':Hp}(x:Ext ρ ρ' H H'){n:Nat}{a:Addr}(h:ρ.v[n]?=some a):ρ'.v[n]?=some a:=by obtain⟨e,e',_⟩:=x.pre;have:=(aj h).1;rw[e',cj this];exact h
theorem Ext.fresh{ρ:Rg}{H:Hp}{p:Addr}{o:HO}(h:H p=none):Ext ρ ρ H (FB H p o):=by
 refine⟨⟨[],by simp,by simp⟩,rfl,fun a u e _=>?_,fun a e=>?_,fun a o u e=>by rw[HA (rC e h)];exact e⟩
 · rw[HA (rC e h)];exact e
 · by_cases ha:a=p
   · subst ha;exact h
   · rw[HA ha]at e;exact e
theorem Ext.own{ρ:Rg}{H:Hp}{p:Addr}{o:HO}(h:H p=none):Ext ρ (ρ.add p) H (FB H p o):=by refine⟨⟨[p],rfl,fun a ha=>?_⟩,rfl,(Ext.fresh (ρ:=ρ) h).keep,(Ext.fresh (ρ:=ρ) h).live,(Ext.fresh (ρ:=ρ) h).fz⟩;rw[mem_singleton.mp ha];exact h
noncomputable def JQ(H:Hp)(a:Addr):Prop:=∀o u,H a≠some (.W2 o u)
theorem cG{H:Hp}{a:Addr}{vs:List V}(h:H a=some (.lst vs)):JQ H a:=fun _ _ e=>by rw[h]at e;cases e
theorem Ext.write{ρ:Rg}{H:Hp}{a:Addr}{o:HO}(ha:a∈ρ.v)(nf:JQ H a):Ext ρ ρ H (FB H a o):=by
 refine⟨⟨[],by simp,by simp⟩,rfl,fun b u e n=>?_,fun b e=>?_,fun b q u e=>by rw[HA (fun z:b=a=>nf q u (by rw[<- z];exact e))];exact e⟩
 · rw[HA (fun z=>n (by rw[z];exact ha))];exact e
 · by_cases hb:b=a
   · subst hb;rw[bD]at e;cases e
   · rw[HA hb]at e;exact e
structure L0(ρ ρ':Rg)(H H':Hp):Prop where
 no:∀a u,H a=some u->ρ.no a->ρ'.no a
 eq:∀a u,H a=some u->ρ.no a->H' a=some u
 ix:∀(n:Nat) a,ρ.v[n]?=some a->ρ'.v[n]?=some a
 fz:∀a o u,H a=some (.W2 o u)->H' a=some (.W2 o u)
theorem Ext.same{ρ ρ':Rg}{H H':Hp}(x:Ext ρ ρ' H H'):L0 ρ ρ' H H':=⟨fun _ _ e n=>x.T3 e n,fun _ _ e n=>x.keep _ _ e n.1,fun _ _ e=>x.get e,x.fz⟩
theorem L0.trans{ρ ρ1 ρ2:Rg}{H H1 H2:Hp}(x:L0 ρ ρ1 H H1)(y:L0 ρ1 ρ2 H1 H2):L0 ρ ρ2 H H2:=
 ⟨fun a u e n=>y.no a u (x.eq a u e n) (x.no a u e n),fun a u e n=>y.eq a u (x.eq a u e n) (x.no a u e n),fun n a e=>y.ix n a (x.ix n a e),fun a o u e=>y.fz a o u (x.fz a o u e)⟩
theorem TupAt.same{K:Frag}{ρ ρ':Rg}{H H':Hp}(x:L0 ρ ρ' H H'){a:Addr}{vs:List V}(h:TupAt K H ρ a vs):TupAt K H' ρ' a vs:=by
 rcases h with⟨n,t | ⟨y,t⟩⟩ | t
 · exact .inl ⟨x.no _ _ t n,.inl (x.eq _ _ t n)⟩
 · exact .inl ⟨x.no _ _ t n,.inr ⟨y,x.eq _ _ t n⟩⟩
 · exact .inr t
theorem LstAt.same{K:Frag}{ρ ρ':Rg}{H H':Hp}(x:L0 ρ ρ' H H'){a:Addr}{vs:List V}(h:LstAt K H ρ a vs):LstAt K H' ρ' a vs:=by
 rcases h with⟨n,t | ⟨y,t⟩⟩ | t
 · exact .inl ⟨x.no _ _ t n,.inl (x.eq _ _ t n)⟩
 · exact .inl ⟨x.no _ _ t n,.inr ⟨y,x.eq _ _ t n⟩⟩
 · exact .inr t
mutual
theorem n0.same{K:Frag}{ρ ρ':Rg}{H H':Hp}(x:L0 ρ ρ' H H'):∀(d:Dt){v:V},n0 K H ρ d v->n0 K H' ρ' d v
 | .non,_,h=>by simp only[n0]at h ⊢;exact h
 | .bl _,_,h=>by simp only[n0]at h ⊢;exact h
 | .int _,_,h=>by simp only[n0]at h ⊢;exact h
 | .str _,_,h=>by simp only[n0]at h ⊢;exact h
 | .tup xs,_,h=>by simp only[n0]at h ⊢;obtain⟨a,vs,e,t,r⟩:=h;exact⟨a,vs,e,t.same x,YZ.same x xs r⟩
 | .lst xs,_,h=>by simp only[n0]at h ⊢;obtain⟨a,vs,e,t,r⟩:=h;exact⟨a,vs,e,t.same x,YZ.same x xs r⟩
 | .ref _,_,h=>by simp only[n0]at h ⊢;obtain⟨a,e,t⟩:=h;exact⟨a,e,x.ix _ _ t⟩
 | .U1 _,_,h=>by simp only[n0]at h ⊢;obtain⟨a,e,n,t⟩:=h;exact⟨a,e,x.no _ _ t n,x.eq _ _ t n⟩
theorem YZ.same{K:Frag}{ρ ρ':Rg}{H H':Hp}(x:L0 ρ ρ' H H'):∀(ds:List Dt){vs:List V},YZ K H ρ ds vs->YZ K H' ρ' ds vs
 | [],_,h=>by simp only[YZ]at h ⊢;exact h
 | d::ds,_,h=>by simp only[YZ]at h ⊢;obtain⟨v,r,e,h1,h2⟩:=h;exact⟨v,r,e,n0.same x d h1,YZ.same x ds h2⟩
end
theorem n0.ext{K:Frag}{ρ ρ':Rg}{H H':Hp}(x:Ext ρ ρ' H H')(d:Dt){v:V}(h:n0 K H ρ d v):n0 K H' ρ' d v:=n0.same x.same d h
theorem YZ.ext{K:Frag}{ρ ρ':Rg}{H H':Hp}{ds:List Dt}{vs:List V}(h:YZ K H ρ ds vs)(x:Ext ρ ρ' H H'):YZ K H' ρ' ds vs:=YZ.same x.same ds h
section
variable{K:Frag}{H:Hp}{ρ:Rg}
theorem YZ.nil:YZ K H ρ [] []:=by simp only[YZ]
theorem YZ.cons{d:Dt}{v:V}{ds:List Dt}{vs:List V}(h:n0 K H ρ d v)(r:YZ K H ρ ds vs):YZ K H ρ (d::ds) (v::vs):=by simp only[YZ];exact⟨v,vs,rfl,h,r⟩
theorem YZ.C0{d:Dt}{ds:List Dt}{vs:List V}(h:YZ K H ρ (d::ds) vs):∃v r,vs=v::r/\n0 K H ρ d v/\YZ K H ρ ds r:=by simpa only[YZ]using h
theorem YZ.S0{vs:List V}(h:YZ K H ρ [] vs):vs=[]:=by simpa only[YZ]using h
theorem YZ.length:∀{ds:List Dt}{vs:List V},YZ K H ρ ds vs->vs.length=ds.length
 | [],_,h=>by rw[h.S0];rfl
 | d::ds,_,h=>by obtain⟨v,r,rfl,_,h2⟩:=h.C0;rw[Q9,Q9,YZ.length h2]
theorem YZ.get:∀{ds:List Dt}{vs:List V}{i:Nat}{d:Dt},YZ K H ρ ds vs->ds[i]?=some d->∃v,vs[i]?=some v/\n0 K H ρ d v
 | [],_,_,_,_,e=>by simp at e
 | d::ds,_,0,_,h,e=>by obtain⟨v,r,rfl,h1,_⟩:=h.C0;simp at e;subst e;exact⟨v,rfl,h1⟩
 | d::ds,_,i+1,d',h,e=>by obtain⟨v,r,rfl,_,h2⟩:=h.C0;obtain⟨u,q1,q2⟩:=YZ.get (i:=i) h2 (by simpa using e);exact⟨u,by simpa using q1,q2⟩
theorem YZ.append:∀{ds es:List Dt}{vs us:List V},YZ K H ρ ds vs->YZ K H ρ es us->YZ K H ρ (ds++es) (vs++us)
 | [],_,_,_,h,h'=>by rw[h.S0];exact h'
 | d::ds,_,_,_,h,h'=>by obtain⟨v,r,rfl,h1,h2⟩:=h.C0;exact .cons h1 (YZ.append h2 h')
theorem YZ.set:∀{ds:List Dt}{vs:List V}{d:Dt}{v:V}(i:Nat),YZ K H ρ ds vs->n0 K H ρ d v->YZ K H ρ (ds.set i d) (vs.set i v)
 | [],_,_,_,_,h,_=>by rw[h.S0];exact .nil
 | d::ds,_,_,_,0,h,q=>by obtain⟨v,r,rfl,h1,h2⟩:=h.C0;exact .cons q h2
 | d::ds,_,_,_,i+1,h,q=>by obtain⟨v,r,rfl,h1,h2⟩:=h.C0;exact .cons h1 (YZ.set i h2 q)
theorem YZ.take:∀{ds:List Dt}{vs:List V}(n:Nat),YZ K H ρ ds vs->YZ K H ρ (ds.take n) (vs.take n)
 | [],_,n,h=>by rw[h.S0];simp;exact .nil
 | d::ds,_,0,h=>.nil
 | d::ds,_,n+1,h=>by obtain⟨v,r,rfl,h1,h2⟩:=h.C0;exact .cons h1 (YZ.take n h2)
theorem YZ.drop:∀{ds:List Dt}{vs:List V}(n:Nat),YZ K H ρ ds vs->YZ K H ρ (ds.drop n) (vs.drop n)
 | [],_,n,h=>by rw[h.S0];simp;exact .nil
 | d::ds,_,0,h=>h
 | d::ds,_,n+1,h=>by obtain⟨v,r,rfl,h1,h2⟩:=h.C0;exact YZ.drop n h2
theorem YZ.ints(ns:List Int):YZ K H ρ (ns.map Dt.int) (ns.map V.int):=by
 induction ns with
 | nil=>exact .nil
 | cons n ns ih=>exact .cons (by simp only[n0]) ih
theorem YZ.W3:∀{ns:List Int}{vs:List V},YZ K H ρ (ns.map Dt.int) vs->vs=ns.map V.int
 | [],_,h=>h.S0
 | n::ns,_,h=>by obtain⟨v,r,rfl,h1,h2⟩:=YZ.C0 h;simp only[n0]at h1;rw[h1,YZ.W3 h2];rfl
theorem ZZ{i:Int}{v:V}:n0 K H ρ (.int i) v↔v=.int i:=by simp only[n0]
theorem b0{i:Bool}{v:V}:n0 K H ρ (.bl i) v↔v=.bl i:=by simp only[n0]
theorem o0{i:Str}{v:V}:n0 K H ρ (.str i) v↔v=.str i:=by simp only[n0]
theorem B0{v:V}:n0 K H ρ .non v↔v=.non:=by simp only[n0]
theorem A0{xs:List Dt}{v:V}:n0 K H ρ (.tup xs) v↔∃a vs,v=.ref a/\TupAt K H ρ a vs/\YZ K H ρ xs vs:=by simp only[n0]
theorem u0{xs:List Dt}{v:V}:n0 K H ρ (.lst xs) v↔∃a vs,v=.ref a/\LstAt K H ρ a vs/\YZ K H ρ xs vs:=by simp only[n0]
theorem G1{xs:List Int}{v:V}:n0 K H ρ (.U1 xs) v↔∃a,v=.ref a/\ρ.no a/\H a=some (.tup (xs.map V.int)):=by simp only[n0]
theorem F0{n:Nat}{v:V}:n0 K H ρ (.ref n) v↔∃a,v=.ref a/\ρ.v[n]?=some a:=by simp only[n0]
end
def T1(K:Frag)(H:Hp)(ρ:Rg)(a:Addr):Ob->Prop
 | .lst xs=>∃vs,H a=some (.lst vs)/\YZ K H ρ xs vs
 | .ins x fs=>∃C dx vs,nsIn K mainGlobals x=some (some (.ref C))/\H a=some (.ins C dx vs)/\fs.map (·.1)=vs.map (·.1)/\YZ K H ρ (fs.map (·.2)) (vs.map (·.2))
 | .dk kvs=>∃vs,H a=some (.dK vs)/\kvs.map (·.1)=vs.map (·.1)/\YZ K H ρ (kvs.map (·.2)) (vs.map (·.2))
 | .dt kvs=>∃vs:List (List UC×V),H a=some (.dT vs)/\vs.map (·.1)=kvs.map (fun p=>p.1.map Sum.inl)/\YZ K H ρ (kvs.map (·.2)) (vs.map (·.2))
 | .df kvs=>∃(o:Obj)(vs:List (List UC×V)),H a=some (.W2 o (.dT vs))/\vs.map (·.1)=kvs.map (fun p=>p.1.map Sum.inl)/\YZ K H ρ (kvs.map (·.2)) (vs.map (·.2))
structure v0(K:Frag)(ρ:Rg)(h:HI)(H:Hp):Prop where
 nd:ρ.v.Nodup
 len:ρ.v.length=h.length
 ob:∀(n:Nat) a o,ρ.v[n]?=some a->h[n]?=some o->T1 K H ρ a o
 zt:∀a∈ρ.z,a∉ρ.v/\∃vs,H a=some (.lst vs)
theorem T1.ext{K:Frag}{H H':Hp}{ρ ρ':Rg}{a:Addr}{o:Ob}(x:Ext ρ ρ' H H')(e:H' a=H a)(h:T1 K H ρ a o):T1 K H' ρ' a o:=by
 cases o with
 | lst xs=>obtain⟨vs,h1,h2⟩:=h;exact⟨vs,e.trans h1,h2.ext x⟩
 | ins y fs=>obtain⟨C,dx,vs,h0,h1,h2,h3⟩:=h;exact⟨C,dx,vs,h0,e.trans h1,h2,h3.ext x⟩
 | dk kvs=>obtain⟨vs,h1,h2,h3⟩:=h;exact⟨vs,e.trans h1,h2,h3.ext x⟩
 | dt kvs=>obtain⟨vs,h1,h2,h3⟩:=h;exact⟨vs,e.trans h1,h2,h3.ext x⟩
 | df kvs=>obtain⟨o,vs,h1,h2,h3⟩:=h;exact⟨o,vs,e.trans h1,h2,h3.ext x⟩
theorem T1.some{K:Frag}{H:Hp}{ρ:Rg}{a:Addr}{o:Ob}(h:T1 K H ρ a o):∃u,H a=some u:=by
 cases o with
 | lst xs=>obtain⟨vs,h1,_⟩:=h;exact⟨_,h1⟩
 | ins y fs=>obtain⟨C,dx,vs,_,h1,_⟩:=h;exact⟨_,h1⟩
 | dk kvs=>obtain⟨vs,h1,_⟩:=h;exact⟨_,h1⟩
 | dt kvs=>obtain⟨vs,h1,_⟩:=h;exact⟨_,h1⟩
 | df kvs=>obtain⟨o,vs,h1,_⟩:=h;exact⟨_,h1⟩
section
variable{K:Frag}{H H':Hp}{ρ:Rg}{h:HI}
theorem v0.nil:v0 K .nil [] H:=⟨nodup_nil,rfl,fun _ _ _ e=>by simp[Rg.nil]at e,fun _ h=>nomatch h⟩
theorem v0.tracked(S:v0 K ρ h H){a:Addr}(ha:a∈ρ.v):∃u,H a=some u:=by
 obtain⟨n,hn⟩:=mem_iff_getElem?.mp ha;have hl:n<h.length:=by rw[<- S.len];exact(aj hn).1
 exact(S.ob n a _ hn (getElem?_eq_getElem hl)).some
theorem v0.out(S:v0 K ρ h H){p:Addr}(hp:H p=none):ρ.no p:=by
 refine⟨fun ha=>?_,fun ha=>?_⟩
 · obtain⟨u,e⟩:=S.tracked ha;rw[hp]at e;cases e
 · obtain⟨_,u,e⟩:=S.zt p ha;rw[hp]at e;cases e
theorem v0.fresh(S:v0 K ρ h H){p:Addr}{o:HO}(hp:H p=none):v0 K ρ h (FB H p o):=
 ⟨S.nd,S.len,fun n a u e1 e2=>(S.ob n a u e1 e2).ext (Ext.fresh hp) (HA (fun z=>(S.out hp).1 (z ▸ mem_of_getElem? e1))),fun a ha=>by
  obtain⟨n,u,e⟩:=S.zt a ha;exact⟨n,u,by rw[HA (rC e hp)];exact e⟩⟩
theorem v0.own(S:v0 K ρ h H){p:Addr}{o:HO}{u:Ob}(hp:H p=none)(hu:T1 K (FB H p o) (ρ.add p) p u):v0 K (ρ.add p) (h++[u]) (FB H p o):=by
 refine⟨?_,by simp only[Rg.add];rw[length_append,length_append,S.len];rfl,fun n a ob e1 e2=>?_,fun a ha=>?_⟩
 · simp only[Rg.add];rw[nodup_append];refine⟨S.nd,nodup_cons.mpr ⟨by simp,nodup_nil⟩,fun a ha b hb=>?_⟩;rw[mem_singleton.mp hb];intro z;exact(S.out hp).1 (z ▸ ha)
 · simp only[Rg.add]at e1;by_cases hn:n<h.length
   · rw[cj hn]at e2;rw[cj (by rw[S.len];exact hn)]at e1;exact(S.ob n a ob e1 e2).ext (Ext.own hp) (HA (fun z=>(S.out hp).1 (z ▸ mem_of_getElem? e1)))
   · have hn':h.length<=n:=Nat.not_lt.mp hn;rw[kj hn']at e2;rw[kj (by rw[S.len];exact hn'),S.len]at e1;cases hk:n-h.length with
     | zero=>rw[hk]at e1 e2;simp at e1 e2;subst e1 e2;exact hu
     | succ k=>rw[hk]at e2;simp at e2
 · obtain⟨n,u,e⟩:=S.zt a ha;refine⟨fun hm=>?_,u,by rw[HA (rC e hp)];exact e⟩;simp only[Rg.add]at hm;rcases mem_append.mp hm with hm | hm
   · exact n hm
   · rw[mem_singleton.mp hm,hp]at e;cases e
theorem v0.write(S:v0 K ρ h H){n:Nat}{p:Addr}{o:HO}{u:Ob}(hn:ρ.v[n]?=some p)(nf:JQ H p)(hu:T1 K (FB H p o) ρ p u):v0 K ρ (h.set n u) (FB H p o):=by
 refine⟨S.nd,by rw[length_set];exact S.len,fun m a ob e1 e2=>?_,fun a ha=>?_⟩
 · by_cases hm:m=n
   · subst hm;rw[hn]at e1;cases e1;have hl:m<h.length:=by rw[<- S.len];exact(aj hn).1
     rw[getElem?_set_self hl]at e2;cases e2;exact hu
   · rw[getElem?_set_ne (Ne.symm hm)]at e2;refine(S.ob m a ob e1 e2).ext (Ext.write (mem_of_getElem? hn) nf) (HA fun z=>hm ?_);subst z;obtain⟨h1,q1⟩:=aj e1;obtain⟨h2,q2⟩:=aj hn;exact(getElem_inj S.nd).mp (q1.trans q2.symm)
 · obtain⟨m,w,e⟩:=S.zt a ha;exact⟨m,w,by rw[HA (fun z=>m (by rw[z];exact mem_of_getElem? hn))];exact e⟩
theorem v0.lst(S:v0 K ρ h H){n:Nat}{a:Addr}{xs:List Dt}(hn:ρ.v[n]?=some a)(e:h[n]?=some (.lst xs)):∃vs,H a=some (.lst vs)/\YZ K H ρ xs vs:=S.ob n a _ hn e
end
structure K0(K:Frag)(H:Hp)(ρ:Rg)(l:LI)(σ:L2.St):Prop where
 len:l.length=σ.length
 val:∀(i:Nat) d,l[i]?=some (some d)->∃v,σ[i]?=some (some v)/\n0 K H ρ d v
theorem K0.ext{K:Frag}{H H':Hp}{ρ ρ':Rg}{l:LI}{σ:L2.St}(L:K0 K H ρ l σ)(x:Ext ρ ρ' H H'):K0 K H' ρ' l σ:=
 ⟨L.len,fun i d e=>let ⟨v,e1,r⟩:=L.val i d e;⟨v,e1,n0.ext x d r⟩⟩
theorem K0.set{K:Frag}{H:Hp}{ρ:Rg}{l:LI}{σ:L2.St}(L:K0 K H ρ l σ){d:Dt}{v:V}(i:Nat)(r:n0 K H ρ d v):K0 K H ρ (l.set i (some d)) (σ.set i (some v)):=by
 refine⟨by rw[length_set,length_set];exact L.len,fun j d' e=>?_⟩;by_cases hj:j=i
 · subst hj;have hl:j<l.length:=by have:=(aj e).1;rwa[length_set]at this
   rw[getElem?_set_self hl]at e;cases e;exact⟨v,getElem?_set_self (by rw[<- L.len];exact hl),r⟩
 · rw[getElem?_set_ne (Ne.symm hj)]at e;rw[getElem?_set_ne (Ne.symm hj)];exact L.val j d' e
abbrev RE:=LI->HI->Option (Dt×HI)
abbrev RT:=LI->HI->Option (Bool×HI)
abbrev RA:=LI->HI->Option (List Dt×HI)
inductive Rs where
 | nx (l:LI) (h:HI) | rt (d:Dt) (h:HI) | bk (l:LI) (h:HI) | ct (l:LI) (h:HI)
abbrev RS:=LI->HI->Option Rs
abbrev bC:=Dt->Dt->HI->Option (Dt×HI)
abbrev HB:=List Dt->HI->Option (Dt×HI)
noncomputable def AB:Expr->Bool
 | .Starred _ _=>false
 | _=>true
theorem vB{e:Expr}(h:AB e=true)(es:List Expr)(env:Env):starEach (e::es) env=(false,eval e env)::starEach es env:=by cases e<;>first | rfl | (exact absurd h dj)
theorem BM{pos:Pos}{env:Env}:∀{es:List Expr},es.all AB=true->(backTo pos (starEach es env)).any (·.1)=false
 | [],_=>rfl
 | e::es,h=>by rw[all_cons,Bool.and_eq_true]at h;have ih:=BM (pos:=pos) (env:=env) h.2;rw[vB h.1];unfold backTo at ih ⊢;simp only[S9,any_cons,Bool.false_or];exact ih
theorem yH{pos:Pos}{env:Env}{b:Expr}(h:AB b=true):((backTo pos (starEach [b] env)).all (fun x=>!x.1)&&(backToKw pos (keywordEach [] env)).all (fun x=>x.1.isSome)
 && decide ([b].length+([]:List Keyword).length+(if([]:List Keyword).isEmpty then 0 else 1)<30))=true:=by
 rw[vB h];rfl
def Out(K:Frag)(ρ:Rg)(H:Hp)(d:Dt)(h':HI)(Q:VK):Prop:=
 ∀ρ' v H',n0 K H' ρ' d v->v0 K ρ' h' H'->Ext ρ ρ' H H'->Q v H'
noncomputable def N3(K:Frag)(ρ:Rg)(H:Hp)(h':HI)(Q:Hp->Prop):Prop:=
 ∀ρ' H',v0 K ρ' h' H'->Ext ρ ρ' H H'->Q H'
def tM(K:Frag)(f:RE):TE:=fun σ H Q=>∃ρ l h d h',v0 K ρ h H/\K0 K H ρ l σ/\f l h=some (d,h')/\Out K ρ H d h' Q
def NJ(K:Frag)(f:RT):TT:=fun σ H Q=>∃ρ l h b h',v0 K ρ h H/\K0 K H ρ l σ/\f l h=some (b,h')/\N3 K ρ H h' (Q b)
def pZ(K:Frag)(f:RA):TA:=fun σ H Q=>∃ρ l h ds h',v0 K ρ h H/\K0 K H ρ l σ/\f l h=some (ds,h')/\∀ρ' vs H',YZ K H' ρ' ds vs->v0 K ρ' h' H'->Ext ρ ρ' H H'->Q vs H'
def rM(K:Frag)(op:bC):R2:=fun x y H Q=>∃ρ h d1 d2 d h',v0 K ρ h H/\n0 K H ρ d1 x/\n0 K H ρ d2 y/\op d1 d2 h=some (d,h')/\Out K ρ H d h' Q
def k4(K:Frag)(ρ:Rg)(H:Hp)(D:xF):Rs->Prop
 | .nx l h=>∀ρ' σ' H',v0 K ρ' h H'->K0 K H' ρ' l σ'->Ext ρ ρ' H H'->D.nx σ' H'
 | .bk l h=>∀ρ' σ' H',v0 K ρ' h H'->K0 K H' ρ' l σ'->Ext ρ ρ' H H'->D.bk σ' H'
 | .ct l h=>∀ρ' σ' H',v0 K ρ' h H'->K0 K H' ρ' l σ'->Ext ρ ρ' H H'->D.ct σ' H'
 | .rt d h=>Out K ρ H d h D.rt
def sM(K:Frag)(f:RS):TS:=fun D σ H=>∃ρ l h r,v0 K ρ h H/\K0 K H ρ l σ/\f l h=some r/\k4 K ρ H D r
theorem Out.ext{K:Frag}{ρ ρ1:Rg}{H H1:Hp}{d:Dt}{h':HI}{Q:VK}(k:Out K ρ H d h' Q)(x:Ext ρ ρ1 H H1):Out K ρ1 H1 d h' Q:=fun ρ' v H' r s e=>k ρ' v H' r s (x.trans e)
theorem N3.ext{K:Frag}{ρ ρ1:Rg}{H H1:Hp}{h':HI}{Q:Hp->Prop}(k:N3 K ρ H h' Q)(x:Ext ρ ρ1 H H1):N3 K ρ1 H1 h' Q:=fun ρ' H' s e=>k ρ' H' s (x.trans e)
theorem k4.ext{K:Frag}{ρ ρ1:Rg}{H H1:Hp}{D:xF}{r:Rs}(k:k4 K ρ H D r)(x:Ext ρ ρ1 H H1):k4 K ρ1 H1 D r:=by
 cases r with
 | nx l h=>exact fun ρ' σ' H' s l e=>k ρ' σ' H' s l (x.trans e)
 | bk l h=>exact fun ρ' σ' H' s l e=>k ρ' σ' H' s l (x.trans e)
 | ct l h=>exact fun ρ' σ' H' s l e=>k ρ' σ' H' s l (x.trans e)
 | rt d h=>exact Out.ext k x
@[irreducible] def EM(X:Cx)(e:Expr)(f:RE):Prop:=PE X e (tM X.K f)
@[irreducible] def TM(X:Cx)(e:Expr)(f:RT):Prop:=PT X e (NJ X.K f)
@[irreducible] def WM(X:Cx)(e:Expr)(f:RT):Prop:=PW X e (NJ X.K f)
@[irreducible] def AM(X:Cx)(es:List Expr)(f:RA):Prop:=PA X es (pZ X.K f)
@[irreducible] def OM(X:Cx)(f:Value->Value->Sem Value)(op:bC):Prop:=Q0 X f (rM X.K op)
@[irreducible] def ZM(X:Cx)(st:Stmt)(f:RS):Prop:=PS X st (sM X.K f)
@[irreducible] def PH(X:Cx)(st:List Stmt)(f:RS):Prop:=N2 X st (sM X.K f)
theorem PE.imp{X:Cx}{e:Expr}{t t':TE}(h:PE X e t)(i:∀σ H Q,t' σ H Q->t σ H Q):PE X e t':=fun pins s σ H Q I q=>h pins s σ H Q I (i σ H Q q)
theorem PT.imp{X:Cx}{e:Expr}{t t':TT}(h:PT X e t)(i:∀σ H Q,t' σ H Q->t σ H Q):PT X e t':=fun pins s σ H Q I q=>h pins s σ H Q I (i σ H Q q)
theorem PW.imp{X:Cx}{e:Expr}{t t':TT}(h:PW X e t)(i:∀σ H Q,t' σ H Q->t σ H Q):PW X e t':=fun wh pins s σ H Q I q=>h wh pins s σ H Q I (i σ H Q q)
theorem PA.imp{X:Cx}{e:List Expr}{t t':TA}(h:PA X e t)(i:∀σ H Q,t' σ H Q->t σ H Q):PA X e t':=fun pos pins s σ H Q I q=>h pos pins s σ H Q I (i σ H Q q)
theorem PS.imp{X:Cx}{e:Stmt}{t t':TS}(h:PS X e t)(i:∀D σ H,t' D σ H->t D σ H):PS X e t':=fun pins s σ H D I q=>h pins s σ H D I (i D σ H q)
theorem N2.imp{X:Cx}{e:List Stmt}{t t':TS}(h:N2 X e t)(i:∀D σ H,t' D σ H->t D σ H):N2 X e t':=fun pins s σ H D I q=>h pins s σ H D I (i D σ H q)
theorem Q0.imp{X:Cx}{f:Value->Value->Sem Value}{t t':R2}(h:Q0 X f t)(i:∀x y H Q,t' x y H Q->t x y H Q):Q0 X f t':=fun pins s σ H x y v u Q I r1 r2 q=>h pins s σ H x y v u Q I r1 r2 (i x y H Q q)
noncomputable def eC(d:Dt):RE:=fun _ h=>some (d,h)
noncomputable def eV(i:Nat):RE:=fun l h=>match l[i]? with | some (some d)=>some (d,h) | _=>none
noncomputable def e2(op:bC)(fa fb:RE):RE:=fun l h=>(fa l h).bind fun r=>(fb l r.2).bind fun q=>op r.1 q.1 q.2
noncomputable def pA:RA:=fun _ h=>some ([],h)
noncomputable def cA(f:RE)(g:RA):RA:=fun l h=>(f l h).bind fun r=>(g l r.2).bind fun q=>some (r.1::q.1,q.2)
section
variable{X:Cx}{a b c:Expr}{fa fb fc:RE}{pos:Pos}
theorem bA{i j pos}:EM X (.Constant (.int i) j pos) (eC (.int i)):=by with_unfolding_all exact PE.imp gQ fun σ H Q zz=>by obtain⟨ρ,l,h,d,h',S,L,e,k⟩:=zz;cases e;exact k ρ _ H (ZZ.mpr rfl) S (Ext.refl _ _)
theorem DC{i j pos}:EM X (.Constant (.bool i) j pos) (eC (.bl i)):=by with_unfolding_all exact PE.imp YX fun σ H Q zz=>by obtain⟨ρ,l,h,d,h',S,L,e,k⟩:=zz;cases e;exact k ρ _ H (b0.mpr rfl) S (Ext.refl _ _)
theorem BA{i j pos}:EM X (.Constant (.str i) j pos) (eC (.str i)):=by with_unfolding_all exact PE.imp jX fun σ H Q zz=>by obtain⟨ρ,l,h,d,h',S,L,e,k⟩:=zz;cases e;exact k ρ _ H (o0.mpr rfl) S (Ext.refl _ _)
theorem pF{j pos}:EM X (.Constant .none j pos) (eC .non):=by with_unfolding_all exact PE.imp gX fun σ H Q zz=>by obtain⟨ρ,l,h,d,h',S,L,e,k⟩:=zz;cases e;exact k ρ _ H (B0.mpr rfl) S (Ext.refl _ _)
theorem aA (i:Nat) {x:Str} {pos:Pos} (hN:X.N[i]?=some x:=by rfl) (hv:MQ X.env.scope x:=by first | exact Or.inl rfl | exact Or.inr (Or.inl rfl) | exact Or.inr (Or.inr rfl)) (hd:(x==("__debug__" :Str))=false:=by decide)
 (hcd:(x==("__classdict__" :Str))=false:=by decide):EM X (.Name x pos) (eV i):=by
 with_unfolding_all
  exact PE.imp (lX hN hv hd hcd) fun σ H Q zz=>by
   obtain⟨ρ,l,h,d,h',S,L,e,k⟩:=zz;unfold eV at e;split at e
   · rename_i d' q;cases e;obtain⟨v,e1,r⟩:=L.val i _ q;exact⟨v,e1,k ρ v H r S (Ext.refl _ _)⟩
   · cases e
theorem cV {x:Str} {v:V} {u:Value} {d:Dt} {pos:Pos} (hg:Gl X x) (hm:X.mg x=some u) (r:RelV v u) (rd:∀H ρ,n0 X.K H ρ d v) (hd:(x==("__debug__" :Str))=false:=by decide):EM X (.Name x pos) (eC d):=by with_unfolding_all exact PE.imp (MW hg hm r hd) fun σ H Q zz=>by obtain⟨ρ,l,h,d',h',S,L,e,k⟩:=zz;cases e;exact k ρ v H (rd H ρ) S (Ext.refl _ _)
theorem eA{α β:Type}{o:Option α}{f:α->Option β}{b:β}(h:o.bind f=some b):∃a,o=some a/\f a=some b:=by
 cases o with
 | none=>cases h
 | some a=>exact⟨a,rfl,h⟩
theorem fA{op:Operator}{o:bC}(ho:OM X (binaryOp op) o)(ha:EM X a fa)(hb:EM X b fb):EM X (.BinOp a op b pos) (e2 o fa fb):=by
 with_unfolding_all
  exact PE.imp (aY ho ha hb) fun σ H Q zz=>by
   obtain⟨ρ,l,h,d,h',S,L,e,k⟩:=zz;obtain⟨⟨d1,h1⟩,e1,e⟩:=eA e;obtain⟨⟨d2,h2⟩,e2,e⟩:=eA e;exact⟨ρ,l,h,d1,h1,S,L,e1,fun ρ1 x H1 R1 S1 E1=>⟨ρ1,l,h1,d2,h2,S1,L.ext E1,e2,fun ρ2 y H2 R2 S2 E2=>
    ⟨ρ2,h2,d1,d2,d,h',S2,n0.ext E2 _ R1,R2,e,k.ext (E1.trans E2)⟩⟩⟩
theorem VE{op:CmpOp}{o:bC}(ho:OM X (compareOp op) o)(ha:EM X a fa)(hb:EM X b fb)(hm:behindInMarks op b=false:=by first | exact ZP _ | with_unfolding_all rfl):EM X (.Compare a [op] [b] pos) (e2 o fa fb):=by
 with_unfolding_all
  exact PE.imp (KW ho ha hb hm) fun σ H Q zz=>by
   obtain⟨ρ,l,h,d,h',S,L,e,k⟩:=zz;obtain⟨⟨d1,h1⟩,e1,e⟩:=eA e;obtain⟨⟨d2,h2⟩,e2,e⟩:=eA e;exact⟨ρ,l,h,d1,h1,S,L,e1,fun ρ1 x H1 R1 S1 E1=>⟨ρ1,l,h1,d2,h2,S1,L.ext E1,e2,fun ρ2 y H2 R2 S2 E2=>
    ⟨ρ2,h2,d1,d2,d,h',S2,n0.ext E2 _ R1,R2,e,k.ext (E1.trans E2)⟩⟩⟩
noncomputable def D0(f:RE):RT:=fun l h=>(f l h).bind fun r=>match r.1 with | .bl b=>some (b,r.2) | _=>none
theorem CA{op:CmpOp}{o:bC}(ho:OM X (compareOp op) o)(ha:EM X a fa)(hb:EM X b fb)(hm:behindInMarks op b=false:=by first | exact ZP _ | with_unfolding_all rfl):TM X (.Compare a [op] [b] pos) (D0 (e2 o fa fb)):=by
 with_unfolding_all
  exact PT.imp (WV ho ha hb hm) fun σ H Q zz=>by
   obtain⟨ρ,l,h,bb,h',S,L,e,k⟩:=zz;obtain⟨⟨d,h3⟩,e0,e⟩:=eA e;obtain⟨⟨d1,h1⟩,e1,e0⟩:=eA e0;obtain⟨⟨d2,h2⟩,e2,e0⟩:=eA e0;refine⟨ρ,l,h,d1,h1,S,L,e1,fun ρ1 x H1 R1 S1 E1=>⟨ρ1,l,h1,d2,h2,S1,L.ext E1,e2,fun ρ2 y H2 R2 S2 E2=>
    ⟨ρ2,h2,d1,d2,d,h3,S2,n0.ext E2 _ R1,R2,e0,fun ρ3 v H3 R3 S3 E3=>?_⟩⟩⟩
   cases d with
   | bl q=>cases e;exact⟨bb,b0.mp R3,k ρ3 H3 S3 (E1.trans (E2.trans E3))⟩
   | _=>cases e
theorem CC{e:Expr}{f:RE}(h:EM X e f)(he:∀whole,isTrue e X.env whole=(do let v <- whole;standAt e.pos;holding [v] (truthy v)):=by intro _;rfl):TM X e (D0 f):=by
 with_unfolding_all
  exact PT.imp (sX h he) fun σ H Q zz=>by
   obtain⟨ρ,l,h,bb,h',S,L,e,k⟩:=zz;obtain⟨⟨d,h3⟩,e0,e⟩:=eA e;refine⟨ρ,l,h,d,h3,S,L,e0,fun ρ3 v H3 R3 S3 E3=>?_⟩;cases d with
   | bl q=>cases e;exact⟨bb,b0.mp R3,k ρ3 H3 S3 E3⟩
   | _=>cases e
noncomputable def PF(o o':bC)(fa fb fc:RE):RE:=fun l h=>(fa l h).bind fun r=>(fb l r.2).bind fun q=>(o r.1 q.1 q.2).bind fun z=>match z.1 with
 | .bl true=>(fc l z.2).bind fun y=>o' q.1 y.1 y.2
 | .bl false=>some (.bl false,z.2)
 | _=>none
theorem UN{r r':bC}{σ:L2.St}{H:Hp}{Q:VK}(h:tM X.K (PF r r' fa fb fc) σ H Q):MM (rM X.K r) (rM X.K r') (tM X.K fa) (tM X.K fb) (tM X.K fc) σ H Q:=by
 obtain⟨ρ,l,h,d,h',S,L,e,k⟩:=h;obtain⟨⟨d1,h1⟩,e1,e⟩:=eA e;obtain⟨⟨d2,h2⟩,e2,e⟩:=eA e;obtain⟨⟨d3,h3⟩,e3,e⟩:=eA e;refine⟨ρ,l,h,d1,h1,S,L,e1,fun ρ1 x H1 R1 S1 E1=>⟨ρ1,l,h1,d2,h2,S1,L.ext E1,e2,fun ρ2 y H2 R2 S2 E2=>
  ⟨ρ2,h2,d1,d2,d3,h3,S2,n0.ext E2 _ R1,R2,e3,fun ρ3 v H3 R3 S3 E3=>?_⟩⟩⟩
 cases d3 with
 | bl q=>
  refine⟨q,b0.mp R3,?_⟩;cases q with
  | true=>dsimp only at e;obtain⟨⟨d4,h4⟩,e4,e⟩:=eA e;refine iE ⟨ρ3,l,h3,d4,h4,S3,(L.ext (E1.trans (E2.trans E3))),e4,fun ρ4 u H4 R4 S4 E4=>⟨ρ4,h4,d2,d4,d,h',S4,n0.ext (E3.trans E4) _ R2,R4,e,k.ext (E1.trans (E2.trans (E3.trans E4)))⟩⟩
  | false=>cases e;exact gE (k ρ3 _ H3 (b0.mpr rfl) S3 (E1.trans (E2.trans E3)))
 | _=>cases e
theorem BU{op op':CmpOp}{r r':bC}(ho:OM X (compareOp op) r)(ho':OM X (compareOp op') r')(ha:EM X a fa)(hb:EM X b fb)(hc:EM X c fc)
 (hm:lastMarks [op,op'] [b,c]=false:=by with_unfolding_all rfl):EM X (.Compare a [op,op'] [b,c] pos) (PF r r' fa fb fc):=by
 with_unfolding_all exact PE.imp (rV ho ho' ha hb hc hm) fun _ _ _ h=>UN h
theorem FV{op op':CmpOp}{r r':bC}(ho:OM X (compareOp op) r)(ho':OM X (compareOp op') r')(ha:EM X a fa)(hb:EM X b fb)(hc:EM X c fc)
 (hm:lastMarks [op,op'] [b,c]=false:=by with_unfolding_all rfl):TM X (.Compare a [op,op'] [b,c] pos) (D0 (PF r r' fa fb fc)):=by
 with_unfolding_all
  exact PT.imp (zV ho ho' ha hb hc hm) fun σ H Q zz=>by
   obtain⟨ρ,l,h,bb,h',S,L,e,k⟩:=zz;obtain⟨⟨d,h3⟩,e0,e⟩:=eA e;refine UN ⟨ρ,l,h,d,h3,S,L,e0,fun ρ3 v H3 R3 S3 E3=>?_⟩;cases d with
   | bl q=>cases e;exact⟨bb,b0.mp R3,k ρ3 H3 S3 E3⟩
   | _=>cases e
noncomputable def xE(t u:RT):RT:=fun l h=>(t l h).bind fun r=>if r.1=true then u l r.2 else some (false,r.2)
noncomputable def PB(t u:RT):RT:=fun l h=>(t l h).bind fun r=>if r.1=true then some (true,r.2)else u l r.2
noncomputable def oC(t:RT):RT:=fun l h=>(t l h).bind fun r=>some (!r.1,r.2)
variable{tA v7:RT}{rest:List Expr}
theorem WM.tm{e:Expr}{f:RT}(h:WM X e f):TM X e f:=by with_unfolding_all exact PW.pt h
theorem jJ(ha:TM X a tA):WM X (.BoolOp .And [a] pos) tA:=by with_unfolding_all exact ZV ha
theorem KC(ha:TM X a tA):WM X (.BoolOp .Or [a] pos) tA:=by with_unfolding_all exact uX ha
theorem uJ(ha:TM X a tA)(hb:WM X (.BoolOp .And (b::rest) pos) v7):WM X (.BoolOp .And (a::b::rest) pos) (xE tA v7):=by
 with_unfolding_all
  exact PW.imp (tX ha hb) fun σ H Q zz=>by
   obtain⟨ρ,l,h,bb,h',S,L,e,k⟩:=zz;obtain⟨⟨b1,h1⟩,e1,e⟩:=eA e;refine⟨ρ,l,h,b1,h1,S,L,e1,fun ρ1 H1 S1 E1=>?_⟩;cases b1 with
   | true=>rw[if_pos rfl]at e;exact iE ⟨ρ1,l,h1,bb,h',S1,L.ext E1,e,k.ext E1⟩
   | false=>rw[if_neg dj]at e;cases e;exact gE (k ρ1 H1 S1 E1)
theorem gC(ha:TM X a tA)(hb:WM X (.BoolOp .Or (b::rest) pos) v7):WM X (.BoolOp .Or (a::b::rest) pos) (PB tA v7):=by
 with_unfolding_all
  exact PW.imp (eY ha hb) fun σ H Q zz=>by
   obtain⟨ρ,l,h,bb,h',S,L,e,k⟩:=zz;obtain⟨⟨b1,h1⟩,e1,e⟩:=eA e;refine⟨ρ,l,h,b1,h1,S,L,e1,fun ρ1 H1 S1 E1=>?_⟩;cases b1 with
   | true=>rw[if_pos rfl]at e;cases e;exact iE (k ρ1 H1 S1 E1)
   | false=>rw[if_neg dj]at e;exact gE ⟨ρ1,l,h1,bb,h',S1,L.ext E1,e,k.ext E1⟩
theorem BC(ha:TM X a tA):TM X (.UnaryOp .Not a pos) (oC tA):=by with_unfolding_all exact PT.imp (rX ha) fun σ H Q zz=>by obtain⟨ρ,l,h,bb,h',S,L,e,k⟩:=zz;obtain⟨⟨b1,h1⟩,e1,e⟩:=eA e;cases e;exact⟨ρ,l,h,b1,h1,S,L,e1,fun ρ1 H1 S1 E1=>k ρ1 H1 S1 E1⟩
noncomputable def eF(t u:RE):RE:=fun l h=>(t l h).bind fun r=>match r.1 with | .bl true=>u l r.2 | .bl false=>some (.bl false,r.2) | _=>none
noncomputable def CN(t u:RE):RE:=fun l h=>(t l h).bind fun r=>match r.1 with | .bl true=>some (.bl true,r.2) | .bl false=>u l r.2 | _=>none
noncomputable def mI(t:RE):RE:=fun l h=>(t l h).bind fun r=>match r.1 with | .bl b=>some (.bl (!b),r.2) | _=>none
theorem BH{op}(h:EM X a fa):EM X (.BoolOp op [a] pos) fa:=by with_unfolding_all exact iX h
theorem zH(ha:EM X a fa)(hb:EM X (.BoolOp .And (b::rest) pos) fb):EM X (.BoolOp .And (a::b::rest) pos) (eF fa fb):=by
 with_unfolding_all
  exact PE.imp (fX ha hb) fun σ H Q zz=>by
   obtain⟨ρ,l,h,d,h',S,L,e,k⟩:=zz;obtain⟨⟨d1,h1⟩,e1,e⟩:=eA e;refine⟨ρ,l,h,d1,h1,S,L,e1,fun ρ1 v H1 R1 S1 E1=>?_⟩;cases d1 with
   | bl q=>
    refine⟨q,b0.mp R1,?_⟩;cases q with
    | true=>exact iE ⟨ρ1,l,h1,d,h',S1,L.ext E1,e,k.ext E1⟩
    | false=>cases e;exact gE (k ρ1 _ H1 (b0.mpr rfl) S1 E1)
   | _=>cases e
theorem oQ(ha:EM X a fa)(hb:EM X (.BoolOp .Or (b::rest) pos) fb):EM X (.BoolOp .Or (a::b::rest) pos) (CN fa fb):=by
 with_unfolding_all
  exact PE.imp (bY ha hb) fun σ H Q zz=>by
   obtain⟨ρ,l,h,d,h',S,L,e,k⟩:=zz;obtain⟨⟨d1,h1⟩,e1,e⟩:=eA e;refine⟨ρ,l,h,d1,h1,S,L,e1,fun ρ1 v H1 R1 S1 E1=>?_⟩;cases d1 with
   | bl q=>
    refine⟨q,b0.mp R1,?_⟩;cases q with
    | true=>cases e;exact iE (k ρ1 _ H1 (b0.mpr rfl) S1 E1)
    | false=>exact gE ⟨ρ1,l,h1,d,h',S1,L.ext E1,e,k.ext E1⟩
   | _=>cases e
theorem MV(ha:EM X a fa):EM X (.UnaryOp .Not a pos) (mI fa):=by
 with_unfolding_all
  exact PE.imp (hX ha) fun σ H Q zz=>by
   obtain⟨ρ,l,h,d,h',S,L,e,k⟩:=zz;obtain⟨⟨d1,h1⟩,e1,e⟩:=eA e;refine⟨ρ,l,h,d1,h1,S,L,e1,fun ρ1 v H1 R1 S1 E1=>?_⟩;cases d1 with
   | bl q=>cases e;exact⟨q,b0.mp R1,k ρ1 _ H1 (b0.mpr rfl) S1 E1⟩
   | _=>cases e
noncomputable def RQ(t:RT)(f g:RE):RE:=fun l h=>(t l h).bind fun r=>if r.1=true then f l r.2 else g l r.2
theorem nQ{c:Expr}(hc:TM X c tA)(ha:EM X a fa)(hb:EM X b fb):EM X (.IfExp c a b pos) (RQ tA fa fb):=by
 with_unfolding_all
  exact PE.imp (sV hc ha hb) fun σ H Q zz=>by
   obtain⟨ρ,l,h,d,h',S,L,e,k⟩:=zz;obtain⟨⟨b1,h1⟩,e1,e⟩:=eA e;refine⟨ρ,l,h,b1,h1,S,L,e1,fun ρ1 H1 S1 E1=>?_⟩;cases b1 with
   | true=>rw[if_pos rfl]at e;exact iE ⟨ρ1,l,h1,d,h',S1,L.ext E1,e,k.ext E1⟩
   | false=>rw[if_neg dj]at e;exact gE ⟨ρ1,l,h1,d,h',S1,L.ext E1,e,k.ext E1⟩
theorem sA:AM X [] pA:=by with_unfolding_all exact PA.imp xD fun σ H Q zz=>by obtain⟨ρ,l,h,ds,h',S,L,e,k⟩:=zz;cases e;exact k ρ [] H .nil S (Ext.refl _ _)
theorem dA{e:Expr}{es:List Expr}{f:RE}{g:RA}(ha:EM X e f)(hr:AM X es g)(hs:AB e=true:=by rfl):AM X (e::es) (cA f g):=by with_unfolding_all exact PA.imp (LC ha hr (vB hs es X.env)) fun σ H Q zz=>by obtain⟨ρ,l,h,ds,h',S,L,e,k⟩:=zz;obtain⟨⟨d1,h1⟩,e1,e⟩:=eA e;obtain⟨⟨M8,h2⟩,e2,e⟩:=eA e;cases e;exact⟨ρ,l,h,d1,h1,S,L,e1,fun ρ1 x H1 R1 S1 E1=>⟨ρ1,l,h1,M8,h2,S1,L.ext E1,e2,fun ρ2 xs H2 R2 S2 E2=>k ρ2 _ H2 (.cons (n0.ext E2 _ R1) R2) S2 (E1.trans E2)⟩⟩
noncomputable def VC(g:RA):RE:=fun l h=>(g l h).bind fun r=>if r.1.length<=sizeLine then some (.tup r.1,r.2)else none
noncomputable def eE(g:RA):RE:=fun l h=>(g l h).bind fun r=>if r.1.length<=sizeLine then some (.lst r.1,r.2)else none
noncomputable def DE(g:RA):RE:=fun l h=>(g l h).bind fun r=>if r.1.length<=sizeLine then some (.ref r.2.length,r.2++[.lst r.1])else none
theorem FP{K:Frag}{H:Hp}{ρ:Rg}{h:HI}{ds:List Dt}{vs:List V}{p:Addr}(S:v0 K ρ h H)(R:YZ K H ρ ds vs)(hp:H p=none):n0 K (FB H p (.tup vs)) ρ (.tup ds) (.ref p):=
 A0.mpr ⟨p,vs,rfl,.inl ⟨S.out hp,.inl bD⟩,R.ext (Ext.fresh hp)⟩
theorem FH{K:Frag}{H:Hp}{ρ:Rg}{h:HI}{ds:List Dt}{vs:List V}{p:Addr}(S:v0 K ρ h H)(R:YZ K H ρ ds vs)(hp:H p=none):n0 K (FB H p (.lst vs)) ρ (.lst ds) (.ref p):=
 u0.mpr ⟨p,vs,rfl,.inl ⟨S.out hp,.inl bD⟩,R.ext (Ext.fresh hp)⟩
theorem DP{K:Frag}{H:Hp}{ρ:Rg}{h:HI}{ds:List Dt}{vs:List V}{p:Addr}(S:v0 K ρ h H)(R:YZ K H ρ ds vs)(hp:H p=none) :
 n0 K (FB H p (.lst vs)) (ρ.add p) (.ref h.length) (.ref p)/\v0 K (ρ.add p) (h++[.lst ds]) (FB H p (.lst vs)):=by
 refine⟨F0.mpr ⟨p,rfl,?_⟩,S.own hp ⟨vs,bD,R.ext (Ext.own hp)⟩⟩;simp only[Rg.add];rw[<- S.len,kj (fj _),Nat.sub_self];rfl
theorem qD{α:Type}{c:Prop}[Decidable c]{a b:α}(h:(if c then some a else none)=some b):c/\a=b:=by
 by_cases hc:c
 · rw[if_pos hc]at h;exact⟨hc,Option.some.inj h⟩
 · rw[if_neg hc]at h;cases h
theorem VD{es:List Expr}{g:RA}{x1}(h:AM X es g):EM X (.Tuple es x1 pos) (VC g):=by with_unfolding_all exact PE.imp (kX h) fun σ H Q zz=>by obtain⟨ρ,l,h,d,h',S,L,e,k⟩:=zz;obtain⟨⟨ds,h1⟩,e1,e⟩:=eA e;obtain⟨hz,e⟩:=qD e;cases e;exact⟨ρ,l,h,ds,h1,S,L,e1,fun ρ1 vs H1 R1 S1 E1=>⟨by rw[R1.length];exact hz,fun p hp=>k ρ1 _ _ (FP S1 R1 hp) (S1.fresh hp) (E1.trans (Ext.fresh hp))⟩⟩
theorem QF{es:List Expr}{g:RA}(h:AM X es g):EM X (.List es pos) (eE g):=by with_unfolding_all exact PE.imp (iQ h) fun σ H Q zz=>by obtain⟨ρ,l,h,d,h',S,L,e,k⟩:=zz;obtain⟨⟨ds,h1⟩,e1,e⟩:=eA e;obtain⟨hz,e⟩:=qD e;cases e;exact⟨ρ,l,h,ds,h1,S,L,e1,fun ρ1 vs H1 R1 S1 E1=>⟨by rw[R1.length];exact hz,fun p hp=>k ρ1 _ _ (FH S1 R1 hp) (S1.fresh hp) (E1.trans (Ext.fresh hp))⟩⟩
theorem xG{es:List Expr}{g:RA}(h:AM X es g):EM X (.List es pos) (DE g):=by with_unfolding_all exact PE.imp (iQ h) fun σ H Q zz=>by obtain⟨ρ,l,h,d,h',S,L,e,k⟩:=zz;obtain⟨⟨ds,h1⟩,e1,e⟩:=eA e;obtain⟨hz,e⟩:=qD e;cases e;exact⟨ρ,l,h,ds,h1,S,L,e1,fun ρ1 vs H1 R1 S1 E1=>⟨by rw[R1.length];exact hz,fun p hp=>k _ _ _ (DP S1 R1 hp).1 (DP S1 R1 hp).2 (E1.trans (Ext.own hp))⟩⟩
end
noncomputable def oI(C:Int->Int->Prop)[∀i j,Decidable (C i j)](g:Int->Int->Dt):bC:=fun a b h=>match a,b with
 | .int i,.int j=>if C i j then some (g i j,h)else none
 | _,_=>none
noncomputable def cI(g:Int->Int->Dt):bC:=fun a b h=>match a,b with
 | .int i,.int j=>some (g i j,h)
 | _,_=>none
instance:∀i j,Decidable (KG i j):=fun i j=>by unfold KG;infer_instance
instance:∀i j,Decidable (X2 i j):=fun i j=>by unfold X2;infer_instance
instance:∀i j,Decidable (zE i j):=fun i j=>by unfold zE;infer_instance
noncomputable def xC:Dt->Option V
 | .non=>some .non
 | .bl b=>some (.bl b)
 | .int i=>some (.int i)
 | .str x=>some (.str x)
 | _=>none
theorem QO{K:Frag}{H:Hp}{ρ:Rg}{d:Dt}{v:V}(e:xC d=some v):n0 K H ρ d v:=by cases d<;>simp only[xC]at e<;>first | (cases e;simp only[n0]) | cases e
theorem rG{K:Frag}{H:Hp}{ρ:Rg}{d:Dt}{v u:V}(e:xC d=some v)(r:n0 K H ρ d u):u=v:=by cases d<;>simp only[xC]at e<;>first | (cases e;simpa only[n0]using r) | cases e
section
variable{X:Cx}
theorem fG{f:Value->Value->Sem Value}{C:Int->Int->Prop}[∀i j,Decidable (C i j)]{g:Int->Int->Dt}{g':Int->Int->V}(ho:Q0 X f (rI C g'))(hg:∀i j,xC (g i j)=some (g' i j)):OM X f (oI C g):=by
 with_unfolding_all
  exact Q0.imp ho fun x y H Q zz=>by
   obtain⟨ρ,h,d1,d2,d,h',S,R1,R2,e,k⟩:=zz;unfold oI at e;split at e
   · rename_i i j;obtain⟨hc,e⟩:=qD e;cases e;exact⟨i,j,ZZ.mp R1,ZZ.mp R2,hc,k ρ _ H (QO (hg i j)) S (Ext.refl _ _)⟩
   · cases e
theorem TF{f:Value->Value->Sem Value}{g:Int->Int->Dt}{g':Int->Int->V}(ho:Q0 X f (UH g'))(hg:∀i j,xC (g i j)=some (g' i j)):OM X f (cI g):=by
 with_unfolding_all
  exact Q0.imp ho fun x y H Q zz=>by
   obtain⟨ρ,h,d1,d2,d,h',S,R1,R2,e,k⟩:=zz;unfold cI at e;split at e
   · rename_i i j;cases e;exact⟨i,j,ZZ.mp R1,ZZ.mp R2,k ρ _ H (QO (hg i j)) S (Ext.refl _ _)⟩
   · cases e
def zC:bC:=cI fun i j=>.int (i+j)
def YJ:bC:=cI fun i j=>.int (i-j)
def dF:bC:=oI X2 fun i j=>.int (i*j)
def XC:bC:=oI KG fun i j=>.int (i/j)
def gB:bC:=oI (fun _ j=>0<j) fun i j=>.int (i%j)
def dG:bC:=oI zE fun i j=>.int (i^j.toNat)
def NG:bC:=oI zE fun i j=>.int (i*2^j.toNat)
def OG:bC:=oI (fun _ j=>0<=j) fun i j=>.int (i/2^j.toNat)
def HJ:bC:=cI fun i j=>.int (Builtin.bitAnd i j)
def iI:bC:=cI fun i j=>.bl (decide (i<j))
def gI:bC:=cI fun i j=>.bl (decide (i<=j))
def jN:bC:=cI fun i j=>.bl (decide (j<i))
def gR:bC:=cI fun i j=>.bl (decide (j<=i))
theorem JC:OM X (binaryOp .Add) zC:=by with_unfolding_all exact TF RX fun _ _=>rfl
theorem QX:OM X (binaryOp .Sub) YJ:=by with_unfolding_all exact TF eX fun _ _=>rfl
theorem HH:OM X (binaryOp .Mult) dF:=by with_unfolding_all exact fG VX fun _ _=>rfl
theorem ID:OM X (binaryOp .FloorDiv) XC:=by with_unfolding_all exact fG HW fun _ _=>rfl
theorem BB:OM X (binaryOp .Mod) gB:=by with_unfolding_all exact fG UX fun _ _=>rfl
theorem JM:OM X (binaryOp .Pow) dG:=by with_unfolding_all exact fG bX fun _ _=>rfl
theorem cQ:OM X (binaryOp .LShift) NG:=by with_unfolding_all exact fG cX fun _ _=>rfl
theorem dQ:OM X (binaryOp .RShift) OG:=by with_unfolding_all exact fG dX fun _ _=>rfl
theorem rP:OM X (binaryOp .BitAnd) HJ:=by with_unfolding_all exact TF SX fun _ _=>rfl
theorem CG:OM X (compareOp .Lt) iI:=by with_unfolding_all exact TF WY fun _ _=>rfl
theorem UF:OM X (compareOp .LtE) gI:=by with_unfolding_all exact TF VY fun _ _=>rfl
theorem xQ:OM X (compareOp .Gt) jN:=by with_unfolding_all exact TF UY fun _ _=>rfl
theorem PY:OM X (compareOp .GtE) gR:=by with_unfolding_all exact TF TY fun _ _=>rfl
def uN:bC:=fun a b h=>match xC a,xC b with
 | some x,some y=>if gG x y=true then some (.bl (decide (x=y)),h)else none
 | _,_=>none
def vN:bC:=fun a b h=>match xC a,xC b with
 | some x,some y=>if gG x y=true then some (.bl (!decide (x=y)),h)else none
 | _,_=>none
theorem OY:OM X (compareOp .Eq) uN:=by
 with_unfolding_all
  exact Q0.imp SY fun x y H Q zz=>by
   obtain⟨ρ,h,d1,d2,d,h',S,R1,R2,e,k⟩:=zz;unfold uN at e;split at e
   · rename_i u v e1 e2;obtain⟨hc,e⟩:=qD e;cases e;rw[rG e1 R1,rG e2 R2];exact⟨hc,k ρ _ H (b0.mpr rfl) S (Ext.refl _ _)⟩
   · cases e
theorem RY:OM X (compareOp .NotEq) vN:=by
 with_unfolding_all
  exact Q0.imp WX fun x y H Q zz=>by
   obtain⟨ρ,h,d1,d2,d,h',S,R1,R2,e,k⟩:=zz;unfold vN at e;split at e
   · rename_i u v e1 e2;obtain⟨hc,e⟩:=qD e;cases e;rw[rG e1 R1,rG e2 R2];exact⟨hc,k ρ _ H (b0.mpr rfl) S (Ext.refl _ _)⟩
   · cases e
noncomputable def tQ:Dt->Bool
 | .non=>true
 | _=>false
def fI:bC:=fun a b h=>match b with
 | .non=>some (.bl (tQ a),h)
 | _=>none
theorem QU{K:Frag}{H:Hp}{ρ:Rg}{d:Dt}{v:V}(r:n0 K H ρ d v):decide (v=.non)=tQ d:=by
 cases d with
 | non=>have e:=B0.mp r;subst e;rfl
 | bl b=>have e:=b0.mp r;subst e;rfl
 | int i=>have e:=ZZ.mp r;subst e;rfl
 | str x=>have e:=o0.mp r;subst e;rfl
 | tup xs=>obtain⟨a,vs,e,_⟩:=A0.mp r;subst e;rfl
 | lst xs=>obtain⟨a,vs,e,_⟩:=u0.mp r;subst e;rfl
 | ref n=>obtain⟨a,e,_⟩:=F0.mp r;subst e;rfl
 | U1 n=>obtain⟨a,e,_⟩:=G1.mp r;subst e;rfl
theorem PX:OM X (compareOp .Is) fI:=by
 with_unfolding_all
  exact Q0.imp TX fun x y H Q zz=>by
   obtain⟨ρ,h,d1,d2,d,h',S,R1,R2,e,k⟩:=zz;unfold fI at e;split at e
   · cases e;exact⟨B0.mp R2,k ρ _ H (b0.mpr (by rw[QU R1])) S (Ext.refl _ _)⟩
   · cases e
noncomputable def lE(f:RE):RE:=fun l h=>(f l h).bind fun r=>match r.1 with | .int i=>some (.int (-i),r.2) | _=>none
theorem AH{a:Expr}{fa:RE}{pos:Pos}(ha:EM X a fa):EM X (.UnaryOp .USub a pos) (lE fa):=by
 with_unfolding_all
  exact PE.imp (cY VW ha) fun σ H Q zz=>by
   obtain⟨ρ,l,h,d,h',S,L,e,k⟩:=zz;obtain⟨⟨d1,h1⟩,e1,e⟩:=eA e;refine⟨ρ,l,h,d1,h1,S,L,e1,fun ρ1 x H1 R1 S1 E1=>?_⟩;cases d1 with
   | int i=>cases e;exact⟨i,ZZ.mp R1,k ρ1 _ H1 (ZZ.mpr rfl) S1 E1⟩
   | _=>cases e
end
noncomputable def jA(h:HI):Dt->Option (List Dt)
 | .lst xs=>some xs
 | .ref n=>match h[n]? with | some (.lst xs)=>some xs | _=>none
 | _=>none
def DD(h:HI):Dt->Option (List Dt)
 | .tup xs=>some xs
 | d=>jA h d
theorem ZD{K:Frag}{H:Hp}{ρ:Rg}{h:HI}{d:Dt}{v:V}{xs:List Dt}(S:v0 K ρ h H)(R:n0 K H ρ d v)(e:jA h d=some xs):∃a vs,v=.ref a/\Y0 K H a vs/\YZ K H ρ xs vs:=by
 cases d with
 | lst ys=>cases e;obtain⟨a,vs,e,q,r⟩:=u0.mp R;exact⟨a,vs,e,q.sq,r⟩
 | ref n=>
  simp only[jA]at e;split at e
  · rename_i ys q;cases e;obtain⟨a,rfl,ha⟩:=F0.mp R;obtain⟨vs,h1,h2⟩:=S.lst ha q;exact⟨a,vs,rfl,Y0.of h1,h2⟩
  · cases e
 | _=>simp only[jA]at e<;>cases e
theorem hJ{K:Frag}{H:Hp}{ρ:Rg}{h:HI}{d:Dt}{v:V}{xs:List Dt}(S:v0 K ρ h H)(R:n0 K H ρ d v)(e:DD h d=some xs):∃a vs,v=.ref a/\(Y0 K H a vs\/HG K H a vs)/\YZ K H ρ xs vs:=by
 cases d with
 | tup ys=>cases e;obtain⟨a,vs,e,q,r⟩:=A0.mp R;exact⟨a,vs,e,.inr q.sq,r⟩
 | lst ys=>obtain⟨a,vs,e,q,r⟩:=ZD S R (show jA h (.lst ys)=some xs from e);exact⟨a,vs,e,.inl q,r⟩
 | ref n=>obtain⟨a,vs,e,q,r⟩:=ZD S R (show jA h (.ref n)=some xs from e);exact⟨a,vs,e,.inl q,r⟩
 | _=>cases e
theorem YZ.X1{K:Frag}{H:Hp}{ρ:Rg}{ds:List Dt}{vs:List V}{i:Int}{d:Dt}(r:YZ K H ρ ds vs)(e:L2.X1 ds i=some d):∃v,L2.X1 vs i=some v/\n0 K H ρ d v:=by
 unfold L2.X1 at e ⊢;rw[r.length];cases q:VF ds.length i with
 | none=>rw[q]at e;cases e
 | some j=>rw[q]at e;exact r.get e
def iA:bC:=fun a b h=>match b with
 | .int i=>match a with
  | .str z=>if z.length<=sizeLine then(L2.X1 z.cps.toList i).map fun c=>(.str ⟨#[c]⟩,h)else none
  | _=>(DD h a).bind fun xs=>(L2.X1 xs i).map fun d=>(d,h)
 | _=>none
section
variable{X:Cx}{a b c:Expr}{fa fb fc:RE}{pos:Pos}
theorem xW{x y:V}{H:Hp}{Q:VK}(h:rM X.K iA x y H Q):eZ X.K x y H Q:=by
 obtain⟨ρ,h,d1,d2,d,h',S,R1,R2,e,k⟩:=h;unfold iA at e;split at e
 · rename_i i;have ei:=ZZ.mp R2;split at e
   · rename_i z;split at e
     · rename_i hz;cases q:L2.X1 z.cps.toList i with
       | none=>rw[q]at e;cases e
       | some c=>rw[q]at e;cases e;exact .inr (.inr ⟨z,i,c,o0.mp R1,ei,hz,q,k ρ _ H (o0.mpr rfl) S (Ext.refl _ _)⟩)
     · cases e
   · obtain⟨xs,e1,e⟩:=eA e;cases q:L2.X1 xs i with
     | none=>rw[q]at e;cases e
     | some u=>
      rw[q]at e;cases e;obtain⟨p,vs,e2,sq,r⟩:=hJ S R1 e1;obtain⟨v,q1,q2⟩:=r.X1 q;rcases sq with sq | sq
      · exact .inl ⟨p,vs,i,v,e2,ei,sq,q1,k ρ _ H q2 S (Ext.refl _ _)⟩
      · exact .inr (.inl ⟨p,vs,i,v,e2,ei,sq,q1,k ρ _ H q2 S (Ext.refl _ _)⟩)
 · cases e
theorem lA(ha:EM X a fa)(hb:EM X b fb)(hs:bP b:=by intro _ _;rfl):EM X (.Subscript a b pos) (e2 iA fa fb):=by
 with_unfolding_all
  exact PE.imp (ZX BX ha hb hs) fun σ H Q zz=>by
   obtain⟨ρ,l,h,d,h',S,L,e,k⟩:=zz;obtain⟨⟨d1,h1⟩,e1,e⟩:=eA e;obtain⟨⟨d2,h2⟩,e2,e⟩:=eA e;exact⟨ρ,l,h,d1,h1,S,L,e1,fun ρ1 x H1 R1 S1 E1=>⟨ρ1,l,h1,d2,h2,S1,L.ext E1,e2,fun ρ2 y H2 R2 S2 E2=>
    xW ⟨ρ2,h2,d1,d2,d,h',S2,n0.ext E2 _ R1,R2,e,k.ext (E1.trans E2)⟩⟩⟩
end
noncomputable def eB:RS:=fun l h=>some (.nx l h)
noncomputable def gA(f g:RS):RS:=fun l h=>(f l h).bind fun r=>match r with | .nx l' h'=>g l' h' | r=>some r
noncomputable def UA(i:Nat)(f:RE):RS:=fun l h=>(f l h).bind fun r=>some (.nx (l.set i (some r.1)) r.2)
noncomputable def aE(f:RE):RS:=fun l h=>(f l h).bind fun r=>some (.nx l r.2)
noncomputable def vA(f:RE):RS:=fun l h=>(f l h).bind fun r=>some (.rt r.1 r.2)
noncomputable def lC(t:RT)(f g:RS):RS:=fun l h=>(t l h).bind fun r=>if r.1=true then f l r.2 else g l r.2
section
variable{X:Cx}{st:Stmt}{rest:List Stmt}{e:Expr}{f:RE}{t u:RS}{c:RT}{pos:Pos}
theorem pB:PH X [] eB:=by with_unfolding_all exact N2.imp UV fun D σ H zz=>by obtain⟨ρ,l,h,r,S,L,e,k⟩:=zz;cases e;exact k ρ σ H S L (Ext.refl _ _)
theorem oA(h1:ZM X st t)(h2:PH X rest u):PH X (st::rest) (gA t u):=by
 with_unfolding_all
  exact N2.imp (yV h1 h2) fun D σ H zz=>by
   obtain⟨ρ,l,h,r,S,L,e,k⟩:=zz;obtain⟨r1,e1,e⟩:=eA e;refine⟨ρ,l,h,r1,S,L,e1,?_⟩;cases r1 with
   | nx l' h'=>exact fun ρ' σ' H' S' L' E'=>⟨ρ',l',h',r,S',L',e,k.ext E'⟩
   | rt d h'=>cases e;exact k
   | bk l' h'=>cases e;exact k
   | ct l' h'=>cases e;exact k
theorem nA(h1:ZM X st t):PH X [st] t:=by with_unfolding_all exact VV h1
theorem NE(he:EM X e f)(hs:swapsWith e none pos.line X.env=pure false:=by rfl):ZM X (.Expr e pos) (aE f):=by with_unfolding_all exact PS.imp (TV he hs) fun D σ H zz=>by obtain⟨ρ,l,h,r,S,L,e,k⟩:=zz;obtain⟨⟨d1,h1⟩,e1,e⟩:=eA e;cases e;exact⟨ρ,l,h,d1,h1,S,L,e1,fun ρ1 v H1 R1 S1 E1=>k ρ1 σ H1 S1 (L.ext E1) E1⟩
theorem yA(he:EM X e f):ZM X (.Return (some e) pos) (vA f):=by with_unfolding_all exact PS.imp (pX he) fun D σ H zz=>by obtain⟨ρ,l,h,r,S,L,e,k⟩:=zz;obtain⟨⟨d1,h1⟩,e1,e⟩:=eA e;cases e;exact⟨ρ,l,h,d1,h1,S,L,e1,k⟩
theorem iB{b:Expr}{ss ss':List Stmt}(hc:TM X b c)(ha:PH X ss t)(hb:PH X ss' u):ZM X (.If b ss ss' pos) (lC c t u):=by
 with_unfolding_all
  exact PS.imp (dY hc ha hb) fun D σ H zz=>by
   obtain⟨ρ,l,h,r,S,L,e,k⟩:=zz;obtain⟨⟨b1,h1⟩,e1,e⟩:=eA e;refine⟨ρ,l,h,b1,h1,S,L,e1,fun ρ1 H1 S1 E1=>?_⟩;cases b1 with
   | true=>rw[if_pos rfl]at e;exact iE ⟨ρ1,l,h1,r,S1,L.ext E1,e,k.ext E1⟩
   | false=>rw[if_neg dj]at e;exact gE ⟨ρ1,l,h1,r,S1,L.ext E1,e,k.ext E1⟩
theorem rB(i:Nat){x:Str}{pos':Pos}(hN:X.N.Nodup)(he:EM X e f)(hi:X.N[i]?=some x:=by rfl)(hx:LJ X.env.scope x:=by first | exact Or.inl rfl | exact Or.inr rfl)
 (hs:swapsWith e (some (.Name x pos')) pos.line X.env=pure false:=by rfl) (hf:X.fn x=true\/X.env.scope.names.lookup x=some .local:=by first | exact .inl rfl | exact .inr rfl | assumption) :
 ZM X (.Assign [.Name x pos'] e pos) (UA i f):=by
 with_unfolding_all exact PS.imp (qX hN hi hx he hs hf) fun D σ H zz=>by obtain⟨ρ,l,h,r,S,L,e,k⟩:=zz;obtain⟨⟨d1,h1⟩,e1,e⟩:=eA e;cases e;exact⟨ρ,l,h,d1,h1,S,L,e1,fun ρ1 v H1 R1 S1 E1=>k ρ1 _ H1 S1 ((L.ext E1).set i R1) E1⟩
end
inductive Src where
 | vals (xs:List Dt)
 | rf (n:Nat)
 | zp (a b:Dt)
 | it (n:Nat)
 | en (n:Nat)
def Src.at(s:Src)(h:HI)(i:Nat):Option (Option Dt):=match s with
 | .vals xs=>some xs[i]?
 | .rf n=>match h[n]? with | some (.lst xs)=>some xs[i]? | _=>none
 | .zp a b=>match jA h a,jA h b with
  | some xs,some ys=>some (match xs[i]?,ys[i]? with | some x,some y=>some (.tup [x,y]) | _,_=>none)
  | _,_=>none
 | .it n=>match h[n]? with | some (.df kvs)=>some (kvs[i]?.map fun p=>.tup [.tup (p.1.map Dt.int),p.2]) | _=>none
 | .en n=>match h[n]? with | some (.lst xs)=>some (xs[i]?.map fun x=>.tup [.int (i:Int),x]) | _=>none
def Src.fuel(s:Src)(h:HI):Nat:=match s with
 | .vals xs=>xs.length+1
 | .rf n=>match h[n]? with | some (.lst xs)=>xs.length+1 | _=>0
 | .zp a _=>match jA h a with | some xs=>xs.length+1 | _=>0
 | .it n=>match h[n]? with | some (.df kvs)=>kvs.length+1 | _=>0
 | .en n=>match h[n]? with | some (.lst xs)=>xs.length+1 | _=>0
abbrev RI:=LI->HI->Option (Src×HI)
def XW(K:Frag)(H:Hp)(ρ:Rg)(s:Src)(J:It):Prop:=
 ∀H2 ρ2 h2,L0 ρ ρ2 H H2->v0 K ρ2 h2 H2->∀i:Nat,match s.at h2 i with
  | none=>True
  | some none=>J.stop i H2
  | some (some d)=>J.go i H2/\∀v H3,J.C5 i H2 v H3->n0 K H3 ρ2 d v/\Ext ρ2 ρ2 H2 H3/\v0 K ρ2 h2 H3
def iM(K:Frag)(g:RI):TI:=fun σ H R=>∃ρ l h s h',v0 K ρ h H/\K0 K H ρ l σ/\g l h=some (s,h')/\∀ρ' J H',XW K H' ρ' s J->v0 K ρ' h' H'->Ext ρ ρ' H H'->R J H'
@[irreducible] def IM(X:Cx)(tg iter:Expr)(g:RI):Prop:=PI X tg iter (iM X.K g)
theorem PI.imp{X:Cx}{tg e:Expr}{t t':TI}(h:PI X tg e t)(i:∀σ H Q,t' σ H Q->t σ H Q):PI X tg e t':=fun pins s σ H Q I q=>h pins s σ H Q I (i σ H Q q)
abbrev RG:=Dt->LI->Option LI
def gM(K:Frag)(g:RG):TG:=fun v σ H Q=>∃ρ l h d l',v0 K ρ h H/\K0 K H ρ l σ/\n0 K H ρ d v/\g d l=some l'/\∀σ',K0 K H ρ l' σ'->Q σ' H
@[irreducible] def GM(X:Cx)(tg:Expr)(g:RG):Prop:=PG X tg (gM X.K g)
theorem PG.imp{X:Cx}{e:Expr}{t t':TG}(h:PG X e t)(i:∀v σ H Q,t' v σ H Q->t v σ H Q):PG X e t':=fun pins s σ H v u Q I r q=>h pins s σ H v u Q I r (i v σ H Q q)
noncomputable def SA(i:Nat):RG:=fun d l=>some (l.set i (some d))
def AD(bd:RG)(body:RS)(s:Src):Nat->Nat->RS
 | 0,_,_,_=>none
 | k+1,i,l,h=>match s.at h i with
  | none=>none
  | some none=>some (.nx l h)
  | some (some d)=>(bd d l).bind fun l1=>(body l1 h).bind fun r=>match r with
   | .nx l' h'=>AD bd body s k (i+1) l' h'
   | .ct l' h'=>AD bd body s k (i+1) l' h'
   | .bk l' h'=>some (.nx l' h')
   | .rt d h'=>some (.rt d h')
def CD(g:RI)(bd:RG)(body:RS):RS:=fun l h=>(g l h).bind fun r=>AD bd body r.1 (r.1.fuel r.2) 0 l r.2
section
variable{X:Cx}{tg iter:Expr}{pos:Pos}
theorem QB(i:Nat){x:Str}{pos:Pos}(hN:X.N.Nodup)(hi:X.N[i]?=some x:=by rfl)(hx:LJ X.env.scope x:=by first | exact Or.inl rfl | exact Or.inr rfl)
 (hf:X.fn x=true\/X.env.scope.names.lookup x=some .local:=by first | exact .inl rfl | exact .inr rfl | assumption):GM X (.Name x pos) (SA i):=by
 with_unfolding_all exact PG.imp (pM hN hi hx hf) fun v σ H Q zz=>by obtain⟨ρ,l,h,d,l',S,L,R,e,k⟩:=zz;cases e;exact k _ (L.set i R)
noncomputable def JG(f:RE):RI:=fun l h=>(f l h).bind fun r=>match r.1 with | .int j=>if -(2^62)<=j/\j<2^62 then some (.vals ((List.range j.toNat).map fun(k:Nat)=>Dt.int (k:Int)),r.2)else none | _=>none
noncomputable def OQ(f g:RE):RI:=fun l h=>(f l h).bind fun r=>(g l r.2).bind fun q=>match r.1,q.1 with
 | .int i,.int j=>if -(2^62)<=i/\i<2^62/\-(2^62)<=j/\j<2^62 then some (.vals ((List.range (j-i).toNat).map fun(k:Nat)=>Dt.int (i+(k:Int))),q.2)else none | _,_=>none
theorem QE {a:Expr} {f:RE} {p pos:Pos} (hg:Gl X "range") (hm:X.mg "range" =none) (ha:EM X a f) (hs:AB a=true:=by rfl) :
 IM X tg (.Call (.Name "range" p) [a] [] pos) (JG f):=by
 with_unfolding_all
  exact PI.imp (NU hg hm (LC ha xD (vB hs _ _)) (vB hs _ _)) fun σ H R zz=>by
   obtain⟨ρ,l,h,s,h',S,L,e,k⟩:=zz;obtain⟨⟨d1,h1⟩,e1,e⟩:=eA e;refine⟨ρ,l,h,d1,h1,S,L,e1,fun ρ1 v H1 R1 S1 E1=>?_⟩;cases d1 with
   | int j=>
    obtain⟨⟨c1,c2⟩,e⟩:=qD e;cases e;refine⟨j,by rw[ZZ.mp R1],c1,c2,k ρ1 _ H1 (fun H2 ρ2 h2 E2 S2 i=>?_) S1 E1⟩;simp only[Src.at,getElem?_map];by_cases hi:i<j.toNat
    · rw[getElem?_range hi];refine⟨hi,fun v H3 q=>?_⟩;obtain⟨rfl,rfl⟩:=q;exact⟨ZZ.mpr (by simp),Ext.refl _ _,S2⟩
    · rw[getElem?_eq_none (by simpa using Nat.not_lt.mp hi)];exact Nat.not_lt.mp hi
   | _=>cases e
theorem zT {a b:Expr} {f g:RE} {p pos:Pos} (hg:Gl X "range") (hm:X.mg "range" =none) (ha:EM X a f) (hb:EM X b g) (hs:AB a=true:=by rfl) (hs2:AB b=true:=by rfl) :
 IM X tg (.Call (.Name "range" p) [a,b] [] pos) (OQ f g):=by
 with_unfolding_all
  exact PI.imp (OU hg hm (LC ha (LC hb xD (vB hs2 _ _)) (vB hs _ _)) (by rw[vB hs,vB hs2];rfl) (vB hs2 _ _)) fun σ H R zz=>by
   obtain⟨ρ,l,h,s,h',S,L,e,k⟩:=zz;obtain⟨⟨d1,h1⟩,e1,e⟩:=eA e;obtain⟨⟨d2,h2⟩,e2,e⟩:=eA e;refine⟨ρ,l,h,d1,h1,S,L,e1,fun ρ1 v H1 R1 S1 E1=>⟨ρ1,l,h1,d2,h2,S1,L.ext E1,e2,fun ρ2 u H2 R2 S2 E2=>?_⟩⟩;cases d1 with
   | int i=>
    cases d2 with
    | int j=>
     obtain⟨c,e⟩:=qD e;cases e;refine⟨i,j,by rw[ZZ.mp R1,ZZ.mp R2],c,k ρ2 _ H2 (fun H3 ρ3 h3 E3 S3 n=>?_) S2 (E1.trans E2)⟩;simp only[Src.at,getElem?_map];by_cases hi:n<(j-i).toNat
     · rw[getElem?_range hi];refine⟨hi,fun v H4 q=>?_⟩;obtain⟨rfl,rfl⟩:=q;exact⟨ZZ.mpr rfl,Ext.refl _ _,S3⟩
     · rw[getElem?_eq_none (by simpa using Nat.not_lt.mp hi)];exact Nat.not_lt.mp hi
    | _=>cases e
   | _=>cases e
noncomputable def sN(f:RE):RI:=fun l h=>(f l h).bind fun r=>match r.1 with | .lst xs=>some (.vals xs,r.2) | .ref n=>some (.rf n,r.2) | _=>none
def yC(f:RE):RI:=fun l h=>(sN f l h).bind fun r=>if 0<r.1.fuel r.2 then some r else none
theorem kD{a:Expr}{f:RE}(ha:EM X a f):IM X tg a (yC f):=by
 with_unfolding_all
  exact PI.imp (OW ha) fun σ H R zz=>by
   obtain⟨ρ,l,h,s,h',S,L,e,k⟩:=zz;obtain⟨⟨s1,h1⟩,e,ez⟩:=eA e;obtain⟨hz,ez⟩:=qD ez;cases ez;obtain⟨⟨d1,h2⟩,e1,e⟩:=eA e;refine⟨ρ,l,h,d1,h2,S,L,e1,fun ρ1 v H1 R1 S1 E1=>?_⟩;cases d1 with
   | lst xs=>
    cases e;obtain⟨a,vs,rfl,q,r⟩:=u0.mp R1;refine⟨a,rfl,⟨vs,q.sq⟩,k ρ1 _ H1 (fun H2 ρ2 h2 E2 S2 i=>?_) S1 E1⟩;have q2:=q.same E2;have r2:=YZ.same E2 _ r;simp only[Src.at];cases ei:xs[i]? with
    | none=>refine⟨vs,q2.sq,?_⟩;rw[r.length];exact getElem?_eq_none_iff.mp ei
    | some d=>obtain⟨v,g1,g2⟩:=r2.get ei;refine⟨⟨vs,v,q2.sq,g1⟩,fun u H3 y=>?_⟩;obtain⟨rfl,y⟩:=y;have y2:=y vs q2.sq;rw[g1]at y2;cases y2;exact⟨g2,Ext.refl _ _,S2⟩
   | ref n=>
    cases e;obtain⟨a,rfl,ha⟩:=F0.mp R1;simp only[Src.fuel]at hz;split at hz
    · rename_i xs q0;obtain⟨G9,g0,_⟩:=S1.lst ha q0;refine⟨a,rfl,⟨G9,Y0.of g0⟩,k ρ1 _ H1 (fun H2 ρ2 h2 E2 S2 i=>?_) S1 E1⟩;have ha2:=E2.ix _ _ ha;simp only[Src.at];split
      · trivial
      · rename_i y;split at y
        · rename_i ys q2;obtain⟨vs,g1,r⟩:=S2.lst ha2 q2;refine⟨vs,Y0.of g1,?_⟩;rw[r.length];exact getElem?_eq_none_iff.mp (Option.some.inj y)
        · cases y
      · rename_i d y;split at y
        · rename_i ys q2;obtain⟨vs,g1,r⟩:=S2.lst ha2 q2;obtain⟨v,z1,z2⟩:=r.get (Option.some.inj y);refine⟨⟨vs,v,Y0.of g1,z1⟩,fun u H3 y=>?_⟩;obtain⟨rfl,y⟩:=y;have y2:=y vs (Y0.of g1);rw[z1]at y2;cases y2;exact⟨z2,Ext.refl _ _,S2⟩
        · cases y
    · exact absurd hz (by omega)
   | _=>cases e
theorem uF{body:List Stmt}{g:RI}{bd:RG}{f:RS}(hp:PassesOwn (model X.prog X.w) X.A X.env X.xe)(hc:X.calm=true)(hi:IM X tg iter g)(hg:GM X tg bd)(hb:PH X body f)
 (hs:∀x,foldedSetIterable iter X.env x=pure x:=by intro _;rfl):ZM X (.For tg iter body [] pos) (CD g bd f):=by
 with_unfolding_all
  exact PS.imp (oX hp hc hi hg hb hs) fun D σ H zz=>by
   obtain⟨ρ,l,h,r,S,L,e,k⟩:=zz;obtain⟨⟨s,h1⟩,e1,e⟩:=eA e;refine⟨ρ,l,h,s,h1,S,L,e1,fun ρ1 J H1 ok S1 E1=>?_⟩;refine⟨fun i m σ' H'=>∃ρ' l' h',v0 X.K ρ' h' H'/\K0 X.K H' ρ' l' σ'/\Ext ρ1 ρ' H1 H'/\AD bd f s m i l' h'=some r,⟨_,ρ1,l,h1,S1,L.ext E1,Ext.refl _ _,e⟩,?_⟩;rintro i m σ' H' ⟨ρ',l',h',S',L',E',e'⟩;cases m with
   | zero=>simp only[AD]at e';cases e'
   | succ m=>
    simp only[AD]at e';have ok':=ok H' ρ' h' E'.same S' i;cases q:s.at h' i with
    | none=>rw[q]at e';cases e'
    | some o=>
     rw[q]at e' ok';cases o with
     | none=>cases e';exact .inl ⟨ok',k ρ' σ' H' S' L' (E1.trans E')⟩
     | some d=>
      dsimp only at e';obtain⟨l1,b1,e'⟩:=eA e';obtain⟨r1,b2,e'⟩:=eA e';refine .inr ⟨ok'.1,fun σ2 H2=>∃m',m'<m+1/\∃ρ' l' h',v0 X.K ρ' h' H2/\K0 X.K H2 ρ' l' σ2/\Ext ρ1 ρ' H1 H2/\AD bd f s m' (i+1) l' h'=some r,fun σ2 H2 q=>q,fun v H3 y=>?_⟩;obtain⟨R3,E3,S3⟩:=ok'.2 v H3 y;refine⟨ρ',l',h',d,l1,S3,L'.ext E3,R3,b1,fun σ4 L4=>⟨ρ',l1,h',r1,S3,L4,b2,?_⟩⟩;cases r1 with
      | nx l2 h2=>exact fun ρ5 σ5 H5 S5 L5 E5=>⟨m,Nat.lt_succ_self _,ρ5,l2,h2,S5,L5,E'.trans (E3.trans E5),e'⟩
      | ct l2 h2=>exact fun ρ5 σ5 H5 S5 L5 E5=>⟨m,Nat.lt_succ_self _,ρ5,l2,h2,S5,L5,E'.trans (E3.trans E5),e'⟩
      | bk l2 h2=>cases e';exact fun ρ5 σ5 H5 S5 L5 E5=>k ρ5 σ5 H5 S5 L5 (E1.trans (E'.trans (E3.trans E5)))
      | rt d2 h2=>cases e';exact fun ρ5 v5 H5 R5 S5 E5=>k ρ5 v5 H5 R5 S5 (E1.trans (E'.trans (E3.trans E5)))
end
noncomputable def fC(n N:Nat)(body:RS):HB:=fun ds h=>if ds.length=n then match body (ds.map some++List.replicate (N-n) none) h with
 | some (.rt d h')=>some (d,h')
 | some (.nx _ h')=>some (.non,h')
 | _=>none
 else none
def VH(K:Frag)(n:Nat)(F:HB):Sp:=fun vs H Q _=>∃ρ ds h d h',v0 K ρ h H/\YZ K H ρ ds vs/\ds.length=n/\F ds h=some (d,h')/\Out K ρ H d h' Q
section
variable{P:Program}{w:World}{K:Frag}{mg:Str->Option Value}{base:Heap}
theorem fO{H:Hp}{ρ:Rg}{N:List Str}{ds:List Dt}{vs:List V}(R:YZ K H ρ ds vs):K0 K H ρ (ds.map some++List.replicate (N.length-ds.length) none) (L2.bE N vs):=by
 have hl:=R.length;refine⟨by simp[L2.bE,hl],fun i d e=>?_⟩;by_cases hi:i<ds.length
 · rw[cj (by simpa using hi),getElem?_map]at e;cases q:ds[i]? with
   | none=>rw[q]at e;cases e
   | some d'=>rw[q]at e;cases e;obtain⟨v,g1,g2⟩:=R.get q;refine⟨v,?_,g2⟩;unfold L2.bE;rw[cj (by simpa[hl]using hi),getElem?_map,g1];rfl
 · rw[kj (by simpa using Nat.not_lt.mp hi),getElem?_replicate]at e;split at e<;>cases e
theorem pQ{x qual:Str}{st:Stmt}{f:Addr}{fd:FuncData}{N ps:List Str}{k:Nat}{body:RS}(F:Z3 K x qual st f fd)(S:ZA N ps (AA st))
 (hb:∀(cdv:Value)(A:Around)(outer:List Env)(s:Shared)(H:Hp)(E:XK),M0 k (A.deeper (envOfC qual (AA st) s.heap.objs.size f cdv))->
  PH (BE wF P w K mg base N qual (AA st) f cdv A outer s H E).W4 (nE st) body):Z0 P w K mg base wF (k+1) f fd ps (VH K ps.length (fC ps.length N.length body)):=by
 with_unfolding_all
  refine F.ok S (fun vs H Q E h=>?_) (fun cdv A outer s H vs Q E hr h=>?_)
  · obtain⟨ρ,ds,h,d,h',S,R,hl,_⟩:=h;rw[R.length,hl]
  · obtain⟨ρ,ds,h,d,h',S,R,hl,e,k⟩:=h;refine⟨_,hb cdv A outer s H E hr,?_⟩;unfold fC at e;rw[if_pos hl]at e;rw[<- hl]at e;split at e
    · rename_i d1 h1 q;cases e;exact⟨ρ,_,h,_,S,fO R,q,k⟩
    · rename_i l1 h1 q;cases e;exact⟨ρ,_,h,_,S,fO R,q,fun ρ' σ' H' S' L' E'=>k ρ' _ H' (B0.mpr rfl) S' E'⟩
    · cases e
end
noncomputable def zA(F:HB)(V2:List Dt)(g:RA):RE:=fun l h=>(g l h).bind fun r=>F (r.1++V2) r.2
section
variable{X:Cx}{k n:Nat}{f:Addr}{fd:FuncData}{ps:List Str}{F:HB}{x:Str}{p pos:Pos}{e:Expr}{es:List Expr}{g:RA}{Y2:List V}{ds:List Value}{V2:List Dt}
theorem AU(hF:Z0 X.prog X.w X.K X.mg X.base wF k f fd ps (VH X.K n F))(hr:M0 k X.A)(hg:Gl X x)(hm:X.mg x=some (.ref f))(hk:keepIn X.K (.ref f)=true)(hb:Binds X.K fd ps ds)(hd:Vals Y2 ds)(hdd:∀H ρ,YZ X.K H ρ V2 Y2)
 (ha:AM X (e::es) g) (hn:∀(F':List Dt->HI->Option (Dt×HI)),F'=F->∀ds h r,F' ds h=some r->ds.length=n) (hdb:(x==("__debug__" :Str))=false:=by decide) (he:AB e=true:=by rfl) (hpl:es.all AB=true:=by rfl) :
 EM X (.Call (.Name x p) (e::es) [] pos) (zA F V2 g):=by
 with_unfolding_all exact PE.imp (JW hF hr hg hm hk hb hd (E:=E0) yQ ha hdb (vB he _ _) (BM hpl)) fun σ H Q zz=>by obtain⟨ρ,l,h,d,h',S,L,e,k⟩:=zz;obtain⟨⟨L8,h1⟩,e1,e⟩:=eA e;exact⟨ρ,l,h,L8,h1,S,L,e1,fun ρ1 vs H1 R1 S1 E1=>⟨ρ1,_,h1,d,h',S1,R1.append (hdd H1 ρ1),hn F rfl _ _ _ e,e,k.ext E1⟩⟩
theorem rW{n N:Nat}{body:RS}{ds:List Dt}{h:HI}{r:Dt×HI}(e:fC n N body ds h=some r):ds.length=n:=by
 unfold fC at e;split at e
 · assumption
 · cases e
noncomputable def zJ(F:HB)(V2:List Dt):RE:=fun _ h=>F V2 h
theorem uT(hF:Z0 X.prog X.w X.K X.mg X.base wF k f fd ps (VH X.K n F))(hr:M0 k X.A)(hg:Gl X x)(hm:X.mg x=some (.ref f))(hk:keepIn X.K (.ref f)=true)(hb:Binds X.K fd ps ds)(hd:Vals Y2 ds)(hdd:∀H ρ,YZ X.K H ρ V2 Y2)
 (hn:∀(F':List Dt->HI->Option (Dt×HI)),F'=F->∀ds h r,F' ds h=some r->ds.length=n) (hdb:(x==("__debug__" :Str))=false:=by decide) :
 EM X (.Call (.Name x p) [] [] pos) (zJ F V2):=by
 with_unfolding_all exact PE.imp (qV hF hr hg hm hk hb hd (E:=E0) yQ hdb) fun σ H Q zz=>by obtain⟨ρ,l,h,d,h',S,L,e,k⟩:=zz;exact⟨ρ,V2,h,d,h',S,hdd H ρ,hn F rfl _ _ _ e,e,k⟩
end
end SM
namespace L2
noncomputable def MC(cells:List (Str×Addr)):List (Str×NameKind)->List (Str×Addr)->Option (List (Str×Addr))
 | [],cs=>some cs
 | (n,k)::r,cs=>if k==.free then match cells.lookup n with
  | some a=>MC cells r ((n,a)::cs)
  | none=>none
  else MC cells r cs
theorem PL{env:Env}:∀{l:List (Str×NameKind)}{cs cl:List (Str×Addr)},MC env.cells l cs=some cl->
 (forIn l cs fun(x:Str×NameKind) (r:List (Str×Addr))=>if(x.2==NameKind.free)=true then(do let a <- cellOf env x.1;pure (ForInStep.yield ((x.1,a)::r)):Sem _)else pure (ForInStep.yield r))=pure cl
 | [],cs,cl,h=>by simp only[MC]at h;cases h;rfl
 | (n,k)::r,cs,cl,h=>by
  simp only[MC]at h;rw[forIn_cons];cases hk:k==NameKind.free with
  | true=>
   rw[hk,if_pos rfl]at h;cases hc:env.cells.lookup n with
   | none=>rw[hc]at h;cases h
   | some a=>
    rw[hc]at h;have ih:=PL (env:=env) h;simp only[hk,if_true];have e:cellOf env n=pure a:=by unfold cellOf;rw[hc]
    rw[e];simp only[pure_bind];exact ih
  | false=>rw[hk,if_neg (by decide)]at h;have ih:=PL (env:=env) h;simp only[hk,nj,if_false,pure_bind];exact ih
theorem VN{scope:Scope}{env:Env}{cl:List (Str×Addr)}(h:MC env.cells scope.names []=some cl):closureFor scope env=pure cl:=by have e:=PL (env:=env) h;unfold closureFor;simp only[bind_pure];exact e
theorem HL{cells:List (Str×Addr)}:∀{l:List (Str×NameKind)}{cs cl:List (Str×Addr)},MC cells l cs=some cl->(∀x c,cs.lookup x=some c->cells.lookup x=some c)->
 (∀x c,cl.lookup x=some c->cells.lookup x=some c)/\(∀x c,cs.lookup x=some c->∃c',cl.lookup x=some c')/\∀n,(n,NameKind.free)∈l->∃c,cl.lookup n=some c
 | [],cs,cl,h,i=>by simp only[MC]at h;cases h;exact⟨i,fun x c e=>⟨c,e⟩,fun n hn=>nomatch hn⟩
 | (n,k)::r,cs,cl,h,i=>by
  simp only[MC]at h;cases hk:k==NameKind.free with
  | true=>
   rw[hk,if_pos rfl]at h;cases hc:cells.lookup n with
   | none=>rw[hc]at h;cases h
   | some a=>
    rw[hc]at h;have i':∀x c,((n,a)::cs).lookup x=some c->cells.lookup x=some c:=fun x c e=>by
     rw[lookup_cons]at e;cases hx:x==n with
     | true=>rw[hx]at e;cases e;rw[eq_of_beq hx];exact hc
     | false=>rw[hx]at e;exact i x c e
    obtain⟨h1,h2,h3⟩:=HL h i';refine⟨h1,fun x c e=>?_,fun m hm=>?_⟩
    · cases hx:x==n with
      | true=>exact h2 x a (by rw[lookup_cons,hx])
      | false=>exact h2 x c (by rw[lookup_cons,hx];exact e)
    · rcases mem_cons.mp hm with z | z
      · cases z;exact h2 _ a (by rw[lookup_cons,beq_self_eq_true])
      · exact h3 m z
  | false=>
   rw[hk,if_neg (by decide)]at h;obtain⟨h1,h2,h3⟩:=HL h i;refine⟨h1,h2,fun m hm=>?_⟩;rcases mem_cons.mp hm with z | z
   · cases z;cases hk
   · exact h3 m z
noncomputable def wB(X:Cx)(Nc:List Str)(scope:Scope)(cl:List (Str×Addr))(C:Addr)(s0:Shared)(H0:Hp)(fp:List Addr):Cx:=
 { X with N:=Nc,s₀:=s0,H₀:=H0,env:=compEnvC scope cl C X.env,outer:=X.stack,stack:=X.stack,ex:=fp,fn:=fun _=>false,pn:=[],xe:=fun _ _=>False }
theorem PN{env:Env}:∀{names:List (Str×NameKind)}{x:Str},(∀y∈names,y.2≠.cell)->
 ((names.map fun(n,k)=>if(k==NameKind.free&&env.scope.kind==.function&&env.kindOf n==some .cell)then(n,NameKind.cell)else(n,k)).lookup x=some .cell\/
  (names.map fun(n,k)=>if(k==NameKind.free&&env.scope.kind==.function&&env.kindOf n==some .cell)then(n,NameKind.cell)else(n,k)).lookup x=some .free)->(x,NameKind.free)∈names
 | [],_,_,h=>by simp at h
 | (n,k)::r,x,hc,h=>by
  have ih:=@PN env r x (fun y hy=>hc y (mem_cons_of_mem _ hy));have hk:k≠.cell:=hc (n,k) mem_cons_self;rw[S9]at h;cases hx:x==n with
  | true=>
   have ex:=eq_of_beq hx;subst ex;by_cases hf:k=.free
   · subst hf;exact mem_cons_self
   · have hb:(k==NameKind.free)=false:=by simpa using hf
     simp only[hb,Bool.false_and,nj,if_false,lookup_cons,beq_self_eq_true]at h;rcases h with h | h
     · exact absurd (Option.some.inj h) hk
     · exact absurd (Option.some.inj h) hf
  | false=>
   refine mem_cons_of_mem _ (ih ?_);by_cases hq:(k==NameKind.free&&env.scope.kind==.function&&env.kindOf n==some .cell)=true
   · simp only[hq,if_true,lookup_cons,hx]at h;exact h
   · rw[Bool.not_eq_true]at hq;simp only[hq,nj,if_false,lookup_cons,hx]at h;exact h
noncomputable def N0(X:Cx)(scope:Scope)(cl:List (Str×Addr)):List Str->List (Option Nat)->Prop
 | [],[]=>True
 | _::N,none::cs=>N0 X scope cl N cs
 | x::N,some j::cs=>(X.N[j]?=some x/\(X.env.kindOf x=some .cell\/X.env.kindOf x=some .free)/\((relabel scope X.env).names.lookup x=some .cell\/(relabel scope X.env).names.lookup x=some .free)/\
  cl.lookup x=X.env.cells.lookup x)/\N0 X scope cl N cs
 | _,_=>False
noncomputable def sE(σ:St)(cap:List (Option Nat)):St:=cap.map fun o=>match o with | some j=>(σ[j]?).join | none=>none
theorem N0.get{X:Cx}{scope:Scope}{cl:List (Str×Addr)}:∀{N:List Str}{cs:List (Option Nat)},N0 X scope cl N cs->∀{i j:Nat}{x:Str},N[i]?=some x->cs[i]?=some (some j)->
 X.N[j]?=some x/\(X.env.kindOf x=some .cell\/X.env.kindOf x=some .free)/\((relabel scope X.env).names.lookup x=some .cell\/(relabel scope X.env).names.lookup x=some .free)/\cl.lookup x=X.env.cells.lookup x
 | [],[],_,i,j,x,h,_=>by simp at h
 | y::N,none::cs,h,0,j,x,_,e=>by simp at e
 | y::N,none::cs,h,i+1,j,x,e1,e2=>N0.get (N:=N) (cs:=cs) h (i:=i) (by simpa using e1) (by simpa using e2)
 | y::N,some k::cs,h,0,j,x,e1,e2=>by simp at e1 e2;subst e1 e2;exact h.1
 | y::N,some k::cs,h,i+1,j,x,e1,e2=>N0.get (N:=N) (cs:=cs) h.2 (i:=i) (by simpa using e1) (by simpa using e2)
 | [],_::_,h,_,_,_,_,_=>h.elim
 | _::_,[],h,_,_,_,_,_=>h.elim
theorem N0.length{X:Cx}{scope:Scope}{cl:List (Str×Addr)}:∀{N:List Str}{cs:List (Option Nat)},N0 X scope cl N cs->cs.length=N.length
 | [],[],_=>rfl
 | y::N,none::cs,h=>by rw[Q9,Q9,N0.length (N:=N) (cs:=cs) h]
 | y::N,some k::cs,h=>by rw[Q9,Q9,N0.length (N:=N) (cs:=cs) h.2]
 | [],_::_,h=>h.elim
 | _::_,[],h=>h.elim
def WF(X:Cx)(ifs:List Expr)(t:TT):Prop:=
 ∀(pins:List (Addr×Obj))(s:Shared)(σ:St)(H:Hp)(Q:Bool->Hp->Prop),Inv X pins σ H s->t σ H Q->
  wpAny (model X.prog X.w) X.A (forIn ifs true fun c r=>if r=true then do let ok <- isTrue c X.env (eval c X.env);pure (ForInStep.yield ok)else pure (ForInStep.yield r)) (TP X pins σ Q) X.xe s
theorem vV{X:Cx}:WF X [] (fun _ H Q=>Q true H):=fun _ _ _ H _ I q=>wpAny_tests_nil ⟨H,I,q⟩
theorem wV{X:Cx}{c:Expr}{t:TT}(h:PT X c t):WF X [c] t:=fun pins s σ H Q I q=>wpAny_tests_one (h pins s σ H Q I q)
def gN(wi:TI)(g:TG)(tc:TT)(te:TE)(cap:List (Option Nat)):TE:=fun σ H Q=>wi σ H fun J H1=>∀D,H1 D=none->∃W:Nat->Nat->St->List V->Hp->Prop,
 (∃m,W 0 m (sE σ cap) [] (FB H1 D (.lst [])))/\∀i m σ' ys H',W i m σ' ys H'->
  (J.stop i H'/\Q (.ref D) H')\/(J.go i H'/\∀x H2,J.C5 i H' x H2->g x σ' H2 fun σ2 H3=>tc σ2 H3 fun b H4=>if b=true then te σ2 H4 fun y H5=>
   H5 D=some (.lst ys)/\ys.length<sizeLine/\∃m',m'<m/\W (i+1) m' σ2 (ys++[y]) (FB H5 D (.lst (ys++[y])))else ∃m',m'<m/\W (i+1) m' σ2 ys H4)
section
variable{prog:Program}{w:World}{A:Around}{R:Result->Shared->Prop}{s:Shared}
theorem LS{elt target iter:Expr}{ifs:List Expr}{scope:Scope}{pos:Pos}{it acc:Value}{env:Env}(I:Nat->Shared->Prop)
 (turn:∀n s,I n s->wpAny (model prog w) A (pyNext it) (fun r s₁=>match r with
  | none=>R (.ok .next) s₁
  | some v=>wpAny (model prog w) A (letOwnedTupleGo target it v) (fun _ s₁'=>wpAny (model prog w) A (assign target env v) (fun _ s₂=>
   wpAny (model prog w) A (forIn ifs true fun c r=>if r=true then do let ok <- isTrue c env (eval c env);pure (ForInStep.yield ok)else pure (ForInStep.yield r)) (fun ok s₃=>
    if ok=true then wpAny (model prog w) A (eval elt env) (fun x s₄=>
     wpAny (model prog w) A (call (.builtin "list.append") [acc,x]) (fun _ s₅=>∃m,m<n/\I m s₅) (fun _ _=>False) s₄) (fun _ _=>False) s₃
    else ∃m,m<n/\I m s₃) (fun _ _=>False) s₂) (fun _ _=>False) s₁') (fun _ _=>False) s₁) (fun _ _=>False) s)
 (n:Nat) (h:I n s):codeAny (model prog w) A (.compLoop (.ListComp elt [⟨target,iter,ifs,0⟩] scope pos) 0 it acc env) R s:=by
 refine codeAny_loop rfl I (fun n s hI=>?_) n h;show wpAny _ A ((compTurn (.ListComp elt [⟨target,iter,ifs,0⟩] scope pos) 0 it acc env).onRaise (fun x=>do noteFrame x env;theTreesLotGoes x)) _ _ s;refine wpAny_noted ?_;rw[compTurn_list];refine wpAny_bind (wpAny_standAt (wpAny_bind (wpAny_mono (turn n s hI) (fun r s₁ h₁=>?_) fun _ _ h'=>h'.elim)));cases r with
 | none=>exact wpAny_pure h₁
 | some v=>
  refine wpAny_bind (wpAny_mono h₁ (fun _ s₁' h₁'=>?_) fun _ _ h'=>h'.elim);refine wpAny_bind (wpAny_mono h₁' (fun _ s₂ h₂=>wpAny_bind (wpAny_mono h₂ (fun ok s₃ h₃=>?_) fun _ _ h'=>h'.elim)) fun _ _ h'=>h'.elim);cases ok with
  | false=>exact wpAny_pure ⟨rfl,h₃⟩
  | true=>exact wpAny_bind (wpAny_bind (wpAny_mono h₃ (fun x s₄ h₄=>wpAny_bind (wpAny_mono h₄ (fun _ s₅ h₅=>wpAny_pure (wpAny_pure ⟨rfl,h₅⟩)) fun _ _ h'=>h'.elim)) fun _ _ h'=>h'.elim))
end
section
variable{X:Cx}{elt iter tg:Expr}{ifs:List Expr}{scope:Scope}{cl:List (Str×Addr)}{pos:Pos}{Nc:List Str}{wi:TI}{g:TG}{tc:TT}{te:TE}{cap:List (Option Nat)}
theorem WN{pins:List (Addr×Obj)}{σ:St}{H:Hp}{s:Shared}{it:Addr}{fp:List Addr}{tn:Nat->Heap->Prop}{J:It}{Q:VK}{RR:Value->Addr->Result->Shared->Prop}{E:Value->Shared->Prop}
 (hc:X.calm=true) (hcl:MC X.env.cells scope.names []=some cl) (hcell:∀y∈scope.names,y.2≠.cell) (hkind:scope.kind=.function) (hcap:N0 X scope cl Nc cap)
 (hg:∀C s0 H0 fp,PG (wB X Nc scope cl C s0 H0 fp) tg g) (ht:∀C s0 H0 fp,WF (wB X Nc scope cl C s0 H0 fp) ifs tc) (he:∀C s0 H0 fp,PE (wB X Nc scope cl C s0 H0 fp) elt te)
 (I:Inv X pins σ H s) (T:XF X.prog X.w X.K tg J fp it tn) (st:tn 0 s.heap) (hf:∀b∈fp,zD X pins H b)
 (read:∀D,H D=none->∃W:Nat->Nat->St->List V->Hp->Prop,
  (∃m,W 0 m (sE σ cap) [] (FB H D (.lst [])))/\∀i m σ' ys H',W i m σ' ys H'->
   (J.stop i H'/\Q (.ref D) H')\/(J.go i H'/\∀x H2,J.C5 i H' x H2->g x σ' H2 fun σ2 H3=>tc σ2 H3 fun b H4=>if b=true then te σ2 H4 fun y H5=>
    H5 D=some (.lst ys)/\ys.length<sizeLine/\∃m',m'<m/\W (i+1) m' σ2 (ys++[y]) (FB H5 D (.lst (ys++[y])))else ∃m',m'<m/\W (i+1) m' σ2 ys H4))
 (hRR:∀(C D:Addr)(s':Shared)(H':Hp) m,Inv X pins σ H' s'->s'.heap.Ns C m->H' C=none->C≠X.env.locals->X.s₀.heap.objs.size<=C->(∀x c,X.env.cells.lookup x=some c->c≠C)->(∀p∈X.pn++pins,p.1≠C)->Q (.ref D) H'->RR (.ref D) C (.ok .next) s') :
 wpAny (model X.prog X.w) X.A (newList []) (fun acc s₃=>wpAny (model X.prog X.w) X.A (newFunctionEnv scope X.env.globals cl [] X.env.qual none .none (some X.env)) (fun cenv s₄=>
  codeAny (model X.prog X.w) X.A (.compStart (.ListComp elt [⟨tg,iter,ifs,0⟩] scope pos) 0 (.ref it) acc { cenv with scope:=relabel scope X.env }) (RR acc cenv.locals) s₄) E s₃) E s:=by
 obtain⟨sub,_,F7⟩:=HL hcl (fun _ _ e=>by simp at e);refine wpAny_newObj_type (wpAny_newFunctionEnv hcell (by intro y hy;simp at hy) (fun h₁ hns₁ hsb₁=>?_) hkind);have hD:=I.fresh;have I3:Inv X pins σ (FB H s.heap.objs.size (.lst [])) { s with heap:=s.heap.push { cls:=.type "list",data:=.seq ([]:List Value).toArray } }:=I.K5 (ys:=[]) (its:=[]) (t':=s.toks) .nil (Nat.zero_le _);generalize hs3:({ s with heap:=s.heap.push { cls:=.type "list",data:=.seq ([]:List Value).toArray } }:Shared)=s3 at I3;generalize c8:FB H s.heap.objs.size (.lst [])=H3 at I3;have hh3:s3.heap=s.heap.push { cls:=.type "list",dict:=none,data:=.seq ([]:List Value).toArray }:=by rw[<- hs3]
 dsimp only at hns₁ hsb₁ ⊢;rw[<- hh3]at hns₁ hsb₁;have Z8:H3 s3.heap.objs.size=none:=I3.fresh;have hCL:s3.heap.objs.size≠X.env.locals:=fun z=>by have:=I3.lt;rw[<- z]at this;exact Nat.lt_irrefl _ this
 have W8:X.s₀.heap.objs.size<=s3.heap.objs.size:=I3.sz;have G4:∀x c,X.env.cells.lookup x=some c->c<s3.heap.objs.size:=fun x c e=>by obtain⟨v,o,ho,_⟩:=I3.cell x c e;exact Heap.lt_size ho
 have Y8:∀x c,X.env.cells.lookup x=some c->c≠s3.heap.objs.size:=fun x c e z=>by have:=G4 x c e;rw[z]at this;exact Nat.lt_irrefl _ this
 have b9:∀p∈X.pn++pins,p.1≠s3.heap.objs.size:=fun p hp z=>by have:=Heap.lt_size (I3.pin p hp).1;rw[z]at this;exact Nat.lt_irrefl _ this
 have D5:∀b∈fp,b<s.heap.objs.size:=fun b hb=>by obtain⟨o,e,_⟩:=T.obj 0 _ st b hb;exact Heap.lt_size e
 have F9:s3.heap.objs.size=s.heap.objs.size+1:=by rw[hh3,Heap.size_push]
 have old:∀b o,s3.heap.get? b=some o->h₁.get? b=some o:=fun b o e=>hsb₁.extBut b o (Nat.ne_of_lt (Heap.lt_size e)) (Heap.get?_push_of_some _ e)
 have P7:∀b o,s.heap.get? b=some o->s3.heap.get? b=some o:=fun b o e=>by rw[hh3];exact Heap.get?_push_of_some _ e
 have S8:∀b∈fp,H3 b=none:=fun b hb=>by rw[<- c8,HA (Nat.ne_of_lt (D5 b hb))];exact(hf b hb).1
 have u7:(wB X Nc scope cl s3.heap.objs.size s3 H3 fp).Ok:=by
  refine⟨I3.ok.mod,hkind,I3.ok.glob,I3.ok.blt,fj _,fun x y c e1 e2=>I3.ok.inj x y c (sub x c e1) (sub y c e2),fun x hx=>?_,fun x c e _=>absurd e dj,I3.ok.hd,I3.ok.frames,.inl rfl,fun b hb=>⟨?_,fun x c e=>?_⟩,fun b o e=>I3.bs b o e,?_,fun b o e=>?_,fun b hb=>?_,I3.stack,I3.B3⟩
  · exact F7 x (PN hcell hx)
  · intro z;have:=D5 b hb;have z':b=s3.heap.objs.size:=z;rw[z',F9]at this;exact absurd this (Nat.not_lt.mpr (Nat.le_succ _))
  · exact(hf b hb).2.2.2.2.1 x c (sub x c e)
  · exact Nat.le_trans I3.ok.F4 I3.sz
  · intro hb;have h1:=(hf b hb).2.2.2.1;have h2:=I3.ok.bs b o e;rcases h1 with z | z
    · exact I3.ok.Q3 b o e z
    · exact absurd (Nat.lt_of_lt_of_le (Heap.lt_size h2.1) z) (Nat.lt_irrefl _)
  · intro z;rcases mem_cons.mp (I3.Z2 b z)with z | z
    · exact(hf b hb).2.1 z
    · exact(hf b hb).2.2.1 z
 have IY:Inv (wB X Nc scope cl s3.heap.objs.size s3 H3 fp) [] (sE σ cap) H3 { s3 with heap:=h₁,toks:=s3.toks+([]:List (Str×Value)).length }:=by
  refine⟨u7,rfl,I3.bare,Un.kept old,⟨_,hns₁,fun i x v e1 e2 _=>?_⟩,fun x c e=>?_,Z8,fun x c e=>I3.D1 x c (sub x c e),fun p hp=>absurd hp (by simp[wB]),I3.hok.kept old,?_⟩
  · have e2':(sE σ cap)[i]?=some (some v):=e2;unfold sE at e2';rw[getElem?_map]at e2';cases q:cap[i]? with
    | none=>rw[q]at e2';cases e2'
    | some o=>
     rw[q]at e2';cases o with
     | none=>cases e2'
     | some j=>
      have e3:(σ[j]?).join=some v:=by simpa using e2'
      have e4:σ[j]?=some (some v):=by
       cases z:σ[j]? with
       | none=>rw[z]at e3;cases e3
       | some y=>rw[z]at e3;simpa using e3
      obtain⟨n1,n2,n3,n4⟩:=hcap.get e1 q;obtain⟨m,_,hl⟩:=I3.loc;have hv:MQ X.env.scope x:=.inr n2;obtain⟨u,r,lk⟩:=hl j x v n1 e4 hv;refine⟨u,r,.inr ⟨n3,?_⟩⟩;rcases lk with⟨k,_⟩ | ⟨_,c,ec,ob,z1,z2⟩
      · rcases n2 with n2 | n2<;>rw[k]at n2<;>cases n2
      · exact⟨c,n4.trans ec,ob,old c ob z1,z2⟩
  · obtain⟨v,o,z1,z2⟩:=I3.cell x c (sub x c e);exact⟨v,o,old c o z1,z2⟩
  · show(sE σ cap).length=Nc.length;unfold sE;rw[length_map];exact hcap.length
 obtain⟨W,⟨m0,w0⟩,turn⟩:=read s.heap.objs.size hD;rw[c8]at w0;have st1:tn 0 h₁:=T.keep 0 _ _ st fun b _ o e=>old b o (P7 b o e)
 have B7:∀{H':Hp},(∀b∈fp,H' b=none)->∀b∈fp,zD (wB X Nc scope cl s3.heap.objs.size s3 H3 fp) [] H' b:=fun hn b hb=>⟨hn b hb,(u7.k7 b hb).1,u7.O3 b hb,.inl hb,fun x c e=>(u7.k7 b hb).2 x c e,fun p hp=>absurd hp (by simp[wB])⟩
 have loop:codeAny (model X.prog X.w) X.A (.compLoop (.ListComp elt [⟨tg,iter,ifs,0⟩] scope pos) 0 (.ref it) (.ref s.heap.objs.size) (compEnvC scope cl s3.heap.objs.size X.env)) (RR (.ref s.heap.objs.size) s3.heap.objs.size)
  { s3 with heap:=h₁,toks:=s3.toks+([]:List (Str×Value)).length }:=by
  refine LS (fun n s'=>∃i σ' ys H',Inv (wB X Nc scope cl s3.heap.objs.size s3 H3 fp) [] σ' H' s'/\tn i s'.heap/\(∀b∈fp,H' b=none)/\W i n σ' ys H') ?_ m0 ⟨0,_,[],H3,IY,st1,S8,w0⟩;rintro n s4 ⟨i,σ4,ys,H4,I4,w8,Z7,w4⟩;rcases turn i n σ4 ys H4 w4 with⟨stop,qn⟩ | ⟨go,step⟩
  · refine WA (T.done (wB X Nc scope cl s3.heap.objs.size s3 H3 fp) rfl rfl rfl hc i [] s4 σ4 H4 _ I4 (B7 Z7) w8 stop) fun r s5 zz=>?_
    obtain⟨hr,I5⟩:=zz;subst hr;have I6:Inv X pins σ H4 s5:=I3.call' (ch:=fp) I5.os I5.base I5.hok I5.bare fun b hb=>⟨(hf b hb).2.2.2.1,(hf b hb).2.1,(hf b hb).2.2.2.2.1,(hf b hb).2.2.2.2.2⟩
    obtain⟨m,hn,_⟩:=I5.loc;exact hRR _ _ s5 H4 m I6 hn I5.free hCL W8 Y8 b9 qn
  · refine WA (T.item (wB X Nc scope cl s3.heap.objs.size s3 H3 fp) rfl rfl rfl hc i [] s4 σ4 H4 _ I4 (B7 Z7) w8 go) fun r s5 zz=>?_
    obtain⟨u,hr,h5⟩:=zz;subst hr;refine WA h5 fun _ s6 zz=>?_
    obtain⟨x,H6,I6,r6,y6,S7,U8⟩:=zz;have C8:=I6.pinned (B7 U8) (T.obj _ _ S7);refine WA (hg _ _ _ _ _ s6 σ4 H6 x u _ C8 r6 (step x H6 y6)) fun _ s7 zz=>?_
    obtain⟨σ7,H7,I7,q7⟩:=zz;refine WA (ht _ _ _ _ _ s7 σ7 H7 _ I7 q7) fun b s8 zz=>?_
    obtain⟨H8,I8,q8⟩:=zz;have again:∀{σ9:St}{H9:Hp}{s9:Shared}{U7:List V},Inv (wB X Nc scope cl s3.heap.objs.size s3 H3 fp) ([]++IH fp s6.heap) σ9 H9 s9->(∃m',m'<n/\W (i+1) m' σ9 U7 H9)->
     ∃m',m'<n/\∃i σ' ys H',Inv (wB X Nc scope cl s3.heap.objs.size s3 H3 fp) [] σ' H' s9/\tn i s9.heap/\(∀b∈fp,H' b=none)/\W i m' σ' ys H':=fun {σ9 H9 s9 U7} I9 ⟨m',hm,w9⟩=>by
     refine⟨m',hm,i+1,σ9,U7,H9,I9.J1,T.keep _ _ _ S7 fun b hb o e=>(I9.pin (b,o) (mem_append_right _ (mem_append_right _ (BI hb e)))).1,fun b hb=>?_,w9⟩;obtain⟨o,e,d⟩:=T.obj _ _ S7 b hb;exact(I9.pin (b,o) (mem_append_right _ (mem_append_right _ (BI hb e)))).2.1
    cases b with
    | false=>rw[if_neg dj]at q8 ⊢;exact again I8 q8
    | true=>
     rw[if_pos rfl]at q8 ⊢;refine WA (he _ _ _ _ _ s8 σ7 H8 _ I8 q8) fun y s9 zz=>?_
     obtain⟨v,H9,I9,r9,d9,z9,w9⟩:=zz;refine WA (yO (X:=wB X Nc scope cl s3.heap.objs.size s3 H3 fp) _ s9 σ7 H9 (.ref s.heap.objs.size) [v] (.ref s.heap.objs.size) [y] (fun _ H'=>H'=FB H9 s.heap.objs.size (.lst (ys++[v]))) I9 rfl (.cons r9 .nil) ⟨_,ys,v,rfl,rfl,d9,z9,rfl⟩) fun _ N9 zz=>?_
     obtain⟨_,L9,A8,_,e10⟩:=zz;subst e10;exact again A8 w9
 exact codeAny_compStart_list loop (T.self X.A 0 _ _ _ st1 loop)
theorem uP(hc:X.calm=true)(hi:PI X tg iter wi)(hcl:MC X.env.cells scope.names []=some cl)(hcell:∀y∈scope.names,y.2≠.cell)(hkind:scope.kind=.function)
 (hnames:∀y∈scope.names,y.2=.local->scope.names.lookup y.1=some .local) (hcap:N0 X scope cl Nc cap)
 (hg:∀C s0 H0 fp,PG (wB X Nc scope cl C s0 H0 fp) tg g) (ht:∀C s0 H0 fp,WF (wB X Nc scope cl C s0 H0 fp) ifs tc) (he:∀C s0 H0 fp,PE (wB X Nc scope cl C s0 H0 fp) elt te)
 (hs:∀x,foldedSetIterable iter X.env x=pure x:=by intro _;rfl):PE X (.ListComp elt [⟨tg,iter,ifs,0⟩] scope pos) (gN wi g tc te cap):=by
 intro pins s σ H Q I h;rw[eval_ListComp];refine wpAny_comprehension_free (use:=none) rfl hs (VN hcl) hkind hnames (WA (hi pins s σ H _ I h) fun v s1 h1=>WA h1 fun itv s2 h2=>?_);obtain⟨it,fp,tn,J,H2,e,I2,T,st2,f2,read⟩:=h2;subst e;refine WN hc hcl hcell hkind hcap hg ht he I2 T st2 f2 read fun C D s' H' m I' hn n1 n2 n3 n4 n5 q=>?_
 refine⟨m,hn,fun h' hs'=>⟨.ref D,H',?_,rfl,q⟩⟩;exact I'.turned (t':=s'.toks) (fun b o hb e=>hs'.extBut b o hb e) n1 n2 (.inr n3) n4 n5
theorem RN{i:Nat}{y:Str}{py spos:Pos}(hc:X.calm=true)(hN:X.N.Nodup)(G5:X.N[i]?=some y)(hy:X.env.scope.names.lookup y=some .local)(hi:PI X tg iter wi)(hcl:MC X.env.cells scope.names []=some cl)(hcell:∀y∈scope.names,y.2≠.cell)(hkind:scope.kind=.function)
 (hnames:∀y∈scope.names,y.2=.local->scope.names.lookup y.1=some .local) (hcap:N0 X scope cl Nc cap)
 (hg:∀C s0 H0 fp,PG (wB X Nc scope cl C s0 H0 fp) tg g) (ht:∀C s0 H0 fp,WF (wB X Nc scope cl C s0 H0 fp) ifs tc) (he:∀C s0 H0 fp,PE (wB X Nc scope cl C s0 H0 fp) elt te)
 (hsw:swapsWith (.ListComp elt [⟨tg,iter,ifs,0⟩] scope pos) (some (.Name y py)) spos.line X.env=pure true)
 (hs:∀x,foldedSetIterable iter X.env x=pure x:=by intro _;rfl):PS X (.Assign [.Name y py] (.ListComp elt [⟨tg,iter,ifs,0⟩] scope pos) spos) (cK (gN wi g tc te cap) (GJ i)):=by
 intro pins s σ H D I h;rw[exec_Assign_Name_used _ _ _ _ hsw];refine wpAny_bind (wpAny_standAt (wpAny_bind ?_));show wpAny _ X.A (do let _ <- comprehension (.ListComp elt [⟨tg,iter,ifs,0⟩] scope pos) scope X.env _ (newList []) false (eval iter X.env) (some (assign (.Name y py) X.env))) _ _ s;refine wpAny_bind (wpAny_mono (wpAny_comprehension_free (use:=some (assign (.Name y py) X.env)) (Q:=fun _ s'=>SP X pins D .next s') rfl hs (VN hcl) hkind hnames
  (WA (hi pins s σ H _ I h) fun v s1 h1=>WA h1 fun itv s2 h2=>?_)) (fun _ s' hq=>wpAny_pure (wpAny_pure hq)) fun _ _ e=>e)
 obtain⟨it,fp,tn,J,H2,e,I2,T,st2,f2,read⟩:=h2;subst e;refine WN (Q:=fun x H1=>GJ i x σ H1 D.nx) hc hcl hcell hkind hcap hg ht he I2 T st2 f2 read fun C Dd s' H' m I' hn n1 n2 n3 n4 n5 q=>?_
 show wpAny _ X.A (assign (.Name y py) X.env (.ref Dd)) _ _ _;refine wpAny_assign_Name (gO I' hN G5 (.inl hy) (v:=.ref Dd) rfl (fun s4 I4 zz=>?_) (.inr hy));obtain⟨a,sb,ha⟩:=zz;have X8:C≠a:=by
  rcases ha with ha | ha
  · rw[ha];exact n2
  · exact fun z=>n4 _ _ ha z.symm
 refine⟨m,hn.sameBut sb X8,fun h' hs'=>⟨_,H',?_,q⟩⟩;exact I4.turned (t':=s4.toks) (fun b o hb e=>hs'.extBut b o hb e) n1 n2 (.inr n3) n4 n5
end
end L2
namespace SM
def cD(bd:RG)(tc:RT)(te:RE)(s:Src):Nat->Nat->LI->HI->List Dt->Option (List Dt×HI)
 | 0,_,_,_,_=>none
 | k+1,i,l,h,ys=>match s.at h i with
  | none=>none
  | some none=>some (ys,h)
  | some (some d)=>(bd d l).bind fun l1=>(tc l1 h).bind fun b=>if b.1=true then(te l1 b.2).bind fun r=>if ys.length<sizeLine then cD bd tc te s k (i+1) l1 r.2 (ys++[r.1])else none
   else cD bd tc te s k (i+1) l1 b.2 ys
noncomputable def rD(l:LI)(cap:List (Option Nat)):LI:=cap.map fun o=>match o with | some j=>(l[j]?).join | none=>none
def AC(g:RI)(bd:RG)(tc:RT)(te:RE)(cap:List (Option Nat)):RE:=fun l h=>(g l h).bind fun r=>(cD bd tc te r.1 (r.1.fuel r.2) 0 (rD l cap) r.2 []).bind fun q=>some (.lst q.1,q.2)
def TD(g:RI)(bd:RG)(tc:RT)(te:RE)(cap:List (Option Nat)):RE:=fun l h=>(g l h).bind fun r=>(cD bd tc te r.1 (r.1.fuel r.2) 0 (rD l cap) r.2 []).bind fun q=>some (.ref q.2.length,q.2++[.lst q.1])
noncomputable def GB:RT:=fun _ h=>some (true,h)
theorem lV{K:Frag}{H:Hp}{ρ:Rg}{l:LI}{σ:L2.St}(L:K0 K H ρ l σ)(cap:List (Option Nat)):K0 K H ρ (rD l cap) (sE σ cap):=by
 refine⟨by simp[rD,sE],fun i d e=>?_⟩;unfold rD at e;unfold sE;rw[getElem?_map]at e ⊢;cases q:cap[i]? with
 | none=>rw[q]at e;cases e
 | some o=>
  rw[q]at e;cases o with
  | none=>cases e
  | some j=>
   have e3:(l[j]?).join=some d:=by simpa using e
   have e4:l[j]?=some (some d):=by
    cases z:l[j]? with
    | none=>rw[z]at e3;cases e3
    | some y=>rw[z]at e3;simpa using e3
   obtain⟨v,g1,g2⟩:=L.val j d e4;refine⟨v,?_,g2⟩;simp[g1]
section
variable{X:Cx}{elt iter tg:Expr}{ifs:List Expr}{scope:Scope}{cl:List (Str×Addr)}{pos:Pos}{Nc:List Str}{g:RI}{bd:RG}{tc:RT}{te:RE}{cap:List (Option Nat)}
@[irreducible] def CM(X:Cx)(ifs:List Expr)(f:RT):Prop:=WF X ifs (NJ X.K f)
theorem jD:CM X [] GB:=by with_unfolding_all exact fun pins s σ H Q I q=>by obtain⟨ρ,l,h,b,h',S,L,e,k⟩:=q;cases e;exact vV pins s σ H Q I (k ρ H S (Ext.refl _ _))
theorem yJ{c:Expr}{f:RT}(h:TM X c f):CM X [c] f:=by with_unfolding_all exact wV h
end
section
variable{K:Frag}{H:Hp}{ρ:Rg}{p:Addr}{o:HO}{h:HI}
theorem EW{a:Addr}{u:HO}(hp:H p=none)(e:H a=some u)(n:ρ.no a):(ρ.hide p).no a:=
 ⟨n.1,fun z=>by
  rcases mem_cons.mp z with z | z
  · rw[z,hp]at e;cases e
  · exact n.2 z⟩
theorem Ext.V3{τ:Rg}{H':Hp}(x:Ext (ρ.hide p) τ H H'):∃ρ',τ=ρ'.hide p/\Ext ρ ρ' H H':=by
 refine⟨⟨τ.v,ρ.z⟩,?_,⟨x.pre,rfl,x.keep,x.live,x.fz⟩⟩;have e:=x.hid;cases τ with
 | mk v z=>have e':z=p::ρ.z:=e;subst e';rfl
theorem Ext.l5{ρ':Rg}{H':Hp}(x:Ext ρ ρ' H H')(hp:H p=none):Ext ρ ρ' H (FB H' p o):=
 ⟨x.pre,x.hid,fun a u e n=>by rw[HA (rC e hp)];exact x.keep a u e n,fun a e=>by
  by_cases ha:a=p
  · rw[ha];exact hp
  · rw[HA ha]at e;exact x.live a e,fun a q u e=>by rw[HA (rC e hp)];exact x.fz a q u e⟩
theorem T1.same{ρ':Rg}{H':Hp}{a:Addr}{u:Ob}(x:L0 ρ ρ' H H')(e:H' a=H a)(q:T1 K H ρ a u):T1 K H' ρ' a u:=by
 cases u with
 | lst xs=>obtain⟨vs,h1,h2⟩:=q;exact⟨vs,e.trans h1,YZ.same x _ h2⟩
 | ins y fs=>obtain⟨C,dx,vs,h0,h1,h2,h3⟩:=q;exact⟨C,dx,vs,h0,e.trans h1,h2,YZ.same x _ h3⟩
 | dk kvs=>obtain⟨vs,h1,h2,h3⟩:=q;exact⟨vs,e.trans h1,h2,YZ.same x _ h3⟩
 | dt kvs=>obtain⟨vs,h1,h2,h3⟩:=q;exact⟨vs,e.trans h1,h2,YZ.same x _ h3⟩
 | df kvs=>obtain⟨o,vs,h1,h2,h3⟩:=q;exact⟨o,vs,e.trans h1,h2,YZ.same x _ h3⟩
theorem K0.same{ρ':Rg}{H':Hp}{l:LI}{σ:L2.St}(x:L0 ρ ρ' H H')(L:K0 K H ρ l σ):K0 K H' ρ' l σ:=
 ⟨L.len,fun i d e=>let ⟨v,e1,r⟩:=L.val i d e;⟨v,e1,n0.same x d r⟩⟩
theorem dO(hp:H p=none):L0 ρ (ρ.hide p) H (FB H p o):=
 ⟨fun _ _ e n=>EW hp e n,fun a u e _=>by rw[HA (rC e hp)];exact e,fun _ _ e=>e,fun a q u e=>by rw[HA (rC e hp)];exact e⟩
theorem yL{o:HO}(nf:JQ H p):L0 (ρ.hide p) (ρ.hide p) H (FB H p o):=
 ⟨fun _ _ _ n=>n,fun a u e n=>by rw[HA (fun z=>n.2 (by rw[z];exact mem_cons_self))];exact e,fun _ _ e=>e,fun a q u e=>by rw[HA (fun z:a=p=>nf q u (by rw[<- z];exact e))];exact e⟩
theorem eO:L0 (ρ.hide p) ρ H H:=⟨fun _ _ _ n=>⟨n.1,fun z=>n.2 (mem_cons_of_mem _ z)⟩,fun _ _ e _=>e,fun _ _ e=>e,fun _ _ _ e=>e⟩
theorem FO:L0 (ρ.hide p) (ρ.add p) H H:=
 ⟨fun a _ _ n=>⟨fun z=>(mem_append.mp z).elim n.1 fun z=>n.2 (by rw[mem_singleton.mp z];exact mem_cons_self),fun z=>n.2 (mem_cons_of_mem _ z)⟩,fun _ _ e _=>e,fun n a e=>by
  have e':ρ.v[n]?=some a:=e;have:=(aj e').1;show(ρ.v++[p])[n]?=some a;rw[cj this];exact e',fun _ _ _ e=>e⟩
theorem v0.hide{xs:List V}(S:v0 K ρ h H)(hp:H p=none):v0 K (ρ.hide p) h (FB H p (.lst xs)):=
 ⟨S.nd,S.len,fun n a u e1 e2=>(S.ob n a u e1 e2).same (dO hp) (HA (fun z=>(S.out hp).1 (z ▸ mem_of_getElem? e1))),fun a ha=>by
  rcases mem_cons.mp ha with z | z
  · rw[z];exact⟨(S.out hp).1,xs,bD⟩
  · obtain⟨m,u,e⟩:=S.zt a z;exact⟨m,u,by rw[HA (rC e hp)];exact e⟩⟩
theorem v0.O4{xs:List V}(S:v0 K (ρ.hide p) h H):v0 K (ρ.hide p) h (FB H p (.lst xs)):=
 ⟨S.nd,S.len,fun n a u e1 e2=>(S.ob n a u e1 e2).same (yL (cG (S.zt p mem_cons_self).2.choose_spec)) (HA (fun z=>(S.zt p mem_cons_self).1 (z ▸ mem_of_getElem? e1))),fun a ha=>by
  obtain⟨m,u,e⟩:=S.zt a ha;by_cases hap:a=p
  · subst hap;exact⟨m,xs,bD⟩
  · exact⟨m,u,by rw[HA hap];exact e⟩⟩
theorem v0.show(S:v0 K (ρ.hide p) h H):v0 K ρ h H:=
 ⟨S.nd,S.len,fun n a u e1 e2=>(S.ob n a u e1 e2).same eO rfl,fun a ha=>S.zt a (mem_cons_of_mem _ ha)⟩
theorem v0.U3(S:v0 K (ρ.hide p) h H)(hz:p∉ρ.z){ds:List Dt}{vs:List V}(e:H p=some (.lst vs))(R:YZ K H (ρ.hide p) ds vs):v0 K (ρ.add p) (h++[.lst ds]) H:=by
 have nv:=(S.zt p mem_cons_self).1;refine⟨?_,by simp only[Rg.add];rw[length_append,length_append,<- S.len];rfl,fun n a ob e1 e2=>?_,fun a ha=>?_⟩
 · simp only[Rg.add];rw[nodup_append];refine⟨S.nd,nodup_cons.mpr ⟨by simp,nodup_nil⟩,fun a ha b hb=>?_⟩;rw[mem_singleton.mp hb];intro z;exact nv (z ▸ ha)
 · simp only[Rg.add]at e1;have hl:ρ.v.length=h.length:=S.len;by_cases hn:n<h.length
   · rw[cj hn]at e2;rw[cj (by rw[hl];exact hn)]at e1;exact(S.ob n a ob e1 e2).same FO rfl
   · have hn':h.length<=n:=Nat.not_lt.mp hn;rw[kj hn']at e2;rw[kj (by rw[hl];exact hn'),hl]at e1;cases hk:n-h.length with
     | zero=>rw[hk]at e1 e2;simp at e1 e2;subst e1 e2;exact⟨vs,e,YZ.same FO _ R⟩
     | succ k=>rw[hk]at e2;simp at e2
 · obtain⟨n,u,e'⟩:=S.zt a (mem_cons_of_mem _ ha);refine⟨fun hm=>?_,u,e'⟩;rcases mem_append.mp hm with hm | hm
   · exact n hm
   · exact hz ((mem_singleton.mp hm) ▸ ha)
end
section
variable{X:Cx}{elt iter tg:Expr}{ifs:List Expr}{scope:Scope}{cl:List (Str×Addr)}{pos:Pos}{Nc:List Str}{g:RI}{bd:RG}{tc:RT}{te:RE}{cap:List (Option Nat)}
theorem QI{σ:L2.St}{H:Hp}{Q:VK}(own:Bool){d:Dt}{h':HI}{ρ:Rg}{l:LI}{h:HI}(S:v0 X.K ρ h H)(L:K0 X.K H ρ l σ)
 (e:(if own=true then TD g bd tc te cap else AC g bd tc te cap) l h=some (d,h')) (k:Out X.K ρ H d h' Q):gN (iM X.K g) (gM X.K bd) (NJ X.K tc) (tM X.K te) cap σ H Q:=by
 have e0:∃s1 h1,g l h=some (s1,h1)/\∃ys h2,cD bd tc te s1 (s1.fuel h1) 0 (rD l cap) h1 []=some (ys,h2)/\h'=(if own=true then h2++[.lst ys]else h2)/\d=(if own=true then .ref h2.length else .lst ys):=by
  cases own with
  | true=>rw[if_pos rfl]at e;obtain⟨⟨s1,h1⟩,e1,e⟩:=eA e;obtain⟨⟨ys,h2⟩,e2,e⟩:=eA e;cases e;exact⟨s1,h1,e1,ys,h2,e2,rfl,rfl⟩
  | false=>rw[if_neg dj]at e;obtain⟨⟨s1,h1⟩,e1,e⟩:=eA e;obtain⟨⟨ys,h2⟩,e2,e⟩:=eA e;cases e;exact⟨s1,h1,e1,ys,h2,e2,rfl,rfl⟩
 obtain⟨s1,h1,e1,zs,h2,e2,eh,ed⟩:=e0;refine⟨ρ,l,h,s1,h1,S,L,e1,fun ρ1 J H1 ok S1 E1 D hD=>?_⟩;have c9:D∉ρ1.z:=(S1.out hD).2;refine⟨fun i m σ' ys H'=>∃ρ' l' h' ds,v0 X.K (ρ'.hide D) h' H'/\K0 X.K H' (ρ'.hide D) l' σ'/\Ext ρ1 ρ' H1 H'/\H' D=some (.lst ys)/\YZ X.K H' (ρ'.hide D) ds ys/\cD bd tc te s1 m i l' h' ds=some (zs,h2),?_,?_⟩
 · exact⟨_,ρ1,_,h1,[],S1.hide hD,lV (K0.same (dO hD) (L.ext E1)) cap,Ext.fresh hD,bD,.nil,e2⟩
 · rintro i m σ' ys H' ⟨ρ',l',h3,ds,S',L',E',hD',R',e'⟩;cases m with
   | zero=>simp only[cD]at e';cases e'
   | succ m=>
    simp only[cD]at e';have sm:L0 ρ1 (ρ'.hide D) H1 H':=⟨fun a u z n=>⟨(E'.T3 z n).1,fun w=>by
     rcases mem_cons.mp w with w | w
     · rw[w,hD]at z;cases z
     · exact(E'.T3 z n).2 w⟩,fun a u z n=>E'.keep a u z n.1,fun n a z=>E'.get z,E'.fz⟩
    have ok':=ok H' (ρ'.hide D) h3 sm S' i;cases q:s1.at h3 i with
    | none=>rw[q]at e';cases e'
    | some o=>
     rw[q]at e' ok';cases o with
     | none=>
      cases e';refine .inl ⟨ok',?_⟩;have nD:ρ'.no D:=⟨(S'.zt D mem_cons_self).1,by rw[E'.hid];exact c9⟩;cases own with
      | false=>rw[if_neg dj]at eh ed;subst eh ed;exact k ρ' _ H' (u0.mpr ⟨D,ys,rfl,.inl ⟨nD,.inl hD'⟩,YZ.same eO _ R'⟩) S'.show (E1.trans E')
      | true=>
       rw[if_pos rfl]at eh ed;subst eh ed;refine k (ρ'.add D) _ H' (F0.mpr ⟨D,rfl,?_⟩) (S'.U3 nD.2 hD' R') (E1.trans ⟨?_,E'.hid,E'.keep,E'.live,E'.fz⟩)
       · have hl:ρ'.v.length=h2.length:=S'.len;show(ρ'.v++[D])[h2.length]?=some D;rw[<- hl,kj (fj _),Nat.sub_self];rfl
       · obtain⟨x,q1,q2⟩:=E'.pre;refine⟨x++[D],by show ρ'.v++[D]=_;rw[q1,append_assoc],fun a ha=>?_⟩;rcases mem_append.mp ha with ha | ha
         · exact q2 a ha
         · rw[mem_singleton.mp ha];exact hD
     | some d0=>
      dsimp only at e';obtain⟨l1,b1,e'⟩:=eA e';obtain⟨⟨b,h4⟩,b2,e'⟩:=eA e';refine .inr ⟨ok'.1,fun v H3 y=>?_⟩;obtain⟨R3,E3,S3⟩:=ok'.2 v H3 y;have o8:=(S'.zt D mem_cons_self).1;refine⟨ρ'.hide D,l',h3,d0,l1,S3,L'.ext E3,R3,b1,fun σ4 L4=>⟨ρ'.hide D,l1,h3,b,h4,S3,L4,b2,fun ρ5 H5 S5 E5=>?_⟩⟩;cases b with
      | true=>
       dsimp only at e';rw[if_pos rfl]at e';obtain⟨⟨d5,h5⟩,b3,e'⟩:=eA e';by_cases hz:ds.length<sizeLine
       · rw[if_pos hz]at e';refine iE ⟨ρ5,l1,h4,d5,h5,S5,L4.ext E5,b3,fun ρ6 v6 H6 R6 S6 E6=>⟨?_,by rw[R'.length];exact hz,m,Nat.lt_succ_self _,?_⟩⟩
         · exact(E3.trans (E5.trans E6)).keep D _ hD' o8
         · obtain⟨ρ7,rfl,E7⟩:=(E3.trans (E5.trans E6)).V3;refine⟨ρ7,l1,h5,ds++[d5],S6.O4,K0.same (yL (cG (S6.zt D mem_cons_self).2.choose_spec)) (L4.ext (E5.trans E6)),(E'.trans E7).l5 hD,bD,?_,e'⟩;exact YZ.same (yL (cG (S6.zt D mem_cons_self).2.choose_spec)) _ ((R'.ext (E3.trans (E5.trans E6))).append (.cons R6 .nil))
       · rw[if_neg hz]at e';cases e'
      | false=>dsimp only at e';rw[if_neg dj]at e';refine gE ⟨m,Nat.lt_succ_self _,?_⟩;obtain⟨ρ7,rfl,E7⟩:=(E3.trans E5).V3;exact⟨ρ7,l1,h4,ds,S5,L4.ext E5,E'.trans E7,(E3.trans E5).keep D _ hD' o8,R'.ext (E3.trans E5),e'⟩
theorem FD(hc:X.calm=true)(hi:IM X tg iter g)(hcell:∀y∈scope.names,y.2≠.cell)(hkind:scope.kind=.function)
 (hnames:∀y∈scope.names,y.2=.local->scope.names.lookup y.1=some .local) (hcl:MC X.env.cells scope.names []=some cl) (hcap:N0 X scope cl Nc cap)
 (hg:∀C s0 H0 fp,GM (wB X Nc scope cl C s0 H0 fp) tg bd) (ht:∀C s0 H0 fp,CM (wB X Nc scope cl C s0 H0 fp) ifs tc) (he:∀C s0 H0 fp,EM (wB X Nc scope cl C s0 H0 fp) elt te)
 (hs:∀x,foldedSetIterable iter X.env x=pure x:=by intro _;rfl):EM X (.ListComp elt [⟨tg,iter,ifs,0⟩] scope pos) (AC g bd tc te cap):=by
 with_unfolding_all exact PE.imp (uP (g:=gM X.K bd) (tc:=NJ X.K tc) (te:=tM X.K te) hc hi hcl hcell hkind hnames hcap hg ht he hs) fun σ H Q ⟨ρ,l,h,d,h',S,L,e,k⟩=>QI (X:=X) false S L e k
theorem NO(hc:X.calm=true)(hi:IM X tg iter g)(hcell:∀y∈scope.names,y.2≠.cell)(hkind:scope.kind=.function)
 (hnames:∀y∈scope.names,y.2=.local->scope.names.lookup y.1=some .local) (hcl:MC X.env.cells scope.names []=some cl) (hcap:N0 X scope cl Nc cap)
 (hg:∀C s0 H0 fp,GM (wB X Nc scope cl C s0 H0 fp) tg bd) (ht:∀C s0 H0 fp,CM (wB X Nc scope cl C s0 H0 fp) ifs tc) (he:∀C s0 H0 fp,EM (wB X Nc scope cl C s0 H0 fp) elt te)
 (hs:∀x,foldedSetIterable iter X.env x=pure x:=by intro _;rfl):EM X (.ListComp elt [⟨tg,iter,ifs,0⟩] scope pos) (TD g bd tc te cap):=by
 with_unfolding_all exact PE.imp (uP (g:=gM X.K bd) (tc:=NJ X.K tc) (te:=tM X.K te) hc hi hcl hcell hkind hnames hcap hg ht he hs) fun σ H Q ⟨ρ,l,h,d,h',S,L,e,k⟩=>QI (X:=X) true S L e k
theorem ZT(i:Nat){y:Str}{py spos:Pos}(hc:X.calm=true)(hN:X.N.Nodup)(hi:IM X tg iter g)(hcell:∀y∈scope.names,y.2≠.cell)(hkind:scope.kind=.function)
 (hnames:∀y∈scope.names,y.2=.local->scope.names.lookup y.1=some .local) (hcl:MC X.env.cells scope.names []=some cl) (hcap:N0 X scope cl Nc cap)
 (hg:∀C s0 H0 fp,GM (wB X Nc scope cl C s0 H0 fp) tg bd) (ht:∀C s0 H0 fp,CM (wB X Nc scope cl C s0 H0 fp) ifs tc) (he:∀C s0 H0 fp,EM (wB X Nc scope cl C s0 H0 fp) elt te)
 (hsw:swapsWith (.ListComp elt [⟨tg,iter,ifs,0⟩] scope pos) (some (.Name y py)) spos.line X.env=pure true)
 (G5:X.N[i]?=some y:=by rfl) (hy:X.env.scope.names.lookup y=some .local:=by rfl) (hs:∀x,foldedSetIterable iter X.env x=pure x:=by intro _;rfl) :
 ZM X (.Assign [.Name y py] (.ListComp elt [⟨tg,iter,ifs,0⟩] scope pos) spos) (UA i (AC g bd tc te cap)):=by
 with_unfolding_all exact PS.imp (RN (g:=gM X.K bd) (tc:=NJ X.K tc) (te:=tM X.K te) hc hN G5 hy hi hcl hcell hkind hnames hcap hg ht he hsw hs) fun D σ H zz=>by obtain⟨ρ,l,h,r,S,L,e,k⟩:=zz;obtain⟨⟨d1,h1⟩,e1,e⟩:=eA e;cases e;exact QI (X:=X) false S L e1 fun ρ1 v H1 R1 S1 E1=>k ρ1 _ H1 S1 ((L.ext E1).set i R1) E1
theorem lL(i:Nat){y:Str}{py spos:Pos}(hc:X.calm=true)(hN:X.N.Nodup)(hi:IM X tg iter g)(hcell:∀y∈scope.names,y.2≠.cell)(hkind:scope.kind=.function)
 (hnames:∀y∈scope.names,y.2=.local->scope.names.lookup y.1=some .local) (hcl:MC X.env.cells scope.names []=some cl) (hcap:N0 X scope cl Nc cap)
 (hg:∀C s0 H0 fp,GM (wB X Nc scope cl C s0 H0 fp) tg bd) (ht:∀C s0 H0 fp,CM (wB X Nc scope cl C s0 H0 fp) ifs tc) (he:∀C s0 H0 fp,EM (wB X Nc scope cl C s0 H0 fp) elt te)
 (hsw:swapsWith (.ListComp elt [⟨tg,iter,ifs,0⟩] scope pos) (some (.Name y py)) spos.line X.env=pure true)
 (G5:X.N[i]?=some y:=by rfl) (hy:X.env.scope.names.lookup y=some .local:=by rfl) (hs:∀x,foldedSetIterable iter X.env x=pure x:=by intro _;rfl) :
 ZM X (.Assign [.Name y py] (.ListComp elt [⟨tg,iter,ifs,0⟩] scope pos) spos) (UA i (TD g bd tc te cap)):=by
 with_unfolding_all exact PS.imp (RN (g:=gM X.K bd) (tc:=NJ X.K tc) (te:=tM X.K te) hc hN G5 hy hi hcl hcell hkind hnames hcap hg ht he hsw hs) fun D σ H zz=>by obtain⟨ρ,l,h,r,S,L,e,k⟩:=zz;obtain⟨⟨d1,h1⟩,e1,e⟩:=eA e;cases e;exact QI (X:=X) true S L e1 fun ρ1 v H1 R1 S1 E1=>k ρ1 _ H1 S1 ((L.ext E1).set i R1) E1
end
end SM
namespace L2
section
variable{X:Cx}{elt iter tg:Expr}{ifs:List Expr}{scope:Scope}{cl:List (Str×Addr)}{pos:Pos}{Nc:List Str}{wi:TI}{g:TG}{tc:TT}{te:TE}{cap:List (Option Nat)}{x0:Str}
end
end L2
namespace SM
section
variable{X:Cx}{elt iter tg:Expr}{ifs:List Expr}{scope:Scope}{cl:List (Str×Addr)}{pos:Pos}{Nc:List Str}{g:RI}{bd:RG}{tc:RT}{te:RE}{cap:List (Option Nat)}{x0:Str}
end
mutual
noncomputable def IA:Dt->Bool
 | .tup xs=>LB xs
 | .lst xs=>LB xs
 | .ref _=>false
 | .U1 _=>false
 | _=>true
noncomputable def LB:List Dt->Bool
 | []=>true
 | x::xs=>IA x&&LB xs
end
mutual
noncomputable def MD:Dt->Nat
 | .tup xs=>aC xs+1
 | .lst xs=>aC xs+1
 | _=>0
noncomputable def aC:List Dt->Nat
 | []=>0
 | x::xs=>max (MD x) (aC xs)
end
mutual
noncomputable def CB:Dt->Dt->Bool
 | .non,.non=>true
 | .bl a,.bl b=>a==b
 | .bl a,.int b=>(if a then 1 else 0)==b
 | .int a,.bl b=>a==(if b then 1 else 0)
 | .int a,.int b=>a==b
 | .str a,.str b=>a==b
 | .tup xs,.tup ys=>dC xs ys
 | .lst xs,.lst ys=>dC xs ys
 | _,_=>false
noncomputable def dC:List Dt->List Dt->Bool
 | [],[]=>true
 | x::xs,y::ys=>CB x y&&dC xs ys
 | _,_=>false
end
mutual
theorem SL:∀d:Dt,IA d=true->CB d d=true
 | .non,_=>by simp only[CB]
 | .bl b,_=>by simp only[CB,beq_self_eq_true]
 | .int i,_=>by simp only[CB,beq_self_eq_true]
 | .str x,_=>by simp only[CB,beq_self_eq_true]
 | .tup xs,h=>by simp only[CB];exact SI xs (by simpa only[IA]using h)
 | .lst xs,h=>by simp only[CB];exact SI xs (by simpa only[IA]using h)
 | .ref _,h=>by simp[IA]at h
 | .U1 _,h=>by simp[IA]at h
theorem SI:∀ds:List Dt,LB ds=true->dC ds ds=true
 | [],_=>by simp only[dC]
 | d::ds,h=>by simp only[LB,Bool.and_eq_true]at h;simp only[dC,Bool.and_eq_true];exact⟨SL d h.1,SI ds h.2⟩
end
section
variable{X:Cx}{pins:List (Addr×Obj)}{σ:L2.St}{H:Hp}{s:Shared}{ρ:Rg}
mutual
theorem gJ(I:Inv X pins σ H s):∀(d d':Dt){v:V},IA d=true->IA d'=true->n0 X.K H ρ d v->n0 X.K H ρ d' v->d=d'
 | .non,d',v,_,p,r,r'=>by
  have e:=B0.mp r;subst e;cases d' with
  | non=>rfl
  | bl b=>have:=b0.mp r';cases this
  | int b=>have:=ZZ.mp r';cases this
  | str b=>have:=o0.mp r';cases this
  | tup b=>obtain⟨_,_,z,_⟩:=A0.mp r';cases z
  | lst b=>obtain⟨_,_,z,_⟩:=u0.mp r';cases z
  | ref b=>obtain⟨_,z,_⟩:=F0.mp r';cases z
  | U1 b=>obtain⟨_,z,_⟩:=G1.mp r';cases z
 | .bl i,d',v,_,p,r,r'=>by
  have e:=b0.mp r;subst e;cases d' with
  | non=>have:=B0.mp r';cases this
  | bl b=>have:=b0.mp r';cases this;rfl
  | int b=>have:=ZZ.mp r';cases this
  | str b=>have:=o0.mp r';cases this
  | tup b=>obtain⟨_,_,z,_⟩:=A0.mp r';cases z
  | lst b=>obtain⟨_,_,z,_⟩:=u0.mp r';cases z
  | ref b=>obtain⟨_,z,_⟩:=F0.mp r';cases z
  | U1 b=>obtain⟨_,z,_⟩:=G1.mp r';cases z
 | .int i,d',v,_,p,r,r'=>by
  have e:=ZZ.mp r;subst e;cases d' with
  | non=>have:=B0.mp r';cases this
  | bl b=>have:=b0.mp r';cases this
  | int b=>have:=ZZ.mp r';cases this;rfl
  | str b=>have:=o0.mp r';cases this
  | tup b=>obtain⟨_,_,z,_⟩:=A0.mp r';cases z
  | lst b=>obtain⟨_,_,z,_⟩:=u0.mp r';cases z
  | ref b=>obtain⟨_,z,_⟩:=F0.mp r';cases z
  | U1 b=>obtain⟨_,z,_⟩:=G1.mp r';cases z
 | .str i,d',v,_,p,r,r'=>by
  have e:=o0.mp r;subst e;cases d' with
  | non=>have:=B0.mp r';cases this
  | bl b=>have:=b0.mp r';cases this
  | int b=>have:=ZZ.mp r';cases this
  | str b=>have:=o0.mp r';cases this;rfl
  | tup b=>obtain⟨_,_,z,_⟩:=A0.mp r';cases z
  | lst b=>obtain⟨_,_,z,_⟩:=u0.mp r';cases z
  | ref b=>obtain⟨_,z,_⟩:=F0.mp r';cases z
  | U1 b=>obtain⟨_,z,_⟩:=G1.mp r';cases z
 | .tup xs,d',v,p0,p,r,r'=>by
  obtain⟨a,vs,e,q,rs⟩:=A0.mp r;subst e;cases d' with
  | non=>have:=B0.mp r';cases this
  | bl b=>have:=b0.mp r';cases this
  | int b=>have:=ZZ.mp r';cases this
  | str b=>have:=o0.mp r';cases this
  | tup ys=>obtain⟨b,ws,z,q',rs'⟩:=A0.mp r';cases z;have ee:=I.G3 q.sq q'.sq;subst ee;rw[xM I xs ys (by simpa only[IA]using p0) (by simpa only[IA]using p) rs rs']
  | lst ys=>
   obtain⟨b,ws,z,q',rs'⟩:=u0.mp r';cases z;obtain⟨_,_,⟨o,e1,e2,_⟩,_⟩:=I.tuple q.sq;obtain⟨_,_,⟨o',_,e1',e2',_⟩,_⟩:=I.list q'.sq;rw[e1]at e1';cases e1';rw[e2]at e2';injection e2' with e3
   exact absurd e3 (by decide)
  | ref b=>simp[IA]at p
  | U1 b=>simp[IA]at p
 | .lst xs,d',v,p0,p,r,r'=>by
  obtain⟨a,vs,e,q,rs⟩:=u0.mp r;subst e;cases d' with
  | non=>have:=B0.mp r';cases this
  | bl b=>have:=b0.mp r';cases this
  | int b=>have:=ZZ.mp r';cases this
  | str b=>have:=o0.mp r';cases this
  | lst ys=>obtain⟨b,ws,z,q',rs'⟩:=u0.mp r';cases z;have ee:=I.B2 q.sq q'.sq;subst ee;rw[xM I xs ys (by simpa only[IA]using p0) (by simpa only[IA]using p) rs rs']
  | tup ys=>
   obtain⟨b,ws,z,q',rs'⟩:=A0.mp r';cases z;obtain⟨_,_,⟨o,e1,e2,_⟩,_⟩:=I.tuple q'.sq;obtain⟨_,_,⟨o',_,e1',e2',_⟩,_⟩:=I.list q.sq;rw[e1]at e1';cases e1';rw[e2]at e2';injection e2' with e3
   exact absurd e3 (by decide)
  | ref b=>simp[IA]at p
  | U1 b=>simp[IA]at p
 | .ref _,_,_,p,_,_,_=>by simp[IA]at p
 | .U1 _,_,_,p,_,_,_=>by simp[IA]at p
theorem xM(I:Inv X pins σ H s):∀(ds ds':List Dt){vs:List V},LB ds=true->LB ds'=true->YZ X.K H ρ ds vs->YZ X.K H ρ ds' vs->ds=ds'
 | [],[],_,_,_,_,_=>rfl
 | [],d'::ds',_,_,_,r,r'=>by rw[r.S0]at r';obtain⟨_,_,z,_⟩:=r'.C0;cases z
 | d::ds,[],_,_,_,r,r'=>by rw[r'.S0]at r;obtain⟨_,_,z,_⟩:=r.C0;cases z
 | d::ds,d'::ds',_,p,p',r,r'=>by simp only[LB,Bool.and_eq_true]at p p';obtain⟨v,vs,e,r1,r2⟩:=r.C0;subst e;obtain⟨v',vs',e,r1',r2'⟩:=r'.C0;cases e;rw[gJ I d d' p.1 p'.1 r1 r1',xM I ds ds' p.2 p'.2 r2 r2']
end
def fE(xs ys:List Dt)(j:Nat):Bool:=match xs[j]?,ys[j]? with
 | some x,some y=>CB x y
 | _,_=>false
theorem MF:∀(xs ys:List Dt),xs.length=ys.length->(List.range xs.length).all (fE xs ys)=dC xs ys
 | [],[],_=>by simp[dC]
 | [],_::_,h=>by simp at h
 | _::_,[],h=>by simp at h
 | x::xs,y::ys,h=>by have ih:=MF xs ys (by simpa using h);rw[Q9,range_succ_eq_map,all_cons,all_map];simp only[dC];rw[<- ih];rfl
theorem LF:∀(xs ys:List Dt),xs.length≠ys.length->dC xs ys=false
 | [],[],h=>absurd rfl h
 | [],_::_,_=>by simp only[dC]
 | _::_,[],_=>by simp only[dC]
 | x::xs,y::ys,h=>by simp only[dC];rw[LF xs ys (fun z=>h (by simp[z])),Bool.and_false]
theorem mH(A:Around):A.in1.units<=A.units+1:=by first | exact fj _ | simp[Around.in1]
theorem HC{h:Heap}{a:Addr}{its:Array Value}(p:IsTup h a its):h.IsTuple a its:=by obtain⟨o,h1,h2,n,h3⟩:=p;exact⟨o,h1,h2,n,h3⟩
mutual
theorem JP(I:Inv X pins σ H s):∀(d d':Dt){v v':V}{u u':Value}(A:Around),IA d=true->IA d'=true->A.units+MD d<cLine->n0 X.K H ρ d v->n0 X.K H ρ d' v'->RelV v u->RelV v' u'->SeqAt.EqAt A s u u' (CB d d')
 | .tup xs,d',v,v',u,u',A,p,p',hu,r,r',q,q'=>by
  obtain⟨a,vs,e,t,rs⟩:=A0.mp r;subst e;cases q;simp only[MD]at hu;have hu0:A.units<cLine:=by omega
  obtain⟨its,rv,tp,_⟩:=I.tuple t.sq;cases d' with
  | non=>cases B0.mp r';cases q';simpa only[CB]using SeqAt.EqAt.tuple_none (HC tp) hu0
  | bl b=>cases b0.mp r';cases q';simpa only[CB]using SeqAt.EqAt.tuple_bool b (HC tp) hu0
  | int b=>cases ZZ.mp r';obtain⟨t',rfl⟩:=q';simpa only[CB]using SeqAt.EqAt.tuple_int b t' (HC tp) hu0
  | str b=>cases o0.mp r';obtain⟨t',rfl⟩:=q';simpa only[CB]using SeqAt.EqAt.tuple_str b t' (HC tp) hu0
  | lst ys=>obtain⟨b,ws,e,t',rs'⟩:=u0.mp r';subst e;cases q';obtain⟨its',rv',C1,_⟩:=I.list t'.sq;simpa only[CB]using SeqAt.EqAt.tuple_list (HC tp) C1.isList hu0
  | tup ys=>
   obtain⟨b,ws,e,t',rs'⟩:=A0.mp r';subst e;cases q';obtain⟨its',rv',C1,_⟩:=I.tuple t'.sq;by_cases hab:a=b
   · subst hab;have e:=gJ I (.tup xs) (.tup ys) p p' r r';rw[<- e,SL _ p];exact SeqAt.EqAt.same _
   · refine .of_refs hab ?_;have l1:its.length=xs.length:=by rw[<- rv.length,rs.length]
     have l2:its'.length=ys.length:=by rw[<- rv'.length,rs'.length]
     have ih:=eJ I xs ys A.in1 (by simpa only[IA]using p) (by simpa only[IA]using p') (by have:=mH A;omega) rs rs' rv rv';have z:=SeqAt.RcAt.tuples (e:=fE xs ys) (HC tp) (HC C1) hu0 fun j h1 h2=>by rw[size_toArray]at h1 h2;simpa using ih j h1 h2
     rw[size_toArray,size_toArray,l1,l2]at z;simp only[CB];by_cases hl:xs.length=ys.length
     · rw[<- hl,Nat.min_self,MF xs ys hl,beq_self_eq_true,Bool.and_true]at z;exact z
     · rw[LF xs ys hl];have hb:(xs.length==ys.length)=false:=by simpa using hl
       rw[hb,Bool.and_false]at z;exact z
  | ref b=>simp[IA]at p'
  | U1 b=>simp[IA]at p'
 | .lst xs,d',v,v',u,u',A,p,p',hu,r,r',q,q'=>by
  obtain⟨a,vs,e,t,rs⟩:=u0.mp r;subst e;cases q;simp only[MD]at hu;have hu0:A.units<cLine:=by omega
  obtain⟨its,rv,tp,_⟩:=I.list t.sq;cases d' with
  | non=>cases B0.mp r';cases q';simpa only[CB]using SeqAt.EqAt.list_none tp.isList hu0
  | bl b=>cases b0.mp r';cases q';simpa only[CB]using SeqAt.EqAt.list_bool b tp.isList hu0
  | int b=>cases ZZ.mp r';obtain⟨t',rfl⟩:=q';simpa only[CB]using SeqAt.EqAt.list_int b t' tp.isList hu0
  | str b=>cases o0.mp r';obtain⟨t',rfl⟩:=q';simpa only[CB]using SeqAt.EqAt.list_str b t' tp.isList hu0
  | tup ys=>obtain⟨b,ws,e,t',rs'⟩:=A0.mp r';subst e;cases q';obtain⟨its',rv',C1,_⟩:=I.tuple t'.sq;simpa only[CB]using SeqAt.EqAt.list_tuple tp.isList (HC C1) hu0
  | lst ys=>
   obtain⟨b,ws,e,t',rs'⟩:=u0.mp r';subst e;cases q';obtain⟨its',rv',C1,_⟩:=I.list t'.sq;by_cases hab:a=b
   · subst hab;have e:=gJ I (.lst xs) (.lst ys) p p' r r';rw[<- e,SL _ p];exact SeqAt.EqAt.same _
   · refine .of_refs hab ?_;have l1:its.length=xs.length:=by rw[<- rv.length,rs.length]
     have l2:its'.length=ys.length:=by rw[<- rv'.length,rs'.length]
     simp only[CB];by_cases hl:xs.length=ys.length
     · have ih:=eJ I xs ys A.in1 (by simpa only[IA]using p) (by simpa only[IA]using p') (by have:=mH A;omega) rs rs' rv rv';have z:=SeqAt.RcAt.lists (e:=fE xs ys) tp.isList C1.isList (by rw[size_toArray,size_toArray,l1,l2,hl]) hu0 fun j h1 h2=>by rw[size_toArray]at h1 h2;simpa using ih j h1 h2
       rw[size_toArray,l1,MF xs ys hl]at z;exact z
     · rw[LF xs ys hl];exact SeqAt.RcAt.lists_lengths tp.isList C1.isList (by rw[size_toArray,size_toArray,l1,l2];simpa using hl) hu0
  | ref b=>simp[IA]at p'
  | U1 b=>simp[IA]at p'
 | .ref _,_,_,_,_,_,_,p,_,_,_,_,_,_=>by simp[IA]at p
 | .U1 _,_,_,_,_,_,_,p,_,_,_,_,_,_=>by simp[IA]at p
 | .non,d',v,v',u,u',A,p,p',hu,r,r',q,q'=>by
  cases B0.mp r;cases q;have hu0:A.units<cLine:=by omega
  cases d' with
  | non=>cases B0.mp r';cases q';simp only[CB];exact SeqAt.EqAt.same _
  | bl b=>cases b0.mp r';cases q';simpa only[CB]using SeqAt.EqAt.none_bool b
  | int b=>cases ZZ.mp r';obtain⟨t',rfl⟩:=q';simpa only[CB]using SeqAt.EqAt.none_int b t'
  | str b=>cases o0.mp r';obtain⟨t',rfl⟩:=q';simpa only[CB]using SeqAt.EqAt.none_str b t'
  | tup ys=>obtain⟨b,ws,e,t',rs'⟩:=A0.mp r';subst e;cases q';obtain⟨its',rv',C1,_⟩:=I.tuple t'.sq;simpa only[CB]using SeqAt.EqAt.none_tuple (HC C1) hu0
  | lst ys=>obtain⟨b,ws,e,t',rs'⟩:=u0.mp r';subst e;cases q';obtain⟨its',rv',C1,_⟩:=I.list t'.sq;simpa only[CB]using SeqAt.EqAt.none_list C1.isList hu0
  | ref b=>simp[IA]at p'
  | U1 b=>simp[IA]at p'
 | .bl i,d',v,v',u,u',A,p,p',hu,r,r',q,q'=>by
  cases b0.mp r;cases q;have hu0:A.units<cLine:=by omega
  cases d' with
  | non=>cases B0.mp r';cases q';simpa only[CB]using SeqAt.EqAt.bool_none i
  | bl b=>cases b0.mp r';cases q';simpa only[CB]using SeqAt.EqAt.bool_bool i b
  | int b=>cases ZZ.mp r';obtain⟨t',rfl⟩:=q';simpa only[CB]using SeqAt.EqAt.bool_int i b t'
  | str b=>cases o0.mp r';obtain⟨t',rfl⟩:=q';simpa only[CB]using SeqAt.EqAt.bool_str i b t'
  | tup ys=>obtain⟨b,ws,e,t',rs'⟩:=A0.mp r';subst e;cases q';obtain⟨its',rv',C1,_⟩:=I.tuple t'.sq;simpa only[CB]using SeqAt.EqAt.bool_tuple i (HC C1) hu0
  | lst ys=>obtain⟨b,ws,e,t',rs'⟩:=u0.mp r';subst e;cases q';obtain⟨its',rv',C1,_⟩:=I.list t'.sq;simpa only[CB]using SeqAt.EqAt.bool_list i C1.isList hu0
  | ref b=>simp[IA]at p'
  | U1 b=>simp[IA]at p'
 | .int i,d',v,v',u,u',A,p,p',hu,r,r',q,q'=>by
  cases ZZ.mp r;obtain⟨ti,rfl⟩:=q;have hu0:A.units<cLine:=by omega
  cases d' with
  | non=>cases B0.mp r';cases q';simpa only[CB]using SeqAt.EqAt.int_none i ti
  | bl b=>cases b0.mp r';cases q';simpa only[CB]using SeqAt.EqAt.int_bool i ti b
  | int b=>cases ZZ.mp r';obtain⟨t',rfl⟩:=q';simpa only[CB]using SeqAt.EqAt.int_int i ti b t'
  | str b=>cases o0.mp r';obtain⟨t',rfl⟩:=q';simpa only[CB]using SeqAt.EqAt.int_str i ti b t'
  | tup ys=>obtain⟨b,ws,e,t',rs'⟩:=A0.mp r';subst e;cases q';obtain⟨its',rv',C1,_⟩:=I.tuple t'.sq;simpa only[CB]using SeqAt.EqAt.int_tuple i ti (HC C1) hu0
  | lst ys=>obtain⟨b,ws,e,t',rs'⟩:=u0.mp r';subst e;cases q';obtain⟨its',rv',C1,_⟩:=I.list t'.sq;simpa only[CB]using SeqAt.EqAt.int_list i ti C1.isList hu0
  | ref b=>simp[IA]at p'
  | U1 b=>simp[IA]at p'
 | .str i,d',v,v',u,u',A,p,p',hu,r,r',q,q'=>by
  cases o0.mp r;obtain⟨ti,rfl⟩:=q;have hu0:A.units<cLine:=by omega
  cases d' with
  | non=>cases B0.mp r';cases q';simpa only[CB]using SeqAt.EqAt.str_none i ti
  | bl b=>cases b0.mp r';cases q';simpa only[CB]using SeqAt.EqAt.str_bool i ti b
  | int b=>cases ZZ.mp r';obtain⟨t',rfl⟩:=q';simpa only[CB]using SeqAt.EqAt.str_int i ti b t'
  | str b=>cases o0.mp r';obtain⟨t',rfl⟩:=q';simpa only[CB]using SeqAt.EqAt.str_str i ti b t'
  | tup ys=>obtain⟨b,ws,e,t',rs'⟩:=A0.mp r';subst e;cases q';obtain⟨its',rv',C1,_⟩:=I.tuple t'.sq;simpa only[CB]using SeqAt.EqAt.str_tuple i ti (HC C1) hu0
  | lst ys=>obtain⟨b,ws,e,t',rs'⟩:=u0.mp r';subst e;cases q';obtain⟨its',rv',C1,_⟩:=I.list t'.sq;simpa only[CB]using SeqAt.EqAt.str_list i ti C1.isList hu0
  | ref b=>simp[IA]at p'
  | U1 b=>simp[IA]at p'
theorem eJ(I:Inv X pins σ H s):∀(xs ys:List Dt){vs vs':List V}{us us':List Value}(A:Around),LB xs=true->LB ys=true->A.units+aC xs<cLine->YZ X.K H ρ xs vs->YZ X.K H ρ ys vs'->Vals vs us->Vals vs' us'->
 ∀(j:Nat)(h1:j<us.length)(h2:j<us'.length),SeqAt.EqAt A s us[j] us'[j] (fE xs ys j)
 | [],_,_,_,_,_,_,_,_,_,r,_,q,_,_,h1,_=>by rw[r.S0]at q;cases q;exact absurd h1 (by simp)
 | _::_,[],_,_,_,_,_,_,_,_,_,r',_,q',_,_,h2=>by rw[r'.S0]at q';cases q';exact absurd h2 (by simp)
 | x::xs,y::ys,vs,vs',us,us',A,p,p',hu,r,r',q,q',j,h1,h2=>by
  simp only[LB,Bool.and_eq_true]at p p';simp only[aC]at hu;obtain⟨v,r0,e,a1,a2⟩:=r.C0;subst e;obtain⟨v',M9,e,b1,b2⟩:=r'.C0;subst e;cases q with
  | cons q1 q2=>
   cases q' with
   | cons A9 B9=>
    cases j with
    | zero=>exact JP I x y A p.1 p'.1 (by omega) a1 b1 q1 A9
    | succ j=>have ih:=eJ I xs ys A p.2 p'.2 (by omega) a2 b2 q2 B9 j (by simpa using h1) (by simpa using h2);simpa[fE]using ih
end
end
section
variable{X:Cx}{a b c e:Expr}{es:List Expr}{fa fb fc f:RE}{g:RA}{p p2 pos:Pos}
def IC(xs ys:List Dt):Bool:=LB xs&&LB ys&&decide (aC xs<=50)
def VA:bC:=fun a b h=>match a,b with
 | .tup xs,.tup ys=>if IC xs ys=true then some (.bl (dC xs ys),h)else none
 | .lst xs,.lst ys=>if IC xs ys=true then some (.bl (dC xs ys),h)else none
 | a,b=>uN a b h
def OB:bC:=fun a b h=>match a,b with
 | .tup xs,.tup ys=>if IC xs ys=true then some (.bl (!dC xs ys),h)else none
 | .lst xs,.lst ys=>if IC xs ys=true then some (.bl (!dC xs ys),h)else none
 | a,b=>vN a b h
theorem JI{pins:List (Addr×Obj)}{σ:L2.St}{H:Hp}{s:Shared}{ρ:Rg}{xs ys:List Dt}{vs ws:List V}{its its':List Value}(I:Inv X pins σ H s)(hu:X.A.units+64<cLine)(ok:IC xs ys=true)(rs:YZ X.K H ρ xs vs)(rs':YZ X.K H ρ ys ws)(rv:Vals vs its)(rv':Vals ws its') :
 ∀(j:Nat)(h1:j<its.toArray.size)(h2:j<its'.toArray.size),SeqAt.EqAt X.A.in1 s its.toArray[j] its'.toArray[j] (fE xs ys j):=fun j h1 h2=>by
 simp only[IC,Bool.and_eq_true,decide_eq_true_eq]at ok;rw[size_toArray]at h1 h2;have:=eJ I xs ys X.A.in1 ok.1.1 ok.1.2 (by have:=mH X.A;omega) rs rs' rv rv' j h1 h2;simpa using this
theorem RB(hu:X.A.units+64<cLine):OM X (compareOp .Eq) VA:=by
 with_unfolding_all
  intro pins s σ H x y v u Q I rx ry h;obtain⟨ρ,h,d1,d2,d,h',S,R1,R2,e,k⟩:=h;unfold VA at e;split at e
  · rename_i xs ys;obtain⟨ok,e⟩:=qD e;cases e;obtain⟨a,vs,z,t,rs⟩:=A0.mp R1;obtain⟨b,ws,z',t',rs'⟩:=A0.mp R2;subst z z';cases rx;cases ry;obtain⟨its,rv,tp,_⟩:=I.tuple t.sq;obtain⟨its',rv',C1,_⟩:=I.tuple t'.sq;have l1:its.length=xs.length:=by rw[<- rv.length,rs.length]
    have l2:its'.length=ys.length:=by rw[<- rv'.length,rs'.length]
    refine SeqAt.eq_tupleAt (e:=fE xs ys) (HC tp) (HC C1) (by omega) (JI I hu ok rs rs' rv rv') ?_;refine⟨.bl _,H,I,rfl,k ρ _ H (b0.mpr (congrArg V.bl ?_)) S (Ext.refl _ _)⟩;rw[size_toArray,size_toArray,l1,l2];by_cases hl:xs.length=ys.length
    · rw[<- hl,Nat.min_self,MF xs ys hl,beq_self_eq_true,Bool.and_true]
    · have hb:(xs.length==ys.length)=false:=by simpa using hl
      rw[LF xs ys hl,hb,Bool.and_false]
  · rename_i xs ys;obtain⟨ok,e⟩:=qD e;cases e;obtain⟨a,vs,z,t,rs⟩:=u0.mp R1;obtain⟨b,ws,z',t',rs'⟩:=u0.mp R2;subst z z';cases rx;cases ry;obtain⟨its,rv,tp,_⟩:=I.list t.sq;obtain⟨its',rv',C1,_⟩:=I.list t'.sq;have l1:its.length=xs.length:=by rw[<- rv.length,rs.length]
    have l2:its'.length=ys.length:=by rw[<- rv'.length,rs'.length]
    by_cases hl:xs.length=ys.length
    · refine SeqAt.eq_listAt (e:=fE xs ys) tp.isList C1.isList (by rw[size_toArray,size_toArray,l1,l2,hl]) (by omega) (JI I hu ok rs rs' rv rv') ?_;refine⟨.bl _,H,I,rfl,k ρ _ H (b0.mpr (congrArg V.bl ?_)) S (Ext.refl _ _)⟩;rw[size_toArray,l1,MF xs ys hl]
    · refine SeqAt.eq_list_lengthsAt tp.isList C1.isList (by rw[size_toArray,size_toArray,l1,l2];simpa using hl) (by omega) ?_;exact⟨.bl _,H,I,rfl,k ρ _ H (b0.mpr (by rw[LF xs ys hl])) S (Ext.refl _ _)⟩
  · exact OY pins s σ H x y v u Q I rx ry ⟨ρ,h,d1,d2,d,h',S,R1,R2,e,k⟩
theorem wD(hu:X.A.units+64<cLine):OM X (compareOp .NotEq) OB:=by
 with_unfolding_all
  intro pins s σ H x y v u Q I rx ry h;obtain⟨ρ,h,d1,d2,d,h',S,R1,R2,e,k⟩:=h;unfold OB at e;split at e
  · rename_i xs ys;obtain⟨ok,e⟩:=qD e;cases e;obtain⟨a,vs,z,t,rs⟩:=A0.mp R1;obtain⟨b,ws,z',t',rs'⟩:=A0.mp R2;subst z z';cases rx;cases ry;obtain⟨its,rv,tp,_⟩:=I.tuple t.sq;obtain⟨its',rv',C1,_⟩:=I.tuple t'.sq;have l1:its.length=xs.length:=by rw[<- rv.length,rs.length]
    have l2:its'.length=ys.length:=by rw[<- rv'.length,rs'.length]
    refine oT (e:=fE xs ys) (HC tp) (HC C1) (by omega) (JI I hu ok rs rs' rv rv') ?_;refine⟨.bl _,H,I,rfl,k ρ _ H (b0.mpr (congrArg V.bl ?_)) S (Ext.refl _ _)⟩;rw[size_toArray,size_toArray,l1,l2];by_cases hl:xs.length=ys.length
    · rw[<- hl,Nat.min_self,MF xs ys hl,beq_self_eq_true,Bool.and_true]
    · have hb:(xs.length==ys.length)=false:=by simpa using hl
      rw[LF xs ys hl,hb,Bool.and_false]
  · rename_i xs ys;obtain⟨ok,e⟩:=qD e;cases e;obtain⟨a,vs,z,t,rs⟩:=u0.mp R1;obtain⟨b,ws,z',t',rs'⟩:=u0.mp R2;subst z z';cases rx;cases ry;obtain⟨its,rv,tp,_⟩:=I.list t.sq;obtain⟨its',rv',C1,_⟩:=I.list t'.sq;have l1:its.length=xs.length:=by rw[<- rv.length,rs.length]
    have l2:its'.length=ys.length:=by rw[<- rv'.length,rs'.length]
    by_cases hl:xs.length=ys.length
    · refine nU (e:=fE xs ys) tp.isList C1.isList (by rw[size_toArray,size_toArray,l1,l2,hl]) (by omega) (JI I hu ok rs rs' rv rv') ?_;refine⟨.bl _,H,I,rfl,k ρ _ H (b0.mpr (congrArg V.bl ?_)) S (Ext.refl _ _)⟩;rw[size_toArray,l1,MF xs ys hl]
    · refine OS tp.isList C1.isList (by rw[size_toArray,size_toArray,l1,l2];simpa using hl) (by omega) ?_;exact⟨.bl _,H,I,rfl,k ρ _ H (b0.mpr (by rw[LF xs ys hl];rfl)) S (Ext.refl _ _)⟩
  · exact RY pins s σ H x y v u Q I rx ry ⟨ρ,h,d1,d2,d,h',S,R1,R2,e,k⟩
def JD:List Dt->Option (List V)
 | []=>some []
 | d::ds=>(xC d).bind fun v=>(JD ds).map fun vs=>v::vs
theorem uO{K:Frag}{H:Hp}{ρ:Rg}:∀{ds:List Dt}{ws vs:List V},JD ds=some ws->YZ K H ρ ds vs->vs=ws
 | [],_,_,e,r=>by simp only[JD]at e;cases e;exact r.S0
 | d::ds,_,_,e,r=>by
  simp only[JD]at e;obtain⟨v,e1,e⟩:=eA e;cases q:JD ds with
  | none=>rw[q]at e;cases e
  | some vs=>rw[q]at e;cases e;obtain⟨v',r',z,r1,r2⟩:=r.C0;subst z;rw[rG e1 r1,uO q r2]
theorem MP{d:Dt}{v:V}(e:xC d=some v):uE v=true:=by cases d<;>simp only[xC]at e<;>first | (cases e;rfl) | cases e
theorem kP:∀{ds:List Dt}{ws:List V},JD ds=some ws->ws.all uE=true
 | [],_,e=>by simp only[JD]at e;cases e;rfl
 | d::ds,_,e=>by
  simp only[JD]at e;obtain⟨v,e1,e⟩:=eA e;cases q:JD ds with
  | none=>rw[q]at e;cases e
  | some vs=>rw[q]at e;cases e;rw[all_cons,MP e1,kP q];rfl
def TH(neg:Bool):bC:=fun a b h=>(xC a).bind fun x=>(DD h b).bind fun ys=>(JD ys).bind fun zs=>some (.bl (if neg then !iN x zs else iN x zs),h)
theorem lP{neg:Bool}{x y:V}{H:Hp}{Q:VK}(h:rM X.K (TH neg) x y H Q):mR X.K neg x y H Q:=by obtain⟨ρ,h,d1,d2,d,h',S,R1,R2,e,k⟩:=h;obtain⟨x',e1,e⟩:=eA e;obtain⟨ys,e2,e⟩:=eA e;obtain⟨zs,e3,e⟩:=eA e;cases e;obtain⟨p,vs,e4,sq,r⟩:=hJ S R2 e2;have e5:=uO e3 r;subst e5;have e6:=rG e1 R1;subst e6;exact⟨p,vs,e4,sq,MP e1,kP e3,k ρ _ H (b0.mpr rfl) S (Ext.refl _ _)⟩
theorem QY:OM X (compareOp .In) (TH false):=by with_unfolding_all exact Q0.imp JU fun _ _ _ _ h=>lP h
theorem dJ:OM X (compareOp .NotIn) (TH true):=by with_unfolding_all exact Q0.imp vS fun _ _ _ _ h=>lP h
def BD:bC:=fun a b h=>(jA h a).bind fun xs=>(jA h b).bind fun ys=>if xs.length+ys.length<=sizeLine then some (.lst (xs++ys),h)else none
theorem GH:OM X (binaryOp .Add) BD:=by with_unfolding_all exact Q0.imp GW fun x y H Q zz=>by obtain⟨ρ,h,d1,d2,d,h',S,R1,R2,e,k⟩:=zz;obtain⟨xs,e1,e⟩:=eA e;obtain⟨ys,e2,e⟩:=eA e;obtain⟨hz,e⟩:=qD e;cases e;obtain⟨l,vs,z1,q1,r1⟩:=ZD S R1 e1;obtain⟨b,ws,z2,q2,r2⟩:=ZD S R2 e2;exact⟨l,b,vs,ws,z1,z2,q1,q2,by rw[r1.length,r2.length];exact hz,fun p hp=>k ρ _ _ (FH S (r1.append r2) hp) (S.fresh hp) (Ext.fresh hp)⟩
noncomputable def kC(F:Dt->HI->Option (Dt×HI))(f:RE):RE:=fun l h=>(f l h).bind fun r=>F r.1 r.2
theorem YM{x:Str}{id:String}{r:List V->Hp->VK->Prop}{F:Dt->HI->Option (Dt×HI)}(hc:J0 X (.builtin id) r)(hF:∀ρ h d v d' h' H Q,v0 X.K ρ h H->n0 X.K H ρ d v->F d h=some (d',h')->Out X.K ρ H d' h' Q->r [v] H Q)
 (hg:Gl X x) (hm:X.mg x=none) (hv:bootBuiltins x=some (.builtin id)) (ha:EM X e f) (hn:x ≠ "__name__" :=by decide) (hdb:(x==("__debug__" :Str))=false:=by decide) (hs:AB e=true:=by rfl) :
 EM X (.Call (.Name x p) [e] [] pos) (kC F f):=by
 with_unfolding_all exact PE.imp (wM hc hg hm hv (LC ha xD (vB hs _ _)) hn hdb (he:=vB hs _ _)) fun σ H Q zz=>by obtain⟨ρ,l,h,d,h',S,L,e,k⟩:=zz;obtain⟨⟨d1,h1⟩,e1,e⟩:=eA e;exact⟨ρ,l,h,d1,h1,S,L,e1,fun ρ1 v H1 R1 S1 E1=>hF ρ1 h1 d1 v d h' H1 Q S1 R1 e (k.ext E1)⟩
theorem DJ{x:Str}{T:String}{r:List V->Hp->VK->Prop}{F:Dt->HI->Option (Dt×HI)}(hc:J0 X (.type T) r)(hF:∀ρ h d v d' h' H Q,v0 X.K ρ h H->n0 X.K H ρ d v->F d h=some (d',h')->Out X.K ρ H d' h' Q->r [v] H Q)
 (hg:Gl X x) (hm:X.mg x=none) (hv:bootBuiltins x=some (.type T)) (ha:EM X e f) (hn:x ≠ "__name__" :=by decide) (hdb:(x==("__debug__" :Str))=false:=by decide) (hs:AB e=true:=by rfl) :
 EM X (.Call (.Name x p) [e] [] pos) (kC F f):=by
 with_unfolding_all exact PE.imp (LU hc hg hm hv (LC ha xD (vB hs _ _)) hn hdb (he:=vB hs _ _)) fun σ H Q zz=>by obtain⟨ρ,l,h,d,h',S,L,e,k⟩:=zz;obtain⟨⟨d1,h1⟩,e1,e⟩:=eA e;exact⟨ρ,l,h,d1,h1,S,L,e1,fun ρ1 v H1 R1 S1 E1=>hF ρ1 h1 d1 v d h' H1 Q S1 R1 e (k.ext E1)⟩
def nB:Dt->HI->Option (Dt×HI):=fun d h=>match d with
 | .str z=>if z.length<=sizeLine then some (.int z.length,h)else none
 | d=>(DD h d).map fun xs=>(.int xs.length,h)
theorem pC (hg:Gl X "len") (hm:X.mg "len" =none) (ha:EM X e f) (hs:AB e=true:=by rfl):EM X (.Call (.Name "len" p) [e] [] pos) (kC nB f):=by
 with_unfolding_all
  exact YM (J0.or bS IS) (fun ρ h d v d' h' H Q S R e k=>by
   unfold nB at e;split at e
   · rename_i z;obtain⟨hz,e⟩:=qD e;cases e;exact .inr ⟨z,by rw[o0.mp R],hz,k ρ _ H (ZZ.mpr rfl) S (Ext.refl _ _)⟩
   · cases q:DD h d with
     | none=>rw[q]at e;cases e
     | some xs=>
      rw[q]at e;cases e;obtain⟨a,vs,z,sq,r⟩:=hJ S R q;exact .inl ⟨a,vs,by rw[z],sq,by rw[r.length];exact k ρ _ H (ZZ.mpr rfl) S (Ext.refl _ _)⟩) hg hm PySem.boot_len ha (hs:=hs)
noncomputable def YH:Dt->HI->Option (Dt×HI):=fun d h=>match d with
 | .int i=>some (.int i,h)
 | .bl b=>some (.int (if b then 1 else 0),h)
 | _=>none
theorem fV (hg:Gl X "int") (hm:X.mg "int" =none) (ha:EM X e f) (hs:AB e=true:=by rfl):EM X (.Call (.Name "int" p) [e] [] pos) (kC YH f):=by
 with_unfolding_all
  exact DJ bU (fun ρ h d v d' h' H Q S R e k=>by
   unfold YH at e;split at e
   · rename_i i;cases e;exact .inl ⟨i,by rw[ZZ.mp R],k ρ _ H (ZZ.mpr rfl) S (Ext.refl _ _)⟩
   · rename_i b;cases e;exact .inr ⟨b,by rw[b0.mp R],k ρ _ H (ZZ.mpr rfl) S (Ext.refl _ _)⟩
   · cases e) hg hm PyProof.Rows.boot_int ha (hs:=hs)
def SF:Dt->HI->Option (Dt×HI):=fun d h=>(DD h d).map fun xs=>(.lst xs,h)
theorem OO (hg:Gl X "list") (hm:X.mg "list" =none) (ha:EM X e f) (hs:AB e=true:=by rfl):EM X (.Call (.Name "list" p) [e] [] pos) (kC SF f):=by
 with_unfolding_all
  exact DJ JS (fun ρ h d v d' h' H Q S R e k=>by
   unfold SF at e;cases q:DD h d with
   | none=>rw[q]at e;cases e
   | some xs=>
    rw[q]at e;cases e;obtain⟨a,vs,z,sq,r⟩:=hJ S R q;exact⟨a,vs,by rw[z],sq,fun l hl=>k ρ _ _ (FH S r hl) (S.fresh hl) (Ext.fresh hl)⟩) hg hm PyProof.Rows.boot_list ha (hs:=hs)
noncomputable def pE:List Dt->Option (List Int)
 | []=>some []
 | .int i::ds=>(pE ds).map fun ns=>i::ns
 | _::_=>none
theorem xO:∀{ds:List Dt}{ns:List Int},pE ds=some ns->ds=ns.map Dt.int
 | [],_,e=>by simp only[pE]at e;cases e;rfl
 | d::ds,_,e=>by
  cases d with
  | int i=>
   simp only[pE]at e;cases q:pE ds with
   | none=>rw[q]at e;cases e
   | some ns=>rw[q]at e;cases e;rw[xO q];rfl
  | _=>simp only[pE]at e<;>cases e
def ZH:Dt->HI->Option (Dt×HI):=fun d h=>(jA h d).bind fun xs=>(pE xs).map fun ns=>(.int ns.sum,h)
theorem NV (hc:X.calm=true) (hg:Gl X "sum") (hm:X.mg "sum" =none) (ha:EM X e f) (hs:AB e=true:=by rfl):EM X (.Call (.Name "sum" p) [e] [] pos) (kC ZH f):=by
 with_unfolding_all
  exact YM (dU hc) (fun ρ h d v d' h' H Q S R e k=>by
   obtain⟨xs,e1,e⟩:=eA e;cases q:pE xs with
   | none=>rw[q]at e;cases e
   | some ns=>
    rw[q]at e;cases e;obtain⟨a,vs,z,sq,r⟩:=ZD S R e1;rw[xO q]at r;rw[r.W3]at sq;exact⟨a,ns,by rw[z],sq,k ρ _ H (ZZ.mpr rfl) S (Ext.refl _ _)⟩) hg hm PyProof.Rows.boot_sum ha (hs:=hs)
noncomputable def yE(h:HI):Dt->Option String
 | .non=>some "NoneType"
 | .bl _=>some "bool"
 | .int _=>some "int"
 | .str _=>some "str"
 | .tup _=>some "tuple"
 | .lst _=>some "list"
 | .ref n=>match h[n]? with | some (.lst _)=>some "list" | _=>none
 | .U1 _=>none
noncomputable def WJ (t T:String):Bool:=t==T || (t == "bool" && T == "int")
def cC(T:String)(f:RE):RE:=fun l h=>(f l h).bind fun r=>(yE r.2 r.1).map fun t=>(.bl (WJ t T),r.2)
theorem yW (K:Frag):∀t ∈ ["NoneType", "bool", "int", "str", "tuple", "list"],∀T ∈ ["bool", "int", "str", "tuple", "list"],PySem.W.kitOne K (.type t) (.type T)=some (WJ t T):=by intro t ht T hT;simp only[mem_cons,mem_nil_iff,or_false]at ht hT;rcases ht with rfl | rfl | rfl | rfl | rfl | rfl<;>rcases hT with rfl | rfl | rfl | rfl | rfl<;>with_unfolding_all rfl
theorem SW {h:HI} {d:Dt} {t:String} (e:yE h d=some t):t ∈ ["NoneType", "bool", "int", "str", "tuple", "list"]:=by
 cases d with
 | ref n=>
  simp only[yE]at e;split at e
  · cases e;decide
  · cases e
 | U1 n=>simp only[yE]at e;cases e
 | _=>simp only[yE]at e<;>cases e<;>decide
theorem qY{K:Frag}{H:Hp}{ρ:Rg}{h:HI}{d:Dt}{v:V}{t:String}(S:v0 K ρ h H)(R:n0 K H ρ d v)(e:yE h d=some t):bZ K H v t:=by
 cases d with
 | non=>cases B0.mp R;simp only[yE]at e;cases e;rfl
 | bl b=>cases b0.mp R;simp only[yE]at e;cases e;rfl
 | int b=>cases ZZ.mp R;simp only[yE]at e;cases e;rfl
 | str b=>cases o0.mp R;simp only[yE]at e;cases e;rfl
 | tup xs=>obtain⟨a,vs,z,t,rs⟩:=A0.mp R;subst z;simp only[yE]at e;cases e;exact .inr ⟨rfl,vs,t.sq⟩
 | lst xs=>obtain⟨a,vs,z,t,rs⟩:=u0.mp R;subst z;simp only[yE]at e;cases e;exact .inl ⟨rfl,vs,t.sq⟩
 | ref n=>
  obtain⟨a,z,ha⟩:=F0.mp R;subst z;simp only[yE]at e;split at e
  · rename_i xs q;cases e;obtain⟨vs,h1,_⟩:=S.lst ha q;exact .inl ⟨rfl,vs,Y0.of h1⟩
  · cases e
 | U1 n=>simp only[yE]at e;cases e
theorem WE {T:Str} {TT:String} (hg:Gl X "isinstance") (hm:X.mg "isinstance" =none) (f9:Gl X T) (g9:X.mg T=none) (hv:bootBuiltins T=some (.type TT)) (hT:TT ∈ ["bool", "int", "str", "tuple", "list"]) (ha:EM X e f)
 (hnT:T ≠ "__name__" :=by decide) (hdT:(T==("__debug__" :Str))=false:=by decide)
 (hs:AB e=true:=by rfl) :
 EM X (.Call (.Name "isinstance" p) [e,.Name T p2] [] pos) (cC TT f):=by
 with_unfolding_all
  exact PE.imp (wM (vU (T:=TT)) hg hm PyProof.Rows.boot_isinstance (LC ha (LC (IW f9 g9 hv (v:=.ty TT) rfl hnT hdT) xD (vB rfl _ _)) (vB hs _ _)) (he:=vB hs _ _)) fun σ H Q zz=>by
   obtain⟨ρ,l,h,d,h',S,L,e,k⟩:=zz;obtain⟨⟨d1,h1⟩,e1,e⟩:=eA e;refine⟨ρ,l,h,d1,h1,S,L,e1,fun ρ1 v H1 R1 S1 E1=>?_⟩;cases q:yE h1 d1 with
   | none=>rw[q]at e;cases e
   | some t=>rw[q]at e;cases e;exact⟨v,t,WJ t TT,rfl,qY S1 R1 q,yW X.K t (SW q) TT hT,k ρ1 _ H1 (b0.mpr rfl) S1 E1⟩
abbrev RO:=LI->HI->Option (Option Int×HI)
noncomputable def lN:RO:=fun _ h=>some (none,h)
noncomputable def CF(f:RE):RO:=fun l h=>(f l h).bind fun r=>match r.1 with | .int i=>some (some i,r.2) | _=>none
def qZ(K:Frag)(f:RO):TO:=fun σ H Q=>∃ρ l h o h',v0 K ρ h H/\K0 K H ρ l σ/\f l h=some (o,h')/\N3 K ρ H h' (Q o)
@[irreducible] def KQ(X:Cx)(e:Option Expr)(f:RO):Prop:=PO X e (qZ X.K f)
theorem PO.imp{X:Cx}{e:Option Expr}{t t':TO}(h:PO X e t)(i:∀σ H Q,t' σ H Q->t σ H Q):PO X e t':=fun pins s σ H Q I q=>h pins s σ H Q I (i σ H Q q)
theorem nM:KQ X none lN:=by with_unfolding_all exact PO.imp RW fun σ H Q zz=>by obtain⟨ρ,l,h,o,h',S,L,e,k⟩:=zz;cases e;exact k ρ H S (Ext.refl _ _)
theorem JF(ha:EM X a fa):KQ X (some a) (CF fa):=by
 with_unfolding_all
  exact PO.imp (SV ha) fun σ H Q zz=>by
   obtain⟨ρ,l,h,o,h',S,L,e,k⟩:=zz;obtain⟨⟨d1,h1⟩,e1,e⟩:=eA e;refine⟨ρ,l,h,d1,h1,S,L,e1,fun ρ1 v H1 R1 S1 E1=>?_⟩;cases d1 with
   | int i=>cases e;exact⟨i,ZZ.mp R1,k ρ1 H1 S1 E1⟩
   | _=>cases e
def dE(xs:List Dt)(lo hi:Option Int):List Dt:=(xs.drop (HT.P1 xs.length 0 lo)).take (HT.P1 xs.length xs.length hi-HT.P1 xs.length 0 lo)
def QH(f:RE)(lo hi:RO):RE:=fun l h=>(f l h).bind fun r=>(lo l r.2).bind fun o=>(hi l o.2).bind fun u=>(jA u.2 r.1).map fun xs=>(.lst (dE xs o.1 u.1),u.2)
theorem WU{K:Frag}{H:Hp}{ρ:Rg}{xs:List Dt}{vs:List V}(r:YZ K H ρ xs vs)(lo hi:Option Int):YZ K H ρ (dE xs lo hi) (YF vs lo hi):=by unfold dE YF;rw[r.length];exact(r.drop _).take _
theorem jH{lo hi:Option Expr}{fl fh:RO}(ha:EM X a fa)(hl:KQ X lo fl)(hh:KQ X hi fh):EM X (.Subscript a (.Slice lo hi none p2) pos) (QH fa fl fh):=by
 with_unfolding_all
  exact PE.imp (tV eW ha hl hh) fun σ H Q zz=>by
   obtain⟨ρ,l,h,d,h',S,L,e,k⟩:=zz;obtain⟨⟨d1,h1⟩,e1,e⟩:=eA e;obtain⟨⟨o,h2⟩,e2,e⟩:=eA e;obtain⟨⟨u,h3⟩,e3,e⟩:=eA e;refine⟨ρ,l,h,d1,h1,S,L,e1,fun ρ1 v H1 R1 S1 E1=>⟨ρ1,l,h1,o,h2,S1,L.ext E1,e2,fun ρ2 H2 S2 E2=>⟨ρ2,l,h2,u,h3,S2,L.ext (E1.trans E2),e3,fun ρ3 H3 S3 E3=>?_⟩⟩⟩;cases q:jA h3 d1 with
   | none=>dsimp only at e;rw[q]at e;cases e
   | some xs=>dsimp only at e;rw[q]at e;cases e;obtain⟨x,vs,z,sq,r⟩:=ZD S3 (n0.ext (E2.trans E3) _ R1) q;exact⟨x,vs,z,sq,fun p hp=>k ρ3 _ _ (FH S3 (WU r o u) hp) (S3.fresh hp) (E1.trans (E2.trans (E3.trans (Ext.fresh hp))))⟩
noncomputable def XQ(fo fa:RE):RE:=fun l h=>(fo l h).bind fun r=>match r.1 with
 | .ref n=>(fa l r.2).bind fun q=>match q.2[n]? with
  | some (.lst xs)=>if xs.length<sizeLine then some (.non,q.2.set n (.lst (xs++[q.1])))else none
  | _=>none
 | _=>none
theorem RP {K:Frag} {H:Hp} {ρ:Rg} {h:HI} {n:Nat} {xs:List Dt} {v:V} (S:v0 K ρ h H) (R:n0 K H ρ (.ref n) v) (e:h[n]?=some (.lst xs)):AR K "list" v H:=by obtain⟨a,z,ha⟩:=F0.mp R;subst z;obtain⟨vs,h1,_⟩:=S.lst ha e;exact .inl ⟨rfl,vs,Y0.of h1⟩
def YD(fa fb:RE):RE:=fun l h=>(fa l h).bind fun r=>match r.1 with
 | .ref n=>match r.2[n]? with
  | some (.lst _)=>XQ (eC (.ref n)) fb l r.2
  | _=>none
 | _=>none
theorem kF {apos cpos:Pos} (ho:EM X a fa) (hb:EM X b fb) (hbase:attributeBase a "append" X.env (eval a X.env)=eval a X.env:=by rfl)
 (hline:(apos.endLine==cpos.line)=true:=by rfl) (hs:AB b=true:=by rfl) :
 EM X (.Call (.Attribute a "append" apos) [b] [] cpos) (YD fa fb):=by
 with_unfolding_all
  exact PE.imp (MH PySem.F.plainAttrs_list PySem.F.slot_list_append PySem.F.type_list_append yO ho (LC hb xD (vB hs _ _)) hbase (yH hs) hline (vB hs _ _)) fun σ H Q zz=>by
   obtain⟨ρ,l,h,d,h',S,L,e,k⟩:=zz;obtain⟨⟨d1,h1⟩,e1,e⟩:=eA e;refine⟨ρ,l,h,d1,h1,S,L,e1,fun ρ1 v H1 R1 S1 E1=>?_⟩;cases d1 with
   | ref n=>
    dsimp only at e;split at e
    · rename_i xs0 q0;obtain⟨⟨d0,h0⟩,z0,e⟩:=eA e;cases z0;dsimp only at e;obtain⟨⟨d2,h2⟩,e2,e⟩:=eA e;refine⟨RP S1 R1 q0,ρ1,l,h1,d2,h2,S1,L.ext E1,e2,fun ρ2 y H2 R2 S2 E2=>?_⟩;dsimp only at e;split at e
      · rename_i xs q;obtain⟨hz,e⟩:=qD e;cases e;obtain⟨a,z,ha⟩:=F0.mp R1;subst z;have ha2:=E2.get ha;obtain⟨vs,g1,g2⟩:=S2.lst ha2 q;have hm:=mem_of_getElem? ha2;refine⟨a,vs,y,rfl,rfl,g1,by rw[g2.length];exact hz,k ρ2 _ _ (B0.mpr rfl) (S2.write ha2 (cG g1) ⟨_,bD,?_⟩) (E1.trans (E2.trans (Ext.write hm (cG g1))))⟩;exact(g2.append (.cons R2 .nil)).ext (Ext.write hm (cG g1))
      · cases e
    · cases e
   | _=>cases e
end
def ND:List Dt->Dt->Option Nat
 | [],_=>none
 | y::ys,x=>if CB y x=true then some 0 else(ND ys x).map (· + 1)
theorem wO:∀{ys:List Dt}{x:Dt}{j:Nat},ND ys x=some j->(∃y,ys[j]?=some y/\CB y x=true)/\∀(m:Nat),m<j->∃y,ys[m]?=some y/\CB y x=false
 | [],_,_,e=>by simp only[ND]at e;cases e
 | y::ys,x,j,e=>by
  simp only[ND]at e;by_cases h:CB y x=true
  · rw[if_pos h]at e;cases e;exact⟨⟨y,rfl,h⟩,fun m hm=>absurd hm (Nat.not_lt_zero _)⟩
  · rw[if_neg h]at e;cases q:ND ys x with
    | none=>rw[q]at e;cases e
    | some k=>
     rw[q]at e;cases e;obtain⟨⟨z,z1,z2⟩,no⟩:=wO q;refine⟨⟨z,by simpa using z1,z2⟩,fun m hm=>?_⟩;cases m with
     | zero=>exact⟨y,rfl,by simpa using h⟩
     | succ m=>obtain⟨u,u1,u2⟩:=no m (Nat.lt_of_succ_lt_succ hm);exact⟨u,by simpa using u1,u2⟩
section
variable{X:Cx}{pins:List (Addr×Obj)}{σ:L2.St}{H:Hp}{s:Shared}{ρ:Rg}
def IG(xs:List Dt)(d:Dt)(k:Nat):Bool:=match xs[k]? with | some z=>CB z d | none=>false
theorem CI:∀{xs:List Dt}{k:Nat}{z:Dt},LB xs=true->xs[k]?=some z->IA z=true
 | [],_,_,_,e=>by simp at e
 | x::xs,0,z,h,e=>by simp only[LB,Bool.and_eq_true]at h;simp at e;subst e;exact h.1
 | x::xs,k+1,z,h,e=>by simp only[LB,Bool.and_eq_true]at h;exact CI h.2 (by simpa using e)
theorem pO:∀{xs:List Dt}{k:Nat}{z:Dt},xs[k]?=some z->MD z<=aC xs
 | [],_,_,e=>by simp at e
 | x::xs,0,z,e=>by simp at e;subst e;simp only[aC];exact Nat.le_max_left _ _
 | x::xs,k+1,z,e=>by simp only[aC];exact Nat.le_trans (pO (xs:=xs) (k:=k) (by simpa using e)) (Nat.le_max_right _ _)
open Classical in
theorem sQ(I:Inv X pins σ H s){xs:List Dt}{d:Dt}{ws:List V}{v:V}{its:List Value}{u:Value}(A:Around)(p:LB xs=true)(p':IA d=true)(hu:A.units+aC xs<cLine)(rs:YZ X.K H ρ xs ws)(rd:n0 X.K H ρ d v)(rv:Vals ws its)(ru:RelV v u) :
 ∃e:Value->Bool,(∀(k:Nat)(hk:k<its.length),e its[k]=IG xs d k)/\∀y∈its,SeqAt.EqAt A s y u (e y):=by
 have key:∀(k:Nat)(y:Value),its[k]?=some y->∃z w,xs[k]?=some z/\ws[k]?=some w/\n0 X.K H ρ z w/\RelV w y:=fun k y e=>by
  have hl:=rv.length;have hk:k<xs.length:=by have:=(aj e).1;have h2:=rs.length;omega
  obtain⟨w,w1,w2⟩:=rs.get (getElem?_eq_getElem hk);obtain⟨y',y1,y2⟩:=rv.get w1;rw[e]at y1;cases y1;exact⟨_,w,getElem?_eq_getElem hk,w1,w2,y2⟩
 have same:∀(k m:Nat)(y:Value),its[k]?=some y->its[m]?=some y->IG xs d k=IG xs d m:=fun k m y e1 e2=>by obtain⟨z,w,a1,_,a3,a4⟩:=key k y e1;obtain⟨z',w',b1,_,b3,b4⟩:=key m y e2;have ew:=RelV.inj a4 b4;subst ew;have ez:=gJ I z z' (CI p a1) (CI p b1) a3 b3;unfold IG;rw[a1,b1,ez]
 refine⟨fun y=>if h:∃k,its[k]?=some y then IG xs d h.choose else false,fun k hk=>?_,fun y hy=>?_⟩
 · have hex:∃m,its[m]?=some its[k]:=⟨k,getElem?_eq_getElem hk⟩
   dsimp only;rw[dif_pos hex];exact same _ _ _ hex.choose_spec (getElem?_eq_getElem hk)
 · obtain⟨k,hk⟩:=mem_iff_getElem?.mp hy;have hex:∃m,its[m]?=some y:=⟨k,hk⟩
   dsimp only;rw[dif_pos hex];obtain⟨z,w,a1,_,a3,a4⟩:=key _ y hex.choose_spec;have ec:IG xs d hex.choose=CB z d:=by unfold IG;rw[a1]
   rw[ec];exact JP I z d A (CI p a1) p' (by have:=pO a1;omega) a3 rd a4 ru
theorem tW{xs:List Dt}{d:Dt}{j:Nat}(h:ND xs d=some j):j<xs.length/\IG xs d j=true/\∀m,m<j->IG xs d m=false:=by obtain⟨⟨y,y1,y2⟩,no⟩:=wO h;refine⟨(aj y1).1,by unfold IG;rw[y1];exact y2,fun m hm=>?_⟩;obtain⟨z,z1,z2⟩:=no m hm;unfold IG;rw[z1];exact z2
end
def aF(xs:List Dt)(d:Dt):Bool:=LB xs&&IA d&&decide (aC xs<=50)
def lR(K:Frag)(tup:Bool):V->List V->Hp->VK->Prop:=fun x vs H Q=>∃ρ xs d y a ws j,x=.ref a/\vs=[y]/\(if tup=true then HG K H a ws else Y0 K H a ws)/\YZ K H ρ xs ws/\n0 K H ρ d y/\aF xs d=true/\ND xs d=some j/\Q (.int (j:Nat)) H
section
variable{X:Cx}{a b:Expr}{fa fb:RE}
theorem mT (hu:X.A.units+64<cLine):HQ X "list.index" (lR X.K false):=by
 intro pins s σ H x vs v us Q I rx rv h;obtain⟨ρ,xs,d,y,p,ws,j,rfl,rfl,sq,rs,rd,ok,hj,q⟩:=h;rw[if_neg dj]at sq;cases rx;obtain⟨u,rfl,ru⟩:=cE rv;simp only[aF,Bool.and_eq_true,decide_eq_true_eq]at ok;obtain⟨its,g5,⟨⟨c1,d1,t1,Q7⟩,n,e0,k1,k2,k3⟩,z⟩:=I.list sq;simp only at k1 k2 k3;subst k1 k2 k3;obtain⟨e,e1,e2⟩:=sQ I X.A.in1 ok.1.1 ok.1.2 (by have:=mH X.A;omega) rs rd g5 ru;obtain⟨j1,j2,j3⟩:=tW hj;have hl:its.length=xs.length:=by rw[<- g5.length,rs.length]
 have hz:j<its.length:=by omega
 have hn:=RF;refine call_meets PySem.F.slot_list_index ⟨_,e0,rfl⟩ PySem.F.entry_list_index (PySem.F.args_list_index_2 _ _)
  (SeqAt.list_indexAt p its.toArray n none Q7 u e j (by rw[size_toArray];exact hz) (by have:=g5.length;omega) ?_ ?_) ⟨e0,fun y hy=>e2 y (by simpa using hy),⟨.int (j:Nat),H,I.tok _,⟨_,rfl⟩,q⟩⟩
 · have:=e1 j hz;rw[j2]at this;simpa using this
 · intro m hm h9;rw[size_toArray]at hm;have:=e1 m hm;rw[j3 m h9]at this;simpa using this
noncomputable def UB(K:Frag):Nat->Value->Option Dt
 | _,.none=>some .non
 | _,.bool b=>some (.bl b)
 | _,.int i _=>some (.int i)
 | _,.str x _=>some (.str x)
 | 0,_=>none
 | n+1,.ref a=>match K.lookup a with
  | some ⟨.type T,dd,.seq its _,_⟩=>if its.size<=sizeLine then
   if T = "tuple" then(its.toList.mapM (UB K n)).map .tup
   else if T = "list" then match dd with | none=>(its.toList.mapM (UB K n)).map .lst | some _=>none
   else none
   else none
  | _=>none
 | _,_=>none
noncomputable def nN:Value->V
 | .none=>.non
 | .bool b=>.bl b
 | .int i _=>.int i
 | .str x _=>.str x
 | .ref a=>.ref a
 | _=>.non
theorem TL{K:Frag}{H:Hp}{ρ:Rg}{f:Value->Option Dt}(h:∀u d,f u=some d->RelV (nN u) u/\n0 K H ρ d (nN u)):∀{us:List Value}{ds:List Dt},us.mapM f=some ds->Vals (us.map nN) us/\YZ K H ρ ds (us.map nN)
 | [],_,e=>by simp at e;subst e;exact⟨.nil,.nil⟩
 | u::us,ds,e=>by
  rw[mapM_cons]at e;cases q:f u with
  | none=>rw[q]at e;cases e
  | some d=>
   rw[q]at e;cases q2:us.mapM f with
   | none=>rw[q2]at e;cases e
   | some ds'=>rw[q2]at e;cases e;obtain⟨h1,h2⟩:=h u d q;obtain⟨h3,h4⟩:=TL h q2;exact⟨.cons h1 h3,.cons h2 h4⟩
theorem cO{K:Frag}{H:Hp}{ρ:Rg}:∀(n:Nat)(u:Value)(d:Dt),UB K n u=some d->RelV (nN u) u/\n0 K H ρ d (nN u):=by
 intro n
 induction n with
 | zero=>
  intro u d e;cases u with
  | none=>simp only[UB]at e;cases e;exact⟨rfl,B0.mpr rfl⟩
  | bool b=>simp only[UB]at e;cases e;exact⟨rfl,b0.mpr rfl⟩
  | int i t=>simp only[UB]at e;cases e;exact⟨⟨_,rfl⟩,ZZ.mpr rfl⟩
  | str x t=>simp only[UB]at e;cases e;exact⟨⟨_,rfl⟩,o0.mpr rfl⟩
  | _=>simp only[UB]at e<;>cases e
 | succ n ih=>
  intro u d e;cases u with
  | none=>simp only[UB]at e;cases e;exact⟨rfl,B0.mpr rfl⟩
  | bool b=>simp only[UB]at e;cases e;exact⟨rfl,b0.mpr rfl⟩
  | int i t=>simp only[UB]at e;cases e;exact⟨⟨_,rfl⟩,ZZ.mpr rfl⟩
  | str x t=>simp only[UB]at e;cases e;exact⟨⟨_,rfl⟩,o0.mpr rfl⟩
  | ref a=>
   simp only[UB]at e;split at e
   · rename_i T dd its m sl q;by_cases hz:its.size<=sizeLine
     · rw[if_pos hz]at e;by_cases hT:T = "tuple"
       · rw[if_pos hT]at e;cases q2:its.toList.mapM (UB K n)with
         | none=>rw[q2]at e;cases e
         | some ds=>rw[q2]at e;cases e;obtain⟨h1,h2⟩:=TL (K:=K) (H:=H) (ρ:=ρ) ih q2;subst hT;exact⟨rfl,A0.mpr ⟨a,_,rfl,.inr ⟨_,its,m,q,rfl,rfl,hz,h1⟩,h2⟩⟩
       · rw[if_neg hT]at e;by_cases hT2:T = "list"
         · rw[if_pos hT2]at e;split at e
           · cases q2:its.toList.mapM (UB K n)with
             | none=>rw[q2]at e;cases e
             | some ds=>rw[q2]at e;cases e;obtain⟨h1,h2⟩:=TL (K:=K) (H:=H) (ρ:=ρ) ih q2;subst hT2;exact⟨rfl,u0.mpr ⟨a,_,rfl,.inr ⟨_,its,m,q,rfl,rfl,rfl,hz,h1⟩,h2⟩⟩
           · cases e
         · rw[if_neg hT2]at e;cases e
     · rw[if_neg hz]at e;cases e
   · cases e
  | _=>simp only[UB]at e<;>cases e
structure AE(K:Frag)(mg:Str->Option Value)(x:Str)(d:Dt):Prop where
 ex:∃u n,mg x=some u/\UB K n u=some d
theorem oE {x:Str} {d:Dt} {pos:Pos} (hg:Gl X x) (c:AE X.K X.mg x d) (hd:(x==("__debug__" :Str))=false:=by decide):EM X (.Name x pos) (eC d):=by with_unfolding_all obtain⟨u,n,h1,h2⟩:=c.ex;exact cV hg h1 (cO (H:=fun _=>none) (ρ:=.nil) n u d h2).1 (fun H ρ=>(cO n u d h2).2) hd
end
theorem IX{K:Frag}{F:HB}{n:Nat}(h:∀ns:List Int,ns.length<=n->∃h',F [.lst (ns.map Dt.int)] []=some (.bl true,h'))(H:Hp)(a:Addr)(ns:List Int)(hl:ns.length<=n)(hS:Y0 K H a (ns.map V.int)) :
 VH K 1 F [.ref a] H (fun v _=>v=.bl true) fun _ _ _=>False:=by
 obtain⟨h',e⟩:=h ns hl;have R:n0 K H .nil (.lst (ns.map Dt.int)) (.ref a):=u0.mpr ⟨a,_,rfl,by
  rcases hS with hS | hS
  · exact .inl ⟨⟨by simp[Rg.nil],by simp[Rg.nil]⟩,hS⟩
  · exact .inr hS,YZ.ints ns⟩
 exact⟨.nil,[.lst (ns.map Dt.int)],[],.bl true,h',v0.nil,.cons R .nil,rfl,e,fun ρ' v H' R' S' E'=>b0.mp R'⟩
structure jC(P:Program)(w:World)(K:Frag)(mg:Str->Option Value)(base:Heap)(k n:Nat)(x:Str)(F:HB):Prop where
 ex:∃f fd ps,Z0 P w K mg base wF k f fd ps (VH K n F)/\mg x=some (.ref f)/\keepIn K (.ref f)=true/\Binds K fd ps []
 len:∀ds h r,F ds h=some r->ds.length=n
structure jB(K:Frag)(mg:Str->Option Value)(x:Str)(st:Stmt)(ps:List Str):Prop where
 ex:∃f fd,Z3 K x x st f fd/\mg x=some (.ref f)/\Binds K fd ps []
section
variable{P:Program}{w:World}{K:Frag}{mg:Str->Option Value}{base:Heap}
theorem yX{x qual:Str}{st:Stmt}{f:Addr}{fd:FuncData}{N ps:List Str}{k n m:Nat}{body:RS}(F:Z3 K x qual st f fd)(S:ZA N ps (AA st))(hn:ps.length=n)(hm:N.length=m)
 (hb:∀(cdv:Value)(A:Around)(outer:List Env)(s:Shared)(H:Hp)(E:XK),M0 k (A.deeper (envOfC qual (AA st) s.heap.objs.size f cdv))->
  PH (BE wF P w K mg base N qual (AA st) f cdv A outer s H E).W4 (nE st) body):Z0 P w K mg base wF (k+1) f fd ps (VH K n (fC n m body)):=by
 with_unfolding_all subst hn hm;exact pQ F S hb
theorem uB{x:Str}{st:Stmt}{N ps:List Str}{k n m:Nat}{body:RS}(D:jB K mg x st ps)(S:ZA N ps (AA st))(hn:ps.length=n)(hm:N.length=m)
 (hb:∀(f:Addr)(cdv:Value)(A:Around)(outer:List Env)(s:Shared)(H:Hp)(E:XK),M0 k (A.deeper (envOfC x (AA st) s.heap.objs.size f cdv))->
  PH (BE wF P w K mg base N x (AA st) f cdv A outer s H E).W4 (nE st) body):jC P w K mg base (k+1) n x (fC n m body):=by
 with_unfolding_all subst hn hm;obtain⟨f,fd,hF,hm,hB⟩:=D.ex;exact⟨⟨f,fd,ps,pQ hF S fun cdv A outer s H E hr=>hb f cdv A outer s H E hr,hm,hF.kp,hB⟩,fun ds h r e=>rW e⟩
end
section
variable{X:Cx}{k k' n:Nat}{F:HB}{x:Str}{p pos:Pos}{e:Expr}{es:List Expr}{g:RA}
theorem pJ (c:jC X.prog X.w X.K X.mg X.base k n x F) (hr:M0 k' X.A) (hk:k<=k') (hg:Gl X x) (ha:AM X (e::es) g) (hdb:(x==("__debug__" :Str))=false:=by decide)
 (he:AB e=true:=by rfl) (hpl:es.all AB=true:=by rfl) :
 EM X (.Call (.Name x p) (e::es) [] pos) (zA F [] g):=by
 with_unfolding_all obtain⟨f,fd,ps,h1,h2,h3,h4⟩:=c.ex;exact AU h1 (hr.mono hk) hg h2 h3 h4 .nil (fun _ _=>.nil) ha (fun F' e ds h r q=>c.len ds h r (e ▸ q)) hdb he hpl
theorem zU (c:jC X.prog X.w X.K X.mg X.base k n x F) (hr:M0 k' X.A) (hk:k<=k') (hg:Gl X x) (hdb:(x==("__debug__" :Str))=false:=by decide) :
 EM X (.Call (.Name x p) [] [] pos) (zJ F []):=by
 with_unfolding_all obtain⟨f,fd,ps,h1,h2,h3,h4⟩:=c.ex;exact uT h1 (hr.mono hk) hg h2 h3 h4 .nil (fun _ _=>.nil) (fun F' e ds h r q=>c.len ds h r (e ▸ q)) hdb
end
theorem jU{l:PySem.W.OpenLaw}{q:Program}{loose:List Str}{XP:(Str->Option Value)->Heap->Prop}{YP:World->Heap->Prop}{d:DefRec}{K:Params->Frag}{F:HB}{k:Nat}{x:Str}(hn:l.most=some 63)(hdf:d.params.defaults=[])(hr:M0 k callerA)
 (hY:∀(w:World)(h:Heap),YP w h->(K w.params).In h)
 (hF:∀(w:World)(mg:Str->Option Value)(fa:Addr)(h:Heap),(K w.params).In h->h.Ns mainGlobals mg->mg d.name=some (.ref fa)->
  ∃fd:FuncData,(∀(s:Shared)(u:Value),BindsTo s fd ⟨[u],[]⟩ [(x,u)])/\∀base:Heap,(K w.params).In base->base.Ns mainGlobals mg->Z0 l.prog w (K w.params) mg base wF k fa fd [x] (VH (K w.params) 1 F))
 (h:∀ns:List Int,ns.length<=63->∃h',F [.lst (ns.map Dt.int)] []=some (.bl true,h')):PySem.W.WalkO q loose XP YP l.row.toRowW d [] (fun f vs=>PySem.call f vs):=
 L2.jW (n:=63) (k:=k) (x:=x) (CX:=fun _=>wF) (sp:=fun w=>VH (K w.params) 1 F) hn (by decide) hdf hr hY hF (fun w H a ns hl _ hS=>IX h H a ns hl hS) fun _ _ _ _ _ z=>z
end SM
namespace L2
section
variable{X:Cx}
theorem VP:∀{bs:List Bool}{us:List Value},Vals (bs.map V.bl) us->∀(i:Nat)(v:Value),us[i]?=some v->v=.bool (bs.getD i false)
 | [],us,r,i,v,e=>by cases r;simp at e
 | b::bs,us,r,i,v,e=>by
  cases r with
  | cons r rr=>
   cases i with
   | zero=>simp at e;subst e;exact r
   | succ i=>simpa using VP rr i v (by simpa using e)
theorem sU(bs:List Bool):(List.range bs.length).all (fun i=>bs.getD i false)=bs.all id:=by
 induction bs with
 | nil=>rfl
 | cons b bs ih=>
  rw[Q9,range_succ_eq_map,all_cons,all_map,all_cons];have:((fun i=>(b::bs).getD i false) ∘ Nat.succ)=fun i=>bs.getD i false:=by
   funext i
   simp
  rw[this,ih];simp
theorem aU (hc:X.calm=true):J0 X (.builtin "all") (fun xs H Q=>∃(p:Addr) (bs:List Bool),xs=[.ref p]/\Y0 X.K H p (bs.map V.bl)/\Q (.bl (bs.all id)) H):=by
 intro pins s σ H xs us Q I r h;obtain⟨p,bs,rfl,hq,q⟩:=h;obtain⟨u,rfl,rx⟩:=cE r;cases rx;obtain⟨its,r',pl,hz⟩:=I.list hq;have hlt:p<s.heap.objs.size:=by obtain⟨_,e,_⟩:=pl.isList;exact Heap.lt_size e
 refine call_all_walk (wpAny_pyIter_list pl.isList ?_);refine⟨_,_,_,_,_,_,fun i=>bs.getD i false,rfl,Walks.list (A:=X.A.in1) (I.ok.hd hc) s.heap.objs.size p (Nat.ne_of_lt hlt) its.toArray,⟨⟨_,Heap.get?_push_size _ rfl,rfl,rfl⟩,pl.isList.push _⟩,?_,fun h' tk k=>?_⟩
 · intro i v s2 Q2 E2 hv hQ;have e:=VP r' i v (by simpa using hv);subst e;exact wpAny_truthy_bool hQ
 · have hl:=r'.length;have e:(List.range its.toArray.size).all (fun i=>bs.getD i false)=bs.all id:=by rw[show its.toArray.size=bs.length by simp at hl ⊢;omega,sU]
   rw[e];exact⟨.bl (bs.all id),H,I.kept (old_kept k),rfl,q⟩
end
end L2
namespace SM
noncomputable def rE:List Dt->Option (List Bool)
 | []=>some []
 | .bl b::ds=>(rE ds).map fun bs=>b::bs
 | _::_=>none
theorem ZN:∀{ds:List Dt}{bs:List Bool},rE ds=some bs->ds=bs.map Dt.bl
 | [],bs,e=>by simp only[rE]at e;cases e;rfl
 | d::ds,bs,e=>by
  cases d with
  | bl b=>
   simp only[rE]at e;cases q:rE ds with
   | none=>rw[q]at e;cases e
   | some cs=>rw[q]at e;cases e;rw[ZN q];rfl
  | _=>simp only[rE]at e<;>cases e
theorem YZ.D4{K:Frag}{H:Hp}{ρ:Rg}:∀{bs:List Bool}{vs:List V},YZ K H ρ (bs.map Dt.bl) vs->vs=bs.map V.bl
 | [],_,h=>h.S0
 | n::ns,_,h=>by obtain⟨v,r,rfl,h1,h2⟩:=YZ.C0 h;simp only[n0]at h1;rw[h1,YZ.D4 h2];rfl
def XH:Dt->HI->Option (Dt×HI):=fun d h=>(jA h d).bind fun xs=>(rE xs).map fun bs=>(.bl (bs.all id),h)
section
variable{X:Cx}{e:Expr}{f:RE}{p pos:Pos}
theorem LV (hc:X.calm=true) (hg:Gl X "all") (hm:X.mg "all" =none) (ha:EM X e f) (hs:AB e=true:=by rfl):EM X (.Call (.Name "all" p) [e] [] pos) (kC XH f):=by
 with_unfolding_all
  exact YM (aU hc) (fun ρ h d v d' h' H Q S R e k=>by
   obtain⟨xs,e1,e⟩:=eA e;cases q:rE xs with
   | none=>rw[q]at e;cases e
   | some ns=>
    rw[q]at e;cases e;obtain⟨a,vs,z,sq,r⟩:=ZD S R e1;rw[ZN q]at r;rw[r.D4]at sq;exact⟨a,ns,by rw[z],sq,k ρ _ H (b0.mpr rfl) S (Ext.refl _ _)⟩) hg hm PyProof.Rows.boot_all ha (hs:=hs)
end
noncomputable def mC:Nat->List Dt->List Dt
 | _,[]=>[]
 | k,x::xs=>.tup [.int (k:Int),x]::mC (k+1) xs
noncomputable def vE(i j:Nat):RG:=fun d l=>match d with
 | .tup [a,b]=>some ((l.set i (some a)).set j (some b))
 | _=>none
end SM
namespace L2
section
variable{X:Cx}{pins:List (Addr×Obj)}{σ:List (Option V)}{H:Hp}{s:Shared}{h':Heap}
theorem Inv.K4{t':Nat}{e it p:Addr}{xs:List V}(I:Inv X pins σ H s)(k:∀b o,b≠e->b≠it->s.heap.get? b=some o->h'.get? b=some o)(fe:zD X pins H e)(fi:zD X pins H it)(hp:s.heap.objs.size<=p)
 (new:U0 X.prog X.w (FB H p (.tup xs)) h' p (.tup xs)):Inv X pins σ (FB H p (.tup xs)) { s with heap:=h',toks:=t' }:=by
 obtain⟨e0,e1,e2,e3,e4,e5⟩:=fe;obtain⟨i0,i1,i2,i3,i4,i5⟩:=fi;have hn:H p=none:=I.hok.fresh hp;have ne:∀b u,H b=some u->b≠e:=fun b u q z=>by rw[z,e0]at q;cases q
 have ni:∀b u,H b=some u->b≠it:=fun b u q z=>by rw[z,i0]at q;cases q
 have nc:∀{b},b ∉ [e,it]->b≠e/\b≠it:=fun hc=>⟨fun z=>hc (by simp[z]),fun z=>hc (by simp[z])⟩
 refine I.step (g':=s.gens) (d':=s.drawn) (ch:=[e,it]) (fun b hb=>?_) (fun b o _ _ hc q _=>k b o (nc hc).1 (nc hc).2 q) (fun b o _ _ hc q _=>⟨o.slots,k b o (nc hc).1 (nc hc).2 q⟩)
  (fun b o _ q n=>by rw[HA (Nat.ne_of_lt (Nat.lt_of_lt_of_le (Heap.lt_size q) hp))];exact n)
  (fun b o hc q=>⟨o,k b o (nc hc).1 (nc hc).2 q⟩) (fun b ys q=>by rw[HA (rC q hn)];exact q) (fun b o u q=>by rw[HA (rC q hn)];exact q)
  (fun b ps q=>⟨#[],by rw[HA (rC q hn),q];simp⟩) (fun m hm=>?_) (fun b u q=>?_) I.bare
 · have z:b=e\/b=it:=by simpa using hb
   rcases z with rfl | rfl
   · exact⟨e3,e1,e4,e5⟩
   · exact⟨i3,i1,i4,i5⟩
 · obtain⟨o,es,ep,ho,r⟩:=hm;exact⟨o,es,ep,k _ o (Ne.symm e1) (Ne.symm i1) ho,r⟩
 · by_cases hb:b=p
   · subst hb;rw[bD]at q;cases q;exact new
   · rw[HA hb]at q;refine(I.hok b u q).stay (fun c v hc q'=>?_) (fun c q=>by rw[HA (rC q hn)];exact q) fun c ys q=>by rw[HA (rC q hn)];exact q
     rcases hc with z | z
     · subst z;exact k c v (ne c u q) (ni c u q) q'
     · exact k c v (ne c _ z) (ni c _ z) q'
theorem Inv.v4{t':Nat}{e it:Addr}(I:Inv X pins σ H s)(k:∀b o,b≠e->b≠it->s.heap.get? b=some o->h'.get? b=some o)(fe:zD X pins H e)(fi:zD X pins H it):Inv X pins σ H { s with heap:=h',toks:=t' }:=by
 obtain⟨e0,e1,e2,e3,e4,e5⟩:=fe;obtain⟨i0,i1,i2,i3,i4,i5⟩:=fi;have ne:∀b u,H b=some u->b≠e:=fun b u q z=>by rw[z,e0]at q;cases q
 have ni:∀b u,H b=some u->b≠it:=fun b u q z=>by rw[z,i0]at q;cases q
 have nc:∀{b},b ∉ [e,it]->b≠e/\b≠it:=fun hc=>⟨fun z=>hc (by simp[z]),fun z=>hc (by simp[z])⟩
 refine I.step (g':=s.gens) (d':=s.drawn) (ch:=[e,it]) (fun b hb=>?_) (fun b o _ _ hc q _=>k b o (nc hc).1 (nc hc).2 q) (fun b o _ _ hc q _=>⟨o.slots,k b o (nc hc).1 (nc hc).2 q⟩)
  (fun b o _ q n=>n) (fun b o hc q=>⟨o,k b o (nc hc).1 (nc hc).2 q⟩) (fun b ys q=>q) (fun b o u q=>q)
  (fun b ps q=>⟨#[],by rw[q];simp⟩) (fun m hm=>?_) (fun b u q=>?_) I.bare
 · have z:b=e\/b=it:=by simpa using hb
   rcases z with rfl | rfl
   · exact⟨e3,e1,e4,e5⟩
   · exact⟨i3,i1,i4,i5⟩
 · obtain⟨o,es,ep,ho,r⟩:=hm;exact⟨o,es,ep,k _ o (Ne.symm e1) (Ne.symm i1) ho,r⟩
 · refine(I.hok b u q).stay (fun c v hc q'=>?_) (fun c q=>q) fun c ys q=>q
   rcases hc with z | z
   · subst z;exact k c v (ne c u q) (ni c u q) q'
   · exact k c v (ne c _ z) (ni c _ z) q'
end
section
variable{X:Cx}
end
end L2
namespace SM
theorem sO:∀(xs:List Dt)(k i:Nat),(mC k xs)[i]?=(xs[i]?).map fun x=>.tup [.int ((k+i:Nat):Int),x]
 | [],_,_=>by simp[mC]
 | x::xs,k,0=>by simp[mC]
 | x::xs,k,i+1=>by
  simp only[mC,P9];rw[sO xs (k+1) i];have:k+1+i=k+(i+1):=by omega
  rw[this]
section
variable{X:Cx}
theorem QP(i j:Nat){x y:Str}{px py pos:Pos}{x1}(hc:X.calm=true)(hN:X.N.Nodup)(hi:X.N[i]?=some x:=by rfl)(hj:X.N[j]?=some y:=by rfl)
 (hx:LJ X.env.scope x:=by first | exact Or.inl rfl | exact Or.inr rfl) (hy:LJ X.env.scope y:=by first | exact Or.inl rfl | exact Or.inr rfl)
 (hf:X.fn x=true\/X.env.scope.names.lookup x=some .local:=by first | exact .inl rfl | exact .inr rfl | assumption)
 (hf':X.fn y=true\/X.env.scope.names.lookup y=some .local:=by first | exact .inl rfl | exact .inr rfl | assumption):GM X (.Tuple [.Name x px,.Name y py] x1 pos) (vE i j):=by
 with_unfolding_all
  refine PG.imp (nX (n:=2) hc (BO (pM hN hi hx hf) (BO (pM hN hj hy hf') NW))) fun v σ H Q zz=>?_
  obtain⟨ρ,l,h,d,l',S,L,R,e,k⟩:=zz;unfold vE at e;split at e
  · cases e;obtain⟨a,vs,rfl,q,r⟩:=A0.mp R;obtain⟨v1,r1,rfl,R1,r⟩:=r.C0;obtain⟨v2,r2,rfl,R2,r⟩:=r.C0;cases r.S0;exact⟨a,[v1,v2],rfl,q.sq,rfl,v1,[v2],rfl,v2,[],rfl,rfl,k _ ((L.set i R1).set j R2)⟩
  · cases e
end
def ZE(fe fo fi:RE):RS:=fun l h=>(fe l h).bind fun v=>(fo l v.2).bind fun o=>(fi l o.2).bind fun i=>match o.1,i.1 with
 | .ref n,.int k=>match i.2[n]? with
  | some (.lst xs)=>(VF xs.length k).bind fun j=>some (.nx l (i.2.set n (.lst (xs.set j v.1))))
  | _=>none
 | _,_=>none
noncomputable def bK(g:RG)(fe:RE):RS:=fun l h=>(fe l h).bind fun v=>(g v.1 l).bind fun l'=>some (.nx l' v.2)
noncomputable def wC(f:Dt->Option Dt):List Dt->Option (List Dt)
 | []=>some []
 | x::xs=>(f x).bind fun y=>(wC f xs).map fun ys=>y::ys
def DA(h:HI):Nat->Dt->Option Dt
 | 0,_=>none
 | n+1,.tup xs=>(wC (DA h n) xs).map .tup
 | n+1,.lst xs=>(wC (DA h n) xs).map .lst
 | n+1,.ref k=>match h[k]? with | some (.lst xs)=>(wC (DA h n) xs).map .lst | _=>none
 | _+1,.U1 _=>none
 | _+1,d=>some d
def YC:bC:=fun a b h=>(DA h 8 a).bind fun a'=>(DA h 8 b).bind fun b'=>(VA a' b' []).map fun r=>(r.1,h)
def PD:bC:=fun a b h=>(DA h 8 a).bind fun a'=>(DA h 8 b).bind fun b'=>(OB a' b' []).map fun r=>(r.1,h)
noncomputable def oJ(fo fa:RE):RE:=fun l h=>(fo l h).bind fun r=>match r.1 with
 | .ref n=>match r.2[n]? with
  | some (.lst _)=>(fa l r.2).bind fun q=>match q.1 with
   | .ref m=>match q.2[n]?,q.2[m]? with
    | some (.lst xs),some (.lst ys)=>if xs.length+ys.length<=sizeLine then some (.non,q.2.set n (.lst (xs++ys)))else none
    | _,_=>none
   | _=>none
  | _=>none
 | _=>none
noncomputable def YQ(F:Dt->Dt->Option Dt)(fa fb:RE):RE:=fun l h=>(fa l h).bind fun r=>(fb l r.2).bind fun q=>(F r.1 q.1).map fun d=>(d,q.2)
noncomputable def FZ:Dt->Dt->Option Dt:=fun a b=>match a,b with | .int i,.int j=>some (.int (if j>i then j else i)) | _,_=>none
noncomputable def EJ:Dt->Dt->Option Dt:=fun a b=>match a,b with | .int i,.int j=>some (.int (if j<i then j else i)) | _,_=>none
end SM
namespace L2
section
variable{X:Cx}
end
section
variable{X:Cx}{pins:List (Addr×Obj)}{σ:List (Option V)}{H:Hp}{s:Shared}{h':Heap}
end
section
variable{X:Cx}
end
end L2
namespace SM
section
variable{X:Cx}{e o i a b:Expr}{f g fe fo fi fa fb:RE}{p pos pos':Pos}
theorem XI(he:EM X e fe)(ho:EM X o fo)(hi:EM X i fi)
 (hs:swapsWithSole [.Subscript o i pos'] e pos.line X.env=pure false:=by rfl) (hw:swappedStores [.Subscript o i pos'] e X.env=pure none:=by rfl) (h1:(assignEach [.Subscript o i pos'] X.env).map (·.2)=[assign (.Subscript o i pos') X.env]:=by rfl)
 (ha:∀v,assign (.Subscript o i pos') X.env v=(do
  let ov <- holding [v] (eval o X.env)
  let iv <- holding [v,ov] (eval i X.env)
  standAt pos'
  holding [v,ov,iv] (setItem ov iv v)
  release [v,ov,iv] []):=by intro _;rfl):ZM X (.Assign [.Subscript o i pos'] e pos) (ZE fe fo fi):=by
 with_unfolding_all
  exact PS.imp (jQ he (mX ho hi CV ha) hs hw h1) fun D σ H zz=>by
   obtain⟨ρ,l,h,r,S,L,e,k⟩:=zz;obtain⟨⟨v,hv⟩,e1,e⟩:=eA e;obtain⟨⟨d,hd⟩,e2,e⟩:=eA e;obtain⟨⟨j,hj⟩,e3,e⟩:=eA e;refine⟨ρ,l,h,v,hv,S,L,e1,fun ρ1 u H1 R1 S1 E1=>⟨ρ1,l,hv,d,hd,S1,L.ext E1,e2,fun ρ2 y H2 R2 S2 E2=>⟨ρ2,l,hd,j,hj,S2,L.ext (E1.trans E2),e3,fun ρ3 z H3 R3 S3 E3=>?_⟩⟩⟩;cases d with
   | ref n=>
    cases j with
    | int kk=>
     dsimp only at e;split at e
     · rename_i xs q;obtain⟨jj,e4,e⟩:=eA e;cases e;obtain⟨aa,zz,ha⟩:=F0.mp (n0.ext E3 _ R2);obtain⟨vs,g1,g2⟩:=S3.lst ha q;have hm:=mem_of_getElem? ha;refine⟨aa,vs,kk,jj,zz,ZZ.mp R3,g1,by rw[g2.length];exact e4,?_⟩;exact k ρ3 σ _ (S3.write ha (cG g1) ⟨_,bD,(g2.set jj (n0.ext (E2.trans E3) _ R1)).ext (Ext.write hm (cG g1))⟩) (L.ext (E1.trans (E2.trans (E3.trans (Ext.write hm (cG g1)))))) (E1.trans (E2.trans (E3.trans (Ext.write hm (cG g1)))))
     · cases e
    | _=>cases e
   | _=>cases e
theorem lW{tg:Expr}{t:RG}(he:EM X e fe)(hg:GM X tg t)(hs:swapsWithSole [tg] e pos.line X.env=pure false:=by rfl)(hw:swappedStores [tg] e X.env=pure none:=by rfl)
 (h1:(assignEach [tg] X.env).map (·.2)=[assign tg X.env]:=by rfl):ZM X (.Assign [tg] e pos) (bK t fe):=by
 with_unfolding_all exact PS.imp (jQ he hg hs hw h1) fun D σ H zz=>by obtain⟨ρ,l,h,r,S,L,e,k⟩:=zz;obtain⟨⟨v,hv⟩,e1,e⟩:=eA e;obtain⟨l',e2,e⟩:=eA e;cases e;exact⟨ρ,l,h,v,hv,S,L,e1,fun ρ1 u H1 R1 S1 E1=>⟨ρ1,l,hv,v,l',S1,L.ext E1,R1,e2,fun σ' L'=>k ρ1 σ' H1 S1 L' E1⟩⟩
end
section
variable{K:Frag}{H:Hp}{ρ:Rg}{h:HI}
theorem v0.bare(S:v0 K ρ h H):v0 K ⟨[],ρ.z⟩ [] H:=⟨nodup_nil,rfl,fun _ _ _ e=>by simp at e,fun a ha=>⟨by simp,(S.zt a ha).2⟩⟩
theorem ZI{f:Dt->Option Dt}(hf:∀d d' v,f d=some d'->n0 K H ρ d v->n0 K H ⟨[],ρ.z⟩ d' v):∀(xs:List Dt){ys:List Dt}{vs:List V},wC f xs=some ys->YZ K H ρ xs vs->YZ K H ⟨[],ρ.z⟩ ys vs
 | [],ys,vs,e,r=>by cases e;rw[r.S0];exact .nil
 | x::xs,ys,vs,e,r=>by
  obtain⟨v,rr,rfl,r1,r2⟩:=r.C0;obtain⟨y,e1,e⟩:=eA (show(f x).bind _=some ys from e);cases q:wC f xs with
  | none=>rw[q]at e;cases e
  | some zs=>rw[q]at e;cases e;exact .cons (hf _ _ _ e1 r1) (ZI hf xs q r2)
theorem TupAt.bare{a:Addr}{vs:List V}(t:TupAt K H ρ a vs):TupAt K H ⟨[],ρ.z⟩ a vs:=by
 rcases t with⟨n,t⟩ | t
 · exact .inl ⟨⟨by simp,n.2⟩,t⟩
 · exact .inr t
theorem LstAt.bare{a:Addr}{vs:List V}(t:LstAt K H ρ a vs):LstAt K H ⟨[],ρ.z⟩ a vs:=by
 rcases t with⟨n,t⟩ | t
 · exact .inl ⟨⟨by simp,n.2⟩,t⟩
 · exact .inr t
theorem xH(S:v0 K ρ h H):∀(n:Nat)(d d':Dt)(v:V),DA h n d=some d'->n0 K H ρ d v->n0 K H ⟨[],ρ.z⟩ d' v
 | 0,_,_,_,e,_=>by simp[DA]at e
 | n+1,.non,_,_,e,r=>by simp only[DA]at e;cases e;simp only[n0]at r ⊢;exact r
 | n+1,.bl _,_,_,e,r=>by simp only[DA]at e;cases e;simp only[n0]at r ⊢;exact r
 | n+1,.int _,_,_,e,r=>by simp only[DA]at e;cases e;simp only[n0]at r ⊢;exact r
 | n+1,.str _,_,_,e,r=>by simp only[DA]at e;cases e;simp only[n0]at r ⊢;exact r
 | n+1,.tup xs,_,_,e,r=>by
  simp only[DA]at e;cases q:wC (DA h n) xs with
  | none=>rw[q]at e;cases e
  | some ys=>rw[q]at e;cases e;obtain⟨a,vs,z,t,rr⟩:=A0.mp r;exact A0.mpr ⟨a,vs,z,t.bare,ZI (fun d d' v=>xH S n d d' v) xs q rr⟩
 | n+1,.lst xs,_,_,e,r=>by
  simp only[DA]at e;cases q:wC (DA h n) xs with
  | none=>rw[q]at e;cases e
  | some ys=>rw[q]at e;cases e;obtain⟨a,vs,z,t,rr⟩:=u0.mp r;exact u0.mpr ⟨a,vs,z,t.bare,ZI (fun d d' v=>xH S n d d' v) xs q rr⟩
 | n+1,.U1 m,_,_,e,r=>by simp only[DA]at e;cases e
 | n+1,.ref m,_,_,e,r=>by
  simp only[DA]at e;split at e
  · rename_i xs q0;cases q:wC (DA h n) xs with
    | none=>rw[q]at e;cases e
    | some ys=>rw[q]at e;cases e;obtain⟨a,z,ha⟩:=F0.mp r;obtain⟨vs,g1,g2⟩:=S.lst ha q0;refine u0.mpr ⟨a,vs,z,.inl ⟨⟨by simp,fun hz=>(S.zt a hz).1 (mem_of_getElem? ha)⟩,.inl g1⟩,ZI (fun d d' v=>xH S n d d' v) xs q g2⟩
  · cases e
theorem v0.grown{H':Hp}(S:v0 K ρ h H)(g:∀a o,H a=some o->H' a=some o):v0 K ρ h H':=by
 have sm:L0 ρ ρ H H':=⟨fun _ _ _ n=>n,fun a u e _=>g a u e,fun _ _ e=>e,fun a q u e=>g a _ e⟩;refine⟨S.nd,S.len,fun n a o e1 e2=>?_,fun a ha=>?_⟩
 · have q:=S.ob n a o e1 e2;obtain⟨u,hu⟩:=q.some;exact T1.same sm ((g a u hu).trans hu.symm) q
 · obtain⟨n,o,e⟩:=S.zt a ha;exact⟨n,o,g a _ e⟩
end
section
variable{X:Cx}
theorem bQ{f:Value->Value->Sem Value}{op:bC}(hb:∀a b h d h',op a b h=some (d,h')->∃k,d=.bl k)(ho:OM X f op):OM X f (fun a b h=>(DA h 8 a).bind fun a'=>(DA h 8 b).bind fun b'=>(op a' b' []).map fun r=>(r.1,h)):=by
 with_unfolding_all
  exact Q0.imp ho fun x y H Q zz=>by
   obtain⟨ρ,h,d1,d2,d,h',S,R1,R2,e,k⟩:=zz;obtain⟨a',e1,e⟩:=eA e;obtain⟨b',e2,e⟩:=eA e;cases q:op a' b' []with
   | none=>rw[q]at e;cases e
   | some r=>
    obtain⟨r,hr⟩:=r;rw[q]at e;cases e;refine⟨⟨[],ρ.z⟩,[],a',b',r,hr,S.bare,xH S _ _ _ _ e1 R1,xH S _ _ _ _ e2 R2,q,fun ρ' v H' R' S' E'=>?_⟩;obtain⟨kk,rfl⟩:=hb _ _ _ _ _ q;have g:∀a o,H a=some o->H' a=some o:=fun a o ha=>E'.keep a o ha (by simp)
    exact k ρ v H' (b0.mpr (b0.mp R')) (S.grown g) ⟨⟨[],by simp,by simp⟩,rfl,fun a o ha _=>g a o ha,E'.live,fun a q u e=>g a _ e⟩
theorem PV(a b:Dt)(h:HI)(d:Dt)(h':HI)(e:VA a b h=some (d,h')):∃k,d=.bl k:=by
 unfold VA at e;split at e
 · obtain⟨_,e⟩:=qD e;cases e;exact⟨_,rfl⟩
 · obtain⟨_,e⟩:=qD e;cases e;exact⟨_,rfl⟩
 · unfold uN at e;split at e
   · obtain⟨_,e⟩:=qD e;cases e;exact⟨_,rfl⟩
   · cases e
theorem MX(a b:Dt)(h:HI)(d:Dt)(h':HI)(e:OB a b h=some (d,h')):∃k,d=.bl k:=by
 unfold OB at e;split at e
 · obtain⟨_,e⟩:=qD e;cases e;exact⟨_,rfl⟩
 · obtain⟨_,e⟩:=qD e;cases e;exact⟨_,rfl⟩
 · unfold vN at e;split at e
   · obtain⟨_,e⟩:=qD e;cases e;exact⟨_,rfl⟩
   · cases e
theorem sJ(hu:X.A.units+64<cLine):OM X (compareOp .Eq) YC:=bQ PV (RB hu)
theorem VM(hu:X.A.units+64<cLine):OM X (compareOp .NotEq) PD:=bQ MX (wD hu)
end
section
variable{X:Cx}{e o i a b:Expr}{f g fe fo fi fa fb:RE}{p pos pos' apos cpos:Pos}
theorem xT (ho:EM X a fa) (hb:EM X b fb) (hbase:attributeBase a "extend" X.env (eval a X.env)=eval a X.env:=by rfl)
 (hline:(apos.endLine==cpos.line)=true:=by rfl) (hs:AB b=true:=by rfl) :
 EM X (.Call (.Attribute a "extend" apos) [b] [] cpos) (oJ fa fb):=by
 with_unfolding_all
  exact PE.imp (MH PySem.F.plainAttrs_list PySem.F.slot_list_extend PySem.F.type_list_extend lT ho (LC hb xD (vB hs _ _)) hbase (yH hs) hline (vB hs _ _)) fun σ H Q zz=>by
   obtain⟨ρ,l,h,d,h',S,L,e,k⟩:=zz;obtain⟨⟨d1,h1⟩,e1,e⟩:=eA e;refine⟨ρ,l,h,d1,h1,S,L,e1,fun ρ1 v H1 R1 S1 E1=>?_⟩;cases d1 with
   | ref n=>
    dsimp only at e;split at e
    · rename_i xs0 q0;obtain⟨⟨d2,h2⟩,e2,e⟩:=eA e;refine⟨RP S1 R1 q0,ρ1,l,h1,d2,h2,S1,L.ext E1,e2,fun ρ2 y H2 R2 S2 E2=>?_⟩;dsimp only at e;cases d2 with
      | ref m=>
       dsimp only at e;split at e
       · rename_i xs ys q1 q2;obtain⟨hz,e⟩:=qD e;cases e;obtain⟨a,z,ha⟩:=F0.mp R1;subst z;obtain⟨a2,z2,ha2'⟩:=F0.mp R2;subst z2;have ha2:=E2.get ha;obtain⟨vs,g1,g2⟩:=S2.lst ha2 q1;obtain⟨ws,g3,g4⟩:=S2.lst ha2' q2;have hm:=mem_of_getElem? ha2;refine⟨a,a2,vs,ws,rfl,rfl,g1,g3,by rw[g2.length,g4.length];exact hz,k ρ2 _ _ (B0.mpr rfl) (S2.write ha2 (cG g1) ⟨_,bD,?_⟩) (E1.trans (E2.trans (Ext.write hm (cG g1))))⟩;exact(g2.append g4).ext (Ext.write hm (cG g1))
       · cases e
      | _=>cases e
    · cases e
   | _=>cases e
theorem hV (hc:X.calm=true) (hg:Gl X "min") (hm:X.mg "min" =none) (ha:EM X a fa) (hb:EM X b fb) (hs:AB a=true:=by rfl) (hs2:AB b=true:=by rfl):EM X (.Call (.Name "min" p) [a,b] [] pos) (YQ EJ fa fb):=by
 with_unfolding_all
  exact PE.imp (wM (cU hc) hg hm PyProof.Rows.boot_min (LC ha (LC hb xD (vB hs2 _ _)) (vB hs _ _)) (he:=vB hs _ _) (hpl:=BM (by rw[all_cons,hs2];rfl))) fun σ H Q zz=>by
   obtain⟨ρ,l,h,d,h',S,L,e,k⟩:=zz;obtain⟨⟨d1,h1⟩,e1,e⟩:=eA e;obtain⟨⟨d2,h2⟩,e2,e⟩:=eA e;refine⟨ρ,l,h,d1,h1,S,L,e1,fun ρ1 v H1 R1 S1 E1=>⟨ρ1,l,h1,d2,h2,S1,L.ext E1,e2,fun ρ2 u H2 R2 S2 E2=>?_⟩⟩;cases d1 with
   | int i=>
    cases d2 with
    | int j=>cases e;exact⟨i,j,by rw[ZZ.mp R1,ZZ.mp R2],k ρ2 _ H2 (ZZ.mpr rfl) S2 (E1.trans E2)⟩
    | _=>cases e
   | _=>cases e
end
end SM
namespace L2
section
variable{X:Cx}
end
end L2
namespace SM
section
variable{X:Cx}{e o i a b:Expr}{f g fe fo fi fa fb:RE}{p pos pos' apos cpos:Pos}
end
end SM
namespace L2
section
variable{κ:Type}[DecidableEq κ]
noncomputable def mQ(kvs:List (κ×V))(k:κ):List (κ×V):=kvs.filter fun kv=>decide (kv.1≠k)
theorem l4.getD{o:Option V}{u:Option Value}{d:V}{d':Value}(r:l4 o u)(rd:RelV d d'):RelV (o.getD d) (u.getD d'):=by
 cases o with
 | none=>cases u with
  | none=>exact rd
  | some _=>exact(show False from r).elim
 | some _=>cases u with
  | none=>exact(show False from r).elim
  | some _=>exact r
theorem KV.drop{kvs:List (κ×V)}{vs:List (κ×Value)}(r:KV kvs vs)(k:κ):KV (mQ kvs k) (without vs k):=by
 unfold KV at r ⊢;unfold mQ without
 induction r with
 | nil=>exact .nil
 | @cons p q ps qs h t ih=>
  obtain⟨h1,h2⟩:=h;rw[filter_cons,filter_cons];by_cases e:p.1=k
  · have a:¬decide (p.1≠k)=true:=by simp[e]
    have b:¬decide (q.1≠k)=true:=by simp[h1.symm.trans e]
    rw[if_neg a,if_neg b];exact ih
  · have e':¬q.1=k:=fun z=>e (h1.trans z)
    have a:decide (p.1≠k)=true:=by simp[e]
    have b:decide (q.1≠k)=true:=by simp[e']
    rw[if_pos a,if_pos b];exact .cons ⟨h1,h2⟩ ih
theorem KV.keys{kvs:List (κ×V)}{vs:List (κ×Value)}(r:KV kvs vs):kvs.map (·.1)=vs.map (·.1):=by
 unfold KV at r
 induction r with
 | nil=>rfl
 | cons h t ih=>rw[S9,S9,ih,h.1]
theorem KV.length{kvs:List (κ×V)}{vs:List (κ×Value)}(r:KV kvs vs):kvs.length=vs.length:=Paired.length r
end
abbrev KT(H:Hp):List (List UC×V)->List (List UC×Addr×Value)->Prop:=Paired fun p q=>p.1=q.1/\H q.2.1=some (.tup (p.1.map kV))/\RelV p.2 q.2.2
theorem KT.keeps{H H':Hp}{kvs:List (List UC×V)}{xs:List (List UC×Addr×Value)}(r:KT H kvs xs)(ht:∀b ys,H b=some (.tup ys)->H' b=some (.tup ys)):KT H' kvs xs:=
 Paired.U4 r fun _ _ z=>⟨z.1,ht _ _ z.2.1,z.2.2⟩
section
variable{P:Program}{w:World}{H:Hp}{h:Heap}{a:Addr}
end
section
variable{X:Cx}{pins:List (Addr×Obj)}{σ:St}{H:Hp}{s:Shared}{a:Addr}{y v:V}{u r:Value}{o:Option V}{A:Around}{E:Value->Shared->Prop}
end
section
variable{X:Cx}{pins:List (Addr×Obj)}{σ:St}{H:Hp}{s:Shared}{a:Addr}{kvs:List (UC×V)}{k:UC}{u:Value}{A:Around}{E:Value->Shared->Prop}
end
section
variable{X:Cx}{o i e value:Expr}{pos pos' tpos:Pos}{td ty tv:TE}
end
section
variable{X:Cx}{pos:Pos}
end
structure M1(X:Cx)(o:Expr)(m:Str)(apos:Pos)(e:Expr)(cpos:Pos):Prop where
 base:attributeBase o m X.env (eval o X.env)=eval o X.env
 few:((backTo cpos (starEach [e] X.env)).all (fun x=>!x.1)&&(backToKw cpos (keywordEach [] X.env)).all (fun x=>x.1.isSome)
  && decide (([e]:List Expr).length+([]:List Keyword).length+(if([]:List Keyword).isEmpty then 0 else 1)<30))=true
 line:(apos.endLine==cpos.line)=true
 trees:backTo cpos (starEach [e] X.env)=[(false,eval e X.env)]
structure M2(X:Cx)(o:Expr)(m:Str)(apos:Pos)(e f:Expr)(cpos:Pos):Prop where
 base:attributeBase o m X.env (eval o X.env)=eval o X.env
 few:((backTo cpos (starEach [e,f] X.env)).all (fun x=>!x.1)&&(backToKw cpos (keywordEach [] X.env)).all (fun x=>x.1.isSome)
  && decide (([e,f]:List Expr).length+([]:List Keyword).length+(if([]:List Keyword).isEmpty then 0 else 1)<30))=true
 line:(apos.endLine==cpos.line)=true
 trees:backTo cpos (starEach [e,f] X.env)=[(false,eval e X.env),(false,eval f X.env)]
section
variable{X:Cx}{pins:List (Addr×Obj)}{σ:St}{H:Hp}{s:Shared}{a:Addr}{y d:V}{u r:Value}{o:Option V}{A:Around}{E:Value->Shared->Prop}
end
section
variable{X:Cx}{o e f:Expr}{apos cpos:Pos}{td ty tx:TE}
end
section
variable{X:Cx}{pins:List (Addr×Obj)}{σ:St}{H:Hp}{s:Shared}{a:Addr}{kvs:List (UC×V)}{A:Around}{E:Value->Shared->Prop}
end
section
variable{X:Cx}{pins:List (Addr×Obj)}{σ:St}{H:Hp}{s:Shared}{a:Addr}{y:V}{u:Value}{A:Around}{E:Value->Shared->Prop}
end
section
variable{prog:Program}{w:World}{A:Around}{E:Value->Shared->Prop}{s:Shared}
end
section
variable{X:Cx}
end
end L2
namespace SM
section
variable{K:Frag}{H:Hp}{ρ:Rg}
abbrev KD(K:Frag)(H:Hp)(ρ:Rg)(kvs:List (List Int×Dt))(vs:List (List UC×V)):Prop:=vs.map (·.1)=kvs.map (fun p=>p.1.map Sum.inl)/\YZ K H ρ (kvs.map (·.2)) (vs.map (·.2))
theorem KD.S0{vs:List (List UC×V)}(r:KD K H ρ [] vs):vs=[]:=by have:=r.1;simpa using this
theorem KD.C0{p:List Int×Dt}{kvs:List (List Int×Dt)}{vs:List (List UC×V)}(r:KD K H ρ (p::kvs) vs):∃v rs,vs=(p.1.map Sum.inl,v)::rs/\n0 K H ρ p.2 v/\KD K H ρ kvs rs:=by
 obtain⟨h1,h2⟩:=r;cases vs with
 | nil=>simp at h1
 | cons q rs=>simp only[S9,List.cons.injEq]at h1;obtain⟨v,r',e,g1,g2⟩:=YZ.C0 (by simpa only[S9]using h2);simp only[S9,List.cons.injEq]at e;obtain⟨q1,q2⟩:=q;have h11:q1=p.1.map Sum.inl:=h1.1;have e1:q2=v:=e.1;subst e1;exact⟨q2,rs,by rw[h11],g1,h1.2,by rw[e.2];exact g2⟩
theorem KD.cons{p:List Int×Dt}{v:V}{kvs:List (List Int×Dt)}{vs:List (List UC×V)}(g:n0 K H ρ p.2 v)(r:KD K H ρ kvs vs):KD K H ρ (p::kvs) ((p.1.map Sum.inl,v)::vs):=
 ⟨by simp only[S9];rw[r.1],.cons g r.2⟩
theorem KD.length{kvs:List (List Int×Dt)}{vs:List (List UC×V)}(r:KD K H ρ kvs vs):vs.length=kvs.length:=by have:=congrArg List.length r.1;simpa using this
end
section
variable{X:Cx}{e o i d a b f:Expr}{fe fo fi fa fb fy fx:RE}{pos pos' apos cpos:Pos}
end
end SM
namespace L2
section
variable{prog:Program}{w:World}{A:Around}{R:Result->Shared->Prop}{I:Addr}{fp wr:List Addr}{n:Nat}{P:Nat->Value->Prop}{St:Nat->Heap->Prop}
end
section
variable{prog:Program}{w:World}{A:Around}{E:Value->Shared->Prop}{s:Shared}
end
section
variable{X:Cx}{e d:Expr}{ta:TA}{td:TE}{p pos kp:Pos}
end
end L2
namespace SM
section
variable{X:Cx}{e d:Expr}{fa fd:RE}{p pos kp:Pos}
end
end SM
namespace L2
section
variable{X:Cx}
end
end L2
namespace SM
section
variable{X:Cx}{e:Expr}{f:RE}{p p' pos pos':Pos}
end
end SM
namespace L2
section
variable{X:Cx}{tg:Expr}
end
end L2
namespace SM
section
variable{X:Cx}{tg:Expr}
end
theorem VJ{c:Prop}[Decidable c]{α:Type}{x:Option α}{b:α}(e:(if c then x else none)=some b):c/\x=some b:=by
 by_cases h:c
 · rw[if_pos h]at e;exact⟨h,e⟩
 · rw[if_neg h]at e;cases e
section
variable{P:Program}{w:World}{K:Frag}{mg:Str->Option Value}{base:Heap}
end
section
variable{X:Cx}{e o value:Expr}{es:List Expr}{x f m:Str}{fo fe:RE}{g:RA}{pos pos' apos p:Pos}{k k' n:Nat}{F:HB}
end
section
variable{P:Program}{w:World}{K:Frag}{mg:Str->Option Value}{base:Heap}
end
section
variable{X:Cx}{k k' n:Nat}{F:HB}{x:Str}{p pos:Pos}{e:Expr}{es:List Expr}{g:RA}{V2:List Dt}
end
def mB(K:Frag)(x:Str)(st:Stmt):Prop:=∃(f:Addr)(oc:Value)(od:Option Addr)(kV dc pm:Value)(an:Option Addr)(cd ct:Value)(sl:Array (Option Value)),nsIn K mainGlobals x=some (some (.ref f))/\
 K.lookup f=some ⟨oc,od,.func (fnOf x x (wG st) (nE st) (AA st) .none kV dc pm an cd ct),sl⟩/\PySem.W.codeIn K cd x=true/\keepIn K (.ref f)=true
section
variable{K:Frag}{h:Heap}{mg:Str->Option Value}{x m qual:Str}{st:Stmt}{ps:List Str}{C:Addr}{d:Int}
theorem sB(X:K.In h)(G:h.Ns mainGlobals mg)(D:mB K x st)(hb:∀(kV doc pm:Value)(an:Option Addr)(cdv ct:Value)(us:List Value),us.length=ps.length->bindArgs (fnOf x x (wG st) (nE st) (AA st) .none kV doc pm an cdv ct) ⟨us,[]⟩=pure (ps.zip us)):jB K mg x st ps:=by obtain⟨f,oc,od,kV,dc,pm,an,cd,ct,sl,a,l,c,k⟩:=D;have F:=OP l c k;exact⟨⟨f,_,F,PySem.W.mg_of X G a,F.binds hb⟩⟩
end
section
variable{Q:List Value->Prop}
theorem bI(h:Q []):∀us:List Value,us.length=0->Q us | [],_=>h
theorem bG{n:Nat}(h:∀a us,us.length=n->Q (a::us)):∀us:List Value,us.length=n+1->Q us | a::us,e=>h a us (Nat.succ.inj e)
theorem FE(h:∀a,Q [a]):∀us:List Value,us.length=1->Q us:=bG fun a=>bI (h a)
theorem WB(h:∀a b,Q [a,b]):∀us:List Value,us.length=2->Q us:=bG fun a=>bG fun b=>bI (h a b)
theorem fR(h:∀a b c,Q [a,b,c]):∀us:List Value,us.length=3->Q us:=bG fun a=>bG fun b=>bG fun c=>bI (h a b c)
end
theorem qB{N P:List Str}{sc:Scope}(a:sc.kind=.function:=by exact rfl)(b:sc.isCoroutine=false:=by exact rfl)(c:sc.isGenerator=false:=by exact rfl)(d:N.Nodup:=by decide +kernel)(e:N.take P.length=P:=by exact rfl)
 (f:∀x∈P,sc.names.lookup x=some .local\/sc.names.lookup x=some .cell:=by decide +kernel) (g:∀y∈sc.names,y.2≠.free:=by decide +kernel):ZA N P sc:=⟨a,b,c,d,e,f,g⟩
theorem LA {X:Cx} {k k' n:Nat} {x:Str} {F:HB} {e:Expr} {es:List Expr} {g:RA} {p pos:Pos} (c:jC X.prog X.w X.K X.mg X.base k n x F) (hr:M0 k' X.A) (ha:AM X (e::es) g) (hk:k<=k':=by decide) (hg:Gl X x:=by exact rfl) (hdb:(x==("__debug__" :Str))=false:=by decide)
 (he:AB e=true:=by rfl) (hpl:es.all AB=true:=by rfl):EM X (.Call (.Name x p) (e::es) [] pos) (zA F [] g):=pJ c hr hk hg ha hdb he hpl
end SM
namespace L2
section
variable{X:Cx}
end
end L2
namespace SM
section
variable{X:Cx}{a b:Expr}{fa fb:RE}
end
theorem nW{P:Program}{w:World}{K:Frag}{mg:Str->Option Value}{base:Heap}{x:Str}{st:Stmt}{ps:List Str}{k n:Nat}(D:jB K mg x st ps):jC P w K mg base k n x (fun _ _=>none):=by
 with_unfolding_all
  obtain⟨f,fd,hF,hm,hB⟩:=D.ex;refine⟨⟨f,fd,ps,⟨fun vs H Q E h=>?_,fun A outer s H args us vs Q E hr he hb hv h=>?_⟩,hm,hF.kp,hB⟩,fun ds h r e=>by cases e⟩
  · obtain⟨ρ,ds,h,d,h',_,_,_,e,_⟩:=h;cases e
  · obtain⟨ρ,ds,h,d,h',_,_,_,e,_⟩:=h;cases e
end SM
namespace L2
section
variable{X:Cx}
end
end L2
namespace SM
end SM
namespace L2
open PySem.W
section
variable{X:Cx}
theorem fW:∀{ts:List Str}{us:List Value},Vals (ts.map V.str) us->∃l:List (Str×Tok),us=strValues l/\l.map (·.1)=ts:=by
 intro ts
 induction ts with
 | nil=>intro us r;cases r;exact⟨[],rfl,rfl⟩
 | cons t ts ih=>
  intro us r;cases r with
  | cons r1 r2=>obtain⟨tk,rfl⟩:=r1;obtain⟨l,rfl,e⟩:=ih r2;exact⟨(t,tk)::l,rfl,by rw[S9,e]⟩
theorem zW:HQ X "str.join" (fun x xs H Q=>∃z p ts,x=.str z/\xs=[.ref p]/\Y0 X.K H p (ts.map V.str)/\JoinOk z ts=true/\Q (.str (Str.join z ts)) H):=by intro pins s σ H x xs v us Q I rx rs zz;obtain⟨z,p,ts,e1,e2,hq,hok,q⟩:=zz;subst e1 e2;obtain⟨t,rfl⟩:=rx;obtain⟨u,rfl,ru⟩:=Vals.one rs;cases (show u=Value.ref p from ru);obtain⟨its,r,pl,_⟩:=I.list hq;obtain⟨l,rfl,hl⟩:=fW r;have ej:Txt.join z ts=Str.join z ts:=beq_iff_eq.mp (PyProof.Rows.join_plain_closes z ts);exact SC.join pl.isList hl hok fun t' k=>⟨.str _,H,I.tok k,⟨_,by rw[ej]⟩,q⟩
end
end L2
namespace SM
noncomputable def tF:List Dt->Option (List Str)
 | []=>some []
 | .str z::r=>(tF r).map fun ts=>z::ts
 | _::_=>none
theorem EV{K:Frag}{H:Hp}{ρ:Rg}:∀{ds:List Dt}{ts:List Str}{vs:List V},tF ds=some ts->YZ K H ρ ds vs->vs=ts.map V.str:=by
 intro ds
 induction ds with
 | nil=>intro ts vs e r;cases e;exact r.S0
 | cons d ds ih=>
  intro ts vs e r;obtain⟨v,w,rfl,r1,r2⟩:=YZ.C0 r;cases d with
  | str z=>simp only[tF]at e;obtain⟨ts',e1,e2⟩:=Option.map_eq_some_iff.mp e;cases e2;rw[ih e1 r2,o0.mp r1];rfl
  | _=>simp[tF]at e
section
variable{X:Cx}{a b:Expr}{fa fb:RE}{apos cpos:Pos}
end
end SM
namespace L2
section
variable{X:Cx}{a b c d:Expr}{ta tb tc td:TE}{pos:Pos}
theorem gS:J0 X (.type "int") (fun xs H Q=>∃x n,xs=[.str x]/\PySem.intText? x=some n/\x.length<=640/\Q (.int n) H):=by intro pins s σ H xs us Q I r zz;obtain⟨x,n,e,hn,hl,q⟩:=zz;subst e;obtain⟨u,rfl,ru⟩:=cE r;obtain⟨t,rfl⟩:=ru;exact PySem.W.KIN.call_text hn hl ⟨.int n,H,I.tok _,⟨_,rfl⟩,q⟩
noncomputable def gW(r r' r'':R2)(ta tb tc td:TE):TE:=fun σ H Q=>ta σ H fun x H1=>tb σ H1 fun y H2=>r x y H2 fun z H3=>∃k,z=.bl k/\
 (if k=true then tc σ H3 fun y' H4=>r' y y' H4 fun z' H5=>∃k',z'=.bl k'/\(if k'=true then td σ H5 fun w' H6=>r'' y' w' H6 Q else Q (.bl false) H5)else Q (.bl false) H3)
theorem MU{o1 o2 o3:CmpOp}{r r' r'':R2}(h1:Q0 X (compareOp o1) r)(h2:Q0 X (compareOp o2) r')(h3:Q0 X (compareOp o3) r'')(ha:PE X a ta)(hb:PE X b tb)(hc:PE X c tc)(hd:PE X d td)
 (hm:lastMarks [o1,o2,o3] [b,c,d]=false:=by with_unfolding_all rfl):PE X (.Compare a [o1,o2,o3] [b,c,d] pos) (gW r r' r'' ta tb tc td):=by
 intro pins s σ H Q I h;refine Compare_chain (WA (ha pins s σ H _ I h) fun v s1 ⟨x,H1,I1,r1,q1⟩=>chain_link (WA (hb pins s1 σ H1 _ I1 q1) fun u s2 ⟨y,H2,I2,r2,q2⟩=>WA (h1 pins s2 σ H2 x y v u _ I2 r1 r2 q2) fun d s3 zz=>?_)) hm;obtain⟨z,H3,I3,r3,k,e,q3⟩:=zz;subst e;cases r3;refine wpAny_truthy_bool ?_;cases k with
 | false=>exact ite_ff ⟨.bl false,H3,I3,rfl,q3⟩
 | true=>
  refine ite_tt (chain_link (WA (hc pins s3 σ H3 _ I3 q3) fun u4 s4 ⟨y4,H4,I4,r4,q4⟩=>WA (h2 pins s4 σ H4 y y4 u u4 _ I4 r2 r4 q4) fun d5 s5 zz=>?_));obtain⟨z5,H5,I5,r5,k5,e5,q5⟩:=zz;subst e5;cases r5;refine wpAny_truthy_bool ?_;cases k5 with
  | false=>exact ite_ff ⟨.bl false,H5,I5,rfl,q5⟩
  | true=>exact ite_tt (chain_last (WA (hd pins s5 σ H5 _ I5 q5) fun u6 s6 ⟨y6,H6,I6,r6,q6⟩=>h3 pins s6 σ H6 y4 y6 u4 u6 Q I6 r4 r6 q6))
end
end L2
namespace SM
section
variable{X:Cx}{a b c d e:Expr}{fa fb fc fd f:RE}{p pos apos cpos:Pos}
noncomputable def dD:bC:=fun a b h=>match a,b with
 | .str x,.str y=>if x.length+y.length<=sizeLine then some (.str (x++y),h)else none
 | _,_=>none
theorem mE:OM X (binaryOp .Add) dD:=by
 with_unfolding_all
  exact Q0.imp US fun x y H Q zz=>by
   obtain⟨ρ,h,d1,d2,d,h',S,R1,R2,e,k⟩:=zz;unfold dD at e;split at e
   · obtain⟨c,e⟩:=qD e;cases e;exact⟨_,_,o0.mp R1,o0.mp R2,c,k ρ _ H (o0.mpr rfl) S (Ext.refl _ _)⟩
   · cases e
noncomputable def eI:bC:=fun a b h=>match a,b with
 | .str x,.str y=>some (.bl (Txt.contains y x),h)
 | _,_=>none
theorem OX:OM X (compareOp .In) eI:=by
 with_unfolding_all
  exact Q0.imp KU fun x y H Q zz=>by
   obtain⟨ρ,h,d1,d2,d,h',S,R1,R2,e,k⟩:=zz;unfold eI at e;split at e
   · cases e;exact⟨_,_,o0.mp R1,o0.mp R2,k ρ _ H (b0.mpr rfl) S (Ext.refl _ _)⟩
   · cases e
noncomputable def cF:Dt->HI->Option (Dt×HI):=fun d h=>match d with
 | .int i=>if i.natAbs.log2<1920 then some (.str (toString i),h)else none
 | _=>none
theorem qJ (hg:Gl X "str") (hm:X.mg "str" =none) (ha:EM X e f) (hs:AB e=true:=by rfl):EM X (.Call (.Name "str" p) [e] [] pos) (kC cF f):=by
 with_unfolding_all
  exact DJ KS (fun ρ h d v d' h' H Q S R e k=>by
   unfold cF at e;split at e
   · obtain⟨c,e⟩:=qD e;cases e;exact⟨_,by rw[ZZ.mp R],c,k ρ _ H (o0.mpr rfl) S (Ext.refl _ _)⟩
   · cases e) hg hm boot_str ha (hs:=hs)
noncomputable def vF:Dt->HI->Option (Dt×HI):=fun d h=>match d with
 | .str x=>(PySem.intText? x).bind fun n=>if x.length<=640 then some (.int n,h)else none
 | _=>none
theorem gP (hg:Gl X "int") (hm:X.mg "int" =none) (ha:EM X e f) (hs:AB e=true:=by rfl):EM X (.Call (.Name "int" p) [e] [] pos) (kC vF f):=by
 with_unfolding_all
  exact DJ gS (fun ρ h d v d' h' H Q S R e k=>by
   unfold vF at e;split at e
   · obtain⟨n,e1,e⟩:=eA e;obtain⟨c,e⟩:=qD e;cases e;exact⟨_,n,by rw[o0.mp R],e1,c,k ρ _ H (ZZ.mpr rfl) S (Ext.refl _ _)⟩
   · cases e) hg hm boot_int ha (hs:=hs)
noncomputable def lQ:RS:=fun _ _=>none
theorem iV{st:Stmt}:ZM X st lQ:=by with_unfolding_all exact PS.imp xV fun D σ H ⟨ρ,l,h,r,S,L,e,k⟩=>by cases e
noncomputable def vM(o o' u9:bC)(fa fb fc fd:RE):RE:=fun l h=>(fa l h).bind fun r=>(fb l r.2).bind fun q=>(o r.1 q.1 q.2).bind fun z=>match z.1 with
 | .bl true=>(fc l z.2).bind fun y=>(o' q.1 y.1 y.2).bind fun z2=>match z2.1 with
  | .bl true=>(fd l z2.2).bind fun w=>u9 y.1 w.1 w.2
  | .bl false=>some (.bl false,z2.2)
  | _=>none
 | .bl false=>some (.bl false,z.2)
 | _=>none
theorem vT{p1 p2 p3:CmpOp}{r r' r'':bC}(ho:OM X (compareOp p1) r)(ho':OM X (compareOp p2) r')(ho'':OM X (compareOp p3) r'')(ha:EM X a fa)(hb:EM X b fb)(hc:EM X c fc)(hd:EM X d fd)
 (hm:lastMarks [p1,p2,p3] [b,c,d]=false:=by with_unfolding_all rfl):EM X (.Compare a [p1,p2,p3] [b,c,d] pos) (vM r r' r'' fa fb fc fd):=by
 with_unfolding_all
  exact PE.imp (MU ho ho' ho'' ha hb hc hd hm) fun σ H Q zz=>by
   obtain⟨ρ,l,h,d,h',S,L,e,k⟩:=zz;obtain⟨⟨d1,h1⟩,e1,e⟩:=eA e;obtain⟨⟨d2,h2⟩,e2,e⟩:=eA e;obtain⟨⟨d3,h3⟩,e3,e⟩:=eA e;refine⟨ρ,l,h,d1,h1,S,L,e1,fun ρ1 x H1 R1 S1 E1=>⟨ρ1,l,h1,d2,h2,S1,L.ext E1,e2,fun ρ2 y H2 R2 S2 E2=>⟨ρ2,h2,d1,d2,d3,h3,S2,n0.ext E2 _ R1,R2,e3,fun ρ3 v H3 R3 S3 E3=>?_⟩⟩⟩;cases d3 with
   | bl q=>
    refine⟨q,b0.mp R3,?_⟩;cases q with
    | true=>
     dsimp only at e;obtain⟨⟨d4,h4⟩,e4,e⟩:=eA e;obtain⟨⟨d5,h5⟩,e5,e⟩:=eA e;refine iE ⟨ρ3,l,h3,d4,h4,S3,(L.ext (E1.trans (E2.trans E3))),e4,fun ρ4 u H4 R4 S4 E4=>⟨ρ4,h4,d2,d4,d5,h5,S4,n0.ext (E3.trans E4) _ R2,R4,e5,fun ρ5 v5 H5 R5 S5 E5=>?_⟩⟩;cases d5 with
     | bl q5=>
      refine⟨q5,b0.mp R5,?_⟩;cases q5 with
      | true=>dsimp only at e;obtain⟨⟨d6,h6⟩,e6,e⟩:=eA e;exact iE ⟨ρ5,l,h5,d6,h6,S5,(L.ext (E1.trans (E2.trans (E3.trans (E4.trans E5))))),e6,fun ρ6 u6 H6 R6 S6 E6=>⟨ρ6,h6,d4,d6,d,h',S6,n0.ext (E5.trans E6) _ R4,R6,e,k.ext (E1.trans (E2.trans (E3.trans (E4.trans (E5.trans E6)))))⟩⟩
      | false=>cases e;exact gE (k ρ5 _ H5 (b0.mpr rfl) S5 (E1.trans (E2.trans (E3.trans (E4.trans E5)))))
     | _=>cases e
    | false=>cases e;exact gE (k ρ3 _ H3 (b0.mpr rfl) S3 (E1.trans (E2.trans E3)))
   | _=>cases e
end
end SM
namespace L2
open Builtin Builtin.Str
section
variable{X:Cx}
theorem YS{prog:Program}{w:World}{A:Around}{E:Value->Shared->Prop}{s:Shared}{Q:Value->Shared->Prop}{x y:Str}{t u:Tok}(hy:(y.length==0)=false)(hx:x.length<=sizeLine)(hn:(Txt.split x y).length<=sizeLine)
 (q:∀l k,l.map (·.1)=Txt.split x y->Q (.ref s.heap.objs.size) { s with toks:=k,heap:=s.heap.push { cls:=.type "list",data:=.seq (strValues l).toArray } }):wpAny (model prog w) A (call (.builtin "str.split") [.str x t,.str y u]) Q E s:=by
 by_cases g1:(decide (x.length<y.length) || decide (strKind x<strKind y))=true
 · exact call_meets F.slot_str_split (typeIs_str _ _ _) F.entry_str_split (F.args_str_split_2 _ _) (meets_str_split_cannot_occur x y t u g1) (q [(x,t)] s.toks (by unfold Txt.split;rw[if_pos g1];rfl))
 · by_cases g2:(occurrences x y 0 x.length (x.length+1)).isEmpty=true
   · exact call_meets F.slot_str_split (typeIs_str _ _ _) F.entry_str_split (F.args_str_split_2 _ _) (meets_str_split_not_found x y t u (Bool.eq_false_iff.mpr g1) hy g2) (q [(x,t)] s.toks (by unfold Txt.split;rw[if_neg g1,if_pos g2];rfl))
   · have es:Txt.split x y=partsBetween x (occurrences x y 0 x.length (x.length+1)) y.length:=by unfold Txt.split;rw[if_neg g1,if_neg g2]
     refine call_meets F.slot_str_split (typeIs_str _ _ _) F.entry_str_split (F.args_str_split_2 _ _) (meets_str_split_sep x y t u (Bool.eq_false_iff.mpr g1) hy (Bool.eq_false_iff.mpr g2) hx (es ▸ hn)) ?_;have w:=q (numbered s.toks (partsBetween x (occurrences x y 0 x.length (x.length+1)) y.length)) (s.toks+(partsBetween x (occurrences x y 0 x.length (x.length+1)) y.length).length) ((numbered_texts _ _).trans es.symm);rw[<- strsFrom_eq]at w;exact w
theorem qU:∀l:List (Str×Tok),Vals ((l.map (·.1)).map V.str) (strValues l):=by
 intro l
 induction l with
 | nil=>exact .nil
 | cons p l ih=>exact .cons ⟨_,rfl⟩ ih
theorem kU:HQ X "str.split" (fun x xs H Q=>∃z y,x=.str z/\xs=[.str y]/\(y.length==0)=false/\z.length<=sizeLine/\(Txt.split z y).length<=sizeLine/\∀l,H l=none->Q (.ref l) (FB H l (.lst ((Txt.split z y).map V.str)))):=by
 intro pins s σ H x xs v us Q I rx rs zz;obtain⟨z,y,e1,e2,hy,hz,hn,q⟩:=zz;subst e1 e2;obtain⟨t,rfl⟩:=rx;obtain⟨u,rfl,ru⟩:=Vals.one rs;obtain⟨t',rfl⟩:=ru;refine YS hy hz hn fun l k hl=>?_
 have r:=qU l;rw[hl]at r;exact⟨.ref s.heap.objs.size,_,I.laid (t':=k) (fun b o h=>Heap.get?_push_of_some _ h) (fj _) (show U0 X.prog X.w _ _ _ (.lst ((Txt.split z y).map V.str))from⟨by rw[length_map];exact hn,strValues l,0,r,Heap.get?_push_size _ rfl⟩),rfl,q _ (I.hok.fresh (fj _))⟩
noncomputable def nZ(x:Str)(te:TE):TE:=fun σ H Q=>te σ H fun v H1=>∃y,v=.str y/\x.length+y.length<=sizeLine/\Q (.str (x++y)) H1
theorem LW{x:Str}{j}{v:Expr}{te:TE}{p1 p2 pos:Pos}(hv:PE X v te)(hx:x.length<=sizeLine:=by decide):PE X (.JoinedStr [.Constant (.str x) j p1,.FormattedValue v (-1) none p2] pos) (nZ x te):=by
 intro pins s σ H Q I h;have ea:Str.empty++x=x:=Str.empty_append x;refine wpAny_JoinedStr ?_;refine Calls.Constant_str ⟨x,_,rfl,by rw[ea];exact hx,?_⟩;rw[ea];refine wpAny_FormattedValue_plain (WA (hv pins _ σ H _ (I.tok _) h) fun u s1 zz=>?_);obtain⟨z,H1,I1,r1,y,e,hz,q⟩:=zz;subst e;obtain⟨t,rfl⟩:=r1;have el:(x++y).length<=sizeLine:=by rw[Str.length_append];exact hz
 exact wpAny_formatField_str ⟨y,t,rfl,el,el,.str (x++y),H1,I1.tok _,⟨_,rfl⟩,q⟩ ⟨y,_,rfl,el,el,.str (x++y),H1,(I1.tok _).tok _,⟨_,rfl⟩,q⟩ (Nat.le_trans (Nat.le_add_left _ _) hz)
end
end L2
namespace SM
section
variable{X:Cx}{a b e:Expr}{fa fb f:RE}{p1 p2 pos apos cpos:Pos}
noncomputable def NQ(x:Str)(f:RE):RE:=fun l h=>(f l h).bind fun r=>match r.1 with
 | .str y=>if x.length+y.length<=sizeLine then some (.str (x++y),r.2)else none
 | _=>none
theorem bV{x:Str}{j}(ha:EM X e f)(hx:x.length<=sizeLine:=by decide):EM X (.JoinedStr [.Constant (.str x) j p1,.FormattedValue e (-1) none p2] pos) (NQ x f):=by
 with_unfolding_all
  exact PE.imp (LW ha hx) fun σ H Q zz=>by
   obtain⟨ρ,l,h,d,h',S,L,e,k⟩:=zz;obtain⟨⟨d1,h1⟩,e1,e⟩:=eA e;refine⟨ρ,l,h,d1,h1,S,L,e1,fun ρ1 v H1 R1 S1 E1=>?_⟩;dsimp only at e;split at e
   · obtain⟨c,e⟩:=qD e;cases e;exact⟨_,o0.mp R1,c,k ρ1 _ H1 (o0.mpr rfl) S1 E1⟩
   · cases e
theorem iO{K:Frag}{H:Hp}{ρ:Rg}:∀ts:List Str,YZ K H ρ (ts.map Dt.str) (ts.map V.str)
 | []=>YZ.nil
 | t::ts=>YZ.cons (o0.mpr rfl) (iO ts)
noncomputable def oF(fa fb:RE):RE:=fun l h=>(fa l h).bind fun r=>(fb l r.2).bind fun q=>match r.1,q.1 with
 | .str z,.str y=>if(y.length==0)=false/\z.length<=sizeLine/\(Txt.split z y).length<=sizeLine then some (.lst ((Txt.split z y).map Dt.str),q.2)else none
 | _,_=>none
theorem RL (ho:EM X a fa) (hb:EM X b fb) (hbase:attributeBase a "split" X.env (eval a X.env)=eval a X.env:=by rfl)
 (hline:(apos.endLine==cpos.line)=true:=by rfl) (hs:AB b=true:=by rfl) :
 EM X (.Call (.Attribute a "split" apos) [b] [] cpos) (oF fa fb):=by
 with_unfolding_all
  exact PE.imp (MH PySem.F.plainAttrs_str PySem.F.slot_str_split PySem.F.type_str_split kU ho (LC hb xD (vB hs _ _)) hbase (yH hs) hline (vB hs _ _)) fun σ H Q zz=>by
   obtain⟨ρ,l,h,d,h',S,L,e,k⟩:=zz;obtain⟨⟨d1,h1⟩,e1,e⟩:=eA e;obtain⟨⟨d2,h2⟩,e2,e⟩:=eA e;refine⟨ρ,l,h,d1,h1,S,L,e1,fun ρ1 v H1 R1 S1 E1=>?_⟩;dsimp only at e;split at e
   · cases o0.mp R1;refine⟨rfl,ρ1,l,h1,_,h2,S1,L.ext E1,e2,fun ρ2 y H2 R2 S2 E2=>?_⟩;obtain⟨c,e⟩:=qD e;cases e;cases o0.mp R2;refine⟨_,_,rfl,rfl,c.1,c.2.1,c.2.2,fun p hp=>?_⟩;exact k ρ2 _ _ (FH S2 (iO _) hp) (S2.fresh hp) (E1.trans (E2.trans (Ext.fresh hp)))
   · cases e
end
end SM
namespace L2
noncomputable def SQ(x:Str):It:=⟨fun i _=>i<x.cps.size,fun i H y H'=>H'=H/\∃c,x.cps[i]?=some c/\y=.str ⟨#[c]⟩,fun i _=>x.cps.size<=i⟩
theorem II (x:Str):(strIterType x = "str_ascii_iterator" /\ x.cps.all (· < 128)=true)\/(strIterType x = "str_iterator" /\ x.cps.all (· < 128)=false):=by unfold strIterType;cases x.cps.all (· < 128)<;>simp
theorem pU{P:Program}{w:World}{K:Frag}{tg:Expr}(x:Str)(t:Tok)(it:Addr):XF P w K tg (SQ x) [it] it (fun i h=>h.IsStrIter it (strIterType x) x t i) where
 mem:=by simp
 obj:=fun i h st b hb=>by
  have z:b=it:=by simpa using hb
  obtain⟨o,e,_,d⟩:=st;exact⟨o,z ▸ e,fun v y=>by rw[d]at y;cases y⟩
 keep:=fun i h h' st k=>by obtain⟨o,e,r⟩:=st;exact⟨o,k it (by simp) o e,r⟩
 item:=by
  intro X hP hw hK hc i pins s σ H E I hf st hg;subst hP hw hK;obtain⟨f0,f1,f2,f3,f4,f5⟩:=hf it (by simp);have hg:i<x.cps.size:=hg;have hx:x.cps[i]?=some x.cps[i]:=by simp[hg]
  have fin:∀h',h'.IsStrIter it (strIterType x) x t (i+1)->Heap.SameBut it s.heap h'->∃u,some (Value.str ⟨#[x.cps[i]]⟩ s.toks)=some u/\
   wpAny (model X.prog X.w) X.A (letOwnedTupleGo tg (.ref it) u) (fun _ s2=>∃y H',Inv X pins σ H' s2/\RelV y u/\(SQ x).C5 i H y H'/\s2.heap.IsStrIter it (strIterType x) x t (i+1)/\∀b ∈ [it],H' b=none) E { s with heap:=h',toks:=s.toks+1 }:=fun h' st' sb=>by
   have I1:Inv X pins σ H { s with heap:=h',toks:=s.toks+1 }:=I.turned (t':=s.toks+1) (fun b o hb e=>(sb.2 b hb).trans e) f0 f1 f3 f4 f5;obtain⟨o,e,c,d⟩:=id st';exact⟨_,rfl,dN (s:={ s with heap:=h',toks:=s.toks+1 }) e c d (by rcases II x with z | z<;>rw[z.1]<;>decide) ⟨.str ⟨#[x.cps[i]]⟩,H,I1,⟨_,rfl⟩,⟨rfl,_,hx,rfl⟩,st',fun b hb=>(hf b hb).1⟩⟩
  rcases II x with z | z
  · rw[z.1]at st fin;exact wpAny_pyNext_ascii_item st hx fun h' a b=>by rw[z.1];exact fin h' a b
  · rw[z.1]at st fin;exact wpAny_pyNext_wide_item st hx fun h' a b=>by rw[z.1];exact fin h' a b
 done:=by
  intro X hP hw hK hc i pins s σ H E I hf st hg;subst hP hw hK;obtain⟨f0,f1,f2,f3,f4,f5⟩:=hf it (by simp);have hg:x.cps.size<=i:=hg;have hx:x.cps[i]?=none:=by simp[hg]
  rcases II x with z | z
  · rw[z.1]at st;exact wpAny_pyNext_ascii_end (I.ok.hd hc) st hx fun h' eb=>⟨rfl,I.turned (t':=s.toks) (fun b o hb e=>eb b o hb e) f0 f1 f3 f4 f5⟩
  · rw[z.1]at st;exact wpAny_pyNext_wide_end (I.ok.hd hc) st hx fun h' eb=>⟨rfl,I.turned (t':=s.toks) (fun b o hb e=>eb b o hb e) f0 f1 f3 f4 f5⟩
 self:=fun _ _ _ _ _ st h=>by
  rcases II x with z | z
  · rw[z.1]at st;exact wpAny_pyIter_striter_ascii st h
  · rw[z.1]at st;exact wpAny_pyIter_striter_wide st h
section
variable{X:Cx}{tg:Expr}
def EY(te:TE):TI:=fun σ H R=>te σ H fun v H1=>∃x,v=.str x/\R (SQ x) H1
theorem QW{a:Expr}{te:TE}(ha:PE X a te):PI X tg a (EY te):=by
 intro pins s σ H R I h;refine WA (ha pins s σ H _ I h) fun v s1 zz=>?_
 obtain⟨y,H1,I1,r1,x,e,q⟩:=zz;subst e;obtain⟨t,rfl⟩:=r1;refine wpAny_pyIter_strU ?_;refine⟨s1.heap.objs.size,[s1.heap.objs.size],_,_,H1,rfl,I1.kept (t':=s1.toks) fun b o e=>Heap.get?_push_of_some _ e,pU x t _,⟨_,Heap.get?_push_size _ rfl,rfl,rfl⟩,fun b hb=>?_,q⟩;have e:b=s1.heap.objs.size:=by simpa using hb
 subst e;exact I1.P3 (fj _) (I1.hok.fresh (fj _))
end
end L2
namespace SM
section
variable{X:Cx}{a b e:Expr}{fa fb f:RE}{p1 p2 pos apos cpos:Pos}
def UD(fa fb:RE):RE:=fun l h=>(fa l h).bind fun r=>(fb l r.2).bind fun q=>match r.1 with
 | .str z=>(jA q.2 q.1).bind fun xs=>(tF xs).bind fun ts=>if PySem.JoinOk z ts=true then some (.str (Str.join z ts),q.2)else none
 | _=>none
theorem iF (ho:EM X a fa) (hb:EM X b fb) (hbase:attributeBase a "join" X.env (eval a X.env)=eval a X.env:=by rfl)
 (hline:(apos.endLine==cpos.line)=true:=by rfl) (hs:AB b=true:=by rfl) :
 EM X (.Call (.Attribute a "join" apos) [b] [] cpos) (UD fa fb):=by
 with_unfolding_all
  exact PE.imp (MH PySem.F.plainAttrs_str PySem.F.slot_str_join PySem.F.type_str_join zW ho (LC hb xD (vB hs _ _)) hbase (yH hs) hline (vB hs _ _)) fun σ H Q zz=>by
   obtain⟨ρ,l,h,d,h',S,L,e,k⟩:=zz;obtain⟨⟨d1,h1⟩,e1,e⟩:=eA e;obtain⟨⟨d2,h2⟩,e2,e⟩:=eA e;refine⟨ρ,l,h,d1,h1,S,L,e1,fun ρ1 v H1 R1 S1 E1=>?_⟩;dsimp only at e;split at e
   · cases o0.mp R1;refine⟨rfl,ρ1,l,h1,d2,h2,S1,L.ext E1,e2,fun ρ2 y H2 R2 S2 E2=>?_⟩;obtain⟨xs,e3,e⟩:=eA e;obtain⟨ts,e4,e⟩:=eA e;obtain⟨ok,e⟩:=VJ e;cases e;obtain⟨p,vs,zz,sq,rs⟩:=ZD S2 R2 e3;subst zz;have:=EV e4 rs;subst this;exact⟨_,p,ts,rfl,rfl,sq,ok,k ρ2 _ H2 (o0.mpr rfl) S2 (E1.trans E2)⟩
   · cases e
def FG(fo fa:RE):RE:=fun l h=>(fo l h).bind fun r=>(jA r.2 r.1).bind fun _=>(fa l r.2).bind fun q=>(jA q.2 r.1).bind fun xs=>if aF xs q.1=true then(ND xs q.1).map fun j=>(.int (j:Nat),q.2)else none
theorem sL (hu:X.A.units+64<cLine) (ho:EM X a fa) (hb:EM X b fb) (hbase:attributeBase a "index" X.env (eval a X.env)=eval a X.env:=by rfl)
 (hline:(apos.endLine==cpos.line)=true:=by rfl) (hs:AB b=true:=by rfl) :
 EM X (.Call (.Attribute a "index" apos) [b] [] cpos) (FG fa fb):=by
 with_unfolding_all exact PE.imp (MH PySem.F.plainAttrs_list PySem.F.slot_list_index PySem.F.type_list_index (mT hu) ho (LC hb xD (vB hs _ _)) hbase (yH hs) hline (vB hs _ _)) fun σ H Q zz=>by obtain⟨ρ,l,h,d,h',S,L,e,k⟩:=zz;obtain⟨⟨d1,h1⟩,e1,e⟩:=eA e;obtain⟨xs0,e0,e⟩:=eA e;obtain⟨⟨d2,h2⟩,e2,e⟩:=eA e;obtain⟨xs,e3,e⟩:=eA e;obtain⟨ok,e⟩:=VJ e;obtain⟨j,q,e⟩:=Option.map_eq_some_iff.mp e;cases e;refine⟨ρ,l,h,d1,h1,S,L,e1,fun ρ1 v H1 R1 S1 E1=>?_⟩;obtain⟨x,J9,z,D9,_⟩:=ZD S1 R1 e0;subst z;refine⟨.inl ⟨rfl,J9,D9⟩,ρ1,l,h1,d2,h2,S1,L.ext E1,e2,fun ρ2 y H2 R2 S2 E2=>?_⟩;obtain⟨x',ws,z,sq,rs⟩:=ZD S2 (n0.ext E2 _ R1) e3;cases z;exact⟨ρ2,xs,d2,y,x,ws,j,rfl,rfl,by rw[if_neg dj];exact sq,rs,R2,ok,q,k ρ2 _ H2 (ZZ.mpr rfl) S2 (E1.trans E2)⟩
def dI:bC:=fun a b h=>(jA h b).bind fun xs=>if aF xs a=true then some (.bl (xs.any fun x=>CB x a),h)else none
theorem NX(hu:X.A.units+64<cLine):OM X (compareOp .In) dI:=by
 with_unfolding_all
  exact fun pins s σ H x y v u Q I rx ry zz=>by
   obtain⟨ρ,h,d1,d2,d,h',S,R1,R2,e,k⟩:=zz;obtain⟨xs,e1,e⟩:=eA e;obtain⟨ok,e⟩:=VJ e;cases e;obtain⟨p,ws,z,sq,rs⟩:=ZD S R2 e1;subst z;cases ry;simp only[aF,Bool.and_eq_true,decide_eq_true_eq]at ok;obtain⟨its,rv,pl,hz⟩:=I.list sq;obtain⟨f,g1,g2⟩:=sQ I X.A.in1 ok.1.1 ok.1.2 (by have:=mH X.A;omega) rs R1 rv rx;have hl:its.length=xs.length:=by rw[<- rv.length,rs.length]
   refine SeqAt.in_listAt f pl.isList (fun w hw=>g2 w (by simpa using hw)) ⟨.bl _,H,I,rfl,?_⟩;have:its.toArray.any f=xs.any fun x=>CB x d1:=by
    rw[show its.toArray.any f=its.any f by simp];have em:its.map f=xs.map fun x=>CB x d1:=by apply ext_getElem (by simp[hl]);intro n h1 h2;rw[getElem_map,getElem_map,g1 n (by simpa using h1)];unfold IG;rw[getElem?_eq_getElem (by simpa using h2)]
    have:=congrArg (fun l=>l.any id) em;simpa[any_map]using this
   rw[this];exact k ρ _ H (b0.mpr rfl) S (Ext.refl _ _)
end
section
variable{X:Cx}{tg:Expr}
noncomputable def aI(f:RE):RI:=fun l h=>(f l h).bind fun r=>match r.1 with | .str x=>some (.vals (x.cps.toList.map fun c=>Dt.str ⟨#[c]⟩),r.2) | _=>none
theorem uW{a:Expr}{f:RE}(ha:EM X a f):IM X tg a (aI f):=by
 with_unfolding_all
  exact PI.imp (QW ha) fun σ H R zz=>by
   obtain⟨ρ,l,h,s,h',S,L,e,k⟩:=zz;obtain⟨⟨d1,h1⟩,e1,e⟩:=eA e;refine⟨ρ,l,h,d1,h1,S,L,e1,fun ρ1 v H1 R1 S1 E1=>?_⟩;dsimp only at e;split at e
   · rename_i x;cases e;cases o0.mp R1;refine⟨x,rfl,k ρ1 _ H1 (fun H2 ρ2 h2 E2 S2 i=>?_) S1 E1⟩;simp only[Src.at];cases ei:(x.cps.toList.map fun c=>Dt.str ⟨#[c]⟩)[i]? with
     | none=>show x.cps.size<=i;simpa using getElem?_eq_none_iff.mp ei
     | some d=>
      have hi:i<x.cps.size:=by simpa using (aj ei).1
      refine⟨hi,fun u H3 y=>?_⟩;obtain⟨rfl,c,y1,rfl⟩:=y;rw[getElem?_map]at ei;rw[Array.getElem?_toList,y1]at ei;cases ei;exact⟨o0.mpr rfl,Ext.refl _ _,S2⟩
   · cases e
end
end SM
namespace L2
noncomputable abbrev MJ (t:Tok):List (Str×Value):=[(Str.ofString "start", .int 1 t)]
theorem gU {self a:Value} {t:Tok}:Meets (Builtin.«object.__init__» ⟨[self,a],MJ t⟩) (fun _ R s=>s.TypeIs self "enumerate" /\ R (.ok (.ret .none)) s):=by
 have hl:=F.called_enumerate.init.lookup;have hm:=F.called_enumerate.made;refine .of_wp fun prog w A R s zz=>?_
 obtain⟨hT,hq⟩:=zz
 repeat (any_goals (first | assumption | wp_step))
 all_goals exact⟨_,rfl,hq⟩
theorem CW(l:Addr)(its:Array Value)(m:Nat)(dc:Option Addr)(sl:Array (Option Value))(t:Tok) :
 Meets (Builtin.«enumerate.__new__» ⟨[.type "enumerate", .ref l],MJ t⟩) (fun _ R s=>s.heap.get? l=some { cls:=.type "list",dict:=dc,data:=.seq its m,slots:=sl }/\
  R (.ok (.ret (.ref (s.heap.push { cls:=.type "list_iterator",data:=.fields #[.ref l,.int 0 0] }).objs.size))) { s with heap:=(s.heap.push { cls:=.type "list_iterator",data:=.fields #[.ref l,.int 0 0] }).push { cls:=.type "enumerate",data:=.fields #[.none,.bool false,.ref s.heap.objs.size,rawInt 1,.none,.none] } }):=
 .of_wp fun prog w A R s zz=>by
  obtain⟨hl,hq⟩:=zz;obtain⟨hp,g,d,tk,os⟩:=s;have hsub:=sub_enumerate;have hL:Heap.IsList (Shared.heap ⟨hp,g,d,tk,os⟩) l its:=⟨_,hl,rfl,m,rfl⟩
  wp_walk using AutoSeq1.wpAny_loadPart' hl
  refine wpAny_stack_any fun st=>wpAny_pure ?_
  split
  · rename_i c _ _ _ _ _;cases (c==Value.type "enumerate")<;>(wp_walk using AutoSeq1.wpAny_loadPart' hl,wpAny_pyIter_list hL)
    all_goals exact⟨_,rfl,hq⟩
  · wp_walk using AutoSeq1.wpAny_loadPart' hl,wpAny_pyIter_list hL
    exact⟨_,rfl,hq⟩
section
variable{prog:Program}{w:World}{A:Around}{E:Value->Shared->Prop}{s:Shared}
theorem fS{l:Addr}{its:Array Value}{t:Tok}{Q:Value->Shared->Prop}(hL:s.heap.IsList l its)
 (q:∀h',IsEnum h' (s.heap.objs.size+1) s.heap.objs.size 1 .none->h'.IsListIter s.heap.objs.size l 0->(∀b o,s.heap.get? b=some o->h'.get? b=some o)->Q (.ref (s.heap.objs.size+1)) { s with heap:=h' }):wpAny (model prog w) A (call (.type "enumerate") [.ref l] (MJ t)) Q E s:=by
 obtain⟨⟨c,dc,dt,sl⟩,hl,hc,m,hd⟩:=hL
 replace hc:c=.type "list" :=hc
 replace hd:dt=.seq its m:=hd
 subst hc hd;have ft:=F.called_enumerate;obtain⟨c0,tl,hmro⟩:=ft.mro;have hmade:=ft.made;have hsub:=ft.sub;have hct:checkTypeCall "enumerate" ⟨[.ref l],MJ t⟩=pure ():=by kernel_rfl
 have hcn:checkBuiltinCall "enumerate.__new__" ⟨[.type "enumerate", .ref l],MJ t⟩=pure ():=by kernel_rfl
 have hz:(s.heap.push { cls:=.type "list_iterator",data:=.fields #[.ref l,.int 0 0] }).objs.size=s.heap.objs.size+1:=Heap.size_push ..;refine wpAny_call (codeAny_of_tree ?_);show wpAny _ _ (callAny (.type "enumerate") _) _ _ _;refine wpAny_pure ⟨Code.quiet_builtin _ (by decide +kernel),codeAny_builtin F.entry_type_call ?_⟩;rw[Around.under_plain (weight_type_call_type "enumerate" [.ref l] (MJ t)) (units_type_call_type "enumerate" [.ref l] (MJ t))];have g1:=ft.notType;have g2:=ft.canCreate
 repeat (any_goals (first | assumption | wp_step))
 refine codeAny_mono (codeAny_call_builtin ft.plain F.entry_enumerate_new (wpAny_of_eq hcn (CW l its m dc sl t prog w A.in1 (wants (fun ob s1=>ob=.ref (s.heap.objs.size+1)/\∃h',s1={ s with heap:=h' }/\IsEnum h' (s.heap.objs.size+1) s.heap.objs.size 1 .none/\h'.IsListIter s.heap.objs.size l 0/\∀b o,s.heap.get? b=some o->h'.get? b=some o) fun _ _=>False) s ⟨hl,?_⟩))) fun r s1 hr=>?_
 · rw[hz];have he:=Heap.get?_push_size (s.heap.push { cls:=.type "list_iterator",data:=.fields #[.ref l,.int 0 0] }) (o:={ cls:=.type "enumerate",data:=.fields #[.none,.bool false,.ref s.heap.objs.size,rawInt 1,.none,.none] }) rfl;rw[hz]at he;exact⟨rfl,_,rfl,he,⟨_,Heap.get?_push_of_some _ (Heap.get?_push_size _ rfl),rfl,rfl⟩,fun b o x=>Heap.get?_push_of_some _ (Heap.get?_push_of_some _ x)⟩
 · cases r with
   | error e=>exact hr.elim
   | ok fl=>
    cases fl with
    | ret ob=>
     obtain⟨rfl,h',rfl,he,hit,kp⟩:=hr;have hT:Shared.TypeIs { s with heap:=h' } (.ref (s.heap.objs.size+1)) "enumerate" :=⟨_,he,rfl⟩;have hli:=ft.init.lookup;have hbi:=ft.init.bind (.ref (s.heap.objs.size+1))
     repeat (any_goals (first | assumption | wp_step))
     refine codeAny_mono (codeAny_call_builtin ft.init.plain F.entry_object_init (ft.init.check _ _ _ _ _ _ _ _ hT (by unfold argsOk;kernel_rfl) (gU prog w A.in1 (wants (fun r s2=>r=.none/\s2={ s with heap:=h' }) fun _ _=>False) _ ⟨hT,rfl,rfl⟩))) fun r2 s2 h2=>?_
     cases r2 with
     | error e=>exact h2.elim
     | ok f2=>
      cases f2 with
      | ret r=>
       obtain⟨rfl,rfl⟩:=h2;have fin:=q h' he hit kp
       repeat (any_goals (first | assumption | wp_step))
      | _=>exact h2.elim
    | _=>exact hr.elim
end
theorem wU{prog:Program}{w:World}{A:Around}(hh:A.handled=none)(it l:Addr)(hne:l≠it)(its:Array Value) :
 Draws prog w A it [it,l] (its.size+1) (fun i v=>∃j,i=j+1/\its[j]?=some v) (fun i h=>∃j,i=j+1/\h.IsListIter it l j/\h.IsList l its):=by
 have D:=Draws.list (prog:=prog) (w:=w) hh it l hne its;refine⟨fun _ h ⟨j,_,st⟩=>D.live j h st,fun _ h h' ⟨j,e,st⟩ hk=>⟨j,e,D.frame j h h' st hk⟩,fun i s Q E hi ⟨j,e,st⟩ hQ=>?_,fun s Q E ⟨j,e,st⟩ hE=>?_⟩
 · subst e;exact D.item j s Q E (by omega) st fun x h' tk hp st' sb=>hQ x h' tk ⟨j,rfl,hp⟩ ⟨j+1,rfl,st'⟩ sb
 · have e:its.size=j:=by omega
   subst e;exact D.done s Q E st hE
theorem pT{prog:Program}{w:World}{A:Around}(hh:A.handled=none)(it l:Addr)(its:Array Value)(i:Nat)(hx:its[i]?=none) :
 Draws prog w A it [it,l] (i+1) (fun _ _=>True) (fun k h=>k=i+1/\h.IsListIter it l i/\h.IsList l its):=
 ⟨fun _ _ ⟨_,⟨o,ho,_⟩,_⟩=>⟨o,ho⟩,fun _ _ _ ⟨e,st,sl⟩ hk=>⟨e,st.at fun o e=>hk it (by simp) o e,sl.at fun o e=>hk l (by simp) o e⟩,fun k s Q E hk st _=>absurd st.1 (Nat.ne_of_lt hk),fun s Q E st hE=>wpAny_nextOf_list_end hh st.2.1 st.2.2 hx hE⟩
def oN(K:Frag)(a:Addr):It:=
 ⟨fun i H=>∃xs x,Y0 K H a xs/\xs[i]?=some x,fun i H x H'=>∃p y,H p=none/\x=.ref p/\(∀xs,Y0 K H a xs->xs[i]?=some y)/\H'=FB H p (.tup [.int ((i+1:Nat):Int),y]),fun i H=>∃xs,Y0 K H a xs/\xs.length<=i⟩
theorem WT{P:Program}{w:World}{K:Frag}{elts:List Expr}{x1}{pos:Pos}(a e it:Addr)(hne:e≠it):XF P w K (.Tuple elts x1 pos) (oN K a) [e,it] e (fun i h=>(∃old,IsEnum h e it ((i+1:Nat):Int) old)/\h.IsListIter it a i) where
 mem:=by simp
 obj:=fun i h st b hb=>by
  obtain⟨⟨old,s1⟩,o,q,c,d⟩:=st;have z:b=e\/b=it:=by simpa using hb
  rcases z with rfl | rfl
  · exact⟨_,s1,fun v z=>by cases z⟩
  · exact⟨o,q,fun v z=>by rw[d]at z;cases z⟩
 keep:=fun i h h' st k=>by obtain⟨⟨old,s1⟩,s2⟩:=st;exact⟨⟨old,k e (by simp) _ s1⟩,s2.at fun o e=>k it (by simp) o e⟩
 item:=by
  intro X hP hw hK hc i pins s σ H E I hf st hg;subst hP hw hK;obtain⟨⟨old,s1⟩,s2⟩:=st;obtain⟨xs,x,hq,hx⟩:=hg;obtain⟨its,rv,p,hz⟩:=I.list hq;obtain⟨u,hu,ru⟩:=rv.get hx;have fe:=hf e (by simp);have fi:=hf it (by simp);have hL:=p.isList;have p9:e≠a:=fun z=>by obtain⟨o,q,_,n,d⟩:=hL;rw[<- z,show s.heap.get? e=_ from s1]at q;cases q;cases d
  have q9:a≠it:=fun z=>by obtain⟨o,q,_,n,d⟩:=hL;obtain⟨o2,q2,_,d2⟩:=s2;rw[z,q2]at q;cases q;rw[d2]at d;cases d
  have hi:i<its.toArray.size:=by simpa using (aj hu).1
  refine wpAny_pyNext_enum_itemD (wU (prog:=X.prog) (w:=X.w) (A:=X.A.in1) (I.ok.hd hc) it a q9 its.toArray) s1 ⟨i,rfl,s2,hL⟩ (by omega) hne (by simp[hne,p9]) fun y h' tk hp out st' tup sz kp=>?_
  obtain⟨j,ej,gj⟩:=hp;have ej:j=i:=by omega
  subst ej;have ey:y=u:=by rw[show its.toArray[j]?=its[j]? by simp,hu]at gj;cases gj;rfl
  subst ey;obtain⟨j2,e2,it',_⟩:=st';have e2:j2=j+1:=by omega
  subst e2;refine⟨_,rfl,wpAny_letOwnedTupleGo_enum out fun h2 he2 sb=>?_⟩;have hpe:s.heap.objs.size≠e:=(Nat.ne_of_lt (Heap.lt_size s1)).symm;have hpi:s.heap.objs.size≠it:=by obtain⟨o,q,_⟩:=s2;exact(Nat.ne_of_lt (Heap.lt_size q)).symm
  have t2:h2.get? s.heap.objs.size=some { cls:=.type "tuple",data:=.seq #[.int ((j+1:Nat):Int) tk,y] }:=(sb.2 _ hpe).trans tup;refine⟨.ref s.heap.objs.size,FB H s.heap.objs.size (.tup [.int ((j+1:Nat):Int),x]),I.K4 (t':=tk+1) (fun b o h1 h3 q=>(sb.2 b h1).trans (kp b o h1 h3 q)) fe fi (fj _) ⟨by simp only[Q9,R9];rw[sizeLine_eq];decide,[.int ((j+1:Nat):Int) tk,y],.cons ⟨_,rfl⟩ (.cons ru .nil),⟨_,t2,rfl,_,rfl⟩⟩,rfl,⟨_,x,I.hok.fresh (fj _),rfl,fun ys hy=>by rw[I.B2 hy hq];exact hx,rfl⟩,⟨⟨_,he2⟩,it'.at fun o q=>(sb.2 it (Ne.symm hne)).trans q⟩,fun b hb=>?_⟩;have z:b=e\/b=it:=by simpa using hb
  rcases z with rfl | rfl
  · rw[HA (Ne.symm hpe)];exact fe.1
  · rw[HA (Ne.symm hpi)];exact fi.1
 done:=by intro X hP hw hK hc i pins s σ H E I hf st hg;subst hP hw hK;obtain⟨⟨old,s1⟩,s2⟩:=st;obtain⟨xs,hq,hx⟩:=hg;obtain⟨its,rv,p,hz⟩:=I.list hq;have hl:=rv.length;exact wpAny_pyNext_enum_endD (pT (prog:=X.prog) (w:=X.w) (A:=X.A.in1) (I.ok.hd hc) it a its.toArray i (by simp;omega)) s1 ⟨rfl,s2,p.isList⟩ fun h' eb=>⟨rfl,I.v4 (t':=s.toks) (fun b o _ h3 q=>eb b o h3 q) (hf e (by simp)) (hf it (by simp))⟩
 self:=fun _ _ _ _ _ st h=>by obtain⟨⟨old,s1⟩,_⟩:=st;exact wpAny_pyIter_enum s1 h
theorem aS{M:Model}{A:Around}{E:Value->Shared->Prop}{s:Shared}{env:Env}{pos:Pos}{T:String}{e:Expr}{rest:List Expr}{kws:List Keyword}{Q:Value->Shared->Prop}
 (h:wpAny M A (spliced (backTo pos (starEach (e::rest) env))) (fun us s1=>wpAny M A (evalAll ((backToKw pos (keywordEach kws env)).map (·.2))) (fun ws s2=>wpAny M A (call (.type T) us (((backToKw pos (keywordEach kws env)).filterMap (·.1)).zip ws)) Q E s2) E s1) E s)
 (he:backTo pos (starEach (e::rest) env)=(false,eval e env)::backTo pos (starEach rest env)) (hp:(backTo pos (starEach (e::rest) env)).any (·.1)=false) (hl:(backToKw pos (keywordEach kws env)).all (·.1.isSome)=true) (hk:(backToKw pos (keywordEach kws env)).any (·.1.isNone)=false) :
 wpAny M A (callWith pos (.type T) [] (backTo pos (starEach (e::rest) env)) (backToKw pos (keywordEach kws env))) Q E s:=by
 unfold callWith;refine wpAny_bind (wpAny_holding (wpAny_mono (Q:=fun a s1=>wpAny M A (call (.type T) a.pos a.kw) Q E s1) (by rw[he]at h ⊢;exact evalArgs_kwB hl h) (fun a s1 h1=>wpAny_bind (wpAny_standAt ?_)) fun _ _ x=>x));simp only[hp,hk,Bool.or_false];refine wpAny_bind (wpAny_pure ?_);exact wpAny_bind (wpAny_mono h1 (fun r s2 hr=>wpAny_bind (wpAny_holding (wpAny_point (wpAny_pure hr)))) fun _ _ x=>x)
section
variable{X:Cx}
theorem uV {elts:List Expr} {x1} {tp:Pos} {a d:Expr} {ta:TA} {p pos kp:Pos} (hg:Gl X "enumerate") (hm:X.mg "enumerate" =none) (ha:PA X [a] ta) (hd:PE X d (tC (.int 1))) (hs:starEach [a] X.env=[(false,eval a X.env)]:=by rfl) :
 PI X (.Tuple elts x1 tp) (.Call (.Name "enumerate" p) [a] [⟨some "start",d,kp⟩] pos) (fun σ H R=>ta σ H fun vs H1=>∃a,vs=[.ref a]/\(∃xs,Y0 X.K H1 a xs)/\R (oN X.K a) H1):=by
 intro pins s σ H R I h;refine wpAny_Call_Name_kw (yG I hg hm boot_enumerate ?_);refine aS ?z1 (by rw[hs];rfl) (by rw[hs];rfl) rfl rfl;refine WA (ha pos pins s σ H _ I h) fun us s0 ⟨vs,H1,I0,r1,b,e,⟨xs,hq⟩,q⟩=>?z2
 refine kws_cons ?z3;refine WA (hd pins s0 σ H1 (fun v H'=>v=.int 1/\H'=H1) I0 ⟨rfl,rfl⟩) fun v s1 ⟨y,H2,I1,ry,ey,eH⟩=>?z4
 subst ey eH;obtain⟨t,rfl⟩:=ry;refine kws_nil ?z5;show wpAny _ _ (call (.type "enumerate") us (MJ t)) _ _ _;subst e;obtain⟨u,rfl,rx⟩:=cE r1;cases rx;obtain⟨its,rv,pl,hz⟩:=I1.list hq;refine fS pl.isList fun h' he hit k=>?_
 have I2:Inv X pins σ H2 { s1 with heap:=h' }:=I1.kept (t':=s1.toks) k;refine wpAny_pyIter_enum he ?_;refine⟨s1.heap.objs.size+1,[s1.heap.objs.size+1,s1.heap.objs.size],_,_,H2,rfl,I2,WT b (s1.heap.objs.size+1) s1.heap.objs.size (Nat.succ_ne_self _),⟨⟨_,he⟩,hit⟩,fun c hc=>?_,q⟩;have z:c=s1.heap.objs.size+1\/c=s1.heap.objs.size:=by simpa using hc
 rcases z with rfl | rfl
 · exact I1.P3 (Nat.le_succ _) (I1.hok.fresh (Nat.le_succ _))
 · exact I1.P3 (fj _) (I1.hok.fresh (fj _))
end
end L2
namespace SM
section
variable{X:Cx}
def rJ(f:RE):RI:=fun l h=>(f l h).bind fun r=>match r.1 with | .lst xs=>some (.vals (mC 1 xs),r.2) | _=>none
theorem fU {elts:List Expr} {x1} {tp p pos kp k9:Pos} {j} {a:Expr} {f:RE} (hg:Gl X "enumerate") (hm:X.mg "enumerate" =none) (ha:EM X a f) (hs:AB a=true:=by rfl):IM X (.Tuple elts x1 tp) (.Call (.Name "enumerate" p) [a] [⟨some "start", .Constant (.int 1) j k9,kp⟩] pos) (rJ f):=by
 with_unfolding_all
  refine PI.imp (uV hg hm (LC ha xD (vB hs _ _)) gQ (vB hs _ _)) fun σ H R zz=>?_
  obtain⟨ρ,l,h,s,h',S,L,e,k⟩:=zz;obtain⟨⟨d1,h2⟩,e1,e⟩:=eA e;refine⟨ρ,l,h,d1,h2,S,L,e1,fun ρ1 v H1 R1 S1 E1=>?_⟩;cases d1 with
  | lst xs=>
   cases e;obtain⟨b,ws,rfl,q,r⟩:=u0.mp R1;refine⟨b,rfl,⟨ws,q.sq⟩,k ρ1 _ H1 (fun H2 ρ2 h2 E2 S2 i=>?_) S1 E1⟩;have q2:=q.same E2;have r2:=YZ.same E2 _ r;simp only[Src.at,sO];cases ei:xs[i]? with
   | none=>refine⟨ws,q2.sq,?_⟩;rw[r.length];exact getElem?_eq_none_iff.mp ei
   | some d=>obtain⟨v,g1,g2⟩:=r2.get ei;refine⟨⟨ws,v,q2.sq,g1⟩,fun u H3 y=>?_⟩;obtain⟨p0,y0,hp,rfl,gy,rfl⟩:=y;have g3:=gy ws q2.sq;rw[g1]at g3;cases g3;exact⟨FP S2 (.cons (ZZ.mpr (by rw[Nat.add_comm])) (.cons g2 .nil)) hp,Ext.fresh hp,S2.fresh hp⟩
  | _=>cases e
end
noncomputable def fB{α β:Type}(o:Option α)(f:α->Option β):Option β:=o.bind f
@[simp] theorem kA{α β:Type}(a:α)(f:α->Option β):fB (some a) f=f a:=by rfl
@[simp] theorem SZ{α β:Type}{c:Prop}[Decidable c](a b:Option α)(k:α->Option β):fB (if c then a else b) k=if c then fB a k else fB b k:=by split<;>rfl
section
variable{l:LI}{h:HI}{f g fa fb fc:RE}
@[simp] theorem uA(d:Dt):eC d l h=some (d,h):=by rfl
noncomputable def UJ(h:HI):Option (Option Dt)->Option (Dt×HI)
 | some (some d)=>some (d,h)
 | _=>none
@[simp] theorem rA(d:Dt):UJ h (some (some d))=some (d,h):=by rfl
@[simp] theorem qA(i:Nat):eV i l h=UJ h l[i]?:=by unfold eV UJ;rfl
@[simp] theorem wA(op:bC):e2 op fa fb l h=fB (fa l h) fun r=>fB (fb l r.2) fun q=>op r.1 q.1 q.2:=by rfl
@[simp] theorem KA:pA l h=some ([],h):=by rfl
@[simp] theorem MA(r:RA):cA f r l h=fB (f l h) fun r'=>fB (r l r'.2) fun q=>some (r'.1::q.1,q.2):=by rfl
noncomputable def gZ:Dt×HI->Option (Bool×HI)
 | (.bl b,h)=>some (b,h)
 | _=>none
@[simp] theorem GA(b:Bool):gZ (.bl b,h)=some (b,h):=by rfl
@[simp] theorem EA:D0 f l h=fB (f l h) gZ:=by
 unfold fB;unfold D0
 congr 1
 funext r
 obtain⟨d,h⟩:=r;cases d<;>rfl
@[simp] theorem sF(t u:RT):xE t u l h=fB (t l h) fun r=>if r.1=true then u l r.2 else some (false,r.2):=by rfl
@[simp] theorem pD(t u:RT):PB t u l h=fB (t l h) fun r=>if r.1=true then some (true,r.2)else u l r.2:=by rfl
@[simp] theorem qE(t:RT):oC t l h=fB (t l h) fun r=>some (!r.1,r.2):=by rfl
noncomputable def DQ(u:RE)(l:LI):Dt×HI->Option (Dt×HI)
 | (.bl true,h)=>u l h
 | (.bl false,h)=>some (.bl false,h)
 | _=>none
noncomputable def DN(u:RE)(l:LI):Dt×HI->Option (Dt×HI)
 | (.bl true,h)=>some (.bl true,h)
 | (.bl false,h)=>u l h
 | _=>none
@[simp] theorem OZ(u:RE)(b:Bool):DQ u l (.bl b,h)=if b=true then u l h else some (.bl false,h):=by cases b<;>rfl
@[simp] theorem XO(u:RE)(b:Bool):DN u l (.bl b,h)=if b=true then some (.bl true,h)else u l h:=by cases b<;>rfl
@[simp] theorem AZ(u:RE):eF f u l h=fB (f l h) (DQ u l):=by
 unfold fB;unfold eF
 congr 1
 funext r
 obtain⟨d,h⟩:=r;cases d<;>(try rfl);rename_i b;cases b<;>rfl
@[simp] theorem AQ(u:RE):CN f u l h=fB (f l h) (DN u l):=by
 unfold fB;unfold CN
 congr 1
 funext r
 obtain⟨d,h⟩:=r;cases d<;>(try rfl);rename_i b;cases b<;>rfl
noncomputable def EQ:Dt×HI->Option (Dt×HI)
 | (.bl b,h)=>some (.bl (!b),h)
 | _=>none
@[simp] theorem PZ(b:Bool):EQ (.bl b,h)=some (.bl (!b),h):=by rfl
@[simp] theorem BZ:mI f l h=fB (f l h) EQ:=by
 unfold fB;unfold mI
 congr 1
 funext r
 obtain⟨d,h⟩:=r;cases d<;>rfl
@[simp] theorem eN(t:RT):RQ t f g l h=fB (t l h) fun r=>if r.1=true then f l r.2 else g l r.2:=by rfl
noncomputable def dZ(o':bC)(fc:RE)(l:LI)(q:Dt):Dt×HI->Option (Dt×HI)
 | (.bl true,h)=>(fc l h).bind fun r=>o' q r.1 r.2
 | (.bl false,h)=>some (.bl false,h)
 | _=>none
@[simp] theorem UZ(o':bC)(q:Dt)(b:Bool):dZ o' fc l q (.bl b,h)=if b=true then fB (fc l h) fun r=>o' q r.1 r.2 else some (.bl false,h):=by cases b<;>rfl
@[simp] theorem TZ(o o':bC):PF o o' fa fb fc l h=fB (fa l h) fun r=>fB (fb l r.2) fun q=>fB (o r.1 q.1 q.2) (dZ o' fc l q.1):=by
 unfold fB;unfold PF
 congr 1
 funext r
 congr 1
 funext q
 congr 1
 funext z
 obtain⟨d,h⟩:=z;cases d<;>(try rfl);rename_i b;cases b<;>rfl
@[simp] theorem aD(r:RA):VC r l h=fB (r l h) fun r=>if r.1.length<=sizeLine then some (.tup r.1,r.2)else none:=by rfl
@[simp] theorem zG(r:RA):eE r l h=fB (r l h) fun r=>if r.1.length<=sizeLine then some (.lst r.1,r.2)else none:=by rfl
@[simp] theorem KM(r:RA):DE r l h=fB (r l h) fun r=>if r.1.length<=sizeLine then some (.ref r.2.length,r.2++[.lst r.1])else none:=by rfl
noncomputable def tN:Dt×HI->Option (Dt×HI)
 | (.int b,h)=>some (.int (-b),h)
 | _=>none
@[simp] theorem bJ(b:Int):tN (.int b,h)=some (.int (-b),h):=by rfl
@[simp] theorem JJ:lE f l h=fB (f l h) tN:=by
 unfold fB;unfold lE
 congr 1
 funext r
 obtain⟨d,h⟩:=r;cases d<;>rfl
@[simp] theorem oD(i j:Int):zC (.int i) (.int j) h=some (.int (i+j),h):=by rfl
@[simp] theorem NY(i j:Int):YJ (.int i) (.int j) h=some (.int (i-j),h):=by rfl
@[simp] theorem yZ(i j:Int):HJ (.int i) (.int j) h=some (.int (Builtin.bitAnd i j),h):=by rfl
@[simp] theorem QG(i j:Int):iI (.int i) (.int j) h=some (.bl (decide (i<j)),h):=by rfl
@[simp] theorem iZ(i j:Int):gI (.int i) (.int j) h=some (.bl (decide (i<=j)),h):=by rfl
@[simp] theorem ZJ(i j:Int):jN (.int i) (.int j) h=some (.bl (decide (j<i)),h):=by rfl
@[simp] theorem wN(i j:Int):gR (.int i) (.int j) h=some (.bl (decide (j<=i)),h):=by rfl
theorem LH{i j:Int}(c:X2 i j):dF (.int i) (.int j) h=some (.int (i*j),h):=by simp only[dF,oI,if_pos c]
theorem bF{i j:Int}(c:KG i j):XC (.int i) (.int j) h=some (.int (i/j),h):=by simp only[XC,oI,if_pos c]
theorem EB{i j:Int}(c:0<j):gB (.int i) (.int j) h=some (.int (i%j),h):=by simp only[gB,oI,if_pos c]
theorem MY{i j:Int}(c:zE i j):dG (.int i) (.int j) h=some (.int (i^j.toNat),h):=by simp only[dG,oI,if_pos c]
theorem vQ{i j:Int}(c:zE i j):NG (.int i) (.int j) h=some (.int (i*2^j.toNat),h):=by simp only[NG,oI,if_pos c]
theorem wQ{i j:Int}(c:0<=j):OG (.int i) (.int j) h=some (.int (i/2^j.toNat),h):=by simp only[OG,oI,if_pos c]
@[simp] theorem fD(i j:Int):VA (.int i) (.int j) h=some (.bl (decide (i=j)),h):=by show some (Dt.bl (decide (V.int i=V.int j)),h)=_;simp
@[simp] theorem AF(i j:Int):OB (.int i) (.int j) h=some (.bl (!decide (i=j)),h):=by show some (Dt.bl (!decide (V.int i=V.int j)),h)=_;simp
@[simp] theorem FC(i j:Str):VA (.str i) (.str j) h=some (.bl (decide (i=j)),h):=by show some (Dt.bl (decide (V.str i=V.str j)),h)=_;simp
@[simp] theorem HZ(i j:Str):OB (.str i) (.str j) h=some (.bl (!decide (i=j)),h):=by show some (Dt.bl (!decide (V.str i=V.str j)),h)=_;simp
theorem JY{xs ys:List Dt}(c:IC xs ys=true):VA (.lst xs) (.lst ys) h=some (.bl (dC xs ys),h):=by simp only[VA,if_pos c]
theorem LY{xs ys:List Dt}(c:IC xs ys=true):OB (.lst xs) (.lst ys) h=some (.bl (!dC xs ys),h):=by simp only[OB,if_pos c]
@[simp] theorem lF{α:Type}(xs:List α)(k:Nat):X1 xs (k:Int)=xs[k]?:=by
 unfold X1 VF;rw[if_pos (by omega)];by_cases hk:k<xs.length
 · rw[if_pos (by omega)];simp
 · rw[if_neg (by omega)];simp;omega
@[simp] theorem GZ(xs:List Dt)(i:Int):iA (.tup xs) (.int i) h=(X1 xs i).map fun d=>(d,h):=by rfl
@[simp] theorem IJ(xs:List Dt)(i:Int):iA (.lst xs) (.int i) h=(X1 xs i).map fun d=>(d,h):=by rfl
theorem KY{n:Nat}{xs:List Dt}(e:h[n]?=some (.lst xs))(i:Int):iA (.ref n) (.int i) h=(X1 xs i).map fun d=>(d,h):=by simp only[iA,DD,jA,e,X9]
noncomputable def oR(g:RS):Rs->Option Rs
 | .nx l h=>g l h
 | r=>some r
@[simp] theorem cB(g:RS):oR g (.nx l h)=g l h:=by rfl
@[simp] theorem XD(g:RS)(d:Dt):oR g (.rt d h)=some (.rt d h):=by rfl
@[simp] theorem XA(f g:RS):gA f g l h=fB (f l h) (oR g):=by
 unfold fB;unfold gA
 congr 1
@[simp] theorem zB:eB l h=some (.nx l h):=by rfl
@[simp] theorem MB(i:Nat):UA i f l h=fB (f l h) fun r=>some (.nx (l.set i (some r.1)) r.2):=by rfl
@[simp] theorem ME:aE f l h=fB (f l h) fun r=>some (.nx l r.2):=by rfl
@[simp] theorem bB:vA f l h=fB (f l h) fun r=>some (.rt r.1 r.2):=by rfl
@[simp] theorem YA(t:RT)(f g:RS):lC t f g l h=fB (t l h) fun r=>if r.1=true then f l r.2 else g l r.2:=by rfl
noncomputable def ZF:Option Rs->Option (Dt×HI)
 | some (.rt d h')=>some (d,h')
 | some (.nx _ h')=>some (.non,h')
 | _=>none
@[simp] theorem dB(d:Dt):ZF (some (.rt d h))=some (d,h):=by rfl
@[simp] theorem vZ{c:Prop}[Decidable c](a b:Option Rs):ZF (if c then a else b)=if c then ZF a else ZF b:=by split<;>rfl
@[simp] theorem aB(n N:Nat)(body:RS)(ds:List Dt):fC n N body ds h=if ds.length=n then ZF (body (ds.map some++List.replicate (N-n) none) h)else none:=by unfold fC ZF;rfl
@[simp] theorem lB(F:HB)(V2:List Dt)(g:RA):zA F V2 g l h=fB (g l h) fun r=>F (r.1++V2) r.2:=by rfl
@[simp] theorem aW(F:HB)(V2:List Dt):zJ F V2 l h=F V2 h:=by rfl
noncomputable def pR(go:LI->HI->Option Rs):Rs->Option Rs
 | .nx l h=>go l h
 | .ct l h=>go l h
 | .bk l h=>some (.nx l h)
 | .rt d h=>some (.rt d h)
@[simp] theorem DZ(go:LI->HI->Option Rs):pR go (.nx l h)=go l h:=by rfl
@[simp] theorem CZ(go:LI->HI->Option Rs):pR go (.ct l h)=go l h:=by rfl
def sC(bd:RG)(body:RS):List Dt->LI->HI->Option Rs
 | [],l,h=>some (.nx l h)
 | x::xs,l,h=>(bd x l).bind fun l1=>(body l1 h).bind (pR (sC bd body xs))
theorem vO(bd:RG)(body:RS)(xs:List Dt):∀(n k:Nat)(l:LI)(h:HI),n=(xs.length-k)+1->k<=xs.length->AD bd body (.vals xs) n k l h=sC bd body (xs.drop k) l h:=by
 intro n
 induction n with
 | zero=>intro k l h e;omega
 | succ n ih=>
  intro k l h e hk;unfold AD;simp only[Src.at];by_cases hl:k<xs.length
  · rw[getElem?_eq_getElem hl,drop_eq_getElem_cons hl];simp only[sC]
    congr 1
    funext l1
    congr 1
    funext r
    cases r with
    | nx l' h'=>exact ih (k+1) l' h' (by omega) (by omega)
    | ct l' h'=>exact ih (k+1) l' h' (by omega) (by omega)
    | bk l' h'=>rfl
    | rt d h'=>rfl
  · rw[getElem?_eq_none (by omega),drop_eq_nil_of_le (by omega)];rfl
theorem wZ{g:RI}{xs:List Dt}{h':HI}(e:g l h=some (.vals xs,h'))(bd:RG)(body:RS):CD g bd body l h=sC bd body xs l h':=by unfold CD;rw[e];simp only[X9,Src.fuel];exact vO bd body xs _ 0 _ _ (by omega) (by omega)
@[simp] theorem AG(i:Nat)(d:Dt):SA i d l=some (l.set i (some d)):=by rfl
def aG(bd:RG)(body:RS)(l:LI):Src×HI->Option Rs:=fun r=>AD bd body r.1 (r.1.fuel r.2) 0 l r.2
@[simp] theorem rF(g:RI)(bd:RG)(body:RS):CD g bd body l h=fB (g l h) (aG bd body l):=by rfl
@[simp] theorem FF(bd:RG)(body:RS)(xs:List Dt):aG bd body l (.vals xs,h)=sC bd body xs l h:=by unfold aG;simp only[Src.fuel];exact vO bd body xs _ 0 _ _ (by omega) (by omega)
noncomputable def xN:Dt×HI->Option (Src×HI)
 | (.int j,h)=>if -(2^62)<=j/\j<2^62 then some (.vals ((List.range j.toNat).map fun(k:Nat)=>Dt.int (k:Int)),h)else none
 | _=>none
@[simp] theorem DG:JG f l h=fB (f l h) xN:=by
 unfold fB;unfold JG
 congr 1
 funext r
 obtain⟨d,h⟩:=r;cases d<;>rfl
theorem zP{j:Int}(a:-(2^62)<=j)(b:j<2^62):xN (.int j,h)=some (.vals ((List.range j.toNat).map fun(k:Nat)=>Dt.int (k:Int)),h):=if_pos ⟨a,b⟩
noncomputable def kR:Dt->Dt×HI->Option (Src×HI)
 | .int i,(.int j,h)=>if -(2^62)<=i/\i<2^62/\-(2^62)<=j/\j<2^62 then some (.vals ((List.range (j-i).toNat).map fun(k:Nat)=>Dt.int (i+(k:Int))),h)else none
 | _,_=>none
@[simp] theorem fY:OQ f g l h=fB (f l h) fun r=>fB (g l r.2) (kR r.1):=by
 unfold fB;unfold OQ
 congr 1
 funext r
 obtain⟨d,h⟩:=r
 congr 1
 funext q
 obtain⟨d',h'⟩:=q;cases d<;>cases d'<;>rfl
theorem bW{i j:Int}(a:-(2^62)<=i)(a':i<2^62)(b:-(2^62)<=j)(b':j<2^62):kR (.int i) (.int j,h)=some (.vals ((List.range (j-i).toNat).map fun(k:Nat)=>Dt.int (i+(k:Int))),h):=if_pos ⟨a,a',b,b'⟩
def RD:Dt×HI->Option (Src×HI)
 | (.lst xs,h)=>some (.vals xs,h)
 | (.ref n,h)=>if 0<Src.fuel (.rf n) h then some (.rf n,h)else none
 | _=>none
@[simp] theorem sG(xs:List Dt):RD (.lst xs,h)=some (.vals xs,h):=by rfl
@[simp] theorem YE:yC f l h=fB (f l h) RD:=by
 unfold fB;unfold yC sN;cases f l h with
 | none=>rfl
 | some r=>obtain⟨d,h⟩:=r;cases d<;>first | rfl | (simp[RD,Src.fuel];done)
noncomputable def lD(bd:RG)(tc:RT)(te:RE):List Dt->LI->HI->Option (List Dt×HI)
 | [],_,h=>some ([],h)
 | x::xs,l,h=>(bd x l).bind fun l1=>(tc l1 h).bind fun b=>if b.1=true then(te l1 b.2).bind fun r=>(lD bd tc te xs l1 r.2).bind fun q=>some (r.1::q.1,q.2)
  else lD bd tc te xs l1 b.2
theorem ZS(bd:RG)(tc:RT)(te:RE)(xs:List Dt)(hx:xs.length<sizeLine):∀(n k:Nat)(l:LI)(h:HI)(ys:List Dt),n=(xs.length-k)+1->k<=xs.length->ys.length<=k->
 cD bd tc te (.vals xs) n k l h ys=(lD bd tc te (xs.drop k) l h).bind fun q=>some (ys++q.1,q.2):=by
 intro n
 induction n with
 | zero=>intro k l h ys e;omega
 | succ n ih=>
  intro k l h ys e hk hy;unfold cD;simp only[Src.at];by_cases hl:k<xs.length
  · rw[getElem?_eq_getElem hl,drop_eq_getElem_cons hl];simp only[lD];cases bd xs[k] l with
    | none=>rfl
    | some l1=>
     simp only[X9];cases tc l1 h with
     | none=>rfl
     | some b=>
      simp only[X9];by_cases hb:b.1=true
      · simp only[if_pos hb];cases te l1 b.2 with
        | none=>rfl
        | some r=>
         simp only[X9];rw[if_pos (by omega),ih (k+1) l1 r.2 _ (by omega) (by omega) (by simp;omega)];cases lD bd tc te (xs.drop (k+1)) l1 r.2 with
         | none=>rfl
         | some q=>simp
      · simp only[if_neg hb];exact ih (k+1) l1 b.2 ys (by omega) (by omega) (by omega)
  · rw[getElem?_eq_none (by omega),drop_eq_nil_of_le (by omega)];simp[lD]
def tE(bd:RG)(tc:RT)(te:RE)(l:LI):Src×HI->Option (List Dt×HI):=fun r=>cD bd tc te r.1 (r.1.fuel r.2) 0 l r.2 []
theorem uD(bd:RG)(tc:RT)(te:RE){xs:List Dt}(hx:xs.length<sizeLine):tE bd tc te l (.vals xs,h)=lD bd tc te xs l h:=by unfold tE;simp only[Src.fuel];rw[ZS bd tc te xs hx _ 0 _ _ _ (by omega) (by omega) (by simp)];rw[drop_zero];cases lD bd tc te xs l h<;>simp
@[simp] theorem mF(g:RI)(bd:RG)(tc:RT)(te:RE)(cap:List (Option Nat)):AC g bd tc te cap l h=fB (fB (g l h) (tE bd tc te (rD l cap))) fun q=>some (.lst q.1,q.2):=by unfold fB;unfold AC tE;rw[Option.bind_assoc]
@[simp] theorem wH(g:RI)(bd:RG)(tc:RT)(te:RE)(cap:List (Option Nat)):TD g bd tc te cap l h=fB (fB (g l h) (tE bd tc te (rD l cap))) fun q=>some (.ref q.2.length,q.2++[.lst q.1]):=by unfold fB;unfold TD tE;rw[Option.bind_assoc]
@[simp] theorem yP:GB l h=some (true,h):=by rfl
@[simp] theorem ED:rD l []=[]:=by rfl
@[simp] theorem HD(cap:List (Option Nat)):rD l (none::cap)=none::rD l cap:=by rfl
@[simp] theorem UE(j:Nat)(cap:List (Option Nat)):rD l (some j::cap)=(l[j]?).join::rD l cap:=by rfl
theorem gH{α:Type}{te:RE}{i:Nat}{tc:RT}(D:α->Dt)(p:α->Bool)(F:α->Dt)(h:HI):∀(xs:List α)(l:LI),(∀x∈xs,tc (l.set i (some (D x))) h=some (p x,h)/\(p x=true->te (l.set i (some (D x))) h=some (F x,h)))->
 lD (SA i) tc te (xs.map D) l h=some ((xs.filter p).map F,h)
 | [],_,_=>rfl
 | x::xs,l,H=>by
  have hx:=H x (by simp);have ih:=gH D p F h xs (l.set i (some (D x))) (te:=te) (tc:=tc) (i:=i) (fun y hy=>by
   rw[set_set];exact H y (by simp[hy]))
  simp only[S9,lD,AG,X9,hx.1];by_cases hp:p x=true
  · simp only[hp,if_true,hx.2 hp,X9,ih];simp[hp]
  · simp only[hp];rw[if_neg (by simp),ih];simp[hp]
theorem OE{α:Type}{te:RE}{i:Nat}{tc:RT}(D:α->Dt)(F:α->Dt)(h:HI)(xs:List α)(l:LI)(H:∀x∈xs,tc (l.set i (some (D x))) h=some (true,h)/\te (l.set i (some (D x))) h=some (F x,h)) :
 lD (SA i) tc te (xs.map D) l h=some (xs.map F,h):=by
 rw[gH D (fun _=>true) F h xs l fun x hx=>⟨(H x hx).1,fun _=>(H x hx).2⟩,filter_eq_self.mpr (by simp)]
@[simp] theorem ZC(F:Dt->HI->Option (Dt×HI)):kC F f l h=fB (f l h) fun r=>F r.1 r.2:=by rfl
@[simp] theorem LP(xs:List Dt):nB (.lst xs) h=some (.int xs.length,h):=by rfl
@[simp] theorem RV(xs:List Dt):nB (.tup xs) h=some (.int xs.length,h):=by rfl
theorem QM{n:Nat}{xs:List Dt}(e:h[n]?=some (.lst xs)):nB (.ref n) h=some (.int xs.length,h):=by simp only[nB,DD,jA,e,W9]
@[simp] theorem QV(b:Bool):YH (.bl b) h=some (.int (if b=true then 1 else 0),h):=by rfl
@[simp] theorem qW(xs:List Dt):SF (.lst xs) h=some (.lst xs,h):=by rfl
@[simp] theorem xZ(ns:List Int):pE (ns.map Dt.int)=some ns:=by
 induction ns with
 | nil=>rfl
 | cons n ns ih=>simp[pE,ih]
theorem ZW(ns:List Int):ZH (.lst (ns.map Dt.int)) h=some (.int ns.sum,h):=by simp[ZH,jA]
@[simp] theorem JZ(T:String):cC T f l h=fB (f l h) fun r=>(yE r.2 r.1).map fun t=>(.bl (WJ t T),r.2):=by rfl
@[simp] theorem EZ (b:Int):yE h (.int b)=some "int" :=by rfl
@[simp] theorem WZ:WJ "int" "int" =true:=by decide +kernel
@[simp] theorem VZ:WJ "int" "bool" =false:=by decide +kernel
@[simp] theorem LZ:lN l h=some (none,h):=by rfl
noncomputable def cZ:Dt×HI->Option (Option Int×HI)
 | (.int i,h)=>some (some i,h)
 | _=>none
@[simp] theorem QZ(i:Int):cZ (.int i,h)=some (some i,h):=by rfl
@[simp] theorem KZ:CF f l h=fB (f l h) cZ:=by
 unfold fB;unfold CF
 congr 1
 funext r
 obtain⟨d,h⟩:=r;cases d<;>rfl
@[simp] theorem IZ(lo hi:RO):QH f lo hi l h=fB (f l h) fun r=>fB (lo l r.2) fun o=>fB (hi l o.2) fun u=>(jA u.2 r.1).map fun xs=>(.lst (dE xs o.1 u.1),u.2):=by rfl
@[simp] theorem MZ(xs:List Dt):jA h (.lst xs)=some xs:=by rfl
theorem HY{xs ys:List Dt}(c:xs.length+ys.length<=sizeLine):BD (.lst xs) (.lst ys) h=some (.lst (xs++ys),h):=by simp only[BD,jA,X9,if_pos c]
@[simp] theorem NZ:sizeLine=16777216:=by rfl
noncomputable def RJ(g:RE)(l:LI):Dt×HI->Option (Dt×HI)
 | (.ref n,h)=>(match h[n]? with
  | some (.lst _)=>(g l h).bind fun q=>match q.2[n]? with
   | some (.lst xs)=>if xs.length<sizeLine then some (.non,q.2.set n (.lst (xs++[q.1])))else none
   | _=>none
  | _=>none)
 | _=>none
@[simp] theorem jF:YD f g l h=fB (f l h) (RJ g l):=by
 unfold fB;unfold YD
 congr 1
 funext r
 obtain⟨d,h⟩:=r;cases d<;>(try rfl)
theorem SE{n:Nat}{xs ys:List Dt}{d:Dt}{h':HI}(e:h[n]?=some (.lst ys))(eg:g l h=some (d,h'))(e':h'[n]?=some (.lst xs))(c:xs.length<sizeLine):RJ g l (.ref n,h)=some (.non,h'.set n (.lst (xs++[d]))):=by simp only[RJ,e,eg,X9,e',if_pos c]
end
noncomputable def Pass(I:LI->HI->Prop):Rs->Prop
 | .nx l h=>I l h
 | .ct l h=>I l h
 | _=>False
theorem WI{α:Type}{i:Nat}{body:RS}(D:α->Dt)(I:LI->HI->Prop)(xs:List α)(H:∀x∈xs,∀l h,I l h->∃r,body (l.set i (some (D x))) h=some r/\Pass I r) :
 ∀l h,I l h->∃l' h',sC (SA i) body (xs.map D) l h=some (.nx l' h')/\I l' h':=by
 induction xs with
 | nil=>intro l h i;exact⟨l,h,rfl,i⟩
 | cons x xs ih=>
  intro l h i;obtain⟨r,e,p⟩:=H x (by simp) l h i;cases r with
  | nx l2 h2=>obtain⟨l',h',e',i'⟩:=ih (fun y hy=>H y (by simp[hy])) l2 h2 p;exact⟨l',h',by simp[sC,e,e'],i'⟩
  | ct l2 h2=>obtain⟨l',h',e',i'⟩:=ih (fun y hy=>H y (by simp[hy])) l2 h2 p;exact⟨l',h',by simp[sC,e,e'],i'⟩
  | bk l2 h2=>exact p.elim
  | rt d h2=>exact p.elim
section
variable{l:LI}{h:HI}{f g:RE}
@[simp] theorem RZ(bs:List Bool):rE (bs.map Dt.bl)=some bs:=by
 induction bs with
 | nil=>rfl
 | cons n ns ih=>simp[rE,ih]
theorem YW(bs:List Bool):XH (.lst (bs.map Dt.bl)) h=some (.bl (bs.all id),h):=by simp[XH,jA]
@[simp] theorem vP(i j:Nat)(a b:Dt):vE i j (.tup [a,b]) l=some ((l.set i (some a)).set j (some b)):=by rfl
end
theorem tG{h:HI}{n:Nat}{xs:List Dt}(e:h[n]?=some (.lst xs)):RD (.ref n,h)=some (.rf n,h):=by
 have:0<Src.fuel (.rf n) h:=by simp only[Src.fuel,e];omega
 simp only[RD,if_pos this]
section
variable{l:LI}{h:HI}{f g fe fo fi fa fb:RE}
def SG(l:LI)(v o:Dt):Dt×HI->Option Rs
 | (.int k,h)=>(match o with
  | .ref n=>(match h[n]? with
   | some (.lst xs)=>(VF xs.length k).bind fun j=>some (.nx l (h.set n (.lst (xs.set j v))))
   | _=>none)
  | _=>none)
 | _=>none
@[simp] theorem xP:ZE fe fo fi l h=fB (fe l h) fun v=>fB (fo l v.2) fun o=>fB (fi l o.2) (SG l v.1 o.1):=by
 unfold fB ZE
 congr 1
 funext v
 congr 1
 funext o
 congr 1
 funext i
 obtain⟨d,h⟩:=o;obtain⟨k,h⟩:=i;cases k<;>cases d<;>rfl
theorem vW{n k:Nat}(hk:k<n):VF n (k:Int)=some k:=by unfold VF;rw[if_pos (by omega),if_pos (by omega)];simp
theorem VI{n k:Nat}{xs:List Dt}{v:Dt}(e:h[n]?=some (.lst xs))(hk:k<xs.length):SG l v (.ref n) (.int (k:Int),h)=some (.nx l (h.set n (.lst (xs.set k v)))):=by simp only[SG,e,vW hk,X9]
@[simp] theorem zQ(t:RG):bK t fe l h=fB (fe l h) fun v=>fB (t v.1 l) fun l'=>some (.nx l' v.2):=by rfl
@[simp] theorem EN(i j:Int):YC (.int i) (.int j) h=some (.bl (decide (i=j)),h):=by
 have r:∀k:Int,DA h 8 (.int k)=some (.int k):=fun _=>by simp[DA]
 simp only[YC,r,X9,fD,W9]
@[simp] theorem BR(i j:Int):PD (.int i) (.int j) h=some (.bl (!decide (i=j)),h):=by
 have r:∀k:Int,DA h 8 (.int k)=some (.int k):=fun _=>by simp[DA]
 simp only[PD,r,X9,AF,W9]
theorem OH(i j:Str):YC (.str i) (.str j) h=some (.bl (decide (i=j)),h):=by
 have r:∀k:Str,DA h 8 (.str k)=some (.str k):=fun _=>by simp[DA]
 simp only[YC,r,X9,FC,W9]
theorem tY{a b:Dt}{xs ys:List Dt}(e1:DA h 8 a=some (.lst xs))(e2:DA h 8 b=some (.lst ys))(c:IC xs ys=true):YC a b h=some (.bl (dC xs ys),h):=by simp only[YC,e1,e2,X9,JY c,W9]
theorem vY{a b:Dt}{xs ys:List Dt}(e1:DA h 8 a=some (.lst xs))(e2:DA h 8 b=some (.lst ys))(c:IC xs ys=true):PD a b h=some (.bl (!dC xs ys),h):=by simp only[PD,e1,e2,X9,LY c,W9]
noncomputable def TJ(fa:RE)(l:LI):Dt×HI->Option (Dt×HI)
 | (.ref n,h)=>(match h[n]? with
  | some (.lst _)=>(fa l h).bind fun q=>match q.1 with
   | .ref m=>(match q.2[n]?,q.2[m]? with
    | some (.lst xs),some (.lst ys)=>if xs.length+ys.length<=sizeLine then some (.non,q.2.set n (.lst (xs++ys)))else none
    | _,_=>none)
   | _=>none
  | _=>none)
 | _=>none
@[simp] theorem AV:oJ fo fa l h=fB (fo l h) (TJ fa l):=by
 unfold fB oJ
 congr 1
 funext r
 obtain⟨d,h⟩:=r;cases d<;>(try rfl)
theorem CU{n m:Nat}{xs ys zs:List Dt}{h':HI}(e:h[n]?=some (.lst zs))(eg:fa l h=some (.ref m,h'))(e1:h'[n]?=some (.lst xs))(e2:h'[m]?=some (.lst ys))(c:xs.length+ys.length<=sizeLine):TJ fa l (.ref n,h)=some (.non,h'.set n (.lst (xs++ys))):=by simp only[TJ,e,eg,X9,e1,e2,if_pos c]
@[simp] theorem kI(F:Dt->Dt->Option Dt):YQ F fa fb l h=fB (fa l h) fun r=>fB (fb l r.2) fun q=>(F r.1 q.1).map fun d=>(d,q.2):=by rfl
@[simp] theorem AJ(i j:Int):EJ (.int i) (.int j)=some (.int (min i j)):=by
 unfold EJ;simp only
 congr 2
 split<;>omega
end
theorem HM{α:Type}{i:Nat}{body:RS}(D:α->Dt)(S:Nat->LI->HI->Prop):∀(xs:List α)(k0:Nat)(_:∀(k:Nat) x,xs[k]?=some x->∀l h,S (k0+k) l h->∃r,body (l.set i (some (D x))) h=some r/\Pass (S (k0+k+1)) r)(l:LI)(h:HI),S k0 l h->
 ∃l' h',sC (SA i) body (xs.map D) l h=some (.nx l' h')/\S (k0+xs.length) l' h'
 | [],k0,_,l,h,s=>⟨l,h,rfl,s⟩
 | x::xs,k0,H,l,h,s=>by
  obtain⟨r,e,p⟩:=H 0 x rfl l h s;have H':∀(k:Nat) y,xs[k]?=some y->∀l h,S (k0+1+k) l h->∃r,body (l.set i (some (D y))) h=some r/\Pass (S (k0+1+k+1)) r:=by intro k y hy l h s;have:=H (k+1) y (by simpa using hy) l h (by rw[show k0+(k+1)=k0+1+k by omega];exact s);rw[show k0+(k+1)+1=k0+1+k+1 by omega]at this;exact this
  cases r with
  | nx l2 h2=>obtain⟨l',h',e',i'⟩:=HM D S xs (k0+1) H' l2 h2 p;exact⟨l',h',by simp[sC,e,e'],by rw[Q9,show k0+(xs.length+1)=k0+1+xs.length by omega];exact i'⟩
  | ct l2 h2=>obtain⟨l',h',e',i'⟩:=HM D S xs (k0+1) H' l2 h2 p;exact⟨l',h',by simp[sC,e,e'],by rw[Q9,show k0+(xs.length+1)=k0+1+xs.length by omega];exact i'⟩
  | bk l2 h2=>exact p.elim
  | rt d h2=>exact p.elim
theorem iY{α:Type}{i n:Nat}{body:RS}(D:α->Dt)(S:Nat->LI->HI->Prop)(xs:List α)(hS:∀k l h,S k l h->h[n]?=some (.lst (xs.map D)))(H:∀(k:Nat) x,xs[k]?=some x->∀l h,S k l h->∃r,body (l.set i (some (D x))) h=some r/\Pass (S (k+1)) r)
 (l:LI) (h:HI) (h0:S 0 l h):∃l' h',aG (SA i) body l (.rf n,h)=some (.nx l' h')/\S xs.length l' h':=by
 have go:∀(f k:Nat)(l:LI)(h:HI),S k l h->f=xs.length-k+1->k<=xs.length->∃l' h',AD (SA i) body (.rf n) f k l h=some (.nx l' h')/\S xs.length l' h':=by
  intro f
  induction f with
  | zero=>intro k l h _ e;omega
  | succ f ih=>
   intro k l h i0 e hk;unfold AD;simp only[Src.at,hS k l h i0,getElem?_map];by_cases hl:k<xs.length
   · rw[getElem?_eq_getElem hl];obtain⟨r,e1,p1⟩:=H k xs[k] (getElem?_eq_getElem hl) l h i0;simp only[W9,AG,X9,e1];cases r with
     | nx l2 h2=>exact ih (k+1) l2 h2 p1 (by omega) (by omega)
     | ct l2 h2=>exact ih (k+1) l2 h2 p1 (by omega) (by omega)
     | bk l2 h2=>exact p1.elim
     | rt d h2=>exact p1.elim
   · rw[getElem?_eq_none (by omega)];have:k=xs.length:=by omega
     subst this;exact⟨l,h,rfl,i0⟩
 have hf:Src.fuel (.rf n) h=xs.length-0+1:=by simp only[Src.fuel,hS 0 l h h0,length_map];omega
 unfold aG;exact go _ 0 l h h0 hf (Nat.zero_le _)
section
variable{l:LI}{h:HI}{fo fi fe f fa:RE}
end
section
variable{l:LI}{h:HI}{f g fo fe:RE}{ga:RA}
end
end SM
namespace G
def qC(i:Nat):Stmt:=PySem.Challenge.pw_spanways_k28_texts_go_round.main.body.getD i (.Pass ⟨0,0,0,0⟩)
noncomputable def W1:List Dt:=[(.str "ahead"),(.str "joins"),(.str "laps"),(.str "closedby"),(.str "holds"),(.str "opens"),(.str "same"),(.str "openedby"),(.str "within"),(.str "closes"),(.str "lappedby"),(.str "joinedby"),(.str "behind")]
abbrev rH:Dt:=.tup W1
noncomputable abbrev qM:Dt:=(.int 60)
noncomputable abbrev WL:Dt:=(.int 6)
noncomputable abbrev FL:Dt:=(.int 6)
noncomputable abbrev EL:Dt:=(.int 1000000000000000000)
noncomputable abbrev DL:Dt:=(.str "abcdefghijklmnopqrstuvwxyz")
noncomputable abbrev CL:Dt:=(.str "0123456789")
noncomputable abbrev aL:Dt:=(.int 8)
abbrev aM:Stmt:=qC 5
def bL:RE:=eV 0
def dL:RT:=D0 (e2 VA (e2 HJ (e2 OG (eV 1) (eV 0)) (eC (.int 1))) (eC (.int 1)))
def AL:RS:=vA (AC (JG (eC (.int 13))) (SA 0) dL bL [none,some 0])
def MI:HB:=fC 1 1 AL
abbrev zM:Stmt:=qC 6
def ML:RE:=e2 NG (eC (.int 1)) (eV 0)
def VL:RS:=vA (kC ZH (AC (yC (eV 0)) (SA 0) GB ML [none]))
def YI:HB:=fC 1 1 VL
abbrev gL:Stmt:=qC 8
def UK:RE:=e2 iA (eV 0) (eC (.int 1))
def HK:RT:=D0 (e2 VA (e2 iA (eV 0) (eC (.int 0))) (eC (.str "one")))
def WK:RS:=vA (AC (yC (eV 0)) (SA 0) HK UK [none])
def FI:HB:=fC 1 1 WK
abbrev iL:Stmt:=qC 14
def YK:RS:=vA (vM gI gI gI (eC (.int 0)) (eV 0) (eV 1) (eC EL))
def GI:HB:=fC 2 2 YK
abbrev uL:Stmt:=qC 15
def zI:RS:=gA (lC (D0 (e2 gR (kC nB (eV 0)) (eC qM))) (vA (eC (.bl false))) eB) (vA (CN (e2 OB (e2 iA (eV 1) (eC (.int 0))) (eC (.str "one"))) (e2 iI (kC nB (zA FI [] (cA (eV 0) pA))) (eC WL))))
def bH:HB:=fC 2 2 zI
abbrev yM:Stmt:=qC 20
def LL:RE:=e2 eI (eV 0) (eV 1)
def UL:RS:=vA (kC XH (AC (aI (eV 0)) (SA 0) GB LL [none,some 1]))
def lH:HB:=fC 2 2 UL
abbrev ZL:Stmt:=qC 21
def zL:RS:=vA (eF (PF gI gI (eC (.int 1)) (kC nB (eV 0)) (eC (.int 8))) (eF (zA lH [] (cA (eV 0) (cA (eC DL) pA))) (e2 OB (eV 0) (eC (.str "or")))))
def KI:HB:=fC 1 1 zL
abbrev jL:Stmt:=qC 22
def DI:RS:=gA (lC (PB (oC (D0 (PF gI gI (eC (.int 1)) (kC nB (eV 0)) (eC (.int 19))))) (oC (D0 (zA lH [] (cA (eV 0) (cA (eC CL) pA)))))) (vA (eC (.bl false))) eB) (vA (CN (e2 VA (eV 0) (eC (.str "0"))) (e2 OB (e2 iA (eV 0) (eC (.int 0))) (eC (.str "0")))))
def qG:HB:=fC 1 1 DI
abbrev xL:Stmt:=qC 23
def RK:RE:=e2 iA (eC rH) (eV 0)
def KL:RS:=vA (AC (yC (zA MI [] (cA (eV 0) pA))) (SA 0) GB RK [none])
def cH:HB:=fC 1 1 KL
abbrev vL:Stmt:=qC 24
def QK:RE:=eV 0
def SK:RT:=D0 (e2 (TH false) (e2 iA (eC rH) (eV 0)) (eV 1))
def IL:RS:=gA (UA 1 (zA YI [] (cA (AC (JG (kC nB (eC rH))) (SA 0) SK QK [none,some 0]) pA))) (vA (RQ (D0 (e2 VA (zA cH [] (cA (eV 1) pA)) (eV 0))) (eV 1) (eC (.int 0))))
def AI:HB:=fC 1 2 IL
abbrev kL:Stmt:=qC 25
def ZK:RS:=gA (lC (PB (D0 (e2 iI (kC nB (eV 0)) (eC (.int 3)))) (PB (D0 (e2 (TH true) (e2 iA (eV 0) (eC (.int 0))) (eV 1))) (PB (D0 (e2 (TH true) (e2 iA (eV 0) (lE (eC (.int 1)))) (eV 1))) (D0 (e2 VA (e2 iA (eV 0) (eC (.int 0))) (e2 iA (eV 0) (lE (eC (.int 1))))))))) (vA (eC .non)) eB) (gA (UA 2 (zA AI [] (cA (QH (eV 0) (CF (eC (.int 1))) (CF (lE (eC (.int 1))))) pA))) (gA (lC (D0 (e2 VA (eV 2) (eC (.int 0)))) (vA (eC .non)) eB) (vA (VC (cA (eC (.str "ways")) (cA (FG (eV 1) (e2 iA (eV 0) (eC (.int 0)))) (cA (eV 2) (cA (FG (eV 1) (e2 iA (eV 0) (lE (eC (.int 1))))) pA))))))))
def fH:HB:=fC 2 3 ZK
abbrev IK:Stmt:=qC 26
def TK:RS:=gA (lC (PB (D0 (e2 OB (kC nB (eV 0)) (eC (.int 3)))) (PB (D0 (e2 (TH true) (e2 iA (eV 0) (eC (.int 0))) (eV 1))) (PB (oC (D0 (zA qG [] (cA (e2 iA (eV 0) (eC (.int 1))) pA)))) (oC (D0 (zA qG [] (cA (e2 iA (eV 0) (eC (.int 2))) pA))))))) (vA (eC .non)) eB) (gA (UA 2 (kC vF (e2 iA (eV 0) (eC (.int 1))))) (gA (UA 3 (kC vF (e2 iA (eV 0) (eC (.int 2))))) (gA (lC (oC (D0 (zA GI [] (cA (eV 2) (cA (eV 3) pA))))) (vA (eC .non)) eB) (vA (VC (cA (eC (.str "long")) (cA (FG (eV 1) (e2 iA (eV 0) (eC (.int 0)))) (cA (eV 2) (cA (eV 3) pA)))))))))
def yI:HB:=fC 2 4 TK
abbrev rL:Stmt:=qC 27
def lG:RS:=lC (D0 (e2 VA (eV 3) (eC (.str "or")))) (aE (YD (eV 2) (DE pA))) (aE (YD (e2 iA (eV 2) (lE (eC (.int 1)))) (eV 3)))
def yK:RE:=zA fH [] (cA (eV 0) (cA (eV 1) pA))
def OK:RS:=gA (UA 2 (DE (cA (DE pA) pA))) (gA (CD (yC (eV 0)) (SA 3) lG) (gA (UA 4 (TD (yC (eV 2)) (SA 0) GB yK [none,some 1])) (gA (lC (PB (D0 (e2 jN (kC nB (eV 4)) (eC FL))) (D0 (e2 dI (eC .non) (eV 4)))) (vA (eC .non)) eB) (vA (VC (cA (eC (.str "one")) (cA (eV 4) pA)))))))
def xI:HB:=fC 2 5 OK
abbrev fL:Stmt:=qC 28
def dH:RS:=gA (lC (D0 (e2 VA (e2 iA (eV 0) (eC (.int 0))) (eC (.str "ways")))) (vA (zA fH [] (cA (QH (eV 0) (CF (eC (.int 1))) lN) (cA (eV 1) pA)))) eB) (gA (lC (D0 (e2 VA (e2 iA (eV 0) (eC (.int 0))) (eC (.str "long")))) (vA (zA yI [] (cA (QH (eV 0) (CF (eC (.int 1))) lN) (cA (eV 1) pA)))) eB) (gA (lC (D0 (e2 VA (e2 iA (eV 0) (eC (.int 0))) (eC (.str "one")))) (vA (zA xI [] (cA (QH (eV 0) (CF (eC (.int 1))) lN) (cA (eV 1) pA)))) eB) (vA (eC .non))))
def pG:HB:=fC 2 2 dH
abbrev vK:Stmt:=qC 29
def VG:RS:=gA (lC (PB (D0 (e2 OB (kC nB (eV 0)) (eC (.int 2)))) (D0 (e2 OB (e2 iA (eV 0) (eC (.int 0))) (eC (.str "stretch"))))) (vA (eC (.bl false))) eB) (vA (eF (zA KI [] (cA (e2 iA (eV 0) (eC (.int 1))) pA)) (eF (e2 (TH true) (e2 iA (eV 0) (eC (.int 1))) (eV 1)) (e2 iI (kC nB (eV 1)) (eC aL)))))
def fF:HB:=fC 2 2 VG
abbrev LM:Stmt:=qC 30
def gF:RS:=gA (UA 5 (oF (eV 4) (eC (.str " ")))) (lC (xE (D0 (e2 YC (eV 2) (eE pA))) (D0 (zA fF [] (cA (eV 5) (cA (eV 1) pA))))) (aE (YD (eV 1) (e2 iA (eV 5) (eC (.int 1))))) (gA (UA 6 (zA pG [] (cA (eV 5) (cA (eV 1) pA)))) (gA (lC (PB (D0 (e2 fI (eV 6) (eC .non))) (oC (D0 (zA bH [] (cA (eV 2) (cA (eV 6) pA)))))) lQ eB) (aE (YD (eV 2) (eV 6))))))
def FM:RS:=gA (UA 1 (DE pA)) (gA (UA 2 (DE pA)) (gA (CD (rJ (oF (eV 0) (eC (.str "\n")))) (vE 3 4) gF) (vA (VC (cA (eV 1) (cA (eV 2) pA))))))
def vJ :HB :=fC 1 7 FM
abbrev wL :Stmt :=qC 31
def JL :RS :=vA (UD (eC (.str " ")) (e2 BD (e2 BD (eE (cA (e2 iA (eV 1) (e2 iA (eV 0) (eC (.int 1)))) pA)) (zA cH [] (cA (e2 iA (eV 0) (eC (.int 2))) pA))) (eE (cA (e2 iA (eV 1) (e2 iA (eV 0) (eC (.int 3)))) pA))))
def oG :HB :=fC 2 2 JL
abbrev OL :Stmt :=qC 32
def PK :RE :=zA oG [] (cA (eV 0) (cA (eV 1) pA))
def aH :RS :=gA (lC (D0 (e2 VA (e2 iA (eV 0) (eC (.int 0))) (eC (.str "ways")))) (vA (e2 dD (eC (.str "ways ")) (zA oG [] (cA (eV 0) (cA (eV 1) pA))))) eB) (gA (lC (D0 (e2 VA (e2 iA (eV 0) (eC (.int 0))) (eC (.str "long")))) (vA (UD (eC (.str " ")) (eE (cA (eC (.str "long")) (cA (e2 iA (eV 1) (e2 iA (eV 0) (eC (.int 1)))) (cA (kC cF (e2 iA (eV 0) (eC (.int 2)))) (cA (kC cF (e2 iA (eV 0) (eC (.int 3)))) pA))))))) eB) (vA (e2 dD (eC (.str "one ")) (UD (eC (.str " or ")) (AC (yC (e2 iA (eV 0) (eC (.int 1)))) (SA 0) GB PK [none,some 1])))))
def nG :HB :=fC 2 2 aH
abbrev cM :Stmt :=qC 33
def cL :RE :=NQ "stretch " (eV 0)
def EI :RE :=zA nG [] (cA (eV 0) (cA (eV 1) pA))
def BL :RS :=gA (UA 2 (TD (yC (eV 0)) (SA 0) GB cL [none])) (gA (aE (oJ (eV 2) (TD (yC (eV 1)) (SA 0) GB EI [none,some 0]))) (vA (UD (eC (.str "\n")) (eV 2))))
def NI :HB :=fC 2 3 BL
abbrev nK :Stmt :=qC 35
def wK :RS :=gA (lC (D0 (e2 iI (eV 1) (kC nB (eV 0)))) (vA (e2 iA (eV 0) (eV 1))) eB) (vA (eC (.int 0)))
def SD :HB :=fC 2 2 wK
abbrev mL :Stmt :=qC 36
def JK :RS :=gA (UA 2 (e2 gB (e2 dF (e2 zC (e2 zC (e2 gB (eV 0) (eC (.int 1000000007))) (e2 dF (eC (.int 7)) (eV 1))) (eC (.int 1))) (eC (.int 48271))) (eC (.int 2147483647)))) (vA (e2 gB (e2 dF (eV 2) (e2 zC (e2 zC (e2 gB (eV 2) (eC (.int 1009))) (eV 1)) (eC (.int 3)))) (eC (.int 998244353))))
def tD :HB :=fC 2 3 JK
abbrev pK :Stmt :=qC 37
def CK :RE :=e2 iA (eV 2) (e2 gB (e2 XC (eV 1) (eC (.int 98))) (eC (.int 26)))
def sI :RS :=gA (UA 2 (eC (.str "abcdefghijklmnopqrstuvwxyz"))) (gA (UA 0 (e2 gB (eV 0) (eC (.int 1000003)))) (gA (lC (xE (D0 (e2 VA (e2 gB (e2 XC (eV 0) (eC (.int 5))) (eC (.int 4))) (eC (.int 1)))) (D0 (e2 iI (eV 1) (eC (.int 26))))) (vA (e2 iA (eV 2) (e2 gB (e2 zC (eV 1) (e2 XC (eV 0) (eC (.int 20)))) (eC (.int 26))))) eB) (gA (UA 3 (e2 zC (eC (.int 2)) (e2 gB (e2 zC (eV 0) (e2 dF (eV 1) (e2 gB (e2 XC (eV 0) (eC (.int 7))) (eC (.int 2))))) (eC (.int 7))))) (gA (UA 4 (e2 gB (e2 XC (eV 0) (eC (.int 14))) (eV 3))) (gA (UA 5 (TD (JG (eV 3)) (SA 0) GB CK [none,some 0,some 2])) (gA (ZE (e2 iA (eV 2) (e2 gB (e2 XC (eV 1) (eC (.int 26))) (eC (.int 26)))) (eV 5) (eV 4)) (gA (ZE (e2 iA (eV 2) (e2 gB (eV 1) (eC (.int 26)))) (eV 5) (e2 gB (e2 zC (eV 4) (eC (.int 1))) (eV 3))) (vA (UD (eC (.str "")) (eV 5))))))))))
def YG :HB :=fC 2 6 sI
abbrev qL :Stmt :=qC 38
def NK :RS :=gA (UA 0 (eC (.str "ahead joins laps closedby holds opens same openedby within closes lappedby joinedby behind"))) (vA (oF (eV 0) (eC (.str " "))))
def wI :HB :=fC 0 1 NK
abbrev qK :Stmt :=qC 39
def xK :RS :=gA (UA 2 (e2 gB (eV 0) (eV 1))) (vA (VC (cA (eV 2) (cA (e2 gB (e2 zC (e2 zC (eV 2) (eC (.int 1))) (e2 gB (e2 XC (eV 0) (eV 1)) (e2 YJ (eV 1) (eC (.int 1))))) (eV 1)) pA))))
def pI :HB :=fC 2 3 xK
abbrev EK :Stmt :=qC 40
def hG :RS :=gA (UA 2 (e2 gB (e2 dF (eV 0) (eC (.int 48271000000019))) (e2 dG (eC (.int 10)) (eC (.int 18))))) (gA (lC (D0 (e2 VA (e2 gB (eV 0) (eC (.int 3))) (eC (.int 0)))) (UA 2 (e2 gB (e2 XC (eV 0) (eC (.int 3))) (eC (.int 9)))) eB) (gA (UA 3 (YQ EJ (e2 dG (eC (.int 10)) (eC (.int 18))) (e2 zC (eV 2) (e2 gB (zA tD [] (cA (eV 0) (cA (eC (.int 7)) pA))) (eC (.int 5)))))) (gA (lC (D0 (e2 VA (e2 gB (eV 0) (eC (.int 4))) (eC (.int 1)))) (UA 3 (e2 dG (eC (.int 10)) (eC (.int 18)))) eB) (vA (VC (cA (eC (.str "long")) (cA (eV 1) (cA (eV 2) (cA (eV 3) pA)))))))))
def EF :HB :=fC 2 4 hG
abbrev rK :Stmt :=qC 41
def tI :RS :=gA (bK (vE 2 3) (zA pI [] (cA (eV 0) (cA (eV 1) pA)))) (gA (UA 4 (e2 zC (eC (.int 1)) (e2 gB (zA tD [] (cA (eV 0) (cA (eC (.int 3)) pA))) (eC (.int 8191))))) (gA (lC (D0 (e2 VA (e2 gB (eV 0) (eC (.int 5))) (eC (.int 1)))) (UA 4 (e2 NG (eC (.int 1)) (e2 gB (zA tD [] (cA (eV 0) (cA (eC (.int 4)) pA))) (eC (.int 13))))) eB) (vA (VC (cA (eC (.str "ways")) (cA (eV 2) (cA (eV 4) (cA (eV 3) pA))))))))
def DF :HB :=fC 2 5 tI
abbrev oK :Stmt :=qC 42
def WG :RE :=zA DF [] (cA (zA tD [] (cA (eV 1) (cA (e2 zC (eC (.int 10)) (eV 0)) pA))) (cA (eV 2) pA))
def XG :RS :=gA (UA 3 (zA tD [] (cA (eV 0) (cA (eC (.int 1)) pA)))) (gA (lC (PB (D0 (e2 VA (eV 1) (eC (.int 1)))) (D0 (e2 VA (e2 gB (eV 3) (eC (.int 5))) (eC (.int 2))))) (vA (zA EF [] (cA (e2 XC (eV 3) (eC (.int 5))) (cA (e2 gB (e2 XC (eV 3) (eC (.int 5))) (eV 1)) pA)))) eB) (gA (lC (xE (D0 (e2 VA (e2 gB (eV 3) (eC (.int 5))) (eC (.int 3)))) (D0 (e2 iI (eV 2) (eC (.int 6))))) (vA (VC (cA (eC (.str "one")) (cA (AC (JG (e2 zC (eC (.int 1)) (e2 gB (e2 XC (eV 3) (eC (.int 5))) (eC (.int 6))))) (SA 0) GB WG [none,some 0,some 1]) pA)))) eB) (vA (zA DF [] (cA (e2 XC (eV 3) (eC (.int 5))) (cA (eV 1) pA))))))
def kG :HB :=fC 3 4 XG
abbrev tK :Stmt :=qC 43
def AK :RS :=gA (UA 5 (zA kG [] (cA (eV 4) (cA (eV 1) (cA (eV 3) pA))))) (gA (UA 3 (e2 zC (eV 3) (kC YH (e2 VA (e2 iA (eV 5) (eC (.int 0))) (eC (.str "one")))))) (aE (YD (eV 2) (eV 5))))
def FK :RS :=gA (UA 2 (DE pA)) (gA (UA 3 (eC (.int 0))) (gA (CD (yC (eV 0)) (SA 4) AK) (vA (eV 2))))
def qI :HB :=fC 2 6 FK
abbrev uK :Stmt :=qC 44
def fK :RE :=e2 iA (eV 2) (eV 0)
def gK :RT :=D0 (e2 VA (e2 HJ (e2 OG (e2 iA (eV 1) (eC (.int 2))) (eV 0)) (eC (.int 1))) (eC (.int 1)))
def GK :RS :=gA (UA 2 (zJ wI [])) (gA (UA 3 (AC (JG (eC (.int 13))) (SA 0) gK fK [none,some 1,some 2])) (vA (UD (eC (.str " ")) (e2 BD (e2 BD (eE (cA (e2 iA (eV 0) (e2 iA (eV 1) (eC (.int 1)))) pA)) (eV 3)) (eE (cA (e2 iA (eV 0) (e2 iA (eV 1) (eC (.int 3)))) pA))))))
def jG :HB :=fC 2 4 GK
abbrev sK :Stmt :=qC 45
def eK :RE :=zA jG [] (cA (eV 1) (cA (eV 0) pA))
def UG :RS :=gA (lC (D0 (e2 VA (e2 iA (eV 1) (eC (.int 0))) (eC (.str "ways")))) (vA (e2 dD (eC (.str "ways ")) (zA jG [] (cA (eV 0) (cA (eV 1) pA))))) eB) (gA (lC (D0 (e2 VA (e2 iA (eV 1) (eC (.int 0))) (eC (.str "long")))) (vA (e2 dD (e2 dD (e2 dD (e2 dD (e2 dD (eC (.str "long ")) (e2 iA (eV 0) (e2 iA (eV 1) (eC (.int 1))))) (eC (.str " "))) (kC cF (e2 iA (eV 1) (eC (.int 2))))) (eC (.str " "))) (kC cF (e2 iA (eV 1) (eC (.int 3)))))) eB) (vA (e2 dD (eC (.str "one ")) (UD (eC (.str " or ")) (AC (yC (e2 iA (eV 1) (eC (.int 1)))) (SA 0) GB eK [none,some 0])))))
def iG :HB :=fC 2 2 UG
abbrev pL :Stmt :=qC 46
def MK :RS :=vA (eF (cC "int" (eV 0)) (mI (cC "bool" (eV 0))))
def vI :HB :=fC 1 1 MK
abbrev nL :Stmt :=qC 47
def zK :RS :=lC (PB (oC (D0 (cC "str" (e2 iA (eV 0) (eV 2))))) (D0 (e2 OB (e2 iA (eV 0) (eV 2)) (e2 iA (eV 1) (eV 2))))) (vA (eC (.bl false))) eB
def LK :RS :=gA (lC (PB (oC (D0 (cC "list" (eV 0)))) (D0 (e2 OB (kC nB (eV 0)) (kC nB (eV 1))))) (vA (eC (.bl false))) eB) (gA (CD (JG (kC nB (eV 1))) (SA 2) zK) (vA (eC (.bl true))))
def uI :HB :=fC 2 3 LK
abbrev kK :Stmt :=qC 49
def lK(R :HB) :RS :=lC (oC (D0 (zA R [] (cA (e2 iA (eV 0) (eV 2)) (cA (e2 iA (eV 1) (eV 2)) pA))))) (vA (eC (.bl false))) eB
def jK (R :HB) :RS :=gA (lC (PB (oC (D0 (cC "list" (eV 0)))) (D0 (e2 OB (kC nB (eV 0)) (kC nB (eV 1))))) (vA (eC (.bl false))) eB) (gA (CD (JG (kC nB (eV 1))) (SA 2) (lK R)) (vA (eC (.bl true))))
def IE(R :HB) :HB :=fC 2 3 (jK R)
abbrev BK :Stmt :=qC 48
def nI(R :HB) :RS :=lC (PB (oC (D0 (zA vI [] (cA (e2 iA (eV 0) (eV 2)) pA)))) (D0 (e2 OB (e2 iA (eV 0) (eV 2)) (e2 iA (eV 1) (eV 2))))) (vA (eC (.bl false))) eB
def mG (R :HB) :RS :=gA (lC (PB (oC (D0 (cC "tuple" (eV 0)))) (PB (D0 (e2 OB (kC nB (eV 0)) (kC nB (eV 1)))) (PB (oC (D0 (cC "str" (e2 iA (eV 0) (eC (.int 0)))))) (D0 (e2 OB (e2 iA (eV 0) (eC (.int 0))) (e2 iA (eV 1) (eC (.int 0)))))))) (vA (eC (.bl false))) eB) (gA (lC (D0 (e2 VA (e2 iA (eV 1) (eC (.int 0))) (eC (.str "one")))) (vA (zA (IE R) [] (cA (e2 iA (eV 0) (eC (.int 1))) (cA (e2 iA (eV 1) (eC (.int 1))) pA)))) eB) (gA (CD (OQ (eC (.int 1)) (eC (.int 4))) (SA 2) (nI R)) (vA (eC (.bl true)))))
def iD(n :Nat) :HB :=Nat.rec (fun _ _ =>none) (fun _ R =>fC 2 3 (mG R)) n
abbrev fN :Stmt :=qC 50
def kJ :RE :=zA YG [] (cA (zA SD [] (cA (eV 1) (cA (eC (.int 1)) pA))) (cA (eV 0) pA))
def lJ :RE :=e2 dD (eC (.str "stretch ")) (eV 0)
def mJ :RE :=zA iG [] (cA (eV 1) (cA (eV 0) pA))
def vG :RS :=lC (D0 (e2 YC (e2 iA (eV 7) (eC (.int 0))) (eC (.str "one")))) (aE (YD (e2 iA (eV 7) (eC (.int 1))) (VC (cA (eC (.str "ways")) (cA (eC (.int 0)) (cA (eC (.int 1)) (cA (eC (.int 0)) pA))))))) eB
def uG :RE :=RQ (D0 (e2 YC (e2 iA (eV 0) (eC (.int 0))) (eC (.str "one")))) (VC (cA (eC (.str "one")) (cA (kC SF (e2 iA (eV 0) (eC (.int 1)))) pA))) (eV 0)
def sH :RS :=gA (UA 6 (zA vJ [] (cA (eV 4) pA))) (gA (lC (PB (oC (D0 (cC "tuple" (eV 6)))) (D0 (e2 PD (kC nB (eV 6)) (eC (.int 2))))) (vA (eC (.bl false))) eB) (gA (lC (PB (oC (D0 (zA uI [] (cA (e2 iA (eV 6) (eC (.int 0))) (cA (eV 2) pA))))) (oC (D0 (zA (IE (iD 3)) [] (cA (e2 iA (eV 6) (eC (.int 1))) (cA (eV 3) pA)))))) (vA (eC (.bl false))) eB) (gA (CD (yC (e2 iA (eV 6) (eC (.int 1)))) (SA 7) vG) (gA (aE (YD (e2 iA (eV 6) (eC (.int 0))) (eC (.str "z")))) (gA (aE (YD (e2 iA (eV 6) (eC (.int 1))) (VC (cA (eC (.str "long")) (cA (eC (.int 0)) (cA (eC (.int 1)) (cA (eC (.int 1)) pA))))))) (gA (UA 8 (eE (cA (kC SF (eV 2)) (cA (AC (yC (eV 3)) (SA 0) GB uG [none]) pA)))) (gA (UA 9 (zA NI [] (cA (e2 iA (eV 8) (eC (.int 0))) (cA (e2 iA (eV 8) (eC (.int 1))) pA)))) (gA (lC (PB (oC (D0 (cC "str" (eV 9)))) (D0 (e2 PD (eV 9) (eV 4)))) (vA (eC (.bl false))) eB) (lC (PB (D0 (e2 PD (e2 iA (eV 8) (eC (.int 0))) (eV 2))) (oC (D0 (zA (IE (iD 3)) [] (cA (e2 iA (eV 8) (eC (.int 1))) (cA (eV 3) pA)))))) (vA (eC (.bl false))) eB)))))))))
def CJ :RS :=gA (UA 1 (e2 zC (eC (.int 1)) (e2 gB (zA SD [] (cA (eV 0) (cA (eC (.int 0)) pA))) (eC (.int 8))))) (gA (UA 2 (TD (JG (eV 1)) (SA 0) GB kJ [none,some 0])) (gA (lC (xE (D0 (e2 jN (eV 1) (eC (.int 1)))) (D0 (e2 YC (e2 gB (zA SD [] (cA (eV 0) (cA (eC (.int 2)) pA))) (eC (.int 8))) (eC (.int 3))))) (gA (ZE (eC (.str "behind")) (eV 2) (eC (.int 0))) (ZE (eC (.str "ahead")) (eV 2) (eC (.int 1)))) eB) (gA (UA 3 (zA qI [] (cA (QH (eV 0) (CF (eC (.int 3))) (CF (eC (.int 63)))) (cA (eV 1) pA)))) (gA (UA 4 (UD (eC (.str "\n")) (e2 BD (AC (yC (eV 2)) (SA 0) GB lJ [none]) (AC (yC (eV 3)) (SA 0) GB mJ [none,some 2])))) (gA (CD (JG (eC (.int 2))) (SA 5) sH) (vA (eC (.bl true))))))))
def EG :HB :=fC 1 10 CJ
structure Txt(K :Frag)(mg :Str → Option Value) :Prop where
 Y6 :jB K mg "ways_in" aM ["mask"]
 c7 :jB K mg "set_of" zM ["ways"]
 D6 :jB K mg "groups_in" gL ["facts"]
 F6 :jB K mg "is_length" iL ["low", "high"]
 M6 :jB K mg "has_room" uL ["facts", "fact"]
 b7 :jB K mg "all_of" yM ["word", "signs"]
 X6 :jB K mg "is_name" ZL ["word"]
 G6 :jB K mg "is_number" jL ["word"]
 P6 :jB K mg "words_of" xL ["mask"]
 N6 :jB K mg "set_told" vL ["words"]
 J6 :jB K mg "ways_told" kL ["words", "names"]
 p6 :jB K mg "length_told" IK ["words", "names"]
 o6 :jB K mg "group_told" rL ["words", "names"]
 C6 :jB K mg "fact_told" fL ["words", "names"]
 k6 :jB K mg "tells_stretch" vK ["words", "names"]
 f7 :jB K mg "read" LM ["text"]
 O6 :jB K mg "ways_row" wL ["fact", "names"]
 L6 :jB K mg "fact_row" OL ["fact", "names"]
 Z6 :jB K mg "written" cM ["names", "facts"]
 X5 :jB K mg "_law_cell_at" nK ["_law_script", "_law_k"]
 t6 :jB K mg "_law_mixed" mL ["_law_number", "_law_k"]
 Z5 :jB K mg "_law_name_by" pK ["_law_cell", "_law_k"]
 n6 :jB K mg "_law_words" qL []
 b6 :jB K mg "_law_pair_by" qK ["_law_number", "_law_count"]
 V5 :jB K mg "_law_length_by" EK ["_law_number", "_law_i"]
 f6 :jB K mg "_law_ways_by" rK ["_law_number", "_law_count"]
 Y5 :jB K mg "_law_fact_by" oK ["_law_cell", "_law_count", "_law_groups"]
 i6 :jB K mg "_law_facts_by" tK ["_law_cells", "_law_count"]
 j6 :jB K mg "_law_ways_row" uK ["_law_names", "_law_fact"]
 g6 :jB K mg "_law_fact_row" sK ["_law_names", "_law_fact"]
 A6 :jB K mg "_law_whole" pL ["_law_found"]
 w6 :jB K mg "_law_texts" nL ["_law_found", "_law_due"]
 w5 :jB K mg "_law_fact_alike" BK ["_law_found", "_law_due"]
 W5 :jB K mg "_law_facts_alike" kK ["_law_found", "_law_due"]
 h7 :mg "all" =none
 g7 :mg "bool" =none
 K6 :mg "enumerate" =none
 Y3 :mg "int" =none
 D2 :mg "isinstance" =none
 X0 :mg "len" =none
 X3 :mg "list" =none
 i7 :mg "min" =none
 C2 :mg "range" =none
 U2 :mg "str" =none
 j7 :mg "sum" =none
 A5 :mg "tuple" =none
 A4 :AE K mg "WORDS" rH
 e7 :AE K mg "FACTS" qM
 Q6 :AE K mg "GROUPS" WL
 W6 :AE K mg "MEMBERS" FL
 V6 :AE K mg "LONGEST" EL
 U6 :AE K mg "LETTERS" DL
 T6 :AE K mg "FIGURES" CL
 B6 :AE K mg "STRETCHES" aL
section
variable{P :Program}{w :World}{K :Frag}{mg :Str → Option Value}
theorem OT :ZA ["mask"] ["mask"] (AA aM) :=qB
theorem SU :ZA ["ways"] ["ways"] (AA zM) :=qB
theorem yS :ZA ["facts"] ["facts"] (AA gL) :=qB
theorem zS :ZA ["low", "high"] ["low", "high"] (AA iL) :=qB
theorem sS :ZA ["facts", "fact"] ["facts", "fact"] (AA uL) :=qB
theorem RU :ZA ["word", "signs"] ["word", "signs"] (AA yM) :=qB
theorem NT :ZA ["word"] ["word"] (AA ZL) :=qB
theorem AS :ZA ["word"] ["word"] (AA jL) :=qB
theorem uS :ZA ["mask"] ["mask"] (AA xL) :=qB
theorem yD :ZA ["words", "mask"] ["words"] (AA vL) :=qB
theorem gD :ZA ["words", "names", "mask"] ["words", "names"] (AA kL) :=qB
theorem YB :ZA ["words", "names", "low", "high"] ["words", "names"] (AA IK) :=qB
theorem KB :ZA ["words", "names", "parts", "word", "members"] ["words", "names"] (AA rL) :=qB
theorem xS :ZA ["words", "names"] ["words", "names"] (AA fL) :=qB
theorem VR :ZA ["words", "names"] ["words", "names"] (AA vK) :=qB
theorem GC :ZA ["text", "names", "facts", "number", "row", "words", "fact"] ["text"] (AA LM) :=qB
theorem tS :ZA ["fact", "names"] ["fact", "names"] (AA wL) :=qB
theorem rS :ZA ["fact", "names"] ["fact", "names"] (AA OL) :=qB
theorem QD :ZA ["names", "facts", "rows"] ["names", "facts"] (AA cM) :=qB
theorem NR :ZA ["_law_script", "_law_k"] ["_law_script", "_law_k"] (AA nK) :=qB
theorem QC :ZA ["_law_number", "_law_k", "_law_once"] ["_law_number", "_law_k"] (AA mL) :=qB
theorem NA :ZA ["_law_cell", "_law_k", "_law_some", "_law_size", "_law_place", "_law_signs"] ["_law_cell", "_law_k"] (AA pK) :=qB
theorem TC :ZA ["_law_some"] [] (AA qL) :=qB
theorem vC :ZA ["_law_number", "_law_count", "_law_i"] ["_law_number", "_law_count"] (AA qK) :=qB
theorem QA :ZA ["_law_number", "_law_i", "_law_low", "_law_high"] ["_law_number", "_law_i"] (AA EK) :=qB
theorem yB :ZA ["_law_number", "_law_count", "_law_i", "_law_j", "_law_mask"] ["_law_number", "_law_count"] (AA rK) :=qB
theorem uC :ZA ["_law_cell", "_law_count", "_law_groups", "_law_number"] ["_law_cell", "_law_count", "_law_groups"] (AA oK) :=qB
theorem FA :ZA ["_law_cells", "_law_count", "_law_facts", "_law_groups", "_law_cell", "_law_fact"] ["_law_cells", "_law_count"] (AA tK) :=qB
theorem JB :ZA ["_law_names", "_law_fact", "_law_some", "_law_words_here"] ["_law_names", "_law_fact"] (AA uK) :=qB
theorem UR :ZA ["_law_names", "_law_fact"] ["_law_names", "_law_fact"] (AA sK) :=qB
theorem jS :ZA ["_law_found"] ["_law_found"] (AA pL) :=qB
theorem RC :ZA ["_law_found", "_law_due", "_law_k"] ["_law_found", "_law_due"] (AA nL) :=qB
theorem VB :ZA ["_law_found", "_law_due", "_law_k"] ["_law_found", "_law_due"] (AA kK) :=qB
theorem XB :ZA ["_law_found", "_law_due", "_law_k"] ["_law_found", "_law_due"] (AA BK) :=qB
theorem hC :ZA ["_law_script", "_law_count", "_law_names", "_law_facts", "_law_text", "_law_turn", "_law_found", "_law_fact", "_law_handed", "_law_told"] ["_law_script"] (AA fN) :=qB
variable(T :Txt K mg)(b :Heap)
include T
theorem DS :jC P w K mg b 1 1 "ways_in" MI :=
 uB (k :=0) (body :=AL) T.Y6 OT rfl rfl fun _ _ _ _ _ _ _ hr =>nA (yA (FD (Nc := ["way", "mask"]) rfl (QE rfl T.C2 bA) (by decide +kernel) rfl (by decide +kernel) (by rfl) (by exact⟨⟨rfl, .inl rfl, .inl rfl,rfl⟩,trivial⟩) (fun _ _ _ _ =>QB 0 (show(["way", "mask"] :List Str).Nodup by decide +kernel)) (fun _ _ _ _ =>yJ (CA (RB hr.units) (fA rP (fA dQ (aA 1) (aA 0)) bA) bA)) (fun _ _ _ _ =>aA 0)))
theorem XS :jC P w K mg b 1 1 "set_of" YI :=
 uB (k :=0) (body :=VL) T.c7 SU rfl rfl fun _ _ _ _ _ _ _ hr =>nA (yA (NV rfl rfl T.j7 (FD (Nc := ["way"]) rfl (kD (aA 0)) (by decide +kernel) rfl (by decide +kernel) (by rfl) (by exact trivial) (fun _ _ _ _ =>QB 0 (show(["way"] :List Str).Nodup by decide +kernel)) (fun _ _ _ _ =>jD) (fun _ _ _ _ =>fA cQ bA (aA 0)))))
theorem dS :jC P w K mg b 1 1 "groups_in" FI :=
 uB (k :=0) (body :=WK) T.D6 yS rfl rfl fun _ _ _ _ _ _ _ hr =>nA (yA (FD (Nc := ["fact"]) rfl (kD (aA 0)) (by decide +kernel) rfl (by decide +kernel) (by rfl) (by exact trivial) (fun _ _ _ _ =>QB 0 (show(["fact"] :List Str).Nodup by decide +kernel)) (fun _ _ _ _ =>yJ (CA (RB hr.units) (lA (aA 0) bA) BA)) (fun _ _ _ _ =>lA (aA 0) bA)))
theorem eS :jC P w K mg b 1 2 "is_length" GI :=
 uB (k :=0) (body :=YK) T.F6 zS rfl rfl fun _ _ _ _ _ _ _ hr =>nA (yA (vT UF UF UF bA (aA 0) (aA 1) (oE rfl T.V6)))
theorem YR :jC P w K mg b 2 2 "has_room" bH :=
 uB (k :=1) (body :=zI) T.M6 sS rfl rfl fun _ _ _ _ _ _ _ hr =>oA (iB (CA PY (pC rfl T.X0 (aA 0)) (oE rfl T.e7)) (nA (yA DC)) pB) (nA (yA (oQ (VE (wD hr.units) (lA (aA 1) bA) BA) (BH (VE CG (pC rfl T.X0 (LA (dS T b) hr (dA (aA 0) sA))) (oE rfl T.Q6))))))
theorem TN :jC P w K mg b 1 2 "all_of" lH :=
 uB (k :=0) (body :=UL) T.b7 RU rfl rfl fun _ _ _ _ _ _ _ hr =>nA (yA (LV rfl rfl T.h7 (FD (Nc := ["sign", "signs"]) rfl (uW (aA 0)) (by decide +kernel) rfl (by decide +kernel) (by rfl) (by exact⟨⟨rfl, .inl rfl, .inl rfl,rfl⟩,trivial⟩) (fun _ _ _ _ =>QB 0 (show(["sign", "signs"] :List Str).Nodup by decide +kernel)) (fun _ _ _ _ =>jD) (fun _ _ _ _ =>VE OX (aA 0) (aA 1)))))
theorem CS :jC P w K mg b 2 1 "is_name" KI :=
 uB (k :=1) (body :=zL) T.X6 NT rfl rfl fun _ _ _ _ _ _ _ hr =>nA (yA (zH (BU UF UF bA (pC rfl T.X0 (aA 0)) bA) (zH (LA (TN T b) hr (dA (aA 0) (dA (oE rfl T.U6) sA))) (BH (VE (wD hr.units) (aA 0) BA)))))
theorem IN :jC P w K mg b 2 1 "is_number" qG :=
 uB (k :=1) (body :=DI) T.G6 AS rfl rfl fun _ _ _ _ _ _ _ hr =>oA (iB (WM.tm (gC (BC (FV UF UF bA (pC rfl T.X0 (aA 0)) bA)) (KC (BC (CC (LA (TN T b) hr (dA (aA 0) (dA (oE rfl T.T6) sA)))))))) (nA (yA DC)) pB) (nA (yA (oQ (VE (RB hr.units) (aA 0) BA) (BH (VE (wD hr.units) (lA (aA 0) bA) BA)))))
theorem LN :jC P w K mg b 2 1 "words_of" cH :=
 uB (k :=1) (body :=KL) T.P6 uS rfl rfl fun _ _ _ _ _ _ _ hr =>nA (yA (FD (Nc := ["way"]) rfl (kD (LA (DS T b) hr (dA (aA 0) sA))) (by decide +kernel) rfl (by decide +kernel) (by rfl) (by exact trivial) (fun _ _ _ _ =>QB 0 (show(["way"] :List Str).Nodup by decide +kernel)) (fun _ _ _ _ =>jD) (fun _ _ _ _ =>lA (oE rfl T.A4) (aA 0))))
theorem ZR :jC P w K mg b 3 1 "set_told" AI :=
 uB (k :=2) (body :=IL) T.N6 yD rfl rfl fun _ _ _ _ _ _ _ hr =>oA (rB 1 yD.nd (LA (XS T b) hr (dA (FD (Nc := ["way", "words"]) rfl (QE rfl T.C2 (pC rfl T.X0 (oE rfl T.A4))) (by decide +kernel) rfl (by decide +kernel) (by rfl) (by exact⟨⟨rfl, .inl rfl, .inl rfl,rfl⟩,trivial⟩) (fun _ _ _ _ =>QB 0 (show(["way", "words"] :List Str).Nodup by decide +kernel)) (fun _ _ _ _ =>yJ (CA QY (lA (oE rfl T.A4) (aA 0)) (aA 1))) (fun _ _ _ _ =>aA 0)) sA))) (nA (yA (nQ (CA (RB hr.units) (LA (LN T b) hr (dA (aA 1) sA)) (aA 0)) (aA 1) bA)))
theorem JN :jC P w K mg b 4 2 "ways_told" fH :=
 uB (k :=3) (body :=ZK) T.J6 gD rfl rfl fun _ _ _ _ _ _ _ hr =>oA (iB (WM.tm (gC (CA CG (pC rfl T.X0 (aA 0)) bA) (gC (CA dJ (lA (aA 0) bA) (aA 1)) (gC (CA dJ (lA (aA 0) (AH bA)) (aA 1)) (KC (CA (RB hr.units) (lA (aA 0) bA) (lA (aA 0) (AH bA)))))))) (nA (yA pF)) pB) (oA (rB 2 gD.nd (LA (ZR T b) hr (dA (jH (aA 0) (JF bA) (JF (AH bA))) sA))) (oA (iB (CA (RB hr.units) (aA 2) bA) (nA (yA pF)) pB) (nA (yA (VD (dA BA (dA (sL hr.units (aA 1) (lA (aA 0) bA)) (dA (aA 2) (dA (sL hr.units (aA 1) (lA (aA 0) (AH bA))) sA)))))))))
theorem WR :jC P w K mg b 3 2 "length_told" yI :=
 uB (k :=2) (body :=TK) T.p6 YB rfl rfl fun _ _ _ _ _ _ _ hr =>oA (iB (WM.tm (gC (CA (wD hr.units) (pC rfl T.X0 (aA 0)) bA) (gC (CA dJ (lA (aA 0) bA) (aA 1)) (gC (BC (CC (LA (IN T b) hr (dA (lA (aA 0) bA) sA)))) (KC (BC (CC (LA (IN T b) hr (dA (lA (aA 0) bA) sA))))))))) (nA (yA pF)) pB) (oA (rB 2 YB.nd (gP rfl T.Y3 (lA (aA 0) bA))) (oA (rB 3 YB.nd (gP rfl T.Y3 (lA (aA 0) bA))) (oA (iB (BC (CC (LA (eS T b) hr (dA (aA 2) (dA (aA 3) sA))))) (nA (yA pF)) pB) (nA (yA (VD (dA BA (dA (sL hr.units (aA 1) (lA (aA 0) bA)) (dA (aA 2) (dA (aA 3) sA))))))))))
theorem TR :jC P w K mg b 5 2 "group_told" xI :=
 uB (k :=4) (body :=OK) T.o6 KB rfl rfl fun _ _ _ _ _ _ _ hr =>oA (rB 2 KB.nd (xG (dA (xG sA) sA))) (oA (uF PassesOwn.never rfl (kD (aA 0)) (QB 3 KB.nd) (nA (iB (CA (RB hr.units) (aA 3) BA) (nA (NE (kF (aA 2) (xG sA)))) (nA (NE (kF (lA (aA 2) (AH bA)) (aA 3))))))) (oA (lL (Nc := ["part", "names"]) 4 rfl KB.nd (kD (aA 2)) (by decide +kernel) rfl (by decide +kernel) (by rfl) (by exact⟨⟨rfl, .inl rfl, .inl rfl,rfl⟩,trivial⟩) (fun _ _ _ _ =>QB 0 (show(["part", "names"] :List Str).Nodup by decide +kernel)) (fun _ _ _ _ =>jD) (fun _ _ _ _ =>LA (JN T b) hr (dA (aA 0) (dA (aA 1) sA))) (by rfl)) (oA (iB (WM.tm (gC (CA xQ (pC rfl T.X0 (aA 4)) (oE rfl T.W6)) (KC (CA (NX hr.units) pF (aA 4))))) (nA (yA pF)) pB) (nA (yA (VD (dA BA (dA (aA 4) sA))))))))
theorem cS :jC P w K mg b 6 2 "fact_told" pG :=
 uB (k :=5) (body :=dH) T.C6 xS rfl rfl fun _ _ _ _ _ _ _ hr =>oA (iB (CA (RB hr.units) (lA (aA 0) bA) BA) (nA (yA (LA (JN T b) hr (dA (jH (aA 0) (JF bA) nM) (dA (aA 1) sA))))) pB) (oA (iB (CA (RB hr.units) (lA (aA 0) bA) BA) (nA (yA (LA (WR T b) hr (dA (jH (aA 0) (JF bA) nM) (dA (aA 1) sA))))) pB) (oA (iB (CA (RB hr.units) (lA (aA 0) bA) BA) (nA (yA (LA (TR T b) hr (dA (jH (aA 0) (JF bA) nM) (dA (aA 1) sA))))) pB) (nA (yA pF))))
theorem KR :jC P w K mg b 3 2 "tells_stretch" fF :=
 uB (k :=2) (body :=VG) T.k6 VR rfl rfl fun _ _ _ _ _ _ _ hr =>oA (iB (WM.tm (gC (CA (wD hr.units) (pC rfl T.X0 (aA 0)) bA) (KC (CA (wD hr.units) (lA (aA 0) bA) BA)))) (nA (yA DC)) pB) (nA (yA (zH (LA (CS T b) hr (dA (lA (aA 0) bA) sA)) (zH (VE dJ (lA (aA 0) bA) (aA 1)) (BH (VE CG (pC rfl T.X0 (aA 1)) (oE rfl T.B6)))))))
theorem uU :jC P w K mg b 7 1 "read" vJ :=
 uB (k :=6) (body :=FM) T.f7 GC rfl rfl fun _ _ _ _ _ _ _ hr =>oA (rB 1 GC.nd (xG sA)) (oA (rB 2 GC.nd (xG sA)) (oA (uF PassesOwn.never rfl (fU rfl T.K6 (RL (aA 0) BA)) (QP 3 4 rfl GC.nd) (oA (rB 5 GC.nd (RL (aA 4) BA)) (nA (iB (WM.tm (uJ (CA (sJ hr.units) (aA 2) (QF sA)) (jJ (CC (LA (KR T b) hr (dA (aA 5) (dA (aA 1) sA))))))) (nA (NE (kF (aA 1) (lA (aA 5) bA)))) (oA (rB 6 GC.nd (LA (cS T b) hr (dA (aA 5) (dA (aA 1) sA)))) (oA (iB (WM.tm (gC (CA PX (aA 6) pF) (KC (BC (CC (LA (YR T b) hr (dA (aA 2) (dA (aA 6) sA)))))))) (nA iV) pB) (nA (NE (kF (aA 2) (aA 6)))))))))) (nA (yA (VD (dA (aA 1) (dA (aA 2) sA)))))))
theorem KN :jC P w K mg b 3 2 "ways_row" oG :=
 uB (k :=2) (body :=JL) T.O6 tS rfl rfl fun _ _ _ _ _ _ _ hr =>nA (yA (iF BA (fA GH (fA GH (QF (dA (lA (aA 1) (lA (aA 0) bA)) sA)) (LA (LN T b) hr (dA (lA (aA 0) bA) sA))) (QF (dA (lA (aA 1) (lA (aA 0) bA)) sA)))))
theorem XR :jC P w K mg b 4 2 "fact_row" nG :=
 uB (k :=3) (body :=aH) T.L6 rS rfl rfl fun _ _ _ _ _ _ _ hr =>oA (iB (CA (RB hr.units) (lA (aA 0) bA) BA) (nA (yA (fA mE BA (LA (KN T b) hr (dA (aA 0) (dA (aA 1) sA)))))) pB) (oA (iB (CA (RB hr.units) (lA (aA 0) bA) BA) (nA (yA (iF BA (QF (dA BA (dA (lA (aA 1) (lA (aA 0) bA)) (dA (qJ rfl T.U2 (lA (aA 0) bA)) (dA (qJ rfl T.U2 (lA (aA 0) bA)) sA)))))))) pB) (nA (yA (fA mE BA (iF BA (FD (Nc := ["member", "names"]) rfl (kD (lA (aA 0) bA)) (by decide +kernel) rfl (by decide +kernel) (by rfl) (by exact⟨⟨rfl, .inl rfl, .inl rfl,rfl⟩,trivial⟩) (fun _ _ _ _ =>QB 0 (show(["member", "names"] :List Str).Nodup by decide +kernel)) (fun _ _ _ _ =>jD) (fun _ _ _ _ =>LA (KN T b) hr (dA (aA 0) (dA (aA 1) sA)))))))))
theorem ES :jC P w K mg b 5 2 "written" NI :=
 uB (k :=4) (body :=BL) T.Z6 QD rfl rfl fun _ _ _ _ _ _ _ hr =>oA (lL (Nc := ["name"]) 2 rfl QD.nd (kD (aA 0)) (by decide +kernel) rfl (by decide +kernel) (by rfl) (by exact trivial) (fun _ _ _ _ =>QB 0 (show(["name"] :List Str).Nodup by decide +kernel)) (fun _ _ _ _ =>jD) (fun _ _ _ _ =>bV (aA 0)) (by rfl)) (oA (NE (xT (aA 2) (NO (Nc := ["fact", "names"]) rfl (kD (aA 1)) (by decide +kernel) rfl (by decide +kernel) (by rfl) (by exact⟨⟨rfl, .inl rfl, .inl rfl,rfl⟩,trivial⟩) (fun _ _ _ _ =>QB 0 (show(["fact", "names"] :List Str).Nodup by decide +kernel)) (fun _ _ _ _ =>jD) (fun _ _ _ _ =>LA (XR T b) hr (dA (aA 0) (dA (aA 1) sA)))))) (nA (yA (iF BA (aA 2)))))
theorem DK :jC P w K mg b 1 2 "_law_cell_at" SD :=
 uB (k :=0) (body :=wK) T.X5 NR rfl rfl fun _ _ _ _ _ _ _ hr =>oA (iB (CA CG (aA 1) (pC rfl T.X0 (aA 0))) (nA (yA (lA (aA 0) (aA 1)))) pB) (nA (yA bA))
theorem ZG :jC P w K mg b 1 2 "_law_mixed" tD :=
 uB (k :=0) (body :=JK) T.t6 QC rfl rfl fun _ _ _ _ _ _ _ hr =>oA (rB 2 QC.nd (fA BB (fA HH (fA JC (fA JC (fA BB (aA 0) bA) (fA HH bA (aA 1))) bA) bA) bA)) (nA (yA (fA BB (fA HH (aA 2) (fA JC (fA JC (fA BB (aA 2) bA) (aA 1)) bA)) bA)))
theorem GR :jC P w K mg b 1 2 "_law_name_by" YG :=
 uB (k :=0) (body :=sI) T.Z5 NA rfl rfl fun _ _ _ _ _ _ _ hr =>oA (rB 2 NA.nd BA) (oA (rB 0 NA.nd (fA BB (aA 0) bA)) (oA (iB (WM.tm (uJ (CA (RB hr.units) (fA BB (fA ID (aA 0) bA) bA) bA) (jJ (CA CG (aA 1) bA)))) (nA (yA (lA (aA 2) (fA BB (fA JC (aA 1) (fA ID (aA 0) bA)) bA)))) pB) (oA (rB 3 NA.nd (fA JC bA (fA BB (fA JC (aA 0) (fA HH (aA 1) (fA BB (fA ID (aA 0) bA) bA))) bA))) (oA (rB 4 NA.nd (fA BB (fA ID (aA 0) bA) (aA 3))) (oA (lL (Nc := ["_law_x", "_law_cell", "_law_some"]) 5 rfl NA.nd (QE rfl T.C2 (aA 3)) (by decide +kernel) rfl (by decide +kernel) (by rfl) (by exact⟨⟨rfl, .inl rfl, .inl rfl,rfl⟩,⟨⟨rfl, .inl rfl, .inl rfl,rfl⟩,trivial⟩⟩) (fun _ _ _ _ =>QB 0 (show(["_law_x", "_law_cell", "_law_some"] :List Str).Nodup by decide +kernel)) (fun _ _ _ _ =>jD) (fun _ _ _ _ =>lA (aA 2) (fA BB (fA ID (aA 1) bA) bA)) (by rfl)) (oA (XI (lA (aA 2) (fA BB (fA ID (aA 1) bA) bA)) (aA 5) (aA 4)) (oA (XI (lA (aA 2) (fA BB (aA 1) bA)) (aA 5) (fA BB (fA JC (aA 4) bA) (aA 3))) (nA (yA (iF BA (aA 5)))))))))))
theorem SR :jC P w K mg b 1 0 "_law_words" wI :=
 uB (k :=0) (body :=NK) T.n6 TC rfl rfl fun _ _ _ _ _ _ _ hr =>oA (rB 0 TC.nd BA) (nA (yA (RL (aA 0) BA)))
theorem HR :jC P w K mg b 1 2 "_law_pair_by" pI :=
 uB (k :=0) (body :=xK) T.b6 vC rfl rfl fun _ _ _ _ _ _ _ hr =>oA (rB 2 vC.nd (fA BB (aA 0) (aA 1))) (nA (yA (VD (dA (aA 2) (dA (fA BB (fA JC (fA JC (aA 2) bA) (fA BB (fA ID (aA 0) (aA 1)) (fA QX (aA 1) bA))) (aA 1)) sA)))))
theorem ER :jC P w K mg b 2 2 "_law_length_by" EF :=
 uB (k :=1) (body :=hG) T.V5 QA rfl rfl fun _ _ _ _ _ _ _ hr =>oA (rB 2 QA.nd (fA BB (fA HH (aA 0) bA) (fA JM bA bA))) (oA (iB (CA (RB hr.units) (fA BB (aA 0) bA) bA) (nA (rB 2 QA.nd (fA BB (fA ID (aA 0) bA) bA))) pB) (oA (rB 3 QA.nd (hV rfl rfl T.i7 (fA JM bA bA) (fA JC (aA 2) (fA BB (LA (ZG T b) hr (dA (aA 0) (dA bA sA))) bA)))) (oA (iB (CA (RB hr.units) (fA BB (aA 0) bA) bA) (nA (rB 3 QA.nd (fA JM bA bA))) pB) (nA (yA (VD (dA BA (dA (aA 1) (dA (aA 2) (dA (aA 3) sA))))))))))
theorem FN :jC P w K mg b 2 2 "_law_ways_by" DF :=
 uB (k :=1) (body :=tI) T.f6 yB rfl rfl fun _ _ _ _ _ _ _ hr =>oA (lW (LA (HR T b) hr (dA (aA 0) (dA (aA 1) sA))) (QP 2 3 rfl yB.nd)) (oA (rB 4 yB.nd (fA JC bA (fA BB (LA (ZG T b) hr (dA (aA 0) (dA bA sA))) bA))) (oA (iB (CA (RB hr.units) (fA BB (aA 0) bA) bA) (nA (rB 4 yB.nd (fA cQ bA (fA BB (LA (ZG T b) hr (dA (aA 0) (dA bA sA))) bA)))) pB) (nA (yA (VD (dA BA (dA (aA 2) (dA (aA 4) (dA (aA 3) sA)))))))))
theorem FR :jC P w K mg b 3 3 "_law_fact_by" kG :=
 uB (k :=2) (body :=XG) T.Y5 uC rfl rfl fun _ _ _ _ _ _ _ hr =>oA (rB 3 uC.nd (LA (ZG T b) hr (dA (aA 0) (dA bA sA)))) (oA (iB (WM.tm (gC (CA (RB hr.units) (aA 1) bA) (KC (CA (RB hr.units) (fA BB (aA 3) bA) bA)))) (nA (yA (LA (ER T b) hr (dA (fA ID (aA 3) bA) (dA (fA BB (fA ID (aA 3) bA) (aA 1)) sA))))) pB) (oA (iB (WM.tm (uJ (CA (RB hr.units) (fA BB (aA 3) bA) bA) (jJ (CA CG (aA 2) bA)))) (nA (yA (VD (dA BA (dA (FD (Nc := ["_law_k", "_law_cell", "_law_count"]) rfl (QE rfl T.C2 (fA JC bA (fA BB (fA ID (aA 3) bA) bA))) (by decide +kernel) rfl (by decide +kernel) (by rfl) (by exact⟨⟨rfl, .inl rfl, .inl rfl,rfl⟩,⟨⟨rfl, .inl rfl, .inl rfl,rfl⟩,trivial⟩⟩) (fun _ _ _ _ =>QB 0 (show(["_law_k", "_law_cell", "_law_count"] :List Str).Nodup by decide +kernel)) (fun _ _ _ _ =>jD) (fun _ _ _ _ =>LA (FN T b) hr (dA (LA (ZG T b) hr (dA (aA 1) (dA (fA JC bA (aA 0)) sA))) (dA (aA 2) sA)))) sA))))) pB) (nA (yA (LA (FN T b) hr (dA (fA ID (aA 3) bA) (dA (aA 1) sA)))))))
theorem JR :jC P w K mg b 4 2 "_law_facts_by" qI :=
 uB (k :=3) (body :=FK) T.i6 FA rfl rfl fun _ _ _ _ _ _ _ hr =>oA (rB 2 FA.nd (xG sA)) (oA (rB 3 FA.nd bA) (oA (uF PassesOwn.never rfl (kD (aA 0)) (QB 4 FA.nd) (oA (rB 5 FA.nd (LA (FR T b) hr (dA (aA 4) (dA (aA 1) (dA (aA 3) sA))))) (oA (rB 3 FA.nd (fA JC (aA 3) (fV rfl T.Y3 (VE (RB hr.units) (lA (aA 5) bA) BA)))) (nA (NE (kF (aA 2) (aA 5))))))) (nA (yA (aA 2)))))
theorem HN :jC P w K mg b 2 2 "_law_ways_row" jG :=
 uB (k :=1) (body :=GK) T.j6 JB rfl rfl fun _ _ _ _ _ _ _ hr =>oA (rB 2 JB.nd (zU (SR T b) hr (by decide) rfl)) (oA (ZT (Nc := ["_law_k", "_law_fact", "_law_some"]) 3 rfl JB.nd (QE rfl T.C2 bA) (by decide +kernel) rfl (by decide +kernel) (by rfl) (by exact⟨⟨rfl, .inl rfl, .inl rfl,rfl⟩,⟨⟨rfl, .inl rfl, .inl rfl,rfl⟩,trivial⟩⟩) (fun _ _ _ _ =>QB 0 (show(["_law_k", "_law_fact", "_law_some"] :List Str).Nodup by decide +kernel)) (fun _ _ _ _ =>yJ (CA (RB hr.units) (fA rP (fA dQ (lA (aA 1) bA) (aA 0)) bA) bA)) (fun _ _ _ _ =>lA (aA 2) (aA 0)) (by rfl)) (nA (yA (iF BA (fA GH (fA GH (QF (dA (lA (aA 0) (lA (aA 1) bA)) sA)) (aA 3)) (QF (dA (lA (aA 0) (lA (aA 1) bA)) sA)))))))
theorem IR :jC P w K mg b 3 2 "_law_fact_row" iG :=
 uB (k :=2) (body :=UG) T.g6 UR rfl rfl fun _ _ _ _ _ _ _ hr =>oA (iB (CA (RB hr.units) (lA (aA 1) bA) BA) (nA (yA (fA mE BA (LA (HN T b) hr (dA (aA 0) (dA (aA 1) sA)))))) pB) (oA (iB (CA (RB hr.units) (lA (aA 1) bA) BA) (nA (yA (fA mE (fA mE (fA mE (fA mE (fA mE BA (lA (aA 0) (lA (aA 1) bA))) BA) (qJ rfl T.U2 (lA (aA 1) bA))) BA) (qJ rfl T.U2 (lA (aA 1) bA))))) pB) (nA (yA (fA mE BA (iF BA (FD (Nc := ["_law_member", "_law_names"]) rfl (kD (lA (aA 1) bA)) (by decide +kernel) rfl (by decide +kernel) (by rfl) (by exact⟨⟨rfl, .inl rfl, .inl rfl,rfl⟩,trivial⟩) (fun _ _ _ _ =>QB 0 (show(["_law_member", "_law_names"] :List Str).Nodup by decide +kernel)) (fun _ _ _ _ =>jD) (fun _ _ _ _ =>LA (HN T b) hr (dA (aA 1) (dA (aA 0) sA)))))))))
theorem QR :jC P w K mg b 1 1 "_law_whole" vI :=
 uB (k :=0) (body :=MK) T.A6 jS rfl rfl fun _ _ _ _ _ _ _ hr =>nA (yA (zH (WE rfl T.D2 rfl T.Y3 PyProof.Rows.boot_int (by decide) (aA 0)) (BH (MV (WE rfl T.D2 rfl T.g7 PyProof.Rows.boot_bool (by decide) (aA 0))))))
theorem PR :jC P w K mg b 1 2 "_law_texts" uI :=
 uB (k :=0) (body :=LK) T.w6 RC rfl rfl fun _ _ _ _ _ _ _ hr =>oA (iB (WM.tm (gC (BC (CC (WE rfl T.D2 rfl T.X3 PyProof.Rows.boot_list (by decide) (aA 0)))) (KC (CA (wD hr.units) (pC rfl T.X0 (aA 0)) (pC rfl T.X0 (aA 1)))))) (nA (yA DC)) pB) (oA (uF PassesOwn.never rfl (QE rfl T.C2 (pC rfl T.X0 (aA 1))) (QB 2 RC.nd) (nA (iB (WM.tm (gC (BC (CC (WE rfl T.D2 rfl T.U2 PyProof.Rows.boot_str (by decide) (lA (aA 0) (aA 2))))) (KC (CA (wD hr.units) (lA (aA 0) (aA 2)) (lA (aA 1) (aA 2)))))) (nA (yA DC)) pB))) (nA (yA DC)))
theorem mK {R :HB} {k :Nat} (hk :1 ≤ k) (hR :jC P w K mg b k 2 "_law_fact_alike" R) :jC P w K mg b (k+1) 2 "_law_facts_alike" (IE R) :=
 by unfold IE;exact uB (k :=k) (body :=jK R) T.W5 VB rfl rfl fun _ _ _ _ _ _ _ hr =>oA (iB (WM.tm (gC (BC (CC (WE rfl T.D2 rfl T.X3 PyProof.Rows.boot_list (by decide) (aA 0)))) (KC (CA (wD hr.units) (pC rfl T.X0 (aA 0)) (pC rfl T.X0 (aA 1)))))) (nA (yA DC)) pB) (oA (uF PassesOwn.never rfl (QE rfl T.C2 (pC rfl T.X0 (aA 1))) (QB 2 VB.nd) (nA (iB (BC (CC (pJ hR hr (by omega) rfl (dA (lA (aA 0) (aA 2)) (dA (lA (aA 1) (aA 2)) sA))))) (nA (yA DC)) pB))) (nA (yA DC)))
theorem DR {R :HB} {k :Nat} (hk :1 ≤ k) (hR :jC P w K mg b k 2 "_law_fact_alike" R) :jC P w K mg b (k+2) 2 "_law_fact_alike" (fC 2 3 (mG R)) :=
 uB (k :=k+1) (body :=mG R) T.w5 XB rfl rfl fun _ _ _ _ _ _ _ hr =>oA (iB (WM.tm (gC (BC (CC (WE rfl T.D2 rfl T.A5 PyProof.Rows.boot_tuple (by decide) (aA 0)))) (gC (CA (wD hr.units) (pC rfl T.X0 (aA 0)) (pC rfl T.X0 (aA 1))) (gC (BC (CC (WE rfl T.D2 rfl T.U2 PyProof.Rows.boot_str (by decide) (lA (aA 0) bA)))) (KC (CA (wD hr.units) (lA (aA 0) bA) (lA (aA 1) bA))))))) (nA (yA DC)) pB) (oA (iB (CA (RB hr.units) (lA (aA 1) bA) BA) (nA (yA (pJ (mK T b hk hR) hr (by omega) rfl (dA (lA (aA 0) bA) (dA (lA (aA 1) bA) sA))))) pB) (oA (uF PassesOwn.never rfl (zT rfl T.C2 bA bA) (QB 2 XB.nd) (nA (iB (WM.tm (gC (BC (CC (pJ (QR T b) hr (by omega) rfl (dA (lA (aA 0) (aA 2)) sA)))) (KC (CA (wD hr.units) (lA (aA 0) (aA 2)) (lA (aA 1) (aA 2)))))) (nA (yA DC)) pB))) (nA (yA DC))))
theorem iK :∀n :Nat,jC P w K mg b (1+2*n) 2 "_law_fact_alike" (iD n)
 | 0 =>nW T.w5
 | n+1 =>DR T b (Nat.le_add_right _ _) (iK n)
theorem xX {f :Addr} {fd :FuncData} (F :Z3 K "law" "law" fN f fd) :Z0 P w K mg b wF 9 f fd ["_law_script"] (VH K 1 EG) :=by unfold EG;exact yX (k :=8) (body :=CJ) F hC rfl rfl fun cdv A outer s H E hr =>by(unfold CJ sH uG vG mJ lJ kJ;exact oA (rB 1 hC.nd (fA JC bA (fA BB (LA (DK T b) hr (dA (aA 0) (dA bA sA))) bA))) (oA (rB 2 hC.nd (NO (Nc := ["_law_k", "_law_script"]) rfl (QE rfl T.C2 (aA 1)) (by decide +kernel) rfl (by decide +kernel) (by rfl) (by exact⟨⟨rfl, .inl rfl, .inl rfl,rfl⟩,trivial⟩) (fun _ _ _ _ =>QB 0 (show(["_law_k", "_law_script"] :List Str).Nodup by decide +kernel)) (fun _ _ _ _ =>jD) (fun _ _ _ _ =>LA (GR T b) hr (dA (LA (DK T b) hr (dA (aA 1) (dA bA sA))) (dA (aA 0) sA))))) (oA (iB (WM.tm (uJ (CA xQ (aA 1) bA) (jJ (CA (sJ hr.units) (fA BB (LA (DK T b) hr (dA (aA 0) (dA bA sA))) bA) bA)))) (oA (XI BA (aA 2) bA) (nA (XI BA (aA 2) bA))) pB) (oA (rB 3 hC.nd (LA (JR T b) hr (dA (jH (aA 0) (JF bA) (JF bA)) (dA (aA 1) sA)))) (oA (rB 4 hC.nd (iF BA (fA GH (FD (Nc := ["_law_name"]) rfl (kD (aA 2)) (by decide +kernel) rfl (by decide +kernel) (by rfl) (by exact trivial) (fun _ _ _ _ =>QB 0 (show(["_law_name"] :List Str).Nodup by decide +kernel)) (fun _ _ _ _ =>jD) (fun _ _ _ _ =>fA mE BA (aA 0))) (FD (Nc := ["_law_fact", "_law_names"]) rfl (kD (aA 3)) (by decide +kernel) rfl (by decide +kernel) (by rfl) (by exact⟨⟨rfl, .inl rfl, .inl rfl,rfl⟩,trivial⟩) (fun _ _ _ _ =>QB 0 (show(["_law_fact", "_law_names"] :List Str).Nodup by decide +kernel)) (fun _ _ _ _ =>jD) (fun _ _ _ _ =>LA (IR T b) hr (dA (aA 1) (dA (aA 0) sA))))))) (oA (uF PassesOwn.never rfl (QE rfl T.C2 bA) (QB 5 hC.nd) (oA (rB 6 hC.nd (LA (uU T b) hr (dA (aA 4) sA))) (oA (iB (WM.tm (gC (BC (CC (WE rfl T.D2 rfl T.A5 PyProof.Rows.boot_tuple (by decide) (aA 6)))) (KC (CA (VM hr.units) (pC rfl T.X0 (aA 6)) bA)))) (nA (yA DC)) pB) (oA (iB (WM.tm (gC (BC (CC (LA (PR T b) hr (dA (lA (aA 6) bA) (dA (aA 2) sA))))) (KC (BC (CC (LA (mK T b (by omega) (iK T b 3)) hr (dA (lA (aA 6) bA) (dA (aA 3) sA)))))))) (nA (yA DC)) pB) (oA (uF PassesOwn.never rfl (kD (lA (aA 6) bA)) (QB 7 hC.nd) (nA (iB (CA (sJ hr.units) (lA (aA 7) bA) BA) (nA (NE (kF (lA (aA 7) bA) (VD (dA BA (dA bA (dA bA (dA bA sA)))))))) pB))) (oA (NE (kF (lA (aA 6) bA) BA)) (oA (NE (kF (lA (aA 6) bA) (VD (dA BA (dA bA (dA bA (dA bA sA))))))) (oA (rB 8 hC.nd (QF (dA (OO rfl T.X3 (aA 2)) (dA (FD (Nc := ["_law_fact"]) rfl (kD (aA 3)) (by decide +kernel) rfl (by decide +kernel) (by rfl) (by exact trivial) (fun _ _ _ _ =>QB 0 (show(["_law_fact"] :List Str).Nodup by decide +kernel)) (fun _ _ _ _ =>jD) (fun _ _ _ _ =>nQ (CA (sJ hr.units) (lA (aA 0) bA) BA) (VD (dA BA (dA (OO rfl T.X3 (lA (aA 0) bA)) sA))) (aA 0))) sA)))) (oA (rB 9 hC.nd (LA (ES T b) hr (dA (lA (aA 8) bA) (dA (lA (aA 8) bA) sA)))) (oA (iB (WM.tm (gC (BC (CC (WE rfl T.D2 rfl T.U2 PyProof.Rows.boot_str (by decide) (aA 9)))) (KC (CA (VM hr.units) (aA 9) (aA 4))))) (nA (yA DC)) pB) (nA (iB (WM.tm (gC (CA (VM hr.units) (lA (aA 8) bA) (aA 2)) (KC (BC (CC (LA (mK T b (by omega) (iK T b 3)) hr (dA (lA (aA 8) bA) (dA (aA 3) sA)))))))) (nA (yA DC)) pB)))))))))))) (nA (yA DC))))))))
end
theorem VU{c :Nat} :∀{x y r t :List Nat},c∉x → c∉y → x ++ c ::r =y ++ c ::t → x =y ∧ r =t :=by
 intro x
 induction x with
 | nil =>
  intro y r t _ hy e;cases y with
  | nil =>exact⟨rfl,by simpa using e⟩
  | cons b y =>exfalso;apply hy;simp only[Y9,Z9,List.cons.injEq]at e;rw[e.1];simp
 | cons a x ih =>
  intro y r t hx hy e;cases y with
  | nil =>exfalso;apply hx;simp only[Y9,Z9,List.cons.injEq]at e;rw[e.1];simp
  | cons b y =>simp only[Z9,List.cons.injEq]at e;obtain⟨h1,h2⟩ :=ih (fun h =>hx (by simp[h])) (fun h =>hy (by simp[h])) e.2;exact⟨by rw[e.1,h1],h2⟩
theorem KF(a b :Str) :(a ++ b).cps.toList =a.cps.toList ++ b.cps.toList :=by rw[Str.cps_append];simp
theorem iJ{a b :Str}(h :a.cps.toList =b.cps.toList) :a =b :=by cases a;cases b;simp only[Str.mk.injEq];exact Array.toList_inj.mp h
theorem CT{c :Nat} :∀(ts us :List Str),ts ≠ [] → us ≠ [] → (∀t∈ts,c∉t.cps.toList) → (∀t∈us,c∉t.cps.toList) → Str.join ⟨#[c]⟩ ts =Str.join ⟨#[c]⟩ us → ts =us :=by
 intro ts
 induction ts with
 | nil =>intro us h;exact absurd rfl h
 | cons x ts ih =>
  intro us _ hu ht hu2 e;cases us with
  | nil =>exact absurd rfl hu
  | cons y us =>
   have hx :=ht x (by simp);have hy :=hu2 y (by simp);have e :=congrArg (fun s :Str =>s.cps.toList) e;cases ts with
   | nil =>
    cases us with
    | nil =>rw[iJ (a :=x) (b :=y) e]
    | cons z us =>exfalso;apply hx;simp only[Str.join,KF]at e;rw[e];simp
   | cons w ts =>
    cases us with
    | nil =>exfalso;apply hy;simp only[Str.join,KF]at e;rw[← e];simp
    | cons z us =>simp only[Str.join,KF,List.append_assoc]at e;obtain⟨e1,e2⟩ :=VU hx hy (show x.cps.toList ++ c ::(Str.join ⟨#[c]⟩ (w ::ts)).cps.toList =y.cps.toList ++ c ::(Str.join ⟨#[c]⟩ (z ::us)).cps.toList by simpa using e);rw[iJ e1,ih (z ::us) (by simp) (by simp) (fun t h =>ht t (by simp[h])) (fun t h =>hu2 t (by simp[h])) (iJ e2)]
theorem QT{c :Nat}{ts :List Str}(hn :ts ≠ [])(h :∀t∈ts,c∉t.cps.toList) :Txt.split (Str.join ⟨#[c]⟩ ts) ⟨#[c]⟩ =ts :=
 CT _ _ (fun e =>by have :=split_pos (Str.join ⟨#[c]⟩ ts) ⟨#[c]⟩;rw[e]at this;simp at this) hn (StrLaws.split_free _ _) h (StrLaws.join_split _ _)
theorem nH{z :Str}{ts :List Str}{B :Nat}(hB :∀t∈ts,t.length ≤ B)(h :ts.length*B+ts.length*z.length ≤ 16777216) :JoinOk z ts =true :=by unfold JoinOk;rw[StrLaws.joinFits hB h];rfl
section
variable{l :LI}{h :HI}{fa fb fo f :RE}
def XJ(a :Dt)(q :Dt×HI) :Option (Dt×HI) :=match a with
 | .str z =>(jA q.2 q.1).bind fun xs =>(tF xs).bind fun ts =>if PySem.JoinOk z ts =true then some (.str (Str.join z ts),q.2)else none
 | _ =>none
theorem nF :UD fa fb l h =fB (fa l h) fun r =>fB (fb l r.2) (XJ r.1) :=by
 unfold fB UD
 congr 1
theorem JO :∀ts :List Str,tF (ts.map Dt.str) =some ts
 | [] =>rfl
 | t ::ts =>by simp only[S9,tF,JO ts,W9]
theorem qF{z :Str}{d :Dt}{ts :List Str}(e :jA h d =some (ts.map Dt.str))(ok :JoinOk z ts =true) :XJ (.str z) (d,h) =some (.str (Str.join z ts),h) :=by simp only[XJ,e,X9,JO,if_pos ok]
noncomputable def mN(a :Dt)(q :Dt×HI) :Option (Dt×HI) :=match a,q.1 with
 | .str z, .str y =>if(y.length==0) =false ∧ z.length ≤ sizeLine ∧ (Txt.split z y).length ≤ sizeLine then some (.lst ((Txt.split z y).map Dt.str),q.2)else none
 | _,_ =>none
theorem fJ :oF fa fb l h =fB (fa l h) fun r =>fB (fb l r.2) (mN r.1) :=by
 unfold fB oF
 congr 1
theorem tJ{c :Nat}{ts :List Str}(hn :ts ≠ [])(hf :∀t∈ts,c∉t.cps.toList)(hz :(Str.join ⟨#[c]⟩ ts).length ≤ 16000000) :mN (.str (Str.join ⟨#[c]⟩ ts)) (.str ⟨#[c]⟩,h) =some (.lst (ts.map Dt.str),h) :=by have e :=QT hn hf;have w :=split_le (Str.join ⟨#[c]⟩ ts) ⟨#[c]⟩;have hs :sizeLine =16777216 :=rfl;simp only[mN];rw[if_pos ⟨rfl,by rw[hs];omega,by rw[hs];omega⟩,e]
theorem iR(x :Str) :NQ x f l h =fB (f l h) fun r =>dD (.str x) r.1 r.2 :=by
 unfold fB NQ
 congr 1
 funext r
 obtain⟨d,h⟩ :=r;cases d<;>rfl
theorem WD{x y :Str}(c :x.length+y.length ≤ 16000000) :dD (.str x) (.str y) h =some (.str (x ++ y),h) :=by simp only[dD];rw[if_pos (Nat.le_trans c (by decide))]
theorem UI :∀{nm :List Str}{i :Nat}(_ :nm.Nodup)(hi :i<nm.length),ND (nm.map Dt.str) (.str nm[i]) =some i
 | [],i,_,hi =>absurd hi (by simp)
 | x ::nm,0,_,_ =>by simp[ND,CB]
 | x ::nm,i+1,nd,hi =>by
  have nd' :=List.nodup_cons.mp nd;have hi' :i<nm.length :=by simpa using hi
  have ne :¬x =nm[i] :=fun e =>nd'.1 (e ▸ List.getElem_mem hi')
  have e :CB (.str x) (.str nm[i])≠true :=by simpa[CB]using ne
  show(if CB (.str x) (.str nm[i]) =true then some 0 else(ND (nm.map Dt.str) (.str nm[i])).map (· + 1)) =some (i+1);rw[if_neg e,UI nd'.2 hi'];rfl
theorem pH :∀ts :List Str,LB (ts.map Dt.str) =true
 | [] =>rfl
 | t ::ts =>by simp only[S9,LB,IA,pH ts,Bool.and_self]
theorem aJ :∀ts :List Str,aC (ts.map Dt.str) ≤ 1
 | [] =>by simp[aC]
 | t ::ts =>by have :=aJ ts;simp only[S9,aC,MD];omega
theorem kM{d :Dt}{nm :List Str}{i :Nat}(e1 :fo l h =some (d,h))(e2 :jA h d =some (nm.map Dt.str))(nd :nm.Nodup)(hi :i<nm.length)(e3 :fa l h =some (.str nm[i],h)) :FG fo fa l h =some (.int (i :Nat),h) :=by
 have ok :aF (nm.map Dt.str) (.str nm[i]) =true :=by have :=aJ nm;simp only[aF,pH,IA,Bool.and_self,Bool.true_and,decide_eq_true_eq];omega
 simp only[FG,e1,X9,e2,e3,if_pos ok,UI nd hi,W9]
theorem QN :∀ts :List Str,JD (ts.map Dt.str) =some (ts.map V.str)
 | [] =>rfl
 | t ::ts =>by simp only[S9,JD,xC,QN ts,W9,X9]
theorem SO(s :Str) :∀ts :List Str,iN (.str s) (ts.map V.str) =decide (s∈ts)
 | [] =>rfl
 | t ::ts =>by
  have ih :=SO s ts;unfold iN at ih ⊢;rw[S9,List.any_cons,ih];by_cases e :t =s
  · subst e;simp[RH]
  · have e' :¬s =t :=fun z =>e z.symm
    simp[RH,e,e']
theorem qH{d :Dt}{nm :List Str}(s :Str)(n :Bool)(e :DD h d =some (nm.map Dt.str)) :TH n (.str s) d h =some (.bl (if n then !decide (s∈nm)else decide (s∈nm)),h) :=by simp only[TH,xC,X9,e,QN,SO]
end
noncomputable def MG(n :Nat)(p :Nat → Bool) :Nat :=match n with
 | 0 =>0
 | n+1 =>MG n p+(if p n =true then 2^n else 0)
theorem UM(p :Nat → Bool) :∀n,MG n p<2^n
 | 0 =>by simp[MG]
 | n+1 =>by have :=UM p n;simp only[MG];rw[Nat.pow_succ];split<;>omega
theorem pP(p :Nat → Bool) :∀n k,(MG n p).testBit k =(decide (k<n)&&p k)
 | 0,k =>by simp[MG]
 | n+1,k =>by
  have ih :=pP p n k;have lt :=UM p n;simp only[MG];by_cases hp :p n =true
  · rw[if_pos hp,Nat.add_comm];rcases Nat.lt_trichotomy k n with h | h | h
    · rw[Nat.testBit_two_pow_add_gt h,ih];simp[h,Nat.lt_succ_of_lt h]
    · subst h;rw[Nat.testBit_two_pow_add_eq,ih];simp[hp]
    · have :2^n+MG n p<2^k :=Nat.lt_of_lt_of_le (show 2^n+MG n p<2^(n+1) by rw[Nat.pow_succ];omega) (Nat.pow_le_pow_right (by decide) h);rw[Nat.testBit_lt_two_pow this];have :¬k<n+1 :=by omega
      simp[this]
  · rw[if_neg hp,Nat.add_zero,ih];by_cases h :k =n
    · subst h;simp[hp]
    · have :(k<n+1) =(k<n) :=by apply propext;omega
      simp[this]
theorem cP{a b :Nat}(ha :a<8192)(hb :b<8192)(h :∀k<13,a.testBit k =b.testBit k) :a =b :=by
 apply Nat.eq_of_testBit_eq;intro k;by_cases hk :k<13
 · exact h k hk
 · have hp :8192 ≤ 2^k :=by have :=Nat.pow_le_pow_right (show 1 ≤ 2 by decide) (show 13 ≤ k by omega);exact this
   rw[Nat.testBit_lt_two_pow (by omega),Nat.testBit_lt_two_pow (by omega)]
def mk(p :Nat → Bool) :Nat :=MG 13 p
theorem FY(p :Nat → Bool) :mk p<8192 :=UM p 13
theorem JX(p :Nat → Bool){k :Nat}(hk :k<13) :(mk p).testBit k =p k :=by unfold mk;rw[pP];simp[hk]
theorem GY{m :Nat}(hm :m<8192) :mk m.testBit =m :=cP (FY _) hm fun _ hk =>JX _ hk
noncomputable def eD(m :Nat) :List Nat :=(List.range 13).filter m.testBit
theorem V0{m k :Nat} :k∈eD m↔k<13 ∧ m.testBit k =true :=by simp[eD]
theorem ST(g :Nat → Int)(p :Nat → Bool)(xs :List Nat) :((xs.filter p).map g).sum =(xs.map fun k =>if p k =true then g k else 0).sum :=by
 induction xs with
 | nil =>rfl
 | cons x xs ih =>by_cases h :p x =true<;>simp[h,ih]
theorem vX(p :Nat → Bool) :((((List.range 13).filter p).map fun k =>(2 :Int)^k)).sum =(mk p :Int) :=by
 rw[ST];simp only[mk,MG,List.range,List.range.loop,S9,T9,List.sum_cons,List.sum_nil];generalize p 0 =a0;generalize p 1 =a1;generalize p 2 =a2;generalize p 3 =a3;generalize p 4 =a4;generalize p 5 =a5;generalize p 6 =a6;generalize p 7 =a7;generalize p 8 =a8;generalize p 9 =a9;generalize p 10 =a10;generalize p 11 =a11;generalize p 12 =a12;have f :∀(b :Bool)(k :Nat),(if b =true then(2 :Int)^k else 0) =((if b =true then 2^k else 0 :Nat) :Int) :=by intro b k;cases b<;>simp
 simp only[f];omega
theorem tU(a b :Nat) :Builtin.bitAnd (a :Int) (b :Int) =((a&&&b :Nat) :Int) :=by unfold Builtin.bitAnd;simp
theorem UP(m k :Nat) :decide (Builtin.bitAnd ((m :Int)/2^k) 1 =1) =m.testBit k :=by
 have e :((m :Int)/2^k) =((m/2^k :Nat) :Int) :=by simp
 rw[e];have :=tU (m/2^k) 1;simp only[Int.cast_ofNat_Int]at this;rw[this,Nat.testBit_eq_decide_div_mod_eq];have e2 :(m/2^k&&&1) =m/2^k%2 :=Nat.and_one_is_mod _;rw[e2]
 congr 1
 apply propext;omega
theorem qN{k :Nat}(hk :k<13) :zE 1 (k :Int) :=⟨by omega,by omega,by decide⟩
theorem jR(h :HI) :xN (.int 13,h) =some (.vals ((List.range 13).map fun(k :Nat) =>Dt.int (k :Int)),h) :=zP (by decide) (by decide)
theorem eR{α :Type}(f :Nat → α) :((List.range 13).map f).length<sizeLine :=by rw[List.length_map,List.length_range];decide
theorem fM(m :Nat) :(eD m).length ≤ 13 :=by unfold eD;exact Nat.le_trans (List.length_filter_le _ _) (by simp)
theorem sT(m :Nat)(h :HI) :MI [.int m] h =some (.lst ((eD m).map fun(k :Nat) =>Dt.int (k :Int)),h) :=by
 have ec :=gH (te :=bL) (tc :=dL) (i :=0) (fun(k :Nat) =>Dt.int (k :Int)) m.testBit (fun(k :Nat) =>Dt.int (k :Int)) h (List.range 13) [none,some (.int m)] fun k _ =>⟨by
  simp[dL,wQ,UP],fun _ =>by simp[bL]⟩
 simp[MI,AL,jR,uD _ _ _ (eR _),ec,eD]
theorem yU(ks :List Nat)(hk :∀k∈ks,k<13)(hl :ks.length ≤ 13)(h :HI) :YI [.lst (ks.map fun(k :Nat) =>Dt.int (k :Int))] h =some (.int ((ks.map fun k =>(2 :Int)^k).sum),h) :=by
 have ec :=OE (te :=ML) (tc :=GB) (i :=0) (fun(k :Nat) =>Dt.int (k :Int)) (fun(k :Nat) =>Dt.int ((2 :Int)^k)) h ks [none] fun k hm =>⟨rfl,by
  simp[ML,vQ (qN (hk k hm))]⟩
 have hs :((ks.map fun(k :Nat) =>Dt.int (k :Int))).length<sizeLine :=by rw[List.length_map];exact Nat.lt_of_le_of_lt hl (by decide)
 have es :=ZW (h :=h) (ks.map fun k =>(2 :Int)^k);rw[List.map_map]at es;have :(Dt.int ∘ fun k =>(2 :Int)^k) =fun(k :Nat) =>Dt.int ((2 :Int)^k) :=rfl
 rw[this]at es;simp[YI,VL,uD _ _ _ hs,ec,es]
noncomputable def K1 :List Str := ["ahead", "joins", "laps", "closedby", "holds", "opens", "same", "openedby", "within", "closes", "lappedby", "joinedby", "behind"]
theorem aP :W1 =K1.map Dt.str :=rfl
def wS (k :Nat) :Str :=K1.getD k ""
theorem jM{k :Nat}(hk :k<13) :W1[k]? =some (.str (wS k)) :=by
 have :∀k<13,K1[k]? =some (wS k) :=by decide
 rw[aP,List.getElem?_map,this k hk];rfl
theorem WW :∀i<13,∀j<13,wS i =wS j → i =j :=by decide
theorem KJ :∀k<13,(wS k).length ≤ 8 ∧ 32∉(wS k).cps.toList ∧ 10∉(wS k).cps.toList ∧ wS k ≠ "or" :=by decide
def oB(m :Nat) :List Str :=(eD m).map wS
theorem DM(m :Nat) :(oB m).length ≤ 13 :=by unfold oB;rw[List.length_map];exact fM m
theorem YN(m :Nat)(h :HI) :cH [.int m] h =some (.lst ((oB m).map Dt.str),h) :=by
 have ec :=OE (te :=RK) (tc :=GB) (i :=0) (fun(k :Nat) =>Dt.int (k :Int)) (fun(k :Nat) =>Dt.str (wS k)) h (eD m) [none] fun k hm =>⟨rfl,by
  simp[RK,SM.lF,jM (V0.mp hm).1]⟩
 have hs :((eD m).map fun(k :Nat) =>Dt.int (k :Int)).length<sizeLine :=by rw[List.length_map];exact Nat.lt_of_le_of_lt (fM m) (by decide)
 have ew :(oB m).map Dt.str =(eD m).map fun(k :Nat) =>Dt.str (wS k) :=by unfold oB;rw[List.map_map];rfl
 simp[cH,KL,sT,uD _ _ _ hs,ec,ew]
theorem GV{m k :Nat}(hk :k<13) :wS k∈oB m↔k∈eD m :=by unfold oB;rw[List.mem_map];exact⟨fun⟨j,h1,h2⟩ =>WW j (V0.mp h1).1 k hk h2 ▸ h1,fun h =>⟨k,h,rfl⟩⟩
theorem tO :∀ts :List Str,dC (ts.map Dt.str) (ts.map Dt.str) =true :=fun ts =>SI _ (pH ts)
theorem eT{m :Nat}(hm :m<8192)(h :HI) :AI [.lst ((oB m).map Dt.str)] h =some (.int (m :Nat),h) :=by
 have ec :=gH (te :=QK) (tc :=SK) (i :=0) (fun(k :Nat) =>Dt.int (k :Int)) m.testBit (fun(k :Nat) =>Dt.int (k :Int)) h (List.range 13) [none,some (.lst ((oB m).map Dt.str))] fun k hk =>⟨by
  have hk :=List.mem_range.mp hk;have e :=qH (h :=h) (d := .lst ((oB m).map Dt.str)) (wS k) false rfl;have e2 :decide (wS k∈oB m) =m.testBit k :=by rw[Bool.eq_iff_iff,decide_eq_true_eq,GV hk,V0];simp[hk]
  rw[e2]at e;simp[SK,SM.lF,jM hk,e],fun _ =>by simp[QK]⟩
 have es :=yU (eD m) (fun k hk =>(V0.mp hk).1) (fM m) h;have em :=vX m.testBit;rw[GY hm]at em;have ew :(List.range 13).filter m.testBit =eD m :=rfl;rw[ew]at ec em;rw[em]at es;have wl :=YN m h;have ok :IC ((oB m).map Dt.str) ((oB m).map Dt.str) =true :=by have :=aJ (oB m);unfold IC;rw[pH];simp;omega
 have eq :VA (.lst ((oB m).map Dt.str)) (.lst ((oB m).map Dt.str)) h =some (.bl true,h) :=by simp only[VA,if_pos ok,tO]
 have tl :(W1.length :Int) =13 :=by decide
 simp[AI,IL,tl,jR,uD _ _ _ (eR _),ec,es,wl,eq]
theorem ZQ(x y :Str)(h :HI) :VA (.str x) (.str y) h =some (.bl (decide (x =y)),h) :=by simp[VA,uN,xC,gG,L2.nJ]
theorem SH(x y :Str)(h :HI) :OB (.str x) (.str y) h =some (.bl (!decide (x =y)),h) :=by simp[OB,vN,xC,gG,L2.nJ]
theorem MO(x y :Str)(hx :x.length ≤ 1000)(h :HI) :lH [.str x, .str y] h =some (.bl (x.cps.toList.all fun c =>decide (c∈y.cps.toList)),h) :=by
 have ec :=OE (te :=LL) (tc :=GB) (i :=0) (fun(c :Nat) =>Dt.str ⟨#[c]⟩) (fun(c :Nat) =>Dt.bl (decide (c∈y.cps.toList))) h x.cps.toList [none,some (.str y)] fun c _ =>⟨rfl,by
  have :Txt.contains y ⟨#[c]⟩ =decide (c∈y.cps.toList) :=StrLaws.found_one y c;simp[LL,eI,this]⟩
 have hs :(x.cps.toList.map fun(c :Nat) =>Dt.str ⟨#[c]⟩).length<sizeLine :=by rw[List.length_map];exact Nat.lt_of_le_of_lt (show x.cps.toList.length ≤ 1000 by simpa[Str.length]using hx) (by decide)
 have ea :=YW (h :=h) (x.cps.toList.map fun c =>decide (c∈y.cps.toList));rw[List.map_map]at ea;have e1 :(Dt.bl ∘ fun c =>decide (c∈y.cps.toList)) =fun(c :Nat) =>Dt.bl (decide (c∈y.cps.toList)) :=rfl
 rw[e1]at ea;have e2 :∀l h (f :RE) z,f l h =some (.str z,h) → aI f l h =some (.vals (z.cps.toList.map fun c =>Dt.str ⟨#[c]⟩),h) :=fun l h f z e =>by simp[aI,e]
 have e3 :=e2 [some (.str x),some (.str y)] h (eV 0) x rfl;have e4 :(x.cps.toList.map fun c =>decide (c∈y.cps.toList)).all id =x.cps.toList.all fun c =>decide (c∈y.cps.toList) :=by rw[List.all_map];rfl
 rw[e4]at ea;simp only[lH,UL,aB,Q9,R9,if_true,S9,T9,Nat.reduceAdd,Nat.reduceSub,List.replicate,mj,bB,ZC,mF,e3,kA,HD,UE,ED,O9,P9,Option.join_some,uD _ _ _ hs,ec,ea,dB]
structure W0(s :Str) :Prop where
 lo :1 ≤ s.length
 hi :s.length ≤ 8
 p4 :∀c∈s.cps.toList,97 ≤ c ∧ c ≤ 122
 no :s ≠ "or"
theorem W0.free{s :Str}(h :W0 s) :32∉s.cps.toList ∧ 10∉s.cps.toList :=⟨fun m =>by have :=h.p4 32 m;omega,fun m =>by have :=h.p4 10 m;omega⟩
theorem qS :∀c,97 ≤ c → c ≤ 122 → c∈(Str.ofString "abcdefghijklmnopqrstuvwxyz").cps.toList :=by
 have :∀c<123,97 ≤ c → c∈(Str.ofString "abcdefghijklmnopqrstuvwxyz").cps.toList :=by decide
 exact fun c h1 h2 =>this c (by omega) h1
theorem pS :∀c,48 ≤ c → c ≤ 57 → c∈(Str.ofString "0123456789").cps.toList :=by
 have :∀c<58,48 ≤ c → c∈(Str.ofString "0123456789").cps.toList :=by decide
 exact fun c h1 h2 =>this c (by omega) h1
theorem nP{x :Str}(hx :x.length ≤ 1000000)(h :HI) :nB (.str x) h =some (.int x.length,h) :=by simp only[nB];rw[if_pos (Nat.le_trans hx (by decide))]
theorem rT{s :Str}(ok :W0 s)(h :HI) :KI [.str s] h =some (.bl true,h) :=by
 have e1 :=MO s "abcdefghijklmnopqrstuvwxyz" (by have :=ok.hi;omega) h;have e2 :(s.cps.toList.all fun c =>decide (c∈(Str.ofString "abcdefghijklmnopqrstuvwxyz").cps.toList)) =true :=by rw[List.all_eq_true];intro c hc;exact decide_eq_true (qS c (ok.p4 c hc).1 (ok.p4 c hc).2)
 rw[e2]at e1;have ln :=nP (x :=s) (by have :=ok.hi;omega) h;have g1 :(1 :Int) ≤ s.length :=by have :=ok.lo;omega
 have g2 :(s.length :Int) ≤ 8 :=by have :=ok.hi;omega
 have ne :OB (.str s) (.str "or") h =some (.bl true,h) :=by rw[SH,decide_eq_false ok.no];rfl
 simp[KI,zL,ln,g1,g2,e1,ne]
noncomputable def OA(n :Nat) :Str :=Str.ofString (toString (n :Int))
theorem cJ(n :Nat) :(OA n).cps.toList =(Nat.toDigits 10 n).map Char.toNat :=PySem.W.KIN.signs_num n
theorem vH(n :Nat) :∀c∈(OA n).cps.toList,48 ≤ c ∧ c ≤ 57 :=by intro c hc;rw[cJ]at hc;obtain⟨ch,hch,e⟩ :=List.mem_map.mp hc;have r :=PyProof.Rows.digit_range (Nat.isDigit_of_mem_toDigits (by decide) (by decide) hch);rw[← e];exact r
theorem aO(n :Nat) :32∉(OA n).cps.toList ∧ 10∉(OA n).cps.toList :=⟨fun m =>by have :=vH n 32 m;omega,fun m =>by have :=vH n 10 m;omega⟩
theorem OF{n :Nat}(hn :n ≤ 1000000000000000000) :1 ≤ (OA n).length ∧ (OA n).length ≤ 19 :=by
 have e :(OA n).length =(Nat.toDigits 10 n).length :=by have :=congrArg List.length (cJ n);simpa[Str.length]using this
 rw[e];exact⟨toDigits_len_ge 10 n,toDigits_len_pow (by decide) (by decide) (by omega)⟩
theorem bO{n :Nat}(hn :n ≤ 1000000000000000000) :PySem.intText? (OA n) =some (n :Int) :=by
 have l :=OF hn;have e :=PySem.intText_digits (x :=OA n) (vH n) (fun z =>by
  have z0 :(OA n).cps.toList.length =0 :=by rw[z];rfl
  have z1 :=l.1;rw[Array.length_toList]at z0;unfold Str.length at z1;omega) (by omega)
 rw[cJ,PySem.W.KIN.val_back]at e;exact e
theorem GU :∀n :Nat,n≠0 → ∃c r,Nat.toDigits 10 n =c ::r ∧ c.toNat≠48 :=by
 intro n
 induction n using Nat.strongRecOn with
 | _ n ih =>
  intro hn;by_cases h :n<10
  · rw[Nat.toDigits_of_lt_base h];have :∀n<10,n≠0 → (Nat.digitChar n).toNat≠48 :=by decide
    exact⟨_,_,rfl,this n h hn⟩
  · obtain⟨c,r,e,hc⟩ :=ih (n/10) (by omega) (by omega);rw[Nat.toDigits_of_base_le (by decide) (by omega),e];exact⟨c,_,rfl,hc⟩
theorem MN{n :Nat}(hn :n ≤ 1000000000000000000)(h :HI) :qG [.str (OA n)] h =some (.bl true,h) :=by
 have l :=OF hn;have e1 :=MO (OA n) "0123456789" (by omega) h;have e2 :((OA n).cps.toList.all fun c =>decide (c∈(Str.ofString "0123456789").cps.toList)) =true :=by rw[List.all_eq_true];intro c hc;exact decide_eq_true (pS c (vH n c hc).1 (vH n c hc).2)
 rw[e2]at e1;have ln :=nP (x :=OA n) (by omega) h;have g1 :(1 :Int) ≤ (OA n).length :=by omega
 have g2 :((OA n).length :Int) ≤ 19 :=by omega
 by_cases z :n =0
 · subst z;have e0 :OA 0 = "0" :=by decide
   have eq :VA (.str (OA 0)) (.str "0") h =some (.bl true,h) :=by rw[ZQ,e0];rfl
   simp[qG,DI,ln,g1,g2,e1,eq]
 · obtain⟨c,r,e,hc⟩ :=GU n z;have e3 :(OA n).cps.toList =c.toNat ::r.map Char.toNat :=by rw[cJ,e];rfl
   have ix :iA (.str (OA n)) (.int 0) h =some (.str ⟨#[c.toNat]⟩,h) :=by simp only[iA];have z :=SM.lF (c.toNat ::r.map Char.toNat) 0;rw[if_pos (Nat.le_trans l.2 (by decide)),e3,show(0 :Int) =((0 :Nat) :Int)from rfl,z];rfl
   have ne :OB (.str ⟨#[c.toNat]⟩) (.str "0") h =some (.bl true,h) :=by
    have :(⟨#[c.toNat]⟩ :Str) ≠ "0" :=fun q =>hc (by
     have :=congrArg (fun s :Str =>s.cps.toList) q;simpa[show(Str.ofString "0").cps.toList = [48] by decide]using this)
    rw[SH,decide_eq_false this];rfl
   have nz :OA n ≠ "0" :=fun q =>by
    rw[q]at e3;rw[show(Str.ofString "0").cps.toList = [48] by decide]at e3;injection e3 with e3 _
    exact hc e3.symm
   have eq :VA (.str (OA n)) (.str "0") h =some (.bl false,h) :=by rw[ZQ,decide_eq_false nz]
   simp[qG,DI,ln,g1,g2,e1,eq,ix,ne]
theorem lS{a b :Nat}(h1 :a ≤ b)(h2 :b ≤ 1000000000000000000)(h :HI) :GI [.int a, .int b] h =some (.bl true,h) :=by
 have g0 :(0 :Int) ≤ a :=by omega
 have g1 :(a :Int) ≤ b :=by omega
 have g2 :(b :Int) ≤ 1000000000000000000 :=by omega
 simp[GI,YK,vM,g1,g2]
noncomputable abbrev Wy :=Nat×Nat×Nat
inductive Ft where
 | R0 (i lo hi :Nat)
 | way (w :Wy)
 | one (ws :List Wy)
noncomputable def xA (w :Wy) :Dt := .tup [.str "ways", .int (w.1 :Nat), .int (w.2.1 :Nat), .int (w.2.2 :Nat)]
def JA :Ft → Dt
 | .R0 i lo hi => .tup [.str "long", .int (i :Nat), .int (lo :Nat), .int (hi :Nat)]
 | .way w =>xA w
 | .one ws => .tup [.str "one", .lst (ws.map xA)]
structure eG(c :Nat)(w :Wy) :Prop where
 i :w.1<c
 j :w.2.2<c
 ne :w.1≠w.2.2
 lo :0<w.2.1
 hi :w.2.1<8192
noncomputable def jE(c :Nat) :Ft → Prop
 | .R0 i lo hi =>i<c ∧ lo ≤ hi ∧ hi ≤ 1000000000000000000
 | .way w =>eG c w
 | .one ws =>1 ≤ ws.length ∧ ws.length ≤ 6 ∧ ∀w∈ws,eG c w
structure IB(nm :List Str) :Prop where
 nd :nm.Nodup
 len :nm.length ≤ 8
 ok :∀s∈nm,W0 s
noncomputable def NB (nm :List Str) (i :Nat) :Str :=nm.getD i ""
theorem GD{nm :List Str}{i :Nat}(hi :i<nm.length) :NB nm i =nm[i] :=by simp[NB,hi]
theorem KE{nm :List Str}{i :Nat}(hi :i<nm.length) :NB nm i∈nm :=by rw[GD hi];exact List.getElem_mem hi
def wW(nm :List Str)(w :Wy) :List Str :=NB nm w.1 ::(oB w.2.1 ++ [NB nm w.2.2])
theorem kW{m :Nat}(h0 :0<m)(h1 :m<8192) :1 ≤ (oB m).length :=by
 unfold oB;rw[List.length_map];rcases Nat.eq_zero_or_pos (eD m).length with z | z
 · exfalso;have e :eD m = [] :=List.eq_nil_of_length_eq_zero z;have :m =0 :=cP h1 (by decide) fun k hk =>by
    cases q :m.testBit k with
    | false =>simp
    | true =>have :=V0.mpr ⟨hk,q⟩;rw[e]at this;cases this
   omega
 · exact z
theorem AX{xs :List Dt}{d :Dt}{h :HI} :iA (.lst (xs ++ [d])) (.int (-1)) h =some (d,h) :=by
 rw[IJ];have :L2.X1 (xs ++ [d]) (-1) =some d :=by unfold L2.X1 L2.VF;rw[if_neg (by decide),if_pos (by simp only[List.length_append,Q9,R9];omega)];rw[show((-1 :Int)+((xs ++ [d]).length :Nat)).toNat =xs.length by simp only[List.length_append,Q9,R9];omega];simp
 rw[this];rfl
theorem zX{xs :List Dt}{d :Dt}{h :HI} :iA (.lst (d ::xs)) (.int 0) h =some (d,h) :=by rw[IJ,show(0 :Int) =((0 :Nat) :Int)from rfl,SM.lF];rfl
theorem EH{h :HI}{d :Dt}{xs :List Dt}(e :jA h d =some xs) :DD h d =some xs :=by cases d<;>simp only[jA]at e<;>first | exact e | cases e
theorem XM{h :HI}{d :Dt}{xs :List Dt}(e :jA h d =some xs)(i :Int) :iA d (.int i) h =(L2.X1 xs i).map fun d =>(d,h) :=by
 cases d with
 | lst ys =>cases e;rfl
 | ref n =>
  simp only[jA]at e;split at e
  · rename_i zs q;cases e;exact KY q i
  · cases e
 | _ =>cases e
theorem XE{h :HI}{d :Dt}{xs :List Dt}(e :jA h d =some xs) :nB d h =some (.int xs.length,h) :=by
 cases d with
 | lst ys =>cases e;rfl
 | ref n =>
  simp only[jA]at e;split at e
  · rename_i zs q;cases e;exact QM q
  · cases e
 | _ =>cases e
theorem lM{h :HI}{d0 :Dt}{xs :List Dt}{d :Dt}(e :jA h d0 =some (xs ++ [d])) :iA d0 (.int (-1)) h =some (d,h) :=by rw[XM e, ← IJ (h :=h)];exact AX
theorem HF{h :HI}{d0 :Dt}{xs :List Dt}{d :Dt}(e :jA h d0 =some (d ::xs)) :iA d0 (.int 0) h =some (d,h) :=by rw[XM e, ← IJ (h :=h)];exact zX
theorem mD{h :HI}{d0 :Dt}{xs :List Dt}{d :Dt}(e :jA h d0 =some xs){k :Nat}(hk :xs[k]? =some d) :iA d0 (.int (k :Nat)) h =some (d,h) :=by rw[XM e,SM.lF,hk];rfl
theorem ON{nm :List Str}(ok :IB nm){w :Wy}(hw :eG nm.length w){d d0 :Dt}{h :HI}(P2 :jA h d0 =some ((wW nm w).map Dt.str))(e :jA h d =some (nm.map Dt.str)) :fH [d0,d] h =some (xA w,h) :=by
 obtain⟨i,m,j⟩ :=w;obtain⟨hi,hj,ne,lo,hi2⟩ :=hw;dsimp only at hi hj ne lo hi2;have wl :=kW lo hi2;have ew :(wW nm (i,m,j)).map Dt.str =Dt.str (NB nm i) ::((oB m).map Dt.str ++ [Dt.str (NB nm j)]) :=by simp[wW]
 have A7 :(wW nm (i,m,j)).map Dt.str =(Dt.str (NB nm i) ::(oB m).map Dt.str) ++ [Dt.str (NB nm j)] :=by simp[wW]
 have g0 :iA d0 (.int 0) h =some (.str (NB nm i),h) :=HF (ew ▸ P2);have g1 :iA d0 (.int (-1)) h =some (.str (NB nm j),h) :=lM (A7 ▸ P2);have fl :=XE P2;have ln :¬((((wW nm (i,m,j)).map Dt.str).length :Nat) :Int)<3 :=by rw[ew];simp only[Q9,List.length_append,List.length_map,R9];omega
 have n1 :=qH (h :=h) (NB nm i) true (EH e);have n2 :=qH (h :=h) (NB nm j) true (EH e);rw[decide_eq_true (KE hi)]at n1;rw[decide_eq_true (KE hj)]at n2;have nq :NB nm i≠NB nm j :=fun z =>ne (by
  rw[GD hi,GD hj]at z;have a :=UI ok.nd hi;rw[z,UI ok.nd hj]at a;injection a with a
  exact a.symm)
 have q :=ZQ (NB nm i) (NB nm j) h;rw[decide_eq_false nq]at q;have cut :SM.dE ((wW nm (i,m,j)).map Dt.str) (some 1) (some (-1)) =(oB m).map Dt.str :=by
  rw[ew];unfold SM.dE;have e1 :HT.P1 (Dt.str (NB nm i) ::((oB m).map Dt.str ++ [Dt.str (NB nm j)])).length 0 (some 1) =1 :=by have :=HT.Y1 (Dt.str (NB nm i) ::((oB m).map Dt.str ++ [Dt.str (NB nm j)])).length 0 1;rw[show((1 :Nat) :Int) =1 from rfl]at this;rw[this];simp only[Q9];omega
  have e2 :HT.P1 (Dt.str (NB nm i) ::((oB m).map Dt.str ++ [Dt.str (NB nm j)])).length (Dt.str (NB nm i) ::((oB m).map Dt.str ++ [Dt.str (NB nm j)])).length (some (-1)) =(oB m).length+1 :=by unfold HT.P1;simp only[Q9,List.length_append,List.length_map,R9];rw[if_pos (by decide)];omega
  rw[e1,e2];simp
 have es :=eT hi2 h;have i0 :=kM (l := [some d0,some d,some (.int (m :Nat))]) (h :=h) (fo :=eV 1) (fa :=e2 iA (eV 0) (eC (.int 0))) (d :=d) rfl e ok.nd hi (by simp only[wA,qA,uA,O9,rA,kA,g0,GD hi]);have i1 :=kM (l := [some d0,some d,some (.int (m :Nat))]) (h :=h) (fo :=eV 1) (fa :=e2 iA (eV 0) (lE (eC (.int 1)))) (d :=d) rfl e ok.nd hj (by simp only[wA,qA,uA,JJ,bJ,O9,rA,kA,g1,GD hj]);have mz :¬(m :Int) =0 :=by omega
 have s4 :4 ≤ sizeLine :=by decide
 have sl :∀(l :LI),l[0]? =some (some d0) → QH (eV 0) (CF (eC (.int 1))) (CF (lE (eC (.int 1)))) l h =some (.lst ((oB m).map Dt.str),h) :=by intro l h0;have e9 :=EH P2;simp[h0,P2,cut]
 have ln2 :decide ((((wW nm (i,m,j)).map Dt.str).length :Int)<3) =false :=decide_eq_false ln;have o9 :decide ((m :Int) =0) =false :=decide_eq_false mz;simp only[fH,ZK,aB,Q9,R9,if_true,S9,T9,Nat.reduceAdd,Nat.reduceSub,List.replicate,Z9,Y9,XA,YA,pD,EA,wA,ZC,qA,uA,JJ,bJ,O9,P9,rA,kA,fl,QG,ln2,GA,nj,if_false,g0,g1,n1,n2,q,Bool.not_true,zB,cB,MB,lB,MA,KA,sl,mj,es,V9,U9,fD,o9,bB,aD,i0,i1,s4,dB];rfl
inductive G0(B :Nat)(h :HI) :Dt → Ft → Prop
 | R0 (i lo hi :Nat) :G0 B h (JA (.R0 i lo hi)) (.R0 i lo hi)
 | way (w :Wy) :G0 B h (xA w) (.way w)
 | one (n :Nat) (ws :List Wy) (b :B ≤ n) (e :h[n]? =some (.lst (ws.map xA))) :G0 B h (.tup [.str "one", .ref n]) (.one ws)
theorem G0.grow{B :Nat}{h :HI}{d :Dt}{f :Ft}(x :G0 B h d f)(g :HI) :G0 B (h ++ g) d f :=by
 cases x with
 | R0 i lo hi =>exact .R0 i lo hi
 | way w =>exact .way w
 | one n ws b e =>exact .one n ws b (by rw[cj (aj e).1];exact e)
theorem G0.set{B k :Nat}{h :HI}{d :Dt}{f :Ft}(x :G0 B h d f)(hk :k<B)(o :Ob) :G0 B (h.set k o) d f :=by
 cases x with
 | R0 i lo hi =>exact .R0 i lo hi
 | way w =>exact .way w
 | one n ws b e =>exact .one n ws b (by rw[List.getElem?_set_ne (by omega)];exact e)
theorem G0.mono{B B' :Nat}{h :HI}{d :Dt}{f :Ft}(x :G0 B h d f)(hb :B' ≤ B) :G0 B' h d f :=by
 cases x with
 | R0 i lo hi =>exact .R0 i lo hi
 | way w =>exact .way w
 | one n ws b e =>exact .one n ws (by omega) e
theorem iS{nm :List Str}(ok :IB nm){i lo hi :Nat}(hf :jE nm.length (.R0 i lo hi)){d d0 :Dt}{h :HI}(P2 :jA h d0 =some ([NB nm i,OA lo,OA hi].map Dt.str))(e :jA h d =some (nm.map Dt.str)) :yI [d0,d] h =some (JA (.R0 i lo hi),h) :=by
 obtain⟨h1,h2,h3⟩ :=hf;have hl :lo ≤ 1000000000000000000 :=by omega
 have g0 :iA d0 (.int 0) h =some (.str (NB nm i),h) :=HF P2;have g1 :iA d0 (.int 1) h =some (.str (OA lo),h) :=mD P2 (k :=1) rfl;have g2 :iA d0 (.int 2) h =some (.str (OA hi),h) :=mD P2 (k :=2) rfl;have fl :nB d0 h =some (.int 3,h) :=XE P2;have n1 :=qH (h :=h) (NB nm i) true (EH e);rw[decide_eq_true (KE h1)]at n1;have f1 :vF (.str (OA lo)) h =some (.int (lo :Nat),h) :=by simp only[vF,bO hl,X9];rw[if_pos (by have :=OF hl;omega)]
 have f2 :vF (.str (OA hi)) h =some (.int (hi :Nat),h) :=by simp only[vF,bO h3,X9];rw[if_pos (by have :=OF h3;omega)]
 have i0 :=kM (l := [some d0,some d,some (.int (lo :Nat)),some (.int (hi :Nat))]) (h :=h) (fo :=eV 1) (fa :=e2 iA (eV 0) (eC (.int 0))) (d :=d) rfl e ok.nd h1 (by simp only[wA,qA,uA,O9,rA,kA,g0,GD h1]);have s4 :4 ≤ sizeLine :=by decide
 simp only[yI,TK,aB,Q9,R9,if_true,S9,T9,Nat.reduceAdd,Nat.reduceSub,List.replicate,Z9,Y9,XA,YA,pD,qE,EA,wA,ZC,qA,uA,O9,P9,rA,kA,fl,AF,decide_true,GA,Bool.not_true,nj,if_false,g0,g1,g2,n1,lB,MA,KA,mj,MN hl,MN h3,zB,cB,MB,f1,f2,V9,U9,lS h2 h3,bB,aD,i0,s4,dB];rfl
theorem YU {nm :List Str} {s :Str} (ok :W0 s) (ns :s∉nm) (hl :nm.length<8) {d d0 :Dt} {h :HI} (P2 :jA h d0 =some ([("stretch" :Str),s].map Dt.str)) (e :jA h d =some (nm.map Dt.str)) :fF [d0,d] h =some (.bl true,h) :=by
 have g0 :iA d0 (.int 0) h =some (.str "stretch",h) :=HF P2;have g1 :iA d0 (.int 1) h =some (.str s,h) :=mD P2 (k :=1) rfl;have fl :nB d0 h =some (.int 2,h) :=XE P2;have fd :=XE e;have n1 :=qH (h :=h) s true (EH e);rw[decide_eq_false ns]at n1;have ln :(((nm.map Dt.str).length :Nat) :Int)<8 :=by rw[List.length_map];omega
 simp[fF,VG,fl,g0,g1,SH,rT ok,n1,fd,ln];omega
theorem oS {s :Str} (hs :s ≠ "stretch") {d d0 :Dt} {ts :List Str} {h :HI} (P2 :jA h d0 =some ((s ::ts).map Dt.str)) :fF [d0,d] h =some (.bl false,h) :=by
 have g0 :iA d0 (.int 0) h =some (.str s,h) :=HF P2;have fl :=XE P2;generalize (((s ::ts).map Dt.str).length :Int) =n at fl;by_cases z :n =2
 · subst z;simp[fF,VG,fl,g0,SH,hs]
 · simp[fF,VG,fl,z]
noncomputable def kE(p :List Str) :Ob := .lst (p.map Dt.str)
noncomputable def vD(n k :Nat) :List Dt := .ref n ::(List.range k).map fun(j :Nat) =>Dt.ref (n+2+j)
def gh(h :HI)(P0 :List Str)(rs :List (List Str)) :HI :=h ++ kE P0 :: .lst (vD h.length rs.length) ::rs.map kE
theorem SN(n k :Nat) :vD n (k+1) =vD n k ++ [.ref (n+2+k)] :=by simp[vD,List.range_succ]
theorem PP(h :HI)(P0 :List Str)(rs :List (List Str)) :(gh h P0 rs).length =h.length+2+rs.length :=by simp[gh];omega
theorem cN(h :HI)(P0 :List Str)(rs :List (List Str)) :(gh h P0 rs)[h.length]? =some (kE P0) :=by simp[gh]
theorem CH(h :HI)(P0 :List Str)(rs :List (List Str)) :(gh h P0 rs)[h.length+1]? =some (.lst (vD h.length rs.length)) :=by unfold gh;rw[kj (by omega),show h.length+1-h.length =1 by omega];rfl
theorem rQ(h :HI)(P0 :List Str){rs :List (List Str)}{k :Nat}{p :List Str}(e :rs[k]? =some p) :(gh h P0 rs)[h.length+2+k]? =some (kE p) :=by unfold gh;rw[kj (by omega),show h.length+2+k-h.length =k+2 by omega];simp[e]
theorem yY(h :HI)(P0 :List Str)(rs :List (List Str)) :(gh h P0 rs ++ [Ob.lst []]).set (h.length+1) (Ob.lst (vD h.length rs.length ++ [Dt.ref (gh h P0 rs).length])) =gh h P0 (rs ++ [[]]) :=by rw[PP, ← SN];unfold gh;rw[List.append_assoc,List.set_append_right _ _ (by omega),show h.length+1-h.length =1 by omega];simp[kE]
theorem zY(h :HI)(P0 :List Str)(w :Str) :(gh h P0 []).set h.length (.lst (P0.map Dt.str ++ [.str w])) =gh h (P0 ++ [w]) [] :=by unfold gh;rw[List.set_append_right _ _ (by omega),Nat.sub_self];simp[kE]
theorem AY(h :HI)(P0 :List Str)(rs :List (List Str))(p :List Str)(w :Str) :(gh h P0 (rs ++ [p])).set (h.length+2+rs.length) (.lst (p.map Dt.str ++ [.str w])) =gh h P0 (rs ++ [p ++ [w]]) :=by
 unfold gh;rw[List.set_append_right _ _ (by omega),show h.length+2+rs.length-h.length =rs.length+2 by omega];have :(List.map kE (rs ++ [p])).set rs.length (.lst (p.map Dt.str ++ [.str w])) =List.map kE (rs ++ [p ++ [w]]) :=by rw[List.map_append,List.set_append_right _ _ (by simp)];simp[kE]
 simp only[V9,this,List.length_append,Q9,R9]
noncomputable def kB (s :List Str×List (List Str)) (w :Str) :List Str×List (List Str) :=if w = "or" then(s.1,s.2 ++ [[]])else match s.2.getLast? with
 | none =>(s.1 ++ [w],s.2)
 | some p =>(s.1,s.2.dropLast ++ [p ++ [w]])
theorem FU(h :HI)(P0 :List Str)(rs :List (List Str))(w :Str)(hp :∀p∈P0 ::rs,p.length ≤ 1000)(hr :rs.length ≤ 1000)(x0 x1 x4 :Option Dt) :
 lG [x0,x1,some (.ref (h.length+1)),some (.str w),x4] (gh h P0 rs) =some (.nx [x0,x1,some (.ref (h.length+1)),some (.str w),x4] (gh h (kB (P0,rs) w).1 (kB (P0,rs) w).2)) :=by
 by_cases z :w = "or"
 · have e :=SE (l := [x0,x1,some (.ref (h.length+1)),some (.str w),x4]) (h :=gh h P0 rs) (g :=DE pA) (n :=h.length+1) (d := .ref (gh h P0 rs).length) (xs :=vD h.length rs.length) (ys :=vD h.length rs.length) (h' :=gh h P0 rs ++ [.lst []]) (CH h P0 rs) (by simp) (by rw[cj (by rw[PP];omega)];exact CH h P0 rs) (by simp only[vD,Q9,List.length_map,List.length_range];exact Nat.lt_of_le_of_lt (show rs.length+1 ≤ 1001 by omega) (by decide));rw[yY]at e;have es :kB (P0,rs) w =(P0,rs ++ [[]]) :=by simp[kB,z]
   rw[es];subst z;simp only[lG,YA,EA,wA,qA,uA,O9,P9,rA,kA,FC,decide_true,GA,if_true,ME,jF,e]
 · have zf :decide (w =Str.ofString "or") =false :=decide_eq_false z;rcases List.eq_nil_or_concat rs with rfl | ⟨rs',p,rfl⟩
   · have ix :iA (.ref (h.length+1)) (.int (-1)) (gh h P0 []) =some (.ref h.length,gh h P0 []) :=lM (xs := []) (by simp only[jA,CH];rfl);have e :=SE (l := [x0,x1,some (.ref (h.length+1)),some (.str w),x4]) (h :=gh h P0 []) (g :=eV 3) (n :=h.length) (d := .str w) (xs :=P0.map Dt.str) (ys :=P0.map Dt.str) (h' :=gh h P0 []) (cN h P0 []) (by rfl) (cN h P0 []) (by rw[List.length_map];exact Nat.lt_of_le_of_lt (hp P0 (by simp)) (by decide));rw[zY]at e;have es :kB (P0, []) w =(P0 ++ [w], []) :=by simp[kB,z]
     rw[es];simp only[lG,YA,EA,wA,qA,uA,JJ,bJ,O9,P9,rA,kA,FC,zf,GA,nj,if_false,ME,jF,ix,e]
   · rw[List.concat_eq_append]at *;have ix :iA (.ref (h.length+1)) (.int (-1)) (gh h P0 (rs' ++ [p])) =some (.ref (h.length+2+rs'.length),gh h P0 (rs' ++ [p])) :=lM (xs :=vD h.length rs'.length) (by simp only[jA,CH,List.length_append,Q9,R9,SN]);have ga :=rQ h P0 (rs :=rs' ++ [p]) (k :=rs'.length) (p :=p) (by simp);have e :=SE (l := [x0,x1,some (.ref (h.length+1)),some (.str w),x4]) (h :=gh h P0 (rs' ++ [p])) (g :=eV 3) (n :=h.length+2+rs'.length) (d := .str w) (xs :=p.map Dt.str) (ys :=p.map Dt.str) (h' :=gh h P0 (rs' ++ [p])) ga (by rfl) ga (by rw[List.length_map];exact Nat.lt_of_le_of_lt (hp p (by simp)) (by decide));rw[AY]at e;have es :kB (P0,rs' ++ [p]) w =(P0,rs' ++ [p ++ [w]]) :=by simp[kB,z]
     rw[es];simp only[lG,YA,EA,wA,qA,uA,JJ,bJ,O9,P9,rA,kA,FC,zf,GA,nj,if_false,ME,jF,ix,e]
theorem DV{P0 :List Str}{rs :List (List Str)}{w :Str}{k :Nat}(hp :∀p∈P0 ::rs,p.length ≤ k)(hr :rs.length ≤ k) :(∀p∈(kB (P0,rs) w).1 ::(kB (P0,rs) w).2,p.length ≤ k+1) ∧ (kB (P0,rs) w).2.length ≤ k+1 :=by
 by_cases z :w = "or"
 · have es :kB (P0,rs) w =(P0,rs ++ [[]]) :=by simp[kB,z]
   rw[es];refine⟨fun p h =>?_,by simp;omega⟩;simp only[List.mem_cons,List.mem_append,List.not_mem_nil,or_false]at h;rcases h with rfl | h | rfl
   · have :=hp p (by simp);omega
   · have :=hp p (by simp[h]);omega
   · simp
 · rcases List.eq_nil_or_concat rs with rfl | ⟨rs',p,rfl⟩
   · have es :kB (P0, []) w =(P0 ++ [w], []) :=by simp[kB,z]
     rw[es];refine⟨fun q h =>?_,by simp⟩;simp only[List.mem_singleton]at h;subst h;have :=hp P0 (by simp);simp;omega
   · rw[List.concat_eq_append]at *;have es :kB (P0,rs' ++ [p]) w =(P0,rs' ++ [p ++ [w]]) :=by simp[kB,z]
     rw[es];refine⟨fun q h =>?_,by simp at hr ⊢;omega⟩;simp only[List.mem_cons,List.mem_append,List.not_mem_nil,or_false]at h;rcases h with rfl | h | rfl
     · have :=hp q (by simp);omega
     · have :=hp q (by simp[h]);omega
     · have :=hp p (by simp);simp;omega
theorem EU(h :HI)(x0 x1 x4 :Option Dt) :∀(ws :List Str)(k :Nat)(_ :k+ws.length ≤ 1000)(P0 :List Str)(rs :List (List Str))(_ :∀p∈P0 ::rs,p.length ≤ k)(_ :rs.length ≤ k)(y :Option Dt),∃y',sC (SA 3) lG (ws.map Dt.str) [x0,x1,some (.ref (h.length+1)),y,x4] (gh h P0 rs) =
 some (.nx [x0,x1,some (.ref (h.length+1)),y',x4] (gh h (ws.foldl kB (P0,rs)).1 (ws.foldl kB (P0,rs)).2)) :=by
 intro ws
 induction ws with
 | nil =>intro k _ P0 rs _ _ y;exact⟨y,rfl⟩
 | cons w ws ih =>
  intro k hk P0 rs hp hr y;have hk' :k+1+ws.length ≤ 1000 :=by simp only[Q9]at hk;omega
  have e :=FU h P0 rs w (fun p m =>by have :=hp p m;omega) (by omega) x0 x1 x4;obtain⟨s1,s2⟩ :=DV (w :=w) hp hr;obtain⟨y',e'⟩ :=ih (k+1) hk' (kB (P0,rs) w).1 (kB (P0,rs) w).2 s1 s2 (some (.str w));refine⟨y',?_⟩;rw[List.foldl_cons];simp only[S9,sC,SA,V9,U9,X9,e];exact e'
noncomputable def LD :List (List Str) → List Str
 | [] => []
 | [x] =>x
 | x ::y ::r =>x ++ ("or" :Str) ::LD (y ::r)
theorem aN :∀(xs :List Str) (_ :∀w∈xs,w ≠ "or") (P0 :List Str),xs.foldl kB (P0, []) =(P0 ++ xs, [])
 | [],_,P0 =>by simp
 | x ::xs,h,P0 =>by have :=h x (by simp);rw[List.foldl_cons,show kB (P0, []) x =(P0 ++ [x], []) by simp[kB,this],aN xs fun w m =>h w (by simp[m])];simp
theorem bN :∀(xs :List Str) (_ :∀w∈xs,w ≠ "or") (P0 :List Str) (rs :List (List Str)) (p :List Str),xs.foldl kB (P0,rs ++ [p]) =(P0,rs ++ [p ++ xs])
 | [],_,P0,rs,p =>by simp
 | x ::xs,h,P0,rs,p =>by have :=h x (by simp);rw[List.foldl_cons,show kB (P0,rs ++ [p]) x =(P0,rs ++ [p ++ [x]]) by simp[kB,this],bN xs fun w m =>h w (by simp[m])];simp
theorem qQ :∀(r :List (List Str)) (y :List Str) (_ :∀p∈y ::r,∀w∈p,w ≠ "or") (P0 :List Str) (rs :List (List Str)),(LD (y ::r)).foldl kB (P0,rs ++ [[]]) =(P0,rs ++ y ::r)
 | [],y,h,P0,rs =>by show y.foldl kB _ =_;rw[bN y (h y (by simp))];simp
 | z ::r,y,h,P0,rs =>by show(y ++ ("or" :Str) ::LD (z ::r)).foldl kB _ =_;rw[List.foldl_append,bN y (h y (by simp)),List.foldl_cons,show kB (P0,rs ++ [[] ++ y]) "or" =(P0,(rs ++ [y]) ++ [[]]) by simp[kB],qQ r z (fun p m =>h p (List.mem_cons_of_mem _ m))];simp
theorem wY (x :List Str) (r :List (List Str)) (h :∀p∈x ::r,∀w∈p,w ≠ "or") :(LD (x ::r)).foldl kB ([], []) =(x,r) :=by
 cases r with
 | nil =>show x.foldl kB _ =_;rw[aN x (h x (by simp))];simp
 | cons y r =>show(x ++ ("or" :Str) ::LD (y ::r)).foldl kB _ =_;rw[List.foldl_append,aN x (h x (by simp)),List.foldl_cons,show kB ([] ++ x, []) "or" =(x, [] ++ [[]]) by simp[kB],qQ r y (fun p m =>h p (List.mem_cons_of_mem _ m))];simp
end G
namespace BF
end BF
namespace G
theorem OI{α :Type}{te :RE}{i n :Nat}(D F :α → Dt)(xs :List α)(l :LI)(h :HI)(e :h[n]? =some (.lst (xs.map D)))(hx :xs.length<sizeLine)(H :∀x∈xs,te (l.set i (some (D x))) h =some (F x,h)) :
 tE (SA i) GB te l (.rf n,h) =some (xs.map F,h) :=by
 have go :∀(m k :Nat)(l' :LI),(∀d,l'.set i d =l.set i d) → m =xs.length-k+1 → k ≤ xs.length → cD (SA i) GB te (.rf n) m k l' h ((xs.take k).map F) =some (xs.map F,h) :=by
  intro m
  induction m with
  | zero =>intro k l' _ e;omega
  | succ m ih =>
   intro k l' hl' hm hk;unfold cD;simp only[Src.at,e,List.getElem?_map];by_cases hlt :k<xs.length
   · rw[List.getElem?_eq_getElem hlt];have hx' :=H xs[k] (List.getElem_mem hlt);have ln :((xs.take k).map F).length<sizeLine :=by rw[List.length_map,List.length_take];omega
     simp only[W9,AG,X9,yP,if_true,hl',hx',if_pos ln];have :=ih (k+1) (l.set i (some (D xs[k]))) (fun d =>by rw[List.set_set]) (by omega) (by omega);rw[List.take_add_one,List.getElem?_eq_getElem hlt,List.map_append]at this;exact this
   · rw[List.getElem?_eq_none (by omega)];have :k =xs.length :=by omega
     subst this;simp only[Option.map_none,List.take_length]
 have hf :Src.fuel (.rf n) h =xs.length-0+1 :=by simp only[Src.fuel,e,List.length_map];omega
 unfold tE;have :=go (xs.length-0+1) 0 l (fun _ =>rfl) rfl (Nat.zero_le _);simp only[hf];exact this
theorem sY {nm :List Str} (ok :IB nm) {w :Wy} (hw :eG nm.length w) :∀s∈wW nm w,s ≠ "or" :=by
 intro s hs;simp only[wW,List.mem_cons,List.mem_append,List.not_mem_nil,or_false]at hs;rcases hs with rfl | hs | rfl
 · exact(ok.ok _ (KE hw.i)).no
 · unfold oB at hs;obtain⟨k,hk,rfl⟩ :=List.mem_map.mp hs;exact(KJ k (V0.mp hk).1).2.2.2
 · exact(ok.ok _ (KE hw.j)).no
theorem JH(nm :List Str)(w :Wy) :(wW nm w).length ≤ 15 :=by have :=DM w.2.1;simp[wW];omega
theorem oM :∀(xs :List (List Str))(_ :∀x∈xs,x.length ≤ 15),(LD xs).length ≤ 16*xs.length
 | [],_ =>by simp[LD]
 | [x],h =>by have :=h x (by simp);simp[LD];omega
 | x ::y ::r,h =>by
  have h1 :=h x (by simp);have h2 :=oM (y ::r) fun z m =>h z (List.mem_cons_of_mem _ m)
  simp only[LD,List.length_append,Q9]at h2 ⊢;omega
noncomputable def zF(n :Nat)(w :Wy)(r :List Wy) :List (Nat×Wy) :=(n,w) ::(List.range r.length).map fun j =>(n+2+j,r.getD j w)
theorem jT(n :Nat)(w :Wy)(r :List Wy) :(zF n w r).map (fun p =>Dt.ref p.1) =vD n r.length :=by simp[zF,vD]
theorem kT(n :Nat)(w :Wy)(r :List Wy) :(zF n w r).map (fun p =>xA p.2) =(w ::r).map xA :=by
 unfold zF;rw[S9,S9,List.map_map]
 congr 1
 apply List.ext_getElem (by simp);intro i h1 h2;have :i<r.length :=by simpa using h2
 simp[this]
theorem YL :∀ws :List Wy,LB (ws.map xA) =true
 | [] =>rfl
 | w ::ws =>by simp only[S9,LB,xA,IA,YL ws,Bool.and_self]
theorem QL :∀ws :List Wy,aC (ws.map xA) ≤ 1
 | [] =>by simp[aC]
 | w ::ws =>by have :=QL ws;simp only[S9,aC,MD,xA];omega
theorem NS{nm :List Str}(ok :IB nm){ws :List Wy}(hf :jE nm.length (.one ws)){d :Dt}{h :HI}(hd :∀g :HI,jA (h ++ g) d =some (nm.map Dt.str)) :
 ∃(g :HI) (n :Nat),xI [.lst ((LD (ws.map (wW nm))).map Dt.str),d] h =some (.tup [.str "one", .ref n],h ++ g) ∧ h.length ≤ n ∧ (h ++ g)[n]? =some (.lst (ws.map xA)) :=by
 obtain⟨l1,l6,hw⟩ :=hf;obtain⟨w,r,rfl⟩ :∃w r,ws =w ::r :=by
  cases ws with
  | nil =>simp at l1
  | cons w r =>exact⟨w,r,rfl⟩
 have no :∀p∈wW nm w ::r.map (wW nm),∀s∈p,s ≠ "or" :=by intro p hp;rw[← S9]at hp;obtain⟨v,hv,rfl⟩ :=List.mem_map.mp hp;exact sY ok (hw v hv)
 have ol :(LD ((w ::r).map (wW nm))).length ≤ 16*6 :=by have :=oM ((w ::r).map (wW nm)) (fun x hx =>by obtain⟨v,_,rfl⟩ :=List.mem_map.mp hx;exact JH nm v);rw[List.length_map]at this;omega
 have fd :=wY (wW nm w) (r.map (wW nm)) no;rw[← S9]at fd;obtain⟨y,lp⟩ :=EU h (some (.lst ((LD ((w ::r).map (wW nm))).map Dt.str))) (some d) none (LD ((w ::r).map (wW nm))) 0 (by omega) [] [] (by simp) (by simp) none;rw[fd]at lp;obtain⟨g1,hg1⟩ :∃g1 :HI,gh h (wW nm w) (r.map (wW nm)) =h ++ g1 :=⟨_,rfl⟩
 have qC :=CH h (wW nm w) (r.map (wW nm));have p0 :=cN h (wW nm w) (r.map (wW nm));have pat :=fun k (p :List Str) =>rQ h (wW nm w) (rs :=r.map (wW nm)) (k :=k) (p :=p)
 rw[hg1]at qC p0 pat lp;rw[List.length_map, ← jT h.length w r]at qC;have cp :=OI (te :=yK) (i :=0) (n :=h.length+1) (fun p :Nat×Wy =>Dt.ref p.1) (fun p =>xA p.2) (zF h.length w r) [none,some d] (h ++ g1) qC (by simp only[zF,Q9,List.length_map,List.length_range]at l6 ⊢;exact Nat.lt_of_le_of_lt l6 (by decide)) (by
  intro p hp;have hq :eG nm.length p.2 ∧ jA (h ++ g1) (.ref p.1) =some ((wW nm p.2).map Dt.str) :=by
   simp only[zF,List.mem_cons,List.mem_map,List.mem_range]at hp;rcases hp with rfl | ⟨j,hj,rfl⟩
   · exact⟨hw w (by simp),by simp only[jA,p0];rfl⟩
   · have e :r[j]? =some (r.getD j w) :=by simp[hj]
     refine⟨hw _ (by simp[hj]),?_⟩;have :=pat j (wW nm (r.getD j w)) (by rw[List.getElem?_map,e];rfl);simp only[jA,this];rfl
  have e :=ON ok hq.1 hq.2 (hd g1);simp only[yK,lB,MA,KA,qA,U9,O9,P9,rA,kA,mj,e])
 rw[kT]at cp;refine⟨g1 ++ [.lst ((w ::r).map xA)],(h ++ g1).length,?_,by simp,by rw[← List.append_assoc];simp⟩;have e0 :(h ++ [Ob.lst []]) ++ [Ob.lst [.ref h.length]] =gh h [] [] :=by simp[gh,kE,vD]
 have sq :RD (.ref (h.length+1),h ++ g1) =some (.rf (h.length+1),h ++ g1) :=tG qC;have hN :((h ++ g1) ++ [Ob.lst ((w ::r).map xA)])[(h ++ g1).length]? =some (.lst ((w ::r).map xA)) :=by simp
 have fl :nB (.ref (h ++ g1).length) ((h ++ g1) ++ [Ob.lst ((w ::r).map xA)]) =some (.int (((w ::r).map xA).length :Nat),(h ++ g1) ++ [Ob.lst ((w ::r).map xA)]) :=QM hN;have l9 :¬(6 :Int)<(((w ::r).map xA).length :Nat) :=by rw[List.length_map];omega
 have gt :=decide_eq_false l9;have inn :dI .non (.ref (h ++ g1).length) ((h ++ g1) ++ [Ob.lst ((w ::r).map xA)]) =some (.bl false,(h ++ g1) ++ [Ob.lst ((w ::r).map xA)]) :=by
  have sl :jA ((h ++ g1) ++ [Ob.lst ((w ::r).map xA)]) (.ref (h ++ g1).length) =some ((w ::r).map xA) :=by simp only[jA,hN]
  have ok :aF ((w ::r).map xA) .non =true :=by have :=QL (w ::r);simp only[aF,YL,IA,Bool.and_self,Bool.true_and,decide_eq_true_eq];omega
  have an :(((w ::r).map xA).any fun x =>CB x .non) =false :=by rw[List.any_map,List.any_eq_false];intro x _;simp[xA,CB]
  simp only[dI,sl,X9,if_pos ok,an]
 have s2 :2 ≤ sizeLine :=by decide
 have s1 :1 ≤ sizeLine :=by decide
 have hl :(h ++ [Ob.lst []]).length =h.length+1 :=by simp
 simp only[xI,OK,aB,Q9,R9,if_true,S9 (f :=some),T9,Nat.reduceAdd,Nat.reduceSub,List.replicate,Z9,Y9,XA,MB,KM,MA,KA,kA,Nat.zero_le,s1,hl,e0,V9,U9,cB,rF,YE,qA,O9,P9,rA,sG,FF,lp,wH,sq,HD,UE,ED,Option.join_some,cp,YA,pD,EA,wA,ZC,uA,fl,ZJ,gt,GA,nj,if_false,inn,zB,bB,aD,s2,dB];rw[List.append_assoc]
def sD(nm :List Str) :Ft → List Str
 | .R0 i lo hi => ["long",NB nm i,OA lo,OA hi]
 | .way w => "ways" ::wW nm w
 | .one ws => "one" ::LD (ws.map (wW nm))
theorem WQ(a :Dt)(xs :List Dt) :SM.dE (a ::xs) (some 1) none =xs :=by
 unfold SM.dE;have e1 :HT.P1 (a ::xs).length 0 (some 1) =1 :=by have :=HT.Y1 (a ::xs).length 0 1;rw[show((1 :Nat) :Int) =1 from rfl]at this;rw[this];simp only[Q9];omega
 have e2 :HT.P1 (a ::xs).length (a ::xs).length none =(a ::xs).length :=rfl;rw[e1,e2];simp
theorem GS{nm :List Str}(ok :IB nm){f :Ft}(hf :jE nm.length f){d :Dt}{h :HI}(hd :∀g :HI,jA (h ++ g) d =some (nm.map Dt.str)) :
 ∃(g :HI)(x :Dt),pG [.lst ((sD nm f).map Dt.str),d] h =some (x,h ++ g) ∧ G0 h.length (h ++ g) x f :=by
 have hd0 :jA h d =some (nm.map Dt.str) :=by have :=hd [];rwa[mj]at this
 have sl :∀(l :LI)(h :HI)(a :Dt)(xs :List Dt),l[0]? =some (some (.lst (a ::xs))) → QH (eV 0) (CF (eC (.int 1))) lN l h =some (.lst xs,h) :=by intro l h a xs h0;simp[h0,WQ]
 cases f with
 | R0 i lo hi =>
  have e :=iS ok hf (d0 := .lst ([NB nm i,OA lo,OA hi].map Dt.str)) rfl hd0;refine⟨[],JA (.R0 i lo hi),?_, .R0 i lo hi⟩;rw[mj];have g0 :iA (.lst ((sD nm (.R0 i lo hi)).map Dt.str)) (.int 0) h =some (.str "long",h) :=HF rfl;have n1 :decide (Str.ofString "long" =Str.ofString "ways") =false :=by decide
  have s1 :=sl [some (.lst ((sD nm (.R0 i lo hi)).map Dt.str)),some d] h _ _ rfl;simp only[pG,dH,aB,Q9,R9,if_true,S9 (f :=some),T9,Nat.reduceAdd,Nat.reduceSub,List.replicate,Z9,Y9,mj,XA,YA,EA,wA,qA,uA,O9,P9,rA,kA,g0,FC,n1,decide_true,GA,nj,if_false,zB,cB,bB,lB,MA,KA,s1,e,XD,dB]
 | way w =>have e :=ON ok hf (d0 := .lst ((wW nm w).map Dt.str)) rfl hd0;refine⟨[],xA w,?_, .way w⟩;rw[mj];have g0 :iA (.lst ((sD nm (.way w)).map Dt.str)) (.int 0) h =some (.str "ways",h) :=HF rfl;have s1 :=sl [some (.lst ((sD nm (.way w)).map Dt.str)),some d] h _ _ rfl;simp only[pG,dH,aB,Q9,R9,if_true,S9 (f :=some),T9,Nat.reduceAdd,Nat.reduceSub,List.replicate,Z9,Y9,mj,XA,YA,EA,wA,qA,uA,O9,P9,rA,kA,g0,FC,decide_true,GA,zB,cB,bB,lB,MA,KA,s1,e,XD,dB]
 | one ws =>
  obtain⟨g,n,e,eb,en⟩ :=NS ok hf hd;refine⟨g, .tup [.str "one", .ref n],?_, .one n ws eb en⟩;have g0 :iA (.lst ((sD nm (.one ws)).map Dt.str)) (.int 0) h =some (.str "one",h) :=HF rfl;have n1 :decide (Str.ofString "one" =Str.ofString "ways") =false :=by decide
  have n2 :decide (Str.ofString "one" =Str.ofString "long") =false :=by decide
  have s1 :=sl [some (.lst ((sD nm (.one ws)).map Dt.str)),some d] h _ _ rfl;simp only[pG,dH,aB,Q9,R9,if_true,S9 (f :=some),T9,Nat.reduceAdd,Nat.reduceSub,List.replicate,Z9,Y9,mj,XA,YA,EA,wA,qA,uA,O9,P9,rA,kA,g0,FC,n1,n2,decide_true,GA,nj,if_false,zB,cB,bB,lB,MA,KA,s1,e,XD,dB]
theorem eU{α :Type}{te :RE}{tc :RT}{i n :Nat}(D F :α → Dt)(p :α → Bool)(xs :List α)(l :LI)(h :HI)(e :h[n]? =some (.lst (xs.map D)))(hx :xs.length<sizeLine)(H :∀x∈xs,tc (l.set i (some (D x))) h =some (p x,h) ∧ (p x =true → te (l.set i (some (D x))) h =some (F x,h))) :
 tE (SA i) tc te l (.rf n,h) =some ((xs.filter p).map F,h) :=by
 have go :∀(m k :Nat)(l' :LI),(∀d,l'.set i d =l.set i d) → m =xs.length-k+1 → k ≤ xs.length → cD (SA i) tc te (.rf n) m k l' h (((xs.take k).filter p).map F) =some ((xs.filter p).map F,h) :=by
  intro m
  induction m with
  | zero =>intro k l' _ e;omega
  | succ m ih =>
   intro k l' hl' hm hk;unfold cD;simp only[Src.at,e,List.getElem?_map];by_cases hlt :k<xs.length
   · rw[List.getElem?_eq_getElem hlt];have hx' :=H xs[k] (List.getElem_mem hlt);have ln :(((xs.take k).filter p).map F).length<sizeLine :=by rw[List.length_map];exact Nat.lt_of_le_of_lt (Nat.le_trans (List.length_filter_le _ _) (by rw[List.length_take];omega)) hx
     have nx :=ih (k+1) (l.set i (some (D xs[k]))) (fun d =>by rw[List.set_set]) (by omega) (by omega);rw[List.take_add_one,List.getElem?_eq_getElem hlt,List.filter_append,List.map_append]at nx;by_cases hp :p xs[k] =true
     · simp only[W9,AG,X9,hl',hx'.1,hp,if_true,hx'.2 hp,if_pos ln];simpa[hp]using nx
     · have hp :p xs[k] =false :=by simpa using hp
       simp only[W9,AG,X9,hl',hx'.1,hp,nj,if_false];simpa[hp]using nx
   · rw[List.getElem?_eq_none (by omega)];have :k =xs.length :=by omega
     subst this;simp only[Option.map_none,List.take_length]
 have hf :Src.fuel (.rf n) h =xs.length-0+1 :=by simp only[Src.fuel,e,List.length_map];omega
 unfold tE;have :=go (xs.length-0+1) 0 l (fun _ =>rfl) rfl (Nat.zero_le _);simp only[hf];exact this
noncomputable def DB :Ft → Bool
 | .one _ =>true
 | _ =>false
noncomputable def KH :Ft → Str
 | .R0 _ _ _ => "long"
 | .way _ => "ways"
 | .one _ => "one"
theorem NF (f :Ft) :decide (KH f =Str.ofString "one") =DB f :=by
 cases f with
 | R0 i lo hi =>exact(show decide (Str.ofString "long" =Str.ofString "one") =false by decide)
 | way w =>exact(show decide (Str.ofString "ways" =Str.ofString "one") =false by decide)
 | one ws =>exact(show decide (Str.ofString "one" =Str.ofString "one") =true by decide)
theorem G0.j8{B :Nat}{h :HI}{d :Dt}{f :Ft}(x :G0 B h d f) :iA d (.int 0) h =some (.str (KH f),h) :=by cases x<;>rfl
noncomputable def lI(d :Dt) :Dt :=match d with | .tup (_ ::x ::_) =>x | _ => .non
theorem G0.i9{B :Nat}{h :HI}{d :Dt}{f :Ft}(x :G0 B h d f) :iA d (.int 1) h =some (lI d,h) :=by cases x<;>rfl
theorem HS{B n :Nat}{h :HI}(ps :List (Dt×Ft))(hp :∀p∈ps,G0 B h p.1 p.2)(e :h[n]? =some (.lst (ps.map Prod.fst)))(hl :ps.length ≤ 1000) :FI [.ref n] h =some (.lst ((ps.filter fun p =>DB p.2).map fun p =>lI p.1),h) :=by
 have c :=eU (te :=UK) (tc :=HK) (i :=0) (n :=n) Prod.fst (fun p =>lI p.1) (fun p =>DB p.2) ps [none] h e (Nat.lt_of_le_of_lt hl (by decide)) (by
  intro p m;have q :=hp p m;refine⟨?_,fun _ =>?_⟩
  · simp only[HK,EA,wA,qA,uA,U9,O9,rA,kA,q.j8,FC,NF,GA]
  · simp only[UK,wA,qA,uA,U9,O9,rA,kA,q.i9])
 have sq :RD (.ref n,h) =some (.rf n,h) :=tG e;simp only[FI,WK,aB,Q9,R9,if_true,S9 (f :=some),T9,Nat.reduceAdd,Nat.reduceSub,List.replicate,mj,bB,mF,YE,qA,O9,rA,kA,sq,HD,ED,c,dB]
theorem cT{B n :Nat}{h :HI}{ps :List (Dt×Ft)}(hp :∀p∈ps,G0 B h p.1 p.2)(e :h[n]? =some (.lst (ps.map Prod.fst)))(hl :ps.length<60){d :Dt}{f :Ft}(hx :G0 B h d f)(hg :DB f =true → (ps.filter fun p =>DB p.2).length<6) :bH [.ref n,d] h =some (.bl true,h) :=by
 have g :=HS ps hp e (by omega);have fl :nB (.ref n) h =some (.int ((ps.map Prod.fst).length :Nat),h) :=QM e;have ge :decide ((60 :Int) ≤ ((ps.map Prod.fst).length :Nat)) =false :=decide_eq_false (by rw[List.length_map];omega);have i0 :=hx.j8;by_cases q :DB f =true
 · have lt :decide ((((ps.filter fun p =>DB p.2).map fun p =>lI p.1).length :Int)<6) =true :=decide_eq_true (by rw[List.length_map];have :=hg q;omega);have k1 :=NF f;rw[q]at k1;simp only[bH,zI,aB,Q9,R9,if_true,S9 (f :=some),T9,Nat.reduceAdd,Nat.reduceSub,List.replicate,Z9,Y9,mj,XA,YA,EA,wA,ZC,qA,uA,O9,P9,rA,kA,fl,wN,ge,GA,nj,if_false,zB,cB,bB,AQ,i0,SH,k1,Bool.not_true,Bool.not_false,XO,lB,MA,KA,g,LP,QG,lt,dB]
 · have k1 :=NF f;have q :DB f =false :=by simpa using q
   rw[q]at k1;simp only[bH,zI,aB,Q9,R9,if_true,S9 (f :=some),T9,Nat.reduceAdd,Nat.reduceSub,List.replicate,Z9,Y9,mj,XA,YA,EA,wA,ZC,qA,uA,O9,P9,rA,kA,fl,wN,ge,GA,nj,if_false,zB,cB,bB,AQ,i0,SH,k1,Bool.not_true,Bool.not_false,XO,lB,MA,KA,g,LP,dB]
noncomputable abbrev spS :Str :=⟨#[32]⟩
noncomputable abbrev K3 :Str :=⟨#[10]⟩
structure HE(w :Str) :Prop where
 len :w.length ≤ 19
 sp :32∉w.cps.toList
 nl :10∉w.cps.toList
theorem W0.wd{s :Str}(h :W0 s) :HE s :=⟨by have :=h.hi;omega,h.free.1,h.free.2⟩
theorem rY{k :Nat}(hk :k<13) :HE (wS k) :=⟨by have :=(KJ k hk).1;omega,(KJ k hk).2.1,(KJ k hk).2.2.1⟩
theorem aQ{n :Nat}(hn :n ≤ 1000000000000000000) :HE (OA n) :=⟨(OF hn).2,(aO n).1,(aO n).2⟩
theorem BJ{nm :List Str}(ok :IB nm){w :Wy}(hw :eG nm.length w) :∀s∈wW nm w,HE s :=by
 intro s hs;simp only[wW,List.mem_cons,List.mem_append,List.not_mem_nil,or_false]at hs;rcases hs with rfl | hs | rfl
 · exact(ok.ok _ (KE hw.i)).wd
 · unfold oB at hs;obtain⟨k,hk,rfl⟩ :=List.mem_map.mp hs;exact rY (V0.mp hk).1
 · exact(ok.ok _ (KE hw.j)).wd
theorem XX :HE "or" :=⟨by decide,by decide,by decide⟩
theorem fQ :∀(xs :List (List Str))(_ :∀x∈xs,∀s∈x,HE s),∀s∈LD xs,HE s
 | [],_ =>by simp[LD]
 | [x],h =>h x (by simp)
 | x ::y ::r,h =>by
  intro s hs;simp only[LD,List.mem_append,List.mem_cons]at hs;rcases hs with hs | rfl | hs
  · exact h x (by simp) s hs
  · exact XX
  · exact fQ (y ::r) (fun z m =>h z (List.mem_cons_of_mem _ m)) s hs
theorem RM{nm :List Str}(ok :IB nm){f :Ft}(hf :jE nm.length f) :∀s∈sD nm f,HE s :=by
 cases f with
 | R0 i lo hi =>
  obtain⟨h1,h2,h3⟩ :=hf;intro s hs;simp only[sD,List.mem_cons,List.not_mem_nil,or_false]at hs;rcases hs with rfl | rfl | rfl | rfl
  · exact⟨by decide,by decide,by decide⟩
  · exact(ok.ok _ (KE h1)).wd
  · exact aQ (by omega)
  · exact aQ h3
 | way w =>
  intro s hs;simp only[sD,List.mem_cons]at hs;rcases hs with rfl | hs
  · exact⟨by decide,by decide,by decide⟩
  · exact BJ ok hf s hs
 | one ws =>
  intro s hs;simp only[sD,List.mem_cons]at hs;rcases hs with rfl | hs
  · exact⟨by decide,by decide,by decide⟩
  · exact fQ _ (fun x hx =>by obtain⟨v,hv,rfl⟩ :=List.mem_map.mp hx;exact BJ ok (hf.2.2 v hv)) s hs
theorem sW{nm :List Str}{f :Ft}(hf :jE nm.length f) :(sD nm f).length ≤ 97 :=by
 cases f with
 | R0 i lo hi =>simp[sD]
 | way w =>have :=JH nm w;simp[sD];omega
 | one ws =>have :=oM (ws.map (wW nm)) (fun x hx =>by obtain⟨v,_,rfl⟩ :=List.mem_map.mp hx;exact JH nm v);have :=hf.2.1;simp[sD]at *;omega
theorem kH{z :Str}{ts :List Str}{B :Nat}(hB :∀t∈ts,t.length ≤ B) :(Str.join z ts).length ≤ ts.length*(B+z.length) :=by have h1 :=StrLaws.join_length_le z ts;have h2 :=StrLaws.sumLen_le ts hB;rw[Nat.mul_add];omega
theorem tL{c :Nat}{z :Str}(hz :c∉z.cps.toList) :∀ts :List Str,(∀t∈ts,c∉t.cps.toList) → c∉(Str.join z ts).cps.toList
 | [],_ =>by simp[Str.join,Str.empty]
 | [x],h =>h x (by simp)
 | x ::y ::r,h =>by
  have h2 :=tL hz (y ::r) fun t m =>h t (List.mem_cons_of_mem _ m)
  have h1 :=h x (by simp);show c∉(x ++ z ++ Str.join z (y ::r)).cps.toList;rw[KF,KF];simp only[List.mem_append,not_or];exact⟨⟨h1,hz⟩,h2⟩
def WC(nm :List Str)(f :Ft) :Str :=Str.join spS (sD nm f)
def OC (s :Str) :Str :=Str.join spS ["stretch",s]
theorem NP{nm :List Str}(ok :IB nm){f :Ft}(hf :jE nm.length f) :(WC nm f).length ≤ 2000 ∧ 10∉(WC nm f).cps.toList :=by
 have wd :=RM ok hf;refine⟨?_,tL (by decide) _ fun t m =>(wd t m).nl⟩;have h1 :=kH (z :=spS) fun t m =>(wd t m).len
 have h2 :=sW hf;have h3 :(sD nm f).length*(19+spS.length) ≤ 97*20 :=Nat.mul_le_mul h2 (by decide);unfold WC;omega
theorem HP{s :Str}(ok :W0 s) :(OC s).length ≤ 2000 ∧ 10∉(OC s).cps.toList :=by
 have wd :∀t ∈ [("stretch" :Str),s],HE t :=by
  intro t ht;simp only[List.mem_cons,List.not_mem_nil,or_false]at ht;rcases ht with rfl | rfl
  · exact⟨by decide,by decide,by decide⟩
  · exact ok.wd
 refine⟨?_,tL (by decide) _ fun t m =>(wd t m).nl⟩;have h1 :=kH (z :=spS) fun t m =>(wd t m).len
 have h3 :([("stretch" :Str),s].length)*(19+spS.length) ≤ 2*20 :=show 2*(19+spS.length) ≤ 2*20 by decide
 unfold OC;omega
theorem DU{nm :List Str}(ok :IB nm){f :Ft}(hf :jE nm.length f)(h :HI) :mN (.str (WC nm f)) (.str spS,h) =some (.lst ((sD nm f).map Dt.str),h) :=
 tJ (by cases f<;>simp[sD]) (fun t m =>(RM ok hf t m).sp) (Nat.le_trans (NP ok hf).1 (by decide))
theorem mV {s :Str} (ok :W0 s) (h :HI) :mN (.str (OC s)) (.str spS,h) =some (.lst ([("stretch" :Str),s].map Dt.str),h) :=
 tJ (by simp) (fun t m =>by
  simp only[List.mem_cons,List.not_mem_nil,or_false]at m;rcases m with rfl | rfl
  · decide
  · exact ok.wd.sp) (Nat.le_trans (HP ok).1 (by decide))
def nC(nm :List Str)(fs :List Ft) :List Str :=nm.map OC ++ fs.map (WC nm)
def iC(nm :List Str)(fs :List Ft) :Str :=Str.join K3 (nC nm fs)
theorem CP{nm :List Str}(ok :IB nm){fs :List Ft}(hf :∀f∈fs,jE nm.length f) :∀t∈nC nm fs,t.length ≤ 2000 ∧ 10∉t.cps.toList :=by
 intro t ht;rcases List.mem_append.mp ht with ht | ht
 · obtain⟨s,hs,rfl⟩ :=List.mem_map.mp ht;exact HP (ok.ok s hs)
 · obtain⟨f,hs,rfl⟩ :=List.mem_map.mp ht;exact NP ok (hf f hs)
theorem dM{nm :List Str}(ok :IB nm){fs :List Ft}(hf :∀f∈fs,jE nm.length f)(hl :fs.length ≤ 60) :JoinOk K3 (nC nm fs) =true ∧ (iC nm fs).length ≤ 200000 :=by
 have l1 :(nC nm fs).length ≤ 68 :=by have :=ok.len;simp[nC];omega
 have hB :=fun t m =>(CP ok hf t m).1
 have hj :=kH (z :=K3) hB;have e1 :(nC nm fs).length*(2000+K3.length) ≤ 68*2001 :=Nat.mul_le_mul l1 (by decide);refine⟨nH hB ?_,by unfold iC;omega⟩;rw[Nat.mul_add]at e1;omega
theorem UT{nm :List Str}(ok :IB nm)(hn :nm ≠ []){fs :List Ft}(hf :∀f∈fs,jE nm.length f)(hl :fs.length ≤ 60)(h :HI) :mN (.str (iC nm fs)) (.str K3,h) =some (.lst ((nC nm fs).map Dt.str),h) :=
 tJ (by cases nm with | nil =>exact absurd rfl hn | cons a b =>simp[nC]) (fun t m =>(CP ok hf t m).2) (Nat.le_trans (dM ok hf hl).2 (by decide))
theorem BV{h :HI}(ws :List Wy)(k :Nat) :wC (DA h (k+2)) (ws.map xA) =some (ws.map xA) :=by
 induction ws with
 | nil =>rfl
 | cons w ws ih =>simp only[S9,wC,xA,DA,X9,W9]at ih ⊢;simp[ih,xA]
theorem G0.res{B :Nat}{h :HI}{d :Dt}{f :Ft}(x :G0 B h d f)(k :Nat) :DA h (k+4) d =some (JA f) :=by
 cases x with
 | R0 i lo hi =>simp[JA,DA,wC]
 | way w =>simp[JA,xA,DA,wC]
 | one n ws b e =>have r :=BV (h :=h) ws k;simp only[DA,wC,e,r,W9,X9];rfl
theorem BP{B :Nat}{h :HI} :∀(ps :List (Dt×Ft))(_ :∀p∈ps,G0 B h p.1 p.2)(k :Nat),wC (DA h (k+4)) (ps.map Prod.fst) =some (ps.map fun p =>JA p.2)
 | [],_,_ =>rfl
 | p ::ps,hp,k =>by have r :=(hp p (by simp)).res k;simp only[S9,wC,r,X9,BP ps (fun q m =>hp q (by simp[m])) k,W9]
theorem YV(f :Ft) :IA (JA f) =true :=by
 cases f with
 | R0 i lo hi =>rfl
 | way w =>rfl
 | one ws =>simp only[JA,IA,LB,YL,Bool.and_self]
theorem pW(f :Ft) :MD (JA f) ≤ 4 :=by
 cases f with
 | R0 i lo hi =>simp[JA,MD,aC]
 | way w =>simp[JA,xA,MD,aC]
 | one ws =>have :=QL ws;simp only[JA,MD,aC];omega
theorem CO :∀fs :List Ft,LB (fs.map JA) =true
 | [] =>rfl
 | f ::fs =>by simp only[S9,LB,YV,CO fs,Bool.and_self]
theorem fP :∀fs :List Ft,aC (fs.map JA) ≤ 4
 | [] =>by simp[aC]
 | f ::fs =>by have :=pW f;have :=fP fs;simp only[S9,aC];omega
theorem iP{B b :Nat}{h :HI}{ps :List (Dt×Ft)}(hp :∀p∈ps,G0 B h p.1 p.2)(e :h[b]? =some (.lst (ps.map Prod.fst))) :YC (.ref b) (.lst []) h =some (.bl ps.isEmpty,h) :=by
 have r :=BP ps hp 3;have em :(ps.map fun p =>JA p.2) =(ps.map Prod.snd).map JA :=by rw[List.map_map];rfl
 rw[em]at r;have e1 :DA h 8 (.ref b) =some (.lst ((ps.map Prod.snd).map JA)) :=by rw[DA];simp only[e,r,W9]
 have e2 :DA h 8 (.lst []) =some (.lst []) :=rfl;have dk :IC ((ps.map Prod.snd).map JA) [] =true :=by have :=fP (ps.map Prod.snd);unfold IC;rw[CO];simp[LB];simp at this;omega
 rw[tY e1 e2 dk];cases ps<;>rfl
theorem MT(h :HI)(T :Option Dt)(ys :List Dt) :∀(rest done :List Str)(_ :IB (done ++ rest))(k :Nat)(y3 y4 y5 y6 :Option Dt),∃o5 p5 t5 u5,sC (vE 3 4) gF (mC k (rest.map fun s =>Dt.str (OC s)) ++ ys) [T,some (.ref h.length),some (.ref (h.length+1)),y3,y4,y5,y6] (h ++ [.lst (done.map Dt.str), .lst []]) =
 sC (vE 3 4) gF ys [T,some (.ref h.length),some (.ref (h.length+1)),o5,p5,t5,u5] (h ++ [.lst ((done ++ rest).map Dt.str), .lst []]) :=by
 intro rest
 induction rest with
 | nil =>intro done _ k y3 y4 y5 y6;exact⟨y3,y4,y5,y6,by rw[mj];rfl⟩
 | cons s rest ih =>
  intro done ok k y3 y4 y5 y6;have os :W0 s :=ok.ok s (by simp);have ns :s∉done :=fun m =>by have :=ok.nd;rw[List.nodup_append]at this;exact this.2.2 s m s (by simp) rfl
  have dl :done.length<8 :=by have :=ok.len;simp at this;omega
  obtain⟨o5,p5,t5,u5,e⟩ :=ih (done ++ [s]) (by simpa using ok) (k+1) (some (.int (k :Nat))) (some (.str (OC s))) (some (.lst ([("stretch" :Str),s].map Dt.str))) y6;refine⟨o5,p5,t5,u5,?_⟩;have ha :(h ++ [Ob.lst (done.map Dt.str), .lst []])[h.length]? =some (.lst (done.map Dt.str)) :=by simp
  have hb :(h ++ [Ob.lst (done.map Dt.str), .lst []])[h.length+1]? =some (.lst (([] :List (Dt×Ft)).map Prod.fst)) :=by rw[kj (by omega),show h.length+1-h.length =1 by omega];rfl
  have q :=iP (B :=0) (ps := []) (fun p m =>by cases m) hb;have tl :=YU (nm :=done) os ns dl (h :=h ++ [Ob.lst (done.map Dt.str), .lst []]) (d := .ref h.length) (d0 := .lst ([("stretch" :Str),s].map Dt.str)) rfl (by simp only[jA,ha]);have sp :=mV os (h ++ [Ob.lst (done.map Dt.str), .lst []]);have ix :iA (.lst ([("stretch" :Str),s].map Dt.str)) (.int 1) (h ++ [Ob.lst (done.map Dt.str), .lst []]) =some (.str s,h ++ [Ob.lst (done.map Dt.str), .lst []]) :=mD (xs := [("stretch" :Str),s].map Dt.str) rfl (k :=1) rfl;have ap :=SE (l := [T,some (.ref h.length),some (.ref (h.length+1)),some (.int (k :Nat)),some (.str (OC s)),some (.lst ([("stretch" :Str),s].map Dt.str)),y6]) (h :=h ++ [Ob.lst (done.map Dt.str), .lst []]) (g :=e2 iA (eV 5) (eC (.int 1))) (n :=h.length) (d := .str s) (xs :=done.map Dt.str) (ys :=done.map Dt.str) (h' :=h ++ [Ob.lst (done.map Dt.str), .lst []]) ha (by simp only[wA,qA,uA,O9,P9,rA,kA,ix]) ha (by rw[List.length_map];exact Nat.lt_of_lt_of_le dl (by decide));have es :(h ++ [Ob.lst (done.map Dt.str), .lst []]).set h.length (.lst (done.map Dt.str ++ [.str s])) =h ++ [.lst ((done ++ [s]).map Dt.str), .lst []] :=by simp
  rw[es]at ap;have F3 :Str.ofString " " =spS :=by decide
  have st :gF [T,some (.ref h.length),some (.ref (h.length+1)),some (.int (k :Nat)),some (.str (OC s)),y5,y6] (h ++ [Ob.lst (done.map Dt.str), .lst []]) =some (.nx [T,some (.ref h.length),some (.ref (h.length+1)),some (.int (k :Nat)),some (.str (OC s)),some (.lst ([("stretch" :Str),s].map Dt.str)),y6] (h ++ [.lst ((done ++ [s]).map Dt.str), .lst []])) :=by simp only[gF,XA,MB,fJ,F3,qA,uA,O9,P9,rA,kA,sp,V9,U9,cB,YA,sF,EA,wA,zG,KA,R9,Nat.zero_le,if_true,q,List.isEmpty_nil,GA,lB,MA,mj,Z9,Y9,tl,ME,jF,ap]
  simp only[S9,mC,Z9,sC,vE,V9,U9,X9,st];rw[List.append_assoc,List.singleton_append]at e;exact e
theorem DT (nm :List Str) (f :Ft) :∃s ts,sD nm f =s ::ts ∧ s ≠ "stretch" :=by
 cases f with
 | R0 i lo hi =>exact⟨_,_,rfl,by decide⟩
 | way w =>exact⟨_,_,rfl,by decide⟩
 | one ws =>exact⟨_,_,rfl,by decide⟩
theorem JT(nm :List Str)(ok :IB nm)(h :HI)(T :Option Dt) :∀(rest :List Ft)(_ :∀f∈rest,jE nm.length f)(ps :List (Dt×Ft))(_ :ps.length+rest.length ≤ 60)(_ :(ps.filter fun p =>DB p.2).length+(rest.filter DB).length ≤ 6)(e0 :HI)(_ :(h ++ e0)[h.length]? =some (.lst (nm.map Dt.str)))(_ :(h ++ e0)[h.length+1]? =some (.lst (ps.map Prod.fst)))(_ :∀p∈ps,G0 (h.length+2) (h ++ e0) p.1 p.2)(k :Nat)(y3 y4 y5 y6 :Option Dt),
 ∃o5 p5 t5 u5 e1 qs,sC (vE 3 4) gF (mC k (rest.map fun f =>Dt.str (WC nm f))) [T,some (.ref h.length),some (.ref (h.length+1)),y3,y4,y5,y6] (h ++ e0) =some (.nx [T,some (.ref h.length),some (.ref (h.length+1)),o5,p5,t5,u5] (h ++ e1)) ∧
  (h ++ e1)[h.length]? =some (.lst (nm.map Dt.str)) ∧ (h ++ e1)[h.length+1]? =some (.lst ((ps ++ qs).map Prod.fst)) ∧ qs.map Prod.snd =rest ∧ ∀p∈ps ++ qs,G0 (h.length+2) (h ++ e1) p.1 p.2 :=by
 intro rest
 induction rest with
 | nil =>intro _ ps _ _ e0 h1 h2 h3 k y3 y4 y5 y6;exact⟨y3,y4,y5,y6,e0, [],rfl,h1,by rw[mj];exact h2,rfl,by rw[mj];exact h3⟩
 | cons f rest ih =>
  intro hf ps hl hg e0 h1 h2 h3 k y3 y4 y5 y6;have of :=hf f (by simp);have l1 :=(aj h1).1;have l2 :=(aj h2).1;have grow :∀g :HI,(h ++ e0 ++ g)[h.length]? =some (.lst (nm.map Dt.str)) :=fun g =>by rw[cj l1];exact h1
  obtain⟨g,x,ef,fx⟩ :=GS ok of (d := .ref h.length) (h :=h ++ e0) (fun g =>by simp only[jA,grow g]);have fx :G0 (h.length+2) (h ++ e0 ++ g) x f :=fx.mono (by omega);have C7 :(h ++ e0 ++ g)[h.length+1]? =some (.lst (ps.map Prod.fst)) :=by rw[cj l2];exact h2
  have b8 :∀p∈ps,G0 (h.length+2) (h ++ e0 ++ g) p.1 p.2 :=fun p m =>(h3 p m).grow g
  have room :=cT b8 C7 (by simp at hl;omega) fx (by
   intro o;rw[List.filter_cons,if_pos o]at hg;simp only[Q9]at hg;omega)
  have q :=iP h3 h2;obtain⟨s,ts,ew,ns⟩ :=DT nm f;have tl :=oS ns (h :=h ++ e0) (d := .ref h.length) (d0 := .lst ((sD nm f).map Dt.str)) (ts :=ts) (by rw[ew];rfl);have sp :=DU ok of (h ++ e0);have xn :∀H :HI,fI x .non H =some (.bl false,H) :=by intro H;cases fx<;>rfl
  have ap :=SE (l := [T,some (.ref h.length),some (.ref (h.length+1)),some (.int (k :Nat)),some (.str (WC nm f)),some (.lst ((sD nm f).map Dt.str)),some x]) (h :=h ++ e0 ++ g) (g :=eV 6) (n :=h.length+1) (d :=x) (xs :=ps.map Prod.fst) (ys :=ps.map Prod.fst) (h' :=h ++ e0 ++ g) C7 (by rfl) C7 (by rw[List.length_map];exact Nat.lt_of_le_of_lt (show ps.length ≤ 60 by omega) (by decide));obtain⟨e1,o7⟩ :∃e1,(h ++ e0 ++ g).set (h.length+1) (.lst (ps.map Prod.fst ++ [x])) =h ++ e1 :=⟨(e0 ++ g).set 1 (.lst (ps.map Prod.fst ++ [x])),by
   rw[List.append_assoc,List.set_append_right _ _ (by omega),show h.length+1-h.length =1 by omega]⟩
  rw[o7]at ap;have n1 :(h ++ e1)[h.length]? =some (.lst (nm.map Dt.str)) :=by rw[← o7,List.getElem?_set_ne (by omega)];exact grow g
  have n2 :(h ++ e1)[h.length+1]? =some (.lst ((ps ++ [(x,f)]).map Prod.fst)) :=by rw[← o7,List.getElem?_set_self (by rw[List.length_append];omega)];simp
  have n3 :∀p∈ps ++ [(x,f)],G0 (h.length+2) (h ++ e1) p.1 p.2 :=by
   intro p m;rw[← o7];simp only[List.mem_append,List.mem_singleton]at m;rcases m with m | rfl
   · exact(b8 p m).set (by omega) _
   · exact fx.set (by omega) _
  have F3 :Str.ofString " " =spS :=by decide
  have st :gF [T,some (.ref h.length),some (.ref (h.length+1)),some (.int (k :Nat)),some (.str (WC nm f)),y5,y6] (h ++ e0) =some (.nx [T,some (.ref h.length),some (.ref (h.length+1)),some (.int (k :Nat)),some (.str (WC nm f)),some (.lst ((sD nm f).map Dt.str)),some x] (h ++ e1)) :=by
   have tt :(xE (D0 (e2 YC (eV 2) (eE pA))) (D0 (zA fF [] (cA (eV 5) (cA (eV 1) pA))))) [T,some (.ref h.length),some (.ref (h.length+1)),some (.int (k :Nat)),some (.str (WC nm f)),some (.lst ((sD nm f).map Dt.str)),y6] (h ++ e0) =some (false,h ++ e0) :=by simp only[sF,EA,wA,zG,KA,qA,R9,Nat.zero_le,if_true,O9,P9,rA,kA,q,GA,lB,MA,mj,Z9,Y9,tl];cases ps.isEmpty<;>rfl
   simp only[gF,XA,MB,fJ,F3,qA,uA,O9,P9,rA,kA,sp,V9,U9,cB,YA,tt,nj,if_false,lB,MA,KA,mj,ef,pD,qE,EA,wA,xn,GA,room,Bool.not_true,zB,ME,jF,ap]
  obtain⟨o5,p5,t5,u5,e2,qs,w,a1,a2,a3,a4⟩ :=ih (fun f m =>hf f (by simp[m])) (ps ++ [(x,f)]) (by simp at hl ⊢;omega) (by
   rw[List.filter_cons]at hg;rw[List.filter_append,List.length_append];by_cases o :DB f =true
   · rw[if_pos o]at hg;simp[o]at hg ⊢;omega
   · rw[if_neg o]at hg;simp[o]at hg ⊢;omega) e1 n1 n2 n3 (k+1) (some (.int (k :Nat))) (some (.str (WC nm f))) (some (.lst ((sD nm f).map Dt.str))) (some x)
  refine⟨o5,p5,t5,u5,e2,(x,f) ::qs,?_,a1,?_,by rw[S9,a3],?_⟩
  · simp only[S9,mC,sC,vE,V9,U9,X9,st];exact w
  · rw[a2];simp
  · intro p m;exact a4 p (by simpa using m)
theorem rO :∀(xs ys :List Dt)(k :Nat),mC k (xs ++ ys) =mC k xs ++ mC (k+xs.length) ys
 | [],ys,k =>by simp[mC]
 | x ::xs,ys,k =>by simp only[Z9,mC,rO xs ys,Q9];rw[show k+1+xs.length =k+(xs.length+1) by omega]
theorem JV{nm :List Str}(ok :IB nm)(hn :nm ≠ []){fs :List Ft}(hf :∀f∈fs,jE nm.length f)(hl :fs.length ≤ 60)(hg :(fs.filter DB).length ≤ 6)(h :HI) :
 ∃(e :HI)(qs :List (Dt×Ft)),vJ [.str (iC nm fs)] h =some (.tup [.ref h.length, .ref (h.length+1)],h ++ e) ∧ (h ++ e)[h.length]? =some (.lst (nm.map Dt.str)) ∧ (h ++ e)[h.length+1]? =some (.lst (qs.map Prod.fst)) ∧ qs.map Prod.snd =fs ∧ ∀p∈qs,G0 (h.length+2) (h ++ e) p.1 p.2 :=by
 obtain⟨y3,y4,y5,y6,w1⟩ :=MT h (some (.str (iC nm fs))) (mC (1+nm.length) (fs.map fun f =>Dt.str (WC nm f))) nm [] (by simpa using ok) 1 none none none none;rw[Y9]at w1;obtain⟨z3,z4,z5,z6,e,qs,w2,a1,a2,a3,a4⟩ :=JT nm ok h (some (.str (iC nm fs))) fs hf [] (by simpa using hl) (by simpa using hg) [.lst (nm.map Dt.str), .lst []] (by simp) (by
  rw[kj (by omega),show h.length+1-h.length =1 by omega];rfl) (fun p m =>by cases m) (1+nm.length) y3 y4 y5 y6
 rw[Y9]at a2 a4;refine⟨e,qs,?_,a1,a2,a3,a4⟩;have er :mC 1 ((nC nm fs).map Dt.str) =mC 1 (nm.map fun s =>Dt.str (OC s)) ++ mC (1+nm.length) (fs.map fun f =>Dt.str (WC nm f)) :=by unfold nC;rw[List.map_append,List.map_map,List.map_map,rO,List.length_map];rfl
 have wk :=w1;rw[← er,w2]at wk;have O5 :Str.ofString "\n" =K3 :=by decide
 have sp :=UT ok hn hf hl;have it :∀(l :LI)(H :HI),l[0]? =some (some (.str (iC nm fs))) → rJ (oF (eV 0) (eC (.str "\n"))) l H =some (.vals (mC 1 ((nC nm fs).map Dt.str)),H) :=by
  intro l H h0;have :oF (eV 0) (eC (.str "\n")) l H =some (.lst ((nC nm fs).map Dt.str),H) :=by simp only[fJ,qA,h0,rA,kA,uA,O5,sp]
  simp only[rJ,this,X9]
 have h2 :(h ++ [Ob.lst []]) ++ [Ob.lst []] =h ++ [.lst (([] :List Str).map Dt.str), .lst []] :=by simp
 have hl1 :(h ++ [Ob.lst []]).length =h.length+1 :=by simp
 have s2 :2 ≤ sizeLine :=by decide
 simp only[vJ,FM,aB,Q9,R9,if_true,S9 (f :=some),T9 (f :=some),Nat.reduceAdd,Nat.reduceSub,List.replicate,Z9,Y9,XA,MB,KM,KA,kA,Nat.zero_le,V9,U9,cB,hl1,h2,rF,it,O9,FF,wk,bB,aD,MA,qA,P9,rA,s2,dB]
theorem GF(z x :Str){ys :List Str}(h :ys ≠ []) :Str.join z (x ::ys) =x ++ z ++ Str.join z ys :=by
 cases ys with
 | nil =>exact absurd rfl h
 | cons y r =>rfl
theorem UO(z :Str){ys :List Str}(h :ys ≠ []) :∀(xs :List Str),xs ≠ [] → Str.join z (xs ++ ys) =Str.join z xs ++ z ++ Str.join z ys
 | [],n =>absurd rfl n
 | [x],_ =>GF z x h
 | x ::y ::r,_ =>by have ih :=UO z h (y ::r) (by simp);rw[Z9,GF z x (by simp),GF z x (ys :=y ::r) (by simp),ih];simp only[Str.append_assoc]
theorem eQ :∀(x :List Str)(r :List (List Str)),x ≠ [] → LD (x ::r) ≠ []
 | x, [],h =>h
 | x,y ::r,h =>by simp[LD]
theorem tP :∀(r :List (List Str)) (x :List Str),(∀p∈x ::r,p ≠ []) → Str.join (Str.ofString " or ") ((x ::r).map (Str.join spS)) =Str.join spS (LD (x ::r))
 | [],x,_ =>rfl
 | y ::r,x,h =>by
  have ih :=tP r y fun p m =>h p (List.mem_cons_of_mem _ m)
  have n1 :=eQ y r (h y (by simp));have eo :Str.ofString " or " =spS ++ Str.ofString "or" ++ spS :=by decide
  rw[S9,GF _ _ (by simp),ih];show _ =Str.join spS (x ++ (Str.ofString "or") ::LD (y ::r));rw[UO spS (by simp) x (h x (by simp)),GF spS (Str.ofString "or") n1,eo];simp only[Str.append_assoc]
theorem IT{n :Nat}(h :n ≤ 1000000000000000000) :(n :Int).natAbs.log2<1920 :=by
 rw[Int.natAbs_natCast];by_cases z :n =0
 · subst z;decide
 · exact(Nat.log2_lt z).mpr (Nat.lt_of_le_of_lt h (by decide))
theorem FJ{n :Nat}(h :n ≤ 1000000000000000000)(H :HI) :cF (.int (n :Nat)) H =some (.str (OA n),H) :=by simp only[cF];rw[if_pos (IT h)];rfl
theorem rN{h :HI}(a c :Dt)(bs :List Dt)(hb :bs.length ≤ 1000) :BD (.lst [a]) (.lst bs) h =some (.lst (a ::bs),h) ∧ BD (.lst (a ::bs)) (.lst [c]) h =some (.lst (a ::(bs ++ [c])),h) :=by
 constructor
 · simp only[BD,jA,X9];rw[if_pos (by simp only[Q9,R9];exact Nat.le_trans (show 0+1+bs.length ≤ 1001 by omega) (by decide))];rfl
 · simp only[BD,jA,X9];rw[if_pos (by simp only[Q9,R9];exact Nat.le_trans (show bs.length+1+(0+1) ≤ 1002 by omega) (by decide))];rfl
theorem YO{nm :List Str}(ok :IB nm){w :Wy}(hw :eG nm.length w) :JoinOk spS (wW nm w) =true :=by have l :=JH nm w;have e1 :(wW nm w).length*19 ≤ 15*19 :=Nat.mul_le_mul l (by decide);have e2 :(wW nm w).length*spS.length ≤ 15*1 :=Nat.mul_le_mul l (by decide);exact nH (fun t m =>(BJ ok hw t m).len) (by omega)
theorem XN{nm :List Str}(ok :IB nm){w :Wy}(hw :eG nm.length w){d :Dt}{h :HI}(e :jA h d =some (nm.map Dt.str)) :oG [xA w,d] h =some (.str (Str.join spS (wW nm w)),h) :=by
 obtain⟨i,m,j⟩ :=w;have i1 :iA (xA (i,m,j)) (.int 1) h =some (.int (i :Nat),h) :=rfl;have i2 :iA (xA (i,m,j)) (.int 2) h =some (.int (m :Nat),h) :=rfl;have i3 :iA (xA (i,m,j)) (.int 3) h =some (.int (j :Nat),h) :=rfl;have g1 :iA d (.int (i :Nat)) h =some (.str (NB nm i),h) :=mD e (by rw[List.getElem?_map,List.getElem?_eq_getElem hw.i,GD hw.i];rfl);have g3 :iA d (.int (j :Nat)) h =some (.str (NB nm j),h) :=mD e (by rw[List.getElem?_map,List.getElem?_eq_getElem hw.j,GD hw.j];rfl);have c :=rN (h :=h) (.str (NB nm i)) (.str (NB nm j)) ((oB m).map Dt.str) (by rw[List.length_map];have :=DM m;omega);have ew :Dt.str (NB nm i) ::((oB m).map Dt.str ++ [Dt.str (NB nm j)]) =(wW nm (i,m,j)).map Dt.str :=by simp[wW]
 rw[ew]at c;have jk :=qF (h :=h) (d := .lst ((wW nm (i,m,j)).map Dt.str)) (ts :=wW nm (i,m,j)) rfl (YO ok hw);have F3 :Str.ofString " " =spS :=by decide
 have s1 :1 ≤ sizeLine :=by decide
 simp only[oG,JL,aB,Q9,R9,if_true,S9 (f :=some),T9,Nat.reduceAdd,Nat.reduceSub,List.replicate,mj,bB,nF,uA,F3,kA,wA,zG,MA,KA,qA,O9,P9,rA,i1,i2,i3,g1,g3,s1,lB,YN,c.1,c.2,jk,dB]
theorem xU(h :HI) :wI [] h =some (.lst (K1.map Dt.str),h) :=by
 have et :Str.ofString "ahead joins laps closedby holds opens same openedby within closes lappedby joinedby behind" =Str.join spS K1 :=by decide +kernel
 have sp :=tJ (h :=h) (c :=32) (ts :=K1) (by decide) (by decide +kernel) (by decide +kernel);have F3 :Str.ofString " " =spS :=by decide
 simp only[wI,NK,aB,R9,if_true,T9,Nat.reduceSub,List.replicate,Y9,XA,MB,uA,kA,U9,cB,bB,fJ,qA,O9,rA,et,F3,sp,dB]
theorem NN{nm :List Str}(ok :IB nm){w :Wy}(hw :eG nm.length w){d :Dt}{h :HI}(e :jA h d =some (nm.map Dt.str)) :jG [d,xA w] h =some (.str (Str.join spS (wW nm w)),h) :=by
 obtain⟨i,m,j⟩ :=w;have i1 :iA (xA (i,m,j)) (.int 1) h =some (.int (i :Nat),h) :=rfl;have i2 :iA (xA (i,m,j)) (.int 2) h =some (.int (m :Nat),h) :=rfl;have i3 :iA (xA (i,m,j)) (.int 3) h =some (.int (j :Nat),h) :=rfl;have g1 :iA d (.int (i :Nat)) h =some (.str (NB nm i),h) :=mD e (by rw[List.getElem?_map,List.getElem?_eq_getElem hw.i,GD hw.i];rfl);have g3 :iA d (.int (j :Nat)) h =some (.str (NB nm j),h) :=mD e (by rw[List.getElem?_map,List.getElem?_eq_getElem hw.j,GD hw.j];rfl);have c :=rN (h :=h) (.str (NB nm i)) (.str (NB nm j)) ((oB m).map Dt.str) (by rw[List.length_map];have :=DM m;omega);have ew :Dt.str (NB nm i) ::((oB m).map Dt.str ++ [Dt.str (NB nm j)]) =(wW nm (i,m,j)).map Dt.str :=by simp[wW]
 rw[ew]at c;have jk :=qF (h :=h) (d := .lst ((wW nm (i,m,j)).map Dt.str)) (ts :=wW nm (i,m,j)) rfl (YO ok hw);have ec :=gH (te :=fK) (tc :=gK) (i :=0) (fun(k :Nat) =>Dt.int (k :Int)) m.testBit (fun(k :Nat) =>Dt.str (wS k)) h (List.range 13) [none,some (xA (i,m,j)),some (.lst (K1.map Dt.str))] fun k hk =>⟨by
  simp[gK,i2,wQ,UP],fun _ =>by
  have hk :=List.mem_range.mp hk;have :(K1.map Dt.str)[k]? =some (.str (wS k)) :=aP ▸ jM hk;simp[fK,SM.lF];have q :∀k<13,K1[k]? =some (wS k) :=by decide
  rw[q k hk]⟩
 have A7 :((List.range 13).filter m.testBit).map (fun(k :Nat) =>Dt.str (wS k)) =(oB m).map Dt.str :=by unfold oB;rw[List.map_map];rfl
 rw[A7]at ec;have F3 :Str.ofString " " =spS :=by decide
 have s1 :1 ≤ sizeLine :=by decide
 simp only[jG,GK,aB,Q9,R9,if_true,S9 (f :=some),T9,Nat.reduceAdd,Nat.reduceSub,List.replicate,Z9,Y9,mj,XA,MB,aW,xU,kA,U9,V9,cB,mF,DG,uA,jR,HD,UE,ED,Option.join_some,O9,P9,uD _ _ _ (eR _),ec,bB,nF,F3,wA,zG,MA,KA,qA,rA,i1,i2,i3,g1,g3,s1,c.1,c.2,jk,dB]
theorem NM{nm :List Str}(ok :IB nm){w :Wy}(hw :eG nm.length w) :(Str.join spS (wW nm w)).length ≤ 300 :=by
 have l :=JH nm w;have h1 :=kH (z :=spS) fun t m =>(BJ ok hw t m).len
 have h3 :(wW nm w).length*(19+spS.length) ≤ 15*20 :=Nat.mul_le_mul l (by decide);omega
theorem ZO (nm :List Str) (w :Wy) :Str.ofString "ways " ++ Str.join spS (wW nm w) =WC nm (.way w) :=by
 have e :Str.ofString "ways " =Str.ofString "ways" ++ spS :=by decide
 rw[e];rfl
theorem sP {nm :List Str} {ws :List Wy} (h :1 ≤ ws.length) :Str.ofString "one " ++ Str.join (Str.ofString " or ") (ws.map fun w =>Str.join spS (wW nm w)) =WC nm (.one ws) :=by
 cases ws with
 | nil =>simp at h
 | cons w r =>
  have e :Str.ofString "one " =Str.ofString "one" ++ spS :=by decide
  have n :∀p∈wW nm w ::r.map (wW nm),p ≠ [] :=by intro p hp;rw[← S9]at hp;obtain⟨v,_,rfl⟩ :=List.mem_map.mp hp;simp[wW]
  have j :=tP (r.map (wW nm)) (wW nm w) n;rw[← S9,List.map_map]at j;have j2 :Str.join (Str.ofString " or ") ((w ::r).map fun w =>Str.join spS (wW nm w)) =Str.join spS (LD ((w ::r).map (wW nm))) :=j;rw[j2,e];show _ =Str.join spS (Str.ofString "one" ::LD ((w ::r).map (wW nm)));have n1 :LD ((w ::r).map (wW nm)) ≠ [] :=by rw[S9];exact eQ _ _ (by simp[wW])
  rw[GF spS _ n1]
theorem AO {nm :List Str} (ok :IB nm) {ws :List Wy} (hf :jE nm.length (.one ws)) :JoinOk (Str.ofString " or ") (ws.map fun w =>Str.join spS (wW nm w)) =true ∧ (Str.join (Str.ofString " or ") (ws.map fun w =>Str.join spS (wW nm w))).length ≤ 3000 :=by
 have hB :∀t∈ws.map fun w =>Str.join spS (wW nm w),t.length ≤ 300 :=by intro t ht;obtain⟨w,hw,rfl⟩ :=List.mem_map.mp ht;exact NM ok (hf.2.2 w hw)
 have l :(ws.map fun w =>Str.join spS (wW nm w)).length ≤ 6 :=by rw[List.length_map];exact hf.2.1
 have e1 :(ws.map fun w =>Str.join spS (wW nm w)).length*(300+(Str.ofString " or ").length) ≤ 6*304 :=Nat.mul_le_mul l (by decide);have h1 :=kH (z :=Str.ofString " or ") hB;refine⟨nH hB ?_,by omega⟩;rw[Nat.mul_add]at e1;omega
theorem aT{nm :List Str}(ok :IB nm){f :Ft}(hf :jE nm.length f){d :Dt}{h :HI}(e :jA h d =some (nm.map Dt.str)) :nG [JA f,d] h =some (.str (WC nm f),h) :=by
 have F3 :Str.ofString " " =spS :=by decide
 cases f with
 | way w =>have i0 :iA (JA (.way w)) (.int 0) h =some (.str "ways",h) :=rfl;have r :=XN ok hf e;have c :=WD (h :=h) (x :=Str.ofString "ways ") (y :=Str.join spS (wW nm w)) (by have :=NM ok hf;have :(Str.ofString "ways ").length =5 :=(by decide);omega);rw[ZO]at c;have r2 :oG [JA (.way w),d] h =some (.str (Str.join spS (wW nm w)),h) :=r;simp only[nG,aH,aB,Q9,R9,if_true,S9 (f :=some),T9,Nat.reduceAdd,Nat.reduceSub,List.replicate,mj,XA,YA,EA,wA,qA,uA,O9,P9,rA,kA,i0,FC,decide_true,GA,bB,lB,MA,KA,r2,c,XD,dB]
 | R0 i lo hi =>
  obtain⟨h1,h2,h3⟩ :=hf;have i0 :iA (JA (.R0 i lo hi)) (.int 0) h =some (.str "long",h) :=rfl;have i1 :iA (JA (.R0 i lo hi)) (.int 1) h =some (.int (i :Nat),h) :=rfl;have i2 :iA (JA (.R0 i lo hi)) (.int 2) h =some (.int (lo :Nat),h) :=rfl;have i3 :iA (JA (.R0 i lo hi)) (.int 3) h =some (.int (hi :Nat),h) :=rfl;have g1 :iA d (.int (i :Nat)) h =some (.str (NB nm i),h) :=mD e (by rw[List.getElem?_map,List.getElem?_eq_getElem h1,GD h1];rfl);have n1 :decide (Str.ofString "long" =Str.ofString "ways") =false :=by decide
  have wd :=RM ok (f := .R0 i lo hi) ⟨h1,h2,h3⟩;have jk :=qF (h :=h) (z :=spS) (d := .lst ((sD nm (.R0 i lo hi)).map Dt.str)) (ts :=sD nm (.R0 i lo hi)) rfl (nH (fun t m =>(wd t m).len) (by show 4*19+4*spS.length ≤ 16777216;decide));have s4 :4 ≤ sizeLine :=by decide
  have J7 :XJ (.str spS) (.lst [.str (Str.ofString "long"), .str (NB nm i), .str (OA lo), .str (OA hi)],h) =some (.str (WC nm (.R0 i lo hi)),h) :=jk;simp only[nG,aH,aB,Q9,R9,if_true,S9 (f :=some),T9,Nat.reduceAdd,Nat.reduceSub,List.replicate,mj,XA,YA,EA,wA,qA,uA,O9,P9,rA,kA,i0,i1,i2,i3,FC,n1,decide_true,GA,nj,if_false,zB,cB,bB,nF,F3,zG,MA,KA,ZC,g1,FJ (Nat.le_trans h2 h3),FJ h3,s4,J7,XD,dB]
 | one ws =>
  have i0 :iA (JA (.one ws)) (.int 0) h =some (.str "one",h) :=rfl;have i1 :iA (JA (.one ws)) (.int 1) h =some (.lst (ws.map xA),h) :=rfl;have n1 :decide (Str.ofString "one" =Str.ofString "ways") =false :=by decide
  have n2 :decide (Str.ofString "one" =Str.ofString "long") =false :=by decide
  have ec :=OE (te :=PK) (tc :=GB) (i :=0) xA (fun w =>Dt.str (Str.join spS (wW nm w))) h ws [none,some d] fun w hw =>⟨rfl,by
   have r :=XN ok (hf.2.2 w hw) e;simp only[PK,lB,MA,KA,qA,U9,O9,P9,rA,kA,mj,r]⟩
  have hs :(ws.map xA).length<sizeLine :=by rw[List.length_map];exact Nat.lt_of_le_of_lt hf.2.1 (by decide)
  have oj :=AO ok hf;have em :(ws.map fun w =>Dt.str (Str.join spS (wW nm w))) =(ws.map fun w =>Str.join spS (wW nm w)).map Dt.str :=by rw[List.map_map];rfl
  have jk :=qF (h :=h) (z :=Str.ofString " or ") (d := .lst ((ws.map fun w =>Str.join spS (wW nm w)).map Dt.str)) rfl oj.1;rw[em]at ec;have c :=WD (h :=h) (x :=Str.ofString "one ") (y :=Str.join (Str.ofString " or ") (ws.map fun w =>Str.join spS (wW nm w))) (by have :=oj.2;have :(Str.ofString "one ").length =4 :=(by decide);omega);rw[sP hf.1]at c;simp only[nG,aH,aB,Q9,R9,if_true,S9 (f :=some),T9,Nat.reduceAdd,Nat.reduceSub,List.replicate,mj,XA,YA,EA,wA,qA,uA,O9,P9,rA,kA,i0,i1,FC,n1,n2,GA,nj,if_false,zB,cB,bB,nF,mF,YE,sG,HD,UE,ED,Option.join_some,uD _ _ _ hs,ec,jk,c,dB]
theorem nS{nm :List Str}(ok :IB nm){f :Ft}(hf :jE nm.length f){d :Dt}{h :HI}(e :jA h d =some (nm.map Dt.str)) :iG [d,JA f] h =some (.str (WC nm f),h) :=by
 cases f with
 | way w =>have i0 :iA (JA (.way w)) (.int 0) h =some (.str "ways",h) :=rfl;have r :=NN ok hf e;have c :=WD (h :=h) (x :=Str.ofString "ways ") (y :=Str.join spS (wW nm w)) (by have :=NM ok hf;have :(Str.ofString "ways ").length =5 :=(by decide);omega);rw[ZO]at c;have r2 :jG [d,JA (.way w)] h =some (.str (Str.join spS (wW nm w)),h) :=r;simp only[iG,UG,aB,Q9,R9,if_true,S9 (f :=some),T9,Nat.reduceAdd,Nat.reduceSub,List.replicate,mj,XA,YA,EA,wA,qA,uA,O9,P9,rA,kA,i0,FC,decide_true,GA,bB,lB,MA,KA,r2,c,XD,dB]
 | R0 i lo hi =>
  obtain⟨h1,h2,h3⟩ :=hf;have i0 :iA (JA (.R0 i lo hi)) (.int 0) h =some (.str "long",h) :=rfl;have i1 :iA (JA (.R0 i lo hi)) (.int 1) h =some (.int (i :Nat),h) :=rfl;have i2 :iA (JA (.R0 i lo hi)) (.int 2) h =some (.int (lo :Nat),h) :=rfl;have i3 :iA (JA (.R0 i lo hi)) (.int 3) h =some (.int (hi :Nat),h) :=rfl;have g1 :iA d (.int (i :Nat)) h =some (.str (NB nm i),h) :=mD e (by rw[List.getElem?_map,List.getElem?_eq_getElem h1,GD h1];rfl);have n1 :decide (Str.ofString "long" =Str.ofString "ways") =false :=by decide
  have L1 :=(ok.ok _ (KE h1)).hi;have L2 :=OF (Nat.le_trans h2 h3);have L3 :=OF h3;have k1 :(Str.ofString "long ").length =5 :=by decide
  have k2 :(Str.ofString " ").length =1 :=by decide
  have c1 :=WD (h :=h) (x :=Str.ofString "long ") (y :=NB nm i) (by omega);have c2 :=WD (h :=h) (x :=Str.ofString "long " ++ NB nm i) (y :=Str.ofString " ") (by rw[Str.length_append];omega);have c3 :=WD (h :=h) (x :=Str.ofString "long " ++ NB nm i ++ Str.ofString " ") (y :=OA lo) (by rw[Str.length_append,Str.length_append];omega);have c4 :=WD (h :=h) (x :=Str.ofString "long " ++ NB nm i ++ Str.ofString " " ++ OA lo) (y :=Str.ofString " ") (by rw[Str.length_append,Str.length_append,Str.length_append];omega);have c5 :=WD (h :=h) (x :=Str.ofString "long " ++ NB nm i ++ Str.ofString " " ++ OA lo ++ Str.ofString " ") (y :=OA hi) (by rw[Str.length_append,Str.length_append,Str.length_append,Str.length_append];omega);have er :Str.ofString "long " ++ NB nm i ++ Str.ofString " " ++ OA lo ++ Str.ofString " " ++ OA hi =WC nm (.R0 i lo hi) :=by
   have e1 :Str.ofString "long " =Str.ofString "long" ++ spS :=by decide
   have F3 :Str.ofString " " =spS :=by decide
   rw[e1,F3];show _ =Str.ofString "long" ++ spS ++ (NB nm i ++ spS ++ (OA lo ++ spS ++ OA hi));simp only[Str.append_assoc]
  rw[er]at c5;simp only[iG,UG,aB,Q9,R9,if_true,S9 (f :=some),T9,Nat.reduceAdd,Nat.reduceSub,List.replicate,mj,XA,YA,EA,wA,qA,uA,O9,P9,rA,kA,i0,i1,i2,i3,FC,n1,decide_true,GA,nj,if_false,zB,cB,bB,ZC,g1,FJ (Nat.le_trans h2 h3),FJ h3,c1,c2,c3,c4,c5,XD,dB]
 | one ws =>
  have i0 :iA (JA (.one ws)) (.int 0) h =some (.str "one",h) :=rfl;have i1 :iA (JA (.one ws)) (.int 1) h =some (.lst (ws.map xA),h) :=rfl;have n1 :decide (Str.ofString "one" =Str.ofString "ways") =false :=by decide
  have n2 :decide (Str.ofString "one" =Str.ofString "long") =false :=by decide
  have ec :=OE (te :=eK) (tc :=GB) (i :=0) xA (fun w =>Dt.str (Str.join spS (wW nm w))) h ws [none,some d] fun w hw =>⟨rfl,by
   have r :=NN ok (hf.2.2 w hw) e;simp only[eK,lB,MA,KA,qA,U9,O9,P9,rA,kA,mj,r]⟩
  have hs :(ws.map xA).length<sizeLine :=by rw[List.length_map];exact Nat.lt_of_le_of_lt hf.2.1 (by decide)
  have oj :=AO ok hf;have em :(ws.map fun w =>Dt.str (Str.join spS (wW nm w))) =(ws.map fun w =>Str.join spS (wW nm w)).map Dt.str :=by rw[List.map_map];rfl
  have jk :=qF (h :=h) (z :=Str.ofString " or ") (d := .lst ((ws.map fun w =>Str.join spS (wW nm w)).map Dt.str)) rfl oj.1;rw[em]at ec;have c :=WD (h :=h) (x :=Str.ofString "one ") (y :=Str.join (Str.ofString " or ") (ws.map fun w =>Str.join spS (wW nm w))) (by have :=oj.2;have :(Str.ofString "one ").length =4 :=(by decide);omega);rw[sP hf.1]at c;simp only[iG,UG,aB,Q9,R9,if_true,S9 (f :=some),T9,Nat.reduceAdd,Nat.reduceSub,List.replicate,mj,XA,YA,EA,wA,qA,uA,O9,P9,rA,kA,i0,i1,FC,n1,n2,GA,nj,if_false,zB,cB,bB,nF,mF,YE,sG,HD,UE,ED,Option.join_some,uD _ _ _ hs,ec,jk,c,dB]
theorem aV(i :Int)(h :HI) :vI [.int i] h =some (.bl true,h) :=by simp[vI,MK]
theorem BG{c :Nat}(hc :c ≤ 1000)(h :HI) :xN (.int (c :Nat),h) =some (.vals ((List.range c).map fun(k :Nat) =>Dt.int (k :Int)),h) :=by have e :=zP (h :=h) (j :=(c :Int)) (by omega) (by omega);rw[show((c :Int)).toNat =c by omega]at e;exact e
theorem WP (s :Str) :Str.ofString "stretch " ++ s =OC s :=by
 have e :Str.ofString "stretch " =Str.ofString "stretch" ++ spS :=by decide
 rw[e];rfl
theorem tT{nm :List Str}(ok :IB nm){fs :List Ft}(hf :∀f∈fs,jE nm.length f)(hl :fs.length ≤ 60)(h :HI) :∃e,NI [.lst (nm.map Dt.str), .lst (fs.map JA)] h =some (.str (iC nm fs),h ++ e) :=by
 have c1 :=OE (te :=cL) (tc :=GB) (i :=0) Dt.str (fun s =>Dt.str (OC s)) h nm [none] fun s hs =>⟨rfl,by
  have c :=WD (h :=h) (x :=Str.ofString "stretch ") (y :=s) (by have :=(ok.ok s hs).hi;have :(Str.ofString "stretch ").length =8 :=(by decide);omega);rw[WP]at c;simp only[cL,iR,qA,U9,O9,rA,kA,c]⟩
 have m1 :(nm.map Dt.str).length<sizeLine :=by rw[List.length_map];exact Nat.lt_of_le_of_lt ok.len (by decide)
 have e1 :(nm.map fun s =>Dt.str (OC s)) =(nm.map OC).map Dt.str :=by rw[List.map_map];rfl
 rw[e1]at c1;have c2 :=OE (te :=EI) (tc :=GB) (i :=0) JA (fun f =>Dt.str (WC nm f)) (h ++ [.lst ((nm.map OC).map Dt.str)]) fs [none,some (.lst (nm.map Dt.str))] fun f hm =>⟨rfl,by
  have r :=aT ok (hf f hm) (d := .lst (nm.map Dt.str)) (h :=h ++ [.lst ((nm.map OC).map Dt.str)]) rfl;simp only[EI,lB,MA,KA,qA,U9,O9,P9,rA,kA,mj,r]⟩
 have m2 :(fs.map JA).length<sizeLine :=by rw[List.length_map];exact Nat.lt_of_le_of_lt hl (by decide)
 have e2' :(fs.map fun f =>Dt.str (WC nm f)) =(fs.map (WC nm)).map Dt.str :=by rw[List.map_map];rfl
 rw[e2']at c2;have d1 :(h ++ [Ob.lst ((nm.map OC).map Dt.str)])[h.length]? =some (.lst ((nm.map OC).map Dt.str)) :=by simp
 have hl1 :(h ++ [Ob.lst ((nm.map OC).map Dt.str)]).length =h.length+1 :=by simp
 have eg :TD (yC (eV 1)) (SA 0) GB EI [none,some 0] [some (.lst (nm.map Dt.str)),some (.lst (fs.map JA)),some (.ref h.length)] (h ++ [.lst ((nm.map OC).map Dt.str)]) =some (.ref (h.length+1),(h ++ [.lst ((nm.map OC).map Dt.str)]) ++ [.lst ((fs.map (WC nm)).map Dt.str)]) :=by simp only[wH,YE,qA,O9,P9,rA,kA,sG,HD,UE,ED,Option.join_some,uD _ _ _ m2,c2,hl1]
 have ex :=CU (l := [some (.lst (nm.map Dt.str)),some (.lst (fs.map JA)),some (.ref h.length)]) (h :=h ++ [.lst ((nm.map OC).map Dt.str)]) (n :=h.length) (m :=h.length+1) (zs :=(nm.map OC).map Dt.str) (xs :=(nm.map OC).map Dt.str) (ys :=(fs.map (WC nm)).map Dt.str) d1 eg (by rw[cj (by simp)];exact d1) (by rw[kj (by simp)];simp) (by simp only[List.length_map];have :=ok.len;exact Nat.le_trans (show nm.length+fs.length ≤ 68 by omega) (by decide));obtain⟨g,hg⟩ :∃g,((h ++ [Ob.lst ((nm.map OC).map Dt.str)]) ++ [Ob.lst ((fs.map (WC nm)).map Dt.str)]).set h.length (.lst ((nm.map OC).map Dt.str ++ (fs.map (WC nm)).map Dt.str)) =h ++ g :=⟨([Ob.lst ((nm.map OC).map Dt.str)] ++ [Ob.lst ((fs.map (WC nm)).map Dt.str)]).set 0 (.lst ((nm.map OC).map Dt.str ++ (fs.map (WC nm)).map Dt.str)),by
  rw[List.append_assoc,List.set_append_right _ _ (by omega),Nat.sub_self]⟩
 have hd :(h ++ g)[h.length]? =some (.lst ((nC nm fs).map Dt.str)) :=by rw[← hg,List.getElem?_set_self (by simp)];unfold nC;rw[List.map_append]
 rw[hg]at ex;have jk :=qF (h :=h ++ g) (z :=K3) (d := .ref h.length) (ts :=nC nm fs) (by simp only[jA,hd]) (dM ok hf hl).1;have O5 :Str.ofString "\n" =K3 :=by decide
 refine⟨g,?_⟩;have J7 :XJ (.str K3) (.ref h.length,h ++ g) =some (.str (iC nm fs),h ++ g) :=jk;simp only[NI,BL,aB,Q9,R9,if_true,S9 (f :=some),T9 (f :=some),Nat.reduceAdd,Nat.reduceSub,List.replicate,Z9,Y9,XA,MB,wH,YE,qA,O9,P9,rA,kA,sG,HD,ED,uD _ _ _ m1,c1,V9,U9,cB,ME,AV,ex,bB,nF,uA,O5,J7,dB]
theorem WO {h :HI} {d :Dt} {xs :List Dt} (e :jA h d =some xs) :yE h d =some "list" :=by
 cases d with
 | lst ys =>rfl
 | ref n =>
  simp only[jA]at e;split at e
  · rename_i zs q;simp only[yE,q]
  · cases e
 | _ =>cases e
theorem DH{T t :String}{f :RE}{l :LI}{h :HI}{d :Dt}(e :f l h =some (d,h))(ht :yE h d =some t) :cC T f l h =some (.bl (WJ t T),h) :=by simp only[cC,e,X9,ht,W9]
theorem ZU{nm :List Str}(hl :nm.length ≤ 1000){h :HI}{d0 d1 :Dt}(e0 :jA h d0 =some (nm.map Dt.str))(e1 :jA h d1 =some (nm.map Dt.str)) :uI [d0,d1] h =some (.bl true,h) :=by
 have i0 :=DH (T := "list") (f :=eV 0) (l := [some d0,some d1,none]) (h :=h) (d :=d0) rfl (WO e0);have i0 :cC "list" (eV 0) [some d0,some d1,none] h =some (.bl true,h) :=i0;have l0 :=XE e0;have l1 :=XE e1;rw[List.length_map]at l0 l1;obtain⟨l',h',w,⟨y,rfl⟩,rfl⟩ :=WI (i :=2) (body :=zK) (fun(k :Nat) =>Dt.int (k :Int)) (fun l h' =>(∃y,l = [some d0,some d1,y]) ∧ h' =h) (List.range nm.length) (by
  rintro k hk l h' ⟨⟨y,rfl⟩,rfl⟩;have hk :=List.mem_range.mp hk;refine⟨.nx [some d0,some d1,some (.int (k :Nat))] h',?_,⟨_,rfl⟩,rfl⟩;have g0 :iA d0 (.int (k :Nat)) h' =some (.str nm[k],h') :=mD e0 (by rw[List.getElem?_map,List.getElem?_eq_getElem hk];rfl);have g1 :iA d1 (.int (k :Nat)) h' =some (.str nm[k],h') :=mD e1 (by rw[List.getElem?_map,List.getElem?_eq_getElem hk];rfl);have is :=DH (T := "str") (f :=e2 iA (eV 0) (eV 2)) (l := [some d0,some d1,some (.int (k :Nat))]) (h :=h') (d := .str nm[k]) (by simp only[wA,qA,O9,P9,rA,kA,g0]) rfl;have is :cC "str" (e2 iA (eV 0) (eV 2)) [some d0,some d1,some (.int (k :Nat))] h' =some (.bl true,h') :=is;simp only[zK,YA,pD,qE,EA,V9,U9,is,kA,GA,Bool.not_true,nj,if_false,wA,qA,O9,P9,rA,g0,g1,SH,decide_true,zB]) [some d0,some d1,none] h ⟨⟨_,rfl⟩,rfl⟩
 simp only[uI,LK,aB,Q9,R9,if_true,S9 (f :=some),T9 (f :=some),Nat.reduceAdd,Nat.reduceSub,List.replicate,Z9,Y9,XA,YA,pD,qE,EA,i0,kA,GA,Bool.not_true,nj,if_false,wA,ZC,qA,O9,P9,rA,l0,l1,AF,decide_true,zB,cB,rF,DG,BG hl,FF,w,bB,uA,dB]
theorem jP(n :Nat) :iD (n+1) =fC 2 3 (mG (iD n)) :=rfl
theorem WS{R :HB}{s :Str}{a b c :Int}{h :HI} :∃y,sC (SA 2) (nI R) ((List.range 3).map fun(k :Nat) =>Dt.int (1+(k :Int))) [some (.tup [.str s, .int a, .int b, .int c]),some (.tup [.str s, .int a, .int b, .int c]),none] h =some (.nx [some (.tup [.str s, .int a, .int b, .int c]),some (.tup [.str s, .int a, .int b, .int c]),y] h) :=by
 obtain⟨l',h',w,⟨y,rfl⟩,rfl⟩ :=WI (i :=2) (body :=nI R) (fun(k :Nat) =>Dt.int (1+(k :Int))) (fun l h' =>(∃y,l = [some (.tup [.str s, .int a, .int b, .int c]),some (.tup [.str s, .int a, .int b, .int c]),y]) ∧ h' =h) (List.range 3) (by
  rintro k hk l h' ⟨⟨y,rfl⟩,rfl⟩;have hk :=List.mem_range.mp hk;refine⟨.nx [some (.tup [.str s, .int a, .int b, .int c]),some (.tup [.str s, .int a, .int b, .int c]),some (.int (1+(k :Int)))] h',?_,⟨_,rfl⟩,rfl⟩;obtain⟨v,g⟩ :∃v,iA (.tup [.str s, .int a, .int b, .int c]) (.int (1+(k :Int))) h' =some (.int v,h') :=by
   rcases(show k =0 ∨ k =1 ∨ k =2 by omega)with rfl | rfl | rfl
   · exact⟨a,rfl⟩
   · exact⟨b,rfl⟩
   · exact⟨c,rfl⟩
  simp only[nI,YA,pD,qE,EA,lB,MA,KA,V9,U9,wA,qA,O9,P9,rA,kA,g,mj,aV,GA,Bool.not_true,nj,if_false,AF,decide_true,zB]) _ h ⟨⟨none,rfl⟩,rfl⟩
 exact⟨y,w⟩
theorem jZ(h :HI) :kR (.int 1) (.int 4,h) =some (.vals ((List.range 3).map fun(k :Nat) =>Dt.int (1+(k :Int))),h) :=bW (by decide) (by decide) (by decide) (by decide)
theorem eL (n :Nat) {s :Str} {a b c :Int} (hs :s ≠ "one") (h :HI) :iD (n+1) [.tup [.str s, .int a, .int b, .int c], .tup [.str s, .int a, .int b, .int c]] h =some (.bl true,h) :=by obtain⟨y,w⟩ :=WS (R :=iD n) (s :=s) (a :=a) (b :=b) (c :=c) (h :=h);have i0 :cC "tuple" (eV 0) [some (.tup [.str s, .int a, .int b, .int c]),some (.tup [.str s, .int a, .int b, .int c]),none] h =some (.bl true,h) :=rfl;have g0 :iA (.tup [.str s, .int a, .int b, .int c]) (.int 0) h =some (.str s,h) :=rfl;have i1 :cC "str" (e2 iA (eV 0) (eC (.int 0))) [some (.tup [.str s, .int a, .int b, .int c]),some (.tup [.str s, .int a, .int b, .int c]),none] h =some (.bl true,h) :=DH (d := .str s) (by simp only[wA,qA,uA,O9,rA,kA,g0]) rfl;have ns :decide (s =Str.ofString "one") =false :=decide_eq_false hs;rw[jP];simp only[mG,aB,Q9,R9,if_true,S9 (f :=some),T9 (f :=some),Nat.reduceAdd,Nat.reduceSub,List.replicate,Z9,Y9,XA,YA,pD,qE,EA,i0,kA,GA,Bool.not_true,nj,if_false,wA,ZC,qA,uA,O9,P9,rA,RV,AF,decide_true,i1,g0,SH,zB,cB,FC,ns,rF,fY,jZ,FF,w,bB,dB]
theorem NL{α :Type}{R :HB}{h :HI}{d0 d1 :Dt}(xs :List α)(D E :α → Dt)(e0 :jA h d0 =some (xs.map D))(e1 :jA h d1 =some (xs.map E))(hl :xs.length ≤ 1000)(H :∀x∈xs,R [D x,E x] h =some (.bl true,h)) :IE R [d0,d1] h =some (.bl true,h) :=by
 have i0 :cC "list" (eV 0) [some d0,some d1,none] h =some (.bl true,h) :=DH (T := "list") (f :=eV 0) (l := [some d0,some d1,none]) (h :=h) (d :=d0) rfl (WO e0);have l0 :=XE e0;have l1 :=XE e1;rw[List.length_map]at l0 l1;obtain⟨l',h',w,⟨y,rfl⟩,rfl⟩ :=WI (i :=2) (body :=lK R) (fun(k :Nat) =>Dt.int (k :Int)) (fun l h' =>(∃y,l = [some d0,some d1,y]) ∧ h' =h) (List.range xs.length) (by
  rintro k hk l h' ⟨⟨y,rfl⟩,rfl⟩;have hk :=List.mem_range.mp hk;refine⟨.nx [some d0,some d1,some (.int (k :Nat))] h',?_,⟨_,rfl⟩,rfl⟩;have g0 :iA d0 (.int (k :Nat)) h' =some (D xs[k],h') :=mD e0 (by rw[List.getElem?_map,List.getElem?_eq_getElem hk];rfl);have g1 :iA d1 (.int (k :Nat)) h' =some (E xs[k],h') :=mD e1 (by rw[List.getElem?_map,List.getElem?_eq_getElem hk];rfl);have r :=H xs[k] (List.getElem_mem hk);simp only[lK,YA,qE,EA,lB,MA,KA,V9,U9,wA,qA,O9,P9,rA,kA,g0,g1,mj,r,GA,Bool.not_true,nj,if_false,zB]) [some d0,some d1,none] h ⟨⟨_,rfl⟩,rfl⟩
 simp only[IE,jK,aB,Q9,R9,if_true,S9 (f :=some),T9 (f :=some),Nat.reduceAdd,Nat.reduceSub,List.replicate,Z9,Y9,XA,YA,pD,qE,EA,i0,kA,GA,Bool.not_true,nj,if_false,wA,ZC,qA,O9,P9,rA,l0,l1,AF,decide_true,zB,cB,rF,DG,BG hl,FF,w,bB,uA,dB]
theorem GL(n :Nat)(w :Wy)(h :HI) :iD (n+1) [xA w,xA w] h =some (.bl true,h) :=eL n (by decide) h
theorem kO (n :Nat) {x :Dt} {ws :List Wy} (hl :ws.length ≤ 1000) {h :HI} (e :jA h x =some (ws.map xA)) :iD (n+2) [.tup [.str "one",x],JA (.one ws)] h =some (.bl true,h) :=by
 have r :=NL (R :=iD (n+1)) (d0 :=x) (d1 := .lst (ws.map xA)) ws xA xA e rfl hl fun w _ =>GL n w h
 have i0 :cC "tuple" (eV 0) [some (.tup [.str "one",x]),some (JA (.one ws)),none] h =some (.bl true,h) :=rfl;have g0 :iA (.tup [.str "one",x]) (.int 0) h =some (.str "one",h) :=rfl;have g1 :iA (JA (.one ws)) (.int 0) h =some (.str "one",h) :=rfl;have g2 :iA (.tup [.str "one",x]) (.int 1) h =some (x,h) :=rfl;have g3 :iA (JA (.one ws)) (.int 1) h =some (.lst (ws.map xA),h) :=rfl;have f0 :nB (.tup [.str "one",x]) h =some (.int 2,h) :=rfl;have f1 :nB (JA (.one ws)) h =some (.int 2,h) :=rfl;have i1 :cC "str" (e2 iA (eV 0) (eC (.int 0))) [some (.tup [.str "one",x]),some (JA (.one ws)),none] h =some (.bl true,h) :=DH (d := .str "one") (by simp only[wA,qA,uA,O9,rA,kA,g0]) rfl;rw[jP];simp only[mG,aB,Q9,R9,if_true,S9 (f :=some),T9 (f :=some),Nat.reduceAdd,Nat.reduceSub,List.replicate,Z9,Y9,mj,XA,YA,pD,qE,EA,i0,kA,GA,Bool.not_true,nj,if_false,wA,ZC,qA,uA,O9,P9,rA,f0,f1,AF,decide_true,i1,g0,g1,g2,g3,SH,zB,cB,FC,bB,lB,MA,KA,r,XD,dB]
noncomputable def OD :Ft → Nat
 | .one ws =>ws.length
 | _ =>0
theorem G0.alike{B :Nat}(n :Nat){h :HI}{d :Dt}{f :Ft}(x :G0 B h d f)(hl :OD f ≤ 1000) :iD (n+2) [d,JA f] h =some (.bl true,h) :=by
 cases x with
 | R0 i lo hi =>exact eL (n+1) (by decide) h
 | way w =>exact GL (n+1) w h
 | one m ws b e =>exact kO n hl (by simp only[jA,e])
theorem XU{B :Nat}{h :HI}{d0 d1 :Dt}{ps :List (Dt×Ft)}(hp :∀p∈ps,G0 B h p.1 p.2)(hk :∀p∈ps,OD p.2 ≤ 1000)(hl :ps.length ≤ 1000)(e0 :jA h d0 =some (ps.map Prod.fst))(e1 :jA h d1 =some ((ps.map Prod.snd).map JA)) :IE (iD 3) [d0,d1] h =some (.bl true,h) :=
 NL ps Prod.fst (fun p =>JA p.2) e0 (by rw[e1,List.map_map];rfl) hl fun p m =>(hp p m).alike 1 (hk p m)
theorem VS(n :Nat){f :Ft}(hl :OD f ≤ 1000)(h :HI) :iD (n+2) [JA f,JA f] h =some (.bl true,h) :=by
 cases f with
 | R0 i lo hi =>exact eL (n+1) (by decide) h
 | way w =>exact GL (n+1) w h
 | one ws =>exact kO n hl rfl
theorem MS{h :HI}{d0 d1 :Dt}{fs :List Ft}(hk :∀f∈fs,OD f ≤ 1000)(hl :fs.length ≤ 1000)(e0 :jA h d0 =some (fs.map JA))(e1 :jA h d1 =some (fs.map JA)) :IE (iD 3) [d0,d1] h =some (.bl true,h) :=
 NL fs JA JA e0 e1 hl fun f m =>VS 1 (hk f m) h
theorem iH(n :Int){k :Nat}(hk :k ≤ 1000)(h :HI) :∃M :Nat,M<998244353 ∧ tD [.int n, .int (k :Nat)] h =some (.int (M :Nat),h) :=by
 have m1 :=fun(h :HI) =>EB (h :=h) (i :=n) (j :=1000000007) (by decide)
 have u1 :=fun(h :HI) =>LH (h :=h) (i :=7) (j :=(k :Int)) (Or.inl ⟨by decide,by decide⟩)
 have u2 :=fun(h :HI) =>LH (h :=h) (i :=n%1000000007+7*(k :Int)+1) (j :=48271) (Or.inr ⟨by decide,by decide⟩)
 have m2 :=fun(h :HI) =>EB (h :=h) (i :=(n%1000000007+7*(k :Int)+1)*48271) (j :=2147483647) (by decide)
 generalize hO :(n%1000000007+7*(k :Int)+1)*48271%2147483647 =O at m2;have O0 :0 ≤ O :=by rw[← hO];exact Int.emod_nonneg _ (by decide)
 have O1 :O<2147483647 :=by rw[← hO];exact Int.emod_lt_of_pos _ (by decide)
 have m3 :=fun(h :HI) =>EB (h :=h) (i :=O) (j :=1009) (by decide)
 have u3 :=fun(h :HI) =>LH (h :=h) (i :=O) (j :=O%1009+(k :Int)+3) (Or.inl ⟨by omega,by omega⟩)
 have m4 :=fun(h :HI) =>EB (h :=h) (i :=O*(O%1009+(k :Int)+3)) (j :=998244353) (by decide)
 obtain⟨M,hM⟩ :=Int.eq_ofNat_of_zero_le (Int.emod_nonneg (O*(O%1009+(k :Int)+3)) (show(998244353 :Int)≠0 by decide));have M1 :=Int.emod_lt_of_pos (O*(O%1009+(k :Int)+3)) (show(0 :Int)<998244353 by decide);rw[hM]at m4 M1;refine⟨M,by omega,?_⟩;simp only[tD,JK,aB,Q9,R9,if_true,S9,T9,Nat.reduceAdd,Nat.reduceSub,List.replicate,Z9,Y9,XA,MB,wA,qA,uA,O9,P9,rA,kA,m1,u1,oD,u2,m2,V9,U9,cB,bB,m3,u3,m4,dB]
theorem IV(N :Nat){c :Nat}(h2 :2 ≤ c)(h8 :c ≤ 8)(h :HI) :∃i j :Nat,i<c ∧ j<c ∧ i≠j ∧ pI [.int (N :Nat), .int (c :Nat)] h =some (.tup [.int (i :Nat), .int (j :Nat)],h) :=by
 have m1 :=fun(h :HI) =>EB (h :=h) (i :=(N :Int)) (j :=(c :Int)) (by omega)
 have d1 :=fun(h :HI) =>bF (h :=h) (i :=(N :Int)) (j :=(c :Int)) ⟨by omega,by omega⟩
 have m2 :=fun(h :HI) =>EB (h :=h) (i :=(N :Int)/(c :Int)) (j :=(c :Int)-1) (by omega)
 obtain⟨t,ht⟩ :=Int.eq_ofNat_of_zero_le (Int.emod_nonneg ((N :Int)/(c :Int)) (show(c :Int)-1≠0 by omega));have t1 :=Int.emod_lt_of_pos ((N :Int)/(c :Int)) (show(0 :Int)<(c :Int)-1 by omega);rw[ht]at m2 t1;have i1 :N%c<c :=Nat.mod_lt _ (by omega);have e1 :(N :Int)%(c :Int) =((N%c :Nat) :Int) :=rfl;rw[e1]at m1;have m3 :=fun(h :HI) =>EB (h :=h) (i :=((N%c :Nat) :Int)+1+(t :Int)) (j :=(c :Int)) (by omega)
 have e2 :(((N%c :Nat) :Int)+1+(t :Int))%(c :Int) =(((N%c+1+t)%c :Nat) :Int) :=rfl;rw[e2]at m3;refine⟨N%c,(N%c+1+t)%c,i1,Nat.mod_lt _ (by omega),?_,?_⟩
 · generalize N%c =a at *;have :t<c-1 :=by omega
   by_cases q :a+1+t<c
   · rw[Nat.mod_eq_of_lt q];omega
   · rw[Nat.mod_eq_sub_mod (by omega),Nat.mod_eq_of_lt (by omega)];omega
 · have s2 :2 ≤ sizeLine :=by decide
   simp only[pI,xK,aB,Q9,R9,if_true,S9,T9,Nat.reduceAdd,Nat.reduceSub,List.replicate,Z9,Y9,XA,MB,wA,qA,uA,O9,P9,rA,kA,m1,V9,U9,cB,bB,aD,MA,KA,oD,d1,NY,m2,m3,s2,dB]
theorem pV{k :Nat}(h :k<13) :0<2^k ∧ 2^k<8192 :=⟨Nat.pow_pos (by decide),Nat.lt_of_lt_of_le (Nat.pow_lt_pow_right (by decide) h) (by decide)⟩
theorem qO(N :Nat){c :Nat}(h2 :2 ≤ c)(h8 :c ≤ 8)(h :HI) :∃w :Wy,eG c w ∧ DF [.int (N :Nat), .int (c :Nat)] h =some (xA w,h) :=by
 obtain⟨i,j,hi,hj,ij,ep⟩ :=IV N h2 h8 h;obtain⟨M3,b3,e3⟩ :=iH (N :Int) (k :=3) (by decide) h;obtain⟨M4,b4,e4⟩ :=iH (N :Int) (k :=4) (by decide) h;have m1 :=fun(h :HI) =>EB (h :=h) (i :=(M3 :Int)) (j :=8191) (by decide)
 have m2 :=fun(h :HI) =>EB (h :=h) (i :=(N :Int)) (j :=5) (by decide)
 have m3 :=fun(h :HI) =>EB (h :=h) (i :=(M4 :Int)) (j :=13) (by decide)
 have k13 :M4%13<13 :=Nat.mod_lt _ (by decide);have sh :=fun(h :HI) =>vQ (h :=h) (qN k13)
 have c1 :1+(M3 :Int)%8191 =((1+M3%8191 :Nat) :Int) :=by omega
 have c3 :(M4 :Int)%13 =((M4%13 :Nat) :Int) :=by omega
 rw[c3]at m3;have e3' :tD [.int (N :Nat), .int 3] h =some (.int (M3 :Nat),h) :=e3;have e4' :tD [.int (N :Nat), .int 4] h =some (.int (M4 :Nat),h) :=e4;have s4 :4 ≤ sizeLine :=by decide
 by_cases q :(N :Int)%5 =1
 · have qt :decide ((N :Int)%5 =1) =true :=decide_eq_true q;have ok :=pV k13;have cs :(1 :Int)*2^((M4%13 :Nat) :Int).toNat =((2^(M4%13) :Nat) :Int) :=by rw[Int.toNat_natCast];simp
   rw[cs]at sh;refine⟨(i,2^(M4%13),j),⟨hi,hj,ij,ok.1,ok.2⟩,?_⟩;simp only[DF,tI,aB,Q9,R9,if_true,S9,T9,Nat.reduceAdd,Nat.reduceSub,List.replicate,Z9,Y9,mj,XA,zQ,lB,MA,KA,vP,MB,wA,qA,uA,O9,P9,rA,kA,ep,V9,U9,cB,e3',m1,oD,c1,YA,EA,m2,fD,qt,GA,e4',m3,sh,bB,aD,s4,dB];rfl
 · have qf :decide ((N :Int)%5 =1) =false :=decide_eq_false q;refine⟨(i,1+M3%8191,j),⟨hi,hj,ij,show 0<1+M3%8191 by omega,show 1+M3%8191<8192 by omega⟩,?_⟩;simp only[DF,tI,aB,Q9,R9,if_true,S9,T9,Nat.reduceAdd,Nat.reduceSub,List.replicate,Z9,Y9,mj,XA,zQ,lB,MA,KA,vP,MB,wA,qA,uA,O9,P9,rA,kA,ep,V9,U9,cB,e3',m1,oD,c1,YA,EA,m2,fD,qf,GA,nj,if_false,zB,bB,aD,s4,dB];rfl
theorem mS(N :Nat)(i :Nat){c :Nat}(hi :i<c)(h :HI) :∃lo hi' :Nat,jE c (.R0 i lo hi') ∧ EF [.int (N :Nat), .int (i :Nat)] h =some (JA (.R0 i lo hi'),h) :=by
 obtain⟨M,bM,eM⟩ :=iH (N :Int) (k :=7) (by decide) h;have B4 :tD [.int (N :Nat), .int 7] h =some (.int (M :Nat),h) :=eM;have U5 :=fun(h :HI) =>MY (h :=h) (i :=10) (j :=18) ⟨by decide,by decide,by decide⟩
 have N8 :(10 :Int)^(18 :Int).toNat =1000000000000000000 :=by decide
 rw[N8]at U5;have u1 :=fun(h :HI) =>LH (h :=h) (i :=(N :Int)) (j :=48271000000019) (Or.inr ⟨by decide,by decide⟩)
 have m1 :=fun(h :HI) =>EB (h :=h) (i :=(N :Int)*48271000000019) (j :=1000000000000000000) (by decide)
 have m3 :=fun(h :HI) =>EB (h :=h) (i :=(N :Int)) (j :=3) (by decide)
 have m4 :=fun(h :HI) =>EB (h :=h) (i :=(N :Int)) (j :=4) (by decide)
 have d3 :=fun(h :HI) =>bF (h :=h) (i :=(N :Int)) (j :=3) ⟨by decide,by decide⟩
 have m9 :=fun(h :HI) =>EB (h :=h) (i :=(N :Int)/3) (j :=9) (by decide)
 have m5 :=fun(h :HI) =>EB (h :=h) (i :=(M :Int)) (j :=5) (by decide)
 have s4 :4 ≤ sizeLine :=by decide
 obtain⟨lo,hlo,el⟩ :∃lo :Nat,lo<1000000000000000000 ∧ (if(N :Int)%3 =0 then(N :Int)/3%9 else(N :Int)*48271000000019%1000000000000000000) =(lo :Int) :=by
  by_cases q :(N :Int)%3 =0
  · rw[if_pos q];exact⟨N/3%9,by omega,by omega⟩
  · rw[if_neg q];obtain⟨lo,e⟩ :=Int.eq_ofNat_of_zero_le (Int.emod_nonneg ((N :Int)*48271000000019) (show(1000000000000000000 :Int)≠0 by decide));have :=Int.emod_lt_of_pos ((N :Int)*48271000000019) (show(0 :Int)<1000000000000000000 by decide);exact⟨lo,by omega,e⟩
 obtain⟨hh,h1,h2,eh⟩ :∃hh :Nat,lo ≤ hh ∧ hh ≤ 1000000000000000000 ∧ (if(N :Int)%4 =1 then(1000000000000000000 :Int)else min 1000000000000000000 ((lo :Int)+(M :Int)%5)) =(hh :Int) :=by
  by_cases q :(N :Int)%4 =1
  · rw[if_pos q];exact⟨1000000000000000000,by omega,by omega,rfl⟩
  · rw[if_neg q];exact⟨min 1000000000000000000 (lo+M%5),by omega,by omega,by omega⟩
 refine⟨lo,hh,⟨hi,h1,h2⟩,?_⟩;by_cases q3 :(N :Int)%3 =0
 · rw[if_pos q3]at el;have t3 :decide ((N :Int)%3 =0) =true :=decide_eq_true q3;simp only[el]at m9;by_cases q4 :(N :Int)%4 =1
   · rw[if_pos q4]at eh;have t4 :decide ((N :Int)%4 =1) =true :=decide_eq_true q4;simp only[EF,hG,aB,Q9,R9,if_true,S9,T9,Nat.reduceAdd,Nat.reduceSub,List.replicate,Z9,Y9,mj,XA,MB,wA,qA,uA,O9,P9,rA,kA,u1,U5,m1,V9,U9,cB,YA,EA,m3,fD,t3,GA,d3,m9,nj,if_false,zB,kI,lB,MA,KA,B4,m5,oD,AJ,W9,m4,t4,bB,aD,s4,dB];rw[eh];rfl
   · rw[if_neg q4]at eh;have t4 :decide ((N :Int)%4 =1) =false :=decide_eq_false q4;simp only[EF,hG,aB,Q9,R9,if_true,S9,T9,Nat.reduceAdd,Nat.reduceSub,List.replicate,Z9,Y9,mj,XA,MB,wA,qA,uA,O9,P9,rA,kA,u1,U5,m1,V9,U9,cB,YA,EA,m3,fD,t3,GA,d3,m9,nj,if_false,zB,kI,lB,MA,KA,B4,m5,oD,AJ,W9,m4,t4,bB,aD,s4,dB,eh];rfl
 · rw[if_neg q3]at el;have t3 :decide ((N :Int)%3 =0) =false :=decide_eq_false q3;simp only[el]at m1;by_cases q4 :(N :Int)%4 =1
   · rw[if_pos q4]at eh;have t4 :decide ((N :Int)%4 =1) =true :=decide_eq_true q4;simp only[EF,hG,aB,Q9,R9,if_true,S9,T9,Nat.reduceAdd,Nat.reduceSub,List.replicate,Z9,Y9,mj,XA,MB,wA,qA,uA,O9,P9,rA,kA,u1,U5,m1,V9,U9,cB,YA,EA,m3,fD,t3,GA,d3,m9,nj,if_false,zB,kI,lB,MA,KA,B4,m5,oD,AJ,W9,m4,t4,bB,aD,s4,dB];rw[eh];rfl
   · rw[if_neg q4]at eh;have t4 :decide ((N :Int)%4 =1) =false :=decide_eq_false q4;simp only[EF,hG,aB,Q9,R9,if_true,S9,T9,Nat.reduceAdd,Nat.reduceSub,List.replicate,Z9,Y9,mj,XA,MB,wA,qA,uA,O9,P9,rA,kA,u1,U5,m1,V9,U9,cB,YA,EA,m3,fD,t3,GA,d3,m9,nj,if_false,zB,kI,lB,MA,KA,B4,m5,oD,AJ,W9,m4,t4,bB,aD,s4,dB,eh];rfl
theorem qT(n :Int){c :Nat}(h1 :1 ≤ c)(h8 :c ≤ 8)(g :Nat)(h :HI) :∃f :Ft,jE c f ∧ (DB f =true → g<6) ∧ kG [.int n, .int (c :Nat), .int (g :Nat)] h =some (JA f,h) :=by
 obtain⟨M,bM,eM⟩ :=iH n (k :=1) (by decide) h;have B4 :tD [.int n, .int 1] h =some (.int (M :Nat),h) :=eM;have m5 :=fun(h :HI) =>EB (h :=h) (i :=(M :Int)) (j :=5) (by decide)
 have d5 :=fun(h :HI) =>bF (h :=h) (i :=(M :Int)) (j :=5) ⟨by decide,by decide⟩
 have c5 :(M :Int)/5 =((M/5 :Nat) :Int) :=rfl;rw[c5]at d5;have mc :=fun(h :HI) =>EB (h :=h) (i :=((M/5 :Nat) :Int)) (j :=(c :Int)) (by omega)
 have cc :((M/5 :Nat) :Int)%(c :Int) =((M/5%c :Nat) :Int) :=rfl;rw[cc]at mc;have m6 :=fun(h :HI) =>EB (h :=h) (i :=((M/5 :Nat) :Int)) (j :=6) (by decide)
 have c6 :((M/5 :Nat) :Int)%6 =((M/5%6 :Nat) :Int) :=rfl;rw[c6]at m6;by_cases q1 :(c :Int) =1 ∨ (M :Int)%5 =2
 · obtain⟨lo,hi,ok,e⟩ :=mS (M/5) (M/5%c) (c :=c) (Nat.mod_lt _ (by omega)) h;refine⟨.R0 (M/5%c) lo hi,ok,(fun z =>by cases z),?_⟩;have tt :(PB (D0 (e2 VA (eV 1) (eC (.int 1)))) (D0 (e2 VA (e2 gB (eV 3) (eC (.int 5))) (eC (.int 2))))) [some (.int n),some (.int (c :Nat)),some (.int (g :Nat)),some (.int (M :Nat))] h =some (true,h) :=by
    simp only[pD,EA,wA,qA,uA,O9,P9,rA,kA,fD,GA,m5];by_cases z :(c :Int) =1
    · rw[decide_eq_true z];rfl
    · rw[decide_eq_false z,decide_eq_true (q1.resolve_left z)];rfl
   simp only[kG,XG,aB,Q9,R9,if_true,S9,T9,Nat.reduceAdd,Nat.reduceSub,List.replicate,Z9,Y9,mj,XA,MB,lB,MA,KA,qA,uA,O9,P9,rA,kA,B4,V9,U9,cB,YA,tt,bB,wA,d5,mc,e,XD,dB]
 · have z1 :¬(c :Int) =1 :=fun z =>q1 (.inl z)
   have z2 :¬(M :Int)%5 =2 :=fun z =>q1 (.inr z)
   have c2 :2 ≤ c :=by omega
   have f1 :=decide_eq_false z1;have f2 :=decide_eq_false z2;by_cases q2 :(M :Int)%5 =3 ∧ (g :Int)<6
   · have t3 :=decide_eq_true q2.1;have t4 :=decide_eq_true q2.2;have hw :∀k :Nat,k<1+M/5%6 → ∃w :Wy,eG c w ∧ WG [some (.int (k :Nat)),some (.int n),some (.int (c :Nat))] h =some (xA w,h) :=by intro k hk;obtain⟨M2,_,e2⟩ :=iH n (k :=10+k) (by omega) h;obtain⟨w,ow,ew⟩ :=qO M2 c2 h8 h;refine⟨w,ow,?_⟩;have e2' :tD [.int n, .int (10+(k :Int))] h =some (.int (M2 :Nat),h) :=e2;simp only[WG,lB,MA,KA,wA,qA,uA,O9,P9,rA,kA,oD,mj,e2',ew]
     obtain⟨W,hW⟩ :∃W :Nat → Wy,∀k<1+M/5%6,eG c (W k) ∧ WG [some (.int (k :Nat)),some (.int n),some (.int (c :Nat))] h =some (xA (W k),h) :=by refine⟨fun k =>if z :k<1+M/5%6 then(hw k z).choose else(0,0,0),fun k hk =>?_⟩;dsimp only;rw[dif_pos hk];exact(hw k hk).choose_spec
     have ec :=OE (te :=WG) (tc :=GB) (i :=0) (fun(k :Nat) =>Dt.int (k :Int)) (fun k =>xA (W k)) h (List.range (1+M/5%6)) [none,some (.int n),some (.int (c :Nat))] fun k hk =>⟨rfl,(hW k (List.mem_range.mp hk)).2⟩
     have hs :((List.range (1+M/5%6)).map fun(k :Nat) =>Dt.int (k :Int)).length<sizeLine :=by rw[List.length_map,List.length_range];exact Nat.lt_of_le_of_lt (show 1+M/5%6 ≤ 6 by omega) (by decide)
     have em :(List.range (1+M/5%6)).map (fun k =>xA (W k)) =((List.range (1+M/5%6)).map W).map xA :=by rw[List.map_map];rfl
     rw[em]at ec;refine⟨.one ((List.range (1+M/5%6)).map W),⟨by simp,by simp;omega,fun w hw =>?_⟩,fun _ =>by omega,?_⟩
     · obtain⟨k,hk,rfl⟩ :=List.mem_map.mp hw;exact(hW k (List.mem_range.mp hk)).1
     · have ca :(1 :Int)+((M/5%6 :Nat) :Int) =((1+M/5%6 :Nat) :Int) :=by omega
       have r1 :=BG (c :=1+M/5%6) (by omega) h;have s2 :2 ≤ sizeLine :=by decide
       simp only[kG,XG,aB,Q9,R9,if_true,S9 (f :=some),T9 (f :=some),Nat.reduceAdd,Nat.reduceSub,List.replicate,Z9,Y9,mj,XA,MB,lB,MA,KA,qA,uA,O9,P9,rA,kA,B4,V9,U9,cB,YA,pD,sF,EA,wA,fD,f1,f2,m5,GA,nj,if_false,zB,t3,QG,t4,bB,aD,mF,DG,d5,m6,oD,ca,r1,HD,UE,ED,Option.join_some,uD _ _ _ hs,ec,s2,XD,dB];rfl
   · obtain⟨w,ow,ew⟩ :=qO (M/5) c2 h8 h;refine⟨.way w,ow,(fun z =>by cases z),?_⟩;have tt :(xE (D0 (e2 VA (e2 gB (eV 3) (eC (.int 5))) (eC (.int 3)))) (D0 (e2 iI (eV 2) (eC (.int 6))))) [some (.int n),some (.int (c :Nat)),some (.int (g :Nat)),some (.int (M :Nat))] h =some (false,h) :=by
      simp only[sF,EA,wA,qA,uA,O9,P9,rA,kA,m5,fD,GA,QG];by_cases z :(M :Int)%5 =3
      · rw[decide_eq_true z,decide_eq_false (fun y =>q2 ⟨z,y⟩)];rfl
      · rw[decide_eq_false z];rfl
     have R8 :DF [.int ((M/5 :Nat) :Int), .int (c :Nat)] h =some (JA (.way w),h) :=ew;simp only[kG,XG,aB,Q9,R9,if_true,S9,T9,Nat.reduceAdd,Nat.reduceSub,List.replicate,Z9,Y9,mj,XA,MB,lB,MA,KA,qA,uA,O9,P9,rA,kA,B4,V9,U9,cB,YA,tt,pD,EA,wA,fD,f1,f2,m5,GA,nj,if_false,zB,bB,d5,R8,dB]
theorem bT(cs :List Int)(hl :cs.length ≤ 60){c :Nat}(h1 :1 ≤ c)(h8 :c ≤ 8)(h :HI) :∃fs :List Ft,fs.length ≤ 60 ∧ (∀f∈fs,jE c f) ∧ (fs.filter DB).length ≤ 6 ∧ qI [.lst (cs.map Dt.int), .int (c :Nat)] h =some (.ref h.length,h ++ [.lst (fs.map JA)]) :=by
 obtain⟨l',h',w,⟨fs,y4,y5,rfl,hk,ok,hg,rfl⟩⟩ :=HM (i :=4) (body :=AK) Dt.int (fun k l h' =>∃(fs :List Ft)(y4 y5 :Option Dt),l = [some (.lst (cs.map Dt.int)),some (.int (c :Nat)),some (.ref h.length),some (.int ((fs.filter DB).length :Nat)),y4,y5] ∧ fs.length =k ∧ (∀f∈fs,jE c f) ∧ (fs.filter DB).length ≤ 6 ∧ h' =h ++ [.lst (fs.map JA)]) cs 0 (by
  rintro k x hx l h' ⟨fs,y4,y5,rfl,hk,ok,hg,rfl⟩;have kl :k<cs.length :=(aj hx).1;obtain⟨f,of,og,ef⟩ :=qT x h1 h8 (fs.filter DB).length (h ++ [.lst (fs.map JA)]);have dh :(h ++ [Ob.lst (fs.map JA)])[h.length]? =some (.lst (fs.map JA)) :=by simp
  have i0 :iA (JA f) (.int 0) (h ++ [.lst (fs.map JA)]) =some (.str (KH f),h ++ [.lst (fs.map JA)]) :=by cases f<;>rfl
  have k1 :=NF f;have cnt :((fs.filter DB).length :Int)+(if DB f =true then 1 else 0) =(((fs ++ [f]).filter DB).length :Nat) :=by
   rw[List.filter_append,List.length_append];by_cases z :DB f =true
   · simp[z]
   · simp[z]
  have ap :=SE (l := [some (.lst (cs.map Dt.int)),some (.int (c :Nat)),some (.ref h.length),some (.int (((fs ++ [f]).filter DB).length :Nat)),some (.int x),some (JA f)]) (h :=h ++ [.lst (fs.map JA)]) (g :=eV 5) (n :=h.length) (d :=JA f) (xs :=fs.map JA) (ys :=fs.map JA) (h' :=h ++ [.lst (fs.map JA)]) dh (by rfl) dh (by rw[List.length_map];exact Nat.lt_of_le_of_lt (show fs.length ≤ 60 by omega) (by decide));have es :(h ++ [Ob.lst (fs.map JA)]).set h.length (.lst (fs.map JA ++ [JA f])) =h ++ [.lst ((fs ++ [f]).map JA)] :=by simp
  rw[es]at ap;refine⟨.nx [some (.lst (cs.map Dt.int)),some (.int (c :Nat)),some (.ref h.length),some (.int (((fs ++ [f]).filter DB).length :Nat)),some (.int x),some (JA f)] (h ++ [.lst ((fs ++ [f]).map JA)]),?_,fs ++ [f],_,_,rfl,by simp;omega,?_,?_,rfl⟩
  · simp only[AK,XA,MB,lB,MA,KA,qA,uA,V9,U9,O9,P9,rA,kA,mj,ef,cB,wA,ZC,i0,FC,k1,QV,oD,cnt,ME,jF,ap]
  · intro z m;simp only[List.mem_append,List.mem_singleton]at m;rcases m with m | rfl
    · exact ok z m
    · exact of
  · rw[List.filter_append,List.length_append];by_cases z :DB f =true
    · have :=og z;simp[z];omega
    · simp[z];omega) [some (.lst (cs.map Dt.int)),some (.int (c :Nat)),some (.ref h.length),some (.int 0),none,none] (h ++ [.lst []]) ⟨[],none,none,rfl,rfl,by simp,by simp,by simp⟩
 refine⟨fs,by omega,ok,hg,?_⟩;simp only[qI,FK,aB,Q9,R9,if_true,S9 (f :=some),T9 (f :=some),Nat.reduceAdd,Nat.reduceSub,List.replicate,Z9,Y9,XA,MB,KM,KA,uA,kA,Nat.zero_le,V9,U9,cB,rF,YE,qA,O9,P9,rA,sG,FF,w,bB,dB]
theorem xJ {i :Nat} (hi :i<26) (h :HI) :iA (.str "abcdefghijklmnopqrstuvwxyz") (.int (i :Nat)) h =some (.str ⟨#[97+i]⟩,h) :=by
 have t :∀i<26,(Str.ofString "abcdefghijklmnopqrstuvwxyz").cps.toList[i]? =some (97+i) :=by decide
 simp only[iA];rw[if_pos (by decide),SM.lF,t i hi];rfl
theorem iT :∀xs :List Nat,Str.join (Str.ofString "") (xs.map fun x =>(⟨#[x]⟩ :Str)) =⟨xs.toArray⟩ :=by
 intro xs;apply iJ;have e0 :(Str.ofString "").cps.toList = [] :=by decide
 induction xs with
 | nil =>rfl
 | cons x xs ih =>
  cases xs with
  | nil =>rfl
  | cons y r =>rw[S9,GF _ _ (by simp),KF,KF,e0,ih];simp
noncomputable def B1(c k :Nat) :Nat :=2+(c+k*(c/7%2))%7
def F1(c k :Nat) :Nat :=c/14%B1 c k
def TB(c k :Nat) :List Nat :=if c/5%4 =1 then [97+(k+c/20)%26]else((List.replicate (B1 c k) (97+c/98%26)).set (F1 c k) 97).set ((F1 c k+1)%B1 c k) (97+k)
def EC(c k :Nat) :Str :=⟨(TB c k).toArray⟩
theorem NH(c k :Nat) :2 ≤ B1 c k ∧ B1 c k ≤ 8 ∧ F1 c k<B1 c k ∧ (F1 c k+1)%B1 c k<B1 c k ∧ F1 c k≠(F1 c k+1)%B1 c k :=by
 have h1 :2 ≤ B1 c k :=by unfold B1;omega
 have h2 :B1 c k ≤ 8 :=by unfold B1;omega
 have h3 :F1 c k<B1 c k :=Nat.mod_lt _ (by omega);refine⟨h1,h2,h3,Nat.mod_lt _ (by omega),?_⟩;by_cases q :F1 c k+1<B1 c k
 · rw[Nat.mod_eq_of_lt q];omega
 · rw[show F1 c k+1 =B1 c k by omega,Nat.mod_self];omega
theorem HV(n :Int){c k :Nat}(hc :n%1000003 =(c :Int))(hk :k<8)(h :HI) :∃g,YG [.int n, .int (k :Nat)] h =some (.str (EC c k),h ++ g) :=by
 have m0 :=fun(h :HI) =>EB (h :=h) (i :=n) (j :=1000003) (by decide)
 rw[hc]at m0;have d5 :=fun(h :HI) =>bF (h :=h) (i :=(c :Int)) (j :=5) ⟨by decide,by decide⟩
 have m4 :=fun(h :HI) =>EB (h :=h) (i :=(c :Int)/5) (j :=4) (by decide)
 have j9 :decide ((k :Int)<26) =true :=decide_eq_true (by omega);by_cases q :c/5%4 =1
 · have qt :decide ((c :Int)/5%4 =1) =true :=decide_eq_true (by omega);have J8 :=fun(h :HI) =>bF (h :=h) (i :=(c :Int)) (j :=20) ⟨by decide,by decide⟩
   have k8 :=fun(h :HI) =>EB (h :=h) (i :=(k :Int)+(c :Int)/20) (j :=26) (by decide)
   have ce :((k :Int)+(c :Int)/20)%26 =(((k+c/20)%26 :Nat) :Int) :=by omega
   rw[ce]at k8;have ab :=xJ (i :=(k+c/20)%26) (Nat.mod_lt _ (by decide)) h;refine⟨[],?_⟩;have en :EC c k =⟨#[97+(k+c/20)%26]⟩ :=by unfold EC TB;rw[if_pos q]
   rw[en,mj];simp only[YG,sI,aB,Q9,R9,if_true,S9,T9,Nat.reduceAdd,Nat.reduceSub,List.replicate,Z9,Y9,XA,MB,wA,qA,uA,O9,P9,rA,kA,V9,U9,cB,m0,YA,sF,EA,d5,m4,fD,qt,GA,QG,j9,bB,J8,oD,k8,ab,XD,dB]
 · have qf :decide ((c :Int)/5%4 =1) =false :=decide_eq_false (by omega);obtain⟨s1,s2,s3,s4,s5⟩ :=NH c k;have d7 :=fun(h :HI) =>bF (h :=h) (i :=(c :Int)) (j :=7) ⟨by decide,by decide⟩
   have m2 :=fun(h :HI) =>EB (h :=h) (i :=(c :Int)/7) (j :=2) (by decide)
   have u1 :=fun(h :HI) =>LH (h :=h) (i :=(k :Int)) (j :=(c :Int)/7%2) (Or.inl ⟨by omega,by omega⟩)
   have m7 :=fun(h :HI) =>EB (h :=h) (i :=(c :Int)+(k :Int)*((c :Int)/7%2)) (j :=7) (by decide)
   have es :(2 :Int)+((c :Int)+(k :Int)*((c :Int)/7%2))%7 =((B1 c k :Nat) :Int) :=by unfold B1;rw[Int.natCast_add];rfl
   have G8 :=fun(h :HI) =>bF (h :=h) (i :=(c :Int)) (j :=14) ⟨by decide,by decide⟩
   have mp :=fun(h :HI) =>EB (h :=h) (i :=(c :Int)/14) (j :=((B1 c k :Nat) :Int)) (by omega)
   have ep :(c :Int)/14%((B1 c k :Nat) :Int) =((F1 c k :Nat) :Int) :=rfl;rw[ep]at mp;have mq :=fun(h :HI) =>EB (h :=h) (i :=((F1 c k :Nat) :Int)+1) (j :=((B1 c k :Nat) :Int)) (by omega)
   have eq :(((F1 c k :Nat) :Int)+1)%((B1 c k :Nat) :Int) =(((F1 c k+1)%B1 c k :Nat) :Int) :=rfl;rw[eq]at mq;have dk :=fun(h :HI) =>bF (h :=h) (i :=(k :Int)) (j :=26) ⟨by decide,by decide⟩
   have mk1 :=fun(h :HI) =>EB (h :=h) (i :=(k :Int)/26) (j :=26) (by decide)
   have ek1 :(k :Int)/26%26 =((0 :Nat) :Int) :=by omega
   rw[ek1]at mk1;have mk2 :=fun(h :HI) =>EB (h :=h) (i :=(k :Int)) (j :=26) (by decide)
   have ek2 :(k :Int)%26 =((k :Nat) :Int) :=by omega
   rw[ek2]at mk2;have K8 :=fun(h :HI) =>bF (h :=h) (i :=(c :Int)) (j :=98) ⟨by decide,by decide⟩
   have n8 :=fun(h :HI) =>EB (h :=h) (i :=(c :Int)/98) (j :=26) (by decide)
   have O8 :(c :Int)/98%26 =((c/98%26 :Nat) :Int) :=rfl;rw[O8]at n8;have ec :=OE (te :=CK) (tc :=GB) (i :=0) (fun(k :Nat) =>Dt.int (k :Int)) (fun _ =>Dt.str ⟨#[97+c/98%26]⟩) h (List.range (B1 c k)) [none,some (.int (c :Nat)),some (.str "abcdefghijklmnopqrstuvwxyz")] fun j _ =>⟨rfl,by
    simp only[CK,wA,qA,uA,U9,O9,P9,rA,kA,K8,n8,xJ (Nat.mod_lt _ (by decide))]⟩
   have hs :((List.range (B1 c k)).map fun(k :Nat) =>Dt.int (k :Int)).length<sizeLine :=by rw[List.length_map,List.length_range];exact Nat.lt_of_le_of_lt s2 (by decide)
   have r1 :=BG (c :=B1 c k) (by omega) h;obtain⟨xs,hxs⟩ :∃xs :List Dt,xs =(List.range (B1 c k)).map fun _ =>Dt.str ⟨#[97+c/98%26]⟩ :=⟨_,rfl⟩
   have ex :xs =(List.replicate (B1 c k) (97+c/98%26)).map fun x =>Dt.str ⟨#[x]⟩ :=by rw[hxs];apply List.ext_getElem (by simp);intro a b1 b2;simp
   rw[← hxs]at ec;have xl :xs.length =B1 c k :=by rw[ex];simp
   have at1 :(h ++ [Ob.lst xs])[h.length]? =some (.lst xs) :=by simp
   have st1 :=fun(l :LI) =>VI (l :=l) (h :=h ++ [Ob.lst xs]) (n :=h.length) (k :=F1 c k) (v := .str ⟨#[97+0]⟩) at1 (by omega)
   have h2 :(h ++ [Ob.lst xs]).set h.length (.lst (xs.set (F1 c k) (.str ⟨#[97+0]⟩))) =h ++ [.lst (xs.set (F1 c k) (.str ⟨#[97+0]⟩))] :=by simp
   rw[h2]at st1;have at2 :(h ++ [Ob.lst (xs.set (F1 c k) (.str ⟨#[97+0]⟩))])[h.length]? =some (.lst (xs.set (F1 c k) (.str ⟨#[97+0]⟩))) :=by simp
   have st2 :=fun(l :LI) =>VI (l :=l) (h :=h ++ [Ob.lst (xs.set (F1 c k) (.str ⟨#[97+0]⟩))]) (n :=h.length) (k :=(F1 c k+1)%B1 c k) (v := .str ⟨#[97+k]⟩) at2 (by rw[List.length_set];omega)
   have en :(xs.set (F1 c k) (.str ⟨#[97+0]⟩)).set ((F1 c k+1)%B1 c k) (.str ⟨#[97+k]⟩) =((TB c k).map fun x =>(⟨#[x]⟩ :Str)).map Dt.str :=by unfold TB;rw[if_neg q,ex,List.map_map, ← List.map_set, ← List.map_set];rfl
   have h3 :(h ++ [Ob.lst (xs.set (F1 c k) (.str ⟨#[97+0]⟩))]).set h.length (.lst ((xs.set (F1 c k) (.str ⟨#[97+0]⟩)).set ((F1 c k+1)%B1 c k) (.str ⟨#[97+k]⟩))) =h ++ [.lst (((TB c k).map fun x =>(⟨#[x]⟩ :Str)).map Dt.str)] :=by rw[en];simp
   rw[h3]at st2;have nl :(TB c k).length ≤ 8 :=by unfold TB;rw[if_neg q];simp;exact s2
   have jk :=qF (h :=h ++ [.lst (((TB c k).map fun x =>(⟨#[x]⟩ :Str)).map Dt.str)]) (z :=Str.ofString "") (d := .ref h.length) (ts :=(TB c k).map fun x =>(⟨#[x]⟩ :Str)) (by simp[jA]) (nH (B :=1) (fun t m =>by obtain⟨x,_,rfl⟩ :=List.mem_map.mp m;exact fj 1) (by
    have :(Str.ofString "").length =0 :=by decide
    rw[this,List.length_map];omega))
   rw[iT]at jk;have jk :XJ (.str (Str.ofString "")) (.ref h.length,h ++ [.lst (((TB c k).map fun x =>(⟨#[x]⟩ :Str)).map Dt.str)]) =some (.str (EC c k),h ++ [.lst (((TB c k).map fun x =>(⟨#[x]⟩ :Str)).map Dt.str)]) :=jk;have D8 :=fun(h :HI) =>xJ (i :=0) (by decide) h
   have E8 :=fun(h :HI) =>xJ (i :=k) (by omega) h
   refine⟨[.lst (((TB c k).map fun x =>(⟨#[x]⟩ :Str)).map Dt.str)],?_⟩;simp only[YG,sI,aB,Q9,R9,if_true,S9 (f :=some),T9 (f :=some),Nat.reduceAdd,Nat.reduceSub,List.replicate,Z9,Y9,XA,MB,wA,qA,uA,O9,P9,rA,kA,V9,U9,cB,m0,YA,sF,EA,d5,m4,fD,qf,GA,nj,if_false,zB,d7,m2,u1,oD,m7,es,G8,mp,wH,DG,r1,HD,UE,ED,Option.join_some,uD _ _ _ hs,ec,xP,dk,mk1,D8,st1,mk2,E8,mq,st2,bB,nF,jk,dB]
theorem LO{α :Type}{te :RE}{i :Nat}(D F :α → Dt)(h0 :HI) :∀(xs :List α)(l :LI)(e :HI),(∀x∈xs,∀e,∃g,te (l.set i (some (D x))) (h0 ++ e) =some (F x,h0 ++ e ++ g)) →
 ∃g,lD (SA i) GB te (xs.map D) l (h0 ++ e) =some (xs.map F,h0 ++ e ++ g)
 | [],_,e,_ =>⟨[],by simp[lD]⟩
 | x ::xs,l,e,H =>by
  obtain⟨g,hx⟩ :=H x (by simp) e;obtain⟨g2,ih⟩ :=LO D F h0 xs (l.set i (some (D x))) (e ++ g) (te :=te) (i :=i) (fun y hy e =>by
   rw[List.set_set];exact H y (by simp[hy]) e)
  rw[← List.append_assoc]at ih;refine⟨g ++ g2,?_⟩;simp only[S9,lD,AG,X9,yP,hx,if_true,ih];rw[List.append_assoc (h0 ++ e)]
theorem zO(c k :Nat) :(EC c k).length =(TB c k).length :=by simp[EC,Str.length]
theorem oH(c k :Nat) :(EC c k).cps.toList =TB c k :=by simp[EC]
theorem AW{c k x :Nat}(hk :k<8)(h :x∈TB c k) :97 ≤ x ∧ x ≤ 122 :=by
 unfold TB at h;split at h
 · rw[List.mem_singleton.mp h];omega
 · rcases List.mem_or_eq_of_mem_set h with h | rfl
   · rcases List.mem_or_eq_of_mem_set h with h | rfl
     · rw[(List.mem_replicate.mp h).2];omega
     · omega
   · omega
theorem mU(c k :Nat) :1 ≤ (TB c k).length ∧ (TB c k).length ≤ 8 :=by
 obtain⟨s1,s2,_⟩ :=NH c k;unfold TB;split
 · simp
 · simp;omega
theorem LX{c k :Nat}(q :¬c/5%4 =1) :97∈TB c k :=by obtain⟨s1,s2,s3,s4,s5⟩ :=NH c k;unfold TB;rw[if_neg q];refine List.mem_iff_getElem?.mpr ⟨F1 c k,?_⟩;rw[List.getElem?_set_ne (by omega),List.getElem?_set_self (by simpa using s3)]
theorem qP{c k :Nat}(s :Str)(h1 :97∉s.cps.toList)(h2 :2 ≤ s.cps.toList.length) :EC c k≠s :=by
 intro e;have e :=congrArg (fun s :Str =>s.cps.toList) e;rw[oH]at e;by_cases q :c/5%4 =1
 · have :(TB c k).length =1 :=by unfold TB;rw[if_pos q];rfl
   rw[e]at this;omega
 · exact h1 (e ▸ LX q)
theorem BW{c k :Nat}(hk :k<8) :W0 (EC c k) :=by have l :=mU c k;refine⟨by rw[zO];exact l.1,by rw[zO];exact l.2,fun x hx =>?_,qP _ (by decide) (by decide)⟩;rw[oH]at hx;exact AW hk hx
theorem SS {c k :Nat} (hk :k<8) :EC c k ≠ "ahead" :=by
 intro e;have e :=congrArg (fun s :Str =>s.cps.toList) e;rw[oH,show(Str.ofString "ahead").cps.toList = [97,104,101,97,100] by decide]at e;have el :=congrArg List.length e;unfold TB at e el;by_cases q :c/5%4 =1
 · rw[if_pos q]at el;simp at el
 · rw[if_neg q]at e el;obtain⟨s1,s2,s3,s4,s5⟩ :=NH c k;have sz :B1 c k =5 :=by simpa using el
   rw[sz]at e s3;have t :∀p<5,∀b<26,∀k<8,((List.replicate 5 (97+b)).set p 97).set ((p+1)%5) (97+k) ≠ [97,104,101,97,100] :=by decide +kernel
   exact t _ s3 _ (Nat.mod_lt _ (by decide)) k hk e
theorem lU{c k k' :Nat}(hk :k<8)(hk' :k'<8)(e :EC c k =EC c k') :k =k' :=by
 have e :=congrArg (fun s :Str =>s.cps.toList) e;rw[oH,oH]at e;unfold TB at e;by_cases q :c/5%4 =1
 · rw[if_pos q,if_pos q]at e;injection e with e _
   omega
 · rw[if_neg q,if_neg q]at e;have el :=congrArg List.length e;simp only[List.length_set,List.length_replicate]at el;obtain⟨s1,s2,s3,s4,s5⟩ :=NH c k;have ep :F1 c k =F1 c k' :=by unfold F1;rw[el]
   rw[el,ep]at e s4;have e2 :=congrArg (fun l :List Nat =>l[(F1 c k'+1)%B1 c k']?) e;rw[List.getElem?_set_self (by simpa using s4),List.getElem?_set_self (by simpa using s4)]at e2;injection e2 with e2
   omega
def NC(c n :Nat) :List Str :=(List.range n).map (EC c)
theorem GP{c n :Nat}(hn :n ≤ 8) :IB (NC c n) :=by
 refine⟨?_,by simp[NC];exact hn,fun s hs =>?_⟩
 · unfold NC List.Nodup;rw[List.pairwise_map];refine List.Pairwise.imp_of_mem ?_ List.pairwise_lt_range;intro a b ha hb lt e;have :=lU (by have :=List.mem_range.mp ha;omega) (by have :=List.mem_range.mp hb;omega) e;omega
 · obtain⟨k,hk,rfl⟩ :=List.mem_map.mp hs;exact BW (by have :=List.mem_range.mp hk;omega)
theorem DW {c n :Nat} (h2 :2 ≤ n) (hn :n ≤ 8) :IB (((NC c n).set 0 "behind").set 1 "ahead") :=by
 have ok :=GP (c :=c) hn;have ln :(NC c n).length =n :=by simp[NC]
 have mem :∀s∈NC c n,∃k<8,s =EC c k :=by intro s hs;obtain⟨k,hk,rfl⟩ :=List.mem_map.mp hs;exact⟨k,by have :=List.mem_range.mp hk;omega,rfl⟩
 obtain⟨a,b,r,e⟩ :∃a b r,NC c n =a ::b ::r :=by
  match h :NC c n with
  | [] =>rw[h]at ln;simp at ln;omega
  | [x] =>rw[h]at ln;simp at ln;omega
  | a ::b ::r =>exact⟨a,b,r,rfl⟩
 rw[e]at ok mem ln ⊢;show IB ("behind" :: "ahead" ::r);have nd :=ok.nd;rw[List.nodup_cons,List.nodup_cons]at nd;have nb :Str.ofString "behind" ∉ r :=fun m =>by obtain⟨k,hk,z⟩ :=mem _ (List.mem_cons_of_mem _ (List.mem_cons_of_mem _ m));exact qP (Str.ofString "behind") (by decide) (by decide) z.symm
 have na :Str.ofString "ahead" ∉ r :=fun m =>by obtain⟨k,hk,z⟩ :=mem _ (List.mem_cons_of_mem _ (List.mem_cons_of_mem _ m));exact SS hk z.symm
 refine⟨?_,by simp at ln ⊢;omega,?_⟩
 · rw[List.nodup_cons,List.nodup_cons];refine⟨?_,na,nd.2.2⟩;simp only[List.mem_cons,not_or];exact⟨by decide,nb⟩
 · intro s hs;simp only[List.mem_cons]at hs;rcases hs with rfl | rfl | hs
   · exact⟨by decide,by decide,by decide,by decide⟩
   · exact⟨by decide,by decide,by decide,by decide⟩
   · exact ok.ok s (by simp[hs])
theorem PM(ns :List Int)(k :Nat)(h :HI) :SD [.lst (ns.map Dt.int), .int (k :Int)] h =some (.int (ns[k]?.getD 0),h) :=by
 simp[SD,wK];by_cases hk :k<ns.length
 · simp[hk]
 · simp[hk]
theorem oW(ns :List Int) :∃ms :List Int,SM.dE (ns.map Dt.int) (some 3) (some 63) =ms.map Dt.int ∧ ms.length ≤ 60 :=by unfold SM.dE;rw[← List.map_drop, ← List.map_take];refine⟨_,rfl,?_⟩;rw[List.length_take,List.length_map];have h1 :HT.P1 ns.length ns.length (some 63) =min 63 ns.length :=HT.Y1 ns.length ns.length 63;have h2 :HT.P1 ns.length 0 (some 3) =min 3 ns.length :=HT.Y1 ns.length 0 3;rw[h1,h2];omega
theorem uY(i j :Str)(h :HI) :PD (.str i) (.str j) h =some (.bl (!decide (i =j)),h) :=by
 have r :∀k :Str,DA h 8 (.str k) =some (.str k) :=fun _ =>by simp[DA]
 simp only[PD,r,X9,SH,W9]
theorem EO(h :HI)(k :Nat) :∀ts :List Str,wC (DA h (k+1)) (ts.map Dt.str) =some (ts.map Dt.str)
 | [] =>rfl
 | t ::ts =>by simp only[S9,wC,DA,X9,EO h k ts,W9]
theorem oU{h :HI}{a :Nat}{nm :List Str}(e :h[a]? =some (.lst (nm.map Dt.str))) :PD (.lst (nm.map Dt.str)) (.ref a) h =some (.bl false,h) :=by
 have r :=EO h 6 nm;have e1 :DA h 8 (.lst (nm.map Dt.str)) =some (.lst (nm.map Dt.str)) :=by rw[DA];simp only[r,W9]
 have e2 :DA h 8 (.ref a) =some (.lst (nm.map Dt.str)) :=by rw[DA];simp only[e,r,W9]
 have dk :IC (nm.map Dt.str) (nm.map Dt.str) =true :=by have :=aJ nm;unfold IC;rw[pH];simp;omega
 rw[vY e1 e2 dk,tO];rfl
noncomputable def Pre(H h :HI) :Prop :=∀(j :Nat)(o :Ob),H[j]? =some o → h[j]? =some o
theorem Pre.app(H e :HI) :Pre H (H ++ e) :=fun j o x =>by rw[cj (aj x).1];exact x
theorem Pre.trans{a b c :HI}(x :Pre a b)(y :Pre b c) :Pre a c :=fun j o z =>y j o (x j o z)
theorem jY{h1 :HI}{n :Nat}{ps :List (Dt×Ft)}(hp :∀p∈ps,G0 (n+2) h1 p.1 p.2)(hk :∀p∈ps,OD p.2 ≤ 6)(hl :ps.length ≤ 60)(e :h1[n+1]? =some (.lst (ps.map Prod.fst)))(x0 x1 x2 x3 x4 x5 x6 x7 x8 x9 :Option Dt) :
 ∃y h2,aG (SA 7) vG [x0,x1,x2,x3,x4,x5,x6,x7,x8,x9] (.rf (n+1),h1) =some (.nx [x0,x1,x2,x3,x4,x5,x6,y,x8,x9] h2) ∧ (∀j,j<n+2 → h2[j]? =h1[j]?) ∧ h2.length =h1.length :=by
 obtain⟨l',h2,w,⟨y,rfl⟩,a1,a2,_⟩ :=iY (i :=7) (n :=n+1) (body :=vG) Prod.fst (fun k l h =>(∃y,l = [x0,x1,x2,x3,x4,x5,x6,y,x8,x9]) ∧ (∀j,j<n+2 → h[j]? =h1[j]?) ∧ h.length =h1.length ∧ ∀m,n+2 ≤ m → ∀ws :List Wy,ws.length ≤ 6 → h1[m]? =some (.lst (ws.map xA)) → ∃xs,h[m]? =some (.lst xs) ∧ xs.length ≤ 6+k) ps (by
  rintro k l h ⟨_,a1,_⟩;rw[a1 (n+1) (by omega)];exact e) (by
  rintro k p hx l h ⟨⟨y,rfl⟩,a1,a2,a3⟩;have pm :=List.mem_of_getElem? hx;have kl :k<ps.length :=(aj hx).1;have fx :=hp p pm;have i0 :iA p.1 (.int 0) h =some (.str (KH p.2),h) :=by obtain⟨d,f⟩ :=p;cases fx<;>rfl
  by_cases o :DB p.2 =true
  · obtain⟨m,ws,hm,V8,ep,ew⟩ :∃m ws,n+2 ≤ m ∧ h1[m]? =some (.lst (ws.map xA)) ∧ p.1 = .tup [.str "one", .ref m] ∧ p.2 = .one ws :=by
     obtain⟨d,f⟩ :=p;cases fx with
     | R0 i lo hi =>cases o
     | way w =>cases o
     | one m ws b e =>exact⟨m,ws,b,e,rfl,rfl⟩
    have wl :ws.length ≤ 6 :=by have :=hk p pm;rw[ew]at this;exact this
    obtain⟨xs,gx,xl⟩ :=a3 m hm ws wl V8;have i1 :iA p.1 (.int 1) h =some (.ref m,h) :=by rw[ep];rfl
    have k1 :=NF p.2;rw[o]at k1;have ap :=SE (l := [x0,x1,x2,x3,x4,x5,x6,some p.1,x8,x9]) (h :=h) (g :=VC (cA (eC (.str "ways")) (cA (eC (.int 0)) (cA (eC (.int 1)) (cA (eC (.int 0)) pA))))) (n :=m) (d := .tup [.str "ways", .int 0, .int 1, .int 0]) (xs :=xs) (ys :=xs) (h' :=h) gx (by
     have s4 :4 ≤ sizeLine :=by decide
     simp only[aD,MA,KA,uA,kA,Q9,R9,Nat.reduceAdd,s4,if_true]) gx (Nat.lt_of_le_of_lt (show xs.length ≤ 66 by omega) (by decide))
    refine⟨.nx [x0,x1,x2,x3,x4,x5,x6,some p.1,x8,x9] (h.set m (.lst (xs ++ [.tup [.str "ways", .int 0, .int 1, .int 0]]))),?_,⟨_,rfl⟩,fun j hj =>by rw[List.getElem?_set_ne (by omega)];exact a1 j hj,by rw[List.length_set];exact a2,fun m' hm' ws' T7 N4 =>?_⟩
    · simp only[vG,YA,EA,wA,qA,uA,V9,U9,O9,P9,rA,kA,i0,OH,k1,GA,if_true,ME,jF,i1,ap]
    · obtain⟨xs',F5,K9⟩ :=a3 m' hm' ws' T7 N4;by_cases z :m =m'
      · subst z;rw[gx]at F5;cases F5;exact⟨_,List.getElem?_set_self (aj gx).1,by simp;omega⟩
      · exact⟨xs',by rw[List.getElem?_set_ne z];exact F5,by omega⟩
  · have o :DB p.2 =false :=by simpa using o
    have k1 :=NF p.2;rw[o]at k1;refine⟨.nx [x0,x1,x2,x3,x4,x5,x6,some p.1,x8,x9] h,?_,⟨_,rfl⟩,a1,a2,fun m' hm' ws' T7 N4 =>?_⟩
    · simp only[vG,YA,EA,wA,qA,uA,V9,U9,O9,P9,rA,kA,i0,OH,k1,GA,nj,if_false,zB]
    · obtain⟨xs',F5,K9⟩ :=a3 m' hm' ws' T7 N4;exact⟨xs',F5,by omega⟩) [x0,x1,x2,x3,x4,x5,x6,x7,x8,x9] h1 ⟨⟨_,rfl⟩,fun _ _ =>rfl,rfl,fun m _ ws wl em =>⟨_,em,by rw[List.length_map];omega⟩⟩
 exact⟨y,h2,w,a1,a2⟩
theorem hU{nm :List Str}(ok :IB nm)(hn :nm ≠ []){fs :List Ft}(hf :∀f∈fs,jE nm.length f)(hl :fs.length ≤ 60)(hg :(fs.filter DB).length ≤ 6){H h :HI}{a b :Nat}(pre :Pre H h)(ha :H[a]? =some (.lst (nm.map Dt.str)))(hb :H[b]? =some (.lst (fs.map JA)))(x0 x1 x5 x6 x7 x8 x9 :Option Dt) :
 ∃y6 y7 y8 y9 h',sH [x0,x1,some (.ref a),some (.ref b),some (.str (iC nm fs)),x5,x6,x7,x8,x9] h =some (.nx [x0,x1,some (.ref a),some (.ref b),some (.str (iC nm fs)),x5,y6,y7,y8,y9] h') ∧ Pre H h' :=by
 obtain⟨e1,qs,er,r1,r2,r3,r4⟩ :=JV ok hn hf hl hg h;obtain⟨n,hn'⟩ :∃n,n =h.length :=⟨_,rfl⟩
 rw[← hn']at er r1 r2 r4;obtain⟨h1,hh1⟩ :∃h1,h1 =h ++ e1 :=⟨_,rfl⟩
 rw[← hh1]at er r1 r2 r4;have X4 :Pre H h1 :=pre.trans (hh1 ▸ Pre.app h e1);have a1 :=X4 a _ ha;have b1 :=X4 b _ hb;have ql :qs.length ≤ 60 :=by rw[← List.length_map (f :=Prod.snd),r3];exact hl
 have lk :∀p∈qs,OD p.2 ≤ 6 :=by
  intro p m;have :p.2∈fs :=r3 ▸ List.mem_map_of_mem m;have :=hf _ this;cases q :p.2 with
  | R0 i lo hi =>simp[OD]
  | way w =>simp[OD]
  | one ws =>rw[q]at this;exact this.2.1
 have n9 :∀f∈fs,OD f ≤ 1000 :=by
  intro f m;have :=hf f m;cases f with
  | R0 i lo hi =>simp[OD]
  | way w =>simp[OD]
  | one ws =>exact Nat.le_trans this.2.1 (by decide)
 have tx :=ZU (nm :=nm) (by have :=ok.len;omega) (h :=h1) (d0 := .ref n) (d1 := .ref a) (by simp only[jA,r1]) (by simp only[jA,a1]);have al :=XU (h :=h1) (d0 := .ref (n+1)) (d1 := .ref b) r4 (fun p m =>Nat.le_trans (lk p m) (by decide)) (by omega) (by simp only[jA,r2]) (by simp only[jA,b1,r3]);obtain⟨y7,h2,sp,c1,c2⟩ :=jY r4 lk ql r2 x0 x1 (some (.ref a)) (some (.ref b)) (some (.str (iC nm fs))) x5 (some (.tup [.ref n, .ref (n+1)])) x7 x8 x9;have n1 :n+1<h1.length :=(aj r2).1;have d0 :h2[n]? =some (.lst (nm.map Dt.str)) :=by rw[c1 n (by omega)];exact r1
 have d1 :h2[n+1]? =some (.lst (qs.map Prod.fst)) :=by rw[c1 (n+1) (by omega)];exact r2
 obtain⟨h3,hh3⟩ :∃h3,h3 =h2.set n (.lst (nm.map Dt.str ++ [.str "z"])) :=⟨_,rfl⟩
 have d1' :h3[n+1]? =some (.lst (qs.map Prod.fst)) :=by rw[hh3,List.getElem?_set_ne (by omega)];exact d1
 obtain⟨h4,e8⟩ :∃h4,h4 =h3.set (n+1) (.lst (qs.map Prod.fst ++ [.tup [.str "long", .int 0, .int 1, .int 1]])) :=⟨_,rfl⟩
 have Y4 :Pre H h4 :=by
  intro j o e;have jl :j<n :=by have :=pre j o e;rw[hn'];exact(aj this).1
  rw[e8,List.getElem?_set_ne (by omega),hh3,List.getElem?_set_ne (by omega),c1 j (by omega)];exact X4 j o e
 have a4 :=Y4 a _ ha;have b4 :=Y4 b _ hb;have W7 :=SE (l := [x0,x1,some (.ref a),some (.ref b),some (.str (iC nm fs)),x5,some (.tup [.ref n, .ref (n+1)]),y7,x8,x9]) (h :=h2) (g :=eC (.str "z")) (n :=n) (d := .str "z") (xs :=nm.map Dt.str) (ys :=nm.map Dt.str) (h' :=h2) d0 rfl d0 (by rw[List.length_map];exact Nat.lt_of_le_of_lt ok.len (by decide));rw[← hh3]at W7;have s4 :4 ≤ sizeLine :=by decide
 have s2 :2 ≤ sizeLine :=by decide
 have X7 :=SE (l := [x0,x1,some (.ref a),some (.ref b),some (.str (iC nm fs)),x5,some (.tup [.ref n, .ref (n+1)]),y7,x8,x9]) (h :=h3) (g :=VC (cA (eC (.str "long")) (cA (eC (.int 0)) (cA (eC (.int 1)) (cA (eC (.int 1)) pA))))) (n :=n+1) (d := .tup [.str "long", .int 0, .int 1, .int 1]) (xs :=qs.map Prod.fst) (ys :=qs.map Prod.fst) (h' :=h3) d1' (by
  simp only[aD,MA,KA,uA,kA,Q9,R9,Nat.reduceAdd,s4,if_true]) d1' (by rw[List.length_map];exact Nat.lt_of_le_of_lt ql (by decide))
 rw[← e8]at X7;have cp :=OI (te :=uG) (i :=0) (n :=b) JA JA fs [none] h4 b4 (Nat.lt_of_le_of_lt hl (by decide)) (by
  intro f m;have i0 :iA (JA f) (.int 0) h4 =some (.str (KH f),h4) :=by cases f<;>rfl
  have k1 :=NF f;cases f with
  | R0 i lo hi =>simp only[uG,eN,EA,wA,qA,uA,U9,O9,rA,kA,i0,OH,k1,DB,GA,nj,if_false]
  | way w =>simp only[uG,eN,EA,wA,qA,uA,U9,O9,rA,kA,i0,OH,k1,DB,GA,nj,if_false]
  | one ws =>
   have i1 :iA (JA (.one ws)) (.int 1) h4 =some (.lst (ws.map xA),h4) :=rfl;simp only[uG,eN,EA,wA,qA,uA,U9,O9,rA,kA,i0,OH,k1,DB,GA,if_true,aD,MA,KA,ZC,i1,qW,Q9,R9,Nat.reduceAdd,s2];rfl)
 have sq :RD (.ref b,h4) =some (.rf b,h4) :=tG b4;have fl :SF (.ref a) h4 =some (.lst (nm.map Dt.str),h4) :=by simp only[SF,DD,jA,a4,W9]
 obtain⟨e5,wr⟩ :=tT ok hf hl h4;obtain⟨h5,g8⟩ :∃h5,h5 =h4 ++ e5 :=⟨_,rfl⟩
 rw[← g8]at wr;have Z4 :Pre H h5 :=Y4.trans (g8 ▸ Pre.app h4 e5);have a5 :=Z4 a _ ha;have b5 :=Z4 b _ hb;have F8 :=MS (h :=h5) (d0 := .lst (fs.map JA)) (d1 := .ref b) n9 (by omega) rfl (by simp only[jA,b5]);have ne :=oU a5;have j0 :∀h :HI,iA (.lst [.lst (nm.map Dt.str), .lst (fs.map JA)]) (.int 0) h =some (.lst (nm.map Dt.str),h) :=fun h =>rfl
 have j1 :∀h :HI,iA (.lst [.lst (nm.map Dt.str), .lst (fs.map JA)]) (.int 1) h =some (.lst (fs.map JA),h) :=fun h =>rfl
 have t0 :∀h :HI,iA (.tup [.ref n, .ref (n+1)]) (.int 0) h =some (.ref n,h) :=fun h =>rfl
 have t1 :∀h :HI,iA (.tup [.ref n, .ref (n+1)]) (.int 1) h =some (.ref (n+1),h) :=fun h =>rfl
 have E9 :RD (.ref (n+1),h1) =some (.rf (n+1),h1) :=tG r2;have is1 :cC "tuple" (eV 6) [x0,x1,some (.ref a),some (.ref b),some (.str (iC nm fs)),x5,some (.tup [.ref n, .ref (n+1)]),x7,x8,x9] h1 =some (.bl true,h1) :=rfl;have is2 :cC "str" (eV 9) [x0,x1,some (.ref a),some (.ref b),some (.str (iC nm fs)),x5,some (.tup [.ref n, .ref (n+1)]),y7,some (.lst [.lst (nm.map Dt.str), .lst (fs.map JA)]),some (.str (iC nm fs))] h5 =some (.bl true,h5) :=rfl;have ft :nB (.tup [.ref n, .ref (n+1)]) h1 =some (.int 2,h1) :=rfl;refine⟨some (.tup [.ref n, .ref (n+1)]),y7,some (.lst [.lst (nm.map Dt.str), .lst (fs.map JA)]),some (.str (iC nm fs)),h5,?_,Z4⟩;simp only[sH,XA,MB,lB,MA,KA,qA,uA,V9,U9,O9,P9,rA,kA,mj,er,cB,YA,pD,qE,EA,is1,GA,Bool.not_true,nj,if_false,wA,ZC,ft,BR,decide_true,zB,t0,t1,tx,al,rF,YE,E9,sp,ME,jF,W7,X7,zG,fl,mF,sq,HD,ED,cp,Q9,R9,Nat.reduceAdd,s2,if_true,j0,j1,wr,is2,uY,ne,F8]
theorem law_true(ns :List Int)(hl :ns.length ≤ 63) :∃h',EG [.lst (ns.map Dt.int)] [] =some (.bl true,h') :=by
 have m0 :=Int.emod_nonneg (ns[0]?.getD 0) (show(8 :Int)≠0 by decide);have m1 :=Int.emod_lt_of_pos (ns[0]?.getD 0) (show(0 :Int)<8 by decide);obtain⟨c,ec⟩ :=Int.eq_ofNat_of_zero_le (show 0 ≤ 1+ns[0]?.getD 0%8 by omega);have hc1 :1 ≤ c :=by omega
 have hc :c ≤ 8 :=by omega
 have c0 :∀h,SD [.lst (ns.map Dt.int), .int 0] h =some (.int (ns[0]?.getD 0),h) :=fun h =>PM ns 0 h
 have c1 :∀h,SD [.lst (ns.map Dt.int), .int 1] h =some (.int (ns[1]?.getD 0),h) :=fun h =>PM ns 1 h
 have c2 :∀h,SD [.lst (ns.map Dt.int), .int 2] h =some (.int (ns[2]?.getD 0),h) :=fun h =>PM ns 2 h
 have m8 :=fun(h :HI) =>EB (h :=h) (i :=ns[0]?.getD 0) (j :=8) (by decide)
 have l8 :=fun(h :HI) =>EB (h :=h) (i :=ns[2]?.getD 0) (j :=8) (by decide)
 obtain⟨cc,P8⟩ :=Int.eq_ofNat_of_zero_le (Int.emod_nonneg (ns[1]?.getD 0) (show(1000003 :Int)≠0 by decide));obtain⟨g1,eg⟩ :=LO (te :=kJ) (i :=0) (fun(k :Nat) =>Dt.int (k :Int)) (fun k =>Dt.str (EC cc k)) [] (List.range c) [none,some (.lst (ns.map Dt.int))] [] (by
  intro k hk e;obtain⟨g,x⟩ :=HV (ns[1]?.getD 0) (c :=cc) P8 (k :=k) (by have :=List.mem_range.mp hk;omega) ([] ++ e);refine⟨g,?_⟩;simp only[kJ,lB,MA,KA,qA,uA,U9,O9,P9,rA,kA,mj,c1,x])
 simp only[Y9]at eg;have en :(List.range c).map (fun k =>Dt.str (EC cc k)) =(NC cc c).map Dt.str :=by unfold NC;rw[List.map_map];rfl
 rw[en]at eg;have hs :((List.range c).map fun(k :Nat) =>Dt.int (k :Int)).length<sizeLine :=by rw[List.length_map,List.length_range];exact Nat.lt_of_le_of_lt hc (by decide)
 have r1 :=BG (c :=c) (by omega) [];have nl :(NC cc c).length =c :=by simp[NC]
 obtain⟨nm,okn,L7,e2⟩ :∃nm :List Str,IB nm ∧ nm.length =c ∧ lC (xE (D0 (e2 jN (eV 1) (eC (.int 1)))) (D0 (e2 YC (e2 gB (zA SD [] (cA (eV 0) (cA (eC (.int 2)) pA))) (eC (.int 8))) (eC (.int 3))))) (gA (ZE (eC (.str "behind")) (eV 2) (eC (.int 0))) (ZE (eC (.str "ahead")) (eV 2) (eC (.int 1)))) eB [some (.lst (ns.map Dt.int)),some (.int (c :Nat)),some (.ref g1.length),none,none,none,none,none,none,none] (g1 ++ [.lst ((NC cc c).map Dt.str)]) =some (.nx [some (.lst (ns.map Dt.int)),some (.int (c :Nat)),some (.ref g1.length),none,none,none,none,none,none,none] (g1 ++ [.lst (nm.map Dt.str)])) :=by
  by_cases q :(1 :Int)<(c :Int) ∧ ns[2]?.getD 0%8 =3
  · have t1 :=decide_eq_true q.1;have t2 :=decide_eq_true q.2;refine⟨((NC cc c).set 0 "behind").set 1 "ahead",DW (by omega) hc,by simp[nl],?_⟩;have a0 :(g1 ++ [Ob.lst ((NC cc c).map Dt.str)])[g1.length]? =some (.lst ((NC cc c).map Dt.str)) :=by simp
    have s0 :=fun(l :LI) =>VI (l :=l) (n :=g1.length) (k :=0) (v := .str "behind") a0 (by rw[List.length_map];omega)
    have e0 :(g1 ++ [Ob.lst ((NC cc c).map Dt.str)]).set g1.length (.lst (((NC cc c).map Dt.str).set 0 (.str "behind"))) =g1 ++ [.lst (((NC cc c).set 0 "behind").map Dt.str)] :=by simp[List.map_set]
    rw[e0]at s0;have a1 :(g1 ++ [Ob.lst (((NC cc c).set 0 "behind").map Dt.str)])[g1.length]? =some (.lst (((NC cc c).set 0 "behind").map Dt.str)) :=by simp
    have s1 :=fun(l :LI) =>VI (l :=l) (n :=g1.length) (k :=1) (v := .str "ahead") a1 (by rw[List.length_map,List.length_set];omega)
    have e1 :(g1 ++ [Ob.lst (((NC cc c).set 0 "behind").map Dt.str)]).set g1.length (.lst ((((NC cc c).set 0 "behind").map Dt.str).set 1 (.str "ahead"))) =g1 ++ [.lst ((((NC cc c).set 0 "behind").set 1 "ahead").map Dt.str)] :=by simp[List.map_set]
    rw[e1]at s1;have C9 :∀l :LI,SG l (.str "behind") (.ref g1.length) (.int 0,g1 ++ [.lst ((NC cc c).map Dt.str)]) =some (.nx l (g1 ++ [.lst (((NC cc c).set 0 "behind").map Dt.str)])) :=s0
    have s1' :∀l :LI,SG l (.str "ahead") (.ref g1.length) (.int 1,g1 ++ [.lst (((NC cc c).set 0 "behind").map Dt.str)]) =some (.nx l (g1 ++ [.lst ((((NC cc c).set 0 "behind").set 1 "ahead").map Dt.str)])) :=s1
    simp only[YA,sF,EA,wA,qA,uA,O9,P9,rA,kA,ZJ,t1,GA,if_true,lB,MA,KA,mj,c2,l8,EN,t2,XA,xP,C9,cB,s1']
  · refine⟨NC cc c,GP hc,nl,?_⟩;have tt :(xE (D0 (e2 jN (eV 1) (eC (.int 1)))) (D0 (e2 YC (e2 gB (zA SD [] (cA (eV 0) (cA (eC (.int 2)) pA))) (eC (.int 8))) (eC (.int 3))))) [some (.lst (ns.map Dt.int)),some (.int (c :Nat)),some (.ref g1.length),none,none,none,none,none,none,none] (g1 ++ [.lst ((NC cc c).map Dt.str)]) =some (false,g1 ++ [.lst ((NC cc c).map Dt.str)]) :=by
     simp only[sF,EA,wA,qA,uA,O9,P9,rA,kA,ZJ,GA,lB,MA,KA,mj,c2,l8,EN];by_cases z :(1 :Int)<(c :Int)
     · rw[decide_eq_true z,decide_eq_false (fun y =>q ⟨z,y⟩)];rfl
     · rw[decide_eq_false z];rfl
    simp only[YA,tt,kA,nj,if_false,zB]
 have t9 :nm ≠ [] :=fun z =>by rw[z]at L7;simp at L7;omega
 obtain⟨cs,Q8,csl⟩ :=oW ns;obtain⟨fs,fl,l7,fg,ef⟩ :=bT cs csl hc1 hc (g1 ++ [.lst (nm.map Dt.str)]);rw[← L7]at l7;obtain⟨a,ea⟩ :∃a,a =g1.length :=⟨_,rfl⟩
 obtain⟨b,eb⟩ :∃b,b =(g1 ++ [Ob.lst (nm.map Dt.str)]).length :=⟨_,rfl⟩
 obtain⟨H,eH⟩ :∃H,H =g1 ++ [Ob.lst (nm.map Dt.str)] ++ [.lst (fs.map JA)] :=⟨_,rfl⟩
 rw[← eb, ← eH]at ef;have ha :H[a]? =some (.lst (nm.map Dt.str)) :=by rw[eH,ea];simp
 have hb :H[b]? =some (.lst (fs.map JA)) :=by rw[eH,eb,kj (by omega)];simp
 have sa :RD (.ref a,H) =some (.rf a,H) :=tG ha;have sb :RD (.ref b,H) =some (.rf b,H) :=tG hb;have p1 :=OI (te :=lJ) (i :=0) (n :=a) Dt.str (fun s =>Dt.str (OC s)) nm [none] H ha (Nat.lt_of_le_of_lt okn.len (by decide)) (by
  intro s hs;have cs :=WD (h :=H) (x :=Str.ofString "stretch ") (y :=s) (by have :=(okn.ok s hs).hi;have :(Str.ofString "stretch ").length =8 :=(by decide);omega);rw[WP]at cs;simp only[lJ,wA,uA,qA,U9,O9,rA,kA,cs])
 have p2 :=OI (te :=mJ) (i :=0) (n :=b) JA (fun f =>Dt.str (WC nm f)) fs [none,some (.ref a)] H hb (Nat.lt_of_le_of_lt fl (by decide)) (by
  intro f hm;have r :=nS okn (l7 f hm) (d := .ref a) (h :=H) (by simp only[jA,ha]);simp only[mJ,lB,MA,KA,qA,U9,O9,P9,rA,kA,mj,r])
 have cat :=HY (h :=H) (xs :=nm.map fun s =>Dt.str (OC s)) (ys :=fs.map fun f =>Dt.str (WC nm f)) (by simp only[List.length_map];have :=okn.len;exact Nat.le_trans (show nm.length+fs.length ≤ 68 by omega) (by decide));have erw :(nm.map fun s =>Dt.str (OC s)) ++ (fs.map fun f =>Dt.str (WC nm f)) =(nC nm fs).map Dt.str :=by unfold nC;rw[List.map_append,List.map_map,List.map_map];rfl
 rw[erw]at cat;have jk :=qF (h :=H) (z :=K3) (d := .lst ((nC nm fs).map Dt.str)) (ts :=nC nm fs) rfl (dM okn l7 fl).1;have jk :XJ (.str K3) (.lst ((nC nm fs).map Dt.str),H) =some (.str (iC nm fs),H) :=jk;have O5 :Str.ofString "\n" =K3 :=by decide
 obtain⟨l',h',w,⟨y5,y6,y7,y8,y9,rfl⟩,_⟩ :=WI (i :=5) (body :=sH) (fun(k :Nat) =>Dt.int (k :Int)) (fun l h =>(∃y5 y6 y7 y8 y9,l = [some (.lst (ns.map Dt.int)),some (.int (c :Nat)),some (.ref a),some (.ref b),some (.str (iC nm fs)),y5,y6,y7,y8,y9]) ∧ Pre H h) (List.range 2) (by
  rintro k _ l h ⟨⟨y5,y6,y7,y8,y9,rfl⟩,pr⟩;obtain⟨z6,z7,z8,z9,h',e,v9⟩ :=hU okn t9 l7 fl fg pr ha hb (some (.lst (ns.map Dt.int))) (some (.int (c :Nat))) (some (.int (k :Int))) y6 y7 y8 y9;exact⟨_,e,⟨_,_,_,_,_,rfl⟩,v9⟩) [some (.lst (ns.map Dt.int)),some (.int (c :Nat)),some (.ref a),some (.ref b),some (.str (iC nm fs)),none,none,none,none,none] H ⟨⟨_,_,_,_,_,rfl⟩,fun j o x =>x⟩
 have r2 :xN (.int 2,H) =some (.vals ((List.range 2).map fun(k :Nat) =>Dt.int (k :Int)),H) :=BG (c :=2) (by decide) H;have sl :∀(l :LI)(h :HI),l[0]? =some (some (.lst (ns.map Dt.int))) → QH (eV 0) (CF (eC (.int 3))) (CF (eC (.int 63))) l h =some (.lst (cs.map Dt.int),h) :=by intro l h h0;simp[h0,Q8]
 refine⟨h',?_⟩;rw[← ea]at e2;simp only[EG,CJ,aB,Q9,R9,if_true,S9 (f :=some),T9 (f :=some),Nat.reduceAdd,Nat.reduceSub,List.replicate,Z9,Y9,XA,MB,lB,MA,KA,wA,qA,uA,O9,P9,V9,U9,rA,kA,mj,c0,m8,oD,ec,cB,wH,DG,r1,HD,UE,ED,Option.join_some,uD _ _ _ hs,eg, ← ea,e2,sl,ef,nF,O5,mF,YE,sa,sb,p1,p2,cat,jk,rF,r2,FF,w,bB,dB]
set_option maxHeartbeats 0 in
theorem mW {l :PySem.W.OpenLaw} {w :World} {K :Frag} {h :Heap} {mg :Str → Option Value} {fa :Addr} (X :K.In h) (G :h.Ns mainGlobals mg) (hfa :mg "law" =some (.ref fa))
 {v3 :Addr} {C3 :Value} {T2 :Value} {K2 :Value} {J2 :Value} {G2 :Value} {F2 :Value} {Q1 :Value}
 (yq0 :mB K "ways_in" aM) (yq1 :mB K "set_of" zM) (yq2 :mB K "groups_in" gL) (yq3 :mB K "is_length" iL) (yq4 :mB K "has_room" uL) (yq5 :mB K "all_of" yM) (yq6 :mB K "is_name" ZL) (yq7 :mB K "is_number" jL) (yq8 :mB K "words_of" xL) (yq9 :mB K "set_told" vL) (yq10 :mB K "ways_told" kL) (yq11 :mB K "length_told" IK) (yq12 :mB K "group_told" rL) (yq13 :mB K "fact_told" fL) (yq14 :mB K "tells_stretch" vK) (yq15 :mB K "read" LM) (yq16 :mB K "ways_row" wL) (yq17 :mB K "fact_row" OL) (yq18 :mB K "written" cM) (yq19 :mB K "_law_cell_at" nK) (yq20 :mB K "_law_mixed" mL) (yq21 :mB K "_law_name_by" pK) (yq22 :mB K "_law_words" qL) (yq23 :mB K "_law_pair_by" qK) (yq24 :mB K "_law_length_by" EK) (yq25 :mB K "_law_ways_by" rK) (yq26 :mB K "_law_fact_by" oK) (yq27 :mB K "_law_facts_by" tK) (yq28 :mB K "_law_ways_row" uK) (yq29 :mB K "_law_fact_row" sK) (yq30 :mB K "_law_whole" pL) (yq31 :mB K "_law_texts" nL) (yq32 :mB K "_law_fact_alike" BK) (yq33 :mB K "_law_facts_alike" kK) (yq34 :mB K "law" fN) (yq35 :nsIn K mainGlobals "all" =some none) (yq36 :nsIn K mainGlobals "bool" =some none) (yq37 :nsIn K mainGlobals "enumerate" =some none) (yq38 :nsIn K mainGlobals "int" =some none) (yq39 :nsIn K mainGlobals "isinstance" =some none) (yq40 :nsIn K mainGlobals "len" =some none) (yq41 :nsIn K mainGlobals "list" =some none) (yq42 :nsIn K mainGlobals "min" =some none) (yq43 :nsIn K mainGlobals "range" =some none) (yq44 :nsIn K mainGlobals "str" =some none) (yq45 :nsIn K mainGlobals "sum" =some none) (yq46 :nsIn K mainGlobals "tuple" =some none) (yq47 :nsIn K mainGlobals "WORDS" =some (some (.ref v3))) (yq48 :UB K 6 (.ref v3) =some rH) (yq49 :nsIn K mainGlobals "FACTS" =some (some C3)) (yq50 :UB K 6 C3 =some qM) (yq51 :nsIn K mainGlobals "GROUPS" =some (some T2)) (yq52 :UB K 6 T2 =some WL) (yq53 :nsIn K mainGlobals "MEMBERS" =some (some K2)) (yq54 :UB K 6 K2 =some FL) (yq55 :nsIn K mainGlobals "LONGEST" =some (some J2)) (yq56 :UB K 6 J2 =some EL) (yq57 :nsIn K mainGlobals "LETTERS" =some (some G2)) (yq58 :UB K 6 G2 =some DL) (yq59 :nsIn K mainGlobals "FIGURES" =some (some F2)) (yq60 :UB K 6 F2 =some CL) (yq61 :nsIn K mainGlobals "STRETCHES" =some (some Q1)) (yq62 :UB K 6 Q1 =some aL)
 :∃fd :FuncData,(∀(s :Shared) (v :Value),BindsTo s fd ⟨[v], []⟩ [("_law_script",v)]) ∧ ∀base :Heap,K.In base → base.Ns mainGlobals mg → Z0 l.prog w K mg base wF 9 fa fd ["_law_script"] (VH K 1 EG) :=by
 have T :Txt K mg := {
  Y6 :=sB X G yq0 fun _ _ _ _ _ _ =>FE (fun _ =>rfl)
  c7 :=sB X G yq1 fun _ _ _ _ _ _ =>FE (fun _ =>rfl)
  D6 :=sB X G yq2 fun _ _ _ _ _ _ =>FE (fun _ =>rfl)
  F6 :=sB X G yq3 fun _ _ _ _ _ _ =>WB (fun _ _ =>rfl)
  M6 :=sB X G yq4 fun _ _ _ _ _ _ =>WB (fun _ _ =>rfl)
  b7 :=sB X G yq5 fun _ _ _ _ _ _ =>WB (fun _ _ =>rfl)
  X6 :=sB X G yq6 fun _ _ _ _ _ _ =>FE (fun _ =>rfl)
  G6 :=sB X G yq7 fun _ _ _ _ _ _ =>FE (fun _ =>rfl)
  P6 :=sB X G yq8 fun _ _ _ _ _ _ =>FE (fun _ =>rfl)
  N6 :=sB X G yq9 fun _ _ _ _ _ _ =>FE (fun _ =>rfl)
  J6 :=sB X G yq10 fun _ _ _ _ _ _ =>WB (fun _ _ =>rfl)
  p6 :=sB X G yq11 fun _ _ _ _ _ _ =>WB (fun _ _ =>rfl)
  o6 :=sB X G yq12 fun _ _ _ _ _ _ =>WB (fun _ _ =>rfl)
  C6 :=sB X G yq13 fun _ _ _ _ _ _ =>WB (fun _ _ =>rfl)
  k6 :=sB X G yq14 fun _ _ _ _ _ _ =>WB (fun _ _ =>rfl)
  f7 :=sB X G yq15 fun _ _ _ _ _ _ =>FE (fun _ =>rfl)
  O6 :=sB X G yq16 fun _ _ _ _ _ _ =>WB (fun _ _ =>rfl)
  L6 :=sB X G yq17 fun _ _ _ _ _ _ =>WB (fun _ _ =>rfl)
  Z6 :=sB X G yq18 fun _ _ _ _ _ _ =>WB (fun _ _ =>rfl)
  X5 :=sB X G yq19 fun _ _ _ _ _ _ =>WB (fun _ _ =>rfl)
  t6 :=sB X G yq20 fun _ _ _ _ _ _ =>WB (fun _ _ =>rfl)
  Z5 :=sB X G yq21 fun _ _ _ _ _ _ =>WB (fun _ _ =>rfl)
  n6 :=sB X G yq22 fun _ _ _ _ _ _ =>bI rfl
  b6 :=sB X G yq23 fun _ _ _ _ _ _ =>WB (fun _ _ =>rfl)
  V5 :=sB X G yq24 fun _ _ _ _ _ _ =>WB (fun _ _ =>rfl)
  f6 :=sB X G yq25 fun _ _ _ _ _ _ =>WB (fun _ _ =>rfl)
  Y5 :=sB X G yq26 fun _ _ _ _ _ _ =>fR (fun _ _ _ =>rfl)
  i6 :=sB X G yq27 fun _ _ _ _ _ _ =>WB (fun _ _ =>rfl)
  j6 :=sB X G yq28 fun _ _ _ _ _ _ =>WB (fun _ _ =>rfl)
  g6 :=sB X G yq29 fun _ _ _ _ _ _ =>WB (fun _ _ =>rfl)
  A6 :=sB X G yq30 fun _ _ _ _ _ _ =>FE (fun _ =>rfl)
  w6 :=sB X G yq31 fun _ _ _ _ _ _ =>WB (fun _ _ =>rfl)
  w5 :=sB X G yq32 fun _ _ _ _ _ _ =>WB (fun _ _ =>rfl)
  W5 :=sB X G yq33 fun _ _ _ _ _ _ =>WB (fun _ _ =>rfl)
  h7 :=mg_none_of X G yq35
  g7 :=mg_none_of X G yq36
  K6 :=mg_none_of X G yq37
  Y3 :=mg_none_of X G yq38
  D2 :=mg_none_of X G yq39
  X0 :=mg_none_of X G yq40
  X3 :=mg_none_of X G yq41
  i7 :=mg_none_of X G yq42
  C2 :=mg_none_of X G yq43
  U2 :=mg_none_of X G yq44
  j7 :=mg_none_of X G yq45
  A5 :=mg_none_of X G yq46
  A4 :=⟨⟨_,6,PySem.W.mg_of X G yq47,yq48⟩⟩
  e7 :=⟨⟨_,6,PySem.W.mg_of X G yq49,yq50⟩⟩
  Q6 :=⟨⟨_,6,PySem.W.mg_of X G yq51,yq52⟩⟩
  W6 :=⟨⟨_,6,PySem.W.mg_of X G yq53,yq54⟩⟩
  V6 :=⟨⟨_,6,PySem.W.mg_of X G yq55,yq56⟩⟩
  U6 :=⟨⟨_,6,PySem.W.mg_of X G yq57,yq58⟩⟩
  T6 :=⟨⟨_,6,PySem.W.mg_of X G yq59,yq60⟩⟩
  B6 :=⟨⟨_,6,PySem.W.mg_of X G yq61,yq62⟩⟩
 }
 obtain⟨f,oc,od,kV,dc,pm,an,cd,ct,sl,a,l1,c1,k1⟩ :=yq34;have e :=hfa.symm.trans (PySem.W.mg_of X G a);cases e;exact⟨_,fun s v => .of_eq rfl,fun base _ _ =>xX T base (OP l1 c1 k1)⟩
end G
open PySem.W
set_option maxRecDepth 100000 in
set_option maxHeartbeats 0 in
theorem PySem.Challenge.cw_spanways_k28_texts_go_round_holds : PySem.Challenge.rw_spanways_k28_texts_go_round.Holds := by
 refine HD.top ?_
 k_fill
 refine SM.jU (l :=PySem.Challenge.rw_spanways_k28_texts_go_round) (F :=G.EG) (k :=9) (x := "_law_script") rfl rfl ⟨rfl,by decide,by decide⟩ (fun w h Y=>PySem.W.kIn_of Y) ?F G.law_true
 case F=>
  intro w mg fa h KX GN hmg
  refine' G.mW KX GN hmg ?yq0 ?yq1 ?yq2 ?yq3 ?yq4 ?yq5 ?yq6 ?yq7 ?yq8 ?yq9 ?yq10 ?yq11 ?yq12 ?yq13 ?yq14 ?yq15 ?yq16 ?yq17 ?yq18 ?yq19 ?yq20 ?yq21 ?yq22 ?yq23 ?yq24 ?yq25 ?yq26 ?yq27 ?yq28 ?yq29 ?yq30 ?yq31 ?yq32 ?yq33 ?yq34 ?yq35 ?yq36 ?yq37 ?yq38 ?yq39 ?yq40 ?yq41 ?yq42 ?yq43 ?yq44 ?yq45 ?yq46 ?yq47 ?yq48 ?yq49 ?yq50 ?yq51 ?yq52 ?yq53 ?yq54 ?yq55 ?yq56 ?yq57 ?yq58 ?yq59 ?yq60 ?yq61 ?yq62
  (case yq0 | yq1 | yq2 | yq3 | yq4 | yq5 | yq6 | yq7 | yq8 | yq9 | yq10 | yq11 | yq12 | yq13 | yq14 | yq15 | yq16 | yq17 | yq18 | yq19 | yq20 | yq21 | yq22 | yq23 | yq24 | yq25 | yq26 | yq27 | yq28 | yq29 | yq30 | yq31 | yq32 | yq33 | yq34=>exact⟨_,_,_,_,_,_,_,_,_,_,by k_is,by k_is,by k_is,by k_is⟩)
  (case yq35 | yq36 | yq37 | yq38 | yq39 | yq40 | yq41 | yq42 | yq43 | yq44 | yq45 | yq46 | yq47=>k_is)
  (case yq48=>kernel_rfl)
  (case yq49=>k_is)
  (case yq50=>kernel_rfl)
  (case yq51=>k_is)
  (case yq52=>kernel_rfl)
  (case yq53=>k_is)
  (case yq54=>kernel_rfl)
  (case yq55=>k_is)
  (case yq56=>kernel_rfl)
  (case yq57=>k_is)
  (case yq58=>kernel_rfl)
  (case yq59=>k_is)
  (case yq60=>kernel_rfl)
  (case yq61=>k_is)
  (case yq62=>kernel_rfl)
end
